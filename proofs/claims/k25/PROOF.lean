import PyProof.Rows.All
import Wide.All
import OpenK.AllK
import Wide.FinOn
import HandS.ForMost
import HandS.IsInst
import HandS.Wide
import HandS.WideBits
import HandS.Defaults
import HandS.Zip
import HandS.Flow
import HandS.SortKw
import HandS.SortOrd
import HandS.Conv
import HandS.More
import HandS.Small
import KE.DatumOrd
import HandS.DictTup
import PyProof.DictMoreH
import HandS.MakeKwOnly
import HandS.Style
import HandS.Iter
import HandS.SortRule
import HandS.WordsDict
import HandS.DictComp
import HandS.DictSub
import HandS.SetFor
import HandS.Strs
import HandS.TupAny
import HandS.SortInts
import HandS.Rev
import HandS.Flow
import PySem.Challenge.RW_timerdeque_k25_planned_ticks_gone_throug
set_option Elab.async false
set_option linter.all false
set_option maxRecDepth 100000
set_option maxHeartbeats 4000000
set_option exponentiation.threshold 10000
namespace Td
open PySem PySem.Spec PyProof.Rows L2
/-! ### small things: promises by name, heaps, numbers -/
section
variable {P : Program} {w : World} {K : PySem.W.Frag} {mg : Str → Option Value} {base : Heap}
/-- the module's name x holds a def that keeps the promise sp, its last parameters filled up by dvs -/
def Has (P : Program) (w : World) (K : PySem.W.Frag) (mg : Str → Option Value) (base : Heap) (k : Nat) (x : Str) (ps : List Str) (dvs : List V) (sp : Sp) : Prop :=
  ∃ (f : Addr) (fd : FuncData) (ds : List Value), FnOk P w K mg base CX0 k f fd ps sp ∧ mg x = some (.ref f) ∧ PySem.W.keepIn K (.ref f) = true ∧ Binds K fd ps ds ∧ Vals dvs ds
/-- what the top says of a def without defaults -/
def Df (K : PySem.W.Frag) (mg : Str → Option Value) (x : Str) (st : Stmt) (ps : List Str) : Prop :=
  ∃ (f : Addr) (fd : FuncData), Fun K x x st f fd ∧ mg x = some (.ref f) ∧ Binds K fd ps []
theorem Df.has {k : Nat} {x : Str} {st : Stmt} {ps : List Str} {sp : Sp} (D : Df K mg x st ps) (ok : ∀ f fd, Fun K x x st f fd → FnOk P w K mg base CX0 k f fd ps sp) : Has P w K mg base k x ps [] sp := by
  obtain ⟨f, fd, F, m, b⟩ := D
  exact ⟨f, fd, [], ok f fd F, m, F.kp, b, .nil⟩
/-- a def with one default, the last parameter's -/
def Dd (K : PySem.W.Frag) (mg : Str → Option Value) (x : Str) (st : Stmt) (ps : List Str) (d : V) : Prop :=
  ∃ (f : Addr) (fd : FuncData), FunD K x x (defArgs st) (defBody st) (defScope st) [d] [] f fd ∧ mg x = some (.ref f) ∧ (∃ ds, Vals [d] ds ∧ Binds K fd ps ds) ∧ Binds K fd ps []
theorem Dd.has {k : Nat} {x : Str} {st : Stmt} {ps : List Str} {d : V} {sp : Sp} (D : Dd K mg x st ps d) (ok : ∀ f fd, FunD K x x (defArgs st) (defBody st) (defScope st) [d] [] f fd → FnOk P w K mg base CX0 k f fd ps sp) :
    Has P w K mg base k x ps [d] sp ∧ Has P w K mg base k x ps [] sp := by
  obtain ⟨f, fd, F, m, ⟨ds, r, b⟩, b0⟩ := D
  exact ⟨⟨f, fd, ds, ok f fd F, m, F.kp, b, r⟩, ⟨f, fd, [], ok f fd F, m, F.kp, b0, .nil⟩⟩
end
section
variable {X : Cx}
/-- a product of which one side is small, or both are not too great -/
def CMulA (i j : Int) : Prop := IntMulOk i j
theorem op_mulA : OpR X (binaryOp .Mult) (rI CMulA fun i j => .int (i * j)) := opI fun _ _ _ _ _ _ _ hc q => mul_int q hc
end
/-! x *= e, ints -/
section
variable {X : Cx}
def ipC (C : Int → Int → Prop) (f : Int → Int → Int) : TIp := fun x y H Q => ∃ i j, x = .int i ∧ y = .int j ∧ C i j ∧ Q (.int (f i j)) H
theorem ip_mulA : PIp X .Mult (ipC CMulA fun i j => i * j) := by
  intro pins s σ H x y v u Q I r1 r2 h
  obtain ⟨i, j, rfl, rfl, hm, q⟩ := h
  obtain ⟨t, rfl⟩ := r1
  obtain ⟨t', rfl⟩ := r2
  exact imul_int ⟨.int _, H, I.tok _, ⟨_, rfl⟩, q⟩ hm
end
theorem mul_l {i j : Int} (h1 : -(2 ^ 64) < i) (h2 : i < 2 ^ 64) : CMulA i j := CMul.ok (.inl ⟨h1, h2⟩)
theorem mul_r {i j : Int} (h1 : -(2 ^ 64) < j) (h2 : j < 2 ^ 64) : CMulA i j := CMul.ok (.inr ⟨h1, h2⟩)
theorem mul_w {i j : Int} (a b : Nat) (ha : i.natAbs < 2 ^ a) (hb : j.natAbs < 2 ^ b) (h0 : 0 < a := by decide) (h1 : 0 < b := by decide) (h : a + b ≤ 1000000 := by decide) : CMulA i j := (wide_mul ha hb h0 h1 h).ok
theorem div_s {i j : Int} (h : 0 < j) (h2 : j < 2 ^ 300) : CDivW i j := wide_div (b := 300) h (by omega) (by decide) (by decide)
theorem div_b {i j : Int} (b : Nat) (h : 0 < j) (h2 : j < 2 ^ b) (h0 : 0 < b := by decide) (h9 : b ≤ 9000 := by decide) : CDivW i j := by
  refine wide_div (b := b) h ?_ h0 h9
  have e : ((2 ^ b : Nat) : Int) = (2 : Int) ^ b := by
    rw [Int.natCast_pow]
    rfl
  omega
theorem same_upd {H : Hp} {p : Addr} {o : HO} (h : H p = none) : Same H (upd H p o) := fun b x e => by
  rw [upd_ne (ne_of_none e h)]
  exact e
theorem sizeLine_ge {n : Nat} (h : n ≤ 1000000) : n < sizeLine := by
  rw [sizeLine_eq]
  omega
theorem sizeLine_le {n : Nat} (h : n ≤ 1000000) : n ≤ sizeLine := Nat.le_of_lt (sizeLine_ge h)
theorem pos_of {a c : Nat} (h : a ≤ c) (n : ¬ a = c) : 0 < c := by omega
/-! ### operators on numbers that are not negative -/
def rN (C : Nat → Nat → Prop) (g : Nat → Nat → Nat) : R2 := fun x y H Q => ∃ a b : Nat, x = .int (a : Nat) ∧ y = .int (b : Nat) ∧ C a b ∧ Q (.int ((g a b : Nat) : Int)) H
section
variable {X : Cx}
theorem opN {f : Value → Value → Sem Value} {C : Nat → Nat → Prop} {g : Nat → Nat → Nat} {CI : Int → Int → Prop} {gI : Int → Int → V} (h : OpR X f (rI CI gI)) (e : ∀ a b : Nat, C a b → CI (a : Nat) (b : Nat) ∧ gI (a : Nat) (b : Nat) = .int ((g a b : Nat) : Int)) : OpR X f (rN C g) := by
  intro pins s σ H x y v u Q I rx ry hq
  obtain ⟨a, b, ex, ey, hc, q⟩ := hq
  obtain ⟨h1, h2⟩ := e a b hc
  exact h pins s σ H x y v u Q I rx ry ⟨_, _, ex, ey, h1, by rw [h2]; exact q⟩
theorem opN0 {f : Value → Value → Sem Value} {C : Nat → Nat → Prop} {g : Nat → Nat → Nat} {gI : Int → Int → V} (h : OpR X f (rI0 gI)) (e : ∀ a b : Nat, C a b → gI (a : Nat) (b : Nat) = .int ((g a b : Nat) : Int)) : OpR X f (rN C g) := by
  intro pins s σ H x y v u Q I rx ry hq
  obtain ⟨a, b, ex, ey, hc, q⟩ := hq
  exact h pins s σ H x y v u Q I rx ry ⟨_, _, ex, ey, by rw [e a b hc]; exact q⟩
def NDiv (_ b : Nat) : Prop := 0 < b ∧ b < 2 ^ 9000
def NMod (_ b : Nat) : Prop := 0 < b
def NSub (a b : Nat) : Prop := b ≤ a
def NMul (a b : Nat) : Prop := IntMulOk (a : Int) (b : Int)
def NAny (_ _ : Nat) : Prop := True
theorem op_divN : OpR X (binaryOp .FloorDiv) (rN NDiv fun a b => a / b) := opN op_fdivW fun a b h => ⟨wide_div (b := 9000) (Int.natCast_pos.mpr h.1) h.2 (by decide) (Nat.le_refl _), rfl⟩
theorem op_remN : OpR X (binaryOp .Mod) (rN NMod fun a b => a % b) := opN op_mod fun a b h => ⟨Int.natCast_pos.mpr h, rfl⟩
theorem op_mulN : OpR X (binaryOp .Mult) (rN NMul fun a b => a * b) := opN op_mulA fun a b h => ⟨h, congrArg V.int (Int.natCast_mul a b).symm⟩
theorem op_addN : OpR X (binaryOp .Add) (rN NAny fun a b => a + b) := opN0 op_add fun _ _ _ => rfl
theorem op_subN : OpR X (binaryOp .Sub) (rN NSub fun a b => a - b) := opN0 op_sub fun a b h => congrArg V.int (Int.natCast_sub h).symm
end
theorem ndiv {a b : Nat} (t : Nat) (h : 0 < b) (h2 : b < 2 ^ t) (ht : t ≤ 9000 := by decide) : NDiv a b := ⟨h, Nat.lt_of_lt_of_le h2 (Nat.pow_le_pow_right (by decide) ht)⟩
theorem nmul_l {a b : Nat} (h : a < 2 ^ 64) : NMul a b := mul_l (by omega) (by omega)
theorem nmul_r {a b : Nat} (h : b < 2 ^ 64) : NMul a b := mul_r (by omega) (by omega)
theorem nmul_w {a b : Nat} (i j : Nat) (ha : a < 2 ^ i) (hb : b < 2 ^ j) (h0 : 0 < i := by decide) (h1 : 0 < j := by decide) (h : i + j ≤ 1000000 := by decide) : NMul a b := mul_w i j ha hb h0 h1 h
theorem int_ne {a b : Nat} (h : a ≠ b) : decide (V.int (a : Nat) = V.int (b : Nat)) = false := decide_eq_false fun e => h (Int.ofNat.inj (V.int.inj e))
theorem dT {p : Prop} [Decidable p] (h : p) : V.bl (decide p) = V.bl true := congrArg V.bl (decide_eq_true h)
theorem dF {p : Prop} [Decidable p] (h : ¬ p) : V.bl (decide p) = V.bl false := congrArg V.bl (decide_eq_false h)
theorem nT {p : Prop} [Decidable p] (h : ¬ p) : V.bl (!decide p) = V.bl true := congrArg V.bl (congrArg (!·) (decide_eq_false h))
theorem nF {p : Prop} [Decidable p] (h : p) : V.bl (!decide p) = V.bl false := congrArg V.bl (congrArg (!·) (decide_eq_true h))
theorem vN {a b : Nat} (h : a ≠ b) : ¬ V.int (a : Nat) = V.int (b : Nat) := fun e => h (Int.ofNat.inj (V.int.inj e))
theorem vE {a b : Nat} (h : a = b) : V.int (a : Nat) = V.int (b : Nat) := congrArg (fun c : Nat => V.int (c : Nat)) h
theorem vI {a b : Int} (h : a ≠ b) : ¬ V.int a = V.int b := fun e => h (V.int.inj e)
/-! ### rules with the written part named (within a comprehension's block) -/
section
variable {X : Cx} {K : PySem.W.Frag}
theorem ix_tupK (e : X.K = K) : IxR X (rIxT K) := by subst e; exact ix_tup
theorem ix_listK (e : X.K = K) : IxR X (rIxL K) := by subst e; exact ix_list
theorem sl_tupK (e : X.K = K) : SlR X (rSlT K) := by subst e; exact sl_tup
theorem sl_listK (e : X.K = K) : SlR X (rSlL K) := by subst e; exact sl_list
theorem op_eqK (e : X.K = K) (hu : X.A.units + 64 < cLine) : OpR X (compareOp .Eq) (rEqD K) := by subst e; exact op_eqD hu
theorem op_neK (e : X.K = K) (hu : X.A.units + 64 < cLine) : OpR X (compareOp .NotEq) (rNeD K) := by subst e; exact op_neD hu
theorem isiK (e : X.K = K) : CallR X (.builtin "isinstance") (rIsi K) := by subst e; exact call_isi
def rLenK (K : PySem.W.Frag) : List V → Hp → VK → Prop := fun xs H Q => ∃ p ys, xs = [.ref p] ∧ (SqL K H p ys ∨ SqT K H p ys) ∧ Q (.int ys.length) H
theorem lenK (e : X.K = K) : CallR X (.builtin "len") (rLenK K) := by subst e; exact call_len_seq
theorem allK (e : X.K = K) (hc : X.calm = true) : CallR X (.builtin "all") (rAll K) := by subst e; exact cr_all hc
theorem sumK (e : X.K = K) (hc : X.calm = true) : CallR X (.builtin "sum") (rSum K) := by subst e; exact cr_sum hc
theorem maxK (e : X.K = K) (hc : X.calm = true) : CallR X (.builtin "max") (rMax K) := by subst e; exact cr_max hc
theorem minK (e : X.K = K) (hc : X.calm = true) : CallR X (.builtin "min") (rMin K) := by subst e; exact cr_min hc
theorem anyK (e : X.K = K) (hc : X.calm = true) : CallR X (.builtin "any") (rAny K) := by subst e; exact cr_any hc
end
section
variable {X : Cx} {K : PySem.W.Frag}
theorem ix_ltK (e : X.K = K) : IxR X (fun x y H Q => rIxL K x y H Q ∨ rIxT K x y H Q) := by subst e; exact ix_list.or ix_tup
theorem pe_orTK {a b : Expr} {ta tb : TE} {rest : List Expr} {pos : Pos} (e : X.K = K) (ha : PE X a ta) (hb : PE X (.BoolOp .Or (b :: rest) pos) tb) : PE X (.BoolOp .Or (a :: b :: rest) pos) (tOrT K ta tb) := by subst e; exact pe_orT ha hb
end
theorem yesT {σ : L2.St} {H : Hp} {Q : Bool → Hp → Prop} (h : Q true H) : tYes σ H Q := h
section
variable {X : Cx} {K : PySem.W.Frag}
theorem pg_tupK {es : List Expr} {k : Nat} {t : TGs} {n : Nat} {pos : Pos} (e : X.K = K) (hc : X.calm = true) (h : PGs X es t)
    (hn : (assignEach es X.env).length = n := by rfl) (hst : (assignEach es X.env).findIdx? (·.1) = none := by rfl) : PG X (.Tuple es k pos) (gTup K n t) := by
  subst e
  exact pg_tup hc h hn hst
end
theorem tyx_list {K : PySem.W.Frag} {H : Hp} {a : Addr} {xs : List V} (h : SqL K H a xs) : TyX K H (.ref a) (.type "list") := by
  rcases h with (h | ⟨o, h⟩) | ⟨o, its, n, h, hc, _⟩
  · exact .base (.lst h)
  · exact .base (.frz h)
  · exact .kList h hc
/-- max and min of two numbers that are not negative -/
def rNN (g : Nat → Nat → Nat) : List V → Hp → VK → Prop := fun xs H Q => ∃ a b : Nat, xs = [.int (a : Nat), .int (b : Nat)] ∧ Q (.int ((g a b : Nat) : Int)) H
section
variable {X : Cx}
theorem max2N (hc : X.calm = true) : CallR X (.builtin "max") (rNN max) := by
  intro pins s σ H xs us Q I r h
  obtain ⟨a, b, rfl, q⟩ := h
  refine call_max2 hc pins s σ H _ us Q I r ⟨_, _, rfl, ?_⟩
  have e : (if (b : Int) > (a : Int) then (b : Int) else (a : Int)) = ((max a b : Nat) : Int) := by split <;> omega
  rw [e]
  exact q
theorem max0N (hc : X.calm = true) : CallR X (.builtin "max") (fun xs H Q => ∃ (z : Int) (n : Nat), xs = [.int 0, .int z] ∧ (if z > 0 then z else 0) = (n : Int) ∧ Q (.int (n : Nat)) H) := by
  intro pins s σ H xs us Q I r h
  obtain ⟨z, n, rfl, e, q⟩ := h
  refine call_max2 hc pins s σ H _ us Q I r ⟨0, z, rfl, ?_⟩
  rw [e]
  exact q
theorem min2N (hc : X.calm = true) : CallR X (.builtin "min") (rNN min) := by
  intro pins s σ H xs us Q I r h
  obtain ⟨a, b, rfl, q⟩ := h
  refine call_min2 hc pins s σ H _ us Q I r ⟨_, _, rfl, ?_⟩
  have e : (if (b : Int) < (a : Int) then (b : Int) else (a : Int)) = ((min a b : Nat) : Int) := by split <;> omega
  rw [e]
  exact q
end
/-- one rest behind several ways -/
theorem cut_at {α : Type} {I : α → Hp → Prop} {G : Prop} (R : α → Hp → Prop) (h1 : (∀ a H, I a H → R a H) → G) (h2 : ∀ a H, I a H → R a H) : G := h1 h2
theorem cut_rest {I : Hp → Prop} {G : Prop} (R : Hp → Prop) (h1 : (∀ H, I H → R H) → G) (h2 : ∀ H, I H → R H) : G := h1 h2
/-! ### range over numbers of any size -/
theorem turn_long {P : Program} {w : World} {K : PySem.W.Frag} {tg : Expr} (r : Addr) (lo c : Int) (n : Nat) :
    Turn P w K tg (Itc lo c n) [r] r (fun i hp => IsLongIter hp r (lo + (i : Nat) * c) ((n : Int) - (i : Nat)) c) where
  mem := List.mem_singleton.mpr rfl
  obj := fun _ _ here b hb => by
    cases List.mem_singleton.mp hb
    exact ⟨_, here, fun _ z => nomatch z⟩
  keep := fun _ _ _ here same => same r (List.mem_singleton.mpr rfl) _ here
  item := by
    intro Y y1 y2 y3 calm i pins s σ H E inv own here more
    subst y1; subst y2; subst y3
    have o := own r (List.mem_singleton.mpr rfl)
    refine (Walks.longrange (prog := Y.prog) (w := Y.w) (inv.ok.hd calm) r lo c n).item i s _ _ more here fun v h2 k hv next keep => ?_
    obtain ⟨t, rfl⟩ := hv
    have inv2 : Inv Y pins σ H { s with heap := h2, toks := k } := inv.turned (fun b ob hb e => keep b ob (fun z => hb (List.mem_singleton.mp z)) e) o.1 o.2.1 o.2.2.2.1 o.2.2.2.2.1 o.2.2.2.2.2
    have stay : ∀ b ∈ [r], H b = none := fun b hb => (own b hb).1
    exact ⟨_, rfl, go_of (s := { s with heap := h2, toks := k }) (n := "longrange_iterator") next rfl rfl (by decide) ⟨.int (lo + (i : Nat) * c), H, inv2, ⟨t, rfl⟩, ⟨rfl, rfl⟩, next, stay⟩⟩
  done := by
    intro Y y1 y2 y3 calm i pins s σ H E inv own here over
    subst y1; subst y2; subst y3
    have o := own r (List.mem_singleton.mpr rfl)
    have le : n ≤ i := over
    exact wpAny_pyNext_long_end (inv.ok.hd calm) here (by omega) fun h2 same => ⟨rfl, inv.turned (t' := s.toks) (fun b ob hb e => same b ob hb e) o.1 o.2.1 o.2.2.2.1 o.2.2.2.2.1 o.2.2.2.2.2⟩
  self := fun _ _ _ _ _ here h => wpAny_pyIter_longiter here h
/-- a range object just made, whatever its size -/
theorem range_wide {X : Cx} {tg : Expr} {pins : List (Addr × Obj)} {σ : L2.St} {H : Hp} {s : Shared} {R : It → Hp → Prop} {E : Value → Shared → Prop} {lo hi c : Int} {t u v : Tok} {tk n : Nat} (I : Inv X pins σ H s)
    (hn : Builtin.Range.rangeSize lo hi c = n) (q : R (Itc lo c n) H) :
    wpAny (model X.prog X.w) X.A (pyIter (.ref s.heap.objs.size)) (PIE X pins σ tg R) E { s with heap := s.heap.push { cls := .type "range", data := .fields #[.int lo t, .int hi u, .int c v] }, toks := tk } := by
  have made : Inv X pins σ H { s with heap := s.heap.push { cls := .type "range", data := .fields #[.int lo t, .int hi u, .int c v] }, toks := tk } := I.kept fun b ob e => Heap.get?_push_of_some _ e
  have e0 : lo + ((0 : Nat) : Int) * c = lo := by simp
  have e9 : (n : Int) - ((0 : Nat) : Int) = Builtin.Range.rangeSize lo hi c := by
    rw [hn]
    simp
  cases small : Builtin.Range.small lo hi c with
  | true =>
    refine wpAny_pyIter_range (IsRange.new ..) small (pi_one (tk := tk) made _ (turn_rangeC _ lo c n) ?_ q)
    show IsRangeIter _ _ (lo + ((0 : Nat) : Int) * c) ((n : Int) - ((0 : Nat) : Int)) c
    rw [e0, e9]
    exact Heap.get?_push_size _ rfl
  | false =>
    refine wpAny_pyIter_longrange (IsRange.new ..) small (pi_one (tk := tk) made _ (turn_long _ lo c n) ?_ q)
    show IsLongIter _ _ (lo + ((0 : Nat) : Int) * c) ((n : Int) - ((0 : Nat) : Int)) c
    rw [e0, e9]
    exact Heap.get?_push_size _ rfl
theorem itc_one (lo : Int) (n : Nat) : Itc lo 1 n = Itr lo n := by
  unfold Itc Itr
  congr 1
  funext i H x H'
  rw [Int.mul_one]
def iWide2 (ta : TA) : TI := fun σ H R => ta σ H fun vs H1 => ∃ i j : Int, vs = [.int i, .int j] ∧ R (Itr i (j - i).toNat) H1
def iWide3 (ta : TA) : TI := fun σ H R => ta σ H fun vs H1 => ∃ (i j c : Int) (n : Nat), vs = [.int i, .int j, .int c] ∧ CDivP (j - i) c ∧ Builtin.Range.rangeSize i j c = n ∧ R (Itc i c n) H1
section
variable {X : Cx} {tg : Expr}
theorem pi_wide2 {a b : Expr} {ta : TA} {p pos : Pos} (hg : Gl X "range") (hm : X.mg "range" = none) (ha : PA X [a, b] ta) (h2 : starEach [a, b] X.env = [(false, eval a X.env), (false, eval b X.env)] := by rfl) (h1 : starEach [b] X.env = [(false, eval b X.env)] := by rfl) :
    PI X tg (.Call (.Name "range" p) [a, b] [] pos) (iWide2 ta) := by
  refine ⟨fun pins s σ H R I h => Call_ (ld_blt I hg hm boot_range (PyProof.Rows.callWith_type1 (thn (ha.run pos pins s σ H _ I h) fun us s1 ⟨vs, H1, I1, r1, q1⟩ => ?_) (by rw [h2, h1]) (by rw [h1]; rfl)))⟩
  obtain ⟨i, j, rfl, q⟩ := q1
  obtain ⟨u1, u2, rfl, ⟨t, rfl⟩, ⟨t', rfl⟩⟩ := vals2 r1
  refine call_range_2 (range_wide (n := (j - i).toNat) I1 ?_ (by rw [itc_one]; exact q))
  rw [rangeSize_one]
  split <;> omega
theorem pi_wide3 {a b c : Expr} {ta : TA} {p pos : Pos} (hg : Gl X "range") (hm : X.mg "range" = none) (ha : PA X [a, b, c] ta)
    (h3 : starEach [a, b, c] X.env = (false, eval a X.env) :: starEach [b, c] X.env := by rfl) (hn : (backTo pos (starEach [b, c] X.env)).any (·.1) = false := by rfl) :
    PI X tg (.Call (.Name "range" p) [a, b, c] [] pos) (iWide3 ta) := by
  refine ⟨fun pins s σ H R I h => Call_ (ld_blt I hg hm boot_range (PyProof.Rows.callWith_type1 (thn (ha.run pos pins s σ H _ I h) fun us s1 ⟨vs, H1, I1, r1, q1⟩ => ?_) h3 hn))⟩
  obtain ⟨i, j, k, n, rfl, hk, hz, q⟩ := q1
  cases r1 with
  | cons ra rr =>
    obtain ⟨u2, u3, rfl, ⟨t', rfl⟩, ⟨t'', rfl⟩⟩ := vals2 rr
    obtain ⟨t, rfl⟩ := ra
    have k0 : k ≠ 0 := fun z => by
      have := hk.1
      omega
    exact call_range_3 k0 (range_wide (tk := s1.toks) I1 hz q) (.inl hk.2)
end
/-- a list made over a range with a step -/
theorem lc_step {lo c : Int} {n : Nat} {g : TG} {tt : TT} {te : TE} {ws : List Nat} {σ : L2.St} {G : Hp} {D : Addr} {Qd : Hp → Prop} (Pv : Nat → Hp → Prop) (start : Pv 0 (upd G D (.lst [])))
    (step : ∀ i G, i < n → Pv i G → g (.int (lo + (i : Nat) * c)) (wipe σ ws) G fun τ G2 => wipe τ ws = wipe σ ws ∧ tt τ G2 fun k G3 => if k = true then te τ G3 fun z G4 => ∃ ac, G4 D = some (.lst ac) ∧ ac.length < sizeLine ∧ Pv (i + 1) (upd G4 D (.lst (ac ++ [z]))) else Pv (i + 1) G3)
    (last : ∀ G, Pv n G → Qd G) : ∃ W : Nat → Nat → Hp → Prop, (∃ m, W 0 m (upd G D (.lst []))) ∧ ∀ i m G, W i m G → ((Itc lo c n).stop i G ∧ Qd G) ∨
      ((Itc lo c n).go i G ∧ ∃ N : Hp → Prop, (∀ G', N G' → ∃ m', m' < m ∧ W (i + 1) m' G') ∧ ∀ x G', (Itc lo c n).yld i G x G' → g x (wipe σ ws) G' fun τ G2 => wipe τ ws = wipe σ ws ∧ tt τ G2 fun k G3 => if k = true then te τ G3 fun z G4 => ∃ ac, G4 D = some (.lst ac) ∧ ac.length < sizeLine ∧ N (upd G4 D (.lst (ac ++ [z]))) else N G3) := by
  refine ⟨fun i m G => (m = n - i ∧ i ≤ n) ∧ Pv i G, ⟨n, ⟨rfl, Nat.zero_le _⟩, start⟩, ?_⟩
  rintro i m G ⟨⟨rfl, le⟩, pv⟩
  rcases Nat.lt_or_ge i n with lt | ge
  · exact .inr ⟨lt, Pv (i + 1), fun G' p' => ⟨n - (i + 1), by omega, ⟨rfl, lt⟩, p'⟩, fun x G' ⟨e1, e2⟩ => by
      rw [e1, e2]
      exact step i G lt pv⟩
  · have e : i = n := Nat.le_antisymm le ge
    rw [e] at pv ⊢
    exact .inl ⟨Nat.le_refl _, last G pv⟩
/-! ### rules that the layer lacks: min(.., default=None), sorted of a dict with pairs of ints as its keys -/
theorem minOf_spec : ∀ (x : Int) (xs : List Int), PySem.W.minOf x xs ∈ x :: xs ∧ ∀ y ∈ x :: xs, PySem.W.minOf x xs ≤ y := by
  intro x xs
  unfold PySem.W.minOf
  induction xs generalizing x with
  | nil =>
    refine ⟨List.mem_cons_self .., fun y hy => ?_⟩
    rcases List.mem_cons.mp hy with e | hy
    · rw [e]
      exact Int.le_refl _
    · cases hy
  | cons z zs ih =>
    have e : (PySem.W.DatumOrd.lt z x = true) ↔ z < x := by
      show decide (z < x) = true ↔ z < x
      exact decide_eq_true_iff
    rw [List.foldl_cons]
    obtain ⟨h1, h2⟩ := ih (if PySem.W.DatumOrd.lt z x = true then z else x)
    refine ⟨?_, fun y hy => ?_⟩
    · rcases List.mem_cons.mp h1 with e1 | h1
      · rw [e1]
        split
        · exact List.mem_cons_of_mem _ (List.mem_cons_self ..)
        · exact List.mem_cons_self ..
      · exact List.mem_cons_of_mem _ (List.mem_cons_of_mem _ h1)
    · have h3 := h2 _ (List.mem_cons_self ..)
      rcases List.mem_cons.mp hy with e1 | hy
      · rw [e1]
        by_cases c : z < x
        · rw [if_pos (e.mpr c)] at h3 ⊢
          omega
        · rw [if_neg (fun q => c (e.mp q))] at h3 ⊢
          exact h3
      · rcases List.mem_cons.mp hy with e1 | hy
        · rw [e1]
          by_cases c : z < x
          · rw [if_pos (e.mpr c)] at h3 ⊢
            exact h3
          · rw [if_neg (fun q => c (e.mp q))] at h3 ⊢
            omega
        · exact h2 y (List.mem_cons_of_mem _ hy)
def rMinD (K : PySem.W.Frag) : List V → List V → Hp → VK → Prop := fun vs zs H Q => ∃ (a : Addr) (ns : List Int), vs = [V.ref a] ∧ zs = [.non] ∧ SqL K H a (ns.map V.int) ∧ (ns = [] → Q .non H) ∧ ∀ v ∈ ns, (∀ x ∈ ns, v ≤ x) → Q (.int v) H
section
variable {X : Cx} {K : PySem.W.Frag}
theorem minDef (e : X.K = K) (hc : X.calm = true) (hu : X.A.units + 64 < cLine) : CallRK X (.builtin "min") [Str.ofString "default"] (rMinD K) := by
  subst e
  intro pins s σ H vs zs us ws Q I r rz h
  obtain ⟨a, ns, rfl, rfl, hs, q0, q1⟩ := h
  obtain ⟨its, rv, hl, hz⟩ := I.list hs
  obtain ⟨w1, rfl, e1⟩ := vals1 rz
  obtain rfl : w1 = Value.none := e1
  rw [Vals.ref1 r]
  have hi := rv.ints
  refine PySem.W.min_list_datum_default (α := Int) (xs := ns) (I.ok.hd hc) hl.isList (PySem.W.HoldAll.of_ints hi) (by show X.A.units + 1 + 0 < cLine; omega) (fun en h' tk hk => ?_) (fun y ys i v h' tk en hv hh hk => ?_)
  · exact ⟨.non, H, I.kept hk, rfl, q0 en⟩
  · obtain ⟨as, hr⟩ := hh
    have hm := minOf_spec y ys
    have ev : ∃ t, v = Value.int (PySem.W.minOf y ys) t := by
      cases hr
      exact ⟨_, rfl⟩
    obtain ⟨t, rfl⟩ := ev
    subst en
    exact ⟨.int _, H, I.kept hk, ⟨_, rfl⟩, q1 _ hm.1 hm.2⟩
end
/-! ### d.setdefault(t, x), t a tuple of whole numbers or texts -/
def rSetT : V → List V → Hp → VK → Prop := fun x xs H Q => ∃ (a : Addr) (kvs : List (List L2.Key × V)) (k : List L2.Key) (b : Addr) (d : V), x = .ref a ∧ xs = [.ref b, d] ∧ H a = some (.dT kvs) ∧ H b = some (.tup (k.map kV)) ∧ kvs.length < sizeLine ∧
  (∀ v, valV kvs k = some v → Q v H) ∧ (valV kvs k = none → Q d (upd H a (.dT (putK kvs k d))))
section
variable {X : Cx}
theorem mt_setT (hu : X.A.units + 1 < cLine) : MtR X "dict.setdefault" rSetT := by
  intro pins s σ H x xs v us Q I rx rxs h
  obtain ⟨a, kvs, k, b, d, rfl, rfl, ha, hb, hl, q1, q2⟩ := h
  cases rx
  obtain ⟨u1, u2, rfl, r1, r2⟩ := vals2 rxs
  cases r1
  obtain ⟨z, hd, xs', rel, dd⟩ := dt_of I.hok ha
  have hz : xs'.length ≤ sizeLine := by rw [← Paired.length rel]; exact z
  have hl2 : (putK kvs k d).length ≤ sizeLine := by have := length_putK kvs k d; omega
  refine PySem.call_setdefault_heap (tupleKind_room_in1 hu) (key_of I.hok hb) hd dd (fun p hp => ?_) (fun hn h' dd' hs => ?_) hz
  · have r := rel.val k
    rw [hp] at r
    cases ev : valV kvs k with
    | none =>
      rw [ev] at r
      exact (show False from r).elim
    | some v0 =>
      rw [ev] at r
      exact ⟨v0, H, I.tok _, r, q1 v0 ev⟩
  · have r := rel.val k
    rw [hn] at r
    have e : valV kvs k = none := by
      cases ev : valV kvs k with
      | none => rfl
      | some v0 =>
        rw [ev] at r
        exact (show False from r).elim
    obtain ⟨q, es, ep, hq, h2, h3, h4, _, h5⟩ := dd'
    exact ⟨d, upd H a (.dT (putK kvs k d)), d_write (ob := .dT (putK kvs k d)) I (by rw [ha]; exact True.intro) hs ⟨q, hq⟩ ⟨hl2, hd, _, (rel.put k hb r2).keeps fun c ys ec => (by rw [upd_ne (ne_of ec ha (fun z => nomatch z))]; exact ec), q, es, ep, hq, h2, h3, h4, h5⟩, r2, q2 e⟩
end
/-! ### sorted of a dict whose keys are pairs of whole numbers -/
def pairAt (H : Hp) : Value → Int × Int
  | .ref b => match H b with
    | some (.tup [.int i, .int j]) => (i, j)
    | _ => (0, 0)
  | _ => (0, 0)
theorem pairAt_of {H : Hp} {b : Addr} {i j : Int} (h : H b = some (.tup [.int i, .int j])) : pairAt H (.ref b) = (i, j) := by
  show (match H b with | some (.tup [.int i, .int j]) => (i, j) | _ => (0, 0)) = (i, j)
  rw [h]
def unRef : Value → Addr
  | .ref b => b
  | _ => 0
section
variable {X : Cx}
theorem call_sortedDT (hc : X.calm = true) : CallR X (.builtin "sorted") (fun xs H Q => ∃ (d : Addr) (kvs : List (List Key × V)) (ps : List (Int × Int)), xs = [V.ref d] ∧ Rd H d (.dT kvs) ∧ kvs.map (·.1) = ps.map (fun p => [Sum.inl p.1, Sum.inl p.2]) ∧
    ∀ (p : Addr) (bs : List Addr), H p = none → (bs.map fun b => pairAt H (.ref b)).Perm ps → (bs.map fun b => pairAt H (.ref b)).Pairwise (fun a b => SrtO.lexB b a = false) → (∀ b ∈ bs, H b = some (.tup [.int (pairAt H (.ref b)).1, .int (pairAt H (.ref b)).2])) → Q (.ref p) (upd H p (.lst (bs.map V.ref)))) := by
  intro pins s σ H xs us Q I r h
  obtain ⟨d, kvs, ps, rfl, hd, hps, q⟩ := h
  obtain ⟨u, rfl, rx⟩ := r.one
  cases rx
  obtain ⟨z, hs, ks, pr, o, es, ep, ho, hx, hdt, he, hn⟩ := (show ObjOk X.prog X.w H s.heap d (.dT kvs) from hd.ok I.hok)
  have l1 : es.size = ks.length := size_of_entries he
  have l2 : kvs.length = ks.length := Paired.length pr
  have ik : IsKeys H kvs (ks.map fun x => x.2.1) := isKeys_of pr
  -- what stands at the keys
  have keys : ∀ (kvs : List (List Key × V)) (ps : List (Int × Int)) (bs : List Addr), kvs.map (·.1) = ps.map (fun p => [Sum.inl p.1, Sum.inl p.2]) → IsKeys H kvs bs → bs.map (fun b => pairAt H (.ref b)) = ps ∧ ∀ b ∈ bs, H b = some (.tup [.int (pairAt H (.ref b)).1, .int (pairAt H (.ref b)).2]) := by
    intro kvs ps bs e1 e2
    induction e2 generalizing ps with
    | nil =>
      cases ps with
      | nil => exact ⟨rfl, fun b h => by cases h⟩
      | cons p ps => cases e1
    | cons h t ih =>
      cases ps with
      | nil => cases e1
      | cons p ps =>
        rw [List.map_cons, List.map_cons] at e1
        obtain ⟨e3, e4⟩ := List.cons.inj e1
        obtain ⟨i1, i2⟩ := ih ps e4
        rw [e3] at h
        have h' : H _ = some (.tup [.int p.1, .int p.2]) := h
        have hp := pairAt_of h'
        refine ⟨?_, fun b hb => ?_⟩
        · rw [List.map_cons, i1, hp]
        · rcases List.mem_cons.mp hb with e | hb
          · rw [e, hp]
            exact h'
          · exact i2 b hb
  obtain ⟨kp1, kp2⟩ := keys kvs ps _ hps ik
  refine Calls.call_function_entry PyProof.Rows.kind_sorted PyProof.Rows.plain_sorted PyProof.Rows.entry_sorted (PyProof.Rows.args_sorted1 _) ?_
  unfold Builtin.«sorted»
  refine wpAny_bind (m := checkCount "sorted" 1 1 _) (wpAny_pure ?_)
  refine wpAny_bind (PySem.W.kdu_collect (A := X.A.in1) (kdl_raw hs hx hdt) (I.ok.hd hc) ho (by omega) fun h' tk acc hk it => ?_)
  have ea : acc.toList = ks.map fun x => Value.ref x.2.1 := by
    have hl : acc.toList.length = ks.length := by rw [Array.length_toList, it.1]; exact l1
    apply List.ext_getElem?
    intro j
    rw [List.getElem?_map]
    cases hj : acc.toList[j]? with
    | none =>
      have h1 := List.getElem?_eq_none_iff.mp hj
      rw [List.getElem?_eq_none (by omega)]
      all_goals rfl
    | some v =>
      obtain ⟨en, hen, hv⟩ := it.2 j v (by rw [← Array.getElem?_toList]; exact hj)
      have qe := entry_at he j
      rw [hen] at qe
      cases hb : ks[j]? with
      | none =>
        rw [hb] at qe
        exact nomatch (show some en = none from qe)
      | some b =>
        rw [hb] at qe
        have e2 : en = entryOfKey (tupleKind (mixKind X.prog X.w)) b := Option.some.inj qe
        rw [hv, e2]
        all_goals rfl
  have I1 : Inv X pins σ H { s with heap := h', toks := tk } := I.kept hk
  have hal : acc.toList.length ≤ sizeLine := by
    rw [ea, List.length_map]
    omega
  refine wpAny_bind (wpAny_newList ?_ hal)
  have hoL : (h'.push (seqObj "list" acc.toList.toArray 0)).get? h'.objs.size = some (seqObj "list" acc.toList.toArray 0) := Heap.get?_push_size _ rfl
  show wpAny _ _ _ _ _ { s with heap := h'.push (seqObj "list" acc.toList.toArray 0), toks := tk }
  have hp : ∀ v ∈ acc.toList, Srt.IsPair (h'.push (seqObj "list" acc.toList.toArray 0)) v (pairAt H v).1 (pairAt H v).2 := fun v hv => by
    rw [ea] at hv
    obtain ⟨x, hxm, rfl⟩ := List.mem_map.mp hv
    have ht := kp2 x.2.1 (List.mem_map.mpr ⟨x, hxm, rfl⟩)
    obtain ⟨_, its2, r2, o2, ho2, hc2, n2, hd2⟩ := I1.hok _ _ ht
    obtain ⟨u1, u2, rfl, ri, rj⟩ := vals2 r2
    obtain ⟨t1, rfl⟩ := ri
    obtain ⟨t2, rfl⟩ := rj
    exact ⟨x.2.1, o2, t1, t2, n2, rfl, Heap.get?_push_of_some _ ho2, hc2, hd2⟩
  refine wpAny_bind (wpAny_holding (wpAny_call_entry PyProof.Rows.slot_list_sort ⟨_, hoL, rfl⟩ PyProof.Rows.entry_list_sort
    (SrtO.list_sort_ord (s := { s with heap := h'.push (seqObj "list" acc.toList.toArray 0), toks := tk }) (SrtO.swo_lex (pairAt H)) hoL hal (fun h2 => SrtO.pairs_sortableO (by omega) hp fun o e => ?_) fun out h1 h2 => ⟨_, rfl, ?_⟩) (PyProof.Rows.args_list_sort _)))
  · have e' : some o = some (seqObj "list" acc.toList.toArray 0) := e.symm.trans hoL
    cases e'
    intro c
    exact absurd (Value.type.inj c) (by decide)
  · obtain ⟨e', he'⟩ := PyProof.Rows.sortedHeap_at (vs := acc.toList) (out := out.toArray) hoL
    obtain ⟨bs, rfl, hbs⟩ : ∃ bs : List Addr, out = bs.map Value.ref ∧ bs.Perm (ks.map fun x => x.2.1) := by
      have hperm := h2.perm
      rw [ea] at hperm
      have e9 : (ks.map fun x => Value.ref x.2.1) = (ks.map fun x => x.2.1).map Value.ref := by rw [List.map_map]; rfl
      rw [e9] at hperm
      refine ⟨out.map unRef, ?_, ?_⟩
      · rw [List.map_map]
        have e11 : out.map (Value.ref ∘ unRef) = out.map id := List.map_congr_left fun v hv => by
          obtain ⟨b, _, rfl⟩ := List.mem_map.mp (hperm.mem_iff.mp hv)
          rfl
        rw [e11, List.map_id]
      · have z := hperm.map unRef
        rw [List.map_map] at z
        have e10 : ∀ l : List Addr, l.map (unRef ∘ Value.ref) = l := fun l => by
          induction l with
          | nil => rfl
          | cons a l ih => rw [List.map_cons, ih]; rfl
        rw [e10] at z
        exact z
    have hlen : (bs.map V.ref).length ≤ sizeLine := by
      rw [List.length_map, hbs.length_eq, List.length_map]
      omega
    have hkeys : (bs.map fun b => pairAt H (.ref b)).Perm ps := by
      have z := hbs.map fun b => pairAt H (.ref b)
      rw [kp1] at z
      exact z
    have hsort : (bs.map fun b => pairAt H (.ref b)).Pairwise (fun a b => SrtO.lexB b a = false) := by
      rw [List.pairwise_map]
      exact List.pairwise_map.mp h1
    refine wpAny_pure ⟨_, rfl, .ref h'.objs.size, upd H h'.objs.size (.lst (bs.map V.ref)), I1.laid (t' := tk) (fun b u e => ?_) (Nat.le_refl _)
      (show ObjOk X.prog X.w _ _ _ (.lst (bs.map V.ref)) from ⟨hlen, bs.map Value.ref, e', vals_refs bs, he'⟩), rfl, q _ bs (I1.hok.fresh (Nat.le_refl _)) hkeys hsort fun b hb => kp2 b (hbs.mem_iff.mp hb)⟩
    have hb : b < h'.objs.size := Heap.lt_size e
    rw [PyProof.Rows.sortedHeap_old (Nat.ne_of_lt hb) (by rw [size_push']; exact Nat.lt_succ_of_lt hb)]
    exact Heap.get?_push_of_some _ e
end
/-! ### sorted(xs, reverse=True) of pairs of whole numbers; enumerate in a comprehension -/
def pairV (H : Hp) : V → Int × Int
  | .ref b => match H b with
    | some (.tup [.int i, .int j]) => (i, j)
    | _ => (0, 0)
  | _ => (0, 0)
theorem pairV_of {H : Hp} {b : Addr} {i j : Int} (h : H b = some (.tup [.int i, .int j])) : pairV H (.ref b) = (i, j) := by
  show (match H b with | some (.tup [.int i, .int j]) => (i, j) | _ => (0, 0)) = (i, j)
  rw [h]
def rSortedPR (K : PySem.W.Frag) : List V → List V → Hp → VK → Prop := fun vs zs H Q => ∃ (a : Addr) (xs : List V) (k : V → Int × Int), vs = [V.ref a] ∧ zs = [.bl true] ∧ SqL K H a xs ∧ (∀ x ∈ xs, ∃ t, x = V.ref t ∧ H t = some (.tup [.int (k x).1, .int (k x).2])) ∧
  ∀ ys p, SrtO.Srtd (ltP k) ys → ys.Perm xs → H p = none → Q (.ref p) (upd H p (.lst ys.reverse))
section
variable {X : Cx}
theorem cr_sortedPR : CallRK X (.builtin "sorted") [Str.ofString "reverse"] (rSortedPR X.K) := by
  intro pins s σ H vs zs us ws Q I r rz h
  obtain ⟨a, xs, k, rfl, rfl, hs, hx, q⟩ := h
  obtain rfl := Vals.ref1 r
  obtain ⟨w1, rfl, e0⟩ := vals1 rz
  obtain rfl : w1 = Value.bool true := e0
  obtain ⟨its, rv, hl, hz⟩ := I.list hs
  obtain ⟨e1, e2⟩ := refs_back rv fun x m => by
    obtain ⟨t, e, _⟩ := hx x m
    exact ⟨t, e⟩
  have hp : ∀ v ∈ its, Srt.IsPair s.heap v (k (backV v)).1 (k (backV v)).2 := fun v hv => by
    obtain ⟨t, rfl⟩ := e2 v hv
    have hm : V.ref t ∈ xs := by rw [e1]; exact List.mem_map.mpr ⟨_, hv, rfl⟩
    obtain ⟨t', e, ht⟩ := hx _ hm
    cases e
    obtain ⟨_, its2, r2, o, ho, hc, n, hd⟩ := I.hok _ _ ht
    obtain ⟨u1, u2, rfl, ri, rj⟩ := vals2 r2
    obtain ⟨t1, rfl⟩ := ri
    obtain ⟨t2, rfl⟩ := rj
    exact ⟨t, o, t1, t2, n, rfl, ho, hc, hd⟩
  refine SrtR.sorted_ordK (b := true) (fun _ => rfl) (PyProof.Rows.args_sorted_rev _ _) (fun _ => PyProof.Rows.args_list_sort_rev _ _) (SrtO.swo_lex fun u => k (backV u)) hl.isList (by rw [← rv.length]; exact hz)
    (fun h2 h₁ a' ha' kp => SrtO.pairs_sortableO (by omega) (fun v hv => (hp v hv).keeps fun b o e c => (kp b o e).2) fun o e => ?_) fun out h1 h2 => ?_
  · have e' : some o = some (seqObj "list" its.toArray 0) := e.symm.trans ha'
    cases e'
    intro c
    exact absurd (Value.type.inj c) (by decide)
  · have h2p : out.Perm its := h2.perm.trans (List.reverse_perm _)
    have h3 : ∀ u ∈ out, ∃ a, u = Value.ref a := fun u hu => e2 u (h2p.mem_iff.mp hu)
    have hb : (out.map backV).Perm xs := by
      rw [e1]
      exact h2p.map backV
    obtain ⟨ep, he'⟩ := PyProof.Rows.sortedAll_at s.heap its out.toArray.reverse
    have hlen : (out.map backV).reverse.length ≤ sizeLine := by
      rw [List.length_reverse, hb.length_eq]
      exact hz
    have er : (out.map backV).reverse = out.reverse.map backV := by rw [List.map_reverse]
    have h4 : ∀ u ∈ out.reverse, ∃ a, u = Value.ref a := fun u hu => h3 u (List.mem_reverse.mp hu)
    have ea : out.reverse.toArray = out.toArray.reverse := by
      apply Array.ext'
      rw [Array.toList_reverse]
    exact ⟨.ref _, upd H (s.heap.objs.size + 1) (.lst (out.map backV).reverse), I.laid (t' := s.toks) (fun _ _ => PyProof.Rows.sortedAll_old) (Nat.le_succ _) ⟨hlen, out.reverse, ep, by rw [er]; exact vals_back h4, by rw [ea]; exact he'⟩, rfl, q _ _ (SrtO.srtd_map h1) hb (I.hok.fresh (Nat.le_succ _))⟩
end
theorem lc_enum {K : PySem.W.Frag} {a : Addr} {xs : List V} {g : TG} {tt : TT} {te : TE} {ws : List Nat} {σ : L2.St} {G : Hp} {D : Addr} {Qd : Hp → Prop} (Pv : Nat → Hp → Prop) (start : Pv 0 (upd G D (.lst []))) (lst : ∀ i G, i ≤ xs.length → Pv i G → SqL K G a xs)
    (step : ∀ (i : Nat) (x : V) (T : Addr) (G : Hp), xs[i]? = some x → Pv i G → G T = none → g (.ref T) (wipe σ ws) (upd G T (.tup [.int (i : Nat), x])) fun τ G2 => wipe τ ws = wipe σ ws ∧ tt τ G2 fun c G3 => if c = true then te τ G3 fun z G4 => ∃ ac, G4 D = some (.lst ac) ∧ ac.length < sizeLine ∧ Pv (i + 1) (upd G4 D (.lst (ac ++ [z]))) else Pv (i + 1) G3)
    (last : ∀ G, Pv xs.length G → Qd G) : ∃ W : Nat → Nat → Hp → Prop, (∃ m, W 0 m (upd G D (.lst []))) ∧ ∀ i m G, W i m G → ((Ite K a).stop i G ∧ Qd G) ∨
      ((Ite K a).go i G ∧ ∃ N : Hp → Prop, (∀ G', N G' → ∃ m', m' < m ∧ W (i + 1) m' G') ∧ ∀ x G', (Ite K a).yld i G x G' → g x (wipe σ ws) G' fun τ G2 => wipe τ ws = wipe σ ws ∧ tt τ G2 fun c G3 => if c = true then te τ G3 fun z G4 => ∃ ac, G4 D = some (.lst ac) ∧ ac.length < sizeLine ∧ N (upd G4 D (.lst (ac ++ [z]))) else N G3) := by
  refine ⟨fun i m G => (m = xs.length - i ∧ i ≤ xs.length) ∧ Pv i G, ⟨xs.length, ⟨rfl, Nat.zero_le _⟩, start⟩, ?_⟩
  rintro i m G ⟨⟨rfl, le⟩, pv⟩
  have here := lst i G le pv
  rcases Nat.lt_or_ge i xs.length with lt | ge
  · refine .inr ⟨⟨xs, _, here, List.getElem?_eq_getElem lt⟩, Pv (i + 1), fun G' p' => ⟨xs.length - (i + 1), by omega, ⟨rfl, lt⟩, p'⟩, fun v G' y => ?_⟩
    obtain ⟨T, x, rfl, nT, rfl, hx⟩ := y
    exact step i x T G (hx xs here) pv nT
  · have e : i = xs.length := Nat.le_antisymm le ge
    rw [e] at pv ⊢
    exact .inl ⟨⟨xs, here, Nat.le_refl _⟩, last G pv⟩
theorem inV_nat {x : Nat} : ∀ {ns : List Nat}, inV (.int (x : Nat)) (ns.map fun y => V.int (y : Nat)) = decide (x ∈ ns)
  | [] => rfl
  | y :: ns => by
    have ih := inV_nat (x := x) (ns := ns)
    show (eqV (.int (y : Nat)) (.int (x : Nat)) || inV (.int (x : Nat)) (ns.map fun y => V.int (y : Nat))) = _
    rw [ih]
    have e : eqV (.int (y : Nat)) (.int (x : Nat)) = decide (y = x) := by
      show decide ((y : Int) = (x : Int)) = _
      exact decide_eq_decide.mpr Int.ofNat_inj
    rw [e]
    by_cases c : y = x
    · have z : x ∈ y :: ns := by
        rw [c]
        exact List.mem_cons_self ..
      rw [decide_eq_true c, decide_eq_true z]
      rfl
    · rw [decide_eq_false c, Bool.false_or]
      exact decide_eq_decide.mpr ⟨fun h => List.mem_cons_of_mem _ h, fun h => (List.mem_cons.mp h).resolve_left fun z => c z.symm⟩
theorem flat_nats (ns : List Nat) : (ns.map fun y => V.int (y : Nat)).all flatV = true := by
  rw [List.all_eq_true]
  intro v hv
  obtain ⟨y, _, rfl⟩ := List.mem_map.mp hv
  rfl
/-! ### set(xs), xs a list of whole numbers: a set whose members and number are known, that can be sorted -/
abbrev set0 (w : World) : Obj := { cls := .type "set", dict := none, data := .set #[] 0 (.fresh 0 0 (!w.params.followText "set-order")) }
def SetMade (w : World) (s : Shared) (ns : List Int) (s2 : Shared) : Prop := ∃ (h2 : Heap) (tk c : Nat), s2 = { s with heap := h2, toks := tk } ∧ SetR w h2 s.heap.objs.size (fun j => decide (j ∈ ns)) c ∧ c ≤ ns.length ∧ ∀ b o, s.heap.get? b = some o → h2.get? b = some o
section
variable {P : Program} {w : World} {A : Around} {E : Value → Shared → Prop} {s : Shared}
/-- the new set is filled from the list -/
theorem setL_init {l : Addr} {items : Array Value} {ns : List Int} (hh : A.handled = none) (hl : s.heap.IsList l items) (hi : IntsAre items.toList ns) (hb : ns.length + 1 < scanBound) :
    codeAny (model P w) A (.call (.builtin "set.__init__") ⟨[.ref s.heap.objs.size, .ref l], []⟩) (wants (fun r s2 => r = .none ∧ SetMade w s ns s2) E) { s with heap := s.heap.push (set0 w) } := by
  have size : items.size = ns.length := by
    have q := IntsAre.length hi
    simpa using q
  have here : (s.heap.push (set0 w)).get? s.heap.objs.size = some (set0 w) := Heap.get?_push_size _ rfl
  refine codeAny_call_builtin F.called_set.init.plain F.entry_set_init (check_set_init_1 ⟨_, here, rfl⟩ ?_)
  -- the list behind the new set
  obtain ⟨⟨lc, ld, ldata, lsl⟩, hol, hlc, m, hld⟩ := hl
  dsimp only at hlc hld
  subst hlc
  subst hld
  have old : ∀ {b : Addr} {o : Obj}, s.heap.get? b = some o → (s.heap.push (set0 w)).get? b = some o := fun h => Heap.get?_push_of_some _ h
  have hol2 := old hol
  have isl : (s.heap.push (set0 w)).IsList l items := ⟨_, hol2, rfl, m, rfl⟩
  have no1 := F.sub_list_set
  have no2 := F.sub_list_frozenset
  have no3 : (Value.type "list" == Value.type "dict") = false := by decide
  unfold Builtin.«set.__init__» noKeywords Builtin.Frozenset.updateFrom
  generalize hit : pyIter = it
  wp_walk
  subst hit
  refine wpAny_pyIter_list isl (wpAny_bind (wpAny_runValue ?_))
  have sz := Heap.size_push (h := s.heap) (o := set0 w)
  have lt := Heap.lt_size hol
  -- all its items
  have each : ∀ (i : Nat) (v : Value), items[i]? = some v → ∃ k t, ns[i]? = some k ∧ v = .int k t := fun i v hv => by
    have hil : i < ns.length := by
      rw [← size]
      exact (Array.getElem?_eq_some_iff.mp hv).1
    obtain ⟨t, ev⟩ := IntsAre.int_at hi i v (by rw [Array.getElem?_toList]; exact hv)
    have ed : ns.getD i 0 = ns[i] := by
      rw [List.getD_eq_getElem?_getD, List.getElem?_eq_getElem hil]
      rfl
    exact ⟨_, t, List.getElem?_eq_getElem hil, by rw [ev, ed]⟩
  have nli : l ≠ (s.heap.push (set0 w)).objs.size := by
    rw [sz]
    exact Nat.ne_of_lt (Nat.lt_succ_of_lt lt)
  have nst : s.heap.objs.size ∉ [(s.heap.push (set0 w)).objs.size, l] := fun z => by
    rcases List.mem_cons.mp z with z | z
    · rw [sz] at z
      exact Nat.ne_of_lt (Nat.lt_succ_self _) z
    · exact Nat.ne_of_gt lt (List.mem_singleton.mp z)
  refine set_update_ints ((Walks.list (show A.in1.in1.handled = none from hh) _ l nli items).toS) s.heap.objs.size nst ns size hb each (items.size - 0) 0 _ (by omega) (Nat.zero_le _) ?_ ?_ ?_
  · exact ⟨⟨_, Heap.get?_push_size _ rfl, rfl, rfl⟩, isl.push _⟩
  · exact ⟨0, Nat.le_refl 0, setR_new_at (Heap.get?_push_of_some _ here)⟩
  rintro ⟨h2, g2, d2, tk, os2⟩ c mv hc hR
  obtain rfl : g2 = s.gens := mv.gens
  obtain rfl : d2 = s.drawn := mv.drawn
  obtain rfl : os2 = s.os := mv.os
  show wpAny _ _ _ _ _ _
  refine wpAny_pure ?_
  show wpAny _ _ (ret Value.none) _ _ _
  refine wpAny_pure ⟨rfl, h2, tk, c, rfl, hR, by omega, fun b o e => mv.heap b o (fun z => ?_) (Heap.get?_push_of_some _ (old e))⟩
  have lb := Heap.lt_size e
  rcases List.mem_cons.mp z with z | z
  · exact Nat.ne_of_lt lb z
  · rw [List.mem_singleton, sz] at z
    exact Nat.ne_of_lt (Nat.lt_succ_of_lt lb) z
end
section
variable {P : Program} {w : World} {A : Around} {E : Value → Shared → Prop} {s : Shared}
/-- set(l) of a list of whole numbers -/
theorem setL {l : Addr} {items : Array Value} {ns : List Int} {Q : Value → Shared → Prop} (hh : A.handled = none) (hl : s.heap.IsList l items) (hi : IntsAre items.toList ns) (hb : ns.length + 1 < scanBound)
    (h : ∀ s2, SetMade w s ns s2 → Q (.ref s.heap.objs.size) s2) : wpAny (model P w) A (call (.type "set") [.ref l]) Q E s := by
  have ⟨c, tl, hmro⟩ := F.called_set.mro
  have ⟨hmade, hsub⟩ := And.intro F.called_set.made F.called_set.sub
  have ⟨h1, h2⟩ := And.intro F.called_set.notType F.called_set.canCreate
  have hct := F.typeCall_set_1 (.ref l)
  refine wpAny_call (codeAny_of_tree (show wpAny _ _ (callAny (.type "set") _) _ _ _ from wpAny_pure ⟨Code.quiet_builtin _ (by decide +kernel), codeAny_builtin F.entry_type_call ?_⟩))
  rw [Around.under_plain (weight_type_call_type "set" [.ref l] []) rfl]
  repeat (any_goals (first | assumption | wp_step))
  refine codeAny_mono (code_set_led1 (.ref l) (E := E) (Q₁ := fun v s1 => v = .ref s.heap.objs.size ∧ s1 = { s with heap := s.heap.push (set0 w) }) ⟨rfl, rfl⟩) ?_
  rintro (e | fl) s1 hr
  · exact hr
  cases fl
  case ret obj =>
    obtain ⟨rfl, rfl⟩ := hr
    have here : (s.heap.push (set0 w)).get? s.heap.objs.size = some (set0 w) := Heap.get?_push_size _ rfl
    have hT : Shared.TypeIs { s with heap := s.heap.push (set0 w) } (.ref s.heap.objs.size) "set" := ⟨_, here, rfl⟩
    have ⟨hli, hbi⟩ := And.intro F.called_set.init.lookup (F.called_set.init.bind (.ref s.heap.objs.size))
    repeat (any_goals (first | assumption | wp_step))
    refine codeAny_mono (setL_init (E := E) (by simp [hh]) hl hi hb) ?_
    rintro (e | fl) s2 hr
    · exact hr
    cases fl
    case ret r =>
      obtain ⟨rfl, hm⟩ := hr
      repeat (any_goals (first | assumption | wp_step))
      exact h s2 hm
    all_goals exact hr.elim
  all_goals exact hr.elim
end
section
variable {X : Cx}
/-- set(xs) -/
theorem call_setL (hc : X.calm = true) : CallR X (.type "set") (fun xs H Q => ∃ (a : Addr) (ns : List Int), xs = [V.ref a] ∧ SqL X.K H a (ns.map V.int) ∧ ns.length < 4000 ∧
    ∀ p c, H p = none → c ≤ ns.length → Q (.ref p) (upd H p (SetO X.w p (fun j => decide (j ∈ ns)) c))) := by
  intro pins s σ H xs us Q I r h
  obtain ⟨a, ns, rfl, ha, few, q⟩ := h
  rw [Vals.ref1 r]
  obtain ⟨its, rv, p1, _⟩ := I.list ha
  refine setL (items := its.toArray) (I.ok.hd hc) p1.isList (Vals.ints rv) (by unfold scanBound; omega) ?_
  rintro s2 ⟨h2, tk, c, rfl, R, le, old⟩
  exact ⟨.ref _, _, I.laid (t' := tk) (fun b u e => old b u e) (by omega) (setO_new R), rfl, q _ c (I.hok.fresh (Nat.le_refl _)) le⟩
end
/-! ### sorted of a set of whole numbers, any number of them -/
section
variable {P : Program} {w : World} {A : Around} {E : Value → Shared → Prop} {s : Shared}
theorem sorted_setB {S : Int → Bool} {n : Nat} {Q : Value → Shared → Prop} (R : SetR w s.heap a S n) (hh : A.handled = none)
    (hQ : ∀ s2 p (out : List Value) (c : Nat) (ns : List Int), (∀ b o, s.heap.get? b = some o → s2.heap.get? b = some o) → s2.gens = s.gens → s2.os = s.os → s.heap.objs.size ≤ p → s2.heap.get? p = some (seqObj "list" out.toArray c) →
      IntsAre out ns → ns.Pairwise (· < ·) → (∀ k, k ∈ ns ↔ S k = true) → ns.length = n → Q (.ref p) s2) : wpAny (model P w) A (call (.builtin "sorted") [.ref a]) Q E s := by
  obtain ⟨o, es, ep, t, ho, hex, hd, g, nd, hm, hb, hf, hn, hr, hl⟩ := R
  refine Calls.call_function_entry PyProof.Rows.kind_sorted PyProof.Rows.plain_sorted PyProof.Rows.entry_sorted (PyProof.Rows.args_sorted1 _) ?_
  unfold Builtin.«sorted»
  refine wpAny_bind (m := checkCount "sorted" 1 1 _) (wpAny_pure ?_)
  refine wpAny_bind (collect_set (A := A.in1) hh ⟨o, ho, hex.1, hd⟩ hf hb hr hl fun s1 vs old more g1 o1 pm => ?_)
  have len : vs.length = n := by
    rw [pm.length_eq, List.length_map, Array.length_toList]
    exact hn
  have room : vs.length ≤ sizeLine := by
    rw [len, ← hn]
    exact fits_of_scanBound hb
  have hI : IntsAre vs (vs.map Builtin.Re.reRawOf) := ints_of vs fun v hv => by
    obtain ⟨e, he, q⟩ := List.mem_map.mp (pm.mem_iff.mp hv)
    obtain ⟨k, tk, z, _⟩ := g e he
    exact ⟨k, tk, q.symm.trans z⟩
  have pk := pm.map Builtin.Re.reRawOf
  rw [List.map_map] at pk
  have pk2 : (vs.map Builtin.Re.reRawOf).Perm (es.toList.map keyOf) := pk
  refine wpAny_bind (wpAny_newList ?_ room)
  have here : (s1.heap.push (seqObj "list" vs.toArray 0)).get? s1.heap.objs.size = some (seqObj "list" vs.toArray 0) := Heap.get?_push_size _ rfl
  refine wpAny_bind (wpAny_holding (wpAny_call_entry PyProof.Rows.slot_list_sort ⟨_, here, rfl⟩ PyProof.Rows.entry_list_sort
    (SrtO.list_sort_ord (s := { s1 with heap := s1.heap.push (seqObj "list" vs.toArray 0) }) SrtO.swo_int here room (fun h2 => SrtO.ints_sortable hI h2) fun out h1 h2 => ⟨_, rfl, ?_⟩) (PyProof.Rows.args_list_sort _)))
  obtain ⟨k1, k2, k3⟩ := SrtO.ints_out hI h1 h2
  obtain ⟨e2, at2⟩ := PyProof.Rows.sortedHeap_at (vs := vs) (out := out.toArray) here
  have pn := k2.trans pk2
  refine wpAny_pure ⟨_, rfl, hQ _ s1.heap.objs.size out e2 (out.map SrtO.iv) (fun b u e => ?_) g1 o1 more at2 k1 (lt_of_le_nodup _ k3 (pn.nodup_iff.mpr nd)) (fun k => by rw [pn.mem_iff, ← hm k]) ?_⟩
  · have q := old b u e
    have lt := Heap.lt_size q
    show (PyProof.Rows.sortedHeap (s1.heap.push (seqObj "list" vs.toArray 0)) s1.heap.objs.size vs out.toArray).get? b = some u
    rw [PyProof.Rows.sortedHeap_old (Nat.ne_of_lt lt) (by rw [size_push']; exact Nat.lt_succ_of_lt lt)]
    exact Heap.get?_push_of_some _ q
  · rw [pn.length_eq, List.length_map, Array.length_toList]
    exact hn
end
section
variable {X : Cx}
/-- sorted(s), s a set of whole numbers -/
theorem cr_sortedSetB (hc : X.calm = true) : CallR X (.builtin "sorted") (fun vs H Q => ∃ (a : Addr) (S : Int → Bool) (n : Nat), vs = [V.ref a] ∧ H a = some (SetO X.w a S n) ∧ n < 4096 ∧
    ∀ (ns : List Int) (p : Addr), ns.Pairwise (· < ·) → (∀ k : Int, k ∈ ns ↔ S k = true) → ns.length = n → H p = none → Q (.ref p) (upd H p (.lst (ns.map V.int)))) := by
  intro pins s σ H vs us Q I r h
  obtain ⟨a, S, n, rfl, ha, few, q⟩ := h
  rw [Vals.ref1 r]
  refine sorted_setB (setO_get I ha) (I.ok.hd hc) fun s2 p out c ns old g2 o2 hp at2 hi hs hm hl => ?_
  have room : (ns.map V.int).length ≤ sizeLine := by
    rw [List.length_map, hl]
    exact sizeLine_le (by omega)
  have free : H p = none := I.hok.fresh hp
  have J : Inv X pins σ (upd H p (.lst (ns.map V.int))) { s with heap := s2.heap, gens := s2.gens, drawn := s2.drawn, toks := s2.toks } :=
    I.call (ch := []) (Un.laid old hp free) (I.hok.laid old hp ⟨room, out, c, vals_of_ints hi, at2⟩) (by rw [g2]; exact I.bare) (fun _ z => nomatch z)
  have e : s2 = { s with heap := s2.heap, gens := s2.gens, drawn := s2.drawn, toks := s2.toks } := by
    cases s2
    cases s
    cases o2
    rfl
  rw [e]
  exact ⟨.ref p, _, J, rfl, q ns p hs hm hl free⟩
end
/-! ### digits: the mathematics -/
/-- k is the level of d at n -/
def IsLev (b n d k : Nat) : Prop := n / b ^ (k + 1) = d / b ^ (k + 1) ∧ ∀ j, j < k → n / b ^ (j + 1) ≠ d / b ^ (j + 1)
abbrev Row3 := Nat × Nat × Nat
/-- the stations below level k -/
def tailOf (b d : Nat) : Nat → List Row3
  | 0 => []
  | k + 1 => if d / b ^ k % b ≠ 0 then (k, d / b ^ k % b, d / b ^ (k + 1) * b ^ (k + 1)) :: tailOf b d k else tailOf b d k
/-- the stations of a timer set at n, k its level -/
def rowsOf (b n d k : Nat) : List Row3 := (k, d / b ^ k % b, n) :: tailOf b d k
theorem div_succ (n b k : Nat) : n / b ^ (k + 1) = n / b ^ k / b := by
  rw [Nat.pow_succ, Nat.div_div_eq_div_mul]
theorem pow_pos' {b : Nat} (h : 2 ≤ b) (k : Nat) : 0 < b ^ k := Nat.pow_pos (by omega)
theorem IsLev.uniq {b n d k k' : Nat} (h : IsLev b n d k) (h' : IsLev b n d k') : k = k' := by
  rcases Nat.lt_trichotomy k k' with l | l | l
  · exact absurd h.1 (h'.2 k l)
  · exact l
  · exact absurd h'.1 (h.2 k' l)
theorem IsLev.ne {b n d k : Nat} (h : IsLev b n d k) (hnd : n < d) : n / b ^ k < d / b ^ k := by
  cases k with
  | zero =>
    rw [Nat.pow_zero, Nat.div_one, Nat.div_one]
    exact hnd
  | succ j =>
    have h1 := h.2 j (Nat.lt_succ_self j)
    have h2 : n / b ^ (j + 1) ≤ d / b ^ (j + 1) := Nat.div_le_div_right (Nat.le_of_lt hnd)
    omega
theorem IsLev.size {b n d k : Nat} (h : IsLev b n d k) (hb : 2 ≤ b) (hnd : n < d) : b ^ k ≤ d := by
  have h1 := h.ne hnd
  have h2 : 0 < d / b ^ k := Nat.lt_of_le_of_lt (Nat.zero_le _) h1
  exact (Nat.div_pos_iff.mp h2).2
theorem IsLev.digit {b n d k : Nat} (h : IsLev b n d k) (hnd : n < d) : n / b ^ k % b < d / b ^ k % b := by
  have h1 := h.ne hnd
  have h2 := h.1
  rw [div_succ, div_succ] at h2
  have e1 := Nat.div_add_mod (n / b ^ k) b
  have e2 := Nat.div_add_mod (d / b ^ k) b
  rw [h2] at e1
  omega
theorem pow_two_le {b : Nat} (hb : 2 ≤ b) (k : Nat) : 2 ^ k ≤ b ^ k := Nat.pow_le_pow_left hb k
theorem lev_small {b n d k t : Nat} (h : IsLev b n d k) (hb : 2 ≤ b) (hnd : n < d) (hd : d < 2 ^ t) : k < t := by
  have h1 := h.size hb hnd
  have h2 := pow_two_le hb k
  exact (Nat.pow_lt_pow_iff_right (by decide : 1 < 2)).mp (Nat.lt_of_le_of_lt (Nat.le_trans h2 h1) hd)
/-- cutting below: what two cuts beside one another differ by -/
theorem cut_step (b d k : Nat) : d / b ^ k * b ^ k = d / b ^ (k + 1) * b ^ (k + 1) + d / b ^ k % b * b ^ k := by
  rw [div_succ]
  have e := Nat.div_add_mod (d / b ^ k) b
  have e2 : b ^ (k + 1) = b * b ^ k := by rw [Nat.pow_succ, Nat.mul_comm]
  rw [e2, ← Nat.mul_assoc, ← Nat.add_mul, Nat.mul_comm (d / b ^ k / b) b, e]
theorem cut_le (b d k : Nat) : d / b ^ k * b ^ k ≤ d := Nat.div_mul_le_self d (b ^ k)
theorem cut_mono (b d : Nat) {j k : Nat} (h : j ≤ k) : d / b ^ k * b ^ k ≤ d / b ^ j * b ^ j := by
  induction k with
  | zero =>
    have e : j = 0 := by omega
    rw [e]
    exact Nat.le_refl _
  | succ k ih =>
    by_cases e : j = k + 1
    · rw [e]
      exact Nat.le_refl _
    · have h1 := ih (by omega)
      have h2 := cut_step b d k
      omega
theorem lt_cut {b n d k : Nat} (hb : 2 ≤ b) (h : n / b ^ k < d / b ^ k) : n < d / b ^ k * b ^ k := by
  have hp := pow_pos' hb k
  exact (Nat.div_lt_iff_lt_mul hp).mp h
theorem tail_len (b d : Nat) : ∀ k, (tailOf b d k).length ≤ k
  | 0 => Nat.le_refl _
  | k + 1 => by
    have ih := tail_len b d k
    unfold tailOf
    split
    · rw [List.length_cons]
      omega
    · omega
/-- a later tick that lies ahead of the next cut has the same level -/
theorem IsLev.later {b n d k t : Nat} (hb : 2 ≤ b) (h : IsLev b n d k) (hnd : n < d) (h1 : n ≤ t) (h2 : t < d / b ^ k * b ^ k) : IsLev b t d k := by
  have hp := pow_pos' hb k
  have hp1 := pow_pos' hb (k + 1)
  have htd : t < d := Nat.lt_of_lt_of_le h2 (cut_le b d k)
  refine ⟨?_, fun j hj => ?_⟩
  · have a1 : n / b ^ (k + 1) ≤ t / b ^ (k + 1) := Nat.div_le_div_right h1
    have a2 : t / b ^ (k + 1) ≤ d / b ^ (k + 1) := Nat.div_le_div_right (Nat.le_of_lt htd)
    have a3 := h.1
    omega
  · have a1 : t / b ^ k < d / b ^ k := (Nat.div_lt_iff_lt_mul hp).mpr h2
    intro e
    have e2 : k = (j + 1) + (k - (j + 1)) := by omega
    rw [e2, Nat.pow_add, ← Nat.div_div_eq_div_mul, ← Nat.div_div_eq_div_mul, e] at a1
    omega
/-! ### words of levels, sides -/
def lvV (b : Bool) : V := if b then .str "stack" else .str "queue"
def sdV (b : Bool) : V := if b then .str "front" else .str "back"
theorem lv_ne : ¬ (V.str "queue" = V.str "stack") := by decide
theorem lv_dec (b : Bool) : decide (lvV b = .str "stack") = b := by
  cases b
  · exact decide_eq_false lv_ne
  · exact decide_eq_true rfl
def wordAt (ws : List Bool) (k : Nat) : Bool := ws.getD (min k (ws.length - 1)) false
theorem word_get {ws : List Bool} (h : ws ≠ []) (k : Nat) : (ws.map lvV)[min k (ws.length - 1)]? = some (lvV (wordAt ws k)) := by
  have hl : min k (ws.length - 1) < ws.length := by
    have : 0 < ws.length := List.length_pos_iff.mpr h
    omega
  rw [List.getElem?_map, List.getElem?_eq_getElem hl]
  unfold wordAt
  rw [List.getD_eq_getElem?_getD, List.getElem?_eq_getElem hl]
  rfl
/-- whether an odd number of the rows, at levels from lo on, have the word stack -/
def frontOf (ws : List Bool) (lo : Nat) (rs : List Row3) : Bool := decide (rs.countP (fun r => decide (lo ≤ r.1) && wordAt ws r.1) % 2 = 1)
theorem odd_succ (c : Nat) : decide ((c + 1) % 2 = 1) = !decide (c % 2 = 1) := by
  by_cases h : c % 2 = 1
  · rw [decide_eq_true h, decide_eq_false (by omega)]
    rfl
  · rw [decide_eq_false h, decide_eq_true (by omega)]
    rfl
theorem front_snoc (ws : List Bool) (lo : Nat) (rs : List Row3) (r : Row3) : frontOf ws lo (rs ++ [r]) = if (decide (lo ≤ r.1) && wordAt ws r.1) = true then !frontOf ws lo rs else frontOf ws lo rs := by
  unfold frontOf
  rw [List.countP_append, List.countP_singleton]
  split
  · exact odd_succ _
  · rw [Nat.add_zero]
/-! ### the wheel as plain data -/
structure Tm where
  num : Nat
  due : Nat
  per : Option Nat
  since : Nat
def perV : Option Nat → V
  | none => .non
  | some k => .int (k : Nat)
def tmV (m : Tm) : List V := [.int (m.due : Nat), perV m.per, .int (m.since : Nat)]
open Classical in
noncomputable def sideT (b : Nat) (ws : List Bool) (n d lo : Nat) : Bool := if h : ∃ k, IsLev b n d k then frontOf ws lo (rowsOf b n d (Classical.choose h)) else false
theorem sideT_eq {b : Nat} {ws : List Bool} {n d lo k : Nat} (h : IsLev b n d k) : sideT b ws n d lo = frontOf ws lo (rowsOf b n d k) := by
  have e : ∃ k, IsLev b n d k := ⟨k, h⟩
  unfold sideT
  rw [dif_pos e, (Classical.choose_spec e).uniq h]
def insT (front : Bool) (n : Nat) (l : List Nat) : List Nat := if front then n :: l else l ++ [n]
noncomputable def orderAt (b : Nat) (ws : List Bool) (t : Nat) (ms : List Tm) : List Nat := ms.foldl (fun acc m => if m.due = t then insT (sideT b ws m.since m.due 0) m.num acc else acc) []
theorem order_snoc (b : Nat) (ws : List Bool) (t : Nat) (ms : List Tm) (m : Tm) : orderAt b ws t (ms ++ [m]) = if m.due = t then insT (sideT b ws m.since m.due 0) m.num (orderAt b ws t ms) else orderAt b ws t ms := by
  unfold orderAt
  rw [List.foldl_append]
  rfl
theorem insT_len (f : Bool) (n : Nat) (l : List Nat) : (insT f n l).length = l.length + 1 := by
  unfold insT
  split
  · rfl
  · rw [List.length_append]
    rfl
theorem insT_mem {f : Bool} {n x : Nat} {l : List Nat} : x ∈ insT f n l ↔ x = n ∨ x ∈ l := by
  unfold insT
  split
  · rw [List.mem_cons]
  · rw [List.mem_append, List.mem_singleton]
    exact Or.comm
theorem order_spec (b : Nat) (ws : List Bool) (t : Nat) (ms : List Tm) : ∀ n : Nat, (orderAt b ws t (ms.take n)).length = ((ms.take n).filter fun m => decide (m.due = t)).length ∧ ∀ x, x ∈ orderAt b ws t (ms.take n) ↔ ∃ m ∈ ms.take n, m.due = t ∧ m.num = x := by
  intro n
  induction n with
  | zero =>
    refine ⟨rfl, fun x => ?_⟩
    simp [orderAt]
  | succ n ih =>
    cases e : ms[n]? with
    | none =>
      have hl : ms.length ≤ n := List.getElem?_eq_none_iff.mp e
      rw [List.take_of_length_le (by omega)]
      rw [List.take_of_length_le hl] at ih
      exact ih
    | some m =>
      rw [List.take_add_one, e]
      show (orderAt b ws t (ms.take n ++ [m])).length = _ ∧ ∀ x, x ∈ orderAt b ws t (ms.take n ++ [m]) ↔ ∃ m' ∈ ms.take n ++ [m], _
      rw [order_snoc]
      rw [Option.toList_some, List.filter_append, List.length_append]
      by_cases h : m.due = t
      · rw [if_pos h, insT_len, ih.1]
        refine ⟨by simp [h], fun x => ?_⟩
        rw [insT_mem, ih.2 x]
        constructor
        · rintro (e | ⟨m', h1, h2⟩)
          · exact ⟨m, by simp, h, e.symm⟩
          · exact ⟨m', List.mem_append_left _ h1, h2⟩
        · rintro ⟨m', h1, h2, h3⟩
          rcases List.mem_append.mp h1 with h1 | h1
          · exact .inr ⟨m', h1, h2, h3⟩
          · rw [List.mem_singleton.mp h1] at h3
            exact .inl h3.symm
      · rw [if_neg h, ih.1]
        refine ⟨by simp [h], fun x => ?_⟩
        rw [ih.2 x]
        constructor
        · rintro ⟨m', h1, h2⟩
          exact ⟨m', List.mem_append_left _ h1, h2⟩
        · rintro ⟨m', h1, h2, h3⟩
          rcases List.mem_append.mp h1 with h1 | h1
          · exact ⟨m', h1, h2, h3⟩
          · rw [List.mem_singleton.mp h1] at h2
            exact absurd h2 h
theorem order_len (b : Nat) (ws : List Bool) (t : Nat) (ms : List Tm) : (orderAt b ws t ms).length = (ms.filter fun m => decide (m.due = t)).length := by
  have z := (order_spec b ws t ms ms.length).1
  rw [List.take_length] at z
  exact z
theorem order_mem {b : Nat} {ws : List Bool} {t : Nat} {ms : List Tm} {x : Nat} : x ∈ orderAt b ws t ms ↔ ∃ m ∈ ms, m.due = t ∧ m.num = x := by
  have z := (order_spec b ws t ms ms.length).2 x
  rw [List.take_length] at z
  exact z
def dropT (n : Nat) (ms : List Tm) : List Tm := ms.filter fun m => decide (m.num ≠ n)
/-- a timer fires: it goes, and comes back at the end if it has a period -/
def fireT (t : Nat) (ms : List Tm) (n : Nat) : List Tm := match ms.find? fun m => decide (m.num = n) with
  | none => ms
  | some m => match m.per with
    | none => dropT n ms
    | some k => dropT n ms ++ [⟨n, t + k, some k, t⟩]
def afterF (t : Nat) (ms : List Tm) (ns : List Nat) : List Tm := ns.foldl (fireT t) ms
def leastD (ms : List Tm) : Option Nat := (ms.map (·.due)).min?
theorem least_none {ms : List Tm} : leastD ms = none ↔ ms = [] := by
  unfold leastD
  rw [List.min?_eq_none_iff, List.map_eq_nil_iff]
theorem least_some {ms : List Tm} {v : Nat} : leastD ms = some v ↔ v ∈ ms.map (·.due) ∧ ∀ x ∈ ms.map (·.due), v ≤ x := by
  unfold leastD
  exact List.min?_eq_some_iff
structure WS where
  b : Nat
  ws : List Bool
  tick : Nat
  fol : Nat
  live : List Tm
/-- live timers as they may stand at a tick -/
structure TOk (tick fol : Nat) (m : Tm) : Prop where
  since : m.since ≤ tick
  due : tick < m.due
  big : m.due < 2 ^ 250
  num : m.num < fol
  per : ∀ k, m.per = some k → 1 ≤ k
structure WOk (W : WS) : Prop where
  b2 : 2 ≤ W.b
  b64 : W.b ≤ 64
  ne : W.ws ≠ []
  l60 : W.ws.length ≤ 60
  tms : ∀ m ∈ W.live, TOk W.tick W.fol m
  nd : (W.live.map (·.num)).Nodup
  few : W.live.length ≤ 1000
/-- what an advance to t lets fire, step by step -/
inductive AdvTo (b : Nat) (ws : List Bool) (t : Nat) : List Tm → List (Nat × List Nat) → List Tm → Prop where
  | done {ms : List Tm} (h : ∀ m ∈ ms, t < m.due) : AdvTo b ws t ms [] ms
  | step {ms ms' : List Tm} {at_ : Nat} {rest : List (Nat × List Nat)} (h : leastD ms = some at_) (hle : at_ ≤ t) (ok : ∀ m ∈ ms, m.since < m.due ∧ m.due < 2 ^ 250) (nd : (ms.map (·.num)).Nodup) (few : ms.length ≤ 1000)
    (r : AdvTo b ws t (afterF at_ ms (orderAt b ws at_ ms)) rest ms') : AdvTo b ws t ms ((at_, orderAt b ws at_ ms) :: rest) ms'
open Classical in
/-- the tick at which a timer leaves the list in which it stands at n -/
noncomputable def evT (b n d : Nat) : Nat := if h : ∃ k, IsLev b n d k then d / b ^ Classical.choose h * b ^ Classical.choose h else 0
theorem evT_eq {b n d k : Nat} (h : IsLev b n d k) : evT b n d = d / b ^ k * b ^ k := by
  have e : ∃ k, IsLev b n d k := ⟨k, h⟩
  unfold evT
  rw [dif_pos e, (Classical.choose_spec e).uniq h]
noncomputable def nextE (b n : Nat) (ms : List Tm) : Option Nat := (ms.map fun m => evT b n m.due).min?
def total (fs : List (Nat × List Nat)) : Nat := (fs.map fun f => f.2.length).sum
theorem order_pos {b : Nat} {ws : List Bool} {t : Nat} {ms : List Tm} (h : leastD ms = some t) : 0 < (orderAt b ws t ms).length := by
  obtain ⟨m, hm, e⟩ := List.mem_map.mp (least_some.mp h).1
  have z : m.num ∈ orderAt b ws t ms := order_mem.mpr ⟨m, hm, e, rfl⟩
  exact List.length_pos_of_mem z
theorem insT_nodup {f : Bool} {n : Nat} {l : List Nat} (h : l.Nodup) (hn : n ∉ l) : (insT f n l).Nodup := by
  unfold insT
  split
  · exact List.nodup_cons.mpr ⟨hn, h⟩
  · exact L2.nd_snoc h hn
theorem order_nodup {b : Nat} {ws : List Bool} {t : Nat} {ms : List Tm} (nd : (ms.map (·.num)).Nodup) : (orderAt b ws t ms).Nodup := by
  suffices H : ∀ n : Nat, (orderAt b ws t (ms.take n)).Nodup by
    have z := H ms.length
    rw [List.take_length] at z
    exact z
  intro n
  induction n with
  | zero => exact List.nodup_nil
  | succ n ih =>
    cases e : ms[n]? with
    | none =>
      have hl : ms.length ≤ n := List.getElem?_eq_none_iff.mp e
      rw [List.take_of_length_le (by omega)]
      rw [List.take_of_length_le hl] at ih
      exact ih
    | some m =>
      rw [List.take_add_one, e]
      show (orderAt b ws t (ms.take n ++ [m])).Nodup
      rw [order_snoc]
      split
      · refine insT_nodup ih fun hm => ?_
        obtain ⟨m', h1, _, h3⟩ := order_mem.mp hm
        obtain ⟨i, hi⟩ := List.getElem?_of_mem h1
        rw [List.getElem?_take] at hi
        split at hi
        · rename_i hlt
          have a1 : (ms.map (·.num))[i]? = some m.num := by rw [List.getElem?_map, hi, ← h3]; rfl
          have a2 : (ms.map (·.num))[n]? = some m.num := by rw [List.getElem?_map, e]; rfl
          have z := (List.getElem?_inj (List.getElem?_eq_some_iff.mp a1).1 nd).mp (a1.trans a2.symm)
          omega
        · cases hi
      · exact ih
/-! ### the lists of a wheel -/
abbrev Cell := (Nat × Nat) × List Nat
def keyC (p : Nat × Nat) : List Key := [Sum.inl (p.1 : Int), Sum.inl (p.2 : Int)]
theorem keyC_inj {p q : Nat × Nat} : keyC p = keyC q ↔ p = q := by
  constructor
  · intro h
    unfold keyC at h
    obtain ⟨h1, h2⟩ := List.cons.inj h
    have a := Int.ofNat.inj (Sum.inl.inj h1)
    have b := Int.ofNat.inj (Sum.inl.inj (List.cons.inj h2).1)
    exact Prod.ext a b
  · intro h
    rw [h]
def cellV : List Cell → Nat × Nat → List Nat
  | [], _ => []
  | c :: cs, p => if c.1 = p then c.2 else cellV cs p
def cellPut (rs : List Cell) (p : Nat × Nat) (ns : List Nat) : List Cell := if (rs.any fun c => decide (c.1 = p)) = true then rs.map (fun c => if c.1 = p then (c.1, ns) else c) else rs ++ [(p, ns)]
theorem cellV_map {p q : Nat × Nat} {ns : List Nat} : ∀ rs : List Cell, cellV (rs.map fun c => if c.1 = p then (c.1, ns) else c) q = if p = q ∧ (rs.any fun c => decide (c.1 = p)) = true then ns else cellV rs q
  | [] => by simp [cellV]
  | c :: cs => by
    have ih := cellV_map (p := p) (q := q) (ns := ns) cs
    rw [List.map_cons]
    by_cases h : c.1 = p
    · rw [if_pos h]
      by_cases h2 : p = q
      · have e : c.1 = q := h.trans h2
        rw [if_pos ⟨h2, by rw [List.any_cons, decide_eq_true h]; rfl⟩]
        show (if c.1 = q then ns else _) = ns
        rw [if_pos e]
      · have e : ¬ c.1 = q := fun z => h2 (h.symm.trans z)
        rw [if_neg (fun z => h2 z.1)]
        rw [if_neg (fun z => h2 z.1)] at ih
        show (if c.1 = q then ns else _) = if c.1 = q then c.2 else cellV cs q
        rw [if_neg e, if_neg e]
        exact ih
    · rw [if_neg h, List.any_cons, decide_eq_false h, Bool.false_or]
      show (if c.1 = q then c.2 else _) = _
      by_cases h2 : c.1 = q
      · have e : ¬ p = q := fun z => h (h2.trans z.symm)
        rw [if_pos h2, if_neg (fun z => e z.1)]
        show c.2 = if c.1 = q then c.2 else cellV cs q
        rw [if_pos h2]
      · rw [if_neg h2, ih]
        show _ = if _ then ns else (if c.1 = q then c.2 else cellV cs q)
        rw [if_neg h2]
theorem cellV_snoc {p q : Nat × Nat} {ns : List Nat} : ∀ rs : List Cell, (rs.any fun c => decide (c.1 = p)) = false → cellV (rs ++ [(p, ns)]) q = if p = q then ns else cellV rs q
  | [], _ => rfl
  | c :: cs, h => by
    rw [List.any_cons, Bool.or_eq_false_iff] at h
    have ih := cellV_snoc (q := q) (ns := ns) cs h.2
    have hc : ¬ c.1 = p := of_decide_eq_false h.1
    show (if c.1 = q then c.2 else cellV (cs ++ [(p, ns)]) q) = if p = q then ns else (if c.1 = q then c.2 else cellV cs q)
    rw [ih]
    by_cases h2 : p = q
    · rw [if_pos h2, if_pos h2, if_neg fun z => hc (z.trans h2.symm)]
    · rw [if_neg h2, if_neg h2]
theorem cellV_put {rs : List Cell} {p q : Nat × Nat} {ns : List Nat} : cellV (cellPut rs p ns) q = if p = q then ns else cellV rs q := by
  unfold cellPut
  by_cases h : (rs.any fun c => decide (c.1 = p)) = true
  · rw [if_pos h, cellV_map]
    by_cases h2 : p = q
    · rw [if_pos ⟨h2, h⟩, if_pos h2]
    · rw [if_neg (fun z => h2 z.1), if_neg h2]
  · rw [if_neg h]
    exact cellV_snoc rs (Bool.eq_false_iff.mpr h)
theorem cellPut_len (rs : List Cell) (p : Nat × Nat) (ns : List Nat) : (cellPut rs p ns).length ≤ rs.length + 1 := by
  unfold cellPut
  split
  · rw [List.length_map]
    omega
  · rw [List.length_append]
    exact Nat.le_refl _
theorem cellPut_keys {rs : List Cell} {p : Nat × Nat} {ns : List Nat} (nd : (rs.map (·.1)).Nodup) : ((cellPut rs p ns).map (·.1)).Nodup := by
  unfold cellPut
  by_cases h : (rs.any fun c => decide (c.1 = p)) = true
  · rw [if_pos h, List.map_map]
    have e : rs.map ((fun c : Cell => c.1) ∘ fun c => if c.1 = p then (c.1, ns) else c) = rs.map (·.1) := List.map_congr_left fun c _ => by
      show (if c.1 = p then (c.1, ns) else c).1 = c.1
      split <;> rfl
    rw [e]
    exact nd
  · rw [if_neg h, List.map_append]
    refine L2.nd_snoc nd fun hm => h ?_
    obtain ⟨c, hc, e⟩ := List.mem_map.mp hm
    exact List.any_eq_true.mpr ⟨c, hc, decide_eq_true e⟩
open Classical in
noncomputable def levT (b n d : Nat) : Nat := if h : ∃ k, IsLev b n d k then Classical.choose h else 0
theorem levT_eq {b n d k : Nat} (h : IsLev b n d k) : levT b n d = k := by
  have e : ∃ k, IsLev b n d k := ⟨k, h⟩
  unfold levT
  rw [dif_pos e]
  exact (Classical.choose_spec e).uniq h
noncomputable def placeT (b t d : Nat) : Nat × Nat := (levT b t d, d / b ^ levT b t d % b)
noncomputable def standStep (b : Nat) (ws : List Bool) (t : Nat) (rs : List Cell) (m : Tm) : List Cell :=
  if t < m.due then cellPut rs (placeT b t m.due) (insT (sideT b ws m.since m.due (levT b t m.due)) m.num (cellV rs (placeT b t m.due))) else rs
noncomputable def standD (b : Nat) (ws : List Bool) (t : Nat) (ms : List Tm) : List Cell := ms.foldl (standStep b ws t) []
theorem stand_snoc (b : Nat) (ws : List Bool) (t : Nat) (ms : List Tm) (m : Tm) : standD b ws t (ms ++ [m]) = standStep b ws t (standD b ws t ms) m := by
  unfold standD
  rw [List.foldl_append]
  rfl
theorem stand_bounds (b : Nat) (ws : List Bool) (t : Nat) (ms : List Tm) : ∀ n : Nat, n ≤ ms.length → (standD b ws t (ms.take n)).length ≤ n ∧ (∀ p, (cellV (standD b ws t (ms.take n)) p).length ≤ n) ∧ ((standD b ws t (ms.take n)).map (·.1)).Nodup := by
  intro n
  induction n with
  | zero => exact fun _ => ⟨Nat.le_refl _, fun p => Nat.le_refl _, List.nodup_nil⟩
  | succ n ih =>
    intro hn
    obtain ⟨h1, h2, h3⟩ := ih (by omega)
    have e : ms[n]? = some ms[n] := List.getElem?_eq_getElem (by omega)
    rw [List.take_add_one, e]
    show (standD b ws t (ms.take n ++ [ms[n]])).length ≤ _ ∧ (∀ p, (cellV (standD b ws t (ms.take n ++ [ms[n]])) p).length ≤ _) ∧ ((standD b ws t (ms.take n ++ [ms[n]])).map _).Nodup
    rw [stand_snoc]
    unfold standStep
    split
    · refine ⟨Nat.le_trans (cellPut_len _ _ _) (by omega), fun p => ?_, cellPut_keys h3⟩
      rw [cellV_put]
      split
      · rw [insT_len]
        have z := h2 (placeT b t (ms[n]).due)
        omega
      · have z := h2 p
        omega
    · exact ⟨by omega, fun p => by have z := h2 p; omega, h3⟩
/-- the cells of a dict on the heap -/
def CellsAt (H : Hp) : List (List Key × V) → List Cell → Prop
  | [], [] => True
  | kv :: kvs, c :: cs => kv.1 = keyC c.1 ∧ (∃ a, kv.2 = .ref a ∧ H a = some (.lst (c.2.map fun x => V.int (x : Nat)))) ∧ CellsAt H kvs cs
  | _, _ => False
theorem CellsAt.frame {H H' : Hp} (s : ∀ a xs, H a = some (.lst xs) → H' a = some (.lst xs)) : ∀ {kvs : List (List Key × V)} {rs : List Cell}, CellsAt H kvs rs → CellsAt H' kvs rs
  | [], [], _ => trivial
  | _ :: _, _ :: _, ⟨h1, ⟨a, h2, h3⟩, h4⟩ => ⟨h1, ⟨a, h2, s _ _ h3⟩, h4.frame s⟩
  | [], _ :: _, h => h.elim
  | _ :: _, [], h => h.elim
theorem CellsAt.len {H : Hp} : ∀ {kvs : List (List Key × V)} {rs : List Cell}, CellsAt H kvs rs → kvs.length = rs.length
  | [], [], _ => rfl
  | _ :: _, _ :: _, h => congrArg Nat.succ h.2.2.len
  | [], _ :: _, h => h.elim
  | _ :: _, [], h => h.elim
theorem CellsAt.keys {H : Hp} : ∀ {kvs : List (List Key × V)} {rs : List Cell}, CellsAt H kvs rs → kvs.map (·.1) = (rs.map fun c => ((c.1.1 : Int), (c.1.2 : Int))).map fun p => [Sum.inl p.1, Sum.inl p.2]
  | [], [], _ => rfl
  | kv :: kvs, c :: cs, h => by
    rw [List.map_cons, List.map_cons, List.map_cons, h.1, h.2.2.keys]
    rfl
  | [], _ :: _, h => h.elim
  | _ :: _, [], h => h.elim
theorem CellsAt.val {H : Hp} {p : Nat × Nat} : ∀ {kvs : List (List Key × V)} {rs : List Cell}, CellsAt H kvs rs → (valV kvs (keyC p) = none ∧ cellV rs p = []) ∨ ∃ a, valV kvs (keyC p) = some (.ref a) ∧ H a = some (.lst ((cellV rs p).map fun x => V.int (x : Nat)))
  | [], [], _ => .inl ⟨rfl, rfl⟩
  | kv :: kvs, c :: cs, h => by
    obtain ⟨h1, ⟨a, h2, h3⟩, h4⟩ := h
    by_cases e : c.1 = p
    · refine .inr ⟨a, ?_, ?_⟩
      · rw [valV_pos (h1.trans (keyC_inj.mpr e)), h2]
      · show H a = some (.lst ((if c.1 = p then c.2 else cellV cs p).map _))
        rw [if_pos e]
        exact h3
    · have e1 : ¬ kv.1 = keyC p := fun z => e (keyC_inj.mp (h1.symm.trans z))
      rw [valV_neg e1]
      show _ ∧ (if c.1 = p then c.2 else cellV cs p) = [] ∨ ∃ a, _ ∧ H a = some (.lst ((if c.1 = p then c.2 else cellV cs p).map _))
      rw [if_neg e]
      exact h4.val
  | [], _ :: _, h => h.elim
  | _ :: _, [], h => h.elim
theorem CellsAt.val_mem {H : Hp} {p : Nat × Nat} : ∀ {kvs : List (List Key × V)} {rs : List Cell}, CellsAt H kvs rs → p ∈ rs.map (·.1) → ∃ a, valV kvs (keyC p) = some (.ref a) ∧ H a = some (.lst ((cellV rs p).map fun x => V.int (x : Nat)))
  | [], [], _, h => by cases h
  | kv :: kvs, c :: cs, h, hm => by
    obtain ⟨h1, ⟨a, h2, h3⟩, h4⟩ := h
    by_cases e : c.1 = p
    · refine ⟨a, ?_, ?_⟩
      · rw [valV_pos (h1.trans (keyC_inj.mpr e)), h2]
      · show H a = some (.lst ((if c.1 = p then c.2 else cellV cs p).map _))
        rw [if_pos e]
        exact h3
    · have e1 : ¬ kv.1 = keyC p := fun z => e (keyC_inj.mp (h1.symm.trans z))
      rw [valV_neg e1]
      show ∃ a, _ ∧ H a = some (.lst ((if c.1 = p then c.2 else cellV cs p).map _))
      rw [if_neg e]
      refine h4.val_mem ?_
      rw [List.map_cons] at hm
      rcases List.mem_cons.mp hm with z | z
      · exact absurd z.symm e
      · exact z
  | [], _ :: _, h, _ => h.elim
  | _ :: _, [], h, _ => h.elim
theorem CellsAt.any {H : Hp} {p : Nat × Nat} : ∀ {kvs : List (List Key × V)} {rs : List Cell}, CellsAt H kvs rs → (kvs.any fun kv => decide (kv.1 = keyC p)) = rs.any fun c => decide (c.1 = p)
  | [], [], _ => rfl
  | kv :: kvs, c :: cs, h => by
    rw [List.any_cons, List.any_cons, h.2.2.any]
    have e : (decide (kv.1 = keyC p)) = decide (c.1 = p) := decide_eq_decide.mpr (by rw [h.1]; exact keyC_inj)
    rw [e]
  | [], _ :: _, h => h.elim
  | _ :: _, [], h => h.elim
theorem CellsAt.mapd {H : Hp} {p : Nat × Nat} {a : Addr} {ns : List Nat} (ha : H a = some (.lst (ns.map fun x => V.int (x : Nat)))) : ∀ {kvs : List (List Key × V)} {rs : List Cell}, CellsAt H kvs rs → CellsAt H (kvs.map fun kv => if kv.1 = keyC p then (kv.1, .ref a) else kv) (rs.map fun c => if c.1 = p then (c.1, ns) else c)
  | [], [], _ => trivial
  | kv :: kvs, c :: cs, h => by
    obtain ⟨h1, h2, h4⟩ := h
    rw [List.map_cons, List.map_cons]
    by_cases e : c.1 = p
    · rw [if_pos e, if_pos (h1.trans (keyC_inj.mpr e))]
      exact ⟨h1, ⟨a, rfl, ha⟩, h4.mapd ha⟩
    · rw [if_neg e, if_neg fun z => e (keyC_inj.mp (h1.symm.trans z))]
      exact ⟨h1, h2, h4.mapd ha⟩
  | [], _ :: _, h => h.elim
  | _ :: _, [], h => h.elim
theorem CellsAt.snoc {H : Hp} {p : Nat × Nat} {a : Addr} {ns : List Nat} (ha : H a = some (.lst (ns.map fun x => V.int (x : Nat)))) : ∀ {kvs : List (List Key × V)} {rs : List Cell}, CellsAt H kvs rs → CellsAt H (kvs ++ [(keyC p, .ref a)]) (rs ++ [(p, ns)])
  | [], [], _ => ⟨rfl, ⟨a, rfl, ha⟩, trivial⟩
  | _ :: _, _ :: _, h => ⟨h.1, h.2.1, h.2.2.snoc ha⟩
  | [], _ :: _, h => h.elim
  | _ :: _, [], h => h.elim
theorem CellsAt.put {H : Hp} {p : Nat × Nat} {a : Addr} {ns : List Nat} (ha : H a = some (.lst (ns.map fun x => V.int (x : Nat)))) {kvs : List (List Key × V)} {rs : List Cell} (h : CellsAt H kvs rs) : CellsAt H (putK kvs (keyC p) (.ref a)) (cellPut rs p ns) := by
  unfold putK cellPut
  rw [h.any]
  split
  · exact h.mapd ha
  · exact h.snoc ha
/-! ### levels and events of timers -/
theorem least_nat {p : Nat → Prop} : ∀ n : Nat, p n → ∃ k, p k ∧ ∀ j, j < k → ¬ p j
  | 0, h => ⟨0, h, fun j hj => absurd hj (Nat.not_lt_zero j)⟩
  | n + 1, h => by
    by_cases c : ∃ m, m ≤ n ∧ p m
    · obtain ⟨m, hm, hp⟩ := c
      exact Classical.byContradiction fun no => by
        have all : ∀ k, ∀ j, j < k → ¬ p j := fun k => by
          induction k with
          | zero => exact fun j hj => absurd hj (Nat.not_lt_zero j)
          | succ k ih =>
            intro j hj
            by_cases e : j = k
            · intro hp'
              exact no ⟨k, by rw [← e]; exact hp', ih⟩
            · exact ih j (by omega)
        exact all (m + 1) m (Nat.lt_succ_self m) hp
    · exact ⟨n + 1, h, fun j hj hp => c ⟨j, Nat.le_of_lt_succ hj, hp⟩⟩
theorem lev_exists {b n d : Nat} (hb : 2 ≤ b) (h : n < d) : ∃ k, IsLev b n d k := by
  have big : d < b ^ (d + 1) := Nat.lt_of_lt_of_le (Nat.lt_of_lt_of_le Nat.lt_two_pow_self (Nat.pow_le_pow_right (by decide) (Nat.le_succ d))) (pow_two_le hb (d + 1))
  obtain ⟨k, h1, h2⟩ := least_nat (p := fun k => n / b ^ (k + 1) = d / b ^ (k + 1)) d (by
    show n / b ^ (d + 1) = d / b ^ (d + 1)
    rw [Nat.div_eq_of_lt big, Nat.div_eq_of_lt (Nat.lt_trans h big)])
  exact ⟨k, h1, h2⟩
theorem levT_is {b n d : Nat} (hb : 2 ≤ b) (h : n < d) : IsLev b n d (levT b n d) := by
  obtain ⟨k, hk⟩ := lev_exists hb h
  rw [levT_eq hk]
  exact hk
theorem evT_is {b n d : Nat} (hb : 2 ≤ b) (h : n < d) : evT b n d = d / b ^ levT b n d * b ^ levT b n d := evT_eq (levT_is hb h)
theorem evT_le {b n d : Nat} (hb : 2 ≤ b) (h : n < d) : evT b n d ≤ d := by
  rw [evT_is hb h]
  exact cut_le b d _
theorem evT_gt {b n d : Nat} (hb : 2 ≤ b) (h : n < d) : n < evT b n d := by
  rw [evT_is hb h]
  have hk := levT_is hb h
  generalize levT b n d = k at hk ⊢
  exact (Nat.div_lt_iff_lt_mul (pow_pos' hb k)).mp (hk.ne h)
/-- ahead of its event a timer stands where it stood -/
theorem lev_stays {b n d t : Nat} (hb : 2 ≤ b) (h : n < d) (h1 : n ≤ t) (h2 : t < evT b n d) : t < d ∧ levT b t d = levT b n d := by
  refine ⟨Nat.lt_of_lt_of_le h2 (evT_le hb h), ?_⟩
  rw [evT_is hb h] at h2
  exact levT_eq ((levT_is hb h).later hb h h1 h2)
/-- at its event it stands at a lower level -/
theorem lev_drops {b n d : Nat} (hb : 2 ≤ b) (h : n < d) (h2 : evT b n d < d) : levT b (evT b n d) d < levT b n d := by
  have hk := levT_is hb h
  have hk' := levT_is hb h2
  have e := evT_is hb h
  generalize levT b n d = k at hk e ⊢
  generalize levT b (evT b n d) d = k' at hk' ⊢
  have same : evT b n d / b ^ k = d / b ^ k := by
    rw [e, Nat.mul_div_cancel _ (pow_pos' hb k)]
  refine Classical.byContradiction fun no => ?_
  by_cases c : k' = k
  · subst c
    have z := hk'.ne h2
    omega
  · cases k with
    | zero =>
      rw [Nat.pow_zero, Nat.div_one, Nat.div_one] at same
      omega
    | succ j => exact hk'.2 j (by omega) same
/-! ### the law's own wheel: lists built at two ends -/
def insM (w : Bool) (m : Tm) (l : List Tm) : List Tm := if w then m :: l else l ++ [m]
def deq (f : Tm → Bool) (l : List Tm) : List Tm := (l.filter f).reverse ++ l.filter fun m => !f m
theorem deq_snoc (f : Tm → Bool) (l : List Tm) (m : Tm) : deq f (l ++ [m]) = insM (f m) m (deq f l) := by
  unfold deq insM
  rw [List.filter_append, List.filter_append]
  cases h : f m with
  | true => simp [h]
  | false => simp [h]
theorem deq_filter (f p : Tm → Bool) (l : List Tm) : (deq f l).filter p = deq f (l.filter p) := by
  unfold deq
  rw [List.filter_append, List.filter_reverse, List.filter_filter, List.filter_filter, List.filter_filter, List.filter_filter]
  have e : ∀ q : Tm → Bool, (fun m => p m && q m) = fun m => q m && p m := fun q => funext fun m => Bool.and_comm _ _
  rw [e, e]
theorem deq_false (l : List Tm) : deq (fun _ => false) l = l := by
  show (l.filter fun _ => false).reverse ++ l.filter (fun _ => true) = l
  rw [List.filter_eq_nil_iff.mpr (fun _ _ => Bool.false_ne_true), List.filter_eq_self.mpr (fun _ _ => rfl)]
  rfl
theorem deq_true (l : List Tm) : deq (fun _ => true) l = l.reverse := by
  show (l.filter fun _ => true).reverse ++ l.filter (fun _ => false) = _
  rw [List.filter_eq_nil_iff.mpr (fun _ _ => Bool.false_ne_true), List.filter_eq_self.mpr (fun _ _ => rfl), List.append_nil]
theorem deq_congr {f g : Tm → Bool} {l : List Tm} (h : ∀ m ∈ l, f m = g m) : deq f l = deq g l := by
  unfold deq
  rw [List.filter_congr h, List.filter_congr (p := fun m => !f m) (q := fun m => !g m) fun m hm => by rw [h m hm]]
theorem deq_deq (w : Bool) (f : Tm → Bool) (l : List Tm) : deq (fun _ => w) (deq f l) = deq (fun m => Bool.xor (f m) w) l := by
  cases w with
  | false =>
    rw [deq_false]
    exact deq_congr fun m _ => (Bool.xor_false _).symm
  | true =>
    rw [deq_true]
    unfold deq
    rw [List.reverse_append, List.reverse_reverse]
    have e1 : l.filter (fun m => Bool.xor (f m) true) = l.filter fun m => !f m := List.filter_congr fun m _ => Bool.xor_true _
    have e2 : l.filter (fun m => !Bool.xor (f m) true) = l.filter f := List.filter_congr fun m _ => by rw [Bool.xor_true, Bool.not_not]
    rw [e1, e2]
theorem mem_deq {f : Tm → Bool} {l : List Tm} {m : Tm} : m ∈ deq f l ↔ m ∈ l := by
  unfold deq
  rw [List.mem_append, List.mem_reverse, List.mem_filter, List.mem_filter]
  cases h : f m <;> simp
theorem deq_perm (f : Tm → Bool) (l : List Tm) : (deq f l).Perm l := by
  unfold deq
  exact ((List.reverse_perm _).append_right _).trans (List.filter_append_perm f l)
theorem deq_len (f : Tm → Bool) (l : List Tm) : (deq f l).length = l.length := (deq_perm f l).length_eq
theorem ins_len (w : Bool) (m : Tm) (l : List Tm) : (insM w m l).length = l.length + 1 := by
  unfold insM
  split
  · rfl
  · rw [List.length_append]
    rfl
theorem ins_fold (w : Bool) (l : List Tm) : l.foldl (fun a m => insM w m a) [] = deq (fun _ => w) l := by
  suffices H : ∀ (r : List Tm), l.foldl (fun a m => insM w m a) (deq (fun _ => w) r) = deq (fun _ => w) (r ++ l) by
    have z := H []
    rw [List.nil_append] at z
    exact z
  induction l with
  | nil =>
    intro r
    rw [List.append_nil]
    rfl
  | cons m l ih =>
    intro r
    rw [List.foldl_cons, ← deq_snoc (fun _ => w), ih, List.append_assoc]
    rfl
theorem ins_deq (f : Tm → Bool) (w : Bool) (l : List Tm) (h : ∀ m ∈ l, f m = w) : ∀ r : List Tm, l.foldl (fun a m => insM w m a) (deq f r) = deq f (r ++ l) := by
  induction l with
  | nil =>
    intro r
    rw [List.append_nil]
    rfl
  | cons m l ih =>
    intro r
    rw [List.foldl_cons, ← h m (List.mem_cons_self ..), ← deq_snoc, h m (List.mem_cons_self ..), ih fun x hx => h x (List.mem_cons_of_mem _ hx)]
    rw [List.append_assoc]
    rfl
/-! ### sides, digit by digit -/
def cntS (ws : List Bool) (b d lo k : Nat) : Nat := (tailOf b d k).countP fun r => decide (lo ≤ r.1) && wordAt ws r.1
theorem cntS_succ (ws : List Bool) (b d lo k : Nat) : cntS ws b d lo (k + 1) = cntS ws b d lo k + if d / b ^ k % b ≠ 0 ∧ lo ≤ k ∧ wordAt ws k = true then 1 else 0 := by
  unfold cntS
  show (if d / b ^ k % b ≠ 0 then (k, d / b ^ k % b, d / b ^ (k + 1) * b ^ (k + 1)) :: tailOf b d k else tailOf b d k).countP _ = _
  by_cases h : d / b ^ k % b ≠ 0
  · rw [if_pos h, List.countP_cons]
    congr 1
    by_cases h1 : lo ≤ k
    · cases h2 : wordAt ws k with
      | true => rw [if_pos (by simp [h1, h2]), if_pos ⟨h, h1, rfl⟩]
      | false => rw [if_neg (by simp [h2]), if_neg (fun z => by cases z.2.2)]
    · rw [if_neg (by simp [h1]), if_neg (fun z => h1 z.2.1)]
  · rw [if_neg h, if_neg fun z => h z.1, Nat.add_zero]
theorem cntS_high {ws : List Bool} {b d lo : Nat} : ∀ k, k ≤ lo → cntS ws b d lo k = 0
  | 0, _ => rfl
  | k + 1, h => by
    rw [cntS_succ, cntS_high k (by omega), if_neg (fun z => by omega)]
theorem cntS_skip {ws : List Bool} {b d lo lo' : Nat} (h : lo ≤ lo') (h0 : ∀ i, lo ≤ i → i < lo' → d / b ^ i % b = 0) : ∀ k, cntS ws b d lo k = cntS ws b d lo' k
  | 0 => rfl
  | k + 1 => by
    rw [cntS_succ, cntS_succ, cntS_skip h h0 k]
    congr 1
    by_cases c : lo' ≤ k
    · by_cases e : d / b ^ k % b ≠ 0 ∧ wordAt ws k = true
      · rw [if_pos ⟨e.1, by omega, e.2⟩, if_pos ⟨e.1, c, e.2⟩]
      · rw [if_neg fun z => e ⟨z.1, z.2.2⟩, if_neg fun z => e ⟨z.1, z.2.2⟩]
    · rw [if_neg (c := d / b ^ k % b ≠ 0 ∧ lo' ≤ k ∧ wordAt ws k = true) fun z => c z.2.1]
      refine if_neg fun z => z.1 (h0 k z.2.1 (by omega))
theorem cntS_one {ws : List Bool} {b d lo : Nat} (h : d / b ^ lo % b ≠ 0) : ∀ k, lo < k → cntS ws b d lo k = cntS ws b d (lo + 1) k + if wordAt ws lo = true then 1 else 0
  | 0, hk => absurd hk (Nat.not_lt_zero _)
  | k + 1, hk => by
    rw [cntS_succ, cntS_succ]
    by_cases e : k = lo
    · subst e
      rw [cntS_high k (Nat.le_refl _), cntS_high k (Nat.le_succ _), if_neg (c := d / b ^ k % b ≠ 0 ∧ k + 1 ≤ k ∧ wordAt ws k = true) fun z => by omega]
      by_cases c : wordAt ws k = true
      · rw [if_pos ⟨h, Nat.le_refl _, c⟩, if_pos c]
      · rw [if_neg fun z => c z.2.2, if_neg c]
    · rw [cntS_one h k (by omega)]
      have e2 : (if d / b ^ k % b ≠ 0 ∧ lo ≤ k ∧ wordAt ws k = true then 1 else 0) = if d / b ^ k % b ≠ 0 ∧ lo + 1 ≤ k ∧ wordAt ws k = true then 1 else 0 := by
        by_cases c : d / b ^ k % b ≠ 0 ∧ wordAt ws k = true
        · rw [if_pos ⟨c.1, by omega, c.2⟩, if_pos ⟨c.1, by omega, c.2⟩]
        · rw [if_neg fun z => c ⟨z.1, z.2.2⟩, if_neg fun z => c ⟨z.1, z.2.2⟩]
      rw [e2]
      omega
theorem front_cntS (ws : List Bool) (b n d lo k : Nat) (h : lo ≤ k) : frontOf ws lo (rowsOf b n d k) = decide ((cntS ws b d lo k + if wordAt ws k = true then 1 else 0) % 2 = 1) := by
  unfold frontOf rowsOf cntS
  rw [List.countP_cons]
  cases h2 : wordAt ws k with
  | true => rw [if_pos (by simp [h, h2])]; rfl
  | false => rw [if_neg (by simp [h2])]; rfl
theorem side_cnt {b : Nat} {ws : List Bool} {n d lo : Nat} (hb : 2 ≤ b) (h : n < d) (hl : lo ≤ levT b n d) : sideT b ws n d lo = decide ((cntS ws b d lo (levT b n d) + if wordAt ws (levT b n d) = true then 1 else 0) % 2 = 1) := by
  rw [sideT_eq (levT_is hb h)]
  exact front_cntS ws b n d lo _ hl
theorem odd_add (c : Nat) (w : Bool) : decide ((c + if w = true then 1 else 0) % 2 = 1) = Bool.xor (decide (c % 2 = 1)) w := by
  cases w with
  | false =>
    rw [if_neg (by decide), Bool.xor_false]
    rfl
  | true =>
    rw [if_pos rfl, Bool.xor_true]
    exact odd_succ c
theorem side_new {b : Nat} {ws : List Bool} {n d : Nat} (hb : 2 ≤ b) (h : n < d) : sideT b ws n d (levT b n d) = wordAt ws (levT b n d) := by
  rw [side_cnt hb h (Nat.le_refl _), cntS_high _ (Nat.le_refl _), odd_add]
  cases wordAt ws (levT b n d) <;> rfl
theorem lev_mono {b s n d : Nat} (hb : 2 ≤ b) (h : n < d) (hs : s ≤ n) : levT b n d ≤ levT b s d := by
  have k1 := levT_is hb h
  have k2 := levT_is hb (Nat.lt_of_le_of_lt hs h)
  generalize levT b n d = k at k1 ⊢
  generalize levT b s d = k0 at k2 ⊢
  refine Nat.le_of_not_lt fun c => k1.2 k0 c ?_
  have a1 : s / b ^ (k0 + 1) ≤ n / b ^ (k0 + 1) := Nat.div_le_div_right hs
  have a2 : n / b ^ (k0 + 1) ≤ d / b ^ (k0 + 1) := Nat.div_le_div_right (Nat.le_of_lt h)
  have a3 := k2.1
  omega
/-- the digits of a multiple -/
theorem dig_mul {b q h i : Nat} (hb : 2 ≤ b) (hi : i < h) : q * b ^ h / b ^ i % b = 0 := by
  have e : b ^ h = b ^ (h - i - 1) * b * b ^ i := by
    rw [← Nat.pow_succ, ← Nat.pow_add]
    congr 1
    omega
  rw [e, ← Nat.mul_assoc, Nat.mul_div_cancel _ (pow_pos' hb i), ← Nat.mul_assoc, Nat.mul_mod_left]
/-- where a timer goes on, its side turns with the word there -/
theorem side_drop {b : Nat} {ws : List Bool} {s n d : Nat} (hb : 2 ≤ b) (h : n < d) (hs : s ≤ n) (he : evT b n d < d) :
    sideT b ws s d (levT b (evT b n d) d) = Bool.xor (sideT b ws s d (levT b n d)) (wordAt ws (levT b (evT b n d) d)) := by
  have hm := lev_mono hb h hs
  have hd := lev_drops hb h he
  have hk := levT_is hb h
  have hj := levT_is hb he
  have ee := evT_is hb h
  have hsd := Nat.lt_of_le_of_lt hs h
  have hdj : d / b ^ levT b (evT b n d) d % b ≠ 0 := by
    have := hj.digit he
    omega
  rw [side_cnt hb hsd (by omega), side_cnt hb hsd hm, cntS_one hdj _ (by omega)]
  have e2 : cntS ws b d (levT b (evT b n d) d + 1) (levT b s d) = cntS ws b d (levT b n d) (levT b s d) := by
    refine cntS_skip (by omega) (fun i h1 h2 => ?_) _
    have a1 : evT b n d / b ^ (levT b (evT b n d) d + 1) = d / b ^ (levT b (evT b n d) d + 1) := hj.1
    have a2 : evT b n d / b ^ i = d / b ^ i := by
      have e3 : i = (levT b (evT b n d) d + 1) + (i - (levT b (evT b n d) d + 1)) := by omega
      rw [e3, Nat.pow_add, ← Nat.div_div_eq_div_mul, ← Nat.div_div_eq_div_mul, a1]
    rw [← a2, ee]
    exact dig_mul hb h2
  rw [e2, Nat.add_right_comm, odd_add]
/-- where it fires, the side is the one at the last list -/
theorem side_last {b : Nat} {ws : List Bool} {s n d : Nat} (hb : 2 ≤ b) (h : n < d) (hs : s ≤ n) (he : evT b n d = d) : sideT b ws s d (levT b n d) = sideT b ws s d 0 := by
  have hm := lev_mono hb h hs
  have hsd := Nat.lt_of_le_of_lt hs h
  rw [side_cnt hb hsd hm, side_cnt hb hsd (Nat.zero_le _)]
  rw [cntS_skip (lo := 0) (lo' := levT b n d) (Nat.zero_le _) (fun i _ h2 => ?_) _]
  have ee := evT_is hb h
  rw [he] at ee
  rw [ee]
  have e4 : levT b n (d / b ^ levT b n d * b ^ levT b n d) = levT b n d := by rw [← ee]
  exact dig_mul hb h2
/-! ### the law's own wheel: cells -/
abbrev LCell := (Nat × Nat) × List Tm
def gv : List LCell → Nat × Nat → List Tm
  | [], _ => []
  | c :: cs, p => if c.1 = p then c.2 else gv cs p
def lput (cs : List LCell) (p : Nat × Nat) (l : List Tm) : List LCell := if p ∈ cs.map (·.1) then cs.map (fun c => if c.1 = p then (c.1, l) else c) else cs ++ [(p, l)]
def ldrop (cs : List LCell) (p : Nat × Nat) : List LCell := cs.filter fun c => decide (c.1 ≠ p)
theorem gv_none {p : Nat × Nat} : ∀ {cs : List LCell}, p ∉ cs.map (·.1) → gv cs p = []
  | [], _ => rfl
  | c :: cs, h => by
    rw [List.map_cons, List.mem_cons, not_or] at h
    show (if c.1 = p then c.2 else gv cs p) = []
    rw [if_neg fun z => h.1 z.symm]
    exact gv_none h.2
theorem gv_map {p q : Nat × Nat} {l : List Tm} : ∀ cs : List LCell, p ∈ cs.map (·.1) → gv (cs.map fun c => if c.1 = p then (c.1, l) else c) q = if p = q then l else gv cs q
  | [], h => by cases h
  | c :: cs, h => by
    rw [List.map_cons]
    by_cases e : c.1 = p
    · rw [if_pos e]
      by_cases e2 : p = q
      · rw [if_pos e2]
        show (if c.1 = q then l else _) = l
        rw [if_pos (e.trans e2)]
      · rw [if_neg e2]
        show (if c.1 = q then l else gv _ q) = if c.1 = q then c.2 else gv cs q
        rw [if_neg fun z => e2 (e.symm.trans z), if_neg fun z => e2 (e.symm.trans z)]
        by_cases hm : p ∈ cs.map (·.1)
        · rw [gv_map cs hm, if_neg e2]
        · have e3 : (cs.map fun c => if c.1 = p then (c.1, l) else c) = cs := by
            have z : ∀ c ∈ cs, (if c.1 = p then (c.1, l) else c) = c := fun c hc => if_neg fun y => hm (List.mem_map.mpr ⟨c, hc, y⟩)
            rw [List.map_congr_left (g := id) z, List.map_id]
          rw [e3]
    · rw [if_neg e]
      rw [List.map_cons, List.mem_cons] at h
      have hm := h.resolve_left fun z => e z.symm
      show (if c.1 = q then c.2 else gv _ q) = if p = q then l else (if c.1 = q then c.2 else gv cs q)
      rw [gv_map cs hm]
      by_cases e2 : c.1 = q
      · rw [if_pos e2, if_neg fun z => e (e2.trans z.symm), if_pos e2]
      · rw [if_neg e2, if_neg e2]
theorem gv_snoc {p q : Nat × Nat} {l : List Tm} : ∀ cs : List LCell, p ∉ cs.map (·.1) → gv (cs ++ [(p, l)]) q = if p = q then l else gv cs q
  | [], _ => rfl
  | c :: cs, h => by
    rw [List.map_cons, List.mem_cons, not_or] at h
    show (if c.1 = q then c.2 else gv (cs ++ [(p, l)]) q) = if p = q then l else (if c.1 = q then c.2 else gv cs q)
    rw [gv_snoc cs h.2]
    by_cases e : p = q
    · rw [if_pos e, if_pos e, if_neg fun z => h.1 (e.trans z.symm)]
    · rw [if_neg e, if_neg e]
theorem gv_put {cs : List LCell} {p q : Nat × Nat} {l : List Tm} : gv (lput cs p l) q = if p = q then l else gv cs q := by
  unfold lput
  split
  · rename_i h
    exact gv_map cs h
  · rename_i h
    exact gv_snoc cs h
theorem gv_drop {p q : Nat × Nat} : ∀ cs : List LCell, gv (ldrop cs p) q = if p = q then [] else gv cs q
  | [] => by
    show [] = if p = q then [] else []
    split <;> rfl
  | c :: cs => by
    have ih := gv_drop (p := p) (q := q) cs
    by_cases e : c.1 = p
    · have z : ldrop (c :: cs) p = ldrop cs p := List.filter_cons_of_neg (by simp [e])
      rw [z, ih]
      by_cases e2 : p = q
      · rw [if_pos e2, if_pos e2]
      · rw [if_neg e2, if_neg e2]
        show _ = if c.1 = q then c.2 else gv cs q
        rw [if_neg fun z => e2 (e.symm.trans z)]
    · have z : ldrop (c :: cs) p = c :: ldrop cs p := List.filter_cons_of_pos (by simp [e])
      rw [z]
      show (if c.1 = q then c.2 else gv (ldrop cs p) q) = if p = q then [] else (if c.1 = q then c.2 else gv cs q)
      rw [ih]
      by_cases e2 : p = q
      · rw [if_pos e2, if_pos e2, if_neg fun z => e (z.trans e2.symm)]
      · rw [if_neg e2, if_neg e2]
theorem lput_keys {cs : List LCell} {p : Nat × Nat} {l : List Tm} (nd : (cs.map (·.1)).Nodup) : ((lput cs p l).map (·.1)).Nodup := by
  unfold lput
  split
  · rw [List.map_map]
    have e : cs.map ((fun c : LCell => c.1) ∘ fun c => if c.1 = p then (c.1, l) else c) = cs.map (·.1) := List.map_congr_left fun c _ => by
      show (if c.1 = p then (c.1, l) else c).1 = c.1
      split <;> rfl
    rw [e]
    exact nd
  · rename_i h
    rw [List.map_append]
    exact L2.nd_snoc nd h
theorem lput_len (cs : List LCell) (p : Nat × Nat) (l : List Tm) : (lput cs p l).length ≤ cs.length + 1 := by
  unfold lput
  split
  · rw [List.length_map]
    omega
  · rw [List.length_append]
    exact Nat.le_refl _
theorem ldrop_keys {cs : List LCell} {p : Nat × Nat} (nd : (cs.map (·.1)).Nodup) : ((ldrop cs p).map (·.1)).Nodup := List.Nodup.sublist (List.Sublist.map _ List.filter_sublist) nd
theorem ldrop_len (cs : List LCell) (p : Nat × Nat) : (ldrop cs p).length ≤ cs.length := List.length_filter_le _ _
theorem gv_mem {cs : List LCell} (nd : (cs.map (·.1)).Nodup) {c : LCell} (h : c ∈ cs) : gv cs c.1 = c.2 := by
  induction cs with
  | nil => cases h
  | cons x cs ih =>
    rw [List.map_cons, List.nodup_cons] at nd
    show (if x.1 = c.1 then x.2 else gv cs c.1) = c.2
    rcases List.mem_cons.mp h with e | h
    · rw [e, if_pos rfl]
    · rw [if_neg fun z => nd.1 (List.mem_map.mpr ⟨c, h, z.symm⟩)]
      exact ih nd.2 h
/-- what the law's wheel does with one timer, and with all of a list -/
noncomputable def lplace (b : Nat) (ws : List Bool) (t : Nat) (cs : List LCell) (m : Tm) : List LCell := lput cs (placeT b t m.due) (insM (wordAt ws (placeT b t m.due).1) m (gv cs (placeT b t m.due)))
theorem gv_place {b : Nat} {ws : List Bool} {t : Nat} {cs : List LCell} {m : Tm} {p : Nat × Nat} : gv (lplace b ws t cs m) p = if placeT b t m.due = p then insM (wordAt ws p.1) m (gv cs p) else gv cs p := by
  unfold lplace
  rw [gv_put]
  split
  · rename_i e
    rw [e]
  · rfl
theorem gv_places {b : Nat} {ws : List Bool} {t : Nat} {p : Nat × Nat} : ∀ (l : List Tm) (cs : List LCell), gv (l.foldl (lplace b ws t) cs) p = (l.filter fun m => decide (placeT b t m.due = p)).foldl (fun a m => insM (wordAt ws p.1) m a) (gv cs p)
  | [], _ => rfl
  | m :: l, cs => by
    rw [List.foldl_cons, gv_places l, gv_place]
    by_cases e : placeT b t m.due = p
    · rw [if_pos e, List.filter_cons_of_pos (by simpa using e), List.foldl_cons]
    · rw [if_neg e, List.filter_cons_of_neg (by simpa using e)]
/-- the list p at the tick t, of the timers ms in the order in which they were set -/
noncomputable def stM (b : Nat) (ws : List Bool) (t : Nat) (ms : List Tm) (p : Nat × Nat) : List Tm := deq (fun m => sideT b ws m.since m.due p.1) (ms.filter fun m => decide (placeT b t m.due = p))
def againM (t : Nat) (m : Tm) : Option Tm := m.per.map fun k => ⟨m.num, t + k, some k, t⟩
structure IsZer (b e h : Nat) : Prop where
  low : e % b ^ h = 0
  dig : e / b ^ h % b ≠ 0
theorem zer_uniq {b e h h' : Nat} (z : IsZer b e h) (z' : IsZer b e h') : h = h' := by
  have main : ∀ {i j : Nat}, IsZer b e i → IsZer b e j → ¬ i < j := fun {i j} zi zj c => by
    refine zi.dig ?_
    have e1 : b ^ j = b ^ i * (b * b ^ (j - i - 1)) := by
      rw [← Nat.mul_assoc, ← Nat.pow_succ, ← Nat.pow_add]
      congr 1
      omega
    have e2 : b ^ j ∣ e := Nat.dvd_of_mod_eq_zero zj.low
    rw [e1] at e2
    obtain ⟨q, hq⟩ := e2
    have hp : 0 < b ^ i := by
      rcases Nat.eq_zero_or_pos (b ^ i) with c0 | c0
      · exfalso
        rw [c0, Nat.zero_mul, Nat.zero_mul] at hq
        refine zi.dig ?_
        rw [hq, Nat.zero_div, Nat.zero_mod]
      · exact c0
    rw [hq, Nat.mul_assoc, Nat.mul_div_cancel_left _ hp, Nat.mul_assoc, Nat.mul_mod_right]
  have a1 := main z z'
  have a2 := main z' z
  omega
/-- the key of the list that is emptied at e -/
def keyE (b e h : Nat) : Nat × Nat := (h, e / b ^ h % b)
noncomputable def lpass (b : Nat) (ws : List Bool) (e h : Nat) (cs : List LCell) : List LCell :=
  ((((gv cs (keyE b e h)).filter fun m => decide (m.due = e)).filterMap (againM e))).foldl (lplace b ws e) (((gv cs (keyE b e h)).filter fun m => decide (m.due ≠ e)).foldl (lplace b ws e) (ldrop cs (keyE b e h)))
section
variable {b e h n d : Nat}
theorem ev_key (hb : 2 ≤ b) (z : IsZer b e h) (hnd : n < d) (he : evT b n d = e) : placeT b n d = keyE b e h := by
  have hk := levT_is hb hnd
  have ee := evT_is hb hnd
  rw [he] at ee
  have hp := pow_pos' hb (levT b n d)
  have e1 : e / b ^ levT b n d = d / b ^ levT b n d := by
    rw [ee, Nat.mul_div_cancel _ hp]
  have dg := hk.digit hnd
  have z2 : IsZer b e (levT b n d) := ⟨by rw [ee]; exact Nat.mul_mod_left _ _, by rw [e1]; omega⟩
  unfold placeT keyE
  rw [zer_uniq z z2, e1]
theorem key_ev (hb : 2 ≤ b) (z : e % b ^ h = 0) (hnd : n < d) (hne : n < e) (hle : e ≤ evT b n d) (hk : placeT b n d = keyE b e h) : evT b n d = e := by
  have k1 : levT b n d = h := congrArg Prod.fst hk
  have k2 : d / b ^ levT b n d % b = e / b ^ h % b := congrArg Prod.snd hk
  have hl := levT_is hb hnd
  have ee := evT_is hb hnd
  have hed := Nat.le_trans hle (evT_le hb hnd)
  rw [k1] at k2 hl ee
  have a1 : n / b ^ (h + 1) ≤ e / b ^ (h + 1) := Nat.div_le_div_right (Nat.le_of_lt hne)
  have a2 : e / b ^ (h + 1) ≤ d / b ^ (h + 1) := Nat.div_le_div_right hed
  have a3 := hl.1
  have a4 : e / b ^ h / b = d / b ^ h / b := by
    rw [← div_succ, ← div_succ]
    omega
  have a5 := Nat.div_add_mod (e / b ^ h) b
  have a6 := Nat.div_add_mod (d / b ^ h) b
  have a7 : e / b ^ h = d / b ^ h := by
    rw [a4] at a5
    omega
  rw [ee, ← a7]
  exact Nat.div_mul_cancel (Nat.dvd_of_mod_eq_zero z)
theorem low_none (hb : 2 ≤ b) (z : e % b ^ h = 0) (hnd : n < d) (hne : n < e) (hle : e < evT b n d) : h ≤ levT b n d := by
  refine Nat.le_of_not_lt fun c => ?_
  obtain ⟨s1, s2⟩ := lev_stays hb hnd (Nat.le_of_lt hne) hle
  have k1 := levT_is hb hnd
  have k2 := levT_is hb s1
  rw [s2] at k2
  generalize levT b n d = j at c k1 k2
  have a1 : n / b ^ (j + 1) = e / b ^ (j + 1) := k1.1.trans k2.1.symm
  have hp := pow_pos' hb (j + 1)
  have dv : b ^ (j + 1) ∣ e := Nat.dvd_trans (Nat.pow_dvd_pow b (by omega)) (Nat.dvd_of_mod_eq_zero z)
  have a2 : e / b ^ (j + 1) * b ^ (j + 1) = e := Nat.div_mul_cancel dv
  have a3 : n / b ^ (j + 1) < e / b ^ (j + 1) := (Nat.div_lt_iff_lt_mul hp).mpr (by rw [a2]; exact hne)
  omega
theorem not_key (hb : 2 ≤ b) (hed : e < d) : placeT b e d ≠ keyE b e h := fun hk => by
  have k1 : levT b e d = h := congrArg Prod.fst hk
  have k2 : d / b ^ levT b e d % b = e / b ^ h % b := congrArg Prod.snd hk
  have dg := (levT_is hb hed).digit hed
  rw [k1] at k2 dg
  omega
end
/-- one tick at which a list may be emptied: the lists behind, and what fires -/
theorem lw_pass {b : Nat} {ws : List Bool} {t e h : Nat} {ms : List Tm} {cs : List LCell} (hb : 2 ≤ b) (z : IsZer b e h) (hte : t < e) (hms : ∀ m ∈ ms, m.since ≤ t ∧ t < m.due ∧ e ≤ evT b t m.due) (hcs : ∀ p, gv cs p = stM b ws t ms p) :
    (gv cs (keyE b e h)).filter (fun m => decide (m.due = e)) = deq (fun m => sideT b ws m.since m.due 0) (ms.filter fun m => decide (m.due = e)) ∧
    ∀ p, (∀ m ∈ ms, ∀ k, m.per = some k → 1 ≤ k) → gv (lpass b ws e h cs) p = stM b ws e (ms.filter (fun m => decide (m.due ≠ e)) ++ (deq (fun m => sideT b ws m.since m.due 0) (ms.filter fun m => decide (m.due = e))).filterMap (againM e)) p := by
  have ev : ∀ m ∈ ms, m.due = e → evT b t m.due = e := fun m hm hd => Nat.le_antisymm (by rw [← hd] at *; exact evT_le hb (hms m hm).2.1) (hms m hm).2.2
  -- who stands in the list that is emptied
  have hkey : ∀ m ∈ ms, placeT b t m.due = keyE b e h ↔ evT b t m.due = e := fun m hm => ⟨key_ev hb z.low (hms m hm).2.1 hte (hms m hm).2.2, ev_key hb z (hms m hm).2.1⟩
  have hF : (gv cs (keyE b e h)).filter (fun m => decide (m.due = e)) = deq (fun m => sideT b ws m.since m.due 0) (ms.filter fun m => decide (m.due = e)) := by
    rw [hcs]
    unfold stM
    rw [deq_filter, List.filter_filter]
    have e1 : ms.filter (fun m => decide (m.due = e) && decide (placeT b t m.due = keyE b e h)) = ms.filter fun m => decide (m.due = e) := List.filter_congr fun m hm => by
      by_cases c : m.due = e
      · rw [decide_eq_true c, decide_eq_true ((hkey m hm).mpr (ev m hm c))]
        rfl
      · rw [decide_eq_false c]
        rfl
    rw [e1]
    refine deq_congr fun m hm => ?_
    obtain ⟨hm, hd⟩ := List.mem_filter.mp hm
    have hd : m.due = e := of_decide_eq_true hd
    have hev := ev m hm hd
    have hk := (hkey m hm).mpr hev
    have k1 : levT b t m.due = h := congrArg Prod.fst hk
    show sideT b ws m.since m.due h = _
    rw [← k1]
    exact side_last hb (hms m hm).2.1 (hms m hm).1 (hev.trans hd.symm)
  refine ⟨hF, fun p hper => ?_⟩
  unfold lpass
  rw [gv_places, gv_places, gv_drop, hF]
  -- the timers that go on
  have hA : ((((gv cs (keyE b e h)).filter fun m => decide (m.due ≠ e)).filter fun m => decide (placeT b e m.due = p)).foldl (fun a m => insM (wordAt ws p.1) m a) (if keyE b e h = p then [] else gv cs p))
      = deq (fun m => sideT b ws m.since m.due p.1) ((ms.filter fun m => decide (m.due ≠ e)).filter fun m => decide (placeT b e m.due = p)) := by
    have hL : ((gv cs (keyE b e h)).filter fun m => decide (m.due ≠ e)).filter (fun m => decide (placeT b e m.due = p)) = deq (fun m => sideT b ws m.since m.due h) (ms.filter fun m => decide (placeT b t m.due = keyE b e h) && decide (m.due ≠ e) && decide (placeT b e m.due = p)) := by
      rw [hcs]
      unfold stM
      rw [deq_filter, deq_filter, List.filter_filter, List.filter_filter]
      congr 1
      exact List.filter_congr fun m _ => by
        cases decide (placeT b t m.due = keyE b e h) <;> cases decide (m.due ≠ e) <;> cases decide (placeT b e m.due = p) <;> rfl
    have lt_due : ∀ m ∈ ms, m.due ≠ e → e < m.due := fun m hm hd => by
      have := Nat.le_trans (hms m hm).2.2 (evT_le hb (hms m hm).2.1)
      omega
    have drops : ∀ m ∈ ms, m.due ≠ e → evT b t m.due = e → levT b e m.due < h := fun m hm hd hev => by
      have z1 := lev_drops hb (hms m hm).2.1 (by rw [hev]; exact lt_due m hm hd)
      have k1 : levT b t m.due = h := congrArg Prod.fst ((hkey m hm).mpr hev)
      rw [hev, k1] at z1
      exact z1
    have stays : ∀ m ∈ ms, evT b t m.due ≠ e → placeT b e m.due = placeT b t m.due ∧ h ≤ levT b t m.due := fun m hm hev => by
      have hlt : e < evT b t m.due := by
        have := (hms m hm).2.2
        omega
      refine ⟨?_, low_none hb z.low (hms m hm).2.1 hte hlt⟩
      unfold placeT
      rw [(lev_stays hb (hms m hm).2.1 (Nat.le_of_lt hte) hlt).2]
    rw [hL, List.filter_filter]
    by_cases c1 : keyE b e h = p
    · rw [if_pos c1]
      have n1 : ms.filter (fun m => decide (placeT b t m.due = keyE b e h) && decide (m.due ≠ e) && decide (placeT b e m.due = p)) = [] := List.filter_eq_nil_iff.mpr fun m hm x => by
        simp only [Bool.and_eq_true, decide_eq_true_eq] at x
        exact not_key hb (lt_due m hm x.1.2) (x.2.trans c1.symm)
      have n2 : ms.filter (fun m => decide (placeT b e m.due = p) && decide (m.due ≠ e)) = [] := List.filter_eq_nil_iff.mpr fun m hm x => by
        simp only [Bool.and_eq_true, decide_eq_true_eq] at x
        exact not_key hb (lt_due m hm x.2) (x.1.trans c1.symm)
      rw [n1, n2]
      rfl
    · rw [if_neg c1, hcs]
      by_cases c2 : p.1 < h
      · -- a lower list: it was empty, and takes what comes down
        have n1 : ms.filter (fun m => decide (placeT b t m.due = p)) = [] := List.filter_eq_nil_iff.mpr fun m hm x => by
          have x : placeT b t m.due = p := of_decide_eq_true x
          by_cases c3 : evT b t m.due = e
          · exact c1 (((hkey m hm).mpr c3).symm.trans x)
          · have y := (stays m hm c3).2
            have y2 : levT b t m.due = p.1 := congrArg Prod.fst x
            omega
        have n2 : stM b ws t ms p = [] := by
          unfold stM
          rw [n1]
          rfl
        rw [n2, ins_fold, deq_deq]
        have e1 : ms.filter (fun m => decide (placeT b t m.due = keyE b e h) && decide (m.due ≠ e) && decide (placeT b e m.due = p)) = ms.filter (fun m => decide (placeT b e m.due = p) && decide (m.due ≠ e)) := List.filter_congr fun m hm => by
          by_cases c4 : m.due ≠ e ∧ placeT b e m.due = p
          · have c3 : evT b t m.due = e := Classical.byContradiction fun no => by
              obtain ⟨y1, y2⟩ := stays m hm no
              have y3 : levT b e m.due = p.1 := congrArg Prod.fst c4.2
              have y4 : levT b e m.due = levT b t m.due := congrArg Prod.fst y1
              omega
            rw [decide_eq_true ((hkey m hm).mpr c3), decide_eq_true c4.1, decide_eq_true c4.2]
            rfl
          · by_cases c5 : m.due ≠ e
            · rw [decide_eq_false (fun x => c4 ⟨c5, x⟩), Bool.and_false, Bool.false_and]
            · rw [decide_eq_false c5, Bool.and_false, Bool.false_and, Bool.and_false]
        rw [e1]
        refine deq_congr fun m hm => ?_
        obtain ⟨hm, x⟩ := List.mem_filter.mp hm
        simp only [Bool.and_eq_true, decide_eq_true_eq] at x
        have c3 : evT b t m.due = e := Classical.byContradiction fun no => by
          obtain ⟨y1, y2⟩ := stays m hm no
          have y3 : levT b e m.due = p.1 := congrArg Prod.fst x.1
          have y4 : levT b e m.due = levT b t m.due := congrArg Prod.fst y1
          omega
        have k1 : levT b t m.due = h := congrArg Prod.fst ((hkey m hm).mpr c3)
        have k2 : levT b e m.due = p.1 := congrArg Prod.fst x.1
        have sd := side_drop (ws := ws) hb (hms m hm).2.1 (hms m hm).1 (by rw [c3]; exact lt_due m hm x.2)
        rw [c3, k1, k2] at sd
        exact sd.symm
      · -- another list: it stays
        have n1 : ms.filter (fun m => decide (placeT b t m.due = keyE b e h) && decide (m.due ≠ e) && decide (placeT b e m.due = p)) = [] := List.filter_eq_nil_iff.mpr fun m hm x => by
          simp only [Bool.and_eq_true, decide_eq_true_eq] at x
          have y := drops m hm x.1.2 ((hkey m hm).mp x.1.1)
          have y3 : levT b e m.due = p.1 := congrArg Prod.fst x.2
          omega
        rw [n1]
        show stM b ws t ms p = _
        unfold stM
        congr 1
        refine List.filter_congr fun m hm => ?_
        by_cases c3 : evT b t m.due = e
        · have x1 : ¬ placeT b t m.due = p := fun x => c1 (((hkey m hm).mpr c3).symm.trans x)
          rw [decide_eq_false x1]
          by_cases c5 : m.due ≠ e
          · have x2 : ¬ placeT b e m.due = p := fun x => by
              have y := drops m hm c5 c3
              have y3 : levT b e m.due = p.1 := congrArg Prod.fst x
              omega
            rw [decide_eq_false x2, Bool.false_and]
          · rw [decide_eq_false c5, Bool.and_false]
        · have c5 : m.due ≠ e := fun x => c3 (ev m hm x)
          rw [decide_eq_true c5, (stays m hm c3).1, Bool.and_true]
  rw [hA]
  have hB : ∀ m ∈ ((deq (fun m => sideT b ws m.since m.due 0) (ms.filter fun m => decide (m.due = e))).filterMap (againM e)).filter (fun m => decide (placeT b e m.due = p)), sideT b ws m.since m.due p.1 = wordAt ws p.1 := fun m hm => by
    obtain ⟨hm, x⟩ := List.mem_filter.mp hm
    have x : placeT b e m.due = p := of_decide_eq_true x
    obtain ⟨m0, h0, h1⟩ := List.mem_filterMap.mp hm
    have h0' := (List.mem_filter.mp (mem_deq.mp h0)).1
    unfold againM at h1
    cases ep : m0.per with
    | none =>
      rw [ep] at h1
      cases h1
    | some k =>
      rw [ep] at h1
      have h2 := (Option.some.inj h1).symm
      have hk := hper m0 h0' k ep
      subst h2
      have k2 : levT b e (e + k) = p.1 := congrArg Prod.fst x
      show sideT b ws e (e + k) p.1 = wordAt ws p.1
      rw [← k2]
      exact side_new hb (Nat.lt_add_of_pos_right hk)
  rw [ins_deq _ _ _ hB]
  unfold stM
  rw [List.filter_append]
/-- the order of firing, the lists, what is live behind it: as the program has them -/
theorem order_deq (b : Nat) (ws : List Bool) (t : Nat) (ms : List Tm) : orderAt b ws t ms = (deq (fun m => sideT b ws m.since m.due 0) (ms.filter fun m => decide (m.due = t))).map (·.num) := by
  suffices H : ∀ n : Nat, orderAt b ws t (ms.take n) = (deq (fun m => sideT b ws m.since m.due 0) ((ms.take n).filter fun m => decide (m.due = t))).map (·.num) by
    have z := H ms.length
    rw [List.take_length] at z
    exact z
  intro n
  induction n with
  | zero => rfl
  | succ n ih =>
    cases e : ms[n]? with
    | none =>
      have hl : ms.length ≤ n := List.getElem?_eq_none_iff.mp e
      rw [List.take_of_length_le (by omega)]
      rw [List.take_of_length_le hl] at ih
      exact ih
    | some m =>
      rw [List.take_add_one, e, Option.toList_some, order_snoc, List.filter_append]
      by_cases h : m.due = t
      · have e1 : [m].filter (fun m => decide (m.due = t)) = [m] := List.filter_cons_of_pos (by simpa using h)
        rw [if_pos h, e1, deq_snoc, ih]
        unfold insT insM
        cases sideT b ws m.since m.due 0 with
        | true => rfl
        | false =>
          show _ ++ [m.num] = List.map _ (_ ++ [m])
          rw [List.map_append]
          rfl
      · have e1 : [m].filter (fun m => decide (m.due = t)) = [] := List.filter_cons_of_neg (by simpa using h)
        rw [if_neg h, e1, List.append_nil, ih]
theorem cell_st {b : Nat} {ws : List Bool} {t : Nat} {ms : List Tm} {p : Nat × Nat} (hd : ∀ m ∈ ms, t < m.due) : cellV (standD b ws t ms) p = (stM b ws t ms p).map (·.num) := by
  suffices H : ∀ n : Nat, cellV (standD b ws t (ms.take n)) p = (stM b ws t (ms.take n) p).map (·.num) by
    have z := H ms.length
    rw [List.take_length] at z
    exact z
  intro n
  induction n with
  | zero => rfl
  | succ n ih =>
    cases e : ms[n]? with
    | none =>
      have hl : ms.length ≤ n := List.getElem?_eq_none_iff.mp e
      rw [List.take_of_length_le (by omega)]
      rw [List.take_of_length_le hl] at ih
      exact ih
    | some m =>
      rw [List.take_add_one, e, Option.toList_some, stand_snoc]
      unfold standStep
      rw [if_pos (hd m (List.mem_of_getElem? e)), cellV_put]
      unfold stM at ih ⊢
      rw [List.filter_append]
      by_cases h : placeT b t m.due = p
      · have e1 : [m].filter (fun m => decide (placeT b t m.due = p)) = [m] := List.filter_cons_of_pos (by simpa using h)
        rw [if_pos h, e1, deq_snoc, h, ih]
        have e2 : levT b t m.due = p.1 := congrArg Prod.fst h
        rw [e2]
        unfold insT insM
        cases sideT b ws m.since m.due p.1 with
        | true => rfl
        | false =>
          show _ ++ [m.num] = List.map _ (_ ++ [m])
          rw [List.map_append]
          rfl
      · have e1 : [m].filter (fun m => decide (placeT b t m.due = p)) = [] := List.filter_cons_of_neg (by simpa using h)
        rw [if_neg h, e1, List.append_nil, ih]
theorem find_one {ms : List Tm} {m : Tm} (nd : (ms.map (·.num)).Nodup) (h : m ∈ ms) : ms.find? (fun x => decide (x.num = m.num)) = some m := by
  induction ms with
  | nil => cases h
  | cons x ms ih =>
    rw [List.map_cons, List.nodup_cons] at nd
    rw [List.find?_cons]
    rcases List.mem_cons.mp h with e | h
    · rw [← e, decide_eq_true rfl]
    · have n : ¬ x.num = m.num := fun z => nd.1 (List.mem_map.mpr ⟨m, h, z.symm⟩)
      rw [decide_eq_false n]
      exact ih nd.2 h
/-- a new timer, or an old one set anew, at the end -/
theorem nodup_end {ms : List Tm} {m : Tm} (nd : (ms.map (·.num)).Nodup) (h : ∀ x ∈ ms, x.num ≠ m.num) : ((ms ++ [m]).map (·.num)).Nodup := by
  rw [List.map_append]
  refine L2.nd_snoc nd fun hm => ?_
  obtain ⟨x, hx, e⟩ := List.mem_map.mp hm
  exact h x hx e
/-- firing a list of timers, one after the other -/
theorem after_list {t : Nat} : ∀ (F ms : List Tm), (ms.map (·.num)).Nodup → (F.map (·.num)).Nodup → (∀ m ∈ F, m ∈ ms) → afterF t ms (F.map (·.num)) = ms.filter (fun m => decide (m.num ∉ F.map (·.num))) ++ F.filterMap (againM t)
  | [], ms, _, _, _ => by
    show ms = ms.filter _ ++ []
    rw [List.append_nil, List.filter_eq_self.mpr fun m _ => by simp]
  | m :: F, ms, nd, ndF, hF => by
    rw [List.map_cons, List.nodup_cons] at ndF
    have hm := hF m (List.mem_cons_self ..)
    have key : fireT t ms m.num = dropT m.num ms ++ (againM t m).toList := by
      unfold fireT
      rw [find_one nd hm]
      show (match m.per with | none => dropT m.num ms | some k => dropT m.num ms ++ [(⟨m.num, t + k, some k, t⟩ : Tm)]) = _
      unfold againM
      cases m.per with
      | none =>
        show dropT m.num ms = dropT m.num ms ++ []
        rw [List.append_nil]
      | some k => rfl
    show afterF t (fireT t ms m.num) (F.map (·.num)) = _
    have nd1 : ((fireT t ms m.num).map (·.num)).Nodup := by
      rw [key]
      have nd0 : ((dropT m.num ms).map (·.num)).Nodup := List.Nodup.sublist (List.Sublist.map _ List.filter_sublist) nd
      cases ea : againM t m with
      | none => simpa using nd0
      | some m' =>
        have en : m'.num = m.num := by
          unfold againM at ea
          cases ep : m.per with
          | none =>
            rw [ep] at ea
            cases ea
          | some k =>
            rw [ep] at ea
            rw [← Option.some.inj ea]
        refine nodup_end nd0 fun x hx => ?_
        rw [en]
        simpa using (List.mem_filter.mp hx).2
    have mem1 : ∀ x ∈ F, x ∈ fireT t ms m.num := fun x hx => by
      rw [key]
      refine List.mem_append_left _ (List.mem_filter.mpr ⟨hF x (List.mem_cons_of_mem _ hx), ?_⟩)
      have n : ¬ x.num = m.num := fun z => ndF.1 (List.mem_map.mpr ⟨x, hx, z⟩)
      simpa using n
    rw [after_list F _ nd1 ndF.2 mem1, key, List.filter_append]
    have e1 : ((againM t m).toList).filter (fun x => decide (x.num ∉ F.map (·.num))) = (againM t m).toList := List.filter_eq_self.mpr fun x hx => by
      cases ea : againM t m with
      | none =>
        rw [ea] at hx
        cases hx
      | some m' =>
        rw [ea] at hx
        have en : m'.num = m.num := by
          unfold againM at ea
          cases ep : m.per with
          | none =>
            rw [ep] at ea
            cases ea
          | some k =>
            rw [ep] at ea
            rw [← Option.some.inj ea]
        have ex : x = m' := List.mem_singleton.mp hx
        rw [ex, en]
        exact decide_eq_true ndF.1
    rw [e1]
    unfold dropT
    rw [List.filter_filter]
    have e2 : ms.filter (fun x => decide (x.num ∉ F.map (·.num)) && decide (x.num ≠ m.num)) = ms.filter fun x => decide (x.num ∉ (m :: F).map (·.num)) := List.filter_congr fun x _ => by
      rw [List.map_cons]
      by_cases c : x.num = m.num
      · have c1 : decide (x.num ≠ m.num) = false := decide_eq_false fun z => z c
        have c2 : decide (x.num ∉ m.num :: F.map (·.num)) = false := decide_eq_false fun z => z (by rw [c]; exact List.mem_cons_self ..)
        rw [c1, c2, Bool.and_false]
      · have c1 : decide (x.num ≠ m.num) = true := decide_eq_true c
        rw [c1, Bool.and_true]
        exact decide_eq_decide.mpr ⟨fun z y => (List.mem_cons.mp y).elim c z, fun z y => z (List.mem_cons_of_mem _ y)⟩
    rw [e2, List.append_assoc]
    congr 1
    cases ea : againM t m with
    | none => rw [List.filterMap_cons_none ea]; rfl
    | some m' => rw [List.filterMap_cons_some ea]; rfl
theorem after_due {b : Nat} {ws : List Bool} {t : Nat} {ms : List Tm} (nd : (ms.map (·.num)).Nodup) : afterF t ms (orderAt b ws t ms) = ms.filter (fun m => decide (m.due ≠ t)) ++ (deq (fun m => sideT b ws m.since m.due 0) (ms.filter fun m => decide (m.due = t))).filterMap (againM t) := by
  rw [order_deq, after_list _ ms nd]
  · congr 1
    refine List.filter_congr fun m hm => ?_
    by_cases c : m.due = t
    · have c1 : decide (m.due ≠ t) = false := decide_eq_false fun z => z c
      rw [c1]
      exact decide_eq_false fun z => z (List.mem_map.mpr ⟨m, mem_deq.mpr (List.mem_filter.mpr ⟨hm, decide_eq_true c⟩), rfl⟩)
    · have c1 : decide (m.due ≠ t) = true := decide_eq_true c
      rw [c1]
      refine decide_eq_true ?_
      intro z
      obtain ⟨x, hx, e⟩ := List.mem_map.mp z
      obtain ⟨h1, h2⟩ := List.mem_filter.mp (mem_deq.mp hx)
      have f1 := find_one nd h1
      have f2 := find_one nd hm
      rw [e, f2] at f1
      have e3 : m = x := Option.some.inj f1
      rw [e3] at c
      exact c (of_decide_eq_true h2)
  · rw [List.Perm.nodup_iff ((deq_perm _ _).map _)]
    exact List.Nodup.sublist (List.Sublist.map _ List.filter_sublist) nd
  · exact fun m hm => (List.mem_filter.mp (mem_deq.mp hm)).1
/-! ### set ticks in a given order: the mathematics -/
/-- ticks of stations, and the side from each on -/
def tsOf (ws : List Bool) : List Row3 → List (Nat × Bool)
  | [] => []
  | r :: rs => (r.2.2, frontOf ws 0 (r :: rs)) :: tsOf ws rs
theorem ts_len (ws : List Bool) : ∀ rs, (tsOf ws rs).length = rs.length
  | [] => rfl
  | _ :: rs => congrArg Nat.succ (ts_len ws rs)
/-- the ticks at which a side may turn, and what it is from each on -/
structure Turns (n d : Nat) (sd : Nat → Bool) (R : List (Nat × Bool)) : Prop where
  asc : (R.map (·.1)).Pairwise (· < ·)
  lt : ∀ r ∈ R, n ≤ r.1 ∧ r.1 < d
  own : ∀ r ∈ R, sd r.1 = r.2
  at_ : ∀ t, n ≤ t → t < d → ∃ (i : Nat) (r : Nat × Bool), R[i]? = some r ∧ r.1 ≤ t ∧ sd t = r.2 ∧ ∀ (j : Nat) (r' : Nat × Bool), R[j]? = some r' → r'.1 ≤ t → j ≤ i
theorem Turns.cons {n c d : Nat} {sd : Nat → Bool} {R : List (Nat × Bool)} {f : Bool} (T : Turns c d sd R) (h1 : n < c) (h2 : c ≤ d) (h : ∀ t, n ≤ t → t < c → sd t = f) : Turns n d sd ((n, f) :: R) := by
  refine ⟨?_, fun r hr => ?_, fun r hr => ?_, fun t h3 h4 => ?_⟩
  · refine List.pairwise_cons.mpr ⟨fun x hx => ?_, T.asc⟩
    obtain ⟨r, hr, rfl⟩ := List.mem_map.mp hx
    exact Nat.lt_of_lt_of_le h1 (T.lt r hr).1
  · rcases List.mem_cons.mp hr with e | hr
    · rw [e]
      exact ⟨Nat.le_refl _, by show n < d; omega⟩
    · have := T.lt r hr
      exact ⟨by omega, this.2⟩
  · rcases List.mem_cons.mp hr with e | hr
    · rw [e]
      exact h n (Nat.le_refl _) h1
    · exact T.own r hr
  · by_cases c1 : t < c
    · refine ⟨0, (n, f), rfl, h3, h t h3 c1, fun j r' hj hle => ?_⟩
      cases j with
      | zero => exact Nat.le_refl _
      | succ j =>
        have := (T.lt r' (List.mem_of_getElem? (show R[j]? = some r' from hj))).1
        omega
    · obtain ⟨i, r, a1, a2, a3, a4⟩ := T.at_ t (by omega) h4
      refine ⟨i + 1, r, a1, a2, a3, fun j r' hj hle => ?_⟩
      cases j with
      | zero => exact Nat.zero_le _
      | succ j => exact Nat.succ_le_succ (a4 j r' hj hle)
theorem front_tick (ws : List Bool) (k g t t' : Nat) (rs : List Row3) : frontOf ws 0 ((k, g, t) :: rs) = frontOf ws 0 ((k, g, t') :: rs) := by
  unfold frontOf
  rw [List.countP_cons, List.countP_cons]
theorem cut_level {b d t j : Nat} (hb : 2 ≤ b) (h1 : d / b ^ (j + 1) * b ^ (j + 1) ≤ t) (h2 : t < d / b ^ j * b ^ j) : IsLev b t d j := by
  have hp : ∀ i, 0 < b ^ i := fun i => pow_pos' hb i
  have htd : t ≤ d := Nat.le_of_lt (Nat.lt_of_lt_of_le h2 (Nat.div_mul_le_self _ _))
  refine ⟨Nat.le_antisymm (Nat.div_le_div_right htd) ((Nat.le_div_iff_mul_le (hp _)).mpr h1), fun i hi e => ?_⟩
  have h3 : t / b ^ j < d / b ^ j := (Nat.div_lt_iff_lt_mul (hp j)).mpr h2
  have e2 : b ^ j = b ^ (i + 1) * b ^ (j - (i + 1)) := by
    rw [← Nat.pow_add]
    congr 1
    omega
  rw [e2, ← Nat.div_div_eq_div_mul, ← Nat.div_div_eq_div_mul, e] at h3
  omega
theorem turns_tail {b d : Nat} (hb : 2 ≤ b) (ws : List Bool) : ∀ k, Turns (d / b ^ k * b ^ k) d (fun t => sideT b ws t d 0) (tsOf ws (tailOf b d k))
  | 0 => by
    refine ⟨List.Pairwise.nil, (fun r hr => by cases hr), (fun r hr => by cases hr), fun t h1 h2 => ?_⟩
    rw [Nat.pow_zero, Nat.div_one, Nat.mul_one] at h1
    omega
  | k + 1 => by
    have ih := turns_tail (d := d) hb ws k
    have e0 : d / b ^ k = d / b ^ (k + 1) * b + d / b ^ k % b := by
      rw [div_succ]
      have := Nat.div_add_mod (d / b ^ k) b
      rw [Nat.mul_comm] at this
      exact this.symm
    have e1 : d / b ^ k * b ^ k = d / b ^ (k + 1) * b ^ (k + 1) + d / b ^ k % b * b ^ k := by
      have z : d / b ^ (k + 1) * b ^ (k + 1) = d / b ^ (k + 1) * b * b ^ k := by
        rw [Nat.pow_succ, Nat.mul_assoc, Nat.mul_comm b]
      rw [z, ← Nat.add_mul, ← e0]
    unfold tailOf
    by_cases c : d / b ^ k % b ≠ 0
    · rw [if_pos c]
      refine ih.cons ?_ (Nat.div_mul_le_self _ _) fun t h1 h2 => ?_
      · have : 0 < d / b ^ k % b * b ^ k := Nat.mul_pos (Nat.pos_of_ne_zero c) (pow_pos' hb k)
        omega
      · show sideT b ws t d 0 = _
        rw [sideT_eq (cut_level hb h1 h2)]
        exact front_tick ..
    · rw [if_neg c]
      have e2 : d / b ^ (k + 1) * b ^ (k + 1) = d / b ^ k * b ^ k := by
        rw [show d / b ^ k % b = 0 by omega, Nat.zero_mul, Nat.add_zero] at e1
        exact e1.symm
      rw [e2]
      exact ih
theorem turns_rows {b n d k : Nat} (hb : 2 ≤ b) (ws : List Bool) (hk : IsLev b n d k) (hnd : n < d) : Turns n d (fun t => sideT b ws t d 0) (tsOf ws (rowsOf b n d k)) := by
  have h1 : n < d / b ^ k * b ^ k := (Nat.div_lt_iff_lt_mul (pow_pos' hb k)).mp (hk.ne hnd)
  refine (turns_tail hb ws k).cons h1 (Nat.div_mul_le_self _ _) fun t h2 h3 => ?_
  show sideT b ws t d 0 = _
  rw [sideT_eq (hk.later hb hnd h2 h3)]
  exact front_tick ..
/-- ticks told, one by one: the least one from there on with the side that is wanted; or that one has none -/
inductive Pl (R : List (Nat × Bool)) : Nat → List (Option Bool) → List Nat → Bool → Prop
  | nil {a : Nat} : Pl R a [] [] true
  | cons {a i x : Nat} {f : Bool} {w : Option Bool} {ws : List (Option Bool)} {xs : List Nat} {ok : Bool} (h : R[i]? = some (x, f)) (ha : a ≤ i) (hw : some f = w) (hno : ∀ j r, a ≤ j → j < i → R[j]? = some r → some r.2 ≠ w) (t : Pl R i ws xs ok) : Pl R a (w :: ws) (x :: xs) ok
  | stop {a : Nat} {w : Option Bool} {ws : List (Option Bool)} (h : ∀ j r, a ≤ j → R[j]? = some r → some r.2 ≠ w) : Pl R a (w :: ws) [] false
theorem Pl.len {R : List (Nat × Bool)} {a : Nat} {ws : List (Option Bool)} {xs : List Nat} (h : Pl R a ws xs true) : xs.length = ws.length := by
  generalize e : true = ok at h
  induction h with
  | nil => rfl
  | cons h ha hw hno t ih => exact congrArg Nat.succ (ih e)
  | stop h => cases e
theorem Pl.le {R : List (Nat × Bool)} {a : Nat} {ws : List (Option Bool)} {xs : List Nat} {ok : Bool} (h : Pl R a ws xs ok) : xs.length ≤ ws.length := by
  induction h with
  | nil => exact Nat.le_refl _
  | cons h ha hw hno t ih => exact Nat.succ_le_succ ih
  | stop h => exact Nat.zero_le _
theorem asc_le {R : List (Nat × Bool)} (ha : (R.map (·.1)).Pairwise (· < ·)) {i j : Nat} {x y : Nat × Bool} (hi : R[i]? = some x) (hj : R[j]? = some y) (h : i ≤ j) : x.1 ≤ y.1 := by
  by_cases c : i = j
  · subst c
    rw [hi] at hj
    cases hj
    exact Nat.le_refl _
  · have il := (List.getElem?_eq_some_iff.mp hi).1
    have jl := (List.getElem?_eq_some_iff.mp hj).1
    have z := List.pairwise_iff_getElem.mp ha i j (by rw [List.length_map]; exact il) (by rw [List.length_map]; exact jl) (by omega)
    rw [List.getElem_map, List.getElem_map, (List.getElem?_eq_some_iff.mp hi).2, (List.getElem?_eq_some_iff.mp hj).2] at z
    exact Nat.le_of_lt z
theorem Pl.rise {R : List (Nat × Bool)} (hR : (R.map (·.1)).Pairwise (· < ·)) {a : Nat} {ws : List (Option Bool)} {xs : List Nat} {ok : Bool} (h : Pl R a ws xs ok) : ∀ {x0 : Nat × Bool}, R[a]? = some x0 → (x0.1 :: xs).Pairwise (· ≤ ·) ∧ ∀ x ∈ xs, ∃ r ∈ R, r.1 = x := by
  induction h with
  | nil => exact fun _ => ⟨List.pairwise_singleton .., fun x hx => by cases hx⟩
  | @cons a i x f w ws xs ok h ha hw hno t ih =>
    intro x0 h0
    obtain ⟨z1, z2⟩ := ih h
    have z3 := asc_le hR h0 h ha
    refine ⟨List.pairwise_cons.mpr ⟨fun y hy => ?_, z1⟩, fun y hy => ?_⟩
    · rcases List.mem_cons.mp hy with e | hy
      · rw [e]
        exact z3
      · exact Nat.le_trans z3 ((List.pairwise_cons.mp z1).1 y hy)
    · rcases List.mem_cons.mp hy with e | hy
      · exact ⟨_, List.mem_of_getElem? h, e.symm⟩
      · exact z2 y hy
  | stop h => exact fun _ => ⟨List.pairwise_singleton .., fun x hx => by cases hx⟩
/-- each tick has the side that is wanted -/
theorem Pl.sides {n d : Nat} {sd : Nat → Bool} {R : List (Nat × Bool)} (T : Turns n d sd R) {a : Nat} {ws : List (Option Bool)} {xs : List Nat} {ok : Bool} (h : Pl R a ws xs ok) : ∀ (i x : Nat), xs[i]? = some x → ws[i]? = some (some (sd x)) := by
  induction h with
  | nil => exact fun i x hi => by simp at hi
  | @cons a i x f w ws xs ok h ha hw hno t ih =>
    intro j y hj
    cases j with
    | zero =>
      have e : x = y := Option.some.inj hj
      have o := T.own _ (List.mem_of_getElem? h)
      have o' : sd x = f := o
      rw [← e, o']
      exact congrArg some hw.symm
    | succ j => exact ih j y hj
  | stop h => exact fun i x hi => by simp at hi
/-- where one has none: those before it are told, and from the last tick on no side is the wanted one -/
theorem Pl.split {n d : Nat} {sd : Nat → Bool} {R : List (Nat × Bool)} (T : Turns n d sd R) {a : Nat} {ws : List (Option Bool)} {xs : List Nat} {ok : Bool} (h : Pl R a ws xs ok) (he : ok = false) : ∀ {x0 : Nat × Bool}, R[a]? = some x0 →
    ∃ w, ws[xs.length]? = some w ∧ Pl R a (ws.take xs.length) xs true ∧ ∃ y, (x0.1 :: xs)[xs.length]? = some y ∧ ∀ t, y ≤ t → t < d → some (sd t) ≠ w := by
  induction h with
  | nil => cases he
  | @cons a i x f w ws xs ok h ha hw hno t ih =>
    intro x0 h0
    obtain ⟨w1, a1, a2, y, a3, a4⟩ := ih he h
    exact ⟨w1, a1, .cons h ha hw hno a2, y, a3, a4⟩
  | @stop a w ws h =>
    intro x0 h0
    refine ⟨w, rfl, .nil, x0.1, rfl, fun t h1 h2 => ?_⟩
    have hn := (T.lt x0 (List.mem_of_getElem? h0)).1
    obtain ⟨i, r, b1, b2, b3, b4⟩ := T.at_ t (by omega) h2
    rw [b3]
    exact h i r (b4 a x0 h0 h1) b1
theorem snoc_ind {α : Type} {M : List α → Prop} (h0 : M []) (hs : ∀ (l : List α) (x : α), M l → M (l ++ [x])) (l : List α) : M l := by
  have h : ∀ l : List α, M l.reverse := fun l => by
    induction l with
    | nil => exact h0
    | cons a l ih =>
      rw [List.reverse_cons]
      exact hs _ _ ih
  have z := h l.reverse
  rwa [List.reverse_reverse] at z
/-- the order in which timers fire that are set one behind the other, by their sides -/
def ordOf (fs : List Bool) : List Nat := fs.zipIdx.foldl (fun acc z => insT z.1 z.2 acc) []
theorem ord_snoc (fs : List Bool) (f : Bool) : ordOf (fs ++ [f]) = insT f fs.length (ordOf fs) := by
  unfold ordOf
  rw [List.zipIdx_append, List.foldl_append]
  simp
open Classical in
/-- the side that an order asks for -/
noncomputable def wantAt (o : List Nat) (i : Nat) : Option Bool := if ∀ j, j < i → o.idxOf i < o.idxOf j then some true else if ∀ j, j < i → o.idxOf j < o.idxOf i then some false else none
noncomputable def wantOf (o : List Nat) : List (Option Bool) := (List.range (o.length - 1)).map fun i => wantAt o (i + 1)
def uptoN (o : List Nat) (i : Nat) : List Nat := o.filter fun x => decide (x < i)
theorem upto_split {pre post : List Nat} {i : Nat} (h1 : i ∉ pre) (h2 : i ∉ post) : uptoN (pre ++ i :: post) (i + 1) = uptoN pre i ++ i :: uptoN post i ∧ uptoN (pre ++ i :: post) i = uptoN pre i ++ uptoN post i := by
  unfold uptoN
  have e : ∀ l : List Nat, i ∉ l → l.filter (fun x => decide (x < i + 1)) = l.filter fun x => decide (x < i) := fun l hl => by
    refine List.filter_congr fun x hx => ?_
    have : x ≠ i := fun z => hl (z ▸ hx)
    by_cases c : x < i
    · rw [decide_eq_true c, decide_eq_true (by omega)]
    · rw [decide_eq_false c, decide_eq_false (by omega)]
  constructor
  · rw [List.filter_append, List.filter_cons_of_pos (by simp), e pre h1, e post h2]
  · rw [List.filter_append, List.filter_cons_of_neg (by simp)]
theorem idx_split {pre post : List Nat} {i : Nat} (h1 : i ∉ pre) : (pre ++ i :: post).idxOf i = pre.length := by
  rw [List.idxOf_append, if_neg h1, List.idxOf_cons_self, Nat.zero_add]
theorem idx_pre {pre post : List Nat} {j : Nat} (h : j ∈ pre) : (pre ++ post).idxOf j < pre.length := by
  rw [List.idxOf_append, if_pos h]
  exact List.idxOf_lt_length_of_mem h
theorem idx_post {pre post : List Nat} {i j : Nat} (h : j ∉ pre) (hi : i ≠ j) : pre.length < (pre ++ i :: post).idxOf j := by
  rw [List.idxOf_append, if_neg h, List.idxOf_cons]
  have : (i == j) = false := by simpa using hi
  rw [this, cond_false]
  omega
theorem want_iff {o : List Nat} (nd : o.Nodup) {i : Nat} (hm : ∀ j, j ≤ i → j ∈ o) (hi : 0 < i) (f : Bool) : wantAt o i = some f ↔ uptoN o (i + 1) = insT f i (uptoN o i) := by
  obtain ⟨pre, post, e⟩ := List.append_of_mem (hm i (Nat.le_refl _))
  have nd' := nd
  rw [e] at nd'
  obtain ⟨n1, n2, n3⟩ := List.nodup_append.mp nd'
  have h1 : i ∉ pre := fun z => n3 i z i (List.mem_cons_self ..) rfl
  have h2 : i ∉ post := (List.nodup_cons.mp n2).1
  obtain ⟨u1, u2⟩ := upto_split h1 h2
  have hw : ∀ j, j < i → j ∈ pre ∨ j ∈ post := fun j hj => by
    have z := hm j (Nat.le_of_lt hj)
    rw [e] at z
    rcases List.mem_append.mp z with z | z
    · exact .inl z
    · rcases List.mem_cons.mp z with z | z
      · omega
      · exact .inr z
  have hpp : ∀ j, j ∈ post → j ∉ pre := fun j hj z => n3 j z j (List.mem_cons_of_mem _ hj) rfl
  have A : (∀ j, j < i → o.idxOf i < o.idxOf j) ↔ uptoN pre i = [] := by
    rw [e]
    constructor
    · intro h
      unfold uptoN
      rw [List.filter_eq_nil_iff]
      intro x hx hlt
      have y := h x (of_decide_eq_true hlt)
      rw [idx_split h1] at y
      have := idx_pre (post := i :: post) hx
      omega
    · intro h j hj
      rw [idx_split h1]
      rcases hw j hj with z | z
      · have : j ∈ uptoN pre i := List.mem_filter.mpr ⟨z, decide_eq_true hj⟩
        rw [h] at this
        cases this
      · exact idx_post (hpp j z) (by omega)
  have B : (∀ j, j < i → o.idxOf j < o.idxOf i) ↔ uptoN post i = [] := by
    rw [e]
    constructor
    · intro h
      unfold uptoN
      rw [List.filter_eq_nil_iff]
      intro x hx hlt
      have hlt' := of_decide_eq_true hlt
      have y := h x hlt'
      rw [idx_split h1] at y
      have := idx_post (post := post) (hpp x hx) (show i ≠ x by omega)
      omega
    · intro h j hj
      rw [idx_split h1]
      rcases hw j hj with z | z
      · exact idx_pre z
      · have : j ∈ uptoN post i := List.mem_filter.mpr ⟨z, decide_eq_true hj⟩
        rw [h] at this
        cases this
  have ne : uptoN pre i ++ uptoN post i ≠ [] := by
    rcases hw 0 hi with z | z
    · exact fun y => by
        have : (0 : Nat) ∈ uptoN pre i := List.mem_filter.mpr ⟨z, decide_eq_true hi⟩
        rw [(List.append_eq_nil_iff.mp y).1] at this
        cases this
    · exact fun y => by
        have : (0 : Nat) ∈ uptoN post i := List.mem_filter.mpr ⟨z, decide_eq_true hi⟩
        rw [(List.append_eq_nil_iff.mp y).2] at this
        cases this
  have np : i ∉ uptoN pre i := fun z => h1 (List.mem_filter.mp z).1
  have nq : i ∉ uptoN post i := fun z => h2 (List.mem_filter.mp z).1
  have et : uptoN o (i + 1) = uptoN pre i ++ i :: uptoN post i := by rw [e]; exact u1
  have eu : uptoN o i = uptoN pre i ++ uptoN post i := by rw [e]; exact u2
  rw [et, eu]
  unfold wantAt
  cases f with
  | true =>
    have C : (uptoN pre i ++ i :: uptoN post i = insT true i (uptoN pre i ++ uptoN post i)) ↔ uptoN pre i = [] := by
      show _ = i :: _ ↔ _
      cases hp : uptoN pre i with
      | nil => simp
      | cons x xs =>
        rw [hp] at np
        have : x ≠ i := fun z => np (z ▸ List.mem_cons_self ..)
        simp [this]
    rw [C]
    by_cases c : ∀ j, j < i → o.idxOf i < o.idxOf j
    · rw [if_pos c]
      exact ⟨fun _ => A.mp c, fun _ => rfl⟩
    · rw [if_neg c]
      refine ⟨(fun h => ?_), fun h => absurd (A.mpr h) c⟩
      split at h <;> cases h
  | false =>
    have C : (uptoN pre i ++ i :: uptoN post i = insT false i (uptoN pre i ++ uptoN post i)) ↔ uptoN post i = [] := by
      show _ = _ ++ [i] ↔ _
      rw [List.append_assoc, List.append_cancel_left_eq]
      cases hp : uptoN post i with
      | nil => simp
      | cons x xs =>
        rw [hp] at nq
        have : x ≠ i := fun z => nq (z ▸ List.mem_cons_self ..)
        simp [Ne.symm this]
    rw [C]
    by_cases c : ∀ j, j < i → o.idxOf i < o.idxOf j
    · rw [if_pos c]
      refine ⟨(fun h => by cases h), fun h => absurd ?_ ne⟩
      rw [A.mp c, h]
      rfl
    · rw [if_neg c]
      by_cases c2 : ∀ j, j < i → o.idxOf j < o.idxOf i
      · rw [if_pos c2]
        exact ⟨fun _ => B.mp c2, fun _ => rfl⟩
      · rw [if_neg c2]
        exact ⟨(fun h => by cases h), fun h => absurd (B.mpr h) c2⟩
/-- an order: each number once -/
def IsOrd (o : List Nat) : Prop := o.Nodup ∧ ∀ x, x ∈ o ↔ x < o.length
theorem IsOrd.len {o : List Nat} (h : IsOrd o) {i : Nat} (hi : i ≤ o.length) : (uptoN o i).length = i := by
  have p : (uptoN o i).Perm (List.range i) := (List.perm_ext_iff_of_nodup (h.1.filter _) List.nodup_range).mpr fun x => by
    rw [List.mem_range]
    rw [List.mem_filter, h.2 x]
    simp
    omega
  rw [p.length_eq, List.length_range]
theorem IsOrd.upto {o : List Nat} (h : IsOrd o) {i : Nat} (hi : i ≤ o.length) : IsOrd (uptoN o i) := by
  refine ⟨h.1.filter _, fun x => ?_⟩
  rw [h.len hi]
  show x ∈ o.filter (fun x => decide (x < i)) ↔ _
  rw [List.mem_filter, h.2 x]
  simp
  omega
theorem upto_upto (o : List Nat) {i j : Nat} (h : i ≤ j) : uptoN (uptoN o j) i = uptoN o i := by
  unfold uptoN
  rw [List.filter_filter]
  refine List.filter_congr fun x _ => ?_
  by_cases c : x < i
  · rw [decide_eq_true c, decide_eq_true (show x < j by omega)]
    rfl
  · rw [decide_eq_false c]
    rfl
theorem upto_all {o : List Nat} (h : IsOrd o) : uptoN o o.length = o := List.filter_eq_self.mpr fun x hx => decide_eq_true ((h.2 x).mp hx)
theorem want_upto {o : List Nat} (h : IsOrd o) {i m : Nat} (hm : m ≤ o.length) (hi : 0 < i) (him : i < m) : wantAt (uptoN o m) i = wantAt o i := by
  have e : ∀ f, wantAt (uptoN o m) i = some f ↔ wantAt o i = some f := fun f => by
    rw [want_iff (h.upto hm).1 (fun j hj => ((h.upto hm).2 j).mpr (by rw [h.len hm]; omega)) hi f, want_iff h.1 (fun j hj => (h.2 j).mpr (by omega)) hi f, upto_upto o (by omega), upto_upto o (by omega)]
  cases hw : wantAt o i with
  | some f => exact (e f).mpr hw
  | none =>
    cases hw2 : wantAt (uptoN o m) i with
    | none => rfl
    | some f =>
      rw [(e f).mp hw2] at hw
      cases hw
theorem wantOf_len (o : List Nat) : (wantOf o).length = o.length - 1 := by
  unfold wantOf
  rw [List.length_map, List.length_range]
theorem wantOf_at {o : List Nat} {i : Nat} (h : i + 1 < o.length) : (wantOf o)[i]? = some (wantAt o (i + 1)) := by
  unfold wantOf
  rw [List.getElem?_map, List.getElem?_range (by omega)]
  rfl
theorem wantOf_upto {o : List Nat} (h : IsOrd o) {m : Nat} (hm : m + 1 ≤ o.length) : wantOf (uptoN o (m + 1)) = (wantOf o).take m := by
  refine List.ext_getElem? fun i => ?_
  by_cases c : i < m
  · rw [wantOf_at (by rw [h.len hm]; omega), List.getElem?_take, if_pos c, wantOf_at (by omega), want_upto h hm (by omega) (by omega)]
  · rw [List.getElem?_eq_none (by rw [wantOf_len, h.len hm]; omega), List.getElem?_eq_none (by rw [List.length_take]; omega)]
/-- sides as wanted lead to the order -/
theorem ord_right {o : List Nat} (h : IsOrd o) {f0 : Bool} {fs : List Bool} (hl : fs.length + 1 ≤ o.length) (hw : ∀ (i : Nat) (f : Bool), fs[i]? = some f → (wantOf o)[i]? = some (some f)) : ordOf (f0 :: fs) = uptoN o (fs.length + 1) := by
  induction fs using snoc_ind with
  | h0 =>
    have e1 := h.len (i := 1) (by simpa using hl)
    have e2 : ordOf [f0] = [0] := by
      unfold ordOf
      cases f0 <;> rfl
    rw [e2]
    match hu : uptoN o 1, e1 with
    | [x], _ =>
      have : x ∈ uptoN o 1 := by rw [hu]; exact List.mem_singleton.mpr rfl
      have := of_decide_eq_true (List.mem_filter.mp this).2
      have e3 : x = 0 := by omega
      rw [e3]
  | hs fs f ih =>
    rw [List.length_append] at hl
    have hl' : fs.length + 1 + 1 ≤ o.length := hl
    have ih' := ih (by omega) fun i g hg => hw i g (by rw [List.getElem?_append_left (List.getElem?_eq_some_iff.mp hg).1]; exact hg)
    have z := hw fs.length f (by rw [List.getElem?_append_right (Nat.le_refl _), Nat.sub_self]; rfl)
    rw [wantOf_at (by omega)] at z
    have y := (want_iff h.1 (fun j hj => (h.2 j).mpr (by omega)) (Nat.succ_pos _) f).mp (Option.some.inj z)
    rw [← List.cons_append, ord_snoc, List.length_cons, ih', List.length_append]
    exact y.symm
/-- a side that is not the wanted one leads elsewhere -/
theorem ord_wrong {o : List Nat} (h : IsOrd o) {f0 f : Bool} {fs : List Bool} (hl : fs.length + 1 < o.length) (hw : ∀ (i : Nat) (f : Bool), fs[i]? = some f → (wantOf o)[i]? = some (some f)) (hn : wantAt o (fs.length + 1) ≠ some f) : ordOf (f0 :: fs ++ [f]) ≠ uptoN o (fs.length + 2) := fun e => by
  rw [ord_snoc, List.length_cons, ord_right h (by omega) hw] at e
  exact hn ((want_iff h.1 (fun j hj => (h.2 j).mpr (by omega)) (Nat.succ_pos _) f).mpr e.symm)
theorem ord_len (fs : List Bool) : (ordOf fs).length = fs.length := by
  induction fs using snoc_ind with
  | h0 => rfl
  | hs fs f ih => rw [ord_snoc, insT_len, ih, List.length_append, List.length_singleton]
/-- who is the first of those up to one -/
theorem head_want {o : List Nat} (h : IsOrd o) {i : Nat} (hi : 0 < i) (hio : i < o.length) {f : Bool} (hw : wantAt o i = some f) : ∃ x xs, uptoN o (i + 1) = x :: xs ∧ (decide (x = i)) = f := by
  have y := (want_iff h.1 (fun j hj => (h.2 j).mpr (by omega)) hi f).mp hw
  rw [y]
  have hl := h.len (i := i) (Nat.le_of_lt hio)
  cases f with
  | true => exact ⟨i, _, rfl, decide_eq_true rfl⟩
  | false =>
    cases hu : uptoN o i with
    | nil =>
      rw [hu] at hl
      have : 0 = i := hl
      omega
    | cons x xs =>
      refine ⟨x, xs ++ [i], rfl, decide_eq_false fun z => ?_⟩
      have : x ∈ uptoN o i := by rw [hu]; exact List.mem_cons_self ..
      have := of_decide_eq_true (List.mem_filter.mp this).2
      omega
noncomputable def sdOf (b : Nat) (ws : List Bool) (d : Nat) (ts : List Nat) : List Bool := ts.map fun t => sideT b ws t d 0
/-! ### the law's own wheel in the heap -/
def lrowV (m : Tm) : List V := [.int (m.num : Nat), .int (m.due : Nat), perV m.per]
/-- the tuples ts tell the timers -/
def LRows (H : Hp) : List Addr → List Tm → Prop
  | [], [] => True
  | t :: ts, m :: ms => H t = some (.tup (lrowV m)) ∧ LRows H ts ms
  | _, _ => False
theorem LRows.frame {H H' : Hp} (s : ∀ t xs, H t = some (.tup xs) → H' t = some (.tup xs)) : ∀ {ts : List Addr} {ms : List Tm}, LRows H ts ms → LRows H' ts ms
  | [], [], _ => trivial
  | _ :: _, _ :: _, h => ⟨s _ _ h.1, h.2.frame s⟩
  | [], _ :: _, h => h.elim
  | _ :: _, [], h => h.elim
theorem LRows.len {H : Hp} : ∀ {ts : List Addr} {ms : List Tm}, LRows H ts ms → ts.length = ms.length
  | [], [], _ => rfl
  | _ :: _, _ :: _, h => congrArg Nat.succ h.2.len
  | [], _ :: _, h => h.elim
  | _ :: _, [], h => h.elim
theorem LRows.app {H : Hp} : ∀ {ts ts' : List Addr} {ms ms' : List Tm}, LRows H ts ms → LRows H ts' ms' → LRows H (ts ++ ts') (ms ++ ms')
  | [], _, [], _, _, h => h
  | _ :: _, _, _ :: _, _, h, h' => ⟨h.1, h.2.app h'⟩
  | [], _, _ :: _, _, h, _ => h.elim
  | _ :: _, _, [], _, h, _ => h.elim
theorem LRows.ins {H : Hp} {t : Addr} {m : Tm} {ts : List Addr} {ms : List Tm} (ht : H t = some (.tup (lrowV m))) (h : LRows H ts ms) (w : Bool) : LRows H (if w then t :: ts else ts ++ [t]) (insM w m ms) := by
  cases w with
  | true => exact ⟨ht, h⟩
  | false => exact h.app ⟨ht, trivial⟩
theorem LRows.get {H : Hp} : ∀ {ts : List Addr} {ms : List Tm} {i : Nat} {x : V}, LRows H ts ms → (ts.map V.ref)[i]? = some x → ∃ t m, x = .ref t ∧ ts[i]? = some t ∧ ms[i]? = some m ∧ H t = some (.tup (lrowV m))
  | t :: ts, m :: ms, 0, x, h, e => ⟨t, m, (Option.some.inj e).symm, rfl, rfl, h.1⟩
  | t :: ts, m :: ms, i + 1, x, h, e => by
    have z := h.2.get (i := i) (x := x) e
    exact z
  | [], [], _, _, _, e => by cases e
  | [], _ :: _, _, _, h, _ => h.elim
  | _ :: _, [], _, _, h, _ => h.elim
/-- the cells of the law's dict, ps the addresses of their lists -/
def LCells (H : Hp) : List (List Key × V) → List LCell → List Addr → Prop
  | [], [], [] => True
  | kv :: kvs, c :: cs, p :: ps => kv.1 = keyC c.1 ∧ kv.2 = .ref p ∧ (∃ ts, H p = some (.lst (ts.map V.ref)) ∧ LRows H ts c.2) ∧ LCells H kvs cs ps
  | _, _, _ => False
theorem LCells.frame {H H' : Hp} (s : ∀ t xs, H t = some (.tup xs) → H' t = some (.tup xs)) : ∀ {kvs : List (List Key × V)} {cs : List LCell} {ps : List Addr}, (∀ p ∈ ps, ∀ o, H p = some o → H' p = some o) → LCells H kvs cs ps → LCells H' kvs cs ps
  | [], [], [], _, _ => trivial
  | _ :: _, _ :: _, p :: _, k, ⟨h1, h2, ⟨ts, h3, h4⟩, h5⟩ => ⟨h1, h2, ⟨ts, k p (List.mem_cons_self ..) _ h3, h4.frame s⟩, h5.frame s fun q hq => k q (List.mem_cons_of_mem _ hq)⟩
  | [], [], _ :: _, _, h => h.elim
  | [], _ :: _, [], _, h => h.elim
  | [], _ :: _, _ :: _, _, h => h.elim
  | _ :: _, [], [], _, h => h.elim
  | _ :: _, [], _ :: _, _, h => h.elim
  | _ :: _, _ :: _, [], _, h => h.elim
theorem LCells.len {H : Hp} : ∀ {kvs : List (List Key × V)} {cs : List LCell} {ps : List Addr}, LCells H kvs cs ps → kvs.length = cs.length
  | [], [], [], _ => rfl
  | _ :: _, _ :: _, _ :: _, h => congrArg Nat.succ h.2.2.2.len
  | [], [], _ :: _, h => h.elim
  | [], _ :: _, [], h => h.elim
  | [], _ :: _, _ :: _, h => h.elim
  | _ :: _, [], [], h => h.elim
  | _ :: _, [], _ :: _, h => h.elim
  | _ :: _, _ :: _, [], h => h.elim
theorem LCells.lst {H : Hp} : ∀ {kvs : List (List Key × V)} {cs : List LCell} {ps : List Addr}, LCells H kvs cs ps → ∀ p ∈ ps, ∃ ts : List Addr, H p = some (.lst (ts.map V.ref))
  | [], [], [], _, p, h => by cases h
  | _ :: _, _ :: _, p :: ps, ⟨_, _, ⟨ts, h3, _⟩, h5⟩, q, h => by
    rcases List.mem_cons.mp h with e | h
    · exact ⟨ts, by rw [e]; exact h3⟩
    · exact h5.lst q h
  | [], [], _ :: _, h, _, _ => h.elim
  | [], _ :: _, [], h, _, _ => h.elim
  | [], _ :: _, _ :: _, h, _, _ => h.elim
  | _ :: _, [], [], h, _, _ => h.elim
  | _ :: _, [], _ :: _, h, _, _ => h.elim
  | _ :: _, _ :: _, [], h, _, _ => h.elim
theorem LCells.keys {H : Hp} : ∀ {kvs : List (List Key × V)} {cs : List LCell} {ps : List Addr}, LCells H kvs cs ps → kvs.map (·.1) = cs.map fun c => keyC c.1
  | [], [], [], _ => rfl
  | _ :: _, _ :: _, _ :: _, h => by rw [List.map_cons, List.map_cons, h.1, h.2.2.2.keys]
  | [], [], _ :: _, h => h.elim
  | [], _ :: _, [], h => h.elim
  | [], _ :: _, _ :: _, h => h.elim
  | _ :: _, [], [], h => h.elim
  | _ :: _, [], _ :: _, h => h.elim
  | _ :: _, _ :: _, [], h => h.elim
theorem keyC_not {p : Nat × Nat} {kvs : List (List Key × V)} (h : keyC p ∉ kvs.map (·.1)) : valV kvs (keyC p) = none := by
  induction kvs with
  | nil => rfl
  | cons kv kvs ih =>
    rw [List.map_cons, List.mem_cons, not_or] at h
    rw [valV_neg fun z => h.1 z.symm]
    exact ih h.2
/-- what stands at a key, and how the cells come when it is replaced, or taken out -/
theorem LCells.at {H : Hp} {k : Nat × Nat} : ∀ {kvs : List (List Key × V)} {cs : List LCell} {ps : List Addr}, LCells H kvs cs ps → k ∈ cs.map (·.1) → ∃ p ∈ ps, ∃ ts, valV kvs (keyC k) = some (.ref p) ∧ H p = some (.lst (ts.map V.ref)) ∧ LRows H ts (gv cs k)
  | [], [], [], _, h => by cases h
  | kv :: kvs, c :: cs, p :: ps, ⟨h1, h2, ⟨ts, h3, h4⟩, h5⟩, h => by
    by_cases e : c.1 = k
    · refine ⟨p, List.mem_cons_self .., ts, ?_, h3, ?_⟩
      · rw [valV_pos (h1.trans (keyC_inj.mpr e)), h2]
      · show LRows H ts (if c.1 = k then c.2 else gv cs k)
        rw [if_pos e]
        exact h4
    · rw [List.map_cons, List.mem_cons] at h
      obtain ⟨q, hq, us, a1, a2, a3⟩ := h5.at (h.resolve_left fun z => e z.symm)
      refine ⟨q, List.mem_cons_of_mem _ hq, us, ?_, a2, ?_⟩
      · rw [valV_neg fun z => e (keyC_inj.mp (h1.symm.trans z))]
        exact a1
      · show LRows H us (if c.1 = k then c.2 else gv cs k)
        rw [if_neg e]
        exact a3
  | [], [], _ :: _, h, _ => h.elim
  | [], _ :: _, [], h, _ => h.elim
  | [], _ :: _, _ :: _, h, _ => h.elim
  | _ :: _, [], [], h, _ => h.elim
  | _ :: _, [], _ :: _, h, _ => h.elim
  | _ :: _, _ :: _, [], h, _ => h.elim
theorem LCells.snoc {H : Hp} {k : Nat × Nat} {p : Addr} {ts : List Addr} {l : List Tm} (h3 : H p = some (.lst (ts.map V.ref))) (h4 : LRows H ts l) : ∀ {kvs : List (List Key × V)} {cs : List LCell} {ps : List Addr}, LCells H kvs cs ps → LCells H (kvs ++ [(keyC k, .ref p)]) (cs ++ [(k, l)]) (ps ++ [p])
  | [], [], [], _ => ⟨rfl, rfl, ⟨ts, h3, h4⟩, trivial⟩
  | _ :: _, _ :: _, _ :: _, ⟨a1, a2, a3, a4⟩ => ⟨a1, a2, a3, a4.snoc h3 h4⟩
  | [], [], _ :: _, h => h.elim
  | [], _ :: _, [], h => h.elim
  | [], _ :: _, _ :: _, h => h.elim
  | _ :: _, [], [], h => h.elim
  | _ :: _, [], _ :: _, h => h.elim
  | _ :: _, _ :: _, [], h => h.elim
/-- the list at one key has changed in its place -/
theorem LCells.set {H H' : Hp} {k : Nat × Nat} {p : Addr} {us : List Addr} {l : List Tm} (s : ∀ t xs, H t = some (.tup xs) → H' t = some (.tup xs)) (s2 : ∀ q o, q ≠ p → (∃ ts : List Addr, o = .lst (ts.map V.ref)) → H q = some o → H' q = some o)
    (h3 : H' p = some (.lst (us.map V.ref))) (h4 : LRows H' us l) : ∀ {kvs : List (List Key × V)} {cs : List LCell} {ps : List Addr}, LCells H kvs cs ps → ps.Nodup → (cs.map (·.1)).Nodup → valV kvs (keyC k) = some (.ref p) → LCells H' kvs (cs.map fun c => if c.1 = k then (c.1, l) else c) ps
  | [], [], [], _, _, _, _ => trivial
  | kv :: kvs, c :: cs, q :: ps, ⟨a1, a2, ⟨ts, a3, a4⟩, a5⟩, nd, nk, hv => by
    rw [List.nodup_cons] at nd
    rw [List.map_cons, List.nodup_cons] at nk
    by_cases e : c.1 = k
    · rw [valV_pos (a1.trans (keyC_inj.mpr e)), a2] at hv
      have eq : q = p := V.ref.inj (Option.some.inj hv)
      subst eq
      have e2 : (cs.map fun c => if c.1 = k then (c.1, l) else c) = cs := by
        have z : ∀ c' ∈ cs, (if c'.1 = k then (c'.1, l) else c') = c' := fun c' hc => if_neg fun y => nk.1 (List.mem_map.mpr ⟨c', hc, y.trans e.symm⟩)
        rw [List.map_congr_left (g := id) z, List.map_id]
      rw [List.map_cons, if_pos e, e2]
      refine ⟨a1, a2, ⟨us, h3, h4⟩, a5.frame s fun r hr o ho => ?_⟩
      obtain ⟨ts', hl⟩ := a5.lst r hr
      exact s2 r o (fun z => nd.1 (by rw [← z]; exact hr)) ⟨ts', Option.some.inj (ho.symm.trans hl)⟩ ho
    · rw [valV_neg fun z => e (keyC_inj.mp (a1.symm.trans z))] at hv
      have hm : k ∈ cs.map (·.1) := Classical.byContradiction fun no => by
        have z : keyC k ∉ kvs.map (·.1) := fun y => by
          rw [a5.keys] at y
          obtain ⟨c', hc, ec⟩ := List.mem_map.mp y
          exact no (List.mem_map.mpr ⟨c', hc, keyC_inj.mp ec⟩)
        rw [keyC_not z] at hv
        cases hv
      obtain ⟨p', hp', _, b1, _⟩ := a5.at hm
      have ep : p' = p := V.ref.inj (Option.some.inj (b1.symm.trans hv))
      rw [List.map_cons, if_neg e]
      exact ⟨a1, a2, ⟨ts, s2 q _ (fun z => nd.1 (by rw [z, ← ep]; exact hp')) ⟨ts, rfl⟩ a3, a4.frame s⟩, a5.set s s2 h3 h4 nd.2 nk.2 hv⟩
  | [], [], _ :: _, h, _, _, _ => h.elim
  | [], _ :: _, [], h, _, _, _ => h.elim
  | [], _ :: _, _ :: _, h, _, _, _ => h.elim
  | _ :: _, [], [], h, _, _, _ => h.elim
  | _ :: _, [], _ :: _, h, _, _, _ => h.elim
  | _ :: _, _ :: _, [], h, _, _, _ => h.elim
/-- the cell at one key is taken out -/
theorem LCells.drop {H : Hp} {k : Nat × Nat} : ∀ {kvs : List (List Key × V)} {cs : List LCell} {ps : List Addr}, LCells H kvs cs ps → ps.Nodup → (cs.map (·.1)).Nodup → ∃ ps', LCells H (dropK kvs (keyC k)) (ldrop cs k) ps' ∧ ps'.Sublist ps ∧ ∀ p, valV kvs (keyC k) = some (.ref p) → p ∉ ps'
  | [], [], [], _, _, _ => ⟨[], trivial, List.Sublist.refl _, fun p h => by cases h⟩
  | kv :: kvs, c :: cs, q :: ps, ⟨a1, a2, a3, a5⟩, nd, nk => by
    rw [List.nodup_cons] at nd
    rw [List.map_cons, List.nodup_cons] at nk
    obtain ⟨ps', b1, b2, b3⟩ := a5.drop (k := k) nd.2 nk.2
    by_cases e : c.1 = k
    · have z1 : dropK (kv :: kvs) (keyC k) = dropK kvs (keyC k) := List.filter_cons_of_neg (by simp [a1.trans (keyC_inj.mpr e)])
      have z2 : ldrop (c :: cs) k = ldrop cs k := List.filter_cons_of_neg (by simp [e])
      rw [z1, z2]
      refine ⟨ps', b1, .cons _ b2, fun p hp hm => ?_⟩
      rw [valV_pos (a1.trans (keyC_inj.mpr e)), a2] at hp
      have eq : q = p := V.ref.inj (Option.some.inj hp)
      exact nd.1 (by rw [eq]; exact b2.subset hm)
    · have ne : ¬ kv.1 = keyC k := fun z => e (keyC_inj.mp (a1.symm.trans z))
      have z1 : dropK (kv :: kvs) (keyC k) = kv :: dropK kvs (keyC k) := List.filter_cons_of_pos (by simp [ne])
      have z2 : ldrop (c :: cs) k = c :: ldrop cs k := List.filter_cons_of_pos (by simp [e])
      rw [z1, z2]
      refine ⟨q :: ps', ⟨a1, a2, a3, b1⟩, b2.cons₂ _, fun p hp hm => ?_⟩
      rw [valV_neg ne] at hp
      rcases List.mem_cons.mp hm with z | hm
      · have hk : k ∈ cs.map (·.1) := Classical.byContradiction fun no => by
          have z : keyC k ∉ kvs.map (·.1) := fun y => by
            rw [a5.keys] at y
            obtain ⟨c', hc, ec⟩ := List.mem_map.mp y
            exact no (List.mem_map.mpr ⟨c', hc, keyC_inj.mp ec⟩)
          rw [keyC_not z] at hp
          cases hp
        obtain ⟨p', hp', _, d1, _⟩ := a5.at hk
        have ep : p' = p := V.ref.inj (Option.some.inj (d1.symm.trans hp))
        exact nd.1 (by rw [← z, ← ep]; exact hp')
      · exact b3 p hp hm
  | [], [], _ :: _, h, _, _ => h.elim
  | [], _ :: _, [], h, _, _ => h.elim
  | [], _ :: _, _ :: _, h, _, _ => h.elim
  | _ :: _, [], [], h, _, _ => h.elim
  | _ :: _, [], _ :: _, h, _, _ => h.elim
  | _ :: _, _ :: _, [], h, _, _ => h.elim
/-- the law's wheel at a, its lists at ps -/
structure LW (H : Hp) (a : Addr) (cs : List LCell) (ps : List Addr) : Prop where
  dict : ∃ kvs, H a = some (.dT kvs) ∧ LCells H kvs cs ps
  nd : ps.Nodup
  nk : (cs.map (·.1)).Nodup
theorem LW.frame {H H' : Hp} {a : Addr} {cs : List LCell} {ps : List Addr} (h : LW H a cs ps) (s : ∀ c o, (c = a ∨ c ∈ ps ∨ ∃ xs, o = .tup xs) → H c = some o → H' c = some o) : LW H' a cs ps := by
  obtain ⟨kvs, h1, h2⟩ := h.dict
  exact ⟨⟨kvs, s _ _ (.inl rfl) h1, h2.frame (fun t xs e => s _ _ (.inr (.inr ⟨xs, rfl⟩)) e) fun p hp o e => s _ _ (.inr (.inl hp)) e⟩, h.nd, h.nk⟩
theorem LW.same {H H' : Hp} {a : Addr} {cs : List LCell} {ps : List Addr} (h : LW H a cs ps) (s : Same H H') : LW H' a cs ps := h.frame fun c o _ e => s c o e
theorem LW.lists {H : Hp} {a : Addr} {cs : List LCell} {ps : List Addr} (h : LW H a cs ps) : ∀ p ∈ ps, ∃ ts : List Addr, H p = some (.lst (ts.map V.ref)) := by
  obtain ⟨kvs, _, h2⟩ := h.dict
  exact h2.lst
theorem LW.ne {H : Hp} {a : Addr} {cs : List LCell} {ps : List Addr} (h : LW H a cs ps) : a ∉ ps := fun hm => by
  obtain ⟨kvs, h1, _⟩ := h.dict
  obtain ⟨ts, h2⟩ := h.lists a hm
  rw [h1] at h2
  cases h2
/-- what stays when the wheel at a, lists ps, is worked on; its lists are old ones and new ones -/
structure Lk (a : Addr) (ps : List Addr) (H H' : Hp) (ps' : List Addr) : Prop where
  keep : ∀ c o, c ≠ a → c ∉ ps → H c = some o → H' c = some o
  new : ∀ p ∈ ps', p ∈ ps ∨ H p = none
  stay : ∀ c, H' c = none → H c = none
theorem Lk.trans {a : Addr} {ps ps' ps'' : List Addr} {H H' H'' : Hp} (h : Lk a ps H H' ps') (h' : Lk a ps' H' H'' ps'') : Lk a ps H H'' ps'' := by
  refine ⟨fun c o n1 n2 e => h'.keep c o n1 (fun hm => ?_) (h.keep c o n1 n2 e), fun p hp => ?_, fun c e => h.stay c (h'.stay c e)⟩
  · rcases h.new c hm with z | z
    · exact n2 z
    · rw [z] at e
      cases e
  · rcases h'.new p hp with z | z
    · exact h.new p z
    · exact .inr (h.stay p z)
theorem Lk.ofSame {a : Addr} {ps : List Addr} {H H' : Hp} (s : Same H H') : Lk a ps H H' ps := ⟨fun c o _ _ e => s c o e, fun p hp => .inl hp, fun c e => s.free e⟩
theorem upd_none {H : Hp} {a c : Addr} {o : HO} (h : upd H a o c = none) : H c = none := by
  by_cases e : c = a
  · rw [e, upd_same] at h
    cases h
  · rw [upd_ne e] at h
    exact h
def topS (i : Nat) : Stmt := PySem.Challenge.pw_timerdeque_k25_planned_ticks_gone_throug.main.body.getD i (.Pass ⟨0, 0, 0, 0⟩)
abbrev s_is_integer : Stmt := topS 9
abbrev N_is_integer : List Str := ["given"]
theorem sc_is_integer : FnScope N_is_integer ["given"] (defScope s_is_integer) := by
  refine ⟨rfl, rfl, rfl, ?_, rfl, ?_, ?_⟩ <;> decide +kernel
abbrev s_is_word : Stmt := topS 10
abbrev N_is_word : List Str := ["given"]
theorem sc_is_word : FnScope N_is_word ["given"] (defScope s_is_word) := by
  refine ⟨rfl, rfl, rfl, ?_, rfl, ?_, ?_⟩ <;> decide +kernel
abbrev s_is_base : Stmt := topS 11
abbrev N_is_base : List Str := ["given"]
theorem sc_is_base : FnScope N_is_base ["given"] (defScope s_is_base) := by
  refine ⟨rfl, rfl, rfl, ?_, rfl, ?_, ?_⟩ <;> decide +kernel
abbrev s_is_length : Stmt := topS 12
abbrev N_is_length : List Str := ["given"]
theorem sc_is_length : FnScope N_is_length ["given"] (defScope s_is_length) := by
  refine ⟨rfl, rfl, rfl, ?_, rfl, ?_, ?_⟩ <;> decide +kernel
abbrev s_are_levels : Stmt := topS 13
abbrev N_are_levels : List Str := ["given", "word"]
theorem sc_are_levels : FnScope N_are_levels ["given"] (defScope s_are_levels) := by
  refine ⟨rfl, rfl, rfl, ?_, rfl, ?_, ?_⟩ <;> decide +kernel
abbrev s_is_tick : Stmt := topS 14
abbrev N_is_tick : List Str := ["given", "least"]
theorem sc_is_tick : FnScope N_is_tick ["given", "least"] (defScope s_is_tick) := by
  refine ⟨rfl, rfl, rfl, ?_, rfl, ?_, ?_⟩ <;> decide +kernel
abbrev s_check_base : Stmt := topS 15
abbrev N_check_base : List Str := ["base"]
theorem sc_check_base : FnScope N_check_base ["base"] (defScope s_check_base) := by
  refine ⟨rfl, rfl, rfl, ?_, rfl, ?_, ?_⟩ <;> decide +kernel
abbrev s_check_levels : Stmt := topS 16
abbrev N_check_levels : List Str := ["levels"]
theorem sc_check_levels : FnScope N_check_levels ["levels"] (defScope s_check_levels) := by
  refine ⟨rfl, rfl, rfl, ?_, rfl, ?_, ?_⟩ <;> decide +kernel
abbrev s_check_tick : Stmt := topS 17
abbrev N_check_tick : List Str := ["tick", "least"]
theorem sc_check_tick : FnScope N_check_tick ["tick", "least"] (defScope s_check_tick) := by
  refine ⟨rfl, rfl, rfl, ?_, rfl, ?_, ?_⟩ <;> decide +kernel
abbrev s_word_at : Stmt := topS 19
abbrev N_word_at : List Str := ["levels", "level"]
theorem sc_word_at : FnScope N_word_at ["levels", "level"] (defScope s_word_at) := by
  refine ⟨rfl, rfl, rfl, ?_, rfl, ?_, ?_⟩ <;> decide +kernel
abbrev s_level_and_size : Stmt := topS 20
abbrev N_level_and_size : List Str := ["base", "now", "due", "level", "size", "above_now", "above_due"]
theorem sc_level_and_size : FnScope N_level_and_size ["base", "now", "due"] (defScope s_level_and_size) := by
  refine ⟨rfl, rfl, rfl, ?_, rfl, ?_, ?_⟩ <;> decide +kernel
abbrev s_path : Stmt := topS 21
abbrev N_path : List Str := ["base", "now", "due", "level", "size", "rows", "tick", "digit"]
theorem sc_path : FnScope N_path ["base", "now", "due"] (defScope s_path) := by
  refine ⟨rfl, rfl, rfl, ?_, rfl, ?_, ?_⟩ <;> decide +kernel
abbrev s_check_order : Stmt := topS 23
abbrev N_check_order : List Str := ["order", "number"]
theorem sc_check_order : FnScope N_check_order ["order"] (defScope s_check_order) := by
  refine ⟨rfl, rfl, rfl, ?_, rfl, ?_, ?_⟩ <;> decide +kernel
abbrev s_ticks_and_sides : Stmt := topS 24
abbrev N_ticks_and_sides : List Str := ["base", "levels", "start", "due", "rows", "front", "level", "digit", "tick"]
theorem sc_ticks_and_sides : FnScope N_ticks_and_sides ["base", "levels", "start", "due"] (defScope s_ticks_and_sides) := by
  refine ⟨rfl, rfl, rfl, ?_, rfl, ?_, ?_⟩ <;> decide +kernel
abbrev s_sides_wanted : Stmt := topS 25
abbrev N_sides_wanted : List Str := ["order", "wanted", "low", "high", "number", "place"]
theorem sc_sides_wanted : FnScope N_sides_wanted ["order"] (defScope s_sides_wanted) := by
  refine ⟨rfl, rfl, rfl, ?_, rfl, ?_, ?_⟩ <;> decide +kernel
abbrev s_set_ticks : Stmt := topS 26
abbrev N_set_ticks : List Str := ["base", "levels", "start", "due", "order", "rows", "ticks", "at", "front"]
theorem sc_set_ticks : FnScope N_set_ticks ["base", "levels", "start", "due", "order"] (defScope s_set_ticks) := by
  refine ⟨rfl, rfl, rfl, ?_, rfl, ?_, ?_⟩ <;> decide +kernel
abbrev s__law_cell_at : Stmt := topS 28
abbrev N__law_cell_at : List Str := ["_law_script", "_law_k"]
theorem sc__law_cell_at : FnScope N__law_cell_at ["_law_script", "_law_k"] (defScope s__law_cell_at) := by
  refine ⟨rfl, rfl, rfl, ?_, rfl, ?_, ?_⟩ <;> decide +kernel
abbrev s__law_mixed : Stmt := topS 29
abbrev N__law_mixed : List Str := ["_law_cell", "_law_k", "_law_low"]
theorem sc__law_mixed : FnScope N__law_mixed ["_law_cell", "_law_k"] (defScope s__law_mixed) := by
  refine ⟨rfl, rfl, rfl, ?_, rfl, ?_, ?_⟩ <;> decide +kernel
abbrev s__law_source : Stmt := topS 30
abbrev N__law_source : List Str := ["_law_script", "_law_k", "_law_cell"]
theorem sc__law_source : FnScope N__law_source ["_law_script", "_law_k"] (defScope s__law_source) := by
  refine ⟨rfl, rfl, rfl, ?_, rfl, ?_, ?_⟩ <;> decide +kernel
abbrev s__law_next : Stmt := topS 31
abbrev N__law_next : List Str := ["_law_source_here", "_law_many", "_law_found"]
theorem sc__law_next : FnScope N__law_next ["_law_source_here", "_law_many"] (defScope s__law_next) := by
  refine ⟨rfl, rfl, rfl, ?_, rfl, ?_, ?_⟩ <;> decide +kernel
abbrev s__law_levels : Stmt := topS 32
abbrev N__law_levels : List Str := ["_law_source_here", "_law_many", "_law_sort", "_law_found", "_law_at"]
theorem sc__law_levels : FnScope N__law_levels ["_law_source_here"] (defScope s__law_levels) := by
  refine ⟨rfl, rfl, rfl, ?_, rfl, ?_, ?_⟩ <;> decide +kernel
abbrev s__law_level : Stmt := topS 33
abbrev N__law_level : List Str := ["_law_base", "_law_now", "_law_due_here", "_law_found", "_law_at"]
theorem sc__law_level : FnScope N__law_level ["_law_base", "_law_now", "_law_due_here"] (defScope s__law_level) := by
  refine ⟨rfl, rfl, rfl, ?_, rfl, ?_, ?_⟩ <;> decide +kernel
abbrev s__law_digit : Stmt := topS 34
abbrev N__law_digit : List Str := ["_law_base", "_law_tick", "_law_level_here", "_law_at"]
theorem sc__law_digit : FnScope N__law_digit ["_law_base", "_law_tick", "_law_level_here"] (defScope s__law_digit) := by
  refine ⟨rfl, rfl, rfl, ?_, rfl, ?_, ?_⟩ <;> decide +kernel
abbrev s__law_zeros : Stmt := topS 35
abbrev N__law_zeros : List Str := ["_law_base", "_law_tick", "_law_found"]
theorem sc__law_zeros : FnScope N__law_zeros ["_law_base", "_law_tick"] (defScope s__law_zeros) := by
  refine ⟨rfl, rfl, rfl, ?_, rfl, ?_, ?_⟩ <;> decide +kernel
abbrev s__law_place : Stmt := topS 36
abbrev N__law_place : List Str := ["_law_lists_here", "_law_base", "_law_levels_here", "_law_now", "_law_row", "_law_level_here", "_law_key", "_law_rows"]
theorem sc__law_place : FnScope N__law_place ["_law_lists_here", "_law_base", "_law_levels_here", "_law_now", "_law_row"] (defScope s__law_place) := by
  refine ⟨rfl, rfl, rfl, ?_, rfl, ?_, ?_⟩ <;> decide +kernel
abbrev s__law_pass : Stmt := topS 37
abbrev N__law_pass : List Str := ["_law_lists_here", "_law_base", "_law_levels_here", "_law_tick", "_law_level_here", "_law_rows", "_law_row", "_law_fired_here", "_law_number", "_law_due_here", "_law_lap"]
theorem sc__law_pass : FnScope N__law_pass ["_law_lists_here", "_law_base", "_law_levels_here", "_law_tick"] (defScope s__law_pass) := by
  refine ⟨rfl, rfl, rfl, ?_, rfl, ?_, ?_⟩ <;> decide +kernel
abbrev s__law_fired : Stmt := topS 38
abbrev N__law_fired : List Str := ["_law_base", "_law_levels_here", "_law_begin", "_law_due_here", "_law_ticks", "_law_lists_here", "_law_fired_here", "_law_now", "_law_number", "_law_moment"]
theorem sc__law_fired : FnScope N__law_fired ["_law_base", "_law_levels_here", "_law_begin", "_law_due_here", "_law_ticks"] (defScope s__law_fired) := by
  refine ⟨rfl, rfl, rfl, ?_, rfl, ?_, ?_⟩ <;> decide +kernel
abbrev s__law_lists : Stmt := topS 39
abbrev N__law_lists : List Str := ["_law_begin", "_law_due_here", "_law_many", "_law_found", "_law_time", "_law_longer", "_law_row", "_law_moment"]
theorem sc__law_lists : FnScope N__law_lists ["_law_begin", "_law_due_here", "_law_many"] (defScope s__law_lists) := by
  refine ⟨rfl, rfl, rfl, ?_, rfl, ?_, ?_⟩ <;> decide +kernel
abbrev s__law_due : Stmt := topS 40
abbrev N__law_due : List Str := ["_law_base", "_law_levels_here", "_law_begin", "_law_due_here", "_law_order_here", "_law_many", "_law_wished", "_law_good", "_law_number", "_law_row"]
theorem sc__law_due : FnScope N__law_due ["_law_base", "_law_levels_here", "_law_begin", "_law_due_here", "_law_order_here"] (defScope s__law_due) := by
  refine ⟨rfl, rfl, rfl, ?_, rfl, ?_, ?_⟩ <;> decide +kernel
abbrev s__law_order : Stmt := topS 41
abbrev N__law_order : List Str := ["_law_source_here", "_law_many", "_law_found", "_law_loose", "_law_number", "_law_at"]
theorem sc__law_order : FnScope N__law_order ["_law_source_here", "_law_many"] (defScope s__law_order) := by
  refine ⟨rfl, rfl, rfl, ?_, rfl, ?_, ?_⟩ <;> decide +kernel
abbrev s_law : Stmt := topS 42
abbrev N_law : List Str := ["_law_script", "_law_k", "_law_source_here", "_law_base", "_law_levels_here", "_law_begin", "_law_time", "_law_order_here", "_law_due_here", "_law_kept", "_law_told"]
theorem sc_law : FnScope N_law ["_law_script"] (defScope s_law) := by
  refine ⟨rfl, rfl, rfl, ?_, rfl, ?_, ?_⟩ <;> decide +kernel
/-- what the top leaves of built-in names -/
structure Tx (K : PySem.W.Frag) (mg : Str → Option Value) : Prop where
  b_isinstance : mg "isinstance" = none
  b_int : mg "int" = none
  b_bool : mg "bool" = none
  b_str : mg "str" = none
  b_all : mg "all" = none
  b_list : mg "list" = none
  b_len : mg "len" = none
  b_min : mg "min" = none
  b_sorted : mg "sorted" = none
  b_range : mg "range" = none
  b_reversed : mg "reversed" = none
  b_max : mg "max" = none
  b_enumerate : mg "enumerate" = none
/-! ### the program: what an integer is, bases, ticks -/
def slotInt (σ : L2.St) (i : Nat) : Nat := match σ[i]? with
  | some (some (.int z)) => z.toNat
  | _ => 0
theorem cast_div (a b : Nat) : (a : Int) / (b : Int) = ((a / b : Nat) : Int) := rfl
theorem cast_mod (a b : Nat) : (a : Int) % (b : Int) = ((a % b : Nat) : Int) := rfl
theorem cast_mul (a b : Nat) : (a : Int) * (b : Int) = ((a * b : Nat) : Int) := (Int.natCast_mul a b).symm
theorem cast_add (a b : Nat) : (a : Int) + (b : Int) = ((a + b : Nat) : Int) := rfl
theorem natAbs_cast (a : Nat) : ((a : Nat) : Int).natAbs = a := rfl
theorem divp_s {i j : Int} (b : Nat) (hj : 0 < j) (hi : i.natAbs < 2 ^ b) (h : b ≤ 3000 := by decide) : CDivP i j := by
  refine divp_ok hj ?_
  have := PyProof.Rows.intBits_le hi
  omega
section
variable {P : Program} {w : World} {K : PySem.W.Frag} {mg : Str → Option Value} {base : Heap}
def spIsInt : Sp := fun vs H Q _ => ∃ n : Int, vs = [.int n] ∧ Q (.bl true) H
theorem ok_is_integer {f : Addr} {fd : FuncData} (F : Fun K "is_integer" "is_integer" s_is_integer f fd) (T : Tx K mg) : FnOk P w K mg base CX0 1 f fd ["given"] spIsInt := by
  refine F.ok sc_is_integer (fun vs H Q E h => ?_) (fun cdv A outer s H vs Q E hr h => ?_)
  · obtain ⟨n, rfl, _⟩ := h
    rfl
  · obtain ⟨n, rfl, q⟩ := h
    refine ⟨_, (pss_one (ps_ret (pe_and (pe_callB (isiK (K := K) rfl) (by rfl) T.b_isinstance (by decide +kernel) (pa_cons (pv 0) (pa_cons (pe_bltn (v := .ty "int") (u := .type "int") (by rfl) T.b_int (by decide +kernel) rfl) pa_nil))) (pe_one (pe_not (pe_callB (isiK (K := K) rfl) (by rfl) T.b_isinstance (by decide +kernel) (pa_cons (pv 0) (pa_cons (pe_bltn (v := .ty "bool") (u := .type "bool") (by rfl) T.b_bool (by decide +kernel) rfl) pa_nil)))))))), ?_⟩
    refine ⟨.int n, rfl, .int n, _, _, _, true, rfl, .ty "int", .base (.int n), kit_ty (by decide +kernel), true, rfl, iteT ?_⟩
    exact ⟨.int n, rfl, .int n, _, _, _, false, rfl, .ty "bool", .base (.int n), kit_ty (by decide +kernel), false, rfl, q⟩
end
/-! a tick, of an integer -/
section
variable {P : Program} {w : World} {K : PySem.W.Frag} {mg : Str → Option Value} {base : Heap}
def spIsTick : Sp := fun vs H Q _ => ∃ n l : Int, vs = [.int n, .int l] ∧ l ≤ n ∧ Q (.bl true) H
theorem ok_is_tick {f : Addr} {fd : FuncData} (F : FunD K "is_tick" "is_tick" (defArgs s_is_tick) (defBody s_is_tick) (defScope s_is_tick) [.int 0] [] f fd) (T : Tx K mg) (h1 : Has P w K mg base 1 "is_integer" ["given"] [] spIsInt) : FnOk P w K mg base CX0 2 f fd ["given", "least"] spIsTick := by
  obtain ⟨f_is_integer, fd_is_integer, ds_is_integer, G_is_integer, m_is_integer, k_is_integer, b_is_integer, v_is_integer⟩ := h1
  refine F.ok sc_is_tick (fun vs H Q E h => ?_) (fun cdv A outer s H vs Q E hr h => ?_)
  · obtain ⟨n, l, rfl, _⟩ := h
    rfl
  · obtain ⟨n, l, rfl, l1, q⟩ := h
    refine ⟨_, PSs.nox (pss_one (ps_ret (pe_and (pe_call G_is_integer hr (by rfl) m_is_integer k_is_integer b_is_integer v_is_integer pass0 (pa_cons (pv 0) pa_nil)) (pe_one (pe_cmpR op_ge (pv 0) (pv 1) (nomark _)))))), ?_⟩
    refine ⟨.int n, rfl, n, rfl, true, rfl, iteT ?_⟩
    refine ⟨.int n, rfl, .int l, rfl, n, l, rfl, rfl, ?_⟩
    have e : V.bl (decide (n ≥ l)) = V.bl true := dT l1
    show Q (V.bl (decide (n ≥ l))) H
    rw [e]
    exact q
end
/-! ### bases and ticks -/
section
variable {P : Program} {w : World} {K : PySem.W.Frag} {mg : Str → Option Value} {base : Heap}
def spIsBase : Sp := fun vs H Q _ => ∃ n : Int, vs = [.int n] ∧ 2 ≤ n ∧ n ≤ 64 ∧ Q (.bl true) H
theorem ok_is_base {f : Addr} {fd : FuncData} (F : Fun K "is_base" "is_base" s_is_base f fd) (h1 : Has P w K mg base 1 "is_integer" ["given"] [] spIsInt) : FnOk P w K mg base CX0 2 f fd ["given"] spIsBase := by
  obtain ⟨f_is_integer, fd_is_integer, ds_is_integer, G_is_integer, m_is_integer, k_is_integer, b_is_integer, v_is_integer⟩ := h1
  refine F.ok sc_is_base (fun vs H Q E h => ?_) (fun cdv A outer s H vs Q E hr h => ?_)
  · obtain ⟨n, rfl, _⟩ := h
    rfl
  · obtain ⟨n, rfl, l1, l2, q⟩ := h
    refine ⟨_, (pss_one (ps_ret (pe_and (pe_call G_is_integer hr (by rfl) m_is_integer k_is_integer b_is_integer v_is_integer pass0 (pa_cons (pv 0) pa_nil)) (pe_one (pe_chain op_le op_le pe_int (pv 0) pe_int))))), ?_⟩
    refine ⟨.int n, rfl, n, rfl, true, rfl, iteT ?_⟩
    refine ⟨.int n, rfl, 2, n, rfl, rfl, true, congrArg V.bl (decide_eq_true l1), iteT ?_⟩
    refine ⟨n, 64, rfl, rfl, ?_⟩
    have e : V.bl (decide (n ≤ 64)) = V.bl true := dT l2
    show Q (V.bl (decide (n ≤ 64))) H
    rw [e]
    exact q
def spCheckBase : Sp := fun vs H Q _ => ∃ n : Int, vs = [.int n] ∧ 2 ≤ n ∧ n ≤ 64 ∧ Q .non H
theorem ok_check_base {f : Addr} {fd : FuncData} (F : Fun K "check_base" "check_base" s_check_base f fd) (h1 : Has P w K mg base 2 "is_base" ["given"] [] spIsBase) : FnOk P w K mg base CX0 3 f fd ["base"] spCheckBase := by
  obtain ⟨f_is_base, fd_is_base, ds_is_base, G_is_base, m_is_base, k_is_base, b_is_base, v_is_base⟩ := h1
  refine F.ok sc_check_base (fun vs H Q E h => ?_) (fun cdv A outer s H vs Q E hr h => ?_)
  · obtain ⟨n, rfl, _⟩ := h
    rfl
  · obtain ⟨n, rfl, l1, l2, q⟩ := h
    refine ⟨_, (pss_one (ps_if (pt_not (pt_val (pe_call G_is_base hr (by rfl) m_is_base k_is_base b_is_base v_is_base pass0 (pa_cons (pv 0) pa_nil))))
        (pss_one ps_never)
        pss_nil)), ?_⟩
    exact ⟨.int n, rfl, n, rfl, l1, l2, true, rfl, iteF q⟩
def spCheckTick : Sp := fun vs H Q _ => ∃ n l : Int, vs = [.int n, .int l] ∧ l ≤ n ∧ Q .non H
theorem ok_check_tick {f : Addr} {fd : FuncData} (F : FunD K "check_tick" "check_tick" (defArgs s_check_tick) (defBody s_check_tick) (defScope s_check_tick) [.int 0] [] f fd) (h1 : Has P w K mg base 2 "is_tick" ["given", "least"] [] spIsTick) : FnOk P w K mg base CX0 3 f fd ["tick", "least"] spCheckTick := by
  obtain ⟨f_is_tick, fd_is_tick, ds_is_tick, G_is_tick, m_is_tick, k_is_tick, b_is_tick, v_is_tick⟩ := h1
  refine F.ok sc_check_tick (fun vs H Q E h => ?_) (fun cdv A outer s H vs Q E hr h => ?_)
  · obtain ⟨n, l, rfl, _⟩ := h
    rfl
  · obtain ⟨n, l, rfl, l1, q⟩ := h
    refine ⟨_, PSs.nox (pss_one (ps_if (pt_not (pt_val (pe_call G_is_tick hr (by rfl) m_is_tick k_is_tick b_is_tick v_is_tick pass0 (pa_cons (pv 0) (pa_cons (pv 1) pa_nil)))))
        (pss_one ps_never)
        pss_nil)), ?_⟩
    exact ⟨.int n, rfl, .int l, rfl, n, l, rfl, l1, true, rfl, iteF q⟩
end
/-! ### the program: level_and_size, path -/
section
variable {P : Program} {w : World} {K : PySem.W.Frag} {mg : Str → Option Value} {base : Heap}
/-! the level -/
def spLevel : Sp := fun vs H Q _ => ∃ b n d : Nat, vs = [.int b, .int n, .int d] ∧ 2 ≤ b ∧ b ≤ 64 ∧ n < d ∧ d < 2 ^ 250 ∧ ∀ k, IsLev b n d k → ∀ H' p, Same H H' → H p = none → H' p = some (.tup [.int (k : Nat), .int ((b ^ k : Nat) : Int)]) → Q (.ref p) H'
theorem ok_level_and_size {f : Addr} {fd : FuncData} (F : Fun K "level_and_size" "level_and_size" s_level_and_size f fd) : FnOk P w K mg base CX0 1 f fd ["base", "now", "due"] spLevel := by
  refine F.ok sc_level_and_size (fun vs H Q E h => ?_) (fun cdv A outer s H vs Q E hr h => ?_)
  · obtain ⟨b, n, d, rfl, _⟩ := h
    rfl
  · obtain ⟨b, n, d, rfl, hb, hb64, hnd, hd, q⟩ := h
    have cb : ∀ x : Nat, NDiv x b := fun x => ndiv 7 (by omega) (by omega)
    refine ⟨_, (pss_cons (ps_asg (pe_tup (pa_cons pe_int (pa_cons pe_int pa_nil))) (pg_tupK (K := K) (n := 2) rfl rfl (pgs_cons (pg_name (i := 3) sc_level_and_size.nd rfl (.inl rfl)) (pgs_cons (pg_name (i := 4) sc_level_and_size.nd rfl (.inl rfl)) pgs_nil))))
      (pss_cons (ps_par (i := 5) (j := 6) (by rfl) sc_level_and_size.nd rfl rfl (by decide) rfl rfl (pa_cons (pe_op op_divN (pv 1) (pv 0)) (pa_cons (pe_op op_divN (pv 2) (pv 0)) pa_nil)) (by rfl))
      (pss_cons (ps_while PassesOwn.never (pt_cmpR op_ne (pv 5) (pv 6) (nomark _))
        (pss_cons (ps_par (i := 5) (j := 6) (by rfl) sc_level_and_size.nd rfl rfl (by decide) rfl rfl (pa_cons (pe_op op_divN (pv 5) (pv 0)) (pa_cons (pe_op op_divN (pv 6) (pv 0)) pa_nil)) (by rfl))
        (pss_one (ps_par (i := 3) (j := 4) (by rfl) sc_level_and_size.nd rfl rfl (by decide) rfl rfl (pa_cons (pe_op op_addN (pv 3) pe_int) (pa_cons (pe_op op_mulN (pv 4) (pv 0)) pa_nil)) (by rfl)))))
      (pss_one (ps_ret (pe_tup (pa_cons (pv 3) (pa_cons (pv 4) pa_nil)))))))), ?_⟩
    refine ⟨by simp [sizeLine_eq], fun t hT => ⟨t, _, rfl, .inl (.inl upd_same), rfl, _, _, rfl, _, _, rfl, rfl, ?_⟩⟩
    refine ⟨_, rfl, _, rfl, _, _, rfl, rfl, cb _, _, rfl, _, rfl, _, _, rfl, rfl, cb _, _, _, rfl, ?_⟩
    refine while_by (fun σ H' => ∃ k : Nat, σ = [some (.int (b : Int)), some (.int (n : Int)), some (.int (d : Int)), some (.int (k : Int)), some (.int ((b ^ k : Nat) : Int)), some (.int ((n / b ^ (k + 1) : Nat) : Int)), some (.int ((d / b ^ (k + 1) : Nat) : Int))] ∧ Same H H' ∧ ∀ j, j < k → n / b ^ (j + 1) ≠ d / b ^ (j + 1))
      (fun σ _ => slotInt σ 6) ⟨0, ?_, same_upd hT, fun j hj => absurd hj (Nat.not_lt_zero j)⟩ ?_ ?_
    · rw [Nat.zero_add, Nat.pow_one]
      rfl
    · rintro σ H' ⟨k, rfl, sm, hk⟩
      by_cases hne : n / b ^ (k + 1) = d / b ^ (k + 1)
      · refine ⟨_, rfl, _, rfl, rfl, false, ?_, iteF ?_⟩
        · rw [hne, decide_eq_true rfl]
          rfl
        · refine ⟨_, rfl, _, rfl, by simp [sizeLine_eq], fun p hp => ?_⟩
          exact q k ⟨hne, hk⟩ _ p (sm.trans (same_upd hp)) (sm.free hp) upd_same
      · have h2 : n / b ^ (k + 1) ≤ d / b ^ (k + 1) := Nat.div_le_div_right (Nat.le_of_lt hnd)
        have hpos : 0 < d / b ^ (k + 1) := pos_of h2 hne
        refine ⟨_, rfl, _, rfl, rfl, true, ?_, iteT ?_⟩
        · rw [int_ne hne]
          rfl
        · refine ⟨_, rfl, _, rfl, _, _, rfl, rfl, cb _, _, rfl, _, rfl, _, _, rfl, rfl, cb _, _, _, rfl, ?_⟩
          refine ⟨_, rfl, k, 1, rfl, rfl, trivial, _, rfl, _, rfl, _, _, rfl, rfl, nmul_r (by omega), _, _, rfl, ?_⟩
          have hlt : d / b ^ (k + 1) / b < d / b ^ (k + 1) := Nat.div_lt_self hpos (by omega)
          refine ⟨⟨k + 1, ?_, sm, fun j hj => ?_⟩, ?_⟩
          · rw [div_succ n b (k + 1), div_succ d b (k + 1), Nat.pow_succ b k]
            rfl
          · by_cases e : j = k
            · rw [e]
              exact hne
            · exact hk j (by omega)
          · show (((d / b ^ (k + 1) / b : Nat) : Int)).toNat < (((d / b ^ (k + 1) : Nat) : Int)).toNat
            rw [Int.toNat_natCast, Int.toNat_natCast]
            exact hlt
    · rintro σ H' Q1 Q2 h ⟨x, hx, y, hy, hs, k, e, z⟩
      exact ⟨x, hx, y, hy, hs, k, e, h _ _ z⟩
/-! the stations -/
def rowV (r : Row3) : List V := [.int (r.1 : Nat), .int (r.2.1 : Nat), .int (r.2.2 : Nat)]
/-- at the places ts stand the rows rs, each a tuple of three -/
def RowsAt (H : Hp) : List Addr → List Row3 → Prop
  | [], [] => True
  | t :: ts, r :: rs => H t = some (.tup (rowV r)) ∧ RowsAt H ts rs
  | _, _ => False
theorem RowsAt.same {H H' : Hp} (s : Same H H') : ∀ {ts : List Addr} {rs : List Row3}, RowsAt H ts rs → RowsAt H' ts rs
  | [], [], h => h
  | _ :: _, _ :: _, h => ⟨s _ _ h.1, h.2.same s⟩
  | [], _ :: _, h => h
  | _ :: _, [], h => h
theorem RowsAt.app {H : Hp} {t : Addr} {r : Row3} : ∀ {ts : List Addr} {rs : List Row3}, RowsAt H ts rs → H t = some (.tup (rowV r)) → RowsAt H (ts ++ [t]) (rs ++ [r])
  | [], [], _, h => ⟨h, trivial⟩
  | _ :: _, _ :: _, h, h2 => ⟨h.1, h.2.app h2⟩
  | [], _ :: _, h, _ => h.elim
  | _ :: _, [], h, _ => h.elim
theorem RowsAt.len {H : Hp} : ∀ {ts : List Addr} {rs : List Row3}, RowsAt H ts rs → ts.length = rs.length
  | [], [], _ => rfl
  | _ :: _, _ :: _, h => congrArg Nat.succ h.2.len
  | [], _ :: _, h => h.elim
  | _ :: _, [], h => h.elim
theorem RowsAt.upd {H : Hp} {p : Addr} {xs : List V} {o : HO} (hp : H p = some (.lst xs)) : ∀ {ts : List Addr} {rs : List Row3}, RowsAt H ts rs → RowsAt (upd H p o) ts rs
  | [], [], h => h
  | t :: _, _ :: _, h => ⟨by rw [upd_ne (ne_of h.1 hp (by intro z; cases z))]; exact h.1, h.2.upd hp⟩
  | [], _ :: _, h => h
  | _ :: _, [], h => h
theorem RowsAt.get {H : Hp} : ∀ {ts : List Addr} {rs : List Row3} {i : Nat} {t : Addr}, RowsAt H ts rs → ts[i]? = some t → ∃ r, rs[i]? = some r ∧ H t = some (.tup (rowV r))
  | t :: _, r :: _, 0, _, h, e => ⟨r, rfl, by cases Option.some.inj e; exact h.1⟩
  | _ :: _, _ :: _, i + 1, _, h, e => h.2.get (i := i) e
  | [], _, _, _, _, e => by simp at e
  | _ :: _, [], _, _, h, _ => h.elim
def spPath : Sp := fun vs H Q _ => ∃ b n d : Nat, vs = [.int b, .int n, .int d] ∧ 2 ≤ b ∧ b ≤ 64 ∧ n < d ∧ d < 2 ^ 250 ∧ ∀ k, IsLev b n d k → ∀ H' p ts, Same H H' → H p = none → H' p = some (.lst (ts.map V.ref)) → RowsAt H' ts (rowsOf b n d k) → Q (.ref p) H'
theorem ok_path {f : Addr} {fd : FuncData} (F : Fun K "path" "path" s_path f fd) (h1 : Has P w K mg base 1 "level_and_size" ["base", "now", "due"] [] spLevel) : FnOk P w K mg base CX0 2 f fd ["base", "now", "due"] spPath := by
  obtain ⟨f_level_and_size, fd_level_and_size, ds_level_and_size, G_level_and_size, m_level_and_size, k_level_and_size, b_level_and_size, v_level_and_size⟩ := h1
  refine F.ok sc_path (fun vs H Q E h => ?_) (fun cdv A outer s H vs Q E hr h => ?_)
  · obtain ⟨b, n, d, rfl, _⟩ := h
    rfl
  · obtain ⟨b, n, d, rfl, hb, hb64, hnd, hd, q⟩ := h
    have cb : ∀ x : Nat, NDiv x b := fun x => ndiv 7 (by omega) (by omega)
    have hb0 : 0 < b := by omega
    refine ⟨_, (pss_cons (ps_asg (pe_call G_level_and_size hr (by rfl) m_level_and_size k_level_and_size b_level_and_size v_level_and_size pass0 (pa_cons (pv 0) (pa_cons (pv 1) (pa_cons (pv 2) pa_nil)))) (pg_tupK (K := K) (n := 2) rfl rfl (pgs_cons (pg_name (i := 3) sc_path.nd rfl (.inl rfl)) (pgs_cons (pg_name (i := 4) sc_path.nd rfl (.inl rfl)) pgs_nil))))
      (pss_cons (ps_set (i := 5) sc_path.nd rfl (.inl rfl) (pe_lst (pa_cons (pe_tup (pa_cons (pv 3) (pa_cons (pe_op op_remN (pe_op op_divN (pv 2) (pv 4)) (pv 0)) (pa_cons (pv 1) pa_nil)))) pa_nil)))
      (pss_cons (ps_while PassesOwn.never (pt_cmpR op_gt (pv 3) pe_int (nomark _))
        (pss_cons (ps_set (i := 6) sc_path.nd rfl (.inl rfl) (pe_op op_mulN (pe_op op_divN (pv 2) (pv 4)) (pv 4)))
        (pss_cons (ps_par (i := 3) (j := 4) (by rfl) sc_path.nd rfl rfl (by decide) rfl rfl (pa_cons (pe_op op_subN (pv 3) pe_int) (pa_cons (pe_op op_divN (pv 4) (pv 0)) pa_nil)) (by rfl))
        (pss_cons (ps_set (i := 7) sc_path.nd rfl (.inl rfl) (pe_op op_remN (pe_op op_divN (pv 2) (pv 4)) (pv 0)))
        (pss_one (ps_if (pt_cmpR op_ne (pv 7) pe_int (nomark _))
          (pss_one (ps_expr (pe_bm PySem.F.plainAttrs_list PySem.F.slot_list_append PySem.F.type_list_append mt_append (pv 5) (pa_cons (pe_tup (pa_cons (pv 3) (pa_cons (pv 7) (pa_cons (pv 6) pa_nil)))) pa_nil))))
          pss_nil))))))
      (pss_one (ps_ret (pv 5)))))), ?_⟩
    refine ⟨_, rfl, _, rfl, _, rfl, b, n, d, rfl, hb, hb64, hnd, hd, fun k hk H0 t0 s0 ht0 eT0 => ?_⟩
    have hkd : ∀ j, j ≤ k → b ^ j ≤ d := fun j hj => Nat.le_trans (Nat.pow_le_pow_right (by omega) hj) (hk.size hb hnd)
    have hk250 : k < 250 := lev_small hk hb hnd hd
    have cs : ∀ j, j ≤ k → ∀ x : Nat, NDiv x (b ^ j) := fun j hj x => ndiv 250 (pow_pos' hb j) (Nat.lt_of_le_of_lt (hkd j hj) hd)
    -- level, size = ..
    refine ⟨t0, _, rfl, .inl (.inl eT0), rfl, _, _, rfl, _, _, rfl, rfl, ?_⟩
    -- rows = [(level, due // size % base, now)]
    refine ⟨_, rfl, _, rfl, _, rfl, _, _, rfl, rfl, cs k (Nat.le_refl k) _, _, rfl, _, _, rfl, rfl, hb0, _, rfl, by simp [sizeLine_eq], fun t1 ht1 => ?_⟩
    have s1 := s0.trans (same_upd (o := .tup (rowV (k, d / b ^ k % b, n))) ht1)
    refine ⟨by simp [sizeLine_eq], fun p hp => ?_⟩
    have s2 := s1.trans (same_upd (o := .lst [.ref t1]) hp)
    have np1 : t1 ≠ p := fun e => by
      rw [← e, upd_same] at hp
      cases hp
    have hpH : H p = none := s1.free hp
    refine while_by (fun σ H' => ∃ (j : Nat) (ts : List Addr) (done : List Row3) (y6 y7 : Option V), σ = [some (.int (b : Int)), some (.int (n : Int)), some (.int (d : Int)), some (.int (j : Int)), some (.int ((b ^ j : Nat) : Int)), some (.ref p), y6, y7] ∧ j ≤ k ∧ ts.length + j ≤ k + 1 ∧ Same H H' ∧ H' p = some (.lst (ts.map V.ref)) ∧ RowsAt H' ts ((k, d / b ^ k % b, n) :: done) ∧ tailOf b d k = done ++ tailOf b d j)
      (fun σ _ => slotInt σ 3) ⟨k, [t1], [], none, none, rfl, Nat.le_refl k, by simp; omega, s2, upd_same, ⟨?_, trivial⟩, rfl⟩ ?_ ?_
    · rw [upd_ne np1, upd_same]
      rfl
    · rintro σ H' ⟨j, ts, done, y6, y7, rfl, hjk, hlen, sm, eL, R, et⟩
      cases j with
      | zero =>
        refine ⟨_, rfl, ((0 : Nat) : Int), 0, rfl, rfl, false, rfl, iteF ?_⟩
        refine ⟨_, rfl, q k hk H' p ts sm hpH eL ?_⟩
        have e : done = tailOf b d k := by
          rw [et]
          exact (List.append_nil done).symm
        rw [e] at R
        exact R
      | succ j =>
        have hj0 : (0 : Int) < ((j + 1 : Nat) : Int) := by omega
        refine ⟨_, rfl, _, _, rfl, rfl, true, congrArg V.bl (decide_eq_true hj0), iteT ?_⟩
        -- tick = due // size * size
        refine ⟨_, rfl, _, rfl, _, _, rfl, rfl, cs (j + 1) hjk _, _, rfl, _, _, rfl, rfl, nmul_w 250 250 (Nat.lt_of_le_of_lt (Nat.div_le_self d _) hd) (Nat.lt_of_le_of_lt (hkd (j + 1) hjk) hd), ?_⟩
        -- level, size = level - 1, size // base
        refine ⟨_, rfl, j + 1, 1, rfl, rfl, Nat.le_add_left 1 j, _, rfl, _, rfl, b ^ (j + 1), b, rfl, rfl, cb _, .int (j : Nat), .int ((b ^ j : Nat) : Int), ?_, ?_⟩
        · show [V.int ((j + 1 - 1 : Nat) : Int), V.int ((b ^ (j + 1) / b : Nat) : Int)] = _
          rw [Nat.pow_succ, Nat.mul_div_cancel _ hb0]
          rfl
        -- digit = due // size % base
        refine ⟨_, rfl, _, rfl, d, b ^ j, rfl, rfl, cs j (by omega) _, _, rfl, _, _, rfl, rfl, hb0, ?_⟩
        have lt : slotInt [some (.int (b : Int)), some (.int (n : Int)), some (.int (d : Int)), some (.int (j : Int)), some (.int ((b ^ j : Nat) : Int)), some (.ref p), some (.int ((d / b ^ (j + 1) * b ^ (j + 1) : Nat) : Int)), some (.int ((d / b ^ j % b : Nat) : Int))] 3 < ((j + 1 : Nat) : Int).toNat := by
          show ((j : Int)).toNat < _
          omega
        by_cases h0 : d / b ^ j % b = 0
        · refine ⟨_, rfl, rfl, false, nF (vE h0), iteF ?_⟩
          · refine ⟨⟨j, ts, done, _, _, rfl, by omega, by omega, sm, eL, R, ?_⟩, lt⟩
            rw [et]
            show done ++ tailOf b d (j + 1) = done ++ tailOf b d j
            have : tailOf b d (j + 1) = tailOf b d j := if_neg (fun z => z h0)
            rw [this]
        · refine ⟨_, rfl, rfl, true, nT (vN (b := 0) h0), iteT ?_⟩
          · -- rows.append((level, digit, tick))
            refine ⟨_, rfl, .inl ⟨rfl, _, .inl (.inl eL)⟩, _, rfl, _, rfl, _, rfl, by simp [sizeLine_eq], fun t2 ht2 => ?_⟩
            have s3 := same_upd (o := .tup (rowV (j, d / b ^ j % b, d / b ^ (j + 1) * b ^ (j + 1)))) ht2
            have npt : t2 ≠ p := fun e => by
              rw [e, eL] at ht2
              cases ht2
            have eL' := s3 _ _ eL
            refine ⟨p, _, _, rfl, rfl, eL', ?_, ?_⟩
            · rw [List.length_map]
              exact sizeLine_ge (by omega)
            · refine ⟨⟨j, ts ++ [t2], done ++ [(j, d / b ^ j % b, d / b ^ (j + 1) * b ^ (j + 1))], _, _, rfl, by omega, ?_, fun c o e => ?_, ?_, ?_, ?_⟩, lt⟩
              · rw [List.length_append, List.length_singleton]
                omega
              · rw [upd_ne (ne_of_none e hpH)]
                exact s3 _ _ (sm _ _ e)
              · rw [upd_same, List.map_append]
                rfl
              · refine RowsAt.upd eL' ?_
                exact RowsAt.app (r := (j, d / b ^ j % b, d / b ^ (j + 1) * b ^ (j + 1))) (rs := (k, d / b ^ k % b, n) :: done) (R.same s3) upd_same
              · rw [et, List.append_assoc]
                show done ++ tailOf b d (j + 1) = done ++ ((j, d / b ^ j % b, d / b ^ (j + 1) * b ^ (j + 1)) :: tailOf b d j)
                have : tailOf b d (j + 1) = (j, d / b ^ j % b, d / b ^ (j + 1) * b ^ (j + 1)) :: tailOf b d j := if_pos h0
                rw [this]
    · rintro σ H' Q1 Q2 h ⟨x, hx, i, j, e1, e2, k, e, z⟩
      exact ⟨x, hx, i, j, e1, e2, k, e, h _ _ z⟩
end
theorem RowsAt.item {H : Hp} {ts : List Addr} {rs : List Row3} (R : RowsAt H ts rs) {i : Nat} {x : V} (hx : (ts.map V.ref)[i]? = some x) : ∃ ti r, x = V.ref ti ∧ ts[i]? = some ti ∧ rs[i]? = some r ∧ H ti = some (.tup (rowV r)) := by
  rw [List.getElem?_map] at hx
  cases e : ts[i]? with
  | none =>
    rw [e] at hx
    cases hx
  | some ti =>
    rw [e] at hx
    obtain ⟨r, hr, er⟩ := R.get e
    exact ⟨ti, r, (Option.some.inj hx).symm, rfl, hr, er⟩
section
variable {P : Program} {w : World} {K : PySem.W.Frag} {mg : Str → Option Value} {base : Heap}
def spWordAt (K : PySem.W.Frag) : Sp := fun vs H Q _ => ∃ (q : Addr) (ws : List Bool) (k : Nat), vs = [.ref q, .int (k : Nat)] ∧ SqL K H q (ws.map lvV) ∧ ws ≠ [] ∧ Q (lvV (wordAt ws k)) H
theorem ok_word_at {f : Addr} {fd : FuncData} (F : Fun K "word_at" "word_at" s_word_at f fd) (T : Tx K mg) : FnOk P w K mg base CX0 1 f fd ["levels", "level"] (spWordAt K) := by
  refine F.ok sc_word_at (fun vs H Q E h => ?_) (fun cdv A outer s H vs Q E hr h => ?_)
  · obtain ⟨q, ws, k, rfl, _⟩ := h
    rfl
  · obtain ⟨q, ws, k, rfl, hL, hne, c⟩ := h
    have hp : 0 < ws.length := List.length_pos_iff.mpr hne
    have hpm : 1 ≤ (ws.map lvV).length := by
      rw [List.length_map]
      exact hp
    refine ⟨_, (pss_one (ps_ret (pe_ix (ix_listK (K := K) rfl) (pv 0) (pe_callB (call_min2 rfl) (by rfl) T.b_min (by decide +kernel) (pa_cons (pv 1) (pa_cons (pe_op op_subN (pe_callB (lenK (K := K) rfl) (by rfl) T.b_len PySem.boot_len (pa_cons (pv 0) pa_nil)) pe_int) pa_nil))) (fun _ _ => rfl)))), ?_⟩
    have g := word_get hne k
    refine ⟨.ref q, rfl, _, rfl, .ref q, rfl, q, _, rfl, .inl hL, (ws.map lvV).length, 1, rfl, rfl, hpm, k, _, rfl, q, _, ((min k (ws.length - 1) : Nat) : Int), _, rfl, congrArg V.int ?_, hL, atI_nat g, c⟩
    dsimp only
    rw [List.length_map]
    split <;> omega
def WordsAt (K : PySem.W.Frag) (mg : Str → Option Value) : Prop := ∃ a, mg "WORDS" = some (.ref a) ∧ ∀ H, SqT K H a [.str "stack", .str "queue"]
def MostAt (mg : Str → Option Value) : Prop := ∃ t, mg "MOST_LEVELS" = some (.int 60 t)
def spIsWord : Sp := fun vs H Q _ => ∃ b : Bool, vs = [lvV b] ∧ Q (.bl true) H
theorem ok_is_word {f : Addr} {fd : FuncData} (F : Fun K "is_word" "is_word" s_is_word f fd) (T : Tx K mg) (hW : WordsAt K mg) : FnOk P w K mg base CX0 1 f fd ["given"] spIsWord := by
  obtain ⟨a_WORDS, g_WORDS, sW⟩ := hW
  refine F.ok sc_is_word (fun vs H Q E h => ?_) (fun cdv A outer s H vs Q E hr h => ?_)
  · obtain ⟨b, rfl, _⟩ := h
    rfl
  · obtain ⟨b, rfl, c⟩ := h
    refine ⟨_, (pss_one (ps_ret (pe_and (pe_callB (isiK (K := K) rfl) (by rfl) T.b_isinstance (by decide +kernel) (pa_cons (pv 0) (pa_cons (pe_bltn (v := .ty "str") (u := .type "str") (by rfl) T.b_str (by decide +kernel) rfl) pa_nil))) (pe_one (pe_cmpR op_in_seq (pv 0) (pe_glob (v := .ref a_WORDS) rfl g_WORDS rfl) (by rfl)))))), ?_⟩
    obtain ⟨x, ex, hx⟩ : ∃ x : Str, lvV b = .str x ∧ (if false then !inV (V.str x) [.str "stack", .str "queue"] else inV (V.str x) [.str "stack", .str "queue"]) = true := by
      cases b
      · exact ⟨_, rfl, by decide⟩
      · exact ⟨_, rfl, by decide⟩
    rw [ex]
    refine ⟨.str x, rfl, _, _, _, _, true, rfl, .ty "str", .base (.str x), kit_ty (by decide +kernel), true, rfl, iteT ?_⟩
    refine ⟨.str x, rfl, a_WORDS, _, rfl, .inr (sW _), rfl, rfl, ?_⟩
    rw [hx]
    exact c
def spIsLength : Sp := fun vs H Q _ => ∃ n : Int, vs = [.int n] ∧ 1 ≤ n ∧ n ≤ 60 ∧ Q (.bl true) H
theorem ok_is_length {f : Addr} {fd : FuncData} (F : Fun K "is_length" "is_length" s_is_length f fd) (hM : MostAt mg) (h1 : Has P w K mg base 1 "is_integer" ["given"] [] spIsInt) : FnOk P w K mg base CX0 2 f fd ["given"] spIsLength := by
  obtain ⟨tM, g_MOST_LEVELS⟩ := hM
  obtain ⟨f_is_integer, fd_is_integer, ds_is_integer, G_is_integer, m_is_integer, k_is_integer, b_is_integer, v_is_integer⟩ := h1
  refine F.ok sc_is_length (fun vs H Q E h => ?_) (fun cdv A outer s H vs Q E hr h => ?_)
  · obtain ⟨n, rfl, _⟩ := h
    rfl
  · obtain ⟨n, rfl, l1, l2, q⟩ := h
    refine ⟨_, (pss_one (ps_ret (pe_and (pe_call G_is_integer hr (by rfl) m_is_integer k_is_integer b_is_integer v_is_integer pass0 (pa_cons (pv 0) pa_nil)) (pe_one (pe_chain op_le op_le pe_int (pv 0) (pe_glob (v := .int 60) rfl g_MOST_LEVELS ⟨_, rfl⟩)))))), ?_⟩
    refine ⟨.int n, rfl, n, rfl, true, rfl, iteT ?_⟩
    refine ⟨.int n, rfl, 1, n, rfl, rfl, true, congrArg V.bl (decide_eq_true l1), iteT ?_⟩
    refine ⟨n, 60, rfl, rfl, ?_⟩
    have e : V.bl (decide (n ≤ 60)) = V.bl true := dT l2
    show Q (V.bl (decide (n ≤ 60))) H
    rw [e]
    exact q
def spAreLevels (K : PySem.W.Frag) : Sp := fun vs H Q _ => ∃ (q : Addr) (ws : List Bool), vs = [.ref q] ∧ SqL K H q (ws.map lvV) ∧ ws ≠ [] ∧ ws.length ≤ 60 ∧ ∀ H', Same H H' → Q (.bl true) H'
theorem ok_are_levels {f : Addr} {fd : FuncData} (F : Fun K "are_levels" "are_levels" s_are_levels f fd) (T : Tx K mg) (h0 : Has P w K mg base 2 "is_length" ["given"] [] spIsLength) (h1 : Has P w K mg base 1 "is_word" ["given"] [] spIsWord) : FnOk P w K mg base CX0 3 f fd ["given"] (spAreLevels K) := by
  obtain ⟨f_is_length, fd_is_length, ds_is_length, G_is_length, m_is_length, k_is_length, b_is_length, v_is_length⟩ := h0
  obtain ⟨f_is_word, fd_is_word, ds_is_word, G_is_word, m_is_word, k_is_word, b_is_word, v_is_word⟩ := h1
  refine F.ok sc_are_levels (fun vs H Q E h => ?_) (fun cdv A outer s H vs Q E hr h => ?_)
  · obtain ⟨q, ws, rfl, _⟩ := h
    rfl
  · obtain ⟨q, ws, rfl, hL, hne, h60, c⟩ := h
    have hp : 0 < ws.length := List.length_pos_iff.mpr hne
    refine ⟨_, (pss_cons (ps_if (PW.pt (pw_or (pt_not (pt_val (pe_callB (isiK (K := K) rfl) (by rfl) T.b_isinstance (by decide +kernel) (pa_cons (pv 0) (pa_cons (pe_bltn (v := .ty "list") (u := .type "list") (by rfl) T.b_list (by decide +kernel) rfl) pa_nil))))) (pw_or1 (pt_not (pt_val (pe_call G_is_length hr (by rfl) m_is_length k_is_length b_is_length v_is_length pass0 (pa_cons (pe_callB (lenK (K := K) rfl) (by rfl) T.b_len PySem.boot_len (pa_cons (pv 0) pa_nil)) pa_nil)))))))
        (pss_one (ps_ret pe_bl))
        pss_nil)
      (pss_one (ps_ret (pe_callB (allK (K := K) rfl rfl) (by rfl) T.b_all (by decide +kernel) (pa_cons (pe_lc (own := [("word", 1)]) (g := gName 1) (tt := tYes) rfl sc_are_levels.nd (pi_list (pv 0)) (blkOk_by (own := [("word", 1)]) (N := N_are_levels) (sc := defScope s_are_levels) (by decide +kernel)) (fun _ _ _ _ _ => (pg_name (i := 1) sc_are_levels.nd rfl (.inl rfl))) (fun _ _ _ _ _ => pts_nil) (fun _ _ _ _ _ => (pe_call G_is_word (hr.mono (by decide)) (by rfl) m_is_word k_is_word b_is_word v_is_word pass0 (pa_cons (pv 1) pa_nil)))) pa_nil))))), ?_⟩
    refine ⟨.ref q, rfl, _, _, _, _, true, rfl, .ty "list", tyx_list hL, kit_ty (by decide +kernel), true, rfl, iteF ?_⟩
    refine ⟨.ref q, rfl, q, _, rfl, .inl hL, _, rfl, ?_, ?_, true, rfl, iteF ?_⟩
    · rw [List.length_map]
      omega
    · rw [List.length_map]
      omega
    refine ⟨.ref q, rfl, q, rfl, ⟨_, hL⟩, fun D hD => lc_list (K := K) (a := q) (xs := ws.map lvV) (fun i H' => Same H H' ∧ H' D = some (.lst ((List.replicate i true).map V.bl)))
      ⟨same_upd hD, upd_same⟩ (fun i H' _ ⟨sm, _⟩ => sm.seq hL) ?_ ?_⟩
    · rintro i x H' hx ⟨sm, eD⟩
      obtain ⟨b, rfl⟩ : ∃ b, x = lvV b := by
        rw [List.getElem?_map] at hx
        cases e : ws[i]? with
        | none =>
          rw [e] at hx
          cases hx
        | some b =>
          rw [e] at hx
          exact ⟨b, (Option.some.inj hx).symm⟩
      have hi : i < (ws.map lvV).length := (List.getElem?_eq_some_iff.mp hx).1
      rw [List.length_map] at hi
      refine ⟨rfl, yesT (iteT ?_)⟩
      refine ⟨_, rfl, b, rfl, _, eD, ?_, fun c o e => ?_, ?_⟩
      · rw [List.length_map, List.length_replicate]
        exact sizeLine_ge (by omega)
      · rw [upd_ne (ne_of_none e hD)]
        exact sm _ _ e
      · rw [upd_same, List.replicate_succ', List.map_append]
        rfl
    · rintro H1 ⟨s1, eD⟩
      refine ⟨D, _, rfl, SqL.of eD, ?_⟩
      have ea : (List.replicate (ws.map lvV).length true).all id = true := by
        rw [List.all_replicate]
        simp
      rw [ea]
      exact c H1 s1
def spCheckLevels (K : PySem.W.Frag) : Sp := fun vs H Q _ => ∃ (q : Addr) (ws : List Bool), vs = [.ref q] ∧ SqL K H q (ws.map lvV) ∧ ws ≠ [] ∧ ws.length ≤ 60 ∧ ∀ H', Same H H' → Q .non H'
theorem ok_check_levels {f : Addr} {fd : FuncData} (F : Fun K "check_levels" "check_levels" s_check_levels f fd) (h1 : Has P w K mg base 3 "are_levels" ["given"] [] (spAreLevels K)) : FnOk P w K mg base CX0 4 f fd ["levels"] (spCheckLevels K) := by
  obtain ⟨f_are_levels, fd_are_levels, ds_are_levels, G_are_levels, m_are_levels, k_are_levels, b_are_levels, v_are_levels⟩ := h1
  refine F.ok sc_check_levels (fun vs H Q E h => ?_) (fun cdv A outer s H vs Q E hr h => ?_)
  · obtain ⟨q, ws, rfl, _⟩ := h
    rfl
  · obtain ⟨q, ws, rfl, hL, hne, h60, c⟩ := h
    refine ⟨_, (pss_one (ps_if (pt_not (pt_val (pe_call G_are_levels hr (by rfl) m_are_levels k_are_levels b_are_levels v_are_levels pass0 (pa_cons (pv 0) pa_nil))))
        (pss_one ps_never)
        pss_nil)), ?_⟩
    exact ⟨_, rfl, q, ws, rfl, hL, hne, h60, fun H1 s1 => ⟨true, rfl, iteF (c H1 s1)⟩⟩
end
/-! ### data equal to itself -/
theorem neq_refl {d : PyData} (h : d.canLay0 = true) : V.bl (!PyData.eqv d d) = V.bl false := by
  rw [SeqAt.eqv_refl d h]
  rfl
theorem eq_refl {d : PyData} (h : d.canLay0 = true) : V.bl (PyData.eqv d d) = V.bl true := by
  rw [SeqAt.eqv_refl d h]
/-! ### rows as data, walks with numbers -/
def rowD (r : Row3) : PyData := .tuple [.int (r.1 : Nat), .int (r.2.1 : Nat), .int (r.2.2 : Nat)]
theorem rows_dp {K : PySem.W.Frag} {H : Hp} : ∀ {ts : List Addr} {rs : List Row3}, RowsAt H ts rs → DpAll K H (ts.map V.ref) (rs.map rowD)
  | [], [], _ => .nil
  | _ :: _, _ :: _, h => .cons (.tup (.inl (.inl h.1)) (.cons (.int _) (.cons (.int _) (.cons (.int _) .nil)))) (rows_dp h.2)
  | [], _ :: _, h => h.elim
  | _ :: _, [], h => h.elim
theorem rowD_lay (r : Row3) : (rowD r).canLay0 = true := rfl
theorem rows_lay : ∀ rs : List Row3, PyData.canLayAll0 (rs.map rowD) = true
  | [] => rfl
  | r :: rs => by
    show ((rowD r).canLay0 && PyData.canLayAll0 (rs.map rowD)) = true
    rw [rowD_lay, rows_lay rs]
    rfl
theorem rows_depth : ∀ rs : List Row3, PyData.depthAll (rs.map rowD) ≤ 1
  | [] => Nat.zero_le _
  | r :: rs => by
    have ih := rows_depth rs
    show max (rowD r).depth (PyData.depthAll (rs.map rowD)) ≤ 1
    have e : (rowD r).depth = 1 := rfl
    rw [e]
    omega
theorem rows_shaped (rs : List Row3) : SeqAt.shaped (.list (rs.map rowD)) = true := by
  have h1 : (PyData.list (rs.map rowD)).canLay0 = true := by
    show PyData.canLayAll0 (rs.map rowD) = true
    exact rows_lay rs
  have h2 : (PyData.list (rs.map rowD)).depth ≤ 64 := by
    show PyData.depthAll (rs.map rowD) + 1 ≤ 64
    have := rows_depth rs
    omega
  unfold SeqAt.shaped
  rw [h1, decide_eq_true h2]
  rfl
theorem dp_nats {K : PySem.W.Frag} {H : Hp} : ∀ ns : List Nat, DpAll K H (ns.map fun x => V.int (x : Nat)) (ns.map fun x => PyData.int (x : Nat))
  | [] => .nil
  | _ :: r => .cons (.int _) (dp_nats r)
theorem nats_lay : ∀ ns : List Nat, PyData.canLayAll0 (ns.map fun x => PyData.int (x : Nat)) = true
  | [] => rfl
  | _ :: r => by
    show (PyData.canLay0 _ && PyData.canLayAll0 (r.map fun x => PyData.int (x : Nat))) = true
    rw [nats_lay r]
    rfl
theorem nats_depth : ∀ ns : List Nat, PyData.depthAll (ns.map fun x => PyData.int (x : Nat)) = 0
  | [] => rfl
  | _ :: r => by
    show max (PyData.depth _) (PyData.depthAll (r.map fun x => PyData.int (x : Nat))) = 0
    rw [nats_depth r]
    rfl
theorem nats_shaped (ns : List Nat) : SeqAt.shaped (.list (ns.map fun x => PyData.int (x : Nat))) = true := by
  have h1 : (PyData.list (ns.map fun x => PyData.int (x : Nat))).canLay0 = true := by
    show PyData.canLayAll0 _ = true
    exact nats_lay ns
  have h2 : (PyData.list (ns.map fun x => PyData.int (x : Nat))).depth ≤ 64 := by
    show PyData.depthAll _ + 1 ≤ 64
    rw [nats_depth ns]
    decide
  unfold SeqAt.shaped
  rw [h1, decide_eq_true h2]
  rfl
theorem cut1 (xs : List V) : cutV xs (some 1) none = xs.drop 1 := by
  unfold cutV
  rw [show HT.sIx xs.length 0 (some 1) = min 1 xs.length from HT.sIx_nat xs.length 0 1, HT.sIx_none]
  cases xs with
  | nil => rfl
  | cons x r =>
    rw [show min 1 (x :: r).length = 1 by
      rw [List.length_cons]
      omega]
    show (List.take ((x :: r).length - 1) r) = r
    rw [List.length_cons, Nat.add_sub_cancel]
    exact List.take_length
theorem cutTo {xs : List V} {k : Nat} : cutV xs none (some (k : Int)) = xs.take k := by
  unfold cutV
  rw [HT.sIx_none, HT.sIx_nat, List.drop_zero, Nat.sub_zero]
  by_cases h : k ≤ xs.length
  · rw [Nat.min_eq_left h]
  · rw [Nat.min_eq_right (by omega), List.take_length, List.take_of_length_le (by omega)]
theorem cutFrom {xs : List V} {k : Nat} : cutV xs (some (k : Int)) none = xs.drop k := by
  unfold cutV
  rw [HT.sIx_none, HT.sIx_nat]
  by_cases h : k ≤ xs.length
  · rw [Nat.min_eq_left h]
    exact List.take_of_length_le (by rw [List.length_drop]; exact Nat.le_refl _)
  · rw [Nat.min_eq_right (by omega), List.drop_length, List.drop_of_length_le (by omega)]
    simp
theorem cutLast {xs : List V} (h : xs ≠ []) : cutV xs (some (-1)) none = [xs.getLast h] := by
  have hp : 0 < xs.length := List.length_pos_iff.mpr h
  have e : HT.sIx xs.length 0 (some (-1)) = xs.length - 1 := by
    show (if (-1 : Int) < 0 then ((-1 : Int) + (xs.length : Int)).toNat else min (-1 : Int).toNat xs.length) = _
    rw [if_pos (by decide)]
    omega
  unfold cutV
  rw [e, HT.sIx_none, List.drop_eq_getElem_cons (show xs.length - 1 < xs.length by omega), List.getLast_eq_getElem]
  rw [show xs.length - 1 + 1 = xs.length by omega, List.drop_length]
  rw [show xs.length - (xs.length - 1) = 1 by omega]
  rfl
theorem RowsAt.frame {H H' : Hp} : ∀ {ts : List Addr} {rs : List Row3}, RowsAt H ts rs → (∀ t r, H t = some (.tup (rowV r)) → H' t = some (.tup (rowV r))) → RowsAt H' ts rs
  | [], [], _, _ => trivial
  | _ :: _, _ :: _, h, s => ⟨s _ _ h.1, h.2.frame s⟩
  | [], _ :: _, h, _ => h.elim
  | _ :: _, [], h, _ => h.elim
/-- the tick behind the first station -/
theorem behind_first (b d : Nat) : ∀ k, ((tailOf b d k).map (fun r => r.2.2) ++ [d])[0]? = some (d / b ^ k * b ^ k)
  | 0 => by
    show some d = some (d / b ^ 0 * b ^ 0)
    rw [Nat.pow_zero, Nat.div_one, Nat.mul_one]
  | k + 1 => by
    have e := cut_step b d k
    unfold tailOf
    split
    · rfl
    · rename_i h
      have h0 : d / b ^ k % b = 0 := Classical.byContradiction h
      rw [h0, Nat.zero_mul, Nat.add_zero] at e
      rw [behind_first b d k, e]
/-- a loop over enumerate(a list) -/
theorem for_enum {K : PySem.W.Frag} {a : Addr} {xs : List V} {g : TG} {tb : TS} {D : Ends} {σ : L2.St} {H : Hp} (Pv : Nat → L2.St → Hp → Prop) (h0 : Pv 0 σ H) (hq : ∀ i σ H, Pv i σ H → SqL K H a xs)
    (hs : ∀ (i : Nat) (x : V) (T : Addr) (σ : L2.St) (H : Hp), xs[i]? = some x → Pv i σ H → H T = none → g (.ref T) σ (upd H T (.tup [.int (i : Nat), x])) fun σ2 H2 => tb { D with nx := Pv (i + 1), ct := Pv (i + 1), bk := D.nx } σ2 H2) (hd : ∀ σ H, Pv xs.length σ H → D.nx σ H) :
    ∃ W : Nat → Nat → L2.St → Hp → Prop, (∃ m, W 0 m σ H) ∧ ∀ i m σ H, W i m σ H →
      ((Ite K a).stop i H ∧ D.nx σ H) ∨ ((Ite K a).go i H ∧ ∃ N : L2.St → Hp → Prop, (∀ σ' H', N σ' H' → ∃ m', m' < m ∧ W (i + 1) m' σ' H') ∧ ∀ v H', (Ite K a).yld i H v H' → g v σ H' fun σ2 H2 => tb { D with nx := N, ct := N, bk := D.nx } σ2 H2) := by
  refine ⟨fun i m σ H => m = xs.length - i ∧ i ≤ xs.length ∧ Pv i σ H, ⟨xs.length, rfl, Nat.zero_le _, h0⟩, ?_⟩
  rintro i m σ H ⟨rfl, hi, p⟩
  have qx := hq i σ H p
  by_cases hlt : i < xs.length
  · have hx : xs[i]? = some xs[i] := List.getElem?_eq_getElem hlt
    refine .inr ⟨⟨xs, xs[i], qx, hx⟩, Pv (i + 1), fun σ' H' p' => ⟨xs.length - (i + 1), by omega, rfl, hlt, p'⟩, fun v H' y => ?_⟩
    obtain ⟨T, x, rfl, nT, rfl, f⟩ := y
    have ex : x = xs[i] := Option.some.inj ((f xs qx).symm.trans hx)
    subst ex
    exact hs i _ T σ H hx p nT
  · have e : i = xs.length := by omega
    subst e
    exact .inl ⟨⟨xs, qx, Nat.le_refl _⟩, hd σ H p⟩
/-- a loop over zip(a list, a list), of any two lengths -/
theorem for_zip2 {K : PySem.W.Frag} {a b : Addr} {xs ys : List V} {g : TG} {tb : TS} {D : Ends} {σ : L2.St} {H : Hp} (Pv : Nat → L2.St → Hp → Prop) (h0 : Pv 0 σ H) (hq : ∀ i σ H, Pv i σ H → SqL K H a xs ∧ SqL K H b ys)
    (hs : ∀ (i : Nat) (x y : V) (T : Addr) (σ : L2.St) (H : Hp), xs[i]? = some x → ys[i]? = some y → Pv i σ H → H T = none → g (.ref T) σ (upd H T (.tup [x, y])) fun σ2 H2 => tb { D with nx := Pv (i + 1), ct := Pv (i + 1), bk := D.nx } σ2 H2) (hd : ∀ i σ H, Pv i σ H → D.nx σ H) :
    ∃ W : Nat → Nat → L2.St → Hp → Prop, (∃ m, W 0 m σ H) ∧ ∀ i m σ H, W i m σ H →
      ((Itz K a b).stop i H ∧ D.nx σ H) ∨ ((Itz K a b).go i H ∧ ∃ N : L2.St → Hp → Prop, (∀ σ' H', N σ' H' → ∃ m', m' < m ∧ W (i + 1) m' σ' H') ∧ ∀ v H', (Itz K a b).yld i H v H' → g v σ H' fun σ2 H2 => tb { D with nx := N, ct := N, bk := D.nx } σ2 H2) := by
  refine ⟨fun i m σ H => m = xs.length - i ∧ i ≤ xs.length ∧ Pv i σ H, ⟨xs.length, rfl, Nat.zero_le _, h0⟩, ?_⟩
  rintro i m σ H ⟨rfl, hi, p⟩
  obtain ⟨qx, qy⟩ := hq i σ H p
  by_cases hlt : i < xs.length ∧ i < ys.length
  · have hx : xs[i]? = some xs[i] := List.getElem?_eq_getElem hlt.1
    have hy : ys[i]? = some ys[i] := List.getElem?_eq_getElem hlt.2
    refine .inr ⟨⟨xs, ys, _, _, qx, qy, hx, hy⟩, Pv (i + 1), fun σ' H' p' => ⟨xs.length - (i + 1), by omega, rfl, hlt.1, p'⟩, fun v H' e => ?_⟩
    obtain ⟨T, x, y, rfl, nT, rfl, f, f2⟩ := e
    have ex : x = xs[i] := Option.some.inj ((f xs qx).symm.trans hx)
    have ey : y = ys[i] := Option.some.inj ((f2 ys qy).symm.trans hy)
    subst ex
    subst ey
    exact hs i _ _ T σ H hx hy p nT
  · refine .inl ⟨⟨xs, ys, qx, qy, ?_⟩, hd i σ H p⟩
    by_cases h1 : i < xs.length
    · right
      by_cases h2 : i < ys.length
      · exact absurd ⟨h1, h2⟩ hlt
      · omega
    · left
      omega
/-- the last item of a list that has one -/
theorem atI_neg1 {xs : List V} {x : V} (h : xs[xs.length - 1]? = some x) : atI xs (-1) = some x := by
  have hne : xs ≠ [] := fun e => by
    rw [e] at h
    simp at h
  have e : xs = xs.dropLast ++ [xs.getLast hne] := (List.dropLast_concat_getLast hne).symm
  have ex : x = xs.getLast hne := by
    have z := List.getLast?_eq_getElem? (l := xs)
    rw [h, List.getLast?_eq_some_getLast hne] at z
    exact (Option.some.inj z).symm
  rw [e, ex]
  exact atI_last _ _
theorem nat_list {ns : List Int} (h : ∀ y ∈ ns, ∃ x : Nat, y = ((x : Nat) : Int)) : ∃ ds : List Nat, ns = ds.map fun x => ((x : Nat) : Int) := by
  refine ⟨ns.map Int.toNat, ?_⟩
  rw [List.map_map]
  have e := List.map_congr_left (f := id) (g := (fun x : Nat => ((x : Nat) : Int)) ∘ Int.toNat) (l := ns) fun y hy => by
    obtain ⟨x, rfl⟩ := h y hy
    rfl
  rw [List.map_id] at e
  exact e
/-! ### the program: when to set timers -/
def TsAt (H : Hp) (ts : List Addr) (rs : List (Nat × Bool)) : Prop := ts.length = rs.length ∧ ∀ (i : Nat) (t : Addr) (r : Nat × Bool), ts[i]? = some t → rs[i]? = some r → H t = some (.tup [.int (r.1 : Nat), .bl r.2])
theorem TsAt.same {H H' : Hp} {ts : List Addr} {rs : List (Nat × Bool)} (h : TsAt H ts rs) (s : Same H H') : TsAt H' ts rs := ⟨h.1, fun i t r h1 h2 => s _ _ (h.2 i t r h1 h2)⟩
theorem TsAt.upd {H : Hp} {p : Addr} {xs : List V} {o : HO} {ts : List Addr} {rs : List (Nat × Bool)} (h : TsAt H ts rs) (hp : H p = some (.lst xs)) : TsAt (upd H p o) ts rs := ⟨h.1, fun i t r h1 h2 => by
  have z := h.2 i t r h1 h2
  rw [upd_ne (ne_of z hp (by intro z; cases z))]
  exact z⟩
theorem TsAt.snoc {H : Hp} {t : Addr} {r : Nat × Bool} {ts : List Addr} {rs : List (Nat × Bool)} (h : TsAt H ts rs) (ht : H t = some (.tup [.int (r.1 : Nat), .bl r.2])) : TsAt H (ts ++ [t]) (rs ++ [r]) := by
  refine ⟨by rw [List.length_append, List.length_append, h.1]; rfl, fun i t' r' h1 h2 => ?_⟩
  by_cases c : i < ts.length
  · rw [List.getElem?_append_left c] at h1
    rw [List.getElem?_append_left (by rw [← h.1]; exact c)] at h2
    exact h.2 i t' r' h1 h2
  · rw [List.getElem?_append_right (by omega)] at h1
    rw [List.getElem?_append_right (by rw [← h.1]; omega), ← h.1] at h2
    have hi := (List.getElem?_eq_some_iff.mp h1).1
    have : i - ts.length = 0 := by
      have : i - ts.length < 1 := hi
      omega
    rw [this] at h1 h2
    cases Option.some.inj h1
    cases Option.some.inj h2
    exact ht
theorem TsAt.rev {H : Hp} {ts : List Addr} {rs : List (Nat × Bool)} (h : TsAt H ts rs) : TsAt H ts.reverse rs.reverse := by
  refine ⟨by rw [List.length_reverse, List.length_reverse, h.1], fun i t r h1 h2 => ?_⟩
  have hi := (List.getElem?_eq_some_iff.mp h1).1
  rw [List.length_reverse] at hi
  rw [List.getElem?_reverse hi] at h1
  rw [List.getElem?_reverse (by rw [← h.1]; exact hi), ← h.1] at h2
  exact h.2 _ t r h1 h2
theorem front_cons (ws : List Bool) (rs : List Row3) (r : Row3) : frontOf ws 0 (r :: rs) = if wordAt ws r.1 = true then !frontOf ws 0 rs else frontOf ws 0 rs := by
  unfold frontOf
  rw [List.countP_cons, decide_eq_true (Nat.zero_le _), Bool.true_and]
  cases h : wordAt ws r.1 with
  | true => rw [if_pos rfl, if_pos rfl, odd_succ]
  | false => rw [if_neg (by decide), if_neg (by decide), Nat.add_zero]
theorem ts_drop {ws : List Bool} {rs : List Row3} {j : Nat} {r : Row3} (h : rs[j]? = some r) : (tsOf ws (rs.drop j)) = (r.2.2, frontOf ws 0 (rs.drop j)) :: tsOf ws (rs.drop (j + 1)) ∧ frontOf ws 0 (rs.drop j) = if wordAt ws r.1 = true then !frontOf ws 0 (rs.drop (j + 1)) else frontOf ws 0 (rs.drop (j + 1)) := by
  obtain ⟨hj, e⟩ := List.getElem?_eq_some_iff.mp h
  have e1 : rs.drop j = r :: rs.drop (j + 1) := by
    rw [List.drop_eq_getElem_cons hj, e]
  rw [e1]
  exact ⟨rfl, front_cons ws _ r⟩
def wV : Option Bool → V
  | none => .non
  | some b => .bl b
theorem idx_at {o : List Nat} (h : IsOrd o) {i : Nat} (hi : i < o.length) : (o.map fun x => V.int (x : Nat))[o.idxOf i]? = some (.int (i : Nat)) ∧ ∀ (m : Nat) (z' : V), m < o.idxOf i → (o.map fun x => V.int (x : Nat))[m]? = some z' → eqV z' (.int (i : Nat)) = false := by
  have hm : i ∈ o := (h.2 i).mpr hi
  have hl := List.idxOf_lt_length_of_mem hm
  have e : o[o.idxOf i]? = some i := by
    rw [List.getElem?_eq_getElem hl, List.getElem_idxOf]
  refine ⟨by rw [List.getElem?_map, e]; rfl, fun m z' hlt hz => ?_⟩
  rw [List.getElem?_map] at hz
  cases ex : o[m]? with
  | none =>
    rw [ex] at hz
    cases hz
  | some x =>
    rw [ex] at hz
    cases hz
    have ne : x ≠ i := fun z => by
      rw [z] at ex
      have := (List.getElem?_inj (List.getElem?_eq_some_iff.mp ex).1 h.1).mp (ex.trans e.symm)
      omega
    show (((x : Nat) : Int) == ((i : Nat) : Int)) = false
    simp
    omega
theorem nats_flat (o : List Nat) : (o.map fun x => V.int (x : Nat)).all flatV = true := by
  rw [List.all_map]
  exact List.all_eq_true.mpr fun _ _ => rfl
section
variable {P : Program} {w : World} {K : PySem.W.Frag} {mg : Str → Option Value} {base : Heap}
def spCheckOrder (K : PySem.W.Frag) : Sp := fun vs H Q _ => ∃ (q : Addr) (o : List Nat), vs = [.ref q] ∧ SqL K H q (o.map fun x => V.int (x : Nat)) ∧ IsOrd o ∧ o ≠ [] ∧ o.length ≤ 60 ∧ ∀ H', Same H H' → Q .non H'
theorem ok_check_order {f : Addr} {fd : FuncData} (F : Fun K "check_order" "check_order" s_check_order f fd) (T : Tx K mg) (h1 : Has P w K mg base 1 "is_integer" ["given"] [] spIsInt) : FnOk P w K mg base CX0 2 f fd ["order"] (spCheckOrder K) := by
  obtain ⟨f_is_integer, fd_is_integer, ds_is_integer, G_is_integer, m_is_integer, k_is_integer, b_is_integer, v_is_integer⟩ := h1
  refine F.ok sc_check_order (fun vs H Q E h => ?_) (fun cdv A outer s H vs Q E hr h => ?_)
  · obtain ⟨q, o, rfl, _⟩ := h
    rfl
  · obtain ⟨q, o, rfl, hL, ho, hne, h60, c⟩ := h
    have hp : 0 < o.length := List.length_pos_iff.mpr hne
    refine ⟨_, (pss_cons (ps_if (PW.pt (pw_or (pt_not (pt_val (pe_callB (isiK (K := K) rfl) (by rfl) T.b_isinstance (by decide +kernel) (pa_cons (pv 0) (pa_cons (pe_bltn (v := .ty "list") (u := .type "list") (by rfl) T.b_list (by decide +kernel) rfl) pa_nil))))) (pw_or1 (pt_cmpR op_eq (pe_callB (lenK (K := K) rfl) (by rfl) T.b_len PySem.boot_len (pa_cons (pv 0) pa_nil)) pe_int (nomark _)))))
        (pss_one ps_never)
        pss_nil)
      (pss_one (ps_if (PW.pt (pw_or (pt_not (pt_val (pe_callB (allK (K := K) rfl rfl) (by rfl) T.b_all (by decide +kernel) (pa_cons (pe_lc (own := [("number", 1)]) (g := gName 1) (tt := tYes) rfl sc_check_order.nd (pi_list (pv 0)) (blkOk_by (own := [("number", 1)]) (N := N_check_order) (sc := defScope s_check_order) (by decide +kernel)) (fun _ _ _ _ _ => (pg_name (i := 1) sc_check_order.nd rfl (.inl rfl))) (fun _ _ _ _ _ => pts_nil) (fun _ _ _ _ _ => (pe_call G_is_integer hr (by rfl) m_is_integer k_is_integer b_is_integer v_is_integer pass0 (pa_cons (pv 1) pa_nil)))) pa_nil)))) (pw_or1 (pt_cmpR (op_neK (K := K) rfl hr.units) (pe_callB cr_sortedI (by rfl) T.b_sorted (by decide +kernel) (pa_cons (pv 0) pa_nil)) (pe_listRg rfl (by rfl) T.b_list (prg_1 (by rfl) T.b_range (pe_callB (lenK (K := K) rfl) (by rfl) T.b_len PySem.boot_len (pa_cons (pv 0) pa_nil)))) (nomark _)))))
        (pss_one ps_never)
        pss_nil))), ?_⟩
    refine ⟨.ref q, rfl, _, _, _, _, true, rfl, .ty "list", tyx_list hL, kit_ty (by decide +kernel), true, rfl, iteF ?_⟩
    refine ⟨_, rfl, q, _, rfl, .inl hL, rfl, false, dF (vN (b := 0) ?_), iteF ?_⟩
    · rw [List.length_map]
      omega
    refine ⟨.ref q, rfl, q, rfl, ⟨_, hL⟩, fun D hD => lc_list (K := K) (a := q) (xs := o.map fun x => V.int (x : Nat)) (fun i H' => Same H H' ∧ H' D = some (.lst ((List.replicate i true).map V.bl)))
      ⟨same_upd hD, upd_same⟩ (fun i H' _ ⟨sm, _⟩ => sm.seq hL) ?_ ?_⟩
    · rintro i x H' hx ⟨sm, eD⟩
      obtain ⟨b, rfl⟩ : ∃ b : Nat, x = .int (b : Nat) := by
        rw [List.getElem?_map] at hx
        cases e : o[i]? with
        | none =>
          rw [e] at hx
          cases hx
        | some b =>
          rw [e] at hx
          exact ⟨b, (Option.some.inj hx).symm⟩
      have hi : i < (o.map fun x => V.int (x : Nat)).length := (List.getElem?_eq_some_iff.mp hx).1
      rw [List.length_map] at hi
      refine ⟨rfl, yesT (iteT ?_)⟩
      refine ⟨_, rfl, _, rfl, _, eD, ?_, fun c o e => ?_, ?_⟩
      · rw [List.length_map, List.length_replicate]
        exact sizeLine_ge (by omega)
      · rw [upd_ne (ne_of_none e hD)]
        exact sm _ _ e
      · rw [upd_same, List.replicate_succ', List.map_append]
        rfl
    · rintro H1 ⟨s1, eD⟩
      refine ⟨D, _, rfl, SqL.of eD, ?_⟩
      have ea : (List.replicate (o.map fun x => V.int (x : Nat)).length true).all id = true := by
        rw [List.all_replicate]
        simp
      rw [ea]
      refine ⟨true, rfl, iteF ?_⟩
      have eo : (o.map fun x => V.int (x : Nat)) = (o.map fun x : Nat => (x : Int)).map V.int := by
        rw [List.map_map]
        rfl
      refine ⟨_, rfl, q, o.map fun x : Nat => (x : Int), rfl, eo ▸ s1.seq hL, fun ns' r hperm hsort hr => ?_⟩
      have s2 := s1.trans (same_upd (o := .lst (ns'.map V.int)) hr)
      have er := upd_same (H := H1) (a := r) (o := .lst (ns'.map V.int))
      generalize upd H1 r (.lst (ns'.map V.int)) = H2 at s2 er ⊢
      refine ⟨_, rfl, q, _, rfl, .inl (s2.seq hL), _, rfl, ⟨by decide, by decide, by omega, by rw [List.length_map]; omega, by rw [List.length_map]; omega⟩, fun u hu => ?_⟩
      have s3 := s2.trans (same_upd (o := .lst (rgV 0 ((o.map fun x => V.int (x : Nat)).length : Nat))) hu)
      have er3 := same_upd (o := .lst (rgV 0 ((o.map fun x => V.int (x : Nat)).length : Nat))) hu _ _ er
      have eu := upd_same (H := H2) (a := u) (o := .lst (rgV 0 ((o.map fun x => V.int (x : Nat)).length : Nat)))
      have e1 : ns' = (List.range o.length).map fun x : Nat => (x : Int) := by
        have p1 : ns'.Perm ((List.range o.length).map fun x : Nat => (x : Int)) := hperm.trans ((((List.perm_ext_iff_of_nodup ho.1 List.nodup_range).mpr fun x => by rw [List.mem_range]; exact ho.2 x)).map _)
        refine p1.eq_of_pairwise (le := (· ≤ ·)) (fun a b _ _ h1 h2 => Int.le_antisymm h1 h2) hsort ?_
        rw [List.pairwise_map]
        exact List.pairwise_lt_range.imp fun h => by omega
      have e2 : rgV 0 ((o.map fun x => V.int (x : Nat)).length : Nat) = (List.range o.length).map fun x => V.int (x : Nat) := by
        unfold rgV
        rw [List.length_map]
        have : (((o.length : Nat) : Int) - 0).toNat = o.length := by omega
        rw [this]
        refine List.map_congr_left fun x _ => ?_
        rw [Int.zero_add]
      rw [e2] at eu
      rw [e1, List.map_map] at er3
      have er4 : (upd H2 u (.lst (rgV 0 ((o.map fun x => V.int (x : Nat)).length : Nat)))) r = some (.lst ((List.range o.length).map fun x => V.int (x : Nat))) := er3
      refine ⟨.list ((List.range o.length).map fun y => PyData.int (y : Nat)), .list ((List.range o.length).map fun y => PyData.int (y : Nat)), .lst (SqL.of er4) (dp_nats _), .lst (SqL.of (by rw [e2]; exact eu)) (dp_nats _), nats_shaped _, nats_shaped _, false, neq_refl (d := .list ((List.range o.length).map fun y => PyData.int (y : Nat))) (nats_lay _), iteF ?_⟩
      exact c _ s3
def spTicksSides (K : PySem.W.Frag) : Sp := fun vs H Q _ => ∃ (b n d : Nat) (q : Addr) (ws : List Bool), vs = [.int (b : Nat), .ref q, .int (n : Nat), .int (d : Nat)] ∧ 2 ≤ b ∧ b ≤ 64 ∧ n < d ∧ d < 2 ^ 250 ∧ SqL K H q (ws.map lvV) ∧ ws ≠ [] ∧
  ∀ k, IsLev b n d k → ∀ H' N ts, Same H H' → H N = none → H' N = some (.lst (ts.map V.ref)) → TsAt H' ts (tsOf ws (rowsOf b n d k)) → Q (.ref N) H'
theorem ok_ticks_and_sides {f : Addr} {fd : FuncData} (F : Fun K "ticks_and_sides" "ticks_and_sides" s_ticks_and_sides f fd) (T : Tx K mg) (h1 : Has P w K mg base 2 "path" ["base", "now", "due"] [] spPath) (h2 : Has P w K mg base 1 "word_at" ["levels", "level"] [] (spWordAt K)) :
    FnOk P w K mg base CX0 3 f fd ["base", "levels", "start", "due"] (spTicksSides K) := by
  obtain ⟨f_path, fd_path, ds_path, G_path, m_path, k_path, b_path, v_path⟩ := h1
  obtain ⟨f_word_at, fd_word_at, ds_word_at, G_word_at, m_word_at, k_word_at, b_word_at, v_word_at⟩ := h2
  refine F.ok sc_ticks_and_sides (fun vs H Q E h => ?_) (fun cdv A outer s H vs Q E hr h => ?_)
  · obtain ⟨b, n, d, q, ws, rfl, _⟩ := h
    rfl
  · obtain ⟨b, n, d, q, ws, rfl, hb, hb64, hnd, hd, hL, hne, c⟩ := h
    refine ⟨_, (pss_cons (ps_set (i := 4) sc_ticks_and_sides.nd rfl (.inl rfl) (pe_lst pa_nil))
      (pss_cons (ps_set (i := 5) sc_ticks_and_sides.nd rfl (.inl rfl) pe_bl)
      (pss_cons (ps_for PassesOwn.never rfl (pi_reversed (by rfl) T.b_reversed (pa_cons (pe_call G_path hr (by rfl) m_path k_path b_path v_path pass0 (pa_cons (pv 0) (pa_cons (pv 2) (pa_cons (pv 3) pa_nil)))) pa_nil)) (pg_tupK (K := K) (n := 3) rfl rfl (pgs_cons (pg_name (i := 6) sc_ticks_and_sides.nd rfl (.inl rfl)) (pgs_cons (pg_name (i := 7) sc_ticks_and_sides.nd rfl (.inl rfl)) (pgs_cons (pg_name (i := 8) sc_ticks_and_sides.nd rfl (.inl rfl)) pgs_nil))))
        (pss_cons (ps_if (pt_cmpR op_eq (pe_call G_word_at (hr.mono (by decide)) (by rfl) m_word_at k_word_at b_word_at v_word_at pass0 (pa_cons (pv 1) (pa_cons (pv 6) pa_nil))) pe_str (nomark _))
          (pss_one (ps_set (i := 5) sc_ticks_and_sides.nd rfl (.inl rfl) (pe_not (pv 5))))
          pss_nil)
        (pss_one (ps_expr (pe_bm PySem.F.plainAttrs_list PySem.F.slot_list_append PySem.F.type_list_append mt_append (pv 4) (pa_cons (pe_tup (pa_cons (pv 8) (pa_cons (pv 5) pa_nil))) pa_nil))))))
      (pss_one (ps_ret (pe_revL (pv 4))))))), ?_⟩
    refine ⟨by simp [sizeLine_eq], fun N hN => ?_⟩
    have u0 := same_upd (o := .lst []) hN
    have eN0 := upd_same (H := H) (a := N) (o := .lst [])
    generalize upd H N (.lst []) = H0 at u0 eN0 ⊢
    refine ⟨_, rfl, _, rfl, _, rfl, b, n, d, rfl, hb, hb64, hnd, hd, fun k hk H1 p ts s1 hp0 hp R => ?_⟩
    have hlen := R.len
    have npN : p ≠ N := fun z => by
      rw [z, eN0] at hp0
      cases hp0
    refine ⟨p, ts.map V.ref, rfl, SqL.of hp, RT.for_Itv (K := K) (a := p) (xs := ts.map V.ref) (fun i σ H' => ∃ y6 y7 y8 us, σ = [some (.int (b : Nat)), some (.ref q), some (.int (n : Nat)), some (.int (d : Nat)), some (.ref N), some (.bl (frontOf ws 0 ((rowsOf b n d k).drop (ts.length - i)))), y6, y7, y8] ∧
        Same H H' ∧ H' p = some (.lst (ts.map V.ref)) ∧ RowsAt H' ts (rowsOf b n d k) ∧ H' N = some (.lst (us.map V.ref)) ∧ TsAt H' us (tsOf ws ((rowsOf b n d k).drop (ts.length - i))).reverse)
      ⟨none, none, none, [], ?_, u0.trans s1, hp, R, s1 _ _ eN0, ?_⟩ (fun i σ H' ⟨_, _, _, _, _, _, e, _⟩ => SqL.of e) ?_ ?_⟩
    · have : (rowsOf b n d k).drop (ts.length - 0) = [] := List.drop_of_length_le (by omega)
      rw [this]
      rfl
    · have : (rowsOf b n d k).drop (ts.length - 0) = [] := List.drop_of_length_le (by omega)
      rw [this]
      exact ⟨rfl, fun i t r h1 _ => by simp at h1⟩
    · rintro i x σ H' hi hx ⟨y6, y7, y8, us, rfl, sm, hp', R', eN, TS⟩
      rw [List.length_map] at hi hx
      obtain ⟨ti, r, rfl, hti, hr, er⟩ := R'.item hx
      have ej : ts.length - i = ts.length - 1 - i + 1 := by omega
      have ej2 : ts.length - (i + 1) = ts.length - 1 - i := by omega
      obtain ⟨z1, z2⟩ := ts_drop (ws := ws) hr
      rw [ej] at TS ⊢
      have hus : us.length ≤ 252 := by
        have a1 := TS.1
        rw [List.length_reverse, ts_len, List.length_drop] at a1
        have a2 := lev_small hk hb hnd hd
        have a3 := tail_len b d k
        have a4 : (rowsOf b n d k).length ≤ 251 := by
          show (tailOf b d k).length + 1 ≤ 251
          omega
        omega
      refine ⟨ti, _, rfl, .inl (.inl er), rfl, _, _, rfl, _, _, rfl, _, _, rfl, rfl, ?_⟩
      refine ⟨_, rfl, _, rfl, q, ws, r.1, rfl, sm.seq hL, hne, ?_, wordAt ws r.1, congrArg V.bl (lv_dec _), ?_⟩
      · cases wordAt ws r.1 <;> rfl
      have go : ∀ fr : Bool, fr = frontOf ws 0 ((rowsOf b n d k).drop (ts.length - 1 - i)) → ∀ t2, H' t2 = none → ∃ us', (upd (upd H' t2 (.tup [.int (r.2.2 : Nat), .bl fr])) N (.lst (us'.map V.ref))) = (upd (upd H' t2 (.tup [.int (r.2.2 : Nat), .bl fr])) N (.lst (us.map V.ref ++ [.ref t2]))) ∧ Same H (upd (upd H' t2 (.tup [.int (r.2.2 : Nat), .bl fr])) N (.lst (us'.map V.ref))) ∧
          (upd (upd H' t2 (.tup [.int (r.2.2 : Nat), .bl fr])) N (.lst (us'.map V.ref))) p = some (.lst (ts.map V.ref)) ∧ RowsAt (upd (upd H' t2 (.tup [.int (r.2.2 : Nat), .bl fr])) N (.lst (us'.map V.ref))) ts (rowsOf b n d k) ∧ TsAt (upd (upd H' t2 (.tup [.int (r.2.2 : Nat), .bl fr])) N (.lst (us'.map V.ref))) us' (tsOf ws ((rowsOf b n d k).drop (ts.length - 1 - i))).reverse := by
        intro fr efr t2 ht2
        have u2 := same_upd (o := .tup [.int (r.2.2 : Nat), .bl fr]) ht2
        have e2 := upd_same (H := H') (a := t2) (o := .tup [.int (r.2.2 : Nat), .bl fr])
        have eN2 := u2 _ _ eN
        have hp2 := u2 _ _ hp'
        have R2 := R'.same u2
        have TS2 := TS.same u2
        have sm2 := sm.trans u2
        generalize upd H' t2 (.tup [.int (r.2.2 : Nat), .bl fr]) = H2 at *
        refine ⟨us ++ [t2], by rw [List.map_append]; rfl, fun c o e => ?_, ?_, R2.upd eN2, ?_⟩
        · rw [upd_ne (ne_of_none e hN)]
          exact sm2 _ _ e
        · rw [upd_ne npN]
          exact hp2
        · rw [z1, List.reverse_cons, ← efr]
          exact (TS2.snoc e2).upd eN2
      cases hw : wordAt ws r.1 with
      | true =>
        rw [hw, if_pos rfl] at z2
        refine iteT ⟨_, rfl, _, rfl, _, rfl, .inl ⟨rfl, _, SqL.of eN⟩, _, rfl, _, rfl, by simp [sizeLine_eq], fun t2 ht2 => ?_⟩
        obtain ⟨us', w1, w2, w3, w4, w5⟩ := go _ z2.symm t2 ht2
        refine ⟨N, _, _, rfl, rfl, same_upd ht2 _ _ eN, ?_, ?_⟩
        · rw [List.length_map]
          exact sizeLine_ge (by omega)
        rw [← w1]
        refine ⟨some (.int (r.1 : Nat)), some (.int (r.2.1 : Nat)), some (.int (r.2.2 : Nat)), us', ?_, w2, w3, w4, upd_same, ?_⟩
        · rw [ej2, z2]
          rfl
        · rw [ej2]
          exact w5
      | false =>
        rw [hw, if_neg (by decide)] at z2
        refine iteF ⟨_, rfl, .inl ⟨rfl, _, SqL.of eN⟩, _, rfl, _, rfl, by simp [sizeLine_eq], fun t2 ht2 => ?_⟩
        obtain ⟨us', w1, w2, w3, w4, w5⟩ := go _ z2.symm t2 ht2
        refine ⟨N, _, _, rfl, rfl, same_upd ht2 _ _ eN, ?_, ?_⟩
        · rw [List.length_map]
          exact sizeLine_ge (by omega)
        rw [← w1]
        refine ⟨some (.int (r.1 : Nat)), some (.int (r.2.1 : Nat)), some (.int (r.2.2 : Nat)), us', ?_, w2, w3, w4, upd_same, ?_⟩
        · rw [ej2, z2]
          rfl
        · rw [ej2]
          exact w5
    · rintro σ H' ⟨y6, y7, y8, us, rfl, sm, hp', R', eN, TS⟩
      rw [List.length_map, Nat.sub_self, List.drop_zero] at TS
      refine ⟨_, rfl, N, _, rfl, SqL.of eN, fun M hM => ?_⟩
      have u3 := same_upd (o := .lst (us.map V.ref).reverse) hM
      have e3 := upd_same (H := H') (a := M) (o := .lst (us.map V.ref).reverse)
      have TS3 := (TS.same u3).rev
      rw [List.reverse_reverse] at TS3
      refine c k hk _ M us.reverse (sm.trans u3) (sm.free hM) ?_ TS3
      rw [List.map_reverse]
      exact e3
def spSidesWanted (K : PySem.W.Frag) : Sp := fun vs H Q _ => ∃ (q : Addr) (o : List Nat), vs = [.ref q] ∧ SqL K H q (o.map fun x => V.int (x : Nat)) ∧ IsOrd o ∧ o ≠ [] ∧ o.length ≤ 60 ∧ ∀ H' N, Same H H' → H N = none → H' N = some (.lst ((wantOf o).map wV)) → Q (.ref N) H'
theorem ok_sides_wanted {f : Addr} {fd : FuncData} (F : Fun K "sides_wanted" "sides_wanted" s_sides_wanted f fd) (T : Tx K mg) : FnOk P w K mg base CX0 1 f fd ["order"] (spSidesWanted K) := by
  refine F.ok sc_sides_wanted (fun vs H Q E h => ?_) (fun cdv A outer s H vs Q E hr h => ?_)
  · obtain ⟨q, o, rfl, _⟩ := h
    rfl
  · obtain ⟨q, o, rfl, hL, ho, hne, h60, c⟩ := h
    have hp : 0 < o.length := List.length_pos_iff.mpr hne
    refine ⟨_, (pss_cons (ps_set (i := 1) sc_sides_wanted.nd rfl (.inl rfl) (pe_lst pa_nil))
      (pss_cons (ps_asg2 (pe_bm PySem.F.plainAttrs_list PySem.F.slot_list_index PySem.F.type_list_index mt_index (pv 0) (pa_cons pe_int pa_nil)) (pg_name (i := 2) sc_sides_wanted.nd rfl (.inl rfl)) (pg_name (i := 3) sc_sides_wanted.nd rfl (.inl rfl)))
      (pss_cons (ps_for PassesOwn.never rfl (pi_range2 (by rfl) T.b_range (pa_cons pe_int (pa_cons (pe_callB (lenK (K := K) rfl) (by rfl) T.b_len PySem.boot_len (pa_cons (pv 0) pa_nil)) pa_nil))) (pg_name (i := 4) sc_sides_wanted.nd rfl (.inl rfl))
        (pss_cons (ps_set (i := 5) sc_sides_wanted.nd rfl (.inl rfl) (pe_bm PySem.F.plainAttrs_list PySem.F.slot_list_index PySem.F.type_list_index mt_index (pv 0) (pa_cons (pv 4) pa_nil)))
        (pss_cons (ps_if (pt_cmpR op_lt (pv 5) (pv 2) (nomark _))
          (pss_one (ps_expr (pe_bm PySem.F.plainAttrs_list PySem.F.slot_list_append PySem.F.type_list_append mt_append (pv 1) (pa_cons pe_bl pa_nil))))
          (pss_one (ps_if (pt_cmpR op_gt (pv 5) (pv 3) (nomark _))
            (pss_one (ps_expr (pe_bm PySem.F.plainAttrs_list PySem.F.slot_list_append PySem.F.type_list_append mt_append (pv 1) (pa_cons pe_bl pa_nil))))
            (pss_one (ps_expr (pe_bm PySem.F.plainAttrs_list PySem.F.slot_list_append PySem.F.type_list_append mt_append (pv 1) (pa_cons pe_non pa_nil)))))))
        (pss_one (ps_par (i := 2) (j := 3) (by rfl) sc_sides_wanted.nd rfl rfl (by decide) rfl rfl (pa_cons (pe_callB (min2N rfl) (by rfl) T.b_min (by decide +kernel) (pa_cons (pv 2) (pa_cons (pv 5) pa_nil))) (pa_cons (pe_callB (max2N rfl) (by rfl) T.b_max (by decide +kernel) (pa_cons (pv 3) (pa_cons (pv 5) pa_nil))) pa_nil)) (by rfl))))))
      (pss_one (ps_ret (pv 1)))))), ?_⟩
    refine ⟨by simp [sizeLine_eq], fun N hN => ?_⟩
    have u0 := same_upd (o := .lst []) hN
    have eN0 := upd_same (H := H) (a := N) (o := .lst [])
    generalize upd H N (.lst []) = H0 at u0 eN0 ⊢
    obtain ⟨i1, i2⟩ := idx_at ho hp
    refine ⟨_, rfl, .inl ⟨rfl, _, u0.seq hL⟩, q, _, _, _, _, rfl, rfl, u0.seq hL, rfl, nats_flat o, i1, by simp [eqV], i2, ?_⟩
    refine ⟨_, rfl, q, _, rfl, .inl (u0.seq hL), 1, _, rfl, ⟨by decide, by decide, by omega, by rw [List.length_map]; omega⟩, for_range (Pv := fun i σ H' => ∃ (lo hi : Nat) (y4 y5 : Option V), σ = [some (.ref q), some (.ref N), some (.int (lo : Nat)), some (.int (hi : Nat)), y4, y5] ∧ Same H H' ∧ H' N = some (.lst (((wantOf o).take i).map wV)) ∧
        (∀ j, j < i + 1 → lo ≤ o.idxOf j) ∧ (∃ j, j < i + 1 ∧ o.idxOf j = lo) ∧ (∀ j, j < i + 1 → o.idxOf j ≤ hi) ∧ (∃ j, j < i + 1 ∧ o.idxOf j = hi)) ?_ (fun i σ H' hi hI => ?_) (fun σ H' hI => ?_)⟩
    · refine ⟨_, _, none, none, rfl, u0, eN0, fun j hj => ?_, ⟨0, by omega, rfl⟩, fun j hj => ?_, ⟨0, by omega, rfl⟩⟩
      all_goals
        have : j = 0 := by omega
        subst this
        exact Nat.le_refl _
    · obtain ⟨lo, hi', y4, y5, rfl, sm, eN, l1, l2, l3, l4⟩ := hI
      rw [List.length_map] at hi
      have hio : i + 1 < o.length := by omega
      have ei : V.int (1 + (i : Nat)) = .int ((i + 1 : Nat) : Int) := congrArg V.int (by omega)
      obtain ⟨j1, j2⟩ := idx_at ho hio
      have ew := wantOf_at hio
      have ewl : (wantOf o).take (i + 1) = (wantOf o).take i ++ [wantAt o (i + 1)] := by
        rw [List.take_add_one, ew]
        rfl
      have hlen : (((wantOf o).take i).map wV).length ≤ 60 := by
        rw [List.length_map, List.length_take, wantOf_len]
        omega
      refine ⟨_, rfl, .inl ⟨rfl, _, sm.seq hL⟩, _, rfl, q, _, _, _, _, rfl, by rw [ei], sm.seq hL, rfl, nats_flat o, j1, by simp [eqV], j2, ?_⟩
      have ndj : ∀ j, j < i + 1 → o.idxOf j ≠ o.idxOf (i + 1) := fun j hj e => by
        have a1 := (idx_at ho (show j < o.length by omega)).1
        rw [e, j1] at a1
        have := Int.ofNat.inj (V.int.inj (Option.some.inj a1))
        omega
      -- what is kept
      have keep : ∀ (v : V) , v = wV (wantAt o (i + 1)) → ∀ y4, ∃ (lo2 hi2 : Nat) (z4 z5 : Option V), ([some (.ref q), some (.ref N), some (.int ((min lo (o.idxOf (i + 1)) : Nat) : Int)), some (.int ((max hi' (o.idxOf (i + 1)) : Nat) : Int)), y4, some (.int (o.idxOf (i + 1) : Nat))] : List (Option V)) = [some (.ref q), some (.ref N), some (.int (lo2 : Nat)), some (.int (hi2 : Nat)), z4, z5] ∧ Same H (upd H' N (.lst (((wantOf o).take i).map wV ++ [v]))) ∧ (upd H' N (.lst (((wantOf o).take i).map wV ++ [v]))) N = some (.lst (((wantOf o).take (i + 1)).map wV)) ∧
          (∀ j, j < i + 1 + 1 → lo2 ≤ o.idxOf j) ∧ (∃ j, j < i + 1 + 1 ∧ o.idxOf j = lo2) ∧ (∀ j, j < i + 1 + 1 → o.idxOf j ≤ hi2) ∧ (∃ j, j < i + 1 + 1 ∧ o.idxOf j = hi2) := by
        intro v ev y4
        refine ⟨_, _, _, _, rfl, fun c o e => ?_, ?_, fun j hj => ?_, ?_, fun j hj => ?_, ?_⟩
        · rw [upd_ne (ne_of_none e hN)]
          exact sm _ _ e
        · rw [upd_same, ewl, List.map_append, ev]
          rfl
        · by_cases c : j < i + 1
          · have := l1 j c
            omega
          · have : j = i + 1 := by omega
            subst this
            exact Nat.min_le_right ..
        · obtain ⟨j, hj, e⟩ := l2
          by_cases c : lo ≤ o.idxOf (i + 1)
          · exact ⟨j, by omega, by rw [e]; omega⟩
          · exact ⟨i + 1, by omega, by omega⟩
        · by_cases c : j < i + 1
          · have := l3 j c
            omega
          · have : j = i + 1 := by omega
            subst this
            exact Nat.le_max_right ..
        · obtain ⟨j, hj, e⟩ := l4
          by_cases c : o.idxOf (i + 1) ≤ hi'
          · exact ⟨j, by omega, by rw [e]; omega⟩
          · exact ⟨i + 1, by omega, by omega⟩
      have W1 : (∀ j, j < i + 1 → o.idxOf (i + 1) < o.idxOf j) ↔ o.idxOf (i + 1) < lo := by
        constructor
        · intro h
          obtain ⟨j, hj, e⟩ := l2
          rw [← e]
          exact h j hj
        · intro h j hj
          exact Nat.lt_of_lt_of_le h (l1 j hj)
      have W2 : (∀ j, j < i + 1 → o.idxOf j < o.idxOf (i + 1)) ↔ hi' < o.idxOf (i + 1) := by
        constructor
        · intro h
          obtain ⟨j, hj, e⟩ := l4
          rw [← e]
          exact h j hj
        · intro h j hj
          exact Nat.lt_of_le_of_lt (l3 j hj) h
      have hwa : wantAt o (i + 1) = if o.idxOf (i + 1) < lo then some true else if hi' < o.idxOf (i + 1) then some false else none := by
        unfold wantAt
        by_cases c1 : o.idxOf (i + 1) < lo
        · rw [if_pos (W1.mpr c1), if_pos c1]
        · rw [if_neg (fun z => c1 (W1.mp z)), if_neg c1]
          by_cases c2 : hi' < o.idxOf (i + 1)
          · rw [if_pos (W2.mpr c2), if_pos c2]
          · rw [if_neg (fun z => c2 (W2.mp z)), if_neg c2]
      rw [ei]
      by_cases c1 : o.idxOf (i + 1) < lo
      · rw [if_pos c1] at hwa
        refine ⟨_, rfl, _, rfl, _, _, rfl, rfl, true, dT (by omega), iteT ?_⟩
        refine ⟨_, rfl, .inl ⟨rfl, _, SqL.of eN⟩, N, _, _, rfl, rfl, eN, sizeLine_ge (by omega), ?_⟩
        exact ⟨_, rfl, _, rfl, _, _, rfl, _, rfl, _, rfl, _, _, rfl, _, _, rfl, keep _ (by rw [hwa]; rfl) _⟩
      · rw [if_neg c1] at hwa
        refine ⟨_, rfl, _, rfl, _, _, rfl, rfl, false, dF (by omega), iteF ?_⟩
        by_cases c2 : hi' < o.idxOf (i + 1)
        · rw [if_pos c2] at hwa
          refine ⟨_, rfl, _, rfl, _, _, rfl, rfl, true, dT (by omega), iteT ?_⟩
          refine ⟨_, rfl, .inl ⟨rfl, _, SqL.of eN⟩, N, _, _, rfl, rfl, eN, sizeLine_ge (by omega), ?_⟩
          exact ⟨_, rfl, _, rfl, _, _, rfl, _, rfl, _, rfl, _, _, rfl, _, _, rfl, keep _ (by rw [hwa]; rfl) _⟩
        · rw [if_neg c2] at hwa
          refine ⟨_, rfl, _, rfl, _, _, rfl, rfl, false, dF (by omega), iteF ?_⟩
          refine ⟨_, rfl, .inl ⟨rfl, _, SqL.of eN⟩, N, _, _, rfl, rfl, eN, sizeLine_ge (by omega), ?_⟩
          exact ⟨_, rfl, _, rfl, _, _, rfl, _, rfl, _, rfl, _, _, rfl, _, _, rfl, keep _ (by rw [hwa]; rfl) _⟩
    · obtain ⟨lo, hi', y4, y5, rfl, sm, eN, _⟩ := hI
      rw [List.length_map] at eN
      refine ⟨_, rfl, ?_⟩
      refine c H' N sm hN ?_
      have : (wantOf o).take ((((o.length : Nat) : Int) - 1).toNat) = wantOf o := List.take_of_length_le (by rw [wantOf_len]; omega)
      rw [this] at eN
      exact eN
end
/-! ### the program: set_ticks -/
theorem Pl.step {R : List (Nat × Bool)} {a : Nat} {w : Option Bool} {ws : List (Option Bool)} {W : List (Option Bool)} {done : List Nat} (K : ∀ xs ok, Pl R a (w :: ws) xs ok → Pl R 0 W (done ++ xs) ok) {i x : Nat} {f : Bool} (h : R[i]? = some (x, f)) (ha : a ≤ i) (hw : some f = w) (hno : ∀ j r, a ≤ j → j < i → R[j]? = some r → some r.2 ≠ w) :
    ∀ xs ok, Pl R i ws xs ok → Pl R 0 W ((done ++ [x]) ++ xs) ok := fun xs ok p => by
  have z := K (x :: xs) ok (.cons h ha hw hno p)
  rw [List.append_assoc]
  exact z
theorem Pl.uniq {R : List (Nat × Bool)} {a : Nat} {ws : List (Option Bool)} {xs : List Nat} {ok : Bool} (h : Pl R a ws xs ok) : ∀ {xs' : List Nat} {ok' : Bool}, Pl R a ws xs' ok' → xs = xs' ∧ ok = ok' := by
  induction h with
  | nil =>
    intro xs' ok' h'
    cases h'
    exact ⟨rfl, rfl⟩
  | @cons a i x f w ws xs ok h ha hw hno t ih =>
    intro xs' ok' h'
    cases h' with
    | @cons _ i' x' f' _ _ xs' _ h1 ha1 hw1 hno1 t1 =>
      have e : i = i' := by
        rcases Nat.lt_trichotomy i i' with c | c | c
        · exact absurd hw (hno1 i _ ha c h)
        · exact c
        · exact absurd hw1 (hno i' _ ha1 c h1)
      subst e
      rw [h] at h1
      cases h1
      obtain ⟨e1, e2⟩ := ih t1
      exact ⟨by rw [e1], e2⟩
    | stop h1 => exact absurd hw (h1 i _ ha h)
  | @stop a w ws h =>
    intro xs' ok' h'
    cases h' with
    | cons h1 ha1 hw1 hno1 t1 => exact absurd hw1 (h _ _ ha1 h1)
    | stop h1 => exact ⟨rfl, rfl⟩
/-- what is told -/
def ToldAt (H : Hp) (p : Addr) (n : Nat) (xs : List Nat) : Bool → Prop
  | true => ∃ L, H p = some (.tup [.str "ticks", .ref L]) ∧ H L = some (.lst ((n :: xs).map fun x => V.int (x : Nat)))
  | false => H p = some (.tup [.str "never", .int ((xs.length + 1 : Nat) : Int)])
section
variable {P : Program} {w : World} {K : PySem.W.Frag} {mg : Str → Option Value} {base : Heap}
def spSetTicks (K : PySem.W.Frag) : Sp := fun vs H Q _ => ∃ (b n d : Nat) (q O : Addr) (ws : List Bool) (o : List Nat), vs = [.int (b : Nat), .ref q, .int (n : Nat), .int (d : Nat), .ref O] ∧ 2 ≤ b ∧ b ≤ 64 ∧ n < d ∧ d < 2 ^ 250 ∧ SqL K H q (ws.map lvV) ∧ ws ≠ [] ∧ ws.length ≤ 60 ∧
  SqL K H O (o.map fun x => V.int (x : Nat)) ∧ IsOrd o ∧ o ≠ [] ∧ o.length ≤ 60 ∧ ∀ k, IsLev b n d k → ∀ xs ok, Pl (tsOf ws (rowsOf b n d k)) 0 (wantOf o) xs ok → ∀ H' p, Same H H' → H p = none → ToldAt H' p n xs ok → (∀ L, H' p = some (.tup [.str "ticks", .ref L]) → H L = none) → Q (.ref p) H'
theorem ok_set_ticks {f : Addr} {fd : FuncData} (F : Fun K "set_ticks" "set_ticks" s_set_ticks f fd) (T : Tx K mg) (h1 : Has P w K mg base 3 "check_base" ["base"] [] spCheckBase)
    (h2 : Has P w K mg base 3 "check_tick" ["tick", "least"] [.int 0] spCheckTick) (h3 : Has P w K mg base 3 "check_tick" ["tick", "least"] [] spCheckTick) (h4 : Has P w K mg base 4 "check_levels" ["levels"] [] (spCheckLevels K))
    (h5 : Has P w K mg base 2 "check_order" ["order"] [] (spCheckOrder K)) (h6 : Has P w K mg base 3 "ticks_and_sides" ["base", "levels", "start", "due"] [] (spTicksSides K)) (h7 : Has P w K mg base 1 "sides_wanted" ["order"] [] (spSidesWanted K)) :
    FnOk P w K mg base CX0 5 f fd ["base", "levels", "start", "due", "order"] (spSetTicks K) := by
  obtain ⟨f_check_base, fd_check_base, ds_check_base, G_check_base, m_check_base, k_check_base, b_check_base, v_check_base⟩ := h1
  obtain ⟨f_check_tick1, fd_check_tick1, ds_check_tick1, G_check_tick1, m_check_tick1, k_check_tick1, b_check_tick1, v_check_tick1⟩ := h2
  obtain ⟨f_check_tick, fd_check_tick, ds_check_tick, G_check_tick, m_check_tick, k_check_tick, b_check_tick, v_check_tick⟩ := h3
  obtain ⟨f_check_levels, fd_check_levels, ds_check_levels, G_check_levels, m_check_levels, k_check_levels, b_check_levels, v_check_levels⟩ := h4
  obtain ⟨f_check_order, fd_check_order, ds_check_order, G_check_order, m_check_order, k_check_order, b_check_order, v_check_order⟩ := h5
  obtain ⟨f_ticks_and_sides, fd_ticks_and_sides, ds_ticks_and_sides, G_ticks_and_sides, m_ticks_and_sides, k_ticks_and_sides, b_ticks_and_sides, v_ticks_and_sides⟩ := h6
  obtain ⟨f_sides_wanted, fd_sides_wanted, ds_sides_wanted, G_sides_wanted, m_sides_wanted, k_sides_wanted, b_sides_wanted, v_sides_wanted⟩ := h7
  refine F.ok sc_set_ticks (fun vs H Q E h => ?_) (fun cdv A outer s H vs Q E hr h => ?_)
  · obtain ⟨b, n, d, q, O, ws, o, rfl, _⟩ := h
    rfl
  · obtain ⟨b, n, d, q, O, ws, o, rfl, hb, hb64, hnd, hd, hL, hne, h60, hO, ho, hone, ho60, c⟩ := h
    refine ⟨_, (pss_cons (ps_expr (pe_call G_check_base (hr.mono (by decide)) (by rfl) m_check_base k_check_base b_check_base v_check_base pass0 (pa_cons (pv 0) pa_nil)))
      (pss_cons (ps_expr (pe_call G_check_levels hr (by rfl) m_check_levels k_check_levels b_check_levels v_check_levels pass0 (pa_cons (pv 1) pa_nil)))
      (pss_cons (ps_expr (pe_call G_check_tick1 (hr.mono (by decide)) (by rfl) m_check_tick1 k_check_tick1 b_check_tick1 v_check_tick1 pass0 (pa_cons (pv 2) pa_nil)))
      (pss_cons (ps_expr (pe_call G_check_tick (hr.mono (by decide)) (by rfl) m_check_tick k_check_tick b_check_tick v_check_tick pass0 (pa_cons (pv 3) (pa_cons (pe_op op_addN (pv 2) pe_int) pa_nil))))
      (pss_cons (ps_expr (pe_call G_check_order (hr.mono (by decide)) (by rfl) m_check_order k_check_order b_check_order v_check_order pass0 (pa_cons (pv 4) pa_nil)))
      (pss_cons (ps_set (i := 5) sc_set_ticks.nd rfl (.inl rfl) (pe_call G_ticks_and_sides (hr.mono (by decide)) (by rfl) m_ticks_and_sides k_ticks_and_sides b_ticks_and_sides v_ticks_and_sides pass0 (pa_cons (pv 0) (pa_cons (pv 1) (pa_cons (pv 2) (pa_cons (pv 3) pa_nil))))))
      (pss_cons (ps_set (i := 6) sc_set_ticks.nd rfl (.inl rfl) (pe_lst (pa_cons (pv 2) pa_nil)))
      (pss_cons (ps_set (i := 7) sc_set_ticks.nd rfl (.inl rfl) pe_int)
      (pss_cons (ps_for PassesOwn.never rfl (pi_list (pe_call G_sides_wanted (hr.mono (by decide)) (by rfl) m_sides_wanted k_sides_wanted b_sides_wanted v_sides_wanted pass0 (pa_cons (pv 4) pa_nil))) (pg_name (i := 8) sc_set_ticks.nd rfl (.inl rfl))
        (pss_cons (ps_while PassesOwn.never (PW.pt (pw_and (pt_cmpR op_lt (pv 7) (pe_callB (lenK (K := K) rfl) (by rfl) T.b_len PySem.boot_len (pa_cons (pv 5) pa_nil)) (nomark _)) (pw_and1 (pt_cmpR op_ne (pe_ix (ix_tupK (K := K) rfl) (pe_ix (ix_listK (K := K) rfl) (pv 5) (pv 7) (fun _ _ => rfl)) pe_int (fun _ _ => rfl)) (pv 8) (nomark _)))))
          (pss_one (ps_aug (i := 7) sc_set_ticks.nd rfl (.inl rfl) pe_int ip_add)))
        (pss_cons (ps_if (pt_cmpR op_eq (pv 7) (pe_callB (lenK (K := K) rfl) (by rfl) T.b_len PySem.boot_len (pa_cons (pv 5) pa_nil)) (nomark _))
          (pss_one (ps_ret (pe_tup (pa_cons pe_str (pa_cons (pe_callB (lenK (K := K) rfl) (by rfl) T.b_len PySem.boot_len (pa_cons (pv 6) pa_nil)) pa_nil)))))
          pss_nil)
        (pss_one (ps_expr (pe_bm PySem.F.plainAttrs_list PySem.F.slot_list_append PySem.F.type_list_append mt_append (pv 6) (pa_cons (pe_ix (ix_tupK (K := K) rfl) (pe_ix (ix_listK (K := K) rfl) (pv 5) (pv 7) (fun _ _ => rfl)) pe_int (fun _ _ => rfl)) pa_nil)))))))
      (pss_one (ps_ret (pe_tup (pa_cons pe_str (pa_cons (pv 6) pa_nil)))))))))))))), ?_⟩
    refine ⟨_, rfl, b, rfl, by omega, by omega, ?_⟩
    refine ⟨_, rfl, q, ws, rfl, hL, hne, h60, fun H1 s1 => ?_⟩
    refine ⟨_, rfl, n, 0, rfl, by omega, ?_⟩
    refine ⟨_, rfl, _, rfl, n, 1, rfl, rfl, trivial, d, _, rfl, by show ((n + 1 : Nat) : Int) ≤ _; omega, ?_⟩
    refine ⟨_, rfl, O, o, rfl, s1.seq hO, ho, hone, ho60, fun H2 s2 => ?_⟩
    have s2 := s1.trans s2
    obtain ⟨k, hk⟩ := lev_exists hb hnd
    refine ⟨_, rfl, _, rfl, _, rfl, _, rfl, b, n, d, q, ws, rfl, hb, hb64, hnd, hd, s2.seq hL, hne, fun k' hk' H3 R ts s3 hR0 eR TS => ?_⟩
    have ek := hk'.uniq hk
    subst ek
    have s3' := s2.trans s3
    have c := c k' hk
    have hlenR : (tsOf ws (rowsOf b n d k')).length ≤ 252 := by
      rw [ts_len]
      have a2 := lev_small hk hb hnd hd
      have a3 := tail_len b d k'
      show (tailOf b d k').length + 1 ≤ 252
      omega
    have hpos : 0 < (tsOf ws (rowsOf b n d k')).length := by
      rw [ts_len]
      exact Nat.succ_pos _
    generalize tsOf ws (rowsOf b n d k') = RS at TS c hlenR hpos
    have hts := TS.1
    refine ⟨_, rfl, by simp [sizeLine_eq], fun L hL0 => ?_⟩
    have u4 := same_upd (o := .lst [.int (n : Nat)]) hL0
    have eL := upd_same (H := H3) (a := L) (o := .lst [.int (n : Nat)])
    have s4 := s3'.trans u4
    have eR4 := u4 _ _ eR
    have TS4 := TS.same u4
    have hLH : H L = none := s3'.free hL0
    have nLR : L ≠ R := fun z => by
      rw [z, eR] at hL0
      cases hL0
    generalize upd H3 L (.lst [.int (n : Nat)]) = H4 at u4 eL s4 eR4 TS4 ⊢
    refine ⟨_, rfl, O, o, rfl, s4.seq hO, ho, hone, ho60, fun H5 N s5 hN0 eN => ?_⟩
    have hlw : (wantOf o).length ≤ 60 := by
      rw [wantOf_len]
      omega
    have nNL : N ≠ L := fun z => by
      rw [z, eL] at hN0
      cases hN0
    refine ⟨N, rfl, ⟨_, SqL.of eN⟩, for_list (K := K) (a := N) (xs := (wantOf o).map wV) (fun i σ H' => ∃ (a : Nat) (done : List Nat) (y8 : Option V), σ = [some (.int (b : Nat)), some (.ref q), some (.int (n : Nat)), some (.int (d : Nat)), some (.ref O), some (.ref R), some (.ref L), some (.int (a : Nat)), y8] ∧
        Same H H' ∧ H' R = some (.lst (ts.map V.ref)) ∧ TsAt H' ts RS ∧ H' L = some (.lst ((n :: done).map fun x => V.int (x : Nat))) ∧ H' N = some (.lst ((wantOf o).map wV)) ∧ a < RS.length ∧ done.length ≤ i ∧ ∀ xs ok, Pl RS a ((wantOf o).drop i) xs ok → Pl RS 0 (wantOf o) (done ++ xs) ok)
      ⟨0, [], none, rfl, s4.trans s5, s5 _ _ eR4, TS4.same s5, s5 _ _ eL, eN, hpos, Nat.le_refl _, fun xs ok h => h⟩ (fun i σ H' _ ⟨_, _, _, _, _, _, _, _, e, _⟩ => SqL.of e) ?_ ?_⟩
    · rintro i x σ H' hx ⟨a, done, y8, rfl, sm, eR, TS, eL, eN, ha, hdl, KP⟩
      have hi : i < ((wantOf o).map wV).length := (List.getElem?_eq_some_iff.mp hx).1
      rw [List.length_map] at hi
      rw [List.getElem?_map] at hx
      obtain ⟨wi, hwi⟩ : ∃ wi, (wantOf o)[i]? = some wi := ⟨_, List.getElem?_eq_getElem hi⟩
      rw [hwi] at hx
      have hx := Option.some.inj hx
      subst hx
      have ed : (wantOf o).drop i = wi :: (wantOf o).drop (i + 1) := by
        rw [List.drop_eq_getElem_cons hi]
        congr 1
        exact (List.getElem?_eq_some_iff.mp hwi).2
      rw [ed] at KP
      refine while_by (fun σ H'' => ∃ at_ : Nat, σ = [some (.int (b : Nat)), some (.ref q), some (.int (n : Nat)), some (.int (d : Nat)), some (.ref O), some (.ref R), some (.ref L), some (.int (at_ : Nat)), some (wV wi)] ∧ H'' = H' ∧ a ≤ at_ ∧ at_ ≤ RS.length ∧ ∀ j r, a ≤ j → j < at_ → RS[j]? = some r → some r.2 ≠ wi)
        (fun σ _ => RS.length - slotInt σ 7) ⟨a, rfl, rfl, Nat.le_refl _, Nat.le_of_lt ha, fun j r h1 h2 => by omega⟩ ?_ ?_
      · rintro σ H'' ⟨at_, rfl, rfl, h1, h2, hno⟩
        by_cases c1 : at_ < RS.length
        · refine ⟨_, rfl, _, rfl, R, _, rfl, .inl (SqL.of eR), _, _, rfl, rfl, true, dT (by rw [List.length_map, hts]; omega), iteT ?_⟩
          have hat : at_ < ts.length := by omega
          obtain ⟨t, ht⟩ : ∃ t, ts[at_]? = some t := ⟨_, List.getElem?_eq_getElem hat⟩
          obtain ⟨r, hr⟩ : ∃ r, RS[at_]? = some r := ⟨_, List.getElem?_eq_getElem c1⟩
          have et := TS.2 at_ t r ht hr
          have g1 : (ts.map V.ref)[at_]? = some (.ref t) := by
            rw [List.getElem?_map, ht]
            rfl
          refine ⟨_, rfl, _, rfl, R, _, _, _, rfl, rfl, SqL.of eR, atI_nat g1, t, _, 1, _, rfl, rfl, SqT.of et, atI_nat (j := 1) rfl, _, rfl, ?_, ?_⟩
          · cases wi <;> rfl
          by_cases c2 : some r.2 = wi
          · refine ⟨false, ?_, iteF ?_⟩
            · rw [← c2]
              exact nF rfl
            refine ⟨_, rfl, _, rfl, R, _, rfl, .inl (SqL.of eR), rfl, false, dF (vN ?_), iteF ?_⟩
            · rw [List.length_map, hts]
              omega
            refine ⟨_, rfl, .inl ⟨rfl, _, SqL.of eL⟩, _, rfl, _, rfl, R, _, _, _, rfl, rfl, SqL.of eR, atI_nat g1, t, _, 0, _, rfl, rfl, SqT.of et, atI_nat (j := 0) rfl, L, _, _, rfl, rfl, eL, ?_, ?_⟩
            · rw [List.length_map, List.length_cons]
              exact sizeLine_ge (by omega)
            refine ⟨at_, done ++ [r.1], _, rfl, fun c o e => ?_, ?_, TS.upd eL, ?_, ?_, c1, ?_, Pl.step KP hr h1 c2 hno⟩
            · rw [upd_ne (ne_of_none e hLH)]
              exact sm _ _ e
            · rw [upd_ne (Ne.symm nLR)]
              exact eR
            · rw [upd_same, ← List.cons_append, List.map_append]
              rfl
            · rw [upd_ne nNL]
              exact eN
            · rw [List.length_append, List.length_singleton]
              omega
          · refine ⟨true, ?_, iteT ⟨_, rfl, _, _, rfl, rfl, ⟨at_ + 1, rfl, rfl, by omega, c1, fun j r' h3 h4 h5 => ?_⟩, ?_⟩⟩
            · refine nT fun z => c2 ?_
              cases wi with
              | none => cases z
              | some v =>
                have : V.bl r.2 = V.bl v := z
                cases this
                rfl
            · by_cases e : j = at_
              · subst e
                rw [hr] at h5
                cases h5
                exact c2
              · exact hno j r' h3 (by omega) h5
            · show RS.length - (((at_ + 1 : Nat) : Int)).toNat < RS.length - ((at_ : Nat) : Int).toNat
              omega
        · have e : at_ = RS.length := by omega
          refine ⟨_, rfl, _, rfl, R, _, rfl, .inl (SqL.of eR), _, _, rfl, rfl, false, dF (by rw [List.length_map, hts]; omega), iteF (iteF ?_)⟩
          refine ⟨_, rfl, _, rfl, R, _, rfl, .inl (SqL.of eR), rfl, true, dT (vE ?_), iteT ?_⟩
          · rw [List.length_map, hts]
            exact e
          refine ⟨_, rfl, L, _, rfl, .inl (SqL.of eL), by simp [sizeLine_eq], fun p hp => ?_⟩
          have u6 := same_upd (o := .tup [.str "never", .int ((((n :: done).map fun x => V.int (x : Nat)).length : Nat) : Int)]) hp
          have e6 := upd_same (H := H'') (a := p) (o := .tup [.str "never", .int ((((n :: done).map fun x => V.int (x : Nat)).length : Nat) : Int)])
          have P0 := KP [] false (.stop fun j r h3 h4 => hno j r h3 (by have := (List.getElem?_eq_some_iff.mp h4).1; omega) h4)
          rw [List.append_nil] at P0
          refine c done false P0 _ p (sm.trans u6) (sm.free hp) ?_ fun L' hL' => ?_
          · show _ = some (HO.tup [.str "never", .int ((done.length + 1 : Nat) : Int)])
            rw [e6, List.length_map]
            rfl
          · rw [e6] at hL'
            cases hL'
      · rintro σ H' Q1 Q2 h ⟨x, hx, x2, hx2, R', xs', e1, e2, i, j, e3, e4, k, e, z⟩
        refine ⟨x, hx, x2, hx2, R', xs', e1, e2, i, j, e3, e4, k, e, ?_⟩
        cases k with
        | false => exact iteF (h _ _ (by rw [if_neg Bool.false_ne_true] at z; exact z))
        | true =>
          rw [if_pos rfl] at z
          refine iteT ?_
          obtain ⟨a1, b1, a2, b2, q1, l1, i1, v1, e5, e6, hs1, g1, q2, l2, i2, v2, e7, e8, hs2, g2, y1, hy1, hsc, k', ek, zz⟩ := z
          exact ⟨a1, b1, a2, b2, q1, l1, i1, v1, e5, e6, hs1, g1, q2, l2, i2, v2, e7, e8, hs2, g2, y1, hy1, hsc, k', ek, h _ _ zz⟩
    · rintro σ H' ⟨a, done, y8, rfl, sm, eR, TS, eL, eN, ha, hdl, KP⟩
      rw [List.length_map, List.drop_length] at KP
      refine ⟨_, rfl, by simp [sizeLine_eq], fun p hp => ?_⟩
      have u6 := same_upd (o := .tup [.str "ticks", .ref L]) hp
      have e6 := upd_same (H := H') (a := p) (o := .tup [.str "ticks", .ref L])
      have P0 := KP [] true .nil
      rw [List.append_nil] at P0
      refine c done true P0 _ p (sm.trans u6) (sm.free hp) ⟨L, e6, u6 _ _ eL⟩ fun L' hL' => ?_
      rw [e6] at hL'
      cases hL'
      exact hLH
end
/-! ### the law's levels -/
section
variable {P : Program} {w : World} {K : PySem.W.Frag} {mg : Str → Option Value} {base : Heap}
def spLawLevel : Sp := fun vs H Q _ => ∃ b n d : Nat, vs = [.int (b : Nat), .int (n : Nat), .int (d : Nat)] ∧ 2 ≤ b ∧ b ≤ 64 ∧ n < d ∧ d < 2 ^ 250 ∧ ∀ k, IsLev b n d k → Q (.int (k : Nat)) H
theorem ok_law_level {f : Addr} {fd : FuncData} (F : Fun K "_law_level" "_law_level" s__law_level f fd) : FnOk P w K mg base CX0 1 f fd ["_law_base", "_law_now", "_law_due_here"] spLawLevel := by
  refine F.ok sc__law_level (fun vs H Q E h => ?_) (fun cdv A outer s H vs Q E hr h => ?_)
  · obtain ⟨b, n, d, rfl, _⟩ := h
    rfl
  · obtain ⟨b, n, d, rfl, hb, hb64, hnd, hd, c⟩ := h
    have cb : ∀ x : Nat, NDiv x b := fun x => ndiv 7 (by omega) (by omega)
    have hb0 : 0 < b := by omega
    refine ⟨_, (pss_cons (ps_set (i := 3) sc__law_level.nd rfl (.inl rfl) pe_int)
      (pss_cons (ps_set (i := 4) sc__law_level.nd rfl (.inl rfl) pe_int)
      (pss_cons (ps_while PassesOwn.never (pt_cmpR op_ne (pv 1) (pv 2) (nomark _))
        (pss_cons (ps_if (pt_cmpR op_ne (pe_op op_remN (pv 1) (pv 0)) (pe_op op_remN (pv 2) (pv 0)) (nomark _))
          (pss_one (ps_set (i := 3) sc__law_level.nd rfl (.inl rfl) (pv 4)))
          pss_nil)
        (pss_cons (ps_set (i := 1) sc__law_level.nd rfl (.inl rfl) (pe_op op_divN (pv 1) (pv 0)))
        (pss_cons (ps_set (i := 2) sc__law_level.nd rfl (.inl rfl) (pe_op op_divN (pv 2) (pv 0)))
        (pss_one (ps_set (i := 4) sc__law_level.nd rfl (.inl rfl) (pe_op op_addN (pv 4) pe_int)))))))
      (pss_one (ps_ret (pv 3)))))), ?_⟩
    refine while_by (fun σ H' => ∃ j g : Nat, σ = [some (.int (b : Nat)), some (.int ((n / b ^ j : Nat) : Int)), some (.int ((d / b ^ j : Nat) : Int)), some (.int (g : Nat)), some (.int (j : Nat))] ∧ H' = H ∧ (∀ i, i < j → n / b ^ i ≠ d / b ^ i) ∧ ∀ i, j = i + 1 → n / b ^ j = d / b ^ j → g = i)
      (fun σ _ => slotInt σ 2) ⟨0, 0, ?_, rfl, fun j hj => absurd hj (Nat.not_lt_zero j), fun i e => by omega⟩ ?_ ?_
    · rw [Nat.pow_zero, Nat.div_one, Nat.div_one]
      rfl
    · rintro σ H' ⟨j, g, rfl, rfl, hj, hg⟩
      by_cases he : n / b ^ j = d / b ^ j
      · refine ⟨_, rfl, _, rfl, rfl, false, nF (vE he), iteF ?_⟩
        have hk0 : j ≠ 0 := fun z => by
          rw [z, Nat.pow_zero, Nat.div_one, Nat.div_one] at he
          omega
        obtain ⟨i, rfl⟩ : ∃ i, j = i + 1 := ⟨j - 1, by omega⟩
        have z := c i ⟨he, fun x hx => hj (x + 1) (by omega)⟩
        rw [← hg i rfl he] at z
        exact ⟨_, rfl, z⟩
      · have h2 : n / b ^ j ≤ d / b ^ j := Nat.div_le_div_right (Nat.le_of_lt hnd)
        have hpos : 0 < d / b ^ j := pos_of h2 he
        have hlt : d / b ^ j / b < d / b ^ j := Nat.div_lt_self hpos (by omega)
        refine ⟨_, rfl, _, rfl, rfl, true, nT (vN he), iteT ?_⟩
        have less : (((d / b ^ j / b : Nat) : Int)).toNat < (((d / b ^ j : Nat) : Int)).toNat := by
          rw [Int.toNat_natCast, Int.toNat_natCast]
          exact hlt
        have fin : ∀ g' : Nat, (n / b ^ j / b = d / b ^ j / b → g' = j) → ∃ j' g2 : Nat, ([some (.int (b : Nat)), some (.int ((n / b ^ j / b : Nat) : Int)), some (.int ((d / b ^ j / b : Nat) : Int)), some (.int (g' : Nat)), some (.int ((j + 1 : Nat) : Int))] : L2.St) = [some (.int (b : Nat)), some (.int ((n / b ^ j' : Nat) : Int)), some (.int ((d / b ^ j' : Nat) : Int)), some (.int (g2 : Nat)), some (.int (j' : Nat))] ∧ H' = H' ∧ (∀ i, i < j' → n / b ^ i ≠ d / b ^ i) ∧ ∀ i, j' = i + 1 → n / b ^ j' = d / b ^ j' → g2 = i := by
          intro g' hg'
          refine ⟨j + 1, g', ?_, rfl, fun i hi => ?_, fun i e z => ?_⟩
          · rw [div_succ, div_succ]
          · by_cases e : i = j
            · rw [e]
              exact he
            · exact hj i (by omega)
          · have e2 : j = i := by omega
            rw [div_succ, div_succ] at z
            rw [hg' z, e2]
        by_cases h0 : n / b ^ j % b = d / b ^ j % b
        · refine ⟨_, rfl, _, rfl, n / b ^ j, b, rfl, rfl, hb0, _, rfl, _, rfl, d / b ^ j, b, rfl, rfl, hb0, rfl, false, nF (vE h0), iteF ?_⟩
          refine ⟨_, rfl, _, rfl, n / b ^ j, b, rfl, rfl, cb _, _, rfl, _, rfl, d / b ^ j, b, rfl, rfl, cb _, _, rfl, j, 1, rfl, rfl, trivial, ⟨fin g fun z => ?_, less⟩⟩
          have e1 := Nat.div_add_mod (n / b ^ j) b
          have e2 := Nat.div_add_mod (d / b ^ j) b
          rw [z, h0] at e1
          exact absurd (e1.symm.trans e2) he
        · refine ⟨_, rfl, _, rfl, n / b ^ j, b, rfl, rfl, hb0, _, rfl, _, rfl, d / b ^ j, b, rfl, rfl, hb0, rfl, true, nT (vN h0), iteT ⟨_, rfl, ?_⟩⟩
          exact ⟨_, rfl, _, rfl, n / b ^ j, b, rfl, rfl, cb _, _, rfl, _, rfl, d / b ^ j, b, rfl, rfl, cb _, _, rfl, j, 1, rfl, rfl, trivial, ⟨fin j fun _ => rfl, less⟩⟩
    · rintro σ H' Q1 Q2 h ⟨x, hx, y, hy, hs, k, e, z⟩
      exact ⟨x, hx, y, hy, hs, k, e, h _ _ z⟩
end
/-! ### the law's digits and zeros -/
theorem zer_low {b e : Nat} (hb : 2 ≤ b) : ∀ j, (∀ i, i < j → e / b ^ i % b = 0) → e % b ^ j = 0
  | 0, _ => by rw [Nat.pow_zero, Nat.mod_one]
  | j + 1, h => by
    have ih := zer_low hb j fun i hi => h i (by omega)
    have h1 := h j (Nat.lt_succ_self j)
    have e1 := cut_step b e j
    rw [h1, Nat.zero_mul, Nat.add_zero] at e1
    have e2 : e / b ^ j * b ^ j = e := Nat.div_mul_cancel (Nat.dvd_of_mod_eq_zero ih)
    rw [e2] at e1
    rw [e1]
    exact Nat.mul_mod_left _ _
theorem zer_small {b e h t : Nat} (hb : 2 ≤ b) (z : IsZer b e h) (he : e < 2 ^ t) : h < t := by
  have h0 : 0 < e / b ^ h := by
    refine Nat.pos_of_ne_zero fun c => z.dig ?_
    rw [c, Nat.zero_mod]
  have h1 : b ^ h ≤ e := (Nat.div_pos_iff.mp h0).2
  exact (Nat.pow_lt_pow_iff_right (by decide : 1 < 2)).mp (Nat.lt_of_le_of_lt (Nat.le_trans (pow_two_le hb h) h1) he)
section
variable {P : Program} {w : World} {K : PySem.W.Frag} {mg : Str → Option Value} {base : Heap}
def spDigit : Sp := fun vs H Q _ => ∃ b t k : Nat, vs = [.int (b : Nat), .int (t : Nat), .int (k : Nat)] ∧ 2 ≤ b ∧ b ≤ 64 ∧ k ≤ 1000 ∧ Q (.int ((t / b ^ k % b : Nat) : Int)) H
theorem ok_law_digit {f : Addr} {fd : FuncData} (F : Fun K "_law_digit" "_law_digit" s__law_digit f fd) (T : Tx K mg) : FnOk P w K mg base CX0 1 f fd ["_law_base", "_law_tick", "_law_level_here"] spDigit := by
  refine F.ok sc__law_digit (fun vs H Q E h => ?_) (fun cdv A outer s H vs Q E hr h => ?_)
  · obtain ⟨b, t, k, rfl, _⟩ := h
    rfl
  · obtain ⟨b, t, k, rfl, hb, hb64, hk, q⟩ := h
    have cb : ∀ x : Nat, NDiv x b := fun x => ndiv 7 (by omega) (by omega)
    refine ⟨_, (pss_cons (ps_for PassesOwn.never rfl (pi_range1 (by rfl) T.b_range (pa_cons (pv 2) pa_nil)) (pg_name (i := 3) sc__law_digit.nd rfl (.inl rfl))
        (pss_one (ps_set (i := 1) sc__law_digit.nd rfl (.inl rfl) (pe_op op_divN (pv 1) (pv 0)))))
      (pss_one (ps_ret (pe_op op_remN (pv 1) (pv 0))))), ?_⟩
    refine ⟨_, rfl, _, rfl, by omega, by omega, for_range (Pv := fun i σ H' => H' = H ∧ ∃ y, σ = [some (.int (b : Nat)), some (.int ((t / b ^ i : Nat) : Int)), some (.int (k : Nat)), y]) ⟨rfl, none, ?_⟩ ?_ ?_⟩
    · rw [Nat.pow_zero, Nat.div_one]
      rfl
    · rintro i σ H' hi ⟨rfl, y, rfl⟩
      refine ⟨_, rfl, _, rfl, _, _, rfl, rfl, cb _, rfl, some (.int (0 + (i : Int))), ?_⟩
      rw [div_succ]
      rfl
    · rintro σ H' ⟨rfl, y, rfl⟩
      exact ⟨_, rfl, _, rfl, t / b ^ k, b, rfl, rfl, (by show 0 < b; omega), q⟩
def spZeros : Sp := fun vs H Q _ => ∃ b t : Nat, vs = [.int (b : Nat), .int (t : Nat)] ∧ 2 ≤ b ∧ b ≤ 64 ∧ 0 < t ∧ ∀ h, IsZer b t h → Q (.int (h : Nat)) H
theorem ok_law_zeros {f : Addr} {fd : FuncData} (F : Fun K "_law_zeros" "_law_zeros" s__law_zeros f fd) : FnOk P w K mg base CX0 1 f fd ["_law_base", "_law_tick"] spZeros := by
  refine F.ok sc__law_zeros (fun vs H Q E h => ?_) (fun cdv A outer s H vs Q E hr h => ?_)
  · obtain ⟨b, t, rfl, _⟩ := h
    rfl
  · obtain ⟨b, t, rfl, hb, hb64, ht, c⟩ := h
    have hb0 : 0 < b := by omega
    have cb : ∀ x : Nat, NDiv x b := fun x => ndiv 7 (by omega) (by omega)
    refine ⟨_, (pss_cons (ps_set (i := 2) sc__law_zeros.nd rfl (.inl rfl) pe_int)
      (pss_cons (ps_while PassesOwn.never (pt_cmpR op_eq (pe_op op_remN (pv 1) (pv 0)) pe_int (nomark _))
        (pss_cons (ps_set (i := 1) sc__law_zeros.nd rfl (.inl rfl) (pe_op op_divN (pv 1) (pv 0)))
        (pss_one (ps_set (i := 2) sc__law_zeros.nd rfl (.inl rfl) (pe_op op_addN (pv 2) pe_int)))))
      (pss_one (ps_ret (pv 2))))), ?_⟩
    refine while_by (fun σ H' => ∃ j : Nat, σ = [some (.int (b : Nat)), some (.int ((t / b ^ j : Nat) : Int)), some (.int (j : Nat))] ∧ H' = H ∧ 0 < t / b ^ j ∧ ∀ i, i < j → t / b ^ i % b = 0) (fun σ _ => slotInt σ 1) ⟨0, ?_, rfl, ?_, fun i hi => absurd hi (Nat.not_lt_zero i)⟩ ?_ ?_
    · rw [Nat.pow_zero, Nat.div_one]
      rfl
    · rw [Nat.pow_zero, Nat.div_one]
      exact ht
    · rintro σ H' ⟨j, rfl, rfl, hj, hz⟩
      by_cases h0 : t / b ^ j % b = 0
      · have hlt : t / b ^ j / b < t / b ^ j := Nat.div_lt_self hj (by omega)
        refine ⟨_, rfl, _, rfl, t / b ^ j, b, rfl, rfl, hb0, rfl, true, dT (vE h0), iteT ?_⟩
        refine ⟨_, rfl, _, rfl, t / b ^ j, b, rfl, rfl, cb _, _, rfl, j, 1, rfl, rfl, trivial, ⟨j + 1, ?_, rfl, ?_, fun i hi => ?_⟩, ?_⟩
        · rw [div_succ]
          rfl
        · rw [div_succ]
          have e := Nat.div_add_mod (t / b ^ j) b
          refine Nat.pos_of_ne_zero fun z => ?_
          rw [z, h0, Nat.mul_zero] at e
          omega
        · by_cases e : i = j
          · rw [e]
            exact h0
          · exact hz i (by omega)
        · show (((t / b ^ j / b : Nat) : Int)).toNat < (((t / b ^ j : Nat) : Int)).toNat
          rw [Int.toNat_natCast, Int.toNat_natCast]
          exact hlt
      · refine ⟨_, rfl, _, rfl, t / b ^ j, b, rfl, rfl, hb0, rfl, false, dF (vN h0), iteF ?_⟩
        exact ⟨_, rfl, c j ⟨zer_low hb j hz, h0⟩⟩
    · rintro σ H' Q1 Q2 h ⟨x, hx, y, hy, a1, a2, e1, e2, e3, hs, k, e, z⟩
      exact ⟨x, hx, y, hy, a1, a2, e1, e2, e3, hs, k, e, h _ _ z⟩
end
/-! ### the law puts a timer into its list -/
theorem set_both {k : List Key} {kvs : List (List Key × V)} {el : Addr} {H H' : Hp} {Q : V → Hp → Prop} (I : Addr → Hp → Prop) (h : ∀ p H, I p H → Q (.ref p) H) (c1 : ∀ v, valV kvs k = some v → ∃ p, v = .ref p ∧ I p H) (c2 : valV kvs k = none → I el H') :
    (∀ v, valV kvs k = some v → Q v H) ∧ (valV kvs k = none → Q (.ref el) H') := ⟨fun v hv => by
  obtain ⟨p, e, i⟩ := c1 v hv
  rw [e]
  exact h p H i, fun hn => h _ _ (c2 hn)⟩
theorem valV_app {k : List Key} {v : V} : ∀ {kvs : List (List Key × V)}, valV kvs k = none → valV (kvs ++ [(k, v)]) k = some v
  | [], _ => valV_pos rfl
  | kv :: kvs, h => by
    by_cases e : kv.1 = k
    · rw [valV_pos e] at h
      cases h
    · rw [valV_neg e] at h
      show valV (kv :: (kvs ++ [(k, v)])) k = some v
      rw [valV_neg e]
      exact valV_app h
section
variable {P : Program} {w : World} {K : PySem.W.Frag} {mg : Str → Option Value} {base : Heap}
def spPlace (K : PySem.W.Frag) : Sp := fun vs H Q _ => ∃ (a q t : Addr) (b n : Nat) (ws : List Bool) (m : Tm) (cs : List LCell) (ps : List Addr), vs = [.ref a, .int (b : Nat), .ref q, .int (n : Nat), .ref t] ∧ 2 ≤ b ∧ b ≤ 64 ∧ SqL K H q (ws.map lvV) ∧ ws ≠ [] ∧
  H t = some (.tup (lrowV m)) ∧ n < m.due ∧ m.due < 2 ^ 250 ∧ LW H a cs ps ∧ cs.length ≤ 100000 ∧ (gv cs (placeT b n m.due)).length ≤ 100000 ∧
  ∀ H' ps', Lk a ps H H' ps' → LW H' a (lplace b ws n cs m) ps' → Q .non H'
theorem ok_law_place {f : Addr} {fd : FuncData} (F : Fun K "_law_place" "_law_place" s__law_place f fd) (T : Tx K mg) (h1 : Has P w K mg base 1 "_law_level" ["_law_base", "_law_now", "_law_due_here"] [] spLawLevel)
    (h2 : Has P w K mg base 1 "_law_digit" ["_law_base", "_law_tick", "_law_level_here"] [] spDigit) : FnOk P w K mg base CX0 2 f fd ["_law_lists_here", "_law_base", "_law_levels_here", "_law_now", "_law_row"] (spPlace K) := by
  obtain ⟨f__law_level, fd__law_level, ds__law_level, G__law_level, m__law_level, k__law_level, b__law_level, v__law_level⟩ := h1
  obtain ⟨f__law_digit, fd__law_digit, ds__law_digit, G__law_digit, m__law_digit, k__law_digit, b__law_digit, v__law_digit⟩ := h2
  refine F.ok sc__law_place (fun vs H Q E h => ?_) (fun cdv A outer s H vs Q E hr h => ?_)
  · obtain ⟨a, q, t, b, n, ws, m, cs, ps, rfl, _⟩ := h
    rfl
  · obtain ⟨a, q, t, b, n, ws, m, cs, ps, rfl, hb, hb64, hL, hne, ht, hnd, hd, hW, few, few2, c⟩ := h
    have hu := hu_of hr
    have g1 : atI (lrowV m) 1 = some (.int (m.due : Nat)) := atI_nat (j := 1) rfl
    refine ⟨_, (pss_cons (ps_set (i := 5) sc__law_place.nd rfl (.inl rfl) (pe_call G__law_level hr (by rfl) m__law_level k__law_level b__law_level v__law_level pass0 (pa_cons (pv 1) (pa_cons (pv 3) (pa_cons (pe_ix (ix_tupK (K := K) rfl) (pv 4) pe_int (fun _ _ => rfl)) pa_nil)))))
      (pss_cons (ps_set (i := 6) sc__law_place.nd rfl (.inl rfl) (pe_tup (pa_cons (pv 5) (pa_cons (pe_call G__law_digit hr (by rfl) m__law_digit k__law_digit b__law_digit v__law_digit pass0 (pa_cons (pv 1) (pa_cons (pe_ix (ix_tupK (K := K) rfl) (pv 4) pe_int (fun _ _ => rfl)) (pa_cons (pv 5) pa_nil)))) pa_nil))))
      (pss_cons (ps_set (i := 7) sc__law_place.nd rfl (.inl rfl) (pe_bm PySem.F.plainAttrs_dict PySem.F.slot_dict_setdefault PySem.F.type_dict_setdefault (mt_setT hu) (pv 0) (pa_cons (pv 6) (pa_cons (pe_lst pa_nil) pa_nil))))
      (pss_one (ps_if (pt_cmpR op_eq (pe_ix (ix_listK (K := K) rfl) (pv 2) (pe_callB (call_min2 rfl) (by rfl) T.b_min (by decide +kernel) (pa_cons (pv 5) (pa_cons (pe_op op_subN (pe_callB (lenK (K := K) rfl) (by rfl) T.b_len PySem.boot_len (pa_cons (pv 2) pa_nil)) pe_int) pa_nil))) (fun _ _ => rfl)) pe_str (nomark _))
        (pss_one (ps_expr (pe_bm PySem.F.plainAttrs_list PySem.F.slot_list_insert PySem.F.type_list_insert mt_insert (pv 7) (pa_cons pe_int (pa_cons (pv 4) pa_nil)))))
        (pss_one (ps_expr (pe_bm PySem.F.plainAttrs_list PySem.F.slot_list_append PySem.F.type_list_append mt_append (pv 7) (pa_cons (pv 4) pa_nil))))))))), ?_⟩
    refine ⟨_, rfl, _, rfl, .ref t, rfl, t, _, 1, _, rfl, rfl, .inl (.inl ht), g1, b, n, m.due, rfl, hb, hb64, hnd, hd, fun k hk => ?_⟩
    have hk250 : k < 250 := lev_small hk hb hnd hd
    refine ⟨_, rfl, _, rfl, .ref t, rfl, t, _, 1, _, rfl, rfl, .inl (.inl ht), g1, _, rfl, b, m.due, k, rfl, hb, hb64, by omega, by simp [sizeLine_eq], fun pk hpk => ?_⟩
    have eplace : placeT b n m.due = (k, m.due / b ^ k % b) := by
      unfold placeT
      rw [levT_eq hk]
    have s1 := same_upd (o := .tup [.int (k : Nat), .int ((m.due / b ^ k % b : Nat) : Int)]) hpk
    have epk : (upd H pk (.tup [.int (k : Nat), .int ((m.due / b ^ k % b : Nat) : Int)])) pk = some (.tup ((keyC (placeT b n m.due)).map kV)) := by
      rw [upd_same, eplace]
      rfl
    have hW1 := hW.same s1
    have hL1 := s1.seq hL
    have ht1 := s1 _ _ ht
    generalize upd H pk (.tup [.int (k : Nat), .int ((m.due / b ^ k % b : Nat) : Int)]) = H1 at s1 epk hW1 hL1 ht1 ⊢
    generalize eK : placeT b n m.due = kk at epk few2 eplace
    obtain ⟨kvs, hd1, hc1⟩ := hW1.dict
    refine ⟨.ref a, rfl, .inr (.inr (.inl ⟨rfl, .inr ⟨kvs, hd1⟩⟩)), .ref pk, rfl, by simp [sizeLine_eq], fun el hel => ?_⟩
    have s2 := same_upd (o := .lst []) hel
    have eel : (upd H1 el (.lst [])) el = some (.lst []) := upd_same
    have hW2 := hW1.same s2
    have hL2 := s2.seq hL1
    have ht2 := s2 _ _ ht1
    have epk2 := s2 _ _ epk
    generalize upd H1 el (.lst []) = H2 at s2 eel hW2 hL2 ht2 epk2 ⊢
    have hd2 := s2 _ _ hd1
    have hc2 := hc1.frame (fun _ _ e => s2 _ _ e) fun _ _ _ e => s2 _ _ e
    have nae : el ≠ a := fun z => by
      rw [z, hd1] at hel
      cases hel
    have nep : el ∉ ps := fun hm => by
      obtain ⟨ts, z⟩ := hc1.lst el hm
      rw [hel] at z
      cases z
    have hpos : 0 < ws.length := List.length_pos_iff.mpr hne
    have hpm : 1 ≤ (ws.map lvV).length := by
      rw [List.length_map]
      exact hpos
    have gw := word_get hne k
    have hwk : wordAt ws kk.1 = wordAt ws k := by rw [eplace]
    have hlen : kvs.length < sizeLine := by
      rw [hc1.len]
      exact sizeLine_ge (by omega)
    refine ⟨a, kvs, keyC kk, pk, .ref el, rfl, rfl, hd2, epk2, hlen, set_both (I := fun p H3 => ∃ (ps3 ts : List Addr) (kv3 : List (List Key × V)) (cs3 : List LCell), Lk a ps H H3 ps3 ∧ H3 a = some (.dT kv3) ∧ LCells H3 kv3 cs3 ps3 ∧ ps3.Nodup ∧ (cs3.map (·.1)).Nodup ∧ valV kv3 (keyC kk) = some (.ref p) ∧
        H3 p = some (.lst (ts.map V.ref)) ∧ LRows H3 ts (gv cs kk) ∧ SqL K H3 q (ws.map lvV) ∧ H3 t = some (.tup (lrowV m)) ∧ ∀ l, (cs3.map fun c => if c.1 = kk then (c.1, l) else c) = lput cs kk l) ?_ ?_ ?_⟩
    · rintro p H3 ⟨ps3, ts, kv3, cs3, lk, hd3, hc3, nd3, nk3, hv, hp, hR, hL3, ht3, hput⟩
      refine ⟨.ref q, rfl, _, rfl, .ref q, rfl, q, _, rfl, .inl hL3, (ws.map lvV).length, 1, rfl, rfl, hpm, k, _, rfl, q, _, ((min k (ws.length - 1) : Nat) : Int), _, rfl, congrArg V.int ?_, hL3, atI_nat gw, ?_⟩
      · dsimp only
        rw [List.length_map]
        split <;> omega
      have fin : ∀ (w : Bool), wordAt ws k = w → Q .non (upd H3 p (.lst ((if w then t :: ts else ts ++ [t]).map V.ref))) := fun w hw => by
        have hpp : p ∈ ps3 := by
          have hm : kk ∈ cs3.map (·.1) := Classical.byContradiction fun no => by
            have z : keyC kk ∉ kv3.map (·.1) := fun y => by
              rw [hc3.keys] at y
              obtain ⟨c', hc, ec⟩ := List.mem_map.mp y
              exact no (List.mem_map.mpr ⟨c', hc, keyC_inj.mp ec⟩)
            rw [keyC_not z] at hv
            cases hv
          obtain ⟨p', hp', _, b1, _⟩ := hc3.at hm
          rw [← V.ref.inj (Option.some.inj (b1.symm.trans hv))]
          exact hp'
        have npa : p ≠ a := fun z => by
          rw [z, hd3] at hp
          cases hp
        have hR2 := (hR.frame (H' := upd H3 p (.lst ((if w then t :: ts else ts ++ [t]).map V.ref))) fun t' xs e => by
          rw [upd_ne (ne_of e hp (by intro z; cases z))]
          exact e).ins (t := t) (m := m) (by rw [upd_ne (ne_of ht3 hp (by intro z; cases z))]; exact ht3) w
        have hc4 := hc3.set (k := kk) (H' := upd H3 p (.lst ((if w then t :: ts else ts ++ [t]).map V.ref))) (fun t' xs e => by rw [upd_ne (ne_of e hp (by intro z; cases z))]; exact e) (fun q' o n _ e => by rw [upd_ne n]; exact e) upd_same hR2 nd3 nk3 hv
        rw [hput] at hc4
        have lk2 : Lk a ps H (upd H3 p (.lst ((if w then t :: ts else ts ++ [t]).map V.ref))) ps3 := lk.trans ⟨fun c o n1 n2 e => by rw [upd_ne fun z => n2 (by rw [z]; exact hpp)]; exact e, fun p' hp' => .inl hp', fun c e => upd_none e⟩
        refine c _ ps3 lk2 ⟨⟨kv3, by rw [upd_ne (Ne.symm npa)]; exact hd3, ?_⟩, nd3, ?_⟩
        · unfold lplace
          rw [eK, hwk, hw]
          exact hc4
        · exact lput_keys hW.nk
      cases hw : wordAt ws k with
      | true =>
        refine ⟨rfl, true, rfl, iteT ?_⟩
        refine ⟨.ref p, rfl, .inl ⟨rfl, _, SqL.of hp⟩, .ref t, rfl, p, _, 0, _, rfl, rfl, hp, ?_, by omega, by omega, ?_⟩
        · rw [List.length_map, hR.len]
          exact sizeLine_ge (by omega)
        · have z := fin true hw
          exact z
      | false =>
        refine ⟨rfl, false, rfl, iteF ?_⟩
        refine ⟨.ref p, rfl, .inl ⟨rfl, _, SqL.of hp⟩, .ref t, rfl, p, _, _, rfl, rfl, hp, ?_, ?_⟩
        · rw [List.length_map, hR.len]
          exact sizeLine_ge (by omega)
        · have z := fin false hw
          rw [if_neg Bool.false_ne_true, List.map_append] at z
          exact z
    · intro v hv
      have hm : kk ∈ cs.map (·.1) := Classical.byContradiction fun no => by
        have z : keyC kk ∉ kvs.map (·.1) := fun y => by
          rw [hc1.keys] at y
          obtain ⟨c', hc, ec⟩ := List.mem_map.mp y
          exact no (List.mem_map.mpr ⟨c', hc, keyC_inj.mp ec⟩)
        rw [keyC_not z] at hv
        cases hv
      obtain ⟨p, hp, ts, b1, b2, b3⟩ := hc2.at hm
      refine ⟨p, Option.some.inj (hv.symm.trans b1), ps, ts, kvs, cs, .ofSame (s1.trans s2), hd2, hc2, hW.nd, hW.nk, b1, b2, b3, hL2, ht2, fun l => ?_⟩
      unfold lput
      rw [if_pos hm]
    · intro hv
      have hm : kk ∉ cs.map (·.1) := fun hm => by
        obtain ⟨p, _, _, b1, _⟩ := hc2.at hm
        rw [hv] at b1
        cases b1
      have hput2 : putK kvs (keyC kk) (.ref el) = kvs ++ [(keyC kk, .ref el)] := by
        unfold putK
        rw [if_neg]
        intro z
        obtain ⟨kv, hkv, ekv⟩ := List.any_eq_true.mp z
        have y : keyC kk ∈ kvs.map (·.1) := List.mem_map.mpr ⟨kv, hkv, of_decide_eq_true ekv⟩
        rw [hc1.keys] at y
        obtain ⟨c', hc, ec⟩ := List.mem_map.mp y
        exact hm (List.mem_map.mpr ⟨c', hc, keyC_inj.mp ec⟩)
      have k3 : ∀ c o, c ≠ a → H2 c = some o → (upd H2 a (.dT (putK kvs (keyC kk) (.ref el)))) c = some o := fun c o n e => by
        rw [upd_ne n]
        exact e
      have eel3 := k3 el _ nae eel
      have tup3 : ∀ t' xs, H2 t' = some (.tup xs) → (upd H2 a (.dT (putK kvs (keyC kk) (.ref el)))) t' = some (.tup xs) := fun t' xs e => k3 _ _ (ne_of e hd2 (by intro z; cases z)) e
      have hc3 := (hc2.frame (H' := upd H2 a (.dT (putK kvs (keyC kk) (.ref el)))) tup3 fun p hp o e => k3 p o (fun z => hW.ne (by rw [← z]; exact hp)) e).snoc (k := kk) (p := el) (ts := []) (l := []) eel3 trivial
      refine ⟨ps ++ [el], [], putK kvs (keyC kk) (.ref el), cs ++ [(kk, [])], ⟨fun c o n1 n2 e => k3 c o n1 ((s1.trans s2) _ _ e), fun p hp => ?_, fun c e => (s1.trans s2).free (upd_none e)⟩, upd_same, ?_, L2.nd_snoc hW.nd nep, ?_, ?_, eel3, ?_, ?_, tup3 _ _ ht2, fun l => ?_⟩
      · rcases List.mem_append.mp hp with z | z
        · exact .inl z
        · rw [List.mem_singleton.mp z]
          exact .inr (s1.free hel)
      · rw [hput2]
        rw [hput2] at hc3
        exact hc3
      · rw [List.map_append]
        exact L2.nd_snoc hW.nk hm
      · rw [hput2]
        exact valV_app hv
      · rw [gv_none hm]
        exact trivial
      · rcases hL2 with (e | ⟨o, e⟩) | e
        · exact .inl (.inl (k3 _ _ (ne_of e hd2 (by intro z; cases z)) e))
        · exact .inl (.inr ⟨o, k3 _ _ (ne_of e hd2 (by intro z; cases z)) e⟩)
        · exact .inr e
      · unfold lput
        rw [if_neg hm, List.map_append]
        have e1 : (cs.map fun c => if c.1 = kk then (c.1, l) else c) = cs := by
          have z : ∀ c ∈ cs, (if c.1 = kk then (c.1, l) else c) = c := fun c hc => if_neg fun y => hm (List.mem_map.mpr ⟨c, hc, y⟩)
          rw [List.map_congr_left (g := id) z, List.map_id]
        rw [e1]
        show cs ++ [if kk = kk then (kk, l) else (kk, [])] = _
        rw [if_pos rfl]
end
/-! ### the law lets one tick pass -/
theorem pop_both {a : Addr} {k : List Key} {kvs : List (List Key × V)} {el : Addr} {H : Hp} {Q : V → Hp → Prop} (I : Addr → Hp → Prop) (h : ∀ p H, I p H → Q (.ref p) H) (c1 : ∀ v, valV kvs k = some v → ∃ p, v = .ref p ∧ I p (upd H a (.dT (dropK kvs k)))) (c2 : valV kvs k = none → I el H) :
    (∀ v, valV kvs k = some v → Q v (upd H a (.dT (dropK kvs k)))) ∧ (valV kvs k = none → Q (.ref el) H) := ⟨fun v hv => by
  obtain ⟨p, e, i⟩ := c1 v hv
  rw [e]
  exact h p _ i, fun hn => h _ _ (c2 hn)⟩
theorem place_len {b : Nat} {ws : List Bool} {t : Nat} : ∀ (l : List Tm) (cs : List LCell), (l.foldl (lplace b ws t) cs).length ≤ cs.length + l.length
  | [], cs => Nat.le_refl _
  | m :: l, cs => by
    have ih := place_len (b := b) (ws := ws) (t := t) l (lplace b ws t cs m)
    have z : (lplace b ws t cs m).length ≤ cs.length + 1 := lput_len _ _ _
    rw [List.foldl_cons, List.length_cons]
    omega
theorem insfold_len (w : Bool) : ∀ (l : List Tm) (r : List Tm), (l.foldl (fun a m => insM w m a) r).length = r.length + l.length
  | [], r => rfl
  | m :: l, r => by
    rw [List.foldl_cons, insfold_len w l, ins_len, List.length_cons]
    omega
theorem place_gv_len {b : Nat} {ws : List Bool} {t : Nat} {p : Nat × Nat} (l : List Tm) (cs : List LCell) : (gv (l.foldl (lplace b ws t) cs) p).length ≤ (gv cs p).length + l.length := by
  rw [gv_places, insfold_len]
  have z := List.length_filter_le (fun m : Tm => decide (placeT b t m.due = p)) l
  omega
theorem drop_gv_len (cs : List LCell) (k p : Nat × Nat) : (gv (ldrop cs k) p).length ≤ (gv cs p).length := by
  rw [gv_drop]
  split
  · exact Nat.zero_le _
  · exact Nat.le_refl _
theorem LW.words {K : PySem.W.Frag} {H H' : Hp} {a q : Addr} {cs : List LCell} {ps ps' : List Addr} {ws : List Bool} (h : LW H a cs ps) (lk : Lk a ps H H' ps') (hne : ws ≠ []) (hL : SqL K H q (ws.map lvV)) : SqL K H' q (ws.map lvV) := by
  obtain ⟨kvs, h1, _⟩ := h.dict
  have n1 : ∀ o, H q = some o → (∀ xs, o ≠ .lst (List.map V.ref xs)) → (∀ k, o ≠ .dT k) → H' q = some o := fun o e n1 n2 => by
    refine lk.keep q o (fun z => ?_) (fun hm => ?_) e
    · rw [z, h1] at e
      exact n2 _ (Option.some.inj e).symm
    · obtain ⟨ts, z⟩ := h.lists q hm
      rw [e] at z
      exact n1 ts (Option.some.inj z)
  have n2 : ∀ xs : List Addr, ws.map lvV ≠ xs.map V.ref := fun xs e => by
    cases ws with
    | nil => exact hne rfl
    | cons x ws =>
      cases xs with
      | nil => cases e
      | cons y xs =>
        have z := (List.cons.inj e).1
        cases x <;> cases z
  rcases hL with (e | ⟨o, e⟩) | e
  · exact .inl (.inl (n1 _ e (fun xs z => n2 xs (HO.lst.inj z)) fun k z => by cases z))
  · exact .inl (.inr ⟨o, n1 _ e (fun xs z => by cases z) fun k z => by cases z⟩)
  · exact .inr e
theorem filter_take {p : Tm → Bool} {l : List Tm} {i : Nat} {m : Tm} (h : l[i]? = some m) : (l.take (i + 1)).filter p = (l.take i).filter p ++ if p m = true then [m] else [] := by
  rw [List.take_add_one, h, Option.toList_some, List.filter_append]
  congr 1
  by_cases c : p m = true
  · rw [if_pos c, List.filter_cons_of_pos c]
    rfl
  · rw [if_neg c, List.filter_cons_of_neg c]
    rfl
section
variable {P : Program} {w : World} {K : PySem.W.Frag} {mg : Str → Option Value} {base : Heap}
def spPass (K : PySem.W.Frag) : Sp := fun vs H Q _ => ∃ (a q : Addr) (b e h : Nat) (ws : List Bool) (cs : List LCell) (ps : List Addr), vs = [.ref a, .int (b : Nat), .ref q, .int (e : Nat)] ∧ 2 ≤ b ∧ b ≤ 64 ∧ SqL K H q (ws.map lvV) ∧ ws ≠ [] ∧ IsZer b e h ∧ e < 2 ^ 250 ∧ LW H a cs ps ∧ cs.length ≤ 10000 ∧ (∀ p, (gv cs p).length ≤ 10000) ∧
  (∀ m ∈ gv cs (keyE b e h), e ≤ m.due ∧ m.due < 2 ^ 250 ∧ (m.due = e → ∀ k, m.per = some k → 1 ≤ k ∧ e + k < 2 ^ 250)) ∧
  ∀ H' ps' r, Lk a ps H H' ps' → LW H' a (lpass b ws e h cs) ps' → H r = none → r ≠ a → r ∉ ps' → H' r = some (.lst (((gv cs (keyE b e h)).filter fun m => decide (m.due = e)).map fun m => V.int (m.num : Nat))) → Q (.ref r) H'
theorem ok_law_pass {f : Addr} {fd : FuncData} (F : Fun K "_law_pass" "_law_pass" s__law_pass f fd) (h0 : Has P w K mg base 1 "_law_zeros" ["_law_base", "_law_tick"] [] spZeros)
    (h2 : Has P w K mg base 1 "_law_digit" ["_law_base", "_law_tick", "_law_level_here"] [] spDigit) (h3 : Has P w K mg base 2 "_law_place" ["_law_lists_here", "_law_base", "_law_levels_here", "_law_now", "_law_row"] [] (spPlace K)) : FnOk P w K mg base CX0 3 f fd ["_law_lists_here", "_law_base", "_law_levels_here", "_law_tick"] (spPass K) := by
  obtain ⟨f__law_zeros, fd__law_zeros, ds__law_zeros, G__law_zeros, m__law_zeros, k__law_zeros, b__law_zeros, v__law_zeros⟩ := h0
  obtain ⟨f__law_digit, fd__law_digit, ds__law_digit, G__law_digit, m__law_digit, k__law_digit, b__law_digit, v__law_digit⟩ := h2
  obtain ⟨f__law_place, fd__law_place, ds__law_place, G__law_place, m__law_place, k__law_place, b__law_place, v__law_place⟩ := h3
  refine F.ok sc__law_pass (fun vs H Q E h => ?_) (fun cdv A outer s H vs Q E hr hh => ?_)
  · obtain ⟨a, q, b, e, h, ws, cs, ps, rfl, _⟩ := h
    rfl
  · obtain ⟨a, q, b, e, h, ws, cs, ps, rfl, hb, hb64, hL, hne, hz, hbig, hW, few, few2, hms, c⟩ := hh
    have hu := hu_of hr
    have he0 : 0 < e := Nat.pos_of_ne_zero fun z => hz.dig (by rw [z, Nat.zero_div, Nat.zero_mod])
    have hh250 : h < 250 := zer_small hb hz hbig
    refine ⟨_, (pss_cons (ps_set (i := 4) sc__law_pass.nd rfl (.inl rfl) (pe_call G__law_zeros (hr.mono (by decide)) (by rfl) m__law_zeros k__law_zeros b__law_zeros v__law_zeros pass0 (pa_cons (pv 1) (pa_cons (pv 3) pa_nil))))
      (pss_cons (ps_set (i := 5) sc__law_pass.nd rfl (.inl rfl) (pe_bm PySem.F.plainAttrs_dict PySem.F.slot_dict_pop PySem.F.type_dict_pop (L2.DX.mt_popT hu) (pv 0) (pa_cons (pe_tup (pa_cons (pv 4) (pa_cons (pe_call G__law_digit (hr.mono (by decide)) (by rfl) m__law_digit k__law_digit b__law_digit v__law_digit pass0 (pa_cons (pv 1) (pa_cons (pv 3) (pa_cons (pv 4) pa_nil)))) pa_nil))) (pa_cons (pe_lst pa_nil) pa_nil))))
      (pss_cons (ps_for PassesOwn.never rfl (pi_list (pv 5)) (pg_name (i := 6) sc__law_pass.nd rfl (.inl rfl))
        (pss_one (ps_if (pt_cmpR op_ne (pe_ix (ix_tupK (K := K) rfl) (pv 6) pe_int (fun _ _ => rfl)) (pv 3) (nomark _))
          (pss_one (ps_expr (pe_call G__law_place hr (by rfl) m__law_place k__law_place b__law_place v__law_place pass0 (pa_cons (pv 0) (pa_cons (pv 1) (pa_cons (pv 2) (pa_cons (pv 3) (pa_cons (pv 6) pa_nil))))))))
          pss_nil)))
      (pss_cons (ps_setLc (i := 7) (own := [("_law_row", 6)]) (g := gName 6)  rfl sc__law_pass.nd rfl rfl (sw_true rfl rfl rfl (by decide +kernel)) (pi_list (pv 5)) (blkOk_by (own := [("_law_row", 6)]) (N := N__law_pass) (sc := defScope s__law_pass) (by decide +kernel)) (fun _ _ _ _ _ => (pg_name (i := 6) sc__law_pass.nd rfl (.inl rfl))) (fun _ _ _ _ _ => (pts_one (pt_cmpR op_eq (pe_ix (ix_tupK (K := K) rfl) (pv 6) pe_int (fun _ _ => rfl)) (pv 3) (nomark _)))) (fun _ _ _ _ _ => (pv 6)))
      (pss_cons (ps_for PassesOwn.never rfl (pi_list (pv 7)) (pg_tupK (K := K) (n := 3) rfl rfl (pgs_cons (pg_name (i := 8) sc__law_pass.nd rfl (.inl rfl)) (pgs_cons (pg_name (i := 9) sc__law_pass.nd rfl (.inl rfl)) (pgs_cons (pg_name (i := 10) sc__law_pass.nd rfl (.inl rfl)) pgs_nil))))
        (pss_one (ps_if (pt_cmpR op_notN (pv 10) pe_non (nomark _))
          (pss_one (ps_expr (pe_call G__law_place hr (by rfl) m__law_place k__law_place b__law_place v__law_place pass0 (pa_cons (pv 0) (pa_cons (pv 1) (pa_cons (pv 2) (pa_cons (pv 3) (pa_cons (pe_tup (pa_cons (pv 8) (pa_cons (pe_op op_addN (pv 3) (pv 10)) (pa_cons (pv 10) pa_nil)))) pa_nil))))))))
          pss_nil)))
      (pss_one (ps_ret (pe_lc (own := [("_law_row", 6)]) (g := gName 6) (tt := tYes) rfl sc__law_pass.nd (pi_list (pv 7)) (blkOk_by (own := [("_law_row", 6)]) (N := N__law_pass) (sc := defScope s__law_pass) (by decide +kernel)) (fun _ _ _ _ _ => (pg_name (i := 6) sc__law_pass.nd rfl (.inl rfl))) (fun _ _ _ _ _ => pts_nil) (fun _ _ _ _ _ => (pe_ix (ix_tupK (K := K) rfl) (pv 6) pe_int (fun _ _ => rfl))))))))))), ?_⟩
    refine ⟨_, rfl, _, rfl, b, e, rfl, hb, hb64, he0, fun h' hz' => ?_⟩
    obtain rfl : h' = h := zer_uniq hz' hz
    obtain ⟨kvs, hd, hc⟩ := hW.dict
    refine ⟨.ref a, rfl, .inr (.inr (.inl ⟨rfl, .inr ⟨kvs, hd⟩⟩)), _, rfl, _, rfl, _, rfl, _, rfl, b, e, h', rfl, hb, hb64, by omega, by simp [sizeLine_eq], fun pk hpk => ?_⟩
    have s1 := same_upd (o := .tup [.int (h' : Nat), .int ((e / b ^ h' % b : Nat) : Int)]) hpk
    have epk : (upd H pk (.tup [.int (h' : Nat), .int ((e / b ^ h' % b : Nat) : Int)])) pk = some (.tup ((keyC (keyE b e h')).map kV)) := by
      rw [upd_same]
      rfl
    generalize upd H pk (.tup [.int (h' : Nat), .int ((e / b ^ h' % b : Nat) : Int)]) = H1 at s1 epk ⊢
    refine ⟨by simp [sizeLine_eq], fun el hel => ?_⟩
    have s2 := same_upd (o := .lst []) hel
    have eel : (upd H1 el (.lst [])) el = some (.lst []) := upd_same
    have epk2 := s2 _ _ epk
    have s12 := s1.trans s2
    generalize upd H1 el (.lst []) = H2 at s2 s12 eel epk2 ⊢
    have hd2 := s12 _ _ hd
    have hc2 := hc.frame (fun _ _ e => s12 _ _ e) fun _ _ _ e => s12 _ _ e
    have heln := s1.free hel
    generalize eL : gv cs (keyE b e h') = L at hms c
    have hLl : L.length ≤ 10000 := by
      rw [← eL]
      exact few2 _
    refine ⟨a, kvs, keyC (keyE b e h'), pk, .ref el, rfl, rfl, hd2, epk2, pop_both (I := fun p H3 => ∃ (ps3 ts : List Addr), Lk a ps H H3 ps3 ∧ LW H3 a (ldrop cs (keyE b e h')) ps3 ∧ p ∉ ps3 ∧ p ≠ a ∧ H3 p = some (.lst (ts.map V.ref)) ∧ LRows H3 ts L) ?_ ?_ ?_⟩
    · rintro p H3 ⟨ps3, ts, lk3, hW3, np3, npa, hp3, hR3⟩
      -- those that go on
      refine ⟨_, rfl, p, rfl, ⟨_, SqL.of hp3⟩, for_list (K := K) (a := p) (xs := ts.map V.ref) (fun i σ H' => ∃ (ps4 : List Addr) (y6 y7 y8 y9 y10 : Option V), σ = [some (.ref a), some (.int (b : Nat)), some (.ref q), some (.int (e : Nat)), some (.int (h' : Nat)), some (.ref p), y6, y7, y8, y9, y10] ∧ Lk a ps3 H3 H' ps4 ∧ LW H' a (((L.take i).filter fun m => decide (m.due ≠ e)).foldl (lplace b ws e) (ldrop cs (keyE b e h'))) ps4)
        ⟨ps3, none, none, none, none, none, rfl, .ofSame fun _ _ e => e, hW3⟩ (fun i σ H' _ ⟨_, _, _, _, _, _, _, lk, _⟩ => SqL.of (lk.keep _ _ npa np3 hp3)) ?_ ?_⟩
      · rintro i x σ H' hx ⟨ps4, y6, y7, y8, y9, y10, rfl, lk4, hW4⟩
        obtain ⟨t, m, rfl, hts, hm, ht⟩ := hR3.get hx
        have hmL := hms m (List.mem_of_getElem? hm)
        have tup4 : ∀ t' xs, H3 t' = some (.tup xs) → H' t' = some (.tup xs) := fun t' xs e => lk4.keep _ _ (fun z => by
          obtain ⟨kv, y, _⟩ := hW3.dict
          rw [z, y] at e
          cases e) (fun z => by
          obtain ⟨ts', y⟩ := hW3.lists _ z
          rw [y] at e
          cases e) e
        have ht4 := tup4 _ _ ht
        have g1 : atI (lrowV m) 1 = some (.int (m.due : Nat)) := atI_nat (j := 1) rfl
        by_cases c1 : m.due = e
        · refine ⟨.ref t, rfl, t, _, 1, _, rfl, rfl, .inl (.inl ht4), g1, _, rfl, rfl, false, nF (vE c1), iteF ?_⟩
          refine ⟨ps4, some (.ref t), y7, y8, y9, y10, rfl, lk4, ?_⟩
          rw [filter_take hm, if_neg (by simpa using c1), List.append_nil]
          exact hW4
        · refine ⟨.ref t, rfl, t, _, 1, _, rfl, rfl, .inl (.inl ht4), g1, _, rfl, rfl, true, nT (vN c1), iteT ?_⟩
          have hlt : (L.take i).length ≤ 10000 := by
            rw [List.length_take]
            omega
          have hfl := Nat.le_trans (List.length_filter_le (fun m : Tm => decide (m.due ≠ e)) (L.take i)) hlt
          refine ⟨_, rfl, _, rfl, _, rfl, _, rfl, _, rfl, a, q, t, b, e, ws, m, _, ps4, rfl, hb, hb64, hW3.words lk4 hne (hW.words lk3 hne hL), hne, ht4, by omega, hmL.2.1, hW4, ?_, ?_, fun H5 ps5 lk5 hW5 => ?_⟩
          · have z1 := place_len (b := b) (ws := ws) (t := e) ((L.take i).filter fun m => decide (m.due ≠ e)) (ldrop cs (keyE b e h'))
            have z2 := ldrop_len cs (keyE b e h')
            omega
          · have z1 := place_gv_len (b := b) (ws := ws) (t := e) (p := placeT b e m.due) ((L.take i).filter fun m => decide (m.due ≠ e)) (ldrop cs (keyE b e h'))
            have z2 := drop_gv_len cs (keyE b e h') (placeT b e m.due)
            have z3 := few2 (placeT b e m.due)
            omega
          · refine ⟨ps5, some (.ref t), y7, y8, y9, y10, rfl, lk4.trans lk5, ?_⟩
            rw [filter_take hm, if_pos (by simpa using c1), List.foldl_append]
            exact hW5
      · rintro σ H4 ⟨ps4, y6, y7, y8, y9, y10, rfl, lk4, hW4⟩
        rw [List.length_map, hR3.len, List.take_length] at hW4
        have hp4 := lk4.keep _ _ npa np3 hp3
        have np4 : p ∉ ps4 := fun hm => by
          rcases lk4.new p hm with z | z
          · exact np3 z
          · rw [hp3] at z
            cases z
        have hR4 := hR3.frame (H' := H4) fun t' xs e => lk4.keep _ _ (fun z => by
          obtain ⟨kv, y, _⟩ := hW3.dict
          rw [z, y] at e
          cases e) (fun z => by
          obtain ⟨ts', y⟩ := hW3.lists _ z
          rw [y] at e
          cases e) e
        have lk04 := lk3.trans lk4
        have g1 : ∀ m : Tm, atI (lrowV m) 1 = some (.int (m.due : Nat)) := fun m => atI_nat (j := 1) rfl
        have g0 : ∀ m : Tm, atI (lrowV m) 0 = some (.int (m.num : Nat)) := fun m => atI_nat (j := 0) rfl
        -- those that fire
        refine ⟨_, rfl, p, rfl, ⟨_, SqL.of hp4⟩, fun D hD => lc_list (K := K) (a := p) (xs := ts.map V.ref) (fun i H' => Same H4 H' ∧ ∃ fs : List Addr, H' D = some (.lst (fs.map V.ref)) ∧ LRows H' fs ((L.take i).filter fun m => decide (m.due = e)))
          ⟨same_upd hD, [], upd_same, trivial⟩ (fun i H' _ ⟨sm, _⟩ => SqL.of (sm _ _ hp4)) ?_ ?_⟩
        · rintro i x H' hx ⟨sm, fs, eD, hF⟩
          obtain ⟨t, m, rfl, hts, hm, ht⟩ := hR4.get hx
          have ht5 := sm _ _ ht
          have hfl : fs.length ≤ 10000 := by
            rw [hF.len]
            refine Nat.le_trans (List.length_filter_le _ _) ?_
            rw [List.length_take]
            omega
          refine ⟨rfl, .ref t, rfl, t, _, 1, _, rfl, rfl, .inl (.inl ht5), g1 m, _, rfl, rfl, ?_⟩
          by_cases c1 : m.due = e
          · refine ⟨true, dT (vE c1), iteT ?_⟩
            refine ⟨_, rfl, _, eD, ?_, fun c o e' => ?_, fs ++ [t], ?_, ?_⟩
            · rw [List.length_map]
              exact sizeLine_ge (by omega)
            · rw [upd_ne (ne_of_none e' hD)]
              exact sm _ _ e'
            · rw [upd_same, List.map_append]
              rfl
            · rw [filter_take hm, if_pos (by simpa using c1)]
              refine (hF.app (ts' := [t]) (ms' := [m]) ⟨ht5, trivial⟩).frame fun t' xs e' => ?_
              rw [upd_ne (ne_of e' eD (by intro z; cases z))]
              exact e'
          · refine ⟨false, dF (vN c1), iteF ⟨sm, fs, eD, ?_⟩⟩
            rw [filter_take hm, if_neg (by simpa using c1), List.append_nil]
            exact hF
        · rintro H5 ⟨s5, fs, eD, hF⟩
          rw [List.length_map, hR3.len, List.take_length] at hF
          have hW5 := hW4.same s5
          have nDa : D ≠ a := fun z => by
            obtain ⟨kv, y, _⟩ := hW4.dict
            rw [← z, hD] at y
            cases y
          have nDp : D ∉ ps4 := fun hm => by
            obtain ⟨ts', y⟩ := hW4.lists _ hm
            rw [hD] at y
            cases y
          have hFl : (L.filter fun m => decide (m.due = e)).length ≤ 10000 := Nat.le_trans (List.length_filter_le _ _) hLl
          have hAl : (L.filter fun m => decide (m.due ≠ e)).length ≤ 10000 := Nat.le_trans (List.length_filter_le _ _) hLl
          generalize eF : (L.filter fun m => decide (m.due = e)) = Fs at hF c hFl
          generalize eC : (L.filter fun m => decide (m.due ≠ e)).foldl (lplace b ws e) (ldrop cs (keyE b e h')) = c4 at hW4 hW5
          have hc4 : c4.length ≤ 20000 ∧ ∀ p, (gv c4 p).length ≤ 20000 := by
            rw [← eC]
            refine ⟨?_, fun p => ?_⟩
            · have z1 := place_len (b := b) (ws := ws) (t := e) (L.filter fun m => decide (m.due ≠ e)) (ldrop cs (keyE b e h'))
              have z2 := ldrop_len cs (keyE b e h')
              omega
            · have z1 := place_gv_len (b := b) (ws := ws) (t := e) (p := p) (L.filter fun m => decide (m.due ≠ e)) (ldrop cs (keyE b e h'))
              have z2 := drop_gv_len cs (keyE b e h') p
              have z3 := few2 p
              omega
          -- those that are set again
          refine ⟨_, rfl, D, rfl, ⟨_, SqL.of eD⟩, for_list (K := K) (a := D) (xs := fs.map V.ref) (fun i σ H' => ∃ (ps6 : List Addr) (y6 y8 y9 y10 : Option V), σ = [some (.ref a), some (.int (b : Nat)), some (.ref q), some (.int (e : Nat)), some (.int (h' : Nat)), some (.ref p), y6, some (.ref D), y8, y9, y10] ∧ Lk a ps4 H5 H' ps6 ∧ LW H' a (((Fs.take i).filterMap (againM e)).foldl (lplace b ws e) c4) ps6)
            ⟨ps4, y6, y8, y9, y10, rfl, .ofSame fun _ _ e => e, hW5⟩ (fun i σ H' _ ⟨_, _, _, _, _, _, lk, _⟩ => SqL.of (lk.keep _ _ nDa nDp eD)) ?_ ?_⟩
          · rintro i x σ H' hx ⟨ps6, z6, z8, z9, z10, rfl, lk6, hW6⟩
            obtain ⟨t, m, rfl, hts, hm, ht⟩ := hF.get hx
            have hmF : m ∈ Fs := List.mem_of_getElem? hm
            rw [← eF] at hmF
            obtain ⟨hmL0, hdue⟩ := List.mem_filter.mp hmF
            have hdue : m.due = e := of_decide_eq_true hdue
            have hmL := hms m hmL0
            have ht6 := lk6.keep t _ (fun z => by
              obtain ⟨kv, y, _⟩ := hW5.dict
              rw [z, y] at ht
              cases ht) (fun z => by
              obtain ⟨ts', y⟩ := hW5.lists _ z
              rw [y] at ht
              cases ht) ht
            have hstep : (Fs.take (i + 1)).filterMap (againM e) = (Fs.take i).filterMap (againM e) ++ (againM e m).toList := by
              rw [List.take_add_one, hm, Option.toList_some, List.filterMap_append]
              congr 1
            refine ⟨t, _, rfl, .inl (.inl ht6), rfl, _, _, rfl, _, _, rfl, _, _, rfl, rfl, ?_⟩
            cases ep : m.per with
            | none =>
              refine ⟨_, rfl, rfl, false, rfl, iteF ?_⟩
              refine ⟨ps6, z6, some (.int (m.num : Nat)), some (.int (m.due : Nat)), some .non, rfl, lk6, ?_⟩
              have ea : againM e m = none := by
                unfold againM
                rw [ep]
                rfl
              rw [hstep, ea]
              show LW H' a ((_ ++ []).foldl _ c4) ps6
              rw [List.append_nil]
              exact hW6
            | some k =>
              obtain ⟨hk1, hkb⟩ := hmL.2.2 hdue k ep
              refine ⟨_, rfl, rfl, true, rfl, iteT ?_⟩
              refine ⟨_, rfl, _, rfl, _, rfl, _, rfl, _, rfl, _, rfl, _, rfl, e, k, rfl, rfl, trivial, _, rfl, by simp [sizeLine_eq], fun tn htn => ?_⟩
              have s7 := same_upd (o := .tup [.int (m.num : Nat), .int ((e + k : Nat) : Int), .int (k : Nat)]) htn
              have etn : (upd H' tn (.tup [.int (m.num : Nat), .int ((e + k : Nat) : Int), .int (k : Nat)])) tn = some (.tup (lrowV ⟨m.num, e + k, some k, e⟩)) := upd_same
              have hW7 := hW6.same s7
              have lk7 := lk6.trans (.ofSame s7)
              have hfl : ((Fs.take i).filterMap (againM e)).length ≤ 10000 := by
                refine Nat.le_trans (List.length_filterMap_le _ _) ?_
                rw [List.length_take]
                omega
              refine ⟨a, q, tn, b, e, ws, ⟨m.num, e + k, some k, e⟩, _, ps6, rfl, hb, hb64, ?_, hne, etn, Nat.lt_add_of_pos_right hk1, hkb, hW7, ?_, ?_, fun H8 ps8 lk8 hW8 => ?_⟩
              · exact hW5.words lk7 hne (s5.seq (hW.words lk04 hne hL))
              · have z1 := place_len (b := b) (ws := ws) (t := e) ((Fs.take i).filterMap (againM e)) c4
                have z2 := hc4.1
                omega
              · have z1 := place_gv_len (b := b) (ws := ws) (t := e) (p := placeT b e (e + k)) ((Fs.take i).filterMap (againM e)) c4
                have z2 := hc4.2 (placeT b e (e + k))
                show (gv _ (placeT b e (e + k))).length ≤ _
                omega
              · refine ⟨ps8, z6, some (.int (m.num : Nat)), some (.int (m.due : Nat)), some (.int (k : Nat)), rfl, lk7.trans lk8, ?_⟩
                have ea : againM e m = some ⟨m.num, e + k, some k, e⟩ := by
                  unfold againM
                  rw [ep]
                  rfl
                rw [hstep, ea, Option.toList_some, List.foldl_append]
                exact hW8
          · rintro σ H6 ⟨ps6, z6, z8, z9, z10, rfl, lk6, hW6⟩
            rw [List.length_map, hF.len, List.take_length] at hW6
            have eD6 := lk6.keep _ _ nDa nDp eD
            have hF6 := hF.frame (H' := H6) fun t' xs e => lk6.keep _ _ (fun z => by
              obtain ⟨kv, y, _⟩ := hW5.dict
              rw [z, y] at e
              cases e) (fun z => by
              obtain ⟨ts', y⟩ := hW5.lists _ z
              rw [y] at e
              cases e) e
            have lk06 := (lk04.trans (.ofSame s5)).trans lk6
            refine ⟨_, rfl, D, rfl, ⟨_, SqL.of eD6⟩, fun R hR => lc_list (K := K) (a := D) (xs := fs.map V.ref) (fun i H' => Same H6 H' ∧ H' R = some (.lst ((Fs.take i).map fun m => V.int (m.num : Nat))))
              ⟨same_upd hR, upd_same⟩ (fun i H' _ ⟨sm, _⟩ => SqL.of (sm _ _ eD6)) ?_ ?_⟩
            · rintro i x H' hx ⟨sm, eR⟩
              obtain ⟨t, m, rfl, hts, hm, ht⟩ := hF6.get hx
              have ht7 := sm _ _ ht
              refine ⟨rfl, yesT (iteT ?_)⟩
              refine ⟨.ref t, rfl, t, _, 0, _, rfl, rfl, .inl (.inl ht7), g0 m, _, eR, ?_, fun c o e' => ?_, ?_⟩
              · rw [List.length_map, List.length_take]
                exact sizeLine_ge (by omega)
              · rw [upd_ne (ne_of_none e' hR)]
                exact sm _ _ e'
              · rw [upd_same, List.take_add_one, hm, List.map_append]
                rfl
            · rintro H7 ⟨s7, eR⟩
              rw [List.length_map, hF.len, List.take_length] at eR
              have hRa : R ≠ a := fun z => by
                obtain ⟨kv, y, _⟩ := hW6.dict
                rw [← z, hR] at y
                cases y
              have hRp : R ∉ ps6 := fun hm => by
                obtain ⟨ts', y⟩ := hW6.lists _ hm
                rw [hR] at y
                cases y
              refine c H7 ps6 R (lk06.trans (.ofSame s7)) ?_ ?_ hRa hRp eR
              · unfold lpass
                rw [eL, eF, eC]
                exact hW6.same s7
              · exact lk06.stay R hR
    · intro v hv
      have hm : keyE b e h' ∈ cs.map (·.1) := Classical.byContradiction fun no => by
        have z : keyC (keyE b e h') ∉ kvs.map (·.1) := fun y => by
          rw [hc.keys] at y
          obtain ⟨c', hc', ec⟩ := List.mem_map.mp y
          exact no (List.mem_map.mpr ⟨c', hc', keyC_inj.mp ec⟩)
        rw [keyC_not z] at hv
        cases hv
      obtain ⟨p, hp, ts, b1, b2, b3⟩ := hc2.at hm
      rw [eL] at b3
      obtain ⟨ps', d1, d2, d3⟩ := hc2.drop (k := keyE b e h') hW.nd hW.nk
      have npa : p ≠ a := fun z => by
        rw [z, hd2] at b2
        cases b2
      have k3 : ∀ c o, c ≠ a → H2 c = some o → (upd H2 a (.dT (dropK kvs (keyC (keyE b e h'))))) c = some o := fun c o n e => by
        rw [upd_ne n]
        exact e
      have tup3 : ∀ t' xs, H2 t' = some (.tup xs) → (upd H2 a (.dT (dropK kvs (keyC (keyE b e h'))))) t' = some (.tup xs) := fun t' xs e => k3 _ _ (ne_of e hd2 (by intro z; cases z)) e
      refine ⟨p, Option.some.inj (hv.symm.trans b1), ps', ts, ⟨fun c o n1 n2 e => k3 c o n1 (s12 _ _ e), fun p hp => .inl (d2.subset hp), fun c e => s12.free (upd_none e)⟩, ⟨⟨_, upd_same, ?_⟩, hW.nd.sublist d2, ldrop_keys hW.nk⟩, d3 p b1, npa, k3 _ _ npa b2, b3.frame tup3⟩
      exact d1.frame tup3 fun p hp o e => k3 p o (fun z => hW.ne (by rw [← z]; exact d2.subset hp)) e
    · intro hv
      have hm : keyE b e h' ∉ cs.map (·.1) := fun hm => by
        obtain ⟨p, _, _, b1, _⟩ := hc2.at hm
        rw [hv] at b1
        cases b1
      have e1 : ldrop cs (keyE b e h') = cs := List.filter_eq_self.mpr fun c hc' => decide_eq_true fun z => hm (List.mem_map.mpr ⟨c, hc', z⟩)
      have e2 : L = [] := by rw [← eL, gv_none hm]
      rw [e1, e2]
      have nea : el ≠ a := fun z => by
        rw [z, s1 _ _ hd] at hel
        cases hel
      refine ⟨ps, [], .ofSame s12, hW.same s12, fun hm => ?_, nea, eel, trivial⟩
      obtain ⟨ts, y⟩ := hW.lists _ hm
      rw [heln] at y
      cases y
end
/-! ### timers that fire again -/
theorem again_of {t : Nat} {m m' : Tm} (h : againM t m = some m') : ∃ k, m.per = some k ∧ m' = ⟨m.num, t + k, some k, t⟩ := by
  unfold againM at h
  cases ep : m.per with
  | none =>
    rw [ep] at h
    cases h
  | some k =>
    rw [ep] at h
    exact ⟨k, rfl, (Option.some.inj h).symm⟩
theorem fireN_nodup {t n : Nat} {ms : List Tm} (nd : (ms.map (·.num)).Nodup) : ((fireT t ms n).map (·.num)).Nodup := by
  have nd0 : ((dropT n ms).map (·.num)).Nodup := List.Nodup.sublist (List.Sublist.map _ List.filter_sublist) nd
  unfold fireT
  split
  · exact nd
  · split
    · exact nd0
    · exact nodup_end nd0 fun x hx => by simpa using (List.mem_filter.mp hx).2
theorem nodup_le {α : Type} [DecidableEq α] : ∀ (l l' : List α), l.Nodup → (∀ x ∈ l, x ∈ l') → l.length ≤ l'.length
  | [], _, _, _ => Nat.zero_le _
  | a :: l, l', nd, h => by
    rw [List.nodup_cons] at nd
    have ha := h a (List.mem_cons_self ..)
    have ih := nodup_le l (l'.erase a) nd.2 fun x hx => (List.mem_erase_of_ne fun e => nd.1 (by rw [← e]; exact hx)).mpr (h x (List.mem_cons_of_mem _ hx))
    rw [List.length_erase_of_mem ha] at ih
    have := List.length_pos_of_mem ha
    rw [List.length_cons]
    omega
/-! ### the law goes from event to event -/
/-- timers as they may stand in the law's wheel -/
structure LOk (t top : Nat) (ms : List Tm) : Prop where
  tms : ∀ m ∈ ms, m.since ≤ t ∧ t < m.due ∧ m.due < 2 ^ 250
  per : ∀ m ∈ ms, ∀ k, m.per = some k → 1 ≤ k ∧ top + k < 2 ^ 250
  nd : (ms.map (·.num)).Nodup
  few : ms.length ≤ 1000
/-- behind an event the timers stand well again -/
theorem LOk.event {b : Nat} {ws : List Bool} {t e top : Nat} {ms : List Tm} (hb : 2 ≤ b) (h : LOk t top ms) (hte : t < e) (htop : e ≤ top) (he : ∀ m ∈ ms, e ≤ evT b t m.due) : LOk e top (afterF e ms (orderAt b ws e ms)) := by
  have hdue : ∀ m ∈ ms, e ≤ m.due := fun m hm => Nat.le_trans (he m hm) (evT_le hb (h.tms m hm).2.1)
  have hafter := after_due (b := b) (ws := ws) (t := e) h.nd
  have mem : ∀ m ∈ afterF e ms (orderAt b ws e ms), (m ∈ ms ∧ m.due ≠ e) ∨ ∃ m0 ∈ ms, ∃ k, m0.per = some k ∧ m = ⟨m0.num, e + k, some k, e⟩ := fun m hm => by
    rw [hafter] at hm
    rcases List.mem_append.mp hm with z | z
    · obtain ⟨z1, z2⟩ := List.mem_filter.mp z
      exact .inl ⟨z1, of_decide_eq_true z2⟩
    · obtain ⟨m0, z1, z2⟩ := List.mem_filterMap.mp z
      obtain ⟨k, k1, k2⟩ := again_of z2
      exact .inr ⟨m0, (List.mem_filter.mp (mem_deq.mp z1)).1, k, k1, k2⟩
  refine ⟨fun m hm => ?_, fun m hm k hk => ?_, ?_, ?_⟩
  · rcases mem m hm with ⟨z1, z2⟩ | ⟨m0, z1, k, z2, rfl⟩
    · have a := h.tms m z1
      have c := hdue m z1
      exact ⟨by omega, by omega, a.2.2⟩
    · have p := h.per m0 z1 k z2
      exact ⟨Nat.le_refl _, Nat.lt_add_of_pos_right p.1, (by show e + k < _; omega)⟩
  · rcases mem m hm with ⟨z1, z2⟩ | ⟨m0, z1, k', z2, rfl⟩
    · exact h.per m z1 k hk
    · have z3 : k' = k := Option.some.inj hk
      rw [← z3]
      exact h.per m0 z1 k' z2
  · unfold afterF
    have all : ∀ (ns : List Nat) (l : List Tm), (l.map (·.num)).Nodup → ((ns.foldl (fireT e) l).map (·.num)).Nodup := by
      intro ns
      induction ns with
      | nil => exact fun l nd => nd
      | cons n ns ih => exact fun l nd => ih _ (fireN_nodup nd)
    exact all _ _ h.nd
  · rw [hafter, List.length_append]
    have z1 := List.length_filterMap_le (againM e) (deq (fun m => sideT b ws m.since m.due 0) (ms.filter fun m => decide (m.due = e)))
    rw [deq_len] at z1
    have z2 : (ms.filter fun m => decide (m.due ≠ e)).length + (ms.filter fun m => decide (m.due = e)).length = ms.length := by
      have y := (List.filter_append_perm (fun m : Tm => decide (m.due = e)) ms).length_eq
      rw [List.length_append] at y
      have e1 : ms.filter (fun x => !decide (x.due = e)) = ms.filter fun m => decide (m.due ≠ e) := List.filter_congr fun m _ => by
        by_cases c : m.due = e
        · rw [decide_eq_true c, decide_eq_false (fun z => z c)]
          rfl
        · rw [decide_eq_false c, decide_eq_true c]
          rfl
      rw [e1] at y
      omega
    have := h.few
    omega
/-- when no list is emptied on the way, the lists stay -/
theorem stM_stay {b : Nat} {ws : List Bool} {t u : Nat} {ms : List Tm} {p : Nat × Nat} (hb : 2 ≤ b) (htu : t ≤ u) (h : ∀ m ∈ ms, t < m.due ∧ u < evT b t m.due) : stM b ws u ms p = stM b ws t ms p := by
  unfold stM
  congr 1
  refine List.filter_congr fun m hm => ?_
  have z := lev_stays hb (h m hm).1 htu (h m hm).2
  unfold placeT
  rw [z.2]
theorem stM_len (b : Nat) (ws : List Bool) (t : Nat) (ms : List Tm) (p : Nat × Nat) : (stM b ws t ms p).length ≤ ms.length := by
  unfold stM
  rw [deq_len]
  exact List.length_filter_le _ _
theorem exists_zer {b e : Nat} (hb : 2 ≤ b) (he : 0 < e) : ∃ h, IsZer b e h := by
  have z : ∃ h, e / b ^ h % b ≠ 0 ∧ ∀ i, i < h → e / b ^ i % b = 0 := by
    have l := levT_is hb he
    have dg := l.digit he
    obtain ⟨k, h1, h2⟩ := least_nat (p := fun k => e / b ^ k % b ≠ 0) (levT b 0 e) (by
      have z0 : e / b ^ levT b 0 e % b ≠ 0 := by omega
      exact z0)
    exact ⟨k, h1, fun i hi => Classical.byContradiction fun no => h2 i hi no⟩
  obtain ⟨h, h1, h2⟩ := z
  exact ⟨h, zer_low hb h h2, h1⟩
/-! how many cells there are: those that are empty, and those in which a timer stands -/
def emp (cs : List LCell) : Nat := (cs.filter fun c => c.2.isEmpty).length
theorem emp_app (cs cs' : List LCell) : emp (cs ++ cs') = emp cs + emp cs' := by
  unfold emp
  rw [List.filter_append, List.length_append]
theorem emp_cons (c : LCell) (cs : List LCell) : emp (c :: cs) = emp cs + if c.2.isEmpty = true then 1 else 0 := by
  unfold emp
  by_cases h : c.2.isEmpty = true
  · rw [List.filter_cons_of_pos (p := fun c : LCell => c.2.isEmpty) h, List.length_cons, if_pos h]
  · rw [List.filter_cons_of_neg (p := fun c : LCell => c.2.isEmpty) h, if_neg h, Nat.add_zero]
theorem emp_put {k : Nat × Nat} {l : List Tm} (hl : l ≠ []) (cs : List LCell) : emp (lput cs k l) ≤ emp cs := by
  have hl2 : ¬ l.isEmpty = true := fun z => hl (List.isEmpty_iff.mp z)
  unfold lput
  split
  · rename_i h
    clear h
    induction cs with
    | nil => exact Nat.le_refl _
    | cons c cs ih =>
      rw [List.map_cons, emp_cons, emp_cons]
      have z : (if (if c.1 = k then (c.1, l) else c).2.isEmpty = true then 1 else 0) ≤ if c.2.isEmpty = true then 1 else 0 := by
        by_cases e : c.1 = k
        · rw [if_pos e, if_neg hl2]
          exact Nat.zero_le _
        · rw [if_neg e]
          exact Nat.le_refl _
      exact Nat.add_le_add ih z
  · rw [emp_app, emp_cons, if_neg hl2]
    exact Nat.le_refl _
theorem emp_drop (cs : List LCell) (k : Nat × Nat) : emp (ldrop cs k) ≤ emp cs := by
  unfold emp ldrop
  rw [List.filter_filter]
  have e : cs.filter (fun c => c.2.isEmpty && decide (c.1 ≠ k)) = (cs.filter fun c => c.2.isEmpty).filter fun c => decide (c.1 ≠ k) := by
    rw [List.filter_filter]
    exact List.filter_congr fun c _ => Bool.and_comm _ _
  rw [e]
  exact List.length_filter_le _ _
theorem ins_ne (w : Bool) (m : Tm) (l : List Tm) : insM w m l ≠ [] := fun e => by
  have z := congrArg List.length e
  rw [ins_len] at z
  cases z
theorem emp_place {b : Nat} {ws : List Bool} {t : Nat} : ∀ (l : List Tm) (cs : List LCell), emp (l.foldl (lplace b ws t) cs) ≤ emp cs
  | [], _ => Nat.le_refl _
  | m :: l, cs => Nat.le_trans (emp_place l _) (emp_put (ins_ne _ _ _) cs)
theorem emp_pass {b : Nat} {ws : List Bool} {e h : Nat} (cs : List LCell) : emp (lpass b ws e h cs) ≤ emp cs := Nat.le_trans (emp_place _ _) (Nat.le_trans (emp_place _ _) (emp_drop _ _))
theorem cells_len {b : Nat} {ws : List Bool} {t : Nat} {ms : List Tm} {cs : List LCell} (nk : (cs.map (·.1)).Nodup) (hcs : ∀ p, gv cs p = stM b ws t ms p) : cs.length ≤ emp cs + ms.length := by
  have e1 : (cs.filter fun c => c.2.isEmpty).length + (cs.filter fun c => !c.2.isEmpty).length = cs.length := by
    have y := (List.filter_append_perm (fun c : LCell => c.2.isEmpty) cs).length_eq
    rw [List.length_append] at y
    exact y
  have e2 : (cs.filter fun c => !c.2.isEmpty).length ≤ ms.length := by
    have z := nodup_le ((cs.filter fun c => !c.2.isEmpty).map (·.1)) (ms.map fun m => placeT b t m.due) (nk.sublist (List.Sublist.map _ List.filter_sublist)) fun k hk => by
      obtain ⟨c, hc, e⟩ := List.mem_map.mp hk
      obtain ⟨h1, h2⟩ := List.mem_filter.mp hc
      have g := gv_mem nk h1
      rw [hcs] at g
      cases el : c.2 with
      | nil =>
        rw [el] at h2
        cases h2
      | cons m l =>
        have hm : m ∈ stM b ws t ms c.1 := by
          rw [g, el]
          exact List.mem_cons_self ..
        obtain ⟨h3, h4⟩ := List.mem_filter.mp (mem_deq.mp hm)
        exact List.mem_map.mpr ⟨m, h3, (of_decide_eq_true h4).trans e⟩
    rw [List.length_map, List.length_map] at z
    exact z
  unfold emp
  omega
/-! ### the law's drawing of numbers -/
def SrcAt (H : Hp) (p : Addr) : Prop := ∃ a b c : Int, H p = some (.lst [.int a, .int b, .int c])
/-- all but the source p stands as it was; p is a source again -/
structure Stp (p : Addr) (H H' : Hp) : Prop where
  keep : ∀ q o, q ≠ p → H q = some o → H' q = some o
  src : SrcAt H' p
theorem Stp.refl {p : Addr} {H : Hp} (h : SrcAt H p) : Stp p H H := ⟨fun _ _ _ e => e, h⟩
theorem Stp.trans {p : Addr} {H H1 H2 : Hp} (a : Stp p H H1) (b : Stp p H1 H2) : Stp p H H2 := ⟨fun q o n e => b.keep q o n (a.keep q o n e), b.src⟩
theorem Stp.same {p : Addr} {H H1 H2 : Hp} (a : Stp p H H1) (b : Same H1 H2) : Stp p H H2 := by
  obtain ⟨x, y, z, e⟩ := a.src
  exact ⟨fun q o n e => b q o (a.keep q o n e), ⟨x, y, z, b _ _ e⟩⟩
theorem SrcAt.same {p : Addr} {H H' : Hp} (h : SrcAt H p) (s : Same H H') : SrcAt H' p := by
  obtain ⟨a, b, c, e⟩ := h
  exact ⟨a, b, c, s _ _ e⟩
theorem Stp.free {p q : Addr} {H H' : Hp} (a : Stp p H H') (hq : H' q = none) : H q = none := by
  cases e : H q with
  | none => rfl
  | some o =>
    by_cases z : q = p
    · obtain ⟨x, y, u, w⟩ := a.src
      rw [z, w] at hq
      cases hq
    · rw [a.keep q o z e] at hq
      cases hq
theorem SrcAt.ne {H : Hp} {p l : Addr} (h : SrcAt H p) (hl : H l = none) : l ≠ p := fun e => by
  obtain ⟨x, y, z, w⟩ := h
  rw [e, w] at hl
  cases hl
theorem SrcAt.stp_same {p : Addr} {H H' : Hp} (h : SrcAt H p) (s : Same H H') : Stp p H H' := (Stp.refl h).same s
theorem Stp.seqL {K : PySem.W.Frag} {p a : Addr} {xs : List V} {H H' : Hp} (s : Stp p H H') (n : a ≠ p) (h : SqL K H a xs) : SqL K H' a xs := by
  rcases h with (h | ⟨o, h⟩) | h
  · exact .inl (.inl (s.keep _ _ n h))
  · exact .inl (.inr ⟨o, s.keep _ _ n h⟩)
  · exact .inr h
section
variable {P : Program} {w : World} {K : PySem.W.Frag} {mg : Str → Option Value} {base : Heap}
def spCellAt (K : PySem.W.Frag) : Sp := fun vs H Q _ => ∃ (a : Addr) (ns : List Int) (k : Nat), vs = [.ref a, .int (k : Nat)] ∧ SqL K H a (ns.map V.int) ∧ ∀ v : Int, Q (.int v) H
theorem ok_cell_at {f : Addr} {fd : FuncData} (F : Fun K "_law_cell_at" "_law_cell_at" s__law_cell_at f fd) (T : Tx K mg) : FnOk P w K mg base CX0 1 f fd ["_law_script", "_law_k"] (spCellAt K) := by
  refine F.ok sc__law_cell_at (fun vs H Q E h => ?_) (fun cdv A outer s H vs Q E hr h => ?_)
  · obtain ⟨a, ns, k, rfl, _⟩ := h
    rfl
  · obtain ⟨a, ns, k, rfl, hS, q⟩ := h
    refine ⟨_, (pss_cons (ps_if (pt_cmpR op_lt (pv 1) (pe_callB (lenK (K := K) rfl) (by rfl) T.b_len PySem.boot_len (pa_cons (pv 0) pa_nil)) (nomark _))
        (pss_one (ps_ret (pe_ix (ix_listK (K := K) rfl) (pv 0) (pv 1) (fun _ _ => rfl))))
        pss_nil)
      (pss_one (ps_ret pe_int))), ?_⟩
    refine ⟨_, rfl, .ref a, rfl, a, ns.map V.int, rfl, .inl hS, _, _, rfl, rfl, _, rfl, ite2 (fun e => ?_) (fun e => ?_)⟩
    · have hk : k < ns.length := by
        have z := of_decide_eq_true e
        rw [List.length_map] at z
        omega
      have g : (ns.map V.int)[k]? = some (.int ns[k]) := by
        rw [List.getElem?_map, List.getElem?_eq_getElem hk]
        rfl
      exact ⟨.ref a, rfl, _, rfl, a, _, _, _, rfl, rfl, hS, atI_nat g, q _⟩
    · exact q 0
def spMixed : Sp := fun vs H Q _ => ∃ c k : Int, vs = [.int c, .int k] ∧ ∀ r : Int, 0 ≤ r → r < 2147483563 → Q (.int r) H
theorem ok_mixed {f : Addr} {fd : FuncData} (F : Fun K "_law_mixed" "_law_mixed" s__law_mixed f fd) : FnOk P w K mg base CX0 1 f fd ["_law_cell", "_law_k"] spMixed := by
  refine F.ok sc__law_mixed (fun vs H Q E h => ?_) (fun cdv A outer s H vs Q E hr h => ?_)
  · obtain ⟨c, k, rfl, _⟩ := h
    rfl
  · obtain ⟨c, k, rfl, q⟩ := h
    refine ⟨_, (pss_cons (ps_set (i := 2) sc__law_mixed.nd rfl (.inl rfl) (pe_op op_add (pe_op op_mod (pv 0) pe_int) (pe_op op_mulA (pe_op op_fdivW (pv 0) pe_int) pe_int)))
      (pss_cons (ps_set (i := 2) sc__law_mixed.nd rfl (.inl rfl) (pe_op op_mod (pe_op op_mulA (pe_op op_add (pe_op op_add (pv 2) (pe_op op_mulA pe_int (pv 1))) pe_int) pe_int) pe_int))
      (pss_cons (ps_set (i := 2) sc__law_mixed.nd rfl (.inl rfl) (pe_op op_mod (pe_op op_mulA (pv 2) (pe_op op_add (pe_op op_add (pe_op op_fdivW (pv 2) pe_int) pe_int) (pv 1))) pe_int))
      (pss_one (ps_ret (pe_op op_mod (pe_op op_mulA (pv 2) (pe_op op_add (pe_op op_fdivW (pv 2) pe_int) pe_int)) pe_int)))))), ?_⟩
    refine ⟨_, rfl, c, 2147483629, rfl, rfl, (by decide : (0 : Int) < 2147483629), _, rfl, c, 2147483629, rfl, rfl, div_s (by decide) (by decide), _, 30011, rfl, rfl, mul_r (by decide) (by decide), _, _, rfl, rfl, ?_⟩
    refine ⟨_, rfl, _, rfl, 69621, k, rfl, rfl, mul_l (by decide) (by decide), _, _, rfl, rfl, _, 1, rfl, rfl, _, 48271, rfl, rfl, mul_r (by decide) (by decide), _, 2147483629, rfl, rfl, (by decide : (0 : Int) < 2147483629), ?_⟩
    generalize hl : (c % 2147483629 + c / 2147483629 * 30011 + 69621 * k + 1) * 48271 = l0
    have b1 : 0 ≤ l0 % 2147483629 := Int.emod_nonneg _ (by decide)
    have b2 : l0 % 2147483629 < 2147483629 := Int.emod_lt_of_pos _ (by decide)
    refine ⟨_, rfl, _, rfl, l0 % 2147483629, 907, rfl, rfl, div_s (by decide) (by decide), _, 16831, rfl, rfl, _, rfl, _, k, rfl, rfl, l0 % 2147483629, _, rfl, rfl, mul_l (by omega) (by omega), _, 2147483587, rfl, rfl, (by decide : (0 : Int) < 2147483587), ?_⟩
    generalize (l0 % 2147483629) * (l0 % 2147483629 / 907 + 16831 + k) = l1
    have b3 : 0 ≤ l1 % 2147483587 := Int.emod_nonneg _ (by decide)
    have b4 : l1 % 2147483587 < 2147483587 := Int.emod_lt_of_pos _ (by decide)
    refine ⟨_, rfl, _, rfl, _, 1201, rfl, rfl, div_s (by decide) (by decide), _, 30011, rfl, rfl, _, _, rfl, rfl, mul_l (i := l1 % 2147483587) (by omega) (by omega), _, 2147483563, rfl, rfl, (by decide : (0 : Int) < 2147483563), ?_⟩
    exact q _ (Int.emod_nonneg _ (by decide)) (Int.emod_lt_of_pos _ (by decide))
def spSource (K : PySem.W.Frag) : Sp := fun vs H Q _ => ∃ (a : Addr) (ns : List Int) (k : Nat), vs = [.ref a, .int (k : Nat)] ∧ SqL K H a (ns.map V.int) ∧ ∀ H' p, Same H H' → H p = none → SrcAt H' p → Q (.ref p) H'
theorem ok_source {f : Addr} {fd : FuncData} (F : Fun K "_law_source" "_law_source" s__law_source f fd) (T : Tx K mg) (h1 : Has P w K mg base 1 "_law_cell_at" ["_law_script", "_law_k"] [] (spCellAt K))
    (h2 : Has P w K mg base 1 "_law_mixed" ["_law_cell", "_law_k"] [] spMixed) : FnOk P w K mg base CX0 2 f fd ["_law_script", "_law_k"] (spSource K) := by
  obtain ⟨f__law_cell_at, fd__law_cell_at, ds__law_cell_at, G__law_cell_at, m__law_cell_at, k__law_cell_at, b__law_cell_at, v__law_cell_at⟩ := h1
  obtain ⟨f__law_mixed, fd__law_mixed, ds__law_mixed, G__law_mixed, m__law_mixed, k__law_mixed, b__law_mixed, v__law_mixed⟩ := h2
  refine F.ok sc__law_source (fun vs H Q E h => ?_) (fun cdv A outer s H vs Q E hr h => ?_)
  · obtain ⟨a, ns, k, rfl, _⟩ := h
    rfl
  · obtain ⟨a, ns, k, rfl, hS, q⟩ := h
    refine ⟨_, (pss_cons (ps_if (pt_cmpR op_lt (pv 1) (pe_callB (lenK (K := K) rfl) (by rfl) T.b_len PySem.boot_len (pa_cons (pv 0) pa_nil)) (nomark _))
        (pss_one (ps_ret (pe_lst (pa_cons (pe_ix (ix_listK (K := K) rfl) (pv 0) (pv 1) (fun _ _ => rfl)) (pa_cons (pe_ix (ix_listK (K := K) rfl) (pv 0) (pv 1) (fun _ _ => rfl)) (pa_cons pe_int pa_nil))))))
        pss_nil)
      (pss_cons (ps_set (i := 2) sc__law_source.nd rfl (.inl rfl) (pe_call G__law_mixed hr (by rfl) m__law_mixed k__law_mixed b__law_mixed v__law_mixed pass0 (pa_cons (pe_call G__law_cell_at hr (by rfl) m__law_cell_at k__law_cell_at b__law_cell_at v__law_cell_at pass0 (pa_cons (pv 0) (pa_cons pe_int pa_nil))) (pa_cons (pe_op op_add pe_int (pv 1)) pa_nil))))
      (pss_one (ps_ret (pe_lst (pa_cons (pv 2) (pa_cons (pv 2) (pa_cons pe_int pa_nil)))))))), ?_⟩
    refine ⟨_, rfl, .ref a, rfl, a, ns.map V.int, rfl, .inl hS, _, _, rfl, rfl, _, rfl, ite2 (fun e => ?_) (fun e => ?_)⟩
    · have hk : k < ns.length := by
        have z := of_decide_eq_true e
        rw [List.length_map] at z
        omega
      have g : (ns.map V.int)[k]? = some (.int ns[k]) := by
        rw [List.getElem?_map, List.getElem?_eq_getElem hk]
        rfl
      refine ⟨.ref a, rfl, _, rfl, a, _, _, _, rfl, rfl, hS, atI_nat g, .ref a, rfl, _, rfl, a, _, _, _, rfl, rfl, hS, atI_nat g, by simp [sizeLine_eq], fun p hp => ?_⟩
      exact q _ p (same_upd hp) hp ⟨_, _, _, upd_same⟩
    · refine ⟨.ref a, rfl, a, ns, 0, rfl, hS, fun v => ⟨_, rfl, 1000, _, rfl, rfl, v, _, rfl, fun r _ _ => ?_⟩⟩
      refine ⟨_, rfl, _, rfl, by simp [sizeLine_eq], fun p hp => ?_⟩
      exact q _ p (same_upd hp) hp ⟨_, _, _, upd_same⟩
def spNext : Sp := fun vs H Q _ => ∃ (p : Addr) (m : Int), vs = [.ref p, .int m] ∧ 0 < m ∧ m < 2 ^ 300 ∧ SrcAt H p ∧ ∀ (r : Nat) H', (r : Int) < m → Stp p H H' → Q (.int (r : Nat)) H'
theorem ok_next {f : Addr} {fd : FuncData} (F : Fun K "_law_next" "_law_next" s__law_next f fd) (h2 : Has P w K mg base 1 "_law_mixed" ["_law_cell", "_law_k"] [] spMixed) : FnOk P w K mg base CX0 2 f fd ["_law_source_here", "_law_many"] spNext := by
  obtain ⟨f__law_mixed, fd__law_mixed, ds__law_mixed, G__law_mixed, m__law_mixed, k__law_mixed, b__law_mixed, v__law_mixed⟩ := h2
  refine F.ok sc__law_next (fun vs H Q E h => ?_) (fun cdv A outer s H vs Q E hr h => ?_)
  · obtain ⟨p, m, rfl, _⟩ := h
    rfl
  · obtain ⟨p, m, rfl, hm, hm2, ⟨a, b, c, hp⟩, q⟩ := h
    have fin : ∀ (x : Int) (H' : Hp), Stp p H H' → Q (.int (x % m)) H' := fun x H' s => by
      have h0 : 0 ≤ x % m := Int.emod_nonneg _ (by omega)
      have h1 : x % m < m := Int.emod_lt_of_pos _ hm
      have e : ((x % m).toNat : Int) = x % m := Int.toNat_of_nonneg h0
      have z := q (x % m).toNat H' (by omega) s
      rw [e] at z
      exact z
    have st : ∀ x y z : Int, Stp p H (upd H p (.lst [.int x, .int y, .int z])) := fun x y z => ⟨fun q o n e => by rw [upd_ne n]; exact e, ⟨x, y, z, upd_same⟩⟩
    refine ⟨_, (pss_cons (ps_if (pt_cmpR op_ge (pe_ix (ix_listK (K := K) rfl) (pv 0) pe_int (fun _ _ => rfl)) (pe_op op_pow pe_int pe_int) (nomark _))
        (pss_cons (ps_set (i := 2) sc__law_next.nd rfl (.inl rfl) (pe_op op_mod (pe_ix (ix_listK (K := K) rfl) (pv 0) pe_int (fun _ _ => rfl)) (pv 1)))
        (pss_cons (ps_asg (pe_op op_fdivW (pe_ix (ix_listK (K := K) rfl) (pv 0) pe_int (fun _ _ => rfl)) (pv 1)) (pg_sub (pv 0) pe_int set_list))
        (pss_one (ps_ret (pv 2)))))
        pss_nil)
      (pss_cons (ps_asg (pe_op op_add (pe_ix (ix_listK (K := K) rfl) (pv 0) pe_int (fun _ _ => rfl)) pe_int) (pg_sub (pv 0) pe_int set_list))
      (pss_one (ps_ret (pe_op op_mod (pe_call G__law_mixed hr (by rfl) m__law_mixed k__law_mixed b__law_mixed v__law_mixed pass0 (pa_cons (pe_ix (ix_listK (K := K) rfl) (pv 0) pe_int (fun _ _ => rfl)) (pa_cons (pe_ix (ix_listK (K := K) rfl) (pv 0) pe_int (fun _ _ => rfl)) pa_nil))) (pv 1)))))), ?_⟩
    refine ⟨.ref p, rfl, p, _, 0, .int a, rfl, rfl, SqL.of hp, atI_nat (j := 0) rfl, 10, 18, rfl, rfl, ⟨by decide, by decide, by decide⟩, a, _, rfl, rfl, _, rfl, ite2 (fun _ => ?_) (fun _ => ?_)⟩
    · refine ⟨.ref p, rfl, p, _, 0, .int a, rfl, rfl, SqL.of hp, atI_nat (j := 0) rfl, .int m, rfl, a, m, rfl, rfl, hm, ?_⟩
      refine ⟨.ref p, rfl, p, _, 0, .int a, rfl, rfl, SqL.of hp, atI_nat (j := 0) rfl, .int m, rfl, a, m, rfl, rfl, div_s hm hm2, ?_⟩
      refine ⟨.ref p, rfl, p, _, 0, 0, rfl, rfl, hp, rfl, ?_⟩
      exact ⟨_, rfl, fin a _ (st _ _ _)⟩
    · refine ⟨.ref p, rfl, p, _, 2, .int c, rfl, rfl, SqL.of hp, atI_nat (j := 2) rfl, c, 1, rfl, rfl, ?_⟩
      refine ⟨.ref p, rfl, p, _, 2, 2, rfl, rfl, hp, rfl, ?_⟩
      have h2 : (upd H p (.lst [.int a, .int b, .int (c + 1)])) p = some (.lst [.int a, .int b, .int (c + 1)]) := upd_same
      refine ⟨.ref p, rfl, p, _, 1, .int b, rfl, rfl, SqL.of h2, atI_nat (j := 1) rfl, .ref p, rfl, p, _, 2, .int (c + 1), rfl, rfl, SqL.of h2, atI_nat (j := 2) rfl, b, c + 1, rfl, fun r _ _ => ?_⟩
      exact ⟨.int m, rfl, r, m, rfl, rfl, hm, fin r _ (st _ _ _)⟩
end
section
variable {P : Program} {w : World} {K : PySem.W.Frag} {mg : Str → Option Value} {base : Heap}
theorem flat_rep {α : Type} (x : α) : ∀ n : Nat, (List.replicate n [x]).flatten = List.replicate n x
  | 0 => rfl
  | n + 1 => by
    rw [List.replicate_succ, List.flatten_cons, flat_rep x n, List.replicate_succ]
    rfl
theorem pick_lv {r : Nat} (h : r < 2) : ([.str "stack", .str "queue"] : List V)[r]? = some (lvV (decide (r = 0))) := by
  match r, h with
  | 0, _ => rfl
  | 1, _ => rfl
  | r + 2, h => omega
theorem pick_vl {r : Nat} (h : r < 2) : ([.str "queue", .str "stack"] : List V)[r]? = some (lvV (decide (r = 1))) := by
  match r, h with
  | 0, _ => rfl
  | 1, _ => rfl
  | r + 2, h => omega
def spLevels : Sp := fun vs H Q _ => ∃ (p : Addr), vs = [.ref p] ∧ SrcAt H p ∧ ∀ H' q (ws : List Bool), Stp p H H' → H q = none → H' q = some (.lst (ws.map lvV)) → ws ≠ [] → ws.length ≤ 60 → Q (.ref q) H'
theorem ok_levels {f : Addr} {fd : FuncData} (F : Fun K "_law_levels" "_law_levels" s__law_levels f fd) (T : Tx K mg) (h1 : Has P w K mg base 2 "_law_next" ["_law_source_here", "_law_many"] [] spNext) : FnOk P w K mg base CX0 3 f fd ["_law_source_here"] spLevels := by
  obtain ⟨f__law_next, fd__law_next, ds__law_next, G__law_next, m__law_next, k__law_next, b__law_next, v__law_next⟩ := h1
  refine F.ok sc__law_levels (fun vs H Q E h => ?_) (fun cdv A outer s H vs Q E hr h => ?_)
  · obtain ⟨p, rfl, _⟩ := h
    rfl
  · obtain ⟨p, rfl, hs, c⟩ := h
    refine ⟨_, (pss_cons (ps_set (i := 1) sc__law_levels.nd rfl (.inl rfl) (pe_ix (ix_listK (K := K) rfl) (pe_lst (pa_cons (pe_op op_add pe_int (pe_call G__law_next hr (by rfl) m__law_next k__law_next b__law_next v__law_next pass0 (pa_cons (pv 0) (pa_cons pe_int pa_nil)))) (pa_cons (pe_op op_add pe_int (pe_call G__law_next hr (by rfl) m__law_next k__law_next b__law_next v__law_next pass0 (pa_cons (pv 0) (pa_cons pe_int pa_nil)))) pa_nil))) (pe_callTy call_int1 (by rfl) T.b_int (by decide +kernel) (pa_cons (pe_cmpR op_eq (pe_call G__law_next hr (by rfl) m__law_next k__law_next b__law_next v__law_next pass0 (pa_cons (pv 0) (pa_cons pe_int pa_nil))) pe_int (nomark _)) pa_nil)) (fun _ _ => rfl)))
      (pss_cons (ps_set (i := 2) sc__law_levels.nd rfl (.inl rfl) (pe_call G__law_next hr (by rfl) m__law_next k__law_next b__law_next v__law_next pass0 (pa_cons (pv 0) (pa_cons pe_int pa_nil))))
      (pss_cons (ps_if (pt_cmpR op_lt (pv 2) pe_int (nomark _))
        (pss_one (ps_ret (pe_op op_rep (pe_lst (pa_cons (pe_ix (ix_listK (K := K) rfl) (pe_lst (pa_cons pe_str (pa_cons pe_str pa_nil))) (pv 2) (fun _ _ => rfl)) pa_nil)) (pv 1))))
        pss_nil)
      (pss_cons (ps_setLc (i := 3) (own := [("_law_at", 4)]) (g := gName 4) (tt := tYes) rfl sc__law_levels.nd rfl rfl (sw_true rfl rfl rfl (by decide +kernel)) (pi_range1 (by rfl) T.b_range (pa_cons (pv 1) pa_nil)) (blkOk_by (own := [("_law_at", 4)]) (N := N__law_levels) (sc := defScope s__law_levels) (by decide +kernel)) (fun _ _ _ _ _ => (pg_name (i := 4) sc__law_levels.nd rfl (.inl rfl))) (fun _ _ _ _ _ => pts_nil) (fun _ _ _ _ _ => (pe_ix (ix_listK (K := K) rfl) (pe_lst (pa_cons pe_str (pa_cons pe_str pa_nil))) (pe_call G__law_next hr (by rfl) m__law_next k__law_next b__law_next v__law_next pass0 (pa_cons (pv 0) (pa_cons pe_int pa_nil))) (fun _ _ => rfl))))
      (pss_cons (ps_if (pt_cmpR op_eq (pv 2) pe_int (nomark _))
        (pss_one (ps_setLc (i := 3) (own := [("_law_at", 4)]) (g := gName 4) (tt := tYes) rfl sc__law_levels.nd rfl rfl (sw_true rfl rfl rfl (by decide +kernel)) (pi_range1 (by rfl) T.b_range (pa_cons (pv 1) pa_nil)) (blkOk_by (own := [("_law_at", 4)]) (N := N__law_levels) (sc := defScope s__law_levels) (by decide +kernel)) (fun _ _ _ _ _ => (pg_name (i := 4) sc__law_levels.nd rfl (.inl rfl))) (fun _ _ _ _ _ => pts_nil) (fun _ _ _ _ _ => (pe_ix (ix_listK (K := K) rfl) (pe_lst (pa_cons pe_str (pa_cons pe_str pa_nil))) (pe_op op_mod (pv 4) pe_int) (fun _ _ => rfl)))))
        pss_nil)
      (pss_one (ps_ret (pv 3)))))))), ?_⟩
    -- many
    refine ⟨_, rfl, p, 6, rfl, by decide, by decide, hs, fun r1 H1 hr1 s1 => ⟨1, r1, rfl, rfl, _, rfl, p, 60, rfl, by decide, by decide, s1.src, fun r2 H2 hr2 s2 => ⟨1, r2, rfl, rfl, by simp [sizeLine_eq], fun l hl => ?_⟩⟩⟩
    have s3 : Stp p H2 (upd H2 l (.lst [.int (1 + (r1 : Int)), .int (1 + (r2 : Int))])) := s2.src.stp_same (same_upd hl)
    refine ⟨_, rfl, p, 5, rfl, by decide, by decide, s3.src, fun r3 H4 hr3 s4 => ⟨rfl, .inr ⟨_, rfl, ?_⟩⟩⟩
    have eL := s4.keep _ _ (s2.src.ne hl) upd_same
    obtain ⟨m, em, hm0, hm⟩ : ∃ m : Nat, ([.int (1 + (r1 : Int)), .int (1 + (r2 : Int))] : List V)[if decide (V.int (r3 : Nat) = V.int 4) = true then 1 else 0]? = some (.int (m : Nat)) ∧ 1 ≤ m ∧ m ≤ 60 := by
      split
      · exact ⟨1 + r2, rfl, by omega, by omega⟩
      · exact ⟨1 + r1, rfl, by omega, by omega⟩
    refine ⟨l, _, ((if decide (V.int (r3 : Nat) = V.int 4) = true then 1 else 0 : Nat) : Int), _, rfl, ?_, SqL.of eL, atI_nat em, ?_⟩
    · split <;> rfl
    have s04 := ((s1.trans s2).trans s3).trans s4
    -- sort
    refine ⟨_, rfl, p, 5, rfl, by decide, by decide, s4.src, fun r5 H5 hr5 s5 => ?_⟩
    have s05 := s04.trans s5
    refine ⟨_, rfl, _, 2, rfl, rfl, _, rfl, ite2 (fun e => ?_) (fun e0 => ?_)⟩
    · have hr2' : r5 < 2 := by
        have z := of_decide_eq_true e
        omega
      refine ⟨by simp [sizeLine_eq], fun l6 hl6 => ?_⟩
      refine ⟨_, rfl, l6, _, r5, _, rfl, rfl, SqL.of upd_same, atI_nat (pick_lv hr2'), by simp [sizeLine_eq], fun l7 hl7 => ?_⟩
      refine ⟨_, rfl, l7, (m : Nat), _, rfl, rfl, upd_same, by omega, by omega, ?_, fun q hq => ?_⟩
      · exact sizeLine_le (by show 1 * m ≤ 1000000; omega)
      · have s8 := ((s05.same (same_upd hl6)).same (same_upd hl7)).same (same_upd (o := .lst (List.replicate ((m : Nat) : Int).toNat [lvV (decide (r5 = 0))]).flatten) hq)
        refine c _ q (List.replicate m (decide (r5 = 0))) s8 ?_ ?_ ?_ ?_
        · exact ((s05.same (same_upd hl6)).same (same_upd hl7)).free hq
        · rw [upd_same, flat_rep, List.map_replicate]
          rfl
        · intro e
          have z := congrArg List.length e
          rw [List.length_replicate] at z
          exact absurd z (by show ¬ m = 0; omega)
        · rw [List.length_replicate]
          exact hm
    · -- drawn words
      refine ⟨_, rfl, m, rfl, by omega, by omega, fun D hD => lc_range (lo := 0) (n := ((m : Nat) : Int).toNat) (fun i H' => Stp p H5 H' ∧ ∃ ws : List Bool, ws.length = i ∧ H' D = some (.lst (ws.map lvV)))
        ⟨s5.src.stp_same (same_upd hD), [], rfl, upd_same⟩ ?_ ?_⟩
      · rintro i H' hi ⟨st, ws, hw, eD⟩
        have nDp : D ≠ p := s5.src.ne hD
        refine ⟨rfl, yesT (iteT ?_)⟩
        refine ⟨by simp [sizeLine_eq], fun l8 hl8 => ?_⟩
        have s8 : Stp p H' (upd H' l8 (.lst [.str "queue", .str "stack"])) := st.src.stp_same (same_upd hl8)
        refine ⟨_, rfl, p, 2, rfl, by decide, by decide, s8.src, fun r9 H9 hr9 s9 => ?_⟩
        have eL8 := s9.keep _ _ (st.src.ne hl8) upd_same
        have eD9 := s9.keep _ _ nDp (s8.keep _ _ nDp eD)
        refine ⟨l8, _, r9, _, rfl, rfl, SqL.of eL8, atI_nat (pick_vl (by omega)), _, eD9, ?_, ⟨fun b o n e => ?_, ?_⟩, ws ++ [decide (r9 = 1)], ?_, ?_⟩
        · rw [List.length_map, hw]
          exact sizeLine_ge (by omega)
        · rw [upd_ne (ne_of_none e hD)]
          exact s9.keep _ _ n (s8.keep _ _ n (st.keep _ _ n e))
        · obtain ⟨x, y, z, h⟩ := s9.src
          exact ⟨x, y, z, by rw [upd_ne nDp.symm]; exact h⟩
        · rw [List.length_append, hw]
          rfl
        · rw [upd_same, List.map_append]
          rfl
      rintro H6 ⟨s6, ws, hw, eD⟩
      have hw' : ws.length = m := by rw [hw]; exact Int.toNat_natCast m
      have s06 := s05.trans s6
      have last : ∀ H7 q (vs : List Bool), Stp p H H7 → H q = none → H7 q = some (.lst (vs.map lvV)) → vs.length = m → Q (.ref q) H7 := fun H7 q vs st hq eq hv =>
        c H7 q vs st hq eq (fun e => by
          rw [e] at hv
          exact absurd hv (by show ¬ 0 = m; omega)) (by omega)
      have hD0 : H D = none := s05.free hD
      refine ⟨_, rfl, rfl, _, rfl, ite2 (fun e => ?_) (fun e => ?_)⟩
      · refine ⟨_, rfl, m, rfl, by omega, by omega, fun D2 hD2 => lc_range (lo := 0) (n := ((m : Nat) : Int).toNat) (fun i H' => Same H6 H' ∧ ∃ ws : List Bool, ws.length = i ∧ H' D2 = some (.lst (ws.map lvV)))
          ⟨same_upd hD2, [], rfl, upd_same⟩ ?_ ?_⟩
        · rintro i H' hi ⟨st, ws2, hw2, eD2⟩
          refine ⟨rfl, yesT (iteT ?_)⟩
          refine ⟨by simp [sizeLine_eq], fun l8 hl8 => ?_⟩
          have s8 := same_upd (o := .lst [.str "queue", .str "stack"]) hl8
          have ei : (0 + (i : Int)) % 2 = ((i % 2 : Nat) : Int) := by omega
          refine ⟨_, rfl, _, 2, rfl, rfl, (by decide : (0 : Int) < 2), l8, _, ((i % 2 : Nat) : Int), _, rfl, congrArg V.int ei, SqL.of upd_same, atI_nat (pick_vl (Nat.mod_lt i (by decide))), _, s8 _ _ eD2, ?_, fun b o e => ?_, ws2 ++ [decide (i % 2 = 1)], ?_, ?_⟩
          · rw [List.length_map, hw2]
            exact sizeLine_ge (by omega)
          · rw [upd_ne (ne_of_none e hD2)]
            exact s8 _ _ (st _ _ e)
          · rw [List.length_append, hw2]
            rfl
          · rw [upd_same, List.map_append]
            rfl
        rintro H7 ⟨s7, ws2, hw2, eD2⟩
        refine ⟨_, rfl, last H7 D2 ws2 (s06.same s7) (s06.free hD2) eD2 ?_⟩
        rw [hw2]
        exact Int.toNat_natCast m
      · exact ⟨_, rfl, last H6 D ws s06 hD0 eD hw'⟩
end
/-! ### the law's loop over its numbers -/
theorem seq_new {K : PySem.W.Frag} {a p : Addr} {xs : List V} {H H1 H2 : Hp} (h : SqL K H a xs) (hp : H p = none) (s1 : Same H H1) (s2 : Stp p H1 H2) : SqL K H2 a xs := by
  rcases h with (h | ⟨o, h⟩) | h
  · exact .inl (.inl (s2.keep _ _ (ne_of_none h hp) (s1 _ _ h)))
  · exact .inl (.inr ⟨o, s2.keep _ _ (ne_of_none h hp) (s1 _ _ h)⟩)
  · exact .inr h
/-! ### a law's wheel from the beginning -/
theorem LW.empty {H : Hp} {a : Addr} (h : H a = some (.dT [])) : LW H a [] [] := ⟨⟨[], h, trivial⟩, List.nodup_nil, List.nodup_nil⟩
theorem Lk.old {a : Addr} {H0 H H' : Hp} {ps' : List Addr} (ha : H0 a = none) (s : Same H0 H) (k : Lk a [] H H' ps') : Same H0 H' := fun c o e => k.keep c o (fun z => by rw [z, ha] at e; cases e) (fun h => by cases h) (s c o e)
/-- a new timer at the end -/
theorem st_new {b : Nat} {ws : List Bool} {t : Nat} {ms : List Tm} {cs : List LCell} {m : Tm} (hb : 2 ≤ b) (hcs : ∀ p, gv cs p = stM b ws t ms p) (hs : m.since = t) (hd : t < m.due) (p : Nat × Nat) : gv (lplace b ws t cs m) p = stM b ws t (ms ++ [m]) p := by
  rw [gv_place, hcs]
  unfold stM
  rw [List.filter_append]
  by_cases h : placeT b t m.due = p
  · have e1 : [m].filter (fun m => decide (placeT b t m.due = p)) = [m] := List.filter_cons_of_pos (by simpa using h)
    have e2 : levT b t m.due = p.1 := congrArg Prod.fst h
    have e3 : sideT b ws m.since m.due p.1 = wordAt ws p.1 := by
      rw [hs, ← e2]
      exact side_new hb hd
    rw [if_pos h, e1, deq_snoc, e3]
  · have e1 : [m].filter (fun m => decide (placeT b t m.due = p)) = [] := List.filter_cons_of_neg (by simpa using h)
    rw [if_neg h, e1, List.append_nil]
theorem emp_one {b : Nat} {ws : List Bool} {t : Nat} (cs : List LCell) (m : Tm) : emp (lplace b ws t cs m) ≤ emp cs := emp_put (ins_ne _ _ _) cs
theorem stM_nil {b : Nat} {ws : List Bool} {t : Nat} (p : Nat × Nat) : gv [] p = stM b ws t [] p := rfl
/-! ### the law's wheel, and draws beside it -/
/-- what stays but for what stands at xs and the wheel at a; its lists are new ones -/
structure LkX (xs : List Addr) (a : Addr) (H H' : Hp) (ps : List Addr) : Prop where
  keep : ∀ c o, c ∉ xs → c ≠ a → H c = some o → H' c = some o
  new : ∀ r ∈ ps, H r = none
  stay : ∀ c, H' c = none → H c = none
theorem LkX.lk {xs : List Addr} {a : Addr} {H H' H'' : Hp} {ps ps' : List Addr} (h : LkX xs a H H' ps) (k : Lk a ps H' H'' ps') : LkX xs a H H'' ps' := ⟨fun c o n1 n2 e => k.keep c o n2 (fun hm => by
    rw [h.new c hm] at e
    cases e) (h.keep c o n1 n2 e), fun r hr => (k.new r hr).elim (h.new r) (h.stay r), fun c e => h.stay c (k.stay c e)⟩
theorem LkX.draw {xs : List Addr} {a p : Addr} {H H' H'' : Hp} {ps : List Addr} (h : LkX xs a H H' ps) (k : Stp p H' H'') (hp : p ∈ xs) : LkX xs a H H'' ps := ⟨fun c o n1 n2 e => k.keep c o (fun z => n1 (by rw [z]; exact hp)) (h.keep c o n1 n2 e), h.new, fun c e => h.stay c (k.free e)⟩
theorem LkX.same {xs : List Addr} {a : Addr} {H H' H'' : Hp} {ps : List Addr} (h : LkX xs a H H' ps) (k : Same H' H'') : LkX xs a H H'' ps := ⟨fun c o n1 n2 e => k c o (h.keep c o n1 n2 e), h.new, fun c e => h.stay c (k.free e)⟩
theorem LkX.put {xs : List Addr} {a l : Addr} {H H' : Hp} {ps : List Addr} {o' : HO} (h : LkX xs a H H' ps) (hl : l ∈ xs) : LkX xs a H (upd H' l o') ps := ⟨fun c o n1 n2 e => by
    rw [upd_ne fun z => n1 (by rw [z]; exact hl)]
    exact h.keep c o n1 n2 e, h.new, fun c e => h.stay c (upd_none e)⟩
theorem LkX.not {xs : List Addr} {a c : Addr} {H H' : Hp} {ps : List Addr} {o : HO} (h : LkX xs a H H' ps) (hc : H c = some o) : c ∉ ps := fun hm => by
  rw [h.new c hm] at hc
  cases hc
theorem LW.draw {H H' : Hp} {a p : Addr} {cs : List LCell} {ps : List Addr} (h : LW H a cs ps) (k : Stp p H H') (hs : SrcAt H p) (n1 : p ≠ a) (n2 : p ∉ ps) : LW H' a cs ps := h.frame fun c o hc e => k.keep _ _ (fun z => by
  rcases hc with hc | hc | ⟨xs, hc⟩
  · exact n1 (z.symm.trans hc)
  · exact n2 (by rw [← z]; exact hc)
  · obtain ⟨x, y, w, h2⟩ := hs
    rw [z, h2, hc] at e
    cases e) e
theorem LW.put {H : Hp} {a l : Addr} {cs : List LCell} {ps : List Addr} {xs : List V} {o' : HO} (h : LW H a cs ps) (hl : H l = some (.lst xs)) (n1 : l ≠ a) (n2 : l ∉ ps) : LW (upd H l o') a cs ps := h.frame fun c o hc e => by
  rw [upd_ne fun z => ?_]
  · exact e
  rcases hc with hc | hc | ⟨ys, hc⟩
  · exact n1 (z.symm.trans hc)
  · exact n2 (by rw [← z]; exact hc)
  · rw [z, hl, hc] at e
    cases e
/-! ### orders: more -/
theorem ord_lt {fs : List Bool} : ∀ j ∈ ordOf fs, j < fs.length := by
  induction fs using snoc_ind with
  | h0 => exact fun j hj => by cases hj
  | hs fs f ih =>
    intro j hj
    rw [ord_snoc] at hj
    rw [List.length_append]
    rcases insT_mem.mp hj with e | e
    · rw [e]
      exact Nat.lt_succ_self _
    · have := ih j e
      show j < fs.length + 1
      omega
theorem ins_map {f : Bool} {n : Nat} {l : List Nat} (g : Nat → Nat) : (insT f n l).map g = insT f (g n) (l.map g) := by
  unfold insT
  split
  · rfl
  · rw [List.map_append]
    rfl
theorem ins_filter {f : Bool} {n : Nat} {l : List Nat} (p : Nat → Bool) (h : p n = true) : (insT f n l).filter p = insT f n (l.filter p) := by
  unfold insT
  split
  · rw [List.filter_cons_of_pos h]
  · rw [List.filter_append, List.filter_cons_of_pos h, List.filter_nil]
theorem ins_filter_no {f : Bool} {n : Nat} {l : List Nat} (p : Nat → Bool) (h : p n = false) : (insT f n l).filter p = l.filter p := by
  unfold insT
  split
  · rw [List.filter_cons_of_neg (by rw [h]; decide)]
  · rw [List.filter_append, List.filter_cons_of_neg (by rw [h]; decide), List.filter_nil, List.append_nil]
/-! ### law k25: all rising lists, the first good one -/
def rngN (a d : Nat) : List Nat := (List.range (d - a)).map fun i => a + i
theorem rng_mem {a d x : Nat} : x ∈ rngN a d ↔ a ≤ x ∧ x < d := by
  unfold rngN
  rw [List.mem_map]
  constructor
  · rintro ⟨i, hi, rfl⟩
    have := List.mem_range.mp hi
    omega
  · rintro ⟨h1, h2⟩
    exact ⟨x - a, List.mem_range.mpr (by omega), by omega⟩
theorem rng_asc (a d : Nat) : (rngN a d).Pairwise (· < ·) := by
  unfold rngN
  rw [List.pairwise_map]
  exact List.pairwise_lt_range.imp fun h => by omega
def lastD (n : Nat) (row : List Nat) : Nat := row.getLast?.getD n
theorem last_snoc (n : Nat) (row : List Nat) (x : Nat) : lastD n (row ++ [x]) = x := by
  unfold lastD
  rw [List.getLast?_append]
  rfl
def allL (n d : Nat) : Nat → List (List Nat)
  | 0 => [[]]
  | m + 1 => (allL n d m).flatMap fun row => (rngN (lastD n row) d).map fun x => row ++ [x]
theorem all_ok {n d : Nat} : ∀ m, ∀ row ∈ allL n d m, row.length = m ∧ row.Pairwise (· ≤ ·) ∧ (∀ x ∈ row, n ≤ x ∧ x < d ∧ x ≤ lastD n row) ∧ n ≤ lastD n row
  | 0, row, h => by
    rw [List.mem_singleton.mp h]
    exact ⟨rfl, List.Pairwise.nil, (fun x hx => by cases hx), Nat.le_refl _⟩
  | m + 1, row, h => by
    obtain ⟨r, hr, h2⟩ := List.mem_flatMap.mp h
    obtain ⟨x, hx, rfl⟩ := List.mem_map.mp h2
    obtain ⟨i1, i2, i3, i4⟩ := all_ok m r hr
    obtain ⟨x1, x2⟩ := rng_mem.mp hx
    rw [last_snoc]
    refine ⟨by rw [List.length_append, i1]; rfl, List.pairwise_append.mpr ⟨i2, List.pairwise_singleton .., fun a ha c hc => ?_⟩, fun y hy => ?_, by omega⟩
    · rw [List.mem_singleton.mp hc]
      have := (i3 a ha).2.2
      omega
    · rcases List.mem_append.mp hy with z | z
      · have := i3 y z
        exact ⟨this.1, this.2.1, by omega⟩
      · rw [List.mem_singleton.mp z]
        exact ⟨by omega, x2, Nat.le_refl _⟩
theorem good_step {o : List Nat} (ho : IsOrd o) {m : Nat} (hm : m < o.length) {fs : List Bool} {f : Bool} (hl : fs.length = m) : ordOf (fs ++ [f]) = uptoN o (m + 1) ↔ ordOf fs = uptoN o m ∧ (m = 0 ∨ wantAt o m = some f) := by
  by_cases c : m = 0
  · subst c
    have e : fs = [] := List.eq_nil_of_length_eq_zero hl
    subst e
    have z := ord_right ho (f0 := f) (fs := []) (by show 0 + 1 ≤ o.length; omega) (fun i g h => by simp at h)
    have z0 : uptoN o 0 = [] := List.filter_eq_nil_iff.mpr fun x _ => by simp
    exact ⟨fun _ => ⟨z0.symm, .inl rfl⟩, fun _ => z⟩
  · have hmem : ∀ j, j ≤ m → j ∈ o := fun j hj => (ho.2 j).mpr (by omega)
    rw [ord_snoc, hl]
    constructor
    · intro e
      have e2 : ordOf fs = uptoN o m := by
        have h1 : (insT f m (ordOf fs)).filter (fun x => decide (x < m)) = (ordOf fs).filter fun x => decide (x < m) := ins_filter_no _ (decide_eq_false (Nat.lt_irrefl m))
        have h2 : (ordOf fs).filter (fun x => decide (x < m)) = ordOf fs := List.filter_eq_self.mpr fun x hx => decide_eq_true (by have := ord_lt x hx; omega)
        have h3 := upto_upto o (show m ≤ m + 1 by omega)
        rw [← e] at h3
        rw [← h2, ← h1]
        exact h3
      refine ⟨e2, .inr ((want_iff ho.1 hmem (by omega) f).mpr ?_)⟩
      rw [← e, e2]
    · rintro ⟨e, h⟩
      rcases h with h | h
      · exact absurd h c
      · rw [e]
        exact ((want_iff ho.1 hmem (by omega) f).mp h).symm
theorem fm_filter {A B : List Nat → List (List Nat)} {p q : List Nat → Bool} : ∀ {l : List (List Nat)}, (∀ r ∈ l, (A r).filter p = if q r = true then B r else []) → (l.flatMap A).filter p = (l.filter q).flatMap B
  | [], _ => rfl
  | r :: l, h => by
    have ih := fm_filter (l := l) fun x hx => h x (List.mem_cons_of_mem _ hx)
    have hr := h r (List.mem_cons_self ..)
    rw [List.flatMap_cons, List.filter_append, ih, hr]
    by_cases c : q r = true
    · rw [if_pos c, List.filter_cons_of_pos c, List.flatMap_cons]
    · rw [if_neg c, List.filter_cons_of_neg c, List.nil_append]
noncomputable def goodL (b : Nat) (ws : List Bool) (d : Nat) (o : List Nat) (n m : Nat) : List (List Nat) := (allL n d m).filter fun row => decide (ordOf (sdOf b ws d row) = uptoN o m)
open Classical in
noncomputable def nextL (b : Nat) (ws : List Bool) (d : Nat) (o : List Nat) (m y : Nat) : List Nat := (rngN y d).filter fun x => decide (m = 0 ∨ wantAt o m = some (sideT b ws x d 0))
theorem sd_snoc (b : Nat) (ws : List Bool) (d : Nat) (row : List Nat) (x : Nat) : sdOf b ws d (row ++ [x]) = sdOf b ws d row ++ [sideT b ws x d 0] := by
  unfold sdOf
  rw [List.map_append]
  rfl
theorem good_succ {b : Nat} {ws : List Bool} {d : Nat} {o : List Nat} (ho : IsOrd o) {n m : Nat} (hm : m < o.length) : goodL b ws d o n (m + 1) = (goodL b ws d o n m).flatMap fun row => (nextL b ws d o m (lastD n row)).map fun x => row ++ [x] := by
  unfold goodL
  show ((allL n d m).flatMap _).filter _ = _
  refine fm_filter fun r hr => ?_
  have hl : (sdOf b ws d r).length = m := by
    unfold sdOf
    rw [List.length_map]
    exact (all_ok m r hr).1
  rw [List.filter_map]
  by_cases c : ordOf (sdOf b ws d r) = uptoN o m
  · rw [if_pos (decide_eq_true c)]
    unfold nextL
    congr 1
    refine List.filter_congr fun x _ => ?_
    show decide (ordOf (sdOf b ws d (r ++ [x])) = uptoN o (m + 1)) = _
    rw [sd_snoc]
    by_cases c2 : m = 0 ∨ wantAt o m = some (sideT b ws x d 0)
    · rw [decide_eq_true c2]
      exact decide_eq_true ((good_step ho hm hl).mpr ⟨c, c2⟩)
    · rw [decide_eq_false c2]
      exact decide_eq_false fun z => c2 ((good_step ho hm hl).mp z).2
  · rw [if_neg (by simpa using c)]
    rw [List.filter_eq_nil_iff.mpr]
    · rfl
    · intro x _
      show ¬ decide (ordOf (sdOf b ws d (r ++ [x])) = uptoN o (m + 1)) = true
      rw [sd_snoc]
      intro z
      exact c ((good_step ho hm hl).mp (of_decide_eq_true z)).1
/-- the last tick told -/
theorem Pl.snoc {R : List (Nat × Bool)} {w : Option Bool} {a0 : Nat} {wv : List (Option Bool)} {xs' : List Nat} {ok : Bool} (h : Pl R a0 wv xs' ok) : ∀ {ws : List (Option Bool)}, wv = ws ++ [w] → ok = true → ∀ {x0 : Nat × Bool}, R[a0]? = some x0 →
    ∃ (xs : List Nat) (x a i : Nat) (f f' : Bool), xs' = xs ++ [x] ∧ Pl R a0 ws xs true ∧ R[a]? = some (lastD x0.1 xs, f') ∧ a ≤ i ∧ R[i]? = some (x, f) ∧ some f = w ∧ ∀ j r, a ≤ j → j < i → R[j]? = some r → some r.2 ≠ w := by
  induction h with
  | nil =>
    intro ws e
    cases ws <;> cases e
  | @cons a i x f w' ws' xs ok h ha hw hno t ih =>
    intro ws e hok x0 hx0
    cases ws with
    | nil =>
      cases e
      cases t with
      | nil => exact ⟨[], x, a, i, f, x0.2, rfl, .nil, hx0, ha, h, hw, hno⟩
    | cons w1 ws1 =>
      have e1 : w' = w1 ∧ ws' = ws1 ++ [w] := by
        injection e with e1 e2
        exact ⟨e1, e2⟩
      obtain ⟨xs1, x1, a1, i1, f1, f1', q1, q2, q3, q4⟩ := ih e1.2 hok h
      refine ⟨x :: xs1, x1, a1, i1, f1, f1', by rw [q1]; rfl, ?_, ?_, q4⟩
      · exact .cons h ha (by rw [← e1.1]; exact hw) (by rw [← e1.1]; exact hno) q2
      · rw [q3]
        congr 2
        unfold lastD
        cases xs1 with
        | nil => rfl
        | cons y ys =>
          rw [List.getLast?_cons_cons, List.getLast?_cons]
          rfl
  | stop h =>
    intro ws e hok
    cases hok
/-- the least of the next ticks -/
theorem next_head {b n d k a i y x : Nat} {ws : List Bool} {o : List Nat} {m : Nat} {f f' : Bool} (hm : 0 < m) (hT : Turns n d (fun t => sideT b ws t d 0) (tsOf ws (rowsOf b n d k))) (ha : (tsOf ws (rowsOf b n d k))[a]? = some (y, f')) (hai : a ≤ i) (hi : (tsOf ws (rowsOf b n d k))[i]? = some (x, f)) (hw : some f = wantAt o m)
    (hno : ∀ (j : Nat) (r : Nat × Bool), a ≤ j → j < i → (tsOf ws (rowsOf b n d k))[j]? = some r → some r.2 ≠ wantAt o m) : (∃ rest, nextL b ws d o m y = x :: rest) ∧ ∀ z, y ≤ z → z < d → wantAt o m = some (sideT b ws z d 0) → x ≤ z := by
  have hmin : ∀ z, y ≤ z → z < d → wantAt o m = some (sideT b ws z d 0) → x ≤ z := fun z h1 h2 h3 => by
    have hn := (hT.lt _ (List.mem_of_getElem? ha)).1
    obtain ⟨i', r, b1, b2, b3, b4⟩ := hT.at_ z (by have : n ≤ y := hn; omega) h2
    have b3' : sideT b ws z d 0 = r.2 := b3
    have hai' := b4 a _ ha h1
    rcases Nat.lt_or_ge i' i with c | c
    · exact absurd (by rw [h3, b3']) (hno i' r hai' c b1)
    · exact Nat.le_trans (asc_le hT.asc hi b1 c) b2
  refine ⟨?_, hmin⟩
  have hx1 := hT.lt _ (List.mem_of_getElem? hi)
  have hyx : y ≤ x := asc_le hT.asc ha hi hai
  have hown : sideT b ws x d 0 = f := hT.own _ (List.mem_of_getElem? hi)
  have hmem : x ∈ nextL b ws d o m y := List.mem_filter.mpr ⟨rng_mem.mpr ⟨hyx, hx1.2⟩, decide_eq_true (.inr (by rw [hown, hw]))⟩
  cases hc : nextL b ws d o m y with
  | nil =>
    rw [hc] at hmem
    cases hmem
  | cons z zs =>
    have hz : z ∈ nextL b ws d o m y := by rw [hc]; exact List.mem_cons_self ..
    obtain ⟨z1, z2⟩ := List.mem_filter.mp hz
    obtain ⟨z3, z4⟩ := rng_mem.mp z1
    have z5 : wantAt o m = some (sideT b ws z d 0) := (of_decide_eq_true z2).resolve_left (by omega)
    have h1 := hmin z z3 z4 z5
    have p : (z :: zs).Pairwise (· < ·) := by rw [← hc]; exact (rng_asc y d).filter _
    rw [hc] at hmem
    rcases List.mem_cons.mp hmem with e | e
    · exact ⟨zs, by rw [e]⟩
    · have := (List.pairwise_cons.mp p).1 x e
      omega
/-- what is picked tick by tick comes first of all the good lists -/
theorem first_good {b n d k : Nat} {ws : List Bool} {o : List Nat} (ho : IsOrd o) (hnd : n < d) (hT : Turns n d (fun t => sideT b ws t d 0) (tsOf ws (rowsOf b n d k))) {x00 : Bool} (hR0 : (tsOf ws (rowsOf b n d k))[0]? = some (n, x00)) :
    ∀ (m : Nat) (xs : List Nat), m + 1 ≤ o.length → Pl (tsOf ws (rowsOf b n d k)) 0 ((wantOf o).take m) xs true → ∃ rest, goodL b ws d o n (m + 1) = (n :: xs) :: rest ∧ ∀ r ∈ goodL b ws d o n (m + 1), lastD n (n :: xs) ≤ lastD n r := by
  intro m
  induction m with
  | zero =>
    intro xs hm hp
    have hx : xs = [] := List.eq_nil_of_length_eq_zero (by rw [hp.len]; rfl)
    subst hx
    rw [good_succ ho (by omega)]
    have g0 : goodL b ws d o n 0 = [[]] := by
      have z0 : uptoN o 0 = [] := List.filter_eq_nil_iff.mpr fun x _ => by simp
      unfold goodL
      rw [z0]
      rfl
    have en : nextL b ws d o 0 n = rngN n d := List.filter_eq_self.mpr fun x _ => decide_eq_true (.inl rfl)
    have er : ∃ rest, rngN n d = n :: rest := by
      unfold rngN
      obtain ⟨c, hc⟩ : ∃ c, d - n = c + 1 := ⟨d - n - 1, by omega⟩
      rw [hc, List.range_succ_eq_map]
      exact ⟨_, rfl⟩
    obtain ⟨rest, er⟩ := er
    rw [g0, List.flatMap_cons, List.flatMap_nil, List.append_nil]
    show ∃ rest, ((nextL b ws d o 0 n).map fun x => [] ++ [x]) = _ ∧ ∀ r ∈ ((nextL b ws d o 0 n).map fun x => [] ++ [x]), n ≤ lastD n r
    rw [en]
    refine ⟨rest.map fun x => [] ++ [x], by rw [er]; rfl, fun r hr => ?_⟩
    obtain ⟨x, hx, rfl⟩ := List.mem_map.mp hr
    rw [last_snoc]
    exact (rng_mem.mp hx).1
  | succ m ih =>
    intro xs hm hp
    have ew : (wantOf o).take (m + 1) = (wantOf o).take m ++ [wantAt o (m + 1)] := by
      rw [List.take_add_one, wantOf_at (by omega)]
      rfl
    obtain ⟨xs1, x, a, i, f, f', q1, q2, q3, q4, q5, q6, q7⟩ := hp.snoc ew rfl hR0
    obtain ⟨rest, i1, i2⟩ := ih xs1 (by omega) q2
    have hlast : lastD n (n :: xs1) = lastD n xs1 := by
      unfold lastD
      cases xs1 with
      | nil => rfl
      | cons y ys =>
        rw [List.getLast?_cons_cons]
    obtain ⟨⟨nr, n1⟩, n2⟩ := next_head (Nat.succ_pos m) hT q3 q4 q5 q6 q7
    have en : nextL b ws d o (m + 1) (lastD n (n :: xs1)) = x :: nr := by rw [hlast]; exact n1
    have hall : ∀ r ∈ goodL b ws d o n (m + 1 + 1), lastD n (n :: xs) ≤ lastD n r := fun r hr => by
      rw [good_succ ho (by omega)] at hr
      obtain ⟨r0, h1, h2⟩ := List.mem_flatMap.mp hr
      obtain ⟨z, h3, rfl⟩ := List.mem_map.mp h2
      obtain ⟨h4, h5⟩ := List.mem_filter.mp h3
      obtain ⟨h6, h7⟩ := rng_mem.mp h4
      have h8 := i2 r0 h1
      rw [last_snoc, q1, ← List.cons_append, last_snoc]
      exact n2 z (by rw [← hlast]; omega) h7 ((of_decide_eq_true h5).resolve_left (by omega))
    have hhead : ∃ rest, goodL b ws d o n (m + 1 + 1) = (n :: xs) :: rest := by
      rw [good_succ ho (by omega), i1, List.flatMap_cons, en, List.map_cons, List.cons_append, q1]
      exact ⟨_, rfl⟩
    obtain ⟨rest', hr'⟩ := hhead
    exact ⟨rest', hr', hall⟩
/-- where one has no tick left no list is good -/
theorem none_good {b n d k : Nat} {ws : List Bool} {o : List Nat} (ho : IsOrd o) (hnd : n < d) (hT : Turns n d (fun t => sideT b ws t d 0) (tsOf ws (rowsOf b n d k))) {x00 : Bool} (hR0 : (tsOf ws (rowsOf b n d k))[0]? = some (n, x00)) {xs : List Nat} (hp : Pl (tsOf ws (rowsOf b n d k)) 0 (wantOf o) xs false) : goodL b ws d o n (xs.length + 2) = [] := by
  obtain ⟨w, s1, s2, y, s3, s4⟩ := hp.split hT rfl hR0
  have hxl : xs.length + 1 < o.length := by
    have := (List.getElem?_eq_some_iff.mp s1).1
    rw [wantOf_len] at this
    omega
  rw [wantOf_at hxl] at s1
  have ew := Option.some.inj s1
  obtain ⟨rest, i1, i2⟩ := first_good ho hnd hT hR0 xs.length xs (by omega) s2
  have hy : lastD n (n :: xs) = y := by
    unfold lastD
    rw [List.getLast?_eq_getElem?]
    show ((n :: xs)[xs.length + 1 - 1]?).getD n = y
    rw [Nat.add_sub_cancel, s3]
    rfl
  rw [good_succ ho hxl]
  refine List.eq_nil_iff_forall_not_mem.mpr fun r hr => ?_
  obtain ⟨r0, h1, h2⟩ := List.mem_flatMap.mp hr
  obtain ⟨z, h3, rfl⟩ := List.mem_map.mp h2
  obtain ⟨h4, h5⟩ := List.mem_filter.mp h3
  obtain ⟨h6, h7⟩ := rng_mem.mp h4
  have h8 := i2 r0 h1
  have h9 := (of_decide_eq_true h5).resolve_left (by omega)
  exact s4 z (by omega) h7 (by rw [← h9, ew])
/-! ### lists of numbers as data -/
theorem eqvA_nats : ∀ {ns ms : List Nat}, PyData.eqvAll (ns.map fun x => PyData.int (x : Nat)) (ms.map fun x => PyData.int (x : Nat)) = true → ns = ms
  | [], [], _ => rfl
  | [], _ :: _, h => by cases h
  | _ :: _, [], h => by cases h
  | n :: ns, m :: ms, h => by
    have h' : (PyData.eqv (.int (n : Nat)) (.int (m : Nat)) && PyData.eqvAll (ns.map fun x => PyData.int (x : Nat)) (ms.map fun x => PyData.int (x : Nat))) = true := h
    rw [Bool.and_eq_true] at h'
    have e : ((n : Nat) : Int) = (m : Nat) := by simpa [PyData.eqv] using h'.1
    rw [eqvA_nats h'.2, Int.ofNat.inj e]
theorem nats_differ {l m : List Nat} (h : l ≠ m) : PyData.eqv (.list (l.map fun y => PyData.int (y : Nat))) (.list (m.map fun y => PyData.int (y : Nat))) = false := by
  cases e : PyData.eqv (.list (l.map fun y => PyData.int (y : Nat))) (.list (m.map fun y => PyData.int (y : Nat))) with
  | false => rfl
  | true => exact absurd (eqvA_nats (show PyData.eqvAll (l.map fun y => PyData.int (y : Nat)) (m.map fun y => PyData.int (y : Nat)) = true from e)) h
/-! ### orders, step by step -/
theorem le_lt {x n : Nat} : ((x : Nat) : Int) ≤ ((n : Nat) : Int) ↔ x < n + 1 := by omega
theorem upto_step (o : List Nat) (n : Nat) {i x : Nat} (h : o[i]? = some x) : (o.take (i + 1)).filter (fun x => decide (x < n)) = (o.take i).filter (fun x => decide (x < n)) ++ if x < n then [x] else [] := by
  rw [List.take_add_one, h, Option.toList_some, List.filter_append]
  congr 1
  by_cases c : x < n
  · rw [if_pos c, List.filter_cons_of_pos (p := fun x => decide (x < n)) (decide_eq_true c)]
    rfl
  · rw [if_neg c, List.filter_cons_of_neg (p := fun x => decide (x < n)) (by simpa using c)]
    rfl
theorem nat_item {o : List Nat} {i : Nat} {v : V} (hv : (o.map fun x => V.int (x : Nat))[i]? = some v) : ∃ x, o[i]? = some x ∧ v = V.int (x : Nat) := by
  rw [List.getElem?_map] at hv
  cases e : o[i]? with
  | none =>
    rw [e] at hv
    cases hv
  | some y =>
    rw [e] at hv
    exact ⟨y, rfl, (Option.some.inj hv).symm⟩
/-! ### the last item -/
theorem atI_last {xs : List V} {x : V} (h : xs[xs.length - 1]? = some x) : atI xs (-1) = some x := by
  have hl := (List.getElem?_eq_some_iff.mp h).1
  unfold atI
  have e : ixN xs.length (-1) = some (xs.length - 1) := by
    unfold ixN
    rw [if_neg (by omega), if_pos (by omega)]
    congr 1
    omega
  rw [e]
  exact h
/-! ### timers of one due tick -/
/-- the timers set at the ticks, all of one due tick -/
def msOf (d : Nat) (ts : List Nat) : List Tm := ts.zipIdx.map fun z => ⟨z.2, d, none, z.1⟩
theorem ms_snoc (d : Nat) (ts : List Nat) (t : Nat) : msOf d (ts ++ [t]) = msOf d ts ++ [⟨ts.length, d, none, t⟩] := by
  unfold msOf
  rw [List.zipIdx_append, List.map_append]
  simp
theorem ms_len (d : Nat) (ts : List Nat) : (msOf d ts).length = ts.length := by
  unfold msOf
  rw [List.length_map, List.length_zipIdx]
theorem ms_mem {d : Nat} {ts : List Nat} {m : Tm} (h : m ∈ msOf d ts) : m.due = d ∧ m.per = none ∧ m.num < ts.length ∧ m.since ∈ ts := by
  obtain ⟨z, hz, rfl⟩ := List.mem_map.mp h
  have z1 := List.mem_zipIdx_iff_getElem?.mp hz
  exact ⟨rfl, rfl, (List.getElem?_eq_some_iff.mp z1).1, List.mem_of_getElem? z1⟩
theorem ms_order (b : Nat) (ws : List Bool) (d : Nat) (ts : List Nat) : orderAt b ws d (msOf d ts) = ordOf (sdOf b ws d ts) := by
  induction ts using snoc_ind with
  | h0 => rfl
  | hs ts t ih =>
    have e : sdOf b ws d (ts ++ [t]) = sdOf b ws d ts ++ [sideT b ws t d 0] := by
      unfold sdOf
      rw [List.map_append]
      rfl
    rw [ms_snoc, order_snoc, if_pos rfl, ih, e, ord_snoc]
    congr 1
    unfold sdOf
    rw [List.length_map]
theorem ms_nd (d : Nat) (ts : List Nat) : ((msOf d ts).map (·.num)).Nodup := by
  induction ts using snoc_ind with
  | h0 => exact List.nodup_nil
  | hs ts t ih =>
    rw [ms_snoc, List.map_append]
    refine L2.nd_snoc ih fun z => ?_
    obtain ⟨m, hm, e⟩ := List.mem_map.mp z
    have := (ms_mem hm).2.2.1
    have e' : m.num = ts.length := e
    omega
/-! ### law k25: ticks played tick by tick at the law's own wheel -/
section
variable {P : Program} {w : World} {K : PySem.W.Frag} {mg : Str → Option Value} {base : Heap}
def spFired25 (K : PySem.W.Frag) : Sp := fun vs H Q _ => ∃ (ql T : Addr) (b n d : Nat) (ws : List Bool) (ts : List Nat), vs = [.int (b : Nat), .ref ql, .int (n : Nat), .int (d : Nat), .ref T] ∧ 2 ≤ b ∧ b ≤ 64 ∧ n < d ∧ d < 2 ^ 240 ∧ H ql = some (.lst (ws.map lvV)) ∧ ws ≠ [] ∧
  H T = some (.lst (ts.map fun x => V.int (x : Nat))) ∧ ts.length ≤ 20 ∧ ts.Pairwise (· ≤ ·) ∧ (∀ t ∈ ts, n ≤ t ∧ t < d) ∧
  ∀ H' r, Same H H' → H r = none → H' r = some (.lst ((ordOf (sdOf b ws d ts)).map fun x => V.int (x : Nat))) → Q (.ref r) H'
theorem ok_fired25 {f : Addr} {fd : FuncData} (F : Fun K "_law_fired" "_law_fired" s__law_fired f fd) (T : Tx K mg) (h2 : Has P w K mg base 2 "_law_place" ["_law_lists_here", "_law_base", "_law_levels_here", "_law_now", "_law_row"] [] (spPlace K))
    (h3 : Has P w K mg base 3 "_law_pass" ["_law_lists_here", "_law_base", "_law_levels_here", "_law_tick"] [] (spPass K)) :
    FnOk P w K mg base CX0 4 f fd ["_law_base", "_law_levels_here", "_law_begin", "_law_due_here", "_law_ticks"] (spFired25 K) := by
  obtain ⟨f__law_place, fd__law_place, ds__law_place, G__law_place, m__law_place, k__law_place, b__law_place, v__law_place⟩ := h2
  obtain ⟨f__law_pass, fd__law_pass, ds__law_pass, G__law_pass, m__law_pass, k__law_pass, b__law_pass, v__law_pass⟩ := h3
  refine F.ok sc__law_fired (fun vs H Q E h => ?_) (fun cdv A outer s H vs Q E hr h => ?_)
  · obtain ⟨ql, T, b, n, d, ws, ts, rfl, _⟩ := h
    rfl
  · obtain ⟨ql, L, b, n, d, ws, ts, rfl, hb, hb64, hnd, hd, hql, hne, hT, t20, tasc, tlt, fin⟩ := h
    refine ⟨_, (pss_cons (ps_set (i := 5) sc__law_fired.nd rfl (.inl rfl) pe_dnewT)
      (pss_cons (ps_set (i := 6) sc__law_fired.nd rfl (.inl rfl) (pe_lst pa_nil))
      (pss_cons (ps_for PassesOwn.never rfl (pi_wide2 (by rfl) T.b_range (pa_cons (pv 2) (pa_cons (pv 3) pa_nil))) (pg_name (i := 7) sc__law_fired.nd rfl (.inl rfl))
        (pss_cons (ps_for PassesOwn.never rfl (pi_enum (by rfl) T.b_enumerate (pa_cons (pv 4) pa_nil)) (pg_tupK (K := K) (n := 2) rfl rfl (pgs_cons (pg_name (i := 8) sc__law_fired.nd rfl (.inl rfl)) (pgs_cons (pg_name (i := 9) sc__law_fired.nd rfl (.inl rfl)) pgs_nil)))
          (pss_one (ps_if (pt_cmpR op_eq (pv 9) (pv 7) (nomark _))
            (pss_one (ps_expr (pe_call G__law_place (hr.mono (by decide)) (by rfl) m__law_place k__law_place b__law_place v__law_place pass0 (pa_cons (pv 5) (pa_cons (pv 0) (pa_cons (pv 1) (pa_cons (pv 7) (pa_cons (pe_tup (pa_cons (pv 8) (pa_cons (pv 3) (pa_cons pe_non pa_nil)))) pa_nil))))))))
            pss_nil)))
        (pss_one (ps_set (i := 6) sc__law_fired.nd rfl (.inl rfl) (pe_call G__law_pass hr (by rfl) m__law_pass k__law_pass b__law_pass v__law_pass pass0 (pa_cons (pv 5) (pa_cons (pv 0) (pa_cons (pv 1) (pa_cons (pe_op op_addN (pv 7) pe_int) pa_nil)))))))))
      (pss_one (ps_ret (pv 6)))))), ?_⟩
    refine fun Aw hA0 => ?_
    have uA := same_upd (o := .dT []) hA0
    have eA := upd_same (H := H) (a := Aw) (o := .dT [])
    generalize upd H Aw (.dT []) = H0 at uA eA ⊢
    have nLA : ∀ {c : Addr} {o : HO}, H c = some o → c ≠ Aw := fun e z => by
      rw [z, hA0] at e
      cases e
    refine ⟨by simp [sizeLine_eq], fun F0 hF0 => ?_⟩
    have u1 := same_upd (o := .lst []) hF0
    have eA1 := u1 _ _ eA
    have u01 := uA.trans u1
    generalize upd H0 F0 (.lst []) = H1 at eA1 u01 ⊢
    have hlen : (((d : Nat) : Int) - ((n : Nat) : Int)).toNat = d - n := by omega
    refine ⟨_, rfl, _, rfl, _, _, rfl, for_range (Pv := fun i σ H' => ∃ (Fa : Addr) (cs : List LCell) (ps : List Addr) (y7 y8 y9 : Option V), σ = [some (.int (b : Nat)), some (.ref ql), some (.int (n : Nat)), some (.int (d : Nat)), some (.ref L), some (.ref Aw), some (.ref Fa), y7, y8, y9] ∧
        LkX [] Aw H H' ps ∧ LW H' Aw cs ps ∧ emp cs ≤ 0 ∧ (n + i < d → ∃ c, c ≤ ts.length ∧ (∀ p, gv cs p = stM b ws (n + i) (msOf d (ts.take c)) p) ∧ ∀ j x, ts[j]? = some x → (j < c ↔ x < n + i)) ∧
        (n + i = d → H Fa = none ∧ H' Fa = some (.lst ((ordOf (sdOf b ws d ts)).map fun x => V.int (x : Nat)))))
      ⟨F0, [], [], none, none, none, rfl, ⟨fun c o _ _ e => u01 _ _ e, (fun r hr => by cases hr), fun c e => u01.free e⟩, .empty eA1, Nat.le_refl _, fun _ => ⟨0, Nat.zero_le _, fun pp => stM_nil pp, fun j x hj => ⟨fun h => absurd h (Nat.not_lt_zero j), fun h => by have := (tlt x (List.mem_of_getElem? hj)).1; omega⟩⟩, fun h => by omega⟩ ?_ ?_⟩
    · rintro i σ H2 hi ⟨Fa, cs, ps, y7, y8, y9, rfl, X, W, hem, hst, _⟩
      rw [hlen] at hi
      clear hlen
      have hnid : n + i < d := by
        clear hst
        omega
      obtain ⟨c0, hc0, hgv0, hiff0⟩ := hst hnid
      obtain ⟨t, et⟩ : ∃ t, t = n + i := ⟨_, rfl⟩
      have ei : V.int (((n : Nat) : Int) + (i : Nat)) = .int (t : Nat) := congrArg V.int (by omega)
      rw [ei]
      rw [← et] at hgv0 hiff0 hnid
      refine ⟨_, rfl, L, _, rfl, SqL.of (X.keep _ _ (by simp) (nLA hT) hT), for_enum (K := K) (a := L) (xs := ts.map fun x => V.int (x : Nat)) (fun j σ H' => ∃ (cs : List LCell) (ps : List Addr) (c : Nat) (y8 y9 : Option V), σ = [some (.int (b : Nat)), some (.ref ql), some (.int (n : Nat)), some (.int (d : Nat)), some (.ref L), some (.ref Aw), some (.ref Fa), some (.int (t : Nat)), y8, y9] ∧
          LkX [] Aw H H' ps ∧ LW H' Aw cs ps ∧ emp cs ≤ 0 ∧ c ≤ ts.length ∧ (∀ p, gv cs p = stM b ws t (msOf d (ts.take c)) p) ∧ ∀ i x, ts[i]? = some x → (i < c ↔ (x < t ∨ (x = t ∧ i < j))))
        ⟨cs, ps, c0, _, _, rfl, X, W, hem, hc0, hgv0, fun i x hx => (hiff0 i x hx).trans ⟨.inl, fun h => h.elim id fun z => absurd z.2 (Nat.not_lt_zero i)⟩⟩ (fun i σ H' ⟨_, _, _, _, _, _, X, _⟩ => SqL.of (X.keep _ _ (by simp) (nLA hT) hT)) ?_ ?_⟩
      · rintro j v T1 σ H3 hv ⟨cs, ps, c, y8, y9, rfl, X, W, hem, hc, hgv, hiff⟩ hT1
        obtain ⟨x, hx, rfl⟩ := nat_item hv
        have hjl := (List.getElem?_eq_some_iff.mp hx).1
        have u1 := same_upd (o := .tup [.int (j : Nat), .int (x : Nat)]) hT1
        have eT1 := upd_same (H := H3) (a := T1) (o := .tup [.int (j : Nat), .int (x : Nat)])
        have X2 := X.same u1
        have W2 := W.same u1
        generalize upd H3 T1 (.tup [.int (j : Nat), .int (x : Nat)]) = H4 at X2 W2 eT1 ⊢
        refine ⟨T1, _, rfl, .inl (.inl eT1), rfl, _, _, rfl, _, _, rfl, rfl, ?_⟩
        by_cases c1 : x = t
        · refine ⟨_, rfl, _, rfl, rfl, true, dT (vE c1), iteT ?_⟩
          have hcj : c = j := by
            have a1 : ¬ j < c := fun z => by
              rcases (hiff j x hx).mp z with h | ⟨_, h⟩ <;> omega
            rcases Nat.lt_or_ge c j with h | h
            · obtain ⟨y, hy⟩ : ∃ y, ts[c]? = some y := ⟨_, List.getElem?_eq_getElem (by omega)⟩
              have z := List.pairwise_iff_getElem.mp tasc c j (by omega) hjl h
              rw [(List.getElem?_eq_some_iff.mp hx).2, (List.getElem?_eq_some_iff.mp hy).2] at z
              have := (hiff c y hy).mpr (by omega)
              omega
            · omega
          subst hcj
          refine ⟨_, rfl, _, rfl, _, rfl, _, rfl, _, rfl, _, rfl, by simp [sizeLine_eq], fun tn htn => ?_⟩
          have un := same_upd (o := .tup [.int (c : Nat), .int (d : Nat), .non]) htn
          have etn : (upd H4 tn (.tup [.int (c : Nat), .int (d : Nat), .non])) tn = some (.tup (lrowV ⟨c, d, none, t⟩)) := upd_same
          have X5 := X2.same un
          have W5 := W2.same un
          generalize upd H4 tn (.tup [.int (c : Nat), .int (d : Nat), .non]) = H5 at X5 W5 etn ⊢
          have few := cells_len W.nk hgv
          have hml := ms_len d (ts.take c)
          rw [List.length_take] at hml
          refine ⟨Aw, ql, tn, b, t, ws, ⟨c, d, none, t⟩, cs, ps, rfl, hb, hb64, SqL.of (X5.keep _ _ (by simp) (nLA hql) hql), hne, etn, hnid, Nat.lt_trans hd (by decide), W5, by omega, ?_, fun H6 ps6 lk6 W6 => ?_⟩
          · rw [hgv]
            have z := stM_len b ws t (msOf d (ts.take c)) (placeT b t (⟨c, d, none, t⟩ : Tm).due)
            omega
          have etk : ts.take (c + 1) = ts.take c ++ [t] := by
            rw [List.take_add_one, hx, c1]
            rfl
          refine ⟨_, ps6, c + 1, _, _, rfl, X5.lk lk6, W6, Nat.le_trans (emp_one _ _) hem, by omega, fun pp => ?_, fun i y hy => ?_⟩
          · rw [st_new hb hgv rfl hnid, etk, ms_snoc, List.length_take, Nat.min_eq_left (Nat.le_of_lt hjl)]
          · have z := hiff i y hy
            constructor
            · intro h
              by_cases e : i = c
              · subst e
                rw [hx] at hy
                cases hy
                exact .inr ⟨c1, Nat.lt_succ_self _⟩
              · rcases z.mp (by omega) with h | ⟨h1, h2⟩
                · exact .inl h
                · exact .inr ⟨h1, by omega⟩
            · rintro (h | ⟨h1, h2⟩)
              · have := z.mpr (.inl h)
                omega
              · omega
        · refine ⟨_, rfl, _, rfl, rfl, false, dF (vN c1), iteF ?_⟩
          refine ⟨cs, ps, c, _, _, rfl, X2, W2, hem, hc, hgv, fun i y hy => (hiff i y hy).trans ⟨?_, ?_⟩⟩
          · rintro (h | ⟨h1, h2⟩)
            · exact .inl h
            · exact .inr ⟨h1, by omega⟩
          · rintro (h | ⟨h1, h2⟩)
            · exact .inl h
            · by_cases e : i = j
              · subst e
                rw [hx] at hy
                cases hy
                exact absurd h1 c1
              · exact .inr ⟨h1, by omega⟩
      · rintro σ H3 ⟨cs, ps, c, y8, y9, rfl, X, W, hem, hc, hgv, hiff⟩
        rw [List.length_map] at hiff
        have hiff2 : ∀ i x, ts[i]? = some x → (i < c ↔ x < t + 1) := fun i x hx => (hiff i x hx).trans ⟨fun h => by rcases h with h | ⟨h, _⟩ <;> omega, fun h => by
          have := (List.getElem?_eq_some_iff.mp hx).1
          omega⟩
        have hml := ms_len d (ts.take c)
        rw [List.length_take] at hml
        have few := cells_len W.nk hgv
        have hms : ∀ m ∈ msOf d (ts.take c), m.since ≤ t ∧ t < m.due ∧ m.due = d ∧ m.per = none := fun m hm => by
          obtain ⟨z1, z2, _, z4⟩ := ms_mem hm
          obtain ⟨i, hi⟩ := List.getElem?_of_mem z4
          rw [List.getElem?_take] at hi
          split at hi
          · rename_i hic
            have := (hiff2 i _ hi).mp hic
            exact ⟨by omega, by rw [z1]; exact hnid, z1, z2⟩
          · cases hi
        obtain ⟨hh, hz⟩ := exists_zer hb (Nat.succ_pos t)
        have hcell : ∀ pp, (gv cs pp).length ≤ 10000 := fun pp => by
          rw [hgv]
          have z := stM_len b ws t (msOf d (ts.take c)) pp
          omega
        obtain ⟨L1, L2⟩ := lw_pass hb hz (Nat.lt_succ_self t) (fun m hm => ⟨(hms m hm).1, (hms m hm).2.1, evT_gt hb (hms m hm).2.1⟩) hgv
        have hmem : ∀ {pp : Nat × Nat} {m : Tm}, m ∈ gv cs pp → m ∈ msOf d (ts.take c) := fun {pp m} h => by
          rw [hgv] at h
          exact (List.mem_filter.mp (mem_deq.mp h)).1
        refine ⟨_, rfl, _, rfl, _, rfl, _, rfl, t, 1, rfl, rfl, trivial, Aw, ql, b, t + 1, hh, ws, cs, ps, rfl, hb, hb64, SqL.of (X.keep _ _ (by simp) (nLA hql) hql), hne, hz, by omega, W, by omega, hcell, fun m hm => ?_, fun H4 ps4 r4 lk4 W4 hr0 nra nrp er4 => ?_⟩
        · have z := hms m (hmem hm)
          exact ⟨z.2.1, by rw [z.2.2.1]; exact Nat.lt_trans hd (by decide), fun _ k hk => by rw [z.2.2.2] at hk; cases hk⟩
        refine ⟨r4, _, ps4, _, _, _, rfl, X.lk lk4, W4, Nat.le_trans (emp_pass cs) hem, fun hlt => ⟨c, hc, fun pp => ?_, fun j x hx => by rw [← Nat.add_assoc, ← et]; exact hiff2 j x hx⟩, fun hd' => ⟨X.stay _ hr0, ?_⟩⟩
        · rw [L2 pp fun m hm k hk => by rw [(hms m hm).2.2.2] at hk; cases hk]
          have hne' : ∀ m ∈ msOf d (ts.take c), m.due ≠ t + 1 := fun m hm => by
            rw [(hms m hm).2.2.1]
            omega
          rw [List.filter_eq_self.mpr fun m hm => decide_eq_true (hne' m hm), List.filter_eq_nil_iff.mpr fun m hm => by simpa using hne' m hm, ← Nat.add_assoc, ← et]
          show stM b ws (t + 1) (msOf d (ts.take c) ++ []) pp = _
          rw [List.append_nil]
        · have ed : t + 1 = d := by omega
          have hcl : c = ts.length := by
            rcases Nat.lt_or_ge c ts.length with h | h
            · obtain ⟨y, hy⟩ : ∃ y, ts[c]? = some y := ⟨_, List.getElem?_eq_getElem h⟩
              have a1 := (tlt y (List.mem_of_getElem? hy)).2
              have := (hiff2 c y hy).mpr (by omega)
              omega
            · omega
          rw [hcl, List.take_length] at L1
          have ed' : t.succ = d := ed
          rw [er4, L1, ← ms_order, order_deq, ed', List.map_map]
          rfl
    · rintro σ H2 ⟨Fa, cs, ps, y7, y8, y9, rfl, X, W, hem, _, hfin⟩
      rw [hlen] at hfin
      clear hlen
      obtain ⟨z1, z2⟩ := hfin (by clear hfin; omega)
      exact ⟨_, rfl, fin H2 Fa (fun c o e => X.keep _ _ (by simp) (nLA e) e) z1 z2⟩
end
/-! ### law k25: all rising lists, in the heap -/
def LsAt (H0 H : Hp) (as : List Addr) (rows : List (List Nat)) : Prop := as.length = rows.length ∧ ∀ (i : Nat) (a : Addr) (r : List Nat), as[i]? = some a → rows[i]? = some r → H a = some (.lst (r.map fun x => V.int (x : Nat))) ∧ H0 a = none
theorem LsAt.keep {H0 H H' : Hp} {as : List Addr} {rows : List (List Nat)} (h : LsAt H0 H as rows) (k : ∀ a, a ∈ as → ∀ o, H a = some o → H' a = some o) : LsAt H0 H' as rows := ⟨h.1, fun i a r h1 h2 => ⟨k a (List.mem_of_getElem? h1) _ (h.2 i a r h1 h2).1, (h.2 i a r h1 h2).2⟩⟩
theorem LsAt.same {H0 H H' : Hp} {as : List Addr} {rows : List (List Nat)} (h : LsAt H0 H as rows) (s : Same H H') : LsAt H0 H' as rows := h.keep fun a _ o e => s a o e
theorem LsAt.app {H0 H : Hp} {as bs : List Addr} {rows rows' : List (List Nat)} (h : LsAt H0 H as rows) (h' : LsAt H0 H bs rows') : LsAt H0 H (as ++ bs) (rows ++ rows') := by
  refine ⟨by rw [List.length_append, List.length_append, h.1, h'.1], fun i a r h1 h2 => ?_⟩
  by_cases c : i < as.length
  · rw [List.getElem?_append_left c] at h1
    rw [List.getElem?_append_left (by rw [← h.1]; exact c)] at h2
    exact h.2 i a r h1 h2
  · rw [List.getElem?_append_right (by omega)] at h1
    rw [List.getElem?_append_right (by rw [← h.1]; omega), ← h.1] at h2
    exact h'.2 _ a r h1 h2
theorem LsAt.one {H0 H : Hp} {a : Addr} {r : List Nat} (h : H a = some (.lst (r.map fun x => V.int (x : Nat)))) (h0 : H0 a = none) : LsAt H0 H [a] [r] := by
  refine ⟨rfl, fun i a' r' h1 h2 => ?_⟩
  cases i with
  | zero =>
    cases Option.some.inj h1
    cases Option.some.inj h2
    exact ⟨h, h0⟩
  | succ i => simp at h1
theorem rng_len (a d : Nat) : (rngN a d).length = d - a := by
  unfold rngN
  rw [List.length_map, List.length_range]
theorem rng_step {a d i : Nat} (h : i < d - a) : (rngN a d).take (i + 1) = (rngN a d).take i ++ [a + i] := by
  have e : (rngN a d)[i]? = some (a + i) := by
    unfold rngN
    rw [List.getElem?_map, List.getElem?_range h]
    rfl
  rw [List.take_add_one, e]
  rfl
theorem fm_len {c : Nat} {A : List Nat → List (List Nat)} : ∀ {l : List (List Nat)}, (∀ r ∈ l, (A r).length ≤ c) → (l.flatMap A).length ≤ l.length * c
  | [], _ => Nat.zero_le _
  | r :: l, h => by
    have ih := fm_len (l := l) fun x hx => h x (List.mem_cons_of_mem _ hx)
    have := h r (List.mem_cons_self ..)
    rw [List.flatMap_cons, List.length_append, List.length_cons, Nat.succ_mul]
    omega
theorem all_len {n d : Nat} (hd : d - n ≤ 10) : ∀ m, (allL n d m).length ≤ 10 ^ m
  | 0 => Nat.le_refl _
  | m + 1 => by
    have ih := all_len hd m
    have z : (allL n d (m + 1)).length ≤ (allL n d m).length * 10 := fm_len fun r hr => by
      rw [List.length_map, rng_len]
      have := (all_ok m r hr).2.2.2
      omega
    rw [Nat.pow_succ]
    exact Nat.le_trans z (Nat.mul_le_mul_right 10 ih)
theorem fm_step {l : List (List Nat)} {A : List Nat → List (List Nat)} {i : Nat} {r : List Nat} (h : l[i]? = some r) : (l.take (i + 1)).flatMap A = (l.take i).flatMap A ++ A r := by
  rw [List.take_add_one, h, Option.toList_some, List.flatMap_append, List.flatMap_cons, List.flatMap_nil, List.append_nil]
section
variable {P : Program} {w : World} {K : PySem.W.Frag} {mg : Str → Option Value} {base : Heap}
def spLists25 : Sp := fun vs H Q _ => ∃ n d m : Nat, vs = [.int (n : Nat), .int (d : Nat), .int (m : Nat)] ∧ n < d ∧ d - n ≤ 10 ∧ m ≤ 5 ∧ ∀ H' N as, Same H H' → H N = none → H' N = some (.lst (as.map V.ref)) → LsAt H H' as (allL n d m) → Q (.ref N) H'
theorem ok_lists25 {f : Addr} {fd : FuncData} (F : Fun K "_law_lists" "_law_lists" s__law_lists f fd) (T : Tx K mg) : FnOk P w K mg base CX0 1 f fd ["_law_begin", "_law_due_here", "_law_many"] spLists25 := by
  refine F.ok sc__law_lists (fun vs H Q E h => ?_) (fun cdv A outer s H vs Q E hr h => ?_)
  · obtain ⟨n, d, m, rfl, _⟩ := h
    rfl
  · obtain ⟨n, d, m, rfl, hnd, hd10, hm, fin⟩ := h
    refine ⟨_, (pss_cons (ps_set (i := 3) sc__law_lists.nd rfl (.inl rfl) (pe_lst (pa_cons (pe_lst pa_nil) pa_nil)))
      (pss_cons (ps_for PassesOwn.never rfl (pi_range1 (by rfl) T.b_range (pa_cons (pv 2) pa_nil)) (pg_name (i := 4) sc__law_lists.nd rfl (.inl rfl))
        (pss_cons (ps_set (i := 5) sc__law_lists.nd rfl (.inl rfl) (pe_lst pa_nil))
        (pss_cons (ps_for PassesOwn.never rfl (pi_list (pv 3)) (pg_name (i := 6) sc__law_lists.nd rfl (.inr rfl))
          (pss_one (ps_set (i := 5) sc__law_lists.nd rfl (.inl rfl) (pe_op op_cat (pv 5) (pe_lc (own := [("_law_moment", 7)]) (g := gName 7) (tt := tYes) rfl sc__law_lists.nd (pi_wide2 (by rfl) T.b_range (pa_cons (pe_ix (ix_listK (K := K) rfl) (pe_orT (pv 6) (pe_one (pe_lst (pa_cons (pv 0) pa_nil)))) (pe_un un_neg pe_int) (fun _ _ => rfl)) (pa_cons (pv 1) pa_nil))) (blkOk_by (own := [("_law_moment", 7)]) (N := N__law_lists) (sc := defScope s__law_lists) (by decide +kernel)) (fun _ _ _ _ _ => (pg_name (i := 7) sc__law_lists.nd rfl (.inl rfl))) (fun _ _ _ _ _ => pts_nil) (fun _ _ _ _ _ => (pe_op op_cat (pv 6) (pe_lst (pa_cons (pv 7) pa_nil)))))))))
        (pss_one (ps_set (i := 3) sc__law_lists.nd rfl (.inl rfl) (pv 5))))))
      (pss_one (ps_ret (pv 3))))), ?_⟩
    refine ⟨by simp [sizeLine_eq], fun l0 hl0 => ⟨by simp [sizeLine_eq], fun L hL0 => ?_⟩⟩
    have u0 := same_upd (o := .lst []) hl0
    have el0 := upd_same (H := H) (a := l0) (o := .lst [])
    have u1 := same_upd (o := .lst [.ref l0]) hL0
    have el1 := u1 _ _ el0
    have eL1 := upd_same (H := upd H l0 (.lst [])) (a := L) (o := .lst [.ref l0])
    have s1 := u0.trans u1
    have hLH := u0.free hL0
    generalize upd (upd H l0 (.lst [])) L (.lst [.ref l0]) = H1 at u1 el1 eL1 s1 ⊢
    refine ⟨_, rfl, _, rfl, by omega, by omega, for_range (Pv := fun j σ H' => ∃ (N : Addr) (as : List Addr) (y4 y5 y6 y7 : Option V), σ = [some (.int (n : Nat)), some (.int (d : Nat)), some (.int (m : Nat)), some (.ref N), y4, y5, y6, y7] ∧ Same H H' ∧ H N = none ∧ H' N = some (.lst (as.map V.ref)) ∧ LsAt H H' as (allL n d j))
      ⟨L, [l0], none, none, none, none, rfl, s1, hLH, eL1, .one el1 hl0⟩ ?_ ?_⟩
    · rintro j σ H2 hj ⟨N, as, y4, y5, y6, y7, rfl, sm, hN, eN, LA⟩
      have hjm : j < m := hj
      have hal := all_len hd10 j
      have hal5 : 10 ^ j ≤ 10 ^ 4 := Nat.pow_le_pow_right (by decide) (by omega)
      refine ⟨by simp [sizeLine_eq], fun Lo hLo => ?_⟩
      have u3 := same_upd (o := .lst []) hLo
      have eLo := upd_same (H := H2) (a := Lo) (o := .lst [])
      have sm3 := sm.trans u3
      have eN3 := u3 _ _ eN
      have LA3 := LA.same u3
      have hLoH := sm.free hLo
      generalize upd H2 Lo (.lst []) = H3 at u3 eLo sm3 eN3 LA3 ⊢
      refine ⟨_, rfl, N, rfl, ⟨_, SqL.of eN3⟩, for_list (K := K) (a := N) (xs := as.map V.ref) (fun i σ H' => ∃ (Lo : Addr) (bs : List Addr) (y6 y7 : Option V), σ = [some (.int (n : Nat)), some (.int (d : Nat)), some (.int (m : Nat)), some (.ref N), some (.int (0 + (j : Int))), some (.ref Lo), y6, y7] ∧ Same H H' ∧ H' N = some (.lst (as.map V.ref)) ∧ LsAt H H' as (allL n d j) ∧
          H Lo = none ∧ H' Lo = some (.lst (bs.map V.ref)) ∧ LsAt H H' bs (((allL n d j).take i).flatMap fun row => (rngN (lastD n row) d).map fun x => row ++ [x]))
        ⟨Lo, [], _, _, rfl, sm3, eN3, LA3, hLoH, eLo, ⟨rfl, fun i a r h1 => by simp at h1⟩⟩ (fun i σ H' _ ⟨_, _, _, _, _, _, e, _⟩ => SqL.of e) ?_ ?_⟩
      · rintro i v σ H4 hv ⟨Lo, bs, y6, y7, rfl, sm4, eN4, LA4, hLo, eLo, LB⟩
        obtain ⟨a, ha, rfl⟩ : ∃ a, as[i]? = some a ∧ v = V.ref a := by
          rw [List.getElem?_map] at hv
          cases e : as[i]? with
          | none =>
            rw [e] at hv
            cases hv
          | some y =>
            rw [e] at hv
            exact ⟨y, rfl, (Option.some.inj hv).symm⟩
        have hil := (List.getElem?_eq_some_iff.mp ha).1
        obtain ⟨r, hr⟩ : ∃ r, (allL n d j)[i]? = some r := ⟨_, List.getElem?_eq_getElem (by rw [← LA4.1]; exact hil)⟩
        have ea := (LA4.2 i a r ha hr).1
        obtain ⟨r1, r2, r3, r4⟩ := all_ok j r (List.mem_of_getElem? hr)
        have hstep := fm_step (A := fun row => (rngN (lastD n row) d).map fun x => row ++ [x]) hr
        obtain ⟨la, ela⟩ : ∃ la, la = lastD n r := ⟨_, rfl⟩
        have hbl : bs.length ≤ 100000 := by
          rw [LB.1]
          refine Nat.le_trans (fm_len (c := 10) fun r hr => ?_) ?_
          · rw [List.length_map, rng_len]
            have := (all_ok j r (List.mem_of_mem_take hr)).2.2.2
            omega
          · rw [List.length_take]
            omega
        refine ⟨_, rfl, ?_⟩
        apply cut_at (I := fun (c : V) (H' : Hp) => ∃ (ca : Addr) (xs : List V), c = .ref ca ∧ H' ca = some (.lst xs) ∧ xs[xs.length - 1]? = some (.int (la : Nat)) ∧ Same H4 H')
        · intro next
          by_cases er : r = []
          · refine ⟨_, rfl, false, .inl ⟨_, SqL.of ea, by rw [er]; rfl⟩, iteF ⟨_, rfl, by simp [sizeLine_eq], fun l5 hl5 => ?_⟩⟩
            obtain ⟨v5, ev5⟩ : ∃ v5, v5 = V.ref l5 := ⟨_, rfl⟩
            obtain ⟨H5, eH5⟩ : ∃ H5, H5 = upd H4 l5 (.lst [.int (n : Nat)]) := ⟨_, rfl⟩
            rw [← ev5, ← eH5]
            refine next v5 H5 ⟨l5, [.int (n : Nat)], ev5, by rw [eH5]; exact upd_same, by rw [ela, er]; rfl, by rw [eH5]; exact same_upd hl5⟩
          · have hne : true = !(r.map fun x => V.int (x : Nat)).isEmpty := by
              cases r with
              | nil => exact absurd rfl er
              | cons x xs => rfl
            refine ⟨_, rfl, true, .inl ⟨_, SqL.of ea, hne⟩, iteT ?_⟩
            refine next _ H4 ⟨a, _, rfl, ea, ?_, Same.refl _⟩
            rw [List.getElem?_map, List.length_map, ← List.getLast?_eq_getElem?, ela]
            unfold lastD
            cases r with
            | nil => exact absurd rfl er
            | cons x xs =>
              rw [List.getLast?_cons]
              rfl
        · rintro c H5 ⟨ca, xs, rfl, ec, hlast, s45⟩
          refine ⟨1, rfl, ca, _, -1, _, rfl, rfl, SqL.of ec, atI_last hlast, _, rfl, _, _, rfl, fun D hD => ?_⟩
          have hlen : (((d : Nat) : Int) - ((la : Nat) : Int)).toNat = d - la := by omega
          have sm5 := sm4.trans s45
          have ea5 := s45 _ _ ea
          have hDH := sm5.free hD
          refine lc_range (lo := ((la : Nat) : Int)) (Pv := fun q H' => Same H5 H' ∧ ∃ cs : List Addr, H' D = some (.lst (cs.map V.ref)) ∧ LsAt H H' cs (((rngN la d).take q).map fun x => r ++ [x])) ⟨same_upd hD, [], upd_same, ⟨rfl, fun i a r h1 => by simp at h1⟩⟩ ?_ ?_
          · rintro q H6 hq ⟨sm6, cs, eD, LC⟩
            rw [hlen] at hq
            clear hlen
            have eq' : V.int (((la : Nat) : Int) + (q : Nat)) = .int ((la + q : Nat) : Int) := congrArg V.int (by omega)
            rw [eq']
            refine ⟨rfl, yesT (iteT ?_)⟩
            refine ⟨_, rfl, _, rfl, by simp [sizeLine_eq], fun l7 hl7 => ?_⟩
            have u7 := same_upd (o := .lst [.int ((la + q : Nat) : Int)]) hl7
            have el7 := upd_same (H := H6) (a := l7) (o := .lst [.int ((la + q : Nat) : Int)])
            have eD7 := u7 _ _ eD
            have ea7 := u7 _ _ (sm6 _ _ ea5)
            have LC7 := LC.same u7
            have sm7 := sm6.trans u7
            generalize upd H6 l7 (.lst [.int ((la + q : Nat) : Int)]) = H7 at u7 el7 eD7 ea7 LC7 sm7 ⊢
            refine ⟨a, l7, _, _, rfl, rfl, ea7, el7, ?_, fun p8 hp8 => ?_⟩
            · rw [List.length_map, r1]
              exact sizeLine_le (by show _ + 1 ≤ 1000000; omega)
            have ecat : (r.map fun x => V.int (x : Nat)) ++ [V.int ((la + q : Nat) : Int)] = (r ++ [la + q]).map fun x => V.int (x : Nat) := by
              rw [List.map_append]
              rfl
            rw [ecat]
            have u8 := same_upd (o := .lst ((r ++ [la + q]).map fun x => V.int (x : Nat))) hp8
            have ep8 := upd_same (H := H7) (a := p8) (o := .lst ((r ++ [la + q]).map fun x => V.int (x : Nat)))
            have eD8 := u8 _ _ eD7
            have LC8 := LC7.same u8
            have sm8 := sm7.trans u8
            have hp8H := sm5.free (sm7.free hp8)
            have np8D : p8 ≠ D := fun z => by
              rw [z, eD7] at hp8
              cases hp8
            generalize upd H7 p8 (.lst ((r ++ [la + q]).map fun x => V.int (x : Nat))) = H8 at u8 ep8 eD8 LC8 sm8 ⊢
            have hcl : cs.length ≤ 10 := by
              rw [LC.1, List.length_map, List.length_take, rng_len]
              omega
            refine ⟨_, eD8, ?_, fun c o e => ?_, cs ++ [p8], ?_, ?_⟩
            · rw [List.length_map]
              exact sizeLine_ge (by omega)
            · rw [upd_ne (ne_of_none e hD)]
              exact sm8 _ _ e
            · rw [upd_same, List.map_append]
              rfl
            · rw [rng_step hq, List.map_append]
              refine LsAt.app (LC8.keep fun a' ha' o e => ?_) (.one ?_ hp8H)
              · rw [upd_ne fun z => ?_]
                · exact e
                · -- no list of the new ones is the list itself
                  obtain ⟨i', hi'⟩ := List.getElem?_of_mem ha'
                  obtain ⟨r', hr'⟩ : ∃ r', (((rngN la d).take q).map fun x => r ++ [x])[i']? = some r' := ⟨_, List.getElem?_eq_getElem (by rw [← LC8.1]; exact (List.getElem?_eq_some_iff.mp hi').1)⟩
                  have e1 := (LC8.2 i' a' r' hi' hr').1
                  rw [z, eD8] at e1
                  rw [List.getElem?_map] at hr'
                  cases e3 : ((rngN la d).take q)[i']? with
                  | none =>
                    rw [e3] at hr'
                    cases hr'
                  | some x =>
                    rw [e3] at hr'
                    have e4 := Option.some.inj hr'
                    rw [← e4] at e1
                    cases cs with
                    | nil => cases ha'
                    | cons c0 cs =>
                      cases r with
                      | nil => cases e1
                      | cons y ys => cases e1
              · rw [upd_ne np8D]
                exact ep8
          · rintro H6 ⟨sm6, cs, eD, LC⟩
            rw [hlen, List.take_of_length_le (by rw [rng_len]; exact Nat.le_refl _)] at LC
            have hcl : cs.length ≤ 10 := by
              rw [LC.1, List.length_map, rng_len]
              omega
            have s46 := s45.trans sm6
            refine ⟨Lo, D, _, _, rfl, rfl, s46 _ _ eLo, eD, ?_, fun p hp => ?_⟩
            · rw [List.length_map, List.length_map]
              exact sizeLine_le (by omega)
            have u9 := same_upd (o := .lst (bs.map V.ref ++ cs.map V.ref)) hp
            refine ⟨p, bs ++ cs, _, _, rfl, (sm4.trans s46).trans u9, u9 _ _ (s46 _ _ eN4), (LA4.same s46).same u9, sm4.free (s46.free hp), by rw [upd_same, List.map_append], ?_⟩
            rw [hstep, ← ela]
            exact ((LB.same s46).app LC).same u9
      · rintro σ H4 ⟨Lo, bs, y6, y7, rfl, sm4, eN4, LA4, hLo, eLo, LB⟩
        rw [List.length_map, List.take_of_length_le (by rw [LA4.1]; exact Nat.le_refl _)] at LB
        exact ⟨_, rfl, Lo, bs, _, _, _, _, rfl, sm4, hLo, eLo, LB⟩
    · rintro σ H2 ⟨N, as, y4, y5, y6, y7, rfl, sm, hN, eN, LA⟩
      exact ⟨_, rfl, fin H2 N as sm hN eN LA⟩
end
/-! ### law k25: the first list that fires as wished -/
def natsD (r : List Nat) : PyData := .list (r.map fun x => PyData.int (x : Nat))
theorem ls_dp {K : PySem.W.Frag} {H0 H : Hp} : ∀ {as : List Addr} {rows : List (List Nat)}, LsAt H0 H as rows → DpAll K H (as.map V.ref) (rows.map natsD)
  | [], [], _ => .nil
  | a :: as, r :: rows, h => .cons (.lst (SqL.of (h.2 0 a r rfl rfl).1) (dp_nats _)) (ls_dp ⟨Nat.succ.inj h.1, fun i a' r' h1 h2 => h.2 (i + 1) a' r' h1 h2⟩)
  | [], _ :: _, h => by cases h.1
  | _ :: _, [], h => by cases h.1
theorem ls_lay : ∀ rows : List (List Nat), PyData.canLayAll0 (rows.map natsD) = true
  | [] => rfl
  | r :: rows => by
    show (PyData.canLayAll0 (r.map fun x => PyData.int (x : Nat)) && PyData.canLayAll0 (rows.map natsD)) = true
    rw [nats_lay, ls_lay rows]
    rfl
theorem ls_depth : ∀ rows : List (List Nat), PyData.depthAll (rows.map natsD) ≤ 1
  | [] => by decide
  | r :: rows => by
    have h1 := ls_depth rows
    have h2 : (natsD r).depth = 1 := by
      show PyData.depthAll _ + 1 = 1
      rw [nats_depth r]
    show max (natsD r).depth (PyData.depthAll (rows.map natsD)) ≤ 1
    omega
theorem ls_shaped (rows : List (List Nat)) : SeqAt.shaped (.list (rows.map natsD)) = true := by
  have h1 : (PyData.list (rows.map natsD)).canLay0 = true := ls_lay rows
  have h2 : (PyData.list (rows.map natsD)).depth ≤ 64 := by
    show PyData.depthAll (rows.map natsD) + 1 ≤ 64
    have := ls_depth rows
    omega
  unfold SeqAt.shaped
  rw [h1, decide_eq_true h2]
  rfl
theorem good_take {b : Nat} {ws : List Bool} {d m i : Nat} {o : List Nat} {rows : List (List Nat)} {r : List Nat} (h : rows[i]? = some r) : (rows.take (i + 1)).filter (fun row => decide (ordOf (sdOf b ws d row) = uptoN o m)) = (rows.take i).filter (fun row => decide (ordOf (sdOf b ws d row) = uptoN o m)) ++ if ordOf (sdOf b ws d r) = uptoN o m then [r] else [] := by
  rw [List.take_add_one, h, Option.toList_some, List.filter_append]
  congr 1
  by_cases c : ordOf (sdOf b ws d r) = uptoN o m
  · rw [if_pos c, List.filter_cons_of_pos (p := fun row => decide (ordOf (sdOf b ws d row) = uptoN o m)) (decide_eq_true c)]
    rfl
  · rw [if_neg c, List.filter_cons_of_neg (p := fun row => decide (ordOf (sdOf b ws d row) = uptoN o m)) (by simpa using c)]
    rfl
/-- the parts of what is picked are picked too -/
theorem Pl.take {R : List (Nat × Bool)} {a : Nat} {ws : List (Option Bool)} {xs : List Nat} {ok : Bool} (h : Pl R a ws xs ok) : ∀ {j : Nat}, j ≤ xs.length → Pl R a (ws.take j) (xs.take j) true := by
  induction h with
  | nil =>
    intro j hj
    have e : j = 0 := Nat.le_zero.mp hj
    subst e
    exact .nil
  | cons h ha hw hno t ih =>
    intro j hj
    cases j with
    | zero => exact .nil
    | succ j => exact .cons h ha hw hno (ih (Nat.le_of_succ_le_succ hj))
  | stop h =>
    intro j hj
    have e : j = 0 := Nat.le_zero.mp hj
    subst e
    exact .nil
section
variable {P : Program} {w : World} {K : PySem.W.Frag} {mg : Str → Option Value} {base : Heap}
def spDue25 : Sp := fun vs H Q _ => ∃ (b n d k : Nat) (q O : Addr) (ws : List Bool) (o xs : List Nat) (ok : Bool), vs = [.int (b : Nat), .ref q, .int (n : Nat), .int (d : Nat), .ref O] ∧ 2 ≤ b ∧ b ≤ 64 ∧ n < d ∧ d - n ≤ 10 ∧ d < 2 ^ 240 ∧ H q = some (.lst (ws.map lvV)) ∧ ws ≠ [] ∧
  H O = some (.lst (o.map fun x => V.int (x : Nat))) ∧ IsOrd o ∧ o ≠ [] ∧ o.length ≤ 5 ∧ IsLev b n d k ∧ Pl (tsOf ws (rowsOf b n d k)) 0 (wantOf o) xs ok ∧ ∀ H' p, Same H H' → ToldAt H' p n xs ok → Q (.ref p) H'
theorem ok_due25 {f : Addr} {fd : FuncData} (F : Fun K "_law_due" "_law_due" s__law_due f fd) (T : Tx K mg) (h1 : Has P w K mg base 1 "_law_lists" ["_law_begin", "_law_due_here", "_law_many"] [] spLists25)
    (h2 : Has P w K mg base 4 "_law_fired" ["_law_base", "_law_levels_here", "_law_begin", "_law_due_here", "_law_ticks"] [] (spFired25 K)) :
    FnOk P w K mg base CX0 5 f fd ["_law_base", "_law_levels_here", "_law_begin", "_law_due_here", "_law_order_here"] spDue25 := by
  obtain ⟨f__law_lists, fd__law_lists, ds__law_lists, G__law_lists, m__law_lists, k__law_lists, b__law_lists, v__law_lists⟩ := h1
  obtain ⟨f__law_fired, fd__law_fired, ds__law_fired, G__law_fired, m__law_fired, k__law_fired, b__law_fired, v__law_fired⟩ := h2
  refine F.ok sc__law_due (fun vs H Q E h => ?_) (fun cdv A outer s H vs Q E hr h => ?_)
  · obtain ⟨b, n, d, k, q, O, ws, o, xs, ok, rfl, _⟩ := h
    rfl
  · obtain ⟨b, n, d, k, q, O, ws, o, xs, ok, rfl, hb, hb64, hnd, hd10, hd, hL, hne, hO, ho, hone, ho5, hk, hP, fin⟩ := h
    refine ⟨_, (pss_cons (ps_for PassesOwn.never rfl (pi_range2 (by rfl) T.b_range (pa_cons pe_int (pa_cons (pe_op op_addN (pe_callB (lenK (K := K) rfl) (by rfl) T.b_len PySem.boot_len (pa_cons (pv 4) pa_nil)) pe_int) pa_nil))) (pg_name (i := 5) sc__law_due.nd rfl (.inr rfl))
        (pss_cons (ps_set (i := 6) sc__law_due.nd rfl (.inr rfl) (pe_lc (own := [("_law_number", 8)]) (g := gName 8)  rfl sc__law_due.nd (pi_list (pv 4)) (blkOk_by (own := [("_law_number", 8)]) (N := N__law_due) (sc := defScope s__law_due) (by decide +kernel)) (fun _ _ _ _ _ => (pg_name (i := 8) sc__law_due.nd rfl (.inl rfl))) (fun _ _ _ _ _ => (pts_one (pt_cmpR op_lt (pv 8) (pv 5) (nomark _)))) (fun _ _ _ _ _ => (pv 8))))
        (pss_cons (ps_setLc (i := 7) (own := [("_law_row", 9)]) (g := gName 9)  rfl sc__law_due.nd rfl rfl (sw_true rfl rfl rfl (by decide +kernel)) (pi_list (pe_call G__law_lists (hr.mono (by decide)) (by rfl) m__law_lists k__law_lists b__law_lists v__law_lists pass0 (pa_cons (pv 2) (pa_cons (pv 3) (pa_cons (pv 5) pa_nil))))) (blkOk_by (own := [("_law_row", 9)]) (N := N__law_due) (sc := defScope s__law_due) (by decide +kernel)) (fun _ _ _ _ _ => (pg_name (i := 9) sc__law_due.nd rfl (.inl rfl))) (fun _ _ _ _ _ => (pts_one (pt_cmpR (op_eqK (K := K) rfl hr.units) (pe_call G__law_fired hr (by rfl) m__law_fired k__law_fired b__law_fired v__law_fired pass0 (pa_cons (pv 0) (pa_cons (pv 1) (pa_cons (pv 2) (pa_cons (pv 3) (pa_cons (pv 9) pa_nil)))))) (pv 6) (nomark _)))) (fun _ _ _ _ _ => (pv 9)))
        (pss_cons (ps_if (pt_cmpR (op_eqK (K := K) rfl hr.units) (pv 7) (pe_lst pa_nil) (nomark _))
          (pss_one (ps_ret (pe_tup (pa_cons pe_str (pa_cons (pe_op op_subN (pv 5) pe_int) pa_nil)))))
          pss_nil)
        (pss_one (ps_if (pt_cmpR op_eq (pv 5) (pe_callB (lenK (K := K) rfl) (by rfl) T.b_len PySem.boot_len (pa_cons (pv 4) pa_nil)) (nomark _))
          (pss_one (ps_ret (pe_tup (pa_cons pe_str (pa_cons (pe_ix (ix_listK (K := K) rfl) (pv 7) pe_int (fun _ _ => rfl)) pa_nil)))))
          pss_nil))))))
      (pss_one (ps_ret pe_non))), ?_⟩
    have hop : 0 < o.length := List.length_pos_iff.mpr hone
    have hT := turns_rows hb ws hk hnd
    obtain ⟨x00, xr, eR0⟩ : ∃ x00 xr, tsOf ws (rowsOf b n d k) = x00 :: xr ∧ x00.1 = n := ⟨_, _, rfl, rfl⟩
    have hR0 : (tsOf ws (rowsOf b n d k))[0]? = some (n, x00.2) := by
      rw [eR0.1, ← eR0.2]
      rfl
    have hxw := hP.le
    rw [wantOf_len] at hxw
    have hfirst : ∀ m, m ≤ xs.length → ∃ rest, goodL b ws d o n (m + 1) = (n :: xs.take m) :: rest := fun m hm => by
      obtain ⟨rest, h, _⟩ := first_good ho hnd hT hR0 m (xs.take m) (by omega) (hP.take hm)
      exact ⟨rest, h⟩
    have hfull : xs.length = o.length - 1 → ok = true := fun h => by
      cases ok with
      | true => rfl
      | false =>
        obtain ⟨w, s1, _⟩ := hP.split hT rfl hR0
        have := (List.getElem?_eq_some_iff.mp s1).1
        rw [wantOf_len] at this
        omega
    have hpart : ok = true → xs.length = o.length - 1 := fun h => by
      subst h
      have := hP.len
      rw [wantOf_len] at this
      exact this
    refine ⟨_, rfl, O, _, rfl, .inl (SqL.of hO), (o.map fun x => V.int (x : Nat)).length, 1, rfl, rfl, trivial, 1, _, rfl, ⟨by decide, by decide, by omega, by show (((o.map fun x => V.int (x : Nat)).length + 1 : Nat) : Int) < 2 ^ 62; rw [List.length_map]; omega⟩, for_range (Pv := fun i σ H' => ∃ y5 y6 y7 y8 y9, σ = [some (.int (b : Nat)), some (.ref q), some (.int (n : Nat)), some (.int (d : Nat)), some (.ref O), y5, y6, y7, y8, y9] ∧ Same H H' ∧ i < o.length ∧ i ≤ xs.length + 1 ∧ (i = xs.length + 1 → ok = false))
      ⟨none, none, none, none, none, rfl, Same.refl _, hop, Nat.zero_le _, fun h => by omega⟩ (fun i σ H' hi hI => ?_) (fun σ H' hI => ?_)⟩
    · obtain ⟨y5, y6, y7, y8, y9, rfl, sm, hio, hix, hiok⟩ := hI
      have ei : V.int (1 + (i : Nat)) = .int ((i + 1 : Nat) : Int) := congrArg V.int (by omega)
      rw [ei]
      have hO1 := sm _ _ hO
      -- who are wished
      refine ⟨_, rfl, O, rfl, ⟨_, SqL.of hO1⟩, fun W hW => lc_list (K := K) (a := O) (xs := o.map fun x => V.int (x : Nat)) (fun j H2 => Same H' H2 ∧ H2 W = some (.lst (((o.take j).filter fun x => decide (x < i + 1)).map fun x => V.int (x : Nat))))
        ⟨same_upd hW, upd_same⟩ (fun j H2 _ ⟨s2, _⟩ => SqL.of (s2 _ _ hO1)) ?_ ?_⟩
      · rintro j v H2 hv ⟨s2, eD⟩
        obtain ⟨x, hx, rfl⟩ := nat_item hv
        have es := upto_step o (i + 1) hx
        have hj := (List.getElem?_eq_some_iff.mp hx).1
        refine ⟨rfl, _, rfl, _, rfl, _, _, rfl, rfl, decide (x < i + 1), congrArg V.bl (decide_eq_decide.mpr (by omega)), ?_⟩
        by_cases c : x < i + 1
        · rw [decide_eq_true c]
          refine iteT ⟨_, rfl, _, eD, ?_, fun c o e => ?_, ?_⟩
          · rw [List.length_map]
            refine sizeLine_ge (Nat.le_trans (List.length_filter_le _ _) ?_)
            rw [List.length_take]
            omega
          · rw [upd_ne (ne_of_none e hW)]
            exact s2 _ _ e
          · rw [upd_same, es, if_pos c, List.map_append]
            rfl
        · rw [decide_eq_false c]
          refine iteF ⟨s2, ?_⟩
          rw [es, if_neg c, List.append_nil]
          exact eD
      rintro H2 ⟨s2, eW⟩
      rw [List.length_map, List.take_length] at eW
      have eW : H2 W = some (.lst ((uptoN o (i + 1)).map fun x => V.int (x : Nat))) := eW
      have sm2 := sm.trans s2
      -- all lists
      refine ⟨_, rfl, _, rfl, _, rfl, n, d, i + 1, rfl, hnd, hd10, by omega, fun H3 N as s3 hN eN LA => ?_⟩
      have sm3 := sm2.trans s3
      have eW3 := s3 _ _ eW
      have hal := all_len hd10 (i + 1)
      have hal5 : 10 ^ (i + 1) ≤ 10 ^ 5 := Nat.pow_le_pow_right (by decide) (by omega)
      refine ⟨N, rfl, ⟨_, SqL.of eN⟩, fun D hD => lc_list (K := K) (a := N) (xs := as.map V.ref) (fun j H4 => Same H3 H4 ∧ ∃ gs : List Addr, H4 D = some (.lst (gs.map V.ref)) ∧ LsAt H2 H4 gs (((allL n d (i + 1)).take j).filter fun row => decide (ordOf (sdOf b ws d row) = uptoN o (i + 1))) ∧ ∀ a ∈ gs, a ≠ D)
        ⟨same_upd hD, [], upd_same, ⟨rfl, fun i a r h1 => by simp at h1⟩, fun a ha => by cases ha⟩ (fun j H4 _ ⟨s4, _⟩ => SqL.of (s4 _ _ eN)) ?_ ?_⟩
      · rintro j v H4 hv ⟨s4, gs, eD, LG, hgD⟩
        obtain ⟨a, ha, rfl⟩ : ∃ a, as[j]? = some a ∧ v = V.ref a := by
          rw [List.getElem?_map] at hv
          cases e : as[j]? with
          | none =>
            rw [e] at hv
            cases hv
          | some y =>
            rw [e] at hv
            exact ⟨y, rfl, (Option.some.inj hv).symm⟩
        have hil := (List.getElem?_eq_some_iff.mp ha).1
        obtain ⟨r, hr⟩ : ∃ r, (allL n d (i + 1))[j]? = some r := ⟨_, List.getElem?_eq_getElem (by rw [← LA.1]; exact hil)⟩
        obtain ⟨ea, ha0⟩ := LA.2 j a r ha hr
        obtain ⟨r1, r2, r3, r4⟩ := all_ok (i + 1) r (List.mem_of_getElem? hr)
        have hstep := good_take (b := b) (ws := ws) (d := d) (m := i + 1) (o := o) hr
        have sm4 := sm3.trans s4
        refine ⟨rfl, _, rfl, _, rfl, _, rfl, _, rfl, _, rfl, q, a, b, n, d, ws, r, rfl, hb, hb64, hnd, hd, sm4 _ _ hL, hne, s4 _ _ ea, by omega, r2, (fun t ht => ⟨(r3 t ht).1, (r3 t ht).2.1⟩), fun H5 p5 s5 hp5 ep5 => ?_⟩
        have eW5 := s5 _ _ (s4 _ _ eW3)
        have eD5 := s5 _ _ eD
        have LG5 := LG.same s5
        have s35 := s4.trans s5
        have hgl : gs.length ≤ 100000 := by
          rw [LG.1]
          refine Nat.le_trans (List.length_filter_le _ _) ?_
          rw [List.length_take]
          omega
        by_cases c : ordOf (sdOf b ws d r) = uptoN o (i + 1)
        · rw [c] at ep5
          refine ⟨_, rfl, .list ((uptoN o (i + 1)).map fun y => PyData.int (y : Nat)), .list ((uptoN o (i + 1)).map fun y => PyData.int (y : Nat)), .lst (SqL.of ep5) (dp_nats _), .lst (SqL.of eW5) (dp_nats _), nats_shaped _, nats_shaped _, true, eq_refl (d := .list ((uptoN o (i + 1)).map fun y => PyData.int (y : Nat))) (nats_lay _), iteT ?_⟩
          refine ⟨_, rfl, _, eD5, ?_, fun c o e => ?_, gs ++ [a], ?_, ?_⟩
          · rw [List.length_map]
            exact sizeLine_ge (by omega)
          · rw [upd_ne (ne_of_none e hD)]
            exact s35 _ _ e
          · rw [upd_same, List.map_append]
            rfl
          · rw [hstep, if_pos c]
            refine ⟨LsAt.app (LG5.keep fun a' ha' o e => by rw [upd_ne (hgD a' ha')]; exact e) (.one ?_ ha0), fun a' ha' => ?_⟩
            · rw [upd_ne fun z => ?_]
              · exact s35 _ _ ea
              · rw [z, hD] at ea
                cases ea
            · rcases List.mem_append.mp ha' with z | z
              · exact hgD a' z
              · rw [List.mem_singleton.mp z]
                intro z
                rw [z, hD] at ea
                cases ea
        · refine ⟨_, rfl, .list ((ordOf (sdOf b ws d r)).map fun y => PyData.int (y : Nat)), .list ((uptoN o (i + 1)).map fun y => PyData.int (y : Nat)), .lst (SqL.of ep5) (dp_nats _), .lst (SqL.of eW5) (dp_nats _), nats_shaped _, nats_shaped _, false, congrArg V.bl (nats_differ c), iteF ⟨s35, gs, eD5, ?_, hgD⟩⟩
          rw [hstep, if_neg c, List.append_nil]
          exact LG5
      rintro H4 ⟨s4, gs, eD, LG, _⟩
      rw [List.length_map, List.take_of_length_le (by rw [LA.1]; exact Nat.le_refl _)] at LG
      have LG : LsAt H2 H4 gs (goodL b ws d o n (i + 1)) := LG
      have sm4 := sm3.trans s4
      refine ⟨_, rfl, by simp [sizeLine_eq], fun l6 hl6 => ?_⟩
      have u6 := same_upd (o := .lst []) hl6
      have el6 := upd_same (H := H4) (a := l6) (o := .lst [])
      have eD6 := u6 _ _ eD
      have LG6 := LG.same u6
      have sm6 := sm4.trans u6
      have eO6 := sm6 _ _ hO
      generalize upd H4 l6 (.lst []) = H6 at el6 eD6 LG6 sm6 eO6 ⊢
      by_cases cx : i ≤ xs.length
      · obtain ⟨rest, hg⟩ := hfirst i cx
        rw [hg] at LG6
        have en : PyData.eqv (.list (((n :: xs.take i) :: rest).map natsD)) (.list []) = false := rfl
        refine ⟨.list (((n :: xs.take i) :: rest).map natsD), .list [], .lst (SqL.of eD6) (ls_dp LG6), .lst (SqL.of el6) .nil, ls_shaped _, rfl, false, congrArg V.bl en, iteF ?_⟩
        by_cases cm : i + 1 = o.length
        · refine ⟨_, rfl, _, rfl, O, _, rfl, .inl (SqL.of eO6), rfl, true, dT (vE (by rw [List.length_map]; exact cm)), iteT ?_⟩
          cases gs with
          | nil => cases LG6.1
          | cons g0 gs =>
            have eg := (LG6.2 0 g0 (n :: xs.take i) rfl rfl).1
            have exi : xs.take i = xs := List.take_of_length_le (by omega)
            rw [exi] at eg
            have eok := hfull (by omega)
            subst eok
            refine ⟨_, rfl, D, _, 0, _, rfl, rfl, SqL.of eD6, atI_nat (j := 0) rfl, by simp [sizeLine_eq], fun p hp => ?_⟩
            have u7 := same_upd (o := .tup [.str "ticks", .ref g0]) hp
            exact fin _ p (sm6.trans u7) ⟨g0, upd_same, u7 _ _ eg⟩
        · refine ⟨_, rfl, _, rfl, O, _, rfl, .inl (SqL.of eO6), rfl, false, dF (vN (by rw [List.length_map]; exact cm)), iteF ?_⟩
          refine ⟨_, _, _, _, _, rfl, sm6, by omega, by omega, fun h => ?_⟩
          cases ok with
          | false => rfl
          | true =>
            have := hpart rfl
            omega
      · have ei1 : i = xs.length + 1 := by omega
        have eok := hiok ei1
        subst eok
        have hg := none_good ho hnd hT hR0 hP
        have eg : goodL b ws d o n (i + 1) = [] := by rw [ei1]; exact hg
        rw [eg] at LG6
        have egs : gs = [] := List.eq_nil_of_length_eq_zero LG6.1
        subst egs
        refine ⟨.list [], .list [], .lst (SqL.of eD6) .nil, .lst (SqL.of el6) .nil, rfl, rfl, true, rfl, iteT ?_⟩
        refine ⟨_, rfl, i + 1, 1, rfl, rfl, Nat.le_add_left 1 i, by simp [sizeLine_eq], fun p hp => ?_⟩
        have u7 := same_upd (o := .tup [.str "never", .int ((i + 1 - 1 : Nat) : Int)]) hp
        refine fin _ p (sm6.trans u7) ?_
        show _ = some (HO.tup [.str "never", .int ((xs.length + 1 : Nat) : Int)])
        rw [← ei1]
        exact upd_same
    · obtain ⟨y5, y6, y7, y8, y9, rfl, sm, hio, _⟩ := hI
      exfalso
      have e : ((((o.map fun x => V.int (x : Nat)).length + 1 : Nat) : Int) - 1).toNat < o.length := hio
      rw [List.length_map] at e
      omega
end
/-! ### the source and the words, what else stands -/
theorem src_lv {H : Hp} {s c : Addr} {ws : List Bool} (h : SrcAt H s) (e : H c = some (.lst (ws.map lvV))) : c ≠ s := fun z => by
  obtain ⟨x, y, v, k⟩ := h
  rw [z, k] at e
  cases ws with
  | nil => cases e
  | cons t ts => cases t <;> cases e
structure B27 (H0 H : Hp) (s ql : Addr) (ws : List Bool) : Prop where
  base : Same H0 H
  s0 : H0 s = none
  src : SrcAt H s
  ql_ : H ql = some (.lst (ws.map lvV))
section
variable {H0 H H' : Hp} {s ql : Addr} {ws : List Bool}
theorem B27.same (D : B27 H0 H s ql ws) (k : Same H H') : B27 H0 H' s ql ws := ⟨D.base.trans k, D.s0, D.src.same k, k _ _ D.ql_⟩
theorem B27.draw (D : B27 H0 H s ql ws) (k : Stp s H H') : B27 H0 H' s ql ws := ⟨fun c o e => k.keep _ _ (ne_of_none e D.s0) (D.base _ _ e), D.s0, k.src, k.keep _ _ (src_lv D.src D.ql_) D.ql_⟩
theorem B27.put (D : B27 H0 H s ql ws) {O : Addr} {o : HO} (h0 : H0 O = none) (ns : O ≠ s) (nq : O ≠ ql) : B27 H0 (upd H O o) s ql ws := by
  refine ⟨fun c x e => ?_, D.s0, ?_, ?_⟩
  · rw [upd_ne (ne_of_none e h0)]
    exact D.base _ _ e
  · obtain ⟨x, y, v, e⟩ := D.src
    exact ⟨x, y, v, by rw [upd_ne (Ne.symm ns)]; exact e⟩
  · rw [upd_ne (Ne.symm nq)]
    exact D.ql_
end
/-- two numbers sorted -/
theorem sorted_two {x y : Nat} {ns : List Int} (p : ns.Perm [(x : Int), (y : Int)]) (h : ns.Pairwise (· ≤ ·)) : ∃ lo hi : Nat, ns = [(lo : Int), (hi : Int)] ∧ lo ≤ hi ∧ lo ≤ max x y ∧ hi ≤ max x y := by
  refine ⟨min x y, max x y, ?_, by omega, by omega, Nat.le_refl _⟩
  refine p.trans ?_ |>.eq_of_pairwise (le := (· ≤ ·)) (fun a b _ _ h1 h2 => Int.le_antisymm h1 h2) h ?_
  · by_cases c : x ≤ y
    · rw [Nat.min_eq_left c, Nat.max_eq_right c]
    · rw [Nat.min_eq_right (by omega), Nat.max_eq_left (by omega)]
      exact List.Perm.swap ..
  · refine List.pairwise_cons.mpr ⟨fun a ha => ?_, List.pairwise_singleton ..⟩
    rw [List.mem_singleton.mp ha]
    omega
/-! ### an order with one more -/
theorem ord_any {o : List Nat} (h : IsOrd o) (j : Nat) : IsOrd (o.take j ++ [o.length] ++ o.drop j) ∧ (o.take j ++ [o.length] ++ o.drop j).length = o.length + 1 := by
  have hn : o.length ∉ o := fun z => Nat.lt_irrefl _ ((h.2 _).mp z)
  have hp : (o.take j ++ [o.length] ++ o.drop j).Perm (o.length :: o) := by
    rw [List.append_assoc]
    refine List.perm_middle.trans ?_
    show (o.length :: (o.take j ++ o.drop j)).Perm _
    rw [List.take_append_drop]
  have hl : (o.take j ++ [o.length] ++ o.drop j).length = o.length + 1 := by
    rw [hp.length_eq]
    rfl
  refine ⟨⟨hp.nodup_iff.mpr (List.nodup_cons.mpr ⟨hn, h.1⟩), fun x => ?_⟩, hl⟩
  rw [hp.mem_iff, hl, List.mem_cons, h.2 x]
  omega
theorem iteTv {b : Bool} (h : b = true) {A B : Prop} (a : A) : if b = true then A else B := by
  rw [if_pos h]
  exact a
theorem iteFv {b : Bool} (h : ¬ b = true) {A B : Prop} (a : B) : if b = true then A else B := by
  rw [if_neg h]
  exact a
/-! ### law k25: an order of timers -/
section
variable {P : Program} {w : World} {K : PySem.W.Frag} {mg : Str → Option Value} {base : Heap}
def spOrder25 : Sp := fun vs H Q _ => ∃ (s : Addr) (many : Nat), vs = [.ref s, .int (many : Nat)] ∧ many ≤ 20 ∧ SrcAt H s ∧ ∀ H' N o, Stp s H H' → H N = none → H' N = some (.lst (o.map fun x => V.int (x : Nat))) → IsOrd o → o.length = many → Q (.ref N) H'
theorem ok_order25 {f : Addr} {fd : FuncData} (F : Fun K "_law_order" "_law_order" s__law_order f fd) (T : Tx K mg) (h5 : Has P w K mg base 2 "_law_next" ["_law_source_here", "_law_many"] [] spNext) :
    FnOk P w K mg base CX0 3 f fd ["_law_source_here", "_law_many"] spOrder25 := by
  obtain ⟨f__law_next, fd__law_next, ds__law_next, G__law_next, m__law_next, k__law_next, b__law_next, v__law_next⟩ := h5
  refine F.ok sc__law_order (fun vs H Q E h => ?_) (fun cdv A outer s H vs Q E hr h => ?_)
  · obtain ⟨s, many, rfl, _⟩ := h
    rfl
  · obtain ⟨s, many, rfl, hm, hsrc, fin⟩ := h
    refine ⟨_, (pss_cons (ps_set (i := 2) sc__law_order.nd rfl (.inl rfl) (pe_lst pa_nil))
      (pss_cons (ps_set (i := 3) sc__law_order.nd rfl (.inl rfl) (pe_cmpR op_eq (pe_call G__law_next hr (by rfl) m__law_next k__law_next b__law_next v__law_next pass0 (pa_cons (pv 0) (pa_cons pe_int pa_nil))) pe_int (nomark _)))
      (pss_cons (ps_for PassesOwn.never rfl (pi_range1 (by rfl) T.b_range (pa_cons (pv 1) pa_nil)) (pg_name (i := 4) sc__law_order.nd rfl (.inl rfl))
        (pss_cons (ps_set (i := 5) sc__law_order.nd rfl (.inl rfl) (pe_ix (ix_listK (K := K) rfl) (pe_lst (pa_cons pe_int (pa_cons (pv 4) pa_nil))) (pe_call G__law_next hr (by rfl) m__law_next k__law_next b__law_next v__law_next pass0 (pa_cons (pv 0) (pa_cons pe_int pa_nil))) (fun _ _ => rfl)))
        (pss_cons (ps_if (pt_truth (pv 3) (by intro _; rfl))
          (pss_one (ps_set (i := 5) sc__law_order.nd rfl (.inl rfl) (pe_call G__law_next hr (by rfl) m__law_next k__law_next b__law_next v__law_next pass0 (pa_cons (pv 0) (pa_cons (pe_op op_addN (pv 4) pe_int) pa_nil)))))
          pss_nil)
        (pss_one (ps_expr (pe_bm PySem.F.plainAttrs_list PySem.F.slot_list_insert PySem.F.type_list_insert mt_insert (pv 2) (pa_cons (pv 5) (pa_cons (pv 4) pa_nil))))))))
      (pss_one (ps_ret (pv 2)))))), ?_⟩
    refine ⟨by simp [sizeLine_eq], fun N hN => ?_⟩
    have u0 := same_upd (o := .lst []) hN
    have eN0 := upd_same (H := H) (a := N) (o := .lst [])
    have nNs : N ≠ s := hsrc.ne hN
    have st0 : Stp s H (upd H N (.lst [])) := ⟨fun c o _ e => u0 _ _ e, hsrc.same u0⟩
    generalize upd H N (.lst []) = H0 at u0 eN0 st0 ⊢
    refine ⟨_, rfl, s, 4, rfl, by decide, by decide, st0.src, fun r1 H1 hr1 s1 => ⟨rfl, ?_⟩⟩
    generalize decide (V.int (r1 : Nat) = V.int 0) = lo
    have st2 := st0.trans s1
    have eN2 := s1.keep _ _ nNs eN0
    refine ⟨_, rfl, _, rfl, by omega, by omega, for_range (Pv := fun i σ H' => ∃ (o : List Nat) (y5 y6 : Option V), σ = [some (.ref s), some (.int (many : Nat)), some (.ref N), some (.bl lo), y5, y6] ∧ Stp s H H' ∧ H' N = some (.lst (o.map fun x => V.int (x : Nat))) ∧ IsOrd o ∧ o.length = i)
      ⟨[], none, none, rfl, st2, eN2, ⟨List.nodup_nil, fun x => ⟨(fun h => by cases h), fun h => absurd h (Nat.not_lt_zero x)⟩⟩, rfl⟩ ?_ ?_⟩
    · rintro i σ H3 hi3 ⟨o, y5, y6, rfl, st3, eN3, ho, hol⟩
      have hi20 : i < many := hi3
      have ei : V.int (0 + (i : Nat)) = .int (i : Nat) := congrArg V.int (by omega)
      rw [ei]
      refine ⟨_, rfl, by simp [sizeLine_eq], fun l4 hl4 => ?_⟩
      have u4 := same_upd (o := .lst [.int 0, .int (i : Nat)]) hl4
      have el4 := upd_same (H := H3) (a := l4) (o := .lst [.int 0, .int (i : Nat)])
      have nl4 : l4 ≠ s := st3.src.ne hl4
      have eN4 := u4 _ _ eN3
      have st4 : Stp s H (upd H3 l4 (.lst [.int 0, .int (i : Nat)])) := ⟨fun c o nn e => u4 _ _ (st3.keep _ _ nn e), st3.src.same u4⟩
      generalize upd H3 l4 (.lst [.int 0, .int (i : Nat)]) = H4 at el4 eN4 st4 ⊢
      refine ⟨_, rfl, s, 2, rfl, by decide, by decide, st4.src, fun r6 H6 hr6 s6 => ?_⟩
      have st6 := st4.trans s6
      have el6 := s6.keep _ _ nl4 el4
      have eN6 := s6.keep _ _ nNs eN4
      obtain ⟨j0, ej0, hj0⟩ : ∃ j : Nat, ([.int 0, .int (i : Nat)] : List V)[r6]? = some (.int (j : Nat)) ∧ j ≤ i := by
        have z : r6 = 0 ∨ r6 = 1 := by omega
        rcases z with rfl | rfl
        · exact ⟨0, rfl, Nat.zero_le _⟩
        · exact ⟨i, rfl, Nat.le_refl _⟩
      refine ⟨l4, _, r6, _, rfl, rfl, SqL.of el6, atI_nat ej0, ?_⟩
      apply cut_at (I := fun (y6 : V) (H' : Hp) => Stp s H H' ∧ H' N = some (.lst (o.map fun x => V.int (x : Nat))) ∧ ∃ j : Nat, y6 = .int (j : Nat) ∧ j ≤ i)
      · intro next
        by_cases c1 : lo = true
        · refine ⟨_, rfl, lo, rfl, iteTv c1 ?_⟩
          refine ⟨_, rfl, _, rfl, i, 1, rfl, rfl, trivial, s, ((i + 1 : Nat) : Int), rfl, by omega, by omega, st6.src, fun r8 H8 hr8 s8 => ?_⟩
          obtain ⟨v8, ev8⟩ : ∃ v8, v8 = V.int (r8 : Nat) := ⟨_, rfl⟩
          rw [← ev8]
          exact next v8 H8 ⟨st6.trans s8, s8.keep _ _ nNs eN6, r8, ev8, by omega⟩
        · refine ⟨_, rfl, lo, rfl, iteFv c1 ?_⟩
          exact next _ H6 ⟨st6, eN6, j0, rfl, hj0⟩
      · rintro v6 H9 ⟨st9, eN9, j, rfl, hj⟩
        obtain ⟨m1, m2⟩ := ord_any ho j
        refine ⟨_, rfl, .inl ⟨rfl, _, SqL.of eN9⟩, _, rfl, _, rfl, N, _, (j : Nat), _, rfl, rfl, eN9, ?_, by omega, by omega, ?_⟩
        · rw [List.length_map]
          exact sizeLine_ge (by omega)
        have eins : (o.map fun x => V.int (x : Nat)).take ((j : Nat) : Int).toNat ++ [V.int (i : Nat)] ++ (o.map fun x => V.int (x : Nat)).drop ((j : Nat) : Int).toNat = (o.take j ++ [o.length] ++ o.drop j).map fun x => V.int (x : Nat) := by
          rw [List.map_append, List.map_append, List.map_take, List.map_drop, hol]
          rfl
        rw [eins]
        refine ⟨_, _, _, rfl, ⟨fun c o nn e => ?_, ?_⟩, upd_same, m1, by rw [m2, hol]⟩
        · rw [upd_ne (ne_of_none e hN)]
          exact st9.keep _ _ nn e
        · obtain ⟨x, y, v, e⟩ := st9.src
          exact ⟨x, y, v, by rw [upd_ne (Ne.symm nNs)]; exact e⟩
    · rintro σ H3 ⟨o, y5, y6, rfl, st3, eN3, ho, hol⟩
      have hol2 : o.length = many := hol
      exact ⟨_, rfl, fin H3 N o st3 hN eN3 ho hol2⟩
end
/-! ### levels as data -/
def lvD (b : Bool) : PyData := if b then .str "stack" else .str "queue"
theorem lvs_dp {K : PySem.W.Frag} {H : Hp} : ∀ ws : List Bool, DpAll K H (ws.map lvV) (ws.map lvD)
  | [] => .nil
  | true :: r => .cons (.str _) (lvs_dp r)
  | false :: r => .cons (.str _) (lvs_dp r)
theorem lvs_lay : ∀ ws : List Bool, PyData.canLayAll0 (ws.map lvD) = true
  | [] => rfl
  | b :: r => by
    show ((lvD b).canLay0 && PyData.canLayAll0 (r.map lvD)) = true
    rw [lvs_lay r]
    cases b <;> decide +kernel
theorem lvs_depth : ∀ ws : List Bool, PyData.depthAll (ws.map lvD) = 0
  | [] => rfl
  | b :: r => by
    show max (lvD b).depth (PyData.depthAll (r.map lvD)) = 0
    rw [lvs_depth r]
    cases b <;> rfl
theorem lvs_shaped (ws : List Bool) : SeqAt.shaped (.list (ws.map lvD)) = true := by
  have h1 : (PyData.list (ws.map lvD)).canLay0 = true := by
    show PyData.canLayAll0 _ = true
    exact lvs_lay ws
  have h2 : (PyData.list (ws.map lvD)).depth ≤ 64 := by
    show PyData.depthAll _ + 1 ≤ 64
    rw [lvs_depth ws]
    decide
  unfold SeqAt.shaped
  rw [h1, decide_eq_true h2]
  rfl
/-! ### what is told, as data -/
def toldD (n : Nat) (xs : List Nat) : Bool → PyData
  | true => .tuple [.str "ticks", .list ((n :: xs).map fun x => PyData.int (x : Nat))]
  | false => .tuple [.str "never", .int ((xs.length + 1 : Nat) : Int)]
theorem told_dp {K : PySem.W.Frag} {H : Hp} {p : Addr} {n : Nat} {xs : List Nat} : ∀ {ok : Bool}, ToldAt H p n xs ok → Dp K H (.ref p) (toldD n xs ok)
  | true, ⟨L, h1, h2⟩ => .tup (SqT.of h1) (.cons (.str _) (.cons (.lst (SqL.of h2) (dp_nats _)) .nil))
  | false, h => .tup (SqT.of h) (.cons (.str _) (.cons (.int _) .nil))
theorem told_lay (n : Nat) (xs : List Nat) : ∀ ok, (toldD n xs ok).canLay0 = true
  | true => by
    simp [toldD, PyData.canLay0, PyData.canLayAll0, nats_lay]
    decide +kernel
  | false => by
    simp [toldD, PyData.canLay0, PyData.canLayAll0]
    decide +kernel
theorem told_shaped (n : Nat) (xs : List Nat) (ok : Bool) : SeqAt.shaped (toldD n xs ok) = true := by
  have h2 : (toldD n xs ok).depth ≤ 64 := by
    cases ok with
    | true =>
      have h : (PyData.list ((n :: xs).map fun x => PyData.int (x : Nat))).depth = 1 := by
        show PyData.depthAll _ + 1 = 1
        rw [nats_depth (n :: xs)]
      show max (PyData.depth _) (max (PyData.depth (PyData.list ((n :: xs).map fun x => PyData.int (x : Nat)))) (PyData.depthAll [])) + 1 ≤ 64
      rw [h]
      decide
    | false =>
      show max 0 (max 0 0) + 1 ≤ 64
      decide
  unfold SeqAt.shaped
  rw [told_lay, decide_eq_true h2]
  rfl
theorem ToldAt.same {H H' : Hp} (s : Same H H') {p : Addr} {n : Nat} {xs : List Nat} : ∀ {ok : Bool}, ToldAt H p n xs ok → ToldAt H' p n xs ok
  | true, ⟨L, h1, h2⟩ => ⟨L, s _ _ h1, s _ _ h2⟩
  | false, h => s _ _ h
/-! ### law k25 -/
def keptD (o : List Nat) (ws : List Bool) : PyData := .tuple [.list (o.map fun x => PyData.int (x : Nat)), .list (ws.map lvD)]
theorem kept_lay (o : List Nat) (ws : List Bool) : (keptD o ws).canLay0 = true := by
  simp [keptD, PyData.canLay0, PyData.canLayAll0, nats_lay, lvs_lay]
theorem kept_shaped (o : List Nat) (ws : List Bool) : SeqAt.shaped (keptD o ws) = true := by
  have h2 : (keptD o ws).depth ≤ 64 := by
    have h : (PyData.list (o.map fun x => PyData.int (x : Nat))).depth = 1 := by
      show PyData.depthAll _ + 1 = 1
      rw [nats_depth o]
    have h' : (PyData.list (ws.map lvD)).depth = 1 := by
      show PyData.depthAll _ + 1 = 1
      rw [lvs_depth ws]
    show max (PyData.depth _) (max (PyData.depth _) (PyData.depthAll [])) + 1 ≤ 64
    rw [h, h']
    decide
  unfold SeqAt.shaped
  rw [kept_lay, decide_eq_true h2]
  rfl
theorem cut_ab {α β : Type} {I : α → β → Hp → Prop} {G : Prop} (R : α → β → Hp → Prop) (h1 : (∀ a c H, I a c H → R a c H) → G) (h2 : ∀ a c H, I a c H → R a c H) : G := h1 h2
section
variable {P : Program} {w : World} {K : PySem.W.Frag} {mg : Str → Option Value} {base : Heap}
def spLaw (K : PySem.W.Frag) : Sp := fun vs H Q _ => ∃ (a : Addr) (ns : List Int), vs = [.ref a] ∧ SqL K H a (ns.map V.int) ∧ ns.length ≤ 63 ∧ ∀ H', Q (.bl true) H'
theorem ok_law {f : Addr} {fd : FuncData} (F : Fun K "law" "law" s_law f fd) (T : Tx K mg)
    (h1 : Has P w K mg base 2 "_law_source" ["_law_script", "_law_k"] [] (spSource K)) (h3 : Has P w K mg base 3 "_law_levels" ["_law_source_here"] [] spLevels)
    (h5 : Has P w K mg base 2 "_law_next" ["_law_source_here", "_law_many"] [] spNext)
    (h6 : Has P w K mg base 5 "set_ticks" ["base", "levels", "start", "due", "order"] [] (spSetTicks K)) (h7 : Has P w K mg base 3 "_law_order" ["_law_source_here", "_law_many"] [] spOrder25)
    (h8 : Has P w K mg base 5 "_law_due" ["_law_base", "_law_levels_here", "_law_begin", "_law_due_here", "_law_order_here"] [] spDue25) :
    FnOk P w K mg base CX0 6 f fd ["_law_script"] (spLaw K) := by
  obtain ⟨f__law_source, fd__law_source, ds__law_source, G__law_source, m__law_source, k__law_source, b__law_source, v__law_source⟩ := h1
  obtain ⟨f__law_levels, fd__law_levels, ds__law_levels, G__law_levels, m__law_levels, k__law_levels, b__law_levels, v__law_levels⟩ := h3
  obtain ⟨f__law_next, fd__law_next, ds__law_next, G__law_next, m__law_next, k__law_next, b__law_next, v__law_next⟩ := h5
  obtain ⟨f_set_ticks, fd_set_ticks, ds_set_ticks, G_set_ticks, m_set_ticks, k_set_ticks, b_set_ticks, v_set_ticks⟩ := h6
  obtain ⟨f__law_order, fd__law_order, ds__law_order, G__law_order, m__law_order, k__law_order, b__law_order, v__law_order⟩ := h7
  obtain ⟨f__law_due, fd__law_due, ds__law_due, G__law_due, m__law_due, k__law_due, b__law_due, v__law_due⟩ := h8
  refine F.ok sc_law (fun vs H Q E h => ?_) (fun cdv A outer s H vs Q E hr h => ?_)
  · obtain ⟨a, ns, rfl, _⟩ := h
    rfl
  · obtain ⟨sa, ns, rfl, hS, hlen, fin⟩ := h
    refine ⟨_, (pss_cons (ps_for PassesOwn.never rfl (pi_range1 (by rfl) T.b_range (pa_cons (pe_callB (max2N rfl) (by rfl) T.b_max (by decide +kernel) (pa_cons pe_int (pa_cons (pe_callB (min2N rfl) (by rfl) T.b_min (by decide +kernel) (pa_cons pe_int (pa_cons (pe_callB (lenK (K := K) rfl) (by rfl) T.b_len PySem.boot_len (pa_cons (pv 0) pa_nil)) pa_nil))) pa_nil))) pa_nil)) (pg_name (i := 1) sc_law.nd rfl (.inl rfl))
        (pss_cons (ps_set (i := 2) sc_law.nd rfl (.inl rfl) (pe_call G__law_source (hr.mono (by decide)) (by rfl) m__law_source k__law_source b__law_source v__law_source pass0 (pa_cons (pv 0) (pa_cons (pv 1) pa_nil))))
        (pss_cons (ps_set (i := 3) sc_law.nd rfl (.inl rfl) (pe_op op_addN pe_int (pe_call G__law_next (hr.mono (by decide)) (by rfl) m__law_next k__law_next b__law_next v__law_next pass0 (pa_cons (pv 2) (pa_cons pe_int pa_nil)))))
        (pss_cons (ps_set (i := 4) sc_law.nd rfl (.inl rfl) (pe_call G__law_levels (hr.mono (by decide)) (by rfl) m__law_levels k__law_levels b__law_levels v__law_levels pass0 (pa_cons (pv 2) pa_nil)))
        (pss_cons (ps_set (i := 5) sc_law.nd rfl (.inl rfl) (pe_call G__law_next (hr.mono (by decide)) (by rfl) m__law_next k__law_next b__law_next v__law_next pass0 (pa_cons (pv 2) (pa_cons pe_int pa_nil))))
        (pss_cons (ps_if (pt_cmpR op_eq (pe_call G__law_next (hr.mono (by decide)) (by rfl) m__law_next k__law_next b__law_next v__law_next pass0 (pa_cons (pv 2) (pa_cons pe_int pa_nil))) pe_int (nomark _))
          (pss_cons (ps_for PassesOwn.never rfl (pi_range1 (by rfl) T.b_range (pa_cons (pe_call G__law_next (hr.mono (by decide)) (by rfl) m__law_next k__law_next b__law_next v__law_next pass0 (pa_cons (pv 2) (pa_cons pe_int pa_nil))) pa_nil)) (pg_name (i := 6) sc_law.nd rfl (.inl rfl))
            (pss_one (ps_set (i := 5) sc_law.nd rfl (.inl rfl) (pe_op op_remN (pe_op op_mulN (pv 5) (pv 3)) (pe_op op_pow pe_int pe_int)))))
          (pss_one (ps_set (i := 5) sc_law.nd rfl (.inl rfl) (pe_op op_addN (pv 5) (pe_call G__law_next (hr.mono (by decide)) (by rfl) m__law_next k__law_next b__law_next v__law_next pass0 (pa_cons (pv 2) (pa_cons pe_int pa_nil)))))))
          pss_nil)
        (pss_cons (ps_set (i := 7) sc_law.nd rfl (.inl rfl) (pe_call G__law_order (hr.mono (by decide)) (by rfl) m__law_order k__law_order b__law_order v__law_order pass0 (pa_cons (pv 2) (pa_cons (pe_op op_addN pe_int (pe_call G__law_next (hr.mono (by decide)) (by rfl) m__law_next k__law_next b__law_next v__law_next pass0 (pa_cons (pv 2) (pa_cons pe_int pa_nil)))) pa_nil))))
        (pss_cons (ps_set (i := 8) sc_law.nd rfl (.inl rfl) (pe_op op_addN (pe_op op_addN (pv 5) pe_int) (pe_call G__law_next (hr.mono (by decide)) (by rfl) m__law_next k__law_next b__law_next v__law_next pass0 (pa_cons (pv 2) (pa_cons (pe_ix (ix_listK (K := K) rfl) (pe_lst (pa_cons pe_int (pa_cons pe_int pa_nil))) (pe_op op_divN (pe_callB (lenK (K := K) rfl) (by rfl) T.b_len PySem.boot_len (pa_cons (pv 7) pa_nil)) pe_int) (fun _ _ => rfl)) pa_nil)))))
        (pss_cons (ps_set (i := 9) sc_law.nd rfl (.inl rfl) (pe_tup (pa_cons (pe_callTy call_list_of (by rfl) T.b_list (by decide +kernel) (pa_cons (pv 7) pa_nil)) (pa_cons (pe_callTy call_list_of (by rfl) T.b_list (by decide +kernel) (pa_cons (pv 4) pa_nil)) pa_nil))))
        (pss_cons (ps_set (i := 10) sc_law.nd rfl (.inl rfl) (pe_call G_set_ticks hr (by rfl) m_set_ticks k_set_ticks b_set_ticks v_set_ticks pass0 (pa_cons (pv 3) (pa_cons (pv 4) (pa_cons (pv 5) (pa_cons (pv 8) (pa_cons (pv 7) pa_nil)))))))
        (pss_cons (ps_if (PW.pt (pw_or (pt_cmpR (op_neK (K := K) rfl hr.units) (pv 10) (pe_call G__law_due hr (by rfl) m__law_due k__law_due b__law_due v__law_due pass0 (pa_cons (pv 3) (pa_cons (pv 4) (pa_cons (pv 5) (pa_cons (pv 8) (pa_cons (pv 7) pa_nil)))))) (nomark _)) (pw_or1 (pt_cmpR (op_neK (K := K) rfl hr.units) (pe_tup (pa_cons (pv 7) (pa_cons (pv 4) pa_nil))) (pv 9) (nomark _)))))
          (pss_one (ps_ret pe_bl))
          pss_nil)
        (pss_cons (ps_if (pt_cmpR op_eq (pe_ix (ix_tupK (K := K) rfl) (pv 10) pe_int (fun _ _ => rfl)) pe_str (nomark _))
          (pss_one (ps_expr (pe_bm PySem.F.plainAttrs_list PySem.F.slot_list_append PySem.F.type_list_append mt_append (pe_ix (ix_tupK (K := K) rfl) (pv 10) pe_int (fun _ _ => rfl)) (pa_cons pe_int pa_nil))))
          pss_nil)
        (pss_one (ps_if (pt_cmpR (op_neK (K := K) rfl hr.units) (pe_call G_set_ticks hr (by rfl) m_set_ticks k_set_ticks b_set_ticks v_set_ticks pass0 (pa_cons (pv 3) (pa_cons (pv 4) (pa_cons (pv 5) (pa_cons (pv 8) (pa_cons (pv 7) pa_nil)))))) (pe_call G__law_due hr (by rfl) m__law_due k__law_due b__law_due v__law_due pass0 (pa_cons (pv 3) (pa_cons (pv 4) (pa_cons (pv 5) (pa_cons (pv 8) (pa_cons (pv 7) pa_nil)))))) (nomark _))
          (pss_one (ps_ret pe_bl))
          pss_nil))))))))))))))
      (pss_one (ps_ret pe_bl))), ?_⟩
    refine ⟨.ref sa, rfl, sa, ns.map V.int, rfl, .inl hS, 5, _, rfl, 1, _, rfl, _, rfl, by omega, by rw [List.length_map]; omega, for_range (Pv := fun i σ H' => Same H H' ∧ ∃ y1 y2 y3 y4 y5 y6 y7 y8 y9 y10, σ = [some (.ref sa), y1, y2, y3, y4, y5, y6, y7, y8, y9, y10]) ⟨Same.refl _, none, none, none, none, none, none, none, none, none, none, rfl⟩ ?_ ?_⟩
    · rintro i0 σ Hz hi ⟨bz, y1, y2, y3, y4, y5, y6, y7, y8, y9, y10, rfl⟩
      refine ⟨_, rfl, _, rfl, sa, ns, 0 + i0, rfl, bz.seq hS, fun H1 ps0 s1 hp0 hsrc => ?_⟩
      refine ⟨_, rfl, ps0, 3, rfl, by decide, by decide, hsrc, fun r2 H2 hr2 s2 => ⟨2, r2, rfl, rfl, trivial, ?_⟩⟩
      obtain ⟨b, eb, hb, hb64⟩ : ∃ b, b = 2 + r2 ∧ 2 ≤ b ∧ b ≤ 64 := ⟨_, rfl, by omega, by omega⟩
      dsimp only
      rw [← eb]
      refine ⟨_, rfl, ps0, rfl, s2.src, fun H3 ql ws s3 hql0 hql hne h60 => ?_⟩
      have hps0 : H ps0 = none := bz.free hp0
      have D3 : B27 H H3 ps0 ql ws := by
        have s13 : Stp ps0 H1 H3 := s2.trans s3
        exact ⟨fun c o e => s13.keep _ _ (ne_of_none e hps0) (s1 _ _ (bz _ _ e)), hps0, s3.src, hql⟩
      refine ⟨_, rfl, ps0, 30, rfl, by decide, by decide, D3.src, fun r4 H4 hr4 s4 => ?_⟩
      have D4 := D3.draw s4
      have h50 : 0 < (10 : Nat) ^ 50 ∧ (10 : Nat) ^ 50 < 2 ^ 175 := by decide
      apply cut_ab (I := fun (n : Nat) (y6 : Option V) (H' : Hp) => B27 H H' ps0 ql ws ∧ n < 2 ^ 180)
      · intro next
        refine ⟨_, rfl, ps0, 3, rfl, by decide, by decide, D4.src, fun r5 H5 hr5 s5 => ?_⟩
        have D5 := D4.draw s5
        by_cases c1 : r5 = 0
        · refine ⟨rfl, true, dT (vE (b := 0) c1), iteT ?_⟩
          refine ⟨_, rfl, ps0, 40, rfl, by decide, by decide, D5.src, fun r6 H6 hr6 s6 => ⟨_, rfl, by omega, by omega, for_range (Pv := fun i σ H' => ∃ (n : Nat) (y6 : Option V), σ = [some (.ref sa), some (.int (0 + (i0 : Int))), some (.ref ps0), some (.int (b : Nat)), some (.ref ql), some (.int (n : Nat)), y6, y7, y8, y9, y10] ∧ B27 H H' ps0 ql ws ∧ n < 2 ^ 175) ⟨r4, _, rfl, D5.draw s6, by omega⟩ ?_ ?_⟩⟩
          · rintro i σ H7 hi7 ⟨n, y6, rfl, D7, hn⟩
            refine ⟨_, rfl, _, rfl, n, b, rfl, rfl, nmul_w 250 250 (by omega) (by omega), 10, 50, rfl, rfl, ⟨by decide, by decide, by decide⟩, n * b, 10 ^ 50, rfl, congrArg V.int (by decide), (by show 0 < 10 ^ 50; decide), n * b % 10 ^ 50, _, rfl, D7, ?_⟩
            exact Nat.lt_trans (Nat.mod_lt (n * b) h50.1) h50.2
          · rintro σ H7 ⟨n, y6, rfl, D7, hn⟩
            refine ⟨_, rfl, _, rfl, ps0, 9, rfl, by decide, by decide, D7.src, fun r8 H8 hr8 s8 => ⟨n, r8, rfl, rfl, trivial, ?_⟩⟩
            obtain ⟨n', en⟩ : ∃ n', n' = n + r8 := ⟨_, rfl⟩
            dsimp only
            rw [← en]
            dsimp only [gName, List.set]
            exact next n' y6 H8 ⟨D7.draw s8, by omega⟩
        · refine ⟨rfl, false, dF (vN (b := 0) c1), iteF ?_⟩
          exact next r4 y6 H5 ⟨D5, by omega⟩
      · rintro n y6 H9 ⟨D9, hn⟩
        refine ⟨_, rfl, _, rfl, ps0, 4, rfl, by decide, by decide, D9.src, fun r10 H10 hr10 s10 => ⟨1, r10, rfl, rfl, trivial, ?_⟩⟩
        have D10 := D9.draw s10
        refine ⟨ps0, 1 + r10, rfl, by omega, D10.src, fun H11 O o s11 hO eO ho hol => ?_⟩
        have D11 := D10.draw s11
        have nOs : O ≠ ps0 := D10.src.ne hO
        have hone : o ≠ [] := fun z => by
          rw [z] at hol
          simp at hol
          omega
        have ho14 : 1 ≤ o.length ∧ o.length ≤ 4 := by
          constructor <;> omega
        -- the due tick
        refine ⟨_, rfl, n, 1, rfl, rfl, trivial, _, rfl, by simp [sizeLine_eq], fun l12 hl12 => ?_⟩
        have u12 := same_upd (o := .lst [.int 8, .int 5]) hl12
        have D12 := D11.same u12
        have eO12 := u12 _ _ eO
        have el12 := upd_same (H := H11) (a := l12) (o := .lst [.int 8, .int 5])
        generalize upd H11 l12 (.lst [.int 8, .int 5]) = H12 at D12 eO12 el12 ⊢
        obtain ⟨m12, em12, hm12⟩ : ∃ m : Nat, ([.int 8, .int 5] : List V)[(o.map fun x => V.int (x : Nat)).length / 4]? = some (.int (m : Nat)) ∧ 0 < m ∧ m ≤ 8 := by
          rw [List.length_map]
          have z : o.length / 4 = 0 ∨ o.length / 4 = 1 := by omega
          rcases z with e | e
          · rw [e]
            exact ⟨8, rfl, by decide, by decide⟩
          · rw [e]
            exact ⟨5, rfl, by decide, by decide⟩
        refine ⟨_, rfl, O, _, rfl, .inl (SqL.of eO12), (o.map fun x => V.int (x : Nat)).length, 4, rfl, rfl, ndiv 3 (by decide) (by decide), l12, _, (((o.map fun x => V.int (x : Nat)).length / 4 : Nat) : Int), _, rfl, rfl, SqL.of el12, atI_nat em12, ps0, (m12 : Nat), rfl, by omega, by omega, D12.src, fun r13 H13 hr13 s13 => ⟨n + 1, r13, rfl, rfl, trivial, ?_⟩⟩
        obtain ⟨d, ed, hnd, hd10, hd⟩ : ∃ d, d = n + 1 + r13 ∧ n < d ∧ d - n ≤ 10 ∧ d < 2 ^ 200 := ⟨_, rfl, by omega, by omega, by omega⟩
        dsimp only
        rw [← ed]
        have D13 := D12.draw s13
        have eO13 := s13.keep _ _ nOs eO12
        refine ⟨_, rfl, O, _, rfl, .inl (SqL.of eO13), fun l14 hl14 => ?_⟩
        have u14 := same_upd (o := .lst (o.map fun x => V.int (x : Nat))) hl14
        have D14 := D13.same u14
        have eO14 := u14 _ _ eO13
        have el14 := upd_same (H := H13) (a := l14) (o := .lst (o.map fun x => V.int (x : Nat)))
        generalize upd H13 l14 (.lst (o.map fun x => V.int (x : Nat))) = H14 at D14 eO14 el14 ⊢
        refine ⟨_, rfl, ql, _, rfl, .inl (SqL.of D14.ql_), fun l15 hl15 => ⟨by simp [sizeLine_eq], fun t16 ht16 => ?_⟩⟩
        have u15 := same_upd (o := .lst (ws.map lvV)) hl15
        have u16 := same_upd (o := .tup [.ref l14, .ref l15]) ht16
        have D16 := (D14.same u15).same u16
        have eO16 := u16 _ _ (u15 _ _ eO14)
        have el14 := u16 _ _ (u15 _ _ el14)
        have el15 := u16 _ _ (upd_same (H := H14) (a := l15) (o := .lst (ws.map lvV)))
        have et16 := upd_same (H := upd H14 l15 (.lst (ws.map lvV))) (a := t16) (o := .tup [.ref l14, .ref l15])
        generalize upd (upd H14 l15 (.lst (ws.map lvV))) t16 (.tup [.ref l14, .ref l15]) = H16 at D16 eO16 el14 el15 et16 ⊢
        refine ⟨_, rfl, _, rfl, _, rfl, _, rfl, _, rfl, b, n, d, ql, O, ws, o, rfl, hb, hb64, hnd, Nat.lt_trans hd (by decide), SqL.of D16.ql_, hne, h60, SqL.of eO16, ho, hone, by omega, fun k hk xs ok hP H17 p s17 hp0 told hfresh => ?_⟩
        have D17 := D16.same s17
        have eO17 := s17 _ _ eO16
        refine ⟨_, rfl, _, rfl, _, rfl, _, rfl, _, rfl, _, rfl, b, n, d, k, ql, O, ws, o, xs, ok, rfl, hb, hb64, hnd, hd10, Nat.lt_trans hd (by decide), D17.ql_, hne, eO17, ho, hone, by omega, hk, hP, fun H18 p' s18 told' => ?_⟩
        have D18 := D17.same s18
        have eO18 := s18 _ _ eO17
        have told18 := told.same s18
        refine ⟨toldD n xs ok, toldD n xs ok, told_dp told18, told_dp told', told_shaped _ _ _, told_shaped _ _ _, false, neq_refl (told_lay _ _ _), iteF ?_⟩
        refine ⟨_, rfl, _, rfl, by simp [sizeLine_eq], fun t19 ht19 => ?_⟩
        have u19 := same_upd (o := .tup [.ref O, .ref ql]) ht19
        have D19 := D18.same u19
        have eO19 := u19 _ _ eO18
        have told19 := told18.same u19
        have s19 := (s17.trans s18).trans u19
        have u19' := u19
        have et19 := upd_same (H := H18) (a := t19) (o := .tup [.ref O, .ref ql])
        generalize upd H18 t19 (.tup [.ref O, .ref ql]) = H19 at D19 eO19 told19 s19 et19 u19' ⊢
        refine ⟨_, rfl, keptD o ws, keptD o ws, .tup (SqT.of et19) (.cons (.lst (SqL.of eO19) (dp_nats _)) (.cons (.lst (SqL.of D19.ql_) (lvs_dp _)) .nil)), .tup (SqT.of (s19 _ _ et16)) (.cons (.lst (SqL.of (s19 _ _ el14)) (dp_nats _)) (.cons (.lst (SqL.of (s19 _ _ el15)) (lvs_dp _)) .nil)), kept_shaped _ _, kept_shaped _ _, false, neq_refl (kept_lay _ _), iteF ?_⟩
        have hcase : (∃ L, H19 p = some (.tup [.str "ticks", .ref L]) ∧ H19 L = some (.lst ((n :: xs).map fun x => V.int (x : Nat))) ∧ H16 L = none) ∨ ∃ v, H19 p = some (.tup [.str "never", v]) := by
          have s79 := s18.trans u19'
          cases ok with
          | true =>
            obtain ⟨L, ep, eL⟩ := told
            exact .inl ⟨L, s79 _ _ ep, s79 _ _ eL, hfresh L ep⟩
          | false => exact .inr ⟨_, told19⟩
        have hxl : xs.length ≤ 10 := by
          have := hP.le
          rw [wantOf_len] at this
          omega
        apply cut_rest (I := fun H' => B27 H H' ps0 ql ws ∧ H' O = some (.lst (o.map fun x => V.int (x : Nat))))
        · intro next
          rcases hcase with ⟨L, ep, eL, hL0⟩ | ⟨v, ep⟩
          · refine ⟨_, rfl, p, _, 0, _, rfl, rfl, .inl (.inl ep), atI_nat (j := 0) rfl, rfl, true, dT rfl, iteT ?_⟩
            refine ⟨_, rfl, p, _, 1, _, rfl, rfl, .inl (.inl ep), atI_nat (j := 1) rfl, .inl ⟨rfl, _, SqL.of eL⟩, L, _, _, rfl, rfl, eL, ?_, ?_⟩
            · rw [List.length_map, List.length_cons]
              exact sizeLine_ge (by omega)
            obtain ⟨H20, e20⟩ : ∃ H20, H20 = upd H19 L (.lst (((n :: xs).map fun x => V.int (x : Nat)) ++ [.int 7])) := ⟨_, rfl⟩
            rw [← e20]
            refine next H20 ⟨?_, ?_⟩
            · rw [e20]
              refine D19.put (D16.base.free hL0) (D16.src.ne hL0) fun z => ?_
              have y := D16.ql_
              rw [← z, hL0] at y
              cases y
            · rw [e20, upd_ne fun z => ?_]
              · exact eO19
              · rw [z, hL0] at eO16
                cases eO16
          · refine ⟨_, rfl, p, _, 0, _, rfl, rfl, .inl (.inl ep), atI_nat (j := 0) rfl, rfl, false, dF (by decide), iteF ?_⟩
            exact next H19 ⟨D19, eO19⟩
        · rintro H21 ⟨D21, eO21⟩
          refine ⟨_, rfl, _, rfl, _, rfl, _, rfl, _, rfl, b, n, d, ql, O, ws, o, rfl, hb, hb64, hnd, Nat.lt_trans hd (by decide), SqL.of D21.ql_, hne, h60, SqL.of eO21, ho, hone, by omega, fun k2 hk2 xs2 ok2 hP2 H22 p22 s22 hp22 told22 _ => ?_⟩
          have D22 := D21.same s22
          have eO22 := s22 _ _ eO21
          refine ⟨_, rfl, _, rfl, _, rfl, _, rfl, _, rfl, b, n, d, k2, ql, O, ws, o, xs2, ok2, rfl, hb, hb64, hnd, hd10, Nat.lt_trans hd (by decide), D22.ql_, hne, eO22, ho, hone, by omega, hk2, hP2, fun H23 p23 s23 told23 => ?_⟩
          have D23 := D22.same s23
          exact ⟨toldD n xs2 ok2, toldD n xs2 ok2, told_dp (told22.same s23), told_dp told23, told_shaped _ _ _, told_shaped _ _ _, false, neq_refl (told_lay _ _ _), iteF ⟨D23.base, _, _, _, _, _, _, _, _, _, _, rfl⟩⟩
    · rintro σ Hz ⟨bz, y1, y2, y3, y4, y5, y6, y7, y8, y9, y10, rfl⟩
      exact fin Hz
end
theorem all_mk {l : PySem.W.OpenLaw} {w : World} {K : PySem.W.Frag} {h : Heap} {mg : Str → Option Value} {fa : Addr} (X : K.In h) (G : h.Ns mainGlobals mg) (hfa : mg "law" = some (.ref fa))
    {f_WORDS : Addr} {od_WORDS : Option Addr} {tk0_WORDS tk1_WORDS : Tok} {tn_WORDS : Nat} {ts_WORDS : Array (Option Value)}
    {tk_MOST_LEVELS : Tok}
    {f_is_integer f_is_word f_is_base f_is_length f_are_levels f_is_tick f_check_base f_check_levels f_check_tick f_word_at f_level_and_size f_path f_check_order f_ticks_and_sides f_sides_wanted f_set_ticks f_law_cell_at f_law_mixed f_law_source f_law_next f_law_levels f_law_level f_law_digit f_law_zeros f_law_place f_law_pass f_law_fired f_law_lists f_law_due f_law_order f_law : Addr}
    {od_is_integer an_is_integer od_is_word an_is_word od_is_base an_is_base od_is_length an_is_length od_are_levels an_are_levels od_is_tick an_is_tick od_check_base an_check_base od_check_levels an_check_levels od_check_tick an_check_tick od_word_at an_word_at od_level_and_size an_level_and_size od_path an_path od_check_order an_check_order od_ticks_and_sides an_ticks_and_sides od_sides_wanted an_sides_wanted od_set_ticks an_set_ticks od_law_cell_at an_law_cell_at od_law_mixed an_law_mixed od_law_source an_law_source od_law_next an_law_next od_law_levels an_law_levels od_law_level an_law_level od_law_digit an_law_digit od_law_zeros an_law_zeros od_law_place an_law_place od_law_pass an_law_pass od_law_fired an_law_fired od_law_lists an_law_lists od_law_due an_law_due od_law_order an_law_order od_law an_law : Option Addr}
    {sl_is_integer sl_is_word sl_is_base sl_is_length sl_are_levels sl_is_tick sl_check_base sl_check_levels sl_check_tick sl_word_at sl_level_and_size sl_path sl_check_order sl_ticks_and_sides sl_sides_wanted sl_set_ticks sl_law_cell_at sl_law_mixed sl_law_source sl_law_next sl_law_levels sl_law_level sl_law_digit sl_law_zeros sl_law_place sl_law_pass sl_law_fired sl_law_lists sl_law_due sl_law_order sl_law : Array (Option Value)}
    {oc_is_integer kV_is_integer dc_is_integer pm_is_integer cd_is_integer ct_is_integer oc_is_word kV_is_word dc_is_word pm_is_word cd_is_word ct_is_word oc_is_base kV_is_base dc_is_base pm_is_base cd_is_base ct_is_base oc_is_length kV_is_length dc_is_length pm_is_length cd_is_length ct_is_length oc_are_levels kV_are_levels dc_are_levels pm_are_levels cd_are_levels ct_are_levels oc_is_tick kV_is_tick dc_is_tick pm_is_tick cd_is_tick ct_is_tick oc_check_base kV_check_base dc_check_base pm_check_base cd_check_base ct_check_base oc_check_levels kV_check_levels dc_check_levels pm_check_levels cd_check_levels ct_check_levels oc_check_tick kV_check_tick dc_check_tick pm_check_tick cd_check_tick ct_check_tick oc_word_at kV_word_at dc_word_at pm_word_at cd_word_at ct_word_at oc_level_and_size kV_level_and_size dc_level_and_size pm_level_and_size cd_level_and_size ct_level_and_size oc_path kV_path dc_path pm_path cd_path ct_path oc_check_order kV_check_order dc_check_order pm_check_order cd_check_order ct_check_order oc_ticks_and_sides kV_ticks_and_sides dc_ticks_and_sides pm_ticks_and_sides cd_ticks_and_sides ct_ticks_and_sides oc_sides_wanted kV_sides_wanted dc_sides_wanted pm_sides_wanted cd_sides_wanted ct_sides_wanted oc_set_ticks kV_set_ticks dc_set_ticks pm_set_ticks cd_set_ticks ct_set_ticks oc_law_cell_at kV_law_cell_at dc_law_cell_at pm_law_cell_at cd_law_cell_at ct_law_cell_at oc_law_mixed kV_law_mixed dc_law_mixed pm_law_mixed cd_law_mixed ct_law_mixed oc_law_source kV_law_source dc_law_source pm_law_source cd_law_source ct_law_source oc_law_next kV_law_next dc_law_next pm_law_next cd_law_next ct_law_next oc_law_levels kV_law_levels dc_law_levels pm_law_levels cd_law_levels ct_law_levels oc_law_level kV_law_level dc_law_level pm_law_level cd_law_level ct_law_level oc_law_digit kV_law_digit dc_law_digit pm_law_digit cd_law_digit ct_law_digit oc_law_zeros kV_law_zeros dc_law_zeros pm_law_zeros cd_law_zeros ct_law_zeros oc_law_place kV_law_place dc_law_place pm_law_place cd_law_place ct_law_place oc_law_pass kV_law_pass dc_law_pass pm_law_pass cd_law_pass ct_law_pass oc_law_fired kV_law_fired dc_law_fired pm_law_fired cd_law_fired ct_law_fired oc_law_lists kV_law_lists dc_law_lists pm_law_lists cd_law_lists ct_law_lists oc_law_due kV_law_due dc_law_due pm_law_due cd_law_due ct_law_due oc_law_order kV_law_order dc_law_order pm_law_order cd_law_order ct_law_order oc_law kV_law dc_law pm_law cd_law ct_law : Value}
    {dT_is_tick : Addr} {tc_is_tick : Value} {td_is_tick : Option Addr} {tt_is_tick : Tok} {tn_is_tick : Nat} {ts_is_tick : Array (Option Value)}
    {dT_check_tick : Addr} {tc_check_tick : Value} {td_check_tick : Option Addr} {tt_check_tick : Tok} {tn_check_tick : Nat} {ts_check_tick : Array (Option Value)}
    (a_is_integer : PySem.W.nsIn K mainGlobals "is_integer" = some (some (.ref f_is_integer)))
    (l_is_integer : K.lookup f_is_integer = some ⟨oc_is_integer, od_is_integer, .func (PySem.W.fnOf "is_integer" "is_integer" (defArgs s_is_integer) (defBody s_is_integer) (defScope s_is_integer) .none kV_is_integer dc_is_integer pm_is_integer an_is_integer cd_is_integer ct_is_integer), sl_is_integer⟩)
    (c_is_integer : PySem.W.codeIn K cd_is_integer "is_integer" = true) (k_is_integer : PySem.W.keepIn K (.ref f_is_integer) = true)
    (a_is_word : PySem.W.nsIn K mainGlobals "is_word" = some (some (.ref f_is_word)))
    (l_is_word : K.lookup f_is_word = some ⟨oc_is_word, od_is_word, .func (PySem.W.fnOf "is_word" "is_word" (defArgs s_is_word) (defBody s_is_word) (defScope s_is_word) .none kV_is_word dc_is_word pm_is_word an_is_word cd_is_word ct_is_word), sl_is_word⟩)
    (c_is_word : PySem.W.codeIn K cd_is_word "is_word" = true) (k_is_word : PySem.W.keepIn K (.ref f_is_word) = true)
    (a_is_base : PySem.W.nsIn K mainGlobals "is_base" = some (some (.ref f_is_base)))
    (l_is_base : K.lookup f_is_base = some ⟨oc_is_base, od_is_base, .func (PySem.W.fnOf "is_base" "is_base" (defArgs s_is_base) (defBody s_is_base) (defScope s_is_base) .none kV_is_base dc_is_base pm_is_base an_is_base cd_is_base ct_is_base), sl_is_base⟩)
    (c_is_base : PySem.W.codeIn K cd_is_base "is_base" = true) (k_is_base : PySem.W.keepIn K (.ref f_is_base) = true)
    (a_is_length : PySem.W.nsIn K mainGlobals "is_length" = some (some (.ref f_is_length)))
    (l_is_length : K.lookup f_is_length = some ⟨oc_is_length, od_is_length, .func (PySem.W.fnOf "is_length" "is_length" (defArgs s_is_length) (defBody s_is_length) (defScope s_is_length) .none kV_is_length dc_is_length pm_is_length an_is_length cd_is_length ct_is_length), sl_is_length⟩)
    (c_is_length : PySem.W.codeIn K cd_is_length "is_length" = true) (k_is_length : PySem.W.keepIn K (.ref f_is_length) = true)
    (a_are_levels : PySem.W.nsIn K mainGlobals "are_levels" = some (some (.ref f_are_levels)))
    (l_are_levels : K.lookup f_are_levels = some ⟨oc_are_levels, od_are_levels, .func (PySem.W.fnOf "are_levels" "are_levels" (defArgs s_are_levels) (defBody s_are_levels) (defScope s_are_levels) .none kV_are_levels dc_are_levels pm_are_levels an_are_levels cd_are_levels ct_are_levels), sl_are_levels⟩)
    (c_are_levels : PySem.W.codeIn K cd_are_levels "are_levels" = true) (k_are_levels : PySem.W.keepIn K (.ref f_are_levels) = true)
    (a_is_tick : PySem.W.nsIn K mainGlobals "is_tick" = some (some (.ref f_is_tick)))
    (l_is_tick : K.lookup f_is_tick = some ⟨oc_is_tick, od_is_tick, .func (PySem.W.fnOf "is_tick" "is_tick" (defArgs s_is_tick) (defBody s_is_tick) (defScope s_is_tick) (.ref dT_is_tick) kV_is_tick dc_is_tick pm_is_tick an_is_tick cd_is_tick ct_is_tick), sl_is_tick⟩)
    (t_is_tick : K.lookup dT_is_tick = some ⟨tc_is_tick, td_is_tick, .seq #[.int 0 tt_is_tick] tn_is_tick, ts_is_tick⟩)
    (c_is_tick : PySem.W.codeIn K cd_is_tick "is_tick" = true) (k_is_tick : PySem.W.keepIn K (.ref f_is_tick) = true)
    (a_check_base : PySem.W.nsIn K mainGlobals "check_base" = some (some (.ref f_check_base)))
    (l_check_base : K.lookup f_check_base = some ⟨oc_check_base, od_check_base, .func (PySem.W.fnOf "check_base" "check_base" (defArgs s_check_base) (defBody s_check_base) (defScope s_check_base) .none kV_check_base dc_check_base pm_check_base an_check_base cd_check_base ct_check_base), sl_check_base⟩)
    (c_check_base : PySem.W.codeIn K cd_check_base "check_base" = true) (k_check_base : PySem.W.keepIn K (.ref f_check_base) = true)
    (a_check_levels : PySem.W.nsIn K mainGlobals "check_levels" = some (some (.ref f_check_levels)))
    (l_check_levels : K.lookup f_check_levels = some ⟨oc_check_levels, od_check_levels, .func (PySem.W.fnOf "check_levels" "check_levels" (defArgs s_check_levels) (defBody s_check_levels) (defScope s_check_levels) .none kV_check_levels dc_check_levels pm_check_levels an_check_levels cd_check_levels ct_check_levels), sl_check_levels⟩)
    (c_check_levels : PySem.W.codeIn K cd_check_levels "check_levels" = true) (k_check_levels : PySem.W.keepIn K (.ref f_check_levels) = true)
    (a_check_tick : PySem.W.nsIn K mainGlobals "check_tick" = some (some (.ref f_check_tick)))
    (l_check_tick : K.lookup f_check_tick = some ⟨oc_check_tick, od_check_tick, .func (PySem.W.fnOf "check_tick" "check_tick" (defArgs s_check_tick) (defBody s_check_tick) (defScope s_check_tick) (.ref dT_check_tick) kV_check_tick dc_check_tick pm_check_tick an_check_tick cd_check_tick ct_check_tick), sl_check_tick⟩)
    (t_check_tick : K.lookup dT_check_tick = some ⟨tc_check_tick, td_check_tick, .seq #[.int 0 tt_check_tick] tn_check_tick, ts_check_tick⟩)
    (c_check_tick : PySem.W.codeIn K cd_check_tick "check_tick" = true) (k_check_tick : PySem.W.keepIn K (.ref f_check_tick) = true)
    (a_word_at : PySem.W.nsIn K mainGlobals "word_at" = some (some (.ref f_word_at)))
    (l_word_at : K.lookup f_word_at = some ⟨oc_word_at, od_word_at, .func (PySem.W.fnOf "word_at" "word_at" (defArgs s_word_at) (defBody s_word_at) (defScope s_word_at) .none kV_word_at dc_word_at pm_word_at an_word_at cd_word_at ct_word_at), sl_word_at⟩)
    (c_word_at : PySem.W.codeIn K cd_word_at "word_at" = true) (k_word_at : PySem.W.keepIn K (.ref f_word_at) = true)
    (a_level_and_size : PySem.W.nsIn K mainGlobals "level_and_size" = some (some (.ref f_level_and_size)))
    (l_level_and_size : K.lookup f_level_and_size = some ⟨oc_level_and_size, od_level_and_size, .func (PySem.W.fnOf "level_and_size" "level_and_size" (defArgs s_level_and_size) (defBody s_level_and_size) (defScope s_level_and_size) .none kV_level_and_size dc_level_and_size pm_level_and_size an_level_and_size cd_level_and_size ct_level_and_size), sl_level_and_size⟩)
    (c_level_and_size : PySem.W.codeIn K cd_level_and_size "level_and_size" = true) (k_level_and_size : PySem.W.keepIn K (.ref f_level_and_size) = true)
    (a_path : PySem.W.nsIn K mainGlobals "path" = some (some (.ref f_path)))
    (l_path : K.lookup f_path = some ⟨oc_path, od_path, .func (PySem.W.fnOf "path" "path" (defArgs s_path) (defBody s_path) (defScope s_path) .none kV_path dc_path pm_path an_path cd_path ct_path), sl_path⟩)
    (c_path : PySem.W.codeIn K cd_path "path" = true) (k_path : PySem.W.keepIn K (.ref f_path) = true)
    (a_check_order : PySem.W.nsIn K mainGlobals "check_order" = some (some (.ref f_check_order)))
    (l_check_order : K.lookup f_check_order = some ⟨oc_check_order, od_check_order, .func (PySem.W.fnOf "check_order" "check_order" (defArgs s_check_order) (defBody s_check_order) (defScope s_check_order) .none kV_check_order dc_check_order pm_check_order an_check_order cd_check_order ct_check_order), sl_check_order⟩)
    (c_check_order : PySem.W.codeIn K cd_check_order "check_order" = true) (k_check_order : PySem.W.keepIn K (.ref f_check_order) = true)
    (a_ticks_and_sides : PySem.W.nsIn K mainGlobals "ticks_and_sides" = some (some (.ref f_ticks_and_sides)))
    (l_ticks_and_sides : K.lookup f_ticks_and_sides = some ⟨oc_ticks_and_sides, od_ticks_and_sides, .func (PySem.W.fnOf "ticks_and_sides" "ticks_and_sides" (defArgs s_ticks_and_sides) (defBody s_ticks_and_sides) (defScope s_ticks_and_sides) .none kV_ticks_and_sides dc_ticks_and_sides pm_ticks_and_sides an_ticks_and_sides cd_ticks_and_sides ct_ticks_and_sides), sl_ticks_and_sides⟩)
    (c_ticks_and_sides : PySem.W.codeIn K cd_ticks_and_sides "ticks_and_sides" = true) (k_ticks_and_sides : PySem.W.keepIn K (.ref f_ticks_and_sides) = true)
    (a_sides_wanted : PySem.W.nsIn K mainGlobals "sides_wanted" = some (some (.ref f_sides_wanted)))
    (l_sides_wanted : K.lookup f_sides_wanted = some ⟨oc_sides_wanted, od_sides_wanted, .func (PySem.W.fnOf "sides_wanted" "sides_wanted" (defArgs s_sides_wanted) (defBody s_sides_wanted) (defScope s_sides_wanted) .none kV_sides_wanted dc_sides_wanted pm_sides_wanted an_sides_wanted cd_sides_wanted ct_sides_wanted), sl_sides_wanted⟩)
    (c_sides_wanted : PySem.W.codeIn K cd_sides_wanted "sides_wanted" = true) (k_sides_wanted : PySem.W.keepIn K (.ref f_sides_wanted) = true)
    (a_set_ticks : PySem.W.nsIn K mainGlobals "set_ticks" = some (some (.ref f_set_ticks)))
    (l_set_ticks : K.lookup f_set_ticks = some ⟨oc_set_ticks, od_set_ticks, .func (PySem.W.fnOf "set_ticks" "set_ticks" (defArgs s_set_ticks) (defBody s_set_ticks) (defScope s_set_ticks) .none kV_set_ticks dc_set_ticks pm_set_ticks an_set_ticks cd_set_ticks ct_set_ticks), sl_set_ticks⟩)
    (c_set_ticks : PySem.W.codeIn K cd_set_ticks "set_ticks" = true) (k_set_ticks : PySem.W.keepIn K (.ref f_set_ticks) = true)
    (a_law_cell_at : PySem.W.nsIn K mainGlobals "_law_cell_at" = some (some (.ref f_law_cell_at)))
    (l_law_cell_at : K.lookup f_law_cell_at = some ⟨oc_law_cell_at, od_law_cell_at, .func (PySem.W.fnOf "_law_cell_at" "_law_cell_at" (defArgs s__law_cell_at) (defBody s__law_cell_at) (defScope s__law_cell_at) .none kV_law_cell_at dc_law_cell_at pm_law_cell_at an_law_cell_at cd_law_cell_at ct_law_cell_at), sl_law_cell_at⟩)
    (c_law_cell_at : PySem.W.codeIn K cd_law_cell_at "_law_cell_at" = true) (k_law_cell_at : PySem.W.keepIn K (.ref f_law_cell_at) = true)
    (a_law_mixed : PySem.W.nsIn K mainGlobals "_law_mixed" = some (some (.ref f_law_mixed)))
    (l_law_mixed : K.lookup f_law_mixed = some ⟨oc_law_mixed, od_law_mixed, .func (PySem.W.fnOf "_law_mixed" "_law_mixed" (defArgs s__law_mixed) (defBody s__law_mixed) (defScope s__law_mixed) .none kV_law_mixed dc_law_mixed pm_law_mixed an_law_mixed cd_law_mixed ct_law_mixed), sl_law_mixed⟩)
    (c_law_mixed : PySem.W.codeIn K cd_law_mixed "_law_mixed" = true) (k_law_mixed : PySem.W.keepIn K (.ref f_law_mixed) = true)
    (a_law_source : PySem.W.nsIn K mainGlobals "_law_source" = some (some (.ref f_law_source)))
    (l_law_source : K.lookup f_law_source = some ⟨oc_law_source, od_law_source, .func (PySem.W.fnOf "_law_source" "_law_source" (defArgs s__law_source) (defBody s__law_source) (defScope s__law_source) .none kV_law_source dc_law_source pm_law_source an_law_source cd_law_source ct_law_source), sl_law_source⟩)
    (c_law_source : PySem.W.codeIn K cd_law_source "_law_source" = true) (k_law_source : PySem.W.keepIn K (.ref f_law_source) = true)
    (a_law_next : PySem.W.nsIn K mainGlobals "_law_next" = some (some (.ref f_law_next)))
    (l_law_next : K.lookup f_law_next = some ⟨oc_law_next, od_law_next, .func (PySem.W.fnOf "_law_next" "_law_next" (defArgs s__law_next) (defBody s__law_next) (defScope s__law_next) .none kV_law_next dc_law_next pm_law_next an_law_next cd_law_next ct_law_next), sl_law_next⟩)
    (c_law_next : PySem.W.codeIn K cd_law_next "_law_next" = true) (k_law_next : PySem.W.keepIn K (.ref f_law_next) = true)
    (a_law_levels : PySem.W.nsIn K mainGlobals "_law_levels" = some (some (.ref f_law_levels)))
    (l_law_levels : K.lookup f_law_levels = some ⟨oc_law_levels, od_law_levels, .func (PySem.W.fnOf "_law_levels" "_law_levels" (defArgs s__law_levels) (defBody s__law_levels) (defScope s__law_levels) .none kV_law_levels dc_law_levels pm_law_levels an_law_levels cd_law_levels ct_law_levels), sl_law_levels⟩)
    (c_law_levels : PySem.W.codeIn K cd_law_levels "_law_levels" = true) (k_law_levels : PySem.W.keepIn K (.ref f_law_levels) = true)
    (a_law_level : PySem.W.nsIn K mainGlobals "_law_level" = some (some (.ref f_law_level)))
    (l_law_level : K.lookup f_law_level = some ⟨oc_law_level, od_law_level, .func (PySem.W.fnOf "_law_level" "_law_level" (defArgs s__law_level) (defBody s__law_level) (defScope s__law_level) .none kV_law_level dc_law_level pm_law_level an_law_level cd_law_level ct_law_level), sl_law_level⟩)
    (c_law_level : PySem.W.codeIn K cd_law_level "_law_level" = true) (k_law_level : PySem.W.keepIn K (.ref f_law_level) = true)
    (a_law_digit : PySem.W.nsIn K mainGlobals "_law_digit" = some (some (.ref f_law_digit)))
    (l_law_digit : K.lookup f_law_digit = some ⟨oc_law_digit, od_law_digit, .func (PySem.W.fnOf "_law_digit" "_law_digit" (defArgs s__law_digit) (defBody s__law_digit) (defScope s__law_digit) .none kV_law_digit dc_law_digit pm_law_digit an_law_digit cd_law_digit ct_law_digit), sl_law_digit⟩)
    (c_law_digit : PySem.W.codeIn K cd_law_digit "_law_digit" = true) (k_law_digit : PySem.W.keepIn K (.ref f_law_digit) = true)
    (a_law_zeros : PySem.W.nsIn K mainGlobals "_law_zeros" = some (some (.ref f_law_zeros)))
    (l_law_zeros : K.lookup f_law_zeros = some ⟨oc_law_zeros, od_law_zeros, .func (PySem.W.fnOf "_law_zeros" "_law_zeros" (defArgs s__law_zeros) (defBody s__law_zeros) (defScope s__law_zeros) .none kV_law_zeros dc_law_zeros pm_law_zeros an_law_zeros cd_law_zeros ct_law_zeros), sl_law_zeros⟩)
    (c_law_zeros : PySem.W.codeIn K cd_law_zeros "_law_zeros" = true) (k_law_zeros : PySem.W.keepIn K (.ref f_law_zeros) = true)
    (a_law_place : PySem.W.nsIn K mainGlobals "_law_place" = some (some (.ref f_law_place)))
    (l_law_place : K.lookup f_law_place = some ⟨oc_law_place, od_law_place, .func (PySem.W.fnOf "_law_place" "_law_place" (defArgs s__law_place) (defBody s__law_place) (defScope s__law_place) .none kV_law_place dc_law_place pm_law_place an_law_place cd_law_place ct_law_place), sl_law_place⟩)
    (c_law_place : PySem.W.codeIn K cd_law_place "_law_place" = true) (k_law_place : PySem.W.keepIn K (.ref f_law_place) = true)
    (a_law_pass : PySem.W.nsIn K mainGlobals "_law_pass" = some (some (.ref f_law_pass)))
    (l_law_pass : K.lookup f_law_pass = some ⟨oc_law_pass, od_law_pass, .func (PySem.W.fnOf "_law_pass" "_law_pass" (defArgs s__law_pass) (defBody s__law_pass) (defScope s__law_pass) .none kV_law_pass dc_law_pass pm_law_pass an_law_pass cd_law_pass ct_law_pass), sl_law_pass⟩)
    (c_law_pass : PySem.W.codeIn K cd_law_pass "_law_pass" = true) (k_law_pass : PySem.W.keepIn K (.ref f_law_pass) = true)
    (a_law_fired : PySem.W.nsIn K mainGlobals "_law_fired" = some (some (.ref f_law_fired)))
    (l_law_fired : K.lookup f_law_fired = some ⟨oc_law_fired, od_law_fired, .func (PySem.W.fnOf "_law_fired" "_law_fired" (defArgs s__law_fired) (defBody s__law_fired) (defScope s__law_fired) .none kV_law_fired dc_law_fired pm_law_fired an_law_fired cd_law_fired ct_law_fired), sl_law_fired⟩)
    (c_law_fired : PySem.W.codeIn K cd_law_fired "_law_fired" = true) (k_law_fired : PySem.W.keepIn K (.ref f_law_fired) = true)
    (a_law_lists : PySem.W.nsIn K mainGlobals "_law_lists" = some (some (.ref f_law_lists)))
    (l_law_lists : K.lookup f_law_lists = some ⟨oc_law_lists, od_law_lists, .func (PySem.W.fnOf "_law_lists" "_law_lists" (defArgs s__law_lists) (defBody s__law_lists) (defScope s__law_lists) .none kV_law_lists dc_law_lists pm_law_lists an_law_lists cd_law_lists ct_law_lists), sl_law_lists⟩)
    (c_law_lists : PySem.W.codeIn K cd_law_lists "_law_lists" = true) (k_law_lists : PySem.W.keepIn K (.ref f_law_lists) = true)
    (a_law_due : PySem.W.nsIn K mainGlobals "_law_due" = some (some (.ref f_law_due)))
    (l_law_due : K.lookup f_law_due = some ⟨oc_law_due, od_law_due, .func (PySem.W.fnOf "_law_due" "_law_due" (defArgs s__law_due) (defBody s__law_due) (defScope s__law_due) .none kV_law_due dc_law_due pm_law_due an_law_due cd_law_due ct_law_due), sl_law_due⟩)
    (c_law_due : PySem.W.codeIn K cd_law_due "_law_due" = true) (k_law_due : PySem.W.keepIn K (.ref f_law_due) = true)
    (a_law_order : PySem.W.nsIn K mainGlobals "_law_order" = some (some (.ref f_law_order)))
    (l_law_order : K.lookup f_law_order = some ⟨oc_law_order, od_law_order, .func (PySem.W.fnOf "_law_order" "_law_order" (defArgs s__law_order) (defBody s__law_order) (defScope s__law_order) .none kV_law_order dc_law_order pm_law_order an_law_order cd_law_order ct_law_order), sl_law_order⟩)
    (c_law_order : PySem.W.codeIn K cd_law_order "_law_order" = true) (k_law_order : PySem.W.keepIn K (.ref f_law_order) = true)
    (a_law : PySem.W.nsIn K mainGlobals "law" = some (some (.ref f_law)))
    (l_law : K.lookup f_law = some ⟨oc_law, od_law, .func (PySem.W.fnOf "law" "law" (defArgs s_law) (defBody s_law) (defScope s_law) .none kV_law dc_law pm_law an_law cd_law ct_law), sl_law⟩)
    (c_law : PySem.W.codeIn K cd_law "law" = true) (k_law : PySem.W.keepIn K (.ref f_law) = true)
    (z_isinstance : PySem.W.nsIn K mainGlobals "isinstance" = some none)
    (z_int : PySem.W.nsIn K mainGlobals "int" = some none)
    (z_bool : PySem.W.nsIn K mainGlobals "bool" = some none)
    (z_str : PySem.W.nsIn K mainGlobals "str" = some none)
    (z_all : PySem.W.nsIn K mainGlobals "all" = some none)
    (z_list : PySem.W.nsIn K mainGlobals "list" = some none)
    (z_len : PySem.W.nsIn K mainGlobals "len" = some none)
    (z_min : PySem.W.nsIn K mainGlobals "min" = some none)
    (z_sorted : PySem.W.nsIn K mainGlobals "sorted" = some none)
    (z_range : PySem.W.nsIn K mainGlobals "range" = some none)
    (z_reversed : PySem.W.nsIn K mainGlobals "reversed" = some none)
    (z_max : PySem.W.nsIn K mainGlobals "max" = some none)
    (z_enumerate : PySem.W.nsIn K mainGlobals "enumerate" = some none)
    (a_WORDS : PySem.W.nsIn K mainGlobals "WORDS" = some (some (.ref f_WORDS)))
    (l_WORDS : K.lookup f_WORDS = some ⟨.type "tuple", od_WORDS, .seq #[.str "stack" tk0_WORDS, .str "queue" tk1_WORDS] tn_WORDS, ts_WORDS⟩)
    (a_MOST_LEVELS : PySem.W.nsIn K mainGlobals "MOST_LEVELS" = some (some (.int 60 tk_MOST_LEVELS)))
    : ∃ fd : FuncData, (∀ (s : Shared) (v : Value), BindsTo s fd ⟨[v], []⟩ [("_law_script", v)]) ∧ ∀ base : Heap, K.In base → base.Ns mainGlobals mg → FnOk l.prog w K mg base CX0 6 fa fd ["_law_script"] (spLaw K) := by
  have e := hfa.symm.trans (PySem.W.mg_of X G a_law)
  cases e
  have T : Tx K mg := ⟨PySem.W.mg_none_of X G z_isinstance, PySem.W.mg_none_of X G z_int, PySem.W.mg_none_of X G z_bool, PySem.W.mg_none_of X G z_str, PySem.W.mg_none_of X G z_all, PySem.W.mg_none_of X G z_list, PySem.W.mg_none_of X G z_len, PySem.W.mg_none_of X G z_min, PySem.W.mg_none_of X G z_sorted, PySem.W.mg_none_of X G z_range, PySem.W.mg_none_of X G z_reversed, PySem.W.mg_none_of X G z_max, PySem.W.mg_none_of X G z_enumerate⟩
  have h_WORDS : ∃ a, mg "WORDS" = some (.ref a) ∧ ∀ H, SqT K H a [.str "stack", .str "queue"] := ⟨f_WORDS, PySem.W.mg_of X G a_WORDS, fun H => .inr ⟨_, _, _, l_WORDS, rfl, rfl, by simp [sizeLine_eq], .cons ⟨_, rfl⟩ (.cons ⟨_, rfl⟩ (.nil))⟩⟩
  have h_MOST_LEVELS : mg "MOST_LEVELS" = some (.int 60 tk_MOST_LEVELS) := PySem.W.mg_of X G a_MOST_LEVELS
  have D_is_integer : Df K mg "is_integer" s_is_integer ["given"] := by
    have F := fun_mk (st := s_is_integer) l_is_integer c_is_integer k_is_integer
    exact ⟨_, _, F, PySem.W.mg_of X G a_is_integer, F.binds (ps := ["given"]) fun _ _ _ _ _ _ us hl => match us, hl with | [_], _ => rfl⟩
  have D_is_word : Df K mg "is_word" s_is_word ["given"] := by
    have F := fun_mk (st := s_is_word) l_is_word c_is_word k_is_word
    exact ⟨_, _, F, PySem.W.mg_of X G a_is_word, F.binds (ps := ["given"]) fun _ _ _ _ _ _ us hl => match us, hl with | [_], _ => rfl⟩
  have D_is_base : Df K mg "is_base" s_is_base ["given"] := by
    have F := fun_mk (st := s_is_base) l_is_base c_is_base k_is_base
    exact ⟨_, _, F, PySem.W.mg_of X G a_is_base, F.binds (ps := ["given"]) fun _ _ _ _ _ _ us hl => match us, hl with | [_], _ => rfl⟩
  have D_is_length : Df K mg "is_length" s_is_length ["given"] := by
    have F := fun_mk (st := s_is_length) l_is_length c_is_length k_is_length
    exact ⟨_, _, F, PySem.W.mg_of X G a_is_length, F.binds (ps := ["given"]) fun _ _ _ _ _ _ us hl => match us, hl with | [_], _ => rfl⟩
  have D_are_levels : Df K mg "are_levels" s_are_levels ["given"] := by
    have F := fun_mk (st := s_are_levels) l_are_levels c_are_levels k_are_levels
    exact ⟨_, _, F, PySem.W.mg_of X G a_are_levels, F.binds (ps := ["given"]) fun _ _ _ _ _ _ us hl => match us, hl with | [_], _ => rfl⟩
  have D_is_tick : Dd K mg "is_tick" s_is_tick ["given", "least"] (.int 0) := by
    have F : FunD K "is_tick" "is_tick" (defArgs s_is_tick) (defBody s_is_tick) (defScope s_is_tick) [(.int 0)] [] _ _ := ⟨⟨_, _, _, _, _, _, _, _, _, _, rfl, l_is_tick, c_is_tick, .inr ⟨by simp, dT_is_tick, _, [_], _, rfl, t_is_tick, rfl, .cons ⟨_, rfl⟩ .nil⟩, .inl rfl⟩, k_is_tick⟩
    exact ⟨_, _, F, PySem.W.mg_of X G a_is_tick,
      FunD.binds1 (ps := ["given", "least"]) F 1 0 (by simp) rfl fun _ _ _ _ _ _ _ us its hu hi => match us, its, hu, hi with | [_], [_], _, _ => ⟨_, rfl, rfl⟩,
      by obtain ⟨ds, r, b⟩ := FunD.binds1 (ps := ["given", "least"]) F 2 1 (by simp) rfl fun _ _ _ _ _ _ _ us its hu hi => match us, its, hu, hi with | [_, _], [_], _, _ => ⟨_, rfl, rfl⟩
         cases r
         exact b⟩
  have D_check_base : Df K mg "check_base" s_check_base ["base"] := by
    have F := fun_mk (st := s_check_base) l_check_base c_check_base k_check_base
    exact ⟨_, _, F, PySem.W.mg_of X G a_check_base, F.binds (ps := ["base"]) fun _ _ _ _ _ _ us hl => match us, hl with | [_], _ => rfl⟩
  have D_check_levels : Df K mg "check_levels" s_check_levels ["levels"] := by
    have F := fun_mk (st := s_check_levels) l_check_levels c_check_levels k_check_levels
    exact ⟨_, _, F, PySem.W.mg_of X G a_check_levels, F.binds (ps := ["levels"]) fun _ _ _ _ _ _ us hl => match us, hl with | [_], _ => rfl⟩
  have D_check_tick : Dd K mg "check_tick" s_check_tick ["tick", "least"] (.int 0) := by
    have F : FunD K "check_tick" "check_tick" (defArgs s_check_tick) (defBody s_check_tick) (defScope s_check_tick) [(.int 0)] [] _ _ := ⟨⟨_, _, _, _, _, _, _, _, _, _, rfl, l_check_tick, c_check_tick, .inr ⟨by simp, dT_check_tick, _, [_], _, rfl, t_check_tick, rfl, .cons ⟨_, rfl⟩ .nil⟩, .inl rfl⟩, k_check_tick⟩
    exact ⟨_, _, F, PySem.W.mg_of X G a_check_tick,
      FunD.binds1 (ps := ["tick", "least"]) F 1 0 (by simp) rfl fun _ _ _ _ _ _ _ us its hu hi => match us, its, hu, hi with | [_], [_], _, _ => ⟨_, rfl, rfl⟩,
      by obtain ⟨ds, r, b⟩ := FunD.binds1 (ps := ["tick", "least"]) F 2 1 (by simp) rfl fun _ _ _ _ _ _ _ us its hu hi => match us, its, hu, hi with | [_, _], [_], _, _ => ⟨_, rfl, rfl⟩
         cases r
         exact b⟩
  have D_word_at : Df K mg "word_at" s_word_at ["levels", "level"] := by
    have F := fun_mk (st := s_word_at) l_word_at c_word_at k_word_at
    exact ⟨_, _, F, PySem.W.mg_of X G a_word_at, F.binds (ps := ["levels", "level"]) fun _ _ _ _ _ _ us hl => match us, hl with | [_, _], _ => rfl⟩
  have D_level_and_size : Df K mg "level_and_size" s_level_and_size ["base", "now", "due"] := by
    have F := fun_mk (st := s_level_and_size) l_level_and_size c_level_and_size k_level_and_size
    exact ⟨_, _, F, PySem.W.mg_of X G a_level_and_size, F.binds (ps := ["base", "now", "due"]) fun _ _ _ _ _ _ us hl => match us, hl with | [_, _, _], _ => rfl⟩
  have D_path : Df K mg "path" s_path ["base", "now", "due"] := by
    have F := fun_mk (st := s_path) l_path c_path k_path
    exact ⟨_, _, F, PySem.W.mg_of X G a_path, F.binds (ps := ["base", "now", "due"]) fun _ _ _ _ _ _ us hl => match us, hl with | [_, _, _], _ => rfl⟩
  have D_check_order : Df K mg "check_order" s_check_order ["order"] := by
    have F := fun_mk (st := s_check_order) l_check_order c_check_order k_check_order
    exact ⟨_, _, F, PySem.W.mg_of X G a_check_order, F.binds (ps := ["order"]) fun _ _ _ _ _ _ us hl => match us, hl with | [_], _ => rfl⟩
  have D_ticks_and_sides : Df K mg "ticks_and_sides" s_ticks_and_sides ["base", "levels", "start", "due"] := by
    have F := fun_mk (st := s_ticks_and_sides) l_ticks_and_sides c_ticks_and_sides k_ticks_and_sides
    exact ⟨_, _, F, PySem.W.mg_of X G a_ticks_and_sides, F.binds (ps := ["base", "levels", "start", "due"]) fun _ _ _ _ _ _ us hl => match us, hl with | [_, _, _, _], _ => rfl⟩
  have D_sides_wanted : Df K mg "sides_wanted" s_sides_wanted ["order"] := by
    have F := fun_mk (st := s_sides_wanted) l_sides_wanted c_sides_wanted k_sides_wanted
    exact ⟨_, _, F, PySem.W.mg_of X G a_sides_wanted, F.binds (ps := ["order"]) fun _ _ _ _ _ _ us hl => match us, hl with | [_], _ => rfl⟩
  have D_set_ticks : Df K mg "set_ticks" s_set_ticks ["base", "levels", "start", "due", "order"] := by
    have F := fun_mk (st := s_set_ticks) l_set_ticks c_set_ticks k_set_ticks
    exact ⟨_, _, F, PySem.W.mg_of X G a_set_ticks, F.binds (ps := ["base", "levels", "start", "due", "order"]) fun _ _ _ _ _ _ us hl => match us, hl with | [_, _, _, _, _], _ => rfl⟩
  have D_law_cell_at : Df K mg "_law_cell_at" s__law_cell_at ["_law_script", "_law_k"] := by
    have F := fun_mk (st := s__law_cell_at) l_law_cell_at c_law_cell_at k_law_cell_at
    exact ⟨_, _, F, PySem.W.mg_of X G a_law_cell_at, F.binds (ps := ["_law_script", "_law_k"]) fun _ _ _ _ _ _ us hl => match us, hl with | [_, _], _ => rfl⟩
  have D_law_mixed : Df K mg "_law_mixed" s__law_mixed ["_law_cell", "_law_k"] := by
    have F := fun_mk (st := s__law_mixed) l_law_mixed c_law_mixed k_law_mixed
    exact ⟨_, _, F, PySem.W.mg_of X G a_law_mixed, F.binds (ps := ["_law_cell", "_law_k"]) fun _ _ _ _ _ _ us hl => match us, hl with | [_, _], _ => rfl⟩
  have D_law_source : Df K mg "_law_source" s__law_source ["_law_script", "_law_k"] := by
    have F := fun_mk (st := s__law_source) l_law_source c_law_source k_law_source
    exact ⟨_, _, F, PySem.W.mg_of X G a_law_source, F.binds (ps := ["_law_script", "_law_k"]) fun _ _ _ _ _ _ us hl => match us, hl with | [_, _], _ => rfl⟩
  have D_law_next : Df K mg "_law_next" s__law_next ["_law_source_here", "_law_many"] := by
    have F := fun_mk (st := s__law_next) l_law_next c_law_next k_law_next
    exact ⟨_, _, F, PySem.W.mg_of X G a_law_next, F.binds (ps := ["_law_source_here", "_law_many"]) fun _ _ _ _ _ _ us hl => match us, hl with | [_, _], _ => rfl⟩
  have D_law_levels : Df K mg "_law_levels" s__law_levels ["_law_source_here"] := by
    have F := fun_mk (st := s__law_levels) l_law_levels c_law_levels k_law_levels
    exact ⟨_, _, F, PySem.W.mg_of X G a_law_levels, F.binds (ps := ["_law_source_here"]) fun _ _ _ _ _ _ us hl => match us, hl with | [_], _ => rfl⟩
  have D_law_level : Df K mg "_law_level" s__law_level ["_law_base", "_law_now", "_law_due_here"] := by
    have F := fun_mk (st := s__law_level) l_law_level c_law_level k_law_level
    exact ⟨_, _, F, PySem.W.mg_of X G a_law_level, F.binds (ps := ["_law_base", "_law_now", "_law_due_here"]) fun _ _ _ _ _ _ us hl => match us, hl with | [_, _, _], _ => rfl⟩
  have D_law_digit : Df K mg "_law_digit" s__law_digit ["_law_base", "_law_tick", "_law_level_here"] := by
    have F := fun_mk (st := s__law_digit) l_law_digit c_law_digit k_law_digit
    exact ⟨_, _, F, PySem.W.mg_of X G a_law_digit, F.binds (ps := ["_law_base", "_law_tick", "_law_level_here"]) fun _ _ _ _ _ _ us hl => match us, hl with | [_, _, _], _ => rfl⟩
  have D_law_zeros : Df K mg "_law_zeros" s__law_zeros ["_law_base", "_law_tick"] := by
    have F := fun_mk (st := s__law_zeros) l_law_zeros c_law_zeros k_law_zeros
    exact ⟨_, _, F, PySem.W.mg_of X G a_law_zeros, F.binds (ps := ["_law_base", "_law_tick"]) fun _ _ _ _ _ _ us hl => match us, hl with | [_, _], _ => rfl⟩
  have D_law_place : Df K mg "_law_place" s__law_place ["_law_lists_here", "_law_base", "_law_levels_here", "_law_now", "_law_row"] := by
    have F := fun_mk (st := s__law_place) l_law_place c_law_place k_law_place
    exact ⟨_, _, F, PySem.W.mg_of X G a_law_place, F.binds (ps := ["_law_lists_here", "_law_base", "_law_levels_here", "_law_now", "_law_row"]) fun _ _ _ _ _ _ us hl => match us, hl with | [_, _, _, _, _], _ => rfl⟩
  have D_law_pass : Df K mg "_law_pass" s__law_pass ["_law_lists_here", "_law_base", "_law_levels_here", "_law_tick"] := by
    have F := fun_mk (st := s__law_pass) l_law_pass c_law_pass k_law_pass
    exact ⟨_, _, F, PySem.W.mg_of X G a_law_pass, F.binds (ps := ["_law_lists_here", "_law_base", "_law_levels_here", "_law_tick"]) fun _ _ _ _ _ _ us hl => match us, hl with | [_, _, _, _], _ => rfl⟩
  have D_law_fired : Df K mg "_law_fired" s__law_fired ["_law_base", "_law_levels_here", "_law_begin", "_law_due_here", "_law_ticks"] := by
    have F := fun_mk (st := s__law_fired) l_law_fired c_law_fired k_law_fired
    exact ⟨_, _, F, PySem.W.mg_of X G a_law_fired, F.binds (ps := ["_law_base", "_law_levels_here", "_law_begin", "_law_due_here", "_law_ticks"]) fun _ _ _ _ _ _ us hl => match us, hl with | [_, _, _, _, _], _ => rfl⟩
  have D_law_lists : Df K mg "_law_lists" s__law_lists ["_law_begin", "_law_due_here", "_law_many"] := by
    have F := fun_mk (st := s__law_lists) l_law_lists c_law_lists k_law_lists
    exact ⟨_, _, F, PySem.W.mg_of X G a_law_lists, F.binds (ps := ["_law_begin", "_law_due_here", "_law_many"]) fun _ _ _ _ _ _ us hl => match us, hl with | [_, _, _], _ => rfl⟩
  have D_law_due : Df K mg "_law_due" s__law_due ["_law_base", "_law_levels_here", "_law_begin", "_law_due_here", "_law_order_here"] := by
    have F := fun_mk (st := s__law_due) l_law_due c_law_due k_law_due
    exact ⟨_, _, F, PySem.W.mg_of X G a_law_due, F.binds (ps := ["_law_base", "_law_levels_here", "_law_begin", "_law_due_here", "_law_order_here"]) fun _ _ _ _ _ _ us hl => match us, hl with | [_, _, _, _, _], _ => rfl⟩
  have D_law_order : Df K mg "_law_order" s__law_order ["_law_source_here", "_law_many"] := by
    have F := fun_mk (st := s__law_order) l_law_order c_law_order k_law_order
    exact ⟨_, _, F, PySem.W.mg_of X G a_law_order, F.binds (ps := ["_law_source_here", "_law_many"]) fun _ _ _ _ _ _ us hl => match us, hl with | [_, _], _ => rfl⟩
  have D_law : Df K mg "law" s_law ["_law_script"] := by
    have F := fun_mk (st := s_law) l_law c_law k_law
    exact ⟨_, _, F, PySem.W.mg_of X G a_law, F.binds (ps := ["_law_script"]) fun _ _ _ _ _ _ us hl => match us, hl with | [_], _ => rfl⟩
  refine ⟨PySem.W.fnOf "law" "law" (defArgs s_law) (defBody s_law) (defScope s_law) .none kV_law dc_law pm_law an_law cd_law ct_law, fun s v => .of_eq rfl, fun base _ _ => ?_⟩
  have h_is_integer : Has l.prog w K mg base 1 "is_integer" ["given"] [] spIsInt := D_is_integer.has fun _ _ F => ok_is_integer F T
  have h2_is_tick : Has l.prog w K mg base 2 "is_tick" ["given", "least"] [.int 0] spIsTick ∧ Has l.prog w K mg base 2 "is_tick" ["given", "least"] [] spIsTick := D_is_tick.has fun _ _ F => ok_is_tick F T h_is_integer
  have h_is_base : Has l.prog w K mg base 2 "is_base" ["given"] [] spIsBase := D_is_base.has fun _ _ F => ok_is_base F h_is_integer
  have h_check_base : Has l.prog w K mg base 3 "check_base" ["base"] [] spCheckBase := D_check_base.has fun _ _ F => ok_check_base F h_is_base
  have h2_check_tick : Has l.prog w K mg base 3 "check_tick" ["tick", "least"] [.int 0] spCheckTick ∧ Has l.prog w K mg base 3 "check_tick" ["tick", "least"] [] spCheckTick := D_check_tick.has fun _ _ F => ok_check_tick F h2_is_tick.2
  have h_level_and_size : Has l.prog w K mg base 1 "level_and_size" ["base", "now", "due"] [] spLevel := D_level_and_size.has fun _ _ F => ok_level_and_size F 
  have h_path : Has l.prog w K mg base 2 "path" ["base", "now", "due"] [] spPath := D_path.has fun _ _ F => ok_path F h_level_and_size
  have h_word_at : Has l.prog w K mg base 1 "word_at" ["levels", "level"] [] (spWordAt K) := D_word_at.has fun _ _ F => ok_word_at F T
  have h_is_word : Has l.prog w K mg base 1 "is_word" ["given"] [] spIsWord := D_is_word.has fun _ _ F => ok_is_word F T h_WORDS
  have h_is_length : Has l.prog w K mg base 2 "is_length" ["given"] [] spIsLength := D_is_length.has fun _ _ F => ok_is_length F ⟨_, h_MOST_LEVELS⟩ h_is_integer
  have h_are_levels : Has l.prog w K mg base 3 "are_levels" ["given"] [] (spAreLevels K) := D_are_levels.has fun _ _ F => ok_are_levels F T h_is_length h_is_word
  have h_check_levels : Has l.prog w K mg base 4 "check_levels" ["levels"] [] (spCheckLevels K) := D_check_levels.has fun _ _ F => ok_check_levels F h_are_levels
  have h_check_order : Has l.prog w K mg base 2 "check_order" ["order"] [] (spCheckOrder K) := D_check_order.has fun _ _ F => ok_check_order F T h_is_integer
  have h_ticks_and_sides : Has l.prog w K mg base 3 "ticks_and_sides" ["base", "levels", "start", "due"] [] (spTicksSides K) := D_ticks_and_sides.has fun _ _ F => ok_ticks_and_sides F T h_path h_word_at
  have h_sides_wanted : Has l.prog w K mg base 1 "sides_wanted" ["order"] [] (spSidesWanted K) := D_sides_wanted.has fun _ _ F => ok_sides_wanted F T
  have h_set_ticks : Has l.prog w K mg base 5 "set_ticks" ["base", "levels", "start", "due", "order"] [] (spSetTicks K) := D_set_ticks.has fun _ _ F => ok_set_ticks F T h_check_base h2_check_tick.1 h2_check_tick.2 h_check_levels h_check_order h_ticks_and_sides h_sides_wanted
  have h_law_cell_at : Has l.prog w K mg base 1 "_law_cell_at" ["_law_script", "_law_k"] [] (spCellAt K) := D_law_cell_at.has fun _ _ F => ok_cell_at F T
  have h_law_mixed : Has l.prog w K mg base 1 "_law_mixed" ["_law_cell", "_law_k"] [] spMixed := D_law_mixed.has fun _ _ F => ok_mixed F 
  have h_law_source : Has l.prog w K mg base 2 "_law_source" ["_law_script", "_law_k"] [] (spSource K) := D_law_source.has fun _ _ F => ok_source F T h_law_cell_at h_law_mixed
  have h_law_next : Has l.prog w K mg base 2 "_law_next" ["_law_source_here", "_law_many"] [] spNext := D_law_next.has fun _ _ F => ok_next F h_law_mixed
  have h_law_levels : Has l.prog w K mg base 3 "_law_levels" ["_law_source_here"] [] spLevels := D_law_levels.has fun _ _ F => ok_levels F T h_law_next
  have h_law_level : Has l.prog w K mg base 1 "_law_level" ["_law_base", "_law_now", "_law_due_here"] [] spLawLevel := D_law_level.has fun _ _ F => ok_law_level F 
  have h_law_digit : Has l.prog w K mg base 1 "_law_digit" ["_law_base", "_law_tick", "_law_level_here"] [] spDigit := D_law_digit.has fun _ _ F => ok_law_digit F T
  have h_law_zeros : Has l.prog w K mg base 1 "_law_zeros" ["_law_base", "_law_tick"] [] spZeros := D_law_zeros.has fun _ _ F => ok_law_zeros F 
  have h_law_place : Has l.prog w K mg base 2 "_law_place" ["_law_lists_here", "_law_base", "_law_levels_here", "_law_now", "_law_row"] [] (spPlace K) := D_law_place.has fun _ _ F => ok_law_place F T h_law_level h_law_digit
  have h_law_pass : Has l.prog w K mg base 3 "_law_pass" ["_law_lists_here", "_law_base", "_law_levels_here", "_law_tick"] [] (spPass K) := D_law_pass.has fun _ _ F => ok_law_pass F h_law_zeros h_law_digit h_law_place
  have h_law_fired : Has l.prog w K mg base 4 "_law_fired" ["_law_base", "_law_levels_here", "_law_begin", "_law_due_here", "_law_ticks"] [] (spFired25 K) := D_law_fired.has fun _ _ F => ok_fired25 F T h_law_place h_law_pass
  have h_law_lists : Has l.prog w K mg base 1 "_law_lists" ["_law_begin", "_law_due_here", "_law_many"] [] spLists25 := D_law_lists.has fun _ _ F => ok_lists25 F T
  have h_law_due : Has l.prog w K mg base 5 "_law_due" ["_law_base", "_law_levels_here", "_law_begin", "_law_due_here", "_law_order_here"] [] spDue25 := D_law_due.has fun _ _ F => ok_due25 F T h_law_lists h_law_fired
  have h_law_order : Has l.prog w K mg base 3 "_law_order" ["_law_source_here", "_law_many"] [] spOrder25 := D_law_order.has fun _ _ F => ok_order25 F T h_law_next
  exact ok_law (fun_mk (st := s_law) l_law c_law k_law) T h_law_source h_law_levels h_law_next h_set_ticks h_law_order h_law_due
end Td
open PySem PySem.W PyProof.Rows in
set_option maxRecDepth 100000 in
set_option maxHeartbeats 0 in
theorem PySem.Challenge.cw_timerdeque_k25_planned_ticks_gone_throug_holds : PySem.Challenge.rw_timerdeque_k25_planned_ticks_gone_throug.Holds := by
  w_on; o_law; k_head; (case hw => w_witness2)
  k_fill
  refine L2.walk_of (l := PySem.Challenge.rw_timerdeque_k25_planned_ticks_gone_throug) (n := 63) (k := 6) (x := "_law_script") (CX := fun _ => L2.CX0) (sp := fun w => Td.spLaw _) rfl (by decide) rfl ⟨rfl, by decide, by decide⟩ (fun w h Y => PySem.W.kIn_of Y) ?F (fun _ _ a ns hl _ hS => ⟨a, ns, rfl, hS, hl, fun _ => rfl⟩) (fun _ _ _ _ _ h => h)
  case F =>
    intro w mg fa h KX G hmg
    refine' Td.all_mk KX G hmg ?a_is_integer ?l_is_integer ?c_is_integer ?k_is_integer ?a_is_word ?l_is_word ?c_is_word ?k_is_word ?a_is_base ?l_is_base ?c_is_base ?k_is_base ?a_is_length ?l_is_length ?c_is_length ?k_is_length ?a_are_levels ?l_are_levels ?c_are_levels ?k_are_levels ?a_is_tick ?l_is_tick ?t_is_tick ?c_is_tick ?k_is_tick ?a_check_base ?l_check_base ?c_check_base ?k_check_base ?a_check_levels ?l_check_levels ?c_check_levels ?k_check_levels ?a_check_tick ?l_check_tick ?t_check_tick ?c_check_tick ?k_check_tick ?a_word_at ?l_word_at ?c_word_at ?k_word_at ?a_level_and_size ?l_level_and_size ?c_level_and_size ?k_level_and_size ?a_path ?l_path ?c_path ?k_path ?a_check_order ?l_check_order ?c_check_order ?k_check_order ?a_ticks_and_sides ?l_ticks_and_sides ?c_ticks_and_sides ?k_ticks_and_sides ?a_sides_wanted ?l_sides_wanted ?c_sides_wanted ?k_sides_wanted ?a_set_ticks ?l_set_ticks ?c_set_ticks ?k_set_ticks ?a_law_cell_at ?l_law_cell_at ?c_law_cell_at ?k_law_cell_at ?a_law_mixed ?l_law_mixed ?c_law_mixed ?k_law_mixed ?a_law_source ?l_law_source ?c_law_source ?k_law_source ?a_law_next ?l_law_next ?c_law_next ?k_law_next ?a_law_levels ?l_law_levels ?c_law_levels ?k_law_levels ?a_law_level ?l_law_level ?c_law_level ?k_law_level ?a_law_digit ?l_law_digit ?c_law_digit ?k_law_digit ?a_law_zeros ?l_law_zeros ?c_law_zeros ?k_law_zeros ?a_law_place ?l_law_place ?c_law_place ?k_law_place ?a_law_pass ?l_law_pass ?c_law_pass ?k_law_pass ?a_law_fired ?l_law_fired ?c_law_fired ?k_law_fired ?a_law_lists ?l_law_lists ?c_law_lists ?k_law_lists ?a_law_due ?l_law_due ?c_law_due ?k_law_due ?a_law_order ?l_law_order ?c_law_order ?k_law_order ?a_law ?l_law ?c_law ?k_law ?z_isinstance ?z_int ?z_bool ?z_str ?z_all ?z_list ?z_len ?z_min ?z_sorted ?z_range ?z_reversed ?z_max ?z_enumerate ?a_WORDS ?l_WORDS ?a_MOST_LEVELS
    (case a_is_integer => k_is)
    (case l_is_integer => k_is)
    (case c_is_integer => k_is)
    (case k_is_integer => k_is)
    (case a_is_word => k_is)
    (case l_is_word => k_is)
    (case c_is_word => k_is)
    (case k_is_word => k_is)
    (case a_is_base => k_is)
    (case l_is_base => k_is)
    (case c_is_base => k_is)
    (case k_is_base => k_is)
    (case a_is_length => k_is)
    (case l_is_length => k_is)
    (case c_is_length => k_is)
    (case k_is_length => k_is)
    (case a_are_levels => k_is)
    (case l_are_levels => k_is)
    (case c_are_levels => k_is)
    (case k_are_levels => k_is)
    (case a_is_tick => k_is)
    (case l_is_tick => k_is)
    (case t_is_tick => k_is)
    (case c_is_tick => k_is)
    (case k_is_tick => k_is)
    (case a_check_base => k_is)
    (case l_check_base => k_is)
    (case c_check_base => k_is)
    (case k_check_base => k_is)
    (case a_check_levels => k_is)
    (case l_check_levels => k_is)
    (case c_check_levels => k_is)
    (case k_check_levels => k_is)
    (case a_check_tick => k_is)
    (case l_check_tick => k_is)
    (case t_check_tick => k_is)
    (case c_check_tick => k_is)
    (case k_check_tick => k_is)
    (case a_word_at => k_is)
    (case l_word_at => k_is)
    (case c_word_at => k_is)
    (case k_word_at => k_is)
    (case a_level_and_size => k_is)
    (case l_level_and_size => k_is)
    (case c_level_and_size => k_is)
    (case k_level_and_size => k_is)
    (case a_path => k_is)
    (case l_path => k_is)
    (case c_path => k_is)
    (case k_path => k_is)
    (case a_check_order => k_is)
    (case l_check_order => k_is)
    (case c_check_order => k_is)
    (case k_check_order => k_is)
    (case a_ticks_and_sides => k_is)
    (case l_ticks_and_sides => k_is)
    (case c_ticks_and_sides => k_is)
    (case k_ticks_and_sides => k_is)
    (case a_sides_wanted => k_is)
    (case l_sides_wanted => k_is)
    (case c_sides_wanted => k_is)
    (case k_sides_wanted => k_is)
    (case a_set_ticks => k_is)
    (case l_set_ticks => k_is)
    (case c_set_ticks => k_is)
    (case k_set_ticks => k_is)
    (case a_law_cell_at => k_is)
    (case l_law_cell_at => k_is)
    (case c_law_cell_at => k_is)
    (case k_law_cell_at => k_is)
    (case a_law_mixed => k_is)
    (case l_law_mixed => k_is)
    (case c_law_mixed => k_is)
    (case k_law_mixed => k_is)
    (case a_law_source => k_is)
    (case l_law_source => k_is)
    (case c_law_source => k_is)
    (case k_law_source => k_is)
    (case a_law_next => k_is)
    (case l_law_next => k_is)
    (case c_law_next => k_is)
    (case k_law_next => k_is)
    (case a_law_levels => k_is)
    (case l_law_levels => k_is)
    (case c_law_levels => k_is)
    (case k_law_levels => k_is)
    (case a_law_level => k_is)
    (case l_law_level => k_is)
    (case c_law_level => k_is)
    (case k_law_level => k_is)
    (case a_law_digit => k_is)
    (case l_law_digit => k_is)
    (case c_law_digit => k_is)
    (case k_law_digit => k_is)
    (case a_law_zeros => k_is)
    (case l_law_zeros => k_is)
    (case c_law_zeros => k_is)
    (case k_law_zeros => k_is)
    (case a_law_place => k_is)
    (case l_law_place => k_is)
    (case c_law_place => k_is)
    (case k_law_place => k_is)
    (case a_law_pass => k_is)
    (case l_law_pass => k_is)
    (case c_law_pass => k_is)
    (case k_law_pass => k_is)
    (case a_law_fired => k_is)
    (case l_law_fired => k_is)
    (case c_law_fired => k_is)
    (case k_law_fired => k_is)
    (case a_law_lists => k_is)
    (case l_law_lists => k_is)
    (case c_law_lists => k_is)
    (case k_law_lists => k_is)
    (case a_law_due => k_is)
    (case l_law_due => k_is)
    (case c_law_due => k_is)
    (case k_law_due => k_is)
    (case a_law_order => k_is)
    (case l_law_order => k_is)
    (case c_law_order => k_is)
    (case k_law_order => k_is)
    (case a_law => k_is)
    (case l_law => k_is)
    (case c_law => k_is)
    (case k_law => k_is)
    (case z_isinstance => k_is)
    (case z_int => k_is)
    (case z_bool => k_is)
    (case z_str => k_is)
    (case z_all => k_is)
    (case z_list => k_is)
    (case z_len => k_is)
    (case z_min => k_is)
    (case z_sorted => k_is)
    (case z_range => k_is)
    (case z_reversed => k_is)
    (case z_max => k_is)
    (case z_enumerate => k_is)
    (case a_WORDS => k_is)
    (case l_WORDS => k_is)
    (case a_MOST_LEVELS => k_is)
