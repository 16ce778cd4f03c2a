import PyProof.Rows.All
import Wide.All
import OpenK.AllK
import Wide.FinOn
import HandS.ForMost
import HandS.IsInst
import HandS.Wide
import HandS.WideBits
import HandS.Iter
import HandS.NoneIn
import PyProof.LongRange
import HandS.Defaults
import HandS.Zip
import HandS.Flow
import HandS.SortKw
import HandS.SortOrd
import KE.DatumOrd
import HandS.Conv
import HandS.More
import HandS.Small
import HandS.Exc
import HandS.ExcOwn
import HandS.ExcIs
import HandS.TryOnly
import HandS.WordsExc
import HandS.Lambda
import HandS.EndTab
import KE.KNestM
import PyProof.ReprRoads
import PyProof.Rows.RegFStrParts
import HandS.Style
import KE.SortData
import HandS.SortRule
import PySem.Challenge.RW_timerdeque_k34_orders_and_counts_refused
set_option Elab.async false
set_option linter.all false
set_option maxRecDepth 100000
set_option maxHeartbeats 4000000
set_option exponentiation.threshold 10000
namespace Td
open PySem PySem.Spec PyProof.Rows L2
/-! ### small things: promises by name, heaps, numbers -/
section
variable {P : Program} {w : World} {K : PySem.W.Frag} {mg : Str → Option Value} {base : Heap}
/-- the module's name x holds a def that keeps the promise sp, its last parameters filled up by dvs -/
def Has (P : Program) (w : World) (K : PySem.W.Frag) (mg : Str → Option Value) (base : Heap) (k : Nat) (x : Str) (ps : List Str) (dvs : List V) (sp : Sp) : Prop :=
  ∃ (f : Addr) (fd : FuncData) (ds : List Value), FnOk P w K mg base CX0 k f fd ps sp ∧ mg x = some (.ref f) ∧ PySem.W.keepIn K (.ref f) = true ∧ Binds K fd ps ds ∧ Vals dvs ds
/-- what the top says of a def without defaults -/
def Df (K : PySem.W.Frag) (mg : Str → Option Value) (x : Str) (st : Stmt) (ps : List Str) : Prop :=
  ∃ (f : Addr) (fd : FuncData), Fun K x x st f fd ∧ mg x = some (.ref f) ∧ Binds K fd ps []
theorem Df.has {k : Nat} {x : Str} {st : Stmt} {ps : List Str} {sp : Sp} (D : Df K mg x st ps) (ok : ∀ f fd, Fun K x x st f fd → FnOk P w K mg base CX0 k f fd ps sp) : Has P w K mg base k x ps [] sp := by
  obtain ⟨f, fd, F, m, b⟩ := D
  exact ⟨f, fd, [], ok f fd F, m, F.kp, b, .nil⟩
/-- a def with one default, the last parameter's -/
def Dd (K : PySem.W.Frag) (mg : Str → Option Value) (x : Str) (st : Stmt) (ps : List Str) (d : V) : Prop :=
  ∃ (f : Addr) (fd : FuncData), FunD K x x (defArgs st) (defBody st) (defScope st) [d] [] f fd ∧ mg x = some (.ref f) ∧ (∃ ds, Vals [d] ds ∧ Binds K fd ps ds) ∧ Binds K fd ps []
theorem Dd.has {k : Nat} {x : Str} {st : Stmt} {ps : List Str} {d : V} {sp : Sp} (D : Dd K mg x st ps d) (ok : ∀ f fd, FunD K x x (defArgs st) (defBody st) (defScope st) [d] [] f fd → FnOk P w K mg base CX0 k f fd ps sp) :
    Has P w K mg base k x ps [d] sp ∧ Has P w K mg base k x ps [] sp := by
  obtain ⟨f, fd, F, m, ⟨ds, r, b⟩, b0⟩ := D
  exact ⟨⟨f, fd, ds, ok f fd F, m, F.kp, b, r⟩, ⟨f, fd, [], ok f fd F, m, F.kp, b0, .nil⟩⟩
end
section
variable {X : Cx}
/-- a product of which one side is small, or both are not too great -/
def CMulA (i j : Int) : Prop := IntMulOk i j
theorem op_mulA : OpR X (binaryOp .Mult) (rI CMulA fun i j => .int (i * j)) := opI fun _ _ _ _ _ _ _ hc q => mul_int q hc
end
/-! x *= e, ints -/
section
variable {X : Cx}
def ipC (C : Int → Int → Prop) (f : Int → Int → Int) : TIp := fun x y H Q => ∃ i j, x = .int i ∧ y = .int j ∧ C i j ∧ Q (.int (f i j)) H
theorem ip_mulA : PIp X .Mult (ipC CMulA fun i j => i * j) := by
  intro pins s σ H x y v u Q I r1 r2 h
  obtain ⟨i, j, rfl, rfl, hm, q⟩ := h
  obtain ⟨t, rfl⟩ := r1
  obtain ⟨t', rfl⟩ := r2
  exact imul_int ⟨.int _, H, I.tok _, ⟨_, rfl⟩, q⟩ hm
end
theorem mul_l {i j : Int} (h1 : -(2 ^ 64) < i) (h2 : i < 2 ^ 64) : CMulA i j := CMul.ok (.inl ⟨h1, h2⟩)
theorem mul_r {i j : Int} (h1 : -(2 ^ 64) < j) (h2 : j < 2 ^ 64) : CMulA i j := CMul.ok (.inr ⟨h1, h2⟩)
theorem mul_w {i j : Int} (a b : Nat) (ha : i.natAbs < 2 ^ a) (hb : j.natAbs < 2 ^ b) (h0 : 0 < a := by decide) (h1 : 0 < b := by decide) (h : a + b ≤ 1000000 := by decide) : CMulA i j := (wide_mul ha hb h0 h1 h).ok
theorem div_s {i j : Int} (h : 0 < j) (h2 : j < 2 ^ 300) : CDivW i j := wide_div (b := 300) h (by omega) (by decide) (by decide)
theorem div_b {i j : Int} (b : Nat) (h : 0 < j) (h2 : j < 2 ^ b) (h0 : 0 < b := by decide) (h9 : b ≤ 9000 := by decide) : CDivW i j := by
  refine wide_div (b := b) h ?_ h0 h9
  have e : ((2 ^ b : Nat) : Int) = (2 : Int) ^ b := by
    rw [Int.natCast_pow]
    rfl
  omega
theorem same_upd {H : Hp} {p : Addr} {o : HO} (h : H p = none) : Same H (upd H p o) := fun b x e => by
  rw [upd_ne (ne_of_none e h)]
  exact e
theorem sizeLine_ge {n : Nat} (h : n ≤ 1000000) : n < sizeLine := by
  rw [sizeLine_eq]
  omega
theorem sizeLine_le {n : Nat} (h : n ≤ 1000000) : n ≤ sizeLine := Nat.le_of_lt (sizeLine_ge h)
theorem pos_of {a c : Nat} (h : a ≤ c) (n : ¬ a = c) : 0 < c := by omega
/-! ### operators on numbers that are not negative -/
def rN (C : Nat → Nat → Prop) (g : Nat → Nat → Nat) : R2 := fun x y H Q => ∃ a b : Nat, x = .int (a : Nat) ∧ y = .int (b : Nat) ∧ C a b ∧ Q (.int ((g a b : Nat) : Int)) H
section
variable {X : Cx}
theorem opN {f : Value → Value → Sem Value} {C : Nat → Nat → Prop} {g : Nat → Nat → Nat} {CI : Int → Int → Prop} {gI : Int → Int → V} (h : OpR X f (rI CI gI)) (e : ∀ a b : Nat, C a b → CI (a : Nat) (b : Nat) ∧ gI (a : Nat) (b : Nat) = .int ((g a b : Nat) : Int)) : OpR X f (rN C g) := by
  intro pins s σ H x y v u Q I rx ry hq
  obtain ⟨a, b, ex, ey, hc, q⟩ := hq
  obtain ⟨h1, h2⟩ := e a b hc
  exact h pins s σ H x y v u Q I rx ry ⟨_, _, ex, ey, h1, by rw [h2]; exact q⟩
theorem opN0 {f : Value → Value → Sem Value} {C : Nat → Nat → Prop} {g : Nat → Nat → Nat} {gI : Int → Int → V} (h : OpR X f (rI0 gI)) (e : ∀ a b : Nat, C a b → gI (a : Nat) (b : Nat) = .int ((g a b : Nat) : Int)) : OpR X f (rN C g) := by
  intro pins s σ H x y v u Q I rx ry hq
  obtain ⟨a, b, ex, ey, hc, q⟩ := hq
  exact h pins s σ H x y v u Q I rx ry ⟨_, _, ex, ey, by rw [e a b hc]; exact q⟩
def NDiv (_ b : Nat) : Prop := 0 < b ∧ b < 2 ^ 9000
def NMod (_ b : Nat) : Prop := 0 < b
def NSub (a b : Nat) : Prop := b ≤ a
def NMul (a b : Nat) : Prop := IntMulOk (a : Int) (b : Int)
def NAny (_ _ : Nat) : Prop := True
theorem op_divN : OpR X (binaryOp .FloorDiv) (rN NDiv fun a b => a / b) := opN op_fdivW fun a b h => ⟨wide_div (b := 9000) (Int.natCast_pos.mpr h.1) h.2 (by decide) (Nat.le_refl _), rfl⟩
theorem op_remN : OpR X (binaryOp .Mod) (rN NMod fun a b => a % b) := opN op_mod fun a b h => ⟨Int.natCast_pos.mpr h, rfl⟩
theorem op_mulN : OpR X (binaryOp .Mult) (rN NMul fun a b => a * b) := opN op_mulA fun a b h => ⟨h, congrArg V.int (Int.natCast_mul a b).symm⟩
theorem op_addN : OpR X (binaryOp .Add) (rN NAny fun a b => a + b) := opN0 op_add fun _ _ _ => rfl
theorem op_subN : OpR X (binaryOp .Sub) (rN NSub fun a b => a - b) := opN0 op_sub fun a b h => congrArg V.int (Int.natCast_sub h).symm
end
theorem ndiv {a b : Nat} (t : Nat) (h : 0 < b) (h2 : b < 2 ^ t) (ht : t ≤ 9000 := by decide) : NDiv a b := ⟨h, Nat.lt_of_lt_of_le h2 (Nat.pow_le_pow_right (by decide) ht)⟩
theorem nmul_l {a b : Nat} (h : a < 2 ^ 64) : NMul a b := mul_l (by omega) (by omega)
theorem nmul_r {a b : Nat} (h : b < 2 ^ 64) : NMul a b := mul_r (by omega) (by omega)
theorem nmul_w {a b : Nat} (i j : Nat) (ha : a < 2 ^ i) (hb : b < 2 ^ j) (h0 : 0 < i := by decide) (h1 : 0 < j := by decide) (h : i + j ≤ 1000000 := by decide) : NMul a b := mul_w i j ha hb h0 h1 h
theorem int_ne {a b : Nat} (h : a ≠ b) : decide (V.int (a : Nat) = V.int (b : Nat)) = false := decide_eq_false fun e => h (Int.ofNat.inj (V.int.inj e))
theorem dT {p : Prop} [Decidable p] (h : p) : V.bl (decide p) = V.bl true := congrArg V.bl (decide_eq_true h)
theorem dF {p : Prop} [Decidable p] (h : ¬ p) : V.bl (decide p) = V.bl false := congrArg V.bl (decide_eq_false h)
theorem nT {p : Prop} [Decidable p] (h : ¬ p) : V.bl (!decide p) = V.bl true := congrArg V.bl (congrArg (!·) (decide_eq_false h))
theorem nF {p : Prop} [Decidable p] (h : p) : V.bl (!decide p) = V.bl false := congrArg V.bl (congrArg (!·) (decide_eq_true h))
theorem vN {a b : Nat} (h : a ≠ b) : ¬ V.int (a : Nat) = V.int (b : Nat) := fun e => h (Int.ofNat.inj (V.int.inj e))
theorem vE {a b : Nat} (h : a = b) : V.int (a : Nat) = V.int (b : Nat) := congrArg (fun c : Nat => V.int (c : Nat)) h
theorem vI {a b : Int} (h : a ≠ b) : ¬ V.int a = V.int b := fun e => h (V.int.inj e)
/-! ### rules with the written part named (within a comprehension's block) -/
section
variable {X : Cx} {K : PySem.W.Frag}
theorem ix_tupK (e : X.K = K) : IxR X (rIxT K) := by subst e; exact ix_tup
theorem ix_listK (e : X.K = K) : IxR X (rIxL K) := by subst e; exact ix_list
theorem sl_tupK (e : X.K = K) : SlR X (rSlT K) := by subst e; exact sl_tup
theorem sl_listK (e : X.K = K) : SlR X (rSlL K) := by subst e; exact sl_list
theorem op_eqK (e : X.K = K) (hu : X.A.units + 64 < cLine) : OpR X (compareOp .Eq) (rEqD K) := by subst e; exact op_eqD hu
theorem op_neK (e : X.K = K) (hu : X.A.units + 64 < cLine) : OpR X (compareOp .NotEq) (rNeD K) := by subst e; exact op_neD hu
theorem isiK (e : X.K = K) : CallR X (.builtin "isinstance") (rIsi K) := by subst e; exact call_isi
def rLenK (K : PySem.W.Frag) : List V → Hp → VK → Prop := fun xs H Q => ∃ p ys, xs = [.ref p] ∧ (SqL K H p ys ∨ SqT K H p ys) ∧ Q (.int ys.length) H
theorem lenK (e : X.K = K) : CallR X (.builtin "len") (rLenK K) := by subst e; exact call_len_seq
theorem allK (e : X.K = K) (hc : X.calm = true) : CallR X (.builtin "all") (rAll K) := by subst e; exact cr_all hc
theorem sumK (e : X.K = K) (hc : X.calm = true) : CallR X (.builtin "sum") (rSum K) := by subst e; exact cr_sum hc
theorem maxK (e : X.K = K) (hc : X.calm = true) : CallR X (.builtin "max") (rMax K) := by subst e; exact cr_max hc
theorem minK (e : X.K = K) (hc : X.calm = true) : CallR X (.builtin "min") (rMin K) := by subst e; exact cr_min hc
theorem anyK (e : X.K = K) (hc : X.calm = true) : CallR X (.builtin "any") (rAny K) := by subst e; exact cr_any hc
end
section
variable {X : Cx} {K : PySem.W.Frag}
theorem ix_ltK (e : X.K = K) : IxR X (fun x y H Q => rIxL K x y H Q ∨ rIxT K x y H Q) := by subst e; exact ix_list.or ix_tup
theorem pe_orTK {a b : Expr} {ta tb : TE} {rest : List Expr} {pos : Pos} (e : X.K = K) (ha : PE X a ta) (hb : PE X (.BoolOp .Or (b :: rest) pos) tb) : PE X (.BoolOp .Or (a :: b :: rest) pos) (tOrT K ta tb) := by subst e; exact pe_orT ha hb
end
theorem yesT {σ : L2.St} {H : Hp} {Q : Bool → Hp → Prop} (h : Q true H) : tYes σ H Q := h
section
variable {X : Cx} {K : PySem.W.Frag}
theorem pg_tupK {es : List Expr} {k : Nat} {t : TGs} {n : Nat} {pos : Pos} (e : X.K = K) (hc : X.calm = true) (h : PGs X es t)
    (hn : (assignEach es X.env).length = n := by rfl) (hst : (assignEach es X.env).findIdx? (·.1) = none := by rfl) : PG X (.Tuple es k pos) (gTup K n t) := by
  subst e
  exact pg_tup hc h hn hst
end
theorem tyx_list {K : PySem.W.Frag} {H : Hp} {a : Addr} {xs : List V} (h : SqL K H a xs) : TyX K H (.ref a) (.type "list") := by
  rcases h with (h | ⟨o, h⟩) | ⟨o, its, n, h, hc, _⟩
  · exact .base (.lst h)
  · exact .base (.frz h)
  · exact .kList h hc
/-- max and min of two numbers that are not negative -/
def rNN (g : Nat → Nat → Nat) : List V → Hp → VK → Prop := fun xs H Q => ∃ a b : Nat, xs = [.int (a : Nat), .int (b : Nat)] ∧ Q (.int ((g a b : Nat) : Int)) H
section
variable {X : Cx}
theorem max2N (hc : X.calm = true) : CallR X (.builtin "max") (rNN max) := by
  intro pins s σ H xs us Q I r h
  obtain ⟨a, b, rfl, q⟩ := h
  refine call_max2 hc pins s σ H _ us Q I r ⟨_, _, rfl, ?_⟩
  have e : (if (b : Int) > (a : Int) then (b : Int) else (a : Int)) = ((max a b : Nat) : Int) := by split <;> omega
  rw [e]
  exact q
theorem max0N (hc : X.calm = true) : CallR X (.builtin "max") (fun xs H Q => ∃ (z : Int) (n : Nat), xs = [.int 0, .int z] ∧ (if z > 0 then z else 0) = (n : Int) ∧ Q (.int (n : Nat)) H) := by
  intro pins s σ H xs us Q I r h
  obtain ⟨z, n, rfl, e, q⟩ := h
  refine call_max2 hc pins s σ H _ us Q I r ⟨0, z, rfl, ?_⟩
  rw [e]
  exact q
theorem min2N (hc : X.calm = true) : CallR X (.builtin "min") (rNN min) := by
  intro pins s σ H xs us Q I r h
  obtain ⟨a, b, rfl, q⟩ := h
  refine call_min2 hc pins s σ H _ us Q I r ⟨_, _, rfl, ?_⟩
  have e : (if (b : Int) < (a : Int) then (b : Int) else (a : Int)) = ((min a b : Nat) : Int) := by split <;> omega
  rw [e]
  exact q
end
/-- one rest behind several ways -/
theorem cut_at {α : Type} {I : α → Hp → Prop} {G : Prop} (R : α → Hp → Prop) (h1 : (∀ a H, I a H → R a H) → G) (h2 : ∀ a H, I a H → R a H) : G := h1 h2
theorem cut_rest {I : Hp → Prop} {G : Prop} (R : Hp → Prop) (h1 : (∀ H, I H → R H) → G) (h2 : ∀ H, I H → R H) : G := h1 h2
/-! ### range over numbers of any size -/
theorem turn_long {P : Program} {w : World} {K : PySem.W.Frag} {tg : Expr} (r : Addr) (lo c : Int) (n : Nat) :
    Turn P w K tg (Itc lo c n) [r] r (fun i hp => IsLongIter hp r (lo + (i : Nat) * c) ((n : Int) - (i : Nat)) c) where
  mem := List.mem_singleton.mpr rfl
  obj := fun _ _ here b hb => by
    cases List.mem_singleton.mp hb
    exact ⟨_, here, fun _ z => nomatch z⟩
  keep := fun _ _ _ here same => same r (List.mem_singleton.mpr rfl) _ here
  item := by
    intro Y y1 y2 y3 calm i pins s σ H E inv own here more
    subst y1; subst y2; subst y3
    have o := own r (List.mem_singleton.mpr rfl)
    refine (Walks.longrange (prog := Y.prog) (w := Y.w) (inv.ok.hd calm) r lo c n).item i s _ _ more here fun v h2 k hv next keep => ?_
    obtain ⟨t, rfl⟩ := hv
    have inv2 : Inv Y pins σ H { s with heap := h2, toks := k } := inv.turned (fun b ob hb e => keep b ob (fun z => hb (List.mem_singleton.mp z)) e) o.1 o.2.1 o.2.2.2.1 o.2.2.2.2.1 o.2.2.2.2.2
    have stay : ∀ b ∈ [r], H b = none := fun b hb => (own b hb).1
    exact ⟨_, rfl, go_of (s := { s with heap := h2, toks := k }) (n := "longrange_iterator") next rfl rfl (by decide) ⟨.int (lo + (i : Nat) * c), H, inv2, ⟨t, rfl⟩, ⟨rfl, rfl⟩, next, stay⟩⟩
  done := by
    intro Y y1 y2 y3 calm i pins s σ H E inv own here over
    subst y1; subst y2; subst y3
    have o := own r (List.mem_singleton.mpr rfl)
    have le : n ≤ i := over
    exact wpAny_pyNext_long_end (inv.ok.hd calm) here (by omega) fun h2 same => ⟨rfl, inv.turned (t' := s.toks) (fun b ob hb e => same b ob hb e) o.1 o.2.1 o.2.2.2.1 o.2.2.2.2.1 o.2.2.2.2.2⟩
  self := fun _ _ _ _ _ here h => wpAny_pyIter_longiter here h
/-- a range object just made, whatever its size -/
theorem range_wide {X : Cx} {tg : Expr} {pins : List (Addr × Obj)} {σ : L2.St} {H : Hp} {s : Shared} {R : It → Hp → Prop} {E : Value → Shared → Prop} {lo hi c : Int} {t u v : Tok} {tk n : Nat} (I : Inv X pins σ H s)
    (hn : Builtin.Range.rangeSize lo hi c = n) (q : R (Itc lo c n) H) :
    wpAny (model X.prog X.w) X.A (pyIter (.ref s.heap.objs.size)) (PIE X pins σ tg R) E { s with heap := s.heap.push { cls := .type "range", data := .fields #[.int lo t, .int hi u, .int c v] }, toks := tk } := by
  have made : Inv X pins σ H { s with heap := s.heap.push { cls := .type "range", data := .fields #[.int lo t, .int hi u, .int c v] }, toks := tk } := I.kept fun b ob e => Heap.get?_push_of_some _ e
  have e0 : lo + ((0 : Nat) : Int) * c = lo := by simp
  have e9 : (n : Int) - ((0 : Nat) : Int) = Builtin.Range.rangeSize lo hi c := by
    rw [hn]
    simp
  cases small : Builtin.Range.small lo hi c with
  | true =>
    refine wpAny_pyIter_range (IsRange.new ..) small (pi_one (tk := tk) made _ (turn_rangeC _ lo c n) ?_ q)
    show IsRangeIter _ _ (lo + ((0 : Nat) : Int) * c) ((n : Int) - ((0 : Nat) : Int)) c
    rw [e0, e9]
    exact Heap.get?_push_size _ rfl
  | false =>
    refine wpAny_pyIter_longrange (IsRange.new ..) small (pi_one (tk := tk) made _ (turn_long _ lo c n) ?_ q)
    show IsLongIter _ _ (lo + ((0 : Nat) : Int) * c) ((n : Int) - ((0 : Nat) : Int)) c
    rw [e0, e9]
    exact Heap.get?_push_size _ rfl
theorem itc_one (lo : Int) (n : Nat) : Itc lo 1 n = Itr lo n := by
  unfold Itc Itr
  congr 1
  funext i H x H'
  rw [Int.mul_one]
def iWide2 (ta : TA) : TI := fun σ H R => ta σ H fun vs H1 => ∃ i j : Int, vs = [.int i, .int j] ∧ R (Itr i (j - i).toNat) H1
def iWide3 (ta : TA) : TI := fun σ H R => ta σ H fun vs H1 => ∃ (i j c : Int) (n : Nat), vs = [.int i, .int j, .int c] ∧ CDivP (j - i) c ∧ Builtin.Range.rangeSize i j c = n ∧ R (Itc i c n) H1
section
variable {X : Cx} {tg : Expr}
theorem pi_wide2 {a b : Expr} {ta : TA} {p pos : Pos} (hg : Gl X "range") (hm : X.mg "range" = none) (ha : PA X [a, b] ta) (h2 : starEach [a, b] X.env = [(false, eval a X.env), (false, eval b X.env)] := by rfl) (h1 : starEach [b] X.env = [(false, eval b X.env)] := by rfl) :
    PI X tg (.Call (.Name "range" p) [a, b] [] pos) (iWide2 ta) := by
  refine ⟨fun pins s σ H R I h => Call_ (ld_blt I hg hm boot_range (PyProof.Rows.callWith_type1 (thn (ha.run pos pins s σ H _ I h) fun us s1 ⟨vs, H1, I1, r1, q1⟩ => ?_) (by rw [h2, h1]) (by rw [h1]; rfl)))⟩
  obtain ⟨i, j, rfl, q⟩ := q1
  obtain ⟨u1, u2, rfl, ⟨t, rfl⟩, ⟨t', rfl⟩⟩ := vals2 r1
  refine call_range_2 (range_wide (n := (j - i).toNat) I1 ?_ (by rw [itc_one]; exact q))
  rw [rangeSize_one]
  split <;> omega
theorem pi_wide3 {a b c : Expr} {ta : TA} {p pos : Pos} (hg : Gl X "range") (hm : X.mg "range" = none) (ha : PA X [a, b, c] ta)
    (h3 : starEach [a, b, c] X.env = (false, eval a X.env) :: starEach [b, c] X.env := by rfl) (hn : (backTo pos (starEach [b, c] X.env)).any (·.1) = false := by rfl) :
    PI X tg (.Call (.Name "range" p) [a, b, c] [] pos) (iWide3 ta) := by
  refine ⟨fun pins s σ H R I h => Call_ (ld_blt I hg hm boot_range (PyProof.Rows.callWith_type1 (thn (ha.run pos pins s σ H _ I h) fun us s1 ⟨vs, H1, I1, r1, q1⟩ => ?_) h3 hn))⟩
  obtain ⟨i, j, k, n, rfl, hk, hz, q⟩ := q1
  cases r1 with
  | cons ra rr =>
    obtain ⟨u2, u3, rfl, ⟨t', rfl⟩, ⟨t'', rfl⟩⟩ := vals2 rr
    obtain ⟨t, rfl⟩ := ra
    have k0 : k ≠ 0 := fun z => by
      have := hk.1
      omega
    exact call_range_3 k0 (range_wide (tk := s1.toks) I1 hz q) (.inl hk.2)
end
/-- a list made over a range with a step -/
theorem lc_step {lo c : Int} {n : Nat} {g : TG} {tt : TT} {te : TE} {ws : List Nat} {σ : L2.St} {G : Hp} {D : Addr} {Qd : Hp → Prop} (Pv : Nat → Hp → Prop) (start : Pv 0 (upd G D (.lst [])))
    (step : ∀ i G, i < n → Pv i G → g (.int (lo + (i : Nat) * c)) (wipe σ ws) G fun τ G2 => wipe τ ws = wipe σ ws ∧ tt τ G2 fun k G3 => if k = true then te τ G3 fun z G4 => ∃ ac, G4 D = some (.lst ac) ∧ ac.length < sizeLine ∧ Pv (i + 1) (upd G4 D (.lst (ac ++ [z]))) else Pv (i + 1) G3)
    (last : ∀ G, Pv n G → Qd G) : ∃ W : Nat → Nat → Hp → Prop, (∃ m, W 0 m (upd G D (.lst []))) ∧ ∀ i m G, W i m G → ((Itc lo c n).stop i G ∧ Qd G) ∨
      ((Itc lo c n).go i G ∧ ∃ N : Hp → Prop, (∀ G', N G' → ∃ m', m' < m ∧ W (i + 1) m' G') ∧ ∀ x G', (Itc lo c n).yld i G x G' → g x (wipe σ ws) G' fun τ G2 => wipe τ ws = wipe σ ws ∧ tt τ G2 fun k G3 => if k = true then te τ G3 fun z G4 => ∃ ac, G4 D = some (.lst ac) ∧ ac.length < sizeLine ∧ N (upd G4 D (.lst (ac ++ [z]))) else N G3) := by
  refine ⟨fun i m G => (m = n - i ∧ i ≤ n) ∧ Pv i G, ⟨n, ⟨rfl, Nat.zero_le _⟩, start⟩, ?_⟩
  rintro i m G ⟨⟨rfl, le⟩, pv⟩
  rcases Nat.lt_or_ge i n with lt | ge
  · exact .inr ⟨lt, Pv (i + 1), fun G' p' => ⟨n - (i + 1), by omega, ⟨rfl, lt⟩, p'⟩, fun x G' ⟨e1, e2⟩ => by
      rw [e1, e2]
      exact step i G lt pv⟩
  · have e : i = n := Nat.le_antisymm le ge
    rw [e] at pv ⊢
    exact .inl ⟨Nat.le_refl _, last G pv⟩
/-! ### sorted(xs, reverse=True) of pairs of whole numbers; enumerate in a comprehension -/
def pairV (H : Hp) : V → Int × Int
  | .ref b => match H b with
    | some (.tup [.int i, .int j]) => (i, j)
    | _ => (0, 0)
  | _ => (0, 0)
theorem pairV_of {H : Hp} {b : Addr} {i j : Int} (h : H b = some (.tup [.int i, .int j])) : pairV H (.ref b) = (i, j) := by
  show (match H b with | some (.tup [.int i, .int j]) => (i, j) | _ => (0, 0)) = (i, j)
  rw [h]
def rSortedPR (K : PySem.W.Frag) : List V → List V → Hp → VK → Prop := fun vs zs H Q => ∃ (a : Addr) (xs : List V) (k : V → Int × Int), vs = [V.ref a] ∧ zs = [.bl true] ∧ SqL K H a xs ∧ (∀ x ∈ xs, ∃ t, x = V.ref t ∧ H t = some (.tup [.int (k x).1, .int (k x).2])) ∧
  ∀ ys p, SrtO.Srtd (ltP k) ys → ys.Perm xs → H p = none → Q (.ref p) (upd H p (.lst ys.reverse))
section
variable {X : Cx}
theorem cr_sortedPR : CallRK X (.builtin "sorted") [Str.ofString "reverse"] (rSortedPR X.K) := by
  intro pins s σ H vs zs us ws Q I r rz h
  obtain ⟨a, xs, k, rfl, rfl, hs, hx, q⟩ := h
  obtain rfl := Vals.ref1 r
  obtain ⟨w1, rfl, e0⟩ := vals1 rz
  obtain rfl : w1 = Value.bool true := e0
  obtain ⟨its, rv, hl, hz⟩ := I.list hs
  obtain ⟨e1, e2⟩ := refs_back rv fun x m => by
    obtain ⟨t, e, _⟩ := hx x m
    exact ⟨t, e⟩
  have hp : ∀ v ∈ its, Srt.IsPair s.heap v (k (backV v)).1 (k (backV v)).2 := fun v hv => by
    obtain ⟨t, rfl⟩ := e2 v hv
    have hm : V.ref t ∈ xs := by rw [e1]; exact List.mem_map.mpr ⟨_, hv, rfl⟩
    obtain ⟨t', e, ht⟩ := hx _ hm
    cases e
    obtain ⟨_, its2, r2, o, ho, hc, n, hd⟩ := I.hok _ _ ht
    obtain ⟨u1, u2, rfl, ri, rj⟩ := vals2 r2
    obtain ⟨t1, rfl⟩ := ri
    obtain ⟨t2, rfl⟩ := rj
    exact ⟨t, o, t1, t2, n, rfl, ho, hc, hd⟩
  refine SrtR.sorted_ordK (b := true) (fun _ => rfl) (PyProof.Rows.args_sorted_rev _ _) (fun _ => PyProof.Rows.args_list_sort_rev _ _) (SrtO.swo_lex fun u => k (backV u)) hl.isList (by rw [← rv.length]; exact hz)
    (fun h2 h₁ a' ha' kp => SrtO.pairs_sortableO (by omega) (fun v hv => (hp v hv).keeps fun b o e c => (kp b o e).2) fun o e => ?_) fun out h1 h2 => ?_
  · have e' : some o = some (seqObj "list" its.toArray 0) := e.symm.trans ha'
    cases e'
    intro c
    exact absurd (Value.type.inj c) (by decide)
  · have h2p : out.Perm its := h2.perm.trans (List.reverse_perm _)
    have h3 : ∀ u ∈ out, ∃ a, u = Value.ref a := fun u hu => e2 u (h2p.mem_iff.mp hu)
    have hb : (out.map backV).Perm xs := by
      rw [e1]
      exact h2p.map backV
    obtain ⟨ep, he'⟩ := PyProof.Rows.sortedAll_at s.heap its out.toArray.reverse
    have hlen : (out.map backV).reverse.length ≤ sizeLine := by
      rw [List.length_reverse, hb.length_eq]
      exact hz
    have er : (out.map backV).reverse = out.reverse.map backV := by rw [List.map_reverse]
    have h4 : ∀ u ∈ out.reverse, ∃ a, u = Value.ref a := fun u hu => h3 u (List.mem_reverse.mp hu)
    have ea : out.reverse.toArray = out.toArray.reverse := by
      apply Array.ext'
      rw [Array.toList_reverse]
    exact ⟨.ref _, upd H (s.heap.objs.size + 1) (.lst (out.map backV).reverse), I.laid (t' := s.toks) (fun _ _ => PyProof.Rows.sortedAll_old) (Nat.le_succ _) ⟨hlen, out.reverse, ep, by rw [er]; exact vals_back h4, by rw [ea]; exact he'⟩, rfl, q _ _ (SrtO.srtd_map h1) hb (I.hok.fresh (Nat.le_succ _))⟩
end
theorem lc_enum {K : PySem.W.Frag} {a : Addr} {xs : List V} {g : TG} {tt : TT} {te : TE} {ws : List Nat} {σ : L2.St} {G : Hp} {D : Addr} {Qd : Hp → Prop} (Pv : Nat → Hp → Prop) (start : Pv 0 (upd G D (.lst []))) (lst : ∀ i G, i ≤ xs.length → Pv i G → SqL K G a xs)
    (step : ∀ (i : Nat) (x : V) (T : Addr) (G : Hp), xs[i]? = some x → Pv i G → G T = none → g (.ref T) (wipe σ ws) (upd G T (.tup [.int (i : Nat), x])) fun τ G2 => wipe τ ws = wipe σ ws ∧ tt τ G2 fun c G3 => if c = true then te τ G3 fun z G4 => ∃ ac, G4 D = some (.lst ac) ∧ ac.length < sizeLine ∧ Pv (i + 1) (upd G4 D (.lst (ac ++ [z]))) else Pv (i + 1) G3)
    (last : ∀ G, Pv xs.length G → Qd G) : ∃ W : Nat → Nat → Hp → Prop, (∃ m, W 0 m (upd G D (.lst []))) ∧ ∀ i m G, W i m G → ((Ite K a).stop i G ∧ Qd G) ∨
      ((Ite K a).go i G ∧ ∃ N : Hp → Prop, (∀ G', N G' → ∃ m', m' < m ∧ W (i + 1) m' G') ∧ ∀ x G', (Ite K a).yld i G x G' → g x (wipe σ ws) G' fun τ G2 => wipe τ ws = wipe σ ws ∧ tt τ G2 fun c G3 => if c = true then te τ G3 fun z G4 => ∃ ac, G4 D = some (.lst ac) ∧ ac.length < sizeLine ∧ N (upd G4 D (.lst (ac ++ [z]))) else N G3) := by
  refine ⟨fun i m G => (m = xs.length - i ∧ i ≤ xs.length) ∧ Pv i G, ⟨xs.length, ⟨rfl, Nat.zero_le _⟩, start⟩, ?_⟩
  rintro i m G ⟨⟨rfl, le⟩, pv⟩
  have here := lst i G le pv
  rcases Nat.lt_or_ge i xs.length with lt | ge
  · refine .inr ⟨⟨xs, _, here, List.getElem?_eq_getElem lt⟩, Pv (i + 1), fun G' p' => ⟨xs.length - (i + 1), by omega, ⟨rfl, lt⟩, p'⟩, fun v G' y => ?_⟩
    obtain ⟨T, x, rfl, nT, rfl, hx⟩ := y
    exact step i x T G (hx xs here) pv nT
  · have e : i = xs.length := Nat.le_antisymm le ge
    rw [e] at pv ⊢
    exact .inl ⟨⟨xs, here, Nat.le_refl _⟩, last G pv⟩
theorem inV_nat {x : Nat} : ∀ {ns : List Nat}, inV (.int (x : Nat)) (ns.map fun y => V.int (y : Nat)) = decide (x ∈ ns)
  | [] => rfl
  | y :: ns => by
    have ih := inV_nat (x := x) (ns := ns)
    show (eqV (.int (y : Nat)) (.int (x : Nat)) || inV (.int (x : Nat)) (ns.map fun y => V.int (y : Nat))) = _
    rw [ih]
    have e : eqV (.int (y : Nat)) (.int (x : Nat)) = decide (y = x) := by
      show decide ((y : Int) = (x : Int)) = _
      exact decide_eq_decide.mpr Int.ofNat_inj
    rw [e]
    by_cases c : y = x
    · have z : x ∈ y :: ns := by
        rw [c]
        exact List.mem_cons_self ..
      rw [decide_eq_true c, decide_eq_true z]
      rfl
    · rw [decide_eq_false c, Bool.false_or]
      exact decide_eq_decide.mpr ⟨fun h => List.mem_cons_of_mem _ h, fun h => (List.mem_cons.mp h).resolve_left fun z => c z.symm⟩
theorem flat_nats (ns : List Nat) : (ns.map fun y => V.int (y : Nat)).all flatV = true := by
  rw [List.all_eq_true]
  intro v hv
  obtain ⟨y, _, rfl⟩ := List.mem_map.mp hv
  rfl
/-! ### digits: the mathematics -/
/-- k is the level of d at n -/
def IsLev (b n d k : Nat) : Prop := n / b ^ (k + 1) = d / b ^ (k + 1) ∧ ∀ j, j < k → n / b ^ (j + 1) ≠ d / b ^ (j + 1)
abbrev Row3 := Nat × Nat × Nat
/-- the stations below level k -/
def tailOf (b d : Nat) : Nat → List Row3
  | 0 => []
  | k + 1 => if d / b ^ k % b ≠ 0 then (k, d / b ^ k % b, d / b ^ (k + 1) * b ^ (k + 1)) :: tailOf b d k else tailOf b d k
/-- the stations of a timer set at n, k its level -/
def rowsOf (b n d k : Nat) : List Row3 := (k, d / b ^ k % b, n) :: tailOf b d k
theorem div_succ (n b k : Nat) : n / b ^ (k + 1) = n / b ^ k / b := by
  rw [Nat.pow_succ, Nat.div_div_eq_div_mul]
theorem pow_pos' {b : Nat} (h : 2 ≤ b) (k : Nat) : 0 < b ^ k := Nat.pow_pos (by omega)
theorem IsLev.uniq {b n d k k' : Nat} (h : IsLev b n d k) (h' : IsLev b n d k') : k = k' := by
  rcases Nat.lt_trichotomy k k' with l | l | l
  · exact absurd h.1 (h'.2 k l)
  · exact l
  · exact absurd h'.1 (h.2 k' l)
theorem IsLev.ne {b n d k : Nat} (h : IsLev b n d k) (hnd : n < d) : n / b ^ k < d / b ^ k := by
  cases k with
  | zero =>
    rw [Nat.pow_zero, Nat.div_one, Nat.div_one]
    exact hnd
  | succ j =>
    have h1 := h.2 j (Nat.lt_succ_self j)
    have h2 : n / b ^ (j + 1) ≤ d / b ^ (j + 1) := Nat.div_le_div_right (Nat.le_of_lt hnd)
    omega
theorem IsLev.size {b n d k : Nat} (h : IsLev b n d k) (hb : 2 ≤ b) (hnd : n < d) : b ^ k ≤ d := by
  have h1 := h.ne hnd
  have h2 : 0 < d / b ^ k := Nat.lt_of_le_of_lt (Nat.zero_le _) h1
  exact (Nat.div_pos_iff.mp h2).2
theorem IsLev.digit {b n d k : Nat} (h : IsLev b n d k) (hnd : n < d) : n / b ^ k % b < d / b ^ k % b := by
  have h1 := h.ne hnd
  have h2 := h.1
  rw [div_succ, div_succ] at h2
  have e1 := Nat.div_add_mod (n / b ^ k) b
  have e2 := Nat.div_add_mod (d / b ^ k) b
  rw [h2] at e1
  omega
theorem pow_two_le {b : Nat} (hb : 2 ≤ b) (k : Nat) : 2 ^ k ≤ b ^ k := Nat.pow_le_pow_left hb k
theorem lev_small {b n d k t : Nat} (h : IsLev b n d k) (hb : 2 ≤ b) (hnd : n < d) (hd : d < 2 ^ t) : k < t := by
  have h1 := h.size hb hnd
  have h2 := pow_two_le hb k
  exact (Nat.pow_lt_pow_iff_right (by decide : 1 < 2)).mp (Nat.lt_of_le_of_lt (Nat.le_trans h2 h1) hd)
/-- cutting below: what two cuts beside one another differ by -/
theorem cut_step (b d k : Nat) : d / b ^ k * b ^ k = d / b ^ (k + 1) * b ^ (k + 1) + d / b ^ k % b * b ^ k := by
  rw [div_succ]
  have e := Nat.div_add_mod (d / b ^ k) b
  have e2 : b ^ (k + 1) = b * b ^ k := by rw [Nat.pow_succ, Nat.mul_comm]
  rw [e2, ← Nat.mul_assoc, ← Nat.add_mul, Nat.mul_comm (d / b ^ k / b) b, e]
theorem cut_le (b d k : Nat) : d / b ^ k * b ^ k ≤ d := Nat.div_mul_le_self d (b ^ k)
theorem cut_mono (b d : Nat) {j k : Nat} (h : j ≤ k) : d / b ^ k * b ^ k ≤ d / b ^ j * b ^ j := by
  induction k with
  | zero =>
    have e : j = 0 := by omega
    rw [e]
    exact Nat.le_refl _
  | succ k ih =>
    by_cases e : j = k + 1
    · rw [e]
      exact Nat.le_refl _
    · have h1 := ih (by omega)
      have h2 := cut_step b d k
      omega
theorem lt_cut {b n d k : Nat} (hb : 2 ≤ b) (h : n / b ^ k < d / b ^ k) : n < d / b ^ k * b ^ k := by
  have hp := pow_pos' hb k
  exact (Nat.div_lt_iff_lt_mul hp).mp h
theorem tail_len (b d : Nat) : ∀ k, (tailOf b d k).length ≤ k
  | 0 => Nat.le_refl _
  | k + 1 => by
    have ih := tail_len b d k
    unfold tailOf
    split
    · rw [List.length_cons]
      omega
    · omega
/-- a later tick that lies ahead of the next cut has the same level -/
theorem IsLev.later {b n d k t : Nat} (hb : 2 ≤ b) (h : IsLev b n d k) (hnd : n < d) (h1 : n ≤ t) (h2 : t < d / b ^ k * b ^ k) : IsLev b t d k := by
  have hp := pow_pos' hb k
  have hp1 := pow_pos' hb (k + 1)
  have htd : t < d := Nat.lt_of_lt_of_le h2 (cut_le b d k)
  refine ⟨?_, fun j hj => ?_⟩
  · have a1 : n / b ^ (k + 1) ≤ t / b ^ (k + 1) := Nat.div_le_div_right h1
    have a2 : t / b ^ (k + 1) ≤ d / b ^ (k + 1) := Nat.div_le_div_right (Nat.le_of_lt htd)
    have a3 := h.1
    omega
  · have a1 : t / b ^ k < d / b ^ k := (Nat.div_lt_iff_lt_mul hp).mpr h2
    intro e
    have e2 : k = (j + 1) + (k - (j + 1)) := by omega
    rw [e2, Nat.pow_add, ← Nat.div_div_eq_div_mul, ← Nat.div_div_eq_div_mul, e] at a1
    omega
/-! ### rules that the layer lacks: min(.., default=None), sorted of a dict with pairs of ints as its keys -/
theorem minOf_spec : ∀ (x : Int) (xs : List Int), PySem.W.minOf x xs ∈ x :: xs ∧ ∀ y ∈ x :: xs, PySem.W.minOf x xs ≤ y := by
  intro x xs
  unfold PySem.W.minOf
  induction xs generalizing x with
  | nil =>
    refine ⟨List.mem_cons_self .., fun y hy => ?_⟩
    rcases List.mem_cons.mp hy with e | hy
    · rw [e]
      exact Int.le_refl _
    · cases hy
  | cons z zs ih =>
    have e : (PySem.W.DatumOrd.lt z x = true) ↔ z < x := by
      show decide (z < x) = true ↔ z < x
      exact decide_eq_true_iff
    rw [List.foldl_cons]
    obtain ⟨h1, h2⟩ := ih (if PySem.W.DatumOrd.lt z x = true then z else x)
    refine ⟨?_, fun y hy => ?_⟩
    · rcases List.mem_cons.mp h1 with e1 | h1
      · rw [e1]
        split
        · exact List.mem_cons_of_mem _ (List.mem_cons_self ..)
        · exact List.mem_cons_self ..
      · exact List.mem_cons_of_mem _ (List.mem_cons_of_mem _ h1)
    · have h3 := h2 _ (List.mem_cons_self ..)
      rcases List.mem_cons.mp hy with e1 | hy
      · rw [e1]
        by_cases c : z < x
        · rw [if_pos (e.mpr c)] at h3 ⊢
          omega
        · rw [if_neg (fun q => c (e.mp q))] at h3 ⊢
          exact h3
      · rcases List.mem_cons.mp hy with e1 | hy
        · rw [e1]
          by_cases c : z < x
          · rw [if_pos (e.mpr c)] at h3 ⊢
            exact h3
          · rw [if_neg (fun q => c (e.mp q))] at h3 ⊢
            omega
        · exact h2 y (List.mem_cons_of_mem _ hy)
def rMinD (K : PySem.W.Frag) : List V → List V → Hp → VK → Prop := fun vs zs H Q => ∃ (a : Addr) (ns : List Int), vs = [V.ref a] ∧ zs = [.non] ∧ SqL K H a (ns.map V.int) ∧ (ns = [] → Q .non H) ∧ ∀ v ∈ ns, (∀ x ∈ ns, v ≤ x) → Q (.int v) H
section
variable {X : Cx} {K : PySem.W.Frag}
theorem minDef (e : X.K = K) (hc : X.calm = true) (hu : X.A.units + 64 < cLine) : CallRK X (.builtin "min") [Str.ofString "default"] (rMinD K) := by
  subst e
  intro pins s σ H vs zs us ws Q I r rz h
  obtain ⟨a, ns, rfl, rfl, hs, q0, q1⟩ := h
  obtain ⟨its, rv, hl, hz⟩ := I.list hs
  obtain ⟨w1, rfl, e1⟩ := vals1 rz
  obtain rfl : w1 = Value.none := e1
  rw [Vals.ref1 r]
  have hi := rv.ints
  refine PySem.W.min_list_datum_default (α := Int) (xs := ns) (I.ok.hd hc) hl.isList (PySem.W.HoldAll.of_ints hi) (by show X.A.units + 1 + 0 < cLine; omega) (fun en h' tk hk => ?_) (fun y ys i v h' tk en hv hh hk => ?_)
  · exact ⟨.non, H, I.kept hk, rfl, q0 en⟩
  · obtain ⟨as, hr⟩ := hh
    have hm := minOf_spec y ys
    have ev : ∃ t, v = Value.int (PySem.W.minOf y ys) t := by
      cases hr
      exact ⟨_, rfl⟩
    obtain ⟨t, rfl⟩ := ev
    subst en
    exact ⟨.int _, H, I.kept hk, ⟨_, rfl⟩, q1 _ hm.1 hm.2⟩
end
/-! ### where two periodic timers meet: the mathematics -/
def IsMeet (a p o q f e : Nat) : Prop := e = p / Nat.gcd p q * q ∧ max a o ≤ f ∧ f < max a o + e ∧ p ∣ f - a ∧ q ∣ f - o
theorem lcm_form {p q : Nat} (hp : 1 ≤ p) : p / Nat.gcd p q * q = q / Nat.gcd p q * p := by
  have hg : 0 < Nat.gcd p q := Nat.gcd_pos_of_pos_left q hp
  have e1 : p / Nat.gcd p q * Nat.gcd p q = p := Nat.div_mul_cancel (Nat.gcd_dvd_left p q)
  have e2 : q / Nat.gcd p q * Nat.gcd p q = q := Nat.div_mul_cancel (Nat.gcd_dvd_right p q)
  refine Nat.eq_of_mul_eq_mul_right hg ?_
  rw [Nat.mul_right_comm, e1, Nat.mul_right_comm, e2, Nat.mul_comm]
theorem lcm_pos {p q : Nat} (hp : 1 ≤ p) (hq : 1 ≤ q) : 0 < p / Nat.gcd p q * q := by
  have hg : 0 < Nat.gcd p q := Nat.gcd_pos_of_pos_left q hp
  exact Nat.mul_pos (Nat.div_pos (Nat.le_of_dvd (by omega) (Nat.gcd_dvd_left p q)) hg) (by omega)
/-- one step of the division chain -/
theorem chain_step {n m d r : Nat} {x y : Int} (hx : (m : Int) ∣ x * n - d) (hy : (m : Int) ∣ y * n - r) :
    (m : Int) ∣ (x - ((d / r : Nat) : Int) * y) * n - ((d % r : Nat) : Int) := by
  have e1 : ((d % r : Nat) : Int) = (d : Int) - ((d / r : Nat) : Int) * (r : Int) := by
    have z := Nat.div_add_mod d r
    have z2 : ((r * (d / r) + d % r : Nat) : Int) = (d : Int) := congrArg Int.ofNat z
    rw [Int.natCast_add, Int.natCast_mul, Int.mul_comm] at z2
    omega
  have e2 : (x - ((d / r : Nat) : Int) * y) * n - ((d % r : Nat) : Int) = (x * n - d) - ((d / r : Nat) : Int) * (y * n - r) := by
    rw [e1, Int.sub_mul, Int.mul_sub, Int.mul_assoc]
    omega
  rw [e2]
  exact Int.dvd_sub hx (Int.dvd_mul_of_dvd_right hy)
theorem chain_size {m d r a b : Nat} (h : a * r + b * d = m) : b * (d % r) + (a + d / r * b) * r = m := by
  have e := Nat.div_add_mod d r
  have e1 : b * d = b * (r * (d / r)) + b * (d % r) := by rw [← Nat.mul_add, e]
  have e2 : (a + d / r * b) * r = a * r + b * (r * (d / r)) := by
    rw [Nat.add_mul, Nat.mul_comm (d / r) b, Nat.mul_assoc, Nat.mul_comm (d / r) r]
  rw [e2]
  omega
theorem meet_of {a p o q : Nat} {x : Int} (hp : 1 ≤ p) (hq : 1 ≤ q) (hx : (q : Int) ∣ x * p - (Nat.gcd p q : Nat)) (hg : ((o : Int) - a) % ((Nat.gcd p q : Nat) : Int) = 0) :
    ∃ f : Nat, (if (o : Int) > (a : Int) then (o : Int) else (a : Int)) + ((a : Int) + ((o : Int) - a) / ((Nat.gcd p q : Nat) : Int) * x * p - (if (o : Int) > (a : Int) then (o : Int) else (a : Int))) % ((p / Nat.gcd p q * q : Nat) : Int) = (f : Int) ∧ IsMeet a p o q f (p / Nat.gcd p q * q) := by
  have hbegin : (if (o : Int) > (a : Int) then (o : Int) else (a : Int)) = ((max a o : Nat) : Int) := by split <;> omega
  rw [hbegin]
  have he := lcm_pos hp hq
  have hpe : (p : Int) ∣ ((p / Nat.gcd p q * q : Nat) : Int) := by
    rw [lcm_form hp]
    exact Int.natCast_dvd_natCast.mpr (Nat.dvd_mul_left p _)
  have hqe : (q : Int) ∣ ((p / Nat.gcd p q * q : Nat) : Int) := Int.natCast_dvd_natCast.mpr (Nat.dvd_mul_left q _)
  have hgd : ((Nat.gcd p q : Nat) : Int) * (((o : Int) - a) / ((Nat.gcd p q : Nat) : Int)) = (o : Int) - a := by
    have z := Int.emod_add_mul_ediv ((o : Int) - a) ((Nat.gcd p q : Nat) : Int)
    omega
  generalize ((o : Int) - a) / ((Nat.gcd p q : Nat) : Int) = u at hgd ⊢
  generalize hE : p / Nat.gcd p q * q = e at he hpe hqe ⊢
  have r0 : 0 ≤ ((a : Int) + u * x * p - ((max a o : Nat) : Int)) % (e : Int) := Int.emod_nonneg _ (by omega)
  have r1 : ((a : Int) + u * x * p - ((max a o : Nat) : Int)) % (e : Int) < e := Int.emod_lt_of_pos _ (by omega)
  have r2 := Int.emod_add_mul_ediv ((a : Int) + u * x * p - ((max a o : Nat) : Int)) (e : Int)
  generalize ((a : Int) + u * x * p - ((max a o : Nat) : Int)) / (e : Int) = w at r2
  generalize ((a : Int) + u * x * p - ((max a o : Nat) : Int)) % (e : Int) = r at r0 r1 r2 ⊢
  refine ⟨(((max a o : Nat) : Int) + r).toNat, by omega, by rw [hE], by omega, by omega, ?_, ?_⟩
  · have e1 : (((((max a o : Nat) : Int) + r).toNat - a : Nat) : Int) = u * x * p - e * w := by omega
    rw [← Int.natCast_dvd_natCast, e1]
    exact Int.dvd_sub (Int.dvd_mul_left _ _) (Int.dvd_mul_of_dvd_left hpe)
  · have e1 : (((((max a o : Nat) : Int) + r).toNat - o : Nat) : Int) = u * (x * p - (Nat.gcd p q : Nat)) - e * w := by
      rw [Int.mul_sub, ← Int.mul_assoc, Int.mul_comm u ((Nat.gcd p q : Nat) : Int)]
      omega
    rw [← Int.natCast_dvd_natCast, e1]
    exact Int.dvd_sub (Int.dvd_mul_of_dvd_right hx) (Int.dvd_mul_of_dvd_left hqe)
theorem lcm_dvd {p q d : Nat} (hp : 1 ≤ p) (h1 : p ∣ d) (h2 : q ∣ d) : p / Nat.gcd p q * q ∣ d := by
  have hg : 0 < Nat.gcd p q := Nat.gcd_pos_of_pos_left q hp
  have e : p / Nat.gcd p q * q = Nat.lcm p q := by
    unfold Nat.lcm
    rw [Nat.div_mul_right_comm (Nat.gcd_dvd_left p q)]
  rw [e]
  exact Nat.lcm_dvd h1 h2
theorem meet_uniq {a p o q f e f' : Nat} (hp : 1 ≤ p) (h : IsMeet a p o q f e) (h1 : max a o ≤ f') (h2 : f' < max a o + e) (h3 : p ∣ f' - a) (h4 : q ∣ f' - o) : f' = f := by
  obtain ⟨he, b1, b2, b3, b4⟩ := h
  rcases Nat.lt_trichotomy f' f with l | l | l
  · have d1 : p ∣ f - f' := by
      have z := Nat.dvd_sub b3 h3
      rw [show f - a - (f' - a) = f - f' by omega] at z
      exact z
    have d2 : q ∣ f - f' := by
      have z := Nat.dvd_sub b4 h4
      rw [show f - o - (f' - o) = f - f' by omega] at z
      exact z
    have := Nat.le_of_dvd (by omega) (lcm_dvd hp d1 d2)
    omega
  · exact l
  · have d1 : p ∣ f' - f := by
      have z := Nat.dvd_sub h3 b3
      rw [show f' - a - (f - a) = f' - f by omega] at z
      exact z
    have d2 : q ∣ f' - f := by
      have z := Nat.dvd_sub h4 b4
      rw [show f' - o - (f - o) = f' - f by omega] at z
      exact z
    have := Nat.le_of_dvd (by omega) (lcm_dvd hp d1 d2)
    omega
theorem IsMeet.swap {a p o q f e : Nat} (hp : 1 ≤ p) (h : IsMeet a p o q f e) : IsMeet o q a p f e := by
  obtain ⟨he, b1, b2, b3, b4⟩ := h
  refine ⟨?_, by omega, by omega, b4, b3⟩
  rw [he, lcm_form hp, Nat.gcd_comm]
/-- two timers meet only where the phases differ by what their measure divides -/
theorem meet_gcd {a p o q f : Nat} (h1 : a ≤ f) (h2 : o ≤ f) (h3 : p ∣ f - a) (h4 : q ∣ f - o) : ((o : Int) - a) % ((Nat.gcd p q : Nat) : Int) = 0 := by
  have d1 : ((Nat.gcd p q : Nat) : Int) ∣ ((f - a : Nat) : Int) := Int.natCast_dvd_natCast.mpr (Nat.dvd_trans (Nat.gcd_dvd_left p q) h3)
  have d2 : ((Nat.gcd p q : Nat) : Int) ∣ ((f - o : Nat) : Int) := Int.natCast_dvd_natCast.mpr (Nat.dvd_trans (Nat.gcd_dvd_right p q) h4)
  have d3 := Int.dvd_sub d1 d2
  rw [show ((f - a : Nat) : Int) - ((f - o : Nat) : Int) = (o : Int) - a by omega] at d3
  exact Int.emod_eq_zero_of_dvd d3
theorem gcd_swap {a o p q : Nat} : ((o : Int) - a) % ((Nat.gcd p q : Nat) : Int) = 0 ↔ ((a : Int) - o) % ((Nat.gcd q p : Nat) : Int) = 0 := by
  rw [Nat.gcd_comm]
  constructor
  · intro h
    have z := Int.dvd_neg.mpr (Int.dvd_of_emod_eq_zero h)
    rw [show -((o : Int) - a) = (a : Int) - o by omega] at z
    exact Int.emod_eq_zero_of_dvd z
  · intro h
    have z := Int.dvd_neg.mpr (Int.dvd_of_emod_eq_zero h)
    rw [show -((a : Int) - o) = (o : Int) - a by omega] at z
    exact Int.emod_eq_zero_of_dvd z
/-! ### exceptions: defs that may raise, any value as an argument -/
section
variable {P : Program} {w : World} {K : PySem.W.Frag} {mg : Str → Option Value} {base : Heap}
/-- as Has, for a def that may raise -/
def HasX (P : Program) (w : World) (K : PySem.W.Frag) (mg : Str → Option Value) (base : Heap) (k : Nat) (x : Str) (ps : List Str) (dvs : List V) (sp : Sp) : Prop :=
  ∃ (f : Addr) (fd : FuncData) (ds : List Value), FnOk P w K mg base (L2.CX P w) k f fd ps sp ∧ mg x = some (.ref f) ∧ PySem.W.keepIn K (.ref f) = true ∧ Binds K fd ps ds ∧ Vals dvs ds
def HasMX (P : Program) (w : World) (K : PySem.W.Frag) (mg : Str → Option Value) (base : Heap) (k : Nat) (C : Addr) (m : Str) (ps : List Str) (dvs : List V) (sp : Sp) : Prop :=
  ∃ (f : Addr) (fd : FuncData) (ds : List Value), FnOk P w K mg base (L2.CX P w) k f fd ps sp ∧ Meth K C m f ∧ Binds K fd ps ds ∧ Vals dvs ds
theorem Df.hasX {k : Nat} {x : Str} {st : Stmt} {ps : List Str} {sp : Sp} (D : Df K mg x st ps) (ok : ∀ f fd, Fun K x x st f fd → FnOk P w K mg base (L2.CX P w) k f fd ps sp) : HasX P w K mg base k x ps [] sp := by
  obtain ⟨f, fd, F, m, b⟩ := D
  exact ⟨f, fd, [], ok f fd F, m, F.kp, b, .nil⟩
theorem Dd.hasX {k : Nat} {x : Str} {st : Stmt} {ps : List Str} {d : V} {sp : Sp} (D : Dd K mg x st ps d) (ok : ∀ f fd, FunD K x x (defArgs st) (defBody st) (defScope st) [d] [] f fd → FnOk P w K mg base (L2.CX P w) k f fd ps sp) :
    HasX P w K mg base k x ps [d] sp ∧ HasX P w K mg base k x ps [] sp := by
  obtain ⟨f, fd, F, m, ⟨ds, r, b⟩, b0⟩ := D
  exact ⟨⟨f, fd, ds, ok f fd F, m, F.kp, b, r⟩, ⟨f, fd, [], ok f fd F, m, F.kp, b0, .nil⟩⟩
/-- what the top leaves of an error's class -/
structure EC (K : PySem.W.Frag) (mg : Str → Option Value) (x : Str) (C : Addr) : Prop where
  g : mg x = some (.ref C)
  x : PySem.W.excIn K C [.type "ValueError", .type "Exception", .type "BaseException", .type "object"] "ValueError.__new__" = true
  k : PySem.W.keepIn K (.ref C) = true
  b : PySem.W.subIn K (.ref C) (.type "BaseException") = some true
  t : PySem.W.typeIn K (.ref C) = some (.type "type")
/-- a class by its name alone -/
structure EG (mg : Str → Option Value) (x : Str) (C : Addr) : Prop where
  g : mg x = some (.ref C)
/-- of which types what is no integer may be -/
inductive NoIntT : Value → Prop where
  | non : NoIntT (.type "NoneType")
  | bool : NoIntT (.type "bool")
  | str : NoIntT (.type "str")
  | flt : NoIntT (.type "float")
  | byt : NoIntT (.type "bytes")
  | list : NoIntT (.type "list")
  | tup : NoIntT (.type "tuple")
  | dict : NoIntT (.type "dict")
  | set : NoIntT (.type "set")
/-- what is no integer: any value but an int, a bool too -/
def NoInt (K : PySem.W.Frag) (H : Hp) (x : V) : Prop := ∃ t, TyX K H x t ∧ NoIntT t
theorem NoIntT.kit {t : Value} (h : NoIntT t) : (∃ i b, PySem.W.kitOne K t (.type "int") = some i ∧ PySem.W.kitOne K t (.type "bool") = some b ∧ (i = true → b = true)) := by
  cases h <;> first
    | exact ⟨false, false, kit_ty (by decide +kernel), kit_ty (by decide +kernel), fun z => by cases z⟩
    | exact ⟨true, true, kit_ty (by decide +kernel), kit_ty (by decide +kernel), fun _ => rfl⟩
section
variable {H : Hp}
theorem NoInt.of_non : NoInt K H .non := ⟨_, .base .non, .non⟩
theorem NoInt.of_bl (b : Bool) : NoInt K H (.bl b) := ⟨_, .base (.bl b), .bool⟩
theorem NoInt.of_str (s : Str) : NoInt K H (.str s) := ⟨_, .base (.str s), .str⟩
theorem NoInt.of_lst {a : Addr} {xs : List V} (e : H a = some (.lst xs)) : NoInt K H (.ref a) := ⟨_, .base (.lst e), .list⟩
theorem NoInt.of_tup {a : Addr} {xs : List V} (e : H a = some (.tup xs)) : NoInt K H (.ref a) := ⟨_, .base (.tup e), .tup⟩
theorem NoInt.of_dK {a : Addr} {kvs : List (Key × V)} (e : H a = some (.dK kvs)) : NoInt K H (.ref a) := ⟨_, .base (.dK e), .dict⟩
end
end
section
variable {X : Cx} {K : PySem.W.Frag}
theorem op_notInK (e : X.K = K) : OpR X (compareOp .NotIn) (rIn K true) := by subst e; exact op_notIn_seq
end
/-- what an error was made of stands at a; isinstance(e, X) of it -/
def rIsEX (K : PySem.W.Frag) (cls : Value) (d : Option Addr) (a : Addr) : List V → Hp → VK → Prop := fun xs H Q => ∃ D, cls = .ref D ∧ d = none ∧ ExcC K D ∧ rIsE K D a xs H Q
theorem isiE {X : Cx} {a : Addr} {cls : Value} {d : Option Addr} {oe : Obj} {pn : List (Addr × Obj)} (hz : Zc cls d oe) (hf : ∃ vs, oe.data = .fields vs) : CallR (X.suite a ((a, oe) :: pn)) (.builtin "isinstance") (rIsEX X.K cls d a) := by
  intro pins s σ H xs us Q I r h
  obtain ⟨D, rfl, rfl, hC, h⟩ := h
  exact call_isE hC hz hf pins s σ H xs us Q I r h
section
variable {X : Cx} {CX : CXT} {k : Nat} {f C : Addr} {fd : FuncData} {ps : List Str} {sp : Sp} {E : L2.St → XK} {m : Str} {pos apos : Pos} {e o : Expr} {es : List Expr} {ta : TE} {t : TA}
/-- o.m(e, ..) that may raise, the wish told at the slots of the moment -/
def tMethS (C : Addr) (m : Str) (sp : Sp) (E : L2.St → XK) (ta : TE) (t : TA) : TE := fun σ H Q => ta σ H fun x H1 => ∃ a dx fs, x = .ref a ∧ H1 a = some (.ins C dx fs) ∧ fs.lookup m = none ∧
  t σ H1 fun vs H2 => sp (x :: vs) H2 Q (E σ)
theorem pe_methS {pl : Sem Bool} (he : PE X o ta) (c : Cls X.K C) (hm : Meth X.K C m f) (F : FnOk X.prog X.w X.K X.mg X.base CX k f fd ps sp) (hr : Room k X.A) (hb : Binds X.K fd ps []) (hx : ∀ σ, PassesAt CX X σ (E σ)) (ha : PA X (e :: es) t)
    (hst : starEach (e :: es) X.env = (false, eval e X.env) :: starEach es X.env := by rfl) (hpl : (backTo pos (starEach es X.env)).any (·.1) = false := by rfl)
    (ht : eval (.Call (.Attribute o m apos) (e :: es) [] pos) X.env = (do
      let ov ← eval o X.env
      standAt apos.atName
      let (f, first) ← holding [ov] (getMethod ov m pl)
      callWith pos f first (backTo pos (starEach (e :: es) X.env)) (backToKw pos (keywordEach [] X.env))) := by rfl) :
    PE X (.Call (.Attribute o m apos) (e :: es) [] pos) (tMethS C m sp E ta t) := by
  refine ⟨fun pins s σ H Q I h => ?_⟩
  refine PySem.W.methodCall_KW (pl := pl) (thn (he.run pins s σ H _ I h) fun u s1 ⟨x, H1, I1, rx, a, dx, fs, ex, ea, l, q⟩ => ?_) ht
  subst ex
  obtain rfl : u = Value.ref a := rx
  refine getmeth_ok I1 ea c hm l ?_
  refine PySem.W.callWith_K (first := [.ref a]) (h₀ := X.base) I.ok.mod.kin hm.kp (thn (ha.run pos pins s1 σ H1 _ I1 q) fun us s2 ⟨vs, H2, I2, r, q2⟩ => ⟨I2.kIn, ?_⟩) hst hpl
  exact run_fnS (us := .ref a :: us) (vs := .ref a :: vs) F hr hb (hx σ) I2 (.cons rfl r) q2
end
/-! ### lambdas: a def whose code object is told, tables of code objects -/
section
variable {P : Program} {w : World} {K : PySem.W.Frag} {mg : Str → Option Value} {base : Heap}
/-- the name that the lambdas of the def q bear -/
def lamQ (q : Str) : Str := (q ++ ".<locals>.") ++ "<lambda>"
/-- a def as it stands behind the top, its code object told -/
structure FunC (K : PySem.W.Frag) (x : Str) (st : Stmt) (f : Addr) (fd : FuncData) (cdv : Value) : Prop where
  at_ : ∃ (oc kV doc pm ct : Value) (od an : Option Addr) (osl : Array (Option Value)),
    fd = PySem.W.fnOf x x (defArgs st) (defBody st) (defScope st) .none kV doc pm an cdv ct ∧ K.lookup f = some ⟨oc, od, .func fd, osl⟩ ∧ PySem.W.codeIn K cdv x = true
  kp : PySem.W.keepIn K (.ref f) = true
theorem funC_mk {x : Str} {st : Stmt} {f : Addr} {oc : Value} {od an : Option Addr} {osl : Array (Option Value)} {kV doc pm cdv ct : Value} (l : K.lookup f = some ⟨oc, od, .func (PySem.W.fnOf x x (defArgs st) (defBody st) (defScope st) .none kV doc pm an cdv ct), osl⟩)
    (c : PySem.W.codeIn K cdv x = true) (k : PySem.W.keepIn K (.ref f) = true) : FunC K x st f (PySem.W.fnOf x x (defArgs st) (defBody st) (defScope st) .none kV doc pm an cdv ct) cdv := ⟨⟨oc, kV, doc, pm, ct, od, an, osl, rfl, l, c⟩, k⟩
theorem FunC.fn {x : Str} {st : Stmt} {f : Addr} {fd : FuncData} {cdv : Value} (F : FunC K x st f fd cdv) : Fun K x x st f fd := by
  obtain ⟨⟨oc, kV, doc, pm, ct, od, an, osl, e1, e2, e3⟩, kp⟩ := F
  exact ⟨⟨oc, od, kV, doc, pm, an, cdv, ct, osl, e1, e2, e3⟩, kp⟩
theorem FunC.ok {x : Str} {st : Stmt} {f : Addr} {fd : FuncData} {cdv : Value} {N ps : List Str} {k : Nat} {sp : Sp} (F : FunC K x st f fd cdv) (S : FnScope N ps (defScope st)) (len : ∀ vs H Q E, sp vs H Q E → vs.length = ps.length)
    (hb : ∀ (A : Around) (outer : List Env) (s : Shared) (H : Hp) (vs : List V) (Q : VK) (E : XK), Room k (A.deeper (envOfC x (defScope st) s.heap.objs.size f cdv)) → sp vs H Q E →
      ∃ t, PSs (cxOf CX0 P w K mg base N x (defScope st) f cdv A outer s H E).nox (defBody st) t ∧ t { nx := fun _ H' => Q .non H', rt := Q } (start N vs) H) : FnOk P w K mg base CX0 (k + 1) f fd ps sp := by
  obtain ⟨⟨oc, kV, doc, pm, ct, od, an, osl, e1, e2, e3⟩, kp⟩ := F
  subst e1
  refine fn_of e2 e3 S len fun A outer s H vs Q E hr' hs' => ?_
  obtain ⟨t, h1, h2⟩ := hb A outer s H vs Q E hr' hs'
  exact ⟨t, h1.nox, h2⟩
end
theorem extN_same {H H1 : Hp} (s : Same H H1) : LamX.ExtN H H1 := fun b o e _ => s b o e
theorem ExtN.seq {K : PySem.W.Frag} {H H1 : Hp} {a : Addr} {xs : List V} (e : LamX.ExtN H H1) (h : SqL K H a xs) : SqL K H1 a xs := by
  rcases h with (h | ⟨o, h⟩) | h
  · exact .inl (.inl (e _ _ h (fun ps z => by cases z)))
  · exact .inl (.inr ⟨o, e _ _ h (fun ps z => by cases z)⟩)
  · exact .inr h
theorem Tabs.same {T : List (Addr × Str)} {H H1 : Hp} (t : LamX.Tabs T H) (s : Same H H1) : LamX.Tabs T H1 := t.ext s
/-! ### the law's own body, where no repr is under way -/
section
variable {P : Program} {w : World} {K : PySem.W.Frag} {mg mb : Str → Option Value} {base : Heap}
/-- a promise of a def that is called where no repr is under way -/
structure FnG (P : Program) (w : World) (K : PySem.W.Frag) (mg : Str → Option Value) (base : Heap) (k : Nat) (f : Addr) (fd : FuncData) (ps : List Str) (sp : Sp) : Prop where
  go : ∀ (A : Around) (outer : List Env) (s : Shared) (H : Hp) (args : Args) (us : List Value) (vs : List V) (Q : VK), A.guards = some [] → Room k A → Env0 P w K mg base A outer s H → BindsTo s fd args (ps.zip us) → Vals vs us → sp vs H Q E0 →
    codeAny (model P w) A (.call (.ref f) args) (CR CX0 outer P w H s Q E0) s
theorem FunC.okG {x : Str} {st : Stmt} {f : Addr} {fd : FuncData} {cdv : Value} {N ps : List Str} {k : Nat} {sp : Sp} (F : FunC K x st f fd cdv) (S : FnScope N ps (defScope st)) (len : ∀ vs H Q E, sp vs H Q E → vs.length = ps.length)
    (hb : ∀ (A : Around) (outer : List Env) (s : Shared) (H : Hp) (vs : List V) (Q : VK), (A.deeper (envOfC x (defScope st) s.heap.objs.size f cdv)).guards = some [] → Room k (A.deeper (envOfC x (defScope st) s.heap.objs.size f cdv)) → sp vs H Q E0 →
      ∃ t, PSs (cxOf CX0 P w K mg base N x (defScope st) f cdv A outer s H E0).nox (defBody st) t ∧ t { nx := fun _ H' => Q .non H', rt := Q } (start N vs) H) : FnG P w K mg base (k + 1) f fd ps sp := by
  obtain ⟨⟨oc, kV, doc, pm, ct, od, an, osl, e1, e2, e3⟩, kp⟩ := F
  subst e1
  constructor
  intro A outer s H args us vs Q hg hr e0 hbi hv hsp
  refine LamX.run_ofS e2 e3 S hr e0 hbi hv (len _ _ _ _ hsp) fun hr2 => ?_
  obtain ⟨t, h1, h2⟩ := hb A outer s H vs Q hg hr2 hsp
  exact ⟨t, h1.nox, h2⟩
/-- the script alone, and only where it is none of the module's own objects -/
def scriptH (K : PySem.W.Frag) (a : Addr) (vs : List Value) (ns : List Int) : Hp := fun b => if b = a ∧ K.lookup a = none then some (.frz { cls := .type "list", data := .seq vs.toArray } (.lst (ns.map V.int))) else none
theorem scriptH_some {a b : Addr} {vs : List Value} {ns : List Int} {u : HO} (h : scriptH K a vs ns b = some u) : b = a ∧ K.lookup a = none ∧ u = .frz { cls := .type "list", data := .seq vs.toArray } (.lst (ns.map V.int)) := by
  unfold scriptH at h
  split at h
  · rename_i c
    exact ⟨c.1, c.2, (Option.some.inj h).symm⟩
  · cases h
theorem scriptH_none {a b : Addr} {vs : List Value} {ns : List Int} (h : ¬ (b = a ∧ K.lookup a = none)) : scriptH K a vs ns b = none := if_neg h
/-- the state at the law's call, and what it means that the law gives True -/
theorem law_start {s₁ : Shared} {a : Addr} {vs : List Value} {ns : List Int} (KX : K.In s₁.heap) (hns : s₁.heap.Ns mainGlobals mg) (hb : s₁.heap.Ns builtinsNs mb) (hbb : ∀ x : Str, x ≠ "__name__" → mb x = bootBuiltins x) (hlim : s₁.heap.NoLimit) (hg : s₁.gens = #[])
    (ha : s₁.heap.get? a = some { cls := .type "list", data := .seq vs.toArray }) (hi : IntsAre vs ns) (hl : ns.length ≤ sizeLine) :
    Env0 P w K mg (hidT s₁.heap (scriptH K a vs ns)) PySem.callerA [] s₁ (scriptH K a vs ns) ∧ SqL K (scriptH K a vs ns) a (ns.map V.int) ∧
      ∀ (u : Value) (s' : Shared), CE [] P w (scriptH K a vs ns) s₁ (fun v _ => v = .bl true) u s' → u = .bool true ∧ PySem.OldK s₁.heap s'.heap ∧ s'.os = s₁.os ∧ AllBare s'.gens := by
  have rv := vals_ints hi
  have hok : HOk P w (scriptH K a vs ns) s₁.heap := fun b u e => by
    obtain ⟨rfl, _, rfl⟩ := scriptH_some e
    exact ⟨ha, by rw [List.length_map]; exact hl, vs, _, rv, ha⟩
  have dictN : ∀ {b : Addr} {m : Str → Option Value}, s₁.heap.Ns b m → (hidT s₁.heap (scriptH K a vs ns)).Ns b m := fun {b m} h => by
    obtain ⟨o, es, ep, e, d, r⟩ := h
    refine ⟨o, es, ep, hidT_get e (scriptH_none fun z => ?_), d, r⟩
    rw [z.1, ha] at e
    cases e
    cases d
  have kin : K.In (hidT s₁.heap (scriptH K a vs ns)) := fun b o e => hidT_get (KX b o e) (scriptH_none fun z => by
    rw [z.1, z.2] at e
    cases e)
  obtain ⟨mc, l1, l2⟩ := hlim
  refine ⟨⟨rfl, ⟨kin, dictN hns, ⟨mb, dictN hb, hbb⟩, ⟨mc, dictN l1, l2⟩⟩, fun b o e => of_hidT e, Nat.le_of_eq (hidT_size _ _), trivial, (fun b z => by cases z), hok, .of_eq hg⟩, ?_, fun u s' h => ?_⟩
  · cases hk : K.lookup a with
    | none => exact .inl (.inr ⟨{ cls := .type "list", data := .seq vs.toArray }, if_pos ⟨rfl, hk⟩⟩)
    | some o =>
      have e := KX a o hk
      rw [ha] at e
      cases e
      exact .inr ⟨_, vs.toArray, _, hk, rfl, rfl, rfl, by rw [List.size_toArray, hi.length]; exact hl, by simpa using rv⟩
  · obtain ⟨v, H', e1, e2, un, ok2, r, q⟩ := h
    cases q
    refine ⟨r, PySem.OldK.of_keep fun b o e => ?_, e1, e2⟩
    by_cases c : b = a ∧ K.lookup a = none
    · obtain ⟨rfl, c2⟩ := c
      have z : scriptH K b vs ns b = some (.frz { cls := .type "list", data := .seq vs.toArray } (.lst (ns.map V.int))) := if_pos ⟨rfl, c2⟩
      rw [ha] at e
      cases e
      exact (ok2 _ _ (un.frzs _ _ _ z)).1
    · exact un.keep b o e (scriptH_none c) (fun z => by cases z) (fun z => by cases z)
end
/-- the end of a law whose body asks what is under way -/
theorem walk_guard {l : PySem.W.OpenLaw} {n k : Nat} {q : Program} {loose : List Str} {XP : (Str → Option Value) → Heap → Prop} {YP : World → Heap → Prop} {d : DefRec} {K : Params → PySem.W.Frag} {x : Str}
    (hn : l.most = some n) (hn2 : n ≤ sizeLine) (hdf : d.params.defaults = []) (hr : Room k PySem.callerA) (hY : ∀ (w : World) (h : Heap), YP w h → (K w.params).In h)
    (F : ∀ (w : World) (mg : Str → Option Value) (fa : Addr) (h : Heap), (K w.params).In h → h.Ns mainGlobals mg → mg d.name = some (.ref fa) → ∃ (fd : FuncData) (sp : Sp), (∀ (s : Shared) (u : Value), BindsTo s fd ⟨[u], []⟩ [(x, u)]) ∧
      (∀ (H : Hp) (a : Addr) (ns : List Int), ns.length ≤ n → SqL (K w.params) H a (ns.map V.int) → sp [.ref a] H (fun v _ => v = .bl true) E0) ∧ ∀ base : Heap, (K w.params).In base → base.Ns mainGlobals mg → FnG l.prog w (K w.params) mg base k fa fd [x] sp) :
    PySem.W.WalkO q loose XP YP l.row.toRowW d [] (fun f vs => PySem.call f vs) := by
  apply Att.attach_call hn hdf
  intro w s₀ s₁ mg mb fa o pm cd doc a vs ns G Y _ _ _ hmg hobj hints hlen hg
  obtain ⟨fd, sp, b1, b2, b3⟩ := F w mg fa s₁.heap (hY w _ Y) G.T.g hmg
  obtain ⟨e0, hS, fin⟩ := law_start (P := l.prog) (w := w) (hY w _ Y) G.T.g G.T.b G.T.builtins G.T.nolimit hg hobj hints (Nat.le_trans hlen hn2)
  refine codeAny_mono ((b3 _ e0.mod.kin e0.mod.glob).go PySem.callerA [] s₁ _ ⟨[.ref a], []⟩ [.ref a] [.ref a] (fun v _ => v = .bl true) rfl hr e0 (b1 s₁ (.ref a)) (.cons rfl .nil) (b2 _ a ns hlen hS)) fun r s' h => ?_
  match r, h with
  | .ok (.ret u), h =>
    obtain ⟨rfl, h2⟩ := fin u s' h
    exact ⟨rfl, h2⟩
section
variable {X : Cx}
/-- repr(x) of data, where no repr is under way -/
theorem call_reprG (hg : X.A.guards = some []) (hu : X.A.units + 64 < cLine) : CallR X (.builtin "repr") (fun xs H Q => ∃ (a : Addr) (d : PyData), xs = [.ref a] ∧ Dp X.K H (.ref a) d ∧ d.depth ≤ 50 ∧ d.showable = true ∧ d.hasDict = false ∧ d.shown.length ≤ sizeLine ∧ Q (.str d.shown) H) := by
  intro pins s σ H xs us Q I r h
  obtain ⟨a, d, rfl, hd, h1, h2, h3, h4, q⟩ := h
  rw [Vals.ref1 r]
  obtain ⟨as, rd⟩ := Dp.reads I d (.ref a) (.ref a) hd rfl
  exact PySem.repr_of_reads' rd h2 (fun z => by rw [h3] at z; cases z) hg (by omega) (fun b o e => e) (fun h' u tk hk => ⟨.str d.shown, H, I.kept hk, ⟨u, rfl⟩, q⟩) h4
end
/-! ### the end of a law that makes lambdas and asks what is under way -/
/-- the script and the tables of lambdas, none of them the module's own -/
def lawH (K : PySem.W.Frag) (a : Addr) (vs : List Value) (ns : List Int) (tbs : List Addr) : Hp := fun b => if b ∈ tbs then some (.tbl #[]) else scriptH K a vs ns b
theorem lawH_tab {K : PySem.W.Frag} {a b : Addr} {vs : List Value} {ns : List Int} {tbs : List Addr} (h : b ∈ tbs) : lawH K a vs ns tbs b = some (.tbl #[]) := by
  unfold lawH
  rw [if_pos h]
theorem lawH_not {K : PySem.W.Frag} {a b : Addr} {vs : List Value} {ns : List Int} {tbs : List Addr} (h : b ∉ tbs) : lawH K a vs ns tbs b = scriptH K a vs ns b := by
  unfold lawH
  rw [if_neg h]
section
variable {P : Program} {w : World} {K : PySem.W.Frag} {mg mb : Str → Option Value}
theorem law_startT {s₁ : Shared} {a : Addr} {vs : List Value} {ns : List Int} {tbs : List Addr} {cs : List (Addr × Addr)} (etbs : tbs = cs.map (·.2)) (KX : K.In s₁.heap) (hns : s₁.heap.Ns mainGlobals mg) (hb : s₁.heap.Ns builtinsNs mb) (hbb : ∀ x : Str, x ≠ "__name__" → mb x = bootBuiltins x) (hlim : s₁.heap.NoLimit) (hg : s₁.gens = #[])
    (hT : ∀ p ∈ cs, s₁.heap.get? p.2 = some { cls := .none, data := .fields #[] }) (nT : ∀ p ∈ cs, K.lookup p.2 = none) (CH : ∀ p ∈ cs, PySem.W.CodeHd s₁.heap p.1 p.2)
    (hbm : ∃ (bm : Addr) (ob : Obj), mg "__builtins__" = some (.ref bm) ∧ bm ≠ builtinsNs ∧ s₁.heap.get? bm = some ob ∧ ob.cls = .type "module" ∧ ob.dict = some builtinsNs ∧ ob.data = .plain)
    (ha : s₁.heap.get? a = some { cls := .type "list", data := .seq vs.toArray }) (hi : IntsAre vs ns) (hl : ns.length ≤ sizeLine) :
    Env0 P w K mg (hidT s₁.heap (lawH K a vs ns tbs)) PySem.callerA [] s₁ (lawH K a vs ns tbs) ∧ SqL K (lawH K a vs ns tbs) a (ns.map V.int) ∧ (∀ p ∈ cs, LamX.TabB (hidT s₁.heap (lawH K a vs ns tbs)) mg p.1 p.2) ∧
      ∀ (u : Value) (s' : Shared), CE [] P w (lawH K a vs ns tbs) s₁ (fun v _ => v = .bl true) u s' → u = .bool true ∧ PySem.OldK s₁.heap s'.heap ∧ s'.os = s₁.os ∧ AllBare s'.gens := by
  have rv := vals_ints hi
  have tabs : ∀ {b : Addr}, b ∈ tbs → ∃ c, (c, b) ∈ cs := fun {b} h => by
    rw [etbs] at h
    obtain ⟨⟨c, t⟩, hp, rfl⟩ := List.mem_map.mp h
    exact ⟨c, hp⟩
  have tobj : ∀ {b : Addr}, b ∈ tbs → s₁.heap.get? b = some { cls := .none, data := .fields #[] } := fun {b} h => by
    obtain ⟨c, hp⟩ := tabs h
    exact hT _ hp
  have aOut : a ∉ tbs := fun h => by
    have z := tobj h
    rw [ha] at z
    cases z
  -- what is no list and no table is hidden from the law
  have free : ∀ {b : Addr} {o : Obj}, s₁.heap.get? b = some o → o.cls ≠ .type "list" → o.cls ≠ .none → lawH K a vs ns tbs b = none := fun {b o} e h1 h2 => by
    by_cases c : b ∈ tbs
    · have z := tobj c
      rw [e] at z
      cases z
      exact absurd rfl h2
    · rw [lawH_not c]
      refine scriptH_none fun z => ?_
      rw [z.1, ha] at e
      cases e
      exact h1 rfl
  have dictN : ∀ {b : Addr} {m : Str → Option Value}, s₁.heap.Ns b m → (hidT s₁.heap (lawH K a vs ns tbs)).Ns b m := fun {b m} h => by
    obtain ⟨o, es, ep, e, d, r⟩ := h
    refine ⟨o, es, ep, hidT_get e ?_, d, r⟩
    by_cases c : b ∈ tbs
    · have z := tobj c
      rw [e] at z
      cases z
      cases d
    · rw [lawH_not c]
      refine scriptH_none fun z => ?_
      rw [z.1, ha] at e
      cases e
      cases d
  have kin : K.In (hidT s₁.heap (lawH K a vs ns tbs)) := fun b o e => hidT_get (KX b o e) (by
    by_cases c : b ∈ tbs
    · obtain ⟨c2, hp⟩ := tabs c
      have z := nT _ hp
      rw [e] at z
      cases z
    · rw [lawH_not c]
      refine scriptH_none fun z => ?_
      rw [z.1, z.2] at e
      cases e)
  have hok : HOk P w (lawH K a vs ns tbs) s₁.heap := fun b u e => by
    by_cases c : b ∈ tbs
    · rw [lawH_tab c] at e
      cases e
      exact tobj c
    · rw [lawH_not c] at e
      obtain ⟨rfl, _, rfl⟩ := scriptH_some e
      exact ⟨ha, by rw [List.length_map]; exact hl, vs, _, rv, ha⟩
  obtain ⟨mc, l1, l2⟩ := hlim
  refine ⟨⟨rfl, ⟨kin, dictN hns, ⟨mb, dictN hb, hbb⟩, ⟨mc, dictN l1, l2⟩⟩, fun b o e => of_hidT e, Nat.le_of_eq (hidT_size _ _), trivial, (fun b z => by cases z), hok, .of_eq hg⟩, ?_, fun p hp => ⟨?_, ?_, fun z => ?_⟩, fun u s' h => ?_⟩
  · cases hk : K.lookup a with
    | none =>
      refine .inl (.inr ⟨{ cls := .type "list", data := .seq vs.toArray }, ?_⟩)
      rw [lawH_not aOut]
      exact if_pos ⟨rfl, hk⟩
    | some o =>
      have e := KX a o hk
      rw [ha] at e
      cases e
      exact .inr ⟨_, vs.toArray, _, hk, rfl, rfl, rfl, by rw [List.size_toArray, hi.length]; exact hl, by simpa using rv⟩
  · have z := CH p hp
    unfold PySem.W.CodeHd at z ⊢
    obtain ⟨o, us, fi, x1, x2, x3, x4, x5, x6, g1, g2, rest⟩ := z
    refine ⟨o, us, fi, x1, x2, x3, x4, x5, x6, hidT_get g1 (free g1 ?_ ?_), g2, rest⟩
    · rw [g2]
      decide
    · rw [g2]
      intro z
      cases z
  · obtain ⟨bm, ob, g1, g2, g3, g4, g5, g6⟩ := hbm
    refine ⟨bm, ob, g1, g2, fun z => ?_, fun z => ?_, hidT_get g3 (free g3 ?_ ?_), g4, g5, g6⟩
    · obtain ⟨o, es, ep, e, d, _⟩ := hns
      rw [← z, g3] at e
      cases e
      rw [g6] at d
      cases d
    · have y := hT p hp
      rw [← z, g3] at y
      cases y
      cases g6
    · rw [g4]
      decide
    · rw [g4]
      intro z
      cases z
  · obtain ⟨o, es, ep, e, d, _⟩ := hns
    have y := hT p hp
    rw [← z, e] at y
    cases y
    cases d
  · obtain ⟨v, H', e1, e2, un, ok2, r, q⟩ := h
    cases q
    have keep : ∀ b o, b ∉ tbs → s₁.heap.get? b = some o → s'.heap.get? b = some o := fun b o n e => by
      by_cases c : b = a ∧ K.lookup a = none
      · obtain ⟨rfl, c2⟩ := c
        have z : lawH K b vs ns tbs b = some (.frz { cls := .type "list", data := .seq vs.toArray } (.lst (ns.map V.int))) := by
          rw [lawH_not n]
          exact if_pos ⟨rfl, c2⟩
        rw [ha] at e
        cases e
        exact (ok2 _ _ (un.frzs _ _ _ z)).1
      · refine un.keep b o e ?_ (fun z => by cases z) (fun z => by cases z)
        rw [lawH_not n]
        exact scriptH_none c
    have grown : ∀ {b : Addr}, b ∈ tbs → ∃ more : Array Value, s'.heap.get? b = some { cls := .none, data := .fields more } := fun {b} h => by
      obtain ⟨more, z⟩ := un.tbls b #[] (lawH_tab h)
      exact ⟨_, ok2 b _ z⟩
    refine ⟨r, ⟨fun b o e => ?_, fun b o e => ?_⟩, e1, e2⟩
    · by_cases c : b ∈ tbs
      · obtain ⟨more, hm⟩ := grown c
        obtain ⟨c2, hp⟩ := tabs c
        have y := tobj c
        rw [e] at y
        cases y
        exact .inr (.inl ⟨((CH _ hp).tab (hT _ hp)).isCodeTable, rfl, #[], more, rfl, by rw [hm, Array.empty_append]⟩)
      · exact .inl (keep b o c e)
    · by_cases c : b ∈ tbs
      · obtain ⟨more, hm⟩ := grown c
        exact ⟨_, hm⟩
      · exact ⟨o, keep b o c e⟩
end
/-- the end of such a law -/
theorem walk_guardT {l : PySem.W.OpenLaw} {n k : Nat} {q : Program} {loose : List Str} {XP : (Str → Option Value) → Heap → Prop} {YP : World → Heap → Prop} {d : DefRec} {K : Params → PySem.W.Frag} {x : Str}
    (hn : l.most = some n) (hn2 : n ≤ sizeLine) (hdf : d.params.defaults = []) (hr : Room k PySem.callerA) (hY : ∀ (w : World) (h : Heap), YP w h → (K w.params).In h)
    (F : ∀ (w : World) (mg : Str → Option Value) (fa : Addr) (h : Heap), YP w h → (K w.params).In h → h.Ns mainGlobals mg → mg d.name = some (.ref fa) → ∃ (fd : FuncData) (cs : List (Addr × Addr)) (sp : Sp), (∀ p ∈ cs, h.get? p.2 = some { cls := .none, data := .fields #[] }) ∧ (∀ p ∈ cs, (K w.params).lookup p.2 = none) ∧ (∀ p ∈ cs, PySem.W.CodeHd h p.1 p.2) ∧
      (∀ (s : Shared) (u : Value), BindsTo s fd ⟨[u], []⟩ [(x, u)]) ∧ (∀ (H : Hp) (a : Addr) (ns : List Int), ns.length ≤ n → (∀ p ∈ cs, H p.2 = some (.tbl #[])) → SqL (K w.params) H a (ns.map V.int) → sp [.ref a] H (fun v _ => v = .bl true) E0) ∧
      ∀ base : Heap, (K w.params).In base → base.Ns mainGlobals mg → (∀ p ∈ cs, LamX.TabB base mg p.1 p.2) → FnG l.prog w (K w.params) mg base k fa fd [x] sp) :
    PySem.W.WalkO q loose XP YP l.row.toRowW d [] (fun f vs => PySem.call f vs) := by
  apply Att.attach_call hn hdf
  intro w s₀ s₁ mg mb fa o pm cd doc a vs ns G Y _ _ _ hmg hobj hints hlen hg
  obtain ⟨fd, cs, sp, hT, nT, CH, b1, b2, b3⟩ := F w mg fa s₁.heap Y (hY w _ Y) G.T.g hmg
  obtain ⟨e0, hS, TB, fin⟩ := law_startT (P := l.prog) (w := w) (tbs := cs.map (·.2)) rfl (hY w _ Y) G.T.g G.T.b G.T.builtins G.T.nolimit hg hT nT CH G.T.bmain hobj hints (Nat.le_trans hlen hn2)
  refine codeAny_mono ((b3 _ e0.mod.kin e0.mod.glob TB).go PySem.callerA [] s₁ _ ⟨[.ref a], []⟩ [.ref a] [.ref a] (fun v _ => v = .bl true) rfl hr e0 (b1 s₁ (.ref a)) (.cons rfl .nil) (b2 _ a ns hlen (fun p hp => lawH_tab (List.mem_map.mpr ⟨p, hp, rfl⟩)) hS)) fun r s' h => ?_
  match r, h with
  | .ok (.ret u), h =>
    obtain ⟨rfl, h2⟩ := fin u s' h
    exact ⟨rfl, h2⟩
/-! ### repr of data in which empty dicts may stand -/
section
mutual
inductive DpE (K : PySem.W.Frag) (H : Hp) : V → PyData → Prop
  | flat {v : V} {d : PyData} : Dp K H v d → d.hasDict = false → DpE K H v d
  | dict0 {a : Addr} : H a = some (.dK []) → DpE K H (.ref a) (.dict [])
  | lst {a : Addr} {xs : List V} {ds : List PyData} : SqL K H a xs → DpEAll K H xs ds → DpE K H (.ref a) (.list ds)
  | tup {a : Addr} {xs : List V} {ds : List PyData} : SqT K H a xs → DpEAll K H xs ds → DpE K H (.ref a) (.tuple ds)
inductive DpEAll (K : PySem.W.Frag) (H : Hp) : List V → List PyData → Prop
  | nil : DpEAll K H [] []
  | cons {v : V} {vs : List V} {d : PyData} {ds : List PyData} : DpE K H v d → DpEAll K H vs ds → DpEAll K H (v :: vs) (d :: ds)
end
/-- a thing whose text is known -/
def Rp (P : Program) (w : World) (h : Heap) (u : Value) (d : PyData) : Prop := ∃ (as bs : List Addr), Reads h u d as ∧ ReadAtMost h d.depth bs ∧ ReprK P w bs h d.depth u d.shown
def RpAll (P : Program) (w : World) (h : Heap) (us : List Value) (ds : List PyData) : Prop := ∃ (as bs : List Addr), ReadsAll h us ds as ∧ ReadAtMost h (PyData.depthAll ds) bs ∧ ReprAllK P w bs h (PyData.depthAll ds) us (PyData.shownAll ds)
variable {X : Cx} {pins : List (Addr × Obj)} {σ : L2.St} {H : Hp} {s : Shared}
theorem rp_cons {P : Program} {w : World} {h : Heap} {u : Value} {us : List Value} {d : PyData} {ds : List PyData} : Rp P w h u d → RpAll P w h us ds → RpAll P w h (u :: us) (d :: ds) := by
  rintro ⟨as1, bs1, p1, p2, p3⟩ ⟨as2, bs2, q1, q2, q3⟩
  have l1 : d.depth ≤ PyData.depthAll (d :: ds) := by
    show d.depth ≤ max d.depth (PyData.depthAll ds)
    omega
  have l2 : PyData.depthAll ds ≤ PyData.depthAll (d :: ds) := by
    show PyData.depthAll ds ≤ max d.depth (PyData.depthAll ds)
    omega
  exact ⟨as1 ++ as2, bs1 ++ bs2, .cons p1 q1, (p2.mono l1).append (q2.mono l2), .cons ((p3.more fun b m => List.mem_append_left _ m).level_le l1) (q3.more_le (fun b m => List.mem_append_right _ m) l2)⟩
theorem size_lst {ds : List PyData} {z : Nat} (h : (PyData.list ds).shown.length ≤ z) : ∀ t ∈ PyData.shownAll ds, t.length ≤ z := fun t ht => by
  have y := listText_mem_le ht
  have e : (PyData.list ds).shown = listText (PyData.shownAll ds) := by simp only [PyData.shown]
  rw [e] at h
  omega
theorem size_tup {ds : List PyData} {z : Nat} (h : (PyData.tuple ds).shown.length ≤ z) : ∀ t ∈ PyData.shownAll ds, t.length ≤ z := fun t ht => by
  have y := tupleText_mem_le ht
  have e : (PyData.tuple ds).shown = tupleText (PyData.shownAll ds) := by simp only [PyData.shown]
  rw [e] at h
  omega
mutual
theorem DpE.rp (I : Inv X pins σ H s) : ∀ (d : PyData) (v : V) (u : Value), DpE X.K H v d → RelV v u → d.showable = true → d.shown.length ≤ sizeLine → Rp X.prog X.w s.heap u d
  | d, v, u, .flat hd hn, r, hs, hz => by
    obtain ⟨as, rd⟩ := Dp.reads I d v u hd r
    obtain ⟨bs, q1, q2⟩ := ReprK.of_reads (prog := X.prog) (w := X.w) rd hs (fun z => by rw [hn] at z; cases z) hz
    exact ⟨as, bs, rd, q1, q2⟩
  | _, _, u, .dict0 (a := a) ha, r, _, _ => by
    cases r
    obtain ⟨_, nsys, vs, kv, o, es, ep, g1, g2, g3, _, g4, _⟩ := dk_of I.hok ha
    cases kv
    have e0 : es = #[] := by
      cases es with
      | mk l =>
        cases l with
        | nil => rfl
        | cons x l => cases g4
    subst e0
    have rd : Reads s.heap (.ref a) (.dict []) _ := .dict g1 g2.1 g3 .nil .nil
    refine ⟨_, [a], rd, fun b m => ?_, ?_⟩
    · rw [List.mem_singleton.mp m]
      exact ⟨_, _, rd, Nat.le_refl _⟩
    · exact ReprK.dict (as := []) (ps := []) g1 g2.1 g3 nsys (by simp) .nil
  | _, _, u, .lst (a := a) (xs := xs) (ds := ds) hl ha, r, hs, hz => by
    cases r
    obtain ⟨us, rv, ⟨o, n, g1, g2, _, g3⟩, _⟩ := I.list hl
    obtain ⟨as, bs, p1, p2, p3⟩ := DpEAll.rp I ds xs us ha rv (by simpa only [PyData.showable] using hs) (size_lst hz)
    have rd : Reads s.heap (.ref a) (.list ds) _ := .list g1 g2 g3 p1
    have deep : PyData.depthAll ds < (PyData.list ds).depth := by
      simp only [PyData.depth]
      omega
    have out := not_mem_of_deeper rd deep p2
    refine ⟨_, a :: bs, rd, .cons rd (Nat.le_of_lt deep) p2, ?_⟩
    cases us with
    | nil =>
      cases p1
      exact ReprK.listEmpty g1 g2 g3
    | cons y ys =>
      have lens : (PyData.shownAll ds).length = (y :: ys).toArray.size := by
        rw [List.size_toArray]
        exact p3.length_eq
      exact ReprK.list g1 g2 g3 out lens fun i z e => p3.item i z (by rw [List.getElem?_toArray] at e; exact e)
  | _, _, u, .tup (a := a) (xs := xs) (ds := ds) hl ha, r, hs, hz => by
    cases r
    obtain ⟨us, rv, ⟨o, g1, g2, n, g3⟩, _⟩ := I.tuple hl
    obtain ⟨as, bs, p1, p2, p3⟩ := DpEAll.rp I ds xs us ha rv (by simpa only [PyData.showable] using hs) (size_tup hz)
    have rd : Reads s.heap (.ref a) (.tuple ds) _ := .tuple g1 g2 g3 p1
    have deep : PyData.depthAll ds < (PyData.tuple ds).depth := by
      simp only [PyData.depth]
      omega
    have out := not_mem_of_deeper rd deep p2
    exact ⟨_, a :: bs, rd, .cons rd (Nat.le_of_lt deep) p2, ReprK.tuple g1 g2 g3 out p3⟩
theorem DpEAll.rp (I : Inv X pins σ H s) : ∀ (ds : List PyData) (vs : List V) (us : List Value), DpEAll X.K H vs ds → Vals vs us → PyData.showableAll ds = true → (∀ t ∈ PyData.shownAll ds, t.length ≤ sizeLine) → RpAll X.prog X.w s.heap us ds
  | _, _, _, .nil, r, _, _ => by
    cases r
    exact ⟨[], [], .nil, (fun b m => by cases m), .nil⟩
  | _, _, _, .cons h1 h2, r, hs, hz => by
    cases r with
    | cons r1 r2 =>
      have both := hs
      simp only [PyData.showableAll, Bool.and_eq_true] at both
      have hz1 := hz
      simp only [PyData.shownAll] at hz1
      exact rp_cons (DpE.rp I _ _ _ h1 r1 both.1 (hz1 _ (List.mem_cons_self ..))) (DpEAll.rp I _ _ _ h2 r2 both.2 fun t m => hz1 t (List.mem_cons_of_mem _ m))
end
/-- repr(x) of a list that is not empty, where no repr is under way -/
theorem call_reprE (hg : X.A.guards = some []) (hu : X.A.units + 64 < cLine) : CallR X (.builtin "repr") (fun xs H Q => ∃ (a : Addr) (ys : List V) (ds : List PyData), xs = [.ref a] ∧ SqL X.K H a ys ∧ ys ≠ [] ∧ DpEAll X.K H ys ds ∧ (PyData.list ds).depth ≤ 50 ∧ (PyData.list ds).showable = true ∧ (PyData.list ds).shown.length ≤ sizeLine ∧ Q (.str (PyData.list ds).shown) H) := by
  intro pins s σ H xs us Q I r h
  obtain ⟨a, ys, ds, rfl, hl, hne, ha, h1, h2, h4, q⟩ := h
  rw [Vals.ref1 r]
  obtain ⟨us, rv, ⟨o, n, g1, g2, _, g3⟩, _⟩ := I.list hl
  obtain ⟨as, bs, p1, p2, p3⟩ := DpEAll.rp I ds ys us ha rv (by simpa only [PyData.showable] using h2) (size_lst h4)
  have rd : Reads s.heap (.ref a) (.list ds) _ := .list g1 g2 g3 p1
  have deep : PyData.depthAll ds < (PyData.list ds).depth := by
    simp only [PyData.depth]
    omega
  have out := not_mem_of_deeper rd deep p2
  have et : (PyData.list ds).shown = listText (PyData.shownAll ds) := by simp only [PyData.shown]
  rw [et] at q h4
  cases us with
  | nil =>
    cases rv
    exact absurd rfl hne
  | cons y zs =>
    have lens : (PyData.shownAll ds).length = (y :: zs).toArray.size := by
      rw [List.size_toArray]
      exact p3.length_eq
    refine call_repr_slot (by omega) ⟨o, g1, g2⟩ PySem.F.slot_list_repr.toG ?_
    exact call_list_reprK g1 g2 g3 out lens (fun i z e => p3.item i z (by rw [List.getElem?_toArray] at e; exact e)) hg (fun b _ => Clear.nil b) (by show X.A.units + 1 + (PyData.depthAll ds + 1) < cLine; omega) (fun b o e => e) (fun h' u tk hk => ⟨_, _, rfl, ⟨.str _, H, I.kept hk, ⟨u, rfl⟩, q⟩⟩) h4
end
/-! ### sorted(xs) of data that are alike: tuples, lists, numbers, texts -/
def rSortD (K : PySem.W.Frag) : List V → Hp → VK → Prop := fun vs H Q => ∃ (a : Addr) (bs : List (V × PyData)), vs = [V.ref a] ∧ SqL K H a (bs.map (·.1)) ∧ (∀ z ∈ bs, Dp K H z.1 z.2) ∧ PySem.W.AllAlike (bs.map (·.2)) ∧ PySem.W.Sortable (bs.map (·.2)) ∧ (∀ z ∈ bs, z.2.depth ≤ 50) ∧
  ∀ p, H p = none → Q (.ref p) (upd H p (.lst ((bs.mergeSort (PySem.W.dataLe false (·.2))).map (·.1))))
section
variable {X : Cx}
theorem each_vals : ∀ {bs : List (V × PyData)} {us : List Value}, Vals (bs.map (·.1)) us → PySem.W.EachIs (fun (v : Value) (z : V × PyData) => RelV z.1 v) us bs
  | [], _, r => by
    cases r
    exact .nil
  | z :: bs, _, r => by
    cases r with
    | cons h t => exact .cons h (each_vals t)
theorem vals_each : ∀ {bs : List (V × PyData)} {us : List Value}, PySem.W.EachIs (fun (v : Value) (z : V × PyData) => RelV z.1 v) us bs → Vals (bs.map (·.1)) us
  | _, _, .nil => .nil
  | _, _, .cons h t => .cons h (vals_each t)
theorem each_reads {pins : List (Addr × Obj)} {σ : L2.St} {H : Hp} {s : Shared} (I : Inv X pins σ H s) : ∀ {bs : List (V × PyData)} {us : List Value}, Vals (bs.map (·.1)) us → (∀ z ∈ bs, Dp X.K H z.1 z.2) → PySem.W.EachIs (fun (v : Value) (z : V × PyData) => ∃ as, Reads s.heap v z.2 as) us bs
  | [], _, r, _ => by
    cases r
    exact .nil
  | z :: bs, _, r, h => by
    cases r with
    | cons h1 t => exact .cons (Dp.reads I z.2 z.1 _ (h z List.mem_cons_self) h1) (each_reads I t fun y hy => h y (List.mem_cons_of_mem _ hy))
theorem cr_sortD (hu : X.A.units + 64 < cLine) : CallR X (.builtin "sorted") (rSortD X.K) := by
  intro pins s σ H xs us Q I r h
  obtain ⟨a, bs, rfl, hs, hd, hal, hk, hdep, q⟩ := h
  obtain rfl := Vals.ref1 r
  obtain ⟨its, rv, hl, hz⟩ := I.list hs
  refine PySem.W.sorted_data (bs := bs) (enc := fun z => z.2) (R := fun (v : Value) (z : V × PyData) => RelV z.1 v) hl.isList (each_vals rv) (each_reads I rv hd) hal hk (by rw [List.length_map] at hz; exact hz) (fun z hz' => by have := hdep z hz'; omega) fun out h1 h2 => ?_
  obtain ⟨ep, he'⟩ := PyProof.Rows.sortedAll_at s.heap its out.toArray
  have rv2 := vals_each h2
  have hlen : ((bs.mergeSort (PySem.W.dataLe false (·.2))).map (·.1)).length ≤ sizeLine := by
    rw [List.length_map, List.length_mergeSort]
    rw [List.length_map] at hz
    exact hz
  exact ⟨.ref _, upd H (s.heap.objs.size + 1) (.lst ((bs.mergeSort (PySem.W.dataLe false (·.2))).map (·.1))), I.laid (t' := s.toks) (fun _ _ => PyProof.Rows.sortedAll_old) (Nat.le_succ _) ⟨hlen, out, ep, rv2, he'⟩, rfl, q _ (I.hok.fresh (Nat.le_succ _))⟩
end
section
variable {X : Cx} {K : PySem.W.Frag}
theorem sortDK (e : X.K = K) (hu : X.A.units + 64 < cLine) : CallR X (.builtin "sorted") (rSortD K) := by subst e; exact cr_sortD hu
end
/-! ### len(set(xs)), xs any list of whole numbers -/
section
variable {ns : List Int}
theorem met_any : ∀ (i : Nat), i ≤ ns.length → ∀ x : Int, (PyProof.Rows.firstMet (fun i => ns.getD i 0) i).any (· == x) = (ns.take i).any (· == x)
  | 0, _, x => rfl
  | i + 1, h, x => by
    have hi : i < ns.length := h
    have e1 : ns[i]? = some (ns.getD i 0) := by
      rw [List.getD_eq_getElem?_getD, List.getElem?_eq_getElem hi]
      rfl
    have ih := met_any i (by omega)
    rw [PyProof.Rows.firstMet_succ, List.take_add_one, e1]
    unfold PyProof.Rows.step_dedup
    have last : ([ns.getD i 0] : List Int).any (· == x) = (ns.getD i 0 == x) := by
      rw [List.any_cons, List.any_nil, Bool.or_false]
    split
    · rename_i c
      rw [ih, List.any_append]
      rw [ih (ns.getD i 0)] at c
      show (ns.take i).any (· == x) = ((ns.take i).any (· == x) || ([ns.getD i 0] : List Int).any (· == x))
      rw [last]
      cases hx : (ns.getD i 0 == x) with
      | false => rw [Bool.or_false]
      | true =>
        rw [← beq_iff_eq.mp hx, c]
        rfl
    · rw [List.any_append, List.any_append, ih]
      rfl
theorem met_len : ∀ (i : Nat), i ≤ ns.length → (PyProof.Rows.firstMet (fun i => ns.getD i 0) i).length ≤ i ∧ ((ns.take i).Nodup → (PyProof.Rows.firstMet (fun i => ns.getD i 0) i).length = i) ∧ (¬ (ns.take i).Nodup → (PyProof.Rows.firstMet (fun i => ns.getD i 0) i).length < i)
  | 0, _ => ⟨Nat.le_refl _, fun _ => rfl, fun h => absurd (by rw [List.take_zero]; exact List.Pairwise.nil) h⟩
  | i + 1, h => by
    have hi : i < ns.length := h
    obtain ⟨h1, h2, h3⟩ := met_len i (by omega)
    have e1 : ns[i]? = some (ns.getD i 0) := by
      rw [List.getD_eq_getElem?_getD, List.getElem?_eq_getElem hi]
      rfl
    have ha := met_any (ns := ns) i (by omega) (ns.getD i 0)
    have ht : ns.take (i + 1) = ns.take i ++ [ns.getD i 0] := by
      rw [List.take_add_one, e1]
      rfl
    have hn : (ns.take i ++ [ns.getD i 0]).Nodup ↔ (ns.take i).Nodup ∧ ns.getD i 0 ∉ ns.take i := by
      rw [List.nodup_append]
      constructor
      · rintro ⟨a1, _, a3⟩
        exact ⟨a1, fun z => a3 _ z _ (List.mem_singleton.mpr rfl) rfl⟩
      · rintro ⟨a1, a2⟩
        refine ⟨a1, List.nodup_cons.mpr ⟨by simp, List.Pairwise.nil⟩, fun x hx y hy e => a2 ?_⟩
        rw [List.mem_singleton.mp hy] at e
        rw [← e]
        exact hx
    rw [PyProof.Rows.firstMet_succ, ht]
    unfold PyProof.Rows.step_dedup
    have hm : (ns.take i).any (· == ns.getD i 0) = true ↔ ns.getD i 0 ∈ ns.take i := by
      rw [List.any_eq_true]
      constructor
      · rintro ⟨y, hy, e⟩
        rw [← beq_iff_eq.mp e]
        exact hy
      · intro z
        exact ⟨_, z, beq_self_eq_true _⟩
    split
    · rename_i c
      rw [ha] at c
      have c2 := hm.mp c
      exact ⟨by omega, fun z => absurd c2 (hn.mp z).2, fun _ => by omega⟩
    · rename_i c
      rw [ha] at c
      have c2 : ns.getD i 0 ∉ ns.take i := fun z => c (hm.mpr z)
      rw [List.length_append, List.length_singleton]
      refine ⟨by omega, fun z => by rw [h2 (hn.mp z).1], fun z => ?_⟩
      have := h3 fun y => z (hn.mpr ⟨y, c2⟩)
      omega
end
def tLenSetN (K : PySem.W.Frag) (ta : TE) : TE := fun σ H Q => ta σ H fun x H1 => ∃ (l : Addr) (ns : List Int), x = .ref l ∧ SqL K H1 l (ns.map V.int) ∧ ns.length ≤ 4000 ∧ ∀ c : Nat, (ns.Nodup → c = ns.length) → (¬ ns.Nodup → c < ns.length) → Q (.int (c : Nat)) H1
theorem pe_lenSetN {X : Cx} {a : Expr} {ta : TE} {p p2 q pos : Pos} (hg : Gl X "len") (hm : X.mg "len" = none) (hg2 : Gl X "set") (hm2 : X.mg "set" = none) (ha : PE X a ta) (hc : X.calm = true := by rfl)
    (na : starEach [a] X.env = (false, eval a X.env) :: starEach [] X.env := by rfl) : PE X (.Call (.Name "len" p) [.Call (.Name "set" p2) [a] [] q] [] pos) (tLenSetN X.K ta) := by
  constructor
  intro pins s σ H Q I h
  refine Call_ (ld_blt I hg hm boot_len (PyProof.Rows.callWith_builtin1 (PyProof.Rows.args_cons (Call_ (ld_blt I hg2 hm2 boot_set ?_)) rfl) rfl rfl))
  refine PyProof.Rows.callWith_type1 (PyProof.Rows.args_cons (thn (ha.run pins s σ H _ I h) fun v s1 hv => PyProof.Rows.args_nil ?_) na) na rfl
  obtain ⟨x, H1, I1, r1, l, ns, e, hq, hl, q1⟩ := hv
  subst e
  cases r1
  obtain ⟨us, r, pl, _⟩ := I1.list hq
  have sz : us.toArray.size = ns.length := by
    have z := r.length
    rw [List.length_map] at z
    rw [List.size_toArray, ← z]
  refine call_set_list (ns := ns) (I1.ok.hd hc) pl.isList (by simpa using RZ.intsAre_vals r) (by unfold scanBound; omega) fun h2 tk hS keep => PyProof.Rows.args_nil ?_
  rw [sz] at hS
  obtain ⟨g1, g2, g3⟩ := met_len (ns := ns) ns.length (Nat.le_refl _)
  rw [List.take_length] at g2 g3
  obtain ⟨o, es, ep, t, a1, a2, a3, _, _, _, a4, a5⟩ := hS
  have I2 : Inv X pins σ H1 { s1 with heap := h2, toks := tk } := I1.kept fun b o' z => keep b o' (Heap.lt_size z) z
  exact call_len_set a1 a2 a3 a4 (by rw [a5]; omega) ⟨.int ((PyProof.Rows.firstMet (fun i => ns.getD i 0) ns.length).length : Nat), H1, I2.tok _, ⟨_, by rw [a5]⟩, q1 _ g2 g3⟩
/-! ### words of levels, sides -/
def lvV (b : Bool) : V := if b then .str "stack" else .str "queue"
def sdV (b : Bool) : V := if b then .str "front" else .str "back"
theorem lv_ne : ¬ (V.str "queue" = V.str "stack") := by decide
theorem lv_dec (b : Bool) : decide (lvV b = .str "stack") = b := by
  cases b
  · exact decide_eq_false lv_ne
  · exact decide_eq_true rfl
def wordAt (ws : List Bool) (k : Nat) : Bool := ws.getD (min k (ws.length - 1)) false
theorem word_get {ws : List Bool} (h : ws ≠ []) (k : Nat) : (ws.map lvV)[min k (ws.length - 1)]? = some (lvV (wordAt ws k)) := by
  have hl : min k (ws.length - 1) < ws.length := by
    have : 0 < ws.length := List.length_pos_iff.mpr h
    omega
  rw [List.getElem?_map, List.getElem?_eq_getElem hl]
  unfold wordAt
  rw [List.getD_eq_getElem?_getD, List.getElem?_eq_getElem hl]
  rfl
/-- whether an odd number of the rows, at levels from lo on, have the word stack -/
def frontOf (ws : List Bool) (lo : Nat) (rs : List Row3) : Bool := decide (rs.countP (fun r => decide (lo ≤ r.1) && wordAt ws r.1) % 2 = 1)
theorem odd_succ (c : Nat) : decide ((c + 1) % 2 = 1) = !decide (c % 2 = 1) := by
  by_cases h : c % 2 = 1
  · rw [decide_eq_true h, decide_eq_false (by omega)]
    rfl
  · rw [decide_eq_false h, decide_eq_true (by omega)]
    rfl
theorem front_snoc (ws : List Bool) (lo : Nat) (rs : List Row3) (r : Row3) : frontOf ws lo (rs ++ [r]) = if (decide (lo ≤ r.1) && wordAt ws r.1) = true then !frontOf ws lo rs else frontOf ws lo rs := by
  unfold frontOf
  rw [List.countP_append, List.countP_singleton]
  split
  · exact odd_succ _
  · rw [Nat.add_zero]
/-! ### the wheel as plain data -/
structure Tm where
  num : Nat
  due : Nat
  per : Option Nat
  since : Nat
def perV : Option Nat → V
  | none => .non
  | some k => .int (k : Nat)
def tmV (m : Tm) : List V := [.int (m.due : Nat), perV m.per, .int (m.since : Nat)]
open Classical in
noncomputable def sideT (b : Nat) (ws : List Bool) (n d lo : Nat) : Bool := if h : ∃ k, IsLev b n d k then frontOf ws lo (rowsOf b n d (Classical.choose h)) else false
theorem sideT_eq {b : Nat} {ws : List Bool} {n d lo k : Nat} (h : IsLev b n d k) : sideT b ws n d lo = frontOf ws lo (rowsOf b n d k) := by
  have e : ∃ k, IsLev b n d k := ⟨k, h⟩
  unfold sideT
  rw [dif_pos e, (Classical.choose_spec e).uniq h]
def insT (front : Bool) (n : Nat) (l : List Nat) : List Nat := if front then n :: l else l ++ [n]
noncomputable def orderAt (b : Nat) (ws : List Bool) (t : Nat) (ms : List Tm) : List Nat := ms.foldl (fun acc m => if m.due = t then insT (sideT b ws m.since m.due 0) m.num acc else acc) []
theorem order_snoc (b : Nat) (ws : List Bool) (t : Nat) (ms : List Tm) (m : Tm) : orderAt b ws t (ms ++ [m]) = if m.due = t then insT (sideT b ws m.since m.due 0) m.num (orderAt b ws t ms) else orderAt b ws t ms := by
  unfold orderAt
  rw [List.foldl_append]
  rfl
theorem insT_len (f : Bool) (n : Nat) (l : List Nat) : (insT f n l).length = l.length + 1 := by
  unfold insT
  split
  · rfl
  · rw [List.length_append]
    rfl
theorem insT_mem {f : Bool} {n x : Nat} {l : List Nat} : x ∈ insT f n l ↔ x = n ∨ x ∈ l := by
  unfold insT
  split
  · rw [List.mem_cons]
  · rw [List.mem_append, List.mem_singleton]
    exact Or.comm
theorem order_spec (b : Nat) (ws : List Bool) (t : Nat) (ms : List Tm) : ∀ n : Nat, (orderAt b ws t (ms.take n)).length = ((ms.take n).filter fun m => decide (m.due = t)).length ∧ ∀ x, x ∈ orderAt b ws t (ms.take n) ↔ ∃ m ∈ ms.take n, m.due = t ∧ m.num = x := by
  intro n
  induction n with
  | zero =>
    refine ⟨rfl, fun x => ?_⟩
    simp [orderAt]
  | succ n ih =>
    cases e : ms[n]? with
    | none =>
      have hl : ms.length ≤ n := List.getElem?_eq_none_iff.mp e
      rw [List.take_of_length_le (by omega)]
      rw [List.take_of_length_le hl] at ih
      exact ih
    | some m =>
      rw [List.take_add_one, e]
      show (orderAt b ws t (ms.take n ++ [m])).length = _ ∧ ∀ x, x ∈ orderAt b ws t (ms.take n ++ [m]) ↔ ∃ m' ∈ ms.take n ++ [m], _
      rw [order_snoc]
      rw [Option.toList_some, List.filter_append, List.length_append]
      by_cases h : m.due = t
      · rw [if_pos h, insT_len, ih.1]
        refine ⟨by simp [h], fun x => ?_⟩
        rw [insT_mem, ih.2 x]
        constructor
        · rintro (e | ⟨m', h1, h2⟩)
          · exact ⟨m, by simp, h, e.symm⟩
          · exact ⟨m', List.mem_append_left _ h1, h2⟩
        · rintro ⟨m', h1, h2, h3⟩
          rcases List.mem_append.mp h1 with h1 | h1
          · exact .inr ⟨m', h1, h2, h3⟩
          · rw [List.mem_singleton.mp h1] at h3
            exact .inl h3.symm
      · rw [if_neg h, ih.1]
        refine ⟨by simp [h], fun x => ?_⟩
        rw [ih.2 x]
        constructor
        · rintro ⟨m', h1, h2⟩
          exact ⟨m', List.mem_append_left _ h1, h2⟩
        · rintro ⟨m', h1, h2, h3⟩
          rcases List.mem_append.mp h1 with h1 | h1
          · exact ⟨m', h1, h2, h3⟩
          · rw [List.mem_singleton.mp h1] at h2
            exact absurd h2 h
theorem order_len (b : Nat) (ws : List Bool) (t : Nat) (ms : List Tm) : (orderAt b ws t ms).length = (ms.filter fun m => decide (m.due = t)).length := by
  have z := (order_spec b ws t ms ms.length).1
  rw [List.take_length] at z
  exact z
theorem order_mem {b : Nat} {ws : List Bool} {t : Nat} {ms : List Tm} {x : Nat} : x ∈ orderAt b ws t ms ↔ ∃ m ∈ ms, m.due = t ∧ m.num = x := by
  have z := (order_spec b ws t ms ms.length).2 x
  rw [List.take_length] at z
  exact z
def dropT (n : Nat) (ms : List Tm) : List Tm := ms.filter fun m => decide (m.num ≠ n)
/-- a timer fires: it goes, and comes back at the end if it has a period -/
def fireT (t : Nat) (ms : List Tm) (n : Nat) : List Tm := match ms.find? fun m => decide (m.num = n) with
  | none => ms
  | some m => match m.per with
    | none => dropT n ms
    | some k => dropT n ms ++ [⟨n, t + k, some k, t⟩]
def afterF (t : Nat) (ms : List Tm) (ns : List Nat) : List Tm := ns.foldl (fireT t) ms
def leastD (ms : List Tm) : Option Nat := (ms.map (·.due)).min?
theorem least_none {ms : List Tm} : leastD ms = none ↔ ms = [] := by
  unfold leastD
  rw [List.min?_eq_none_iff, List.map_eq_nil_iff]
theorem least_some {ms : List Tm} {v : Nat} : leastD ms = some v ↔ v ∈ ms.map (·.due) ∧ ∀ x ∈ ms.map (·.due), v ≤ x := by
  unfold leastD
  exact List.min?_eq_some_iff
structure WS where
  b : Nat
  ws : List Bool
  tick : Nat
  fol : Nat
  live : List Tm
/-- live timers as they may stand at a tick -/
structure TOk (tick fol : Nat) (m : Tm) : Prop where
  since : m.since ≤ tick
  due : tick < m.due
  big : m.due < 2 ^ 250
  num : m.num < fol
  per : ∀ k, m.per = some k → 1 ≤ k
structure WOk (W : WS) : Prop where
  b2 : 2 ≤ W.b
  b64 : W.b ≤ 64
  ne : W.ws ≠ []
  l60 : W.ws.length ≤ 60
  tms : ∀ m ∈ W.live, TOk W.tick W.fol m
  nd : (W.live.map (·.num)).Nodup
  few : W.live.length ≤ 1000
/-- what an advance to t lets fire, step by step -/
inductive AdvTo (b : Nat) (ws : List Bool) (t : Nat) : List Tm → List (Nat × List Nat) → List Tm → Prop where
  | done {ms : List Tm} (h : ∀ m ∈ ms, t < m.due) : AdvTo b ws t ms [] ms
  | step {ms ms' : List Tm} {at_ : Nat} {rest : List (Nat × List Nat)} (h : leastD ms = some at_) (hle : at_ ≤ t) (ok : ∀ m ∈ ms, m.since < m.due ∧ m.due < 2 ^ 250) (nd : (ms.map (·.num)).Nodup) (few : ms.length ≤ 1000)
    (r : AdvTo b ws t (afterF at_ ms (orderAt b ws at_ ms)) rest ms') : AdvTo b ws t ms ((at_, orderAt b ws at_ ms) :: rest) ms'
open Classical in
/-- the tick at which a timer leaves the list in which it stands at n -/
noncomputable def evT (b n d : Nat) : Nat := if h : ∃ k, IsLev b n d k then d / b ^ Classical.choose h * b ^ Classical.choose h else 0
theorem evT_eq {b n d k : Nat} (h : IsLev b n d k) : evT b n d = d / b ^ k * b ^ k := by
  have e : ∃ k, IsLev b n d k := ⟨k, h⟩
  unfold evT
  rw [dif_pos e, (Classical.choose_spec e).uniq h]
noncomputable def nextE (b n : Nat) (ms : List Tm) : Option Nat := (ms.map fun m => evT b n m.due).min?
def total (fs : List (Nat × List Nat)) : Nat := (fs.map fun f => f.2.length).sum
theorem order_pos {b : Nat} {ws : List Bool} {t : Nat} {ms : List Tm} (h : leastD ms = some t) : 0 < (orderAt b ws t ms).length := by
  obtain ⟨m, hm, e⟩ := List.mem_map.mp (least_some.mp h).1
  have z : m.num ∈ orderAt b ws t ms := order_mem.mpr ⟨m, hm, e, rfl⟩
  exact List.length_pos_of_mem z
theorem insT_nodup {f : Bool} {n : Nat} {l : List Nat} (h : l.Nodup) (hn : n ∉ l) : (insT f n l).Nodup := by
  unfold insT
  split
  · exact List.nodup_cons.mpr ⟨hn, h⟩
  · exact L2.nd_snoc h hn
theorem order_nodup {b : Nat} {ws : List Bool} {t : Nat} {ms : List Tm} (nd : (ms.map (·.num)).Nodup) : (orderAt b ws t ms).Nodup := by
  suffices H : ∀ n : Nat, (orderAt b ws t (ms.take n)).Nodup by
    have z := H ms.length
    rw [List.take_length] at z
    exact z
  intro n
  induction n with
  | zero => exact List.nodup_nil
  | succ n ih =>
    cases e : ms[n]? with
    | none =>
      have hl : ms.length ≤ n := List.getElem?_eq_none_iff.mp e
      rw [List.take_of_length_le (by omega)]
      rw [List.take_of_length_le hl] at ih
      exact ih
    | some m =>
      rw [List.take_add_one, e]
      show (orderAt b ws t (ms.take n ++ [m])).Nodup
      rw [order_snoc]
      split
      · refine insT_nodup ih fun hm => ?_
        obtain ⟨m', h1, _, h3⟩ := order_mem.mp hm
        obtain ⟨i, hi⟩ := List.getElem?_of_mem h1
        rw [List.getElem?_take] at hi
        split at hi
        · rename_i hlt
          have a1 : (ms.map (·.num))[i]? = some m.num := by rw [List.getElem?_map, hi, ← h3]; rfl
          have a2 : (ms.map (·.num))[n]? = some m.num := by rw [List.getElem?_map, e]; rfl
          have z := (List.getElem?_inj (List.getElem?_eq_some_iff.mp a1).1 nd).mp (a1.trans a2.symm)
          omega
        · cases hi
      · exact ih
/-! ### the lists of a wheel -/
abbrev Cell := (Nat × Nat) × List Nat
def keyC (p : Nat × Nat) : List Key := [Sum.inl (p.1 : Int), Sum.inl (p.2 : Int)]
theorem keyC_inj {p q : Nat × Nat} : keyC p = keyC q ↔ p = q := by
  constructor
  · intro h
    unfold keyC at h
    obtain ⟨h1, h2⟩ := List.cons.inj h
    have a := Int.ofNat.inj (Sum.inl.inj h1)
    have b := Int.ofNat.inj (Sum.inl.inj (List.cons.inj h2).1)
    exact Prod.ext a b
  · intro h
    rw [h]
def cellV : List Cell → Nat × Nat → List Nat
  | [], _ => []
  | c :: cs, p => if c.1 = p then c.2 else cellV cs p
def cellPut (rs : List Cell) (p : Nat × Nat) (ns : List Nat) : List Cell := if (rs.any fun c => decide (c.1 = p)) = true then rs.map (fun c => if c.1 = p then (c.1, ns) else c) else rs ++ [(p, ns)]
theorem cellV_map {p q : Nat × Nat} {ns : List Nat} : ∀ rs : List Cell, cellV (rs.map fun c => if c.1 = p then (c.1, ns) else c) q = if p = q ∧ (rs.any fun c => decide (c.1 = p)) = true then ns else cellV rs q
  | [] => by simp [cellV]
  | c :: cs => by
    have ih := cellV_map (p := p) (q := q) (ns := ns) cs
    rw [List.map_cons]
    by_cases h : c.1 = p
    · rw [if_pos h]
      by_cases h2 : p = q
      · have e : c.1 = q := h.trans h2
        rw [if_pos ⟨h2, by rw [List.any_cons, decide_eq_true h]; rfl⟩]
        show (if c.1 = q then ns else _) = ns
        rw [if_pos e]
      · have e : ¬ c.1 = q := fun z => h2 (h.symm.trans z)
        rw [if_neg (fun z => h2 z.1)]
        rw [if_neg (fun z => h2 z.1)] at ih
        show (if c.1 = q then ns else _) = if c.1 = q then c.2 else cellV cs q
        rw [if_neg e, if_neg e]
        exact ih
    · rw [if_neg h, List.any_cons, decide_eq_false h, Bool.false_or]
      show (if c.1 = q then c.2 else _) = _
      by_cases h2 : c.1 = q
      · have e : ¬ p = q := fun z => h (h2.trans z.symm)
        rw [if_pos h2, if_neg (fun z => e z.1)]
        show c.2 = if c.1 = q then c.2 else cellV cs q
        rw [if_pos h2]
      · rw [if_neg h2, ih]
        show _ = if _ then ns else (if c.1 = q then c.2 else cellV cs q)
        rw [if_neg h2]
theorem cellV_snoc {p q : Nat × Nat} {ns : List Nat} : ∀ rs : List Cell, (rs.any fun c => decide (c.1 = p)) = false → cellV (rs ++ [(p, ns)]) q = if p = q then ns else cellV rs q
  | [], _ => rfl
  | c :: cs, h => by
    rw [List.any_cons, Bool.or_eq_false_iff] at h
    have ih := cellV_snoc (q := q) (ns := ns) cs h.2
    have hc : ¬ c.1 = p := of_decide_eq_false h.1
    show (if c.1 = q then c.2 else cellV (cs ++ [(p, ns)]) q) = if p = q then ns else (if c.1 = q then c.2 else cellV cs q)
    rw [ih]
    by_cases h2 : p = q
    · rw [if_pos h2, if_pos h2, if_neg fun z => hc (z.trans h2.symm)]
    · rw [if_neg h2, if_neg h2]
theorem cellV_put {rs : List Cell} {p q : Nat × Nat} {ns : List Nat} : cellV (cellPut rs p ns) q = if p = q then ns else cellV rs q := by
  unfold cellPut
  by_cases h : (rs.any fun c => decide (c.1 = p)) = true
  · rw [if_pos h, cellV_map]
    by_cases h2 : p = q
    · rw [if_pos ⟨h2, h⟩, if_pos h2]
    · rw [if_neg (fun z => h2 z.1), if_neg h2]
  · rw [if_neg h]
    exact cellV_snoc rs (Bool.eq_false_iff.mpr h)
theorem cellPut_len (rs : List Cell) (p : Nat × Nat) (ns : List Nat) : (cellPut rs p ns).length ≤ rs.length + 1 := by
  unfold cellPut
  split
  · rw [List.length_map]
    omega
  · rw [List.length_append]
    exact Nat.le_refl _
theorem cellPut_keys {rs : List Cell} {p : Nat × Nat} {ns : List Nat} (nd : (rs.map (·.1)).Nodup) : ((cellPut rs p ns).map (·.1)).Nodup := by
  unfold cellPut
  by_cases h : (rs.any fun c => decide (c.1 = p)) = true
  · rw [if_pos h, List.map_map]
    have e : rs.map ((fun c : Cell => c.1) ∘ fun c => if c.1 = p then (c.1, ns) else c) = rs.map (·.1) := List.map_congr_left fun c _ => by
      show (if c.1 = p then (c.1, ns) else c).1 = c.1
      split <;> rfl
    rw [e]
    exact nd
  · rw [if_neg h, List.map_append]
    refine L2.nd_snoc nd fun hm => h ?_
    obtain ⟨c, hc, e⟩ := List.mem_map.mp hm
    exact List.any_eq_true.mpr ⟨c, hc, decide_eq_true e⟩
open Classical in
noncomputable def levT (b n d : Nat) : Nat := if h : ∃ k, IsLev b n d k then Classical.choose h else 0
theorem levT_eq {b n d k : Nat} (h : IsLev b n d k) : levT b n d = k := by
  have e : ∃ k, IsLev b n d k := ⟨k, h⟩
  unfold levT
  rw [dif_pos e]
  exact (Classical.choose_spec e).uniq h
noncomputable def placeT (b t d : Nat) : Nat × Nat := (levT b t d, d / b ^ levT b t d % b)
noncomputable def standStep (b : Nat) (ws : List Bool) (t : Nat) (rs : List Cell) (m : Tm) : List Cell :=
  if t < m.due then cellPut rs (placeT b t m.due) (insT (sideT b ws m.since m.due (levT b t m.due)) m.num (cellV rs (placeT b t m.due))) else rs
noncomputable def standD (b : Nat) (ws : List Bool) (t : Nat) (ms : List Tm) : List Cell := ms.foldl (standStep b ws t) []
theorem stand_snoc (b : Nat) (ws : List Bool) (t : Nat) (ms : List Tm) (m : Tm) : standD b ws t (ms ++ [m]) = standStep b ws t (standD b ws t ms) m := by
  unfold standD
  rw [List.foldl_append]
  rfl
theorem stand_bounds (b : Nat) (ws : List Bool) (t : Nat) (ms : List Tm) : ∀ n : Nat, n ≤ ms.length → (standD b ws t (ms.take n)).length ≤ n ∧ (∀ p, (cellV (standD b ws t (ms.take n)) p).length ≤ n) ∧ ((standD b ws t (ms.take n)).map (·.1)).Nodup := by
  intro n
  induction n with
  | zero => exact fun _ => ⟨Nat.le_refl _, fun p => Nat.le_refl _, List.nodup_nil⟩
  | succ n ih =>
    intro hn
    obtain ⟨h1, h2, h3⟩ := ih (by omega)
    have e : ms[n]? = some ms[n] := List.getElem?_eq_getElem (by omega)
    rw [List.take_add_one, e]
    show (standD b ws t (ms.take n ++ [ms[n]])).length ≤ _ ∧ (∀ p, (cellV (standD b ws t (ms.take n ++ [ms[n]])) p).length ≤ _) ∧ ((standD b ws t (ms.take n ++ [ms[n]])).map _).Nodup
    rw [stand_snoc]
    unfold standStep
    split
    · refine ⟨Nat.le_trans (cellPut_len _ _ _) (by omega), fun p => ?_, cellPut_keys h3⟩
      rw [cellV_put]
      split
      · rw [insT_len]
        have z := h2 (placeT b t (ms[n]).due)
        omega
      · have z := h2 p
        omega
    · exact ⟨by omega, fun p => by have z := h2 p; omega, h3⟩
/-- the cells of a dict on the heap -/
def CellsAt (H : Hp) : List (List Key × V) → List Cell → Prop
  | [], [] => True
  | kv :: kvs, c :: cs => kv.1 = keyC c.1 ∧ (∃ a, kv.2 = .ref a ∧ H a = some (.lst (c.2.map fun x => V.int (x : Nat)))) ∧ CellsAt H kvs cs
  | _, _ => False
theorem CellsAt.frame {H H' : Hp} (s : ∀ a xs, H a = some (.lst xs) → H' a = some (.lst xs)) : ∀ {kvs : List (List Key × V)} {rs : List Cell}, CellsAt H kvs rs → CellsAt H' kvs rs
  | [], [], _ => trivial
  | _ :: _, _ :: _, ⟨h1, ⟨a, h2, h3⟩, h4⟩ => ⟨h1, ⟨a, h2, s _ _ h3⟩, h4.frame s⟩
  | [], _ :: _, h => h.elim
  | _ :: _, [], h => h.elim
theorem CellsAt.len {H : Hp} : ∀ {kvs : List (List Key × V)} {rs : List Cell}, CellsAt H kvs rs → kvs.length = rs.length
  | [], [], _ => rfl
  | _ :: _, _ :: _, h => congrArg Nat.succ h.2.2.len
  | [], _ :: _, h => h.elim
  | _ :: _, [], h => h.elim
theorem CellsAt.keys {H : Hp} : ∀ {kvs : List (List Key × V)} {rs : List Cell}, CellsAt H kvs rs → kvs.map (·.1) = (rs.map fun c => ((c.1.1 : Int), (c.1.2 : Int))).map fun p => [Sum.inl p.1, Sum.inl p.2]
  | [], [], _ => rfl
  | kv :: kvs, c :: cs, h => by
    rw [List.map_cons, List.map_cons, List.map_cons, h.1, h.2.2.keys]
    rfl
  | [], _ :: _, h => h.elim
  | _ :: _, [], h => h.elim
theorem CellsAt.val {H : Hp} {p : Nat × Nat} : ∀ {kvs : List (List Key × V)} {rs : List Cell}, CellsAt H kvs rs → (valV kvs (keyC p) = none ∧ cellV rs p = []) ∨ ∃ a, valV kvs (keyC p) = some (.ref a) ∧ H a = some (.lst ((cellV rs p).map fun x => V.int (x : Nat)))
  | [], [], _ => .inl ⟨rfl, rfl⟩
  | kv :: kvs, c :: cs, h => by
    obtain ⟨h1, ⟨a, h2, h3⟩, h4⟩ := h
    by_cases e : c.1 = p
    · refine .inr ⟨a, ?_, ?_⟩
      · rw [valV_pos (h1.trans (keyC_inj.mpr e)), h2]
      · show H a = some (.lst ((if c.1 = p then c.2 else cellV cs p).map _))
        rw [if_pos e]
        exact h3
    · have e1 : ¬ kv.1 = keyC p := fun z => e (keyC_inj.mp (h1.symm.trans z))
      rw [valV_neg e1]
      show _ ∧ (if c.1 = p then c.2 else cellV cs p) = [] ∨ ∃ a, _ ∧ H a = some (.lst ((if c.1 = p then c.2 else cellV cs p).map _))
      rw [if_neg e]
      exact h4.val
  | [], _ :: _, h => h.elim
  | _ :: _, [], h => h.elim
theorem CellsAt.val_mem {H : Hp} {p : Nat × Nat} : ∀ {kvs : List (List Key × V)} {rs : List Cell}, CellsAt H kvs rs → p ∈ rs.map (·.1) → ∃ a, valV kvs (keyC p) = some (.ref a) ∧ H a = some (.lst ((cellV rs p).map fun x => V.int (x : Nat)))
  | [], [], _, h => by cases h
  | kv :: kvs, c :: cs, h, hm => by
    obtain ⟨h1, ⟨a, h2, h3⟩, h4⟩ := h
    by_cases e : c.1 = p
    · refine ⟨a, ?_, ?_⟩
      · rw [valV_pos (h1.trans (keyC_inj.mpr e)), h2]
      · show H a = some (.lst ((if c.1 = p then c.2 else cellV cs p).map _))
        rw [if_pos e]
        exact h3
    · have e1 : ¬ kv.1 = keyC p := fun z => e (keyC_inj.mp (h1.symm.trans z))
      rw [valV_neg e1]
      show ∃ a, _ ∧ H a = some (.lst ((if c.1 = p then c.2 else cellV cs p).map _))
      rw [if_neg e]
      refine h4.val_mem ?_
      rw [List.map_cons] at hm
      rcases List.mem_cons.mp hm with z | z
      · exact absurd z.symm e
      · exact z
  | [], _ :: _, h, _ => h.elim
  | _ :: _, [], h, _ => h.elim
theorem CellsAt.any {H : Hp} {p : Nat × Nat} : ∀ {kvs : List (List Key × V)} {rs : List Cell}, CellsAt H kvs rs → (kvs.any fun kv => decide (kv.1 = keyC p)) = rs.any fun c => decide (c.1 = p)
  | [], [], _ => rfl
  | kv :: kvs, c :: cs, h => by
    rw [List.any_cons, List.any_cons, h.2.2.any]
    have e : (decide (kv.1 = keyC p)) = decide (c.1 = p) := decide_eq_decide.mpr (by rw [h.1]; exact keyC_inj)
    rw [e]
  | [], _ :: _, h => h.elim
  | _ :: _, [], h => h.elim
theorem CellsAt.mapd {H : Hp} {p : Nat × Nat} {a : Addr} {ns : List Nat} (ha : H a = some (.lst (ns.map fun x => V.int (x : Nat)))) : ∀ {kvs : List (List Key × V)} {rs : List Cell}, CellsAt H kvs rs → CellsAt H (kvs.map fun kv => if kv.1 = keyC p then (kv.1, .ref a) else kv) (rs.map fun c => if c.1 = p then (c.1, ns) else c)
  | [], [], _ => trivial
  | kv :: kvs, c :: cs, h => by
    obtain ⟨h1, h2, h4⟩ := h
    rw [List.map_cons, List.map_cons]
    by_cases e : c.1 = p
    · rw [if_pos e, if_pos (h1.trans (keyC_inj.mpr e))]
      exact ⟨h1, ⟨a, rfl, ha⟩, h4.mapd ha⟩
    · rw [if_neg e, if_neg fun z => e (keyC_inj.mp (h1.symm.trans z))]
      exact ⟨h1, h2, h4.mapd ha⟩
  | [], _ :: _, h => h.elim
  | _ :: _, [], h => h.elim
theorem CellsAt.snoc {H : Hp} {p : Nat × Nat} {a : Addr} {ns : List Nat} (ha : H a = some (.lst (ns.map fun x => V.int (x : Nat)))) : ∀ {kvs : List (List Key × V)} {rs : List Cell}, CellsAt H kvs rs → CellsAt H (kvs ++ [(keyC p, .ref a)]) (rs ++ [(p, ns)])
  | [], [], _ => ⟨rfl, ⟨a, rfl, ha⟩, trivial⟩
  | _ :: _, _ :: _, h => ⟨h.1, h.2.1, h.2.2.snoc ha⟩
  | [], _ :: _, h => h.elim
  | _ :: _, [], h => h.elim
theorem CellsAt.put {H : Hp} {p : Nat × Nat} {a : Addr} {ns : List Nat} (ha : H a = some (.lst (ns.map fun x => V.int (x : Nat)))) {kvs : List (List Key × V)} {rs : List Cell} (h : CellsAt H kvs rs) : CellsAt H (putK kvs (keyC p) (.ref a)) (cellPut rs p ns) := by
  unfold putK cellPut
  rw [h.any]
  split
  · exact h.mapd ha
  · exact h.snoc ha
/-! ### levels and events of timers -/
theorem least_nat {p : Nat → Prop} : ∀ n : Nat, p n → ∃ k, p k ∧ ∀ j, j < k → ¬ p j
  | 0, h => ⟨0, h, fun j hj => absurd hj (Nat.not_lt_zero j)⟩
  | n + 1, h => by
    by_cases c : ∃ m, m ≤ n ∧ p m
    · obtain ⟨m, hm, hp⟩ := c
      exact Classical.byContradiction fun no => by
        have all : ∀ k, ∀ j, j < k → ¬ p j := fun k => by
          induction k with
          | zero => exact fun j hj => absurd hj (Nat.not_lt_zero j)
          | succ k ih =>
            intro j hj
            by_cases e : j = k
            · intro hp'
              exact no ⟨k, by rw [← e]; exact hp', ih⟩
            · exact ih j (by omega)
        exact all (m + 1) m (Nat.lt_succ_self m) hp
    · exact ⟨n + 1, h, fun j hj hp => c ⟨j, Nat.le_of_lt_succ hj, hp⟩⟩
theorem lev_exists {b n d : Nat} (hb : 2 ≤ b) (h : n < d) : ∃ k, IsLev b n d k := by
  have big : d < b ^ (d + 1) := Nat.lt_of_lt_of_le (Nat.lt_of_lt_of_le Nat.lt_two_pow_self (Nat.pow_le_pow_right (by decide) (Nat.le_succ d))) (pow_two_le hb (d + 1))
  obtain ⟨k, h1, h2⟩ := least_nat (p := fun k => n / b ^ (k + 1) = d / b ^ (k + 1)) d (by
    show n / b ^ (d + 1) = d / b ^ (d + 1)
    rw [Nat.div_eq_of_lt big, Nat.div_eq_of_lt (Nat.lt_trans h big)])
  exact ⟨k, h1, h2⟩
theorem levT_is {b n d : Nat} (hb : 2 ≤ b) (h : n < d) : IsLev b n d (levT b n d) := by
  obtain ⟨k, hk⟩ := lev_exists hb h
  rw [levT_eq hk]
  exact hk
theorem evT_is {b n d : Nat} (hb : 2 ≤ b) (h : n < d) : evT b n d = d / b ^ levT b n d * b ^ levT b n d := evT_eq (levT_is hb h)
theorem evT_le {b n d : Nat} (hb : 2 ≤ b) (h : n < d) : evT b n d ≤ d := by
  rw [evT_is hb h]
  exact cut_le b d _
theorem evT_gt {b n d : Nat} (hb : 2 ≤ b) (h : n < d) : n < evT b n d := by
  rw [evT_is hb h]
  have hk := levT_is hb h
  generalize levT b n d = k at hk ⊢
  exact (Nat.div_lt_iff_lt_mul (pow_pos' hb k)).mp (hk.ne h)
/-- ahead of its event a timer stands where it stood -/
theorem lev_stays {b n d t : Nat} (hb : 2 ≤ b) (h : n < d) (h1 : n ≤ t) (h2 : t < evT b n d) : t < d ∧ levT b t d = levT b n d := by
  refine ⟨Nat.lt_of_lt_of_le h2 (evT_le hb h), ?_⟩
  rw [evT_is hb h] at h2
  exact levT_eq ((levT_is hb h).later hb h h1 h2)
/-- at its event it stands at a lower level -/
theorem lev_drops {b n d : Nat} (hb : 2 ≤ b) (h : n < d) (h2 : evT b n d < d) : levT b (evT b n d) d < levT b n d := by
  have hk := levT_is hb h
  have hk' := levT_is hb h2
  have e := evT_is hb h
  generalize levT b n d = k at hk e ⊢
  generalize levT b (evT b n d) d = k' at hk' ⊢
  have same : evT b n d / b ^ k = d / b ^ k := by
    rw [e, Nat.mul_div_cancel _ (pow_pos' hb k)]
  refine Classical.byContradiction fun no => ?_
  by_cases c : k' = k
  · subst c
    have z := hk'.ne h2
    omega
  · cases k with
    | zero =>
      rw [Nat.pow_zero, Nat.div_one, Nat.div_one] at same
      omega
    | succ j => exact hk'.2 j (by omega) same
/-! ### the law's own wheel: lists built at two ends -/
def insM (w : Bool) (m : Tm) (l : List Tm) : List Tm := if w then m :: l else l ++ [m]
def deq (f : Tm → Bool) (l : List Tm) : List Tm := (l.filter f).reverse ++ l.filter fun m => !f m
theorem deq_snoc (f : Tm → Bool) (l : List Tm) (m : Tm) : deq f (l ++ [m]) = insM (f m) m (deq f l) := by
  unfold deq insM
  rw [List.filter_append, List.filter_append]
  cases h : f m with
  | true => simp [h]
  | false => simp [h]
theorem deq_filter (f p : Tm → Bool) (l : List Tm) : (deq f l).filter p = deq f (l.filter p) := by
  unfold deq
  rw [List.filter_append, List.filter_reverse, List.filter_filter, List.filter_filter, List.filter_filter, List.filter_filter]
  have e : ∀ q : Tm → Bool, (fun m => p m && q m) = fun m => q m && p m := fun q => funext fun m => Bool.and_comm _ _
  rw [e, e]
theorem deq_false (l : List Tm) : deq (fun _ => false) l = l := by
  show (l.filter fun _ => false).reverse ++ l.filter (fun _ => true) = l
  rw [List.filter_eq_nil_iff.mpr (fun _ _ => Bool.false_ne_true), List.filter_eq_self.mpr (fun _ _ => rfl)]
  rfl
theorem deq_true (l : List Tm) : deq (fun _ => true) l = l.reverse := by
  show (l.filter fun _ => true).reverse ++ l.filter (fun _ => false) = _
  rw [List.filter_eq_nil_iff.mpr (fun _ _ => Bool.false_ne_true), List.filter_eq_self.mpr (fun _ _ => rfl), List.append_nil]
theorem deq_congr {f g : Tm → Bool} {l : List Tm} (h : ∀ m ∈ l, f m = g m) : deq f l = deq g l := by
  unfold deq
  rw [List.filter_congr h, List.filter_congr (p := fun m => !f m) (q := fun m => !g m) fun m hm => by rw [h m hm]]
theorem deq_deq (w : Bool) (f : Tm → Bool) (l : List Tm) : deq (fun _ => w) (deq f l) = deq (fun m => Bool.xor (f m) w) l := by
  cases w with
  | false =>
    rw [deq_false]
    exact deq_congr fun m _ => (Bool.xor_false _).symm
  | true =>
    rw [deq_true]
    unfold deq
    rw [List.reverse_append, List.reverse_reverse]
    have e1 : l.filter (fun m => Bool.xor (f m) true) = l.filter fun m => !f m := List.filter_congr fun m _ => Bool.xor_true _
    have e2 : l.filter (fun m => !Bool.xor (f m) true) = l.filter f := List.filter_congr fun m _ => by rw [Bool.xor_true, Bool.not_not]
    rw [e1, e2]
theorem mem_deq {f : Tm → Bool} {l : List Tm} {m : Tm} : m ∈ deq f l ↔ m ∈ l := by
  unfold deq
  rw [List.mem_append, List.mem_reverse, List.mem_filter, List.mem_filter]
  cases h : f m <;> simp
theorem deq_perm (f : Tm → Bool) (l : List Tm) : (deq f l).Perm l := by
  unfold deq
  exact ((List.reverse_perm _).append_right _).trans (List.filter_append_perm f l)
theorem deq_len (f : Tm → Bool) (l : List Tm) : (deq f l).length = l.length := (deq_perm f l).length_eq
theorem ins_len (w : Bool) (m : Tm) (l : List Tm) : (insM w m l).length = l.length + 1 := by
  unfold insM
  split
  · rfl
  · rw [List.length_append]
    rfl
theorem ins_fold (w : Bool) (l : List Tm) : l.foldl (fun a m => insM w m a) [] = deq (fun _ => w) l := by
  suffices H : ∀ (r : List Tm), l.foldl (fun a m => insM w m a) (deq (fun _ => w) r) = deq (fun _ => w) (r ++ l) by
    have z := H []
    rw [List.nil_append] at z
    exact z
  induction l with
  | nil =>
    intro r
    rw [List.append_nil]
    rfl
  | cons m l ih =>
    intro r
    rw [List.foldl_cons, ← deq_snoc (fun _ => w), ih, List.append_assoc]
    rfl
theorem ins_deq (f : Tm → Bool) (w : Bool) (l : List Tm) (h : ∀ m ∈ l, f m = w) : ∀ r : List Tm, l.foldl (fun a m => insM w m a) (deq f r) = deq f (r ++ l) := by
  induction l with
  | nil =>
    intro r
    rw [List.append_nil]
    rfl
  | cons m l ih =>
    intro r
    rw [List.foldl_cons, ← h m (List.mem_cons_self ..), ← deq_snoc, h m (List.mem_cons_self ..), ih fun x hx => h x (List.mem_cons_of_mem _ hx)]
    rw [List.append_assoc]
    rfl
/-! ### sides, digit by digit -/
def cntS (ws : List Bool) (b d lo k : Nat) : Nat := (tailOf b d k).countP fun r => decide (lo ≤ r.1) && wordAt ws r.1
theorem cntS_succ (ws : List Bool) (b d lo k : Nat) : cntS ws b d lo (k + 1) = cntS ws b d lo k + if d / b ^ k % b ≠ 0 ∧ lo ≤ k ∧ wordAt ws k = true then 1 else 0 := by
  unfold cntS
  show (if d / b ^ k % b ≠ 0 then (k, d / b ^ k % b, d / b ^ (k + 1) * b ^ (k + 1)) :: tailOf b d k else tailOf b d k).countP _ = _
  by_cases h : d / b ^ k % b ≠ 0
  · rw [if_pos h, List.countP_cons]
    congr 1
    by_cases h1 : lo ≤ k
    · cases h2 : wordAt ws k with
      | true => rw [if_pos (by simp [h1, h2]), if_pos ⟨h, h1, rfl⟩]
      | false => rw [if_neg (by simp [h2]), if_neg (fun z => by cases z.2.2)]
    · rw [if_neg (by simp [h1]), if_neg (fun z => h1 z.2.1)]
  · rw [if_neg h, if_neg fun z => h z.1, Nat.add_zero]
theorem cntS_high {ws : List Bool} {b d lo : Nat} : ∀ k, k ≤ lo → cntS ws b d lo k = 0
  | 0, _ => rfl
  | k + 1, h => by
    rw [cntS_succ, cntS_high k (by omega), if_neg (fun z => by omega)]
theorem cntS_skip {ws : List Bool} {b d lo lo' : Nat} (h : lo ≤ lo') (h0 : ∀ i, lo ≤ i → i < lo' → d / b ^ i % b = 0) : ∀ k, cntS ws b d lo k = cntS ws b d lo' k
  | 0 => rfl
  | k + 1 => by
    rw [cntS_succ, cntS_succ, cntS_skip h h0 k]
    congr 1
    by_cases c : lo' ≤ k
    · by_cases e : d / b ^ k % b ≠ 0 ∧ wordAt ws k = true
      · rw [if_pos ⟨e.1, by omega, e.2⟩, if_pos ⟨e.1, c, e.2⟩]
      · rw [if_neg fun z => e ⟨z.1, z.2.2⟩, if_neg fun z => e ⟨z.1, z.2.2⟩]
    · rw [if_neg (c := d / b ^ k % b ≠ 0 ∧ lo' ≤ k ∧ wordAt ws k = true) fun z => c z.2.1]
      refine if_neg fun z => z.1 (h0 k z.2.1 (by omega))
theorem cntS_one {ws : List Bool} {b d lo : Nat} (h : d / b ^ lo % b ≠ 0) : ∀ k, lo < k → cntS ws b d lo k = cntS ws b d (lo + 1) k + if wordAt ws lo = true then 1 else 0
  | 0, hk => absurd hk (Nat.not_lt_zero _)
  | k + 1, hk => by
    rw [cntS_succ, cntS_succ]
    by_cases e : k = lo
    · subst e
      rw [cntS_high k (Nat.le_refl _), cntS_high k (Nat.le_succ _), if_neg (c := d / b ^ k % b ≠ 0 ∧ k + 1 ≤ k ∧ wordAt ws k = true) fun z => by omega]
      by_cases c : wordAt ws k = true
      · rw [if_pos ⟨h, Nat.le_refl _, c⟩, if_pos c]
      · rw [if_neg fun z => c z.2.2, if_neg c]
    · rw [cntS_one h k (by omega)]
      have e2 : (if d / b ^ k % b ≠ 0 ∧ lo ≤ k ∧ wordAt ws k = true then 1 else 0) = if d / b ^ k % b ≠ 0 ∧ lo + 1 ≤ k ∧ wordAt ws k = true then 1 else 0 := by
        by_cases c : d / b ^ k % b ≠ 0 ∧ wordAt ws k = true
        · rw [if_pos ⟨c.1, by omega, c.2⟩, if_pos ⟨c.1, by omega, c.2⟩]
        · rw [if_neg fun z => c ⟨z.1, z.2.2⟩, if_neg fun z => c ⟨z.1, z.2.2⟩]
      rw [e2]
      omega
theorem front_cntS (ws : List Bool) (b n d lo k : Nat) (h : lo ≤ k) : frontOf ws lo (rowsOf b n d k) = decide ((cntS ws b d lo k + if wordAt ws k = true then 1 else 0) % 2 = 1) := by
  unfold frontOf rowsOf cntS
  rw [List.countP_cons]
  cases h2 : wordAt ws k with
  | true => rw [if_pos (by simp [h, h2])]; rfl
  | false => rw [if_neg (by simp [h2])]; rfl
theorem side_cnt {b : Nat} {ws : List Bool} {n d lo : Nat} (hb : 2 ≤ b) (h : n < d) (hl : lo ≤ levT b n d) : sideT b ws n d lo = decide ((cntS ws b d lo (levT b n d) + if wordAt ws (levT b n d) = true then 1 else 0) % 2 = 1) := by
  rw [sideT_eq (levT_is hb h)]
  exact front_cntS ws b n d lo _ hl
theorem odd_add (c : Nat) (w : Bool) : decide ((c + if w = true then 1 else 0) % 2 = 1) = Bool.xor (decide (c % 2 = 1)) w := by
  cases w with
  | false =>
    rw [if_neg (by decide), Bool.xor_false]
    rfl
  | true =>
    rw [if_pos rfl, Bool.xor_true]
    exact odd_succ c
theorem side_new {b : Nat} {ws : List Bool} {n d : Nat} (hb : 2 ≤ b) (h : n < d) : sideT b ws n d (levT b n d) = wordAt ws (levT b n d) := by
  rw [side_cnt hb h (Nat.le_refl _), cntS_high _ (Nat.le_refl _), odd_add]
  cases wordAt ws (levT b n d) <;> rfl
theorem lev_mono {b s n d : Nat} (hb : 2 ≤ b) (h : n < d) (hs : s ≤ n) : levT b n d ≤ levT b s d := by
  have k1 := levT_is hb h
  have k2 := levT_is hb (Nat.lt_of_le_of_lt hs h)
  generalize levT b n d = k at k1 ⊢
  generalize levT b s d = k0 at k2 ⊢
  refine Nat.le_of_not_lt fun c => k1.2 k0 c ?_
  have a1 : s / b ^ (k0 + 1) ≤ n / b ^ (k0 + 1) := Nat.div_le_div_right hs
  have a2 : n / b ^ (k0 + 1) ≤ d / b ^ (k0 + 1) := Nat.div_le_div_right (Nat.le_of_lt h)
  have a3 := k2.1
  omega
/-- the digits of a multiple -/
theorem dig_mul {b q h i : Nat} (hb : 2 ≤ b) (hi : i < h) : q * b ^ h / b ^ i % b = 0 := by
  have e : b ^ h = b ^ (h - i - 1) * b * b ^ i := by
    rw [← Nat.pow_succ, ← Nat.pow_add]
    congr 1
    omega
  rw [e, ← Nat.mul_assoc, Nat.mul_div_cancel _ (pow_pos' hb i), ← Nat.mul_assoc, Nat.mul_mod_left]
/-- where a timer goes on, its side turns with the word there -/
theorem side_drop {b : Nat} {ws : List Bool} {s n d : Nat} (hb : 2 ≤ b) (h : n < d) (hs : s ≤ n) (he : evT b n d < d) :
    sideT b ws s d (levT b (evT b n d) d) = Bool.xor (sideT b ws s d (levT b n d)) (wordAt ws (levT b (evT b n d) d)) := by
  have hm := lev_mono hb h hs
  have hd := lev_drops hb h he
  have hk := levT_is hb h
  have hj := levT_is hb he
  have ee := evT_is hb h
  have hsd := Nat.lt_of_le_of_lt hs h
  have hdj : d / b ^ levT b (evT b n d) d % b ≠ 0 := by
    have := hj.digit he
    omega
  rw [side_cnt hb hsd (by omega), side_cnt hb hsd hm, cntS_one hdj _ (by omega)]
  have e2 : cntS ws b d (levT b (evT b n d) d + 1) (levT b s d) = cntS ws b d (levT b n d) (levT b s d) := by
    refine cntS_skip (by omega) (fun i h1 h2 => ?_) _
    have a1 : evT b n d / b ^ (levT b (evT b n d) d + 1) = d / b ^ (levT b (evT b n d) d + 1) := hj.1
    have a2 : evT b n d / b ^ i = d / b ^ i := by
      have e3 : i = (levT b (evT b n d) d + 1) + (i - (levT b (evT b n d) d + 1)) := by omega
      rw [e3, Nat.pow_add, ← Nat.div_div_eq_div_mul, ← Nat.div_div_eq_div_mul, a1]
    rw [← a2, ee]
    exact dig_mul hb h2
  rw [e2, Nat.add_right_comm, odd_add]
/-- where it fires, the side is the one at the last list -/
theorem side_last {b : Nat} {ws : List Bool} {s n d : Nat} (hb : 2 ≤ b) (h : n < d) (hs : s ≤ n) (he : evT b n d = d) : sideT b ws s d (levT b n d) = sideT b ws s d 0 := by
  have hm := lev_mono hb h hs
  have hsd := Nat.lt_of_le_of_lt hs h
  rw [side_cnt hb hsd hm, side_cnt hb hsd (Nat.zero_le _)]
  rw [cntS_skip (lo := 0) (lo' := levT b n d) (Nat.zero_le _) (fun i _ h2 => ?_) _]
  have ee := evT_is hb h
  rw [he] at ee
  rw [ee]
  have e4 : levT b n (d / b ^ levT b n d * b ^ levT b n d) = levT b n d := by rw [← ee]
  exact dig_mul hb h2
/-! ### sides by counting digits: the mathematics -/
/-- of the indexes below j, how many have a digit other than 0 of d and the word stack -/
def cntW (ws : List Bool) (b d : Nat) : Nat → Nat
  | 0 => 0
  | k + 1 => cntW ws b d k + if d / b ^ k % b ≠ 0 ∧ wordAt ws k = true then 1 else 0
theorem tail_cnt (ws : List Bool) (b d : Nat) : ∀ k, (tailOf b d k).countP (fun r => decide (0 ≤ r.1) && wordAt ws r.1) = cntW ws b d k
  | 0 => rfl
  | k + 1 => by
    have ih := tail_cnt ws b d k
    unfold tailOf cntW
    by_cases h : d / b ^ k % b ≠ 0
    · rw [if_pos h, List.countP_cons, ih, decide_eq_true (Nat.zero_le _), Bool.true_and]
      cases hw : wordAt ws k with
      | true => rw [if_pos rfl, if_pos (show d / b ^ k % b ≠ 0 ∧ true = true from ⟨h, rfl⟩)]
      | false => rw [if_neg (by simp), if_neg (by simp)]
    · rw [if_neg h, ih, if_neg (fun z => h z.1), Nat.add_zero]
theorem front_cnt {ws : List Bool} {b n d k : Nat} (h : IsLev b n d k) (hnd : n < d) : frontOf ws 0 (rowsOf b n d k) = decide (cntW ws b d (k + 1) % 2 = 1) := by
  have hd := h.digit hnd
  have h0 : d / b ^ k % b ≠ 0 := by omega
  unfold frontOf
  have e : (rowsOf b n d k).countP (fun r => decide (0 ≤ r.1) && wordAt ws r.1) = cntW ws b d (k + 1) := by
    unfold rowsOf cntW
    rw [List.countP_cons, tail_cnt, decide_eq_true (Nat.zero_le _), Bool.true_and]
    cases hw : wordAt ws k with
    | true => rw [if_pos rfl, if_pos (show d / b ^ k % b ≠ 0 ∧ true = true from ⟨h0, rfl⟩)]
    | false => rw [if_neg (by simp), if_neg (by simp)]
  rw [e]
/-- which of two periodic timers goes ahead, where both fire again -/
def IsAhead (b : Nat) (ws : List Bool) (p1 p2 d : Nat) (v : Bool) : Prop :=
  (p1 < p2 → ∀ k, IsLev b (d - p1) d k → v = frontOf ws 0 (rowsOf b (d - p1) d k)) ∧ (¬ p1 < p2 → ∀ k, IsLev b (d - p2) d k → v = !frontOf ws 0 (rowsOf b (d - p2) d k))
/-! ### each due tick has a level (where math_count is not at hand) -/
theorem lev_any {b n d : Nat} (hb : 2 ≤ b) (hnd : n < d) : ∃ k, IsLev b n d k := ⟨_, levT_is hb hnd⟩
/-! ### how often one timer goes first: the mathematics -/
/-- whether a timer set at n and due at d goes in front -/
noncomputable def frB (ws : List Bool) (b n d : Nat) : Bool := @decide (∃ k, IsLev b n d k ∧ frontOf ws 0 (rowsOf b n d k) = true) (Classical.propDecidable _)
theorem frB_eq {ws : List Bool} {b n d k : Nat} (hk : IsLev b n d k) : frB ws b n d = frontOf ws 0 (rowsOf b n d k) := by
  unfold frB
  cases h : frontOf ws 0 (rowsOf b n d k) with
  | true => exact @decide_eq_true _ (Classical.propDecidable _) ⟨k, hk, h⟩
  | false =>
    refine @decide_eq_false _ (Classical.propDecidable _) fun ⟨k', hk', h'⟩ => ?_
    rw [hk'.uniq hk, h] at h'
    cases h'
noncomputable def ahB (ws : List Bool) (b p q t : Nat) : Bool := if p < q then frB ws b (t - p) t else !frB ws b (t - q) t
theorem IsAhead.eq {b p q t : Nat} {ws : List Bool} {v : Bool} (h : IsAhead b ws p q t v) (hb : 2 ≤ b) (hp : 1 ≤ p) (hq : 1 ≤ q) (hpt : p ≤ t) (hqt : q ≤ t) : v = ahB ws b p q t := by
  unfold ahB
  by_cases c : p < q
  · obtain ⟨k, hk⟩ := lev_any (n := t - p) (d := t) hb (by omega)
    rw [if_pos c, h.1 c k hk, frB_eq hk]
  · obtain ⟨k, hk⟩ := lev_any (n := t - q) (d := t) hb (by omega)
    rw [if_neg c, h.2 c k hk, frB_eq hk]
theorem ahB_swap {ws : List Bool} {b p q t : Nat} (h : p ≠ q) : ahB ws b q p t = !ahB ws b p q t := by
  unfold ahB
  by_cases c : p < q
  · rw [if_pos c, if_neg (by omega)]
  · rw [if_neg c, if_pos (by omega), Bool.not_not]
def fireB (a p t : Nat) : Bool := decide (a < t ∧ (t - a) % p = 0)
theorem fire_ge {a p t : Nat} (hp : 1 ≤ p) : (a + p ≤ t ∧ (t - a) % p = 0) ↔ (a < t ∧ (t - a) % p = 0) := by
  constructor
  · rintro ⟨h1, h2⟩
    exact ⟨by omega, h2⟩
  · rintro ⟨h1, h2⟩
    have := Nat.le_of_dvd (by omega) (Nat.dvd_of_mod_eq_zero h2)
    exact ⟨by omega, h2⟩
def bothB (a p o q t : Nat) : Bool := fireB a p t && fireB o q t
theorem bothB_iff {a p o q t : Nat} : bothB a p o q t = true ↔ (a < t ∧ (t - a) % p = 0) ∧ (o < t ∧ (t - o) % q = 0) := by
  unfold bothB fireB
  rw [Bool.and_eq_true, decide_eq_true_iff, decide_eq_true_iff]
/-- how many of n numbers from lo on have a property -/
def cntP (P : Nat → Bool) (lo : Nat) : Nat → Nat
  | 0 => 0
  | n + 1 => cntP P lo n + if P (lo + n) = true then 1 else 0
theorem cntP_zero {P : Nat → Bool} {lo : Nat} : ∀ n, (∀ t, lo ≤ t → t < lo + n → P t = false) → cntP P lo n = 0
  | 0, _ => rfl
  | n + 1, h => by
    unfold cntP
    rw [cntP_zero n (fun t h1 h2 => h t h1 (by omega)), h (lo + n) (by omega) (by omega)]
    rfl
theorem cntP_add (P : Nat → Bool) (lo m : Nat) : ∀ n, cntP P lo (m + n) = cntP P lo m + cntP P (lo + m) n
  | 0 => rfl
  | n + 1 => by
    show cntP P lo (m + n) + (if P (lo + (m + n)) = true then 1 else 0) = cntP P lo m + (cntP P (lo + m) n + if P (lo + m + n) = true then 1 else 0)
    rw [cntP_add P lo m n, show lo + (m + n) = lo + m + n by omega]
    omega
theorem cntP_congr {P R : Nat → Bool} {lo : Nat} : ∀ n, (∀ t, lo ≤ t → t < lo + n → P t = R t) → cntP P lo n = cntP R lo n
  | 0, _ => rfl
  | n + 1, h => by
    unfold cntP
    rw [cntP_congr n (fun t h1 h2 => h t h1 (by omega)), h (lo + n) (by omega) (by omega)]
/-- of n numbers from m on, e apart -/
def cntW2 (P : Nat → Bool) (m e : Nat) : Nat → Nat
  | 0 => 0
  | n + 1 => cntW2 P m e n + if P (m + n * e) = true then 1 else 0
theorem cntW2_windows {P : Nat → Bool} {m e : Nat} (he : 1 ≤ e) (h : ∀ t, P t = true → m ≤ t → e ∣ t - m) : ∀ n, cntP P m (n * e) = cntW2 P m e n
  | 0 => by
    rw [Nat.zero_mul]
    rfl
  | n + 1 => by
    have ih := cntW2_windows he h n
    have e1 : (n + 1) * e = n * e + (1 + (e - 1)) := by
      rw [Nat.succ_mul]
      omega
    rw [e1, cntP_add, ih, cntP_add]
    have z : cntP P (m + n * e + 1) (e - 1) = 0 := by
      refine cntP_zero _ fun t h1 h2 => ?_
      cases hp : P t with
      | false => rfl
      | true =>
        obtain ⟨k, hk⟩ := h t hp (by omega)
        have a1 : n * e < e * k := by omega
        have a2 : e * k < (n + 1) * e := by
          rw [Nat.succ_mul]
          omega
        rw [Nat.mul_comm e k] at a1 a2
        have b1 := Nat.lt_of_mul_lt_mul_right a1
        have b2 := Nat.lt_of_mul_lt_mul_right a2
        omega
    rw [z]
    show cntW2 P m e n + (0 + (if P (m + n * e + 0) = true then 1 else 0) + 0) = cntW2 P m e n + if P (m + n * e) = true then 1 else 0
    rw [Nat.add_zero, Nat.add_zero, Nat.zero_add]
def meetM (f e x : Nat) : Nat := f + (x - f + (e - 1)) / e * e
def meetN (m e y : Nat) : Nat := (y - m + (e - 1)) / e
theorem up_ge {x e : Nat} (he : 1 ≤ e) : x ≤ (x + (e - 1)) / e * e := by
  have h1 := Nat.div_add_mod (x + (e - 1)) e
  have h2 := Nat.mod_lt (x + (e - 1)) (show 0 < e by omega)
  rw [Nat.mul_comm] at h1
  omega
theorem up_lt {x e k : Nat} (he : 1 ≤ e) (hk : k < (x + (e - 1)) / e) : k * e < x := by
  have h1 : (k + 1) * e ≤ x + (e - 1) := by
    have := (Nat.le_div_iff_mul_le (show 0 < e by omega)).mp hk
    exact this
  rw [Nat.succ_mul] at h1
  omega
theorem meetM_ge {f e x : Nat} (he : 1 ≤ e) : x ≤ meetM f e x := by
  unfold meetM
  have := up_ge (x := x - f) he
  omega
theorem meetM_le {f e x t : Nat} (he : 1 ≤ e) (h1 : x ≤ t) (h2 : f ≤ t) (h3 : e ∣ t - f) : meetM f e x ≤ t := by
  obtain ⟨k, hk⟩ := h3
  unfold meetM
  rcases Nat.lt_or_ge k ((x - f + (e - 1)) / e) with l | l
  · have := up_lt he l
    rw [Nat.mul_comm] at this
    omega
  · have z : (x - f + (e - 1)) / e * e ≤ k * e := Nat.mul_le_mul_right e l
    rw [Nat.mul_comm k e] at z
    omega
theorem meet_dvd {f e x t : Nat} (h1 : meetM f e x ≤ t) (h3 : e ∣ t - f) : e ∣ t - meetM f e x := by
  unfold meetM at h1 ⊢
  have z : t - (f + (x - f + (e - 1)) / e * e) = (t - f) - (x - f + (e - 1)) / e * e := by omega
  rw [z]
  exact Nat.dvd_sub h3 (Nat.dvd_mul_left e _)
theorem meetM_dvd {f e x k : Nat} : e ∣ meetM f e x + k * e - f := by
  unfold meetM
  have z : f + (x - f + (e - 1)) / e * e + k * e - f = (x - f + (e - 1)) / e * e + k * e := by omega
  rw [z]
  exact Nat.dvd_add (Nat.dvd_mul_left e _) (Nat.dvd_mul_left e _)
/-- a range counted by the ticks at which both fire -/
theorem cnt_range {P : Nat → Bool} {f e x y : Nat} (he : 1 ≤ e) (hxy : x ≤ y) (h : ∀ t, P t = true → f ≤ t ∧ e ∣ t - f) : cntP P x (y - x) = cntW2 P (meetM f e x) e (meetN (meetM f e x) e y) := by
  have hx := meetM_ge (f := f) (x := x) he
  have hle : ∀ t, P t = true → x ≤ t → meetM f e x ≤ t := fun t hp ht => meetM_le he ht (h t hp).1 (h t hp).2
  have hdv : ∀ t, P t = true → meetM f e x ≤ t → e ∣ t - meetM f e x := fun t hp ht => meet_dvd ht (h t hp).2
  rw [← cntW2_windows he hdv]
  have hge : ∀ k, k < meetN (meetM f e x) e y → meetM f e x + k * e < y := fun k hk => by
    have := up_lt he hk
    omega
  have hup : y ≤ meetM f e x + meetN (meetM f e x) e y * e := by
    have := up_ge (x := y - meetM f e x) he
    unfold meetN
    omega
  generalize meetM f e x = m at *
  generalize meetN m e y = n at *
  have e1 : cntP P x (m - x + n * e) = cntP P m (n * e) := by
    rw [cntP_add, cntP_zero (m - x), Nat.zero_add, show x + (m - x) = m by omega]
    intro t h1 h2
    cases hp : P t with
    | false => rfl
    | true =>
      have := hle t hp h1
      omega
  have e2 : cntP P x (m - x + n * e) = cntP P x (y - x) := by
    rw [show m - x + n * e = (y - x) + (m + n * e - y) by omega, cntP_add, cntP_zero (m + n * e - y), Nat.add_zero]
    intro t h1 h2
    cases hp : P t with
    | false => rfl
    | true =>
      have h3 := hle t hp (by omega)
      obtain ⟨k, hk⟩ := hdv t hp h3
      rw [Nat.mul_comm] at hk
      have h4 : k * e < n * e := by omega
      have h5 := hge k (Nat.lt_of_mul_lt_mul_right h4)
      omega
  rw [← e2, e1]
/-- the ticks of a progression that lie behind a tick -/
def tickL (m e M : Nat) : Nat → List Nat
  | 0 => []
  | n + 1 => tickL m e M n ++ if M < m + n * e then [m + n * e] else []
theorem tickL_len (m e M : Nat) : ∀ n, (tickL m e M n).length ≤ n
  | 0 => Nat.le_refl _
  | n + 1 => by
    have ih := tickL_len m e M n
    unfold tickL
    rw [List.length_append]
    split
    · rw [List.length_singleton]
      omega
    · rw [List.length_nil]
      omega
theorem tickL_cnt {P A : Nat → Bool} {m e M : Nat} : ∀ n, (∀ k, k < n → P (m + k * e) = (decide (M < m + k * e) && A (m + k * e))) → (tickL m e M n).countP A = cntW2 P m e n
  | 0, _ => rfl
  | n + 1, h => by
    have ih := tickL_cnt n (fun k hk => h k (by omega))
    unfold tickL cntW2
    rw [List.countP_append, ih, h n (by omega)]
    by_cases c : M < m + n * e
    · rw [if_pos c, decide_eq_true c, Bool.true_and, List.countP_singleton]
    · rw [if_neg c, decide_eq_false c, Bool.false_and, List.countP_nil]
      rfl
theorem tickL_mem {m e M t : Nat} : ∀ {n}, t ∈ tickL m e M n → ∃ k, k < n ∧ t = m + k * e ∧ M < t
  | 0, h => by cases h
  | n + 1, h => by
    rcases List.mem_append.mp h with h | h
    · obtain ⟨k, h1, h2⟩ := tickL_mem h
      exact ⟨k, by omega, h2⟩
    · by_cases c : M < m + n * e
      · rw [if_pos c] at h
        have := List.mem_singleton.mp h
        exact ⟨n, by omega, this, by omega⟩
      · rw [if_neg c] at h
        cases h
def topS (i : Nat) : Stmt := PySem.Challenge.pw_timerdeque_k34_orders_and_counts_refused.main.body.getD i (.Pass ⟨0, 0, 0, 0⟩)
abbrev s_is_integer : Stmt := topS 13
abbrev N_is_integer : List Str := ["given"]
theorem sc_is_integer : FnScope N_is_integer ["given"] (defScope s_is_integer) := by
  refine ⟨rfl, rfl, rfl, ?_, rfl, ?_, ?_⟩ <;> decide +kernel
abbrev s_is_word : Stmt := topS 14
abbrev N_is_word : List Str := ["given"]
theorem sc_is_word : FnScope N_is_word ["given"] (defScope s_is_word) := by
  refine ⟨rfl, rfl, rfl, ?_, rfl, ?_, ?_⟩ <;> decide +kernel
abbrev s_is_base : Stmt := topS 15
abbrev N_is_base : List Str := ["given"]
theorem sc_is_base : FnScope N_is_base ["given"] (defScope s_is_base) := by
  refine ⟨rfl, rfl, rfl, ?_, rfl, ?_, ?_⟩ <;> decide +kernel
abbrev s_is_length : Stmt := topS 16
abbrev N_is_length : List Str := ["given"]
theorem sc_is_length : FnScope N_is_length ["given"] (defScope s_is_length) := by
  refine ⟨rfl, rfl, rfl, ?_, rfl, ?_, ?_⟩ <;> decide +kernel
abbrev s_are_levels : Stmt := topS 17
abbrev N_are_levels : List Str := ["given", "word"]
theorem sc_are_levels : FnScope N_are_levels ["given"] (defScope s_are_levels) := by
  refine ⟨rfl, rfl, rfl, ?_, rfl, ?_, ?_⟩ <;> decide +kernel
abbrev s_is_tick : Stmt := topS 18
abbrev N_is_tick : List Str := ["given", "least"]
theorem sc_is_tick : FnScope N_is_tick ["given", "least"] (defScope s_is_tick) := by
  refine ⟨rfl, rfl, rfl, ?_, rfl, ?_, ?_⟩ <;> decide +kernel
abbrev s_is_period : Stmt := topS 19
abbrev N_is_period : List Str := ["given"]
theorem sc_is_period : FnScope N_is_period ["given"] (defScope s_is_period) := by
  refine ⟨rfl, rfl, rfl, ?_, rfl, ?_, ?_⟩ <;> decide +kernel
abbrev s_check_base : Stmt := topS 20
abbrev N_check_base : List Str := ["base"]
theorem sc_check_base : FnScope N_check_base ["base"] (defScope s_check_base) := by
  refine ⟨rfl, rfl, rfl, ?_, rfl, ?_, ?_⟩ <;> decide +kernel
abbrev s_check_levels : Stmt := topS 21
abbrev N_check_levels : List Str := ["levels"]
theorem sc_check_levels : FnScope N_check_levels ["levels"] (defScope s_check_levels) := by
  refine ⟨rfl, rfl, rfl, ?_, rfl, ?_, ?_⟩ <;> decide +kernel
abbrev s_check_tick : Stmt := topS 22
abbrev N_check_tick : List Str := ["tick", "least"]
theorem sc_check_tick : FnScope N_check_tick ["tick", "least"] (defScope s_check_tick) := by
  refine ⟨rfl, rfl, rfl, ?_, rfl, ?_, ?_⟩ <;> decide +kernel
abbrev s_word_at : Stmt := topS 24
abbrev N_word_at : List Str := ["levels", "level"]
theorem sc_word_at : FnScope N_word_at ["levels", "level"] (defScope s_word_at) := by
  refine ⟨rfl, rfl, rfl, ?_, rfl, ?_, ?_⟩ <;> decide +kernel
abbrev s_level_and_size : Stmt := topS 25
abbrev N_level_and_size : List Str := ["base", "now", "due", "level", "size", "above_now", "above_due"]
theorem sc_level_and_size : FnScope N_level_and_size ["base", "now", "due"] (defScope s_level_and_size) := by
  refine ⟨rfl, rfl, rfl, ?_, rfl, ?_, ?_⟩ <;> decide +kernel
abbrev s_path : Stmt := topS 26
abbrev N_path : List Str := ["base", "now", "due", "level", "size", "rows", "tick", "digit"]
theorem sc_path : FnScope N_path ["base", "now", "due"] (defScope s_path) := by
  refine ⟨rfl, rfl, rfl, ?_, rfl, ?_, ?_⟩ <;> decide +kernel
abbrev s_goes_in_front : Stmt := topS 27
abbrev N_goes_in_front : List Str := ["base", "levels", "now", "due", "lowest", "front", "level", "digit", "tick"]
theorem sc_goes_in_front : FnScope N_goes_in_front ["base", "levels", "now", "due", "lowest"] (defScope s_goes_in_front) := by
  refine ⟨rfl, rfl, rfl, ?_, rfl, ?_, ?_⟩ <;> decide +kernel
abbrev s_with_timer : Stmt := topS 28
abbrev N_with_timer : List Str := ["numbers", "number", "front"]
theorem sc_with_timer : FnScope N_with_timer ["numbers", "number", "front"] (defScope s_with_timer) := by
  refine ⟨rfl, rfl, rfl, ?_, rfl, ?_, ?_⟩ <;> decide +kernel
abbrev s_firing_order : Stmt := topS 29
abbrev N_firing_order : List Str := ["base", "levels", "due", "settings", "numbers", "number", "now"]
theorem sc_firing_order : FnScope N_firing_order ["base", "levels", "due", "settings"] (defScope s_firing_order) := by
  refine ⟨rfl, rfl, rfl, ?_, rfl, ?_, ?_⟩ <;> decide +kernel
abbrev s_is_periodic : Stmt := topS 32
abbrev N_is_periodic : List Str := ["given", "phase", "period"]
theorem sc_is_periodic : FnScope N_is_periodic ["given"] (defScope s_is_periodic) := by
  refine ⟨rfl, rfl, rfl, ?_, rfl, ?_, ?_⟩ <;> decide +kernel
abbrev s_check_periodic : Stmt := topS 33
abbrev N_check_periodic : List Str := ["given"]
theorem sc_check_periodic : FnScope N_check_periodic ["given"] (defScope s_check_periodic) := by
  refine ⟨rfl, rfl, rfl, ?_, rfl, ?_, ?_⟩ <;> decide +kernel
abbrev s_check_two : Stmt := topS 34
abbrev N_check_two : List Str := ["one", "other"]
theorem sc_check_two : FnScope N_check_two ["one", "other"] (defScope s_check_two) := by
  refine ⟨rfl, rfl, rfl, ?_, rfl, ?_, ?_⟩ <;> decide +kernel
abbrev s_check_several : Stmt := topS 35
abbrev N_check_several : List Str := ["some", "given", "phase", "period"]
theorem sc_check_several : FnScope N_check_several ["some"] (defScope s_check_several) := by
  refine ⟨rfl, rfl, rfl, ?_, rfl, ?_, ?_⟩ <;> decide +kernel
abbrev s_fires_again : Stmt := topS 36
abbrev N_fires_again : List Str := ["timer", "tick", "phase", "period"]
theorem sc_fires_again : FnScope N_fires_again ["timer", "tick"] (defScope s_fires_again) := by
  refine ⟨rfl, rfl, rfl, ?_, rfl, ?_, ?_⟩ <;> decide +kernel
abbrev s_divisor_and_factor : Stmt := topS 37
abbrev N_divisor_and_factor : List Str := ["number", "modulus", "divisor", "rest", "factor", "following", "times"]
theorem sc_divisor_and_factor : FnScope N_divisor_and_factor ["number", "modulus"] (defScope s_divisor_and_factor) := by
  refine ⟨rfl, rfl, rfl, ?_, rfl, ?_, ?_⟩ <;> decide +kernel
abbrev s_meetings : Stmt := topS 38
abbrev N_meetings : List Str := ["one", "other", "phase", "period", "other_phase", "other_period", "divisor", "factor", "apart", "tick", "every", "begin"]
theorem sc_meetings : FnScope N_meetings ["one", "other"] (defScope s_meetings) := by
  refine ⟨rfl, rfl, rfl, ?_, rfl, ?_, ?_⟩ <;> decide +kernel
abbrev s_is_ahead : Stmt := topS 39
abbrev N_is_ahead : List Str := ["base", "levels", "one", "other", "tick"]
theorem sc_is_ahead : FnScope N_is_ahead ["base", "levels", "one", "other", "tick"] (defScope s_is_ahead) := by
  refine ⟨rfl, rfl, rfl, ?_, rfl, ?_, ?_⟩ <;> decide +kernel
abbrev s_order_at : Stmt := topS 40
abbrev N_order_at : List Str := ["base", "levels", "some", "tick", "rows", "settings", "index", "timer", "period", "phase"]
theorem sc_order_at : FnScope N_order_at ["base", "levels", "some", "tick"] (defScope s_order_at) := by
  refine ⟨rfl, rfl, rfl, ?_, rfl, ?_, ?_⟩ <;> decide +kernel
abbrev s_times_first : Stmt := topS 41
abbrev N_times_first : List Str := ["base", "levels", "one", "other", "first", "behind", "found", "meeting", "every", "ticks", "tick"]
theorem sc_times_first : FnScope N_times_first ["base", "levels", "one", "other", "first", "behind"] (defScope s_times_first) := by
  refine ⟨rfl, rfl, rfl, ?_, rfl, ?_, ?_⟩ <;> decide +kernel
abbrev s__law_cell_at : Stmt := topS 43
abbrev N__law_cell_at : List Str := ["_law_script", "_law_k"]
theorem sc__law_cell_at : FnScope N__law_cell_at ["_law_script", "_law_k"] (defScope s__law_cell_at) := by
  refine ⟨rfl, rfl, rfl, ?_, rfl, ?_, ?_⟩ <;> decide +kernel
abbrev s__law_mixed : Stmt := topS 44
abbrev N__law_mixed : List Str := ["_law_cell", "_law_k", "_law_low"]
theorem sc__law_mixed : FnScope N__law_mixed ["_law_cell", "_law_k"] (defScope s__law_mixed) := by
  refine ⟨rfl, rfl, rfl, ?_, rfl, ?_, ?_⟩ <;> decide +kernel
abbrev s__law_source : Stmt := topS 45
abbrev N__law_source : List Str := ["_law_script", "_law_k", "_law_cell"]
theorem sc__law_source : FnScope N__law_source ["_law_script", "_law_k"] (defScope s__law_source) := by
  refine ⟨rfl, rfl, rfl, ?_, rfl, ?_, ?_⟩ <;> decide +kernel
abbrev s__law_next : Stmt := topS 46
abbrev N__law_next : List Str := ["_law_source_here", "_law_many", "_law_found"]
theorem sc__law_next : FnScope N__law_next ["_law_source_here", "_law_many"] (defScope s__law_next) := by
  refine ⟨rfl, rfl, rfl, ?_, rfl, ?_, ?_⟩ <;> decide +kernel
abbrev s__law_base : Stmt := topS 47
abbrev N__law_base : List Str := ["_law_source_here"]
theorem sc__law_base : FnScope N__law_base ["_law_source_here"] (defScope s__law_base) := by
  refine ⟨rfl, rfl, rfl, ?_, rfl, ?_, ?_⟩ <;> decide +kernel
abbrev s__law_levels : Stmt := topS 48
abbrev N__law_levels : List Str := ["_law_source_here", "_law_many", "_law_sort", "_law_found", "_law_at"]
theorem sc__law_levels : FnScope N__law_levels ["_law_source_here"] (defScope s__law_levels) := by
  refine ⟨rfl, rfl, rfl, ?_, rfl, ?_, ?_⟩ <;> decide +kernel
abbrev s__law_word : Stmt := topS 49
abbrev N__law_word : List Str := ["_law_ask_here", "e", "_law_kinds"]
theorem sc__law_word : FnScope N__law_word ["_law_ask_here"] (defScope s__law_word) := by
  refine ⟨rfl, rfl, rfl, ?_, rfl, ?_, ?_⟩ <;> decide +kernel
abbrev s__law_bad_base : Stmt := topS 50
abbrev N__law_bad_base : List Str := ["_law_source_here"]
theorem sc__law_bad_base : FnScope N__law_bad_base ["_law_source_here"] (defScope s__law_bad_base) := by
  refine ⟨rfl, rfl, rfl, ?_, rfl, ?_, ?_⟩ <;> decide +kernel
abbrev s__law_bad_levels : Stmt := topS 51
abbrev N__law_bad_levels : List Str := ["_law_source_here", "_law_odd"]
theorem sc__law_bad_levels : FnScope N__law_bad_levels ["_law_source_here"] (defScope s__law_bad_levels) := by
  refine ⟨rfl, rfl, rfl, ?_, rfl, ?_, ?_⟩ <;> decide +kernel
abbrev s__law_bad_tick : Stmt := topS 52
abbrev N__law_bad_tick : List Str := ["_law_source_here"]
theorem sc__law_bad_tick : FnScope N__law_bad_tick ["_law_source_here"] (defScope s__law_bad_tick) := by
  refine ⟨rfl, rfl, rfl, ?_, rfl, ?_, ?_⟩ <;> decide +kernel
abbrev s__law_bad_pair : Stmt := topS 53
abbrev N__law_bad_pair : List Str := ["_law_source_here", "_law_odd"]
theorem sc__law_bad_pair : FnScope N__law_bad_pair ["_law_source_here"] (defScope s__law_bad_pair) := by
  refine ⟨rfl, rfl, rfl, ?_, rfl, ?_, ?_⟩ <;> decide +kernel
abbrev s__law_bad_list : Stmt := topS 54
abbrev N__law_bad_list : List Str := ["_law_source_here", "_law_pairs", "_law_spoilt_here", "_law_alike"]
theorem sc__law_bad_list : FnScope N__law_bad_list ["_law_source_here", "_law_pairs"] (defScope s__law_bad_list) := by
  refine ⟨rfl, rfl, rfl, ?_, rfl, ?_, ?_⟩ <;> decide +kernel
abbrev s__law_ask : Stmt := topS 55
abbrev N__law_ask : List Str := ["_law_way", "_law_row"]
theorem sc__law_ask : FnScope N__law_ask ["_law_way", "_law_row"] (defScope s__law_ask) := by
  refine ⟨rfl, rfl, rfl, ?_, rfl, ?_, ?_⟩ <;> decide +kernel
abbrev s__law_spoilt : Stmt := topS 56
abbrev N__law_spoilt : List Str := ["_law_source_here", "_law_row", "_law_odd", "_law_names", "_law_found", "_law_bad", "_law_time", "_law_at"]
theorem sc__law_spoilt : FnScope N__law_spoilt ["_law_source_here", "_law_row", "_law_odd", "_law_names"] (defScope s__law_spoilt) := by
  refine ⟨rfl, rfl, rfl, ?_, rfl, ?_, ?_⟩ <;> decide +kernel
abbrev s__law_rows : Stmt := topS 57
abbrev N__law_rows : List Str := ["_law_source_here", "_law_radix", "_law_words", "_law_late", "_law_pairs", "_law_pace", "_law_bad_tick_here", "_law_row", "_law_odd", "_law_found", "_law_pair", "_law_twin", "_law_begin", "_law_bad_pairs", "_law_back"]
theorem sc__law_rows : FnScope N__law_rows ["_law_source_here"] (defScope s__law_rows) := by
  refine ⟨rfl, rfl, rfl, ?_, rfl, ?_, ?_⟩ <;> decide +kernel
abbrev s_law : Stmt := topS 58
abbrev N_law : List Str := ["_law_script", "_law_k", "_law_rows_here", "_law_kept", "_law_at", "_law_wish", "_law_row", "_law_way"]
theorem sc_law : FnScope N_law ["_law_script"] (defScope s_law) := by
  refine ⟨rfl, rfl, rfl, ?_, rfl, ?_, ?_⟩ <;> decide +kernel
/-- what the top leaves of built-in names -/
structure Tx (K : PySem.W.Frag) (mg : Str → Option Value) : Prop where
  b_isinstance : mg "isinstance" = none
  b_int : mg "int" = none
  b_bool : mg "bool" = none
  b_str : mg "str" = none
  b_all : mg "all" = none
  b_list : mg "list" = none
  b_len : mg "len" = none
  b_min : mg "min" = none
  b_tuple : mg "tuple" = none
  b_set : mg "set" = none
  b_max : mg "max" = none
  b_enumerate : mg "enumerate" = none
  b_sorted : mg "sorted" = none
  b_range : mg "range" = none
  b_ValueError : mg "ValueError" = none
  b_repr : mg "repr" = none
/-! ### the program: what an integer is, bases, ticks -/
def slotInt (σ : L2.St) (i : Nat) : Nat := match σ[i]? with
  | some (some (.int z)) => z.toNat
  | _ => 0
theorem cast_div (a b : Nat) : (a : Int) / (b : Int) = ((a / b : Nat) : Int) := rfl
theorem cast_mod (a b : Nat) : (a : Int) % (b : Int) = ((a % b : Nat) : Int) := rfl
theorem cast_mul (a b : Nat) : (a : Int) * (b : Int) = ((a * b : Nat) : Int) := (Int.natCast_mul a b).symm
theorem cast_add (a b : Nat) : (a : Int) + (b : Int) = ((a + b : Nat) : Int) := rfl
theorem natAbs_cast (a : Nat) : ((a : Nat) : Int).natAbs = a := rfl
theorem divp_s {i j : Int} (b : Nat) (hj : 0 < j) (hi : i.natAbs < 2 ^ b) (h : b ≤ 3000 := by decide) : CDivP i j := by
  refine divp_ok hj ?_
  have := PyProof.Rows.intBits_le hi
  omega
section
variable {P : Program} {w : World} {K : PySem.W.Frag} {mg : Str → Option Value} {base : Heap}
def spIsInt : Sp := fun vs H Q _ => ∃ n : Int, vs = [.int n] ∧ Q (.bl true) H
theorem ok_is_integer {f : Addr} {fd : FuncData} (F : Fun K "is_integer" "is_integer" s_is_integer f fd) (T : Tx K mg) : FnOk P w K mg base CX0 1 f fd ["given"] spIsInt := by
  refine F.ok sc_is_integer (fun vs H Q E h => ?_) (fun cdv A outer s H vs Q E hr h => ?_)
  · obtain ⟨n, rfl, _⟩ := h
    rfl
  · obtain ⟨n, rfl, q⟩ := h
    refine ⟨_, (pss_one (ps_ret (pe_and (pe_callB (isiK (K := K) rfl) (by rfl) T.b_isinstance (by decide +kernel) (pa_cons (pv 0) (pa_cons (pe_bltn (v := .ty "int") (u := .type "int") (by rfl) T.b_int (by decide +kernel) rfl) pa_nil))) (pe_one (pe_not (pe_callB (isiK (K := K) rfl) (by rfl) T.b_isinstance (by decide +kernel) (pa_cons (pv 0) (pa_cons (pe_bltn (v := .ty "bool") (u := .type "bool") (by rfl) T.b_bool (by decide +kernel) rfl) pa_nil)))))))), ?_⟩
    refine ⟨.int n, rfl, .int n, _, _, _, true, rfl, .ty "int", .base (.int n), kit_ty (by decide +kernel), true, rfl, iteT ?_⟩
    exact ⟨.int n, rfl, .int n, _, _, _, false, rfl, .ty "bool", .base (.int n), kit_ty (by decide +kernel), false, rfl, q⟩
end
/-! a tick, of an integer -/
section
variable {P : Program} {w : World} {K : PySem.W.Frag} {mg : Str → Option Value} {base : Heap}
def spIsTick : Sp := fun vs H Q _ => ∃ n l : Int, vs = [.int n, .int l] ∧ l ≤ n ∧ Q (.bl true) H
theorem ok_is_tick {f : Addr} {fd : FuncData} (F : FunD K "is_tick" "is_tick" (defArgs s_is_tick) (defBody s_is_tick) (defScope s_is_tick) [.int 0] [] f fd) (T : Tx K mg) (h1 : Has P w K mg base 1 "is_integer" ["given"] [] spIsInt) : FnOk P w K mg base CX0 2 f fd ["given", "least"] spIsTick := by
  obtain ⟨f_is_integer, fd_is_integer, ds_is_integer, G_is_integer, m_is_integer, k_is_integer, b_is_integer, v_is_integer⟩ := h1
  refine F.ok sc_is_tick (fun vs H Q E h => ?_) (fun cdv A outer s H vs Q E hr h => ?_)
  · obtain ⟨n, l, rfl, _⟩ := h
    rfl
  · obtain ⟨n, l, rfl, l1, q⟩ := h
    refine ⟨_, PSs.nox (pss_one (ps_ret (pe_and (pe_call G_is_integer hr (by rfl) m_is_integer k_is_integer b_is_integer v_is_integer pass0 (pa_cons (pv 0) pa_nil)) (pe_one (pe_cmpR op_ge (pv 0) (pv 1) (nomark _)))))), ?_⟩
    refine ⟨.int n, rfl, n, rfl, true, rfl, iteT ?_⟩
    refine ⟨.int n, rfl, .int l, rfl, n, l, rfl, rfl, ?_⟩
    have e : V.bl (decide (n ≥ l)) = V.bl true := dT l1
    show Q (V.bl (decide (n ≥ l))) H
    rw [e]
    exact q
end
/-! ### bases and ticks -/
section
variable {P : Program} {w : World} {K : PySem.W.Frag} {mg : Str → Option Value} {base : Heap}
def spIsBase : Sp := fun vs H Q _ => ∃ n : Int, vs = [.int n] ∧ 2 ≤ n ∧ n ≤ 64 ∧ Q (.bl true) H
theorem ok_is_base {f : Addr} {fd : FuncData} (F : Fun K "is_base" "is_base" s_is_base f fd) (h1 : Has P w K mg base 1 "is_integer" ["given"] [] spIsInt) : FnOk P w K mg base CX0 2 f fd ["given"] spIsBase := by
  obtain ⟨f_is_integer, fd_is_integer, ds_is_integer, G_is_integer, m_is_integer, k_is_integer, b_is_integer, v_is_integer⟩ := h1
  refine F.ok sc_is_base (fun vs H Q E h => ?_) (fun cdv A outer s H vs Q E hr h => ?_)
  · obtain ⟨n, rfl, _⟩ := h
    rfl
  · obtain ⟨n, rfl, l1, l2, q⟩ := h
    refine ⟨_, (pss_one (ps_ret (pe_and (pe_call G_is_integer hr (by rfl) m_is_integer k_is_integer b_is_integer v_is_integer pass0 (pa_cons (pv 0) pa_nil)) (pe_one (pe_chain op_le op_le pe_int (pv 0) pe_int))))), ?_⟩
    refine ⟨.int n, rfl, n, rfl, true, rfl, iteT ?_⟩
    refine ⟨.int n, rfl, 2, n, rfl, rfl, true, congrArg V.bl (decide_eq_true l1), iteT ?_⟩
    refine ⟨n, 64, rfl, rfl, ?_⟩
    have e : V.bl (decide (n ≤ 64)) = V.bl true := dT l2
    show Q (V.bl (decide (n ≤ 64))) H
    rw [e]
    exact q
def spCheckBase : Sp := fun vs H Q _ => ∃ n : Int, vs = [.int n] ∧ 2 ≤ n ∧ n ≤ 64 ∧ Q .non H
theorem ok_check_base {f : Addr} {fd : FuncData} (F : Fun K "check_base" "check_base" s_check_base f fd) (h1 : Has P w K mg base 2 "is_base" ["given"] [] spIsBase) : FnOk P w K mg base CX0 3 f fd ["base"] spCheckBase := by
  obtain ⟨f_is_base, fd_is_base, ds_is_base, G_is_base, m_is_base, k_is_base, b_is_base, v_is_base⟩ := h1
  refine F.ok sc_check_base (fun vs H Q E h => ?_) (fun cdv A outer s H vs Q E hr h => ?_)
  · obtain ⟨n, rfl, _⟩ := h
    rfl
  · obtain ⟨n, rfl, l1, l2, q⟩ := h
    refine ⟨_, (pss_one (ps_if (pt_not (pt_val (pe_call G_is_base hr (by rfl) m_is_base k_is_base b_is_base v_is_base pass0 (pa_cons (pv 0) pa_nil))))
        (pss_one ps_never)
        pss_nil)), ?_⟩
    exact ⟨.int n, rfl, n, rfl, l1, l2, true, rfl, iteF q⟩
def spCheckTick : Sp := fun vs H Q _ => ∃ n l : Int, vs = [.int n, .int l] ∧ l ≤ n ∧ Q .non H
theorem ok_check_tick {f : Addr} {fd : FuncData} (F : FunD K "check_tick" "check_tick" (defArgs s_check_tick) (defBody s_check_tick) (defScope s_check_tick) [.int 0] [] f fd) (h1 : Has P w K mg base 2 "is_tick" ["given", "least"] [] spIsTick) : FnOk P w K mg base CX0 3 f fd ["tick", "least"] spCheckTick := by
  obtain ⟨f_is_tick, fd_is_tick, ds_is_tick, G_is_tick, m_is_tick, k_is_tick, b_is_tick, v_is_tick⟩ := h1
  refine F.ok sc_check_tick (fun vs H Q E h => ?_) (fun cdv A outer s H vs Q E hr h => ?_)
  · obtain ⟨n, l, rfl, _⟩ := h
    rfl
  · obtain ⟨n, l, rfl, l1, q⟩ := h
    refine ⟨_, PSs.nox (pss_one (ps_if (pt_not (pt_val (pe_call G_is_tick hr (by rfl) m_is_tick k_is_tick b_is_tick v_is_tick pass0 (pa_cons (pv 0) (pa_cons (pv 1) pa_nil)))))
        (pss_one ps_never)
        pss_nil)), ?_⟩
    exact ⟨.int n, rfl, .int l, rfl, n, l, rfl, l1, true, rfl, iteF q⟩
end
/-! ### is_integer of any value; a tick that is none -/
section
variable {P : Program} {w : World} {K : PySem.W.Frag} {mg : Str → Option Value} {base : Heap}
def spIsIntX (K : PySem.W.Frag) : Sp := fun vs H Q _ => ∃ x : V, vs = [x] ∧ ((∃ n : Int, x = .int n ∧ Q (.bl true) H) ∨ (NoInt K H x ∧ Q (.bl false) H))
theorem okA_is_integer {f : Addr} {fd : FuncData} (F : Fun K "is_integer" "is_integer" s_is_integer f fd) (T : Tx K mg) : FnOk P w K mg base CX0 1 f fd ["given"] (spIsIntX K) := by
  refine F.ok sc_is_integer (fun vs H Q E h => ?_) (fun cdv A outer s H vs Q E hr h => ?_)
  · obtain ⟨x, rfl, _⟩ := h
    rfl
  · obtain ⟨x, rfl, hx⟩ := h
    refine ⟨_, (pss_one (ps_ret (pe_and (pe_callB (isiK (K := K) rfl) (by rfl) T.b_isinstance (by decide +kernel) (pa_cons (pv 0) (pa_cons (pe_bltn (v := .ty "int") (u := .type "int") (by rfl) T.b_int (by decide +kernel) rfl) pa_nil))) (pe_one (pe_not (pe_callB (isiK (K := K) rfl) (by rfl) T.b_isinstance (by decide +kernel) (pa_cons (pv 0) (pa_cons (pe_bltn (v := .ty "bool") (u := .type "bool") (by rfl) T.b_bool (by decide +kernel) rfl) pa_nil)))))))), ?_⟩
    rcases hx with ⟨n, rfl, q⟩ | ⟨⟨t, ht, hn⟩, q⟩
    · refine ⟨.int n, rfl, .int n, _, _, _, true, rfl, .ty "int", .base (.int n), kit_ty (by decide +kernel), true, rfl, iteT ?_⟩
      exact ⟨.int n, rfl, .int n, _, _, _, false, rfl, .ty "bool", .base (.int n), kit_ty (by decide +kernel), false, rfl, q⟩
    · obtain ⟨i, b, h1, h2, h3⟩ := hn.kit (K := K)
      cases i with
      | false => exact ⟨x, rfl, x, _, _, _, false, rfl, .ty "int", ht, h1, false, rfl, iteF q⟩
      | true =>
        refine ⟨x, rfl, x, _, _, _, true, rfl, .ty "int", ht, h1, true, rfl, iteT ?_⟩
        exact ⟨x, rfl, x, _, _, _, b, rfl, .ty "bool", ht, h2, b, rfl, by rw [h3 rfl]; exact q⟩
/-- what is no tick from l on -/
def BadTick (K : PySem.W.Frag) (H : Hp) (x : V) (l : Int) : Prop := NoInt K H x ∨ ∃ n : Int, x = .int n ∧ n < l
def spIsTickX (K : PySem.W.Frag) : Sp := fun vs H Q _ => ∃ (x : V) (l : Int), vs = [x, .int l] ∧ ((∃ n : Int, x = .int n ∧ l ≤ n ∧ Q (.bl true) H) ∨ (BadTick K H x l ∧ Q (.bl false) H))
theorem okA_is_tick {f : Addr} {fd : FuncData} (F : FunD K "is_tick" "is_tick" (defArgs s_is_tick) (defBody s_is_tick) (defScope s_is_tick) [.int 0] [] f fd) (h1 : Has P w K mg base 1 "is_integer" ["given"] [] (spIsIntX K)) : FnOk P w K mg base CX0 2 f fd ["given", "least"] (spIsTickX K) := by
  obtain ⟨f_is_integer, fd_is_integer, ds_is_integer, G_is_integer, m_is_integer, k_is_integer, b_is_integer, v_is_integer⟩ := h1
  refine F.ok sc_is_tick (fun vs H Q E h => ?_) (fun cdv A outer s H vs Q E hr h => ?_)
  · obtain ⟨x, l, rfl, _⟩ := h
    rfl
  · obtain ⟨x, l, rfl, hx⟩ := h
    refine ⟨_, PSs.nox (pss_one (ps_ret (pe_and (pe_call G_is_integer hr (by rfl) m_is_integer k_is_integer b_is_integer v_is_integer pass0 (pa_cons (pv 0) pa_nil)) (pe_one (pe_cmpR op_ge (pv 0) (pv 1) (nomark _)))))), ?_⟩
    have e1 : ∀ n : Int, l ≤ n → V.bl (decide (n ≥ l)) = V.bl true := fun n h => dT h
    have e2 : ∀ n : Int, n < l → V.bl (decide (n ≥ l)) = V.bl false := fun n h => dF (by omega)
    rcases hx with ⟨n, rfl, l1, q⟩ | ⟨hn | ⟨n, rfl, l1⟩, q⟩
    · refine ⟨.int n, rfl, .int n, rfl, .inl ⟨n, rfl, true, rfl, iteT ⟨.int n, rfl, .int l, rfl, n, l, rfl, rfl, ?_⟩⟩⟩
      show Q (V.bl (decide (n ≥ l))) H
      rw [e1 n l1]
      exact q
    · exact ⟨x, rfl, x, rfl, .inr ⟨hn, false, rfl, iteF q⟩⟩
    · refine ⟨.int n, rfl, .int n, rfl, .inl ⟨n, rfl, true, rfl, iteT ⟨.int n, rfl, .int l, rfl, n, l, rfl, rfl, ?_⟩⟩⟩
      show Q (V.bl (decide (n ≥ l))) H
      rw [e2 n l1]
      exact q
def spCheckTickX (K : PySem.W.Frag) (CN : Addr) : Sp := fun vs H Q E => ∃ (x : V) (l : Int), vs = [x, .int l] ∧ ((∃ n : Int, x = .int n ∧ l ≤ n ∧ Q .non H) ∨ (BadTick K H x l ∧ E (.ref CN) none H))
theorem okX_check_tick {f c_NoTick : Addr} {fd : FuncData} (F : FunD K "check_tick" "check_tick" (defArgs s_check_tick) (defBody s_check_tick) (defScope s_check_tick) [.int 0] [] f fd) (T : Tx K mg) (X_NoTick : EC K mg "NoTick" c_NoTick) (h1 : Has P w K mg base 2 "is_tick" ["given", "least"] [] (spIsTickX K)) : FnOk P w K mg base (L2.CX P w) 3 f fd ["tick", "least"] (spCheckTickX K c_NoTick) := by
  obtain ⟨f_is_tick, fd_is_tick, ds_is_tick, G_is_tick, m_is_tick, k_is_tick, b_is_tick, v_is_tick⟩ := h1
  refine F.ok sc_check_tick (fun vs H Q E h => ?_) (fun cdv A outer s H vs Q E hr h => ?_)
  · obtain ⟨x, l, rfl, _⟩ := h
    rfl
  · obtain ⟨x, l, rfl, hx⟩ := h
    refine ⟨_, (pss_one (ps_if (pt_not (pt_val (pe_call G_is_tick hr (by rfl) m_is_tick k_is_tick b_is_tick v_is_tick pass0 (pa_cons (pv 0) (pa_cons (pv 1) pa_nil)))))
        (pss_one (ps_raise rfl (takes_of rfl rfl rfl rfl) (pmk_own PySem.F.excBase_ValueError X_NoTick.x X_NoTick.g X_NoTick.k (raises_own X_NoTick.b X_NoTick.t) rfl)))
        pss_nil)), ?_⟩
    rcases hx with ⟨n, rfl, l1, q⟩ | ⟨hn, q⟩
    · exact ⟨.int n, rfl, .int l, rfl, .int n, l, rfl, .inl ⟨n, rfl, l1, true, rfl, iteF q⟩⟩
    · exact ⟨x, rfl, .int l, rfl, x, l, rfl, .inr ⟨hn, false, rfl, iteT q⟩⟩
end
/-! ### the program: level_and_size, path -/
section
variable {P : Program} {w : World} {K : PySem.W.Frag} {mg : Str → Option Value} {base : Heap}
/-! the level -/
def spLevel : Sp := fun vs H Q _ => ∃ b n d : Nat, vs = [.int b, .int n, .int d] ∧ 2 ≤ b ∧ b ≤ 64 ∧ n < d ∧ d < 2 ^ 250 ∧ ∀ k, IsLev b n d k → ∀ H' p, Same H H' → H p = none → H' p = some (.tup [.int (k : Nat), .int ((b ^ k : Nat) : Int)]) → Q (.ref p) H'
theorem ok_level_and_size {f : Addr} {fd : FuncData} (F : Fun K "level_and_size" "level_and_size" s_level_and_size f fd) : FnOk P w K mg base CX0 1 f fd ["base", "now", "due"] spLevel := by
  refine F.ok sc_level_and_size (fun vs H Q E h => ?_) (fun cdv A outer s H vs Q E hr h => ?_)
  · obtain ⟨b, n, d, rfl, _⟩ := h
    rfl
  · obtain ⟨b, n, d, rfl, hb, hb64, hnd, hd, q⟩ := h
    have cb : ∀ x : Nat, NDiv x b := fun x => ndiv 7 (by omega) (by omega)
    refine ⟨_, (pss_cons (ps_asg (pe_tup (pa_cons pe_int (pa_cons pe_int pa_nil))) (pg_tupK (K := K) (n := 2) rfl rfl (pgs_cons (pg_name (i := 3) sc_level_and_size.nd rfl (.inl rfl)) (pgs_cons (pg_name (i := 4) sc_level_and_size.nd rfl (.inl rfl)) pgs_nil))))
      (pss_cons (ps_par (i := 5) (j := 6) (by rfl) sc_level_and_size.nd rfl rfl (by decide) rfl rfl (pa_cons (pe_op op_divN (pv 1) (pv 0)) (pa_cons (pe_op op_divN (pv 2) (pv 0)) pa_nil)) (by rfl))
      (pss_cons (ps_while PassesOwn.never (pt_cmpR op_ne (pv 5) (pv 6) (nomark _))
        (pss_cons (ps_par (i := 5) (j := 6) (by rfl) sc_level_and_size.nd rfl rfl (by decide) rfl rfl (pa_cons (pe_op op_divN (pv 5) (pv 0)) (pa_cons (pe_op op_divN (pv 6) (pv 0)) pa_nil)) (by rfl))
        (pss_one (ps_par (i := 3) (j := 4) (by rfl) sc_level_and_size.nd rfl rfl (by decide) rfl rfl (pa_cons (pe_op op_addN (pv 3) pe_int) (pa_cons (pe_op op_mulN (pv 4) (pv 0)) pa_nil)) (by rfl)))))
      (pss_one (ps_ret (pe_tup (pa_cons (pv 3) (pa_cons (pv 4) pa_nil)))))))), ?_⟩
    refine ⟨by simp [sizeLine_eq], fun t hT => ⟨t, _, rfl, .inl (.inl upd_same), rfl, _, _, rfl, _, _, rfl, rfl, ?_⟩⟩
    refine ⟨_, rfl, _, rfl, _, _, rfl, rfl, cb _, _, rfl, _, rfl, _, _, rfl, rfl, cb _, _, _, rfl, ?_⟩
    refine while_by (fun σ H' => ∃ k : Nat, σ = [some (.int (b : Int)), some (.int (n : Int)), some (.int (d : Int)), some (.int (k : Int)), some (.int ((b ^ k : Nat) : Int)), some (.int ((n / b ^ (k + 1) : Nat) : Int)), some (.int ((d / b ^ (k + 1) : Nat) : Int))] ∧ Same H H' ∧ ∀ j, j < k → n / b ^ (j + 1) ≠ d / b ^ (j + 1))
      (fun σ _ => slotInt σ 6) ⟨0, ?_, same_upd hT, fun j hj => absurd hj (Nat.not_lt_zero j)⟩ ?_ ?_
    · rw [Nat.zero_add, Nat.pow_one]
      rfl
    · rintro σ H' ⟨k, rfl, sm, hk⟩
      by_cases hne : n / b ^ (k + 1) = d / b ^ (k + 1)
      · refine ⟨_, rfl, _, rfl, rfl, false, ?_, iteF ?_⟩
        · rw [hne, decide_eq_true rfl]
          rfl
        · refine ⟨_, rfl, _, rfl, by simp [sizeLine_eq], fun p hp => ?_⟩
          exact q k ⟨hne, hk⟩ _ p (sm.trans (same_upd hp)) (sm.free hp) upd_same
      · have h2 : n / b ^ (k + 1) ≤ d / b ^ (k + 1) := Nat.div_le_div_right (Nat.le_of_lt hnd)
        have hpos : 0 < d / b ^ (k + 1) := pos_of h2 hne
        refine ⟨_, rfl, _, rfl, rfl, true, ?_, iteT ?_⟩
        · rw [int_ne hne]
          rfl
        · refine ⟨_, rfl, _, rfl, _, _, rfl, rfl, cb _, _, rfl, _, rfl, _, _, rfl, rfl, cb _, _, _, rfl, ?_⟩
          refine ⟨_, rfl, k, 1, rfl, rfl, trivial, _, rfl, _, rfl, _, _, rfl, rfl, nmul_r (by omega), _, _, rfl, ?_⟩
          have hlt : d / b ^ (k + 1) / b < d / b ^ (k + 1) := Nat.div_lt_self hpos (by omega)
          refine ⟨⟨k + 1, ?_, sm, fun j hj => ?_⟩, ?_⟩
          · rw [div_succ n b (k + 1), div_succ d b (k + 1), Nat.pow_succ b k]
            rfl
          · by_cases e : j = k
            · rw [e]
              exact hne
            · exact hk j (by omega)
          · show (((d / b ^ (k + 1) / b : Nat) : Int)).toNat < (((d / b ^ (k + 1) : Nat) : Int)).toNat
            rw [Int.toNat_natCast, Int.toNat_natCast]
            exact hlt
    · rintro σ H' Q1 Q2 h ⟨x, hx, y, hy, hs, k, e, z⟩
      exact ⟨x, hx, y, hy, hs, k, e, h _ _ z⟩
/-! the stations -/
def rowV (r : Row3) : List V := [.int (r.1 : Nat), .int (r.2.1 : Nat), .int (r.2.2 : Nat)]
/-- at the places ts stand the rows rs, each a tuple of three -/
def RowsAt (H : Hp) : List Addr → List Row3 → Prop
  | [], [] => True
  | t :: ts, r :: rs => H t = some (.tup (rowV r)) ∧ RowsAt H ts rs
  | _, _ => False
theorem RowsAt.same {H H' : Hp} (s : Same H H') : ∀ {ts : List Addr} {rs : List Row3}, RowsAt H ts rs → RowsAt H' ts rs
  | [], [], h => h
  | _ :: _, _ :: _, h => ⟨s _ _ h.1, h.2.same s⟩
  | [], _ :: _, h => h
  | _ :: _, [], h => h
theorem RowsAt.app {H : Hp} {t : Addr} {r : Row3} : ∀ {ts : List Addr} {rs : List Row3}, RowsAt H ts rs → H t = some (.tup (rowV r)) → RowsAt H (ts ++ [t]) (rs ++ [r])
  | [], [], _, h => ⟨h, trivial⟩
  | _ :: _, _ :: _, h, h2 => ⟨h.1, h.2.app h2⟩
  | [], _ :: _, h, _ => h.elim
  | _ :: _, [], h, _ => h.elim
theorem RowsAt.len {H : Hp} : ∀ {ts : List Addr} {rs : List Row3}, RowsAt H ts rs → ts.length = rs.length
  | [], [], _ => rfl
  | _ :: _, _ :: _, h => congrArg Nat.succ h.2.len
  | [], _ :: _, h => h.elim
  | _ :: _, [], h => h.elim
theorem RowsAt.upd {H : Hp} {p : Addr} {xs : List V} {o : HO} (hp : H p = some (.lst xs)) : ∀ {ts : List Addr} {rs : List Row3}, RowsAt H ts rs → RowsAt (upd H p o) ts rs
  | [], [], h => h
  | t :: _, _ :: _, h => ⟨by rw [upd_ne (ne_of h.1 hp (by intro z; cases z))]; exact h.1, h.2.upd hp⟩
  | [], _ :: _, h => h
  | _ :: _, [], h => h
theorem RowsAt.get {H : Hp} : ∀ {ts : List Addr} {rs : List Row3} {i : Nat} {t : Addr}, RowsAt H ts rs → ts[i]? = some t → ∃ r, rs[i]? = some r ∧ H t = some (.tup (rowV r))
  | t :: _, r :: _, 0, _, h, e => ⟨r, rfl, by cases Option.some.inj e; exact h.1⟩
  | _ :: _, _ :: _, i + 1, _, h, e => h.2.get (i := i) e
  | [], _, _, _, _, e => by simp at e
  | _ :: _, [], _, _, h, _ => h.elim
def spPath : Sp := fun vs H Q _ => ∃ b n d : Nat, vs = [.int b, .int n, .int d] ∧ 2 ≤ b ∧ b ≤ 64 ∧ n < d ∧ d < 2 ^ 250 ∧ ∀ k, IsLev b n d k → ∀ H' p ts, Same H H' → H p = none → H' p = some (.lst (ts.map V.ref)) → RowsAt H' ts (rowsOf b n d k) → Q (.ref p) H'
theorem ok_path {f : Addr} {fd : FuncData} (F : Fun K "path" "path" s_path f fd) (h1 : Has P w K mg base 1 "level_and_size" ["base", "now", "due"] [] spLevel) : FnOk P w K mg base CX0 2 f fd ["base", "now", "due"] spPath := by
  obtain ⟨f_level_and_size, fd_level_and_size, ds_level_and_size, G_level_and_size, m_level_and_size, k_level_and_size, b_level_and_size, v_level_and_size⟩ := h1
  refine F.ok sc_path (fun vs H Q E h => ?_) (fun cdv A outer s H vs Q E hr h => ?_)
  · obtain ⟨b, n, d, rfl, _⟩ := h
    rfl
  · obtain ⟨b, n, d, rfl, hb, hb64, hnd, hd, q⟩ := h
    have cb : ∀ x : Nat, NDiv x b := fun x => ndiv 7 (by omega) (by omega)
    have hb0 : 0 < b := by omega
    refine ⟨_, (pss_cons (ps_asg (pe_call G_level_and_size hr (by rfl) m_level_and_size k_level_and_size b_level_and_size v_level_and_size pass0 (pa_cons (pv 0) (pa_cons (pv 1) (pa_cons (pv 2) pa_nil)))) (pg_tupK (K := K) (n := 2) rfl rfl (pgs_cons (pg_name (i := 3) sc_path.nd rfl (.inl rfl)) (pgs_cons (pg_name (i := 4) sc_path.nd rfl (.inl rfl)) pgs_nil))))
      (pss_cons (ps_set (i := 5) sc_path.nd rfl (.inl rfl) (pe_lst (pa_cons (pe_tup (pa_cons (pv 3) (pa_cons (pe_op op_remN (pe_op op_divN (pv 2) (pv 4)) (pv 0)) (pa_cons (pv 1) pa_nil)))) pa_nil)))
      (pss_cons (ps_while PassesOwn.never (pt_cmpR op_gt (pv 3) pe_int (nomark _))
        (pss_cons (ps_set (i := 6) sc_path.nd rfl (.inl rfl) (pe_op op_mulN (pe_op op_divN (pv 2) (pv 4)) (pv 4)))
        (pss_cons (ps_par (i := 3) (j := 4) (by rfl) sc_path.nd rfl rfl (by decide) rfl rfl (pa_cons (pe_op op_subN (pv 3) pe_int) (pa_cons (pe_op op_divN (pv 4) (pv 0)) pa_nil)) (by rfl))
        (pss_cons (ps_set (i := 7) sc_path.nd rfl (.inl rfl) (pe_op op_remN (pe_op op_divN (pv 2) (pv 4)) (pv 0)))
        (pss_one (ps_if (pt_cmpR op_ne (pv 7) pe_int (nomark _))
          (pss_one (ps_expr (pe_bm PySem.F.plainAttrs_list PySem.F.slot_list_append PySem.F.type_list_append mt_append (pv 5) (pa_cons (pe_tup (pa_cons (pv 3) (pa_cons (pv 7) (pa_cons (pv 6) pa_nil)))) pa_nil))))
          pss_nil))))))
      (pss_one (ps_ret (pv 5)))))), ?_⟩
    refine ⟨_, rfl, _, rfl, _, rfl, b, n, d, rfl, hb, hb64, hnd, hd, fun k hk H0 t0 s0 ht0 eT0 => ?_⟩
    have hkd : ∀ j, j ≤ k → b ^ j ≤ d := fun j hj => Nat.le_trans (Nat.pow_le_pow_right (by omega) hj) (hk.size hb hnd)
    have hk250 : k < 250 := lev_small hk hb hnd hd
    have cs : ∀ j, j ≤ k → ∀ x : Nat, NDiv x (b ^ j) := fun j hj x => ndiv 250 (pow_pos' hb j) (Nat.lt_of_le_of_lt (hkd j hj) hd)
    -- level, size = ..
    refine ⟨t0, _, rfl, .inl (.inl eT0), rfl, _, _, rfl, _, _, rfl, rfl, ?_⟩
    -- rows = [(level, due // size % base, now)]
    refine ⟨_, rfl, _, rfl, _, rfl, _, _, rfl, rfl, cs k (Nat.le_refl k) _, _, rfl, _, _, rfl, rfl, hb0, _, rfl, by simp [sizeLine_eq], fun t1 ht1 => ?_⟩
    have s1 := s0.trans (same_upd (o := .tup (rowV (k, d / b ^ k % b, n))) ht1)
    refine ⟨by simp [sizeLine_eq], fun p hp => ?_⟩
    have s2 := s1.trans (same_upd (o := .lst [.ref t1]) hp)
    have np1 : t1 ≠ p := fun e => by
      rw [← e, upd_same] at hp
      cases hp
    have hpH : H p = none := s1.free hp
    refine while_by (fun σ H' => ∃ (j : Nat) (ts : List Addr) (done : List Row3) (y6 y7 : Option V), σ = [some (.int (b : Int)), some (.int (n : Int)), some (.int (d : Int)), some (.int (j : Int)), some (.int ((b ^ j : Nat) : Int)), some (.ref p), y6, y7] ∧ j ≤ k ∧ ts.length + j ≤ k + 1 ∧ Same H H' ∧ H' p = some (.lst (ts.map V.ref)) ∧ RowsAt H' ts ((k, d / b ^ k % b, n) :: done) ∧ tailOf b d k = done ++ tailOf b d j)
      (fun σ _ => slotInt σ 3) ⟨k, [t1], [], none, none, rfl, Nat.le_refl k, by simp; omega, s2, upd_same, ⟨?_, trivial⟩, rfl⟩ ?_ ?_
    · rw [upd_ne np1, upd_same]
      rfl
    · rintro σ H' ⟨j, ts, done, y6, y7, rfl, hjk, hlen, sm, eL, R, et⟩
      cases j with
      | zero =>
        refine ⟨_, rfl, ((0 : Nat) : Int), 0, rfl, rfl, false, rfl, iteF ?_⟩
        refine ⟨_, rfl, q k hk H' p ts sm hpH eL ?_⟩
        have e : done = tailOf b d k := by
          rw [et]
          exact (List.append_nil done).symm
        rw [e] at R
        exact R
      | succ j =>
        have hj0 : (0 : Int) < ((j + 1 : Nat) : Int) := by omega
        refine ⟨_, rfl, _, _, rfl, rfl, true, congrArg V.bl (decide_eq_true hj0), iteT ?_⟩
        -- tick = due // size * size
        refine ⟨_, rfl, _, rfl, _, _, rfl, rfl, cs (j + 1) hjk _, _, rfl, _, _, rfl, rfl, nmul_w 250 250 (Nat.lt_of_le_of_lt (Nat.div_le_self d _) hd) (Nat.lt_of_le_of_lt (hkd (j + 1) hjk) hd), ?_⟩
        -- level, size = level - 1, size // base
        refine ⟨_, rfl, j + 1, 1, rfl, rfl, Nat.le_add_left 1 j, _, rfl, _, rfl, b ^ (j + 1), b, rfl, rfl, cb _, .int (j : Nat), .int ((b ^ j : Nat) : Int), ?_, ?_⟩
        · show [V.int ((j + 1 - 1 : Nat) : Int), V.int ((b ^ (j + 1) / b : Nat) : Int)] = _
          rw [Nat.pow_succ, Nat.mul_div_cancel _ hb0]
          rfl
        -- digit = due // size % base
        refine ⟨_, rfl, _, rfl, d, b ^ j, rfl, rfl, cs j (by omega) _, _, rfl, _, _, rfl, rfl, hb0, ?_⟩
        have lt : slotInt [some (.int (b : Int)), some (.int (n : Int)), some (.int (d : Int)), some (.int (j : Int)), some (.int ((b ^ j : Nat) : Int)), some (.ref p), some (.int ((d / b ^ (j + 1) * b ^ (j + 1) : Nat) : Int)), some (.int ((d / b ^ j % b : Nat) : Int))] 3 < ((j + 1 : Nat) : Int).toNat := by
          show ((j : Int)).toNat < _
          omega
        by_cases h0 : d / b ^ j % b = 0
        · refine ⟨_, rfl, rfl, false, nF (vE h0), iteF ?_⟩
          · refine ⟨⟨j, ts, done, _, _, rfl, by omega, by omega, sm, eL, R, ?_⟩, lt⟩
            rw [et]
            show done ++ tailOf b d (j + 1) = done ++ tailOf b d j
            have : tailOf b d (j + 1) = tailOf b d j := if_neg (fun z => z h0)
            rw [this]
        · refine ⟨_, rfl, rfl, true, nT (vN (b := 0) h0), iteT ?_⟩
          · -- rows.append((level, digit, tick))
            refine ⟨_, rfl, .inl ⟨rfl, _, .inl (.inl eL)⟩, _, rfl, _, rfl, _, rfl, by simp [sizeLine_eq], fun t2 ht2 => ?_⟩
            have s3 := same_upd (o := .tup (rowV (j, d / b ^ j % b, d / b ^ (j + 1) * b ^ (j + 1)))) ht2
            have npt : t2 ≠ p := fun e => by
              rw [e, eL] at ht2
              cases ht2
            have eL' := s3 _ _ eL
            refine ⟨p, _, _, rfl, rfl, eL', ?_, ?_⟩
            · rw [List.length_map]
              exact sizeLine_ge (by omega)
            · refine ⟨⟨j, ts ++ [t2], done ++ [(j, d / b ^ j % b, d / b ^ (j + 1) * b ^ (j + 1))], _, _, rfl, by omega, ?_, fun c o e => ?_, ?_, ?_, ?_⟩, lt⟩
              · rw [List.length_append, List.length_singleton]
                omega
              · rw [upd_ne (ne_of_none e hpH)]
                exact s3 _ _ (sm _ _ e)
              · rw [upd_same, List.map_append]
                rfl
              · refine RowsAt.upd eL' ?_
                exact RowsAt.app (r := (j, d / b ^ j % b, d / b ^ (j + 1) * b ^ (j + 1))) (rs := (k, d / b ^ k % b, n) :: done) (R.same s3) upd_same
              · rw [et, List.append_assoc]
                show done ++ tailOf b d (j + 1) = done ++ ((j, d / b ^ j % b, d / b ^ (j + 1) * b ^ (j + 1)) :: tailOf b d j)
                have : tailOf b d (j + 1) = (j, d / b ^ j % b, d / b ^ (j + 1) * b ^ (j + 1)) :: tailOf b d j := if_pos h0
                rw [this]
    · rintro σ H' Q1 Q2 h ⟨x, hx, i, j, e1, e2, k, e, z⟩
      exact ⟨x, hx, i, j, e1, e2, k, e, h _ _ z⟩
end
theorem RowsAt.item {H : Hp} {ts : List Addr} {rs : List Row3} (R : RowsAt H ts rs) {i : Nat} {x : V} (hx : (ts.map V.ref)[i]? = some x) : ∃ ti r, x = V.ref ti ∧ ts[i]? = some ti ∧ rs[i]? = some r ∧ H ti = some (.tup (rowV r)) := by
  rw [List.getElem?_map] at hx
  cases e : ts[i]? with
  | none =>
    rw [e] at hx
    cases hx
  | some ti =>
    rw [e] at hx
    obtain ⟨r, hr, er⟩ := R.get e
    exact ⟨ti, r, (Option.some.inj hx).symm, rfl, hr, er⟩
section
variable {P : Program} {w : World} {K : PySem.W.Frag} {mg : Str → Option Value} {base : Heap}
def spWordAt (K : PySem.W.Frag) : Sp := fun vs H Q _ => ∃ (q : Addr) (ws : List Bool) (k : Nat), vs = [.ref q, .int (k : Nat)] ∧ SqL K H q (ws.map lvV) ∧ ws ≠ [] ∧ Q (lvV (wordAt ws k)) H
theorem ok_word_at {f : Addr} {fd : FuncData} (F : Fun K "word_at" "word_at" s_word_at f fd) (T : Tx K mg) : FnOk P w K mg base CX0 1 f fd ["levels", "level"] (spWordAt K) := by
  refine F.ok sc_word_at (fun vs H Q E h => ?_) (fun cdv A outer s H vs Q E hr h => ?_)
  · obtain ⟨q, ws, k, rfl, _⟩ := h
    rfl
  · obtain ⟨q, ws, k, rfl, hL, hne, c⟩ := h
    have hp : 0 < ws.length := List.length_pos_iff.mpr hne
    have hpm : 1 ≤ (ws.map lvV).length := by
      rw [List.length_map]
      exact hp
    refine ⟨_, (pss_one (ps_ret (pe_ix (ix_listK (K := K) rfl) (pv 0) (pe_callB (call_min2 rfl) (by rfl) T.b_min (by decide +kernel) (pa_cons (pv 1) (pa_cons (pe_op op_subN (pe_callB (lenK (K := K) rfl) (by rfl) T.b_len PySem.boot_len (pa_cons (pv 0) pa_nil)) pe_int) pa_nil))) (fun _ _ => rfl)))), ?_⟩
    have g := word_get hne k
    refine ⟨.ref q, rfl, _, rfl, .ref q, rfl, q, _, rfl, .inl hL, (ws.map lvV).length, 1, rfl, rfl, hpm, k, _, rfl, q, _, ((min k (ws.length - 1) : Nat) : Int), _, rfl, congrArg V.int ?_, hL, atI_nat g, c⟩
    dsimp only
    rw [List.length_map]
    split <;> omega
def WordsAt (K : PySem.W.Frag) (mg : Str → Option Value) : Prop := ∃ a, mg "WORDS" = some (.ref a) ∧ ∀ H, SqT K H a [.str "stack", .str "queue"]
def MostAt (mg : Str → Option Value) : Prop := ∃ t, mg "MOST_LEVELS" = some (.int 60 t)
def spIsWord : Sp := fun vs H Q _ => ∃ b : Bool, vs = [lvV b] ∧ Q (.bl true) H
theorem ok_is_word {f : Addr} {fd : FuncData} (F : Fun K "is_word" "is_word" s_is_word f fd) (T : Tx K mg) (hW : WordsAt K mg) : FnOk P w K mg base CX0 1 f fd ["given"] spIsWord := by
  obtain ⟨a_WORDS, g_WORDS, sW⟩ := hW
  refine F.ok sc_is_word (fun vs H Q E h => ?_) (fun cdv A outer s H vs Q E hr h => ?_)
  · obtain ⟨b, rfl, _⟩ := h
    rfl
  · obtain ⟨b, rfl, c⟩ := h
    refine ⟨_, (pss_one (ps_ret (pe_and (pe_callB (isiK (K := K) rfl) (by rfl) T.b_isinstance (by decide +kernel) (pa_cons (pv 0) (pa_cons (pe_bltn (v := .ty "str") (u := .type "str") (by rfl) T.b_str (by decide +kernel) rfl) pa_nil))) (pe_one (pe_cmpR op_in_seq (pv 0) (pe_glob (v := .ref a_WORDS) rfl g_WORDS rfl) (by rfl)))))), ?_⟩
    obtain ⟨x, ex, hx⟩ : ∃ x : Str, lvV b = .str x ∧ (if false then !inV (V.str x) [.str "stack", .str "queue"] else inV (V.str x) [.str "stack", .str "queue"]) = true := by
      cases b
      · exact ⟨_, rfl, by decide⟩
      · exact ⟨_, rfl, by decide⟩
    rw [ex]
    refine ⟨.str x, rfl, _, _, _, _, true, rfl, .ty "str", .base (.str x), kit_ty (by decide +kernel), true, rfl, iteT ?_⟩
    refine ⟨.str x, rfl, a_WORDS, _, rfl, .inr (sW _), rfl, rfl, ?_⟩
    rw [hx]
    exact c
def spIsLength : Sp := fun vs H Q _ => ∃ n : Int, vs = [.int n] ∧ 1 ≤ n ∧ n ≤ 60 ∧ Q (.bl true) H
theorem ok_is_length {f : Addr} {fd : FuncData} (F : Fun K "is_length" "is_length" s_is_length f fd) (hM : MostAt mg) (h1 : Has P w K mg base 1 "is_integer" ["given"] [] spIsInt) : FnOk P w K mg base CX0 2 f fd ["given"] spIsLength := by
  obtain ⟨tM, g_MOST_LEVELS⟩ := hM
  obtain ⟨f_is_integer, fd_is_integer, ds_is_integer, G_is_integer, m_is_integer, k_is_integer, b_is_integer, v_is_integer⟩ := h1
  refine F.ok sc_is_length (fun vs H Q E h => ?_) (fun cdv A outer s H vs Q E hr h => ?_)
  · obtain ⟨n, rfl, _⟩ := h
    rfl
  · obtain ⟨n, rfl, l1, l2, q⟩ := h
    refine ⟨_, (pss_one (ps_ret (pe_and (pe_call G_is_integer hr (by rfl) m_is_integer k_is_integer b_is_integer v_is_integer pass0 (pa_cons (pv 0) pa_nil)) (pe_one (pe_chain op_le op_le pe_int (pv 0) (pe_glob (v := .int 60) rfl g_MOST_LEVELS ⟨_, rfl⟩)))))), ?_⟩
    refine ⟨.int n, rfl, n, rfl, true, rfl, iteT ?_⟩
    refine ⟨.int n, rfl, 1, n, rfl, rfl, true, congrArg V.bl (decide_eq_true l1), iteT ?_⟩
    refine ⟨n, 60, rfl, rfl, ?_⟩
    have e : V.bl (decide (n ≤ 60)) = V.bl true := dT l2
    show Q (V.bl (decide (n ≤ 60))) H
    rw [e]
    exact q
def spAreLevels (K : PySem.W.Frag) : Sp := fun vs H Q _ => ∃ (q : Addr) (ws : List Bool), vs = [.ref q] ∧ SqL K H q (ws.map lvV) ∧ ws ≠ [] ∧ ws.length ≤ 60 ∧ ∀ H', Same H H' → Q (.bl true) H'
theorem ok_are_levels {f : Addr} {fd : FuncData} (F : Fun K "are_levels" "are_levels" s_are_levels f fd) (T : Tx K mg) (h0 : Has P w K mg base 2 "is_length" ["given"] [] spIsLength) (h1 : Has P w K mg base 1 "is_word" ["given"] [] spIsWord) : FnOk P w K mg base CX0 3 f fd ["given"] (spAreLevels K) := by
  obtain ⟨f_is_length, fd_is_length, ds_is_length, G_is_length, m_is_length, k_is_length, b_is_length, v_is_length⟩ := h0
  obtain ⟨f_is_word, fd_is_word, ds_is_word, G_is_word, m_is_word, k_is_word, b_is_word, v_is_word⟩ := h1
  refine F.ok sc_are_levels (fun vs H Q E h => ?_) (fun cdv A outer s H vs Q E hr h => ?_)
  · obtain ⟨q, ws, rfl, _⟩ := h
    rfl
  · obtain ⟨q, ws, rfl, hL, hne, h60, c⟩ := h
    have hp : 0 < ws.length := List.length_pos_iff.mpr hne
    refine ⟨_, (pss_cons (ps_if (PW.pt (pw_or (pt_not (pt_val (pe_callB (isiK (K := K) rfl) (by rfl) T.b_isinstance (by decide +kernel) (pa_cons (pv 0) (pa_cons (pe_bltn (v := .ty "list") (u := .type "list") (by rfl) T.b_list (by decide +kernel) rfl) pa_nil))))) (pw_or1 (pt_not (pt_val (pe_call G_is_length hr (by rfl) m_is_length k_is_length b_is_length v_is_length pass0 (pa_cons (pe_callB (lenK (K := K) rfl) (by rfl) T.b_len PySem.boot_len (pa_cons (pv 0) pa_nil)) pa_nil)))))))
        (pss_one (ps_ret pe_bl))
        pss_nil)
      (pss_one (ps_ret (pe_callB (allK (K := K) rfl rfl) (by rfl) T.b_all (by decide +kernel) (pa_cons (pe_lc (own := [("word", 1)]) (g := gName 1) (tt := tYes) rfl sc_are_levels.nd (pi_list (pv 0)) (blkOk_by (own := [("word", 1)]) (N := N_are_levels) (sc := defScope s_are_levels) (by decide +kernel)) (fun _ _ _ _ _ => (pg_name (i := 1) sc_are_levels.nd rfl (.inl rfl))) (fun _ _ _ _ _ => pts_nil) (fun _ _ _ _ _ => (pe_call G_is_word (hr.mono (by decide)) (by rfl) m_is_word k_is_word b_is_word v_is_word pass0 (pa_cons (pv 1) pa_nil)))) pa_nil))))), ?_⟩
    refine ⟨.ref q, rfl, _, _, _, _, true, rfl, .ty "list", tyx_list hL, kit_ty (by decide +kernel), true, rfl, iteF ?_⟩
    refine ⟨.ref q, rfl, q, _, rfl, .inl hL, _, rfl, ?_, ?_, true, rfl, iteF ?_⟩
    · rw [List.length_map]
      omega
    · rw [List.length_map]
      omega
    refine ⟨.ref q, rfl, q, rfl, ⟨_, hL⟩, fun D hD => lc_list (K := K) (a := q) (xs := ws.map lvV) (fun i H' => Same H H' ∧ H' D = some (.lst ((List.replicate i true).map V.bl)))
      ⟨same_upd hD, upd_same⟩ (fun i H' _ ⟨sm, _⟩ => sm.seq hL) ?_ ?_⟩
    · rintro i x H' hx ⟨sm, eD⟩
      obtain ⟨b, rfl⟩ : ∃ b, x = lvV b := by
        rw [List.getElem?_map] at hx
        cases e : ws[i]? with
        | none =>
          rw [e] at hx
          cases hx
        | some b =>
          rw [e] at hx
          exact ⟨b, (Option.some.inj hx).symm⟩
      have hi : i < (ws.map lvV).length := (List.getElem?_eq_some_iff.mp hx).1
      rw [List.length_map] at hi
      refine ⟨rfl, yesT (iteT ?_)⟩
      refine ⟨_, rfl, b, rfl, _, eD, ?_, fun c o e => ?_, ?_⟩
      · rw [List.length_map, List.length_replicate]
        exact sizeLine_ge (by omega)
      · rw [upd_ne (ne_of_none e hD)]
        exact sm _ _ e
      · rw [upd_same, List.replicate_succ', List.map_append]
        rfl
    · rintro H1 ⟨s1, eD⟩
      refine ⟨D, _, rfl, SqL.of eD, ?_⟩
      have ea : (List.replicate (ws.map lvV).length true).all id = true := by
        rw [List.all_replicate]
        simp
      rw [ea]
      exact c H1 s1
def spCheckLevels (K : PySem.W.Frag) : Sp := fun vs H Q _ => ∃ (q : Addr) (ws : List Bool), vs = [.ref q] ∧ SqL K H q (ws.map lvV) ∧ ws ≠ [] ∧ ws.length ≤ 60 ∧ ∀ H', Same H H' → Q .non H'
theorem ok_check_levels {f : Addr} {fd : FuncData} (F : Fun K "check_levels" "check_levels" s_check_levels f fd) (h1 : Has P w K mg base 3 "are_levels" ["given"] [] (spAreLevels K)) : FnOk P w K mg base CX0 4 f fd ["levels"] (spCheckLevels K) := by
  obtain ⟨f_are_levels, fd_are_levels, ds_are_levels, G_are_levels, m_are_levels, k_are_levels, b_are_levels, v_are_levels⟩ := h1
  refine F.ok sc_check_levels (fun vs H Q E h => ?_) (fun cdv A outer s H vs Q E hr h => ?_)
  · obtain ⟨q, ws, rfl, _⟩ := h
    rfl
  · obtain ⟨q, ws, rfl, hL, hne, h60, c⟩ := h
    refine ⟨_, (pss_one (ps_if (pt_not (pt_val (pe_call G_are_levels hr (by rfl) m_are_levels k_are_levels b_are_levels v_are_levels pass0 (pa_cons (pv 0) pa_nil))))
        (pss_one ps_never)
        pss_nil)), ?_⟩
    exact ⟨_, rfl, q, ws, rfl, hL, hne, h60, fun H1 s1 => ⟨true, rfl, iteF (c H1 s1)⟩⟩
end
section
variable {P : Program} {w : World} {K : PySem.W.Frag} {mg : Str → Option Value} {base : Heap}
def spFront (K : PySem.W.Frag) : Sp := fun vs H Q _ => ∃ (b n d lo : Nat) (q : Addr) (ws : List Bool), vs = [.int (b : Nat), .ref q, .int (n : Nat), .int (d : Nat), .int (lo : Nat)] ∧ 2 ≤ b ∧ b ≤ 64 ∧ n < d ∧ d < 2 ^ 250 ∧ SqL K H q (ws.map lvV) ∧ ws ≠ [] ∧
  ∀ k, IsLev b n d k → ∀ H', Same H H' → Q (.bl (frontOf ws lo (rowsOf b n d k))) H'
theorem ok_goes_in_front {f : Addr} {fd : FuncData} (F : Fun K "goes_in_front" "goes_in_front" s_goes_in_front f fd) (h1 : Has P w K mg base 2 "path" ["base", "now", "due"] [] spPath) (h2 : Has P w K mg base 1 "word_at" ["levels", "level"] [] (spWordAt K)) :
    FnOk P w K mg base CX0 3 f fd ["base", "levels", "now", "due", "lowest"] (spFront K) := by
  obtain ⟨f_path, fd_path, ds_path, G_path, m_path, k_path, b_path, v_path⟩ := h1
  obtain ⟨f_word_at, fd_word_at, ds_word_at, G_word_at, m_word_at, k_word_at, b_word_at, v_word_at⟩ := h2
  refine F.ok sc_goes_in_front (fun vs H Q E h => ?_) (fun cdv A outer s H vs Q E hr h => ?_)
  · obtain ⟨b, n, d, lo, q, ws, rfl, _⟩ := h
    rfl
  · obtain ⟨b, n, d, lo, q, ws, rfl, hb, hb64, hnd, hd, hL, hne, c⟩ := h
    refine ⟨_, (pss_cons (ps_set (i := 5) sc_goes_in_front.nd rfl (.inl rfl) pe_bl)
      (pss_cons (ps_for PassesOwn.never rfl (pi_list (pe_call G_path hr (by rfl) m_path k_path b_path v_path pass0 (pa_cons (pv 0) (pa_cons (pv 2) (pa_cons (pv 3) pa_nil))))) (pg_tupK (K := K) (n := 3) rfl rfl (pgs_cons (pg_name (i := 6) sc_goes_in_front.nd rfl (.inl rfl)) (pgs_cons (pg_name (i := 7) sc_goes_in_front.nd rfl (.inl rfl)) (pgs_cons (pg_name (i := 8) sc_goes_in_front.nd rfl (.inl rfl)) pgs_nil))))
        (pss_one (ps_if (PW.pt (pw_and (pt_cmpR op_ge (pv 6) (pv 4) (nomark _)) (pw_and1 (pt_cmpR op_eq (pe_call G_word_at (hr.mono (by decide)) (by rfl) m_word_at k_word_at b_word_at v_word_at pass0 (pa_cons (pv 1) (pa_cons (pv 6) pa_nil))) pe_str (nomark _)))))
          (pss_one (ps_set (i := 5) sc_goes_in_front.nd rfl (.inl rfl) (pe_not (pv 5))))
          pss_nil)))
      (pss_one (ps_ret (pv 5))))), ?_⟩
    refine ⟨_, rfl, _, rfl, _, rfl, b, n, d, rfl, hb, hb64, hnd, hd, fun k hk H1 p ts s1 hp0 hp R => ?_⟩
    refine ⟨p, rfl, ⟨_, SqL.of hp⟩, for_list (K := K) (a := p) (xs := ts.map V.ref) (fun i σ H' => ∃ y6 y7 y8, σ = [some (.int (b : Nat)), some (.ref q), some (.int (n : Nat)), some (.int (d : Nat)), some (.int (lo : Nat)), some (.bl (frontOf ws lo ((rowsOf b n d k).take i))), y6, y7, y8] ∧ H' = H1)
      ⟨none, none, none, rfl, rfl⟩ (fun i σ H' _ ⟨_, _, _, _, e⟩ => by rw [e]; exact SqL.of hp) ?_ ?_⟩
    · rintro i x σ H' hx ⟨y6, y7, y8, rfl, rfl⟩
      obtain ⟨ti, r, rfl, hti, hr, er⟩ := R.item hx
      have hstep : frontOf ws lo ((rowsOf b n d k).take (i + 1)) = if (decide (lo ≤ r.1) && wordAt ws r.1) = true then !frontOf ws lo ((rowsOf b n d k).take i) else frontOf ws lo ((rowsOf b n d k).take i) := by
        rw [List.take_add_one, hr]
        exact front_snoc ws lo _ r
      refine ⟨ti, _, rfl, .inl (.inl er), rfl, _, _, rfl, _, _, rfl, _, _, rfl, rfl, ?_⟩
      have hL1 := s1.seq hL
      by_cases hlo : lo ≤ r.1
      · refine ⟨_, rfl, _, rfl, _, _, rfl, rfl, true, dT (by omega), iteT ?_⟩
        refine ⟨_, rfl, _, rfl, q, ws, r.1, rfl, hL1, hne, ?_, wordAt ws r.1, congrArg V.bl (lv_dec _), ?_⟩
        · cases wordAt ws r.1 <;> rfl
        cases hw : wordAt ws r.1 with
        | true =>
          refine iteT ⟨_, rfl, _, rfl, ⟨some (.int (r.1 : Nat)), some (.int (r.2.1 : Nat)), some (.int (r.2.2 : Nat)), ?_, rfl⟩⟩
          rw [hstep, hw, decide_eq_true hlo]
          rfl
        | false =>
          refine iteF ⟨some (.int (r.1 : Nat)), some (.int (r.2.1 : Nat)), some (.int (r.2.2 : Nat)), ?_, rfl⟩
          rw [hstep, hw, decide_eq_true hlo]
          rfl
      · refine ⟨_, rfl, _, rfl, _, _, rfl, rfl, false, dF (by omega), iteF (iteF ⟨some (.int (r.1 : Nat)), some (.int (r.2.1 : Nat)), some (.int (r.2.2 : Nat)), ?_, rfl⟩)⟩
        rw [hstep, decide_eq_false hlo]
        rfl
    · rintro σ H' ⟨y6, y7, y8, rfl, rfl⟩
      have e : (rowsOf b n d k).take (ts.map V.ref).length = rowsOf b n d k := by
        refine List.take_of_length_le ?_
        rw [List.length_map]
        exact Nat.le_of_eq R.len.symm
      rw [e]
      exact ⟨_, rfl, c k hk _ s1⟩
end
/-! ### a period, of an integer -/
section
variable {P : Program} {w : World} {K : PySem.W.Frag} {mg : Str → Option Value} {base : Heap}
def spIsPeriod : Sp := fun vs H Q _ => ∃ n : Int, vs = [.int n] ∧ 1 ≤ n ∧ Q (.bl true) H
theorem ok_is_period {f : Addr} {fd : FuncData} (F : Fun K "is_period" "is_period" s_is_period f fd) (h1 : Has P w K mg base 1 "is_integer" ["given"] [] spIsInt) : FnOk P w K mg base CX0 2 f fd ["given"] spIsPeriod := by
  obtain ⟨f_is_integer, fd_is_integer, ds_is_integer, G_is_integer, m_is_integer, k_is_integer, b_is_integer, v_is_integer⟩ := h1
  refine F.ok sc_is_period (fun vs H Q E h => ?_) (fun cdv A outer s H vs Q E hr h => ?_)
  · obtain ⟨n, rfl, _⟩ := h
    rfl
  · obtain ⟨n, rfl, l1, q⟩ := h
    refine ⟨_, (pss_one (ps_ret (pe_and (pe_call G_is_integer hr (by rfl) m_is_integer k_is_integer b_is_integer v_is_integer pass0 (pa_cons (pv 0) pa_nil)) (pe_one (pe_cmpR op_ge (pv 0) pe_int (nomark _)))))), ?_⟩
    refine ⟨.int n, rfl, n, rfl, true, rfl, iteT ?_⟩
    refine ⟨.int n, rfl, n, 1, rfl, rfl, ?_⟩
    have e : V.bl (decide (n ≥ 1)) = V.bl true := dT l1
    show Q (V.bl (decide (n ≥ 1))) H
    rw [e]
    exact q
end
/-! ### the program: periodic timers, which of two is ahead -/
section
variable {P : Program} {w : World} {K : PySem.W.Frag} {mg : Str → Option Value} {base : Heap}
theorem tyx_tup {K : PySem.W.Frag} {H : Hp} {a : Addr} {xs : List V} (h : H a = some (.tup xs)) : TyX K H (.ref a) (.type "tuple") := .base (.tup h)
def spPeriodic : Sp := fun vs H Q _ => ∃ (t : Addr) (a p : Nat), vs = [.ref t] ∧ H t = some (.tup [.int (a : Nat), .int (p : Nat)]) ∧ 1 ≤ p ∧ Q (.bl true) H
theorem ok_is_periodic {f : Addr} {fd : FuncData} (F : Fun K "is_periodic" "is_periodic" s_is_periodic f fd) (T : Tx K mg) (h1 : Has P w K mg base 2 "is_tick" ["given", "least"] [.int 0] spIsTick) (h2 : Has P w K mg base 2 "is_period" ["given"] [] spIsPeriod) : FnOk P w K mg base CX0 3 f fd ["given"] spPeriodic := by
  obtain ⟨f_is_tick1, fd_is_tick1, ds_is_tick1, G_is_tick1, m_is_tick1, k_is_tick1, b_is_tick1, v_is_tick1⟩ := h1
  obtain ⟨f_is_period, fd_is_period, ds_is_period, G_is_period, m_is_period, k_is_period, b_is_period, v_is_period⟩ := h2
  refine F.ok sc_is_periodic (fun vs H Q E h => ?_) (fun cdv A outer s H vs Q E hr h => ?_)
  · obtain ⟨t, a, p, rfl, _⟩ := h
    rfl
  · obtain ⟨t, a, p, rfl, ht, hp, q⟩ := h
    refine ⟨_, (pss_cons (ps_if (PW.pt (pw_or (pt_not (pt_val (pe_callB (isiK (K := K) rfl) (by rfl) T.b_isinstance (by decide +kernel) (pa_cons (pv 0) (pa_cons (pe_bltn (v := .ty "tuple") (u := .type "tuple") (by rfl) T.b_tuple (by decide +kernel) rfl) pa_nil))))) (pw_or1 (pt_cmpR op_ne (pe_callB (lenK (K := K) rfl) (by rfl) T.b_len PySem.boot_len (pa_cons (pv 0) pa_nil)) pe_int (nomark _)))))
        (pss_one (ps_ret pe_bl))
        pss_nil)
      (pss_cons (ps_asg (pv 0) (pg_tupK (K := K) (n := 2) rfl rfl (pgs_cons (pg_name (i := 1) sc_is_periodic.nd rfl (.inl rfl)) (pgs_cons (pg_name (i := 2) sc_is_periodic.nd rfl (.inl rfl)) pgs_nil))))
      (pss_one (ps_ret (pe_and (pe_call G_is_tick1 hr (by rfl) m_is_tick1 k_is_tick1 b_is_tick1 v_is_tick1 pass0 (pa_cons (pv 1) pa_nil)) (pe_one (pe_call G_is_period hr (by rfl) m_is_period k_is_period b_is_period v_is_period pass0 (pa_cons (pv 2) pa_nil)))))))), ?_⟩
    refine ⟨.ref t, rfl, _, _, _, _, true, rfl, .ty "tuple", tyx_tup ht, kit_ty (by decide +kernel), true, rfl, iteF ?_⟩
    refine ⟨.ref t, rfl, t, _, rfl, .inr (.inl (.inl ht)), rfl, false, nF rfl, iteF ?_⟩
    refine ⟨.ref t, rfl, t, _, rfl, .inl (.inl ht), rfl, _, _, rfl, _, _, rfl, rfl, ?_⟩
    refine ⟨_, rfl, (a : Nat), 0, rfl, by omega, true, rfl, iteT ?_⟩
    exact ⟨_, rfl, (p : Nat), rfl, by omega, q⟩
def spCheckPeriodic : Sp := fun vs H Q _ => ∃ (t : Addr) (a p : Nat), vs = [.ref t] ∧ H t = some (.tup [.int (a : Nat), .int (p : Nat)]) ∧ 1 ≤ p ∧ Q .non H
theorem ok_check_periodic {f : Addr} {fd : FuncData} (F : Fun K "check_periodic" "check_periodic" s_check_periodic f fd) (h1 : Has P w K mg base 3 "is_periodic" ["given"] [] spPeriodic) : FnOk P w K mg base CX0 4 f fd ["given"] spCheckPeriodic := by
  obtain ⟨f_is_periodic, fd_is_periodic, ds_is_periodic, G_is_periodic, m_is_periodic, k_is_periodic, b_is_periodic, v_is_periodic⟩ := h1
  refine F.ok sc_check_periodic (fun vs H Q E h => ?_) (fun cdv A outer s H vs Q E hr h => ?_)
  · obtain ⟨t, a, p, rfl, _⟩ := h
    rfl
  · obtain ⟨t, a, p, rfl, ht, hp, q⟩ := h
    refine ⟨_, (pss_one (ps_if (pt_not (pt_val (pe_call G_is_periodic hr (by rfl) m_is_periodic k_is_periodic b_is_periodic v_is_periodic pass0 (pa_cons (pv 0) pa_nil))))
        (pss_one ps_never)
        pss_nil)), ?_⟩
    exact ⟨_, rfl, t, a, p, rfl, ht, hp, true, rfl, iteF q⟩
end
/-! ### the program: which of two periodic timers is ahead -/
section
variable {P : Program} {w : World} {K : PySem.W.Frag} {mg : Str → Option Value} {base : Heap}
def spCheckTwo : Sp := fun vs H Q _ => ∃ (t1 t2 : Addr) (a1 p1 a2 p2 : Nat), vs = [.ref t1, .ref t2] ∧ H t1 = some (.tup [.int (a1 : Nat), .int (p1 : Nat)]) ∧ H t2 = some (.tup [.int (a2 : Nat), .int (p2 : Nat)]) ∧ 1 ≤ p1 ∧ 1 ≤ p2 ∧ p1 ≠ p2 ∧ Q .non H
theorem ok_check_two {f : Addr} {fd : FuncData} (F : Fun K "check_two" "check_two" s_check_two f fd) (h1 : Has P w K mg base 4 "check_periodic" ["given"] [] spCheckPeriodic) : FnOk P w K mg base CX0 5 f fd ["one", "other"] spCheckTwo := by
  obtain ⟨f_check_periodic, fd_check_periodic, ds_check_periodic, G_check_periodic, m_check_periodic, k_check_periodic, b_check_periodic, v_check_periodic⟩ := h1
  refine F.ok sc_check_two (fun vs H Q E h => ?_) (fun cdv A outer s H vs Q E hr h => ?_)
  · obtain ⟨t1, t2, a1, p1, a2, p2, rfl, _⟩ := h
    rfl
  · obtain ⟨t1, t2, a1, p1, a2, p2, rfl, e1, e2, hp1, hp2, hne, q⟩ := h
    refine ⟨_, (pss_cons (ps_expr (pe_call G_check_periodic hr (by rfl) m_check_periodic k_check_periodic b_check_periodic v_check_periodic pass0 (pa_cons (pv 0) pa_nil)))
      (pss_cons (ps_expr (pe_call G_check_periodic hr (by rfl) m_check_periodic k_check_periodic b_check_periodic v_check_periodic pass0 (pa_cons (pv 1) pa_nil)))
      (pss_one (ps_if (pt_cmpR op_eq (pe_ix (ix_tupK (K := K) rfl) (pv 0) pe_int (fun _ _ => rfl)) (pe_ix (ix_tupK (K := K) rfl) (pv 1) pe_int (fun _ _ => rfl)) (nomark _))
        (pss_one ps_never)
        pss_nil)))), ?_⟩
    refine ⟨_, rfl, t1, a1, p1, rfl, e1, hp1, ?_⟩
    refine ⟨_, rfl, t2, a2, p2, rfl, e2, hp2, ?_⟩
    refine ⟨.ref t1, rfl, t1, _, 1, _, rfl, rfl, .inl (.inl e1), atI_nat (j := 1) rfl, .ref t2, rfl, t2, _, 1, _, rfl, rfl, .inl (.inl e2), atI_nat (j := 1) rfl, rfl, false, dF (vN hne), iteF ?_⟩
    exact q
def spAhead (K : PySem.W.Frag) : Sp := fun vs H Q _ => ∃ (b d a1 p1 a2 p2 : Nat) (q t1 t2 : Addr) (ws : List Bool), vs = [.int (b : Nat), .ref q, .ref t1, .ref t2, .int (d : Nat)] ∧ 2 ≤ b ∧ b ≤ 64 ∧ d < 2 ^ 250 ∧ SqL K H q (ws.map lvV) ∧ ws ≠ [] ∧
  H t1 = some (.tup [.int (a1 : Nat), .int (p1 : Nat)]) ∧ H t2 = some (.tup [.int (a2 : Nat), .int (p2 : Nat)]) ∧ 1 ≤ p1 ∧ 1 ≤ p2 ∧ p1 ≤ d ∧ p2 ≤ d ∧ ∀ v H', IsAhead b ws p1 p2 d v → Same H H' → Q (.bl v) H'
theorem ok_is_ahead {f : Addr} {fd : FuncData} (F : Fun K "is_ahead" "is_ahead" s_is_ahead f fd) (h1 : Has P w K mg base 3 "goes_in_front" ["base", "levels", "now", "due", "lowest"] [] (spFront K)) :
    FnOk P w K mg base CX0 4 f fd ["base", "levels", "one", "other", "tick"] (spAhead K) := by
  obtain ⟨f_goes_in_front, fd_goes_in_front, ds_goes_in_front, G_goes_in_front, m_goes_in_front, k_goes_in_front, b_goes_in_front, v_goes_in_front⟩ := h1
  refine F.ok sc_is_ahead (fun vs H Q E h => ?_) (fun cdv A outer s H vs Q E hr h => ?_)
  · obtain ⟨b, d, a1, p1, a2, p2, q, t1, t2, ws, rfl, _⟩ := h
    rfl
  · obtain ⟨b, d, a1, p1, a2, p2, q, t1, t2, ws, rfl, hb, hb64, hd, hL, hne, e1, e2, hp1, hp2, hd1, hd2, c⟩ := h
    refine ⟨_, (pss_cons (ps_if (pt_cmpR op_lt (pe_ix (ix_tupK (K := K) rfl) (pv 2) pe_int (fun _ _ => rfl)) (pe_ix (ix_tupK (K := K) rfl) (pv 3) pe_int (fun _ _ => rfl)) (nomark _))
        (pss_one (ps_ret (pe_call G_goes_in_front hr (by rfl) m_goes_in_front k_goes_in_front b_goes_in_front v_goes_in_front pass0 (pa_cons (pv 0) (pa_cons (pv 1) (pa_cons (pe_op op_subN (pv 4) (pe_ix (ix_tupK (K := K) rfl) (pv 2) pe_int (fun _ _ => rfl))) (pa_cons (pv 4) (pa_cons pe_int pa_nil))))))))
        pss_nil)
      (pss_one (ps_ret (pe_not (pe_call G_goes_in_front hr (by rfl) m_goes_in_front k_goes_in_front b_goes_in_front v_goes_in_front pass0 (pa_cons (pv 0) (pa_cons (pv 1) (pa_cons (pe_op op_subN (pv 4) (pe_ix (ix_tupK (K := K) rfl) (pv 3) pe_int (fun _ _ => rfl))) (pa_cons (pv 4) (pa_cons pe_int pa_nil)))))))))), ?_⟩
    refine ⟨.ref t1, rfl, t1, _, 1, _, rfl, rfl, .inl (.inl e1), atI_nat (j := 1) rfl, .ref t2, rfl, t2, _, 1, _, rfl, rfl, .inl (.inl e2), atI_nat (j := 1) rfl, _, _, rfl, rfl, decide (p1 < p2), ?_, ?_⟩
    · by_cases h : p1 < p2
      · rw [decide_eq_true h]
        exact dT (by omega)
      · rw [decide_eq_false h]
        exact dF (by omega)
    by_cases h : p1 < p2
    · rw [decide_eq_true h]
      refine iteT ⟨_, rfl, _, rfl, _, rfl, .ref t1, rfl, t1, _, 1, _, rfl, rfl, .inl (.inl e1), atI_nat (j := 1) rfl, d, p1, rfl, rfl, hd1, _, rfl, b, d - p1, d, 0, q, ws, rfl, hb, hb64, by omega, hd, hL, hne, fun k hk H1 s1 => ?_⟩
      exact c _ H1 ⟨fun _ k' hk' => by rw [hk'.uniq hk], fun z => absurd h z⟩ s1
    · rw [decide_eq_false h]
      refine iteF ⟨_, rfl, _, rfl, _, rfl, .ref t2, rfl, t2, _, 1, _, rfl, rfl, .inl (.inl e2), atI_nat (j := 1) rfl, d, p2, rfl, rfl, hd2, _, rfl, b, d - p2, d, 0, q, ws, rfl, hb, hb64, by omega, hd, hL, hne, fun k hk H1 s1 => ?_⟩
      refine ⟨_, rfl, ?_⟩
      exact c _ H1 ⟨fun z => absurd z h, fun _ k' hk' => by rw [hk'.uniq hk]⟩ s1
theorem per_le {a p d : Nat} (hp : 1 ≤ p) (h : a < d) (hm : (d - a) % p = 0) : p ≤ d := by
  have e := Nat.div_add_mod (d - a) p
  rw [hm, Nat.add_zero] at e
  have h1 : 0 < (d - a) / p := by
    rcases Nat.eq_zero_or_pos ((d - a) / p) with z | z
    · rw [z, Nat.mul_zero] at e
      omega
    · exact z
  have h2 : p * 1 ≤ p * ((d - a) / p) := Nat.mul_le_mul_left p h1
  omega
end
/-! ### the program: firing again (behind prog_ahead) -/
section
variable {P : Program} {w : World} {K : PySem.W.Frag} {mg : Str → Option Value} {base : Heap}
def spFires : Sp := fun vs H Q _ => ∃ (t : Addr) (a p d : Nat), vs = [.ref t, .int (d : Nat)] ∧ H t = some (.tup [.int (a : Nat), .int (p : Nat)]) ∧ 1 ≤ p ∧ Q (.bl (decide (a < d ∧ (d - a) % p = 0))) H
theorem ok_fires_again {f : Addr} {fd : FuncData} (F : Fun K "fires_again" "fires_again" s_fires_again f fd) : FnOk P w K mg base CX0 1 f fd ["timer", "tick"] spFires := by
  refine F.ok sc_fires_again (fun vs H Q E h => ?_) (fun cdv A outer s H vs Q E hr h => ?_)
  · obtain ⟨t, a, p, d, rfl, _⟩ := h
    rfl
  · obtain ⟨t, a, p, d, rfl, ht, hp, q⟩ := h
    refine ⟨_, (pss_cons (ps_asg (pv 0) (pg_tupK (K := K) (n := 2) rfl rfl (pgs_cons (pg_name (i := 2) sc_fires_again.nd rfl (.inl rfl)) (pgs_cons (pg_name (i := 3) sc_fires_again.nd rfl (.inl rfl)) pgs_nil))))
      (pss_one (ps_ret (pe_and (pe_cmpR op_gt (pv 1) (pv 2) (nomark _)) (pe_one (pe_cmpR op_eq (pe_op op_remN (pe_op op_subN (pv 1) (pv 2)) (pv 3)) pe_int (nomark _))))))), ?_⟩
    refine ⟨.ref t, rfl, t, _, rfl, .inl (.inl ht), rfl, _, _, rfl, _, _, rfl, rfl, ?_⟩
    by_cases h : a < d
    · refine ⟨_, rfl, _, rfl, _, _, rfl, rfl, true, dT (by omega), iteT ?_⟩
      refine ⟨_, rfl, _, rfl, d, a, rfl, rfl, Nat.le_of_lt h, _, rfl, d - a, p, rfl, rfl, hp, rfl, ?_⟩
      have e : decide (V.int (((d - a) % p : Nat) : Int) = V.int 0) = decide (a < d ∧ (d - a) % p = 0) := by
        by_cases z : (d - a) % p = 0
        · rw [decide_eq_true (show a < d ∧ (d - a) % p = 0 from ⟨h, z⟩), z]
          rfl
        · rw [decide_eq_false (show ¬ (a < d ∧ (d - a) % p = 0) from fun y => z y.2)]
          exact decide_eq_false (vN (b := 0) z)
      show Q (.bl (decide (V.int (((d - a) % p : Nat) : Int) = V.int 0))) H
      rw [e]
      exact q
    · refine ⟨_, rfl, _, rfl, _, _, rfl, rfl, false, dF (by omega), iteF ?_⟩
      rw [decide_eq_false (show ¬ (a < d ∧ (d - a) % p = 0) from fun y => h y.1)] at q
      exact q
end
/-! ### the program: where two periodic timers meet -/
section
variable {P : Program} {w : World} {K : PySem.W.Frag} {mg : Str → Option Value} {base : Heap}
def spDivFac : Sp := fun vs H Q _ => ∃ n m : Nat, vs = [.int (n : Nat), .int (m : Nat)] ∧ 1 ≤ n ∧ 1 ≤ m ∧ n < 2 ^ 210 ∧ m < 2 ^ 210 ∧ ∀ x : Int, (m : Int) ∣ x * n - (Nat.gcd n m : Nat) → x.natAbs ≤ m → ∀ H' t, Same H H' → H t = none → H' t = some (.tup [.int (Nat.gcd n m : Nat), .int x]) → Q (.ref t) H'
theorem ok_divisor_and_factor {f : Addr} {fd : FuncData} (F : Fun K "divisor_and_factor" "divisor_and_factor" s_divisor_and_factor f fd) : FnOk P w K mg base CX0 1 f fd ["number", "modulus"] spDivFac := by
  refine F.ok sc_divisor_and_factor (fun vs H Q E h => ?_) (fun cdv A outer s H vs Q E hr h => ?_)
  · obtain ⟨n, m, rfl, _⟩ := h
    rfl
  · obtain ⟨n, m, rfl, hn, hm, hn2, hm2, q⟩ := h
    refine ⟨_, (pss_cons (ps_par (i := 2) (j := 3) (by rfl) sc_divisor_and_factor.nd rfl rfl (by decide) rfl rfl (pa_cons (pv 0) (pa_cons (pv 1) pa_nil)) (by rfl))
      (pss_cons (ps_asg (pe_tup (pa_cons pe_int (pa_cons pe_int pa_nil))) (pg_tupK (K := K) (n := 2) rfl rfl (pgs_cons (pg_name (i := 4) sc_divisor_and_factor.nd rfl (.inl rfl)) (pgs_cons (pg_name (i := 5) sc_divisor_and_factor.nd rfl (.inl rfl)) pgs_nil))))
      (pss_cons (ps_while PassesOwn.never (pt_cmpR op_ne (pv 3) pe_int (nomark _))
        (pss_cons (ps_set (i := 6) sc_divisor_and_factor.nd rfl (.inl rfl) (pe_op op_fdivW (pv 2) (pv 3)))
        (pss_cons (ps_par (i := 2) (j := 3) (by rfl) sc_divisor_and_factor.nd rfl rfl (by decide) rfl rfl (pa_cons (pv 3) (pa_cons (pe_op op_sub (pv 2) (pe_op op_mulA (pv 6) (pv 3))) pa_nil)) (by rfl))
        (pss_one (ps_par (i := 4) (j := 5) (by rfl) sc_divisor_and_factor.nd rfl rfl (by decide) rfl rfl (pa_cons (pv 5) (pa_cons (pe_op op_sub (pv 4) (pe_op op_mulA (pv 6) (pv 5))) pa_nil)) (by rfl))))))
      (pss_one (ps_ret (pe_tup (pa_cons (pv 2) (pa_cons (pv 4) pa_nil)))))))), ?_⟩
    refine ⟨_, rfl, _, rfl, _, _, rfl, by simp [sizeLine_eq], fun t0 ht0 => ⟨t0, _, rfl, .inl (.inl upd_same), rfl, _, _, rfl, _, _, rfl, rfl, ?_⟩⟩
    refine while_by (fun σ H' => ∃ (d r a b : Nat) (x y : Int) (y6 : Option V), σ = [some (.int (n : Nat)), some (.int (m : Nat)), some (.int (d : Nat)), some (.int (r : Nat)), some (.int x), some (.int y), y6] ∧ Same H H' ∧ ((x = (a : Int) ∧ y = -(b : Int)) ∨ (x = -(a : Int) ∧ y = (b : Int))) ∧
        1 ≤ d ∧ d < 2 ^ 210 ∧ r < 2 ^ 210 ∧ Nat.gcd d r = Nat.gcd n m ∧ a * r + b * d = m ∧ a ≤ m ∧ (m : Int) ∣ x * n - d ∧ (m : Int) ∣ y * n - r)
      (fun σ _ => slotInt σ 3) ⟨n, m, 1, 0, 1, 0, none, rfl, same_upd ht0, .inl ⟨rfl, rfl⟩, hn, hn2, hm2, rfl, by omega, hm, ⟨0, by omega⟩, ⟨-1, by omega⟩⟩ ?_ ?_
    · rintro σ H' ⟨d, r, a, b, x, y, y6, rfl, sm, hxy, hd, hd2, hr2, hgcd, hsz, ham, hx, hy⟩
      by_cases h0 : r = 0
      · refine ⟨_, rfl, rfl, false, nF (vE h0), iteF ?_⟩
        subst h0
        rw [Nat.gcd_zero_right] at hgcd
        subst hgcd
        refine ⟨_, rfl, _, rfl, by simp [sizeLine_eq], fun t ht => ?_⟩
        exact q x hx (by rcases hxy with z | z <;> omega) _ t (sm.trans (same_upd ht)) (sm.free ht) upd_same
      · refine ⟨_, rfl, rfl, true, nT (vN (b := 0) h0), iteT ?_⟩
        have hb : b ≤ m := by
          have z : b * 1 ≤ b * d := Nat.mul_le_mul_left b hd
          omega
        have hq : d / r ≤ d := Nat.div_le_self d r
        have hmod : d % r < r := Nat.mod_lt d (by omega)
        refine ⟨_, rfl, _, rfl, (d : Nat), (r : Nat), rfl, rfl, (ndiv (a := d) 210 (by omega : 0 < r) hr2 |> fun z => wide_div (b := 9000) (Int.natCast_pos.mpr z.1) z.2 (by decide) (Nat.le_refl _)), ?_⟩
        have e1 : (d : Int) - ((d / r : Nat) : Int) * (r : Int) = ((d % r : Nat) : Int) := by
          have z := Nat.div_add_mod d r
          have z2 : ((r * (d / r) + d % r : Nat) : Int) = (d : Int) := congrArg Int.ofNat z
          rw [Int.natCast_add, Int.natCast_mul, Int.mul_comm] at z2
          omega
        refine ⟨_, rfl, _, rfl, _, rfl, _, rfl, ((d / r : Nat) : Int), (r : Nat), rfl, rfl, mul_w 210 210 (by rw [natAbs_cast]; omega) (by rw [natAbs_cast]; exact hr2), (d : Nat), _, rfl, rfl, .int (r : Nat), .int ((d % r : Nat) : Int), congrArg (fun z : Int => [V.int (r : Nat), V.int z]) e1, ?_⟩
        refine ⟨_, rfl, _, rfl, _, rfl, _, rfl, ((d / r : Nat) : Int), y, rfl, rfl, mul_w 210 210 (by rw [natAbs_cast]; omega) (by rcases hxy with z | z <;> omega), x, _, rfl, rfl, .int y, .int (x - ((d / r : Nat) : Int) * y), rfl, ?_⟩
        refine ⟨⟨r, d % r, b, a + d / r * b, y, x - ((d / r : Nat) : Int) * y, _, rfl, sm, ?_, by omega, hr2, by omega, ?_, chain_size hsz, hb, hy, chain_step hx hy⟩, ?_⟩
        · rcases hxy with ⟨z1, z2⟩ | ⟨z1, z2⟩
          · refine .inr ⟨z2, ?_⟩
            rw [z1, z2, Int.mul_neg, Int.natCast_add, Int.natCast_mul]
            omega
          · refine .inl ⟨z2, ?_⟩
            rw [z1, z2, Int.natCast_add, Int.natCast_mul]
            omega
        · rw [Nat.gcd_comm, ← Nat.gcd_rec, Nat.gcd_comm]
          exact hgcd
        · show (((d % r : Nat) : Int)).toNat < ((r : Int)).toNat
          rw [Int.toNat_natCast, Int.toNat_natCast]
          exact hmod
    · rintro σ H' Q1 Q2 h ⟨x, hx, hs, k, e, z⟩
      exact ⟨x, hx, hs, k, e, h _ _ z⟩
/-- what common() tells of two timers -/
def MeetV (H : Hp) (v : V) (a p o q : Nat) : Prop :=
  (¬ ((o : Int) - a) % ((Nat.gcd p q : Nat) : Int) = 0 ∧ v = .non) ∨ (((o : Int) - a) % ((Nat.gcd p q : Nat) : Int) = 0 ∧ ∃ (t : Addr) (f e : Nat), v = .ref t ∧ H t = some (.tup [.int (f : Nat), .int (e : Nat)]) ∧ IsMeet a p o q f e)
def spMeet : Sp := fun vs H Q _ => ∃ (t1 t2 : Addr) (a p o q : Nat), vs = [.ref t1, .ref t2] ∧ H t1 = some (.tup [.int (a : Nat), .int (p : Nat)]) ∧ H t2 = some (.tup [.int (o : Nat), .int (q : Nat)]) ∧ 1 ≤ p ∧ 1 ≤ q ∧ p < 2 ^ 210 ∧ q < 2 ^ 210 ∧ a < 2 ^ 210 ∧ o < 2 ^ 210 ∧
  ∀ v H', Same H H' → MeetV H' v a p o q → (∀ t, v = .ref t → H t = none) → Q v H'
theorem ok_meetings {f : Addr} {fd : FuncData} (F : Fun K "meetings" "meetings" s_meetings f fd) (T : Tx K mg) (h1 : Has P w K mg base 1 "divisor_and_factor" ["number", "modulus"] [] spDivFac) : FnOk P w K mg base CX0 2 f fd ["one", "other"] spMeet := by
  obtain ⟨f_divisor_and_factor, fd_divisor_and_factor, ds_divisor_and_factor, G_divisor_and_factor, m_divisor_and_factor, k_divisor_and_factor, b_divisor_and_factor, v_divisor_and_factor⟩ := h1
  refine F.ok sc_meetings (fun vs H Q E h => ?_) (fun cdv A outer s H vs Q E hr h => ?_)
  · obtain ⟨t1, t2, a, p, o, q, rfl, _⟩ := h
    rfl
  · obtain ⟨t1, t2, a, p, o, q, rfl, e1, e2, hp, hq, hp2, hq2, ha2, ho2, c⟩ := h
    have hg : 0 < Nat.gcd p q := Nat.gcd_pos_of_pos_left q hp
    have hg2 : Nat.gcd p q < 2 ^ 210 := Nat.lt_of_le_of_lt (Nat.le_of_dvd (by omega) (Nat.gcd_dvd_left p q)) hp2
    have cg : ∀ i : Int, CDivW i ((Nat.gcd p q : Nat) : Int) := fun i => wide_div (b := 210) (Int.natCast_pos.mpr hg) hg2 (by decide) (by decide)
    refine ⟨_, (pss_cons (ps_asg (pv 0) (pg_tupK (K := K) (n := 2) rfl rfl (pgs_cons (pg_name (i := 2) sc_meetings.nd rfl (.inl rfl)) (pgs_cons (pg_name (i := 3) sc_meetings.nd rfl (.inl rfl)) pgs_nil))))
      (pss_cons (ps_asg (pv 1) (pg_tupK (K := K) (n := 2) rfl rfl (pgs_cons (pg_name (i := 4) sc_meetings.nd rfl (.inl rfl)) (pgs_cons (pg_name (i := 5) sc_meetings.nd rfl (.inl rfl)) pgs_nil))))
      (pss_cons (ps_asg (pe_call G_divisor_and_factor hr (by rfl) m_divisor_and_factor k_divisor_and_factor b_divisor_and_factor v_divisor_and_factor pass0 (pa_cons (pv 3) (pa_cons (pv 5) pa_nil))) (pg_tupK (K := K) (n := 2) rfl rfl (pgs_cons (pg_name (i := 6) sc_meetings.nd rfl (.inl rfl)) (pgs_cons (pg_name (i := 7) sc_meetings.nd rfl (.inl rfl)) pgs_nil))))
      (pss_cons (ps_set (i := 8) sc_meetings.nd rfl (.inl rfl) (pe_op op_sub (pv 4) (pv 2)))
      (pss_cons (ps_if (pt_cmpR op_ne (pe_op op_mod (pv 8) (pv 6)) pe_int (nomark _))
        (pss_one (ps_ret pe_non))
        pss_nil)
      (pss_cons (ps_set (i := 9) sc_meetings.nd rfl (.inl rfl) (pe_op op_add (pv 2) (pe_op op_mulA (pe_op op_mulA (pe_op op_fdivW (pv 8) (pv 6)) (pv 7)) (pv 3))))
      (pss_cons (ps_set (i := 10) sc_meetings.nd rfl (.inl rfl) (pe_op op_mulA (pe_op op_fdivW (pv 3) (pv 6)) (pv 5)))
      (pss_cons (ps_set (i := 11) sc_meetings.nd rfl (.inl rfl) (pe_callB (call_max2 rfl) (by rfl) T.b_max (by decide +kernel) (pa_cons (pv 2) (pa_cons (pv 4) pa_nil))))
      (pss_one (ps_ret (pe_tup (pa_cons (pe_op op_add (pv 11) (pe_op op_mod (pe_op op_sub (pv 9) (pv 11)) (pv 10))) (pa_cons (pv 10) pa_nil))))))))))))), ?_⟩
    refine ⟨.ref t1, rfl, t1, _, rfl, .inl (.inl e1), rfl, _, _, rfl, _, _, rfl, rfl, ?_⟩
    refine ⟨.ref t2, rfl, t2, _, rfl, .inl (.inl e2), rfl, _, _, rfl, _, _, rfl, rfl, ?_⟩
    refine ⟨_, rfl, _, rfl, p, q, rfl, hp, hq, hp2, hq2, fun x hx hxm H1 t3 s1 ht3 e3 => ?_⟩
    refine ⟨t3, _, rfl, .inl (.inl e3), rfl, _, _, rfl, _, _, rfl, rfl, ?_⟩
    -- apart
    refine ⟨_, rfl, _, rfl, (o : Nat), (a : Nat), rfl, rfl, ?_⟩
    by_cases hgd : ((o : Int) - a) % ((Nat.gcd p q : Nat) : Int) = 0
    · refine ⟨_, rfl, _, rfl, (o : Int) - a, ((Nat.gcd p q : Nat) : Int), rfl, rfl, Int.natCast_pos.mpr hg, rfl, false, nF (congrArg V.int hgd), iteF ?_⟩
      have hu : (((o : Int) - a) / ((Nat.gcd p q : Nat) : Int)).natAbs < 2 ^ 211 := by
        have z := Int.natAbs_ediv_le_natAbs ((o : Int) - a) ((Nat.gcd p q : Nat) : Int)
        omega
      have hux : (((o : Int) - a) / ((Nat.gcd p q : Nat) : Int) * x).natAbs < 2 ^ 421 := by
        have z := wide_lt (j := x) hu (show x.natAbs < 2 ^ 210 by omega)
        exact z
      have hpg : p / Nat.gcd p q ≤ p := Nat.div_le_self _ _
      refine ⟨_, rfl, _, rfl, _, rfl, (o : Int) - a, ((Nat.gcd p q : Nat) : Int), rfl, rfl, cg _, _, rfl, ((o : Int) - a) / ((Nat.gcd p q : Nat) : Int), x, rfl, rfl, mul_w 211 210 hu (by omega), _, rfl, _, (p : Nat), rfl, rfl, mul_w 421 210 hux (by rw [natAbs_cast]; exact hp2), (a : Nat), _, rfl, rfl, ?_⟩
      refine ⟨_, rfl, _, rfl, (p : Nat), ((Nat.gcd p q : Nat) : Int), rfl, rfl, cg _, _, rfl, ((p / Nat.gcd p q : Nat) : Int), (q : Nat), rfl, rfl, mul_w 210 210 (by rw [natAbs_cast]; omega) (by rw [natAbs_cast]; exact hq2), ?_⟩
      obtain ⟨fst, ef, hm⟩ := meet_of hp hq hx hgd
      have he := lcm_pos hp hq
      have ee : ((p / Nat.gcd p q : Nat) : Int) * (q : Int) = ((p / Nat.gcd p q * q : Nat) : Int) := (Int.natCast_mul _ _).symm
      refine ⟨_, rfl, _, rfl, (a : Nat), (o : Nat), rfl, ?_⟩
      refine ⟨_, rfl, _, rfl, _, rfl, _, _, rfl, rfl, _, rfl, _, ((p / Nat.gcd p q * q : Nat) : Int), rfl, congrArg V.int ee, Int.natCast_pos.mpr he, _, _, rfl, rfl, _, rfl, by simp [sizeLine_eq], fun t ht => ?_⟩
      refine c (.ref t) _ (s1.trans (same_upd ht)) (.inr ⟨hgd, t, fst, p / Nat.gcd p q * q, rfl, ?_, hm⟩) (fun t' e => by cases e; exact s1.free ht)
      rw [upd_same]
      have e8 : (a : Int) + ((o : Int) - a) / ((Nat.gcd p q : Nat) : Int) * x * p = (a : Int) + ((o : Int) - a) / ((Nat.gcd p q : Nat) : Int) * x * (p : Nat) := rfl
      exact congrArg some (congrArg HO.tup (by
        rw [← ef, ← ee]
        ))
    · refine ⟨_, rfl, _, rfl, (o : Int) - a, ((Nat.gcd p q : Nat) : Int), rfl, rfl, Int.natCast_pos.mpr hg, rfl, true, nT (vI hgd), iteT ?_⟩
      exact c .non H1 s1 (.inl ⟨hgd, rfl⟩) (fun t e => by cases e)
end
/-! ### the program: how often one timer goes first -/
theorem rangeSize_meet {m e y : Nat} (he : 1 ≤ e) : Builtin.Range.rangeSize (m : Int) (y : Int) (e : Int) = (meetN m e y : Nat) := by
  unfold Builtin.Range.rangeSize meetN
  rw [if_pos (by omega : (e : Int) > 0)]
  by_cases c : m < y
  · rw [if_pos (by omega : (m : Int) < (y : Int))]
    have e1 : (y - m + (e - 1)) / e = (y - m - 1) / e + 1 := by
      rw [show y - m + (e - 1) = (y - m - 1) + e by omega, Nat.add_div_right _ (by omega : 0 < e)]
    rw [e1, show (y : Int) - (m : Int) - 1 = ((y - m - 1 : Nat) : Int) by omega]
    rfl
  · rw [if_neg (by omega : ¬ (m : Int) < (y : Int)), show y - m = 0 by omega, Nat.zero_add, Nat.div_eq_of_lt (by omega)]
    rfl
theorem up_int {x f e : Nat} (he : 1 ≤ e) : (if (x : Int) - (f : Int) + (e : Int) - 1 > 0 then (x : Int) - (f : Int) + (e : Int) - 1 else 0) / (e : Int) = (((x - f + (e - 1)) / e : Nat) : Int) := by
  by_cases c : f ≤ x
  · have z : (if (x : Int) - (f : Int) + (e : Int) - 1 > 0 then (x : Int) - (f : Int) + (e : Int) - 1 else 0) = ((x - f + (e - 1) : Nat) : Int) := by split <;> omega
    rw [z]
    rfl
  · have z : ∃ r : Nat, r < e ∧ (if (x : Int) - (f : Int) + (e : Int) - 1 > 0 then (x : Int) - (f : Int) + (e : Int) - 1 else 0) = (r : Int) := by
      split
      · exact ⟨((x : Int) - (f : Int) + (e : Int) - 1).toNat, by omega, by omega⟩
      · exact ⟨0, by omega, rfl⟩
    obtain ⟨r, hr, z⟩ := z
    rw [z, show x - f = 0 by omega, Nat.zero_add, Nat.div_eq_of_lt (by omega : e - 1 < e)]
    show ((r / e : Nat) : Int) = _
    rw [Nat.div_eq_of_lt hr]
section
variable {P : Program} {w : World} {K : PySem.W.Frag} {mg : Str → Option Value} {base : Heap}
def MostM (mg : Str → Option Value) : Prop := ∃ t, mg "MOST_MEETINGS" = some (.int 2000 t)
def spTimes (K : PySem.W.Frag) : Sp := fun vs H Q _ => ∃ (b a p o q x y : Nat) (ql t1 t2 : Addr) (ws : List Bool), vs = [.int (b : Nat), .ref ql, .ref t1, .ref t2, .int (x : Nat), .int (y : Nat)] ∧ 2 ≤ b ∧ b ≤ 64 ∧ SqL K H ql (ws.map lvV) ∧ ws ≠ [] ∧ ws.length ≤ 60 ∧
  H t1 = some (.tup [.int (a : Nat), .int (p : Nat)]) ∧ H t2 = some (.tup [.int (o : Nat), .int (q : Nat)]) ∧ (1 ≤ p ∧ p < 2 ^ 200) ∧ (1 ≤ q ∧ q < 2 ^ 200) ∧ p ≠ q ∧ a < 2 ^ 200 ∧ o < 2 ^ 200 ∧ x ≤ y ∧ y < 2 ^ 240 ∧
  (∀ f e, IsMeet a p o q f e → meetN (meetM f e x) e y ≤ 2000) ∧ ∀ H', Same H H' → Q (.int (cntP (fun t => bothB a p o q t && ahB ws b p q t) x (y - x) : Nat)) H'
theorem ok_times_first {f : Addr} {fd : FuncData} (F : Fun K "times_first" "times_first" s_times_first f fd) (T : Tx K mg) (hM : MostM mg) (h1 : Has P w K mg base 3 "check_base" ["base"] [] spCheckBase) (h4 : Has P w K mg base 4 "check_levels" ["levels"] [] (spCheckLevels K))
    (h2 : Has P w K mg base 3 "check_tick" ["tick", "least"] [.int 0] spCheckTick) (h7 : Has P w K mg base 3 "check_tick" ["tick", "least"] [] spCheckTick) (h3 : Has P w K mg base 5 "check_two" ["one", "other"] [] spCheckTwo)
    (h5 : Has P w K mg base 2 "meetings" ["one", "other"] [] spMeet) (h6 : Has P w K mg base 4 "is_ahead" ["base", "levels", "one", "other", "tick"] [] (spAhead K)) :
    FnOk P w K mg base CX0 6 f fd ["base", "levels", "one", "other", "first", "behind"] (spTimes K) := by
  obtain ⟨tM, g_MOST_MEETINGS⟩ := hM
  obtain ⟨f_check_base, fd_check_base, ds_check_base, G_check_base, m_check_base, k_check_base, b_check_base, v_check_base⟩ := h1
  obtain ⟨f_check_tick1, fd_check_tick1, ds_check_tick1, G_check_tick1, m_check_tick1, k_check_tick1, b_check_tick1, v_check_tick1⟩ := h2
  obtain ⟨f_check_tick, fd_check_tick, ds_check_tick, G_check_tick, m_check_tick, k_check_tick, b_check_tick, v_check_tick⟩ := h7
  obtain ⟨f_check_two, fd_check_two, ds_check_two, G_check_two, m_check_two, k_check_two, b_check_two, v_check_two⟩ := h3
  obtain ⟨f_check_levels, fd_check_levels, ds_check_levels, G_check_levels, m_check_levels, k_check_levels, b_check_levels, v_check_levels⟩ := h4
  obtain ⟨f_meetings, fd_meetings, ds_meetings, G_meetings, m_meetings, k_meetings, b_meetings, v_meetings⟩ := h5
  obtain ⟨f_is_ahead, fd_is_ahead, ds_is_ahead, G_is_ahead, m_is_ahead, k_is_ahead, b_is_ahead, v_is_ahead⟩ := h6
  refine F.ok sc_times_first (fun vs H Q E h => ?_) (fun cdv A outer s H vs Q E hr h => ?_)
  · obtain ⟨b, a, p, o, q, x, y, ql, t1, t2, ws, rfl, _⟩ := h
    rfl
  · obtain ⟨b, a, p, o, q, x, y, ql, t1, t2, ws, rfl, hb, hb64, hL, hne, h60, e1, e2, ⟨hp, hp2⟩, ⟨hq, hq2⟩, hpq, ha2, ho2, hxy, hy2, hmany, c⟩ := h
    refine ⟨_, (pss_cons (ps_expr (pe_call G_check_base (hr.mono (by decide)) (by rfl) m_check_base k_check_base b_check_base v_check_base pass0 (pa_cons (pv 0) pa_nil)))
      (pss_cons (ps_expr (pe_call G_check_levels (hr.mono (by decide)) (by rfl) m_check_levels k_check_levels b_check_levels v_check_levels pass0 (pa_cons (pv 1) pa_nil)))
      (pss_cons (ps_expr (pe_call G_check_two hr (by rfl) m_check_two k_check_two b_check_two v_check_two pass0 (pa_cons (pv 2) (pa_cons (pv 3) pa_nil))))
      (pss_cons (ps_expr (pe_call G_check_tick1 (hr.mono (by decide)) (by rfl) m_check_tick1 k_check_tick1 b_check_tick1 v_check_tick1 pass0 (pa_cons (pv 4) pa_nil)))
      (pss_cons (ps_expr (pe_call G_check_tick (hr.mono (by decide)) (by rfl) m_check_tick k_check_tick b_check_tick v_check_tick pass0 (pa_cons (pv 5) (pa_cons (pv 4) pa_nil))))
      (pss_cons (ps_set (i := 6) sc_times_first.nd rfl (.inl rfl) (pe_call G_meetings (hr.mono (by decide)) (by rfl) m_meetings k_meetings b_meetings v_meetings pass0 (pa_cons (pv 2) (pa_cons (pv 3) pa_nil))))
      (pss_cons (ps_if (pt_cmpR op_isN (pv 6) pe_non (nomark _))
        (pss_one (ps_ret pe_int))
        pss_nil)
      (pss_cons (ps_asg (pv 6) (pg_tupK (K := K) (n := 2) rfl rfl (pgs_cons (pg_name (i := 7) sc_times_first.nd rfl (.inl rfl)) (pgs_cons (pg_name (i := 8) sc_times_first.nd rfl (.inl rfl)) pgs_nil))))
      (pss_cons (ps_aug (i := 7) sc_times_first.nd rfl (.inl rfl) (pe_op op_mulA (pe_op op_fdivW (pe_callB (call_max2 rfl) (by rfl) T.b_max (by decide +kernel) (pa_cons pe_int (pa_cons (pe_op op_sub (pe_op op_add (pe_op op_sub (pv 4) (pv 7)) (pv 8)) pe_int) pa_nil))) (pv 8)) (pv 8)) ip_add)
      (pss_cons (ps_if (pt_cmpR op_gt (pe_op op_fdivW (pe_callB (call_max2 rfl) (by rfl) T.b_max (by decide +kernel) (pa_cons pe_int (pa_cons (pe_op op_sub (pe_op op_add (pe_op op_sub (pv 5) (pv 7)) (pv 8)) pe_int) pa_nil))) (pv 8)) (pe_glob (v := .int 2000) rfl g_MOST_MEETINGS ⟨_, rfl⟩) (nomark _))
        (pss_one ps_never)
        pss_nil)
      (pss_cons (ps_setLc (i := 9) (own := [("tick", 10)]) (g := gName 10)  rfl sc_times_first.nd rfl rfl (sw_true rfl rfl rfl (by decide +kernel)) (pi_wide3 (by rfl) T.b_range (pa_cons (pv 7) (pa_cons (pv 5) (pa_cons (pv 8) pa_nil)))) (blkOk_by (own := [("tick", 10)]) (N := N_times_first) (sc := defScope s_times_first) (by decide +kernel)) (fun _ _ _ _ _ => (pg_name (i := 10) sc_times_first.nd rfl (.inl rfl))) (fun _ _ _ _ _ => (pts_one (pt_cmpR op_gt (pv 10) (pe_callB (call_max2 rfl) (by rfl) T.b_max (by decide +kernel) (pa_cons (pe_ix (ix_tupK (K := K) rfl) (pv 2) pe_int (fun _ _ => rfl)) (pa_cons (pe_ix (ix_tupK (K := K) rfl) (pv 3) pe_int (fun _ _ => rfl)) pa_nil))) (nomark _)))) (fun _ _ _ _ _ => (pv 10)))
      (pss_one (ps_ret (pe_callB (lenK (K := K) rfl) (by rfl) T.b_len PySem.boot_len (pa_cons (pe_lc (own := [("tick", 10)]) (g := gName 10)  rfl sc_times_first.nd (pi_list (pv 9)) (blkOk_by (own := [("tick", 10)]) (N := N_times_first) (sc := defScope s_times_first) (by decide +kernel)) (fun _ _ _ _ _ => (pg_name (i := 10) sc_times_first.nd rfl (.inl rfl))) (fun _ _ _ _ _ => (pts_one (pt_val (pe_call G_is_ahead (hr.mono (by decide)) (by rfl) m_is_ahead k_is_ahead b_is_ahead v_is_ahead pass0 (pa_cons (pv 0) (pa_cons (pv 1) (pa_cons (pv 2) (pa_cons (pv 3) (pa_cons (pv 10) pa_nil))))))))) (fun _ _ _ _ _ => (pv 10))) pa_nil))))))))))))))), ?_⟩
    refine ⟨_, rfl, b, rfl, by omega, by omega, ?_⟩
    refine ⟨_, rfl, ql, ws, rfl, hL, hne, h60, fun H1 s1 => ?_⟩
    refine ⟨_, rfl, _, rfl, t1, t2, a, p, o, q, rfl, s1 _ _ e1, s1 _ _ e2, hp, hq, hpq, ?_⟩
    refine ⟨_, rfl, x, 0, rfl, by omega, ?_⟩
    refine ⟨_, rfl, _, rfl, y, x, rfl, by omega, ?_⟩
    refine ⟨_, rfl, _, rfl, t1, t2, a, p, o, q, rfl, s1 _ _ e1, s1 _ _ e2, hp, hq, by omega, by omega, by omega, by omega, fun v H2 s2 hv _ => ?_⟩
    have s02 := s1.trans s2
    rcases hv with ⟨hn, rfl⟩ | ⟨hg, tm, f, e, rfl, em, hm⟩
    · refine ⟨_, rfl, rfl, true, rfl, iteT ?_⟩
      have z : cntP (fun t => bothB a p o q t && ahB ws b p q t) x (y - x) = 0 := by
        refine cntP_zero _ fun t h1 h2 => ?_
        cases hB : bothB a p o q t with
        | false => rfl
        | true =>
          obtain ⟨⟨b1, b2⟩, b3, b4⟩ := bothB_iff.mp hB
          exact absurd (meet_gcd (Nat.le_of_lt b1) (Nat.le_of_lt b3) (Nat.dvd_of_mod_eq_zero b2) (Nat.dvd_of_mod_eq_zero b4)) hn
      have z2 := c H2 s02
      rw [z] at z2
      exact z2
    · refine ⟨_, rfl, rfl, false, rfl, iteF ?_⟩
      have hmeet := hm
      obtain ⟨he, c1, c2, c3, c4⟩ := hm
      have he1 : 1 ≤ e := by
        rw [he]
        exact lcm_pos hp hq
      have he2 : e < 2 ^ 400 := by
        have z : p / Nat.gcd p q * q < 2 ^ 400 := by
          have z1 := Nat.mul_lt_mul'' (Nat.lt_of_le_of_lt (Nat.div_le_self p (Nat.gcd p q)) hp2) hq2
          rw [← Nat.pow_add] at z1
          exact z1
        rw [he]
        exact z
      have hf2 : f < 2 ^ 401 := by omega
      have hN := hmany f e hmeet
      have hx2 : x < 2 ^ 240 := by omega
      refine ⟨.ref tm, rfl, tm, _, rfl, .inl (.inl em), rfl, _, _, rfl, _, _, rfl, rfl, ?_⟩
      -- the first meeting that counts
      have cw : ∀ i : Int, CDivW i (e : Int) := fun i => wide_div (b := 400) (Int.natCast_pos.mpr he1) he2 (by decide) (by decide)
      have hk1 : (x - f + (e - 1)) / e < 2 ^ 402 := Nat.lt_of_le_of_lt (Nat.div_le_self _ _) (by omega)
      refine ⟨_, rfl, _, rfl, _, rfl, (x : Nat), (f : Nat), rfl, rfl, _, rfl, _, (e : Nat), rfl, rfl, _, 1, rfl, rfl, 0, _, rfl, _, rfl, _, (e : Nat), rfl, rfl, cw _, _, rfl, (((x - f + (e - 1)) / e : Nat) : Int), (e : Nat), congrArg V.int (up_int he1), rfl, mul_w 402 402 (by rw [natAbs_cast]; exact hk1) (by rw [natAbs_cast]; omega), (f : Nat), (((x - f + (e - 1)) / e * e : Nat) : Int), rfl, congrArg V.int (cast_mul _ _), ?_⟩
      -- not too many
      have hMM : meetM f e x = f + (x - f + (e - 1)) / e * e := rfl
      refine ⟨_, rfl, _, rfl, (y : Nat), ((meetM f e x : Nat) : Int), rfl, rfl, _, rfl, _, (e : Nat), rfl, rfl, _, 1, rfl, rfl, 0, _, rfl, _, rfl, _, (e : Nat), rfl, rfl, cw _, ((meetN (meetM f e x) e y : Nat) : Int), 2000, congrArg V.int (up_int he1), rfl, false, dF (by omega), iteF ?_⟩
      -- the ticks
      have hdvs : CDivP ((y : Int) - ((meetM f e x : Nat) : Int)) (e : Int) := by
        refine divp_s 3000 (Int.natCast_pos.mpr he1) ?_
        have hmm : meetM f e x < 2 ^ 900 := by
          have z := Nat.mul_lt_mul'' hk1 he2
          rw [← Nat.pow_add] at z
          rw [hMM]
          exact Nat.lt_of_lt_of_le (Nat.add_lt_add hf2 z) (by decide)
        have hbig : (2 : Nat) ^ 240 + 2 ^ 900 < 2 ^ 3000 := by decide
        have hab : ((y : Int) - ((meetM f e x : Nat) : Int)).natAbs ≤ y + meetM f e x := by omega
        generalize (2 : Nat) ^ 3000 = B at hbig ⊢
        generalize (2 : Nat) ^ 900 = B9 at hbig hmm
        omega
      refine ⟨_, rfl, _, rfl, _, rfl, ((meetM f e x : Nat) : Int), (y : Nat), (e : Nat), meetN (meetM f e x) e y, rfl, hdvs, rangeSize_meet he1, fun D hD => lc_step (lo := ((meetM f e x : Nat) : Int)) (c := (e : Nat)) (n := meetN (meetM f e x) e y) (fun i H' => Same H2 H' ∧ H' D = some (.lst ((tickL (meetM f e x) e (max a o) i).map fun t : Nat => V.int (t : Nat))))
        ⟨same_upd hD, upd_same⟩ ?_ ?_⟩
      · rintro i H' hi ⟨sm, eD⟩
        have e1' := sm _ _ (s02 _ _ e1)
        have e2' := sm _ _ (s02 _ _ e2)
        have etk : ((meetM f e x : Nat) : Int) + (i : Int) * (e : Int) = ((meetM f e x + i * e : Nat) : Int) := by
          rw [Int.natCast_add, Int.natCast_mul]
        have hmax : (if (o : Int) > (a : Int) then (o : Int) else (a : Int)) = ((max a o : Nat) : Int) := by split <;> omega
        refine ⟨rfl, _, rfl, .ref t1, rfl, t1, _, 0, _, rfl, rfl, .inl (.inl e1'), atI_nat (j := 0) rfl, .ref t2, rfl, t2, _, 0, _, rfl, rfl, .inl (.inl e2'), atI_nat (j := 0) rfl, (a : Nat), (o : Nat), rfl, ((meetM f e x + i * e : Nat) : Int), ((max a o : Nat) : Int), congrArg V.int etk, congrArg V.int hmax, ?_⟩
        by_cases hc : max a o < meetM f e x + i * e
        · refine ⟨true, dT (by omega), iteT ⟨_, rfl, _, eD, ?_, fun c o e => ?_, ?_⟩⟩
          · rw [List.length_map]
            have := tickL_len (meetM f e x) e (max a o) i
            exact sizeLine_ge (by omega)
          · rw [upd_ne (ne_of_none e hD)]
            exact sm _ _ e
          · rw [upd_same, etk]
            show _ = some (HO.lst ((tickL (meetM f e x) e (max a o) i ++ if max a o < meetM f e x + i * e then [meetM f e x + i * e] else []).map fun t : Nat => V.int (t : Nat)))
            rw [if_pos hc, List.map_append]
            rfl
        · refine ⟨false, dF (by omega), iteF ⟨sm, ?_⟩⟩
          show _ = some (HO.lst ((tickL (meetM f e x) e (max a o) i ++ if max a o < meetM f e x + i * e then [meetM f e x + i * e] else []).map fun t : Nat => V.int (t : Nat)))
          rw [if_neg hc, List.append_nil]
          exact eD
      rintro H3 ⟨s3, eD⟩
      have hlen := tickL_len (meetM f e x) e (max a o) (meetN (meetM f e x) e y)
      have hcnt : (tickL (meetM f e x) e (max a o) (meetN (meetM f e x) e y)).countP (fun t => ahB ws b p q t) = cntP (fun t => bothB a p o q t && ahB ws b p q t) x (y - x) := by
        rw [cnt_range (f := f) he1 hxy (fun t ht => ?_)]
        · refine tickL_cnt _ fun k hk => ?_
          have hd := meetM_dvd (f := f) (e := e) (x := x) (k := k)
          have hfm : f ≤ meetM f e x + k * e := by
            unfold meetM
            omega
          have hpe : p ∣ e := by
            rw [he, lcm_form hp]
            exact Nat.dvd_mul_left p _
          have hqe : q ∣ e := by
            rw [he]
            exact Nat.dvd_mul_left q _
          generalize meetM f e x + k * e = t at hd hfm ⊢
          have d1 : p ∣ t - a := by
            have z := Nat.dvd_add (Nat.dvd_trans hpe hd) c3
            rw [show t - f + (f - a) = t - a by omega] at z
            exact z
          have d2 : q ∣ t - o := by
            have z := Nat.dvd_add (Nat.dvd_trans hqe hd) c4
            rw [show t - f + (f - o) = t - o by omega] at z
            exact z
          have eb : bothB a p o q t = decide (max a o < t) := by
            rw [Bool.eq_iff_iff, bothB_iff, decide_eq_true_iff]
            constructor
            · rintro ⟨⟨z1, _⟩, z2, _⟩
              omega
            · intro z
              exact ⟨⟨by omega, Nat.mod_eq_zero_of_dvd d1⟩, by omega, Nat.mod_eq_zero_of_dvd d2⟩
          rw [eb]
        · rw [Bool.and_eq_true] at ht
          obtain ⟨⟨b1, b2⟩, b3, b4⟩ := bothB_iff.mp ht.1
          have h1 := Nat.dvd_of_mod_eq_zero b2
          have h2 := Nat.dvd_of_mod_eq_zero b4
          have hft : f ≤ t := by
            rcases Nat.lt_or_ge t f with l | l
            · have := meet_uniq hp hmeet (by omega) (by omega) h1 h2
              omega
            · exact l
          refine ⟨hft, ?_⟩
          rw [he]
          refine lcm_dvd hp ?_ ?_
          · have z := Nat.dvd_sub h1 c3
            rw [show t - a - (f - a) = t - f by omega] at z
            exact z
          · have z := Nat.dvd_sub h2 c4
            rw [show t - o - (f - o) = t - f by omega] at z
            exact z
      have hmem : ∀ t, t ∈ tickL (meetM f e x) e (max a o) (meetN (meetM f e x) e y) → t < y ∧ p ≤ t ∧ q ≤ t := by
        intro t ht
        obtain ⟨k, h1, h2, h3⟩ := tickL_mem ht
        have h4 : t < y := by
          have := up_lt he1 h1
          omega
        have hd := meetM_dvd (f := f) (e := e) (x := x) (k := k)
        have hfm : f ≤ meetM f e x + k * e := by
          unfold meetM
          omega
        rw [← h2] at hd hfm
        have hpe : p ∣ e := by
          rw [he, lcm_form hp]
          exact Nat.dvd_mul_left p _
        have hqe : q ∣ e := by
          rw [he]
          exact Nat.dvd_mul_left q _
        have d1 : p ∣ t - a := by
          have z := Nat.dvd_add (Nat.dvd_trans hpe hd) c3
          rw [show t - f + (f - a) = t - a by omega] at z
          exact z
        have d2 : q ∣ t - o := by
          have z := Nat.dvd_add (Nat.dvd_trans hqe hd) c4
          rw [show t - f + (f - o) = t - o by omega] at z
          exact z
        have l1 := Nat.le_of_dvd (by omega) d1
        have l2 := Nat.le_of_dvd (by omega) d2
        omega
      generalize tickL (meetM f e x) e (max a o) (meetN (meetM f e x) e y) = ts at eD hlen hcnt hmem
      have s03 := s02.trans s3
      refine ⟨_, rfl, D, rfl, ⟨_, SqL.of eD⟩, fun D2 hD2 => lc_list (K := K) (a := D) (xs := ts.map fun t : Nat => V.int (t : Nat)) (fun i H' => Same H3 H' ∧ ∃ zs : List V, zs.length = (ts.take i).countP (fun t => ahB ws b p q t) ∧ H' D2 = some (.lst zs))
        ⟨same_upd hD2, [], rfl, upd_same⟩ (fun i H' _ ⟨sm, _⟩ => SqL.of (sm _ _ eD)) ?_ ?_⟩
      · rintro i z H' hz ⟨sm, zs, hzs, eZ⟩
        rw [List.getElem?_map] at hz
        obtain ⟨t, ht, rfl⟩ : ∃ t, ts[i]? = some t ∧ z = V.int (t : Nat) := by
          cases ez : ts[i]? with
          | none =>
            rw [ez] at hz
            cases hz
          | some t =>
            rw [ez] at hz
            exact ⟨t, rfl, (Option.some.inj hz).symm⟩
        obtain ⟨t3, t4, t5⟩ := hmem t (List.mem_of_getElem? ht)
        have hstep : (ts.take (i + 1)).countP (fun t => ahB ws b p q t) = (ts.take i).countP (fun t => ahB ws b p q t) + if ahB ws b p q t = true then 1 else 0 := by
          rw [List.take_add_one, ht]
          show List.countP _ (List.take i ts ++ [t]) = _
          rw [List.countP_append, List.countP_singleton]
        have hzl : zs.length ≤ 2000 := by
          have z := List.countP_le_length (p := fun t => ahB ws b p q t) (l := ts.take i)
          rw [List.length_take] at z
          omega
        refine ⟨rfl, _, rfl, _, rfl, _, rfl, _, rfl, _, rfl, b, t, a, p, o, q, ql, t1, t2, ws, rfl, hb, hb64, by omega, (s03.trans sm).seq hL, hne, sm _ _ (s3 _ _ (s02 _ _ e1)), sm _ _ (s3 _ _ (s02 _ _ e2)), hp, hq, t4, t5, fun v H4 hv s4 => ⟨v, rfl, ?_⟩⟩
        have ev := hv.eq hb hp hq t4 t5
        cases v with
        | true =>
          refine iteT ⟨_, rfl, _, s4 _ _ eZ, sizeLine_ge (by omega), fun c o e' => ?_, zs ++ [.int (t : Nat)], ?_, upd_same⟩
          · rw [upd_ne (ne_of_none e' hD2)]
            exact s4 _ _ (sm _ _ e')
          · rw [hstep, ← ev, if_pos rfl, List.length_append, hzs]
            rfl
        | false =>
          refine iteF ⟨sm.trans s4, zs, ?_, s4 _ _ eZ⟩
          rw [hstep, ← ev, if_neg (by decide), hzs]
          rfl
      · rintro H4 ⟨s4, zs, hzs, eZ⟩
        rw [List.length_map, List.take_length, hcnt] at hzs
        refine ⟨D2, zs, rfl, .inl (SqL.of eZ), ?_⟩
        rw [hzs]
        exact c H4 (s03.trans s4)
end
/-! ### what fires, what is left -/
section
variable {P : Program} {w : World} {K : PySem.W.Frag} {mg : Str → Option Value} {base : Heap}
def spWithTimer : Sp := fun vs H Q _ => ∃ (a : Addr) (xs : List Nat) (n : Nat) (f : Bool), vs = [.ref a, .int (n : Nat), .bl f] ∧ H a = some (.lst (xs.map fun x => V.int (x : Nat))) ∧ xs.length ≤ 1000 ∧ ∀ H' p, Same H H' → H p = none → H' p = some (.lst ((insT f n xs).map fun x => V.int (x : Nat))) → Q (.ref p) H'
theorem ok_with_timer {f : Addr} {fd : FuncData} (F : Fun K "with_timer" "with_timer" s_with_timer f fd) : FnOk P w K mg base CX0 1 f fd ["numbers", "number", "front"] spWithTimer := by
  refine F.ok sc_with_timer (fun vs H Q E h => ?_) (fun cdv A outer s H vs Q E hr h => ?_)
  · obtain ⟨a, xs, n, fr, rfl, _⟩ := h
    rfl
  · obtain ⟨a, xs, n, fr, rfl, ha, hl, q⟩ := h
    refine ⟨_, (pss_cons (ps_if (pt_val (pv 2))
        (pss_one (ps_ret (pe_op op_cat (pe_lst (pa_cons (pv 1) pa_nil)) (pv 0))))
        pss_nil)
      (pss_one (ps_ret (pe_op op_cat (pv 0) (pe_lst (pa_cons (pv 1) pa_nil)))))), ?_⟩
    refine ⟨_, rfl, fr, rfl, ?_⟩
    cases fr with
    | true =>
      refine iteT ⟨_, rfl, by simp [sizeLine_eq], fun p1 h1 => ?_⟩
      have s1 := same_upd (o := .lst [.int (n : Nat)]) h1
      refine ⟨_, rfl, p1, a, _, _, rfl, rfl, upd_same, s1 _ _ ha, ?_, fun p hp => ?_⟩
      · rw [List.length_map]
        exact sizeLine_le (by show 1 + xs.length ≤ 1000000; omega)
      · exact q _ p (s1.trans (same_upd hp)) (s1.free hp) upd_same
    | false =>
      refine iteF ⟨_, rfl, _, rfl, by simp [sizeLine_eq], fun p1 h1 => ?_⟩
      have s1 := same_upd (o := .lst [.int (n : Nat)]) h1
      refine ⟨a, p1, _, _, rfl, rfl, s1 _ _ ha, upd_same, ?_, fun p hp => ?_⟩
      · rw [List.length_map]
        exact sizeLine_le (by show xs.length + 1 ≤ 1000000; omega)
      · refine q _ p (s1.trans (same_upd hp)) (s1.free hp) ?_
        rw [upd_same]
        unfold insT
        rw [if_neg (by decide), List.map_append]
        rfl
end
/-- the order of timers that are set at these ticks and due at one tick -/
noncomputable def orderP (b : Nat) (ws : List Bool) (d : Nat) (ps : List (Nat × Nat)) : List Nat := ps.foldl (fun acc r => insT (sideT b ws r.2 d 0) r.1 acc) []
theorem orderP_snoc (b : Nat) (ws : List Bool) (d : Nat) (ps : List (Nat × Nat)) (r : Nat × Nat) : orderP b ws d (ps ++ [r]) = insT (sideT b ws r.2 d 0) r.1 (orderP b ws d ps) := by
  unfold orderP
  rw [List.foldl_append]
  rfl
theorem orderP_len (b : Nat) (ws : List Bool) (d : Nat) (ps : List (Nat × Nat)) : (orderP b ws d ps).length = ps.length := by
  have H : ∀ (ps : List (Nat × Nat)) (acc : List Nat), (ps.foldl (fun acc r => insT (sideT b ws r.2 d 0) r.1 acc) acc).length = acc.length + ps.length := by
    intro ps
    induction ps with
    | nil => intro acc; rfl
    | cons r ps ih =>
      intro acc
      rw [List.foldl_cons, ih, insT_len, List.length_cons]
      omega
  have z := H ps []
  rw [List.length_nil, Nat.zero_add] at z
  exact z
def setsOf (t : Nat) (ms : List Tm) : List (Nat × Nat) := (ms.filter fun m => decide (m.due = t)).map fun m => (m.num, m.since)
theorem order_P (b : Nat) (ws : List Bool) (t : Nat) (ms : List Tm) : orderAt b ws t ms = orderP b ws t (setsOf t ms) := by
  have H : ∀ (ms : List Tm) (acc : List Nat), ms.foldl (fun acc m => if m.due = t then insT (sideT b ws m.since m.due 0) m.num acc else acc) acc = (setsOf t ms).foldl (fun acc r => insT (sideT b ws r.2 t 0) r.1 acc) acc := by
    intro ms
    induction ms with
    | nil => intro acc; rfl
    | cons m ms ih =>
      intro acc
      rw [List.foldl_cons, ih]
      by_cases e : m.due = t
      · have z : setsOf t (m :: ms) = (m.num, m.since) :: setsOf t ms := by
          unfold setsOf
          rw [List.filter_cons_of_pos (by simpa using e)]
          rfl
        rw [z, List.foldl_cons, if_pos e, e]
      · have z : setsOf t (m :: ms) = setsOf t ms := by
          unfold setsOf
          rw [List.filter_cons_of_neg (by simpa using e)]
        rw [z, if_neg e]
  exact H ms []
/-- at the places ts stand tuples of a number and a tick -/
def PrAt (H : Hp) : List Addr → List (Nat × Nat) → Prop
  | [], [] => True
  | t :: ts, r :: rs => H t = some (.tup [.int (r.1 : Nat), .int (r.2 : Nat)]) ∧ PrAt H ts rs
  | _, _ => False
theorem PrAt.frame {H H' : Hp} : ∀ {ts : List Addr} {rs : List (Nat × Nat)}, PrAt H ts rs → (∀ t xs, H t = some (.tup xs) → H' t = some (.tup xs)) → PrAt H' ts rs
  | [], [], _, _ => trivial
  | _ :: _, _ :: _, h, s => ⟨s _ _ h.1, h.2.frame s⟩
  | [], _ :: _, h, _ => h.elim
  | _ :: _, [], h, _ => h.elim
theorem PrAt.app {H : Hp} {t : Addr} {r : Nat × Nat} : ∀ {ts : List Addr} {rs : List (Nat × Nat)}, PrAt H ts rs → H t = some (.tup [.int (r.1 : Nat), .int (r.2 : Nat)]) → PrAt H (ts ++ [t]) (rs ++ [r])
  | [], [], _, h => ⟨h, trivial⟩
  | _ :: _, _ :: _, h, h2 => ⟨h.1, h.2.app h2⟩
  | [], _ :: _, h, _ => h.elim
  | _ :: _, [], h, _ => h.elim
theorem PrAt.len {H : Hp} : ∀ {ts : List Addr} {rs : List (Nat × Nat)}, PrAt H ts rs → ts.length = rs.length
  | [], [], _ => rfl
  | _ :: _, _ :: _, h => congrArg Nat.succ h.2.len
  | [], _ :: _, h => h.elim
  | _ :: _, [], h => h.elim
theorem PrAt.item {H : Hp} : ∀ {ts : List Addr} {rs : List (Nat × Nat)} {i : Nat} {x : V}, PrAt H ts rs → (ts.map V.ref)[i]? = some x → ∃ t r, x = V.ref t ∧ rs[i]? = some r ∧ H t = some (.tup [.int (r.1 : Nat), .int (r.2 : Nat)])
  | t :: _, r :: _, 0, x, h, e => ⟨t, r, (Option.some.inj e).symm, rfl, h.1⟩
  | _ :: _, _ :: _, i + 1, _, h, e => h.2.item (i := i) e
  | [], _, _, _, _, e => by simp at e
  | _ :: _, [], _, _, h, _ => h.elim
/-- a list made over the items of a dict -/
theorem lc_items {d : Addr} {o : Obj} {kvs : List (Key × V)} {g : TG} {tt : TT} {te : TE} {ws : List Nat} {σ : L2.St} {G : Hp} {D : Addr} {Qd : Hp → Prop} (Pv : Nat → Hp → Prop) (start : Pv 0 (upd G D (.lst []))) (lock : ∀ i G, Pv i G → G d = some (.frz o (.dK kvs)))
    (step : ∀ (i : Nat) (k : Key) (v : V) (T : Addr) (G : Hp), kvs[i]? = some (k, v) → Pv i G → G T = none → g (.ref T) (wipe σ ws) (upd G T (.tup [kV k, v])) fun τ G2 => wipe τ ws = wipe σ ws ∧ tt τ G2 fun c G3 => if c = true then te τ G3 fun z G4 => ∃ ac, G4 D = some (.lst ac) ∧ ac.length < sizeLine ∧ Pv (i + 1) (upd G4 D (.lst (ac ++ [z]))) else Pv (i + 1) G3)
    (last : ∀ G, Pv kvs.length G → Qd G) : ∃ W : Nat → Nat → Hp → Prop, (∃ m, W 0 m (upd G D (.lst []))) ∧ ∀ i m G, W i m G → ((Iti d o kvs).stop i G ∧ Qd G) ∨
      ((Iti d o kvs).go i G ∧ ∃ N : Hp → Prop, (∀ G', N G' → ∃ m', m' < m ∧ W (i + 1) m' G') ∧ ∀ x G', (Iti d o kvs).yld i G x G' → g x (wipe σ ws) G' fun τ G2 => wipe τ ws = wipe σ ws ∧ tt τ G2 fun c G3 => if c = true then te τ G3 fun z G4 => ∃ ac, G4 D = some (.lst ac) ∧ ac.length < sizeLine ∧ N (upd G4 D (.lst (ac ++ [z]))) else N G3) := by
  refine ⟨fun i m G => (m = kvs.length - i ∧ i ≤ kvs.length) ∧ Pv i G, ⟨kvs.length, ⟨rfl, Nat.zero_le _⟩, start⟩, ?_⟩
  rintro i m G ⟨⟨rfl, le⟩, pv⟩
  have here := lock i G pv
  rcases Nat.lt_or_ge i kvs.length with lt | ge
  · refine .inr ⟨⟨here, lt⟩, Pv (i + 1), fun G' p' => ⟨kvs.length - (i + 1), by omega, ⟨rfl, lt⟩, p'⟩, fun x G' y => ?_⟩
    obtain ⟨T, k, v, e, rfl, nT, rfl⟩ := y
    exact step i k v T G e pv nT
  · have e : i = kvs.length := Nat.le_antisymm le ge
    rw [e] at pv ⊢
    exact .inl ⟨⟨here, Nat.le_refl _⟩, last G pv⟩
section
variable {P : Program} {w : World} {K : PySem.W.Frag} {mg : Str → Option Value} {base : Heap}
def spFiringOrder (K : PySem.W.Frag) : Sp := fun vs H Q _ => ∃ (b d : Nat) (q S : Addr) (ws : List Bool) (ts : List Addr) (ps : List (Nat × Nat)), vs = [.int (b : Nat), .ref q, .int (d : Nat), .ref S] ∧ 2 ≤ b ∧ b ≤ 64 ∧ SqL K H q (ws.map lvV) ∧ ws ≠ [] ∧ H S = some (.lst (ts.map V.ref)) ∧ PrAt H ts ps ∧ ps.length ≤ 1000 ∧ (∀ r ∈ ps, r.2 < d ∧ d < 2 ^ 250) ∧
  ∀ H' p, Same H H' → H p = none → H' p = some (.lst ((orderP b ws d ps).map fun x => V.int (x : Nat))) → Q (.ref p) H'
theorem ok_firing_order {f : Addr} {fd : FuncData} (F : Fun K "firing_order" "firing_order" s_firing_order f fd) (h1 : Has P w K mg base 1 "with_timer" ["numbers", "number", "front"] [] spWithTimer)
    (h2 : Has P w K mg base 3 "goes_in_front" ["base", "levels", "now", "due", "lowest"] [] (spFront K)) : FnOk P w K mg base CX0 4 f fd ["base", "levels", "due", "settings"] (spFiringOrder K) := by
  obtain ⟨f_with_timer, fd_with_timer, ds_with_timer, G_with_timer, m_with_timer, k_with_timer, b_with_timer, v_with_timer⟩ := h1
  obtain ⟨f_goes_in_front, fd_goes_in_front, ds_goes_in_front, G_goes_in_front, m_goes_in_front, k_goes_in_front, b_goes_in_front, v_goes_in_front⟩ := h2
  refine F.ok sc_firing_order (fun vs H Q E h => ?_) (fun cdv A outer s H vs Q E hr h => ?_)
  · obtain ⟨b, d, q, S, ws, ts, ps, rfl, _⟩ := h
    rfl
  · obtain ⟨b, d, q, S, ws, ts, ps, rfl, hb, hb64, hL, hne, hS, hP, few, ok, c⟩ := h
    refine ⟨_, (pss_cons (ps_set (i := 4) sc_firing_order.nd rfl (.inl rfl) (pe_lst pa_nil))
      (pss_cons (ps_for PassesOwn.never rfl (pi_list (pv 3)) (pg_tupK (K := K) (n := 2) rfl rfl (pgs_cons (pg_name (i := 5) sc_firing_order.nd rfl (.inl rfl)) (pgs_cons (pg_name (i := 6) sc_firing_order.nd rfl (.inl rfl)) pgs_nil)))
        (pss_one (ps_set (i := 4) sc_firing_order.nd rfl (.inl rfl) (pe_call G_with_timer (hr.mono (by decide)) (by rfl) m_with_timer k_with_timer b_with_timer v_with_timer pass0 (pa_cons (pv 4) (pa_cons (pv 5) (pa_cons (pe_call G_goes_in_front hr (by rfl) m_goes_in_front k_goes_in_front b_goes_in_front v_goes_in_front pass0 (pa_cons (pv 0) (pa_cons (pv 1) (pa_cons (pv 6) (pa_cons (pv 2) (pa_cons pe_int pa_nil)))))) pa_nil)))))))
      (pss_one (ps_ret (pv 4))))), ?_⟩
    refine ⟨by simp [sizeLine_eq], fun p0 hp0 => ?_⟩
    have s0 := same_upd (o := .lst []) hp0
    have e0 : (upd H p0 (.lst [])) p0 = some (.lst []) := upd_same
    generalize upd H p0 (.lst []) = H0 at s0 e0 ⊢
    have hS0 := s0 _ _ hS
    refine ⟨_, rfl, S, rfl, ⟨_, SqL.of hS0⟩, for_list (K := K) (a := S) (xs := ts.map V.ref) (fun i σ H' => ∃ (p : Addr) (y5 y6 : Option V), σ = [some (.int (b : Nat)), some (.ref q), some (.int (d : Nat)), some (.ref S), some (.ref p), y5, y6] ∧ Same H0 H' ∧ H p = none ∧ H' p = some (.lst ((orderP b ws d (ps.take i)).map fun x => V.int (x : Nat))))
      ⟨p0, none, none, rfl, Same.refl _, hp0, e0⟩ (fun i σ H' _ ⟨_, _, _, _, sm, _⟩ => SqL.of (sm _ _ hS0)) ?_ ?_⟩
    · rintro i x σ H' hx ⟨p, y5, y6, rfl, sm, hp, eP⟩
      have hP' := hP.frame (H' := H') (fun t xs e => sm _ _ (s0 _ _ e))
      obtain ⟨t, r, rfl, hr2, ht⟩ := hP'.item hx
      obtain ⟨hrd, hd⟩ := ok r (List.mem_of_getElem? hr2)
      refine ⟨t, _, rfl, .inl (.inl ht), rfl, _, _, rfl, _, _, rfl, rfl, ?_⟩
      have hfew : (orderP b ws d (ps.take i)).length ≤ 1000 := by
        rw [orderP_len, List.length_take]
        omega
      refine ⟨_, rfl, _, rfl, _, rfl, _, rfl, _, rfl, _, rfl, b, r.2, d, 0, q, ws, rfl, hb, hb64, hrd, hd, (s0.trans sm).seq hL, hne, fun k2 hk2 H2 s2 => ?_⟩
      have eP2 := s2 _ _ eP
      refine ⟨p, orderP b ws d (ps.take i), r.1, frontOf ws 0 (rowsOf b r.2 d k2), rfl, eP2, hfew, fun H3 p3 s3 hp3 eP3 => ?_⟩
      refine ⟨p3, _, _, rfl, (sm.trans s2).trans s3, ((s0.trans sm).trans s2).free hp3, ?_⟩
      rw [List.take_add_one, hr2]
      show _ = some (HO.lst ((orderP b ws d (ps.take i ++ [r])).map fun x => V.int (x : Nat)))
      rw [orderP_snoc, sideT_eq hk2]
      exact eP3
    · rintro σ H' ⟨p, y5, y6, rfl, sm, hp, eP⟩
      rw [List.length_map, hP.len, List.take_length] at eP
      exact ⟨_, rfl, c _ p (s0.trans sm) hp eP⟩
end
/-! ### the order of many: how two of them stand, the one falling list -/
def oP (f : Nat × Nat → Bool) (zs : List (Nat × Nat)) : List (Nat × Nat) := zs.foldl (fun acc z => if f z = true then z :: acc else acc ++ [z]) []
theorem oP_fold (b : Nat) (ws : List Bool) (x : Nat) : ∀ (zs acc : List (Nat × Nat)), (zs.map fun z => (z.2, x - z.1)).foldl (fun acc r => insT (sideT b ws r.2 x 0) r.1 acc) (acc.map (·.2)) = (zs.foldl (fun acc z => if sideT b ws (x - z.1) x 0 = true then z :: acc else acc ++ [z]) acc).map (·.2) := by
  intro zs
  induction zs with
  | nil => intro acc; rfl
  | cons z zs ih =>
    intro acc
    rw [List.map_cons, List.foldl_cons, List.foldl_cons, ← ih]
    congr 1
    show insT (sideT b ws (x - z.1) x 0) z.2 (acc.map (·.2)) = _
    unfold insT
    by_cases c : sideT b ws (x - z.1) x 0 = true
    · rw [if_pos c, if_pos c, List.map_cons]
    · rw [if_neg c, if_neg c, List.map_append]
      rfl
theorem orderP_oP (b : Nat) (ws : List Bool) (x : Nat) (zs : List (Nat × Nat)) : orderP b ws x (zs.map fun z => (z.2, x - z.1)) = (oP (fun z => sideT b ws (x - z.1) x 0) zs).map (·.2) := oP_fold b ws x zs []
theorem oP_snoc (f : Nat × Nat → Bool) (zs : List (Nat × Nat)) (z : Nat × Nat) : oP f (zs ++ [z]) = if f z = true then z :: oP f zs else oP f zs ++ [z] := by
  unfold oP
  rw [List.foldl_append]
  rfl
theorem oP_memA (f : Nat × Nat → Bool) (y : Nat × Nat) : ∀ (zs acc : List (Nat × Nat)), y ∈ zs.foldl (fun acc z => if f z = true then z :: acc else acc ++ [z]) acc ↔ y ∈ acc ∨ y ∈ zs := by
  intro zs
  induction zs with
  | nil => intro acc; simp
  | cons z zs ih =>
    intro acc
    rw [List.foldl_cons, ih]
    by_cases c : f z = true
    · rw [if_pos c, List.mem_cons, List.mem_cons]
      constructor
      · rintro ((h | h) | h)
        · exact .inr (.inl h)
        · exact .inl h
        · exact .inr (.inr h)
      · rintro (h | h | h)
        · exact .inl (.inr h)
        · exact .inl (.inl h)
        · exact .inr h
    · rw [if_neg c, List.mem_append, List.mem_singleton, List.mem_cons]
      constructor
      · rintro ((h | h) | h)
        · exact .inl h
        · exact .inr (.inl h)
        · exact .inr (.inr h)
      · rintro (h | h | h)
        · exact .inl (.inl h)
        · exact .inl (.inr h)
        · exact .inr h
theorem oP_mem {f : Nat × Nat → Bool} {zs : List (Nat × Nat)} {y : Nat × Nat} : y ∈ oP f zs ↔ y ∈ zs := by
  unfold oP
  rw [oP_memA]
  simp
theorem oP_len (f : Nat × Nat → Bool) (zs : List (Nat × Nat)) : (oP f zs).length = zs.length := by
  have H : ∀ (zs acc : List (Nat × Nat)), (zs.foldl (fun acc z => if f z = true then z :: acc else acc ++ [z]) acc).length = acc.length + zs.length := by
    intro zs
    induction zs with
    | nil => intro acc; rfl
    | cons z zs ih =>
      intro acc
      rw [List.foldl_cons, ih, List.length_cons]
      split
      · rw [List.length_cons]
        omega
      · rw [List.length_append, List.length_singleton]
        omega
  have z := H zs []
  rw [List.length_nil, Nat.zero_add] at z
  exact z
/-- one stands ahead of another: set later and to the front, or the other one set later and to the back -/
def RelP (f : Nat × Nat → Bool) (a c : Nat × Nat) : Prop := (a.1 < c.1 ∧ f a = true) ∨ (c.1 < a.1 ∧ f c = false)
theorem oP_relA (f : Nat × Nat → Bool) : ∀ (zs acc : List (Nat × Nat)), acc.Pairwise (RelP f) → (∀ y ∈ acc, ∀ z ∈ zs, z.1 < y.1) → zs.Pairwise (fun a c => c.1 < a.1) → (zs.foldl (fun acc z => if f z = true then z :: acc else acc ++ [z]) acc).Pairwise (RelP f) := by
  intro zs
  induction zs with
  | nil => intro acc h _ _; exact h
  | cons z zs ih =>
    intro acc h h1 h2
    rw [List.foldl_cons]
    have h3 := List.pairwise_cons.mp h2
    have h4 : ∀ y ∈ acc, z.1 < y.1 := fun y hy => h1 y hy z (List.mem_cons_self ..)
    by_cases c : f z = true
    · rw [if_pos c]
      refine ih _ (List.pairwise_cons.mpr ⟨fun y hy => .inl ⟨h4 y hy, c⟩, h⟩) (fun y hy w hw => ?_) h3.2
      rcases List.mem_cons.mp hy with rfl | hy
      · exact h3.1 w hw
      · exact h1 y hy w (List.mem_cons_of_mem _ hw)
    · rw [if_neg c]
      refine ih _ (List.pairwise_append.mpr ⟨h, List.pairwise_singleton _ _, fun y hy w hw => ?_⟩) (fun y hy w hw => ?_) h3.2
      · rw [List.mem_singleton.mp hw]
        exact .inr ⟨h4 y hy, by simpa using c⟩
      · rcases List.mem_append.mp hy with hy | hy
        · exact h1 y hy w (List.mem_cons_of_mem _ hw)
        · rw [List.mem_singleton.mp hy]
          exact h3.1 w hw
theorem oP_rel {f : Nat × Nat → Bool} {zs : List (Nat × Nat)} (h : zs.Pairwise (fun a c => c.1 < a.1)) : (oP f zs).Pairwise (RelP f) := oP_relA f zs [] List.Pairwise.nil (fun y hy => by cases hy) h
/-- a falling list is told by its members -/
theorem strict_uniq : ∀ {l m : List (Nat × Nat)}, l.Pairwise (fun a c => c.1 < a.1) → m.Pairwise (fun a c => c.1 < a.1) → (∀ z, z ∈ l ↔ z ∈ m) → l = m
  | [], [], _, _, _ => rfl
  | [], c :: m, _, _, h => absurd ((h c).mpr (List.mem_cons_self ..)) (by simp)
  | a :: l, [], _, _, h => absurd ((h a).mp (List.mem_cons_self ..)) (by simp)
  | a :: l, c :: m, hl, hm, h => by
    have hl' := List.pairwise_cons.mp hl
    have hm' := List.pairwise_cons.mp hm
    have e : a = c := by
      rcases List.mem_cons.mp ((h a).mp (List.mem_cons_self ..)) with e | e
      · exact e
      · rcases List.mem_cons.mp ((h c).mpr (List.mem_cons_self ..)) with e2 | e2
        · exact e2.symm
        · have z1 := hm'.1 a e
          have z2 := hl'.1 c e2
          exact absurd z1 (by omega)
    subst e
    congr 1
    refine strict_uniq hl'.2 hm'.2 fun z => ⟨fun hz => ?_, fun hz => ?_⟩
    · rcases List.mem_cons.mp ((h z).mp (List.mem_cons_of_mem _ hz)) with e | e
      · have y := hl'.1 z hz
        rw [e] at y
        exact absurd y (Nat.lt_irrefl _)
      · exact e
    · rcases List.mem_cons.mp ((h z).mpr (List.mem_cons_of_mem _ hz)) with e | e
      · have y := hm'.1 z hz
        rw [e] at y
        exact absurd y (Nat.lt_irrefl _)
      · exact e
theorem orderP_turn {b : Nat} {ws : List Bool} {x n : Nat} {zs : List (Nat × Nat)} : oP (fun z => sideT b ws (x - z.1) x 0) (zs.map fun z => (z.1, n - 1 - z.2)) = (oP (fun z => sideT b ws (x - z.1) x 0) zs).map fun z => (z.1, n - 1 - z.2) := by
  have H : ∀ (zs acc : List (Nat × Nat)), (zs.map fun z => (z.1, n - 1 - z.2)).foldl (fun acc z => if (fun z : Nat × Nat => sideT b ws (x - z.1) x 0) z = true then z :: acc else acc ++ [z]) (acc.map fun z => (z.1, n - 1 - z.2)) = (zs.foldl (fun acc z => if (fun z : Nat × Nat => sideT b ws (x - z.1) x 0) z = true then z :: acc else acc ++ [z]) acc).map fun z => (z.1, n - 1 - z.2) := by
    intro zs
    induction zs with
    | nil => intro acc; rfl
    | cons z zs ih =>
      intro acc
      rw [List.map_cons, List.foldl_cons, List.foldl_cons, ← ih]
      congr 1
      by_cases c : sideT b ws (x - z.1) x 0 = true
      · rw [if_pos c, if_pos c]
        rfl
      · rw [if_neg c, if_neg c, List.map_append]
        rfl
  exact H zs []
/-! ### the program: orders of many periodic timers -/
/-- who fires at x: the period and the index of each, in the order of the indexes -/
def firesB (x : Nat) (r : Nat × Nat) : Bool := decide (r.1 < x ∧ (x - r.1) % r.2 = 0)
def rowsF (prs : List (Nat × Nat)) (x : Nat) : List (Nat × Nat) := (prs.zipIdx.filter fun z => firesB x z.1).map fun z => (z.1.2, z.2)
theorem rowsF_mem {prs : List (Nat × Nat)} {x : Nat} {z : Nat × Nat} : z ∈ rowsF prs x ↔ ∃ r, prs[z.2]? = some r ∧ r.2 = z.1 ∧ firesB x r = true := by
  unfold rowsF
  rw [List.mem_map]
  constructor
  · rintro ⟨y, hy, e⟩
    obtain ⟨h1, h2⟩ := List.mem_filter.mp hy
    have h3 := List.mem_zipIdx_iff_getElem?.mp h1
    rw [← e]
    exact ⟨y.1, h3, rfl, h2⟩
  · rintro ⟨r, h1, h2, h3⟩
    exact ⟨(r, z.2), List.mem_filter.mpr ⟨List.mem_zipIdx_iff_getElem?.mpr h1, h3⟩, Prod.ext h2 rfl⟩
theorem rowsF_nodup {prs : List (Nat × Nat)} {x : Nat} (h : (prs.map (·.2)).Nodup) : ((rowsF prs x).map (·.1)).Nodup := by
  unfold rowsF
  rw [List.map_map]
  have e : (prs.zipIdx.filter fun z => firesB x z.1).map ((fun z : Nat × Nat => z.1) ∘ fun z : (Nat × Nat) × Nat => (z.1.2, z.2)) = (prs.zipIdx.filter fun z => firesB x z.1).map fun z => z.1.2 := List.map_congr_left fun _ _ => rfl
  rw [e]
  have z : (prs.zipIdx.map fun z => z.1.2).Nodup := by
    have y : prs.zipIdx.map (fun z => z.1.2) = prs.map (·.2) := by
      have w : prs.zipIdx.map (fun z => z.1) = prs := by
        rw [List.zipIdx_map_fst]
      have v : prs.zipIdx.map (fun z => z.1.2) = (prs.zipIdx.map fun z => z.1).map (·.2) := by rw [List.map_map]; rfl
      rw [v, w]
    rw [y]
    exact h
  exact z.sublist (List.Sublist.map _ List.filter_sublist)
theorem rowsF_step {prs : List (Nat × Nat)} {x i : Nat} {r : Nat × Nat} (h : prs[i]? = some r) : ((prs.zipIdx.take (i + 1)).filter fun z => firesB x z.1).map (fun z => (z.1.2, z.2)) = ((prs.zipIdx.take i).filter fun z => firesB x z.1).map (fun z => (z.1.2, z.2)) ++ if firesB x r = true then [(r.2, i)] else [] := by
  have e : prs.zipIdx[i]? = some (r, i) := by
    rw [List.getElem?_zipIdx, h]
    simp
  rw [List.take_add_one, e, Option.toList_some, List.filter_append, List.map_append]
  congr 1
  by_cases c : firesB x r = true
  · rw [if_pos c, List.filter_cons_of_pos (p := fun z : (Nat × Nat) × Nat => firesB x z.1) c]
    rfl
  · rw [if_neg c, List.filter_cons_of_neg (p := fun z : (Nat × Nat) × Nat => firesB x z.1) c]
    rfl
section
variable {P : Program} {w : World} {K : PySem.W.Frag} {mg : Str → Option Value} {base : Heap}
def spSeveral (K : PySem.W.Frag) : Sp := fun vs H Q _ => ∃ (S : Addr) (ss : List Addr) (prs : List (Nat × Nat)), vs = [.ref S] ∧ H S = some (.lst (ss.map V.ref)) ∧ PrAt H ss prs ∧ prs ≠ [] ∧ prs.length ≤ 60 ∧ (∀ r ∈ prs, 1 ≤ r.2) ∧ (prs.map (·.2)).Nodup ∧ ∀ H', Same H H' → Q .non H'
theorem ok_check_several {f : Addr} {fd : FuncData} (F : Fun K "check_several" "check_several" s_check_several f fd) (T : Tx K mg) (h1 : Has P w K mg base 4 "check_periodic" ["given"] [] spCheckPeriodic) : FnOk P w K mg base CX0 5 f fd ["some"] (spSeveral K) := by
  obtain ⟨f_check_periodic, fd_check_periodic, ds_check_periodic, G_check_periodic, m_check_periodic, k_check_periodic, b_check_periodic, v_check_periodic⟩ := h1
  refine F.ok sc_check_several (fun vs H Q E h => ?_) (fun cdv A outer s H vs Q E hr h => ?_)
  · obtain ⟨S, ss, prs, rfl, _⟩ := h
    rfl
  · obtain ⟨S, ss, prs, rfl, hS, hP, hne, h60, hp1, hnd, c⟩ := h
    have hpos : 0 < prs.length := List.length_pos_iff.mpr hne
    have hsl := hP.len
    refine ⟨_, (pss_cons (ps_if (PW.pt (pw_or (pt_not (pt_val (pe_callB (isiK (K := K) rfl) (by rfl) T.b_isinstance (by decide +kernel) (pa_cons (pv 0) (pa_cons (pe_bltn (v := .ty "list") (u := .type "list") (by rfl) T.b_list (by decide +kernel) rfl) pa_nil))))) (pw_or1 (pt_cmpR op_eq (pe_callB (lenK (K := K) rfl) (by rfl) T.b_len PySem.boot_len (pa_cons (pv 0) pa_nil)) pe_int (nomark _)))))
        (pss_one ps_never)
        pss_nil)
      (pss_cons (ps_for PassesOwn.never rfl (pi_list (pv 0)) (pg_name (i := 1) sc_check_several.nd rfl (.inl rfl))
        (pss_one (ps_expr (pe_call G_check_periodic hr (by rfl) m_check_periodic k_check_periodic b_check_periodic v_check_periodic pass0 (pa_cons (pv 1) pa_nil)))))
      (pss_one (ps_if (pt_cmpR op_ne (RZ.pe_lenSetI (by rfl) T.b_len (by rfl) T.b_set (pe_lc (own := [("phase", 2), ("period", 3)]) (g := _) (tt := tYes) rfl sc_check_several.nd (pi_list (pv 0)) (blkOk_by (own := [("phase", 2), ("period", 3)]) (N := N_check_several) (sc := defScope s_check_several) (by decide +kernel)) (fun _ _ _ _ _ => (pg_tupK (K := K) (n := 2) rfl rfl (pgs_cons (pg_name (i := 2) sc_check_several.nd rfl (.inl rfl)) (pgs_cons (pg_name (i := 3) sc_check_several.nd rfl (.inl rfl)) pgs_nil)))) (fun _ _ _ _ _ => pts_nil) (fun _ _ _ _ _ => (pv 3)))) (pe_callB (lenK (K := K) rfl) (by rfl) T.b_len PySem.boot_len (pa_cons (pv 0) pa_nil)) (nomark _))
        (pss_one ps_never)
        pss_nil)))), ?_⟩
    refine ⟨.ref S, rfl, _, _, _, _, true, rfl, .ty "list", tyx_list (K := K) (SqL.of hS), kit_ty (by decide +kernel), true, rfl, iteF ?_⟩
    refine ⟨.ref S, rfl, S, _, rfl, .inl (SqL.of hS), rfl, false, dF ?_, iteF ?_⟩
    · rw [List.length_map, hsl]
      exact vN (b := 0) (by omega)
    refine ⟨_, rfl, S, rfl, ⟨_, SqL.of hS⟩, for_list (K := K) (a := S) (xs := ss.map V.ref) (fun i σ H' => (∃ y1, σ = [some (.ref S), y1, none, none]) ∧ H' = H) ⟨⟨none, rfl⟩, rfl⟩ (fun i σ H' _ ⟨_, e⟩ => by rw [e]; exact SqL.of hS) ?_ ?_⟩
    · rintro i x σ H' hx ⟨⟨y1, rfl⟩, rfl⟩
      obtain ⟨t, r, rfl, hr, ht⟩ := hP.item hx
      exact ⟨_, rfl, t, r.1, r.2, rfl, ht, hp1 r (List.mem_of_getElem? hr), ⟨⟨_, rfl⟩, rfl⟩⟩
    · rintro σ H' ⟨⟨y1, rfl⟩, rfl⟩
      refine ⟨_, rfl, S, rfl, ⟨_, SqL.of hS⟩, fun D hD => lc_list (K := K) (a := S) (xs := ss.map V.ref) (fun i H1 => Same H' H1 ∧ H1 D = some (.lst ((prs.take i).map fun r => V.int (r.2 : Nat)))) ⟨same_upd hD, upd_same⟩ (fun i H1 _ ⟨sm, _⟩ => SqL.of (sm _ _ hS)) ?_ ?_⟩
      · rintro i x H1 hx ⟨sm, eD⟩
        obtain ⟨t, r, rfl, hr, ht⟩ := hP.item hx
        refine ⟨t, _, rfl, .inl (.inl (sm _ _ ht)), rfl, _, _, rfl, _, _, rfl, rfl, rfl, yesT (iteT ?_)⟩
        refine ⟨_, rfl, _, eD, ?_, fun c o e => ?_, ?_⟩
        · rw [List.length_map, List.length_take]
          exact sizeLine_ge (by omega)
        · rw [upd_ne (ne_of_none e hD)]
          exact sm _ _ e
        · rw [upd_same, List.take_add_one, hr, List.map_append]
          rfl
      · rintro H1 ⟨s1, eD⟩
        rw [List.length_map, hsl, List.take_length] at eD
        have e1 : prs.map (fun r => V.int (r.2 : Nat)) = (prs.map fun r => ((r.2 : Nat) : Int)).map V.int := by
          rw [List.map_map]
          rfl
        rw [e1] at eD
        have nd : (prs.map fun r => ((r.2 : Nat) : Int)).Nodup := by
          have z : (prs.map (·.2)).Pairwise (· ≠ ·) := hnd
          rw [List.pairwise_map] at z
          show (prs.map fun r => ((r.2 : Nat) : Int)).Pairwise (· ≠ ·)
          rw [List.pairwise_map]
          exact z.imp fun h e => h (Int.ofNat.inj e)
        refine ⟨D, _, rfl, SqL.of eD, nd, by rw [List.length_map]; omega, .ref S, rfl, S, _, rfl, .inl (SqL.of (s1 _ _ hS)), rfl, false, nF ?_, iteF (c H1 s1)⟩
        rw [List.length_map, List.length_map, hsl]
def spOrderAt (K : PySem.W.Frag) : Sp := fun vs H Q _ => ∃ (b x : Nat) (q S : Addr) (ws : List Bool) (ss : List Addr) (prs : List (Nat × Nat)), vs = [.int (b : Nat), .ref q, .ref S, .int (x : Nat)] ∧ 2 ≤ b ∧ b ≤ 64 ∧ SqL K H q (ws.map lvV) ∧ ws ≠ [] ∧ ws.length ≤ 60 ∧ x < 2 ^ 250 ∧
  H S = some (.lst (ss.map V.ref)) ∧ PrAt H ss prs ∧ prs ≠ [] ∧ prs.length ≤ 60 ∧ (∀ r ∈ prs, 1 ≤ r.2 ∧ r.1 ≠ x) ∧ (prs.map (·.2)).Nodup ∧
  ∀ H' p (zs : List (Nat × Nat)), Same H H' → H p = none → zs.Perm (rowsF prs x) → zs.Pairwise (fun a c => c.1 < a.1) → H' p = some (.lst ((orderP b ws x (zs.map fun z => (z.2, x - z.1))).map fun y => V.int (y : Nat))) → Q (.ref p) H'
theorem ok_order_at {f : Addr} {fd : FuncData} (F : Fun K "order_at" "order_at" s_order_at f fd) (T : Tx K mg) (h1 : Has P w K mg base 3 "check_base" ["base"] [] spCheckBase) (h2 : Has P w K mg base 4 "check_levels" ["levels"] [] (spCheckLevels K))
    (h3 : Has P w K mg base 3 "check_tick" ["tick", "least"] [.int 0] spCheckTick) (h4 : Has P w K mg base 5 "check_several" ["some"] [] (spSeveral K)) (h5 : Has P w K mg base 1 "fires_again" ["timer", "tick"] [] spFires)
    (h6 : Has P w K mg base 4 "firing_order" ["base", "levels", "due", "settings"] [] (spFiringOrder K)) : FnOk P w K mg base CX0 6 f fd ["base", "levels", "some", "tick"] (spOrderAt K) := by
  obtain ⟨f_check_base, fd_check_base, ds_check_base, G_check_base, m_check_base, k_check_base, b_check_base, v_check_base⟩ := h1
  obtain ⟨f_check_levels, fd_check_levels, ds_check_levels, G_check_levels, m_check_levels, k_check_levels, b_check_levels, v_check_levels⟩ := h2
  obtain ⟨f_check_tick1, fd_check_tick1, ds_check_tick1, G_check_tick1, m_check_tick1, k_check_tick1, b_check_tick1, v_check_tick1⟩ := h3
  obtain ⟨f_check_several, fd_check_several, ds_check_several, G_check_several, m_check_several, k_check_several, b_check_several, v_check_several⟩ := h4
  obtain ⟨f_fires_again, fd_fires_again, ds_fires_again, G_fires_again, m_fires_again, k_fires_again, b_fires_again, v_fires_again⟩ := h5
  obtain ⟨f_firing_order, fd_firing_order, ds_firing_order, G_firing_order, m_firing_order, k_firing_order, b_firing_order, v_firing_order⟩ := h6
  refine F.ok sc_order_at (fun vs H Q E h => ?_) (fun cdv A outer s H vs Q E hr h => ?_)
  · obtain ⟨b, x, q, S, ws, ss, prs, rfl, _⟩ := h
    rfl
  · obtain ⟨b, x, q, S, ws, ss, prs, rfl, hb, hb64, hL, hne, h60, hx, hS, hP, hpne, hp60, hpr, hnd, c⟩ := h
    have hsl := hP.len
    refine ⟨_, (pss_cons (ps_expr (pe_call G_check_base (hr.mono (by decide)) (by rfl) m_check_base k_check_base b_check_base v_check_base pass0 (pa_cons (pv 0) pa_nil)))
      (pss_cons (ps_expr (pe_call G_check_levels (hr.mono (by decide)) (by rfl) m_check_levels k_check_levels b_check_levels v_check_levels pass0 (pa_cons (pv 1) pa_nil)))
      (pss_cons (ps_expr (pe_call G_check_several hr (by rfl) m_check_several k_check_several b_check_several v_check_several pass0 (pa_cons (pv 2) pa_nil)))
      (pss_cons (ps_expr (pe_call G_check_tick1 (hr.mono (by decide)) (by rfl) m_check_tick1 k_check_tick1 b_check_tick1 v_check_tick1 pass0 (pa_cons (pv 3) pa_nil)))
      (pss_cons (ps_if (pt_cmpR op_in_seq (pv 3) (pe_lc (own := [("phase", 9), ("period", 8)]) (g := _) (tt := tYes) rfl sc_order_at.nd (pi_list (pv 2)) (blkOk_by (own := [("phase", 9), ("period", 8)]) (N := N_order_at) (sc := defScope s_order_at) (by decide +kernel)) (fun _ _ _ _ _ => (pg_tupK (K := K) (n := 2) rfl rfl (pgs_cons (pg_name (i := 9) sc_order_at.nd rfl (.inl rfl)) (pgs_cons (pg_name (i := 8) sc_order_at.nd rfl (.inl rfl)) pgs_nil)))) (fun _ _ _ _ _ => pts_nil) (fun _ _ _ _ _ => (pv 9))) (by rfl))
        (pss_one ps_never)
        pss_nil)
      (pss_cons (ps_setLc (i := 4) (own := [("index", 6), ("timer", 7)]) (g := _)  rfl sc_order_at.nd rfl rfl (sw_true rfl rfl rfl (by decide +kernel)) (pi_enum (by rfl) T.b_enumerate (pa_cons (pv 2) pa_nil)) (blkOk_by (own := [("index", 6), ("timer", 7)]) (N := N_order_at) (sc := defScope s_order_at) (by decide +kernel)) (fun _ _ _ _ _ => (pg_tupK (K := K) (n := 2) rfl rfl (pgs_cons (pg_name (i := 6) sc_order_at.nd rfl (.inl rfl)) (pgs_cons (pg_name (i := 7) sc_order_at.nd rfl (.inl rfl)) pgs_nil)))) (fun _ _ _ _ _ => (pts_one (pt_val (pe_call G_fires_again (hr.mono (by decide)) (by rfl) m_fires_again k_fires_again b_fires_again v_fires_again pass0 (pa_cons (pv 7) (pa_cons (pv 3) pa_nil)))))) (fun _ _ _ _ _ => (pe_tup (pa_cons (pe_ix (ix_tupK (K := K) rfl) (pv 7) pe_int (fun _ _ => rfl)) (pa_cons (pv 6) pa_nil)))))
      (pss_cons (ps_setLc (i := 5) (own := [("period", 8), ("index", 6)]) (g := _) (tt := tYes) rfl sc_order_at.nd rfl rfl (sw_true rfl rfl rfl (by decide +kernel)) (pi_list (pe_callBK cr_sortedPR (by rfl) T.b_sorted (by decide +kernel) (pa_cons (pv 4) pa_nil) (pk_cons pe_bl pk_nil))) (blkOk_by (own := [("period", 8), ("index", 6)]) (N := N_order_at) (sc := defScope s_order_at) (by decide +kernel)) (fun _ _ _ _ _ => (pg_tupK (K := K) (n := 2) rfl rfl (pgs_cons (pg_name (i := 8) sc_order_at.nd rfl (.inl rfl)) (pgs_cons (pg_name (i := 6) sc_order_at.nd rfl (.inl rfl)) pgs_nil)))) (fun _ _ _ _ _ => pts_nil) (fun _ _ _ _ _ => (pe_tup (pa_cons (pv 6) (pa_cons (pe_op op_subN (pv 3) (pv 8)) pa_nil)))))
      (pss_one (ps_ret (pe_call G_firing_order (hr.mono (by decide)) (by rfl) m_firing_order k_firing_order b_firing_order v_firing_order pass0 (pa_cons (pv 0) (pa_cons (pv 1) (pa_cons (pv 3) (pa_cons (pv 5) pa_nil)))))))))))))), ?_⟩
    refine ⟨_, rfl, b, rfl, by omega, by omega, ?_⟩
    refine ⟨_, rfl, q, ws, rfl, hL, hne, h60, fun H1 s1 => ?_⟩
    have hP1 := hP.frame (H' := H1) fun t xs e => s1 _ _ e
    refine ⟨_, rfl, S, ss, prs, rfl, s1 _ _ hS, hP1, hpne, hp60, fun r hr => (hpr r hr).1, hnd, fun H2 s2 => ?_⟩
    have s02 := s1.trans s2
    have hP2 := hP.frame (H' := H2) fun t xs e => s02 _ _ e
    have hS2 := s02 _ _ hS
    refine ⟨_, rfl, x, 0, rfl, by omega, ?_⟩
    -- no timer fires for the first time
    refine ⟨_, rfl, _, rfl, S, rfl, ⟨_, SqL.of hS2⟩, fun D hD => lc_list (K := K) (a := S) (xs := ss.map V.ref) (fun i H' => Same H2 H' ∧ H' D = some (.lst (((prs.take i).map (·.1)).map fun y => V.int (y : Nat)))) ⟨same_upd hD, upd_same⟩ (fun i H' _ ⟨sm, _⟩ => SqL.of (sm _ _ hS2)) ?_ ?_⟩
    · rintro i v H' hv ⟨sm, eD⟩
      obtain ⟨t, r, rfl, hr, ht⟩ := hP2.item hv
      refine ⟨t, _, rfl, .inl (.inl (sm _ _ ht)), rfl, _, _, rfl, _, _, rfl, rfl, rfl, yesT (iteT ?_)⟩
      refine ⟨_, rfl, _, eD, ?_, fun c o e => ?_, ?_⟩
      · rw [List.length_map, List.length_map, List.length_take]
        exact sizeLine_ge (by omega)
      · rw [upd_ne (ne_of_none e hD)]
        exact sm _ _ e
      · rw [upd_same, List.take_add_one, hr, Option.toList_some, List.map_append, List.map_append]
        rfl
    rintro H3 ⟨s3, eD⟩
    rw [List.length_map, hsl, List.take_length] at eD
    have hnot : x ∉ prs.map (·.1) := fun h => by
      obtain ⟨r, hr, e⟩ := List.mem_map.mp h
      exact (hpr r hr).2 e
    refine ⟨D, _, rfl, .inl (SqL.of eD), rfl, flat_nats _, false, ?_, iteF ?_⟩
    · show V.bl (inV (.int (x : Nat)) ((prs.map (·.1)).map fun y => V.int (y : Nat))) = V.bl false
      rw [inV_nat, decide_eq_false hnot]
    -- who fires
    have s03 := s02.trans s3
    have hP3 := hP.frame (H' := H3) fun t xs e => s03 _ _ e
    have hS3 := s03 _ _ hS
    refine ⟨_, rfl, S, _, rfl, SqL.of hS3, fun D4 hD4 => lc_enum (K := K) (a := S) (xs := ss.map V.ref) (fun i H' => Same H3 H' ∧ ∃ rt : List Addr, H' D4 = some (.lst (rt.map V.ref)) ∧ PrAt H' rt (((prs.zipIdx.take i).filter fun z => firesB x z.1).map fun z => (z.1.2, z.2))) ⟨same_upd hD4, [], upd_same, trivial⟩ (fun i H' _ ⟨sm, _⟩ => SqL.of (sm _ _ hS3)) ?_ ?_⟩
    · rintro i v U H' hv ⟨sm, rt, eD4, hR⟩ hU
      obtain ⟨t, r, rfl, hr, ht⟩ := hP3.item hv
      have sU := same_upd (o := .tup [.int (i : Nat), .ref t]) hU
      have ht' := sU _ _ (sm _ _ ht)
      have hrp := (hpr r (List.mem_of_getElem? hr)).1
      refine ⟨U, _, rfl, .inl (.inl upd_same), rfl, _, _, rfl, _, _, rfl, rfl, rfl, ?_⟩
      refine ⟨_, rfl, _, rfl, t, r.1, r.2, x, rfl, ht', hrp, firesB x r, rfl, ?_⟩
      have hil : i < prs.length := (List.getElem?_eq_some_iff.mp hr).1
      by_cases cf : firesB x r = true
      · rw [cf]
        refine iteT ⟨.ref t, rfl, t, _, 1, _, rfl, rfl, .inl (.inl ht'), atI_nat (j := 1) rfl, _, rfl, by simp [sizeLine_eq], fun u hu => ?_⟩
        have su := same_upd (o := .tup [.int (r.2 : Nat), .int (i : Nat)]) hu
        have eD4' := su _ _ (sU _ _ eD4)
        refine ⟨_, eD4', ?_, fun c o e => ?_, rt ++ [u], ?_, ?_⟩
        · rw [List.length_map, hR.len, List.length_map]
          have z := List.length_filter_le (fun z : (Nat × Nat) × Nat => firesB x z.1) (prs.zipIdx.take i)
          rw [List.length_take, List.length_zipIdx] at z
          exact sizeLine_ge (by omega)
        · rw [upd_ne (ne_of_none e hD4)]
          exact su _ _ (sU _ _ (sm _ _ e))
        · rw [upd_same, List.map_append]
          rfl
        · rw [rowsF_step hr, if_pos cf]
          have hk : ∀ t' xs, H' t' = some (.tup xs) → (upd (upd (upd H' U (.tup [.int (i : Nat), .ref t])) u (.tup [.int (r.2 : Nat), .int (i : Nat)])) D4 (.lst (rt.map V.ref ++ [.ref u]))) t' = some (.tup xs) := fun t' xs e => by
            rw [upd_ne (ne_of (su _ _ (sU _ _ e)) eD4' (by intro z; cases z))]
            exact su _ _ (sU _ _ e)
          refine (hR.frame hk).app (r := (r.2, i)) ?_
          rw [upd_ne (ne_of upd_same eD4' (by intro z; cases z))]
          exact upd_same
      · have cf' : firesB x r = false := by
          cases e : firesB x r with
          | false => rfl
          | true => exact absurd e cf
        rw [cf']
        refine iteF ⟨fun c o e => sU _ _ (sm _ _ e), rt, sU _ _ eD4, ?_⟩
        rw [rowsF_step hr, if_neg cf, List.append_nil]
        exact hR.frame fun t' xs e => sU _ _ e
    rintro H4 ⟨s4, rt, eR, hR⟩
    have e4 : (prs.zipIdx.take (ss.map V.ref).length) = prs.zipIdx := by
      rw [List.length_map, hsl]
      exact List.take_of_length_le (by rw [List.length_zipIdx]; exact Nat.le_refl _)
    rw [e4] at hR
    have hR' : PrAt H4 rt (rowsF prs x) := hR
    clear hR
    -- the greatest period first
    have hk : ∀ v ∈ rt.map V.ref, ∃ t, v = V.ref t ∧ H4 t = some (.tup [.int (pairV H4 v).1, .int (pairV H4 v).2]) := fun v hv => by
      obtain ⟨i, hi⟩ := List.getElem?_of_mem hv
      obtain ⟨t, r, rfl, _, ht⟩ := hR'.item hi
      refine ⟨t, rfl, ?_⟩
      rw [pairV_of ht]
      exact ht
    refine ⟨_, rfl, D4, _, pairV H4, rfl, rfl, SqL.of eR, hk, fun ys py hsrt hperm hpy => ?_⟩
    have hrev : ys.reverse.Perm (rt.map V.ref) := (List.reverse_perm ys).trans hperm
    obtain ⟨zs, ezs⟩ : ∃ zs : List (Nat × Nat), zs = ys.reverse.map fun v => ((pairV H4 v).1.toNat, (pairV H4 v).2.toNat) := ⟨_, rfl⟩
    have hzperm : zs.Perm (rowsF prs x) := by
      rw [ezs]
      refine (hrev.map _).trans (List.Perm.of_eq ?_)
      have main : ∀ (rt : List Addr) (rs : List (Nat × Nat)), PrAt H4 rt rs → (rt.map V.ref).map (fun v => ((pairV H4 v).1.toNat, (pairV H4 v).2.toNat)) = rs := by
        intro rt
        induction rt with
        | nil =>
          intro rs h
          cases rs with
          | nil => rfl
          | cons _ _ => exact h.elim
        | cons t rt ih =>
          intro rs h
          cases rs with
          | nil => exact h.elim
          | cons r rs =>
            rw [List.map_cons, List.map_cons, ih rs h.2, pairV_of h.1]
            rfl
      exact main rt _ hR'
    have item : ∀ {i : Nat} {v : V}, ys.reverse[i]? = some v → ∃ t z, v = .ref t ∧ zs[i]? = some z ∧ H4 t = some (.tup [.int (z.1 : Nat), .int (z.2 : Nat)]) := fun {i v} hv => by
      obtain ⟨j, hj⟩ := List.getElem?_of_mem (hrev.mem_iff.mp (List.mem_of_getElem? hv))
      obtain ⟨t, r, rfl, _, ht⟩ := hR'.item hj
      refine ⟨t, r, rfl, ?_, ht⟩
      rw [ezs, List.getElem?_map, hv]
      show some ((pairV H4 (.ref t)).1.toNat, (pairV H4 (.ref t)).2.toNat) = some r
      rw [pairV_of ht]
      rfl
    have hznd : (zs.map (·.1)).Nodup := (hzperm.map _).nodup_iff.mpr (rowsF_nodup hnd)
    have hzs : zs.Pairwise fun a c => c.1 < a.1 := by
      have p1 : ys.reverse.Pairwise fun a c => SrtO.lexB (pairV H4 a) (pairV H4 c) = false := List.pairwise_reverse.mpr hsrt
      have p2 : zs.Pairwise fun a c => c.1 ≤ a.1 := by
        rw [ezs, List.pairwise_map]
        refine p1.imp_of_mem fun {a c} ha hc h => ?_
        obtain ⟨i, hi⟩ := List.getElem?_of_mem (hrev.mem_iff.mp ha)
        obtain ⟨j, hj⟩ := List.getElem?_of_mem (hrev.mem_iff.mp hc)
        obtain ⟨t, r, rfl, _, ht⟩ := hR'.item hi
        obtain ⟨t2, r2, rfl, _, ht2⟩ := hR'.item hj
        rw [pairV_of ht, pairV_of ht2] at h ⊢
        show r2.1 ≤ r.1
        refine Nat.le_of_not_lt fun l => ?_
        have z : SrtO.lexB (((r.1 : Nat) : Int), ((r.2 : Nat) : Int)) (((r2.1 : Nat) : Int), ((r2.2 : Nat) : Int)) = true := by
          unfold SrtO.lexB
          simp [l]
          omega
        rw [z] at h
        cases h
      have p3 : zs.Pairwise fun a c => a.1 ≠ c.1 := List.pairwise_map.mp hznd
      exact (p2.and p3).imp fun h => by omega
    have hzm : ∀ z ∈ zs, 1 ≤ z.1 ∧ z.1 ≤ x ∧ 0 < x := fun z hz => by
      obtain ⟨r, h1, h2, h3⟩ := rowsF_mem.mp (hzperm.mem_iff.mp hz)
      have h4 : r.1 < x ∧ (x - r.1) % r.2 = 0 := of_decide_eq_true h3
      have h5 := (hpr r (List.mem_of_getElem? h1)).1
      have h6 := per_le h5 h4.1 h4.2
      omega
    have sy := same_upd (o := .lst ys.reverse) hpy
    have epy := upd_same (H := H4) (a := py) (o := .lst ys.reverse)
    generalize upd H4 py (.lst ys.reverse) = H5 at sy epy ⊢
    refine ⟨py, rfl, ⟨_, SqL.of epy⟩, fun D6 hD6 => lc_list (K := K) (a := py) (xs := ys.reverse) (fun i H' => Same H5 H' ∧ ∃ st : List Addr, H' D6 = some (.lst (st.map V.ref)) ∧ PrAt H' st ((zs.take i).map fun z => (z.2, x - z.1))) ⟨same_upd hD6, [], upd_same, trivial⟩ (fun i H' _ ⟨sm, _⟩ => SqL.of (sm _ _ epy)) ?_ ?_⟩
    · rintro i v H' hv ⟨sm, st, eD6, hSt⟩
      obtain ⟨t, z, rfl, hz, ht⟩ := item hv
      have hz1 := hzm z (List.mem_of_getElem? hz)
      refine ⟨t, _, rfl, .inl (.inl (sm _ _ (sy _ _ ht))), rfl, _, _, rfl, _, _, rfl, rfl, rfl, yesT (iteT ?_)⟩
      refine ⟨_, rfl, _, rfl, _, rfl, x, z.1, rfl, rfl, hz1.2.1, by simp [sizeLine_eq], fun u hu => ?_⟩
      have su := same_upd (o := .tup [.int (z.2 : Nat), .int ((x - z.1 : Nat) : Int)]) hu
      have eD6' := su _ _ eD6
      have hzl : zs.length ≤ 60 := by
        rw [hzperm.length_eq]
        unfold rowsF
        rw [List.length_map]
        have z := List.length_filter_le (fun z : (Nat × Nat) × Nat => firesB x z.1) prs.zipIdx
        rw [List.length_zipIdx] at z
        omega
      refine ⟨_, eD6', ?_, fun c o e => ?_, st ++ [u], ?_, ?_⟩
      · rw [List.length_map, hSt.len, List.length_map, List.length_take]
        exact sizeLine_ge (by omega)
      · rw [upd_ne (ne_of_none e hD6)]
        exact su _ _ (sm _ _ e)
      · rw [upd_same, List.map_append]
        rfl
      · rw [List.take_add_one, hz, Option.toList_some, List.map_append]
        refine (hSt.frame fun t' xs e => ?_).app (r := (z.2, x - z.1)) ?_
        · rw [upd_ne (ne_of (su _ _ e) eD6' (by intro z; cases z))]
          exact su _ _ e
        · rw [upd_ne (ne_of upd_same eD6' (by intro z; cases z))]
          exact upd_same
    · rintro H6 ⟨s6, st, eD6, hSt⟩
      have hyl : ys.reverse.length = zs.length := by rw [ezs, List.length_map]
      rw [hyl, List.take_length] at hSt
      have s06 := (s03.trans s4).trans (sy.trans s6)
      have hzl : zs.length ≤ 60 := by
        rw [hzperm.length_eq]
        unfold rowsF
        rw [List.length_map]
        have z := List.length_filter_le (fun z : (Nat × Nat) × Nat => firesB x z.1) prs.zipIdx
        rw [List.length_zipIdx] at z
        omega
      refine ⟨_, rfl, _, rfl, _, rfl, _, rfl, b, x, q, D6, ws, st, zs.map (fun z => (z.2, x - z.1)), rfl, hb, hb64, s06.seq hL, hne, eD6, hSt, by rw [List.length_map]; omega, fun r hr => ?_, fun H7 p s7 hp ep => ?_⟩
      · obtain ⟨z, hz, rfl⟩ := List.mem_map.mp hr
        have y := hzm z hz
        exact ⟨(by show x - z.1 < x; omega), hx⟩
      · exact c H7 p zs (s06.trans s7) (s06.free hp) hzperm hzs ep
end
/-! ### bases and levels of any value -/
theorem tyOf_same {K : PySem.W.Frag} {H H' : Hp} (s : Same H H') {x : V} {t : Value} (h : TyOf K H x t) : TyOf K H' x t := by
  cases h with
  | non => exact .non
  | bl x => exact .bl x
  | int i => exact .int i
  | str x => exact .str x
  | flt x => exact .flt x
  | lst e => exact .lst (s _ _ e)
  | frz e => exact .frz (s _ _ e)
  | tup e => exact .tup (s _ _ e)
  | dK e => exact .dK (s _ _ e)
  | dT e => exact .dT (s _ _ e)
  | ins e cl ha hn htk hm => exact .ins (s _ _ e) cl ha hn htk hm
theorem tyX_same {K : PySem.W.Frag} {H H' : Hp} (s : Same H H') {x : V} {t : Value} (h : TyX K H x t) : TyX K H' x t := by
  cases h with
  | base h => exact .base (tyOf_same s h)
  | byt b => exact .byt b
  | set e => exact .set (s _ _ e)
  | kList e c => exact .kList e c
  | kTuple e c => exact .kTuple e c
  | kDict e c => exact .kDict e c
  | fTuple e => exact .fTuple (s _ _ e)
  | fDict e => exact .fDict (s _ _ e)
/-- x is of a built-in type, and of none that isinstance(x, c) would take -/
def NotA (K : PySem.W.Frag) (H : Hp) (c : String) (x : V) : Prop := ∃ a : String, TyX K H x (.type a) ∧ kitB a c = some false
theorem NotA.same {K : PySem.W.Frag} {H H' : Hp} {c : String} {x : V} (s : Same H H') (h : NotA K H c x) : NotA K H' c x := by
  obtain ⟨a, h1, h2⟩ := h
  exact ⟨a, tyX_same s h1, h2⟩
theorem NoInt.same {K : PySem.W.Frag} {H H' : Hp} {x : V} (s : Same H H') (h : NoInt K H x) : NoInt K H' x := by
  obtain ⟨t, h1, h2⟩ := h
  exact ⟨t, tyX_same s h1, h2⟩
theorem BadTick.same {K : PySem.W.Frag} {H H' : Hp} {x : V} {l : Int} (s : Same H H') (h : BadTick K H x l) : BadTick K H' x l := h.imp (·.same s) id
/-- whether x is one of the two words -/
def wordB (x : V) : Bool := inV x [.str "stack", .str "queue"]
/-- what is no word of levels -/
def NoWord (K : PySem.W.Frag) (H : Hp) (x : V) : Prop := NotA K H "str" x ∨ ∃ s : Str, x = .str s ∧ wordB x = false
theorem NoWord.same {K : PySem.W.Frag} {H H' : Hp} {x : V} (s : Same H H') (h : NoWord K H x) : NoWord K H' x := h.imp (·.same s) id
theorem word_lv (b : Bool) : wordB (lvV b) = true := by
  cases b <;> decide
theorem no_word {K : PySem.W.Frag} {H : Hp} {x : V} (h : NoWord K H x) : wordB x = false := by
  rcases h with ⟨a, h1, h2⟩ | ⟨s, _, h⟩
  · cases x with
    | str s =>
      cases h1 with
      | base h1 =>
        cases h1
        exact absurd h2 (by decide +kernel)
    | _ => rfl
  · exact h
/-- what is no base -/
def BadBase (K : PySem.W.Frag) (H : Hp) (x : V) : Prop := NoInt K H x ∨ ∃ n : Int, x = .int n ∧ (n < 2 ∨ 64 < n)
theorem BadBase.same {K : PySem.W.Frag} {H H' : Hp} {x : V} (s : Same H H') (h : BadBase K H x) : BadBase K H' x := h.imp (·.same s) id
/-- what are no levels -/
def BadLevels (K : PySem.W.Frag) (H : Hp) (x : V) : Prop := NotA K H "list" x ∨ ∃ (q : Addr) (xs : List V), x = .ref q ∧ SqL K H q xs ∧ (xs.length = 0 ∨ 60 < xs.length ∨ (xs.length ≤ 60 ∧ (∀ v ∈ xs, (∃ b, v = lvV b) ∨ NoWord K H v) ∧ ∃ v ∈ xs, NoWord K H v))
theorem BadLevels.same {K : PySem.W.Frag} {H H' : Hp} {x : V} (s : Same H H') (h : BadLevels K H x) : BadLevels K H' x := by
  rcases h with h | ⟨q, xs, e, hs, h⟩
  · exact .inl (h.same s)
  · refine .inr ⟨q, xs, e, s.seq hs, ?_⟩
    rcases h with h | h | ⟨h1, h2, v, hv, h3⟩
    · exact .inl h
    · exact .inr (.inl h)
    · exact .inr (.inr ⟨h1, fun v hv => (h2 v hv).imp id (·.same s), v, hv, h3.same s⟩)
section
variable {P : Program} {w : World} {K : PySem.W.Frag} {mg : Str → Option Value} {base : Heap}
def spIsWordX (K : PySem.W.Frag) : Sp := fun vs H Q _ => ∃ x : V, vs = [x] ∧ ((∃ b, x = lvV b ∧ Q (.bl true) H) ∨ (NoWord K H x ∧ Q (.bl false) H))
theorem okA_is_word {f : Addr} {fd : FuncData} (F : Fun K "is_word" "is_word" s_is_word f fd) (T : Tx K mg) (hW : WordsAt K mg) : FnOk P w K mg base CX0 1 f fd ["given"] (spIsWordX K) := by
  obtain ⟨a_WORDS, g_WORDS, sW⟩ := hW
  refine F.ok sc_is_word (fun vs H Q E h => ?_) (fun cdv A outer s H vs Q E hr h => ?_)
  · obtain ⟨x, rfl, _⟩ := h
    rfl
  · obtain ⟨x, rfl, hx⟩ := h
    refine ⟨_, (pss_one (ps_ret (pe_and (pe_callB (isiK (K := K) rfl) (by rfl) T.b_isinstance (by decide +kernel) (pa_cons (pv 0) (pa_cons (pe_bltn (v := .ty "str") (u := .type "str") (by rfl) T.b_str (by decide +kernel) rfl) pa_nil))) (pe_one (pe_cmpR op_in_seq (pv 0) (pe_glob (v := .ref a_WORDS) rfl g_WORDS rfl) (by rfl)))))), ?_⟩
    have word : ∀ (s : Str) (b : Bool), wordB (.str s) = b → Q (.bl b) H → ∃ (p : Addr) (xs : List V), V.ref a_WORDS = .ref p ∧ (SqL K H p xs ∨ SqT K H p xs) ∧ flatV (.str s) = true ∧ xs.all flatV = true ∧ Q (.bl (if false then !inV (.str s) xs else inV (.str s) xs)) H := fun s b e q => by
      refine ⟨a_WORDS, _, rfl, .inr (sW _), rfl, rfl, ?_⟩
      have e2 : (if false then !inV (V.str s) [.str "stack", .str "queue"] else inV (V.str s) [.str "stack", .str "queue"]) = b := e
      rw [e2]
      exact q
    rcases hx with ⟨b, rfl, q⟩ | ⟨⟨a, ht, hk⟩ | ⟨s, rfl, hs⟩, q⟩
    · obtain ⟨x, ex, hx⟩ : ∃ x : Str, lvV b = .str x ∧ wordB (.str x) = true := by
        cases b
        · exact ⟨_, rfl, by decide⟩
        · exact ⟨_, rfl, by decide⟩
      rw [ex]
      exact ⟨.str x, rfl, _, _, _, _, true, rfl, .ty "str", .base (.str x), kit_ty (by decide +kernel), true, rfl, iteT ⟨.str x, rfl, word x true hx q⟩⟩
    · exact ⟨x, rfl, x, _, _, _, false, rfl, .ty "str", ht, kit_ty hk, false, rfl, iteF q⟩
    · exact ⟨.str s, rfl, _, _, _, _, true, rfl, .ty "str", .base (.str s), kit_ty (by decide +kernel), true, rfl, iteT ⟨.str s, rfl, word s false hs q⟩⟩
def spIsBaseX (K : PySem.W.Frag) : Sp := fun vs H Q _ => ∃ x : V, vs = [x] ∧ ((∃ n : Int, x = .int n ∧ 2 ≤ n ∧ n ≤ 64 ∧ Q (.bl true) H) ∨ (BadBase K H x ∧ Q (.bl false) H))
theorem okA_is_base {f : Addr} {fd : FuncData} (F : Fun K "is_base" "is_base" s_is_base f fd) (h1 : Has P w K mg base 1 "is_integer" ["given"] [] (spIsIntX K)) : FnOk P w K mg base CX0 2 f fd ["given"] (spIsBaseX K) := by
  obtain ⟨f_is_integer, fd_is_integer, ds_is_integer, G_is_integer, m_is_integer, k_is_integer, b_is_integer, v_is_integer⟩ := h1
  refine F.ok sc_is_base (fun vs H Q E h => ?_) (fun cdv A outer s H vs Q E hr h => ?_)
  · obtain ⟨x, rfl, _⟩ := h
    rfl
  · obtain ⟨x, rfl, hx⟩ := h
    refine ⟨_, (pss_one (ps_ret (pe_and (pe_call G_is_integer hr (by rfl) m_is_integer k_is_integer b_is_integer v_is_integer pass0 (pa_cons (pv 0) pa_nil)) (pe_one (pe_chain op_le op_le pe_int (pv 0) pe_int))))), ?_⟩
    have e2 : ∀ (n : Int) (b : Bool), decide (n ≤ 64) = b → Q (.bl b) H → Q (V.bl (decide (n ≤ 64))) H := fun n b e q => by
      rw [e]
      exact q
    rcases hx with ⟨n, rfl, l1, l2, q⟩ | ⟨hn | ⟨n, rfl, hn⟩, q⟩
    · refine ⟨.int n, rfl, .int n, rfl, .inl ⟨n, rfl, true, rfl, iteT ?_⟩⟩
      refine ⟨.int n, rfl, 2, n, rfl, rfl, true, congrArg V.bl (decide_eq_true l1), iteT ?_⟩
      exact ⟨n, 64, rfl, rfl, e2 n true (decide_eq_true l2) q⟩
    · exact ⟨x, rfl, x, rfl, .inr ⟨hn, false, rfl, iteF q⟩⟩
    · refine ⟨.int n, rfl, .int n, rfl, .inl ⟨n, rfl, true, rfl, iteT ?_⟩⟩
      by_cases l1 : 2 ≤ n
      · refine ⟨.int n, rfl, 2, n, rfl, rfl, true, congrArg V.bl (decide_eq_true l1), iteT ?_⟩
        exact ⟨n, 64, rfl, rfl, e2 n false (decide_eq_false (by omega)) q⟩
      · exact ⟨.int n, rfl, 2, n, rfl, rfl, false, congrArg V.bl (decide_eq_false l1), iteF q⟩
def spCheckBaseX (K : PySem.W.Frag) (CN : Addr) : Sp := fun vs H Q E => ∃ x : V, vs = [x] ∧ ((∃ n : Int, x = .int n ∧ 2 ≤ n ∧ n ≤ 64 ∧ Q .non H) ∨ (BadBase K H x ∧ E (.ref CN) none H))
theorem okX_check_base {f c_NoBase : Addr} {fd : FuncData} (F : Fun K "check_base" "check_base" s_check_base f fd) (T : Tx K mg) (X_NoBase : EC K mg "NoBase" c_NoBase) (h1 : Has P w K mg base 2 "is_base" ["given"] [] (spIsBaseX K)) : FnOk P w K mg base (L2.CX P w) 3 f fd ["base"] (spCheckBaseX K c_NoBase) := by
  obtain ⟨f_is_base, fd_is_base, ds_is_base, G_is_base, m_is_base, k_is_base, b_is_base, v_is_base⟩ := h1
  refine F.okX sc_check_base (fun vs H Q E h => ?_) (fun cdv A outer s H vs Q E hr h => ?_)
  · obtain ⟨x, rfl, _⟩ := h
    rfl
  · obtain ⟨x, rfl, hx⟩ := h
    refine ⟨_, (pss_one (ps_if (pt_not (pt_val (pe_call G_is_base hr (by rfl) m_is_base k_is_base b_is_base v_is_base pass0 (pa_cons (pv 0) pa_nil))))
        (pss_one (ps_raise rfl (takes_of rfl rfl rfl rfl) (pmk_own PySem.F.excBase_ValueError X_NoBase.x X_NoBase.g X_NoBase.k (raises_own X_NoBase.b X_NoBase.t) rfl)))
        pss_nil)), ?_⟩
    rcases hx with ⟨n, rfl, l1, l2, q⟩ | ⟨hn, q⟩
    · exact ⟨.int n, rfl, .int n, rfl, .inl ⟨n, rfl, l1, l2, true, rfl, iteF q⟩⟩
    · exact ⟨x, rfl, x, rfl, .inr ⟨hn, false, rfl, iteT q⟩⟩
/-- what is no length of levels -/
def BadLength (K : PySem.W.Frag) (H : Hp) (x : V) : Prop := NoInt K H x ∨ ∃ n : Int, x = .int n ∧ (n < 1 ∨ 60 < n)
theorem BadLength.same {K : PySem.W.Frag} {H H' : Hp} {x : V} (s : Same H H') (h : BadLength K H x) : BadLength K H' x := h.imp (·.same s) id
def spIsLengthX (K : PySem.W.Frag) : Sp := fun vs H Q _ => ∃ x : V, vs = [x] ∧ ((∃ n : Int, x = .int n ∧ 1 ≤ n ∧ n ≤ 60 ∧ Q (.bl true) H) ∨ (BadLength K H x ∧ Q (.bl false) H))
theorem okA_is_length {f : Addr} {fd : FuncData} (F : Fun K "is_length" "is_length" s_is_length f fd) (hM : MostAt mg) (h1 : Has P w K mg base 1 "is_integer" ["given"] [] (spIsIntX K)) : FnOk P w K mg base CX0 2 f fd ["given"] (spIsLengthX K) := by
  obtain ⟨tM, g_MOST_LEVELS⟩ := hM
  obtain ⟨f_is_integer, fd_is_integer, ds_is_integer, G_is_integer, m_is_integer, k_is_integer, b_is_integer, v_is_integer⟩ := h1
  refine F.ok sc_is_length (fun vs H Q E h => ?_) (fun cdv A outer s H vs Q E hr h => ?_)
  · obtain ⟨x, rfl, _⟩ := h
    rfl
  · obtain ⟨x, rfl, hx⟩ := h
    refine ⟨_, (pss_one (ps_ret (pe_and (pe_call G_is_integer hr (by rfl) m_is_integer k_is_integer b_is_integer v_is_integer pass0 (pa_cons (pv 0) pa_nil)) (pe_one (pe_chain op_le op_le pe_int (pv 0) (pe_glob (v := .int 60) rfl g_MOST_LEVELS ⟨_, rfl⟩)))))), ?_⟩
    have e2 : ∀ (n : Int) (b : Bool), decide (n ≤ 60) = b → Q (.bl b) H → Q (V.bl (decide (n ≤ 60))) H := fun n b e q => by
      rw [e]
      exact q
    rcases hx with ⟨n, rfl, l1, l2, q⟩ | ⟨hn | ⟨n, rfl, hn⟩, q⟩
    · refine ⟨.int n, rfl, .int n, rfl, .inl ⟨n, rfl, true, rfl, iteT ?_⟩⟩
      refine ⟨.int n, rfl, 1, n, rfl, rfl, true, congrArg V.bl (decide_eq_true l1), iteT ?_⟩
      exact ⟨n, 60, rfl, rfl, e2 n true (decide_eq_true l2) q⟩
    · exact ⟨x, rfl, x, rfl, .inr ⟨hn, false, rfl, iteF q⟩⟩
    · refine ⟨.int n, rfl, .int n, rfl, .inl ⟨n, rfl, true, rfl, iteT ?_⟩⟩
      by_cases l1 : 1 ≤ n
      · refine ⟨.int n, rfl, 1, n, rfl, rfl, true, congrArg V.bl (decide_eq_true l1), iteT ?_⟩
        exact ⟨n, 60, rfl, rfl, e2 n false (decide_eq_false (by omega)) q⟩
      · exact ⟨.int n, rfl, 1, n, rfl, rfl, false, congrArg V.bl (decide_eq_false l1), iteF q⟩
def spAreLevelsX (K : PySem.W.Frag) : Sp := fun vs H Q _ => ∃ x : V, vs = [x] ∧ ((∃ (q : Addr) (ws : List Bool), x = .ref q ∧ SqL K H q (ws.map lvV) ∧ ws ≠ [] ∧ ws.length ≤ 60 ∧ ∀ H', Same H H' → Q (.bl true) H') ∨ (BadLevels K H x ∧ ∀ H', Same H H' → Q (.bl false) H'))
theorem okA_are_levels {f : Addr} {fd : FuncData} (F : Fun K "are_levels" "are_levels" s_are_levels f fd) (T : Tx K mg) (h0 : Has P w K mg base 2 "is_length" ["given"] [] (spIsLengthX K)) (h1 : Has P w K mg base 1 "is_word" ["given"] [] (spIsWordX K)) : FnOk P w K mg base CX0 3 f fd ["given"] (spAreLevelsX K) := by
  obtain ⟨f_is_length, fd_is_length, ds_is_length, G_is_length, m_is_length, k_is_length, b_is_length, v_is_length⟩ := h0
  obtain ⟨f_is_word, fd_is_word, ds_is_word, G_is_word, m_is_word, k_is_word, b_is_word, v_is_word⟩ := h1
  refine F.ok sc_are_levels (fun vs H Q E h => ?_) (fun cdv A outer s H vs Q E hr h => ?_)
  · obtain ⟨x, rfl, _⟩ := h
    rfl
  · obtain ⟨x, rfl, hx⟩ := h
    have hx2 : (NotA K H "list" x ∧ Q (.bl false) H) ∨ (∃ (q : Addr) (xs : List V), x = .ref q ∧ SqL K H q xs ∧ (xs.length = 0 ∨ 60 < xs.length) ∧ Q (.bl false) H) ∨
        (∃ (q : Addr) (xs : List V), x = .ref q ∧ SqL K H q xs ∧ 1 ≤ xs.length ∧ xs.length ≤ 60 ∧ (∀ v ∈ xs, (∃ b, v = lvV b) ∨ NoWord K H v) ∧ ∀ H', Same H H' → if xs.all wordB = true then Q (.bl true) H' else Q (.bl false) H') := by
      rcases hx with ⟨q, ws, rfl, hL, hne, h60, c⟩ | ⟨hn | ⟨q, xs, rfl, hL, hb | hb | ⟨h60, hw, v, hv, hno⟩⟩, c⟩
      · refine .inr (.inr ⟨q, _, rfl, hL, ?_, ?_, fun v hv => ?_, fun H' s1 => ?_⟩)
        · rw [List.length_map]
          exact List.length_pos_iff.mpr hne
        · rw [List.length_map]
          exact h60
        · obtain ⟨b, _, e⟩ := List.mem_map.mp hv
          exact .inl ⟨b, e.symm⟩
        · rw [if_pos (List.all_eq_true.mpr fun v hv => by obtain ⟨b, _, e⟩ := List.mem_map.mp hv; rw [← e]; exact word_lv b)]
          exact c H' s1
      · exact .inl ⟨hn, c H fun _ _ e => e⟩
      · exact .inr (.inl ⟨q, xs, rfl, hL, .inl hb, c H fun _ _ e => e⟩)
      · exact .inr (.inl ⟨q, xs, rfl, hL, .inr hb, c H fun _ _ e => e⟩)
      · refine .inr (.inr ⟨q, xs, rfl, hL, List.length_pos_of_mem hv, h60, hw, fun H' s1 => ?_⟩)
        rw [if_neg fun e => by
          have z := List.all_eq_true.mp e v hv
          rw [no_word hno] at z
          cases z]
        exact c H' s1
    clear hx
    refine ⟨_, (pss_cons (ps_if (PW.pt (pw_or (pt_not (pt_val (pe_callB (isiK (K := K) rfl) (by rfl) T.b_isinstance (by decide +kernel) (pa_cons (pv 0) (pa_cons (pe_bltn (v := .ty "list") (u := .type "list") (by rfl) T.b_list (by decide +kernel) rfl) pa_nil))))) (pw_or1 (pt_not (pt_val (pe_call G_is_length hr (by rfl) m_is_length k_is_length b_is_length v_is_length pass0 (pa_cons (pe_callB (lenK (K := K) rfl) (by rfl) T.b_len PySem.boot_len (pa_cons (pv 0) pa_nil)) pa_nil)))))))
        (pss_one (ps_ret pe_bl))
        pss_nil)
      (pss_one (ps_ret (pe_callB (allK (K := K) rfl rfl) (by rfl) T.b_all (by decide +kernel) (pa_cons (pe_lc (own := [("word", 1)]) (g := gName 1) (tt := tYes) rfl sc_are_levels.nd (pi_list (pv 0)) (blkOk_by (own := [("word", 1)]) (N := N_are_levels) (sc := defScope s_are_levels) (by decide +kernel)) (fun _ _ _ _ _ => (pg_name (i := 1) sc_are_levels.nd rfl (.inl rfl))) (fun _ _ _ _ _ => pts_nil) (fun _ _ _ _ _ => (pe_call G_is_word (hr.mono (by decide)) (by rfl) m_is_word k_is_word b_is_word v_is_word pass0 (pa_cons (pv 1) pa_nil)))) pa_nil))))), ?_⟩
    rcases hx2 with ⟨⟨a, ht, hk⟩, q⟩ | ⟨q, xs, rfl, hL, hb, c⟩ | ⟨q, xs, rfl, hL, h0, h60, hw, c⟩
    · exact ⟨x, rfl, _, _, _, _, false, rfl, .ty "list", ht, kit_ty hk, false, rfl, iteT q⟩
    · refine ⟨.ref q, rfl, _, _, _, _, true, rfl, .ty "list", tyx_list hL, kit_ty (by decide +kernel), true, rfl, iteF ?_⟩
      exact ⟨.ref q, rfl, q, _, rfl, .inl hL, _, rfl, .inr ⟨.inr ⟨_, rfl, by omega⟩, false, rfl, iteT c⟩⟩
    refine ⟨.ref q, rfl, _, _, _, _, true, rfl, .ty "list", tyx_list hL, kit_ty (by decide +kernel), true, rfl, iteF ?_⟩
    refine ⟨.ref q, rfl, q, _, rfl, .inl hL, _, rfl, .inl ⟨_, rfl, by omega, by omega, true, rfl, iteF ?_⟩⟩
    refine ⟨.ref q, rfl, q, rfl, ⟨_, hL⟩, fun D hD => lc_list (K := K) (a := q) (xs := xs) (fun i H' => Same H H' ∧ H' D = some (.lst (((xs.take i).map wordB).map V.bl)))
      ⟨same_upd hD, upd_same⟩ (fun i H' _ ⟨sm, _⟩ => sm.seq hL) ?_ ?_⟩
    · rintro i x H' hx ⟨sm, eD⟩
      have hi : i < xs.length := (List.getElem?_eq_some_iff.mp hx).1
      refine ⟨rfl, yesT (iteT ?_)⟩
      have fin : ∃ acc, H' D = some (.lst acc) ∧ acc.length < sizeLine ∧ (Same H (upd H' D (.lst (acc ++ [V.bl (wordB x)]))) ∧ (upd H' D (.lst (acc ++ [V.bl (wordB x)]))) D = some (.lst (((xs.take (i + 1)).map wordB).map V.bl))) := by
        refine ⟨_, eD, ?_, fun c o e => ?_, ?_⟩
        · rw [List.length_map, List.length_map, List.length_take]
          exact sizeLine_ge (by omega)
        · rw [upd_ne (ne_of_none e hD)]
          exact sm _ _ e
        · rw [upd_same, List.take_add_one, hx, List.map_append, List.map_append]
          rfl
      rcases hw x (List.mem_of_getElem? hx) with ⟨b, rfl⟩ | hno
      · rw [word_lv b] at fin
        exact ⟨_, rfl, _, rfl, .inl ⟨b, rfl, fin⟩⟩
      · rw [no_word hno] at fin
        exact ⟨_, rfl, _, rfl, .inr ⟨hno.same sm, fin⟩⟩
    · rintro H1 ⟨s1, eD⟩
      rw [List.take_length] at eD
      have c1 := c H1 s1
      refine ⟨D, _, rfl, SqL.of eD, ?_⟩
      have ea : (xs.map wordB).all id = xs.all wordB := by
        rw [List.all_map]
        rfl
      rw [ea]
      cases hb : xs.all wordB with
      | true =>
        rw [if_pos hb] at c1
        exact c1
      | false =>
        rw [if_neg (by rw [hb]; exact Bool.false_ne_true)] at c1
        exact c1
def spCheckLevelsX (K : PySem.W.Frag) (CN : Addr) : Sp := fun vs H Q E => ∃ x : V, vs = [x] ∧ ((∃ (q : Addr) (ws : List Bool), x = .ref q ∧ SqL K H q (ws.map lvV) ∧ ws ≠ [] ∧ ws.length ≤ 60 ∧ ∀ H', Same H H' → Q .non H') ∨ (BadLevels K H x ∧ ∀ H', Same H H' → E (.ref CN) none H'))
theorem okX_check_levels {f c_NoLevels : Addr} {fd : FuncData} (F : Fun K "check_levels" "check_levels" s_check_levels f fd) (T : Tx K mg) (X_NoLevels : EC K mg "NoLevels" c_NoLevels) (h1 : Has P w K mg base 3 "are_levels" ["given"] [] (spAreLevelsX K)) : FnOk P w K mg base (L2.CX P w) 4 f fd ["levels"] (spCheckLevelsX K c_NoLevels) := by
  obtain ⟨f_are_levels, fd_are_levels, ds_are_levels, G_are_levels, m_are_levels, k_are_levels, b_are_levels, v_are_levels⟩ := h1
  refine F.okX sc_check_levels (fun vs H Q E h => ?_) (fun cdv A outer s H vs Q E hr h => ?_)
  · obtain ⟨x, rfl, _⟩ := h
    rfl
  · obtain ⟨x, rfl, hx⟩ := h
    refine ⟨_, (pss_one (ps_if (pt_not (pt_val (pe_call G_are_levels hr (by rfl) m_are_levels k_are_levels b_are_levels v_are_levels pass0 (pa_cons (pv 0) pa_nil))))
        (pss_one (ps_raise rfl (takes_of rfl rfl rfl rfl) (pmk_own PySem.F.excBase_ValueError X_NoLevels.x X_NoLevels.g X_NoLevels.k (raises_own X_NoLevels.b X_NoLevels.t) rfl)))
        pss_nil)), ?_⟩
    rcases hx with ⟨q, ws, rfl, hL, hne, h60, c⟩ | ⟨hn, c⟩
    · exact ⟨_, rfl, _, rfl, .inl ⟨q, ws, rfl, hL, hne, h60, fun H1 s1 => ⟨true, rfl, iteF (c H1 s1)⟩⟩⟩
    · exact ⟨_, rfl, _, rfl, .inr ⟨hn, fun H1 s1 => ⟨false, rfl, iteT (c H1 s1)⟩⟩⟩
end
/-! ### a period of any value -/
/-- what is no period -/
def BadPer (K : PySem.W.Frag) (H : Hp) (x : V) : Prop := NoInt K H x ∨ ∃ n : Int, x = .int n ∧ n < 1
theorem BadPer.same {K : PySem.W.Frag} {H H' : Hp} {x : V} (s : Same H H') (h : BadPer K H x) : BadPer K H' x := h.imp (·.same s) id
section
variable {P : Program} {w : World} {K : PySem.W.Frag} {mg : Str → Option Value} {base : Heap}
def spIsPeriodX (K : PySem.W.Frag) : Sp := fun vs H Q _ => ∃ x : V, vs = [x] ∧ ((∃ n : Int, x = .int n ∧ 1 ≤ n ∧ Q (.bl true) H) ∨ (BadPer K H x ∧ Q (.bl false) H))
theorem okA_is_period {f : Addr} {fd : FuncData} (F : Fun K "is_period" "is_period" s_is_period f fd) (h1 : Has P w K mg base 1 "is_integer" ["given"] [] (spIsIntX K)) : FnOk P w K mg base CX0 2 f fd ["given"] (spIsPeriodX K) := by
  obtain ⟨f_is_integer, fd_is_integer, ds_is_integer, G_is_integer, m_is_integer, k_is_integer, b_is_integer, v_is_integer⟩ := h1
  refine F.ok sc_is_period (fun vs H Q E h => ?_) (fun cdv A outer s H vs Q E hr h => ?_)
  · obtain ⟨x, rfl, _⟩ := h
    rfl
  · obtain ⟨x, rfl, hx⟩ := h
    refine ⟨_, (pss_one (ps_ret (pe_and (pe_call G_is_integer hr (by rfl) m_is_integer k_is_integer b_is_integer v_is_integer pass0 (pa_cons (pv 0) pa_nil)) (pe_one (pe_cmpR op_ge (pv 0) pe_int (nomark _)))))), ?_⟩
    have e2 : ∀ (n : Int) (b : Bool), decide (n ≥ 1) = b → Q (.bl b) H → Q (V.bl (decide (n ≥ 1))) H := fun n b e q => by
      rw [e]
      exact q
    rcases hx with ⟨n, rfl, l1, q⟩ | ⟨hn | ⟨n, rfl, hn⟩, q⟩
    · exact ⟨.int n, rfl, .int n, rfl, .inl ⟨n, rfl, true, rfl, iteT ⟨_, rfl, n, 1, rfl, rfl, e2 n true (decide_eq_true l1) q⟩⟩⟩
    · exact ⟨x, rfl, x, rfl, .inr ⟨hn, false, rfl, iteF q⟩⟩
    · exact ⟨.int n, rfl, .int n, rfl, .inl ⟨n, rfl, true, rfl, iteT ⟨_, rfl, n, 1, rfl, rfl, e2 n false (decide_eq_false (by omega)) q⟩⟩⟩
end
/-! ### periodic timers of any value: first_of_two and common may raise -/
/-- what is no periodic timer -/
def BadPair (K : PySem.W.Frag) (H : Hp) (v : V) : Prop := NotA K H "tuple" v ∨ ∃ (a : Addr) (xs : List V), v = .ref a ∧ H a = some (.tup xs) ∧ (xs.length ≠ 2 ∨ ∃ x y, xs = [x, y] ∧ (BadTick K H x 0 ∨ ∃ n : Nat, x = .int (n : Nat) ∧ BadPer K H y))
theorem BadPair.same {K : PySem.W.Frag} {H H' : Hp} {v : V} (s : Same H H') (h : BadPair K H v) : BadPair K H' v := by
  rcases h with h | ⟨a, xs, e, h, h2⟩
  · exact .inl (h.same s)
  · exact .inr ⟨a, xs, e, s _ _ h, h2.imp id fun ⟨x, y, e2, h3⟩ => ⟨x, y, e2, h3.imp (·.same s) fun ⟨n, e3, h4⟩ => ⟨n, e3, h4.same s⟩⟩⟩
/-- a periodic timer -/
def PairAt (H : Hp) (v : V) (a p : Nat) : Prop := ∃ t : Addr, v = .ref t ∧ H t = some (.tup [.int (a : Nat), .int (p : Nat)]) ∧ 1 ≤ p
theorem PairAt.same {H H' : Hp} {v : V} {a p : Nat} (s : Same H H') (h : PairAt H v a p) : PairAt H' v a p := by
  obtain ⟨t, e, h, l⟩ := h
  exact ⟨t, e, s _ _ h, l⟩
section
variable {P : Program} {w : World} {K : PySem.W.Frag} {mg : Str → Option Value} {base : Heap}
def spPeriodicX (K : PySem.W.Frag) : Sp := fun vs H Q _ => ∃ x : V, vs = [x] ∧ (((∃ a p, PairAt H x a p) ∧ Q (.bl true) H) ∨ (BadPair K H x ∧ Q (.bl false) H))
theorem okA_is_periodic {f : Addr} {fd : FuncData} (F : Fun K "is_periodic" "is_periodic" s_is_periodic f fd) (T : Tx K mg) (h1 : Has P w K mg base 2 "is_tick" ["given", "least"] [.int 0] (spIsTickX K)) (h2 : Has P w K mg base 2 "is_period" ["given"] [] (spIsPeriodX K)) : FnOk P w K mg base CX0 3 f fd ["given"] (spPeriodicX K) := by
  obtain ⟨f_is_tick1, fd_is_tick1, ds_is_tick1, G_is_tick1, m_is_tick1, k_is_tick1, b_is_tick1, v_is_tick1⟩ := h1
  obtain ⟨f_is_period, fd_is_period, ds_is_period, G_is_period, m_is_period, k_is_period, b_is_period, v_is_period⟩ := h2
  refine F.ok sc_is_periodic (fun vs H Q E h => ?_) (fun cdv A outer s H vs Q E hr h => ?_)
  · obtain ⟨x, rfl, _⟩ := h
    rfl
  · obtain ⟨x, rfl, h⟩ := h
    refine ⟨_, (pss_cons (ps_if (PW.pt (pw_or (pt_not (pt_val (pe_callB (isiK (K := K) rfl) (by rfl) T.b_isinstance (by decide +kernel) (pa_cons (pv 0) (pa_cons (pe_bltn (v := .ty "tuple") (u := .type "tuple") (by rfl) T.b_tuple (by decide +kernel) rfl) pa_nil))))) (pw_or1 (pt_cmpR op_ne (pe_callB (lenK (K := K) rfl) (by rfl) T.b_len PySem.boot_len (pa_cons (pv 0) pa_nil)) pe_int (nomark _)))))
        (pss_one (ps_ret pe_bl))
        pss_nil)
      (pss_cons (ps_asg (pv 0) (pg_tupK (K := K) (n := 2) rfl rfl (pgs_cons (pg_name (i := 1) sc_is_periodic.nd rfl (.inl rfl)) (pgs_cons (pg_name (i := 2) sc_is_periodic.nd rfl (.inl rfl)) pgs_nil))))
      (pss_one (ps_ret (pe_and (pe_call G_is_tick1 hr (by rfl) m_is_tick1 k_is_tick1 b_is_tick1 v_is_tick1 pass0 (pa_cons (pv 1) pa_nil)) (pe_one (pe_call G_is_period hr (by rfl) m_is_period k_is_period b_is_period v_is_period pass0 (pa_cons (pv 2) pa_nil)))))))), ?_⟩
    rcases h with ⟨⟨a, p, t, rfl, ht, hp⟩, q⟩ | ⟨⟨c, ht, hk⟩ | ⟨t, xs, rfl, ht, hb⟩, q⟩
    · refine ⟨.ref t, rfl, _, _, _, _, true, rfl, .ty "tuple", .base (.tup ht), kit_ty (by decide +kernel), true, rfl, iteF ?_⟩
      refine ⟨.ref t, rfl, t, _, rfl, .inr (.inl (.inl ht)), rfl, false, nF rfl, iteF ?_⟩
      refine ⟨.ref t, rfl, t, _, rfl, .inl (.inl ht), rfl, _, _, rfl, _, _, rfl, rfl, ?_⟩
      refine ⟨_, rfl, .int (a : Nat), 0, rfl, .inl ⟨(a : Nat), rfl, by omega, true, rfl, iteT ?_⟩⟩
      exact ⟨_, rfl, .int (p : Nat), rfl, .inl ⟨(p : Nat), rfl, by omega, q⟩⟩
    · exact ⟨x, rfl, _, _, _, _, false, rfl, .ty "tuple", ht, kit_ty hk, false, rfl, iteT (iteT q)⟩
    · refine ⟨.ref t, rfl, _, _, _, _, true, rfl, .ty "tuple", .base (.tup ht), kit_ty (by decide +kernel), true, rfl, iteF ?_⟩
      rcases hb with hl | ⟨x, y, rfl, hb⟩
      · exact ⟨.ref t, rfl, t, _, rfl, .inr (.inl (.inl ht)), rfl, true, nT (vI fun e => hl (Int.ofNat.inj e)), iteT q⟩
      refine ⟨.ref t, rfl, t, _, rfl, .inr (.inl (.inl ht)), rfl, false, nF rfl, iteF ?_⟩
      refine ⟨.ref t, rfl, t, _, rfl, .inl (.inl ht), rfl, _, _, rfl, _, _, rfl, rfl, ?_⟩
      rcases hb with hb | ⟨n, rfl, hb⟩
      · exact ⟨x, rfl, x, 0, rfl, .inr ⟨hb, false, rfl, iteF q⟩⟩
      · refine ⟨_, rfl, .int (n : Nat), 0, rfl, .inl ⟨(n : Nat), rfl, by omega, true, rfl, iteT ?_⟩⟩
        exact ⟨y, rfl, y, rfl, .inr ⟨hb, q⟩⟩
def spCheckPeriodicX (K : PySem.W.Frag) (CN : Addr) : Sp := fun vs H Q E => ∃ x : V, vs = [x] ∧ (((∃ a p, PairAt H x a p) ∧ Q .non H) ∨ (BadPair K H x ∧ E (.ref CN) none H))
theorem okX_check_periodic {f c_NoPeriod : Addr} {fd : FuncData} (F : Fun K "check_periodic" "check_periodic" s_check_periodic f fd) (T : Tx K mg) (X_NoPeriod : EC K mg "NoPeriod" c_NoPeriod) (h1 : Has P w K mg base 3 "is_periodic" ["given"] [] (spPeriodicX K)) : FnOk P w K mg base (L2.CX P w) 4 f fd ["given"] (spCheckPeriodicX K c_NoPeriod) := by
  obtain ⟨f_is_periodic, fd_is_periodic, ds_is_periodic, G_is_periodic, m_is_periodic, k_is_periodic, b_is_periodic, v_is_periodic⟩ := h1
  refine F.okX sc_check_periodic (fun vs H Q E h => ?_) (fun cdv A outer s H vs Q E hr h => ?_)
  · obtain ⟨x, rfl, _⟩ := h
    rfl
  · obtain ⟨x, rfl, h⟩ := h
    refine ⟨_, (pss_one (ps_if (pt_not (pt_val (pe_call G_is_periodic hr (by rfl) m_is_periodic k_is_periodic b_is_periodic v_is_periodic pass0 (pa_cons (pv 0) pa_nil))))
        (pss_one (ps_raise rfl (takes_of rfl rfl rfl rfl) (pmk_own PySem.F.excBase_ValueError X_NoPeriod.x X_NoPeriod.g X_NoPeriod.k (raises_own X_NoPeriod.b X_NoPeriod.t) rfl)))
        pss_nil)), ?_⟩
    rcases h with ⟨h, q⟩ | ⟨h, q⟩
    · exact ⟨x, rfl, x, rfl, .inl ⟨h, true, rfl, iteF q⟩⟩
    · exact ⟨x, rfl, x, rfl, .inr ⟨h, false, rfl, iteT q⟩⟩
/-- what check_two refuses -/
def BadTwo (K : PySem.W.Frag) (H : Hp) (x y : V) : Prop := BadPair K H x ∨ ∃ a p : Nat, PairAt H x a p ∧ (BadPair K H y ∨ ∃ b : Nat, PairAt H y b p)
theorem BadTwo.same {K : PySem.W.Frag} {H H' : Hp} {x y : V} (s : Same H H') (h : BadTwo K H x y) : BadTwo K H' x y := h.imp (·.same s) fun ⟨a, p, h1, h2⟩ => ⟨a, p, h1.same s, h2.imp (·.same s) fun ⟨b, h3⟩ => ⟨b, h3.same s⟩⟩
def spCheckTwoX (K : PySem.W.Frag) (CN : Addr) : Sp := fun vs H Q E => ∃ x y : V, vs = [x, y] ∧ ((∃ a p b q : Nat, PairAt H x a p ∧ PairAt H y b q ∧ p ≠ q ∧ Q .non H) ∨ (BadTwo K H x y ∧ E (.ref CN) none H))
theorem okX_check_two {f c_NoPeriod : Addr} {fd : FuncData} (F : Fun K "check_two" "check_two" s_check_two f fd) (T : Tx K mg) (X_NoPeriod : EC K mg "NoPeriod" c_NoPeriod) (h1 : HasX P w K mg base 4 "check_periodic" ["given"] [] (spCheckPeriodicX K c_NoPeriod)) : FnOk P w K mg base (L2.CX P w) 5 f fd ["one", "other"] (spCheckTwoX K c_NoPeriod) := by
  obtain ⟨f_check_periodic, fd_check_periodic, ds_check_periodic, G_check_periodic, m_check_periodic, k_check_periodic, b_check_periodic, v_check_periodic⟩ := h1
  refine F.okX sc_check_two (fun vs H Q E h => ?_) (fun cdv A outer s H vs Q E hr h => ?_)
  · obtain ⟨x, y, rfl, _⟩ := h
    rfl
  · obtain ⟨x, y, rfl, h⟩ := h
    refine ⟨_, (pss_cons (ps_expr (pe_call G_check_periodic hr (by rfl) m_check_periodic k_check_periodic b_check_periodic v_check_periodic (passes_call (takes_of rfl rfl rfl rfl) (fun _ _ _ _ h => h)) (pa_cons (pv 0) pa_nil)))
      (pss_cons (ps_expr (pe_call G_check_periodic hr (by rfl) m_check_periodic k_check_periodic b_check_periodic v_check_periodic (passes_call (takes_of rfl rfl rfl rfl) (fun _ _ _ _ h => h)) (pa_cons (pv 1) pa_nil)))
      (pss_one (ps_if (pt_cmpR op_eq (pe_ix (ix_tupK (K := K) rfl) (pv 0) pe_int (fun _ _ => rfl)) (pe_ix (ix_tupK (K := K) rfl) (pv 1) pe_int (fun _ _ => rfl)) (nomark _))
        (pss_one (ps_raise rfl (takes_of rfl rfl rfl rfl) (pmk_own PySem.F.excBase_ValueError X_NoPeriod.x X_NoPeriod.g X_NoPeriod.k (raises_own X_NoPeriod.b X_NoPeriod.t) rfl)))
        pss_nil)))), ?_⟩
    rcases h with ⟨a, p, b, q', ⟨t1, rfl, e1, l1⟩, ⟨t2, rfl, e2, l2⟩, hne, q⟩ | ⟨h | ⟨a, p, ⟨t1, rfl, e1, l1⟩, h | ⟨b, ⟨t2, rfl, e2, l2⟩⟩⟩, q⟩
    · refine ⟨_, rfl, _, rfl, .inl ⟨⟨a, p, t1, rfl, e1, l1⟩, ?_⟩⟩
      refine ⟨_, rfl, _, rfl, .inl ⟨⟨b, q', t2, rfl, e2, l2⟩, ?_⟩⟩
      refine ⟨.ref t1, rfl, t1, _, 1, _, rfl, rfl, .inl (.inl e1), atI_nat (j := 1) rfl, .ref t2, rfl, t2, _, 1, _, rfl, rfl, .inl (.inl e2), atI_nat (j := 1) rfl, rfl, false, dF (vN hne), iteF ?_⟩
      exact q
    · exact ⟨x, rfl, x, rfl, .inr ⟨h, q⟩⟩
    · refine ⟨_, rfl, _, rfl, .inl ⟨⟨a, p, t1, rfl, e1, l1⟩, ?_⟩⟩
      exact ⟨_, rfl, y, rfl, .inr ⟨h, q⟩⟩
    · refine ⟨_, rfl, _, rfl, .inl ⟨⟨a, p, t1, rfl, e1, l1⟩, ?_⟩⟩
      refine ⟨_, rfl, _, rfl, .inl ⟨⟨b, p, t2, rfl, e2, l2⟩, ?_⟩⟩
      exact ⟨.ref t1, rfl, t1, _, 1, _, rfl, rfl, .inl (.inl e1), atI_nat (j := 1) rfl, .ref t2, rfl, t2, _, 1, _, rfl, rfl, .inl (.inl e2), atI_nat (j := 1) rfl, rfl, true, dT rfl, iteT q⟩
end
/-! ### lists of periodic timers of any value; order_at and times_first may raise -/
section
variable {P : Program} {w : World} {K : PySem.W.Frag} {mg : Str → Option Value} {base : Heap}
/-- what raises nothing may stand where something may -/
theorem fnok_lift {k : Nat} {f : Addr} {fd : FuncData} {ps : List Str} {sp : Sp} (F : FnOk P w K mg base CX0 k f fd ps sp) : FnOk P w K mg base (L2.CX P w) k f fd ps sp := by
  refine ⟨F.len, fun A outer s H args us vs Q E hr he hb hv q => codeAny_mono (F.run A outer s H args us vs Q E hr he hb hv q) fun r s' z => ?_⟩
  match r, z with
  | .ok (.ret u), z => exact z
  | .error e, z => exact z.elim
theorem Has.lift {k : Nat} {x : Str} {ps : List Str} {dvs : List V} {sp : Sp} (h : Has P w K mg base k x ps dvs sp) : HasX P w K mg base k x ps dvs sp := by
  obtain ⟨f, fd, ds, F, r⟩ := h
  exact ⟨f, fd, ds, fnok_lift F, r⟩
def spOr (a b : Sp) : Sp := fun vs H Q E => a vs H Q E ∨ b vs H Q E
theorem fnok_or {CX : CXT} {k : Nat} {f : Addr} {fd : FuncData} {ps : List Str} {sp sp' : Sp} (F : FnOk P w K mg base CX k f fd ps sp) (G : FnOk P w K mg base CX k f fd ps sp') : FnOk P w K mg base CX k f fd ps (spOr sp sp') := by
  refine ⟨fun vs H Q E q => q.elim (F.len vs H Q E) (G.len vs H Q E), fun A outer s H args us vs Q E hr he hb hv q => ?_⟩
  rcases q with q | q
  · exact F.run A outer s H args us vs Q E hr he hb hv q
  · exact G.run A outer s H args us vs Q E hr he hb hv q
end
/-- what is no list of timers with unlike periods -/
def BadSeveral (K : PySem.W.Frag) (H : Hp) (x : V) : Prop := NotA K H "list" x ∨ ∃ (S : Addr) (xs : List V), x = .ref S ∧ SqL K H S xs ∧ xs.length ≤ 1000 ∧ (xs = [] ∨ (xs ≠ [] ∧ (∀ v ∈ xs, (∃ a p, PairAt H v a p) ∨ BadPair K H v) ∧ ∃ v ∈ xs, BadPair K H v) ∨
  ∃ (ss : List Addr) (prs : List (Nat × Nat)), xs = ss.map V.ref ∧ PrAt H ss prs ∧ prs ≠ [] ∧ (∀ r ∈ prs, 1 ≤ r.2) ∧ ¬ (prs.map (·.2)).Nodup)
theorem BadSeveral.same {K : PySem.W.Frag} {H H' : Hp} {x : V} (s : Same H H') (h : BadSeveral K H x) : BadSeveral K H' x := by
  rcases h with h | ⟨S, xs, e, hS, l, h⟩
  · exact .inl (h.same s)
  refine .inr ⟨S, xs, e, s.seq hS, l, ?_⟩
  rcases h with h | ⟨ne, h1, v, hv, h2⟩ | ⟨ss, prs, e2, h1, h2⟩
  · exact .inl h
  · exact .inr (.inl ⟨ne, fun v hv => (h1 v hv).imp (fun ⟨a, p, z⟩ => ⟨a, p, z.same s⟩) (·.same s), v, hv, h2.same s⟩)
  · exact .inr (.inr ⟨ss, prs, e2, h1.frame fun t xs e => s _ _ e, h2⟩)
section
variable {P : Program} {w : World} {K : PySem.W.Frag} {mg : Str → Option Value} {base : Heap}
def spSeveralX (K : PySem.W.Frag) (CN : Addr) : Sp := fun vs H _ E => ∃ x : V, vs = [x] ∧ BadSeveral K H x ∧ ∀ H', Same H H' → E (.ref CN) none H'
theorem okX_check_several {f c_NoPeriod : Addr} {fd : FuncData} (F : Fun K "check_several" "check_several" s_check_several f fd) (T : Tx K mg) (X_NoPeriod : EC K mg "NoPeriod" c_NoPeriod) (h1 : HasX P w K mg base 4 "check_periodic" ["given"] [] (spCheckPeriodicX K c_NoPeriod)) : FnOk P w K mg base (L2.CX P w) 5 f fd ["some"] (spSeveralX K c_NoPeriod) := by
  obtain ⟨f_check_periodic, fd_check_periodic, ds_check_periodic, G_check_periodic, m_check_periodic, k_check_periodic, b_check_periodic, v_check_periodic⟩ := h1
  refine F.okX sc_check_several (fun vs H Q E h => ?_) (fun cdv A outer s H vs Q E hr h => ?_)
  · obtain ⟨x, rfl, _⟩ := h
    rfl
  · obtain ⟨x, rfl, h, c⟩ := h
    have refl : Same H H := fun _ _ e => e
    refine ⟨_, (pss_cons (ps_if (PW.pt (pw_or (pt_not (pt_val (pe_callB (isiK (K := K) rfl) (by rfl) T.b_isinstance (by decide +kernel) (pa_cons (pv 0) (pa_cons (pe_bltn (v := .ty "list") (u := .type "list") (by rfl) T.b_list (by decide +kernel) rfl) pa_nil))))) (pw_or1 (pt_cmpR op_eq (pe_callB (lenK (K := K) rfl) (by rfl) T.b_len PySem.boot_len (pa_cons (pv 0) pa_nil)) pe_int (nomark _)))))
        (pss_one (ps_raise rfl (takes_of rfl rfl rfl rfl) (pmk_own PySem.F.excBase_ValueError X_NoPeriod.x X_NoPeriod.g X_NoPeriod.k (raises_own X_NoPeriod.b X_NoPeriod.t) rfl)))
        pss_nil)
      (pss_cons (ps_for (passes_of rfl) rfl (pi_list (pv 0)) (pg_name (i := 1) sc_check_several.nd rfl (.inl rfl))
        (pss_one (ps_expr (pe_call G_check_periodic hr (by rfl) m_check_periodic k_check_periodic b_check_periodic v_check_periodic (passes_call (takes_of rfl rfl rfl rfl) (fun _ _ _ _ h => h)) (pa_cons (pv 1) pa_nil)))))
      (pss_one (ps_if (pt_cmpR op_ne (pe_lenSetN (by rfl) T.b_len (by rfl) T.b_set (pe_lc (own := [("phase", 2), ("period", 3)]) (g := _) (tt := tYes) rfl sc_check_several.nd (pi_list (pv 0)) (blkOk_by (own := [("phase", 2), ("period", 3)]) (N := N_check_several) (sc := defScope s_check_several) (by decide +kernel)) (fun _ _ _ _ _ => (pg_tupK (K := K) (n := 2) rfl rfl (pgs_cons (pg_name (i := 2) sc_check_several.nd rfl (.inl rfl)) (pgs_cons (pg_name (i := 3) sc_check_several.nd rfl (.inl rfl)) pgs_nil)))) (fun _ _ _ _ _ => pts_nil) (fun _ _ _ _ _ => (pv 3)))) (pe_callB (lenK (K := K) rfl) (by rfl) T.b_len PySem.boot_len (pa_cons (pv 0) pa_nil)) (nomark _))
        (pss_one (ps_raise rfl (takes_of rfl rfl rfl rfl) (pmk_own PySem.F.excBase_ValueError X_NoPeriod.x X_NoPeriod.g X_NoPeriod.k (raises_own X_NoPeriod.b X_NoPeriod.t) rfl)))
        pss_nil)))), ?_⟩
    rcases h with ⟨a, ht, hk⟩ | ⟨S, xs, rfl, hS, l1000, h⟩
    · exact ⟨x, rfl, _, _, _, _, false, rfl, .ty "list", ht, kit_ty hk, false, rfl, iteT (iteT (c H refl))⟩
    refine ⟨.ref S, rfl, _, _, _, _, true, rfl, .ty "list", tyx_list hS, kit_ty (by decide +kernel), true, rfl, iteF ?_⟩
    rcases h with rfl | ⟨hne, hgb, v0, hv0, hb0⟩ | ⟨ss, prs, rfl, hP, hne, hp1, hnd⟩
    · exact ⟨.ref S, rfl, S, _, rfl, .inl hS, rfl, true, dT rfl, iteT (c H refl)⟩
    · have hpos : 0 < xs.length := List.length_pos_iff.mpr hne
      refine ⟨.ref S, rfl, S, _, rfl, .inl hS, rfl, false, dF (vN (b := 0) (by omega)), iteF ?_⟩
      refine ⟨_, rfl, S, rfl, ⟨_, hS⟩, for_list (K := K) (a := S) (xs := xs) (fun i σ H' => (∃ y1, σ = [some (.ref S), y1, none, none]) ∧ H' = H ∧ ∀ j v, j < i → xs[j]? = some v → ¬ BadPair K H v) ⟨⟨none, rfl⟩, rfl, fun j v hj => absurd hj (Nat.not_lt_zero j)⟩ (fun i σ H' _ ⟨_, e, _⟩ => by rw [e]; exact hS) ?_ ?_⟩
      · rintro i x σ H' hx ⟨⟨y1, rfl⟩, rfl, hgood⟩
        rcases Classical.em (BadPair K H' x) with hb | hg
        rotate_left
        · refine ⟨_, rfl, x, rfl, .inl ⟨(hgb x (List.mem_of_getElem? hx)).resolve_right hg, ⟨⟨_, rfl⟩, rfl, fun j v hj hv => ?_⟩⟩⟩
          by_cases e : j < i
          · exact hgood j v e hv
          · have e2 : j = i := by omega
            subst e2
            rw [hx] at hv
            cases hv
            exact hg
        · exact ⟨_, rfl, x, rfl, .inr ⟨hb, c H' refl⟩⟩
      · rintro σ H' ⟨⟨y1, rfl⟩, rfl, hgood⟩
        obtain ⟨j, hj, ej⟩ := List.getElem_of_mem hv0
        exact (hgood j v0 hj (by rw [List.getElem?_eq_getElem hj, ej]) hb0).elim
    · have hpos : 0 < prs.length := List.length_pos_iff.mpr hne
      have hsl := hP.len
      have hl : (ss.map V.ref).length = prs.length := by rw [List.length_map, hsl]
      refine ⟨.ref S, rfl, S, _, rfl, .inl hS, rfl, false, dF (by rw [hl]; exact vN (b := 0) (by omega)), iteF ?_⟩
      refine ⟨_, rfl, S, rfl, ⟨_, hS⟩, for_list (K := K) (a := S) (xs := ss.map V.ref) (fun i σ H' => (∃ y1, σ = [some (.ref S), y1, none, none]) ∧ H' = H) ⟨⟨none, rfl⟩, rfl⟩ (fun i σ H' _ ⟨_, e⟩ => by rw [e]; exact hS) ?_ ?_⟩
      · rintro i x σ H' hx ⟨⟨y1, rfl⟩, rfl⟩
        obtain ⟨t, r, rfl, hr, ht⟩ := hP.item hx
        exact ⟨_, rfl, _, rfl, .inl ⟨⟨r.1, r.2, t, rfl, ht, hp1 r (List.mem_of_getElem? hr)⟩, ⟨⟨_, rfl⟩, rfl⟩⟩⟩
      · rintro σ H' ⟨⟨y1, rfl⟩, rfl⟩
        refine ⟨_, rfl, S, rfl, ⟨_, hS⟩, fun D hD => lc_list (K := K) (a := S) (xs := ss.map V.ref) (fun i H1 => Same H' H1 ∧ H1 D = some (.lst ((prs.take i).map fun r => V.int (r.2 : Nat)))) ⟨same_upd hD, upd_same⟩ (fun i H1 _ ⟨sm, _⟩ => sm.seq hS) ?_ ?_⟩
        · rintro i x H1 hx ⟨sm, eD⟩
          obtain ⟨t, r, rfl, hr, ht⟩ := hP.item hx
          refine ⟨t, _, rfl, .inl (.inl (sm _ _ ht)), rfl, _, _, rfl, _, _, rfl, rfl, rfl, yesT (iteT ?_)⟩
          refine ⟨_, rfl, _, eD, ?_, fun c o e => ?_, ?_⟩
          · rw [List.length_map, List.length_take]
            exact sizeLine_ge (by omega)
          · rw [upd_ne (ne_of_none e hD)]
            exact sm _ _ e
          · rw [upd_same, List.take_add_one, hr, List.map_append]
            rfl
        · rintro H1 ⟨s1, eD⟩
          rw [hl, List.take_length] at eD
          have e1 : prs.map (fun r => V.int (r.2 : Nat)) = (prs.map fun r => ((r.2 : Nat) : Int)).map V.int := by
            rw [List.map_map]
            rfl
          rw [e1] at eD
          have nd : ¬ (prs.map fun r => ((r.2 : Nat) : Int)).Nodup := fun z => hnd (by
            have y : (prs.map fun r => ((r.2 : Nat) : Int)).Pairwise (· ≠ ·) := z
            rw [List.pairwise_map] at y
            show (prs.map (·.2)).Pairwise (· ≠ ·)
            rw [List.pairwise_map]
            exact y.imp fun h e => h (congrArg Int.ofNat e))
          refine ⟨D, _, rfl, SqL.of eD, by rw [List.length_map]; omega, fun n _ hlt => ?_⟩
          have hn := hlt nd
          rw [List.length_map] at hn
          exact ⟨.ref S, rfl, S, _, rfl, .inl (s1.seq hS), rfl, true, nT (fun e => by
            have z := Int.ofNat.inj (V.int.inj e)
            rw [hl] at z
            omega), iteT (c H1 s1)⟩
/-- what order_at refuses: 0 the base, 1 the levels, 2 the timers, 3 the tick -/
def OrderBad (K : PySem.W.Frag) (H : Hp) (x0 x1 x2 x3 : V) (e : Nat) : Prop := (e = 0 ∧ BadBase K H x0) ∨ ((∃ b : Nat, x0 = .int (b : Nat) ∧ 2 ≤ b ∧ b ≤ 64) ∧ ((e = 1 ∧ BadLevels K H x1) ∨ ((∃ (q : Addr) (ws : List Bool), x1 = .ref q ∧ SqL K H q (ws.map lvV) ∧ ws ≠ [] ∧ ws.length ≤ 60) ∧
  ((e = 2 ∧ BadSeveral K H x2) ∨ ∃ (S : Addr) (ss : List Addr) (prs : List (Nat × Nat)), x2 = .ref S ∧ H S = some (.lst (ss.map V.ref)) ∧ PrAt H ss prs ∧ prs ≠ [] ∧ prs.length ≤ 60 ∧ (∀ r ∈ prs, 1 ≤ r.2) ∧ (prs.map (·.2)).Nodup ∧ e = 3 ∧ (BadTick K H x3 0 ∨ ∃ d : Nat, x3 = .int (d : Nat) ∧ ∃ r ∈ prs, r.1 = d)))))
theorem OrderBad.same {K : PySem.W.Frag} {H H' : Hp} {x0 x1 x2 x3 : V} {e : Nat} (s : Same H H') (h : OrderBad K H x0 x1 x2 x3 e) : OrderBad K H' x0 x1 x2 x3 e := by
  refine h.imp (fun z => ⟨z.1, z.2.same s⟩) fun ⟨h1, h2⟩ => ⟨h1, h2.imp (fun z => ⟨z.1, z.2.same s⟩) fun ⟨⟨q, ws, e1, h3, h4⟩, h5⟩ => ⟨⟨q, ws, e1, s.seq h3, h4⟩, h5.imp (fun z => ⟨z.1, z.2.same s⟩) fun ⟨S, ss, prs, e2, h6, h7, h8, h9, h10, h11, h12, h13⟩ => ⟨S, ss, prs, e2, s _ _ h6, h7.frame (fun t xs e => s _ _ e), h8, h9, h10, h11, h12, h13.imp (·.same s) id⟩⟩⟩
def errOf (cB cL cP cT : Addr) : Nat → Addr
  | 0 => cB
  | 1 => cL
  | 2 => cP
  | _ => cT
def spOrderBad (K : PySem.W.Frag) (cB cL cP cT : Addr) : Sp := fun vs H _ E => ∃ x0 x1 x2 x3 : V, vs = [x0, x1, x2, x3] ∧ ∃ e, OrderBad K H x0 x1 x2 x3 e ∧ ∀ H', Same H H' → E (.ref (errOf cB cL cP cT e)) none H'
theorem okX_order_bad {f cB cL cP cT : Addr} {fd : FuncData} (F : Fun K "order_at" "order_at" s_order_at f fd) (T : Tx K mg) (X_NoTick : EC K mg "NoTick" cT) (h1 : HasX P w K mg base 3 "check_base" ["base"] [] (spCheckBaseX K cB)) (h2 : HasX P w K mg base 4 "check_levels" ["levels"] [] (spCheckLevelsX K cL))
    (h3 : HasX P w K mg base 3 "check_tick" ["tick", "least"] [.int 0] (spCheckTickX K cT)) (h4 : HasX P w K mg base 5 "check_several" ["some"] [] (spOr (spSeveralX K cP) (spSeveral K))) (h5 : Has P w K mg base 1 "fires_again" ["timer", "tick"] [] spFires)
    (h6 : Has P w K mg base 4 "firing_order" ["base", "levels", "due", "settings"] [] (spFiringOrder K)) : FnOk P w K mg base (L2.CX P w) 6 f fd ["base", "levels", "some", "tick"] (spOrderBad K cB cL cP cT) := by
  obtain ⟨f_check_base, fd_check_base, ds_check_base, G_check_base, m_check_base, k_check_base, b_check_base, v_check_base⟩ := h1
  obtain ⟨f_check_levels, fd_check_levels, ds_check_levels, G_check_levels, m_check_levels, k_check_levels, b_check_levels, v_check_levels⟩ := h2
  obtain ⟨f_check_tick1, fd_check_tick1, ds_check_tick1, G_check_tick1, m_check_tick1, k_check_tick1, b_check_tick1, v_check_tick1⟩ := h3
  obtain ⟨f_check_several, fd_check_several, ds_check_several, G_check_several, m_check_several, k_check_several, b_check_several, v_check_several⟩ := h4
  obtain ⟨f_fires_again, fd_fires_again, ds_fires_again, G_fires_again, m_fires_again, k_fires_again, b_fires_again, v_fires_again⟩ := h5
  obtain ⟨f_firing_order, fd_firing_order, ds_firing_order, G_firing_order, m_firing_order, k_firing_order, b_firing_order, v_firing_order⟩ := h6
  refine F.okX sc_order_at (fun vs H Q E h => ?_) (fun cdv A outer s H vs Q E hr h => ?_)
  · obtain ⟨x0, x1, x2, x3, rfl, _⟩ := h
    rfl
  · obtain ⟨x0, x1, x2, x3, rfl, e, h, c⟩ := h
    refine ⟨_, (pss_cons (ps_expr (pe_call G_check_base (hr.mono (by decide)) (by rfl) m_check_base k_check_base b_check_base v_check_base (passes_call (takes_of rfl rfl rfl rfl) (fun _ _ _ _ h => h)) (pa_cons (pv 0) pa_nil)))
      (pss_cons (ps_expr (pe_call G_check_levels (hr.mono (by decide)) (by rfl) m_check_levels k_check_levels b_check_levels v_check_levels (passes_call (takes_of rfl rfl rfl rfl) (fun _ _ _ _ h => h)) (pa_cons (pv 1) pa_nil)))
      (pss_cons (ps_expr (pe_call G_check_several hr (by rfl) m_check_several k_check_several b_check_several v_check_several (passes_call (takes_of rfl rfl rfl rfl) (fun _ _ _ _ h => h)) (pa_cons (pv 2) pa_nil)))
      (pss_cons (ps_expr (pe_call G_check_tick1 (hr.mono (by decide)) (by rfl) m_check_tick1 k_check_tick1 b_check_tick1 v_check_tick1 (passes_call (takes_of rfl rfl rfl rfl) (fun _ _ _ _ h => h)) (pa_cons (pv 3) pa_nil)))
      (pss_cons (ps_if (pt_cmpR op_in_seq (pv 3) (pe_lc (own := [("phase", 9), ("period", 8)]) (g := _) (tt := tYes) rfl sc_order_at.nd (pi_list (pv 2)) (blkOk_by (own := [("phase", 9), ("period", 8)]) (N := N_order_at) (sc := defScope s_order_at) (by decide +kernel)) (fun _ _ _ _ _ => (pg_tupK (K := K) (n := 2) rfl rfl (pgs_cons (pg_name (i := 9) sc_order_at.nd rfl (.inl rfl)) (pgs_cons (pg_name (i := 8) sc_order_at.nd rfl (.inl rfl)) pgs_nil)))) (fun _ _ _ _ _ => pts_nil) (fun _ _ _ _ _ => (pv 9))) (by rfl))
        (pss_one (ps_raise rfl (takes_of rfl rfl rfl rfl) (pmk_own PySem.F.excBase_ValueError X_NoTick.x X_NoTick.g X_NoTick.k (raises_own X_NoTick.b X_NoTick.t) rfl)))
        pss_nil)
      (pss_cons (ps_setLc (i := 4) (own := [("index", 6), ("timer", 7)]) (g := _)  rfl sc_order_at.nd rfl rfl (sw_true rfl rfl rfl (by decide +kernel)) (pi_enum (by rfl) T.b_enumerate (pa_cons (pv 2) pa_nil)) (blkOk_by (own := [("index", 6), ("timer", 7)]) (N := N_order_at) (sc := defScope s_order_at) (by decide +kernel)) (fun _ _ _ _ _ => (pg_tupK (K := K) (n := 2) rfl rfl (pgs_cons (pg_name (i := 6) sc_order_at.nd rfl (.inl rfl)) (pgs_cons (pg_name (i := 7) sc_order_at.nd rfl (.inl rfl)) pgs_nil)))) (fun _ _ _ _ _ => (pts_one (pt_val (pe_call G_fires_again (hr.mono (by decide)) (by rfl) m_fires_again k_fires_again b_fires_again v_fires_again pass0 (pa_cons (pv 7) (pa_cons (pv 3) pa_nil)))))) (fun _ _ _ _ _ => (pe_tup (pa_cons (pe_ix (ix_tupK (K := K) rfl) (pv 7) pe_int (fun _ _ => rfl)) (pa_cons (pv 6) pa_nil)))))
      (pss_cons (ps_setLc (i := 5) (own := [("period", 8), ("index", 6)]) (g := _) (tt := tYes) rfl sc_order_at.nd rfl rfl (sw_true rfl rfl rfl (by decide +kernel)) (pi_list (pe_callBK cr_sortedPR (by rfl) T.b_sorted (by decide +kernel) (pa_cons (pv 4) pa_nil) (pk_cons pe_bl pk_nil))) (blkOk_by (own := [("period", 8), ("index", 6)]) (N := N_order_at) (sc := defScope s_order_at) (by decide +kernel)) (fun _ _ _ _ _ => (pg_tupK (K := K) (n := 2) rfl rfl (pgs_cons (pg_name (i := 8) sc_order_at.nd rfl (.inl rfl)) (pgs_cons (pg_name (i := 6) sc_order_at.nd rfl (.inl rfl)) pgs_nil)))) (fun _ _ _ _ _ => pts_nil) (fun _ _ _ _ _ => (pe_tup (pa_cons (pv 6) (pa_cons (pe_op op_subN (pv 3) (pv 8)) pa_nil)))))
      (pss_one (ps_ret (pe_call G_firing_order (hr.mono (by decide)) (by rfl) m_firing_order k_firing_order b_firing_order v_firing_order pass0 (pa_cons (pv 0) (pa_cons (pv 1) (pa_cons (pv 3) (pa_cons (pv 5) pa_nil)))))))))))))), ?_⟩
    rcases h with ⟨rfl, hb⟩ | ⟨⟨b, rfl, b2, b64⟩, h⟩
    · exact ⟨x0, rfl, x0, rfl, .inr ⟨hb, c _ fun _ _ e => e⟩⟩
    refine ⟨_, rfl, _, rfl, .inl ⟨(b : Nat), rfl, by omega, by omega, ?_⟩⟩
    rcases h with ⟨rfl, hb⟩ | ⟨⟨q, ws, rfl, hL, hne, h60⟩, h⟩
    · exact ⟨x1, rfl, x1, rfl, .inr ⟨hb, fun H1 s1 => c H1 s1⟩⟩
    refine ⟨_, rfl, _, rfl, .inl ⟨q, ws, rfl, hL, hne, h60, fun H1 s1 => ?_⟩⟩
    rcases h with ⟨rfl, hb⟩ | ⟨S, ss, prs, rfl, hS, hP, hpne, hp60, hpr1, hnd, rfl, h⟩
    · exact ⟨x2, rfl, .inl ⟨x2, rfl, hb.same s1, fun H2 s2 => c H2 (s1.trans s2)⟩⟩
    have hsl := hP.len
    have hP1 := hP.frame (H' := H1) fun t xs e => s1 _ _ e
    refine ⟨_, rfl, .inr ⟨S, ss, prs, rfl, s1 _ _ hS, hP1, hpne, hp60, hpr1, hnd, fun H2 s2 => ?_⟩⟩
    have s02 := s1.trans s2
    rcases h with hb | ⟨d, rfl, r0, hr0, er0⟩
    · exact ⟨x3, rfl, x3, 0, rfl, .inr ⟨hb.same s02, c H2 s02⟩⟩
    refine ⟨_, rfl, _, 0, rfl, .inl ⟨(d : Nat), rfl, by omega, ?_⟩⟩
    have hP2 := hP.frame (H' := H2) fun t xs e => s02 _ _ e
    have hS2 := s02 _ _ hS
    refine ⟨_, rfl, _, rfl, S, rfl, ⟨_, SqL.of hS2⟩, fun D hD => lc_list (K := K) (a := S) (xs := ss.map V.ref) (fun i H' => Same H2 H' ∧ H' D = some (.lst (((prs.take i).map (·.1)).map fun y => V.int (y : Nat)))) ⟨same_upd hD, upd_same⟩ (fun i H' _ ⟨sm, _⟩ => SqL.of (sm _ _ hS2)) ?_ ?_⟩
    · rintro i v H' hv ⟨sm, eD⟩
      obtain ⟨t, r, rfl, hr, ht⟩ := hP2.item hv
      refine ⟨t, _, rfl, .inl (.inl (sm _ _ ht)), rfl, _, _, rfl, _, _, rfl, rfl, rfl, yesT (iteT ?_)⟩
      refine ⟨_, rfl, _, eD, ?_, fun c o e => ?_, ?_⟩
      · rw [List.length_map, List.length_map, List.length_take]
        exact sizeLine_ge (by omega)
      · rw [upd_ne (ne_of_none e hD)]
        exact sm _ _ e
      · rw [upd_same, List.take_add_one, hr, Option.toList_some, List.map_append, List.map_append]
        rfl
    rintro H3 ⟨s3, eD⟩
    rw [List.length_map, hsl, List.take_length] at eD
    have hin : d ∈ prs.map (·.1) := List.mem_map.mpr ⟨r0, hr0, er0⟩
    refine ⟨D, _, rfl, .inl (SqL.of eD), rfl, flat_nats _, true, ?_, iteT (c H3 (s02.trans s3))⟩
    show V.bl (inV (.int (d : Nat)) ((prs.map (·.1)).map fun y => V.int (y : Nat))) = V.bl true
    rw [inV_nat, decide_eq_true hin]
/-- what times_first refuses -/
def TimesBad (K : PySem.W.Frag) (H : Hp) (x0 x1 x2 x3 x4 x5 : V) (e : Nat) : Prop := (e = 0 ∧ BadBase K H x0) ∨ ((∃ b : Nat, x0 = .int (b : Nat) ∧ 2 ≤ b ∧ b ≤ 64) ∧ ((e = 1 ∧ BadLevels K H x1) ∨ ((∃ (q : Addr) (ws : List Bool), x1 = .ref q ∧ SqL K H q (ws.map lvV) ∧ ws ≠ [] ∧ ws.length ≤ 60) ∧
  ((e = 2 ∧ BadTwo K H x2 x3) ∨ ∃ a1 p1 a2 p2 : Nat, PairAt H x2 a1 p1 ∧ PairAt H x3 a2 p2 ∧ p1 ≠ p2 ∧ e = 3 ∧ (BadTick K H x4 0 ∨ ∃ d : Nat, x4 = .int (d : Nat) ∧ BadTick K H x5 (d : Nat))))))
theorem TimesBad.same {K : PySem.W.Frag} {H H' : Hp} {x0 x1 x2 x3 x4 x5 : V} {e : Nat} (s : Same H H') (h : TimesBad K H x0 x1 x2 x3 x4 x5 e) : TimesBad K H' x0 x1 x2 x3 x4 x5 e := by
  refine h.imp (fun z => ⟨z.1, z.2.same s⟩) fun ⟨h1, h2⟩ => ⟨h1, h2.imp (fun z => ⟨z.1, z.2.same s⟩) fun ⟨⟨q, ws, e1, h3, h4⟩, h5⟩ => ⟨⟨q, ws, e1, s.seq h3, h4⟩, h5.imp (fun z => ⟨z.1, z.2.same s⟩) fun ⟨a1, p1, a2, p2, h6, h7, h8, h9, h10⟩ => ⟨a1, p1, a2, p2, h6.same s, h7.same s, h8, h9, h10.imp (·.same s) fun ⟨d, e2, h11⟩ => ⟨d, e2, h11.same s⟩⟩⟩⟩
def spTimesBad (K : PySem.W.Frag) (cB cL cP cT : Addr) : Sp := fun vs H _ E => ∃ x0 x1 x2 x3 x4 x5 : V, vs = [x0, x1, x2, x3, x4, x5] ∧ ∃ e, TimesBad K H x0 x1 x2 x3 x4 x5 e ∧ ∀ H', Same H H' → E (.ref (errOf cB cL cP cT e)) none H'
theorem okX_times_bad {f cB cL cP cT c_TooMany : Addr} {fd : FuncData} (F : Fun K "times_first" "times_first" s_times_first f fd) (T : Tx K mg) (X_TooMany : EC K mg "TooMany" c_TooMany) (hM : MostM mg) (h1 : HasX P w K mg base 3 "check_base" ["base"] [] (spCheckBaseX K cB)) (h4 : HasX P w K mg base 4 "check_levels" ["levels"] [] (spCheckLevelsX K cL))
    (h2 : HasX P w K mg base 3 "check_tick" ["tick", "least"] [.int 0] (spCheckTickX K cT)) (h7 : HasX P w K mg base 3 "check_tick" ["tick", "least"] [] (spCheckTickX K cT)) (h3 : HasX P w K mg base 5 "check_two" ["one", "other"] [] (spCheckTwoX K cP))
    (h5 : Has P w K mg base 2 "meetings" ["one", "other"] [] spMeet) (h6 : Has P w K mg base 4 "is_ahead" ["base", "levels", "one", "other", "tick"] [] (spAhead K)) :
    FnOk P w K mg base (L2.CX P w) 6 f fd ["base", "levels", "one", "other", "first", "behind"] (spTimesBad K cB cL cP cT) := by
  obtain ⟨tM, g_MOST_MEETINGS⟩ := hM
  obtain ⟨f_check_base, fd_check_base, ds_check_base, G_check_base, m_check_base, k_check_base, b_check_base, v_check_base⟩ := h1
  obtain ⟨f_check_tick1, fd_check_tick1, ds_check_tick1, G_check_tick1, m_check_tick1, k_check_tick1, b_check_tick1, v_check_tick1⟩ := h2
  obtain ⟨f_check_tick, fd_check_tick, ds_check_tick, G_check_tick, m_check_tick, k_check_tick, b_check_tick, v_check_tick⟩ := h7
  obtain ⟨f_check_two, fd_check_two, ds_check_two, G_check_two, m_check_two, k_check_two, b_check_two, v_check_two⟩ := h3
  obtain ⟨f_check_levels, fd_check_levels, ds_check_levels, G_check_levels, m_check_levels, k_check_levels, b_check_levels, v_check_levels⟩ := h4
  obtain ⟨f_meetings, fd_meetings, ds_meetings, G_meetings, m_meetings, k_meetings, b_meetings, v_meetings⟩ := h5
  obtain ⟨f_is_ahead, fd_is_ahead, ds_is_ahead, G_is_ahead, m_is_ahead, k_is_ahead, b_is_ahead, v_is_ahead⟩ := h6
  refine F.okX sc_times_first (fun vs H Q E h => ?_) (fun cdv A outer s H vs Q E hr h => ?_)
  · obtain ⟨x0, x1, x2, x3, x4, x5, rfl, _⟩ := h
    rfl
  · obtain ⟨x0, x1, x2, x3, x4, x5, rfl, e, h, c⟩ := h
    refine ⟨_, (pss_cons (ps_expr (pe_call G_check_base (hr.mono (by decide)) (by rfl) m_check_base k_check_base b_check_base v_check_base (passes_call (takes_of rfl rfl rfl rfl) (fun _ _ _ _ h => h)) (pa_cons (pv 0) pa_nil)))
      (pss_cons (ps_expr (pe_call G_check_levels (hr.mono (by decide)) (by rfl) m_check_levels k_check_levels b_check_levels v_check_levels (passes_call (takes_of rfl rfl rfl rfl) (fun _ _ _ _ h => h)) (pa_cons (pv 1) pa_nil)))
      (pss_cons (ps_expr (pe_call G_check_two hr (by rfl) m_check_two k_check_two b_check_two v_check_two (passes_call (takes_of rfl rfl rfl rfl) (fun _ _ _ _ h => h)) (pa_cons (pv 2) (pa_cons (pv 3) pa_nil))))
      (pss_cons (ps_expr (pe_call G_check_tick1 (hr.mono (by decide)) (by rfl) m_check_tick1 k_check_tick1 b_check_tick1 v_check_tick1 (passes_call (takes_of rfl rfl rfl rfl) (fun _ _ _ _ h => h)) (pa_cons (pv 4) pa_nil)))
      (pss_cons (ps_expr (pe_call G_check_tick (hr.mono (by decide)) (by rfl) m_check_tick k_check_tick b_check_tick v_check_tick (passes_call (takes_of rfl rfl rfl rfl) (fun _ _ _ _ h => h)) (pa_cons (pv 5) (pa_cons (pv 4) pa_nil))))
      (pss_cons (ps_set (i := 6) sc_times_first.nd rfl (.inl rfl) (pe_call G_meetings (hr.mono (by decide)) (by rfl) m_meetings k_meetings b_meetings v_meetings pass0 (pa_cons (pv 2) (pa_cons (pv 3) pa_nil))))
      (pss_cons (ps_if (pt_cmpR op_isN (pv 6) pe_non (nomark _))
        (pss_one (ps_ret pe_int))
        pss_nil)
      (pss_cons (ps_asg (pv 6) (pg_tupK (K := K) (n := 2) rfl rfl (pgs_cons (pg_name (i := 7) sc_times_first.nd rfl (.inl rfl)) (pgs_cons (pg_name (i := 8) sc_times_first.nd rfl (.inl rfl)) pgs_nil))))
      (pss_cons (ps_aug (i := 7) sc_times_first.nd rfl (.inl rfl) (pe_op op_mulA (pe_op op_fdivW (pe_callB (call_max2 rfl) (by rfl) T.b_max (by decide +kernel) (pa_cons pe_int (pa_cons (pe_op op_sub (pe_op op_add (pe_op op_sub (pv 4) (pv 7)) (pv 8)) pe_int) pa_nil))) (pv 8)) (pv 8)) ip_add)
      (pss_cons (ps_if (pt_cmpR op_gt (pe_op op_fdivW (pe_callB (call_max2 rfl) (by rfl) T.b_max (by decide +kernel) (pa_cons pe_int (pa_cons (pe_op op_sub (pe_op op_add (pe_op op_sub (pv 5) (pv 7)) (pv 8)) pe_int) pa_nil))) (pv 8)) (pe_glob (v := .int 2000) rfl g_MOST_MEETINGS ⟨_, rfl⟩) (nomark _))
        (pss_one (ps_raise rfl (takes_of rfl rfl rfl rfl) (pmk_own PySem.F.excBase_ValueError X_TooMany.x X_TooMany.g X_TooMany.k (raises_own X_TooMany.b X_TooMany.t) rfl)))
        pss_nil)
      (pss_cons (ps_setLc (i := 9) (own := [("tick", 10)]) (g := gName 10)  rfl sc_times_first.nd rfl rfl (sw_true rfl rfl rfl (by decide +kernel)) (pi_wide3 (by rfl) T.b_range (pa_cons (pv 7) (pa_cons (pv 5) (pa_cons (pv 8) pa_nil)))) (blkOk_by (own := [("tick", 10)]) (N := N_times_first) (sc := defScope s_times_first) (by decide +kernel)) (fun _ _ _ _ _ => (pg_name (i := 10) sc_times_first.nd rfl (.inl rfl))) (fun _ _ _ _ _ => (pts_one (pt_cmpR op_gt (pv 10) (pe_callB (call_max2 rfl) (by rfl) T.b_max (by decide +kernel) (pa_cons (pe_ix (ix_tupK (K := K) rfl) (pv 2) pe_int (fun _ _ => rfl)) (pa_cons (pe_ix (ix_tupK (K := K) rfl) (pv 3) pe_int (fun _ _ => rfl)) pa_nil))) (nomark _)))) (fun _ _ _ _ _ => (pv 10)))
      (pss_one (ps_ret (pe_callB (lenK (K := K) rfl) (by rfl) T.b_len PySem.boot_len (pa_cons (pe_lc (own := [("tick", 10)]) (g := gName 10)  rfl sc_times_first.nd (pi_list (pv 9)) (blkOk_by (own := [("tick", 10)]) (N := N_times_first) (sc := defScope s_times_first) (by decide +kernel)) (fun _ _ _ _ _ => (pg_name (i := 10) sc_times_first.nd rfl (.inl rfl))) (fun _ _ _ _ _ => (pts_one (pt_val (pe_call G_is_ahead (hr.mono (by decide)) (by rfl) m_is_ahead k_is_ahead b_is_ahead v_is_ahead pass0 (pa_cons (pv 0) (pa_cons (pv 1) (pa_cons (pv 2) (pa_cons (pv 3) (pa_cons (pv 10) pa_nil))))))))) (fun _ _ _ _ _ => (pv 10))) pa_nil))))))))))))))), ?_⟩
    rcases h with ⟨rfl, hb⟩ | ⟨⟨b, rfl, b2, b64⟩, h⟩
    · exact ⟨x0, rfl, x0, rfl, .inr ⟨hb, c _ fun _ _ e => e⟩⟩
    refine ⟨_, rfl, _, rfl, .inl ⟨(b : Nat), rfl, by omega, by omega, ?_⟩⟩
    rcases h with ⟨rfl, hb⟩ | ⟨⟨q, ws, rfl, hL, hne, h60⟩, h⟩
    · exact ⟨x1, rfl, x1, rfl, .inr ⟨hb, fun H1 s1 => c H1 s1⟩⟩
    refine ⟨_, rfl, _, rfl, .inl ⟨q, ws, rfl, hL, hne, h60, fun H1 s1 => ?_⟩⟩
    rcases h with ⟨rfl, hb⟩ | ⟨a1, p1, a2, p2, hp1, hp2, hpp, rfl, h⟩
    · exact ⟨x2, rfl, x3, rfl, x2, x3, rfl, .inr ⟨hb.same s1, c H1 s1⟩⟩
    refine ⟨x2, rfl, x3, rfl, x2, x3, rfl, .inl ⟨a1, p1, a2, p2, hp1.same s1, hp2.same s1, hpp, ?_⟩⟩
    rcases h with hb | ⟨d, rfl, hb⟩
    · exact ⟨x4, rfl, x4, 0, rfl, .inr ⟨hb.same s1, c H1 s1⟩⟩
    refine ⟨_, rfl, _, 0, rfl, .inl ⟨(d : Nat), rfl, by omega, ?_⟩⟩
    exact ⟨x5, rfl, _, rfl, x5, (d : Nat), rfl, .inr ⟨hb.same s1, c H1 s1⟩⟩
end
/-! ### data equal to itself -/
theorem neq_refl {d : PyData} (h : d.canLay0 = true) : V.bl (!PyData.eqv d d) = V.bl false := by
  rw [SeqAt.eqv_refl d h]
  rfl
theorem eq_refl {d : PyData} (h : d.canLay0 = true) : V.bl (PyData.eqv d d) = V.bl true := by
  rw [SeqAt.eqv_refl d h]
/-! ### levels as data -/
def lvD (b : Bool) : PyData := if b then .str "stack" else .str "queue"
theorem lvs_dp {K : PySem.W.Frag} {H : Hp} : ∀ ws : List Bool, DpAll K H (ws.map lvV) (ws.map lvD)
  | [] => .nil
  | true :: r => .cons (.str _) (lvs_dp r)
  | false :: r => .cons (.str _) (lvs_dp r)
theorem lvs_lay : ∀ ws : List Bool, PyData.canLayAll0 (ws.map lvD) = true
  | [] => rfl
  | b :: r => by
    show ((lvD b).canLay0 && PyData.canLayAll0 (r.map lvD)) = true
    rw [lvs_lay r]
    cases b <;> decide +kernel
theorem lvs_depth : ∀ ws : List Bool, PyData.depthAll (ws.map lvD) = 0
  | [] => rfl
  | b :: r => by
    show max (lvD b).depth (PyData.depthAll (r.map lvD)) = 0
    rw [lvs_depth r]
    cases b <;> rfl
theorem lvs_shaped (ws : List Bool) : SeqAt.shaped (.list (ws.map lvD)) = true := by
  have h1 : (PyData.list (ws.map lvD)).canLay0 = true := by
    show PyData.canLayAll0 _ = true
    exact lvs_lay ws
  have h2 : (PyData.list (ws.map lvD)).depth ≤ 64 := by
    show PyData.depthAll _ + 1 ≤ 64
    rw [lvs_depth ws]
    decide
  unfold SeqAt.shaped
  rw [h1, decide_eq_true h2]
  rfl
/-! ### data stay -/
mutual
theorem dp_same {K : PySem.W.Frag} {H H' : Hp} (s : Same H H') : ∀ {v : V} {d : PyData}, Dp K H v d → Dp K H' v d
  | _, _, .int i => .int i
  | _, _, .str x => .str x
  | _, _, .bl b => .bl b
  | _, _, .non => .non
  | _, _, .lst h t => .lst (s.seq h) (dps_same s t)
  | _, _, .tup h t => .tup (h.elim (fun h => .inl (h.elim (fun h => .inl (s _ _ h)) fun ⟨o, h⟩ => .inr ⟨o, s _ _ h⟩)) .inr) (dps_same s t)
theorem dps_same {K : PySem.W.Frag} {H H' : Hp} (s : Same H H') : ∀ {vs : List V} {ds : List PyData}, DpAll K H vs ds → DpAll K H' vs ds
  | _, _, .nil => .nil
  | _, _, .cons h t => .cons (dp_same s h) (dps_same s t)
end
/-! ### small data of any kind, empty dicts too: what repr shows of them -/
mutual
theorem DpE.same {K : PySem.W.Frag} {H H' : Hp} (s : Same H H') : ∀ {v : V} {d : PyData}, DpE K H v d → DpE K H' v d
  | _, _, .flat h n => .flat (dp_same s h) n
  | _, _, .dict0 h => .dict0 (s _ _ h)
  | _, _, .lst h t => .lst (s.seq h) (DpEAll.same s t)
  | _, _, .tup h t => .tup (h.elim (fun h => .inl (h.elim (fun h => .inl (s _ _ h)) fun ⟨o, h⟩ => .inr ⟨o, s _ _ h⟩)) .inr) (DpEAll.same s t)
theorem DpEAll.same {K : PySem.W.Frag} {H H' : Hp} (s : Same H H') : ∀ {vs : List V} {ds : List PyData}, DpEAll K H vs ds → DpEAll K H' vs ds
  | _, _, .nil => .nil
  | _, _, .cons h t => .cons (DpE.same s h) (DpEAll.same s t)
end
/-- what is small -/
def tinyB (d : PyData) : Bool := decide (d.depth ≤ 4) && d.showable && d.leavesShort 40 && decide (d.weight ≤ 3000)
def Odd (K : PySem.W.Frag) (H : Hp) (v : V) : Prop := ∃ d, tinyB d = true ∧ DpE K H v d
theorem Odd.same {K : PySem.W.Frag} {H H' : Hp} {v : V} (s : Same H H') (h : Odd K H v) : Odd K H' v := by
  obtain ⟨d, t, h⟩ := h
  exact ⟨d, t, h.same s⟩
theorem odd_flat {K : PySem.W.Frag} {H : Hp} {v : V} (d : PyData) (t : tinyB d = true) (n : d.hasDict = false) (h : Dp K H v d) : Odd K H v := ⟨d, t, .flat h n⟩
theorem odd_non {K : PySem.W.Frag} {H : Hp} : Odd K H .non := odd_flat .none (by decide +kernel) rfl .non
theorem odd_bl {K : PySem.W.Frag} {H : Hp} (b : Bool) : Odd K H (.bl b) := odd_flat (.bool b) (by cases b <;> decide +kernel) rfl (.bl b)
theorem odd_dict {K : PySem.W.Frag} {H : Hp} {a : Addr} (h : H a = some (.dK [])) : Odd K H (.ref a) := ⟨.dict [], by decide +kernel, .dict0 h⟩
theorem shown_int40 {i : Int} (h : i.natAbs < 10 ^ 38) : (PyData.shown (.int i)).length ≤ 40 := by
  have := int_text_length_le10 (a := i) (k := 38) (by decide) h
  have e : (PyData.shown (.int i)).length = (toString i).length := by
    show (Str.ofString (toString i)).length = _
    exact PySem.ofString_length _
  omega
theorem tiny_int {i : Int} (h : i.natAbs < 10 ^ 38) : tinyB (.int i) = true := by
  have h1 : i.natAbs.log2 < 200 := by
    by_cases z : i.natAbs = 0
    · rw [z]
      decide
    · exact (Nat.log2_lt z).mpr (Nat.lt_trans h (by decide))
  have e1 : (PyData.int i).showable = true := by
    show decide (i.natAbs.log2 < 1920) = true
    exact decide_eq_true (by omega)
  have e2 : (PyData.int i).leavesShort 40 = true := by
    show decide ((PyData.shown (.int i)).length ≤ 40) = true
    exact decide_eq_true (shown_int40 h)
  have e3 : (PyData.int i).weight ≤ 3000 := by
    show (if i == 0 then 0 else i.natAbs.log2 + 1) ≤ 3000
    split <;> omega
  unfold tinyB
  rw [e1, e2, decide_eq_true e3]
  rfl
theorem odd_int {K : PySem.W.Frag} {H : Hp} {i : Int} (h : i.natAbs < 10 ^ 38) : Odd K H (.int i) := odd_flat _ (tiny_int h) rfl (.int i)
theorem tiny_pair {i j : Int} (h1 : i.natAbs < 10 ^ 38) (h2 : j.natAbs < 10 ^ 38) : tinyB (.tuple [.int i, .int j]) = true := by
  have a := tiny_int h1
  have b := tiny_int h2
  unfold tinyB at a b ⊢
  simp only [Bool.and_eq_true, decide_eq_true_eq] at a b
  obtain ⟨⟨⟨_, a1⟩, a2⟩, _⟩ := a
  obtain ⟨⟨⟨_, b1⟩, b2⟩, _⟩ := b
  have w : ∀ {k : Int}, k.natAbs < 10 ^ 38 → (PyData.int k).weight ≤ 200 := fun {k} h => by
    show (if k == 0 then 0 else k.natAbs.log2 + 1) ≤ 200
    split
    · omega
    · rename_i z
      have z2 : k.natAbs ≠ 0 := fun e => by
        rw [Int.natAbs_eq_zero.mp e] at z
        exact z rfl
      have := (Nat.log2_lt z2).mpr (Nat.lt_trans h (by decide : 10 ^ 38 < 2 ^ 150))
      omega
  have w1 := w h1
  have w2 := w h2
  have e1 : (PyData.tuple [.int i, .int j]).showable = true := by
    show ((PyData.int i).showable && ((PyData.int j).showable && true)) = true
    rw [a1, b1]
    rfl
  have e2 : (PyData.tuple [.int i, .int j]).leavesShort 40 = true := by
    show ((PyData.int i).leavesShort 40 && ((PyData.int j).leavesShort 40 && true)) = true
    rw [a2, b2]
    rfl
  have e3 : (PyData.tuple [.int i, .int j]).weight ≤ 3000 := by
    show (PyData.int i).weight + 1 + ((PyData.int j).weight + 1 + 0) ≤ 3000
    omega
  rw [e1, e2, decide_eq_true e3]
  rfl
theorem odd_pair {K : PySem.W.Frag} {H : Hp} {t : Addr} {i j : Int} (e : H t = some (.tup [.int i, .int j])) (h1 : i.natAbs < 10 ^ 38) (h2 : j.natAbs < 10 ^ 38) : Odd K H (.ref t) :=
  odd_flat _ (tiny_pair h1 h2) rfl (.tup (SqT.of e) (.cons (.int i) (.cons (.int j) .nil)))
theorem lvs_tiny : ∀ ws : List Bool, PyData.showableAll (ws.map lvD) = true ∧ PyData.leavesShortAll 40 (ws.map lvD) = true ∧ PyData.weightAll (ws.map lvD) ≤ 6 * ws.length ∧ PyData.hasDictAll (ws.map lvD) = false
  | [] => ⟨rfl, rfl, Nat.le_refl _, rfl⟩
  | b :: r => by
    obtain ⟨h1, h2, h3, h4⟩ := lvs_tiny r
    have z : (lvD b).showable = true ∧ (lvD b).leavesShort 40 = true ∧ (lvD b).weight = 5 ∧ (lvD b).hasDict = false := by cases b <;> exact ⟨rfl, by decide +kernel, by decide +kernel, rfl⟩
    obtain ⟨z1, z2, z3, z4⟩ := z
    refine ⟨?_, ?_, ?_, ?_⟩
    · show ((lvD b).showable && PyData.showableAll (r.map lvD)) = true
      rw [z1, h1]
      rfl
    · show ((lvD b).leavesShort 40 && PyData.leavesShortAll 40 (r.map lvD)) = true
      rw [z2, h2]
      rfl
    · show (lvD b).weight + 1 + PyData.weightAll (r.map lvD) ≤ 6 * (r.length + 1)
      omega
    · show ((lvD b).hasDict || PyData.hasDictAll (r.map lvD)) = false
      rw [z4, h4]
      rfl
theorem odd_levels {K : PySem.W.Frag} {H : Hp} {q : Addr} {ws : List Bool} (h : SqL K H q (ws.map lvV)) (l : ws.length ≤ 100) : Odd K H (.ref q) := by
  obtain ⟨h1, h2, h3, h4⟩ := lvs_tiny ws
  refine odd_flat (.list (ws.map lvD)) ?_ h4 (.lst h (lvs_dp ws))
  unfold tinyB
  have e0 : (PyData.list (ws.map lvD)).depth ≤ 4 := by
    show PyData.depthAll _ + 1 ≤ 4
    rw [lvs_depth ws]
    decide
  have e1 : (PyData.list (ws.map lvD)).showable = true := h1
  have e2 : (PyData.list (ws.map lvD)).leavesShort 40 = true := h2
  have e3 : (PyData.list (ws.map lvD)).weight ≤ 3000 := by
    show PyData.weightAll _ ≤ 3000
    omega
  rw [decide_eq_true e0, e1, e2, decide_eq_true e3]
  rfl
/-- a list of few small data -/
theorem odd_row {K : PySem.W.Frag} {H : Hp} : ∀ {xs : List V}, (∀ x ∈ xs, Odd K H x) → ∃ ds, DpEAll K H xs ds ∧ PyData.depthAll ds ≤ 4 ∧ PyData.showableAll ds = true ∧ PyData.leavesShortAll 40 ds = true ∧ PyData.weightAll ds ≤ 3001 * xs.length
  | [], _ => ⟨[], .nil, Nat.zero_le _, rfl, rfl, Nat.zero_le _⟩
  | x :: xs, h => by
    obtain ⟨ds, a1, a2, a3, a4, a5⟩ := odd_row (xs := xs) fun y hy => h y (List.mem_cons_of_mem _ hy)
    obtain ⟨d, t, hd⟩ := h x List.mem_cons_self
    unfold tinyB at t
    simp only [Bool.and_eq_true, decide_eq_true_eq] at t
    obtain ⟨⟨⟨t1, t2⟩, t3⟩, t4⟩ := t
    refine ⟨d :: ds, .cons hd a1, ?_, ?_, ?_, ?_⟩
    · show max d.depth (PyData.depthAll ds) ≤ 4
      omega
    · show (d.showable && PyData.showableAll ds) = true
      rw [t2, a3]
      rfl
    · show (d.leavesShort 40 && PyData.leavesShortAll 40 ds) = true
      rw [t3, a4]
      rfl
    · show d.weight + 1 + PyData.weightAll ds ≤ 3001 * (xs.length + 1)
      omega
/-- all that repr wants to know -/
theorem repr_row {K : PySem.W.Frag} {H : Hp} {a : Addr} {xs : List V} (hS : SqL K H a xs) (ne : xs ≠ []) (h : ∀ x ∈ xs, Odd K H x) (l : xs.length ≤ 20) :
    ∃ ds : List PyData, (PyData.list ds).shown.length ≤ sizeLine ∧ ∀ H', Same H H' → ∃ (a' : Addr) (ys : List V) (ds' : List PyData), V.ref a = .ref a' ∧ SqL K H' a' ys ∧ ys ≠ [] ∧ DpEAll K H' ys ds' ∧ (PyData.list ds').depth ≤ 50 ∧ (PyData.list ds').showable = true ∧ (PyData.list ds').shown.length ≤ sizeLine ∧ ds' = ds := by
  obtain ⟨ds, a1, a2, a3, a4, a5⟩ := odd_row h
  have e1 : (PyData.list ds).depth ≤ 50 := by
    show PyData.depthAll ds + 1 ≤ 50
    omega
  have e2 : (PyData.list ds).shown.length ≤ sizeLine := by
    have z := PyData.shown_le 40 (by decide) (.list ds) a4
    have w : (PyData.list ds).weight = PyData.weightAll ds := rfl
    rw [sizeLine_eq]
    omega
  exact ⟨ds, e2, fun H' s => ⟨a, xs, ds, rfl, s.seq hS, ne, a1.same s, e1, a3, e2, rfl⟩⟩
/-! ### the law's drawing of numbers -/
def SrcAt (H : Hp) (p : Addr) : Prop := ∃ a b c : Int, H p = some (.lst [.int a, .int b, .int c])
/-- all but the source p stands as it was; p is a source again -/
structure Stp (p : Addr) (H H' : Hp) : Prop where
  keep : ∀ q o, q ≠ p → H q = some o → H' q = some o
  src : SrcAt H' p
theorem Stp.refl {p : Addr} {H : Hp} (h : SrcAt H p) : Stp p H H := ⟨fun _ _ _ e => e, h⟩
theorem Stp.trans {p : Addr} {H H1 H2 : Hp} (a : Stp p H H1) (b : Stp p H1 H2) : Stp p H H2 := ⟨fun q o n e => b.keep q o n (a.keep q o n e), b.src⟩
theorem Stp.same {p : Addr} {H H1 H2 : Hp} (a : Stp p H H1) (b : Same H1 H2) : Stp p H H2 := by
  obtain ⟨x, y, z, e⟩ := a.src
  exact ⟨fun q o n e => b q o (a.keep q o n e), ⟨x, y, z, b _ _ e⟩⟩
theorem SrcAt.same {p : Addr} {H H' : Hp} (h : SrcAt H p) (s : Same H H') : SrcAt H' p := by
  obtain ⟨a, b, c, e⟩ := h
  exact ⟨a, b, c, s _ _ e⟩
theorem Stp.free {p q : Addr} {H H' : Hp} (a : Stp p H H') (hq : H' q = none) : H q = none := by
  cases e : H q with
  | none => rfl
  | some o =>
    by_cases z : q = p
    · obtain ⟨x, y, u, w⟩ := a.src
      rw [z, w] at hq
      cases hq
    · rw [a.keep q o z e] at hq
      cases hq
theorem SrcAt.ne {H : Hp} {p l : Addr} (h : SrcAt H p) (hl : H l = none) : l ≠ p := fun e => by
  obtain ⟨x, y, z, w⟩ := h
  rw [e, w] at hl
  cases hl
theorem SrcAt.stp_same {p : Addr} {H H' : Hp} (h : SrcAt H p) (s : Same H H') : Stp p H H' := (Stp.refl h).same s
theorem Stp.seqL {K : PySem.W.Frag} {p a : Addr} {xs : List V} {H H' : Hp} (s : Stp p H H') (n : a ≠ p) (h : SqL K H a xs) : SqL K H' a xs := by
  rcases h with (h | ⟨o, h⟩) | h
  · exact .inl (.inl (s.keep _ _ n h))
  · exact .inl (.inr ⟨o, s.keep _ _ n h⟩)
  · exact .inr h
section
variable {P : Program} {w : World} {K : PySem.W.Frag} {mg : Str → Option Value} {base : Heap}
def spCellAt (K : PySem.W.Frag) : Sp := fun vs H Q _ => ∃ (a : Addr) (ns : List Int) (k : Nat), vs = [.ref a, .int (k : Nat)] ∧ SqL K H a (ns.map V.int) ∧ ∀ v : Int, Q (.int v) H
theorem ok_cell_at {f : Addr} {fd : FuncData} (F : Fun K "_law_cell_at" "_law_cell_at" s__law_cell_at f fd) (T : Tx K mg) : FnOk P w K mg base CX0 1 f fd ["_law_script", "_law_k"] (spCellAt K) := by
  refine F.ok sc__law_cell_at (fun vs H Q E h => ?_) (fun cdv A outer s H vs Q E hr h => ?_)
  · obtain ⟨a, ns, k, rfl, _⟩ := h
    rfl
  · obtain ⟨a, ns, k, rfl, hS, q⟩ := h
    refine ⟨_, (pss_cons (ps_if (pt_cmpR op_lt (pv 1) (pe_callB (lenK (K := K) rfl) (by rfl) T.b_len PySem.boot_len (pa_cons (pv 0) pa_nil)) (nomark _))
        (pss_one (ps_ret (pe_ix (ix_listK (K := K) rfl) (pv 0) (pv 1) (fun _ _ => rfl))))
        pss_nil)
      (pss_one (ps_ret pe_int))), ?_⟩
    refine ⟨_, rfl, .ref a, rfl, a, ns.map V.int, rfl, .inl hS, _, _, rfl, rfl, _, rfl, ite2 (fun e => ?_) (fun e => ?_)⟩
    · have hk : k < ns.length := by
        have z := of_decide_eq_true e
        rw [List.length_map] at z
        omega
      have g : (ns.map V.int)[k]? = some (.int ns[k]) := by
        rw [List.getElem?_map, List.getElem?_eq_getElem hk]
        rfl
      exact ⟨.ref a, rfl, _, rfl, a, _, _, _, rfl, rfl, hS, atI_nat g, q _⟩
    · exact q 0
def spMixed : Sp := fun vs H Q _ => ∃ c k : Int, vs = [.int c, .int k] ∧ ∀ r : Int, 0 ≤ r → r < 2147483563 → Q (.int r) H
theorem ok_mixed {f : Addr} {fd : FuncData} (F : Fun K "_law_mixed" "_law_mixed" s__law_mixed f fd)  : FnOk P w K mg base CX0 1 f fd ["_law_cell", "_law_k"] spMixed := by
  refine F.ok sc__law_mixed (fun vs H Q E h => ?_) (fun cdv A outer s H vs Q E hr h => ?_)
  · obtain ⟨c, k, rfl, _⟩ := h
    rfl
  · obtain ⟨c, k, rfl, q⟩ := h
    refine ⟨_, (pss_cons (ps_set (i := 2) sc__law_mixed.nd rfl (.inl rfl) (pe_op op_add (pe_op op_mod (pv 0) pe_int) (pe_op op_mulA (pe_op op_fdivW (pv 0) pe_int) pe_int)))
      (pss_cons (ps_set (i := 2) sc__law_mixed.nd rfl (.inl rfl) (pe_op op_mod (pe_op op_mulA (pe_op op_add (pe_op op_add (pv 2) (pe_op op_mulA pe_int (pv 1))) pe_int) pe_int) pe_int))
      (pss_cons (ps_set (i := 2) sc__law_mixed.nd rfl (.inl rfl) (pe_op op_mod (pe_op op_mulA (pv 2) (pe_op op_add (pe_op op_add (pe_op op_fdivW (pv 2) pe_int) pe_int) (pv 1))) pe_int))
      (pss_one (ps_ret (pe_op op_mod (pe_op op_mulA (pv 2) (pe_op op_add (pe_op op_fdivW (pv 2) pe_int) pe_int)) pe_int)))))), ?_⟩
    refine ⟨_, rfl, c, 2147483629, rfl, rfl, (by decide : (0 : Int) < 2147483629), _, rfl, c, 2147483629, rfl, rfl, div_s (by decide) (by decide), _, 30011, rfl, rfl, mul_r (by decide) (by decide), _, _, rfl, rfl, ?_⟩
    refine ⟨_, rfl, _, rfl, 69621, k, rfl, rfl, mul_l (by decide) (by decide), _, _, rfl, rfl, _, 1, rfl, rfl, _, 48271, rfl, rfl, mul_r (by decide) (by decide), _, 2147483629, rfl, rfl, (by decide : (0 : Int) < 2147483629), ?_⟩
    generalize hl : (c % 2147483629 + c / 2147483629 * 30011 + 69621 * k + 1) * 48271 = l0
    have b1 : 0 ≤ l0 % 2147483629 := Int.emod_nonneg _ (by decide)
    have b2 : l0 % 2147483629 < 2147483629 := Int.emod_lt_of_pos _ (by decide)
    refine ⟨_, rfl, _, rfl, l0 % 2147483629, 907, rfl, rfl, div_s (by decide) (by decide), _, 16831, rfl, rfl, _, rfl, _, k, rfl, rfl, l0 % 2147483629, _, rfl, rfl, mul_l (by omega) (by omega), _, 2147483587, rfl, rfl, (by decide : (0 : Int) < 2147483587), ?_⟩
    generalize (l0 % 2147483629) * (l0 % 2147483629 / 907 + 16831 + k) = l1
    have b3 : 0 ≤ l1 % 2147483587 := Int.emod_nonneg _ (by decide)
    have b4 : l1 % 2147483587 < 2147483587 := Int.emod_lt_of_pos _ (by decide)
    refine ⟨_, rfl, _, rfl, _, 1201, rfl, rfl, div_s (by decide) (by decide), _, 30011, rfl, rfl, _, _, rfl, rfl, mul_l (i := l1 % 2147483587) (by omega) (by omega), _, 2147483563, rfl, rfl, (by decide : (0 : Int) < 2147483563), ?_⟩
    exact q _ (Int.emod_nonneg _ (by decide)) (Int.emod_lt_of_pos _ (by decide))
def spSource (K : PySem.W.Frag) : Sp := fun vs H Q _ => ∃ (a : Addr) (ns : List Int) (k : Nat), vs = [.ref a, .int (k : Nat)] ∧ SqL K H a (ns.map V.int) ∧ ∀ H' p, Same H H' → H p = none → SrcAt H' p → Q (.ref p) H'
theorem ok_source {f : Addr} {fd : FuncData} (F : Fun K "_law_source" "_law_source" s__law_source f fd) (T : Tx K mg) (h1 : Has P w K mg base 1 "_law_cell_at" ["_law_script", "_law_k"] [] (spCellAt K))
    (h2 : Has P w K mg base 1 "_law_mixed" ["_law_cell", "_law_k"] [] spMixed) : FnOk P w K mg base CX0 2 f fd ["_law_script", "_law_k"] (spSource K) := by
  obtain ⟨f__law_cell_at, fd__law_cell_at, ds__law_cell_at, G__law_cell_at, m__law_cell_at, k__law_cell_at, b__law_cell_at, v__law_cell_at⟩ := h1
  obtain ⟨f__law_mixed, fd__law_mixed, ds__law_mixed, G__law_mixed, m__law_mixed, k__law_mixed, b__law_mixed, v__law_mixed⟩ := h2
  refine F.ok sc__law_source (fun vs H Q E h => ?_) (fun cdv A outer s H vs Q E hr h => ?_)
  · obtain ⟨a, ns, k, rfl, _⟩ := h
    rfl
  · obtain ⟨a, ns, k, rfl, hS, q⟩ := h
    refine ⟨_, (pss_cons (ps_if (pt_cmpR op_lt (pv 1) (pe_callB (lenK (K := K) rfl) (by rfl) T.b_len PySem.boot_len (pa_cons (pv 0) pa_nil)) (nomark _))
        (pss_one (ps_ret (pe_lst (pa_cons (pe_ix (ix_listK (K := K) rfl) (pv 0) (pv 1) (fun _ _ => rfl)) (pa_cons (pe_ix (ix_listK (K := K) rfl) (pv 0) (pv 1) (fun _ _ => rfl)) (pa_cons pe_int pa_nil))))))
        pss_nil)
      (pss_cons (ps_set (i := 2) sc__law_source.nd rfl (.inl rfl) (pe_call G__law_mixed hr (by rfl) m__law_mixed k__law_mixed b__law_mixed v__law_mixed pass0 (pa_cons (pe_call G__law_cell_at hr (by rfl) m__law_cell_at k__law_cell_at b__law_cell_at v__law_cell_at pass0 (pa_cons (pv 0) (pa_cons pe_int pa_nil))) (pa_cons (pe_op op_add pe_int (pv 1)) pa_nil))))
      (pss_one (ps_ret (pe_lst (pa_cons (pv 2) (pa_cons (pv 2) (pa_cons pe_int pa_nil)))))))), ?_⟩
    refine ⟨_, rfl, .ref a, rfl, a, ns.map V.int, rfl, .inl hS, _, _, rfl, rfl, _, rfl, ite2 (fun e => ?_) (fun e => ?_)⟩
    · have hk : k < ns.length := by
        have z := of_decide_eq_true e
        rw [List.length_map] at z
        omega
      have g : (ns.map V.int)[k]? = some (.int ns[k]) := by
        rw [List.getElem?_map, List.getElem?_eq_getElem hk]
        rfl
      refine ⟨.ref a, rfl, _, rfl, a, _, _, _, rfl, rfl, hS, atI_nat g, .ref a, rfl, _, rfl, a, _, _, _, rfl, rfl, hS, atI_nat g, by simp [sizeLine_eq], fun p hp => ?_⟩
      exact q _ p (same_upd hp) hp ⟨_, _, _, upd_same⟩
    · refine ⟨.ref a, rfl, a, ns, 0, rfl, hS, fun v => ⟨_, rfl, 1000, _, rfl, rfl, v, _, rfl, fun r _ _ => ?_⟩⟩
      refine ⟨_, rfl, _, rfl, by simp [sizeLine_eq], fun p hp => ?_⟩
      exact q _ p (same_upd hp) hp ⟨_, _, _, upd_same⟩
def spNext : Sp := fun vs H Q _ => ∃ (p : Addr) (m : Int), vs = [.ref p, .int m] ∧ 0 < m ∧ m < 2 ^ 300 ∧ SrcAt H p ∧ ∀ (r : Nat) H', (r : Int) < m → Stp p H H' → Q (.int (r : Nat)) H'
theorem ok_next {f : Addr} {fd : FuncData} (F : Fun K "_law_next" "_law_next" s__law_next f fd)  (h2 : Has P w K mg base 1 "_law_mixed" ["_law_cell", "_law_k"] [] spMixed) : FnOk P w K mg base CX0 2 f fd ["_law_source_here", "_law_many"] spNext := by
  obtain ⟨f__law_mixed, fd__law_mixed, ds__law_mixed, G__law_mixed, m__law_mixed, k__law_mixed, b__law_mixed, v__law_mixed⟩ := h2
  refine F.ok sc__law_next (fun vs H Q E h => ?_) (fun cdv A outer s H vs Q E hr h => ?_)
  · obtain ⟨p, m, rfl, _⟩ := h
    rfl
  · obtain ⟨p, m, rfl, hm, hm2, ⟨a, b, c, hp⟩, q⟩ := h
    have fin : ∀ (x : Int) (H' : Hp), Stp p H H' → Q (.int (x % m)) H' := fun x H' s => by
      have h0 : 0 ≤ x % m := Int.emod_nonneg _ (by omega)
      have h1 : x % m < m := Int.emod_lt_of_pos _ hm
      have e : ((x % m).toNat : Int) = x % m := Int.toNat_of_nonneg h0
      have z := q (x % m).toNat H' (by omega) s
      rw [e] at z
      exact z
    have st : ∀ x y z : Int, Stp p H (upd H p (.lst [.int x, .int y, .int z])) := fun x y z => ⟨fun q o n e => by rw [upd_ne n]; exact e, ⟨x, y, z, upd_same⟩⟩
    refine ⟨_, (pss_cons (ps_if (pt_cmpR op_ge (pe_ix (ix_listK (K := K) rfl) (pv 0) pe_int (fun _ _ => rfl)) (pe_op op_pow pe_int pe_int) (nomark _))
        (pss_cons (ps_set (i := 2) sc__law_next.nd rfl (.inl rfl) (pe_op op_mod (pe_ix (ix_listK (K := K) rfl) (pv 0) pe_int (fun _ _ => rfl)) (pv 1)))
        (pss_cons (ps_asg (pe_op op_fdivW (pe_ix (ix_listK (K := K) rfl) (pv 0) pe_int (fun _ _ => rfl)) (pv 1)) (pg_sub (pv 0) pe_int set_list))
        (pss_one (ps_ret (pv 2)))))
        pss_nil)
      (pss_cons (ps_asg (pe_op op_add (pe_ix (ix_listK (K := K) rfl) (pv 0) pe_int (fun _ _ => rfl)) pe_int) (pg_sub (pv 0) pe_int set_list))
      (pss_one (ps_ret (pe_op op_mod (pe_call G__law_mixed hr (by rfl) m__law_mixed k__law_mixed b__law_mixed v__law_mixed pass0 (pa_cons (pe_ix (ix_listK (K := K) rfl) (pv 0) pe_int (fun _ _ => rfl)) (pa_cons (pe_ix (ix_listK (K := K) rfl) (pv 0) pe_int (fun _ _ => rfl)) pa_nil))) (pv 1)))))), ?_⟩
    refine ⟨.ref p, rfl, p, _, 0, .int a, rfl, rfl, SqL.of hp, atI_nat (j := 0) rfl, 10, 18, rfl, rfl, ⟨by decide, by decide, by decide⟩, a, _, rfl, rfl, _, rfl, ite2 (fun _ => ?_) (fun _ => ?_)⟩
    · refine ⟨.ref p, rfl, p, _, 0, .int a, rfl, rfl, SqL.of hp, atI_nat (j := 0) rfl, .int m, rfl, a, m, rfl, rfl, hm, ?_⟩
      refine ⟨.ref p, rfl, p, _, 0, .int a, rfl, rfl, SqL.of hp, atI_nat (j := 0) rfl, .int m, rfl, a, m, rfl, rfl, div_s hm hm2, ?_⟩
      refine ⟨.ref p, rfl, p, _, 0, 0, rfl, rfl, hp, rfl, ?_⟩
      exact ⟨_, rfl, fin a _ (st _ _ _)⟩
    · refine ⟨.ref p, rfl, p, _, 2, .int c, rfl, rfl, SqL.of hp, atI_nat (j := 2) rfl, c, 1, rfl, rfl, ?_⟩
      refine ⟨.ref p, rfl, p, _, 2, 2, rfl, rfl, hp, rfl, ?_⟩
      have h2 : (upd H p (.lst [.int a, .int b, .int (c + 1)])) p = some (.lst [.int a, .int b, .int (c + 1)]) := upd_same
      refine ⟨.ref p, rfl, p, _, 1, .int b, rfl, rfl, SqL.of h2, atI_nat (j := 1) rfl, .ref p, rfl, p, _, 2, .int (c + 1), rfl, rfl, SqL.of h2, atI_nat (j := 2) rfl, b, c + 1, rfl, fun r _ _ => ?_⟩
      exact ⟨.int m, rfl, r, m, rfl, rfl, hm, fin r _ (st _ _ _)⟩
end
/-! ### the law's bases -/
section
variable {P : Program} {w : World} {K : PySem.W.Frag} {mg : Str → Option Value} {base : Heap}
def spBase : Sp := fun vs H Q _ => ∃ (p : Addr), vs = [.ref p] ∧ SrcAt H p ∧ ∀ (b : Nat) H', 2 ≤ b → b ≤ 64 → Stp p H H' → Q (.int (b : Nat)) H'
theorem ok_base {f : Addr} {fd : FuncData} (F : Fun K "_law_base" "_law_base" s__law_base f fd) (h1 : Has P w K mg base 2 "_law_next" ["_law_source_here", "_law_many"] [] spNext) : FnOk P w K mg base CX0 3 f fd ["_law_source_here"] spBase := by
  obtain ⟨f__law_next, fd__law_next, ds__law_next, G__law_next, m__law_next, k__law_next, b__law_next, v__law_next⟩ := h1
  refine F.ok sc__law_base (fun vs H Q E h => ?_) (fun cdv A outer s H vs Q E hr h => ?_)
  · obtain ⟨p, rfl, _⟩ := h
    rfl
  · obtain ⟨p, rfl, hs, q⟩ := h
    refine ⟨_, (pss_one (ps_ret (pe_ix (ix_listK (K := K) rfl) (pe_lst (pa_cons pe_int (pa_cons pe_int (pa_cons pe_int (pa_cons pe_int (pa_cons pe_int (pa_cons pe_int (pa_cons pe_int (pa_cons pe_int (pa_cons pe_int pa_nil)))))))))) (pe_call G__law_next hr (by rfl) m__law_next k__law_next b__law_next v__law_next pass0 (pa_cons (pv 0) (pa_cons pe_int pa_nil))) (fun _ _ => rfl)))), ?_⟩
    refine ⟨by simp [sizeLine_eq], fun l hl => ?_⟩
    have s1 := same_upd (o := .lst [.int 2, .int 3, .int 4, .int 5, .int 7, .int 10, .int 16, .int 63, .int 64]) hl
    have nlp : l ≠ p := fun e => by
      obtain ⟨x, y, z, h⟩ := hs
      rw [e, h] at hl
      cases hl
    refine ⟨_, rfl, p, 9, rfl, by decide, by decide, hs.same s1, fun r H' hr9 st => ?_⟩
    have eL := st.keep _ _ nlp upd_same
    have hst : Stp p H H' := (hs.stp_same s1).trans st
    have hr : r < 9 := by omega
    have all : ∀ j : Nat, j < 9 → ∃ b : Nat, ([.int 2, .int 3, .int 4, .int 5, .int 7, .int 10, .int 16, .int 63, .int 64] : List V)[j]? = some (.int (b : Nat)) ∧ 2 ≤ b ∧ b ≤ 64 := by
      intro j hj
      match j, hj with
      | 0, _ => exact ⟨2, rfl, by decide, by decide⟩
      | 1, _ => exact ⟨3, rfl, by decide, by decide⟩
      | 2, _ => exact ⟨4, rfl, by decide, by decide⟩
      | 3, _ => exact ⟨5, rfl, by decide, by decide⟩
      | 4, _ => exact ⟨7, rfl, by decide, by decide⟩
      | 5, _ => exact ⟨10, rfl, by decide, by decide⟩
      | 6, _ => exact ⟨16, rfl, by decide, by decide⟩
      | 7, _ => exact ⟨63, rfl, by decide, by decide⟩
      | 8, _ => exact ⟨64, rfl, by decide, by decide⟩
      | j + 9, h => omega
    obtain ⟨b, eb, b2, b64⟩ := all r hr
    exact ⟨l, _, r, .int (b : Nat), rfl, rfl, SqL.of eL, atI_nat eb, q b H' b2 b64 hst⟩
end
section
variable {P : Program} {w : World} {K : PySem.W.Frag} {mg : Str → Option Value} {base : Heap}
theorem flat_rep {α : Type} (x : α) : ∀ n : Nat, (List.replicate n [x]).flatten = List.replicate n x
  | 0 => rfl
  | n + 1 => by
    rw [List.replicate_succ, List.flatten_cons, flat_rep x n, List.replicate_succ]
    rfl
theorem pick_lv {r : Nat} (h : r < 2) : ([.str "stack", .str "queue"] : List V)[r]? = some (lvV (decide (r = 0))) := by
  match r, h with
  | 0, _ => rfl
  | 1, _ => rfl
  | r + 2, h => omega
theorem pick_vl {r : Nat} (h : r < 2) : ([.str "queue", .str "stack"] : List V)[r]? = some (lvV (decide (r = 1))) := by
  match r, h with
  | 0, _ => rfl
  | 1, _ => rfl
  | r + 2, h => omega
def spLevels : Sp := fun vs H Q _ => ∃ (p : Addr), vs = [.ref p] ∧ SrcAt H p ∧ ∀ H' q (ws : List Bool), Stp p H H' → H q = none → H' q = some (.lst (ws.map lvV)) → ws ≠ [] → ws.length ≤ 60 → Q (.ref q) H'
theorem ok_levels {f : Addr} {fd : FuncData} (F : Fun K "_law_levels" "_law_levels" s__law_levels f fd) (T : Tx K mg) (h1 : Has P w K mg base 2 "_law_next" ["_law_source_here", "_law_many"] [] spNext) : FnOk P w K mg base CX0 3 f fd ["_law_source_here"] spLevels := by
  obtain ⟨f__law_next, fd__law_next, ds__law_next, G__law_next, m__law_next, k__law_next, b__law_next, v__law_next⟩ := h1
  refine F.ok sc__law_levels (fun vs H Q E h => ?_) (fun cdv A outer s H vs Q E hr h => ?_)
  · obtain ⟨p, rfl, _⟩ := h
    rfl
  · obtain ⟨p, rfl, hs, c⟩ := h
    refine ⟨_, (pss_cons (ps_set (i := 1) sc__law_levels.nd rfl (.inl rfl) (pe_ix (ix_listK (K := K) rfl) (pe_lst (pa_cons (pe_op op_add pe_int (pe_call G__law_next hr (by rfl) m__law_next k__law_next b__law_next v__law_next pass0 (pa_cons (pv 0) (pa_cons pe_int pa_nil)))) (pa_cons (pe_op op_add pe_int (pe_call G__law_next hr (by rfl) m__law_next k__law_next b__law_next v__law_next pass0 (pa_cons (pv 0) (pa_cons pe_int pa_nil)))) pa_nil))) (pe_callTy call_int1 (by rfl) T.b_int (by decide +kernel) (pa_cons (pe_cmpR op_eq (pe_call G__law_next hr (by rfl) m__law_next k__law_next b__law_next v__law_next pass0 (pa_cons (pv 0) (pa_cons pe_int pa_nil))) pe_int (nomark _)) pa_nil)) (fun _ _ => rfl)))
      (pss_cons (ps_set (i := 2) sc__law_levels.nd rfl (.inl rfl) (pe_call G__law_next hr (by rfl) m__law_next k__law_next b__law_next v__law_next pass0 (pa_cons (pv 0) (pa_cons pe_int pa_nil))))
      (pss_cons (ps_if (pt_cmpR op_lt (pv 2) pe_int (nomark _))
        (pss_one (ps_ret (pe_op op_rep (pe_lst (pa_cons (pe_ix (ix_listK (K := K) rfl) (pe_lst (pa_cons pe_str (pa_cons pe_str pa_nil))) (pv 2) (fun _ _ => rfl)) pa_nil)) (pv 1))))
        pss_nil)
      (pss_cons (ps_setLc (i := 3) (own := [("_law_at", 4)]) (g := gName 4) (tt := tYes) rfl sc__law_levels.nd rfl rfl (sw_true rfl rfl rfl (by decide +kernel)) (pi_range1 (by rfl) T.b_range (pa_cons (pv 1) pa_nil)) (blkOk_by (own := [("_law_at", 4)]) (N := N__law_levels) (sc := defScope s__law_levels) (by decide +kernel)) (fun _ _ _ _ _ => (pg_name (i := 4) sc__law_levels.nd rfl (.inl rfl))) (fun _ _ _ _ _ => pts_nil) (fun _ _ _ _ _ => (pe_ix (ix_listK (K := K) rfl) (pe_lst (pa_cons pe_str (pa_cons pe_str pa_nil))) (pe_call G__law_next hr (by rfl) m__law_next k__law_next b__law_next v__law_next pass0 (pa_cons (pv 0) (pa_cons pe_int pa_nil))) (fun _ _ => rfl))))
      (pss_cons (ps_if (pt_cmpR op_eq (pv 2) pe_int (nomark _))
        (pss_one (ps_setLc (i := 3) (own := [("_law_at", 4)]) (g := gName 4) (tt := tYes) rfl sc__law_levels.nd rfl rfl (sw_true rfl rfl rfl (by decide +kernel)) (pi_range1 (by rfl) T.b_range (pa_cons (pv 1) pa_nil)) (blkOk_by (own := [("_law_at", 4)]) (N := N__law_levels) (sc := defScope s__law_levels) (by decide +kernel)) (fun _ _ _ _ _ => (pg_name (i := 4) sc__law_levels.nd rfl (.inl rfl))) (fun _ _ _ _ _ => pts_nil) (fun _ _ _ _ _ => (pe_ix (ix_listK (K := K) rfl) (pe_lst (pa_cons pe_str (pa_cons pe_str pa_nil))) (pe_op op_mod (pv 4) pe_int) (fun _ _ => rfl)))))
        pss_nil)
      (pss_one (ps_ret (pv 3)))))))), ?_⟩
    -- many
    refine ⟨_, rfl, p, 6, rfl, by decide, by decide, hs, fun r1 H1 hr1 s1 => ⟨1, r1, rfl, rfl, _, rfl, p, 60, rfl, by decide, by decide, s1.src, fun r2 H2 hr2 s2 => ⟨1, r2, rfl, rfl, by simp [sizeLine_eq], fun l hl => ?_⟩⟩⟩
    have s3 : Stp p H2 (upd H2 l (.lst [.int (1 + (r1 : Int)), .int (1 + (r2 : Int))])) := s2.src.stp_same (same_upd hl)
    refine ⟨_, rfl, p, 5, rfl, by decide, by decide, s3.src, fun r3 H4 hr3 s4 => ⟨rfl, .inr ⟨_, rfl, ?_⟩⟩⟩
    have eL := s4.keep _ _ (s2.src.ne hl) upd_same
    obtain ⟨m, em, hm0, hm⟩ : ∃ m : Nat, ([.int (1 + (r1 : Int)), .int (1 + (r2 : Int))] : List V)[if decide (V.int (r3 : Nat) = V.int 4) = true then 1 else 0]? = some (.int (m : Nat)) ∧ 1 ≤ m ∧ m ≤ 60 := by
      split
      · exact ⟨1 + r2, rfl, by omega, by omega⟩
      · exact ⟨1 + r1, rfl, by omega, by omega⟩
    refine ⟨l, _, ((if decide (V.int (r3 : Nat) = V.int 4) = true then 1 else 0 : Nat) : Int), _, rfl, ?_, SqL.of eL, atI_nat em, ?_⟩
    · split <;> rfl
    have s04 := ((s1.trans s2).trans s3).trans s4
    -- sort
    refine ⟨_, rfl, p, 5, rfl, by decide, by decide, s4.src, fun r5 H5 hr5 s5 => ?_⟩
    have s05 := s04.trans s5
    refine ⟨_, rfl, _, 2, rfl, rfl, _, rfl, ite2 (fun e => ?_) (fun e0 => ?_)⟩
    · have hr2' : r5 < 2 := by
        have z := of_decide_eq_true e
        omega
      refine ⟨by simp [sizeLine_eq], fun l6 hl6 => ?_⟩
      refine ⟨_, rfl, l6, _, r5, _, rfl, rfl, SqL.of upd_same, atI_nat (pick_lv hr2'), by simp [sizeLine_eq], fun l7 hl7 => ?_⟩
      refine ⟨_, rfl, l7, (m : Nat), _, rfl, rfl, upd_same, by omega, by omega, ?_, fun q hq => ?_⟩
      · exact sizeLine_le (by show 1 * m ≤ 1000000; omega)
      · have s8 := ((s05.same (same_upd hl6)).same (same_upd hl7)).same (same_upd (o := .lst (List.replicate ((m : Nat) : Int).toNat [lvV (decide (r5 = 0))]).flatten) hq)
        refine c _ q (List.replicate m (decide (r5 = 0))) s8 ?_ ?_ ?_ ?_
        · exact ((s05.same (same_upd hl6)).same (same_upd hl7)).free hq
        · rw [upd_same, flat_rep, List.map_replicate]
          rfl
        · intro e
          have z := congrArg List.length e
          rw [List.length_replicate] at z
          exact absurd z (by show ¬ m = 0; omega)
        · rw [List.length_replicate]
          exact hm
    · -- drawn words
      refine ⟨_, rfl, m, rfl, by omega, by omega, fun D hD => lc_range (lo := 0) (n := ((m : Nat) : Int).toNat) (fun i H' => Stp p H5 H' ∧ ∃ ws : List Bool, ws.length = i ∧ H' D = some (.lst (ws.map lvV)))
        ⟨s5.src.stp_same (same_upd hD), [], rfl, upd_same⟩ ?_ ?_⟩
      · rintro i H' hi ⟨st, ws, hw, eD⟩
        have nDp : D ≠ p := s5.src.ne hD
        refine ⟨rfl, yesT (iteT ?_)⟩
        refine ⟨by simp [sizeLine_eq], fun l8 hl8 => ?_⟩
        have s8 : Stp p H' (upd H' l8 (.lst [.str "queue", .str "stack"])) := st.src.stp_same (same_upd hl8)
        refine ⟨_, rfl, p, 2, rfl, by decide, by decide, s8.src, fun r9 H9 hr9 s9 => ?_⟩
        have eL8 := s9.keep _ _ (st.src.ne hl8) upd_same
        have eD9 := s9.keep _ _ nDp (s8.keep _ _ nDp eD)
        refine ⟨l8, _, r9, _, rfl, rfl, SqL.of eL8, atI_nat (pick_vl (by omega)), _, eD9, ?_, ⟨fun b o n e => ?_, ?_⟩, ws ++ [decide (r9 = 1)], ?_, ?_⟩
        · rw [List.length_map, hw]
          exact sizeLine_ge (by omega)
        · rw [upd_ne (ne_of_none e hD)]
          exact s9.keep _ _ n (s8.keep _ _ n (st.keep _ _ n e))
        · obtain ⟨x, y, z, h⟩ := s9.src
          exact ⟨x, y, z, by rw [upd_ne nDp.symm]; exact h⟩
        · rw [List.length_append, hw]
          rfl
        · rw [upd_same, List.map_append]
          rfl
      rintro H6 ⟨s6, ws, hw, eD⟩
      have hw' : ws.length = m := by rw [hw]; exact Int.toNat_natCast m
      have s06 := s05.trans s6
      have last : ∀ H7 q (vs : List Bool), Stp p H H7 → H q = none → H7 q = some (.lst (vs.map lvV)) → vs.length = m → Q (.ref q) H7 := fun H7 q vs st hq eq hv =>
        c H7 q vs st hq eq (fun e => by
          rw [e] at hv
          exact absurd hv (by show ¬ 0 = m; omega)) (by omega)
      have hD0 : H D = none := s05.free hD
      refine ⟨_, rfl, rfl, _, rfl, ite2 (fun e => ?_) (fun e => ?_)⟩
      · refine ⟨_, rfl, m, rfl, by omega, by omega, fun D2 hD2 => lc_range (lo := 0) (n := ((m : Nat) : Int).toNat) (fun i H' => Same H6 H' ∧ ∃ ws : List Bool, ws.length = i ∧ H' D2 = some (.lst (ws.map lvV)))
          ⟨same_upd hD2, [], rfl, upd_same⟩ ?_ ?_⟩
        · rintro i H' hi ⟨st, ws2, hw2, eD2⟩
          refine ⟨rfl, yesT (iteT ?_)⟩
          refine ⟨by simp [sizeLine_eq], fun l8 hl8 => ?_⟩
          have s8 := same_upd (o := .lst [.str "queue", .str "stack"]) hl8
          have ei : (0 + (i : Int)) % 2 = ((i % 2 : Nat) : Int) := by omega
          refine ⟨_, rfl, _, 2, rfl, rfl, (by decide : (0 : Int) < 2), l8, _, ((i % 2 : Nat) : Int), _, rfl, congrArg V.int ei, SqL.of upd_same, atI_nat (pick_vl (Nat.mod_lt i (by decide))), _, s8 _ _ eD2, ?_, fun b o e => ?_, ws2 ++ [decide (i % 2 = 1)], ?_, ?_⟩
          · rw [List.length_map, hw2]
            exact sizeLine_ge (by omega)
          · rw [upd_ne (ne_of_none e hD2)]
            exact s8 _ _ (st _ _ e)
          · rw [List.length_append, hw2]
            rfl
          · rw [upd_same, List.map_append]
            rfl
        rintro H7 ⟨s7, ws2, hw2, eD2⟩
        refine ⟨_, rfl, last H7 D2 ws2 (s06.same s7) (s06.free hD2) eD2 ?_⟩
        rw [hw2]
        exact Int.toNat_natCast m
      · exact ⟨_, rfl, last H6 D ws s06 hD0 eD hw'⟩
end
/-! ### law k24: bad values, drawn from lists of them -/
theorem nota_non {K : PySem.W.Frag} {H : Hp} {c : String} (h : kitB "NoneType" c = some false) : NotA K H c .non := ⟨_, .base .non, h⟩
/-- what is new in H' stays -/
def KeepsNew (H H' H'' : Hp) : Prop := ∀ c o, H c = none → H' c = some o → H'' c = some o
theorem src_some {H : Hp} {ps : Addr} (h : SrcAt H ps) : H ps ≠ none := by
  obtain ⟨a, b, c, e⟩ := h
  rw [e]
  exact fun z => nomatch z
theorem pick24 {K : PySem.W.Frag} {H H1 : Hp} {ps L : Addr} {xs : List V} {Pr : Hp → V → Prop} {Q : VK} (hsrc : SrcAt H ps) (s1 : Same H H1) (eL : H1 L = some (.lst xs)) (fL : H L = none) (hb : ∀ H'', KeepsNew H H1 H'' → ∀ x ∈ xs, Pr H'' x ∧ Odd K H'' x)
    (c : ∀ H' x, Stp ps H H' → (∀ H'', KeepsNew H H' H'' → Pr H'' x ∧ Odd K H'' x) → Q x H') (r : Nat) (H2 : Hp) (hr : r < xs.length) (s2 : Stp ps H1 H2) : ∃ v, H2 L = some (.lst xs) ∧ xs[r]? = some v ∧ Q v H2 := by
  have nps : ∀ {p : Addr}, H p = none → p ≠ ps := fun h e => src_some hsrc (e ▸ h)
  exact ⟨xs[r], s2.keep _ _ (nps fL) eL, List.getElem?_eq_getElem hr, c H2 _ ((hsrc.stp_same s1).trans s2) fun H'' k => hb H'' (fun p o h1 h2 => k p o h1 (s2.keep _ _ (nps h1) h2)) _ (List.getElem_mem hr)⟩
section
variable {P : Program} {w : World} {K : PySem.W.Frag} {mg : Str → Option Value} {base : Heap}
def spBad24 (K : PySem.W.Frag) (Pr : Hp → V → Prop) : Sp := fun vs H Q _ => ∃ ps : Addr, vs = [.ref ps] ∧ SrcAt H ps ∧ ∀ H' x, Stp ps H H' → (∀ H'', KeepsNew H H' H'' → Pr H'' x ∧ Odd K H'' x) → Q x H'
theorem ok_bad_base {f : Addr} {fd : FuncData} (F : Fun K "_law_bad_base" "_law_bad_base" s__law_bad_base f fd) (h1 : Has P w K mg base 2 "_law_next" ["_law_source_here", "_law_many"] [] spNext) : FnOk P w K mg base CX0 3 f fd ["_law_source_here"] (spBad24 K fun H x => BadBase K H x) := by
  obtain ⟨f__law_next, fd__law_next, ds__law_next, G__law_next, m__law_next, k__law_next, b__law_next, v__law_next⟩ := h1
  refine F.ok sc__law_bad_base (fun vs H Q E h => ?_) (fun cdv A outer s H vs Q E hr h => ?_)
  · obtain ⟨ps, rfl, _⟩ := h
    rfl
  · obtain ⟨ps, rfl, hsrc, c⟩ := h
    refine ⟨_, (pss_one (ps_ret (pe_ix (ix_listK (K := K) rfl) (pe_lst (pa_cons pe_int (pa_cons pe_int (pa_cons (pe_un un_neg pe_int) (pa_cons pe_int (pa_cons (pe_op op_pow pe_int pe_int) (pa_cons pe_bl (pa_cons pe_non (pa_cons pe_str (pa_cons (pe_lst (pa_cons pe_int pa_nil)) (pa_cons pe_dnewK (pa_cons (pe_tup (pa_cons pe_int pa_nil)) pa_nil)))))))))))) (pe_call G__law_next hr (by rfl) m__law_next k__law_next b__law_next v__law_next pass0 (pa_cons (pv 0) (pa_cons pe_int pa_nil))) (fun _ _ => rfl)))), ?_⟩
    refine ⟨2, rfl, ?_⟩
    refine ⟨10, 30, rfl, rfl, ⟨by decide, by decide, by decide⟩, ?_⟩
    refine ⟨by simp [sizeLine_eq], fun q1 hq1 => ?_⟩
    have sq1 := same_upd (o := .lst [.int 10]) hq1
    have eq1 : (upd H q1 (.lst [.int 10])) q1 = some (.lst [.int 10]) := upd_same
    generalize upd H q1 (.lst [.int 10]) = H_1 at sq1 eq1 ⊢
    refine fun q2 hq2 => ?_
    have sq2 := same_upd (o := .dK []) hq2
    have eq2 : (upd H_1 q2 (.dK [])) q2 = some (.dK []) := upd_same
    generalize upd H_1 q2 (.dK []) = H_2 at sq2 eq2 ⊢
    refine ⟨by simp [sizeLine_eq], fun q3 hq3 => ?_⟩
    have sq3 := same_upd (o := .tup [.int 2]) hq3
    have eq3 : (upd H_2 q3 (.tup [.int 2])) q3 = some (.tup [.int 2]) := upd_same
    generalize upd H_2 q3 (.tup [.int 2]) = H_3 at sq3 eq3 ⊢
    have t3 : Same H_3 H_3 := fun _ _ e => e
    have t2 := sq3.trans t3
    have t1 := sq2.trans t2
    have c1 := sq1
    have c2 := c1.trans sq2
    have c3 := c2.trans sq3
    refine ⟨by simp [sizeLine_eq], fun L hL => ?_⟩
    have sL : Same H_3 (upd H_3 L (.lst [.int 1, .int 0, .int (-2), .int 65, .int (10 ^ (30 : Int).toNat), .bl true, .non, .str "10", .ref q1, .ref q2, .ref q3])) := same_upd hL
    have eL : (upd H_3 L (.lst [.int 1, .int 0, .int (-2), .int 65, .int (10 ^ (30 : Int).toNat), .bl true, .non, .str "10", .ref q1, .ref q2, .ref q3])) L = some (.lst [.int 1, .int 0, .int (-2), .int 65, .int (10 ^ (30 : Int).toNat), .bl true, .non, .str "10", .ref q1, .ref q2, .ref q3]) := upd_same
    have fL := c3.free hL
    generalize upd H_3 L (.lst [.int 1, .int 0, .int (-2), .int 65, .int (10 ^ (30 : Int).toNat), .bl true, .non, .str "10", .ref q1, .ref q2, .ref q3]) = HL at sL eL ⊢
    have s0 := c3.trans sL
    have hb : ∀ H'', KeepsNew H HL H'' → ∀ x ∈ ([.int 1, .int 0, .int (-2), .int 65, .int (10 ^ (30 : Int).toNat), .bl true, .non, .str "10", .ref q1, .ref q2, .ref q3] : List V), (fun H x => BadBase K H x) H'' x ∧ Odd K H'' x := fun H'' k => by
      have g1 := k _ _ hq1 (sL _ _ (t1 _ _ eq1))
      have g2 := k _ _ (c1.free hq2) (sL _ _ (t2 _ _ eq2))
      have g3 := k _ _ (c2.free hq3) (sL _ _ (t3 _ _ eq3))
      clear k c
      exact (List.forall_mem_cons.mpr ⟨⟨.inr ⟨_, rfl, .inl (by decide)⟩, ⟨.int 1, by decide +kernel, .flat (.int _) rfl⟩⟩, (List.forall_mem_cons.mpr ⟨⟨.inr ⟨_, rfl, .inl (by decide)⟩, ⟨.int 0, by decide +kernel, .flat (.int _) rfl⟩⟩, (List.forall_mem_cons.mpr ⟨⟨.inr ⟨_, rfl, .inl (by decide)⟩, ⟨.int (-2), by decide +kernel, .flat (.int _) rfl⟩⟩, (List.forall_mem_cons.mpr ⟨⟨.inr ⟨_, rfl, .inr (by decide)⟩, ⟨.int 65, by decide +kernel, .flat (.int _) rfl⟩⟩, (List.forall_mem_cons.mpr ⟨⟨.inr ⟨_, rfl, .inr (by decide)⟩, ⟨.int (10 ^ (30 : Int).toNat), by decide +kernel, .flat (.int _) rfl⟩⟩, (List.forall_mem_cons.mpr ⟨⟨.inl (.of_bl _), ⟨.bool true, by decide +kernel, .flat (.bl _) rfl⟩⟩, (List.forall_mem_cons.mpr ⟨⟨.inl .of_non, ⟨.none, by decide +kernel, .flat .non rfl⟩⟩, (List.forall_mem_cons.mpr ⟨⟨.inl (.of_str _), ⟨.str "10", by decide +kernel, .flat (.str _) rfl⟩⟩, (List.forall_mem_cons.mpr ⟨⟨.inl (.of_lst g1), ⟨.list [.int 10], by decide +kernel, .lst (SqL.of g1) (.cons (.flat (.int _) rfl) .nil)⟩⟩, (List.forall_mem_cons.mpr ⟨⟨.inl (.of_dK g2), ⟨.dict [], by decide +kernel, .dict0 g2⟩⟩, (List.forall_mem_cons.mpr ⟨⟨.inl (.of_tup g3), ⟨.tuple [.int 2], by decide +kernel, .tup (SqT.of g3) (.cons (.flat (.int _) rfl) .nil)⟩⟩, (fun _ hh => nomatch hh)⟩)⟩)⟩)⟩)⟩)⟩)⟩)⟩)⟩)⟩)⟩)
    refine ⟨_, rfl, ps, 11, rfl, by decide, by decide, (hsrc.stp_same s0).src, fun r H2 hr s2 => ?_⟩
    obtain ⟨v, eL2, hx, q⟩ := pick24 (K := K) (Pr := fun H x => BadBase K H x) hsrc s0 eL fL hb c r H2 (by simp; omega) s2
    exact ⟨L, _, r, _, rfl, rfl, SqL.of eL2, atI_nat hx, q⟩
theorem ok_bad_tick {f : Addr} {fd : FuncData} (F : Fun K "_law_bad_tick" "_law_bad_tick" s__law_bad_tick f fd) (h1 : Has P w K mg base 2 "_law_next" ["_law_source_here", "_law_many"] [] spNext) : FnOk P w K mg base CX0 3 f fd ["_law_source_here"] (spBad24 K fun H x => BadTick K H x 0) := by
  obtain ⟨f__law_next, fd__law_next, ds__law_next, G__law_next, m__law_next, k__law_next, b__law_next, v__law_next⟩ := h1
  refine F.ok sc__law_bad_tick (fun vs H Q E h => ?_) (fun cdv A outer s H vs Q E hr h => ?_)
  · obtain ⟨ps, rfl, _⟩ := h
    rfl
  · obtain ⟨ps, rfl, hsrc, c⟩ := h
    refine ⟨_, (pss_one (ps_ret (pe_ix (ix_listK (K := K) rfl) (pe_lst (pa_cons (pe_un un_neg pe_int) (pa_cons (pe_op op_sub pe_int (pe_op op_pow pe_int pe_int)) (pa_cons pe_bl (pa_cons pe_bl (pa_cons pe_non (pa_cons pe_str (pa_cons (pe_lst (pa_cons pe_int pa_nil)) (pa_cons pe_dnewK (pa_cons (pe_tup (pa_cons pe_int pa_nil)) pa_nil)))))))))) (pe_call G__law_next hr (by rfl) m__law_next k__law_next b__law_next v__law_next pass0 (pa_cons (pv 0) (pa_cons pe_int pa_nil))) (fun _ _ => rfl)))), ?_⟩
    refine ⟨1, rfl, ?_⟩
    refine ⟨10, 20, rfl, rfl, ⟨by decide, by decide, by decide⟩, ?_⟩
    refine ⟨0, _, rfl, rfl, ?_⟩
    refine ⟨by simp [sizeLine_eq], fun q1 hq1 => ?_⟩
    have sq1 := same_upd (o := .lst [.int 12]) hq1
    have eq1 : (upd H q1 (.lst [.int 12])) q1 = some (.lst [.int 12]) := upd_same
    generalize upd H q1 (.lst [.int 12]) = H_1 at sq1 eq1 ⊢
    refine fun q2 hq2 => ?_
    have sq2 := same_upd (o := .dK []) hq2
    have eq2 : (upd H_1 q2 (.dK [])) q2 = some (.dK []) := upd_same
    generalize upd H_1 q2 (.dK []) = H_2 at sq2 eq2 ⊢
    refine ⟨by simp [sizeLine_eq], fun q3 hq3 => ?_⟩
    have sq3 := same_upd (o := .tup [.int 3]) hq3
    have eq3 : (upd H_2 q3 (.tup [.int 3])) q3 = some (.tup [.int 3]) := upd_same
    generalize upd H_2 q3 (.tup [.int 3]) = H_3 at sq3 eq3 ⊢
    have t3 : Same H_3 H_3 := fun _ _ e => e
    have t2 := sq3.trans t3
    have t1 := sq2.trans t2
    have c1 := sq1
    have c2 := c1.trans sq2
    have c3 := c2.trans sq3
    refine ⟨by simp [sizeLine_eq], fun L hL => ?_⟩
    have sL : Same H_3 (upd H_3 L (.lst [.int (-1), .int (0 - 10 ^ (20 : Int).toNat), .bl true, .bl false, .non, .str "12", .ref q1, .ref q2, .ref q3])) := same_upd hL
    have eL : (upd H_3 L (.lst [.int (-1), .int (0 - 10 ^ (20 : Int).toNat), .bl true, .bl false, .non, .str "12", .ref q1, .ref q2, .ref q3])) L = some (.lst [.int (-1), .int (0 - 10 ^ (20 : Int).toNat), .bl true, .bl false, .non, .str "12", .ref q1, .ref q2, .ref q3]) := upd_same
    have fL := c3.free hL
    generalize upd H_3 L (.lst [.int (-1), .int (0 - 10 ^ (20 : Int).toNat), .bl true, .bl false, .non, .str "12", .ref q1, .ref q2, .ref q3]) = HL at sL eL ⊢
    have s0 := c3.trans sL
    have hb : ∀ H'', KeepsNew H HL H'' → ∀ x ∈ ([.int (-1), .int (0 - 10 ^ (20 : Int).toNat), .bl true, .bl false, .non, .str "12", .ref q1, .ref q2, .ref q3] : List V), (fun H x => BadTick K H x 0) H'' x ∧ Odd K H'' x := fun H'' k => by
      have g1 := k _ _ hq1 (sL _ _ (t1 _ _ eq1))
      have g2 := k _ _ (c1.free hq2) (sL _ _ (t2 _ _ eq2))
      have g3 := k _ _ (c2.free hq3) (sL _ _ (t3 _ _ eq3))
      clear k c
      exact (List.forall_mem_cons.mpr ⟨⟨.inr ⟨_, rfl, by decide⟩, ⟨.int (-1), by decide +kernel, .flat (.int _) rfl⟩⟩, (List.forall_mem_cons.mpr ⟨⟨.inr ⟨_, rfl, by decide⟩, ⟨.int (0 - 10 ^ (20 : Int).toNat), by decide +kernel, .flat (.int _) rfl⟩⟩, (List.forall_mem_cons.mpr ⟨⟨.inl (.of_bl _), ⟨.bool true, by decide +kernel, .flat (.bl _) rfl⟩⟩, (List.forall_mem_cons.mpr ⟨⟨.inl (.of_bl _), ⟨.bool false, by decide +kernel, .flat (.bl _) rfl⟩⟩, (List.forall_mem_cons.mpr ⟨⟨.inl .of_non, ⟨.none, by decide +kernel, .flat .non rfl⟩⟩, (List.forall_mem_cons.mpr ⟨⟨.inl (.of_str _), ⟨.str "12", by decide +kernel, .flat (.str _) rfl⟩⟩, (List.forall_mem_cons.mpr ⟨⟨.inl (.of_lst g1), ⟨.list [.int 12], by decide +kernel, .lst (SqL.of g1) (.cons (.flat (.int _) rfl) .nil)⟩⟩, (List.forall_mem_cons.mpr ⟨⟨.inl (.of_dK g2), ⟨.dict [], by decide +kernel, .dict0 g2⟩⟩, (List.forall_mem_cons.mpr ⟨⟨.inl (.of_tup g3), ⟨.tuple [.int 3], by decide +kernel, .tup (SqT.of g3) (.cons (.flat (.int _) rfl) .nil)⟩⟩, (fun _ hh => nomatch hh)⟩)⟩)⟩)⟩)⟩)⟩)⟩)⟩)⟩)
    refine ⟨_, rfl, ps, 9, rfl, by decide, by decide, (hsrc.stp_same s0).src, fun r H2 hr s2 => ?_⟩
    obtain ⟨v, eL2, hx, q⟩ := pick24 (K := K) (Pr := fun H x => BadTick K H x 0) hsrc s0 eL fL hb c r H2 (by simp; omega) s2
    exact ⟨L, _, r, _, rfl, rfl, SqL.of eL2, atI_nat hx, q⟩
theorem ok_bad_levels {f : Addr} {fd : FuncData} (F : Fun K "_law_bad_levels" "_law_bad_levels" s__law_bad_levels f fd) (h1 : Has P w K mg base 2 "_law_next" ["_law_source_here", "_law_many"] [] spNext) : FnOk P w K mg base CX0 3 f fd ["_law_source_here"] (spBad24 K fun H x => BadLevels K H x) := by
  obtain ⟨f__law_next, fd__law_next, ds__law_next, G__law_next, m__law_next, k__law_next, b__law_next, v__law_next⟩ := h1
  refine F.ok sc__law_bad_levels (fun vs H Q E h => ?_) (fun cdv A outer s H vs Q E hr h => ?_)
  · obtain ⟨ps, rfl, _⟩ := h
    rfl
  · obtain ⟨ps, rfl, hsrc, c⟩ := h
    refine ⟨_, (pss_cons (ps_set (i := 1) sc__law_bad_levels.nd rfl (.inl rfl) (pe_lst (pa_cons (pe_lst pa_nil) (pa_cons (pe_tup (pa_cons pe_str pa_nil)) (pa_cons pe_str (pa_cons pe_non (pa_cons pe_dnewK (pa_cons pe_int (pa_cons (pe_op op_rep (pe_lst (pa_cons pe_str pa_nil)) pe_int) (pa_cons (pe_lst (pa_cons pe_str pa_nil)) (pa_cons (pe_lst (pa_cons pe_str (pa_cons pe_non pa_nil))) (pa_cons (pe_lst (pa_cons (pe_lst (pa_cons pe_str pa_nil)) pa_nil)) (pa_cons (pe_lst (pa_cons pe_str pa_nil)) pa_nil)))))))))))))
      (pss_one (ps_ret (pe_ix (ix_listK (K := K) rfl) (pe_op op_cat (pv 1) (pe_lst (pa_cons (pe_lst (pa_cons pe_str (pa_cons pe_bl pa_nil))) (pa_cons (pe_lst (pa_cons pe_str (pa_cons pe_dnewK pa_nil))) (pa_cons (pe_lst (pa_cons pe_str (pa_cons pe_str (pa_cons pe_str pa_nil)))) pa_nil))))) (pe_call G__law_next hr (by rfl) m__law_next k__law_next b__law_next v__law_next pass0 (pa_cons (pv 0) (pa_cons pe_int pa_nil))) (fun _ _ => rfl))))), ?_⟩
    refine ⟨by simp [sizeLine_eq], fun q1 hq1 => ?_⟩
    have sq1 := same_upd (o := .lst []) hq1
    have eq1 : (upd H q1 (.lst [])) q1 = some (.lst []) := upd_same
    generalize upd H q1 (.lst []) = H_1 at sq1 eq1 ⊢
    refine ⟨by simp [sizeLine_eq], fun q2 hq2 => ?_⟩
    have sq2 := same_upd (o := .tup [.str "stack"]) hq2
    have eq2 : (upd H_1 q2 (.tup [.str "stack"])) q2 = some (.tup [.str "stack"]) := upd_same
    generalize upd H_1 q2 (.tup [.str "stack"]) = H_2 at sq2 eq2 ⊢
    refine fun q3 hq3 => ?_
    have sq3 := same_upd (o := .dK []) hq3
    have eq3 : (upd H_2 q3 (.dK [])) q3 = some (.dK []) := upd_same
    generalize upd H_2 q3 (.dK []) = H_3 at sq3 eq3 ⊢
    refine ⟨by simp [sizeLine_eq], fun q4 hq4 => ?_⟩
    have sq4 := same_upd (o := .lst [.str "stack"]) hq4
    have eq4 : (upd H_3 q4 (.lst [.str "stack"])) q4 = some (.lst [.str "stack"]) := upd_same
    generalize upd H_3 q4 (.lst [.str "stack"]) = H_4 at sq4 eq4 ⊢
    refine ⟨q4, 61, _, rfl, rfl, eq4, by decide, by decide, by simp [sizeLine_eq], fun q5 hq5 => ?_⟩
    have sq5 := same_upd (o := .lst (List.replicate (61 : Int).toNat [V.str "stack"]).flatten) hq5
    have eq5 : (upd H_4 q5 (.lst (List.replicate (61 : Int).toNat [V.str "stack"]).flatten)) q5 = some (.lst (List.replicate (61 : Int).toNat [V.str "stack"]).flatten) := upd_same
    generalize upd H_4 q5 (.lst (List.replicate (61 : Int).toNat [V.str "stack"]).flatten) = H_5 at sq5 eq5 ⊢
    refine ⟨by simp [sizeLine_eq], fun q6 hq6 => ?_⟩
    have sq6 := same_upd (o := .lst [.str "heap"]) hq6
    have eq6 : (upd H_5 q6 (.lst [.str "heap"])) q6 = some (.lst [.str "heap"]) := upd_same
    generalize upd H_5 q6 (.lst [.str "heap"]) = H_6 at sq6 eq6 ⊢
    refine ⟨by simp [sizeLine_eq], fun q7 hq7 => ?_⟩
    have sq7 := same_upd (o := .lst [.str "stack", .non]) hq7
    have eq7 : (upd H_6 q7 (.lst [.str "stack", .non])) q7 = some (.lst [.str "stack", .non]) := upd_same
    generalize upd H_6 q7 (.lst [.str "stack", .non]) = H_7 at sq7 eq7 ⊢
    refine ⟨by simp [sizeLine_eq], fun q8 hq8 => ?_⟩
    have sq8 := same_upd (o := .lst [.str "stack"]) hq8
    have eq8 : (upd H_7 q8 (.lst [.str "stack"])) q8 = some (.lst [.str "stack"]) := upd_same
    generalize upd H_7 q8 (.lst [.str "stack"]) = H_8 at sq8 eq8 ⊢
    refine ⟨by simp [sizeLine_eq], fun q9 hq9 => ?_⟩
    have sq9 := same_upd (o := .lst [.ref q8]) hq9
    have eq9 : (upd H_8 q9 (.lst [.ref q8])) q9 = some (.lst [.ref q8]) := upd_same
    generalize upd H_8 q9 (.lst [.ref q8]) = H_9 at sq9 eq9 ⊢
    refine ⟨by simp [sizeLine_eq], fun q10 hq10 => ?_⟩
    have sq10 := same_upd (o := .lst [.str "Queue"]) hq10
    have eq10 : (upd H_9 q10 (.lst [.str "Queue"])) q10 = some (.lst [.str "Queue"]) := upd_same
    generalize upd H_9 q10 (.lst [.str "Queue"]) = H_10 at sq10 eq10 ⊢
    refine ⟨by simp [sizeLine_eq], fun q11 hq11 => ?_⟩
    have sq11 := same_upd (o := .lst [.ref q1, .ref q2, .str "stack", .non, .ref q3, .int 7, .ref q5, .ref q6, .ref q7, .ref q9, .ref q10]) hq11
    have eq11 : (upd H_10 q11 (.lst [.ref q1, .ref q2, .str "stack", .non, .ref q3, .int 7, .ref q5, .ref q6, .ref q7, .ref q9, .ref q10])) q11 = some (.lst [.ref q1, .ref q2, .str "stack", .non, .ref q3, .int 7, .ref q5, .ref q6, .ref q7, .ref q9, .ref q10]) := upd_same
    generalize upd H_10 q11 (.lst [.ref q1, .ref q2, .str "stack", .non, .ref q3, .int 7, .ref q5, .ref q6, .ref q7, .ref q9, .ref q10]) = H_11 at sq11 eq11 ⊢
    refine ⟨_, rfl, ?_⟩
    refine ⟨by simp [sizeLine_eq], fun q12 hq12 => ?_⟩
    have sq12 := same_upd (o := .lst [.str "stack", .bl true]) hq12
    have eq12 : (upd H_11 q12 (.lst [.str "stack", .bl true])) q12 = some (.lst [.str "stack", .bl true]) := upd_same
    generalize upd H_11 q12 (.lst [.str "stack", .bl true]) = H_12 at sq12 eq12 ⊢
    refine fun q13 hq13 => ?_
    have sq13 := same_upd (o := .dK []) hq13
    have eq13 : (upd H_12 q13 (.dK [])) q13 = some (.dK []) := upd_same
    generalize upd H_12 q13 (.dK []) = H_13 at sq13 eq13 ⊢
    refine ⟨by simp [sizeLine_eq], fun q14 hq14 => ?_⟩
    have sq14 := same_upd (o := .lst [.str "queue", .ref q13]) hq14
    have eq14 : (upd H_13 q14 (.lst [.str "queue", .ref q13])) q14 = some (.lst [.str "queue", .ref q13]) := upd_same
    generalize upd H_13 q14 (.lst [.str "queue", .ref q13]) = H_14 at sq14 eq14 ⊢
    refine ⟨by simp [sizeLine_eq], fun q15 hq15 => ?_⟩
    have sq15 := same_upd (o := .lst [.str "stack", .str "queue", .str "stack "]) hq15
    have eq15 : (upd H_14 q15 (.lst [.str "stack", .str "queue", .str "stack "])) q15 = some (.lst [.str "stack", .str "queue", .str "stack "]) := upd_same
    generalize upd H_14 q15 (.lst [.str "stack", .str "queue", .str "stack "]) = H_15 at sq15 eq15 ⊢
    refine ⟨by simp [sizeLine_eq], fun q16 hq16 => ?_⟩
    have sq16 := same_upd (o := .lst [.ref q12, .ref q14, .ref q15]) hq16
    have eq16 : (upd H_15 q16 (.lst [.ref q12, .ref q14, .ref q15])) q16 = some (.lst [.ref q12, .ref q14, .ref q15]) := upd_same
    generalize upd H_15 q16 (.lst [.ref q12, .ref q14, .ref q15]) = H_16 at sq16 eq16 ⊢
    have t16 : Same H_16 H_16 := fun _ _ e => e
    have t15 := sq16.trans t16
    have t14 := sq15.trans t15
    have t13 := sq14.trans t14
    have t12 := sq13.trans t13
    have t11 := sq12.trans t12
    have t10 := sq11.trans t11
    have t9 := sq10.trans t10
    have t8 := sq9.trans t9
    have t7 := sq8.trans t8
    have t6 := sq7.trans t7
    have t5 := sq6.trans t6
    have t4 := sq5.trans t5
    have t3 := sq4.trans t4
    have t2 := sq3.trans t3
    have t1 := sq2.trans t2
    have c1 := sq1
    have c2 := c1.trans sq2
    have c3 := c2.trans sq3
    have c4 := c3.trans sq4
    have c5 := c4.trans sq5
    have c6 := c5.trans sq6
    have c7 := c6.trans sq7
    have c8 := c7.trans sq8
    have c9 := c8.trans sq9
    have c10 := c9.trans sq10
    have c11 := c10.trans sq11
    have c12 := c11.trans sq12
    have c13 := c12.trans sq13
    have c14 := c13.trans sq14
    have c15 := c14.trans sq15
    have c16 := c15.trans sq16
    refine ⟨q11, q16, _, _, rfl, rfl, t11 _ _ eq11, eq16, by simp [sizeLine_eq], fun L hL => ?_⟩
    have sL : Same H_16 (upd H_16 L (.lst ([.ref q1, .ref q2, .str "stack", .non, .ref q3, .int 7, .ref q5, .ref q6, .ref q7, .ref q9, .ref q10] ++ [.ref q12, .ref q14, .ref q15]))) := same_upd hL
    have eL : (upd H_16 L (.lst ([.ref q1, .ref q2, .str "stack", .non, .ref q3, .int 7, .ref q5, .ref q6, .ref q7, .ref q9, .ref q10] ++ [.ref q12, .ref q14, .ref q15]))) L = some (.lst ([.ref q1, .ref q2, .str "stack", .non, .ref q3, .int 7, .ref q5, .ref q6, .ref q7, .ref q9, .ref q10] ++ [.ref q12, .ref q14, .ref q15])) := upd_same
    have fL := c16.free hL
    generalize upd H_16 L (.lst ([.ref q1, .ref q2, .str "stack", .non, .ref q3, .int 7, .ref q5, .ref q6, .ref q7, .ref q9, .ref q10] ++ [.ref q12, .ref q14, .ref q15])) = HL at sL eL ⊢
    have s0 := c16.trans sL
    have hb : ∀ H'', KeepsNew H HL H'' → ∀ x ∈ ([.ref q1, .ref q2, .str "stack", .non, .ref q3, .int 7, .ref q5, .ref q6, .ref q7, .ref q9, .ref q10] ++ [.ref q12, .ref q14, .ref q15] : List V), (fun H x => BadLevels K H x) H'' x ∧ Odd K H'' x := fun H'' k => by
      have g1 := k _ _ hq1 (sL _ _ (t1 _ _ eq1))
      have g2 := k _ _ (c1.free hq2) (sL _ _ (t2 _ _ eq2))
      have g3 := k _ _ (c2.free hq3) (sL _ _ (t3 _ _ eq3))
      have g4 := k _ _ (c3.free hq4) (sL _ _ (t4 _ _ eq4))
      have g5 := k _ _ (c4.free hq5) (sL _ _ (t5 _ _ eq5))
      have g6 := k _ _ (c5.free hq6) (sL _ _ (t6 _ _ eq6))
      have g7 := k _ _ (c6.free hq7) (sL _ _ (t7 _ _ eq7))
      have g8 := k _ _ (c7.free hq8) (sL _ _ (t8 _ _ eq8))
      have g9 := k _ _ (c8.free hq9) (sL _ _ (t9 _ _ eq9))
      have g10 := k _ _ (c9.free hq10) (sL _ _ (t10 _ _ eq10))
      have g11 := k _ _ (c10.free hq11) (sL _ _ (t11 _ _ eq11))
      have g12 := k _ _ (c11.free hq12) (sL _ _ (t12 _ _ eq12))
      have g13 := k _ _ (c12.free hq13) (sL _ _ (t13 _ _ eq13))
      have g14 := k _ _ (c13.free hq14) (sL _ _ (t14 _ _ eq14))
      have g15 := k _ _ (c14.free hq15) (sL _ _ (t15 _ _ eq15))
      have g16 := k _ _ (c15.free hq16) (sL _ _ (t16 _ _ eq16))
      clear k c
      exact (List.forall_mem_cons.mpr ⟨⟨.inr ⟨_, _, rfl, SqL.of g1, .inl rfl⟩, ⟨.list [], by decide +kernel, .lst (SqL.of g1) .nil⟩⟩, (List.forall_mem_cons.mpr ⟨⟨.inl ⟨_, .base (.tup g2), by decide +kernel⟩, ⟨.tuple [.str "stack"], by decide +kernel, .tup (SqT.of g2) (.cons (.flat (.str _) rfl) .nil)⟩⟩, (List.forall_mem_cons.mpr ⟨⟨.inl ⟨_, .base (.str _), by decide +kernel⟩, ⟨.str "stack", by decide +kernel, .flat (.str _) rfl⟩⟩, (List.forall_mem_cons.mpr ⟨⟨.inl ⟨_, .base .non, by decide +kernel⟩, ⟨.none, by decide +kernel, .flat .non rfl⟩⟩, (List.forall_mem_cons.mpr ⟨⟨.inl ⟨_, .base (.dK g3), by decide +kernel⟩, ⟨.dict [], by decide +kernel, .dict0 g3⟩⟩, (List.forall_mem_cons.mpr ⟨⟨.inl ⟨_, .base (.int _), by decide +kernel⟩, ⟨.int 7, by decide +kernel, .flat (.int _) rfl⟩⟩, (List.forall_mem_cons.mpr ⟨⟨.inr ⟨_, _, rfl, SqL.of g5, .inr (.inl (by decide))⟩, odd_levels (ws := List.replicate 61 true) (SqL.of (g5.trans rfl)) (by decide)⟩, (List.forall_mem_cons.mpr ⟨⟨.inr ⟨_, _, rfl, SqL.of g6, .inr (.inr ⟨by simp, (List.forall_mem_cons.mpr ⟨.inr (.inr ⟨_, rfl, by decide⟩), (fun _ hh => nomatch hh)⟩), .str "heap", by simp, (.inr ⟨_, rfl, by decide⟩)⟩)⟩, ⟨.list [.str "heap"], by decide +kernel, .lst (SqL.of g6) (.cons (.flat (.str _) rfl) .nil)⟩⟩, (List.forall_mem_cons.mpr ⟨⟨.inr ⟨_, _, rfl, SqL.of g7, .inr (.inr ⟨by simp, (List.forall_mem_cons.mpr ⟨.inl ⟨true, rfl⟩, (List.forall_mem_cons.mpr ⟨.inr (.inl ⟨_, .base .non, by decide +kernel⟩), (fun _ hh => nomatch hh)⟩)⟩), .non, by simp, (.inl ⟨_, .base .non, by decide +kernel⟩)⟩)⟩, ⟨.list [.str "stack", .none], by decide +kernel, .lst (SqL.of g7) (.cons (.flat (.str _) rfl) (.cons (.flat .non rfl) .nil))⟩⟩, (List.forall_mem_cons.mpr ⟨⟨.inr ⟨_, _, rfl, SqL.of g9, .inr (.inr ⟨by simp, (List.forall_mem_cons.mpr ⟨.inr (.inl ⟨_, .base (.lst g8), by decide +kernel⟩), (fun _ hh => nomatch hh)⟩), .ref q8, by simp, (.inl ⟨_, .base (.lst g8), by decide +kernel⟩)⟩)⟩, ⟨.list [.list [.str "stack"]], by decide +kernel, .lst (SqL.of g9) (.cons (.lst (SqL.of g8) (.cons (.flat (.str _) rfl) .nil)) .nil)⟩⟩, (List.forall_mem_cons.mpr ⟨⟨.inr ⟨_, _, rfl, SqL.of g10, .inr (.inr ⟨by simp, (List.forall_mem_cons.mpr ⟨.inr (.inr ⟨_, rfl, by decide⟩), (fun _ hh => nomatch hh)⟩), .str "Queue", by simp, (.inr ⟨_, rfl, by decide⟩)⟩)⟩, ⟨.list [.str "Queue"], by decide +kernel, .lst (SqL.of g10) (.cons (.flat (.str _) rfl) .nil)⟩⟩, (List.forall_mem_cons.mpr ⟨⟨.inr ⟨_, _, rfl, SqL.of g12, .inr (.inr ⟨by simp, (List.forall_mem_cons.mpr ⟨.inl ⟨true, rfl⟩, (List.forall_mem_cons.mpr ⟨.inr (.inl ⟨_, .base (.bl _), by decide +kernel⟩), (fun _ hh => nomatch hh)⟩)⟩), .bl true, by simp, (.inl ⟨_, .base (.bl _), by decide +kernel⟩)⟩)⟩, ⟨.list [.str "stack", .bool true], by decide +kernel, .lst (SqL.of g12) (.cons (.flat (.str _) rfl) (.cons (.flat (.bl _) rfl) .nil))⟩⟩, (List.forall_mem_cons.mpr ⟨⟨.inr ⟨_, _, rfl, SqL.of g14, .inr (.inr ⟨by simp, (List.forall_mem_cons.mpr ⟨.inl ⟨false, rfl⟩, (List.forall_mem_cons.mpr ⟨.inr (.inl ⟨_, .base (.dK g13), by decide +kernel⟩), (fun _ hh => nomatch hh)⟩)⟩), .ref q13, by simp, (.inl ⟨_, .base (.dK g13), by decide +kernel⟩)⟩)⟩, ⟨.list [.str "queue", .dict []], by decide +kernel, .lst (SqL.of g14) (.cons (.flat (.str _) rfl) (.cons (.dict0 g13) .nil))⟩⟩, (List.forall_mem_cons.mpr ⟨⟨.inr ⟨_, _, rfl, SqL.of g15, .inr (.inr ⟨by simp, (List.forall_mem_cons.mpr ⟨.inl ⟨true, rfl⟩, (List.forall_mem_cons.mpr ⟨.inl ⟨false, rfl⟩, (List.forall_mem_cons.mpr ⟨.inr (.inr ⟨_, rfl, by decide⟩), (fun _ hh => nomatch hh)⟩)⟩)⟩), .str "stack ", by simp, (.inr ⟨_, rfl, by decide⟩)⟩)⟩, ⟨.list [.str "stack", .str "queue", .str "stack "], by decide +kernel, .lst (SqL.of g15) (.cons (.flat (.str _) rfl) (.cons (.flat (.str _) rfl) (.cons (.flat (.str _) rfl) .nil)))⟩⟩, (fun _ hh => nomatch hh)⟩)⟩)⟩)⟩)⟩)⟩)⟩)⟩)⟩)⟩)⟩)⟩)⟩)⟩)
    refine ⟨_, rfl, ps, 14, rfl, by decide, by decide, (hsrc.stp_same s0).src, fun r H2 hr s2 => ?_⟩
    obtain ⟨v, eL2, hx, q⟩ := pick24 (K := K) (Pr := fun H x => BadLevels K H x) hsrc s0 eL fL hb c r H2 (by simp; omega) s2
    exact ⟨L, _, r, _, rfl, rfl, SqL.of eL2, atI_nat hx, q⟩
theorem ok_bad_pair {f : Addr} {fd : FuncData} (F : Fun K "_law_bad_pair" "_law_bad_pair" s__law_bad_pair f fd) (h1 : Has P w K mg base 2 "_law_next" ["_law_source_here", "_law_many"] [] spNext) : FnOk P w K mg base CX0 3 f fd ["_law_source_here"] (spBad24 K fun H x => BadPair K H x) := by
  obtain ⟨f__law_next, fd__law_next, ds__law_next, G__law_next, m__law_next, k__law_next, b__law_next, v__law_next⟩ := h1
  refine F.ok sc__law_bad_pair (fun vs H Q E h => ?_) (fun cdv A outer s H vs Q E hr h => ?_)
  · obtain ⟨ps, rfl, _⟩ := h
    rfl
  · obtain ⟨ps, rfl, hsrc, c⟩ := h
    refine ⟨_, (pss_cons (ps_set (i := 1) sc__law_bad_pair.nd rfl (.inl rfl) (pe_lst (pa_cons pe_non (pa_cons pe_int (pa_cons pe_str (pa_cons pe_dnewK (pa_cons (pe_lst (pa_cons pe_int (pa_cons pe_int pa_nil))) (pa_cons (pe_tup (pa_cons pe_int pa_nil)) (pa_cons (pe_tup (pa_cons pe_int (pa_cons pe_int (pa_cons pe_int pa_nil)))) (pa_cons (pe_tup (pa_cons pe_bl (pa_cons pe_int pa_nil))) (pa_cons (pe_tup (pa_cons pe_int (pa_cons pe_bl pa_nil))) (pa_cons (pe_tup (pa_cons (pe_un un_neg pe_int) (pa_cons pe_int pa_nil))) (pa_cons (pe_tup (pa_cons pe_int (pa_cons pe_int pa_nil))) (pa_cons (pe_tup (pa_cons pe_int (pa_cons (pe_un un_neg pe_int) pa_nil))) (pa_cons (pe_tup (pa_cons pe_str (pa_cons pe_int pa_nil))) pa_nil)))))))))))))))
      (pss_one (ps_ret (pe_ix (ix_listK (K := K) rfl) (pe_op op_cat (pv 1) (pe_lst (pa_cons (pe_tup (pa_cons pe_int (pa_cons pe_non pa_nil))) (pa_cons (pe_tup (pa_cons pe_dnewK (pa_cons pe_int pa_nil))) (pa_cons (pe_tup (pa_cons (pe_lst (pa_cons pe_int pa_nil)) (pa_cons pe_int pa_nil))) (pa_cons (pe_tup (pa_cons pe_int (pa_cons pe_str pa_nil))) (pa_cons (pe_tup pa_nil) pa_nil))))))) (pe_call G__law_next hr (by rfl) m__law_next k__law_next b__law_next v__law_next pass0 (pa_cons (pv 0) (pa_cons pe_int pa_nil))) (fun _ _ => rfl))))), ?_⟩
    refine fun q1 hq1 => ?_
    have sq1 := same_upd (o := .dK []) hq1
    have eq1 : (upd H q1 (.dK [])) q1 = some (.dK []) := upd_same
    generalize upd H q1 (.dK []) = H_1 at sq1 eq1 ⊢
    refine ⟨by simp [sizeLine_eq], fun q2 hq2 => ?_⟩
    have sq2 := same_upd (o := .lst [.int 1, .int 2]) hq2
    have eq2 : (upd H_1 q2 (.lst [.int 1, .int 2])) q2 = some (.lst [.int 1, .int 2]) := upd_same
    generalize upd H_1 q2 (.lst [.int 1, .int 2]) = H_2 at sq2 eq2 ⊢
    refine ⟨by simp [sizeLine_eq], fun q3 hq3 => ?_⟩
    have sq3 := same_upd (o := .tup [.int 1]) hq3
    have eq3 : (upd H_2 q3 (.tup [.int 1])) q3 = some (.tup [.int 1]) := upd_same
    generalize upd H_2 q3 (.tup [.int 1]) = H_3 at sq3 eq3 ⊢
    refine ⟨by simp [sizeLine_eq], fun q4 hq4 => ?_⟩
    have sq4 := same_upd (o := .tup [.int 1, .int 2, .int 3]) hq4
    have eq4 : (upd H_3 q4 (.tup [.int 1, .int 2, .int 3])) q4 = some (.tup [.int 1, .int 2, .int 3]) := upd_same
    generalize upd H_3 q4 (.tup [.int 1, .int 2, .int 3]) = H_4 at sq4 eq4 ⊢
    refine ⟨by simp [sizeLine_eq], fun q5 hq5 => ?_⟩
    have sq5 := same_upd (o := .tup [.bl true, .int 2]) hq5
    have eq5 : (upd H_4 q5 (.tup [.bl true, .int 2])) q5 = some (.tup [.bl true, .int 2]) := upd_same
    generalize upd H_4 q5 (.tup [.bl true, .int 2]) = H_5 at sq5 eq5 ⊢
    refine ⟨by simp [sizeLine_eq], fun q6 hq6 => ?_⟩
    have sq6 := same_upd (o := .tup [.int 1, .bl true]) hq6
    have eq6 : (upd H_5 q6 (.tup [.int 1, .bl true])) q6 = some (.tup [.int 1, .bl true]) := upd_same
    generalize upd H_5 q6 (.tup [.int 1, .bl true]) = H_6 at sq6 eq6 ⊢
    refine ⟨1, rfl, ?_⟩
    refine ⟨by simp [sizeLine_eq], fun q7 hq7 => ?_⟩
    have sq7 := same_upd (o := .tup [.int (-1), .int 2]) hq7
    have eq7 : (upd H_6 q7 (.tup [.int (-1), .int 2])) q7 = some (.tup [.int (-1), .int 2]) := upd_same
    generalize upd H_6 q7 (.tup [.int (-1), .int 2]) = H_7 at sq7 eq7 ⊢
    refine ⟨by simp [sizeLine_eq], fun q8 hq8 => ?_⟩
    have sq8 := same_upd (o := .tup [.int 1, .int 0]) hq8
    have eq8 : (upd H_7 q8 (.tup [.int 1, .int 0])) q8 = some (.tup [.int 1, .int 0]) := upd_same
    generalize upd H_7 q8 (.tup [.int 1, .int 0]) = H_8 at sq8 eq8 ⊢
    refine ⟨3, rfl, ?_⟩
    refine ⟨by simp [sizeLine_eq], fun q9 hq9 => ?_⟩
    have sq9 := same_upd (o := .tup [.int 1, .int (-3)]) hq9
    have eq9 : (upd H_8 q9 (.tup [.int 1, .int (-3)])) q9 = some (.tup [.int 1, .int (-3)]) := upd_same
    generalize upd H_8 q9 (.tup [.int 1, .int (-3)]) = H_9 at sq9 eq9 ⊢
    refine ⟨by simp [sizeLine_eq], fun q10 hq10 => ?_⟩
    have sq10 := same_upd (o := .tup [.str "1", .int 2]) hq10
    have eq10 : (upd H_9 q10 (.tup [.str "1", .int 2])) q10 = some (.tup [.str "1", .int 2]) := upd_same
    generalize upd H_9 q10 (.tup [.str "1", .int 2]) = H_10 at sq10 eq10 ⊢
    refine ⟨by simp [sizeLine_eq], fun q11 hq11 => ?_⟩
    have sq11 := same_upd (o := .lst [.non, .int 7, .str "ab", .ref q1, .ref q2, .ref q3, .ref q4, .ref q5, .ref q6, .ref q7, .ref q8, .ref q9, .ref q10]) hq11
    have eq11 : (upd H_10 q11 (.lst [.non, .int 7, .str "ab", .ref q1, .ref q2, .ref q3, .ref q4, .ref q5, .ref q6, .ref q7, .ref q8, .ref q9, .ref q10])) q11 = some (.lst [.non, .int 7, .str "ab", .ref q1, .ref q2, .ref q3, .ref q4, .ref q5, .ref q6, .ref q7, .ref q8, .ref q9, .ref q10]) := upd_same
    generalize upd H_10 q11 (.lst [.non, .int 7, .str "ab", .ref q1, .ref q2, .ref q3, .ref q4, .ref q5, .ref q6, .ref q7, .ref q8, .ref q9, .ref q10]) = H_11 at sq11 eq11 ⊢
    refine ⟨_, rfl, ?_⟩
    refine ⟨by simp [sizeLine_eq], fun q12 hq12 => ?_⟩
    have sq12 := same_upd (o := .tup [.int 1, .non]) hq12
    have eq12 : (upd H_11 q12 (.tup [.int 1, .non])) q12 = some (.tup [.int 1, .non]) := upd_same
    generalize upd H_11 q12 (.tup [.int 1, .non]) = H_12 at sq12 eq12 ⊢
    refine fun q13 hq13 => ?_
    have sq13 := same_upd (o := .dK []) hq13
    have eq13 : (upd H_12 q13 (.dK [])) q13 = some (.dK []) := upd_same
    generalize upd H_12 q13 (.dK []) = H_13 at sq13 eq13 ⊢
    refine ⟨by simp [sizeLine_eq], fun q14 hq14 => ?_⟩
    have sq14 := same_upd (o := .tup [.ref q13, .int 1]) hq14
    have eq14 : (upd H_13 q14 (.tup [.ref q13, .int 1])) q14 = some (.tup [.ref q13, .int 1]) := upd_same
    generalize upd H_13 q14 (.tup [.ref q13, .int 1]) = H_14 at sq14 eq14 ⊢
    refine ⟨by simp [sizeLine_eq], fun q15 hq15 => ?_⟩
    have sq15 := same_upd (o := .lst [.int 1]) hq15
    have eq15 : (upd H_14 q15 (.lst [.int 1])) q15 = some (.lst [.int 1]) := upd_same
    generalize upd H_14 q15 (.lst [.int 1]) = H_15 at sq15 eq15 ⊢
    refine ⟨by simp [sizeLine_eq], fun q16 hq16 => ?_⟩
    have sq16 := same_upd (o := .tup [.ref q15, .int 2]) hq16
    have eq16 : (upd H_15 q16 (.tup [.ref q15, .int 2])) q16 = some (.tup [.ref q15, .int 2]) := upd_same
    generalize upd H_15 q16 (.tup [.ref q15, .int 2]) = H_16 at sq16 eq16 ⊢
    refine ⟨by simp [sizeLine_eq], fun q17 hq17 => ?_⟩
    have sq17 := same_upd (o := .tup [.int 2, .str "3"]) hq17
    have eq17 : (upd H_16 q17 (.tup [.int 2, .str "3"])) q17 = some (.tup [.int 2, .str "3"]) := upd_same
    generalize upd H_16 q17 (.tup [.int 2, .str "3"]) = H_17 at sq17 eq17 ⊢
    refine ⟨by simp [sizeLine_eq], fun q18 hq18 => ?_⟩
    have sq18 := same_upd (o := .tup []) hq18
    have eq18 : (upd H_17 q18 (.tup [])) q18 = some (.tup []) := upd_same
    generalize upd H_17 q18 (.tup []) = H_18 at sq18 eq18 ⊢
    refine ⟨by simp [sizeLine_eq], fun q19 hq19 => ?_⟩
    have sq19 := same_upd (o := .lst [.ref q12, .ref q14, .ref q16, .ref q17, .ref q18]) hq19
    have eq19 : (upd H_18 q19 (.lst [.ref q12, .ref q14, .ref q16, .ref q17, .ref q18])) q19 = some (.lst [.ref q12, .ref q14, .ref q16, .ref q17, .ref q18]) := upd_same
    generalize upd H_18 q19 (.lst [.ref q12, .ref q14, .ref q16, .ref q17, .ref q18]) = H_19 at sq19 eq19 ⊢
    have t19 : Same H_19 H_19 := fun _ _ e => e
    have t18 := sq19.trans t19
    have t17 := sq18.trans t18
    have t16 := sq17.trans t17
    have t15 := sq16.trans t16
    have t14 := sq15.trans t15
    have t13 := sq14.trans t14
    have t12 := sq13.trans t13
    have t11 := sq12.trans t12
    have t10 := sq11.trans t11
    have t9 := sq10.trans t10
    have t8 := sq9.trans t9
    have t7 := sq8.trans t8
    have t6 := sq7.trans t7
    have t5 := sq6.trans t6
    have t4 := sq5.trans t5
    have t3 := sq4.trans t4
    have t2 := sq3.trans t3
    have t1 := sq2.trans t2
    have c1 := sq1
    have c2 := c1.trans sq2
    have c3 := c2.trans sq3
    have c4 := c3.trans sq4
    have c5 := c4.trans sq5
    have c6 := c5.trans sq6
    have c7 := c6.trans sq7
    have c8 := c7.trans sq8
    have c9 := c8.trans sq9
    have c10 := c9.trans sq10
    have c11 := c10.trans sq11
    have c12 := c11.trans sq12
    have c13 := c12.trans sq13
    have c14 := c13.trans sq14
    have c15 := c14.trans sq15
    have c16 := c15.trans sq16
    have c17 := c16.trans sq17
    have c18 := c17.trans sq18
    have c19 := c18.trans sq19
    refine ⟨q11, q19, _, _, rfl, rfl, t11 _ _ eq11, eq19, by simp [sizeLine_eq], fun L hL => ?_⟩
    have sL : Same H_19 (upd H_19 L (.lst ([.non, .int 7, .str "ab", .ref q1, .ref q2, .ref q3, .ref q4, .ref q5, .ref q6, .ref q7, .ref q8, .ref q9, .ref q10] ++ [.ref q12, .ref q14, .ref q16, .ref q17, .ref q18]))) := same_upd hL
    have eL : (upd H_19 L (.lst ([.non, .int 7, .str "ab", .ref q1, .ref q2, .ref q3, .ref q4, .ref q5, .ref q6, .ref q7, .ref q8, .ref q9, .ref q10] ++ [.ref q12, .ref q14, .ref q16, .ref q17, .ref q18]))) L = some (.lst ([.non, .int 7, .str "ab", .ref q1, .ref q2, .ref q3, .ref q4, .ref q5, .ref q6, .ref q7, .ref q8, .ref q9, .ref q10] ++ [.ref q12, .ref q14, .ref q16, .ref q17, .ref q18])) := upd_same
    have fL := c19.free hL
    generalize upd H_19 L (.lst ([.non, .int 7, .str "ab", .ref q1, .ref q2, .ref q3, .ref q4, .ref q5, .ref q6, .ref q7, .ref q8, .ref q9, .ref q10] ++ [.ref q12, .ref q14, .ref q16, .ref q17, .ref q18])) = HL at sL eL ⊢
    have s0 := c19.trans sL
    have hb : ∀ H'', KeepsNew H HL H'' → ∀ x ∈ ([.non, .int 7, .str "ab", .ref q1, .ref q2, .ref q3, .ref q4, .ref q5, .ref q6, .ref q7, .ref q8, .ref q9, .ref q10] ++ [.ref q12, .ref q14, .ref q16, .ref q17, .ref q18] : List V), (fun H x => BadPair K H x) H'' x ∧ Odd K H'' x := fun H'' k => by
      have g1 := k _ _ hq1 (sL _ _ (t1 _ _ eq1))
      have g2 := k _ _ (c1.free hq2) (sL _ _ (t2 _ _ eq2))
      have g3 := k _ _ (c2.free hq3) (sL _ _ (t3 _ _ eq3))
      have g4 := k _ _ (c3.free hq4) (sL _ _ (t4 _ _ eq4))
      have g5 := k _ _ (c4.free hq5) (sL _ _ (t5 _ _ eq5))
      have g6 := k _ _ (c5.free hq6) (sL _ _ (t6 _ _ eq6))
      have g7 := k _ _ (c6.free hq7) (sL _ _ (t7 _ _ eq7))
      have g8 := k _ _ (c7.free hq8) (sL _ _ (t8 _ _ eq8))
      have g9 := k _ _ (c8.free hq9) (sL _ _ (t9 _ _ eq9))
      have g10 := k _ _ (c9.free hq10) (sL _ _ (t10 _ _ eq10))
      have g11 := k _ _ (c10.free hq11) (sL _ _ (t11 _ _ eq11))
      have g12 := k _ _ (c11.free hq12) (sL _ _ (t12 _ _ eq12))
      have g13 := k _ _ (c12.free hq13) (sL _ _ (t13 _ _ eq13))
      have g14 := k _ _ (c13.free hq14) (sL _ _ (t14 _ _ eq14))
      have g15 := k _ _ (c14.free hq15) (sL _ _ (t15 _ _ eq15))
      have g16 := k _ _ (c15.free hq16) (sL _ _ (t16 _ _ eq16))
      have g17 := k _ _ (c16.free hq17) (sL _ _ (t17 _ _ eq17))
      have g18 := k _ _ (c17.free hq18) (sL _ _ (t18 _ _ eq18))
      have g19 := k _ _ (c18.free hq19) (sL _ _ (t19 _ _ eq19))
      clear k c
      exact (List.forall_mem_cons.mpr ⟨⟨.inl ⟨_, .base .non, by decide +kernel⟩, ⟨.none, by decide +kernel, .flat .non rfl⟩⟩, (List.forall_mem_cons.mpr ⟨⟨.inl ⟨_, .base (.int _), by decide +kernel⟩, ⟨.int 7, by decide +kernel, .flat (.int _) rfl⟩⟩, (List.forall_mem_cons.mpr ⟨⟨.inl ⟨_, .base (.str _), by decide +kernel⟩, ⟨.str "ab", by decide +kernel, .flat (.str _) rfl⟩⟩, (List.forall_mem_cons.mpr ⟨⟨.inl ⟨_, .base (.dK g1), by decide +kernel⟩, ⟨.dict [], by decide +kernel, .dict0 g1⟩⟩, (List.forall_mem_cons.mpr ⟨⟨.inl ⟨_, .base (.lst g2), by decide +kernel⟩, ⟨.list [.int 1, .int 2], by decide +kernel, .lst (SqL.of g2) (.cons (.flat (.int _) rfl) (.cons (.flat (.int _) rfl) .nil))⟩⟩, (List.forall_mem_cons.mpr ⟨⟨.inr ⟨_, _, rfl, g3, .inl (by simp)⟩, ⟨.tuple [.int 1], by decide +kernel, .tup (SqT.of g3) (.cons (.flat (.int _) rfl) .nil)⟩⟩, (List.forall_mem_cons.mpr ⟨⟨.inr ⟨_, _, rfl, g4, .inl (by simp)⟩, ⟨.tuple [.int 1, .int 2, .int 3], by decide +kernel, .tup (SqT.of g4) (.cons (.flat (.int _) rfl) (.cons (.flat (.int _) rfl) (.cons (.flat (.int _) rfl) .nil)))⟩⟩, (List.forall_mem_cons.mpr ⟨⟨.inr ⟨_, _, rfl, g5, .inr ⟨_, _, rfl, .inl (.inl (.of_bl _))⟩⟩, ⟨.tuple [.bool true, .int 2], by decide +kernel, .tup (SqT.of g5) (.cons (.flat (.bl _) rfl) (.cons (.flat (.int _) rfl) .nil))⟩⟩, (List.forall_mem_cons.mpr ⟨⟨.inr ⟨_, _, rfl, g6, .inr ⟨_, _, rfl, .inr ⟨1, rfl, .inl (.of_bl _)⟩⟩⟩, ⟨.tuple [.int 1, .bool true], by decide +kernel, .tup (SqT.of g6) (.cons (.flat (.int _) rfl) (.cons (.flat (.bl _) rfl) .nil))⟩⟩, (List.forall_mem_cons.mpr ⟨⟨.inr ⟨_, _, rfl, g7, .inr ⟨_, _, rfl, .inl (.inr ⟨_, rfl, by decide⟩)⟩⟩, ⟨.tuple [.int (-1), .int 2], by decide +kernel, .tup (SqT.of g7) (.cons (.flat (.int _) rfl) (.cons (.flat (.int _) rfl) .nil))⟩⟩, (List.forall_mem_cons.mpr ⟨⟨.inr ⟨_, _, rfl, g8, .inr ⟨_, _, rfl, .inr ⟨1, rfl, .inr ⟨_, rfl, by decide⟩⟩⟩⟩, ⟨.tuple [.int 1, .int 0], by decide +kernel, .tup (SqT.of g8) (.cons (.flat (.int _) rfl) (.cons (.flat (.int _) rfl) .nil))⟩⟩, (List.forall_mem_cons.mpr ⟨⟨.inr ⟨_, _, rfl, g9, .inr ⟨_, _, rfl, .inr ⟨1, rfl, .inr ⟨_, rfl, by decide⟩⟩⟩⟩, ⟨.tuple [.int 1, .int (-3)], by decide +kernel, .tup (SqT.of g9) (.cons (.flat (.int _) rfl) (.cons (.flat (.int _) rfl) .nil))⟩⟩, (List.forall_mem_cons.mpr ⟨⟨.inr ⟨_, _, rfl, g10, .inr ⟨_, _, rfl, .inl (.inl (.of_str _))⟩⟩, ⟨.tuple [.str "1", .int 2], by decide +kernel, .tup (SqT.of g10) (.cons (.flat (.str _) rfl) (.cons (.flat (.int _) rfl) .nil))⟩⟩, (List.forall_mem_cons.mpr ⟨⟨.inr ⟨_, _, rfl, g12, .inr ⟨_, _, rfl, .inr ⟨1, rfl, .inl .of_non⟩⟩⟩, ⟨.tuple [.int 1, .none], by decide +kernel, .tup (SqT.of g12) (.cons (.flat (.int _) rfl) (.cons (.flat .non rfl) .nil))⟩⟩, (List.forall_mem_cons.mpr ⟨⟨.inr ⟨_, _, rfl, g14, .inr ⟨_, _, rfl, .inl (.inl (.of_dK g13))⟩⟩, ⟨.tuple [.dict [], .int 1], by decide +kernel, .tup (SqT.of g14) (.cons (.dict0 g13) (.cons (.flat (.int _) rfl) .nil))⟩⟩, (List.forall_mem_cons.mpr ⟨⟨.inr ⟨_, _, rfl, g16, .inr ⟨_, _, rfl, .inl (.inl (.of_lst g15))⟩⟩, ⟨.tuple [.list [.int 1], .int 2], by decide +kernel, .tup (SqT.of g16) (.cons (.lst (SqL.of g15) (.cons (.flat (.int _) rfl) .nil)) (.cons (.flat (.int _) rfl) .nil))⟩⟩, (List.forall_mem_cons.mpr ⟨⟨.inr ⟨_, _, rfl, g17, .inr ⟨_, _, rfl, .inr ⟨2, rfl, .inl (.of_str _)⟩⟩⟩, ⟨.tuple [.int 2, .str "3"], by decide +kernel, .tup (SqT.of g17) (.cons (.flat (.int _) rfl) (.cons (.flat (.str _) rfl) .nil))⟩⟩, (List.forall_mem_cons.mpr ⟨⟨.inr ⟨_, _, rfl, g18, .inl (by simp)⟩, ⟨.tuple [], by decide +kernel, .tup (SqT.of g18) .nil⟩⟩, (fun _ hh => nomatch hh)⟩)⟩)⟩)⟩)⟩)⟩)⟩)⟩)⟩)⟩)⟩)⟩)⟩)⟩)⟩)⟩)⟩)⟩)
    refine ⟨_, rfl, ps, 18, rfl, by decide, by decide, (hsrc.stp_same s0).src, fun r H2 hr s2 => ?_⟩
    obtain ⟨v, eL2, hx, q⟩ := pick24 (K := K) (Pr := fun H x => BadPair K H x) hsrc s0 eL fL hb c r H2 (by simp; omega) s2
    exact ⟨L, _, r, _, rfl, rfl, SqL.of eL2, atI_nat hx, q⟩
end
/-! ### laws k31, k34: a row with none to two things put otherwise -/
theorem ixn24 {n k : Nat} (h : k < n) : ixN n (k : Int) = some k := by
  unfold ixN
  have h1 : (0 : Int) ≤ (k : Int) := Int.natCast_nonneg k
  simp [h1, h]
def mixL : List Bool → List V → List V → List V
  | b :: bs, o :: os, x :: xs => (if b then o else x) :: mixL bs os xs
  | _, _, _ => []
/-- the word of the first thing that is marked -/
def firstW : List Bool → List Str → Str
  | true :: _, w :: _ => w
  | false :: bs, _ :: ws => firstW bs ws
  | _, _ => "told"
theorem mix_len : ∀ {n : Nat} {bs : List Bool} {os xs : List V}, bs.length = n → os.length = n → xs.length = n → (mixL bs os xs).length = n
  | 0, [], [], [], _, _, _ => rfl
  | n + 1, b :: bs, o :: os, x :: xs, h1, h2, h3 => congrArg Nat.succ (mix_len (n := n) (Nat.succ.inj h1) (Nat.succ.inj h2) (Nat.succ.inj h3))
theorem mix_set : ∀ {n i : Nat} {bs : List Bool} {os xs : List V} {o : V}, bs.length = n → os.length = n → xs.length = n → os[i]? = some o → (mixL bs os xs).set i o = mixL (bs.set i true) os xs
  | n + 1, 0, b :: bs, o :: os, x :: xs, _, _, _, _, h => by
    cases h
    rfl
  | n + 1, i + 1, b :: bs, o :: os, x :: xs, _, h1, h2, h3, h => congrArg ((if b then o else x) :: ·) (mix_set (n := n) (Nat.succ.inj h1) (Nat.succ.inj h2) (Nat.succ.inj h3) h)
  | 0, i, [], [], [], _, _, _, _, h => by cases h
theorem mix_none : ∀ {os xs : List V}, os.length = xs.length → mixL (List.replicate xs.length false) os xs = xs
  | [], [], _ => rfl
  | o :: os, x :: xs, h => congrArg (x :: ·) (mix_none (Nat.succ.inj h))
theorem first_of : ∀ {bs : List Bool} {ns : List Str} {i : Nat} {w : Str}, bs[i]? = some true → ns[i]? = some w → (∀ j, j < i → bs[j]? = some false) → bs.length = ns.length → firstW bs ns = w
  | b :: bs, n :: ns, 0, w, h1, h2, _, _ => by
    cases h1
    cases h2
    rfl
  | b :: bs, n :: ns, i + 1, w, h1, h2, h3, hl => by
    have z := h3 0 (Nat.zero_lt_succ i)
    cases z
    exact first_of (bs := bs) (ns := ns) (i := i) h1 h2 (fun j hj => h3 (j + 1) (Nat.succ_lt_succ hj)) (Nat.succ.inj hl)
  | [], _, _, _, h1, _, _, _ => by cases h1
  | _ :: _, [], _, _, _, h2, _, _ => by cases h2
theorem first_none : ∀ {bs : List Bool} {ns : List Str}, (∀ j, j < bs.length → bs[j]? = some false) → firstW bs ns = "told"
  | [], _, _ => rfl
  | b :: bs, [], h => by
    have z := h 0 (Nat.zero_lt_succ _)
    cases z
    rfl
  | b :: bs, n :: ns, h => by
    have z := h 0 (Nat.zero_lt_succ _)
    cases z
    exact first_none (bs := bs) (ns := ns) fun j hj => h (j + 1) (Nat.succ_lt_succ hj)
/-- two rows of a number and a word, the lesser one first -/
theorem ms_two {α : Type} {le : α → α → Bool} (x y : α) : [x, y].mergeSort le = if le x y = true then [x, y] else [y, x] := by
  simp [List.mergeSort, List.MergeSort.Internal.splitInTwo, List.merge]
def rowW (l : Nat) (w : Str) : PyData := .tuple [.int (l : Nat), .str w]
theorem row_le {a b : Nat} {u v : Str} (h : a < b) : PySem.W.dataLt (rowW a u) (rowW b v) = true ∧ PySem.W.dataLt (rowW b v) (rowW a u) = false := by
  unfold rowW
  rw [PySem.W.dataLt_pair rfl rfl, PySem.W.dataLt_pair rfl rfl]
  have e1 : PyData.eqv (.int (a : Nat)) (.int (b : Nat)) = false := by
    show decide (((a : Nat) : Int) = ((b : Nat) : Int)) = false
    exact decide_eq_false (by omega)
  have e2 : PyData.eqv (.int (b : Nat)) (.int (a : Nat)) = false := by
    show decide (((b : Nat) : Int) = ((a : Nat) : Int)) = false
    exact decide_eq_false (by omega)
  rw [e1, e2, if_neg Bool.false_ne_true, if_neg Bool.false_ne_true, PySem.W.dataLt_int, PySem.W.dataLt_int]
  exact ⟨decide_eq_true (by omega), decide_eq_false (by omega)⟩
/-- the rows as data, and the least of them -/
theorem spoilt_rows {K : PySem.W.Frag} {L : List Nat} {ts : List Addr} {nms : List Str} {H : Hp} (ht : ts.length = L.length) (h2 : L.length ≤ 2) (hts : ∀ (j : Nat) (t : Addr), ts[j]? = some t → ∃ (l : Nat) (w : Str), L[j]? = some l ∧ nms[l]? = some w ∧ H t = some (.tup [.int (l : Nat), .str w])) :
    ∃ zs : List (V × PyData), zs.map (·.1) = ts.map V.ref ∧ (∀ z ∈ zs, Dp K H z.1 z.2) ∧ PySem.W.AllAlike (zs.map (·.2)) ∧ PySem.W.Sortable (zs.map (·.2)) ∧ (∀ z ∈ zs, z.2.depth ≤ 50) ∧
      ((L = [] ∧ zs.mergeSort (PySem.W.dataLe false (·.2)) = []) ∨ ∃ (t : Addr) (l : Nat) (w : Str) (r : List V), (zs.mergeSort (PySem.W.dataLe false (·.2))).map (·.1) = .ref t :: r ∧ r.length ≤ 1 ∧ H t = some (.tup [.int (l : Nat), .str w]) ∧ l ∈ L ∧ nms[l]? = some w ∧ ∀ j ∈ L, l ≤ j) := by
  have al : ∀ a b u v, PySem.W.alike (rowW a u) (rowW b v) = true := fun a b u v => rfl
  have dep : ∀ a u, (rowW a u).depth ≤ 50 := fun a u => by
    show max 0 (max 0 0) + 1 ≤ 50
    decide
  match L, ts, ht, h2, hts with
  | [], [], _, _, _ => exact ⟨[], rfl, fun z hz => (nomatch hz), fun z hz => (nomatch hz), .inl fun z hz => (nomatch hz), fun z hz => (nomatch hz), .inl ⟨rfl, by simp⟩⟩
  | [a], [t], _, _, hts =>
    obtain ⟨l, u, g1, g2, g3⟩ := hts 0 t rfl
    cases g1
    refine ⟨[(.ref t, rowW a u)], rfl, fun z hz => ?_, fun x hx y hy => ?_, .inl fun z hz => ?_, fun z hz => ?_, .inr ⟨t, a, u, [], by simp, by decide, g3, by simp, g2, fun j hj => by rw [List.mem_singleton.mp hj]; exact Nat.le_refl _⟩⟩
    · rw [List.mem_singleton.mp hz]
      exact .tup (SqT.of g3) (.cons (.int _) (.cons (.str _) .nil))
    · rw [List.mem_singleton.mp hx, List.mem_singleton.mp hy]
      exact al _ _ _ _
    · rw [List.mem_singleton.mp hz]
      exact ⟨_, _, rfl⟩
    · rw [List.mem_singleton.mp hz]
      exact dep _ _
  | [a, b], [t, s], _, _, hts =>
    obtain ⟨l, u, g1, g2, g3⟩ := hts 0 t rfl
    cases g1
    obtain ⟨l, v, k1, k2, k3⟩ := hts 1 s rfl
    cases k1
    refine ⟨[(.ref t, rowW a u), (.ref s, rowW b v)], rfl, fun z hz => ?_, fun x hx y hy => ?_, .inl fun z hz => ?_, fun z hz => ?_, .inr ?_⟩
    · rcases List.mem_cons.mp hz with rfl | hz
      · exact .tup (SqT.of g3) (.cons (.int _) (.cons (.str _) .nil))
      · rw [List.mem_singleton.mp hz]
        exact .tup (SqT.of k3) (.cons (.int _) (.cons (.str _) .nil))
    · have e : ∀ x ∈ [rowW a u, rowW b v], ∃ l w, x = rowW l w := fun x hx => by
        rcases List.mem_cons.mp hx with rfl | hx
        · exact ⟨_, _, rfl⟩
        · rw [List.mem_singleton.mp hx]
          exact ⟨_, _, rfl⟩
      obtain ⟨_, _, rfl⟩ := e x hx
      obtain ⟨_, _, rfl⟩ := e y hy
      exact al _ _ _ _
    · rcases List.mem_cons.mp hz with rfl | hz
      · exact ⟨_, _, rfl⟩
      · rw [List.mem_singleton.mp hz]
        exact ⟨_, _, rfl⟩
    · rcases List.mem_cons.mp hz with rfl | hz
      · exact dep _ _
      · rw [List.mem_singleton.mp hz]
        exact dep _ _
    · rw [ms_two]
      have de : PySem.W.dataLe false (fun z : V × PyData => z.2) (.ref t, rowW a u) (.ref s, rowW b v) = !PySem.W.dataLt (rowW b v) (rowW a u) := rfl
      rw [de]
      by_cases lt : b < a
      · rw [(row_le (u := v) (v := u) lt).1]
        exact ⟨s, b, v, [.ref t], rfl, by simp, k3, by simp, k2, fun j hj => by
          rcases List.mem_cons.mp hj with rfl | hj
          · omega
          · rw [List.mem_singleton.mp hj]
            exact Nat.le_refl _⟩
      · have key : ∃ x, (!PySem.W.dataLt (rowW b v) (rowW a u)) = x := ⟨_, rfl⟩
        obtain ⟨x, hx⟩ := key
        rw [hx]
        cases x with
        | true =>
          exact ⟨t, a, u, [.ref s], rfl, by simp, g3, by simp, g2, fun j hj => by
            rcases List.mem_cons.mp hj with rfl | hj
            · exact Nat.le_refl _
            · rw [List.mem_singleton.mp hj]
              omega⟩
        | false =>
          refine ⟨s, b, v, [.ref t], rfl, by simp, k3, by simp, k2, fun j hj => ?_⟩
          have e : a = b := by
            by_cases c : a < b
            · rw [(row_le (u := u) (v := v) c).2] at hx
              cases hx
            · omega
          rcases List.mem_cons.mp hj with rfl | hj
          · omega
          · rw [List.mem_singleton.mp hj]
            exact Nat.le_refl _
section
variable {P : Program} {w : World} {K : PySem.W.Frag} {mg : Str → Option Value} {base : Heap}
def spSpoilt (K : PySem.W.Frag) : Sp := fun vs H Q _ => ∃ (ps R O N : Addr) (xs os : List V) (nms : List Str), vs = [.ref ps, .ref R, .ref O, .ref N] ∧ SrcAt H ps ∧ SqL K H R xs ∧ SqL K H O os ∧ SqL K H N (nms.map V.str) ∧ os.length = xs.length ∧ nms.length = xs.length ∧ 1 ≤ xs.length ∧ xs.length ≤ 9 ∧ R ≠ ps ∧ O ≠ ps ∧ N ≠ ps ∧
  ∀ H' T F (bs : List Bool), Stp ps H H' → H T = none → H F = none → H' T = some (.tup [.ref F, .str (firstW bs nms)]) → H' F = some (.lst (mixL bs os xs)) → bs.length = xs.length → Q (.ref T) H'
theorem ok_spoilt {f : Addr} {fd : FuncData} (F : Fun K "_law_spoilt" "_law_spoilt" s__law_spoilt f fd) (T : Tx K mg) (h1 : Has P w K mg base 2 "_law_next" ["_law_source_here", "_law_many"] [] spNext) : FnOk P w K mg base CX0 3 f fd ["_law_source_here", "_law_row", "_law_odd", "_law_names"] (spSpoilt K) := by
  obtain ⟨f__law_next, fd__law_next, ds__law_next, G__law_next, m__law_next, k__law_next, b__law_next, v__law_next⟩ := h1
  refine F.ok sc__law_spoilt (fun vs H Q E h => ?_) (fun cdv A outer s H vs Q E hr h => ?_)
  · obtain ⟨ps, R, O, N, xs, os, nms, rfl, _⟩ := h
    rfl
  · obtain ⟨ps, R, O, N, xs, os, nms, rfl, hsrc, hR, hO, hN, lo, ln, l1, l9, nR, nO, nN, c⟩ := h
    refine ⟨_, (pss_cons (ps_set (i := 4) sc__law_spoilt.nd rfl (.inl rfl) (pe_callTy call_list_of (by rfl) T.b_list (by decide +kernel) (pa_cons (pv 1) pa_nil)))
      (pss_cons (ps_set (i := 5) sc__law_spoilt.nd rfl (.inl rfl) (pe_lst pa_nil))
      (pss_cons (ps_for PassesOwn.never rfl (pi_range1 (by rfl) T.b_range (pa_cons (pe_call G__law_next hr (by rfl) m__law_next k__law_next b__law_next v__law_next pass0 (pa_cons (pv 0) (pa_cons pe_int pa_nil))) pa_nil)) (pg_name (i := 6) sc__law_spoilt.nd rfl (.inl rfl))
        (pss_cons (ps_set (i := 7) sc__law_spoilt.nd rfl (.inl rfl) (pe_call G__law_next hr (by rfl) m__law_next k__law_next b__law_next v__law_next pass0 (pa_cons (pv 0) (pa_cons (pe_callB (lenK (K := K) rfl) (by rfl) T.b_len PySem.boot_len (pa_cons (pv 1) pa_nil)) pa_nil))))
        (pss_cons (ps_asg (pe_ix (ix_listK (K := K) rfl) (pv 2) (pv 7) (fun _ _ => rfl)) (pg_sub (pv 4) (pv 7) set_list))
        (pss_one (ps_expr (pe_bm PySem.F.plainAttrs_list PySem.F.slot_list_append PySem.F.type_list_append mt_append (pv 5) (pa_cons (pv 7) pa_nil)))))))
      (pss_one (ps_ret (pe_tup (pa_cons (pv 4) (pa_cons (pe_ix (ix_tupK (K := K) rfl) (pe_ix (ix_listK (K := K) rfl) (pe_op op_cat (pe_callB (sortDK (K := K) rfl hr.units) (by rfl) T.b_sorted (by decide +kernel) (pa_cons (pe_lc (own := [("_law_at", 7)]) (g := gName 7) (tt := tYes) rfl sc__law_spoilt.nd (pi_list (pv 5)) (blkOk_by (own := [("_law_at", 7)]) (N := N__law_spoilt) (sc := defScope s__law_spoilt) (by decide +kernel)) (fun _ _ _ _ _ => (pg_name (i := 7) sc__law_spoilt.nd rfl (.inl rfl))) (fun _ _ _ _ _ => pts_nil) (fun _ _ _ _ _ => (pe_tup (pa_cons (pv 7) (pa_cons (pe_ix (ix_listK (K := K) rfl) (pv 3) (pv 7) (fun _ _ => rfl)) pa_nil))))) pa_nil)) (pe_lst (pa_cons (pe_tup (pa_cons pe_int (pa_cons pe_str pa_nil))) pa_nil))) pe_int (fun _ _ => rfl)) pe_int (fun _ _ => rfl)) pa_nil)))))))), ?_⟩
    refine ⟨.ref R, rfl, R, xs, rfl, .inl hR, fun F hF => ?_⟩
    have sF := same_upd (o := .lst xs) hF
    have eF : (upd H F (.lst xs)) F = some (.lst xs) := upd_same
    generalize upd H F (.lst xs) = H1 at sF eF ⊢
    refine ⟨by simp [sizeLine_eq], fun B hB => ?_⟩
    have sB := same_upd (o := .lst []) hB
    have eB : (upd H1 B (.lst [])) B = some (.lst []) := upd_same
    generalize upd H1 B (.lst []) = H2 at sB eB ⊢
    have s02 := sF.trans sB
    have fB : H B = none := sF.free hB
    have nF : F ≠ ps := hsrc.ne hF
    have nB : B ≠ ps := hsrc.ne fB
    have nBF : B ≠ F := fun z => by
      rw [z, eF] at hB
      cases hB
    have st2 := hsrc.stp_same s02
    refine ⟨_, rfl, ps, 3, rfl, by decide, by decide, st2.src, fun r H3 hr3 s3 => ⟨(r : Nat), rfl, by omega, by omega, for_range (Pv := fun i σ H' => Stp ps H H' ∧ ∃ (L : List Nat) (bs : List Bool) (y6 y7 : Option V), L.length = i ∧ (∀ j ∈ L, j < xs.length) ∧ bs.length = xs.length ∧ (∀ j, j < xs.length → bs[j]? = some (decide (j ∈ L))) ∧ H' F = some (.lst (mixL bs os xs)) ∧ H' B = some (.lst (L.map fun j => V.int (j : Nat))) ∧ σ = [some (.ref ps), some (.ref R), some (.ref O), some (.ref N), some (.ref F), some (.ref B), y6, y7])
      ⟨st2.trans s3, [], List.replicate xs.length false, none, none, rfl, fun j hj => (nomatch hj), List.length_replicate, fun j hj => ?_, ?_, s3.keep _ _ nB eB, rfl⟩ ?_ ?_⟩⟩
    · rw [List.getElem?_replicate, if_pos hj]
      rfl
    · rw [mix_none lo]
      exact s3.keep _ _ nF (sB _ _ eF)
    · rintro i σ H' hi ⟨st, L, bs, y6, y7, hL, hLn, lb, hbs, eF', eB', rfl⟩
      refine ⟨_, rfl, .ref R, rfl, R, xs, rfl, .inl (st.seqL nR hR), ps, ((xs.length : Nat) : Int), rfl, by omega, by omega, st.src, fun at_ H4 hat s4 => ?_⟩
      have at9 : at_ < xs.length := by omega
      have st4 := st.trans s4
      have ho : os[at_]? = some os[at_] := List.getElem?_eq_getElem (by omega)
      have eF4 := s4.keep _ _ nF eF'
      have eB4 := s4.keep _ _ nB eB'
      refine ⟨.ref O, rfl, .int (at_ : Nat), rfl, O, os, (at_ : Nat), os[at_], rfl, rfl, st4.seqL nO hO, atI_nat ho, .ref F, rfl, .int (at_ : Nat), rfl, F, _, (at_ : Nat), at_, rfl, rfl, eF4, ixn24 (by rw [mix_len lb lo rfl]; exact at9), ?_⟩
      have eB5 : (upd H4 F (.lst ((mixL bs os xs).set at_ os[at_]))) B = some (.lst (L.map fun j => V.int (j : Nat))) := by
        rw [upd_ne nBF]
        exact eB4
      have nFB : F ≠ B := fun z => nBF z.symm
      refine ⟨.ref B, rfl, .inl ⟨rfl, _, SqL.of eB5⟩, .int (at_ : Nat), rfl, B, _, _, rfl, rfl, eB5, ?_, ⟨fun b o n e => ?_, ?_⟩, L ++ [at_], bs.set at_ true, _, _, ?_, fun j hj => ?_, ?_, fun j hj => ?_, ?_, ?_, rfl⟩
      · rw [List.length_map]
        exact sizeLine_ge (by omega)
      · rw [upd_ne (ne_of_none e fB), upd_ne (ne_of_none e hF)]
        exact st4.keep _ _ n e
      · obtain ⟨x, y, u, h⟩ := s4.src
        exact ⟨x, y, u, by rw [upd_ne nB.symm, upd_ne nF.symm]; exact h⟩
      · rw [List.length_append, hL]
        rfl
      · rcases List.mem_append.mp hj with hj | hj
        · exact hLn j hj
        · rw [List.mem_singleton.mp hj]
          exact at9
      · rw [List.length_set]
        exact lb
      · by_cases e : at_ = j
        · subst e
          rw [List.getElem?_set_self (by omega), decide_eq_true (List.mem_append.mpr (.inr (List.mem_singleton.mpr rfl)))]
        · rw [List.getElem?_set_ne e, hbs j hj]
          congr 1
          by_cases m : j ∈ L
          · rw [decide_eq_true m, decide_eq_true (List.mem_append.mpr (.inl m))]
          · rw [decide_eq_false m, decide_eq_false fun z => by
              rcases List.mem_append.mp z with z | z
              · exact m z
              · exact e (List.mem_singleton.mp z).symm]
      · rw [upd_ne nFB, upd_same, mix_set lb lo rfl ho]
      · rw [upd_same, List.map_append]
        rfl
    · rintro σ H' ⟨st, L, bs, y6, y7, hL, hLn, lb, hbs, eF', eB', rfl⟩
      have hL2 : L.length ≤ 2 := by omega
      have hN' := st.seqL nN hN
      -- the rows of what is marked
      refine ⟨.ref F, rfl, ?_⟩
      refine ⟨_, rfl, B, rfl, ⟨_, SqL.of eB'⟩, fun D hD => lc_list (K := K) (a := B) (xs := L.map fun j => V.int (j : Nat)) (fun i G => Same H' G ∧ ∃ (ts : List Addr), ts.length = i ∧ G D = some (.lst (ts.map V.ref)) ∧ ∀ (j : Nat) (t : Addr), ts[j]? = some t → ∃ (l : Nat) (w : Str), L[j]? = some l ∧ nms[l]? = some w ∧ G t = some (.tup [.int (l : Nat), .str w]))
        ⟨same_upd hD, [], rfl, upd_same, fun j t h => by simp at h⟩ (fun i G _ ⟨sm, _⟩ => SqL.of (sm _ _ eB')) ?_ ?_⟩
      · rintro i x G hx ⟨sm, ts, ht, eD, hts⟩
        obtain ⟨l, hl, rfl⟩ : ∃ l, L[i]? = some l ∧ x = .int (l : Nat) := by
          rw [List.getElem?_map] at hx
          obtain ⟨y, h1, h2⟩ := Option.map_eq_some_iff.mp hx
          exact ⟨y, h1, h2.symm⟩
        have hln := hLn l (List.mem_of_getElem? hl)
        have hw : nms[l]? = some nms[l] := List.getElem?_eq_getElem (by omega)
        refine ⟨rfl, yesT (iteT ⟨.int (l : Nat), rfl, .ref N, rfl, .int (l : Nat), rfl, N, _, (l : Nat), .str nms[l], rfl, rfl, sm.seq hN', atI_nat (by rw [List.getElem?_map, hw]; rfl), by simp [sizeLine_eq], fun t htn => ?_⟩)⟩
        have s3 := same_upd (o := .tup [.int (l : Nat), .str nms[l]]) htn
        have et : (upd G t (.tup [.int (l : Nat), .str nms[l]])) t = some (.tup [.int (l : Nat), .str nms[l]]) := upd_same
        generalize upd G t (.tup [.int (l : Nat), .str nms[l]]) = G3 at s3 et ⊢
        have eD3 := s3 _ _ eD
        have ntD : ∀ {b : Addr} {ys : List V}, G3 b = some (.tup ys) → b ≠ D := fun e z => by
          rw [z, eD3] at e
          cases e
        refine ⟨_, eD3, ?_, fun b o e => ?_, ts ++ [t], ?_, ?_, fun j u hu => ?_⟩
        · rw [List.length_map, ht]
          have := (List.getElem?_eq_some_iff.mp hl).1
          exact sizeLine_ge (by omega)
        · rw [upd_ne (ne_of_none e hD)]
          exact s3 _ _ (sm _ _ e)
        · rw [List.length_append, ht]
          rfl
        · rw [upd_same, List.map_append]
          rfl
        · by_cases hj : j < ts.length
          · rw [List.getElem?_append_left hj] at hu
            obtain ⟨l', w', g1, g2, g3⟩ := hts j u hu
            refine ⟨l', w', g1, g2, ?_⟩
            have z := s3 _ _ g3
            rw [upd_ne (ntD z)]
            exact z
          · have hj2 : j = ts.length := by
              have z := (List.getElem?_eq_some_iff.mp hu).1
              rw [List.length_append] at z
              simp at z
              omega
            subst hj2
            rw [List.getElem?_append_right (Nat.le_refl _), Nat.sub_self] at hu
            cases hu
            refine ⟨l, nms[l], by rw [ht]; exact hl, hw, ?_⟩
            rw [upd_ne (ntD et)]
            exact et
      rintro G ⟨sm, ts, ht, eD, hts⟩
      rw [List.length_map] at ht
      -- sorted: the least of them first
      obtain ⟨zs, z1, z2, z3⟩ := spoilt_rows (K := K) (L := L) (ts := ts) (nms := nms) (H := G) ht hL2 hts
      refine ⟨D, zs, rfl, by rw [z1]; exact SqL.of eD, z2, z3.1, z3.2.1, z3.2.2.1, fun S hS => ?_⟩
      have z4 := z3.2.2.2
      have zlen : (zs.mergeSort (PySem.W.dataLe false (·.2))).length ≤ 2 := by
        rw [List.length_mergeSort]
        have := congrArg List.length z1
        rw [List.length_map, List.length_map] at this
        omega
      generalize zs.mergeSort (PySem.W.dataLe false (·.2)) = sz at z4 zlen ⊢
      have sS := same_upd (o := .lst (sz.map (·.1))) hS
      have eS : (upd G S (.lst (sz.map (·.1)))) S = some (.lst (sz.map (·.1))) := upd_same
      generalize upd G S (.lst (sz.map (·.1))) = G1 at sS eS ⊢
      refine ⟨by simp [sizeLine_eq], fun t9 ht9 => ?_⟩
      have s9 := same_upd (o := .tup [.int 9, .str "told"]) ht9
      have e9 : (upd G1 t9 (.tup [.int 9, .str "told"])) t9 = some (.tup [.int 9, .str "told"]) := upd_same
      generalize upd G1 t9 (.tup [.int 9, .str "told"]) = G2 at s9 e9 ⊢
      refine ⟨by simp [sizeLine_eq], fun l hl => ?_⟩
      have sl := same_upd (o := .lst [.ref t9]) hl
      have el : (upd G2 l (.lst [.ref t9])) l = some (.lst [.ref t9]) := upd_same
      generalize upd G2 l (.lst [.ref t9]) = G3 at sl el ⊢
      refine ⟨S, l, _, _, rfl, rfl, sl _ _ (s9 _ _ eS), el, ?_, fun M hM => ?_⟩
      · rw [List.length_map]
        exact sizeLine_le (by show _ + 1 ≤ 1000000; omega)
      have sM := same_upd (o := .lst (sz.map (·.1) ++ [.ref t9])) hM
      have eM : (upd G3 M (.lst (sz.map (·.1) ++ [.ref t9]))) M = some (.lst (sz.map (·.1) ++ [.ref t9])) := upd_same
      generalize upd G3 M (.lst (sz.map (·.1) ++ [.ref t9])) = G4 at sM eM ⊢
      have s14 := ((sS.trans s9).trans sl).trans sM
      have st' := st.same (sm.trans s14)
      have eF4 := (sm.trans s14) _ _ eF'
      have fin : ∀ (TT : Addr) (wd : Str), G4 TT = none → wd = firstW bs nms → Q (.ref TT) (upd G4 TT (.tup [.ref F, .str wd])) := fun TT wd hT hw => by
        refine c _ TT F bs (st'.same (same_upd hT)) (st'.free hT) hF (by rw [upd_same, hw]) (same_upd hT _ _ eF4) lb
      rcases z4 with ⟨rfl, rfl⟩ | ⟨t, l0, w0, r, ez, hr, et, hl0, hw0, hmin⟩
      · refine ⟨M, _, 0, _, rfl, rfl, SqL.of eM, atI_nat (j := 0) rfl, t9, _, 1, _, rfl, rfl, .inl (.inl (sM _ _ (sl _ _ e9))), atI_nat (j := 1) rfl, by simp [sizeLine_eq], fun TT hTT => fin TT _ hTT (first_none fun j hj => ?_).symm⟩
        rw [hbs j (by omega)]
        rfl
      · rw [ez] at eM
        refine ⟨M, _, 0, _, rfl, rfl, SqL.of eM, atI_nat (j := 0) rfl, t, _, 1, _, rfl, rfl, .inl (.inl (s14 _ _ et)), atI_nat (j := 1) rfl, by simp [sizeLine_eq], fun TT hTT => fin TT _ hTT (first_of (i := l0) ?_ hw0 (fun j hj => ?_) (by rw [lb, ln])).symm⟩
        · rw [hbs l0 (hLn l0 hl0), decide_eq_true hl0]
        · rw [hbs j (by have := hLn l0 hl0; omega), decide_eq_false fun z => by have := hmin j z; omega]
end
/-! ### data where tables of lambdas grow -/
theorem tyOf_ext {K : PySem.W.Frag} {H H' : Hp} (s : LamX.ExtN H H') {x : V} {t : Value} (h : TyOf K H x t) : TyOf K H' x t := by
  cases h with
  | non => exact .non
  | bl x => exact .bl x
  | int i => exact .int i
  | str x => exact .str x
  | flt x => exact .flt x
  | lst e => exact .lst ((s _ _ e (fun _ z => by cases z)))
  | frz e => exact .frz ((s _ _ e (fun _ z => by cases z)))
  | tup e => exact .tup ((s _ _ e (fun _ z => by cases z)))
  | dK e => exact .dK ((s _ _ e (fun _ z => by cases z)))
  | dT e => exact .dT ((s _ _ e (fun _ z => by cases z)))
  | ins e cl ha hn htk hm => exact .ins ((s _ _ e (fun _ z => by cases z))) cl ha hn htk hm
theorem tyX_ext {K : PySem.W.Frag} {H H' : Hp} (s : LamX.ExtN H H') {x : V} {t : Value} (h : TyX K H x t) : TyX K H' x t := by
  cases h with
  | base h => exact .base (tyOf_ext s h)
  | byt b => exact .byt b
  | set e => exact .set ((s _ _ e (fun _ z => by cases z)))
  | kList e c => exact .kList e c
  | kTuple e c => exact .kTuple e c
  | kDict e c => exact .kDict e c
  | fTuple e => exact .fTuple ((s _ _ e (fun _ z => by cases z)))
  | fDict e => exact .fDict ((s _ _ e (fun _ z => by cases z)))
theorem NotA.ext {K : PySem.W.Frag} {H H' : Hp} {c : String} {x : V} (s : LamX.ExtN H H') (h : NotA K H c x) : NotA K H' c x := by
  obtain ⟨a, h1, h2⟩ := h
  exact ⟨a, tyX_ext s h1, h2⟩
theorem NoInt.ext {K : PySem.W.Frag} {H H' : Hp} {x : V} (s : LamX.ExtN H H') (h : NoInt K H x) : NoInt K H' x := by
  obtain ⟨t, h1, h2⟩ := h
  exact ⟨t, tyX_ext s h1, h2⟩
theorem BadTick.ext {K : PySem.W.Frag} {H H' : Hp} {x : V} {l : Int} (s : LamX.ExtN H H') (h : BadTick K H x l) : BadTick K H' x l := h.imp (·.ext s) id
theorem NoWord.ext {K : PySem.W.Frag} {H H' : Hp} {x : V} (s : LamX.ExtN H H') (h : NoWord K H x) : NoWord K H' x := h.imp (·.ext s) id
theorem BadBase.ext {K : PySem.W.Frag} {H H' : Hp} {x : V} (s : LamX.ExtN H H') (h : BadBase K H x) : BadBase K H' x := h.imp (·.ext s) id
theorem BadLevels.ext {K : PySem.W.Frag} {H H' : Hp} {x : V} (s : LamX.ExtN H H') (h : BadLevels K H x) : BadLevels K H' x := by
  rcases h with h | ⟨q, xs, e, hs, h⟩
  · exact .inl (h.ext s)
  · refine .inr ⟨q, xs, e, ExtN.seq s hs, ?_⟩
    rcases h with h | h | ⟨h1, h2, v, hv, h3⟩
    · exact .inl h
    · exact .inr (.inl h)
    · exact .inr (.inr ⟨h1, fun v hv => (h2 v hv).imp id (·.ext s), v, hv, h3.ext s⟩)
theorem BadPer.ext {K : PySem.W.Frag} {H H' : Hp} {x : V} (s : LamX.ExtN H H') (h : BadPer K H x) : BadPer K H' x := h.imp (·.ext s) id
theorem BadPair.ext {K : PySem.W.Frag} {H H' : Hp} {v : V} (s : LamX.ExtN H H') (h : BadPair K H v) : BadPair K H' v := by
  rcases h with h | ⟨a, xs, e, h, h2⟩
  · exact .inl (h.ext s)
  · exact .inr ⟨a, xs, e, (s _ _ h (fun _ z => by cases z)), h2.imp id fun ⟨x, y, e2, h3⟩ => ⟨x, y, e2, h3.imp (·.ext s) fun ⟨n, e3, h4⟩ => ⟨n, e3, h4.ext s⟩⟩⟩
theorem PairAt.ext {H H' : Hp} {v : V} {a p : Nat} (s : LamX.ExtN H H') (h : PairAt H v a p) : PairAt H' v a p := by
  obtain ⟨t, e, h, l⟩ := h
  exact ⟨t, e, (s _ _ h (fun _ z => by cases z)), l⟩
theorem BadTwo.ext {K : PySem.W.Frag} {H H' : Hp} {x y : V} (s : LamX.ExtN H H') (h : BadTwo K H x y) : BadTwo K H' x y := h.imp (·.ext s) fun ⟨a, p, h1, h2⟩ => ⟨a, p, h1.ext s, h2.imp (·.ext s) fun ⟨b, h3⟩ => ⟨b, h3.ext s⟩⟩
mutual
theorem dp_ext {K : PySem.W.Frag} {H H' : Hp} (s : LamX.ExtN H H') : ∀ {v : V} {d : PyData}, Dp K H v d → Dp K H' v d
  | _, _, .int i => .int i
  | _, _, .str x => .str x
  | _, _, .bl b => .bl b
  | _, _, .non => .non
  | _, _, .lst h t => .lst (ExtN.seq s h) (dps_ext s t)
  | _, _, .tup h t => .tup (h.elim (fun h => .inl (h.elim (fun h => .inl ((s _ _ h (fun _ z => by cases z)))) fun ⟨o, h⟩ => .inr ⟨o, (s _ _ h (fun _ z => by cases z))⟩)) .inr) (dps_ext s t)
theorem dps_ext {K : PySem.W.Frag} {H H' : Hp} (s : LamX.ExtN H H') : ∀ {vs : List V} {ds : List PyData}, DpAll K H vs ds → DpAll K H' vs ds
  | _, _, .nil => .nil
  | _, _, .cons h t => .cons (dp_ext s h) (dps_ext s t)
end
mutual
theorem DpE.ext {K : PySem.W.Frag} {H H' : Hp} (s : LamX.ExtN H H') : ∀ {v : V} {d : PyData}, DpE K H v d → DpE K H' v d
  | _, _, .flat h n => .flat (dp_ext s h) n
  | _, _, .dict0 h => .dict0 ((s _ _ h (fun _ z => by cases z)))
  | _, _, .lst h t => .lst (ExtN.seq s h) (DpEAll.ext s t)
  | _, _, .tup h t => .tup (h.elim (fun h => .inl (h.elim (fun h => .inl ((s _ _ h (fun _ z => by cases z)))) fun ⟨o, h⟩ => .inr ⟨o, (s _ _ h (fun _ z => by cases z))⟩)) .inr) (DpEAll.ext s t)
theorem DpEAll.ext {K : PySem.W.Frag} {H H' : Hp} (s : LamX.ExtN H H') : ∀ {vs : List V} {ds : List PyData}, DpEAll K H vs ds → DpEAll K H' vs ds
  | _, _, .nil => .nil
  | _, _, .cons h t => .cons (DpE.ext s h) (DpEAll.ext s t)
end
theorem Odd.ext {K : PySem.W.Frag} {H H' : Hp} {v : V} (s : LamX.ExtN H H') (h : Odd K H v) : Odd K H' v := by
  obtain ⟨d, t, h⟩ := h
  exact ⟨d, t, h.ext s⟩
theorem BadSeveral.ext {K : PySem.W.Frag} {H H' : Hp} {x : V} (s : LamX.ExtN H H') (h : BadSeveral K H x) : BadSeveral K H' x := by
  rcases h with h | ⟨S, xs, e, hS, l, h⟩
  · exact .inl (h.ext s)
  refine .inr ⟨S, xs, e, ExtN.seq s hS, l, ?_⟩
  rcases h with h | ⟨ne, h1, v, hv, h2⟩ | ⟨ss, prs, e2, h1, h2⟩
  · exact .inl h
  · exact .inr (.inl ⟨ne, fun v hv => (h1 v hv).imp (fun ⟨a, p, z⟩ => ⟨a, p, z.ext s⟩) (·.ext s), v, hv, h2.ext s⟩)
  · exact .inr (.inr ⟨ss, prs, e2, h1.frame fun t xs e => (s _ _ e (fun _ z => by cases z)), h2⟩)
theorem OrderBad.ext {K : PySem.W.Frag} {H H' : Hp} {x0 x1 x2 x3 : V} {e : Nat} (s : LamX.ExtN H H') (h : OrderBad K H x0 x1 x2 x3 e) : OrderBad K H' x0 x1 x2 x3 e := by
  refine h.imp (fun z => ⟨z.1, z.2.ext s⟩) fun ⟨h1, h2⟩ => ⟨h1, h2.imp (fun z => ⟨z.1, z.2.ext s⟩) fun ⟨⟨q, ws, e1, h3, h4⟩, h5⟩ => ⟨⟨q, ws, e1, ExtN.seq s h3, h4⟩, h5.imp (fun z => ⟨z.1, z.2.ext s⟩) fun ⟨S, ss, prs, e2, h6, h7, h8, h9, h10, h11, h12, h13⟩ => ⟨S, ss, prs, e2, (s _ _ h6 (fun _ z => by cases z)), h7.frame (fun t xs e => (s _ _ e (fun _ z => by cases z))), h8, h9, h10, h11, h12, h13.imp (·.ext s) id⟩⟩⟩
theorem TimesBad.ext {K : PySem.W.Frag} {H H' : Hp} {x0 x1 x2 x3 x4 x5 : V} {e : Nat} (s : LamX.ExtN H H') (h : TimesBad K H x0 x1 x2 x3 x4 x5 e) : TimesBad K H' x0 x1 x2 x3 x4 x5 e := by
  refine h.imp (fun z => ⟨z.1, z.2.ext s⟩) fun ⟨h1, h2⟩ => ⟨h1, h2.imp (fun z => ⟨z.1, z.2.ext s⟩) fun ⟨⟨q, ws, e1, h3, h4⟩, h5⟩ => ⟨⟨q, ws, e1, ExtN.seq s h3, h4⟩, h5.imp (fun z => ⟨z.1, z.2.ext s⟩) fun ⟨a1, p1, a2, p2, h6, h7, h8, h9, h10⟩ => ⟨a1, p1, a2, p2, h6.ext s, h7.ext s, h8, h9, h10.imp (·.ext s) fun ⟨d, e2, h11⟩ => ⟨d, e2, h11.ext s⟩⟩⟩⟩
/-! ### data of some depth and weight -/
def OddW (K : PySem.W.Frag) (H : Hp) (n m : Nat) (v : V) : Prop := ∃ d, d.depth ≤ n ∧ d.showable = true ∧ d.leavesShort 40 = true ∧ d.weight ≤ m ∧ DpE K H v d
theorem Odd.w {K : PySem.W.Frag} {H : Hp} {v : V} (h : Odd K H v) : OddW K H 4 3000 v := by
  obtain ⟨d, t, h⟩ := h
  unfold tinyB at t
  simp only [Bool.and_eq_true, decide_eq_true_eq] at t
  obtain ⟨⟨⟨t1, t2⟩, t3⟩, t4⟩ := t
  exact ⟨d, t1, t2, t3, t4, h⟩
theorem OddW.mono {K : PySem.W.Frag} {H : Hp} {n m n' m' : Nat} {v : V} (h : OddW K H n m v) (h1 : n ≤ n') (h2 : m ≤ m') : OddW K H n' m' v := by
  obtain ⟨d, t1, t2, t3, t4, h⟩ := h
  exact ⟨d, by omega, t2, t3, by omega, h⟩
theorem oddw_str {K : PySem.W.Frag} {H : Hp} (s : Str) (h1 : (PyData.str s).leavesShort 40 = true) (h2 : (PyData.str s).weight ≤ 20) : OddW K H 0 20 (.str s) := ⟨.str s, Nat.le_refl _, rfl, h1, h2, .flat (.str s) rfl⟩
theorem oddw_all {K : PySem.W.Frag} {H : Hp} {n m : Nat} : ∀ {xs : List V}, (∀ x ∈ xs, OddW K H n m x) → ∃ ds, DpEAll K H xs ds ∧ PyData.depthAll ds ≤ n ∧ PyData.showableAll ds = true ∧ PyData.leavesShortAll 40 ds = true ∧ PyData.weightAll ds ≤ (m + 1) * xs.length
  | [], _ => ⟨[], .nil, Nat.zero_le _, rfl, rfl, Nat.zero_le _⟩
  | x :: xs, h => by
    obtain ⟨ds, a1, a2, a3, a4, a5⟩ := oddw_all (xs := xs) fun y hy => h y (List.mem_cons_of_mem _ hy)
    obtain ⟨d, t1, t2, t3, t4, hd⟩ := h x List.mem_cons_self
    refine ⟨d :: ds, .cons hd a1, ?_, ?_, ?_, ?_⟩
    · show max d.depth (PyData.depthAll ds) ≤ n
      omega
    · show (d.showable && PyData.showableAll ds) = true
      rw [t2, a3]
      rfl
    · show (d.leavesShort 40 && PyData.leavesShortAll 40 ds) = true
      rw [t3, a4]
      rfl
    · show d.weight + 1 + PyData.weightAll ds ≤ (m + 1) * (xs.length + 1)
      rw [Nat.mul_succ]
      omega
theorem oddw_lst {K : PySem.W.Frag} {H : Hp} {n m k : Nat} {a : Addr} {xs : List V} (hS : SqL K H a xs) (h : ∀ x ∈ xs, OddW K H n m x) (hk : (m + 1) * xs.length ≤ k) : OddW K H (n + 1) k (.ref a) := by
  obtain ⟨ds, a1, a2, a3, a4, a5⟩ := oddw_all h
  refine ⟨.list ds, ?_, a3, a4, Nat.le_trans a5 hk, .lst hS a1⟩
  show PyData.depthAll ds + 1 ≤ n + 1
  omega
theorem oddw_tup {K : PySem.W.Frag} {H : Hp} {n m k : Nat} {a : Addr} {xs : List V} (hS : SqT K H a xs) (h : ∀ x ∈ xs, OddW K H n m x) (hk : (m + 1) * xs.length ≤ k) : OddW K H (n + 1) k (.ref a) := by
  obtain ⟨ds, a1, a2, a3, a4, a5⟩ := oddw_all h
  refine ⟨.tuple ds, ?_, a3, a4, Nat.le_trans a5 hk, .tup hS a1⟩
  show PyData.depthAll ds + 1 ≤ n + 1
  omega
/-- what repr wants to know of such a list, tables grown or not -/
theorem repr_w {K : PySem.W.Frag} {H : Hp} {a : Addr} {xs : List V} {n m : Nat} (hS : SqL K H a xs) (h : ∀ x ∈ xs, OddW K H n m x) (hn : n ≤ 40) (hm : (m + 1) * xs.length ≤ 390000) :
    ∃ ds : List PyData, (PyData.list ds).depth ≤ 50 ∧ (PyData.list ds).showable = true ∧ (PyData.list ds).shown.length ≤ sizeLine ∧ ∀ H', LamX.ExtN H H' → SqL K H' a xs ∧ DpEAll K H' xs ds := by
  obtain ⟨ds, a1, a2, a3, a4, a5⟩ := oddw_all h
  have e1 : (PyData.list ds).depth ≤ 50 := by
    show PyData.depthAll ds + 1 ≤ 50
    omega
  have e2 : (PyData.list ds).shown.length ≤ sizeLine := by
    have z := PyData.shown_le 40 (by decide) (.list ds) a4
    have w : (PyData.list ds).weight = PyData.weightAll ds := rfl
    rw [sizeLine_eq]
    omega
  exact ⟨ds, e1, a3, e2, fun H' s => ⟨ExtN.seq s hS, a1.ext s⟩⟩
/-! ### law k34: what is no list of timers with unlike periods -/
theorem prat_rev {H : Hp} : ∀ {ts : List Addr} {rs : List (Nat × Nat)}, PrAt H ts rs → PrAt H ts.reverse rs.reverse
  | [], [], _ => trivial
  | _ :: _, _ :: _, h => by
    rw [List.reverse_cons, List.reverse_cons]
    exact (prat_rev h.2).app h.1
  | [], _ :: _, h => h.elim
  | _ :: _, [], h => h.elim
def FutS (ps : Addr) (H : Hp) (Pr : Hp → Prop) : Prop := ∀ H'', Stp ps H H'' → Pr H''
theorem FutS.mono {ps : Addr} {H H' : Hp} {Pr : Hp → Prop} (h : FutS ps H Pr) (s : Stp ps H H') : FutS ps H' Pr := fun H'' s' => h H'' (s.trans s')
theorem FutS.of_new {ps : Addr} {H H' : Hp} {Pr : Hp → Prop} (hs : SrcAt H ps) (h : ∀ H'', KeepsNew H H' H'' → Pr H'') : FutS ps H' Pr := fun H'' s => h H'' fun c o h1 h2 => s.keep c o (fun e => src_some hs (e ▸ h1)) h2
theorem FutS.imp {ps : Addr} {H : Hp} {P1 P2 : Hp → Prop} (h : FutS ps H P1) (hi : ∀ H, P1 H → P2 H) : FutS ps H P2 := fun H'' s => hi _ (h H'' s)
theorem FutS.here {ps : Addr} {H : Hp} {Pr : Hp → Prop} (hs : SrcAt H ps) (h : FutS ps H Pr) : Pr H := h H (Stp.refl hs)
theorem stp_tup {ps : Addr} {H H' : Hp} (hs : SrcAt H ps) (s : Stp ps H H') : ∀ (t : Addr) (xs : List V), H t = some (.tup xs) → H' t = some (.tup xs) := fun t xs e => s.keep t _ (fun z => by
  obtain ⟨a, b, c, es⟩ := hs
  rw [z, es] at e
  cases e) e
/-- the list is one of timers and of one that is none, wherever it stands -/
theorem several_one {K : PySem.W.Frag} {H : Hp} {C : Addr} {ss : List Addr} {prs : List (Nat × Nat)} {v : V} {xs : List V} (hC : H C = some (.lst xs)) (hxs : ∀ x, x ∈ xs ↔ x = v ∨ x ∈ ss.map V.ref) (l : xs.length ≤ 60) (hP : PrAt H ss prs) (h1 : ∀ r ∈ prs, 1 ≤ r.2) (hv : BadPair K H v) : BadSeveral K H (.ref C) := by
  have hm : v ∈ xs := (hxs v).mpr (.inl rfl)
  refine .inr ⟨C, xs, rfl, SqL.of hC, by omega, .inr (.inl ⟨(fun z => by rw [z] at hm; cases hm), fun x hx => ?_, v, hm, hv⟩)⟩
  rcases (hxs x).mp hx with e | hx
  · rw [e]
    exact .inr hv
  · obtain ⟨i, hi, ei⟩ := List.getElem_of_mem hx
    obtain ⟨t, r, e, hr, ht⟩ := hP.item (i := i) (x := x) (by rw [List.getElem?_eq_getElem hi, ei])
    exact .inl ⟨r.1, r.2, t, e, ht, h1 r (List.mem_of_getElem? hr)⟩
theorem oddw_pairs {K : PySem.W.Frag} {H : Hp} {ss : List Addr} {prs : List (Nat × Nat)} (hP : PrAt H ss prs) (hs : ∀ r ∈ prs, r.1 < 2 ^ 61 ∧ r.2 < 2 ^ 61) : ∀ x ∈ ss.map V.ref, OddW K H 4 3000 x := fun x hx => by
  obtain ⟨i, hi, ei⟩ := List.getElem_of_mem hx
  obtain ⟨t, r, e, hr, ht⟩ := hP.item (i := i) (x := x) (by rw [List.getElem?_eq_getElem hi, ei])
  have w : (2 : Nat) ^ 61 < 10 ^ 38 := by decide
  have z := hs r (List.mem_of_getElem? hr)
  rw [e]
  exact (odd_pair ht (by omega) (by omega)).w
section
variable {P : Program} {w : World} {K : PySem.W.Frag} {mg : Str → Option Value} {base : Heap}
def spBadList (K : PySem.W.Frag) : Sp := fun vs H Q _ => ∃ (ps A : Addr) (ss : List Addr) (prs : List (Nat × Nat)), vs = [.ref ps, .ref A] ∧ SrcAt H ps ∧ A ≠ ps ∧ H A = some (.lst (ss.map V.ref)) ∧ PrAt H ss prs ∧ prs ≠ [] ∧ prs.length ≤ 4 ∧ (∀ r ∈ prs, 1 ≤ r.2) ∧ (∀ r ∈ prs, r.1 < 2 ^ 60 ∧ r.2 < 2 ^ 60) ∧
  ∀ H' x, Stp ps H H' → FutS ps H' (fun H'' => BadSeveral K H'' x ∧ OddW K H'' 6 15005 x) → Q x H'
theorem ok_bad_list {f : Addr} {fd : FuncData} (F : Fun K "_law_bad_list" "_law_bad_list" s__law_bad_list f fd) (T : Tx K mg) (h1 : Has P w K mg base 2 "_law_next" ["_law_source_here", "_law_many"] [] spNext) (h2 : Has P w K mg base 3 "_law_bad_pair" ["_law_source_here"] [] (spBad24 K fun H x => BadPair K H x)) :
    FnOk P w K mg base CX0 4 f fd ["_law_source_here", "_law_pairs"] (spBadList K) := by
  obtain ⟨f__law_next, fd__law_next, ds__law_next, G__law_next, m__law_next, k__law_next, b__law_next, v__law_next⟩ := h1
  obtain ⟨f__law_bad_pair, fd__law_bad_pair, ds__law_bad_pair, G__law_bad_pair, m__law_bad_pair, k__law_bad_pair, b__law_bad_pair, v__law_bad_pair⟩ := h2
  refine F.ok sc__law_bad_list (fun vs H Q E h => ?_) (fun cdv A outer s H vs Q E hr h => ?_)
  · obtain ⟨ps, A, ss, prs, rfl, _⟩ := h
    rfl
  · obtain ⟨ps, B, ss, prs, rfl, hsrc, nB, hB, hP, hne, h4, hp1, hsm, c⟩ := h
    refine ⟨_, (pss_cons (ps_set (i := 2) sc__law_bad_list.nd rfl (.inl rfl) (pe_op op_cat (pv 1) (pe_lst (pa_cons (pe_call G__law_bad_pair hr (by rfl) m__law_bad_pair k__law_bad_pair b__law_bad_pair v__law_bad_pair pass0 (pa_cons (pv 0) pa_nil)) pa_nil))))
      (pss_cons (ps_set (i := 3) sc__law_bad_list.nd rfl (.inl rfl) (pe_op op_cat (pv 1) (pe_lst (pa_cons (pe_tup (pa_cons (pe_op op_addN (pe_ix (ix_tupK (K := K) rfl) (pe_ix (ix_listK (K := K) rfl) (pv 1) pe_int (fun _ _ => rfl)) pe_int (fun _ _ => rfl)) pe_int) (pa_cons (pe_ix (ix_tupK (K := K) rfl) (pe_ix (ix_listK (K := K) rfl) (pv 1) pe_int (fun _ _ => rfl)) pe_int (fun _ _ => rfl)) pa_nil))) pa_nil))))
      (pss_one (ps_ret (pe_ix (ix_listK (K := K) rfl) (pe_lst (pa_cons (pv 2) (pa_cons (pe_revL (pv 2)) (pa_cons (pv 3) (pa_cons (pe_revL (pv 3)) (pa_cons (pe_lst pa_nil) (pa_cons (pe_callTy call_tuple_of (by rfl) T.b_tuple (by decide +kernel) (pa_cons (pv 1) pa_nil)) (pa_cons pe_non (pa_cons pe_dnewK (pa_cons pe_int (pa_cons pe_str pa_nil))))))))))) (pe_call G__law_next (hr.mono (by decide)) (by rfl) m__law_next k__law_next b__law_next v__law_next pass0 (pa_cons (pv 0) (pa_cons pe_int pa_nil))) (fun _ _ => rfl)))))), ?_⟩
    have hsl := hP.len
    obtain ⟨r0, rs0, er0⟩ : ∃ r0 rs0, prs = r0 :: rs0 := by
      cases prs with
      | nil => exact absurd rfl hne
      | cons r rs => exact ⟨r, rs, rfl⟩
    obtain ⟨t0, ts0, et0⟩ : ∃ t0 ts0, ss = t0 :: ts0 := by
      cases ss with
      | nil =>
        rw [er0] at hsl
        cases hsl
      | cons t ts => exact ⟨t, ts, rfl⟩
    have ht0 : H t0 = some (.tup [.int (r0.1 : Nat), .int (r0.2 : Nat)]) := by
      rw [er0, et0] at hP
      exact hP.1
    -- a bad one behind the timers
    refine ⟨.ref B, rfl, _, rfl, ps, rfl, hsrc, fun H1 v s1 hv => ⟨by simp [sizeLine_eq], fun l hl => ?_⟩⟩
    have f1 := FutS.of_new hsrc hv
    have hB1 := s1.keep _ _ nB hB
    have sl := same_upd (o := .lst [v]) hl
    have el : (upd H1 l (.lst [v])) l = some (.lst [v]) := upd_same
    generalize upd H1 l (.lst [v]) = H2 at sl el ⊢
    refine ⟨B, l, _, _, rfl, rfl, sl _ _ hB1, el, ?_, fun C hC => ?_⟩
    · rw [List.length_map, hsl]
      exact sizeLine_le (by show _ + 1 ≤ 1000000; omega)
    have sC := same_upd (o := .lst (ss.map V.ref ++ [v])) hC
    have eC : (upd H2 C (.lst (ss.map V.ref ++ [v]))) C = some (.lst (ss.map V.ref ++ [v])) := upd_same
    generalize upd H2 C (.lst (ss.map V.ref ++ [v])) = H3 at sC eC ⊢
    have s13 := sl.trans sC
    have st3 := s1.same s13
    have kt : ∀ (t : Addr) (xs : List V), H t = some (.tup xs) → H3 t = some (.tup xs) := stp_tup hsrc st3
    have ht3 := kt _ _ ht0
    have hB3 := s13 _ _ hB1
    have ix0 : (ss.map V.ref)[0]? = some (.ref t0) := by rw [et0]; rfl
    -- one with a period that stands there already
    refine ⟨.ref B, rfl, .ref B, rfl, B, _, 0, _, rfl, rfl, SqL.of hB3, atI_nat (j := 0) ix0, t0, _, 0, _, rfl, rfl, .inl (.inl ht3), atI_nat (j := 0) rfl, r0.1, 1, rfl, rfl, trivial, .ref B, rfl, B, _, 0, _, rfl, rfl, SqL.of hB3, atI_nat (j := 0) ix0, t0, _, 1, _, rfl, rfl, .inl (.inl ht3), atI_nat (j := 1) rfl, by simp [sizeLine_eq], fun t htn => ?_⟩
    have stt := same_upd (o := .tup [.int ((r0.1 + 1 : Nat) : Int), .int (r0.2 : Nat)]) htn
    have ett : (upd H3 t (.tup [.int ((r0.1 + 1 : Nat) : Int), .int (r0.2 : Nat)])) t = some (.tup [.int ((r0.1 + 1 : Nat) : Int), .int (r0.2 : Nat)]) := upd_same
    generalize upd H3 t (.tup [.int ((r0.1 + 1 : Nat) : Int), .int (r0.2 : Nat)]) = H4 at stt ett ⊢
    refine ⟨by simp [sizeLine_eq], fun l2 hl2 => ?_⟩
    have sl2 := same_upd (o := .lst [.ref t]) hl2
    have el2 : (upd H4 l2 (.lst [.ref t])) l2 = some (.lst [.ref t]) := upd_same
    generalize upd H4 l2 (.lst [.ref t]) = H5 at sl2 el2 ⊢
    refine ⟨B, l2, _, _, rfl, rfl, sl2 _ _ (stt _ _ hB3), el2, ?_, fun D hD => ?_⟩
    · rw [List.length_map, hsl]
      exact sizeLine_le (by show _ + 1 ≤ 1000000; omega)
    have sD := same_upd (o := .lst (ss.map V.ref ++ [.ref t])) hD
    have eD : (upd H5 D (.lst (ss.map V.ref ++ [.ref t]))) D = some (.lst ((ss ++ [t]).map V.ref)) := by
      rw [upd_same, List.map_append]
      rfl
    generalize upd H5 D (.lst (ss.map V.ref ++ [.ref t])) = H6 at sD eD ⊢
    have s36 := (stt.trans sl2).trans sD
    -- the list of lists
    refine ⟨.ref C, rfl, .ref C, rfl, C, _, rfl, SqL.of (s36 _ _ eC), fun rC hrC => ?_⟩
    have srC := same_upd (o := .lst (ss.map V.ref ++ [v]).reverse) hrC
    have erC : (upd H6 rC (.lst (ss.map V.ref ++ [v]).reverse)) rC = some (.lst (ss.map V.ref ++ [v]).reverse) := upd_same
    generalize upd H6 rC (.lst (ss.map V.ref ++ [v]).reverse) = H7 at srC erC ⊢
    refine ⟨.ref D, rfl, .ref D, rfl, D, _, rfl, SqL.of (srC _ _ eD), fun rD hrD => ?_⟩
    have srD := same_upd (o := .lst ((ss ++ [t]).map V.ref).reverse) hrD
    have erD : (upd H7 rD (.lst ((ss ++ [t]).map V.ref).reverse)) rD = some (.lst ((ss ++ [t]).reverse.map V.ref)) := by rw [upd_same, List.map_reverse]
    generalize upd H7 rD (.lst ((ss ++ [t]).map V.ref).reverse) = H8 at srD erD ⊢
    refine ⟨by simp [sizeLine_eq], fun e0 he0 => ?_⟩
    have se0 := same_upd (o := .lst []) he0
    have ee0 : (upd H8 e0 (.lst [])) e0 = some (.lst []) := upd_same
    generalize upd H8 e0 (.lst []) = H9 at se0 ee0 ⊢
    have s39 := ((s36.trans srC).trans srD).trans se0
    refine ⟨.ref B, rfl, B, _, rfl, .inl ⟨SqL.of (s39 _ _ hB3), fun tA htA => ?_⟩⟩
    have stA := same_upd (o := .tup (ss.map V.ref)) htA
    have etA : (upd H9 tA (.tup (ss.map V.ref))) tA = some (.tup (ss.map V.ref)) := upd_same
    generalize upd H9 tA (.tup (ss.map V.ref)) = H10 at stA etA ⊢
    refine fun d hd => ?_
    have sd := same_upd (o := .dK []) hd
    have ed : (upd H10 d (.dK [])) d = some (.dK []) := upd_same
    generalize upd H10 d (.dK []) = H11 at sd ed ⊢
    refine ⟨by simp [sizeLine_eq], fun L hL => ?_⟩
    have sL := same_upd (o := .lst [.ref C, .ref rC, .ref D, .ref rD, .ref e0, .ref tA, .non, .ref d, .int 7, .str "ab"]) hL
    have eL : (upd H11 L (.lst [.ref C, .ref rC, .ref D, .ref rD, .ref e0, .ref tA, .non, .ref d, .int 7, .str "ab"])) L = some (.lst [.ref C, .ref rC, .ref D, .ref rD, .ref e0, .ref tA, .non, .ref d, .int 7, .str "ab"]) := upd_same
    generalize upd H11 L (.lst [.ref C, .ref rC, .ref D, .ref rD, .ref e0, .ref tA, .non, .ref d, .int 7, .str "ab"]) = H12 at sL eL ⊢
    have s912 := (stA.trans sd).trans sL
    have s312 := s39.trans s912
    have st12 := st3.same s312
    have s112 := s13.trans s312
    have nL : L ≠ ps := ((st3.same (s39.trans (stA.trans sd))).src).ne hL
    refine ⟨_, rfl, ps, 10, rfl, by decide, by decide, st12.src, fun r H13 hr s13' => ?_⟩
    have st13 := st12.trans s13'
    -- whatever was made stays
    have made : ∀ {b : Addr} {o : HO}, H12 b = some o → b ≠ ps → ∀ G, Stp ps H13 G → G b = some o := fun e n G sG => (s13'.trans sG).keep _ _ n e
    have nn : ∀ {b : Addr} {G : Hp}, SrcAt G ps → G b = none → b ≠ ps := fun h e => h.ne e
    have src1 := s1.src
    have src3 := st3.src
    have all : ∀ x ∈ ([.ref C, .ref rC, .ref D, .ref rD, .ref e0, .ref tA, .non, .ref d, .int 7, .str "ab"] : List V), FutS ps H13 fun H'' => BadSeveral K H'' x ∧ OddW K H'' 6 15005 x := by
      have pr : ∀ G, Stp ps H13 G → PrAt G ss prs := fun G sG => hP.frame (stp_tup hsrc (st13.trans sG))
      have vb : ∀ G, Stp ps H13 G → BadPair K G v ∧ Odd K G v := fun G sG => f1 G (((s1.src.stp_same s112).trans s13').trans sG)
      have nC := nn (src1.same sl) hC
      have nrC := nn (src3.same s36) hrC
      have nD := nn (src3.same (stt.trans sl2)) hD
      have nrD := nn (src3.same (s36.trans srC)) hrD
      have ne0 := nn (src3.same ((s36.trans srC).trans srD)) he0
      have ntA := nn (src3.same s39) htA
      have nd := nn (src3.same (s39.trans stA)) hd
      have ntt := nn src3 htn
      have gC := made ((s36.trans (((srC.trans srD).trans se0).trans s912)) _ _ eC) nC
      have grC := made ((((srD.trans se0).trans s912)) _ _ erC) nrC
      have gD := made (((((srC.trans srD).trans se0).trans s912)) _ _ eD) nD
      have grD := made ((se0.trans s912) _ _ erD) nrD
      have ge0 := made (s912 _ _ ee0) ne0
      have gtA := made ((sd.trans sL) _ _ etA) ntA
      have gd := made (sL _ _ ed) nd
      have gt := made ((sl2.trans (sD.trans (((srC.trans srD).trans se0).trans s912))) _ _ ett) ntt
      have w60 : (2 : Nat) ^ 60 < 2 ^ 61 := by decide
      have op : ∀ G, Stp ps H13 G → ∀ x ∈ ss.map V.ref, OddW K G 4 3000 x := fun G sG => oddw_pairs (pr G sG) fun r hr => by have := hsm r hr; omega
      have ov : ∀ G, Stp ps H13 G → ∀ x ∈ ss.map V.ref ++ [v], OddW K G 4 3000 x := fun G sG x hx => by
        rcases List.mem_append.mp hx with hx | hx
        · exact op G sG x hx
        · rw [List.mem_singleton.mp hx]
          exact (vb G sG).2.w
      have p2 : ∀ G, Stp ps H13 G → PrAt G (ss ++ [t]) (prs ++ [(r0.1 + 1, r0.2)]) := fun G sG => (pr G sG).app (gt G sG)
      have hs2 : ∀ r ∈ prs ++ [(r0.1 + 1, r0.2)], r.1 < 2 ^ 61 ∧ r.2 < 2 ^ 61 := fun r hr => by
        have z0 := hsm r0 (by rw [er0]; exact List.mem_cons_self)
        rcases List.mem_append.mp hr with hr | hr
        · have := hsm r hr
          omega
        · rw [List.mem_singleton.mp hr]
          exact ⟨by show r0.1 + 1 < _; omega, by show r0.2 < _; omega⟩
      have h12 : ∀ r ∈ prs ++ [(r0.1 + 1, r0.2)], 1 ≤ r.2 := fun r hr => by
        rcases List.mem_append.mp hr with hr | hr
        · exact hp1 r hr
        · rw [List.mem_singleton.mp hr]
          exact hp1 r0 (by rw [er0]; exact List.mem_cons_self)
      have nd2 : ¬ ((prs ++ [(r0.1 + 1, r0.2)]).map (·.2)).Nodup := fun z => by
        rw [List.map_append, List.nodup_append] at z
        exact z.2.2 r0.2 (List.mem_map.mpr ⟨r0, by rw [er0]; exact List.mem_cons_self, rfl⟩) r0.2 (by simp) rfl
      have len5 : (ss.map V.ref ++ [v]).length ≤ 5 := by
        rw [List.length_append, List.length_map, hsl]
        show _ + 1 ≤ 5
        omega
      have lent : ((ss ++ [t]).map V.ref).length ≤ 5 := by
        rw [List.length_map, List.length_append, hsl]
        show _ + 1 ≤ 5
        omega
      have mul : ∀ {n : Nat}, n ≤ 5 → (3000 + 1) * n ≤ 15005 := fun h => by omega
      have nd2r : ¬ ((prs ++ [(r0.1 + 1, r0.2)]).reverse.map (·.2)).Nodup := fun z => by
        rw [List.map_reverse] at z
        exact nd2 ((List.reverse_perm _).nodup_iff.mp z)
      have ne2 : prs ++ [(r0.1 + 1, r0.2)] ≠ [] := by simp
      have mx : ∀ x, x ∈ ss.map V.ref ++ [v] ↔ x = v ∨ x ∈ ss.map V.ref := fun x => by
        rw [List.mem_append, List.mem_singleton]
        exact Or.comm
      intro x hx G sG
      have o4 : ∀ {y : V}, Odd K G y → OddW K G 6 15005 y := fun h => h.w.mono (by decide) (by decide)
      rcases List.mem_cons.mp hx with rfl | hx
      · exact ⟨several_one (gC G sG) mx (by omega) (pr G sG) hp1 (vb G sG).1, (oddw_lst (k := 15005) (SqL.of (gC G sG)) (ov G sG) (mul len5)).mono (by decide) (Nat.le_refl _)⟩
      rcases List.mem_cons.mp hx with rfl | hx
      · exact ⟨several_one (grC G sG) (fun x => by rw [List.mem_reverse]; exact mx x) (by rw [List.length_reverse]; omega) (pr G sG) hp1 (vb G sG).1, (oddw_lst (k := 15005) (SqL.of (grC G sG)) (fun x hx => ov G sG x (List.mem_reverse.mp hx)) (mul (by rw [List.length_reverse]; exact len5))).mono (by decide) (Nat.le_refl _)⟩
      rcases List.mem_cons.mp hx with rfl | hx
      · exact ⟨.inr ⟨D, _, rfl, SqL.of (gD G sG), by omega, .inr (.inr ⟨_, _, rfl, p2 G sG, ne2, h12, nd2⟩)⟩, (oddw_lst (k := 15005) (SqL.of (gD G sG)) (oddw_pairs (p2 G sG) hs2) (mul lent)).mono (by decide) (Nat.le_refl _)⟩
      rcases List.mem_cons.mp hx with rfl | hx
      · refine ⟨.inr ⟨rD, _, rfl, SqL.of (grD G sG), ?_, .inr (.inr ⟨_, _, rfl, prat_rev (p2 G sG), by simp, fun r hr => h12 r (List.mem_reverse.mp hr), nd2r⟩)⟩, (oddw_lst (k := 15005) (SqL.of (grD G sG)) (oddw_pairs (prat_rev (p2 G sG)) fun r hr => hs2 r (List.mem_reverse.mp hr)) (mul ?_)).mono (by decide) (Nat.le_refl _)⟩
        · rw [List.length_map, List.length_reverse]
          rw [List.length_map] at lent
          omega
        · rw [List.length_map, List.length_reverse]
          rw [List.length_map] at lent
          exact lent
      rcases List.mem_cons.mp hx with rfl | hx
      · exact ⟨.inr ⟨e0, [], rfl, SqL.of (ge0 G sG), by simp, .inl rfl⟩, (oddw_lst (n := 4) (m := 3000) (k := 15005) (SqL.of (ge0 G sG)) (fun x hx => (nomatch hx)) (by simp)).mono (by decide) (Nat.le_refl _)⟩
      rcases List.mem_cons.mp hx with rfl | hx
      · exact ⟨.inl ⟨_, .base (.tup (gtA G sG)), by decide +kernel⟩, (oddw_tup (k := 15005) (SqT.of (gtA G sG)) (op G sG) (mul (by rw [List.length_map, hsl]; omega))).mono (by decide) (Nat.le_refl _)⟩
      rcases List.mem_cons.mp hx with rfl | hx
      · exact ⟨.inl (nota_non (by decide +kernel)), o4 odd_non⟩
      rcases List.mem_cons.mp hx with rfl | hx
      · exact ⟨.inl ⟨_, .base (.dK (gd G sG)), by decide +kernel⟩, o4 (odd_dict (gd G sG))⟩
      rcases List.mem_cons.mp hx with rfl | hx
      · exact ⟨.inl ⟨_, .base (.int 7), by decide +kernel⟩, o4 (odd_int (by decide))⟩
      · rw [List.mem_singleton.mp hx]
        exact ⟨.inl ⟨_, .base (.str _), by decide +kernel⟩, o4 (odd_flat (.str "ab") (by decide +kernel) rfl (.str _))⟩
    have hr10 : r < 10 := by omega
    refine ⟨L, _, r, _, rfl, rfl, SqL.of (s13'.keep _ _ nL eL), atI_nat (List.getElem?_eq_getElem (show r < [V.ref C, .ref rC, .ref D, .ref rD, .ref e0, .ref tA, .non, .ref d, .int 7, .str "ab"].length by simp; omega)), c H13 _ st13 (all _ (List.getElem_mem _))⟩
end
/-! ### f(k = v, ..): a def of one's own, called by the names of its parameters alone -/
def tCallK0 (m : Nat) (sp : Sp) (gV : List V → List V → List V) (E : XK) (tk : TA) : TE := fun σ H Q => tk σ H fun zs H1 => zs.length = m ∧ sp (gV [] zs) H1 Q E
section
variable {X : Cx} {CX : CXT} {k : Nat} {f : Addr} {fd : FuncData} {ps ks : List Str} {sp : Sp} {E : XK} {x : Str} {p pos : Pos} {kws : List Keyword} {tk : TA} {g : List Value → List Value → List Value} {gV : List V → List V → List V}
theorem pe_callK0 (F : FnOk X.prog X.w X.K X.mg X.base CX k f fd ps sp) (hr : Room k X.A) (hg : Gl X x) (hm : X.mg x = some (.ref f)) (hk : PySem.W.keepIn X.K (.ref f) = true) (hb : KBn X.K fd ps 0 ks g gV) (hx : Passes CX X E) (hkw : PK X kws tk)
    (hall : (backToKw pos (keywordEach kws X.env)).all (·.1.isSome) = true := by rfl) (hks : (backToKw pos (keywordEach kws X.env)).filterMap (·.1) = ks := by rfl) (hdb : (x == ("__debug__" : Str)) = false := by decide)
    (hpl : ((backTo pos (starEach [] X.env)).any (·.1) || (backToKw pos (keywordEach kws X.env)).any (·.1.isNone)) = false := by rfl) :
    PE X (.Call (.Name x p) [] kws pos) (tCallK0 ks.length sp gV E tk) := by
  refine ⟨fun pins s σ H Q I h => ?_⟩
  refine wpAny_Call_Name_kw (ld_glob I hg hm ?_ hdb)
  refine PySem.W.callWith_KW0 (h₀ := X.base) I.ok.mod.kin hk hall (thn (hkw.run pos pins s σ H _ I h) fun ws s1 ⟨zs, H1, I1, rz, l, q⟩ => ⟨I1.kIn, ?_⟩) hpl
  rw [hks]
  exact run_fnN (us := []) (vs := []) F hr hb hx I1 .nil rz rfl l q
end
section
variable {P : Program} {w : World} {K : PySem.W.Frag} {mg : Str → Option Value} {base : Heap}
/-- all parameters told by name, the last one first -/
theorem fun_kback {x qual : Str} {st : Stmt} {f : Addr} {fd : FuncData} {ps ks : List Str} (F : Fun K x qual st f fd)
    (h : ∀ (kV doc pm : Value) (an : Option Addr) (cdv ct : Value) (ws : List Value), ws.length = ks.length → bindArgs (PySem.W.fnOf x qual (defArgs st) (defBody st) (defScope st) .none kV doc pm an cdv ct) ⟨[], ks.zip ws⟩ = pure (ps.zip ws.reverse)) :
    KBn K fd ps 0 ks (fun _ ws => ws.reverse) (fun _ zs => zs.reverse) := by
  obtain ⟨oc, od, kV, doc, pm, an, cdv, ct, osl, rfl, lk, hcd⟩ := F.ex
  refine ⟨fun s us ws _ l1 l2 => ?_, fun _ r => r.reverse⟩
  obtain rfl : us = [] := List.length_eq_zero_iff.mp l1
  exact .of_eq (h kV doc pm an cdv ct ws l2)
/-- as HasX, for calls by position and by name -/
def HasXK (P : Program) (w : World) (K : PySem.W.Frag) (mg : Str → Option Value) (base : Heap) (k : Nat) (x : Str) (ps ks : List Str) (sp : Sp) : Prop :=
  ∃ (f : Addr) (fd : FuncData), FnOk P w K mg base (L2.CX P w) k f fd ps sp ∧ mg x = some (.ref f) ∧ PySem.W.keepIn K (.ref f) = true ∧ Binds K fd ps [] ∧ KBn K fd ps 0 ks (fun _ ws => ws.reverse) (fun _ zs => zs.reverse)
theorem Df.hasXK {k : Nat} {x : Str} {st : Stmt} {ps ks : List Str} {sp : Sp} (D : Df K mg x st ps) (ok : ∀ f fd, Fun K x x st f fd → FnOk P w K mg base (L2.CX P w) k f fd ps sp)
    (h : ∀ (kV doc pm : Value) (an : Option Addr) (cdv ct : Value) (ws : List Value), ws.length = ks.length → bindArgs (PySem.W.fnOf x x (defArgs st) (defBody st) (defScope st) .none kV doc pm an cdv ct) ⟨[], ks.zip ws⟩ = pure (ps.zip ws.reverse)) : HasXK P w K mg base k x ps ks sp := by
  obtain ⟨f, fd, F, m, b⟩ := D
  exact ⟨f, fd, ok f fd F, m, F.kp, b, fun_kback F h⟩
theorem HasXK.hasX {k : Nat} {x : Str} {ps ks : List Str} {sp : Sp} (h : HasXK P w K mg base k x ps ks sp) : HasX P w K mg base k x ps [] sp := by
  obtain ⟨f, fd, F, m, kp, b, _⟩ := h
  exact ⟨f, fd, [], F, m, kp, b, .nil⟩
/-- what raises nothing -/
theorem fnok_calm {k : Nat} {f : Addr} {fd : FuncData} {ps : List Str} {sp sp' : Sp} (F : FnOk P w K mg base (L2.CX P w) k f fd ps sp) (h : ∀ vs H Q E, sp' vs H Q E → sp vs H Q fun _ _ _ => False) : FnOk P w K mg base CX0 k f fd ps sp' := by
  refine ⟨fun vs H Q E q => F.len _ _ _ _ (h _ _ _ _ q), fun A outer s H args us vs Q E hr he hb hv q => codeAny_mono (F.run A outer s H args us vs Q _ hr he hb hv (h _ _ _ _ q)) fun r s' z => ?_⟩
  match r, z with
  | .ok (.ret u), z => exact z
  | .error e, z =>
    obtain ⟨_, _, _, _, _, _, _, _, _, _, _, _, z⟩ := z
    exact z.elim
theorem HasX.calm {k : Nat} {x : Str} {ps : List Str} {dvs : List V} {sp sp' : Sp} (h : HasX P w K mg base k x ps dvs sp) (hc : ∀ vs H Q E, sp' vs H Q E → sp vs H Q fun _ _ _ => False) : Has P w K mg base k x ps dvs sp' := by
  obtain ⟨f, fd, ds, F, r⟩ := h
  exact ⟨f, fd, ds, fnok_calm F hc, r⟩
end
/-! ### law k34: a call by position or by name -/
/-- what order_at tells -/
def OrderIs (K : PySem.W.Frag) (H : Hp) (x0 x1 x2 x3 : V) (out : List Nat) : Prop := ∃ (b x : Nat) (q S : Addr) (ws : List Bool) (ss : List Addr) (prs : List (Nat × Nat)), x0 = .int (b : Nat) ∧ x1 = .ref q ∧ x2 = .ref S ∧ x3 = .int (x : Nat) ∧ 2 ≤ b ∧ b ≤ 64 ∧ SqL K H q (ws.map lvV) ∧ ws ≠ [] ∧ ws.length ≤ 60 ∧ x < 2 ^ 250 ∧
  H S = some (.lst (ss.map V.ref)) ∧ PrAt H ss prs ∧ prs ≠ [] ∧ prs.length ≤ 60 ∧ (∀ r ∈ prs, 1 ≤ r.2 ∧ r.1 ≠ x) ∧ (prs.map (·.2)).Nodup ∧ ∀ zs : List (Nat × Nat), zs.Perm (rowsF prs x) → (zs.Pairwise fun a c => c.1 < a.1) → orderP b ws x (zs.map fun z => (z.2, x - z.1)) = out
theorem OrderIs.same {K : PySem.W.Frag} {H H' : Hp} {x0 x1 x2 x3 : V} {out : List Nat} (s : Same H H') (h : OrderIs K H x0 x1 x2 x3 out) : OrderIs K H' x0 x1 x2 x3 out := by
  obtain ⟨b, x, q, S, ws, ss, prs, e0, e1, e2, e3, h1, h2, h3, h4, h5, h6, h7, h8, h9⟩ := h
  exact ⟨b, x, q, S, ws, ss, prs, e0, e1, e2, e3, h1, h2, s.seq h3, h4, h5, h6, s _ _ h7, h8.frame (fun t xs e => s _ _ e), h9⟩
theorem order_any (b x : Nat) (ws : List Bool) (prs : List (Nat × Nat)) : ∃ out, ∀ zs : List (Nat × Nat), zs.Perm (rowsF prs x) → (zs.Pairwise fun a c => c.1 < a.1) → orderP b ws x (zs.map fun z => (z.2, x - z.1)) = out := by
  rcases Classical.em (∃ zs : List (Nat × Nat), zs.Perm (rowsF prs x) ∧ zs.Pairwise fun a c => c.1 < a.1) with ⟨ys, h1, h2⟩ | h
  · refine ⟨orderP b ws x (ys.map fun z => (z.2, x - z.1)), fun zs h3 h4 => ?_⟩
    rw [strict_uniq h4 h2 fun z => by rw [h3.mem_iff, h1.mem_iff]]
  · exact ⟨[], fun zs h3 h4 => absurd ⟨zs, h3, h4⟩ h⟩
/-- what times_first tells -/
def TimesIs (K : PySem.W.Frag) (H : Hp) (x0 x1 x2 x3 x4 x5 : V) (n : Nat) : Prop := ∃ (b a p o q x y : Nat) (ql : Addr) (ws : List Bool), x0 = .int (b : Nat) ∧ x1 = .ref ql ∧ x4 = .int (x : Nat) ∧ x5 = .int (y : Nat) ∧ 2 ≤ b ∧ b ≤ 64 ∧ SqL K H ql (ws.map lvV) ∧ ws ≠ [] ∧ ws.length ≤ 60 ∧
  PairAt H x2 a p ∧ PairAt H x3 o q ∧ p < 2 ^ 200 ∧ q < 2 ^ 200 ∧ p ≠ q ∧ a < 2 ^ 200 ∧ o < 2 ^ 200 ∧ x ≤ y ∧ y < 2 ^ 240 ∧ (∀ f e, IsMeet a p o q f e → meetN (meetM f e x) e y ≤ 2000) ∧ n = cntP (fun t => bothB a p o q t && ahB ws b p q t) x (y - x)
theorem TimesIs.same {K : PySem.W.Frag} {H H' : Hp} {x0 x1 x2 x3 x4 x5 : V} {n : Nat} (s : Same H H') (h : TimesIs K H x0 x1 x2 x3 x4 x5 n) : TimesIs K H' x0 x1 x2 x3 x4 x5 n := by
  obtain ⟨b, a, p, o, q, x, y, ql, ws, e0, e1, e2, e3, h1, h2, h3, h4, h5, h6, h7, h8⟩ := h
  exact ⟨b, a, p, o, q, x, y, ql, ws, e0, e1, e2, e3, h1, h2, s.seq h3, h4, h5, h6.same s, h7.same s, h8⟩
section
variable {P : Program} {w : World} {K : PySem.W.Frag} {mg : Str → Option Value} {base : Heap}
/-- the row of one of the two functions -/
def OrderRes (K : PySem.W.Frag) (H : Hp) (x0 x1 x2 x3 : V) (er : Nat → Prop) (ok : List Nat → Prop) : Prop := (∃ e, OrderBad K H x0 x1 x2 x3 e ∧ er e) ∨ ∃ out, OrderIs K H x0 x1 x2 x3 out ∧ ok out
def spAsk34 (K : PySem.W.Frag) (cB cL cP cT : Addr) : Sp := fun vs H Q E => ∃ (way : Nat) (r : Addr) (xs : List V), vs = [.int (way : Nat), .ref r] ∧ way < 4 ∧ SqL K H r xs ∧
  (way < 2 → ∃ x0 x1 x2 x3, xs = [x0, x1, x2, x3] ∧ ((∃ e, OrderBad K H x0 x1 x2 x3 e ∧ ∀ H', Same H H' → E (.ref (errOf cB cL cP cT e)) none H') ∨ ∃ out, OrderIs K H x0 x1 x2 x3 out ∧ ∀ H' p, Same H H' → H p = none → H' p = some (.lst (out.map fun y => V.int (y : Nat))) → Q (.ref p) H')) ∧
  (2 ≤ way → ∃ x0 x1 x2 x3 x4 x5, xs = [x0, x1, x2, x3, x4, x5] ∧ ((∃ e, TimesBad K H x0 x1 x2 x3 x4 x5 e ∧ ∀ H', Same H H' → E (.ref (errOf cB cL cP cT e)) none H') ∨ ∃ n, TimesIs K H x0 x1 x2 x3 x4 x5 n ∧ ∀ H', Same H H' → Q (.int (n : Nat)) H'))
theorem okX_ask34 {f cB cL cP cT : Addr} {fd : FuncData} (F : Fun K "_law_ask" "_law_ask" s__law_ask f fd) (h1 : HasXK P w K mg base 6 "order_at" ["base", "levels", "some", "tick"] ["tick", "some", "levels", "base"] (spOr (spOrderBad K cB cL cP cT) (spOrderAt K)))
    (h2 : HasXK P w K mg base 6 "times_first" ["base", "levels", "one", "other", "first", "behind"] ["behind", "first", "other", "one", "levels", "base"] (spOr (spTimesBad K cB cL cP cT) (spTimes K))) : FnOk P w K mg base (L2.CX P w) 7 f fd ["_law_way", "_law_row"] (spAsk34 K cB cL cP cT) := by
  obtain ⟨f_order_at, fd_order_at, G_order_at, m_order_at, k_order_at, b_order_at, bK_order_at⟩ := h1
  obtain ⟨f_times_first, fd_times_first, G_times_first, m_times_first, k_times_first, b_times_first, bK_times_first⟩ := h2
  have v_order_at : Vals [] [] := .nil
  have v_times_first : Vals [] [] := .nil
  refine F.okX sc__law_ask (fun vs H Q E h => ?_) (fun cdv A outer s H vs Q E hr h => ?_)
  · obtain ⟨way, r, xs, rfl, _⟩ := h
    rfl
  · obtain ⟨way, r, xs, rfl, hw, hS, c1, c2⟩ := h
    refine ⟨_, (pss_cons (ps_if (pt_cmpR op_eq (pv 0) pe_int (nomark _))
        (pss_one (ps_ret (pe_call G_order_at hr (by rfl) m_order_at k_order_at b_order_at v_order_at (passes_call (takes_of rfl rfl rfl rfl) (fun _ _ _ _ h => h)) (pa_cons (pe_ix (ix_listK (K := K) rfl) (pv 1) pe_int (fun _ _ => rfl)) (pa_cons (pe_ix (ix_listK (K := K) rfl) (pv 1) pe_int (fun _ _ => rfl)) (pa_cons (pe_ix (ix_listK (K := K) rfl) (pv 1) pe_int (fun _ _ => rfl)) (pa_cons (pe_ix (ix_listK (K := K) rfl) (pv 1) pe_int (fun _ _ => rfl)) pa_nil)))))))
        pss_nil)
      (pss_cons (ps_if (pt_cmpR op_eq (pv 0) pe_int (nomark _))
        (pss_one (ps_ret (pe_callK0 G_order_at hr (by rfl) m_order_at k_order_at bK_order_at (passes_call (takes_of rfl rfl rfl rfl) (fun _ _ _ _ h => h)) (pk_cons (pe_ix (ix_listK (K := K) rfl) (pv 1) pe_int (fun _ _ => rfl)) (pk_cons (pe_ix (ix_listK (K := K) rfl) (pv 1) pe_int (fun _ _ => rfl)) (pk_cons (pe_ix (ix_listK (K := K) rfl) (pv 1) pe_int (fun _ _ => rfl)) (pk_cons (pe_ix (ix_listK (K := K) rfl) (pv 1) pe_int (fun _ _ => rfl)) pk_nil)))))))
        pss_nil)
      (pss_cons (ps_if (pt_cmpR op_eq (pv 0) pe_int (nomark _))
        (pss_one (ps_ret (pe_call G_times_first hr (by rfl) m_times_first k_times_first b_times_first v_times_first (passes_call (takes_of rfl rfl rfl rfl) (fun _ _ _ _ h => h)) (pa_cons (pe_ix (ix_listK (K := K) rfl) (pv 1) pe_int (fun _ _ => rfl)) (pa_cons (pe_ix (ix_listK (K := K) rfl) (pv 1) pe_int (fun _ _ => rfl)) (pa_cons (pe_ix (ix_listK (K := K) rfl) (pv 1) pe_int (fun _ _ => rfl)) (pa_cons (pe_ix (ix_listK (K := K) rfl) (pv 1) pe_int (fun _ _ => rfl)) (pa_cons (pe_ix (ix_listK (K := K) rfl) (pv 1) pe_int (fun _ _ => rfl)) (pa_cons (pe_ix (ix_listK (K := K) rfl) (pv 1) pe_int (fun _ _ => rfl)) pa_nil)))))))))
        pss_nil)
      (pss_one (ps_ret (pe_callK0 G_times_first hr (by rfl) m_times_first k_times_first bK_times_first (passes_call (takes_of rfl rfl rfl rfl) (fun _ _ _ _ h => h)) (pk_cons (pe_ix (ix_listK (K := K) rfl) (pv 1) pe_int (fun _ _ => rfl)) (pk_cons (pe_ix (ix_listK (K := K) rfl) (pv 1) pe_int (fun _ _ => rfl)) (pk_cons (pe_ix (ix_listK (K := K) rfl) (pv 1) pe_int (fun _ _ => rfl)) (pk_cons (pe_ix (ix_listK (K := K) rfl) (pv 1) pe_int (fun _ _ => rfl)) (pk_cons (pe_ix (ix_listK (K := K) rfl) (pv 1) pe_int (fun _ _ => rfl)) (pk_cons (pe_ix (ix_listK (K := K) rfl) (pv 1) pe_int (fun _ _ => rfl)) pk_nil)))))))))))), ?_⟩
    have ord : ∀ x0 x1 x2 x3, ((∃ e, OrderBad K H x0 x1 x2 x3 e ∧ ∀ H', Same H H' → E (.ref (errOf cB cL cP cT e)) none H') ∨ ∃ out, OrderIs K H x0 x1 x2 x3 out ∧ ∀ H' p, Same H H' → H p = none → H' p = some (.lst (out.map fun y => V.int (y : Nat))) → Q (.ref p) H') → spOr (spOrderBad K cB cL cP cT) (spOrderAt K) [x0, x1, x2, x3] H Q E := fun x0 x1 x2 x3 h => by
      rcases h with ⟨e, hb, c⟩ | ⟨out, ⟨b, x, q, S, ws, ss, prs, rfl, rfl, rfl, rfl, g1, g2, g3, g4, g5, g6, g7, g8, g9, g10, g11, g12, g13⟩, c⟩
      · exact .inl ⟨x0, x1, x2, x3, rfl, e, hb, c⟩
      · exact .inr ⟨b, x, q, S, ws, ss, prs, rfl, g1, g2, g3, g4, g5, g6, g7, g8, g9, g10, g11, g12, fun H' p zs s1 hp h1 h2 eq => c H' p s1 hp (by rw [eq, g13 zs h1 h2])⟩
    have tim : ∀ x0 x1 x2 x3 x4 x5, ((∃ e, TimesBad K H x0 x1 x2 x3 x4 x5 e ∧ ∀ H', Same H H' → E (.ref (errOf cB cL cP cT e)) none H') ∨ ∃ n, TimesIs K H x0 x1 x2 x3 x4 x5 n ∧ ∀ H', Same H H' → Q (.int (n : Nat)) H') → spOr (spTimesBad K cB cL cP cT) (spTimes K) [x0, x1, x2, x3, x4, x5] H Q E := fun x0 x1 x2 x3 x4 x5 h => by
      rcases h with ⟨e, hb, c⟩ | ⟨n, ⟨b, a, p, o, q, x, y, ql, ws, rfl, rfl, rfl, rfl, g1, g2, g3, g4, g5, ⟨t1, rfl, u1, l1⟩, ⟨t2, rfl, u2, l2⟩, g6, g7, g8, g9, g10, g11, g12, g13, rfl⟩, c⟩
      · exact .inl ⟨x0, x1, x2, x3, x4, x5, rfl, e, hb, c⟩
      · exact .inr ⟨b, a, p, o, q, x, y, ql, t1, t2, ws, rfl, g1, g2, g3, g4, g5, u1, u2, ⟨l1, g6⟩, ⟨l2, g7⟩, g8, g9, g10, g11, g12, g13, c⟩
    rcases (show way = 0 ∨ way = 1 ∨ way = 2 ∨ way = 3 by omega) with rfl | rfl | rfl | rfl
    · obtain ⟨x0, x1, x2, x3, rfl, h⟩ := c1 (by decide)
      refine ⟨_, rfl, rfl, true, dT rfl, iteT ?_⟩
      exact ⟨.ref r, rfl, r, _, 0, _, rfl, rfl, hS, atI_nat (j := 0) rfl, .ref r, rfl, r, _, 1, _, rfl, rfl, hS, atI_nat (j := 1) rfl, .ref r, rfl, r, _, 2, _, rfl, rfl, hS, atI_nat (j := 2) rfl, .ref r, rfl, r, _, 3, _, rfl, rfl, hS, atI_nat (j := 3) rfl, ord x0 x1 x2 x3 h⟩
    · obtain ⟨x0, x1, x2, x3, rfl, h⟩ := c1 (by decide)
      refine ⟨_, rfl, rfl, false, dF (vN (by decide)), iteF ⟨_, rfl, rfl, true, dT rfl, iteT ?_⟩⟩
      exact ⟨.ref r, rfl, r, _, 3, _, rfl, rfl, hS, atI_nat (j := 3) rfl, .ref r, rfl, r, _, 2, _, rfl, rfl, hS, atI_nat (j := 2) rfl, .ref r, rfl, r, _, 1, _, rfl, rfl, hS, atI_nat (j := 1) rfl, .ref r, rfl, r, _, 0, _, rfl, rfl, hS, atI_nat (j := 0) rfl, rfl, ord x0 x1 x2 x3 h⟩
    · obtain ⟨x0, x1, x2, x3, x4, x5, rfl, h⟩ := c2 (by decide)
      refine ⟨_, rfl, rfl, false, dF (vN (by decide)), iteF ⟨_, rfl, rfl, false, dF (vN (by decide)), iteF ⟨_, rfl, rfl, true, dT rfl, iteT ?_⟩⟩⟩
      exact ⟨.ref r, rfl, r, _, 0, _, rfl, rfl, hS, atI_nat (j := 0) rfl, .ref r, rfl, r, _, 1, _, rfl, rfl, hS, atI_nat (j := 1) rfl, .ref r, rfl, r, _, 2, _, rfl, rfl, hS, atI_nat (j := 2) rfl, .ref r, rfl, r, _, 3, _, rfl, rfl, hS, atI_nat (j := 3) rfl, .ref r, rfl, r, _, 4, _, rfl, rfl, hS, atI_nat (j := 4) rfl, .ref r, rfl, r, _, 5, _, rfl, rfl, hS, atI_nat (j := 5) rfl, tim x0 x1 x2 x3 x4 x5 h⟩
    · obtain ⟨x0, x1, x2, x3, x4, x5, rfl, h⟩ := c2 (by decide)
      refine ⟨_, rfl, rfl, false, dF (vN (by decide)), iteF ⟨_, rfl, rfl, false, dF (vN (by decide)), iteF ⟨_, rfl, rfl, false, dF (vN (by decide)), iteF ?_⟩⟩⟩
      exact ⟨.ref r, rfl, r, _, 5, _, rfl, rfl, hS, atI_nat (j := 5) rfl, .ref r, rfl, r, _, 4, _, rfl, rfl, hS, atI_nat (j := 4) rfl, .ref r, rfl, r, _, 3, _, rfl, rfl, hS, atI_nat (j := 3) rfl, .ref r, rfl, r, _, 2, _, rfl, rfl, hS, atI_nat (j := 2) rfl, .ref r, rfl, r, _, 1, _, rfl, rfl, hS, atI_nat (j := 1) rfl, .ref r, rfl, r, _, 0, _, rfl, rfl, hS, atI_nat (j := 0) rfl, rfl, tim x0 x1 x2 x3 x4 x5 h⟩
/-- a calm one -/
def spAsk34C (K : PySem.W.Frag) : Sp := fun vs H Q _ => ∃ (way : Nat) (r : Addr) (xs : List V), vs = [.int (way : Nat), .ref r] ∧ way < 4 ∧ SqL K H r xs ∧
  (way < 2 → ∃ x0 x1 x2 x3, xs = [x0, x1, x2, x3] ∧ ∃ out, OrderIs K H x0 x1 x2 x3 out ∧ ∀ H' p, Same H H' → H p = none → H' p = some (.lst (out.map fun y => V.int (y : Nat))) → Q (.ref p) H') ∧
  (2 ≤ way → ∃ x0 x1 x2 x3 x4 x5, xs = [x0, x1, x2, x3, x4, x5] ∧ ∃ n, TimesIs K H x0 x1 x2 x3 x4 x5 n ∧ ∀ H', Same H H' → Q (.int (n : Nat)) H')
theorem ask34_calm {cB cL cP cT : Addr} : ∀ vs H Q E, spAsk34C K vs H Q E → spAsk34 K cB cL cP cT vs H Q fun _ _ _ => False := by
  rintro vs H Q E ⟨way, r, xs, e, hw, hS, c1, c2⟩
  refine ⟨way, r, xs, e, hw, hS, fun h => ?_, fun h => ?_⟩
  · obtain ⟨x0, x1, x2, x3, ex, z⟩ := c1 h
    exact ⟨x0, x1, x2, x3, ex, .inr z⟩
  · obtain ⟨x0, x1, x2, x3, x4, x5, ex, z⟩ := c2 h
    exact ⟨x0, x1, x2, x3, x4, x5, ex, .inr z⟩
end
/-! ### law k36: common ticks of a range, counted -/
theorem both_sub {a p o q f e t : Nat} (hp : 1 ≤ p) (hq : 1 ≤ q) (h : IsMeet a p o q f e) (hb : bothB a p o q t = true) : f ≤ t ∧ e ∣ t - f ∧ a + p ≤ t ∧ o + q ≤ t := by
  obtain ⟨⟨b1, b2⟩, b3, b4⟩ := bothB_iff.mp hb
  have d1 := Nat.dvd_of_mod_eq_zero b2
  have d2 := Nat.dvd_of_mod_eq_zero b4
  have g1 := ((fire_ge hp).mpr ⟨b1, b2⟩).1
  have g2 := ((fire_ge hq).mpr ⟨b3, b4⟩).1
  have hf : f ≤ t := by
    rcases Nat.lt_or_ge t f with l | l
    · have h2 := h
      obtain ⟨_, c1, c2, _⟩ := h2
      have := meet_uniq hp h (by omega) (by omega) d1 d2
      omega
    · exact l
  obtain ⟨he, c1, c2, c3, c4⟩ := h
  refine ⟨hf, ?_, g1, g2⟩
  rw [he]
  refine lcm_dvd hp ?_ ?_
  · have z := Nat.dvd_sub d1 c3
    rw [show t - a - (f - a) = t - f by omega] at z
    exact z
  · have z := Nat.dvd_sub d2 c4
    rw [show t - o - (f - o) = t - f by omega] at z
    exact z
theorem both_of {a p o q f e t : Nat} (hp : 1 ≤ p) (hq : 1 ≤ q) (h : IsMeet a p o q f e) (h1 : f ≤ t) (h2 : e ∣ t - f) (h3 : a + p ≤ t) (h4 : o + q ≤ t) : bothB a p o q t = true := by
  obtain ⟨he, c1, c2, c3, c4⟩ := h
  have hpe : p ∣ e := by
    rw [he, lcm_form hp]
    exact Nat.dvd_mul_left p _
  have hqe : q ∣ e := by
    rw [he]
    exact Nat.dvd_mul_left q _
  have d1 : p ∣ t - a := by
    have z := Nat.dvd_add (Nat.dvd_trans hpe h2) c3
    rw [show t - f + (f - a) = t - a by omega] at z
    exact z
  have d2 : q ∣ t - o := by
    have z := Nat.dvd_add (Nat.dvd_trans hqe h2) c4
    rw [show t - f + (f - o) = t - o by omega] at z
    exact z
  exact bothB_iff.mpr ⟨⟨by omega, Nat.mod_eq_zero_of_dvd d1⟩, by omega, Nat.mod_eq_zero_of_dvd d2⟩
/-- g is the first common tick at which both fired before -/
def IsFrom (a p o q f e g : Nat) : Prop := f ≤ g ∧ e ∣ g - f ∧ max (a + p) (o + q) ≤ g ∧ g < max (a + p) (o + q) + e
theorem both_at {a p o q f e g t : Nat} (hp : 1 ≤ p) (hq : 1 ≤ q) (h : IsMeet a p o q f e) (hg : IsFrom a p o q f e g) : bothB a p o q t = true ↔ g ≤ t ∧ e ∣ t - g := by
  obtain ⟨g1, g2, g3, g4⟩ := hg
  constructor
  · intro hb
    obtain ⟨b1, b2, b3, b4⟩ := both_sub hp hq h hb
    rcases Nat.lt_or_ge t g with l | l
    · have z := Nat.dvd_sub g2 b2
      rw [show g - f - (t - f) = g - t by omega] at z
      have := Nat.le_of_dvd (by omega) z
      omega
    · refine ⟨l, ?_⟩
      have z := Nat.dvd_sub b2 g2
      rw [show t - f - (g - f) = t - g by omega] at z
      exact z
  · rintro ⟨l, d⟩
    refine both_of hp hq h (by omega) ?_ (by omega) (by omega)
    have z := Nat.dvd_add d g2
    rw [show t - g + (g - f) = t - f by omega] at z
    exact z
theorem cntW2_all {P : Nat → Bool} {m e : Nat} : ∀ n, (∀ k, k < n → P (m + k * e) = true) → cntW2 P m e n = n
  | 0, _ => rfl
  | n + 1, h => by
    unfold cntW2
    rw [cntW2_all n (fun k hk => h k (by omega)), if_pos (h n (by omega))]
section
variable {P : Nat → Bool} {g e : Nat} (he : 1 ≤ e) (h : ∀ t, P t = true ↔ g ≤ t ∧ e ∣ t - g)
include he h
theorem at_all (k : Nat) : P (g + k * e) = true := (h _).mpr ⟨by omega, by rw [Nat.add_sub_cancel_left]; exact Nat.dvd_mul_left e k⟩
theorem cnt_from (k n : Nat) : cntP P (g + k * e) (n * e) = n := by
  rw [cntW2_windows he (fun t ht hm => ?_), cntW2_all n (fun i _ => ?_)]
  · have z := at_all he h (k + i)
    rw [Nat.add_mul] at z
    rw [Nat.add_assoc]
    exact z
  · have z := Nat.dvd_sub ((h t).mp ht).2 (Nat.dvd_mul_left e k)
    rw [show t - g - k * e = t - (g + k * e) by omega] at z
    exact z
theorem cnt_from1 (k n : Nat) : cntP P (g + k * e) (n * e + 1) = n + 1 := by
  rw [cntP_add, cnt_from he h, show g + k * e + n * e = g + (k + n) * e by rw [Nat.add_mul]; omega]
  show n + (0 + if P (g + (k + n) * e + 0) = true then 1 else 0) = n + 1
  rw [Nat.add_zero, if_pos (at_all he h _), Nat.zero_add]
theorem cnt_between (k : Nat) : cntP P (g + k * e + 1) (e - 1) = 0 := by
  have z := cnt_from he h k 1
  rw [Nat.one_mul, show e = 1 + (e - 1) by omega, cntP_add, ← show e = 1 + (e - 1) by omega] at z
  have y : cntP P (g + k * e) 1 = 1 := by
    show 0 + (if P (g + k * e + 0) = true then 1 else 0) = 1
    rw [Nat.add_zero, if_pos (at_all he h k)]
  omega
theorem cnt_before {n : Nat} (hn : n ≤ g) : cntP P 0 n = 0 := cntP_zero n fun t _ ht => by
  cases hp : P t with
  | false => rfl
  | true =>
    have := ((h t).mp hp).1
    omega
end
theorem cntP_split (P A : Nat → Bool) (lo : Nat) : ∀ n, cntP (fun t => P t && A t) lo n + cntP (fun t => P t && !A t) lo n = cntP P lo n
  | 0 => rfl
  | n + 1 => by
    have ih := cntP_split P A lo n
    have z : (if (P (lo + n) && A (lo + n)) = true then 1 else 0) + (if (P (lo + n) && !A (lo + n)) = true then 1 else 0) = if P (lo + n) = true then 1 else 0 := by
      cases P (lo + n) <;> cases A (lo + n) <;> rfl
    show cntP (fun t => P t && A t) lo n + (if (P (lo + n) && A (lo + n)) = true then 1 else 0) + (cntP (fun t => P t && !A t) lo n + (if (P (lo + n) && !A (lo + n)) = true then 1 else 0)) = cntP P lo n + if P (lo + n) = true then 1 else 0
    omega
theorem cntP_le {P R : Nat → Bool} {lo : Nat} (n : Nat) (h : cntP R lo n = 0) : cntP (fun t => R t && P t) lo n = 0 := by
  have z := cntP_split R P lo n
  omega
/-- one of the two by turns -/
theorem cnt_swap {ws : List Bool} {b a p o q : Nat} (hpq : p ≠ q) (lo n : Nat) : cntP (fun t => bothB o q a p t && ahB ws b q p t) lo n = cntP (fun t => bothB a p o q t && !ahB ws b p q t) lo n := by
  refine cntP_congr n fun t _ _ => ?_
  rw [ahB_swap hpq]
  unfold bothB
  rw [Bool.and_comm (fireB o q t)]
/-- the first common tick is what it is -/
theorem meet_same {a p o q f e f' e' : Nat} (hp : 1 ≤ p) (h : IsMeet a p o q f e) (h' : IsMeet a p o q f' e') : f' = f ∧ e' = e := by
  have h2 := h
  obtain ⟨he, _⟩ := h2
  obtain ⟨he', c1, c2, c3, c4⟩ := h'
  have ee : e' = e := by rw [he, he']
  subst ee
  exact ⟨meet_uniq hp h c1 c2 c3 c4, rfl⟩
theorem meetN_few {f e x y n : Nat} (he : 1 ≤ e) (h : y ≤ x + n * e) : meetN (meetM f e x) e y ≤ n := by
  have h1 := meetM_ge (f := f) (x := x) he
  unfold meetN
  have h2 : y - meetM f e x + (e - 1) < (n + 1) * e := by
    rw [Nat.succ_mul]
    omega
  have := (Nat.div_lt_iff_lt_mul (show 0 < e by omega)).mpr h2
  omega
theorem meetM_zero {f e : Nat} (he : 1 ≤ e) : meetM f e 0 = f := by
  unfold meetM
  rw [Nat.zero_sub, Nat.zero_add, Nat.div_eq_of_lt (by omega), Nat.zero_mul]
  rfl
/-- few common ticks ahead of the first one at which both fired before -/
theorem from_few {a p o q f e g : Nat} (hp : 1 ≤ p) (hq : 1 ≤ q) (h : IsMeet a p o q f e) (hg : IsFrom a p o q f e g) : g ≤ f + 2 * e := by
  obtain ⟨he, c1, c2, c3, c4⟩ := h
  obtain ⟨g1, g2, g3, g4⟩ := hg
  have h1 : p ≤ e := by
    rw [he, lcm_form hp]
    exact Nat.le_mul_of_pos_left p (Nat.div_pos (Nat.le_of_dvd (by omega) (Nat.gcd_dvd_right p q)) (Nat.gcd_pos_of_pos_left q hp))
  have h2 : q ≤ e := by
    rw [he]
    exact Nat.le_mul_of_pos_left q (Nat.div_pos (Nat.le_of_dvd (by omega) (Nat.gcd_dvd_left p q)) (Nat.gcd_pos_of_pos_left q hp))
  omega
/-- one step of the law's loop towards it -/
theorem from_step {f e l x : Nat} (he : 1 ≤ e) (h1 : f ≤ x) (h2 : e ∣ x - f) (h3 : x < l) : f ≤ x + e * max 1 ((l - x) / e) ∧ e ∣ x + e * max 1 ((l - x) / e) - f ∧ x < x + e * max 1 ((l - x) / e) ∧ x + e * max 1 ((l - x) / e) < l + e := by
  have h4 : e * ((l - x) / e) ≤ l - x := Nat.mul_div_le _ _
  have h5 : e * 1 ≤ e * max 1 ((l - x) / e) := Nat.mul_le_mul_left e (Nat.le_max_left _ _)
  have h6 : e * max 1 ((l - x) / e) < l - x + e ∨ e * max 1 ((l - x) / e) ≤ l - x := by
    rcases Nat.le_total 1 ((l - x) / e) with z | z
    · rw [Nat.max_eq_right z]
      exact .inr h4
    · rw [Nat.max_eq_left z]
      left
      omega
  refine ⟨by omega, ?_, by omega, by omega⟩
  rw [show x + e * max 1 ((l - x) / e) - f = (x - f) + e * max 1 ((l - x) / e) by omega]
  exact Nat.dvd_add h2 (Nat.dvd_mul_right e _)
/-! ### law k34: what is due of a row -/
def errW : Nat → Str
  | 0 => "base"
  | 1 => "levels"
  | 2 => "period"
  | _ => "tick"
def VerdO (K : PySem.W.Frag) (H : Hp) (xs : List V) (w : Str) : Prop := ∃ x0 x1 x2 x3, xs = [x0, x1, x2, x3] ∧ ((∃ e, e < 4 ∧ OrderBad K H x0 x1 x2 x3 e ∧ w = errW e) ∨ (w = "told" ∧ ∃ out, OrderIs K H x0 x1 x2 x3 out))
def VerdT (K : PySem.W.Frag) (H : Hp) (xs : List V) (w : Str) : Prop := ∃ x0 x1 x2 x3 x4 x5, xs = [x0, x1, x2, x3, x4, x5] ∧ ((∃ e, e < 4 ∧ TimesBad K H x0 x1 x2 x3 x4 x5 e ∧ w = errW e) ∨ (w = "told" ∧ ∃ n, TimesIs K H x0 x1 x2 x3 x4 x5 n))
theorem verd_o {K : PySem.W.Frag} {H : Hp} {b late : Nat} {ql A : Addr} {ws : List Bool} {ss : List Addr} {prs : List (Nat × Nat)} {o0 o1 o2 o3 : V} {bs : List Bool} (hb2 : 2 ≤ b) (hb64 : b ≤ 64) (hL : SqL K H ql (ws.map lvV)) (hne : ws ≠ []) (h60 : ws.length ≤ 60) (hlate : late < 2 ^ 250)
    (hA : H A = some (.lst (ss.map V.ref))) (hP : PrAt H ss prs) (hpne : prs ≠ []) (hp60 : prs.length ≤ 60) (hp1 : ∀ r ∈ prs, 1 ≤ r.2 ∧ r.1 ≠ late) (hnd : (prs.map (·.2)).Nodup) (q0 : BadBase K H o0) (q1 : BadLevels K H o1) (q2 : BadSeveral K H o2) (q3 : BadTick K H o3 0 ∨ ∃ d : Nat, o3 = .int (d : Nat) ∧ ∃ r ∈ prs, r.1 = d) (lb : bs.length = 4) :
    VerdO K H (mixL bs [o0, o1, o2, o3] [.int (b : Nat), .ref ql, .ref A, .int (late : Nat)]) (firstW bs ["base", "levels", "period", "tick"]) := by
  have gb : ∃ n : Nat, V.int (b : Nat) = .int (n : Nat) ∧ 2 ≤ n ∧ n ≤ 64 := ⟨b, rfl, hb2, hb64⟩
  have gl : ∃ (q : Addr) (ws' : List Bool), V.ref ql = .ref q ∧ SqL K H q (ws'.map lvV) ∧ ws' ≠ [] ∧ ws'.length ≤ 60 := ⟨ql, ws, rfl, hL, hne, h60⟩
  match bs, lb with
  | [true, b1, b2, b3], _ => exact ⟨_, _, _, _, rfl, .inl ⟨0, by decide, .inl ⟨rfl, q0⟩, rfl⟩⟩
  | [false, true, b2, b3], _ => exact ⟨_, _, _, _, rfl, .inl ⟨1, by decide, .inr ⟨gb, .inl ⟨rfl, q1⟩⟩, rfl⟩⟩
  | [false, false, true, b3], _ => exact ⟨_, _, _, _, rfl, .inl ⟨2, by decide, .inr ⟨gb, .inr ⟨gl, .inl ⟨rfl, q2⟩⟩⟩, rfl⟩⟩
  | [false, false, false, true], _ => exact ⟨_, _, _, _, rfl, .inl ⟨3, by decide, .inr ⟨gb, .inr ⟨gl, .inr ⟨A, ss, prs, rfl, hA, hP, hpne, hp60, fun r hr => (hp1 r hr).1, hnd, rfl, q3⟩⟩⟩, rfl⟩⟩
  | [false, false, false, false], _ =>
    obtain ⟨out, ho⟩ := order_any b late ws prs
    exact ⟨_, _, _, _, rfl, .inr ⟨rfl, out, b, late, ql, A, ws, ss, prs, rfl, rfl, rfl, rfl, hb2, hb64, hL, hne, h60, hlate, hA, hP, hpne, hp60, hp1, hnd, ho⟩⟩
theorem badtick_up {K : PySem.W.Frag} {H : Hp} {x : V} {n : Nat} (h : BadTick K H x 0) : BadTick K H x (n : Nat) := by
  rcases h with h | ⟨m, e, h⟩
  · exact .inl h
  · exact .inr ⟨m, e, by omega⟩
theorem verd_t {K : PySem.W.Frag} {H : Hp} {b a p o x y : Nat} {ql t1 t2 : Addr} {ws : List Bool} {o0 o1 o2 o3 o4 o5 : V} {bs : List Bool} (hb2 : 2 ≤ b) (hb64 : b ≤ 64) (hL : SqL K H ql (ws.map lvV)) (hne : ws ≠ []) (h60 : ws.length ≤ 60)
    (g1 : PairAt H (.ref t1) a p) (g2 : PairAt H (.ref t2) o 12) (ha : a < 30) (ho : o < 30) (hp : p < 12) (hx : x < 900) (hxy : x ≤ y) (hy : y < x + 200) (q0 : BadBase K H o0) (q1 : BadLevels K H o1) (q2 : BadPair K H o2) (q3 : BadPair K H o3 ∨ PairAt H o3 3 p) (q4 : BadTick K H o4 0) (q5 : BadTick K H o5 0 ∨ o5 = .int ((x : Int) - 1)) (lb : bs.length = 6) :
    VerdT K H (mixL bs [o0, o1, o2, o3, o4, o5] [.int (b : Nat), .ref ql, .ref t1, .ref t2, .int (x : Nat), .int (y : Nat)]) (firstW bs ["base", "levels", "period", "period", "tick", "tick"]) := by
  have gb : ∃ n : Nat, V.int (b : Nat) = .int (n : Nat) ∧ 2 ≤ n ∧ n ≤ 64 := ⟨b, rfl, hb2, hb64⟩
  have gl : ∃ (q : Addr) (ws' : List Bool), V.ref ql = .ref q ∧ SqL K H q (ws'.map lvV) ∧ ws' ≠ [] ∧ ws'.length ≤ 60 := ⟨ql, ws, rfl, hL, hne, h60⟩
  have hpp : p ≠ 12 := by omega
  match bs, lb with
  | [true, b1, b2, b3, b4, b5], _ => exact ⟨_, _, _, _, _, _, rfl, .inl ⟨0, by decide, .inl ⟨rfl, q0⟩, rfl⟩⟩
  | [false, true, b2, b3, b4, b5], _ => exact ⟨_, _, _, _, _, _, rfl, .inl ⟨1, by decide, .inr ⟨gb, .inl ⟨rfl, q1⟩⟩, rfl⟩⟩
  | [false, false, true, b3, b4, b5], _ => exact ⟨_, _, _, _, _, _, rfl, .inl ⟨2, by decide, .inr ⟨gb, .inr ⟨gl, .inl ⟨rfl, .inl q2⟩⟩⟩, rfl⟩⟩
  | [false, false, false, true, b4, b5], _ =>
    refine ⟨_, _, _, _, _, _, rfl, .inl ⟨2, by decide, .inr ⟨gb, .inr ⟨gl, .inl ⟨rfl, .inr ⟨a, p, g1, ?_⟩⟩⟩⟩, rfl⟩⟩
    rcases q3 with h | h
    · exact .inl h
    · exact .inr ⟨3, h⟩
  | [false, false, false, false, true, b5], _ => exact ⟨_, _, _, _, _, _, rfl, .inl ⟨3, by decide, .inr ⟨gb, .inr ⟨gl, .inr ⟨a, p, o, 12, g1, g2, hpp, rfl, .inl q4⟩⟩⟩, rfl⟩⟩
  | [false, false, false, false, false, true], _ =>
    refine ⟨_, _, _, _, _, _, rfl, .inl ⟨3, by decide, .inr ⟨gb, .inr ⟨gl, .inr ⟨a, p, o, 12, g1, g2, hpp, rfl, .inr ⟨x, rfl, ?_⟩⟩⟩⟩, rfl⟩⟩
    rcases q5 with h | h
    · exact badtick_up h
    · exact .inr ⟨_, h, by omega⟩
  | [false, false, false, false, false, false], _ =>
    have w1 : (2 : Nat) ^ 200 = 2 ^ 199 * 2 := rfl
    refine ⟨_, _, _, _, _, _, rfl, .inr ⟨rfl, _, b, a, p, o, 12, x, y, ql, ws, rfl, rfl, rfl, rfl, hb2, hb64, hL, hne, h60, g1, g2, Nat.lt_trans hp (by decide), by decide, hpp, Nat.lt_trans ha (by decide), Nat.lt_trans ho (by decide), hxy, Nat.lt_trans (show y < 2000 by omega) (by decide), fun f e hm => ?_, rfl⟩⟩
    have he : 1 ≤ e := by
      obtain ⟨_, _, _, l1⟩ := g1
      rw [hm.1]
      exact lcm_pos l1 (by decide)
    have hle : y ≤ x + 2000 * e := by
      have : 2000 * 1 ≤ 2000 * e := Nat.mul_le_mul_left _ he
      omega
    exact meetN_few he hle
/-! ### law k34: the arguments of both functions -/
theorem atI_end34 {xs : List V} {v : V} (h : xs[xs.length - 1]? = some v) : atI xs (-1) = some v := by
  have hl := (List.getElem?_eq_some_iff.mp h).1
  unfold atI ixN
  rw [if_neg (by decide), if_pos (by omega)]
  show xs[((-1 : Int) + (xs.length : Int)).toNat]? = some v
  rw [show ((-1 : Int) + (xs.length : Int)).toNat = xs.length - 1 by omega]
  exact h
def paces (r : Nat) : List Nat := ([2, 3, 5, 7] : List Nat).take (1 + r)
theorem paces_cut {r : Nat} (h : r < 4) : cutV [V.int 2, .int 3, .int 5, .int 7] none (some ((1 + r : Nat) : Int)) = (paces r).map fun n => V.int (n : Nat) := by
  match r, h with
  | 0, _ => rfl
  | 1, _ => rfl
  | 2, _ => rfl
  | 3, _ => rfl
  | r + 4, h => omega
theorem paces_ok {r : Nat} (h : r < 4) : (paces r).Nodup ∧ (∀ n ∈ paces r, 2 ≤ n ∧ n ≤ 7) ∧ paces r ≠ [] ∧ (paces r).length ≤ 4 := by
  match r, h with
  | 0, _ => decide
  | 1, _ => decide
  | 2, _ => decide
  | 3, _ => decide
  | r + 4, h => omega
def Rows34At (K : PySem.W.Frag) (H : Hp) (M : Addr) : Prop := ∃ (T1 T2 F1 F2 : Addr) (w1 w2 : Str) (xs ys : List V), H M = some (.lst [.ref T1, .ref T2]) ∧ H T1 = some (.tup [.ref F1, .str w1]) ∧ H T2 = some (.tup [.ref F2, .str w2]) ∧ H F1 = some (.lst xs) ∧ H F2 = some (.lst ys) ∧ VerdO K H xs w1 ∧ VerdT K H ys w2 ∧
  (∀ x ∈ xs, OddW K H 7 15005 x) ∧ (∀ y ∈ ys, OddW K H 7 15005 y)
theorem mix_all {Pr : V → Prop} : ∀ {bs : List Bool} {os xs : List V}, (∀ o ∈ os, Pr o) → (∀ x ∈ xs, Pr x) → ∀ y ∈ mixL bs os xs, Pr y
  | b :: bs, o :: os, x :: xs, h1, h2, y, hy => by
    rcases List.mem_cons.mp hy with rfl | hy
    · cases b with
      | true => exact h1 o List.mem_cons_self
      | false => exact h2 x List.mem_cons_self
    · exact mix_all (bs := bs) (fun o h => h1 o (List.mem_cons_of_mem _ h)) (fun x h => h2 x (List.mem_cons_of_mem _ h)) y hy
  | [], _, _, _, _, y, hy => by cases hy
  | _ :: _, [], _, _, _, y, hy => by cases hy
  | _ :: _, _ :: _, [], _, _, y, hy => by cases hy
section
variable {P : Program} {w : World} {K : PySem.W.Frag} {mg : Str → Option Value} {base : Heap}
def spRows34 (K : PySem.W.Frag) : Sp := fun vs H Q _ => ∃ ps : Addr, vs = [.ref ps] ∧ SrcAt H ps ∧ ∀ H' M, Stp ps H H' → Rows34At K H' M → Q (.ref M) H'
set_option maxHeartbeats 40000000 in
theorem ok_rows34 {f : Addr} {fd : FuncData} (F : Fun K "_law_rows" "_law_rows" s__law_rows f fd) (T : Tx K mg) (h2 : Has P w K mg base 2 "_law_next" ["_law_source_here", "_law_many"] [] spNext) (h3 : Has P w K mg base 3 "_law_base" ["_law_source_here"] [] spBase) (h4 : Has P w K mg base 3 "_law_levels" ["_law_source_here"] [] spLevels)
    (h5 : Has P w K mg base 3 "_law_bad_tick" ["_law_source_here"] [] (spBad24 K fun H x => BadTick K H x 0)) (h6 : Has P w K mg base 3 "_law_bad_base" ["_law_source_here"] [] (spBad24 K fun H x => BadBase K H x)) (h7 : Has P w K mg base 3 "_law_bad_levels" ["_law_source_here"] [] (spBad24 K fun H x => BadLevels K H x))
    (h8 : Has P w K mg base 3 "_law_bad_pair" ["_law_source_here"] [] (spBad24 K fun H x => BadPair K H x)) (h9 : Has P w K mg base 4 "_law_bad_list" ["_law_source_here", "_law_pairs"] [] (spBadList K)) (h10 : Has P w K mg base 3 "_law_spoilt" ["_law_source_here", "_law_row", "_law_odd", "_law_names"] [] (spSpoilt K)) :
    FnOk P w K mg base CX0 5 f fd ["_law_source_here"] (spRows34 K) := by
  obtain ⟨f__law_next, fd__law_next, ds__law_next, G__law_next, m__law_next, k__law_next, b__law_next, v__law_next⟩ := h2
  obtain ⟨f__law_base, fd__law_base, ds__law_base, G__law_base, m__law_base, k__law_base, b__law_base, v__law_base⟩ := h3
  obtain ⟨f__law_levels, fd__law_levels, ds__law_levels, G__law_levels, m__law_levels, k__law_levels, b__law_levels, v__law_levels⟩ := h4
  obtain ⟨f__law_bad_tick, fd__law_bad_tick, ds__law_bad_tick, G__law_bad_tick, m__law_bad_tick, k__law_bad_tick, b__law_bad_tick, v__law_bad_tick⟩ := h5
  obtain ⟨f__law_bad_base, fd__law_bad_base, ds__law_bad_base, G__law_bad_base, m__law_bad_base, k__law_bad_base, b__law_bad_base, v__law_bad_base⟩ := h6
  obtain ⟨f__law_bad_levels, fd__law_bad_levels, ds__law_bad_levels, G__law_bad_levels, m__law_bad_levels, k__law_bad_levels, b__law_bad_levels, v__law_bad_levels⟩ := h7
  obtain ⟨f__law_bad_pair, fd__law_bad_pair, ds__law_bad_pair, G__law_bad_pair, m__law_bad_pair, k__law_bad_pair, b__law_bad_pair, v__law_bad_pair⟩ := h8
  obtain ⟨f__law_bad_list, fd__law_bad_list, ds__law_bad_list, G__law_bad_list, m__law_bad_list, k__law_bad_list, b__law_bad_list, v__law_bad_list⟩ := h9
  obtain ⟨f__law_spoilt, fd__law_spoilt, ds__law_spoilt, G__law_spoilt, m__law_spoilt, k__law_spoilt, b__law_spoilt, v__law_spoilt⟩ := h10
  refine F.ok sc__law_rows (fun vs H Q E h => ?_) (fun cdv A outer s H vs Q E hr h => ?_)
  · obtain ⟨ps, rfl, _⟩ := h
    rfl
  · obtain ⟨ps, rfl, hsrc, c⟩ := h
    refine ⟨_, (pss_cons (ps_par (i := 1) (j := 2) (by rfl) sc__law_rows.nd rfl rfl (by decide) rfl rfl (pa_cons (pe_call G__law_base (hr.mono (by decide)) (by rfl) m__law_base k__law_base b__law_base v__law_base pass0 (pa_cons (pv 0) pa_nil)) (pa_cons (pe_call G__law_levels (hr.mono (by decide)) (by rfl) m__law_levels k__law_levels b__law_levels v__law_levels pass0 (pa_cons (pv 0) pa_nil)) pa_nil)) (by rfl))
      (pss_cons (ps_set (i := 3) sc__law_rows.nd rfl (.inl rfl) (pe_op op_mulN pe_int (pe_op op_addN pe_int (pe_call G__law_next (hr.mono (by decide)) (by rfl) m__law_next k__law_next b__law_next v__law_next pass0 (pa_cons (pv 0) (pa_cons (pe_op op_pow pe_int pe_int) pa_nil))))))
      (pss_cons (ps_set (i := 4) sc__law_rows.nd rfl (.inl rfl) (pe_lst pa_nil))
      (pss_cons (ps_for PassesOwn.never rfl (pi_list (pe_slice (sl_listK (K := K) rfl) (pe_lst (pa_cons pe_int (pa_cons pe_int (pa_cons pe_int (pa_cons pe_int pa_nil))))) po_none (po_some (pe_op op_addN pe_int (pe_call G__law_next (hr.mono (by decide)) (by rfl) m__law_next k__law_next b__law_next v__law_next pass0 (pa_cons (pv 0) (pa_cons pe_int pa_nil))))))) (pg_name (i := 5) sc__law_rows.nd rfl (.inl rfl))
        (pss_one (ps_expr (pe_bm PySem.F.plainAttrs_list PySem.F.slot_list_append PySem.F.type_list_append mt_append (pv 4) (pa_cons (pe_tup (pa_cons (pe_op op_subN (pv 3) (pe_op op_mulN (pv 5) (pe_op op_addN pe_int (pe_call G__law_next (hr.mono (by decide)) (by rfl) m__law_next k__law_next b__law_next v__law_next pass0 (pa_cons (pv 0) (pa_cons pe_int pa_nil)))))) (pa_cons (pv 5) pa_nil))) pa_nil)))))
      (pss_cons (ps_set (i := 6) sc__law_rows.nd rfl (.inl rfl) (pe_ix (ix_listK (K := K) rfl) (pe_lst (pa_cons (pe_call G__law_bad_tick (hr.mono (by decide)) (by rfl) m__law_bad_tick k__law_bad_tick b__law_bad_tick v__law_bad_tick pass0 (pa_cons (pv 0) pa_nil)) (pa_cons (pe_ix (ix_tupK (K := K) rfl) (pe_ix (ix_listK (K := K) rfl) (pv 4) pe_int (fun _ _ => rfl)) pe_int (fun _ _ => rfl)) (pa_cons (pe_ix (ix_tupK (K := K) rfl) (pe_ix (ix_listK (K := K) rfl) (pv 4) (pe_un un_neg pe_int) (fun _ _ => rfl)) pe_int (fun _ _ => rfl)) pa_nil)))) (pe_call G__law_next (hr.mono (by decide)) (by rfl) m__law_next k__law_next b__law_next v__law_next pass0 (pa_cons (pv 0) (pa_cons pe_int pa_nil))) (fun _ _ => rfl)))
      (pss_cons (ps_set (i := 7) sc__law_rows.nd rfl (.inl rfl) (pe_lst (pa_cons (pv 1) (pa_cons (pv 2) (pa_cons (pv 4) (pa_cons (pv 3) pa_nil))))))
      (pss_cons (ps_set (i := 8) sc__law_rows.nd rfl (.inl rfl) (pe_lst (pa_cons (pe_call G__law_bad_base (hr.mono (by decide)) (by rfl) m__law_bad_base k__law_bad_base b__law_bad_base v__law_bad_base pass0 (pa_cons (pv 0) pa_nil)) (pa_cons (pe_call G__law_bad_levels (hr.mono (by decide)) (by rfl) m__law_bad_levels k__law_bad_levels b__law_bad_levels v__law_bad_levels pass0 (pa_cons (pv 0) pa_nil)) (pa_cons (pe_call G__law_bad_list hr (by rfl) m__law_bad_list k__law_bad_list b__law_bad_list v__law_bad_list pass0 (pa_cons (pv 0) (pa_cons (pv 4) pa_nil))) (pa_cons (pv 6) pa_nil))))))
      (pss_cons (ps_set (i := 9) sc__law_rows.nd rfl (.inl rfl) (pe_lst (pa_cons (pe_call G__law_spoilt (hr.mono (by decide)) (by rfl) m__law_spoilt k__law_spoilt b__law_spoilt v__law_spoilt pass0 (pa_cons (pv 0) (pa_cons (pv 7) (pa_cons (pv 8) (pa_cons (pe_lst (pa_cons pe_str (pa_cons pe_str (pa_cons pe_str (pa_cons pe_str pa_nil))))) pa_nil))))) pa_nil)))
      (pss_cons (ps_par (i := 10) (j := 11) (by rfl) sc__law_rows.nd rfl rfl (by decide) rfl rfl (pa_cons (pe_tup (pa_cons (pe_call G__law_next (hr.mono (by decide)) (by rfl) m__law_next k__law_next b__law_next v__law_next pass0 (pa_cons (pv 0) (pa_cons pe_int pa_nil))) (pa_cons (pe_op op_addN pe_int (pe_call G__law_next (hr.mono (by decide)) (by rfl) m__law_next k__law_next b__law_next v__law_next pass0 (pa_cons (pv 0) (pa_cons pe_int pa_nil)))) pa_nil))) (pa_cons (pe_tup (pa_cons (pe_call G__law_next (hr.mono (by decide)) (by rfl) m__law_next k__law_next b__law_next v__law_next pass0 (pa_cons (pv 0) (pa_cons pe_int pa_nil))) (pa_cons pe_int pa_nil))) pa_nil)) (by rfl))
      (pss_cons (ps_set (i := 12) sc__law_rows.nd rfl (.inl rfl) (pe_call G__law_next (hr.mono (by decide)) (by rfl) m__law_next k__law_next b__law_next v__law_next pass0 (pa_cons (pv 0) (pa_cons pe_int pa_nil))))
      (pss_cons (ps_set (i := 7) sc__law_rows.nd rfl (.inl rfl) (pe_lst (pa_cons (pv 1) (pa_cons (pv 2) (pa_cons (pv 10) (pa_cons (pv 11) (pa_cons (pv 12) (pa_cons (pe_op op_addN (pv 12) (pe_call G__law_next (hr.mono (by decide)) (by rfl) m__law_next k__law_next b__law_next v__law_next pass0 (pa_cons (pv 0) (pa_cons pe_int pa_nil)))) pa_nil))))))))
      (pss_cons (ps_set (i := 13) sc__law_rows.nd rfl (.inl rfl) (pe_lst (pa_cons (pe_call G__law_bad_pair (hr.mono (by decide)) (by rfl) m__law_bad_pair k__law_bad_pair b__law_bad_pair v__law_bad_pair pass0 (pa_cons (pv 0) pa_nil)) (pa_cons (pe_ix (ix_listK (K := K) rfl) (pe_lst (pa_cons (pe_call G__law_bad_pair (hr.mono (by decide)) (by rfl) m__law_bad_pair k__law_bad_pair b__law_bad_pair v__law_bad_pair pass0 (pa_cons (pv 0) pa_nil)) (pa_cons (pe_tup (pa_cons pe_int (pa_cons (pe_ix (ix_tupK (K := K) rfl) (pv 10) pe_int (fun _ _ => rfl)) pa_nil))) pa_nil))) (pe_call G__law_next (hr.mono (by decide)) (by rfl) m__law_next k__law_next b__law_next v__law_next pass0 (pa_cons (pv 0) (pa_cons pe_int pa_nil))) (fun _ _ => rfl)) pa_nil))))
      (pss_cons (ps_set (i := 14) sc__law_rows.nd rfl (.inl rfl) (pe_ix (ix_listK (K := K) rfl) (pe_lst (pa_cons (pe_call G__law_bad_tick (hr.mono (by decide)) (by rfl) m__law_bad_tick k__law_bad_tick b__law_bad_tick v__law_bad_tick pass0 (pa_cons (pv 0) pa_nil)) (pa_cons (pe_op op_sub (pv 12) pe_int) pa_nil))) (pe_call G__law_next (hr.mono (by decide)) (by rfl) m__law_next k__law_next b__law_next v__law_next pass0 (pa_cons (pv 0) (pa_cons pe_int pa_nil))) (fun _ _ => rfl)))
      (pss_cons (ps_set (i := 8) sc__law_rows.nd rfl (.inl rfl) (pe_op op_cat (pe_op op_cat (pe_lst (pa_cons (pe_call G__law_bad_base (hr.mono (by decide)) (by rfl) m__law_bad_base k__law_bad_base b__law_bad_base v__law_bad_base pass0 (pa_cons (pv 0) pa_nil)) (pa_cons (pe_call G__law_bad_levels (hr.mono (by decide)) (by rfl) m__law_bad_levels k__law_bad_levels b__law_bad_levels v__law_bad_levels pass0 (pa_cons (pv 0) pa_nil)) pa_nil))) (pv 13)) (pe_lst (pa_cons (pe_call G__law_bad_tick (hr.mono (by decide)) (by rfl) m__law_bad_tick k__law_bad_tick b__law_bad_tick v__law_bad_tick pass0 (pa_cons (pv 0) pa_nil)) (pa_cons (pv 14) pa_nil)))))
      (pss_one (ps_ret (pe_op op_cat (pv 9) (pe_lst (pa_cons (pe_call G__law_spoilt (hr.mono (by decide)) (by rfl) m__law_spoilt k__law_spoilt b__law_spoilt v__law_spoilt pass0 (pa_cons (pv 0) (pa_cons (pv 7) (pa_cons (pv 8) (pa_cons (pe_lst (pa_cons pe_str (pa_cons pe_str (pa_cons pe_str (pa_cons pe_str (pa_cons pe_str (pa_cons pe_str pa_nil))))))) pa_nil))))) pa_nil))))))))))))))))))), ?_⟩
    refine ⟨_, rfl, ps, rfl, hsrc, fun b H1 hb2 hb64 s1 => ⟨_, rfl, ps, rfl, s1.src, fun H2 ql ws s2 hql0 hql hne h60 => ⟨_, _, rfl, ?_⟩⟩⟩
    have nql : ql ≠ ps := s1.src.ne hql0
    -- the tick
    refine ⟨_, rfl, 10, 9, rfl, rfl, ⟨by decide, by decide, by decide⟩, ps, _, rfl, by decide, by decide, s2.src, fun r3 H3 hr3 s3 => ⟨1, r3, rfl, rfl, trivial, 5040, 1 + r3, rfl, rfl, nmul_l (by decide), ?_⟩⟩
    have hr3' : r3 < 1000000000 := by
      have z : (10 : Int) ^ (9 : Int).toNat = 1000000000 := by decide
      omega
    obtain ⟨late, hlate⟩ : ∃ l : Nat, 5040 * (1 + r3) = l := ⟨_, rfl⟩
    have hlate2 : (fun a b : Nat => a * b) 5040 (1 + r3) = late := hlate
    rw [hlate2]
    have hl1 : 5040 ≤ late := by omega
    have hlt60 : late < 2 ^ 60 := by
      have z : (2 : Nat) ^ 60 = 1152921504606846976 := by decide
      omega
    clear hlate hlate2
    have st3 := (s1.trans s2).trans s3
    -- the timers
    refine ⟨by simp [sizeLine_eq], fun B hB => ?_⟩
    have sB := same_upd (o := .lst []) hB
    have eB : (upd H3 B (.lst [])) B = some (.lst []) := upd_same
    generalize upd H3 B (.lst []) = H4 at sB eB ⊢
    have nB : B ≠ ps := s3.src.ne hB
    refine ⟨by simp [sizeLine_eq], fun l hl => ?_⟩
    have sl := same_upd (o := .lst [.int 2, .int 3, .int 5, .int 7]) hl
    have el : (upd H4 l (.lst [.int 2, .int 3, .int 5, .int 7])) l = some (.lst [.int 2, .int 3, .int 5, .int 7]) := upd_same
    generalize upd H4 l (.lst [.int 2, .int 3, .int 5, .int 7]) = H5 at sl el ⊢
    have src5 := s3.src.same (sB.trans sl)
    have nl : l ≠ ps := (s3.src.same sB).ne hl
    refine ⟨_, rfl, ps, 4, rfl, by decide, by decide, src5, fun r6 H6 hr6 s6 => ⟨1, r6, rfl, rfl, trivial, ((1 + r6 : Nat) : Int), rfl, l, _, rfl, SqL.of (s6.keep _ _ nl el), fun u hu => ?_⟩⟩
    have hr6' : r6 < 4 := by omega
    rw [paces_cut hr6']
    obtain ⟨pc1, pc2, pc3, pc4⟩ := paces_ok hr6'
    have su := same_upd (o := .lst ((paces r6).map fun n => V.int (n : Nat))) hu
    have eu : (upd H6 u (.lst ((paces r6).map fun n => V.int (n : Nat)))) u = some (.lst ((paces r6).map fun n => V.int (n : Nat))) := upd_same
    generalize upd H6 u (.lst ((paces r6).map fun n => V.int (n : Nat))) = H7 at su eu ⊢
    have nu : u ≠ ps := s6.src.ne hu
    have eB7 := su _ _ (s6.keep _ _ nB (sl _ _ eB))
    have st37 : Stp ps H3 H7 := ((s3.src.stp_same (sB.trans sl)).trans s6).same su
    have nuB : u ≠ B := fun z => by
      rw [z] at hu
      have := s6.keep _ _ nB (sl _ _ eB)
      rw [hu] at this
      cases this
    refine ⟨u, rfl, ⟨_, SqL.of eu⟩, for_list (K := K) (a := u) (xs := (paces r6).map fun n => V.int (n : Nat)) (fun i σ H' => Stp ps H3 H' ∧ H' u = some (.lst ((paces r6).map fun n => V.int (n : Nat))) ∧ ∃ (ss : List Addr) (prs : List (Nat × Nat)) (y5 : Option V), PrAt H' ss prs ∧ prs.map (·.2) = (paces r6).take i ∧ H' B = some (.lst (ss.map V.ref)) ∧ (∀ r ∈ prs, r.1 < late) ∧
        σ = [some (.ref ps), some (.int (b : Nat)), some (.ref ql), some (.int (late : Nat)), some (.ref B), y5, none, none, none, none, none, none, none, none, none]) ⟨st37, eu, [], [], none, trivial, rfl, eB7, fun r hr => (nomatch hr), rfl⟩ (fun i σ H' _ ⟨_, z, _⟩ => SqL.of z) ?_ ?_⟩
    · rintro i x σ H' hx ⟨st, eu', ss, prs, y5, hP, hpr, eB', hlt, rfl⟩
      obtain ⟨n, hn, rfl⟩ : ∃ n, (paces r6)[i]? = some n ∧ x = .int (n : Nat) := by
        rw [List.getElem?_map] at hx
        obtain ⟨y, h1, h2⟩ := Option.map_eq_some_iff.mp hx
        exact ⟨y, h1, h2.symm⟩
      have hn7 := pc2 n (List.mem_of_getElem? hn)
      refine ⟨.ref B, rfl, .inl ⟨rfl, _, SqL.of eB'⟩, .int (late : Nat), rfl, .int (n : Nat), rfl, _, rfl, ps, 9, rfl, by decide, by decide, st.src, fun d H'' hd st2 => ⟨1, d, rfl, rfl, trivial, n, 1 + d, rfl, rfl, nmul_l (by omega), late, n * (1 + d), rfl, rfl, ?_, .int (n : Nat), rfl, by simp [sizeLine_eq], fun t htn => ?_⟩⟩
      · have z : n * (1 + d) ≤ 7 * 9 := Nat.mul_le_mul hn7.2 (by omega)
        show n * (1 + d) ≤ late
        omega
      have hph : late - n * (1 + d) < late := by
        have z : n * 1 ≤ n * (1 + d) := Nat.mul_le_mul_left n (by omega)
        omega
      obtain ⟨ap, hap⟩ : ∃ l : Nat, late - n * (1 + d) = l := ⟨_, rfl⟩
      rw [hap] at hph
      have hap2 : (fun a b : Nat => a - b) late (n * (1 + d)) = ap := hap
      rw [hap2]
      clear hap hap2
      have s3 := same_upd (o := .tup [.int (ap : Nat), .int (n : Nat)]) htn
      have et : (upd H'' t (.tup [.int (ap : Nat), .int (n : Nat)])) t = some (.tup [.int (ap : Nat), .int (n : Nat)]) := upd_same
      generalize upd H'' t (.tup [.int (ap : Nat), .int (n : Nat)]) = G at s3 et ⊢
      have stG : Stp ps H' G := st2.same s3
      have eBG := s3 _ _ (st2.keep _ _ nB eB')
      have fBH : H3 B = none := hB
      have ntB : ∀ {b : Addr} {ys : List V}, G b = some (.tup ys) → b ≠ B := fun e z => by
        rw [z, eBG] at e
        cases e
      have lp : prs.length = i := by
        have z := congrArg List.length hpr
        rw [List.length_map, List.length_take] at z
        have := (List.getElem?_eq_some_iff.mp hn).1
        omega
      refine ⟨B, _, _, rfl, rfl, eBG, ?_, ⟨fun b o m e => ?_, ?_⟩, ?_, ss ++ [t], prs ++ [(ap, n)], _, ?_, ?_, ?_, fun r hr => ?_, rfl⟩
      · rw [List.length_map, hP.len]
        have := (List.getElem?_eq_some_iff.mp hn).1
        exact sizeLine_ge (by omega)
      · rw [upd_ne (ne_of_none e fBH)]
        exact stG.keep _ _ m (st.keep _ _ m e)
      · obtain ⟨x, y, z, h⟩ := stG.src
        exact ⟨x, y, z, by rw [upd_ne nB.symm]; exact h⟩
      · rw [upd_ne nuB]
        exact stG.keep _ _ nu eu'
      · refine PrAt.frame (PrAt.app (hP.frame (stp_tup st.src stG)) et) fun b xs e => ?_
        rw [upd_ne (ntB e)]
        exact e
      · rw [List.map_append, hpr, List.take_add_one, hn]
        rfl
      · rw [upd_same, List.map_append]
        rfl
      · rcases List.mem_append.mp hr with hr | hr
        · exact hlt r hr
        · rw [List.mem_singleton.mp hr]
          exact hph
    · rintro σ H8 ⟨st8, _, ss, prs, y5, hP, hpr, eB8, hlt, rfl⟩
      rw [List.length_map, List.take_length] at hpr
      have hsl := hP.len
      have hpl : prs.length = (paces r6).length := by
        rw [← hpr, List.length_map]
      have hpne : prs ≠ [] := fun z => by
        rw [z] at hpr
        exact pc3 hpr.symm
      have hp1 : ∀ r ∈ prs, 1 ≤ r.2 ∧ r.1 ≠ late := fun r hr => by
        have z := pc2 r.2 (by rw [← hpr]; exact List.mem_map.mpr ⟨r, hr, rfl⟩)
        have := hlt r hr
        exact ⟨by omega, by omega⟩
      have hp7 : ∀ r ∈ prs, r.2 ≤ 7 := fun r hr => (pc2 r.2 (by rw [← hpr]; exact List.mem_map.mpr ⟨r, hr, rfl⟩)).2
      have hnd : (prs.map (·.2)).Nodup := by
        rw [hpr]
        exact pc1
      clear hpr pc1 pc2 pc3
      have hpos : 0 < prs.length := List.length_pos_iff.mpr hpne
      -- the first and the last of them
      obtain ⟨t0, r0, ix0, hr0, ht0⟩ : ∃ (t0 : Addr) (r0 : Nat × Nat), (ss.map V.ref)[0]? = some (.ref t0) ∧ r0 ∈ prs ∧ H8 t0 = some (.tup [.int (r0.1 : Nat), .int (r0.2 : Nat)]) := by
        have hi : 0 < (ss.map V.ref).length := by rw [List.length_map]; omega
        obtain ⟨t, r, e, hr, ht⟩ := hP.item (i := 0) (List.getElem?_eq_getElem hi)
        exact ⟨t, r, by rw [List.getElem?_eq_getElem hi, e], List.mem_of_getElem? hr, ht⟩
      obtain ⟨t9, r9, ix9, hr9, ht9⟩ : ∃ (t9 : Addr) (r9 : Nat × Nat), (ss.map V.ref)[(ss.map V.ref).length - 1]? = some (.ref t9) ∧ r9 ∈ prs ∧ H8 t9 = some (.tup [.int (r9.1 : Nat), .int (r9.2 : Nat)]) := by
        have hi : (ss.map V.ref).length - 1 < (ss.map V.ref).length := by rw [List.length_map]; omega
        obtain ⟨t, r, e, hr, ht⟩ := hP.item (i := (ss.map V.ref).length - 1) (List.getElem?_eq_getElem hi)
        exact ⟨t, r, by rw [List.getElem?_eq_getElem hi, e], List.mem_of_getElem? hr, ht⟩
      have src8 := st8.src
      -- a tick that can't stand there
      refine ⟨_, rfl, ps, rfl, src8, fun H9 bt s9 hbt => ?_⟩
      have kt9 := stp_tup src8 s9
      have eB9 := s9.keep _ _ nB eB8
      refine ⟨.ref B, rfl, B, _, 0, _, rfl, rfl, SqL.of eB9, atI_nat (j := 0) ix0, t0, _, 0, _, rfl, rfl, .inl (.inl (kt9 _ _ ht0)), atI_nat (j := 0) rfl, .ref B, rfl, 1, rfl, B, _, -1, _, rfl, rfl, SqL.of eB9, atI_end34 ix9, t9, _, 0, _, rfl, rfl, .inl (.inl (kt9 _ _ ht9)), atI_nat (j := 0) rfl, by simp [sizeLine_eq], fun l2 hl2 => ?_⟩
      have sl2 := same_upd (o := .lst [bt, .int (r0.1 : Nat), .int (r9.1 : Nat)]) hl2
      have el2 : (upd H9 l2 (.lst [bt, .int (r0.1 : Nat), .int (r9.1 : Nat)])) l2 = some (.lst [bt, .int (r0.1 : Nat), .int (r9.1 : Nat)]) := upd_same
      have nl2 := s9.src.ne hl2
      generalize upd H9 l2 (.lst [bt, .int (r0.1 : Nat), .int (r9.1 : Nat)]) = H10 at sl2 el2 ⊢
      have src10 := s9.src.same sl2
      refine ⟨_, rfl, ps, 3, rfl, by decide, by decide, src10, fun r11 H11 hr11 s11 => ?_⟩
      have fbt := (FutS.of_new src8 hbt).mono ((s9.src.stp_same sl2).trans s11)
      obtain ⟨o3, ho3, q3⟩ : ∃ o3, ([bt, .int (r0.1 : Nat), .int (r9.1 : Nat)] : List V)[r11]? = some o3 ∧ FutS ps H11 fun G => (BadTick K G o3 0 ∨ ∃ d : Nat, o3 = .int (d : Nat) ∧ ∃ r ∈ prs, r.1 = d) ∧ Odd K G o3 := by
        have r3 : r11 < 3 := by omega
        have w : (2 : Nat) ^ 60 < 10 ^ 38 := by decide
        match r11, r3 with
        | 0, _ => exact ⟨bt, rfl, fbt.imp fun _ z => ⟨.inl z.1, z.2⟩⟩
        | 1, _ => exact ⟨_, rfl, fun G _ => ⟨.inr ⟨r0.1, rfl, r0, hr0, rfl⟩, odd_int (by have := hlt r0 hr0; omega)⟩⟩
        | 2, _ => exact ⟨_, rfl, fun G _ => ⟨.inr ⟨r9.1, rfl, r9, hr9, rfl⟩, odd_int (by have := hlt r9 hr9; omega)⟩⟩
        | r + 3, h => omega
      refine ⟨l2, _, r11, o3, rfl, rfl, SqL.of (s11.keep _ _ nl2 el2), atI_nat ho3, ?_⟩
      -- the first row
      refine ⟨.int (b : Nat), rfl, .ref ql, rfl, .ref B, rfl, .int (late : Nat), rfl, by simp [sizeLine_eq], fun R1 hR1 => ?_⟩
      have sR1 := same_upd (o := .lst [.int (b : Nat), .ref ql, .ref B, .int (late : Nat)]) hR1
      have eR1 : (upd H11 R1 (.lst [.int (b : Nat), .ref ql, .ref B, .int (late : Nat)])) R1 = some (.lst [.int (b : Nat), .ref ql, .ref B, .int (late : Nat)]) := upd_same
      have nR1 := s11.src.ne hR1
      generalize upd H11 R1 (.lst [.int (b : Nat), .ref ql, .ref B, .int (late : Nat)]) = H12 at sR1 eR1 ⊢
      have st812 : Stp ps H8 H12 := ((s9.same sl2).trans s11).same sR1
      have src12 := st812.src
      refine ⟨_, rfl, ps, rfl, src12, fun H13 o0 s13 h0 => ⟨_, rfl, ps, rfl, s13.src, fun H14 o1 s14 h1 => ?_⟩⟩
      have st814 := (st812.trans s13).trans s14
      have hsm : ∀ r ∈ prs, r.1 < 2 ^ 60 ∧ r.2 < 2 ^ 60 := fun r hr => by
        have z : (7 : Nat) < 2 ^ 60 := by decide
        have := hlt r hr
        have := hp7 r hr
        omega
      refine ⟨_, rfl, .ref B, rfl, ps, B, ss, prs, rfl, s14.src, nB, st814.keep _ _ nB eB8, hP.frame (stp_tup src8 st814), hpne, by omega, fun r hr => (hp1 r hr).1, hsm, fun H15 o2 s15 q2 => ⟨o3, rfl, by simp [sizeLine_eq], fun O1 hO1 => ?_⟩⟩
      have q0 := FutS.of_new src12 h0
      have q1 := FutS.of_new s13.src h1
      have sO1 := same_upd (o := .lst [o0, o1, o2, o3]) hO1
      have eO1 : (upd H15 O1 (.lst [o0, o1, o2, o3])) O1 = some (.lst [o0, o1, o2, o3]) := upd_same
      have nO1 := s15.src.ne hO1
      generalize upd H15 O1 (.lst [o0, o1, o2, o3]) = H16 at sO1 eO1 ⊢
      refine ⟨_, rfl, .ref R1, rfl, .ref O1, rfl, by simp [sizeLine_eq], fun N1 hN1 => ?_⟩
      have src16 := s15.src.same sO1
      have sN1 := same_upd (o := .lst [.str "base", .str "levels", .str "period", .str "tick"]) hN1
      have eN1 : (upd H16 N1 (.lst [.str "base", .str "levels", .str "period", .str "tick"])) N1 = some (.lst [.str "base", .str "levels", .str "period", .str "tick"]) := upd_same
      have nN1 := src16.ne hN1
      generalize upd H16 N1 (.lst [.str "base", .str "levels", .str "period", .str "tick"]) = H17 at sN1 eN1 ⊢
      have s1217 : Stp ps H12 H17 := ((s13.trans s14).trans s15).same (sO1.trans sN1)
      refine ⟨ps, R1, O1, N1, [.int (b : Nat), .ref ql, .ref B, .int (late : Nat)], [o0, o1, o2, o3], ["base", "levels", "period", "tick"], rfl, src16.same sN1, SqL.of (s1217.keep _ _ nR1 eR1), SqL.of (sN1 _ _ eO1), SqL.of eN1, rfl, rfl, by simp, by simp, nR1, nO1, nN1, fun H18 T1 F1 bs1 s18 hT1 hF1 eT1 eF1 lb1 => ⟨by simp [sizeLine_eq], fun M1 hM1 => ?_⟩⟩
      have src17 := src16.same sN1
      have nT1 := src17.ne hT1
      have nF1 := src17.ne hF1
      have sM1 := same_upd (o := .lst [.ref T1]) hM1
      have eM1 : (upd H18 M1 (.lst [.ref T1])) M1 = some (.lst [.ref T1]) := upd_same
      have nM1 := s18.src.ne hM1
      generalize upd H18 M1 (.lst [.ref T1]) = H19 at sM1 eM1 ⊢
      have src19 := s18.src.same sM1
      have s1719 : Stp ps H17 H19 := s18.same sM1
      have s1219 := s1217.trans s1719
      have st819 := st812.trans s1219
      -- all that the first row's verdict wants, from now on
      have V1 : FutS ps H19 fun G => VerdO K G (mixL bs1 [o0, o1, o2, o3] [.int (b : Nat), .ref ql, .ref B, .int (late : Nat)]) (firstW bs1 ["base", "levels", "period", "tick"]) ∧ ∀ x ∈ mixL bs1 [o0, o1, o2, o3] [.int (b : Nat), .ref ql, .ref B, .int (late : Nat)], OddW K G 7 15005 x := fun G sG => by
        have u0 := q0 G ((((s14.trans s15).same (sO1.trans sN1)).trans s1719).trans sG)
        have u1 := q1 G (((s15.same (sO1.trans sN1)).trans s1719).trans sG)
        have u2 := q2 G (((s15.src.stp_same (sO1.trans sN1)).trans s1719).trans sG)
        have u3 := q3 G (((s11.src.stp_same sR1).trans s1219).trans sG)
        have st := (st819.trans sG)
        have st2 : Stp ps H2 G := (s3.trans st8).trans st
        have eB := st.keep _ _ nB eB8
        have hPG := hP.frame (stp_tup src8 st)
        have eq := st2.keep _ _ nql hql
        have w : (2 : Nat) ^ 60 < 10 ^ 38 := by decide
        have o4 : ∀ {y : V}, Odd K G y → OddW K G 7 15005 y := fun h => h.w.mono (by decide) (by decide)
        refine ⟨verd_o hb2 hb64 (SqL.of eq) hne h60 (Nat.lt_trans hlt60 (by decide)) eB hPG hpne (by omega) hp1 hnd u0.1 u1.1 u2.1 u3.1 lb1, mix_all (fun o ho => ?_) fun x hx => ?_⟩
        · rcases List.mem_cons.mp ho with rfl | ho
          · exact o4 u0.2
          rcases List.mem_cons.mp ho with rfl | ho
          · exact o4 u1.2
          rcases List.mem_cons.mp ho with rfl | ho
          · exact u2.2.mono (by decide) (Nat.le_refl _)
          · rw [List.mem_singleton.mp ho]
            exact o4 u3.2
        · rcases List.mem_cons.mp hx with rfl | hx
          · exact o4 (odd_int (by omega))
          rcases List.mem_cons.mp hx with rfl | hx
          · exact o4 (odd_levels (SqL.of eq) (by omega))
          rcases List.mem_cons.mp hx with rfl | hx
          · exact (oddw_lst (k := 15005) (SqL.of eB) (oddw_pairs hPG fun r hr => by have := hlt r hr; have := hp7 r hr; omega) (by rw [List.length_map, hsl]; omega)).mono (by decide) (Nat.le_refl _)
          · rw [List.mem_singleton.mp hx]
            exact o4 (odd_int (by omega))
      clear q0 q1 q2 q3 h0 h1 hbt fbt
      clear st819 s1219 sl2 sR1 sO1 sN1
      -- the second row
      refine ⟨_, rfl, ps, 30, rfl, by decide, by decide, src19, fun a1 H20 ha1 s20 => ⟨_, rfl, ps, 9, rfl, by decide, by decide, s20.src, fun d1 H21 hd1 s21 => ⟨2, d1, rfl, rfl, trivial, by simp [sizeLine_eq], fun u1 hu1 => ?_⟩⟩⟩
      have su1 := same_upd (o := .tup [.int (a1 : Nat), .int ((2 + d1 : Nat) : Int)]) hu1
      have eu1 : (upd H21 u1 (.tup [.int (a1 : Nat), .int ((2 + d1 : Nat) : Int)])) u1 = some (.tup [.int (a1 : Nat), .int ((2 + d1 : Nat) : Int)]) := upd_same
      have nu1 := s21.src.ne hu1
      generalize upd H21 u1 (.tup [.int (a1 : Nat), .int ((2 + d1 : Nat) : Int)]) = H22 at su1 eu1 ⊢
      have src22 := s21.src.same su1
      refine ⟨_, rfl, ps, 30, rfl, by decide, by decide, src22, fun a2 H23 ha2 s23 => ⟨by simp [sizeLine_eq], fun u2 hu2 => ⟨_, _, rfl, ?_⟩⟩⟩
      have su2 := same_upd (o := .tup [.int (a2 : Nat), .int 12]) hu2
      have eu2 : (upd H23 u2 (.tup [.int (a2 : Nat), .int 12])) u2 = some (.tup [.int (a2 : Nat), .int 12]) := upd_same
      have nu2 := s23.src.ne hu2
      generalize upd H23 u2 (.tup [.int (a2 : Nat), .int 12]) = H24 at su2 eu2 ⊢
      have src24 := s23.src.same su2
      refine ⟨_, rfl, ps, 900, rfl, by decide, by decide, src24, fun x H25 hx s25 => ?_⟩
      refine ⟨.int (b : Nat), rfl, .ref ql, rfl, .ref u1, rfl, .ref u2, rfl, .int (x : Nat), rfl, .int (x : Nat), rfl, _, rfl, ps, 200, rfl, by decide, by decide, s25.src, fun y H26 hy s26 => ⟨x, y, rfl, rfl, trivial, by simp [sizeLine_eq], fun R2 hR2 => ?_⟩⟩
      have sR2 := same_upd (o := .lst [.int (b : Nat), .ref ql, .ref u1, .ref u2, .int (x : Nat), .int ((x + y : Nat) : Int)]) hR2
      have eR2 : (upd H26 R2 (.lst [.int (b : Nat), .ref ql, .ref u1, .ref u2, .int (x : Nat), .int ((x + y : Nat) : Int)])) R2 = some (.lst [.int (b : Nat), .ref ql, .ref u1, .ref u2, .int (x : Nat), .int ((x + y : Nat) : Int)]) := upd_same
      have nR2 := s26.src.ne hR2
      generalize upd H26 R2 (.lst [.int (b : Nat), .ref ql, .ref u1, .ref u2, .int (x : Nat), .int ((x + y : Nat) : Int)]) = H27 at sR2 eR2 ⊢
      have src27 := s26.src.same sR2
      have st2227 : Stp ps H22 H27 := ((((s23.same su2).trans s25).trans s26).same sR2)
      have st2427 : Stp ps H24 H27 := ((s25.trans s26).same sR2)
      have eu1' := st2227.keep _ _ nu1 eu1
      have eu2' := st2427.keep _ _ nu2 eu2
      -- bad timers
      refine ⟨_, rfl, ps, rfl, src27, fun H28 o2 s28 h2 => ⟨_, rfl, ps, rfl, s28.src, fun H29 o3a s29 h3 => ?_⟩⟩
      have st2729 := s28.trans s29
      refine ⟨.ref u1, rfl, u1, _, 1, _, rfl, rfl, .inl (.inl (st2729.keep _ _ nu1 eu1')), atI_nat (j := 1) rfl, by simp [sizeLine_eq], fun t3 ht3 => ?_⟩
      have st3s := same_upd (o := .tup [.int 3, .int ((2 + d1 : Nat) : Int)]) ht3
      have et3 : (upd H29 t3 (.tup [.int 3, .int ((2 + d1 : Nat) : Int)])) t3 = some (.tup [.int 3, .int ((2 + d1 : Nat) : Int)]) := upd_same
      have nt3 := s29.src.ne ht3
      generalize upd H29 t3 (.tup [.int 3, .int ((2 + d1 : Nat) : Int)]) = H30 at st3s et3 ⊢
      refine ⟨by simp [sizeLine_eq], fun l3 hl3 => ?_⟩
      have sl3 := same_upd (o := .lst [o3a, .ref t3]) hl3
      have el3 : (upd H30 l3 (.lst [o3a, .ref t3])) l3 = some (.lst [o3a, .ref t3]) := upd_same
      have nl3 := (s29.src.same st3s).ne hl3
      generalize upd H30 l3 (.lst [o3a, .ref t3]) = H31 at sl3 el3 ⊢
      have src31 := s29.src.same (st3s.trans sl3)
      refine ⟨_, rfl, ps, 2, rfl, by decide, by decide, src31, fun r32 H32 hr32 s32 => ?_⟩
      have f3 := (FutS.of_new s28.src h3).mono ((s29.src.stp_same (st3s.trans sl3)).trans s32)
      obtain ⟨o3, ho3, q3⟩ : ∃ o3, ([o3a, .ref t3] : List V)[r32]? = some o3 ∧ FutS ps H32 fun G => (BadPair K G o3 ∨ PairAt G o3 3 (2 + d1)) ∧ Odd K G o3 := by
        have r2 : r32 < 2 := by omega
        match r32, r2 with
        | 0, _ => exact ⟨o3a, rfl, f3.imp fun _ z => ⟨.inl z.1, z.2⟩⟩
        | 1, _ =>
          refine ⟨_, rfl, fun G sG => ?_⟩
          have e := (s32.trans sG).keep _ _ nt3 (sl3 _ _ et3)
          exact ⟨.inr ⟨t3, rfl, e, by omega⟩, odd_pair e (by decide) (by omega)⟩
        | r + 2, h => omega
      refine ⟨l3, _, r32, o3, rfl, rfl, SqL.of (s32.keep _ _ nl3 el3), atI_nat ho3, by simp [sizeLine_eq], fun BP hBP => ?_⟩
      have sBP := same_upd (o := .lst [o2, o3]) hBP
      have eBP : (upd H32 BP (.lst [o2, o3])) BP = some (.lst [o2, o3]) := upd_same
      have nBP := s32.src.ne hBP
      generalize upd H32 BP (.lst [o2, o3]) = H33 at sBP eBP ⊢
      have src33 := s32.src.same sBP
      -- the range's end
      refine ⟨_, rfl, ps, rfl, src33, fun H34 o5a s34 h5 => ⟨.int (x : Nat), rfl, (x : Int), 1, rfl, rfl, by simp [sizeLine_eq], fun l4 hl4 => ?_⟩⟩
      have sl4 := same_upd (o := .lst [o5a, .int ((x : Int) - 1)]) hl4
      have el4 : (upd H34 l4 (.lst [o5a, .int ((x : Int) - 1)])) l4 = some (.lst [o5a, .int ((x : Int) - 1)]) := upd_same
      have nl4 := s34.src.ne hl4
      generalize upd H34 l4 (.lst [o5a, .int ((x : Int) - 1)]) = H35 at sl4 el4 ⊢
      have src35 := s34.src.same sl4
      refine ⟨_, rfl, ps, 2, rfl, by decide, by decide, src35, fun r36 H36 hr36 s36 => ?_⟩
      have f5 := (FutS.of_new src33 h5).mono ((s34.src.stp_same sl4).trans s36)
      obtain ⟨o5, ho5, q5⟩ : ∃ o5, ([o5a, .int ((x : Int) - 1)] : List V)[r36]? = some o5 ∧ FutS ps H36 fun G => (BadTick K G o5 0 ∨ o5 = .int ((x : Int) - 1)) ∧ Odd K G o5 := by
        have r2 : r36 < 2 := by omega
        match r36, r2 with
        | 0, _ => exact ⟨o5a, rfl, f5.imp fun _ z => ⟨.inl z.1, z.2⟩⟩
        | 1, _ => exact ⟨_, rfl, fun G sG => ⟨.inr rfl, odd_int (by omega)⟩⟩
        | r + 2, h => omega
      refine ⟨l4, _, r36, o5, rfl, rfl, SqL.of (s36.keep _ _ nl4 el4), atI_nat ho5, ?_⟩
      have src36 := s36.src
      -- all of them
      refine ⟨_, rfl, ps, rfl, src36, fun H37 o0 s37 h0 => ⟨_, rfl, ps, rfl, s37.src, fun H38 o1 s38 h1 => ⟨by simp [sizeLine_eq], fun m1 hm1 => ?_⟩⟩⟩
      have sm1 := same_upd (o := .lst [o0, o1]) hm1
      have em1 : (upd H38 m1 (.lst [o0, o1])) m1 = some (.lst [o0, o1]) := upd_same
      generalize upd H38 m1 (.lst [o0, o1]) = H39 at sm1 em1 ⊢
      have src39 := s38.src.same sm1
      have st3339 : Stp ps H33 H39 := (((s34.same sl4).trans s36).trans (s37.trans s38)).same sm1
      refine ⟨.ref BP, rfl, m1, BP, _, _, rfl, rfl, em1, st3339.keep _ _ nBP eBP, by simp [sizeLine_eq], fun m2 hm2 => ?_⟩
      have sm2 := same_upd (o := .lst ([o0, o1] ++ [o2, o3])) hm2
      have em2 : (upd H39 m2 (.lst ([o0, o1] ++ [o2, o3]))) m2 = some (.lst ([o0, o1] ++ [o2, o3])) := upd_same
      have nm2 := src39.ne hm2
      generalize upd H39 m2 (.lst ([o0, o1] ++ [o2, o3])) = H40 at sm2 em2 ⊢
      have src40 := src39.same sm2
      refine ⟨_, rfl, ps, rfl, src40, fun H41 o4 s41 h4 => ⟨o5, rfl, by simp [sizeLine_eq], fun m3 hm3 => ?_⟩⟩
      have sm3 := same_upd (o := .lst [o4, o5]) hm3
      have em3 : (upd H41 m3 (.lst [o4, o5])) m3 = some (.lst [o4, o5]) := upd_same
      generalize upd H41 m3 (.lst [o4, o5]) = H42 at sm3 em3 ⊢
      refine ⟨m2, m3, _, _, rfl, rfl, sm3 _ _ (s41.keep _ _ nm2 em2), em3, by simp [sizeLine_eq], fun O2 hO2 => ?_⟩
      have sO2 := same_upd (o := .lst ([o0, o1] ++ [o2, o3] ++ [o4, o5])) hO2
      have eO2 : (upd H42 O2 (.lst ([o0, o1] ++ [o2, o3] ++ [o4, o5]))) O2 = some (.lst [o0, o1, o2, o3, o4, o5]) := upd_same
      have nO2 := (s41.src.same sm3).ne hO2
      generalize upd H42 O2 (.lst ([o0, o1] ++ [o2, o3] ++ [o4, o5])) = H43 at sO2 eO2 ⊢
      have src43 := s41.src.same (sm3.trans sO2)
      refine ⟨.ref M1, rfl, _, rfl, .ref R2, rfl, .ref O2, rfl, by simp [sizeLine_eq], fun N2 hN2 => ?_⟩
      have sN2 := same_upd (o := .lst [.str "base", .str "levels", .str "period", .str "period", .str "tick", .str "tick"]) hN2
      have eN2 : (upd H43 N2 (.lst [.str "base", .str "levels", .str "period", .str "period", .str "tick", .str "tick"])) N2 = some (.lst [.str "base", .str "levels", .str "period", .str "period", .str "tick", .str "tick"]) := upd_same
      have nN2 := src43.ne hN2
      generalize upd H43 N2 (.lst [.str "base", .str "levels", .str "period", .str "period", .str "tick", .str "tick"]) = H44 at sN2 eN2 ⊢
      have src44 := src43.same sN2
      have st3644 : Stp ps H36 H44 := ((s37.trans s38).same (sm1.trans sm2)).trans (s41.same ((sm3.trans sO2).trans sN2))
      have st3344 : Stp ps H33 H44 := (((s34.same sl4).trans s36)).trans st3644
      have st2744 : Stp ps H27 H44 := ((st2729.same (st3s.trans sl3)).trans (s32.same sBP)).trans st3344
      refine ⟨ps, R2, O2, N2, [.int (b : Nat), .ref ql, .ref u1, .ref u2, .int (x : Nat), .int ((x + y : Nat) : Int)], [o0, o1, o2, o3, o4, o5], ["base", "levels", "period", "period", "tick", "tick"], rfl, src44, SqL.of (st2744.keep _ _ nR2 eR2), SqL.of (sN2 _ _ eO2), SqL.of eN2, rfl, rfl, by simp, by simp, nR2, nO2, nN2, fun H45 T2 F2 bs2 s45 hT2 hF2 eT2 eF2 lb2 => ⟨by simp [sizeLine_eq], fun M2 hM2 => ?_⟩⟩
      have sM2 := same_upd (o := .lst [.ref T2]) hM2
      have eM2 : (upd H45 M2 (.lst [.ref T2])) M2 = some (.lst [.ref T2]) := upd_same
      generalize upd H45 M2 (.lst [.ref T2]) = H46 at sM2 eM2 ⊢
      have st1927 : Stp ps H19 H27 := ((s20.trans s21).same su1).trans st2227
      have st1946 : Stp ps H19 H46 := ((st1927.trans st2744).trans s45).same sM2
      have eM1' := st1946.keep _ _ nM1 eM1
      refine ⟨M1, M2, _, _, rfl, rfl, eM1', eM2, by simp [sizeLine_eq], fun M hM => ?_⟩
      have sM := same_upd (o := .lst ([.ref T1] ++ [.ref T2])) hM
      have eM : (upd H46 M (.lst ([.ref T1] ++ [.ref T2]))) M = some (.lst [.ref T1, .ref T2]) := upd_same
      generalize upd H46 M (.lst ([.ref T1] ++ [.ref T2])) = G at sM eM ⊢
      have st4446 : Stp ps H44 G := s45.same (sM2.trans sM)
      have st19G : Stp ps H19 G := st1946.same sM
      have V1G := V1 G st19G
      have keep1 : ∀ {b : Addr} {o : HO}, H18 b = some o → b ≠ ps → G b = some o := fun e n => st19G.keep _ _ n (sM1 _ _ e)
      have st27G : Stp ps H27 G := st2744.trans st4446
      have st2G : Stp ps H2 G := (s3.trans st8).trans (((st812.trans s1217).trans s1719).trans st19G)
      have eqG := st2G.keep _ _ nql hql
      have gu1 := st27G.keep _ _ nu1 eu1'
      have gu2 := st27G.keep _ _ nu2 eu2'
      have z0 := (FutS.of_new src36 h0) G (((s38.same (sm1.trans sm2)).trans (s41.same ((sm3.trans sO2).trans sN2))).trans st4446)
      have z1 := (FutS.of_new s37.src h1) G (((s38.src.stp_same (sm1.trans sm2)).trans (s41.same ((sm3.trans sO2).trans sN2))).trans st4446)
      have z2 := (FutS.of_new src27 h2) G ((((s29.same (st3s.trans sl3)).trans (s32.same sBP)).trans st3344).trans st4446)
      have z3 := q3 G (((s32.src.stp_same sBP).trans st3344).trans st4446)
      have z4 := (FutS.of_new src40 h4) G ((s41.src.stp_same ((sm3.trans sO2).trans sN2)).trans st4446)
      have z5 := q5 G (st3644.trans st4446)
      have o4 : ∀ {y : V}, Odd K G y → OddW K G 7 15005 y := fun h => h.w.mono (by decide) (by decide)
      refine c G M ((((st3.trans st8).trans ((st812.trans s1217).trans s1719)).trans st19G)) ⟨T1, T2, F1, F2, _, _, _, _, eM, keep1 eT1 nT1, (sM2.trans sM) _ _ eT2, keep1 eF1 nF1, (sM2.trans sM) _ _ eF2, V1G.1, verd_t hb2 hb64 (SqL.of eqG) hne h60 ⟨u1, rfl, gu1, by omega⟩ ⟨u2, rfl, gu2, by decide⟩ (by omega) (by omega) (by omega) (by omega) (by omega) (by omega) z0.1 z1.1 z2.1 z3.1 z4.1 z5.1 lb2, V1G.2, mix_all (fun o ho => ?_) fun x' hx' => ?_⟩
      · rcases List.mem_cons.mp ho with rfl | ho
        · exact o4 z0.2
        rcases List.mem_cons.mp ho with rfl | ho
        · exact o4 z1.2
        rcases List.mem_cons.mp ho with rfl | ho
        · exact o4 z2.2
        rcases List.mem_cons.mp ho with rfl | ho
        · exact o4 z3.2
        rcases List.mem_cons.mp ho with rfl | ho
        · exact o4 z4.2
        · rw [List.mem_singleton.mp ho]
          exact o4 z5.2
      · rcases List.mem_cons.mp hx' with rfl | hx'
        · exact o4 (odd_int (by omega))
        rcases List.mem_cons.mp hx' with rfl | hx'
        · exact o4 (odd_levels (SqL.of eqG) (by omega))
        rcases List.mem_cons.mp hx' with rfl | hx'
        · exact o4 (odd_pair gu1 (by omega) (by omega))
        rcases List.mem_cons.mp hx' with rfl | hx'
        · exact o4 (odd_pair gu2 (by omega) (by decide))
        rcases List.mem_cons.mp hx' with rfl | hx'
        · exact o4 (odd_int (by omega))
        · rw [List.mem_singleton.mp hx']
          exact o4 (odd_int (by omega))
end
/-! ### xs.count(y), xs of flat items -/
theorem count_eqU {y : V} : ∀ {ys : List V} {its : List Value}, Vals ys its → ys.all flatV = true → its.countP (eqU y) = ys.countP (fun z => eqV z y)
  | _, _, .nil, _ => rfl
  | z :: ys, u :: its, .cons r rs, f => by
    rw [List.all_cons, Bool.and_eq_true] at f
    rw [List.countP_cons, List.countP_cons, count_eqU rs f.2, eqU_of r f.1]
def rCntF (K : PySem.W.Frag) : V → List V → Hp → VK → Prop := fun x xs H Q => ∃ (p : Addr) (ys : List V) (y : V), x = .ref p ∧ xs = [y] ∧ SqL K H p ys ∧ flatV y = true ∧ ys.all flatV = true ∧ Q (.int (ys.countP (fun z => eqV z y) : Nat)) H
section
variable {X : Cx} {K : PySem.W.Frag}
theorem mt_lcountF (e : X.K = K) : MtR X "list.count" (rCntF K) := by
  subst e
  intro pins s σ H x xs v us Q I rx rxs h
  obtain ⟨p, ys, y, rfl, rfl, hs, fy, fys, q⟩ := h
  cases rx
  cases rxs with
  | cons ry rt =>
    rename_i uy ut
    cases rt
    obtain ⟨its, rv, ⟨⟨cls, dd, data, sl⟩, n, ho, hc, hdn, hd⟩, hlen⟩ := I.list hs
    simp only at hc hd
    subst hc hd
    refine call_meets PySem.F.slot_list_count ⟨_, ho, rfl⟩ PySem.F.entry_list_count (PySem.F.args_list_count_2 _ _)
      (SeqAt.list_countAt p its.toArray n dd sl uy (eqU y)) ⟨ho, fun u' hu' => mem_eqAt ry fy rv fys u' (by simpa using hu'), ?_⟩
    have ec : its.toArray.toList.countP (eqU y) = ys.countP (fun z => eqV z y) := count_eqU rv fys
    refine ⟨.int (ys.countP (fun z => eqV z y) : Nat), H, I.tok _, ⟨s.toks, ?_⟩, q⟩
    show Value.int ((its.toArray.toList.countP (eqU y) : Nat) : Int) s.toks = Value.int ((ys.countP (fun z => eqV z y) : Nat) : Int) s.toks
    rw [ec]
theorem mt_indexK (e : X.K = K) : MtR X "list.index" (rIndex K) := by subst e; exact mt_index
end
/-! ### the word for what a call does: one class of errors of eight -/
def trySuite : List Stmt → List Stmt
  | .Try _ [.ExceptHandler _ _ b _] _ _ _ :: _ => b
  | _ => []
/-- an error of the class N is one of the j-th of the classes cs, and of no other -/
structure Kind8 (K : PySem.W.Frag) (N : Addr) (cs : List Addr) (j : Nat) : Prop where
  ec : ExcC K N
  ve : PySem.W.kitOne K (.ref N) (.type "ValueError") = some true
  lt : j < 8
  at_ : ∀ i c, cs[i]? = some c → PySem.W.kitOne K (.ref N) (.ref c) = some (decide (i = j))
def marks8 (j : Nat) : List V := ([.bl (decide (0 = j)), .bl (decide (1 = j)), .bl (decide (2 = j)), .bl (decide (3 = j))] ++ [.bl (decide (4 = j)), .bl (decide (5 = j)), .bl (decide (6 = j))]) ++ [.bl (decide (7 = j))]
theorem marks_count {j : Nat} (h : j < 8) : (marks8 j).countP (fun z => eqV z (.bl true)) = 1 := by
  have z : j = 0 ∨ j = 1 ∨ j = 2 ∨ j = 3 ∨ j = 4 ∨ j = 5 ∨ j = 6 ∨ j = 7 := by omega
  rcases z with rfl | rfl | rfl | rfl | rfl | rfl | rfl | rfl <;> rfl
theorem marks_at {j : Nat} (h : j < 8) : (marks8 j)[j]? = some (.bl true) := by
  have z : j = 0 ∨ j = 1 ∨ j = 2 ∨ j = 3 ∨ j = 4 ∨ j = 5 ∨ j = 6 ∨ j = 7 := by omega
  rcases z with rfl | rfl | rfl | rfl | rfl | rfl | rfl | rfl <;> rfl
theorem marks_no {j : Nat} (h : j < 8) (m : Nat) (z' : V) (hm : m < j) (hz : (marks8 j)[m]? = some z') : eqV z' (.bl true) = false := by
  have e : (marks8 j)[m]? = some (.bl (decide (m = j))) := by
    have z : m = 0 ∨ m = 1 ∨ m = 2 ∨ m = 3 ∨ m = 4 ∨ m = 5 ∨ m = 6 := by omega
    rcases z with rfl | rfl | rfl | rfl | rfl | rfl | rfl <;> rfl
  rw [e, decide_eq_false (by omega)] at hz
  cases hz
  rfl
theorem marks_flat (j : Nat) : (marks8 j).all flatV = true := rfl
theorem pss_imp {X : Cx} {st : List Stmt} {t' : TS} (h : ∃ t, PSs X st t ∧ ∀ D σ H, t' D σ H → t D σ H) : PSs X st t' := by
  obtain ⟨t, hp, hi⟩ := h
  exact ⟨fun pins s σ H D I q => hp.run pins s σ H D I (hi D σ H q)⟩
/-! ### laws k24, k34, k36: the word for what a call does -/
def words24 : List V := [.str "base", .str "levels", .str "tick", .str "period", .str "timer", .str "order", .str "sighting", .str "many"]
section
variable {P : Program} {w : World} {K : PySem.W.Frag} {mg : Str → Option Value} {base : Heap}
/-- what the suite wants: e is an error of the class N, the j-th -/
def tWord8 (K : PySem.W.Frag) (cs : List Addr) (a : Addr) (cls : Value) (d : Option Addr) : TS := fun D σ H => ∃ (N : Addr) (j : Nat) (x : Str) (v0 v2 : Option V), cls = .ref N ∧ d = none ∧ σ = [v0, some (.ref a), v2] ∧ Kind8 K N cs j ∧ words24[j]? = some (.str x) ∧ ∀ H', Same H H' → D.rt (.str x) H'
theorem word_suite {f c_NoBase c_NoLevels c_NoTick c_NoOrder c_NoPeriod c_NoSighting c_NoTimer c_TooMany a : Addr} {cdv cls : Value} {A : Around} {outer : List Env} {s : Shared} {H : Hp} {E : XK} {d : Option Addr} {oe : Obj} {pn : List (Addr × Obj)} (T : Tx K mg)
    (X_NoBase : EG mg "NoBase" c_NoBase) (X_NoLevels : EG mg "NoLevels" c_NoLevels) (X_NoTick : EG mg "NoTick" c_NoTick) (X_NoOrder : EG mg "NoOrder" c_NoOrder) (X_NoPeriod : EG mg "NoPeriod" c_NoPeriod) (X_NoSighting : EG mg "NoSighting" c_NoSighting) (X_NoTimer : EG mg "NoTimer" c_NoTimer) (X_TooMany : EG mg "TooMany" c_TooMany)
    (hz : Zc cls d oe) (hf : ∃ vs, oe.data = .fields vs) : PSs ((cxOf CX0 P w K mg base N__law_word (Str.ofString "_law_word") (defScope s__law_word) f cdv A outer s H E).nox.suite a ((a, oe) :: pn)) (trySuite (defBody s__law_word)) (tWord8 K [c_NoBase, c_NoLevels, c_NoTick, c_NoPeriod, c_NoTimer, c_NoOrder, c_NoSighting, c_TooMany] a cls d) := by
  refine pss_imp ⟨_, (pss_cons (ps_set (i := 2) sc__law_word.nd rfl (.inl rfl) (pe_lst (pa_cons (pe_callB (isiE hz hf) (by rfl) T.b_isinstance (by decide +kernel) (pa_cons (pv 1) (pa_cons (pe_glob (v := .ref c_NoBase) rfl X_NoBase.g rfl) pa_nil))) (pa_cons (pe_callB (isiE hz hf) (by rfl) T.b_isinstance (by decide +kernel) (pa_cons (pv 1) (pa_cons (pe_glob (v := .ref c_NoLevels) rfl X_NoLevels.g rfl) pa_nil))) (pa_cons (pe_callB (isiE hz hf) (by rfl) T.b_isinstance (by decide +kernel) (pa_cons (pv 1) (pa_cons (pe_glob (v := .ref c_NoTick) rfl X_NoTick.g rfl) pa_nil))) (pa_cons (pe_callB (isiE hz hf) (by rfl) T.b_isinstance (by decide +kernel) (pa_cons (pv 1) (pa_cons (pe_glob (v := .ref c_NoPeriod) rfl X_NoPeriod.g rfl) pa_nil))) pa_nil))))))
      (pss_cons (ps_set (i := 2) sc__law_word.nd rfl (.inl rfl) (pe_op op_cat (pv 2) (pe_lst (pa_cons (pe_callB (isiE hz hf) (by rfl) T.b_isinstance (by decide +kernel) (pa_cons (pv 1) (pa_cons (pe_glob (v := .ref c_NoTimer) rfl X_NoTimer.g rfl) pa_nil))) (pa_cons (pe_callB (isiE hz hf) (by rfl) T.b_isinstance (by decide +kernel) (pa_cons (pv 1) (pa_cons (pe_glob (v := .ref c_NoOrder) rfl X_NoOrder.g rfl) pa_nil))) (pa_cons (pe_callB (isiE hz hf) (by rfl) T.b_isinstance (by decide +kernel) (pa_cons (pv 1) (pa_cons (pe_glob (v := .ref c_NoSighting) rfl X_NoSighting.g rfl) pa_nil))) pa_nil))))))
      (pss_cons (ps_expr (pe_bm PySem.F.plainAttrs_list PySem.F.slot_list_append PySem.F.type_list_append mt_append (pv 2) (pa_cons (pe_callB (isiE hz hf) (by rfl) T.b_isinstance (by decide +kernel) (pa_cons (pv 1) (pa_cons (pe_glob (v := .ref c_TooMany) rfl X_TooMany.g rfl) pa_nil))) pa_nil)))
      (pss_cons (ps_if (PW.pt (pw_or (pt_cmpR op_ne (pe_bm PySem.F.plainAttrs_list PySem.F.slot_list_count PySem.F.type_list_count (mt_lcountF (K := K) rfl) (pv 2) (pa_cons pe_bl pa_nil)) pe_int (nomark _)) (pw_or1 (pt_not (pt_val (pe_callB (isiE hz hf) (by rfl) T.b_isinstance (by decide +kernel) (pa_cons (pv 1) (pa_cons (pe_bltn (v := .ty "ValueError") (u := .type "ValueError") (by rfl) T.b_ValueError (by decide +kernel) rfl) pa_nil))))))))
        (pss_one (ps_ret pe_str))
        pss_nil)
      (pss_one (ps_ret (pe_ix (ix_listK (K := K) rfl) (pe_lst (pa_cons pe_str (pa_cons pe_str (pa_cons pe_str (pa_cons pe_str (pa_cons pe_str (pa_cons pe_str (pa_cons pe_str (pa_cons pe_str pa_nil))))))))) (pe_bm PySem.F.plainAttrs_list PySem.F.slot_list_index PySem.F.type_list_index (mt_indexK (K := K) rfl) (pv 2) (pa_cons pe_bl pa_nil)) (fun _ _ => rfl)))))))), fun D σ H' h => ?_⟩
  obtain ⟨N, j, x, v0, v2, rfl, rfl, rfl, ⟨hC, ve, hj, at_⟩, hx, c⟩ := h
  have n0 := at_ 0 _ rfl
  have n1 := at_ 1 _ rfl
  have n2 := at_ 2 _ rfl
  have n3 := at_ 3 _ rfl
  have n4 := at_ 4 _ rfl
  have n5 := at_ 5 _ rfl
  have n6 := at_ 6 _ rfl
  have n7 := at_ 7 _ rfl
  refine ⟨_, rfl, N, rfl, rfl, hC, _, _, _, rfl, fun _ h => h, n0, _, rfl, N, rfl, rfl, hC, _, _, _, rfl, fun _ h => h, n1, _, rfl, N, rfl, rfl, hC, _, _, _, rfl, fun _ h => h, n2, _, rfl, N, rfl, rfl, hC, _, _, _, rfl, fun _ h => h, n3, by simp [sizeLine_eq], fun m1 hm1 => ?_⟩
  refine ⟨_, rfl, _, rfl, N, rfl, rfl, hC, _, _, _, rfl, fun _ h => h, n4, _, rfl, N, rfl, rfl, hC, _, _, _, rfl, fun _ h => h, n5, _, rfl, N, rfl, rfl, hC, _, _, _, rfl, fun _ h => h, n6, by simp [sizeLine_eq], fun m2 hm2 => ?_⟩
  have s1 := same_upd (o := .lst [.bl (decide (0 = j)), .bl (decide (1 = j)), .bl (decide (2 = j)), .bl (decide (3 = j))]) hm1
  have s2 := s1.trans (same_upd (o := .lst [.bl (decide (4 = j)), .bl (decide (5 = j)), .bl (decide (6 = j))]) hm2)
  refine ⟨m1, m2, _, _, rfl, rfl, (same_upd hm2) _ _ upd_same, upd_same, by simp [sizeLine_eq], fun m3 hm3 => ?_⟩
  generalize hH3 : upd (upd H' m1 _) m2 _ = H3 at s2 hm3 ⊢
  clear hH3
  refine ⟨_, rfl, .inl ⟨rfl, _, .inl (.inl upd_same)⟩, _, rfl, N, rfl, rfl, hC, _, _, _, rfl, fun _ h => h, n7, m3, _, _, rfl, rfl, upd_same, by simp [sizeLine_eq], ?_⟩
  have s4 : Same H' (upd (upd H3 m3 (.lst ([.bl (decide (0 = j)), .bl (decide (1 = j)), .bl (decide (2 = j)), .bl (decide (3 = j))] ++ [.bl (decide (4 = j)), .bl (decide (5 = j)), .bl (decide (6 = j))]))) m3 (.lst (([.bl (decide (0 = j)), .bl (decide (1 = j)), .bl (decide (2 = j)), .bl (decide (3 = j))] ++ [.bl (decide (4 = j)), .bl (decide (5 = j)), .bl (decide (6 = j))]) ++ [.bl (decide (7 = j))]))) := fun p o e => by
    rw [upd_ne (ne_of_none (s2 _ _ e) hm3), upd_ne (ne_of_none (s2 _ _ e) hm3)]
    exact s2 _ _ e
  have e4 : (upd (upd H3 m3 (.lst ([.bl (decide (0 = j)), .bl (decide (1 = j)), .bl (decide (2 = j)), .bl (decide (3 = j))] ++ [.bl (decide (4 = j)), .bl (decide (5 = j)), .bl (decide (6 = j))]))) m3 (.lst (([.bl (decide (0 = j)), .bl (decide (1 = j)), .bl (decide (2 = j)), .bl (decide (3 = j))] ++ [.bl (decide (4 = j)), .bl (decide (5 = j)), .bl (decide (6 = j))]) ++ [.bl (decide (7 = j))]))) m3 = some (.lst (marks8 j)) := upd_same
  generalize upd (upd H3 m3 (.lst ([.bl (decide (0 = j)), .bl (decide (1 = j)), .bl (decide (2 = j)), .bl (decide (3 = j))] ++ [.bl (decide (4 = j)), .bl (decide (5 = j)), .bl (decide (6 = j))]))) m3 (.lst (([.bl (decide (0 = j)), .bl (decide (1 = j)), .bl (decide (2 = j)), .bl (decide (3 = j))] ++ [.bl (decide (4 = j)), .bl (decide (5 = j)), .bl (decide (6 = j))]) ++ [.bl (decide (7 = j))])) = H4 at s4 e4 ⊢
  refine ⟨_, rfl, .inl ⟨rfl, _, SqL.of e4⟩, m3, _, _, rfl, rfl, SqL.of e4, rfl, marks_flat j, rfl, false, nF (congrArg (fun z : Nat => V.int (z : Nat)) (marks_count hj)), iteF ?_⟩
  refine ⟨_, rfl, N, rfl, rfl, hC, .ty "ValueError", .type "ValueError", true, rfl, fun _ h => h, ve, true, rfl, iteF ?_⟩
  refine ⟨by simp [sizeLine_eq], fun m6 hm6 => ?_⟩
  have s6 := same_upd (o := .lst words24) hm6
  refine ⟨_, rfl, .inl ⟨rfl, _, SqL.of (s6 _ _ e4)⟩, m3, _, _, j, _, rfl, rfl, SqL.of (s6 _ _ e4), rfl, marks_flat j, marks_at hj, rfl, marks_no hj, ?_⟩
  exact ⟨m6, words24, j, _, rfl, rfl, SqL.of upd_same, atI_nat hx, c _ (s4.trans s6)⟩
end
/-! ### the word for what a lambda does -/
section
variable {X : Cx}
theorem takes_len {W : WX} (tk : Takes X W) : Takes X (fun cls d σ H => σ.length = X.N.length → W cls d σ H) := fun u s' x => by
  obtain ⟨a, B, sI, pins, σ, H, cls, d, e, J, nb, up, sky, na, os, ag, hw⟩ := x
  exact tk u s' ⟨a, B, sI, pins, σ, H, cls, d, e, J, nb, up, sky, na, os, ag, hw J.len⟩
/-- told, or the word of the error's class -/
def TTw (K : PySem.W.Frag) (cs : List Addr) (CT : Addr) : (XK → Hp → VK → Prop) → Hp → VK → Prop := fun tl H Q =>
  tl (fun cls d H' => ∃ (N : Addr) (j : Nat) (x : Str), cls = .ref N ∧ d = none ∧ PySem.W.exmOne K (.ref N) (.ref CT) = some true ∧ Kind8 K N cs j ∧ words24[j]? = some (.str x) ∧ ∀ H'', Same H' H'' → Q (.str x) H'') H fun _ H' => Q (.str "told") H'
theorem word_gives {g CT c_NoBase c_NoLevels c_NoTick c_NoOrder c_NoPeriod c_NoSighting c_NoTimer c_TooMany : Addr} {cdg : Value} {q : Str} (T : Tx X.K X.mg) (XT : EG X.mg "TimerError" CT)
    (X_NoBase : EG X.mg "NoBase" c_NoBase) (X_NoLevels : EG X.mg "NoLevels" c_NoLevels) (X_NoTick : EG X.mg "NoTick" c_NoTick) (X_NoOrder : EG X.mg "NoOrder" c_NoOrder) (X_NoPeriod : EG X.mg "NoPeriod" c_NoPeriod) (X_NoSighting : EG X.mg "NoSighting" c_NoSighting) (X_NoTimer : EG X.mg "NoTimer" c_NoTimer) (X_TooMany : EG X.mg "TooMany" c_TooMany) :
    LamX.GivesTo X N__law_word "_law_word" (defScope s__law_word) g cdg (defBody s__law_word) "_law_ask_here" q (TTw X.K [c_NoBase, c_NoLevels, c_NoTick, c_NoPeriod, c_NoTimer, c_NoOrder, c_NoSighting, c_TooMany] CT) := by
  intro f c' s H Q tl act hc h
  refine ⟨_, pss_cons (ps_try_as (X := (cxOf C8.CX0 X.prog X.w X.K X.mg X.base N__law_word "_law_word" (defScope s__law_word) g cdg X.A X.stack s H C8.E0).nox) (i := 1)
    (tb := fun W D σ H => ∃ Ech : XK, (∀ cls d σ' H', Ech cls d H' → σ'.length = N__law_word.length → W cls d σ' H') ∧ σ[0]? = some (some (.ref f)) ∧ H c' = some (LamX.CodeO c' q) ∧ tl Ech H fun _ H1 => D.nx σ H1)
    rfl rfl sc__law_word.nd rfl rfl ⟨rfl, by decide, .inl XT.g⟩ takes0 (fun W pn xe tk _ => ?_) (fun a oe cls d pn hz hf => word_suite T X_NoBase X_NoLevels X_NoTick X_NoOrder X_NoPeriod X_NoSighting X_NoTimer X_TooMany hz hf)) (pss_one (ps_ret pe_str)), ?_⟩
  · refine ⟨fun pins s' σ H' D I h' => ?_⟩
    obtain ⟨Ech, hW, h1, h2, h3⟩ := h'
    exact (pss_one (ps_expr (act _ pn xe Ech _ _ (takes_len tk) hW))).run pins s' σ H' D I ⟨h1, h2, h3⟩
  · refine ⟨_, fun cls d σ' H' hE hl => ?_, rfl, hc, h⟩
    obtain ⟨N, j, x, rfl, rfl, hx, kd, hw, q⟩ := hE
    refine ⟨true, hx, fun _ a _ => ?_, fun z => nomatch z⟩
    obtain ⟨v0, v1, v2, rfl⟩ : ∃ v0 v1 v2, σ' = [v0, v1, v2] := by
      match σ', hl with
      | [v0, v1, v2], _ => exact ⟨v0, v1, v2, rfl⟩
    exact ⟨N, j, x, v0, v2, rfl, rfl, rfl, kd, hw, q⟩
end
/-! ### rows as data, walks with numbers -/
def rowD (r : Row3) : PyData := .tuple [.int (r.1 : Nat), .int (r.2.1 : Nat), .int (r.2.2 : Nat)]
theorem rows_dp {K : PySem.W.Frag} {H : Hp} : ∀ {ts : List Addr} {rs : List Row3}, RowsAt H ts rs → DpAll K H (ts.map V.ref) (rs.map rowD)
  | [], [], _ => .nil
  | _ :: _, _ :: _, h => .cons (.tup (.inl (.inl h.1)) (.cons (.int _) (.cons (.int _) (.cons (.int _) .nil)))) (rows_dp h.2)
  | [], _ :: _, h => h.elim
  | _ :: _, [], h => h.elim
theorem rowD_lay (r : Row3) : (rowD r).canLay0 = true := rfl
theorem rows_lay : ∀ rs : List Row3, PyData.canLayAll0 (rs.map rowD) = true
  | [] => rfl
  | r :: rs => by
    show ((rowD r).canLay0 && PyData.canLayAll0 (rs.map rowD)) = true
    rw [rowD_lay, rows_lay rs]
    rfl
theorem rows_depth : ∀ rs : List Row3, PyData.depthAll (rs.map rowD) ≤ 1
  | [] => Nat.zero_le _
  | r :: rs => by
    have ih := rows_depth rs
    show max (rowD r).depth (PyData.depthAll (rs.map rowD)) ≤ 1
    have e : (rowD r).depth = 1 := rfl
    rw [e]
    omega
theorem rows_shaped (rs : List Row3) : SeqAt.shaped (.list (rs.map rowD)) = true := by
  have h1 : (PyData.list (rs.map rowD)).canLay0 = true := by
    show PyData.canLayAll0 (rs.map rowD) = true
    exact rows_lay rs
  have h2 : (PyData.list (rs.map rowD)).depth ≤ 64 := by
    show PyData.depthAll (rs.map rowD) + 1 ≤ 64
    have := rows_depth rs
    omega
  unfold SeqAt.shaped
  rw [h1, decide_eq_true h2]
  rfl
theorem dp_nats {K : PySem.W.Frag} {H : Hp} : ∀ ns : List Nat, DpAll K H (ns.map fun x => V.int (x : Nat)) (ns.map fun x => PyData.int (x : Nat))
  | [] => .nil
  | _ :: r => .cons (.int _) (dp_nats r)
theorem nats_lay : ∀ ns : List Nat, PyData.canLayAll0 (ns.map fun x => PyData.int (x : Nat)) = true
  | [] => rfl
  | _ :: r => by
    show (PyData.canLay0 _ && PyData.canLayAll0 (r.map fun x => PyData.int (x : Nat))) = true
    rw [nats_lay r]
    rfl
theorem nats_depth : ∀ ns : List Nat, PyData.depthAll (ns.map fun x => PyData.int (x : Nat)) = 0
  | [] => rfl
  | _ :: r => by
    show max (PyData.depth _) (PyData.depthAll (r.map fun x => PyData.int (x : Nat))) = 0
    rw [nats_depth r]
    rfl
theorem nats_shaped (ns : List Nat) : SeqAt.shaped (.list (ns.map fun x => PyData.int (x : Nat))) = true := by
  have h1 : (PyData.list (ns.map fun x => PyData.int (x : Nat))).canLay0 = true := by
    show PyData.canLayAll0 _ = true
    exact nats_lay ns
  have h2 : (PyData.list (ns.map fun x => PyData.int (x : Nat))).depth ≤ 64 := by
    show PyData.depthAll _ + 1 ≤ 64
    rw [nats_depth ns]
    decide
  unfold SeqAt.shaped
  rw [h1, decide_eq_true h2]
  rfl
theorem cut1 (xs : List V) : cutV xs (some 1) none = xs.drop 1 := by
  unfold cutV
  rw [show HT.sIx xs.length 0 (some 1) = min 1 xs.length from HT.sIx_nat xs.length 0 1, HT.sIx_none]
  cases xs with
  | nil => rfl
  | cons x r =>
    rw [show min 1 (x :: r).length = 1 by
      rw [List.length_cons]
      omega]
    show (List.take ((x :: r).length - 1) r) = r
    rw [List.length_cons, Nat.add_sub_cancel]
    exact List.take_length
theorem cutTo {xs : List V} {k : Nat} : cutV xs none (some (k : Int)) = xs.take k := by
  unfold cutV
  rw [HT.sIx_none, HT.sIx_nat, List.drop_zero, Nat.sub_zero]
  by_cases h : k ≤ xs.length
  · rw [Nat.min_eq_left h]
  · rw [Nat.min_eq_right (by omega), List.take_length, List.take_of_length_le (by omega)]
theorem cutFrom {xs : List V} {k : Nat} : cutV xs (some (k : Int)) none = xs.drop k := by
  unfold cutV
  rw [HT.sIx_none, HT.sIx_nat]
  by_cases h : k ≤ xs.length
  · rw [Nat.min_eq_left h]
    exact List.take_of_length_le (by rw [List.length_drop]; exact Nat.le_refl _)
  · rw [Nat.min_eq_right (by omega), List.drop_length, List.drop_of_length_le (by omega)]
    simp
theorem cutLast {xs : List V} (h : xs ≠ []) : cutV xs (some (-1)) none = [xs.getLast h] := by
  have hp : 0 < xs.length := List.length_pos_iff.mpr h
  have e : HT.sIx xs.length 0 (some (-1)) = xs.length - 1 := by
    show (if (-1 : Int) < 0 then ((-1 : Int) + (xs.length : Int)).toNat else min (-1 : Int).toNat xs.length) = _
    rw [if_pos (by decide)]
    omega
  unfold cutV
  rw [e, HT.sIx_none, List.drop_eq_getElem_cons (show xs.length - 1 < xs.length by omega), List.getLast_eq_getElem]
  rw [show xs.length - 1 + 1 = xs.length by omega, List.drop_length]
  rw [show xs.length - (xs.length - 1) = 1 by omega]
  rfl
theorem RowsAt.frame {H H' : Hp} : ∀ {ts : List Addr} {rs : List Row3}, RowsAt H ts rs → (∀ t r, H t = some (.tup (rowV r)) → H' t = some (.tup (rowV r))) → RowsAt H' ts rs
  | [], [], _, _ => trivial
  | _ :: _, _ :: _, h, s => ⟨s _ _ h.1, h.2.frame s⟩
  | [], _ :: _, h, _ => h.elim
  | _ :: _, [], h, _ => h.elim
/-- the tick behind the first station -/
theorem behind_first (b d : Nat) : ∀ k, ((tailOf b d k).map (fun r => r.2.2) ++ [d])[0]? = some (d / b ^ k * b ^ k)
  | 0 => by
    show some d = some (d / b ^ 0 * b ^ 0)
    rw [Nat.pow_zero, Nat.div_one, Nat.mul_one]
  | k + 1 => by
    have e := cut_step b d k
    unfold tailOf
    split
    · rfl
    · rename_i h
      have h0 : d / b ^ k % b = 0 := Classical.byContradiction h
      rw [h0, Nat.zero_mul, Nat.add_zero] at e
      rw [behind_first b d k, e]
/-- a loop over enumerate(a list) -/
theorem for_enum {K : PySem.W.Frag} {a : Addr} {xs : List V} {g : TG} {tb : TS} {D : Ends} {σ : L2.St} {H : Hp} (Pv : Nat → L2.St → Hp → Prop) (h0 : Pv 0 σ H) (hq : ∀ i σ H, Pv i σ H → SqL K H a xs)
    (hs : ∀ (i : Nat) (x : V) (T : Addr) (σ : L2.St) (H : Hp), xs[i]? = some x → Pv i σ H → H T = none → g (.ref T) σ (upd H T (.tup [.int (i : Nat), x])) fun σ2 H2 => tb { D with nx := Pv (i + 1), ct := Pv (i + 1), bk := D.nx } σ2 H2) (hd : ∀ σ H, Pv xs.length σ H → D.nx σ H) :
    ∃ W : Nat → Nat → L2.St → Hp → Prop, (∃ m, W 0 m σ H) ∧ ∀ i m σ H, W i m σ H →
      ((Ite K a).stop i H ∧ D.nx σ H) ∨ ((Ite K a).go i H ∧ ∃ N : L2.St → Hp → Prop, (∀ σ' H', N σ' H' → ∃ m', m' < m ∧ W (i + 1) m' σ' H') ∧ ∀ v H', (Ite K a).yld i H v H' → g v σ H' fun σ2 H2 => tb { D with nx := N, ct := N, bk := D.nx } σ2 H2) := by
  refine ⟨fun i m σ H => m = xs.length - i ∧ i ≤ xs.length ∧ Pv i σ H, ⟨xs.length, rfl, Nat.zero_le _, h0⟩, ?_⟩
  rintro i m σ H ⟨rfl, hi, p⟩
  have qx := hq i σ H p
  by_cases hlt : i < xs.length
  · have hx : xs[i]? = some xs[i] := List.getElem?_eq_getElem hlt
    refine .inr ⟨⟨xs, xs[i], qx, hx⟩, Pv (i + 1), fun σ' H' p' => ⟨xs.length - (i + 1), by omega, rfl, hlt, p'⟩, fun v H' y => ?_⟩
    obtain ⟨T, x, rfl, nT, rfl, f⟩ := y
    have ex : x = xs[i] := Option.some.inj ((f xs qx).symm.trans hx)
    subst ex
    exact hs i _ T σ H hx p nT
  · have e : i = xs.length := by omega
    subst e
    exact .inl ⟨⟨xs, qx, Nat.le_refl _⟩, hd σ H p⟩
/-- a loop over zip(a list, a list), of any two lengths -/
theorem for_zip2 {K : PySem.W.Frag} {a b : Addr} {xs ys : List V} {g : TG} {tb : TS} {D : Ends} {σ : L2.St} {H : Hp} (Pv : Nat → L2.St → Hp → Prop) (h0 : Pv 0 σ H) (hq : ∀ i σ H, Pv i σ H → SqL K H a xs ∧ SqL K H b ys)
    (hs : ∀ (i : Nat) (x y : V) (T : Addr) (σ : L2.St) (H : Hp), xs[i]? = some x → ys[i]? = some y → Pv i σ H → H T = none → g (.ref T) σ (upd H T (.tup [x, y])) fun σ2 H2 => tb { D with nx := Pv (i + 1), ct := Pv (i + 1), bk := D.nx } σ2 H2) (hd : ∀ i σ H, Pv i σ H → D.nx σ H) :
    ∃ W : Nat → Nat → L2.St → Hp → Prop, (∃ m, W 0 m σ H) ∧ ∀ i m σ H, W i m σ H →
      ((Itz K a b).stop i H ∧ D.nx σ H) ∨ ((Itz K a b).go i H ∧ ∃ N : L2.St → Hp → Prop, (∀ σ' H', N σ' H' → ∃ m', m' < m ∧ W (i + 1) m' σ' H') ∧ ∀ v H', (Itz K a b).yld i H v H' → g v σ H' fun σ2 H2 => tb { D with nx := N, ct := N, bk := D.nx } σ2 H2) := by
  refine ⟨fun i m σ H => m = xs.length - i ∧ i ≤ xs.length ∧ Pv i σ H, ⟨xs.length, rfl, Nat.zero_le _, h0⟩, ?_⟩
  rintro i m σ H ⟨rfl, hi, p⟩
  obtain ⟨qx, qy⟩ := hq i σ H p
  by_cases hlt : i < xs.length ∧ i < ys.length
  · have hx : xs[i]? = some xs[i] := List.getElem?_eq_getElem hlt.1
    have hy : ys[i]? = some ys[i] := List.getElem?_eq_getElem hlt.2
    refine .inr ⟨⟨xs, ys, _, _, qx, qy, hx, hy⟩, Pv (i + 1), fun σ' H' p' => ⟨xs.length - (i + 1), by omega, rfl, hlt.1, p'⟩, fun v H' e => ?_⟩
    obtain ⟨T, x, y, rfl, nT, rfl, f, f2⟩ := e
    have ex : x = xs[i] := Option.some.inj ((f xs qx).symm.trans hx)
    have ey : y = ys[i] := Option.some.inj ((f2 ys qy).symm.trans hy)
    subst ex
    subst ey
    exact hs i _ _ T σ H hx hy p nT
  · refine .inl ⟨⟨xs, ys, qx, qy, ?_⟩, hd i σ H p⟩
    by_cases h1 : i < xs.length
    · right
      by_cases h2 : i < ys.length
      · exact absurd ⟨h1, h2⟩ hlt
      · omega
    · left
      omega
/-- the last item of a list that has one -/
theorem atI_neg1 {xs : List V} {x : V} (h : xs[xs.length - 1]? = some x) : atI xs (-1) = some x := by
  have hne : xs ≠ [] := fun e => by
    rw [e] at h
    simp at h
  have e : xs = xs.dropLast ++ [xs.getLast hne] := (List.dropLast_concat_getLast hne).symm
  have ex : x = xs.getLast hne := by
    have z := List.getLast?_eq_getElem? (l := xs)
    rw [h, List.getLast?_eq_some_getLast hne] at z
    exact (Option.some.inj z).symm
  rw [e, ex]
  exact atI_last _ _
/-! ### law k34: the law itself -/
theorem OrderIs.ext {K : PySem.W.Frag} {H H' : Hp} {x0 x1 x2 x3 : V} {out : List Nat} (s : LamX.ExtN H H') (h : OrderIs K H x0 x1 x2 x3 out) : OrderIs K H' x0 x1 x2 x3 out := by
  obtain ⟨b, x, q, S, ws, ss, prs, e0, e1, e2, e3, h1, h2, h3, h4, h5, h6, h7, h8, h9⟩ := h
  exact ⟨b, x, q, S, ws, ss, prs, e0, e1, e2, e3, h1, h2, ExtN.seq s h3, h4, h5, h6, s _ _ h7 (fun _ z => by cases z), h8.frame (fun t xs e => s _ _ e (fun _ z => by cases z)), h9⟩
theorem TimesIs.ext {K : PySem.W.Frag} {H H' : Hp} {x0 x1 x2 x3 x4 x5 : V} {n : Nat} (s : LamX.ExtN H H') (h : TimesIs K H x0 x1 x2 x3 x4 x5 n) : TimesIs K H' x0 x1 x2 x3 x4 x5 n := by
  obtain ⟨b, a, p, o, q, x, y, ql, ws, e0, e1, e2, e3, h1, h2, h3, h4, h5, h6, h7, h8⟩ := h
  exact ⟨b, a, p, o, q, x, y, ql, ws, e0, e1, e2, e3, h1, h2, ExtN.seq s h3, h4, h5, h6.ext s, h7.ext s, h8⟩
theorem VerdO.ext {K : PySem.W.Frag} {H H' : Hp} {xs : List V} {w : Str} (s : LamX.ExtN H H') (h : VerdO K H xs w) : VerdO K H' xs w := by
  obtain ⟨x0, x1, x2, x3, e, h⟩ := h
  exact ⟨x0, x1, x2, x3, e, h.imp (fun ⟨e, he, hb, hw⟩ => ⟨e, he, hb.ext s, hw⟩) fun ⟨hw, out, ho⟩ => ⟨hw, out, ho.ext s⟩⟩
theorem VerdT.ext {K : PySem.W.Frag} {H H' : Hp} {xs : List V} {w : Str} (s : LamX.ExtN H H') (h : VerdT K H xs w) : VerdT K H' xs w := by
  obtain ⟨x0, x1, x2, x3, x4, x5, e, h⟩ := h
  exact ⟨x0, x1, x2, x3, x4, x5, e, h.imp (fun ⟨e, he, hb, hw⟩ => ⟨e, he, hb.ext s, hw⟩) fun ⟨hw, n, ho⟩ => ⟨hw, n, ho.ext s⟩⟩
/-- the words that may be due -/
def Word34 (w : Str) : Prop := w = "told" ∨ ∃ e, e < 4 ∧ w = errW e
theorem VerdO.word {K : PySem.W.Frag} {H : Hp} {xs : List V} {w : Str} (h : VerdO K H xs w) : Word34 w := by
  obtain ⟨_, _, _, _, _, ⟨e, he, _, hw⟩ | ⟨hw, _⟩⟩ := h
  · exact .inr ⟨e, he, hw⟩
  · exact .inl hw
theorem VerdT.word {K : PySem.W.Frag} {H : Hp} {xs : List V} {w : Str} (h : VerdT K H xs w) : Word34 w := by
  obtain ⟨_, _, _, _, _, _, _, ⟨e, he, _, hw⟩ | ⟨hw, _⟩⟩ := h
  · exact .inr ⟨e, he, hw⟩
  · exact .inl hw
theorem Word34.all {Pr : Str → Prop} {w : Str} (h : Word34 w) (h0 : Pr "told") (h1 : Pr "base") (h2 : Pr "levels") (h3 : Pr "period") (h4 : Pr "tick") : Pr w := by
  rcases h with rfl | ⟨e, he, rfl⟩
  · exact h0
  · match e, he with
    | 0, _ => exact h1
    | 1, _ => exact h2
    | 2, _ => exact h3
    | 3, _ => exact h4
    | e + 4, z => omega
theorem Word34.odd {K : PySem.W.Frag} {H : Hp} {w : Str} (h : Word34 w) : OddW K H 0 20 (.str w) :=
  h.all (Pr := fun w => OddW K H 0 20 (.str w)) (oddw_str _ (by decide +kernel) (by decide +kernel)) (oddw_str _ (by decide +kernel) (by decide +kernel)) (oddw_str _ (by decide +kernel) (by decide +kernel)) (oddw_str _ (by decide +kernel) (by decide +kernel)) (oddw_str _ (by decide +kernel) (by decide +kernel))
theorem Word34.two {w : Str} (h : Word34 w) : SeqAt.shaped (.list [.str w, .str w]) = true ∧ (PyData.list [.str w, .str w]).canLay0 = true :=
  h.all (Pr := fun w => SeqAt.shaped (.list [.str w, .str w]) = true ∧ (PyData.list [.str w, .str w]).canLay0 = true) ⟨by decide +kernel, by decide +kernel⟩ ⟨by decide +kernel, by decide +kernel⟩ ⟨by decide +kernel, by decide +kernel⟩ ⟨by decide +kernel, by decide +kernel⟩ ⟨by decide +kernel, by decide +kernel⟩
theorem errW_ne {e : Nat} : errW e ≠ ("told" : Str) := by
  match e with
  | 0 => decide
  | 1 => decide
  | 2 => decide
  | e + 3 => exact (by decide : ("tick" : Str) ≠ "told")
theorem tabs_put {T : List (Addr × Str)} {q : Addr} {H : Hp} {xs : List V} {o : HO} (t : LamX.Tabs T H) (e : H q = some (.lst xs)) : LamX.Tabs T (upd H q o) := fun x hx => by
  have nn : ∀ {b : Addr} {u : HO}, H b = some u → u ≠ .lst xs → b ≠ q := fun h1 h2 z => by
    rw [z, e] at h1
    exact h2 (Option.some.inj h1).symm
  obtain ⟨tb, e0, h1, h2⟩ := t x hx
  refine ⟨tb, by rw [upd_ne (nn e0 (by intro z; cases z))]; exact e0, h1, fun pos cv hc => ?_⟩
  obtain ⟨c', e1, e2⟩ := h2 pos cv hc
  exact ⟨c', e1, by rw [upd_ne (nn e2 (by intro z; unfold LamX.CodeO at z; cases z))]; exact e2⟩
section
variable {X : Cx} {K : PySem.W.Frag}
/-- as word_gives, inside a comprehension -/
theorem word_givesK {g CT c_NoBase c_NoLevels c_NoTick c_NoOrder c_NoPeriod c_NoSighting c_NoTimer c_TooMany : Addr} {cdg : Value} {q : Str} (e : X.K = K) (T : Tx X.K X.mg) (XT : EG X.mg "TimerError" CT)
    (X_NoBase : EG X.mg "NoBase" c_NoBase) (X_NoLevels : EG X.mg "NoLevels" c_NoLevels) (X_NoTick : EG X.mg "NoTick" c_NoTick) (X_NoOrder : EG X.mg "NoOrder" c_NoOrder) (X_NoPeriod : EG X.mg "NoPeriod" c_NoPeriod) (X_NoSighting : EG X.mg "NoSighting" c_NoSighting) (X_NoTimer : EG X.mg "NoTimer" c_NoTimer) (X_TooMany : EG X.mg "TooMany" c_TooMany) :
    LamX.GivesTo X N__law_word "_law_word" (defScope s__law_word) g cdg (defBody s__law_word) "_law_ask_here" q (TTw K [c_NoBase, c_NoLevels, c_NoTick, c_NoPeriod, c_NoTimer, c_NoOrder, c_NoSighting, c_TooMany] CT) := by
  subst e
  exact word_gives T XT X_NoBase X_NoLevels X_NoTick X_NoOrder X_NoPeriod X_NoSighting X_NoTimer X_TooMany
end
theorem int_lay34 (n : Nat) : (PyData.int (n : Nat)).canLay0 = true := by simp [PyData.canLay0]
theorem int_shaped34 (n : Nat) : SeqAt.shaped (.int (n : Nat)) = true := by
  unfold SeqAt.shaped
  rw [int_lay34]
  rfl
/-- what is due of the i-th row -/
def Item34 (K : PySem.W.Frag) (H : Hp) (i : Nat) (xs : List V) (w : Str) : Prop := (i = 0 ∧ VerdO K H xs w) ∨ (i = 1 ∧ VerdT K H xs w)
theorem Item34.ext {K : PySem.W.Frag} {H H' : Hp} {i : Nat} {xs : List V} {w : Str} (s : LamX.ExtN H H') (h : Item34 K H i xs w) : Item34 K H' i xs w := h.imp (fun z => ⟨z.1, z.2.ext s⟩) fun z => ⟨z.1, z.2.ext s⟩
theorem Item34.word {K : PySem.W.Frag} {H : Hp} {i : Nat} {xs : List V} {w : Str} (h : Item34 K H i xs w) : Word34 w := h.elim (fun z => z.2.word) fun z => z.2.word
theorem nats_dp34 {K : PySem.W.Frag} {H : Hp} {p : Addr} {l : List Nat} (h : H p = some (.lst (l.map fun y => V.int (y : Nat)))) : Dp K H (.ref p) (.list (l.map fun y => PyData.int (y : Nat))) := by
  refine .lst (SqL.of h) ?_
  clear h
  induction l with
  | nil => exact .nil
  | cons y l ih => exact .cons (.int _) ih
section
variable {P : Program} {w : World} {K : PySem.W.Frag} {mg : Str → Option Value} {base : Heap}
def spLaw (K : PySem.W.Frag) (lamT : List (Addr × Str)) : Sp := fun vs H Q _ => ∃ (a : Addr) (ns : List Int), vs = [.ref a] ∧ SqL K H a (ns.map V.int) ∧ ns.length ≤ 63 ∧ LamX.Tabs lamT H ∧ ∀ H', Q (.bl true) H'
set_option maxHeartbeats 40000000 in
theorem ok_law {f fW cB Pt c_TimerError c_NoBase c_NoLevels c_NoTick c_NoOrder c_NoPeriod c_NoSighting c_NoTimer c_TooMany : Addr} {fd fdW : FuncData} {cdW : Value} {lamT : List (Addr × Str)} (F : FunC K "law" s_law f fd (.ref cB)) (T : Tx K mg)
    (FW : FunC K "_law_word" s__law_word fW fdW cdW) (m__law_word : mg "_law_word" = some (.ref fW)) (b__law_word : Binds K fdW ["_law_ask_here"] []) (TB : LamX.TabB base mg cB Pt) (hmT : (Pt, lamQ "law") ∈ lamT) (hu : ∀ p ∈ lamT, p.1 = Pt → p.2 = lamQ "law")
    (XG_TimerError : EG mg "TimerError" c_TimerError) (XG_NoBase : EG mg "NoBase" c_NoBase) (XG_NoLevels : EG mg "NoLevels" c_NoLevels) (XG_NoTick : EG mg "NoTick" c_NoTick) (XG_NoOrder : EG mg "NoOrder" c_NoOrder) (XG_NoPeriod : EG mg "NoPeriod" c_NoPeriod) (XG_NoSighting : EG mg "NoSighting" c_NoSighting) (XG_NoTimer : EG mg "NoTimer" c_NoTimer) (XG_TooMany : EG mg "TooMany" c_TooMany)
    (te : ∀ e, e < 4 → PySem.W.exmOne K (.ref (errOf c_NoBase c_NoLevels c_NoPeriod c_NoTick e)) (.ref c_TimerError) = some true)
    (kd : ∀ e, e < 4 → ∃ j, Kind8 K (errOf c_NoBase c_NoLevels c_NoPeriod c_NoTick e) [c_NoBase, c_NoLevels, c_NoTick, c_NoPeriod, c_NoTimer, c_NoOrder, c_NoSighting, c_TooMany] j ∧ words24[j]? = some (.str (errW e)))
    (h1 : Has P w K mg base 2 "_law_source" ["_law_script", "_law_k"] [] (spSource K)) (h2 : Has P w K mg base 5 "_law_rows" ["_law_source_here"] [] (spRows34 K))
    (h11 : Has P w K mg base 7 "_law_ask" ["_law_way", "_law_row"] [] (spAsk34C K)) (h12 : HasX P w K mg base 7 "_law_ask" ["_law_way", "_law_row"] [] (spAsk34 K c_NoBase c_NoLevels c_NoPeriod c_NoTick)) :
    FnG P w K mg base 10 f fd ["_law_script"] (spLaw K lamT) := by
  obtain ⟨⟨oc, kV, doc, pm, ct, od, an, osl, e1, lk__law_word, hc__law_word⟩, kp__law_word⟩ := FW
  subst e1
  obtain ⟨f__law_source, fd__law_source, ds__law_source, G__law_source, m__law_source, k__law_source, b__law_source, v__law_source⟩ := h1
  obtain ⟨f__law_rows, fd__law_rows, ds__law_rows, G__law_rows, m__law_rows, k__law_rows, b__law_rows, v__law_rows⟩ := h2
  obtain ⟨f__law_ask, fd__law_ask, ds__law_ask, G__law_ask, m__law_ask, k__law_ask, b__law_ask, v__law_ask⟩ := h11
  obtain ⟨f__law_askX, fd__law_askX, ds__law_askX, G__law_askX, m__law_askX, k__law_askX, b__law_askX, v__law_askX⟩ := h12
  refine F.okG sc_law (fun vs H Q E h => ?_) (fun A outer s H vs Q hgA hr h => ?_)
  · obtain ⟨a, ns, rfl, _⟩ := h
    rfl
  · obtain ⟨a, ns, rfl, hS, hlen, hT, fin⟩ := h
    refine ⟨_, (pss_cons (ps_for PassesOwn.never rfl (pi_range1 (by rfl) T.b_range (pa_cons (pe_callB (call_max2 rfl) (by rfl) T.b_max (by decide +kernel) (pa_cons pe_int (pa_cons (pe_callB (call_min2 rfl) (by rfl) T.b_min (by decide +kernel) (pa_cons pe_int (pa_cons (pe_callB (lenK (K := K) rfl) (by rfl) T.b_len PySem.boot_len (pa_cons (pv 0) pa_nil)) pa_nil))) pa_nil))) pa_nil)) (pg_name (i := 1) sc_law.nd rfl (.inl rfl))
        (pss_cons (ps_set (i := 2) sc_law.nd rfl (.inl rfl) (pe_call G__law_rows (hr.mono (by decide)) (by rfl) m__law_rows k__law_rows b__law_rows v__law_rows pass0 (pa_cons (pe_call G__law_source (hr.mono (by decide)) (by rfl) m__law_source k__law_source b__law_source v__law_source pass0 (pa_cons (pv 0) (pa_cons (pv 1) pa_nil))) pa_nil)))
        (pss_cons (ps_set (i := 3) sc_law.nd rfl (.inl rfl) (pe_callB (call_reprE hgA hr.units) (by rfl) T.b_repr (by decide +kernel) (pa_cons (pv 2) pa_nil)))
        (pss_cons (ps_for PassesOwn.never rfl (pi_enum (by rfl) T.b_enumerate (pa_cons (pv 2) pa_nil)) (pg_tupK (K := K) (n := 2) rfl rfl (pgs_cons (pg_name (i := 4) sc_law.nd rfl (.inl rfl)) (pgs_cons (pg_tupK (K := K) (n := 2) rfl rfl (pgs_cons (pg_name (i := 6) sc_law.nd rfl (.inr rfl)) (pgs_cons (pg_name (i := 5) sc_law.nd rfl (.inl rfl)) pgs_nil))) pgs_nil)))
          (pss_cons (ps_if (pt_cmpR (op_neK (K := K) rfl hr.units) (pe_lc (own := [("_law_way", 7)]) (g := gName 7) (tt := tYes) rfl sc_law.nd (pi_tup (pe_tup (pa_cons (pe_op op_mulN pe_int (pv 4)) (pa_cons (pe_op op_addN (pe_op op_mulN pe_int (pv 4)) pe_int) pa_nil)))) (blkOk_by (own := [("_law_way", 7)]) (N := N_law) (sc := defScope s_law) (by decide +kernel)) (fun _ _ _ _ _ => (pg_name (i := 7) sc_law.nd rfl (.inr rfl))) (fun _ _ _ _ _ => pts_nil) (fun _ _ _ _ _ => (LamX.pe_lamcall (k := 7) (T := lamT) rfl m__law_word kp__law_word lk__law_word hc__law_word b__law_word sc__law_word rfl (Or.inl (by decide +kernel)) (word_givesK (K := K) rfl T XG_TimerError XG_NoBase XG_NoLevels XG_NoTick XG_NoOrder XG_NoPeriod XG_NoSighting XG_NoTimer XG_TooMany) TB rfl hmT hu hr (LamX.lamS_by (show LamX.lamSB ({ kind := .function, names := [(".0", .local), ("_law_way", .cell), ("_law_word", .globalImplicit), ("_law_row", .cell)], isGenerator := false, isCoroutine := false } : Scope) _ = true by decide +kernel)) rfl (fun _ _ _ _ _ => rfl) (fun _ _ _ _ _ _ _ hr2 => (pe_call G__law_askX hr2 (by rfl) m__law_askX k__law_askX b__law_askX v__law_askX (passes_call (takes_of rfl rfl rfl rfl) (fun _ _ _ _ h => h)) (pa_cons (pv 7) (pa_cons (pv 6) pa_nil))))))) (pe_lst (pa_cons (pv 5) (pa_cons (pv 5) pa_nil))) (nomark _))
            (pss_one (ps_ret pe_bl))
            pss_nil)
          (pss_one (ps_if (PW.pt (pw_and (pt_cmpR op_eq (pv 5) pe_str (nomark _)) (pw_and1 (pt_cmpR (op_neK (K := K) rfl hr.units) (pe_call G__law_ask (hr.mono (by decide)) (by rfl) m__law_ask k__law_ask b__law_ask v__law_ask pass0 (pa_cons (pe_op op_mulN pe_int (pv 4)) (pa_cons (pv 6) pa_nil))) (pe_call G__law_ask (hr.mono (by decide)) (by rfl) m__law_ask k__law_ask b__law_ask v__law_ask pass0 (pa_cons (pe_op op_addN (pe_op op_mulN pe_int (pv 4)) pe_int) (pa_cons (pv 6) pa_nil))) (nomark _)))))
            (pss_one (ps_ret pe_bl))
            pss_nil))))
        (pss_one (ps_if (pt_cmpR op_ne (pe_callB (call_reprE hgA hr.units) (by rfl) T.b_repr (by decide +kernel) (pa_cons (pv 2) pa_nil)) (pv 3) (nomark _))
          (pss_one (ps_ret pe_bl))
          pss_nil))))))
      (pss_one (ps_ret pe_bl))), ?_⟩
    refine ⟨.ref a, rfl, a, ns.map V.int, rfl, .inl hS, 10, _, rfl, 1, _, rfl, _, rfl, ?_, ?_, for_range (Pv := fun i σ H' => SqL K H' a (ns.map V.int) ∧ LamX.Tabs lamT H' ∧ ∃ y1 y2 y3 y4 y5 y6 y7, σ = [some (.ref a), y1, y2, y3, y4, y5, y6, y7]) ⟨hS, hT, none, none, none, none, none, none, none, rfl⟩ ?_ ?_⟩
    · split <;> split <;> omega
    · rw [List.length_map]
      split <;> split <;> omega
    · rintro i0 σ H0 hi ⟨hS, hT, y1, y2, y3, y4, y5, y6, y7, rfl⟩
      refine ⟨.ref a, rfl, _, rfl, a, ns, 0 + i0, rfl, hS, fun H1 p s1 hp0 hsrc => ⟨p, rfl, hsrc, fun H2 M s2 hrows => ?_⟩⟩
      obtain ⟨T1, T2, F1, F2, w1, w2, xs, ys, eM, eT1, eT2, eF1, eF2, v1, v2, od1, od2⟩ := hrows
      have s02 : Same H0 H2 := fun b o e => s2.keep b o (ne_of_none e hp0) (s1 b o e)
      have lx : xs.length = 4 := by
        obtain ⟨_, _, _, _, rfl, _⟩ := v1
        rfl
      have ly : ys.length = 6 := by
        obtain ⟨_, _, _, _, _, _, rfl, _⟩ := v2
        rfl
      -- what is handed in, shown
      have oT1 : OddW K H2 9 180074 (.ref T1) := oddw_tup (m := 90036) (SqT.of eT1) (fun x hx => by
        rcases List.mem_cons.mp hx with rfl | hx
        · exact oddw_lst (m := 15005) (SqL.of eF1) od1 (by rw [lx]; decide)
        · rw [List.mem_singleton.mp hx]
          exact v1.word.odd.mono (by decide) (by decide)) (by simp)
      have oT2 : OddW K H2 9 180074 (.ref T2) := oddw_tup (m := 90036) (SqT.of eT2) (fun x hx => by
        rcases List.mem_cons.mp hx with rfl | hx
        · exact oddw_lst (m := 15005) (SqL.of eF2) od2 (by rw [ly]; decide)
        · rw [List.mem_singleton.mp hx]
          exact v2.word.odd.mono (by decide) (by decide)) (by simp)
      obtain ⟨ds, d1, d2, d3, dE⟩ := repr_w (n := 9) (m := 180074) (SqL.of (K := K) eM) (fun x hx => by
        rcases List.mem_cons.mp hx with rfl | hx
        · exact oT1
        · rw [List.mem_singleton.mp hx]
          exact oT2) (by decide) (by simp)
      refine ⟨.ref M, rfl, M, _, ds, rfl, SqL.of eM, by simp, (dE H2 (.refl _)).2, d1, d2, d3, ?_⟩
      have hT2 := hT.ext s02
      refine ⟨.ref M, rfl, M, _, rfl, SqL.of eM, for_enum (K := K) (a := M) (xs := [.ref T1, .ref T2]) (fun i σ H' => LamX.ExtN H2 H' ∧ LamX.Tabs lamT H' ∧ ∃ y1 y4 y5 y6 y7, σ = [some (.ref a), y1, some (.ref M), some (.str (PyData.list ds).shown), y4, y5, y6, y7])
        ⟨.refl _, hT2, _, _, _, _, _, rfl⟩ (fun i σ H' ⟨z, _⟩ => ExtN.seq z (SqL.of eM)) ?_ ?_⟩
      · rintro i v U σ H3 hv ⟨x23, tb3, z1, z4, z5, z6, z7, rfl⟩ hU
        obtain ⟨Ti, Fi, wi, xi, rfl, eTi, eFi, item, hi2⟩ : ∃ (Ti Fi : Addr) (wi : Str) (xi : List V), v = .ref Ti ∧ H2 Ti = some (.tup [.ref Fi, .str wi]) ∧ H2 Fi = some (.lst xi) ∧ Item34 K H2 i xi wi ∧ i < 2 := by
          match i, hv with
          | 0, hv => exact ⟨T1, F1, w1, xs, (Option.some.inj hv).symm, eT1, eF1, .inl ⟨rfl, v1⟩, by decide⟩
          | 1, hv => exact ⟨T2, F2, w2, ys, (Option.some.inj hv).symm, eT2, eF2, .inr ⟨rfl, v2⟩, by decide⟩
          | i + 2, hv => cases hv
        have sU := same_upd (o := .tup [.int (i : Nat), .ref Ti]) hU
        have eU : (upd H3 U (.tup [.int (i : Nat), .ref Ti])) U = some (.tup [.int (i : Nat), .ref Ti]) := upd_same
        generalize upd H3 U (.tup [.int (i : Nat), .ref Ti]) = H4 at sU eU ⊢
        have x24 := x23.trans (extN_same sU)
        have tb4 := tb3.ext sU
        have eT4 := x24 _ _ eTi (fun _ z => by cases z)
        refine ⟨U, _, rfl, .inl (.inl eU), rfl, _, _, rfl, _, _, rfl, Ti, _, rfl, .inl (.inl eT4), rfl, _, _, rfl, _, _, rfl, rfl, rfl, ?_⟩
        have eFi4 := x24 _ _ eFi (fun _ z => by cases z)
        have hword := item.word
        -- the two calls
        refine ⟨.int (i : Nat), rfl, 2, i, rfl, rfl, nmul_l (by decide), .int (i : Nat), rfl, 2, i, rfl, rfl, nmul_l (by decide), 2 * i, 1, rfl, rfl, trivial, by simp [sizeLine_eq], fun W hW => ?_⟩
        have sW := same_upd (o := .tup [.int ((2 * i : Nat) : Int), .int ((2 * i + 1 : Nat) : Int)]) hW
        have eW : (upd H4 W (.tup [.int ((2 * i : Nat) : Int), .int ((2 * i + 1 : Nat) : Int)])) W = some (.tup [.int ((2 * i : Nat) : Int), .int ((2 * i + 1 : Nat) : Int)]) := upd_same
        generalize upd H4 W (.tup [.int ((2 * i : Nat) : Int), .int ((2 * i + 1 : Nat) : Int)]) = H5 at sW eW ⊢
        have x25 := x24.trans (extN_same sW)
        have tb5 := tb4.ext sW
        refine ⟨W, rfl, ⟨_, SqT.of eW⟩, fun G hG => lc_tup (K := K) (a := W) (xs := [.int ((2 * i : Nat) : Int), .int ((2 * i + 1 : Nat) : Int)]) (fun j H' => LamX.ExtN H5 H' ∧ LamX.Tabs lamT H' ∧ H' G = some (.lst ((List.replicate j wi).map V.str)))
          ⟨extN_same (same_upd hG), tb5.ext (same_upd hG), upd_same⟩ (fun j H' _ ⟨z, _⟩ => SqT.of (z _ _ eW (fun _ z => by cases z))) ?_ ?_⟩
        · rintro j x H' hx ⟨xt, tb, eG⟩
          obtain ⟨way, rfl, hway, hj⟩ : ∃ way : Nat, x = .int (way : Nat) ∧ way = 2 * i + j ∧ j < 2 := by
            match j, hx with
            | 0, hx => exact ⟨2 * i, (Option.some.inj hx).symm, rfl, by decide⟩
            | 1, hx => exact ⟨2 * i + 1, (Option.some.inj hx).symm, rfl, by decide⟩
            | j + 2, hx => cases hx
          refine ⟨rfl, yesT (iteT ⟨tb, fun Ha xa tba => ?_⟩)⟩
          have xall := (x25.trans xt).trans xa
          have eGa := xa _ _ eG (fun _ z => by cases z)
          have eFa := xall _ _ eFi (fun _ z => by cases z)
          have itm := item.ext xall
          have app : ∀ (Hn : Hp) (wd : Str), Same Ha Hn → wi = wd → ∃ acc, Hn G = some (.lst acc) ∧ acc.length < sizeLine ∧ (LamX.ExtN H5 (upd Hn G (.lst (acc ++ [.str wd]))) ∧ LamX.Tabs lamT (upd Hn G (.lst (acc ++ [.str wd]))) ∧ (upd Hn G (.lst (acc ++ [.str wd]))) G = some (.lst ((List.replicate (j + 1) wi).map V.str))) := fun Hn wd sn hwd => by
            refine ⟨_, sn _ _ eGa, ?_, fun c o e n => ?_, tabs_put (tba.ext sn) (sn _ _ eGa), ?_⟩
            · rw [List.length_map, List.length_replicate]
              exact sizeLine_ge (by omega)
            · rw [upd_ne (ne_of_none e hG)]
              exact sn _ _ (xa _ _ (xt _ _ e n) n)
            · rw [upd_same, List.replicate_succ', List.map_append, hwd]
              rfl
          refine ⟨.int (way : Nat), rfl, .ref Fi, rfl, way, Fi, xi, rfl, by omega, SqL.of eFa, fun h => ?_, fun h => ?_⟩
          · rcases itm with ⟨hi0, x0, x1, x2, x3, ex, hv⟩ | ⟨hi1, _⟩
            · refine ⟨x0, x1, x2, x3, ex, ?_⟩
              rcases hv with ⟨e, he, hb, hwe⟩ | ⟨hwt, out, ho⟩
              · obtain ⟨j', hk, hj'⟩ := kd e he
                exact .inl ⟨e, hb, fun Hb sb => ⟨_, j', _, rfl, rfl, te e he, hk, hj', fun Hc sc => app Hc _ (sb.trans sc) hwe⟩⟩
              · exact .inr ⟨out, ho, fun Hb q sb _ _ => app Hb _ sb hwt⟩
            · omega
          · rcases itm with ⟨hi0, _⟩ | ⟨hi1, x0, x1, x2, x3, x4, x5, ex, hv⟩
            · omega
            · refine ⟨x0, x1, x2, x3, x4, x5, ex, ?_⟩
              rcases hv with ⟨e, he, hb, hwe⟩ | ⟨hwt, n, ho⟩
              · obtain ⟨j', hk, hj'⟩ := kd e he
                exact .inl ⟨e, hb, fun Hb sb => ⟨_, j', _, rfl, rfl, te e he, hk, hj', fun Hc sc => app Hc _ (sb.trans sc) hwe⟩⟩
              · exact .inr ⟨n, ho, fun Hb sb => app Hb _ sb hwt⟩
        rintro H6 ⟨x56, tb6, eG⟩
        refine ⟨.str wi, rfl, .str wi, rfl, by simp [sizeLine_eq], fun L hL => ?_⟩
        have sL := same_upd (o := .lst [.str wi, .str wi]) hL
        have eL : (upd H6 L (.lst [.str wi, .str wi])) L = some (.lst [.str wi, .str wi]) := upd_same
        generalize upd H6 L (.lst [.str wi, .str wi]) = H7 at sL eL ⊢
        have dp : ∀ {b : Addr}, H7 b = some (.lst [.str wi, .str wi]) → Dp K H7 (.ref b) (.list [.str wi, .str wi]) := fun e => .lst (SqL.of e) (.cons (.str _) (.cons (.str _) .nil))
        refine ⟨_, _, dp (sL _ _ eG), dp eL, hword.two.1, hword.two.1, false, neq_refl hword.two.2, iteF ?_⟩
        have x27 := (x25.trans x56).trans (extN_same sL)
        have tb7 := tb6.ext sL
        clear dp eL eG
        -- told, the same by name
        have itm := item.ext x27
        have eF7 := x27 _ _ eFi (fun _ z => by cases z)
        rcases itm with ⟨rfl, x0, x1, x2, x3, rfl, ⟨e, he, hb, hwe⟩ | ⟨hwt, out, ho⟩⟩ | ⟨rfl, x0, x1, x2, x3, x4, x5, rfl, ⟨e, he, hb, hwe⟩ | ⟨hwt, n, ho⟩⟩
        · exact ⟨.str wi, rfl, rfl, false, dF (fun z => errW_ne (hwe.symm.trans (V.str.inj z))), iteF (iteF ⟨x27, tb7, _, _, _, _, _, rfl⟩)⟩
        · refine ⟨.str wi, rfl, rfl, true, dT (congrArg V.str hwt), iteT ?_⟩
          refine ⟨.int ((0 : Nat) : Int), rfl, 2, 0, rfl, rfl, nmul_l (by decide), .ref Fi, rfl, 0, Fi, _, rfl, by decide, SqL.of eF7, fun _ => ⟨x0, x1, x2, x3, rfl, out, ho, fun H8 q s8 hq eq => ?_⟩, fun z => absurd z (by decide)⟩
          refine ⟨.int ((0 : Nat) : Int), rfl, 2, 0, rfl, rfl, nmul_l (by decide), 0, 1, rfl, rfl, trivial, .ref Fi, rfl, 1, Fi, _, rfl, by decide, SqL.of (s8 _ _ eF7), fun _ => ⟨x0, x1, x2, x3, rfl, out, ho.same s8, fun H9 q' s9 hq' eq' => ?_⟩, fun z => absurd z (by decide)⟩
          refine ⟨_, _, nats_dp34 (s9 _ _ eq), nats_dp34 eq', nats_shaped out, nats_shaped out, false, neq_refl (d := .list (out.map fun y => PyData.int (y : Nat))) (nats_lay out), iteF ?_⟩
          exact ⟨(x27.trans (extN_same s8)).trans (extN_same s9), (tb7.ext s8).ext s9, _, _, _, _, _, rfl⟩
        · exact ⟨.str wi, rfl, rfl, false, dF (fun z => errW_ne (hwe.symm.trans (V.str.inj z))), iteF (iteF ⟨x27, tb7, _, _, _, _, _, rfl⟩)⟩
        · refine ⟨.str wi, rfl, rfl, true, dT (congrArg V.str hwt), iteT ?_⟩
          refine ⟨.int ((1 : Nat) : Int), rfl, 2, 1, rfl, rfl, nmul_l (by decide), .ref Fi, rfl, 2, Fi, _, rfl, by decide, SqL.of eF7, fun z => absurd z (by decide), fun _ => ⟨x0, x1, x2, x3, x4, x5, rfl, n, ho, fun H8 s8 => ?_⟩⟩
          refine ⟨.int ((1 : Nat) : Int), rfl, 2, 1, rfl, rfl, nmul_l (by decide), 2, 1, rfl, rfl, trivial, .ref Fi, rfl, 3, Fi, _, rfl, by decide, SqL.of (s8 _ _ eF7), fun z => absurd z (by decide), fun _ => ⟨x0, x1, x2, x3, x4, x5, rfl, n, ho.same s8, fun H9 s9 => ?_⟩⟩
          refine ⟨_, _, .int _, .int _, int_shaped34 n, int_shaped34 n, false, neq_refl (int_lay34 n), iteF ?_⟩
          exact ⟨(x27.trans (extN_same s8)).trans (extN_same s9), (tb7.ext s8).ext s9, _, _, _, _, _, rfl⟩
      · rintro σ H3 ⟨x23, tb3, z1, z4, z5, z6, z7, rfl⟩
        refine ⟨.ref M, rfl, M, _, ds, rfl, (dE H3 x23).1, by simp, (dE H3 x23).2, d1, d2, d3, _, rfl, rfl, false, nF rfl, iteF ?_⟩
        exact ⟨ExtN.seq ((extN_same s02).trans x23) hS, tb3, _, _, _, _, _, _, _, rfl⟩
    · rintro σ H' ⟨hS, hT, y1, y2, y3, y4, y5, y6, y7, rfl⟩
      exact fin H'
end
/-! ### classes of errors, told apart -/
section
variable {K : PySem.W.Frag}
theorem cls_ok {O : Addr} (hd : PySem.W.hasDictIn K O = true) (ht : PySem.W.typeIn K (.ref O) = some (.type "type")) : ((PySem.W.clsIn K O).isSome && PySem.W.typeIn K (.ref O) == some (.type "type")) = true := by
  obtain ⟨cd, hc, _⟩ := PySem.W.any_some hd
  rw [hc, ht] <;> rfl
/-- an error of one class is none of another -/
theorem kit_no {N O : Addr} (hN : PySem.W.subIn K (.ref N) (.ref N) = some true) (hd : PySem.W.hasDictIn K O = true) (ht : PySem.W.typeIn K (.ref O) = some (.type "type")) (h : PySem.W.subIn K (.ref N) (.ref O) = some false) : PySem.W.kitOne K (.ref N) (.ref O) = some false := by
  have ne : ¬ (Value.ref N == Value.ref O) = true := fun q => by
    have e : N = O := Value.ref.inj (beq_iff_eq.mp q)
    subst e
    rw [hN] at h
    cases h
  have e2 := cls_ok hd ht
  unfold PySem.W.kitOne
  rw [if_neg ne]
  show (if ((PySem.W.clsIn K O).isSome && PySem.W.typeIn K (.ref O) == some (.type "type")) = true then PySem.W.subIn K (.ref N) (.ref O) else none) = some false
  rw [if_pos e2]
  exact h
end
section
variable {K : PySem.W.Frag}
theorem kit_self (N : Addr) : PySem.W.kitOne K (.ref N) (.ref N) = some true := by
  unfold PySem.W.kitOne
  rw [if_pos (beq_self_eq_true _)]
theorem kit_ve {N : Addr} (h : PySem.W.subIn K (.ref N) (.type "ValueError") = some true) : PySem.W.kitOne K (.ref N) (.type "ValueError") = some true := by
  have ne : ¬ (Value.ref N == Value.type "ValueError") = true := fun q => by
    have e : Value.ref N = Value.type "ValueError" := beq_iff_eq.mp q
    cases e
  unfold PySem.W.kitOne
  rw [if_neg ne]
  show (if PySem.W.kitMeta "ValueError" = true then PySem.W.subIn K (.ref N) (.type "ValueError") else none) = some true
  rw [if_pos (by decide +kernel)]
  exact h
end
/-- an error of the j-th class of eight -/
theorem kind8_of {K : PySem.W.Frag} {N c0 c1 c2 c3 c4 c5 c6 c7 : Addr} (j : Nat) (ec : ExcC K N) (ve : PySem.W.subIn K (.ref N) (.type "ValueError") = some true) (lt : j < 8)
    (h : ∀ i c, [c0, c1, c2, c3, c4, c5, c6, c7][i]? = some c → (i = j → c = N) ∧ (i ≠ j → PySem.W.kitOne K (.ref N) (.ref c) = some false)) : Kind8 K N [c0, c1, c2, c3, c4, c5, c6, c7] j := ⟨ec, kit_ve ve, lt, fun i c hc => by
  obtain ⟨h1, h2⟩ := h i c hc
  by_cases e : i = j
  · rw [h1 e, decide_eq_true e]
    exact kit_self N
  · rw [decide_eq_false e]
    exact h2 e⟩
theorem eight_at {c0 c1 c2 c3 c4 c5 c6 c7 : Addr} {Pr : Nat → Addr → Prop} (h0 : Pr 0 c0) (h1 : Pr 1 c1) (h2 : Pr 2 c2) (h3 : Pr 3 c3) (h4 : Pr 4 c4) (h5 : Pr 5 c5) (h6 : Pr 6 c6) (h7 : Pr 7 c7) : ∀ i c, [c0, c1, c2, c3, c4, c5, c6, c7][i]? = some c → Pr i c := fun i c hc => by
  match i, hc with
  | 0, hc => cases hc; exact h0
  | 1, hc => cases hc; exact h1
  | 2, hc => cases hc; exact h2
  | 3, hc => cases hc; exact h3
  | 4, hc => cases hc; exact h4
  | 5, hc => cases hc; exact h5
  | 6, hc => cases hc; exact h6
  | 7, hc => cases hc; exact h7
  | i + 8, hc => cases hc
theorem all_mk {l : PySem.W.OpenLaw} {w : World} {K : PySem.W.Frag} {h : Heap} {mg : Str → Option Value} {fa : Addr} {ts : List Addr} (X : K.In h) (G : h.Ns mainGlobals mg) (hfa : mg "law" = some (.ref fa)) (hT8 : ∀ Pt ∈ ts, h.get? Pt = some (PySem.W.tabObj #[]))
    {f_WORDS : Addr} {od_WORDS : Option Addr} {tk0_WORDS tk1_WORDS : Tok} {tn_WORDS : Nat} {ts_WORDS : Array (Option Value)}
    {tk_MOST_LEVELS : Tok}
    {tk_MOST_MEETINGS : Tok}
    {f_is_integer f_is_word f_is_base f_is_length f_are_levels f_is_tick f_is_period f_check_base f_check_levels f_check_tick f_word_at f_level_and_size f_path f_goes_in_front f_with_timer f_firing_order f_is_periodic f_check_periodic f_check_two f_check_several f_fires_again f_divisor_and_factor f_meetings f_is_ahead f_order_at f_times_first f_law_cell_at f_law_mixed f_law_source f_law_next f_law_base f_law_levels f_law_word f_law_bad_base f_law_bad_levels f_law_bad_tick f_law_bad_pair f_law_bad_list f_law_ask f_law_spoilt f_law_rows f_law : Addr}
    {od_is_integer an_is_integer od_is_word an_is_word od_is_base an_is_base od_is_length an_is_length od_are_levels an_are_levels od_is_tick an_is_tick od_is_period an_is_period od_check_base an_check_base od_check_levels an_check_levels od_check_tick an_check_tick od_word_at an_word_at od_level_and_size an_level_and_size od_path an_path od_goes_in_front an_goes_in_front od_with_timer an_with_timer od_firing_order an_firing_order od_is_periodic an_is_periodic od_check_periodic an_check_periodic od_check_two an_check_two od_check_several an_check_several od_fires_again an_fires_again od_divisor_and_factor an_divisor_and_factor od_meetings an_meetings od_is_ahead an_is_ahead od_order_at an_order_at od_times_first an_times_first od_law_cell_at an_law_cell_at od_law_mixed an_law_mixed od_law_source an_law_source od_law_next an_law_next od_law_base an_law_base od_law_levels an_law_levels od_law_word an_law_word od_law_bad_base an_law_bad_base od_law_bad_levels an_law_bad_levels od_law_bad_tick an_law_bad_tick od_law_bad_pair an_law_bad_pair od_law_bad_list an_law_bad_list od_law_ask an_law_ask od_law_spoilt an_law_spoilt od_law_rows an_law_rows od_law an_law : Option Addr}
    {sl_is_integer sl_is_word sl_is_base sl_is_length sl_are_levels sl_is_tick sl_is_period sl_check_base sl_check_levels sl_check_tick sl_word_at sl_level_and_size sl_path sl_goes_in_front sl_with_timer sl_firing_order sl_is_periodic sl_check_periodic sl_check_two sl_check_several sl_fires_again sl_divisor_and_factor sl_meetings sl_is_ahead sl_order_at sl_times_first sl_law_cell_at sl_law_mixed sl_law_source sl_law_next sl_law_base sl_law_levels sl_law_word sl_law_bad_base sl_law_bad_levels sl_law_bad_tick sl_law_bad_pair sl_law_bad_list sl_law_ask sl_law_spoilt sl_law_rows sl_law : Array (Option Value)}
    {oc_is_integer kV_is_integer dc_is_integer pm_is_integer cd_is_integer ct_is_integer oc_is_word kV_is_word dc_is_word pm_is_word cd_is_word ct_is_word oc_is_base kV_is_base dc_is_base pm_is_base cd_is_base ct_is_base oc_is_length kV_is_length dc_is_length pm_is_length cd_is_length ct_is_length oc_are_levels kV_are_levels dc_are_levels pm_are_levels cd_are_levels ct_are_levels oc_is_tick kV_is_tick dc_is_tick pm_is_tick cd_is_tick ct_is_tick oc_is_period kV_is_period dc_is_period pm_is_period cd_is_period ct_is_period oc_check_base kV_check_base dc_check_base pm_check_base cd_check_base ct_check_base oc_check_levels kV_check_levels dc_check_levels pm_check_levels cd_check_levels ct_check_levels oc_check_tick kV_check_tick dc_check_tick pm_check_tick cd_check_tick ct_check_tick oc_word_at kV_word_at dc_word_at pm_word_at cd_word_at ct_word_at oc_level_and_size kV_level_and_size dc_level_and_size pm_level_and_size cd_level_and_size ct_level_and_size oc_path kV_path dc_path pm_path cd_path ct_path oc_goes_in_front kV_goes_in_front dc_goes_in_front pm_goes_in_front cd_goes_in_front ct_goes_in_front oc_with_timer kV_with_timer dc_with_timer pm_with_timer cd_with_timer ct_with_timer oc_firing_order kV_firing_order dc_firing_order pm_firing_order cd_firing_order ct_firing_order oc_is_periodic kV_is_periodic dc_is_periodic pm_is_periodic cd_is_periodic ct_is_periodic oc_check_periodic kV_check_periodic dc_check_periodic pm_check_periodic cd_check_periodic ct_check_periodic oc_check_two kV_check_two dc_check_two pm_check_two cd_check_two ct_check_two oc_check_several kV_check_several dc_check_several pm_check_several cd_check_several ct_check_several oc_fires_again kV_fires_again dc_fires_again pm_fires_again cd_fires_again ct_fires_again oc_divisor_and_factor kV_divisor_and_factor dc_divisor_and_factor pm_divisor_and_factor cd_divisor_and_factor ct_divisor_and_factor oc_meetings kV_meetings dc_meetings pm_meetings cd_meetings ct_meetings oc_is_ahead kV_is_ahead dc_is_ahead pm_is_ahead cd_is_ahead ct_is_ahead oc_order_at kV_order_at dc_order_at pm_order_at cd_order_at ct_order_at oc_times_first kV_times_first dc_times_first pm_times_first cd_times_first ct_times_first oc_law_cell_at kV_law_cell_at dc_law_cell_at pm_law_cell_at cd_law_cell_at ct_law_cell_at oc_law_mixed kV_law_mixed dc_law_mixed pm_law_mixed cd_law_mixed ct_law_mixed oc_law_source kV_law_source dc_law_source pm_law_source cd_law_source ct_law_source oc_law_next kV_law_next dc_law_next pm_law_next cd_law_next ct_law_next oc_law_base kV_law_base dc_law_base pm_law_base cd_law_base ct_law_base oc_law_levels kV_law_levels dc_law_levels pm_law_levels cd_law_levels ct_law_levels oc_law_word kV_law_word dc_law_word pm_law_word cd_law_word ct_law_word oc_law_bad_base kV_law_bad_base dc_law_bad_base pm_law_bad_base cd_law_bad_base ct_law_bad_base oc_law_bad_levels kV_law_bad_levels dc_law_bad_levels pm_law_bad_levels cd_law_bad_levels ct_law_bad_levels oc_law_bad_tick kV_law_bad_tick dc_law_bad_tick pm_law_bad_tick cd_law_bad_tick ct_law_bad_tick oc_law_bad_pair kV_law_bad_pair dc_law_bad_pair pm_law_bad_pair cd_law_bad_pair ct_law_bad_pair oc_law_bad_list kV_law_bad_list dc_law_bad_list pm_law_bad_list cd_law_bad_list ct_law_bad_list oc_law_ask kV_law_ask dc_law_ask pm_law_ask cd_law_ask ct_law_ask oc_law_spoilt kV_law_spoilt dc_law_spoilt pm_law_spoilt cd_law_spoilt ct_law_spoilt oc_law_rows kV_law_rows dc_law_rows pm_law_rows cd_law_rows ct_law_rows oc_law kV_law dc_law pm_law ct_law : Value}
    {c_NoBase c_NoLevels c_NoTick c_NoPeriod c_TooMany c_TimerError c_NoTimer c_NoOrder c_NoSighting : Addr}
    {dT_is_tick : Addr} {tc_is_tick : Value} {td_is_tick : Option Addr} {tt_is_tick : Tok} {tn_is_tick : Nat} {ts_is_tick : Array (Option Value)}
    {dT_check_tick : Addr} {tc_check_tick : Value} {td_check_tick : Option Addr} {tt_check_tick : Tok} {tn_check_tick : Nat} {ts_check_tick : Array (Option Value)}
    {cc_law P_law : Addr} {dd_law : Option Addr} {vs_law : Array Value} {sv_law : Array (Option Value)}
    (a_is_integer : PySem.W.nsIn K mainGlobals "is_integer" = some (some (.ref f_is_integer)))
    (l_is_integer : K.lookup f_is_integer = some ⟨oc_is_integer, od_is_integer, .func (PySem.W.fnOf "is_integer" "is_integer" (defArgs s_is_integer) (defBody s_is_integer) (defScope s_is_integer) .none kV_is_integer dc_is_integer pm_is_integer an_is_integer cd_is_integer ct_is_integer), sl_is_integer⟩)
    (c_is_integer : PySem.W.codeIn K cd_is_integer "is_integer" = true) (k_is_integer : PySem.W.keepIn K (.ref f_is_integer) = true)
    (a_is_word : PySem.W.nsIn K mainGlobals "is_word" = some (some (.ref f_is_word)))
    (l_is_word : K.lookup f_is_word = some ⟨oc_is_word, od_is_word, .func (PySem.W.fnOf "is_word" "is_word" (defArgs s_is_word) (defBody s_is_word) (defScope s_is_word) .none kV_is_word dc_is_word pm_is_word an_is_word cd_is_word ct_is_word), sl_is_word⟩)
    (c_is_word : PySem.W.codeIn K cd_is_word "is_word" = true) (k_is_word : PySem.W.keepIn K (.ref f_is_word) = true)
    (a_is_base : PySem.W.nsIn K mainGlobals "is_base" = some (some (.ref f_is_base)))
    (l_is_base : K.lookup f_is_base = some ⟨oc_is_base, od_is_base, .func (PySem.W.fnOf "is_base" "is_base" (defArgs s_is_base) (defBody s_is_base) (defScope s_is_base) .none kV_is_base dc_is_base pm_is_base an_is_base cd_is_base ct_is_base), sl_is_base⟩)
    (c_is_base : PySem.W.codeIn K cd_is_base "is_base" = true) (k_is_base : PySem.W.keepIn K (.ref f_is_base) = true)
    (a_is_length : PySem.W.nsIn K mainGlobals "is_length" = some (some (.ref f_is_length)))
    (l_is_length : K.lookup f_is_length = some ⟨oc_is_length, od_is_length, .func (PySem.W.fnOf "is_length" "is_length" (defArgs s_is_length) (defBody s_is_length) (defScope s_is_length) .none kV_is_length dc_is_length pm_is_length an_is_length cd_is_length ct_is_length), sl_is_length⟩)
    (c_is_length : PySem.W.codeIn K cd_is_length "is_length" = true) (k_is_length : PySem.W.keepIn K (.ref f_is_length) = true)
    (a_are_levels : PySem.W.nsIn K mainGlobals "are_levels" = some (some (.ref f_are_levels)))
    (l_are_levels : K.lookup f_are_levels = some ⟨oc_are_levels, od_are_levels, .func (PySem.W.fnOf "are_levels" "are_levels" (defArgs s_are_levels) (defBody s_are_levels) (defScope s_are_levels) .none kV_are_levels dc_are_levels pm_are_levels an_are_levels cd_are_levels ct_are_levels), sl_are_levels⟩)
    (c_are_levels : PySem.W.codeIn K cd_are_levels "are_levels" = true) (k_are_levels : PySem.W.keepIn K (.ref f_are_levels) = true)
    (a_is_tick : PySem.W.nsIn K mainGlobals "is_tick" = some (some (.ref f_is_tick)))
    (l_is_tick : K.lookup f_is_tick = some ⟨oc_is_tick, od_is_tick, .func (PySem.W.fnOf "is_tick" "is_tick" (defArgs s_is_tick) (defBody s_is_tick) (defScope s_is_tick) (.ref dT_is_tick) kV_is_tick dc_is_tick pm_is_tick an_is_tick cd_is_tick ct_is_tick), sl_is_tick⟩)
    (t_is_tick : K.lookup dT_is_tick = some ⟨tc_is_tick, td_is_tick, .seq #[.int 0 tt_is_tick] tn_is_tick, ts_is_tick⟩)
    (c_is_tick : PySem.W.codeIn K cd_is_tick "is_tick" = true) (k_is_tick : PySem.W.keepIn K (.ref f_is_tick) = true)
    (a_is_period : PySem.W.nsIn K mainGlobals "is_period" = some (some (.ref f_is_period)))
    (l_is_period : K.lookup f_is_period = some ⟨oc_is_period, od_is_period, .func (PySem.W.fnOf "is_period" "is_period" (defArgs s_is_period) (defBody s_is_period) (defScope s_is_period) .none kV_is_period dc_is_period pm_is_period an_is_period cd_is_period ct_is_period), sl_is_period⟩)
    (c_is_period : PySem.W.codeIn K cd_is_period "is_period" = true) (k_is_period : PySem.W.keepIn K (.ref f_is_period) = true)
    (a_check_base : PySem.W.nsIn K mainGlobals "check_base" = some (some (.ref f_check_base)))
    (l_check_base : K.lookup f_check_base = some ⟨oc_check_base, od_check_base, .func (PySem.W.fnOf "check_base" "check_base" (defArgs s_check_base) (defBody s_check_base) (defScope s_check_base) .none kV_check_base dc_check_base pm_check_base an_check_base cd_check_base ct_check_base), sl_check_base⟩)
    (c_check_base : PySem.W.codeIn K cd_check_base "check_base" = true) (k_check_base : PySem.W.keepIn K (.ref f_check_base) = true)
    (a_check_levels : PySem.W.nsIn K mainGlobals "check_levels" = some (some (.ref f_check_levels)))
    (l_check_levels : K.lookup f_check_levels = some ⟨oc_check_levels, od_check_levels, .func (PySem.W.fnOf "check_levels" "check_levels" (defArgs s_check_levels) (defBody s_check_levels) (defScope s_check_levels) .none kV_check_levels dc_check_levels pm_check_levels an_check_levels cd_check_levels ct_check_levels), sl_check_levels⟩)
    (c_check_levels : PySem.W.codeIn K cd_check_levels "check_levels" = true) (k_check_levels : PySem.W.keepIn K (.ref f_check_levels) = true)
    (a_check_tick : PySem.W.nsIn K mainGlobals "check_tick" = some (some (.ref f_check_tick)))
    (l_check_tick : K.lookup f_check_tick = some ⟨oc_check_tick, od_check_tick, .func (PySem.W.fnOf "check_tick" "check_tick" (defArgs s_check_tick) (defBody s_check_tick) (defScope s_check_tick) (.ref dT_check_tick) kV_check_tick dc_check_tick pm_check_tick an_check_tick cd_check_tick ct_check_tick), sl_check_tick⟩)
    (t_check_tick : K.lookup dT_check_tick = some ⟨tc_check_tick, td_check_tick, .seq #[.int 0 tt_check_tick] tn_check_tick, ts_check_tick⟩)
    (c_check_tick : PySem.W.codeIn K cd_check_tick "check_tick" = true) (k_check_tick : PySem.W.keepIn K (.ref f_check_tick) = true)
    (a_word_at : PySem.W.nsIn K mainGlobals "word_at" = some (some (.ref f_word_at)))
    (l_word_at : K.lookup f_word_at = some ⟨oc_word_at, od_word_at, .func (PySem.W.fnOf "word_at" "word_at" (defArgs s_word_at) (defBody s_word_at) (defScope s_word_at) .none kV_word_at dc_word_at pm_word_at an_word_at cd_word_at ct_word_at), sl_word_at⟩)
    (c_word_at : PySem.W.codeIn K cd_word_at "word_at" = true) (k_word_at : PySem.W.keepIn K (.ref f_word_at) = true)
    (a_level_and_size : PySem.W.nsIn K mainGlobals "level_and_size" = some (some (.ref f_level_and_size)))
    (l_level_and_size : K.lookup f_level_and_size = some ⟨oc_level_and_size, od_level_and_size, .func (PySem.W.fnOf "level_and_size" "level_and_size" (defArgs s_level_and_size) (defBody s_level_and_size) (defScope s_level_and_size) .none kV_level_and_size dc_level_and_size pm_level_and_size an_level_and_size cd_level_and_size ct_level_and_size), sl_level_and_size⟩)
    (c_level_and_size : PySem.W.codeIn K cd_level_and_size "level_and_size" = true) (k_level_and_size : PySem.W.keepIn K (.ref f_level_and_size) = true)
    (a_path : PySem.W.nsIn K mainGlobals "path" = some (some (.ref f_path)))
    (l_path : K.lookup f_path = some ⟨oc_path, od_path, .func (PySem.W.fnOf "path" "path" (defArgs s_path) (defBody s_path) (defScope s_path) .none kV_path dc_path pm_path an_path cd_path ct_path), sl_path⟩)
    (c_path : PySem.W.codeIn K cd_path "path" = true) (k_path : PySem.W.keepIn K (.ref f_path) = true)
    (a_goes_in_front : PySem.W.nsIn K mainGlobals "goes_in_front" = some (some (.ref f_goes_in_front)))
    (l_goes_in_front : K.lookup f_goes_in_front = some ⟨oc_goes_in_front, od_goes_in_front, .func (PySem.W.fnOf "goes_in_front" "goes_in_front" (defArgs s_goes_in_front) (defBody s_goes_in_front) (defScope s_goes_in_front) .none kV_goes_in_front dc_goes_in_front pm_goes_in_front an_goes_in_front cd_goes_in_front ct_goes_in_front), sl_goes_in_front⟩)
    (c_goes_in_front : PySem.W.codeIn K cd_goes_in_front "goes_in_front" = true) (k_goes_in_front : PySem.W.keepIn K (.ref f_goes_in_front) = true)
    (a_with_timer : PySem.W.nsIn K mainGlobals "with_timer" = some (some (.ref f_with_timer)))
    (l_with_timer : K.lookup f_with_timer = some ⟨oc_with_timer, od_with_timer, .func (PySem.W.fnOf "with_timer" "with_timer" (defArgs s_with_timer) (defBody s_with_timer) (defScope s_with_timer) .none kV_with_timer dc_with_timer pm_with_timer an_with_timer cd_with_timer ct_with_timer), sl_with_timer⟩)
    (c_with_timer : PySem.W.codeIn K cd_with_timer "with_timer" = true) (k_with_timer : PySem.W.keepIn K (.ref f_with_timer) = true)
    (a_firing_order : PySem.W.nsIn K mainGlobals "firing_order" = some (some (.ref f_firing_order)))
    (l_firing_order : K.lookup f_firing_order = some ⟨oc_firing_order, od_firing_order, .func (PySem.W.fnOf "firing_order" "firing_order" (defArgs s_firing_order) (defBody s_firing_order) (defScope s_firing_order) .none kV_firing_order dc_firing_order pm_firing_order an_firing_order cd_firing_order ct_firing_order), sl_firing_order⟩)
    (c_firing_order : PySem.W.codeIn K cd_firing_order "firing_order" = true) (k_firing_order : PySem.W.keepIn K (.ref f_firing_order) = true)
    (a_is_periodic : PySem.W.nsIn K mainGlobals "is_periodic" = some (some (.ref f_is_periodic)))
    (l_is_periodic : K.lookup f_is_periodic = some ⟨oc_is_periodic, od_is_periodic, .func (PySem.W.fnOf "is_periodic" "is_periodic" (defArgs s_is_periodic) (defBody s_is_periodic) (defScope s_is_periodic) .none kV_is_periodic dc_is_periodic pm_is_periodic an_is_periodic cd_is_periodic ct_is_periodic), sl_is_periodic⟩)
    (c_is_periodic : PySem.W.codeIn K cd_is_periodic "is_periodic" = true) (k_is_periodic : PySem.W.keepIn K (.ref f_is_periodic) = true)
    (a_check_periodic : PySem.W.nsIn K mainGlobals "check_periodic" = some (some (.ref f_check_periodic)))
    (l_check_periodic : K.lookup f_check_periodic = some ⟨oc_check_periodic, od_check_periodic, .func (PySem.W.fnOf "check_periodic" "check_periodic" (defArgs s_check_periodic) (defBody s_check_periodic) (defScope s_check_periodic) .none kV_check_periodic dc_check_periodic pm_check_periodic an_check_periodic cd_check_periodic ct_check_periodic), sl_check_periodic⟩)
    (c_check_periodic : PySem.W.codeIn K cd_check_periodic "check_periodic" = true) (k_check_periodic : PySem.W.keepIn K (.ref f_check_periodic) = true)
    (a_check_two : PySem.W.nsIn K mainGlobals "check_two" = some (some (.ref f_check_two)))
    (l_check_two : K.lookup f_check_two = some ⟨oc_check_two, od_check_two, .func (PySem.W.fnOf "check_two" "check_two" (defArgs s_check_two) (defBody s_check_two) (defScope s_check_two) .none kV_check_two dc_check_two pm_check_two an_check_two cd_check_two ct_check_two), sl_check_two⟩)
    (c_check_two : PySem.W.codeIn K cd_check_two "check_two" = true) (k_check_two : PySem.W.keepIn K (.ref f_check_two) = true)
    (a_check_several : PySem.W.nsIn K mainGlobals "check_several" = some (some (.ref f_check_several)))
    (l_check_several : K.lookup f_check_several = some ⟨oc_check_several, od_check_several, .func (PySem.W.fnOf "check_several" "check_several" (defArgs s_check_several) (defBody s_check_several) (defScope s_check_several) .none kV_check_several dc_check_several pm_check_several an_check_several cd_check_several ct_check_several), sl_check_several⟩)
    (c_check_several : PySem.W.codeIn K cd_check_several "check_several" = true) (k_check_several : PySem.W.keepIn K (.ref f_check_several) = true)
    (a_fires_again : PySem.W.nsIn K mainGlobals "fires_again" = some (some (.ref f_fires_again)))
    (l_fires_again : K.lookup f_fires_again = some ⟨oc_fires_again, od_fires_again, .func (PySem.W.fnOf "fires_again" "fires_again" (defArgs s_fires_again) (defBody s_fires_again) (defScope s_fires_again) .none kV_fires_again dc_fires_again pm_fires_again an_fires_again cd_fires_again ct_fires_again), sl_fires_again⟩)
    (c_fires_again : PySem.W.codeIn K cd_fires_again "fires_again" = true) (k_fires_again : PySem.W.keepIn K (.ref f_fires_again) = true)
    (a_divisor_and_factor : PySem.W.nsIn K mainGlobals "divisor_and_factor" = some (some (.ref f_divisor_and_factor)))
    (l_divisor_and_factor : K.lookup f_divisor_and_factor = some ⟨oc_divisor_and_factor, od_divisor_and_factor, .func (PySem.W.fnOf "divisor_and_factor" "divisor_and_factor" (defArgs s_divisor_and_factor) (defBody s_divisor_and_factor) (defScope s_divisor_and_factor) .none kV_divisor_and_factor dc_divisor_and_factor pm_divisor_and_factor an_divisor_and_factor cd_divisor_and_factor ct_divisor_and_factor), sl_divisor_and_factor⟩)
    (c_divisor_and_factor : PySem.W.codeIn K cd_divisor_and_factor "divisor_and_factor" = true) (k_divisor_and_factor : PySem.W.keepIn K (.ref f_divisor_and_factor) = true)
    (a_meetings : PySem.W.nsIn K mainGlobals "meetings" = some (some (.ref f_meetings)))
    (l_meetings : K.lookup f_meetings = some ⟨oc_meetings, od_meetings, .func (PySem.W.fnOf "meetings" "meetings" (defArgs s_meetings) (defBody s_meetings) (defScope s_meetings) .none kV_meetings dc_meetings pm_meetings an_meetings cd_meetings ct_meetings), sl_meetings⟩)
    (c_meetings : PySem.W.codeIn K cd_meetings "meetings" = true) (k_meetings : PySem.W.keepIn K (.ref f_meetings) = true)
    (a_is_ahead : PySem.W.nsIn K mainGlobals "is_ahead" = some (some (.ref f_is_ahead)))
    (l_is_ahead : K.lookup f_is_ahead = some ⟨oc_is_ahead, od_is_ahead, .func (PySem.W.fnOf "is_ahead" "is_ahead" (defArgs s_is_ahead) (defBody s_is_ahead) (defScope s_is_ahead) .none kV_is_ahead dc_is_ahead pm_is_ahead an_is_ahead cd_is_ahead ct_is_ahead), sl_is_ahead⟩)
    (c_is_ahead : PySem.W.codeIn K cd_is_ahead "is_ahead" = true) (k_is_ahead : PySem.W.keepIn K (.ref f_is_ahead) = true)
    (a_order_at : PySem.W.nsIn K mainGlobals "order_at" = some (some (.ref f_order_at)))
    (l_order_at : K.lookup f_order_at = some ⟨oc_order_at, od_order_at, .func (PySem.W.fnOf "order_at" "order_at" (defArgs s_order_at) (defBody s_order_at) (defScope s_order_at) .none kV_order_at dc_order_at pm_order_at an_order_at cd_order_at ct_order_at), sl_order_at⟩)
    (c_order_at : PySem.W.codeIn K cd_order_at "order_at" = true) (k_order_at : PySem.W.keepIn K (.ref f_order_at) = true)
    (a_times_first : PySem.W.nsIn K mainGlobals "times_first" = some (some (.ref f_times_first)))
    (l_times_first : K.lookup f_times_first = some ⟨oc_times_first, od_times_first, .func (PySem.W.fnOf "times_first" "times_first" (defArgs s_times_first) (defBody s_times_first) (defScope s_times_first) .none kV_times_first dc_times_first pm_times_first an_times_first cd_times_first ct_times_first), sl_times_first⟩)
    (c_times_first : PySem.W.codeIn K cd_times_first "times_first" = true) (k_times_first : PySem.W.keepIn K (.ref f_times_first) = true)
    (a_law_cell_at : PySem.W.nsIn K mainGlobals "_law_cell_at" = some (some (.ref f_law_cell_at)))
    (l_law_cell_at : K.lookup f_law_cell_at = some ⟨oc_law_cell_at, od_law_cell_at, .func (PySem.W.fnOf "_law_cell_at" "_law_cell_at" (defArgs s__law_cell_at) (defBody s__law_cell_at) (defScope s__law_cell_at) .none kV_law_cell_at dc_law_cell_at pm_law_cell_at an_law_cell_at cd_law_cell_at ct_law_cell_at), sl_law_cell_at⟩)
    (c_law_cell_at : PySem.W.codeIn K cd_law_cell_at "_law_cell_at" = true) (k_law_cell_at : PySem.W.keepIn K (.ref f_law_cell_at) = true)
    (a_law_mixed : PySem.W.nsIn K mainGlobals "_law_mixed" = some (some (.ref f_law_mixed)))
    (l_law_mixed : K.lookup f_law_mixed = some ⟨oc_law_mixed, od_law_mixed, .func (PySem.W.fnOf "_law_mixed" "_law_mixed" (defArgs s__law_mixed) (defBody s__law_mixed) (defScope s__law_mixed) .none kV_law_mixed dc_law_mixed pm_law_mixed an_law_mixed cd_law_mixed ct_law_mixed), sl_law_mixed⟩)
    (c_law_mixed : PySem.W.codeIn K cd_law_mixed "_law_mixed" = true) (k_law_mixed : PySem.W.keepIn K (.ref f_law_mixed) = true)
    (a_law_source : PySem.W.nsIn K mainGlobals "_law_source" = some (some (.ref f_law_source)))
    (l_law_source : K.lookup f_law_source = some ⟨oc_law_source, od_law_source, .func (PySem.W.fnOf "_law_source" "_law_source" (defArgs s__law_source) (defBody s__law_source) (defScope s__law_source) .none kV_law_source dc_law_source pm_law_source an_law_source cd_law_source ct_law_source), sl_law_source⟩)
    (c_law_source : PySem.W.codeIn K cd_law_source "_law_source" = true) (k_law_source : PySem.W.keepIn K (.ref f_law_source) = true)
    (a_law_next : PySem.W.nsIn K mainGlobals "_law_next" = some (some (.ref f_law_next)))
    (l_law_next : K.lookup f_law_next = some ⟨oc_law_next, od_law_next, .func (PySem.W.fnOf "_law_next" "_law_next" (defArgs s__law_next) (defBody s__law_next) (defScope s__law_next) .none kV_law_next dc_law_next pm_law_next an_law_next cd_law_next ct_law_next), sl_law_next⟩)
    (c_law_next : PySem.W.codeIn K cd_law_next "_law_next" = true) (k_law_next : PySem.W.keepIn K (.ref f_law_next) = true)
    (a_law_base : PySem.W.nsIn K mainGlobals "_law_base" = some (some (.ref f_law_base)))
    (l_law_base : K.lookup f_law_base = some ⟨oc_law_base, od_law_base, .func (PySem.W.fnOf "_law_base" "_law_base" (defArgs s__law_base) (defBody s__law_base) (defScope s__law_base) .none kV_law_base dc_law_base pm_law_base an_law_base cd_law_base ct_law_base), sl_law_base⟩)
    (c_law_base : PySem.W.codeIn K cd_law_base "_law_base" = true) (k_law_base : PySem.W.keepIn K (.ref f_law_base) = true)
    (a_law_levels : PySem.W.nsIn K mainGlobals "_law_levels" = some (some (.ref f_law_levels)))
    (l_law_levels : K.lookup f_law_levels = some ⟨oc_law_levels, od_law_levels, .func (PySem.W.fnOf "_law_levels" "_law_levels" (defArgs s__law_levels) (defBody s__law_levels) (defScope s__law_levels) .none kV_law_levels dc_law_levels pm_law_levels an_law_levels cd_law_levels ct_law_levels), sl_law_levels⟩)
    (c_law_levels : PySem.W.codeIn K cd_law_levels "_law_levels" = true) (k_law_levels : PySem.W.keepIn K (.ref f_law_levels) = true)
    (a_law_word : PySem.W.nsIn K mainGlobals "_law_word" = some (some (.ref f_law_word)))
    (l_law_word : K.lookup f_law_word = some ⟨oc_law_word, od_law_word, .func (PySem.W.fnOf "_law_word" "_law_word" (defArgs s__law_word) (defBody s__law_word) (defScope s__law_word) .none kV_law_word dc_law_word pm_law_word an_law_word cd_law_word ct_law_word), sl_law_word⟩)
    (c_law_word : PySem.W.codeIn K cd_law_word "_law_word" = true) (k_law_word : PySem.W.keepIn K (.ref f_law_word) = true)
    (a_law_bad_base : PySem.W.nsIn K mainGlobals "_law_bad_base" = some (some (.ref f_law_bad_base)))
    (l_law_bad_base : K.lookup f_law_bad_base = some ⟨oc_law_bad_base, od_law_bad_base, .func (PySem.W.fnOf "_law_bad_base" "_law_bad_base" (defArgs s__law_bad_base) (defBody s__law_bad_base) (defScope s__law_bad_base) .none kV_law_bad_base dc_law_bad_base pm_law_bad_base an_law_bad_base cd_law_bad_base ct_law_bad_base), sl_law_bad_base⟩)
    (c_law_bad_base : PySem.W.codeIn K cd_law_bad_base "_law_bad_base" = true) (k_law_bad_base : PySem.W.keepIn K (.ref f_law_bad_base) = true)
    (a_law_bad_levels : PySem.W.nsIn K mainGlobals "_law_bad_levels" = some (some (.ref f_law_bad_levels)))
    (l_law_bad_levels : K.lookup f_law_bad_levels = some ⟨oc_law_bad_levels, od_law_bad_levels, .func (PySem.W.fnOf "_law_bad_levels" "_law_bad_levels" (defArgs s__law_bad_levels) (defBody s__law_bad_levels) (defScope s__law_bad_levels) .none kV_law_bad_levels dc_law_bad_levels pm_law_bad_levels an_law_bad_levels cd_law_bad_levels ct_law_bad_levels), sl_law_bad_levels⟩)
    (c_law_bad_levels : PySem.W.codeIn K cd_law_bad_levels "_law_bad_levels" = true) (k_law_bad_levels : PySem.W.keepIn K (.ref f_law_bad_levels) = true)
    (a_law_bad_tick : PySem.W.nsIn K mainGlobals "_law_bad_tick" = some (some (.ref f_law_bad_tick)))
    (l_law_bad_tick : K.lookup f_law_bad_tick = some ⟨oc_law_bad_tick, od_law_bad_tick, .func (PySem.W.fnOf "_law_bad_tick" "_law_bad_tick" (defArgs s__law_bad_tick) (defBody s__law_bad_tick) (defScope s__law_bad_tick) .none kV_law_bad_tick dc_law_bad_tick pm_law_bad_tick an_law_bad_tick cd_law_bad_tick ct_law_bad_tick), sl_law_bad_tick⟩)
    (c_law_bad_tick : PySem.W.codeIn K cd_law_bad_tick "_law_bad_tick" = true) (k_law_bad_tick : PySem.W.keepIn K (.ref f_law_bad_tick) = true)
    (a_law_bad_pair : PySem.W.nsIn K mainGlobals "_law_bad_pair" = some (some (.ref f_law_bad_pair)))
    (l_law_bad_pair : K.lookup f_law_bad_pair = some ⟨oc_law_bad_pair, od_law_bad_pair, .func (PySem.W.fnOf "_law_bad_pair" "_law_bad_pair" (defArgs s__law_bad_pair) (defBody s__law_bad_pair) (defScope s__law_bad_pair) .none kV_law_bad_pair dc_law_bad_pair pm_law_bad_pair an_law_bad_pair cd_law_bad_pair ct_law_bad_pair), sl_law_bad_pair⟩)
    (c_law_bad_pair : PySem.W.codeIn K cd_law_bad_pair "_law_bad_pair" = true) (k_law_bad_pair : PySem.W.keepIn K (.ref f_law_bad_pair) = true)
    (a_law_bad_list : PySem.W.nsIn K mainGlobals "_law_bad_list" = some (some (.ref f_law_bad_list)))
    (l_law_bad_list : K.lookup f_law_bad_list = some ⟨oc_law_bad_list, od_law_bad_list, .func (PySem.W.fnOf "_law_bad_list" "_law_bad_list" (defArgs s__law_bad_list) (defBody s__law_bad_list) (defScope s__law_bad_list) .none kV_law_bad_list dc_law_bad_list pm_law_bad_list an_law_bad_list cd_law_bad_list ct_law_bad_list), sl_law_bad_list⟩)
    (c_law_bad_list : PySem.W.codeIn K cd_law_bad_list "_law_bad_list" = true) (k_law_bad_list : PySem.W.keepIn K (.ref f_law_bad_list) = true)
    (a_law_ask : PySem.W.nsIn K mainGlobals "_law_ask" = some (some (.ref f_law_ask)))
    (l_law_ask : K.lookup f_law_ask = some ⟨oc_law_ask, od_law_ask, .func (PySem.W.fnOf "_law_ask" "_law_ask" (defArgs s__law_ask) (defBody s__law_ask) (defScope s__law_ask) .none kV_law_ask dc_law_ask pm_law_ask an_law_ask cd_law_ask ct_law_ask), sl_law_ask⟩)
    (c_law_ask : PySem.W.codeIn K cd_law_ask "_law_ask" = true) (k_law_ask : PySem.W.keepIn K (.ref f_law_ask) = true)
    (a_law_spoilt : PySem.W.nsIn K mainGlobals "_law_spoilt" = some (some (.ref f_law_spoilt)))
    (l_law_spoilt : K.lookup f_law_spoilt = some ⟨oc_law_spoilt, od_law_spoilt, .func (PySem.W.fnOf "_law_spoilt" "_law_spoilt" (defArgs s__law_spoilt) (defBody s__law_spoilt) (defScope s__law_spoilt) .none kV_law_spoilt dc_law_spoilt pm_law_spoilt an_law_spoilt cd_law_spoilt ct_law_spoilt), sl_law_spoilt⟩)
    (c_law_spoilt : PySem.W.codeIn K cd_law_spoilt "_law_spoilt" = true) (k_law_spoilt : PySem.W.keepIn K (.ref f_law_spoilt) = true)
    (a_law_rows : PySem.W.nsIn K mainGlobals "_law_rows" = some (some (.ref f_law_rows)))
    (l_law_rows : K.lookup f_law_rows = some ⟨oc_law_rows, od_law_rows, .func (PySem.W.fnOf "_law_rows" "_law_rows" (defArgs s__law_rows) (defBody s__law_rows) (defScope s__law_rows) .none kV_law_rows dc_law_rows pm_law_rows an_law_rows cd_law_rows ct_law_rows), sl_law_rows⟩)
    (c_law_rows : PySem.W.codeIn K cd_law_rows "_law_rows" = true) (k_law_rows : PySem.W.keepIn K (.ref f_law_rows) = true)
    (a_law : PySem.W.nsIn K mainGlobals "law" = some (some (.ref f_law)))
    (l_law : K.lookup f_law = some ⟨oc_law, od_law, .func (PySem.W.fnOf "law" "law" (defArgs s_law) (defBody s_law) (defScope s_law) .none kV_law dc_law pm_law an_law (.ref cc_law) ct_law), sl_law⟩)
    (c_law : PySem.W.codeIn K (.ref cc_law) "law" = true) (k_law : PySem.W.keepIn K (.ref f_law) = true)
    (lc_law : K.lookup cc_law = some ⟨.type "code", dd_law, .fields vs_law, sv_law⟩)
    (lp_law : vs_law[11]? = some (.ref P_law))
    (ch_law : PySem.W.codeHdIn K cc_law P_law = true)
    (nt_law : K.lookup P_law = none)
    (tm_law : P_law ∈ ts)
    (a_NoBase : PySem.W.nsIn K mainGlobals "NoBase" = some (some (.ref c_NoBase)))
    (a_NoLevels : PySem.W.nsIn K mainGlobals "NoLevels" = some (some (.ref c_NoLevels)))
    (a_NoTick : PySem.W.nsIn K mainGlobals "NoTick" = some (some (.ref c_NoTick)))
    (a_NoPeriod : PySem.W.nsIn K mainGlobals "NoPeriod" = some (some (.ref c_NoPeriod)))
    (a_TooMany : PySem.W.nsIn K mainGlobals "TooMany" = some (some (.ref c_TooMany)))
    (a_TimerError : PySem.W.nsIn K mainGlobals "TimerError" = some (some (.ref c_TimerError)))
    (a_NoTimer : PySem.W.nsIn K mainGlobals "NoTimer" = some (some (.ref c_NoTimer)))
    (a_NoOrder : PySem.W.nsIn K mainGlobals "NoOrder" = some (some (.ref c_NoOrder)))
    (a_NoSighting : PySem.W.nsIn K mainGlobals "NoSighting" = some (some (.ref c_NoSighting)))
    (x_NoBase : PySem.W.excIn K c_NoBase [.type "ValueError", .type "Exception", .type "BaseException", .type "object"] "ValueError.__new__" = true)
    (kp_NoBase : PySem.W.keepIn K (.ref c_NoBase) = true)
    (bx_NoBase : PySem.W.subIn K (.ref c_NoBase) (.type "BaseException") = some true)
    (tx_NoBase : PySem.W.typeIn K (.ref c_NoBase) = some (.type "type"))
    (ga_NoBase : PySem.W.findIn K (.ref c_NoBase) "__getattribute__" = some (some (.builtin "BaseException.__getattribute__")))
    (gg_NoBase : PySem.W.findIn K (.ref c_NoBase) "__getattr__" = some none)
    (hx_NoBase : PySem.W.hasDictIn K c_NoBase = true)
    (cc_NoBase : PySem.W.findIn K (.ref c_NoBase) "__class__" = some (some (.builtin "object.__class__")))
    (mo_NoBase : PySem.W.mroIn K c_NoBase (.type "object") = some true)
    (ss_NoBase : PySem.W.subIn K (.ref c_NoBase) (.ref c_NoBase) = some true)
    (x_NoLevels : PySem.W.excIn K c_NoLevels [.type "ValueError", .type "Exception", .type "BaseException", .type "object"] "ValueError.__new__" = true)
    (kp_NoLevels : PySem.W.keepIn K (.ref c_NoLevels) = true)
    (bx_NoLevels : PySem.W.subIn K (.ref c_NoLevels) (.type "BaseException") = some true)
    (tx_NoLevels : PySem.W.typeIn K (.ref c_NoLevels) = some (.type "type"))
    (ga_NoLevels : PySem.W.findIn K (.ref c_NoLevels) "__getattribute__" = some (some (.builtin "BaseException.__getattribute__")))
    (gg_NoLevels : PySem.W.findIn K (.ref c_NoLevels) "__getattr__" = some none)
    (hx_NoLevels : PySem.W.hasDictIn K c_NoLevels = true)
    (cc_NoLevels : PySem.W.findIn K (.ref c_NoLevels) "__class__" = some (some (.builtin "object.__class__")))
    (mo_NoLevels : PySem.W.mroIn K c_NoLevels (.type "object") = some true)
    (ss_NoLevels : PySem.W.subIn K (.ref c_NoLevels) (.ref c_NoLevels) = some true)
    (x_NoTick : PySem.W.excIn K c_NoTick [.type "ValueError", .type "Exception", .type "BaseException", .type "object"] "ValueError.__new__" = true)
    (kp_NoTick : PySem.W.keepIn K (.ref c_NoTick) = true)
    (bx_NoTick : PySem.W.subIn K (.ref c_NoTick) (.type "BaseException") = some true)
    (tx_NoTick : PySem.W.typeIn K (.ref c_NoTick) = some (.type "type"))
    (ga_NoTick : PySem.W.findIn K (.ref c_NoTick) "__getattribute__" = some (some (.builtin "BaseException.__getattribute__")))
    (gg_NoTick : PySem.W.findIn K (.ref c_NoTick) "__getattr__" = some none)
    (hx_NoTick : PySem.W.hasDictIn K c_NoTick = true)
    (cc_NoTick : PySem.W.findIn K (.ref c_NoTick) "__class__" = some (some (.builtin "object.__class__")))
    (mo_NoTick : PySem.W.mroIn K c_NoTick (.type "object") = some true)
    (ss_NoTick : PySem.W.subIn K (.ref c_NoTick) (.ref c_NoTick) = some true)
    (x_NoPeriod : PySem.W.excIn K c_NoPeriod [.type "ValueError", .type "Exception", .type "BaseException", .type "object"] "ValueError.__new__" = true)
    (kp_NoPeriod : PySem.W.keepIn K (.ref c_NoPeriod) = true)
    (bx_NoPeriod : PySem.W.subIn K (.ref c_NoPeriod) (.type "BaseException") = some true)
    (tx_NoPeriod : PySem.W.typeIn K (.ref c_NoPeriod) = some (.type "type"))
    (ga_NoPeriod : PySem.W.findIn K (.ref c_NoPeriod) "__getattribute__" = some (some (.builtin "BaseException.__getattribute__")))
    (gg_NoPeriod : PySem.W.findIn K (.ref c_NoPeriod) "__getattr__" = some none)
    (hx_NoPeriod : PySem.W.hasDictIn K c_NoPeriod = true)
    (cc_NoPeriod : PySem.W.findIn K (.ref c_NoPeriod) "__class__" = some (some (.builtin "object.__class__")))
    (mo_NoPeriod : PySem.W.mroIn K c_NoPeriod (.type "object") = some true)
    (ss_NoPeriod : PySem.W.subIn K (.ref c_NoPeriod) (.ref c_NoPeriod) = some true)
    (x_TooMany : PySem.W.excIn K c_TooMany [.type "ValueError", .type "Exception", .type "BaseException", .type "object"] "ValueError.__new__" = true)
    (kp_TooMany : PySem.W.keepIn K (.ref c_TooMany) = true)
    (bx_TooMany : PySem.W.subIn K (.ref c_TooMany) (.type "BaseException") = some true)
    (tx_TooMany : PySem.W.typeIn K (.ref c_TooMany) = some (.type "type"))
    (ga_TooMany : PySem.W.findIn K (.ref c_TooMany) "__getattribute__" = some (some (.builtin "BaseException.__getattribute__")))
    (gg_TooMany : PySem.W.findIn K (.ref c_TooMany) "__getattr__" = some none)
    (hx_TooMany : PySem.W.hasDictIn K c_TooMany = true)
    (cc_TooMany : PySem.W.findIn K (.ref c_TooMany) "__class__" = some (some (.builtin "object.__class__")))
    (mo_TooMany : PySem.W.mroIn K c_TooMany (.type "object") = some true)
    (ss_TooMany : PySem.W.subIn K (.ref c_TooMany) (.ref c_TooMany) = some true)
    (sp_get : PySem.W.specialIn K (.builtin "object.__class__") "__get__" = some (some (.builtin "getset_descriptor.__get__")))
    (tk_cls : PySem.W.takesIn K (.builtin "object.__class__") = some true)
    (bx_TimerError : PySem.W.subIn K (.ref c_TimerError) (.type "BaseException") = some true)
    (ve_NoBase : PySem.W.subIn K (.ref c_NoBase) (.type "ValueError") = some true)
    (ss_NoBase_NoLevels : PySem.W.subIn K (.ref c_NoBase) (.ref c_NoLevels) = some false)
    (ss_NoBase_NoTick : PySem.W.subIn K (.ref c_NoBase) (.ref c_NoTick) = some false)
    (ss_NoBase_NoPeriod : PySem.W.subIn K (.ref c_NoBase) (.ref c_NoPeriod) = some false)
    (ss_NoBase_TooMany : PySem.W.subIn K (.ref c_NoBase) (.ref c_TooMany) = some false)
    (ve_NoLevels : PySem.W.subIn K (.ref c_NoLevels) (.type "ValueError") = some true)
    (ss_NoLevels_NoBase : PySem.W.subIn K (.ref c_NoLevels) (.ref c_NoBase) = some false)
    (ss_NoLevels_NoTick : PySem.W.subIn K (.ref c_NoLevels) (.ref c_NoTick) = some false)
    (ss_NoLevels_NoPeriod : PySem.W.subIn K (.ref c_NoLevels) (.ref c_NoPeriod) = some false)
    (ss_NoLevels_TooMany : PySem.W.subIn K (.ref c_NoLevels) (.ref c_TooMany) = some false)
    (ve_NoTick : PySem.W.subIn K (.ref c_NoTick) (.type "ValueError") = some true)
    (ss_NoTick_NoBase : PySem.W.subIn K (.ref c_NoTick) (.ref c_NoBase) = some false)
    (ss_NoTick_NoLevels : PySem.W.subIn K (.ref c_NoTick) (.ref c_NoLevels) = some false)
    (ss_NoTick_NoPeriod : PySem.W.subIn K (.ref c_NoTick) (.ref c_NoPeriod) = some false)
    (ss_NoTick_TooMany : PySem.W.subIn K (.ref c_NoTick) (.ref c_TooMany) = some false)
    (ve_NoPeriod : PySem.W.subIn K (.ref c_NoPeriod) (.type "ValueError") = some true)
    (ss_NoPeriod_NoBase : PySem.W.subIn K (.ref c_NoPeriod) (.ref c_NoBase) = some false)
    (ss_NoPeriod_NoLevels : PySem.W.subIn K (.ref c_NoPeriod) (.ref c_NoLevels) = some false)
    (ss_NoPeriod_NoTick : PySem.W.subIn K (.ref c_NoPeriod) (.ref c_NoTick) = some false)
    (ss_NoPeriod_TooMany : PySem.W.subIn K (.ref c_NoPeriod) (.ref c_TooMany) = some false)
    (ve_TooMany : PySem.W.subIn K (.ref c_TooMany) (.type "ValueError") = some true)
    (ss_TooMany_NoBase : PySem.W.subIn K (.ref c_TooMany) (.ref c_NoBase) = some false)
    (ss_TooMany_NoLevels : PySem.W.subIn K (.ref c_TooMany) (.ref c_NoLevels) = some false)
    (ss_TooMany_NoTick : PySem.W.subIn K (.ref c_TooMany) (.ref c_NoTick) = some false)
    (ss_TooMany_NoPeriod : PySem.W.subIn K (.ref c_TooMany) (.ref c_NoPeriod) = some false)
    (hx_TimerError : PySem.W.hasDictIn K c_TimerError = true)
    (tx_TimerError : PySem.W.typeIn K (.ref c_TimerError) = some (.type "type"))
    (ss_NoBase_TimerError : PySem.W.subIn K (.ref c_NoBase) (.ref c_TimerError) = some true)
    (ss_NoLevels_TimerError : PySem.W.subIn K (.ref c_NoLevels) (.ref c_TimerError) = some true)
    (ss_NoTick_TimerError : PySem.W.subIn K (.ref c_NoTick) (.ref c_TimerError) = some true)
    (ss_NoPeriod_TimerError : PySem.W.subIn K (.ref c_NoPeriod) (.ref c_TimerError) = some true)
    (ss_TooMany_TimerError : PySem.W.subIn K (.ref c_TooMany) (.ref c_TimerError) = some true)
    (hx_NoTimer : PySem.W.hasDictIn K c_NoTimer = true)
    (tx_NoTimer : PySem.W.typeIn K (.ref c_NoTimer) = some (.type "type"))
    (ss_NoBase_NoTimer : PySem.W.subIn K (.ref c_NoBase) (.ref c_NoTimer) = some false)
    (ss_NoLevels_NoTimer : PySem.W.subIn K (.ref c_NoLevels) (.ref c_NoTimer) = some false)
    (ss_NoTick_NoTimer : PySem.W.subIn K (.ref c_NoTick) (.ref c_NoTimer) = some false)
    (ss_NoPeriod_NoTimer : PySem.W.subIn K (.ref c_NoPeriod) (.ref c_NoTimer) = some false)
    (ss_TooMany_NoTimer : PySem.W.subIn K (.ref c_TooMany) (.ref c_NoTimer) = some false)
    (hx_NoOrder : PySem.W.hasDictIn K c_NoOrder = true)
    (tx_NoOrder : PySem.W.typeIn K (.ref c_NoOrder) = some (.type "type"))
    (ss_NoBase_NoOrder : PySem.W.subIn K (.ref c_NoBase) (.ref c_NoOrder) = some false)
    (ss_NoLevels_NoOrder : PySem.W.subIn K (.ref c_NoLevels) (.ref c_NoOrder) = some false)
    (ss_NoTick_NoOrder : PySem.W.subIn K (.ref c_NoTick) (.ref c_NoOrder) = some false)
    (ss_NoPeriod_NoOrder : PySem.W.subIn K (.ref c_NoPeriod) (.ref c_NoOrder) = some false)
    (ss_TooMany_NoOrder : PySem.W.subIn K (.ref c_TooMany) (.ref c_NoOrder) = some false)
    (hx_NoSighting : PySem.W.hasDictIn K c_NoSighting = true)
    (tx_NoSighting : PySem.W.typeIn K (.ref c_NoSighting) = some (.type "type"))
    (ss_NoBase_NoSighting : PySem.W.subIn K (.ref c_NoBase) (.ref c_NoSighting) = some false)
    (ss_NoLevels_NoSighting : PySem.W.subIn K (.ref c_NoLevels) (.ref c_NoSighting) = some false)
    (ss_NoTick_NoSighting : PySem.W.subIn K (.ref c_NoTick) (.ref c_NoSighting) = some false)
    (ss_NoPeriod_NoSighting : PySem.W.subIn K (.ref c_NoPeriod) (.ref c_NoSighting) = some false)
    (ss_TooMany_NoSighting : PySem.W.subIn K (.ref c_TooMany) (.ref c_NoSighting) = some false)
    (z_isinstance : PySem.W.nsIn K mainGlobals "isinstance" = some none)
    (z_int : PySem.W.nsIn K mainGlobals "int" = some none)
    (z_bool : PySem.W.nsIn K mainGlobals "bool" = some none)
    (z_str : PySem.W.nsIn K mainGlobals "str" = some none)
    (z_all : PySem.W.nsIn K mainGlobals "all" = some none)
    (z_list : PySem.W.nsIn K mainGlobals "list" = some none)
    (z_len : PySem.W.nsIn K mainGlobals "len" = some none)
    (z_min : PySem.W.nsIn K mainGlobals "min" = some none)
    (z_tuple : PySem.W.nsIn K mainGlobals "tuple" = some none)
    (z_set : PySem.W.nsIn K mainGlobals "set" = some none)
    (z_max : PySem.W.nsIn K mainGlobals "max" = some none)
    (z_enumerate : PySem.W.nsIn K mainGlobals "enumerate" = some none)
    (z_sorted : PySem.W.nsIn K mainGlobals "sorted" = some none)
    (z_range : PySem.W.nsIn K mainGlobals "range" = some none)
    (z_ValueError : PySem.W.nsIn K mainGlobals "ValueError" = some none)
    (z_repr : PySem.W.nsIn K mainGlobals "repr" = some none)
    (a_WORDS : PySem.W.nsIn K mainGlobals "WORDS" = some (some (.ref f_WORDS)))
    (l_WORDS : K.lookup f_WORDS = some ⟨.type "tuple", od_WORDS, .seq #[.str "stack" tk0_WORDS, .str "queue" tk1_WORDS] tn_WORDS, ts_WORDS⟩)
    (a_MOST_LEVELS : PySem.W.nsIn K mainGlobals "MOST_LEVELS" = some (some (.int 60 tk_MOST_LEVELS)))
    (a_MOST_MEETINGS : PySem.W.nsIn K mainGlobals "MOST_MEETINGS" = some (some (.int 2000 tk_MOST_MEETINGS)))
    : ∃ (fd : FuncData) (cs : List (Addr × Addr)) (sp : Sp), (∀ p ∈ cs, h.get? p.2 = some { cls := .none, data := .fields #[] }) ∧ (∀ p ∈ cs, K.lookup p.2 = none) ∧ (∀ p ∈ cs, PySem.W.CodeHd h p.1 p.2) ∧ (∀ (s : Shared) (u : Value), BindsTo s fd ⟨[u], []⟩ [("_law_script", u)]) ∧ (∀ (H : Hp) (a : Addr) (ns : List Int), ns.length ≤ 63 → (∀ p ∈ cs, H p.2 = some (.tbl #[])) → SqL K H a (ns.map V.int) → sp [.ref a] H (fun v _ => v = .bl true) E0) ∧ ∀ base : Heap, K.In base → base.Ns mainGlobals mg → (∀ p ∈ cs, LamX.TabB base mg p.1 p.2) → FnG l.prog w K mg base 10 fa fd ["_law_script"] sp := by
  have e := hfa.symm.trans (PySem.W.mg_of X G a_law)
  cases e
  have T : Tx K mg := ⟨PySem.W.mg_none_of X G z_isinstance, PySem.W.mg_none_of X G z_int, PySem.W.mg_none_of X G z_bool, PySem.W.mg_none_of X G z_str, PySem.W.mg_none_of X G z_all, PySem.W.mg_none_of X G z_list, PySem.W.mg_none_of X G z_len, PySem.W.mg_none_of X G z_min, PySem.W.mg_none_of X G z_tuple, PySem.W.mg_none_of X G z_set, PySem.W.mg_none_of X G z_max, PySem.W.mg_none_of X G z_enumerate, PySem.W.mg_none_of X G z_sorted, PySem.W.mg_none_of X G z_range, PySem.W.mg_none_of X G z_ValueError, PySem.W.mg_none_of X G z_repr⟩
  have h_WORDS : ∃ a, mg "WORDS" = some (.ref a) ∧ ∀ H, SqT K H a [.str "stack", .str "queue"] := ⟨f_WORDS, PySem.W.mg_of X G a_WORDS, fun H => .inr ⟨_, _, _, l_WORDS, rfl, rfl, by simp [sizeLine_eq], .cons ⟨_, rfl⟩ (.cons ⟨_, rfl⟩ (.nil))⟩⟩
  have h_MOST_LEVELS : mg "MOST_LEVELS" = some (.int 60 tk_MOST_LEVELS) := PySem.W.mg_of X G a_MOST_LEVELS
  have h_MOST_MEETINGS : mg "MOST_MEETINGS" = some (.int 2000 tk_MOST_MEETINGS) := PySem.W.mg_of X G a_MOST_MEETINGS
  have D_is_integer : Df K mg "is_integer" s_is_integer ["given"] := by
    have F := fun_mk (st := s_is_integer) l_is_integer c_is_integer k_is_integer
    exact ⟨_, _, F, PySem.W.mg_of X G a_is_integer, F.binds (ps := ["given"]) fun _ _ _ _ _ _ us hl => match us, hl with | [_], _ => rfl⟩
  have D_is_word : Df K mg "is_word" s_is_word ["given"] := by
    have F := fun_mk (st := s_is_word) l_is_word c_is_word k_is_word
    exact ⟨_, _, F, PySem.W.mg_of X G a_is_word, F.binds (ps := ["given"]) fun _ _ _ _ _ _ us hl => match us, hl with | [_], _ => rfl⟩
  have D_is_base : Df K mg "is_base" s_is_base ["given"] := by
    have F := fun_mk (st := s_is_base) l_is_base c_is_base k_is_base
    exact ⟨_, _, F, PySem.W.mg_of X G a_is_base, F.binds (ps := ["given"]) fun _ _ _ _ _ _ us hl => match us, hl with | [_], _ => rfl⟩
  have D_is_length : Df K mg "is_length" s_is_length ["given"] := by
    have F := fun_mk (st := s_is_length) l_is_length c_is_length k_is_length
    exact ⟨_, _, F, PySem.W.mg_of X G a_is_length, F.binds (ps := ["given"]) fun _ _ _ _ _ _ us hl => match us, hl with | [_], _ => rfl⟩
  have D_are_levels : Df K mg "are_levels" s_are_levels ["given"] := by
    have F := fun_mk (st := s_are_levels) l_are_levels c_are_levels k_are_levels
    exact ⟨_, _, F, PySem.W.mg_of X G a_are_levels, F.binds (ps := ["given"]) fun _ _ _ _ _ _ us hl => match us, hl with | [_], _ => rfl⟩
  have D_is_tick : Dd K mg "is_tick" s_is_tick ["given", "least"] (.int 0) := by
    have F : FunD K "is_tick" "is_tick" (defArgs s_is_tick) (defBody s_is_tick) (defScope s_is_tick) [(.int 0)] [] _ _ := ⟨⟨_, _, _, _, _, _, _, _, _, _, rfl, l_is_tick, c_is_tick, .inr ⟨by simp, dT_is_tick, _, [_], _, rfl, t_is_tick, rfl, .cons ⟨_, rfl⟩ .nil⟩, .inl rfl⟩, k_is_tick⟩
    exact ⟨_, _, F, PySem.W.mg_of X G a_is_tick,
      FunD.binds1 (ps := ["given", "least"]) F 1 0 (by simp) rfl fun _ _ _ _ _ _ _ us its hu hi => match us, its, hu, hi with | [_], [_], _, _ => ⟨_, rfl, rfl⟩,
      by obtain ⟨ds, r, b⟩ := FunD.binds1 (ps := ["given", "least"]) F 2 1 (by simp) rfl fun _ _ _ _ _ _ _ us its hu hi => match us, its, hu, hi with | [_, _], [_], _, _ => ⟨_, rfl, rfl⟩
         cases r
         exact b⟩
  have D_is_period : Df K mg "is_period" s_is_period ["given"] := by
    have F := fun_mk (st := s_is_period) l_is_period c_is_period k_is_period
    exact ⟨_, _, F, PySem.W.mg_of X G a_is_period, F.binds (ps := ["given"]) fun _ _ _ _ _ _ us hl => match us, hl with | [_], _ => rfl⟩
  have D_check_base : Df K mg "check_base" s_check_base ["base"] := by
    have F := fun_mk (st := s_check_base) l_check_base c_check_base k_check_base
    exact ⟨_, _, F, PySem.W.mg_of X G a_check_base, F.binds (ps := ["base"]) fun _ _ _ _ _ _ us hl => match us, hl with | [_], _ => rfl⟩
  have D_check_levels : Df K mg "check_levels" s_check_levels ["levels"] := by
    have F := fun_mk (st := s_check_levels) l_check_levels c_check_levels k_check_levels
    exact ⟨_, _, F, PySem.W.mg_of X G a_check_levels, F.binds (ps := ["levels"]) fun _ _ _ _ _ _ us hl => match us, hl with | [_], _ => rfl⟩
  have D_check_tick : Dd K mg "check_tick" s_check_tick ["tick", "least"] (.int 0) := by
    have F : FunD K "check_tick" "check_tick" (defArgs s_check_tick) (defBody s_check_tick) (defScope s_check_tick) [(.int 0)] [] _ _ := ⟨⟨_, _, _, _, _, _, _, _, _, _, rfl, l_check_tick, c_check_tick, .inr ⟨by simp, dT_check_tick, _, [_], _, rfl, t_check_tick, rfl, .cons ⟨_, rfl⟩ .nil⟩, .inl rfl⟩, k_check_tick⟩
    exact ⟨_, _, F, PySem.W.mg_of X G a_check_tick,
      FunD.binds1 (ps := ["tick", "least"]) F 1 0 (by simp) rfl fun _ _ _ _ _ _ _ us its hu hi => match us, its, hu, hi with | [_], [_], _, _ => ⟨_, rfl, rfl⟩,
      by obtain ⟨ds, r, b⟩ := FunD.binds1 (ps := ["tick", "least"]) F 2 1 (by simp) rfl fun _ _ _ _ _ _ _ us its hu hi => match us, its, hu, hi with | [_, _], [_], _, _ => ⟨_, rfl, rfl⟩
         cases r
         exact b⟩
  have D_word_at : Df K mg "word_at" s_word_at ["levels", "level"] := by
    have F := fun_mk (st := s_word_at) l_word_at c_word_at k_word_at
    exact ⟨_, _, F, PySem.W.mg_of X G a_word_at, F.binds (ps := ["levels", "level"]) fun _ _ _ _ _ _ us hl => match us, hl with | [_, _], _ => rfl⟩
  have D_level_and_size : Df K mg "level_and_size" s_level_and_size ["base", "now", "due"] := by
    have F := fun_mk (st := s_level_and_size) l_level_and_size c_level_and_size k_level_and_size
    exact ⟨_, _, F, PySem.W.mg_of X G a_level_and_size, F.binds (ps := ["base", "now", "due"]) fun _ _ _ _ _ _ us hl => match us, hl with | [_, _, _], _ => rfl⟩
  have D_path : Df K mg "path" s_path ["base", "now", "due"] := by
    have F := fun_mk (st := s_path) l_path c_path k_path
    exact ⟨_, _, F, PySem.W.mg_of X G a_path, F.binds (ps := ["base", "now", "due"]) fun _ _ _ _ _ _ us hl => match us, hl with | [_, _, _], _ => rfl⟩
  have D_goes_in_front : Df K mg "goes_in_front" s_goes_in_front ["base", "levels", "now", "due", "lowest"] := by
    have F := fun_mk (st := s_goes_in_front) l_goes_in_front c_goes_in_front k_goes_in_front
    exact ⟨_, _, F, PySem.W.mg_of X G a_goes_in_front, F.binds (ps := ["base", "levels", "now", "due", "lowest"]) fun _ _ _ _ _ _ us hl => match us, hl with | [_, _, _, _, _], _ => rfl⟩
  have D_with_timer : Df K mg "with_timer" s_with_timer ["numbers", "number", "front"] := by
    have F := fun_mk (st := s_with_timer) l_with_timer c_with_timer k_with_timer
    exact ⟨_, _, F, PySem.W.mg_of X G a_with_timer, F.binds (ps := ["numbers", "number", "front"]) fun _ _ _ _ _ _ us hl => match us, hl with | [_, _, _], _ => rfl⟩
  have D_firing_order : Df K mg "firing_order" s_firing_order ["base", "levels", "due", "settings"] := by
    have F := fun_mk (st := s_firing_order) l_firing_order c_firing_order k_firing_order
    exact ⟨_, _, F, PySem.W.mg_of X G a_firing_order, F.binds (ps := ["base", "levels", "due", "settings"]) fun _ _ _ _ _ _ us hl => match us, hl with | [_, _, _, _], _ => rfl⟩
  have D_is_periodic : Df K mg "is_periodic" s_is_periodic ["given"] := by
    have F := fun_mk (st := s_is_periodic) l_is_periodic c_is_periodic k_is_periodic
    exact ⟨_, _, F, PySem.W.mg_of X G a_is_periodic, F.binds (ps := ["given"]) fun _ _ _ _ _ _ us hl => match us, hl with | [_], _ => rfl⟩
  have D_check_periodic : Df K mg "check_periodic" s_check_periodic ["given"] := by
    have F := fun_mk (st := s_check_periodic) l_check_periodic c_check_periodic k_check_periodic
    exact ⟨_, _, F, PySem.W.mg_of X G a_check_periodic, F.binds (ps := ["given"]) fun _ _ _ _ _ _ us hl => match us, hl with | [_], _ => rfl⟩
  have D_check_two : Df K mg "check_two" s_check_two ["one", "other"] := by
    have F := fun_mk (st := s_check_two) l_check_two c_check_two k_check_two
    exact ⟨_, _, F, PySem.W.mg_of X G a_check_two, F.binds (ps := ["one", "other"]) fun _ _ _ _ _ _ us hl => match us, hl with | [_, _], _ => rfl⟩
  have D_check_several : Df K mg "check_several" s_check_several ["some"] := by
    have F := fun_mk (st := s_check_several) l_check_several c_check_several k_check_several
    exact ⟨_, _, F, PySem.W.mg_of X G a_check_several, F.binds (ps := ["some"]) fun _ _ _ _ _ _ us hl => match us, hl with | [_], _ => rfl⟩
  have D_fires_again : Df K mg "fires_again" s_fires_again ["timer", "tick"] := by
    have F := fun_mk (st := s_fires_again) l_fires_again c_fires_again k_fires_again
    exact ⟨_, _, F, PySem.W.mg_of X G a_fires_again, F.binds (ps := ["timer", "tick"]) fun _ _ _ _ _ _ us hl => match us, hl with | [_, _], _ => rfl⟩
  have D_divisor_and_factor : Df K mg "divisor_and_factor" s_divisor_and_factor ["number", "modulus"] := by
    have F := fun_mk (st := s_divisor_and_factor) l_divisor_and_factor c_divisor_and_factor k_divisor_and_factor
    exact ⟨_, _, F, PySem.W.mg_of X G a_divisor_and_factor, F.binds (ps := ["number", "modulus"]) fun _ _ _ _ _ _ us hl => match us, hl with | [_, _], _ => rfl⟩
  have D_meetings : Df K mg "meetings" s_meetings ["one", "other"] := by
    have F := fun_mk (st := s_meetings) l_meetings c_meetings k_meetings
    exact ⟨_, _, F, PySem.W.mg_of X G a_meetings, F.binds (ps := ["one", "other"]) fun _ _ _ _ _ _ us hl => match us, hl with | [_, _], _ => rfl⟩
  have D_is_ahead : Df K mg "is_ahead" s_is_ahead ["base", "levels", "one", "other", "tick"] := by
    have F := fun_mk (st := s_is_ahead) l_is_ahead c_is_ahead k_is_ahead
    exact ⟨_, _, F, PySem.W.mg_of X G a_is_ahead, F.binds (ps := ["base", "levels", "one", "other", "tick"]) fun _ _ _ _ _ _ us hl => match us, hl with | [_, _, _, _, _], _ => rfl⟩
  have D_order_at : Df K mg "order_at" s_order_at ["base", "levels", "some", "tick"] := by
    have F := fun_mk (st := s_order_at) l_order_at c_order_at k_order_at
    exact ⟨_, _, F, PySem.W.mg_of X G a_order_at, F.binds (ps := ["base", "levels", "some", "tick"]) fun _ _ _ _ _ _ us hl => match us, hl with | [_, _, _, _], _ => rfl⟩
  have D_times_first : Df K mg "times_first" s_times_first ["base", "levels", "one", "other", "first", "behind"] := by
    have F := fun_mk (st := s_times_first) l_times_first c_times_first k_times_first
    exact ⟨_, _, F, PySem.W.mg_of X G a_times_first, F.binds (ps := ["base", "levels", "one", "other", "first", "behind"]) fun _ _ _ _ _ _ us hl => match us, hl with | [_, _, _, _, _, _], _ => rfl⟩
  have D_law_cell_at : Df K mg "_law_cell_at" s__law_cell_at ["_law_script", "_law_k"] := by
    have F := fun_mk (st := s__law_cell_at) l_law_cell_at c_law_cell_at k_law_cell_at
    exact ⟨_, _, F, PySem.W.mg_of X G a_law_cell_at, F.binds (ps := ["_law_script", "_law_k"]) fun _ _ _ _ _ _ us hl => match us, hl with | [_, _], _ => rfl⟩
  have D_law_mixed : Df K mg "_law_mixed" s__law_mixed ["_law_cell", "_law_k"] := by
    have F := fun_mk (st := s__law_mixed) l_law_mixed c_law_mixed k_law_mixed
    exact ⟨_, _, F, PySem.W.mg_of X G a_law_mixed, F.binds (ps := ["_law_cell", "_law_k"]) fun _ _ _ _ _ _ us hl => match us, hl with | [_, _], _ => rfl⟩
  have D_law_source : Df K mg "_law_source" s__law_source ["_law_script", "_law_k"] := by
    have F := fun_mk (st := s__law_source) l_law_source c_law_source k_law_source
    exact ⟨_, _, F, PySem.W.mg_of X G a_law_source, F.binds (ps := ["_law_script", "_law_k"]) fun _ _ _ _ _ _ us hl => match us, hl with | [_, _], _ => rfl⟩
  have D_law_next : Df K mg "_law_next" s__law_next ["_law_source_here", "_law_many"] := by
    have F := fun_mk (st := s__law_next) l_law_next c_law_next k_law_next
    exact ⟨_, _, F, PySem.W.mg_of X G a_law_next, F.binds (ps := ["_law_source_here", "_law_many"]) fun _ _ _ _ _ _ us hl => match us, hl with | [_, _], _ => rfl⟩
  have D_law_base : Df K mg "_law_base" s__law_base ["_law_source_here"] := by
    have F := fun_mk (st := s__law_base) l_law_base c_law_base k_law_base
    exact ⟨_, _, F, PySem.W.mg_of X G a_law_base, F.binds (ps := ["_law_source_here"]) fun _ _ _ _ _ _ us hl => match us, hl with | [_], _ => rfl⟩
  have D_law_levels : Df K mg "_law_levels" s__law_levels ["_law_source_here"] := by
    have F := fun_mk (st := s__law_levels) l_law_levels c_law_levels k_law_levels
    exact ⟨_, _, F, PySem.W.mg_of X G a_law_levels, F.binds (ps := ["_law_source_here"]) fun _ _ _ _ _ _ us hl => match us, hl with | [_], _ => rfl⟩
  have FC_law_word := funC_mk (st := s__law_word) l_law_word c_law_word k_law_word
  have mgC_law_word := PySem.W.mg_of X G a_law_word
  have bC_law_word := FC_law_word.fn.binds (ps := ["_law_ask_here"]) fun _ _ _ _ _ _ us hl => match us, hl with | [_], _ => rfl
  have D_law_bad_base : Df K mg "_law_bad_base" s__law_bad_base ["_law_source_here"] := by
    have F := fun_mk (st := s__law_bad_base) l_law_bad_base c_law_bad_base k_law_bad_base
    exact ⟨_, _, F, PySem.W.mg_of X G a_law_bad_base, F.binds (ps := ["_law_source_here"]) fun _ _ _ _ _ _ us hl => match us, hl with | [_], _ => rfl⟩
  have D_law_bad_levels : Df K mg "_law_bad_levels" s__law_bad_levels ["_law_source_here"] := by
    have F := fun_mk (st := s__law_bad_levels) l_law_bad_levels c_law_bad_levels k_law_bad_levels
    exact ⟨_, _, F, PySem.W.mg_of X G a_law_bad_levels, F.binds (ps := ["_law_source_here"]) fun _ _ _ _ _ _ us hl => match us, hl with | [_], _ => rfl⟩
  have D_law_bad_tick : Df K mg "_law_bad_tick" s__law_bad_tick ["_law_source_here"] := by
    have F := fun_mk (st := s__law_bad_tick) l_law_bad_tick c_law_bad_tick k_law_bad_tick
    exact ⟨_, _, F, PySem.W.mg_of X G a_law_bad_tick, F.binds (ps := ["_law_source_here"]) fun _ _ _ _ _ _ us hl => match us, hl with | [_], _ => rfl⟩
  have D_law_bad_pair : Df K mg "_law_bad_pair" s__law_bad_pair ["_law_source_here"] := by
    have F := fun_mk (st := s__law_bad_pair) l_law_bad_pair c_law_bad_pair k_law_bad_pair
    exact ⟨_, _, F, PySem.W.mg_of X G a_law_bad_pair, F.binds (ps := ["_law_source_here"]) fun _ _ _ _ _ _ us hl => match us, hl with | [_], _ => rfl⟩
  have D_law_bad_list : Df K mg "_law_bad_list" s__law_bad_list ["_law_source_here", "_law_pairs"] := by
    have F := fun_mk (st := s__law_bad_list) l_law_bad_list c_law_bad_list k_law_bad_list
    exact ⟨_, _, F, PySem.W.mg_of X G a_law_bad_list, F.binds (ps := ["_law_source_here", "_law_pairs"]) fun _ _ _ _ _ _ us hl => match us, hl with | [_, _], _ => rfl⟩
  have D_law_ask : Df K mg "_law_ask" s__law_ask ["_law_way", "_law_row"] := by
    have F := fun_mk (st := s__law_ask) l_law_ask c_law_ask k_law_ask
    exact ⟨_, _, F, PySem.W.mg_of X G a_law_ask, F.binds (ps := ["_law_way", "_law_row"]) fun _ _ _ _ _ _ us hl => match us, hl with | [_, _], _ => rfl⟩
  have D_law_spoilt : Df K mg "_law_spoilt" s__law_spoilt ["_law_source_here", "_law_row", "_law_odd", "_law_names"] := by
    have F := fun_mk (st := s__law_spoilt) l_law_spoilt c_law_spoilt k_law_spoilt
    exact ⟨_, _, F, PySem.W.mg_of X G a_law_spoilt, F.binds (ps := ["_law_source_here", "_law_row", "_law_odd", "_law_names"]) fun _ _ _ _ _ _ us hl => match us, hl with | [_, _, _, _], _ => rfl⟩
  have D_law_rows : Df K mg "_law_rows" s__law_rows ["_law_source_here"] := by
    have F := fun_mk (st := s__law_rows) l_law_rows c_law_rows k_law_rows
    exact ⟨_, _, F, PySem.W.mg_of X G a_law_rows, F.binds (ps := ["_law_source_here"]) fun _ _ _ _ _ _ us hl => match us, hl with | [_], _ => rfl⟩
  have FC_law := funC_mk (st := s_law) l_law c_law k_law
  have mgC_law := PySem.W.mg_of X G a_law
  have bC_law := FC_law.fn.binds (ps := ["_law_script"]) fun _ _ _ _ _ _ us hl => match us, hl with | [_], _ => rfl
  have X_NoBase : EC K mg "NoBase" c_NoBase := ⟨PySem.W.mg_of X G a_NoBase, x_NoBase, kp_NoBase, bx_NoBase, tx_NoBase⟩
  have EX_NoBase : ExcC K c_NoBase := ⟨ga_NoBase, gg_NoBase, bx_NoBase, hx_NoBase, cc_NoBase, sp_get, tk_cls, mo_NoBase⟩
  have X_NoLevels : EC K mg "NoLevels" c_NoLevels := ⟨PySem.W.mg_of X G a_NoLevels, x_NoLevels, kp_NoLevels, bx_NoLevels, tx_NoLevels⟩
  have EX_NoLevels : ExcC K c_NoLevels := ⟨ga_NoLevels, gg_NoLevels, bx_NoLevels, hx_NoLevels, cc_NoLevels, sp_get, tk_cls, mo_NoLevels⟩
  have X_NoTick : EC K mg "NoTick" c_NoTick := ⟨PySem.W.mg_of X G a_NoTick, x_NoTick, kp_NoTick, bx_NoTick, tx_NoTick⟩
  have EX_NoTick : ExcC K c_NoTick := ⟨ga_NoTick, gg_NoTick, bx_NoTick, hx_NoTick, cc_NoTick, sp_get, tk_cls, mo_NoTick⟩
  have X_NoPeriod : EC K mg "NoPeriod" c_NoPeriod := ⟨PySem.W.mg_of X G a_NoPeriod, x_NoPeriod, kp_NoPeriod, bx_NoPeriod, tx_NoPeriod⟩
  have EX_NoPeriod : ExcC K c_NoPeriod := ⟨ga_NoPeriod, gg_NoPeriod, bx_NoPeriod, hx_NoPeriod, cc_NoPeriod, sp_get, tk_cls, mo_NoPeriod⟩
  have X_TooMany : EC K mg "TooMany" c_TooMany := ⟨PySem.W.mg_of X G a_TooMany, x_TooMany, kp_TooMany, bx_TooMany, tx_TooMany⟩
  have EX_TooMany : ExcC K c_TooMany := ⟨ga_TooMany, gg_TooMany, bx_TooMany, hx_TooMany, cc_TooMany, sp_get, tk_cls, mo_TooMany⟩
  have XG_TimerError : EG mg "TimerError" c_TimerError := ⟨PySem.W.mg_of X G a_TimerError⟩
  have XG_NoTimer : EG mg "NoTimer" c_NoTimer := ⟨PySem.W.mg_of X G a_NoTimer⟩
  have XG_NoOrder : EG mg "NoOrder" c_NoOrder := ⟨PySem.W.mg_of X G a_NoOrder⟩
  have XG_NoSighting : EG mg "NoSighting" c_NoSighting := ⟨PySem.W.mg_of X G a_NoSighting⟩
  refine ⟨PySem.W.fnOf "law" "law" (defArgs s_law) (defBody s_law) (defScope s_law) .none kV_law dc_law pm_law an_law (.ref cc_law) ct_law, [(cc_law, P_law)], spLaw K [(P_law, lamQ "law")], (List.forall_mem_cons.mpr ⟨hT8 _ tm_law, (fun _ hh => nomatch hh)⟩), (List.forall_mem_cons.mpr ⟨nt_law, (fun _ hh => nomatch hh)⟩), (List.forall_mem_cons.mpr ⟨PySem.W.codeHd_of_K X ch_law, (fun _ hh => nomatch hh)⟩), fun s v => .of_eq rfl, fun H a ns h1 h3 h4 => ⟨a, ns, rfl, h4, h1, (List.forall_mem_cons.mpr ⟨LamX.TabS.nil (h3 (cc_law, P_law) (by simp)), (fun _ hh => nomatch hh)⟩), fun _ => rfl⟩, fun base hKb hNb hTB => ?_⟩
  have TB_law := hTB (cc_law, P_law) (by simp)
  have h_is_integer : Has l.prog w K mg base 1 "is_integer" ["given"] [] spIsInt := D_is_integer.has fun _ _ F => ok_is_integer F T
  have h2_is_tick : Has l.prog w K mg base 2 "is_tick" ["given", "least"] [.int 0] spIsTick ∧ Has l.prog w K mg base 2 "is_tick" ["given", "least"] [] spIsTick := D_is_tick.has fun _ _ F => ok_is_tick F T h_is_integer
  have h_is_base : Has l.prog w K mg base 2 "is_base" ["given"] [] spIsBase := D_is_base.has fun _ _ F => ok_is_base F h_is_integer
  have h_check_base : Has l.prog w K mg base 3 "check_base" ["base"] [] spCheckBase := D_check_base.has fun _ _ F => ok_check_base F h_is_base
  have h2_check_tick : Has l.prog w K mg base 3 "check_tick" ["tick", "least"] [.int 0] spCheckTick ∧ Has l.prog w K mg base 3 "check_tick" ["tick", "least"] [] spCheckTick := D_check_tick.has fun _ _ F => ok_check_tick F h2_is_tick.2
  have h_level_and_size : Has l.prog w K mg base 1 "level_and_size" ["base", "now", "due"] [] spLevel := D_level_and_size.has fun _ _ F => ok_level_and_size F 
  have h_path : Has l.prog w K mg base 2 "path" ["base", "now", "due"] [] spPath := D_path.has fun _ _ F => ok_path F h_level_and_size
  have h_word_at : Has l.prog w K mg base 1 "word_at" ["levels", "level"] [] (spWordAt K) := D_word_at.has fun _ _ F => ok_word_at F T
  have h_is_word : Has l.prog w K mg base 1 "is_word" ["given"] [] spIsWord := D_is_word.has fun _ _ F => ok_is_word F T h_WORDS
  have h_is_length : Has l.prog w K mg base 2 "is_length" ["given"] [] spIsLength := D_is_length.has fun _ _ F => ok_is_length F ⟨_, h_MOST_LEVELS⟩ h_is_integer
  have h_are_levels : Has l.prog w K mg base 3 "are_levels" ["given"] [] (spAreLevels K) := D_are_levels.has fun _ _ F => ok_are_levels F T h_is_length h_is_word
  have h_check_levels : Has l.prog w K mg base 4 "check_levels" ["levels"] [] (spCheckLevels K) := D_check_levels.has fun _ _ F => ok_check_levels F h_are_levels
  have h_goes_in_front : Has l.prog w K mg base 3 "goes_in_front" ["base", "levels", "now", "due", "lowest"] [] (spFront K) := D_goes_in_front.has fun _ _ F => ok_goes_in_front F h_path h_word_at
  have h_is_period : Has l.prog w K mg base 2 "is_period" ["given"] [] spIsPeriod := D_is_period.has fun _ _ F => ok_is_period F h_is_integer
  have h_is_periodic : Has l.prog w K mg base 3 "is_periodic" ["given"] [] spPeriodic := D_is_periodic.has fun _ _ F => ok_is_periodic F T h2_is_tick.1 h_is_period
  have h_check_periodic : Has l.prog w K mg base 4 "check_periodic" ["given"] [] spCheckPeriodic := D_check_periodic.has fun _ _ F => ok_check_periodic F h_is_periodic
  have h_check_two : Has l.prog w K mg base 5 "check_two" ["one", "other"] [] spCheckTwo := D_check_two.has fun _ _ F => ok_check_two F h_check_periodic
  have h_is_ahead : Has l.prog w K mg base 4 "is_ahead" ["base", "levels", "one", "other", "tick"] [] (spAhead K) := D_is_ahead.has fun _ _ F => ok_is_ahead F h_goes_in_front
  have h_fires_again : Has l.prog w K mg base 1 "fires_again" ["timer", "tick"] [] spFires := D_fires_again.has fun _ _ F => ok_fires_again F 
  have h_divisor_and_factor : Has l.prog w K mg base 1 "divisor_and_factor" ["number", "modulus"] [] spDivFac := D_divisor_and_factor.has fun _ _ F => ok_divisor_and_factor F 
  have h_meetings : Has l.prog w K mg base 2 "meetings" ["one", "other"] [] spMeet := D_meetings.has fun _ _ F => ok_meetings F T h_divisor_and_factor
  have h_check_several : Has l.prog w K mg base 5 "check_several" ["some"] [] (spSeveral K) := D_check_several.has fun _ _ F => ok_check_several F T h_check_periodic
  have h_with_timer : Has l.prog w K mg base 1 "with_timer" ["numbers", "number", "front"] [] spWithTimer := D_with_timer.has fun _ _ F => ok_with_timer F 
  have h_firing_order : Has l.prog w K mg base 4 "firing_order" ["base", "levels", "due", "settings"] [] (spFiringOrder K) := D_firing_order.has fun _ _ F => ok_firing_order F h_with_timer h_goes_in_front
  have hA_is_integer := D_is_integer.has (P := l.prog) (w := w) (base := base) (k := 1) (sp := spIsIntX K) fun _ _ F => okA_is_integer F T
  have hA_is_tick := D_is_tick.has (P := l.prog) (w := w) (base := base) (k := 2) (sp := spIsTickX K) fun _ _ F => okA_is_tick F hA_is_integer
  have hX_check_tick := D_check_tick.hasX (P := l.prog) (w := w) (base := base) (k := 3) (sp := spCheckTickX K c_NoTick) fun _ _ F => okX_check_tick F T X_NoTick hA_is_tick.2
  have hA_is_base := D_is_base.has (P := l.prog) (w := w) (base := base) (k := 2) (sp := spIsBaseX K) fun _ _ F => okA_is_base F hA_is_integer
  have hX_check_base := D_check_base.hasX (P := l.prog) (w := w) (base := base) (k := 3) (sp := spCheckBaseX K c_NoBase) fun _ _ F => okX_check_base F T X_NoBase hA_is_base
  have hA_is_word := D_is_word.has (P := l.prog) (w := w) (base := base) (k := 1) (sp := spIsWordX K) fun _ _ F => okA_is_word F T h_WORDS
  have hA_is_length := D_is_length.has (P := l.prog) (w := w) (base := base) (k := 2) (sp := spIsLengthX K) fun _ _ F => okA_is_length F ⟨_, h_MOST_LEVELS⟩ hA_is_integer
  have hA_are_levels := D_are_levels.has (P := l.prog) (w := w) (base := base) (k := 3) (sp := spAreLevelsX K) fun _ _ F => okA_are_levels F T hA_is_length hA_is_word
  have hX_check_levels := D_check_levels.hasX (P := l.prog) (w := w) (base := base) (k := 4) (sp := spCheckLevelsX K c_NoLevels) fun _ _ F => okX_check_levels F T X_NoLevels hA_are_levels
  have hA_is_period := D_is_period.has (P := l.prog) (w := w) (base := base) (k := 2) (sp := spIsPeriodX K) fun _ _ F => okA_is_period F hA_is_integer
  have hA_is_periodic := D_is_periodic.has (P := l.prog) (w := w) (base := base) (k := 3) (sp := spPeriodicX K) fun _ _ F => okA_is_periodic F T hA_is_tick.1 hA_is_period
  have hX_check_periodic := D_check_periodic.hasX (P := l.prog) (w := w) (base := base) (k := 4) (sp := spCheckPeriodicX K c_NoPeriod) fun _ _ F => okX_check_periodic F T X_NoPeriod hA_is_periodic
  have hX_check_two := D_check_two.hasX (P := l.prog) (w := w) (base := base) (k := 5) (sp := spCheckTwoX K c_NoPeriod) fun _ _ F => okX_check_two F T X_NoPeriod hX_check_periodic
  have hXO_check_several := D_check_several.hasX (P := l.prog) (w := w) (base := base) (k := 5) (sp := spOr (spSeveralX K c_NoPeriod) (spSeveral K)) fun _ _ F => fnok_or (okX_check_several F T X_NoPeriod hX_check_periodic) (fnok_lift (ok_check_several F T h_check_periodic))
  have hK_order_at := D_order_at.hasXK (P := l.prog) (w := w) (base := base) (k := 6) (ks := ["tick", "some", "levels", "base"]) (sp := spOr (spOrderBad K c_NoBase c_NoLevels c_NoPeriod c_NoTick) (spOrderAt K)) (fun _ _ F => fnok_or (okX_order_bad F T X_NoTick hX_check_base hX_check_levels hX_check_tick.1 hXO_check_several h_fires_again h_firing_order) (fnok_lift (ok_order_at F T h_check_base h_check_levels h2_check_tick.1 h_check_several h_fires_again h_firing_order))) (fun _ _ _ _ _ _ ws hl => match ws, hl with | [_, _, _, _], _ => rfl)
  have hK_times_first := D_times_first.hasXK (P := l.prog) (w := w) (base := base) (k := 6) (ks := ["behind", "first", "other", "one", "levels", "base"]) (sp := spOr (spTimesBad K c_NoBase c_NoLevels c_NoPeriod c_NoTick) (spTimes K)) (fun _ _ F => fnok_or (okX_times_bad F T X_TooMany ⟨_, h_MOST_MEETINGS⟩ hX_check_base hX_check_levels hX_check_tick.1 hX_check_tick.2 hX_check_two h_meetings h_is_ahead) (fnok_lift (ok_times_first F T ⟨_, h_MOST_MEETINGS⟩ h_check_base h_check_levels h2_check_tick.1 h2_check_tick.2 h_check_two h_meetings h_is_ahead))) (fun _ _ _ _ _ _ ws hl => match ws, hl with | [_, _, _, _, _, _], _ => rfl)
  have kd_NoBase : Kind8 K c_NoBase [c_NoBase, c_NoLevels, c_NoTick, c_NoPeriod, c_NoTimer, c_NoOrder, c_NoSighting, c_TooMany] 0 := kind8_of 0 EX_NoBase ve_NoBase (by decide) (eight_at ⟨fun _ => rfl, fun z => absurd rfl z⟩ ⟨fun z => absurd z (by decide), fun _ => kit_no ss_NoBase hx_NoLevels tx_NoLevels ss_NoBase_NoLevels⟩ ⟨fun z => absurd z (by decide), fun _ => kit_no ss_NoBase hx_NoTick tx_NoTick ss_NoBase_NoTick⟩ ⟨fun z => absurd z (by decide), fun _ => kit_no ss_NoBase hx_NoPeriod tx_NoPeriod ss_NoBase_NoPeriod⟩ ⟨fun z => absurd z (by decide), fun _ => kit_no ss_NoBase hx_NoTimer tx_NoTimer ss_NoBase_NoTimer⟩ ⟨fun z => absurd z (by decide), fun _ => kit_no ss_NoBase hx_NoOrder tx_NoOrder ss_NoBase_NoOrder⟩ ⟨fun z => absurd z (by decide), fun _ => kit_no ss_NoBase hx_NoSighting tx_NoSighting ss_NoBase_NoSighting⟩ ⟨fun z => absurd z (by decide), fun _ => kit_no ss_NoBase hx_TooMany tx_TooMany ss_NoBase_TooMany⟩)
  have te_NoBase := PySem.W.exm_ref bx_TimerError hx_TimerError tx_TimerError ss_NoBase_TimerError
  have kd_NoLevels : Kind8 K c_NoLevels [c_NoBase, c_NoLevels, c_NoTick, c_NoPeriod, c_NoTimer, c_NoOrder, c_NoSighting, c_TooMany] 1 := kind8_of 1 EX_NoLevels ve_NoLevels (by decide) (eight_at ⟨fun z => absurd z (by decide), fun _ => kit_no ss_NoLevels hx_NoBase tx_NoBase ss_NoLevels_NoBase⟩ ⟨fun _ => rfl, fun z => absurd rfl z⟩ ⟨fun z => absurd z (by decide), fun _ => kit_no ss_NoLevels hx_NoTick tx_NoTick ss_NoLevels_NoTick⟩ ⟨fun z => absurd z (by decide), fun _ => kit_no ss_NoLevels hx_NoPeriod tx_NoPeriod ss_NoLevels_NoPeriod⟩ ⟨fun z => absurd z (by decide), fun _ => kit_no ss_NoLevels hx_NoTimer tx_NoTimer ss_NoLevels_NoTimer⟩ ⟨fun z => absurd z (by decide), fun _ => kit_no ss_NoLevels hx_NoOrder tx_NoOrder ss_NoLevels_NoOrder⟩ ⟨fun z => absurd z (by decide), fun _ => kit_no ss_NoLevels hx_NoSighting tx_NoSighting ss_NoLevels_NoSighting⟩ ⟨fun z => absurd z (by decide), fun _ => kit_no ss_NoLevels hx_TooMany tx_TooMany ss_NoLevels_TooMany⟩)
  have te_NoLevels := PySem.W.exm_ref bx_TimerError hx_TimerError tx_TimerError ss_NoLevels_TimerError
  have kd_NoTick : Kind8 K c_NoTick [c_NoBase, c_NoLevels, c_NoTick, c_NoPeriod, c_NoTimer, c_NoOrder, c_NoSighting, c_TooMany] 2 := kind8_of 2 EX_NoTick ve_NoTick (by decide) (eight_at ⟨fun z => absurd z (by decide), fun _ => kit_no ss_NoTick hx_NoBase tx_NoBase ss_NoTick_NoBase⟩ ⟨fun z => absurd z (by decide), fun _ => kit_no ss_NoTick hx_NoLevels tx_NoLevels ss_NoTick_NoLevels⟩ ⟨fun _ => rfl, fun z => absurd rfl z⟩ ⟨fun z => absurd z (by decide), fun _ => kit_no ss_NoTick hx_NoPeriod tx_NoPeriod ss_NoTick_NoPeriod⟩ ⟨fun z => absurd z (by decide), fun _ => kit_no ss_NoTick hx_NoTimer tx_NoTimer ss_NoTick_NoTimer⟩ ⟨fun z => absurd z (by decide), fun _ => kit_no ss_NoTick hx_NoOrder tx_NoOrder ss_NoTick_NoOrder⟩ ⟨fun z => absurd z (by decide), fun _ => kit_no ss_NoTick hx_NoSighting tx_NoSighting ss_NoTick_NoSighting⟩ ⟨fun z => absurd z (by decide), fun _ => kit_no ss_NoTick hx_TooMany tx_TooMany ss_NoTick_TooMany⟩)
  have te_NoTick := PySem.W.exm_ref bx_TimerError hx_TimerError tx_TimerError ss_NoTick_TimerError
  have kd_NoPeriod : Kind8 K c_NoPeriod [c_NoBase, c_NoLevels, c_NoTick, c_NoPeriod, c_NoTimer, c_NoOrder, c_NoSighting, c_TooMany] 3 := kind8_of 3 EX_NoPeriod ve_NoPeriod (by decide) (eight_at ⟨fun z => absurd z (by decide), fun _ => kit_no ss_NoPeriod hx_NoBase tx_NoBase ss_NoPeriod_NoBase⟩ ⟨fun z => absurd z (by decide), fun _ => kit_no ss_NoPeriod hx_NoLevels tx_NoLevels ss_NoPeriod_NoLevels⟩ ⟨fun z => absurd z (by decide), fun _ => kit_no ss_NoPeriod hx_NoTick tx_NoTick ss_NoPeriod_NoTick⟩ ⟨fun _ => rfl, fun z => absurd rfl z⟩ ⟨fun z => absurd z (by decide), fun _ => kit_no ss_NoPeriod hx_NoTimer tx_NoTimer ss_NoPeriod_NoTimer⟩ ⟨fun z => absurd z (by decide), fun _ => kit_no ss_NoPeriod hx_NoOrder tx_NoOrder ss_NoPeriod_NoOrder⟩ ⟨fun z => absurd z (by decide), fun _ => kit_no ss_NoPeriod hx_NoSighting tx_NoSighting ss_NoPeriod_NoSighting⟩ ⟨fun z => absurd z (by decide), fun _ => kit_no ss_NoPeriod hx_TooMany tx_TooMany ss_NoPeriod_TooMany⟩)
  have te_NoPeriod := PySem.W.exm_ref bx_TimerError hx_TimerError tx_TimerError ss_NoPeriod_TimerError
  have h_law_cell_at : Has l.prog w K mg base 1 "_law_cell_at" ["_law_script", "_law_k"] [] (spCellAt K) := D_law_cell_at.has fun _ _ F => ok_cell_at F T
  have h_law_mixed : Has l.prog w K mg base 1 "_law_mixed" ["_law_cell", "_law_k"] [] spMixed := D_law_mixed.has fun _ _ F => ok_mixed F 
  have h_law_source : Has l.prog w K mg base 2 "_law_source" ["_law_script", "_law_k"] [] (spSource K) := D_law_source.has fun _ _ F => ok_source F T h_law_cell_at h_law_mixed
  have h_law_next : Has l.prog w K mg base 2 "_law_next" ["_law_source_here", "_law_many"] [] spNext := D_law_next.has fun _ _ F => ok_next F  h_law_mixed
  have h_law_base : Has l.prog w K mg base 3 "_law_base" ["_law_source_here"] [] spBase := D_law_base.has fun _ _ F => ok_base F h_law_next
  have h_law_levels : Has l.prog w K mg base 3 "_law_levels" ["_law_source_here"] [] spLevels := D_law_levels.has fun _ _ F => ok_levels F T h_law_next
  have h_law_bad_base : Has l.prog w K mg base 3 "_law_bad_base" ["_law_source_here"] [] (spBad24 K fun H x => BadBase K H x) := D_law_bad_base.has fun _ _ F => ok_bad_base F h_law_next
  have h_law_bad_levels : Has l.prog w K mg base 3 "_law_bad_levels" ["_law_source_here"] [] (spBad24 K fun H x => BadLevels K H x) := D_law_bad_levels.has fun _ _ F => ok_bad_levels F h_law_next
  have h_law_bad_pair : Has l.prog w K mg base 3 "_law_bad_pair" ["_law_source_here"] [] (spBad24 K fun H x => BadPair K H x) := D_law_bad_pair.has fun _ _ F => ok_bad_pair F h_law_next
  have h_law_bad_tick : Has l.prog w K mg base 3 "_law_bad_tick" ["_law_source_here"] [] (spBad24 K fun H x => BadTick K H x 0) := D_law_bad_tick.has fun _ _ F => ok_bad_tick F h_law_next
  have h_law_bad_list : Has l.prog w K mg base 4 "_law_bad_list" ["_law_source_here", "_law_pairs"] [] (spBadList K) := D_law_bad_list.has fun _ _ F => ok_bad_list F T h_law_next h_law_bad_pair
  have h_law_spoilt : Has l.prog w K mg base 3 "_law_spoilt" ["_law_source_here", "_law_row", "_law_odd", "_law_names"] [] (spSpoilt K) := D_law_spoilt.has fun _ _ F => ok_spoilt F T h_law_next
  have h_law_rows : Has l.prog w K mg base 5 "_law_rows" ["_law_source_here"] [] (spRows34 K) := D_law_rows.has fun _ _ F => ok_rows34 F T h_law_next h_law_base h_law_levels h_law_bad_tick h_law_bad_base h_law_bad_levels h_law_bad_pair h_law_bad_list h_law_spoilt
  have hX_law_ask := D_law_ask.hasX (P := l.prog) (w := w) (base := base) (k := 7) (sp := spAsk34 K c_NoBase c_NoLevels c_NoPeriod c_NoTick) fun _ _ F => okX_ask34 F hK_order_at hK_times_first
  have h_law_ask : Has l.prog w K mg base 7 "_law_ask" ["_law_way", "_law_row"] [] (spAsk34C K) := hX_law_ask.calm ask34_calm
  exact ok_law FC_law T FC_law_word mgC_law_word bC_law_word TB_law (by simp) (fun p hp _ => congrArg Prod.snd (List.mem_singleton.mp hp)) XG_TimerError ⟨X_NoBase.g⟩ ⟨X_NoLevels.g⟩ ⟨X_NoTick.g⟩ XG_NoOrder ⟨X_NoPeriod.g⟩ XG_NoSighting XG_NoTimer ⟨X_TooMany.g⟩ (fun e he => match e, he with | 0, _ => te_NoBase | 1, _ => te_NoLevels | 2, _ => te_NoPeriod | 3, _ => te_NoTick | e + 4, h => absurd h (by omega)) (fun e he => match e, he with | 0, _ => ⟨_, kd_NoBase, rfl⟩ | 1, _ => ⟨_, kd_NoLevels, rfl⟩ | 2, _ => ⟨_, kd_NoPeriod, rfl⟩ | 3, _ => ⟨_, kd_NoTick, rfl⟩ | e + 4, h => absurd h (by omega)) h_law_source h_law_rows h_law_ask hX_law_ask
end Td
open PySem PySem.W PyProof.Rows in
set_option maxRecDepth 100000 in
set_option maxHeartbeats 0 in
theorem PySem.Challenge.cw_timerdeque_k34_orders_and_counts_refused_holds : PySem.Challenge.rw_timerdeque_k34_orders_and_counts_refused.Holds := by
  w_on; o_law; k_head; (case hw => w_witness2)
  k_fill
  refine Td.walk_guardT (l := PySem.Challenge.rw_timerdeque_k34_orders_and_counts_refused) (n := 63) (k := 10) (x := "_law_script") rfl (by decide) rfl ⟨rfl, by decide, by decide⟩ (fun w h Y => PySem.W.km_in_of Y) ?F
  case F =>
    intro w mg fa h Y KX G hmg
    refine' Td.all_mk KX G hmg ?hT8 ?a_is_integer ?l_is_integer ?c_is_integer ?k_is_integer ?a_is_word ?l_is_word ?c_is_word ?k_is_word ?a_is_base ?l_is_base ?c_is_base ?k_is_base ?a_is_length ?l_is_length ?c_is_length ?k_is_length ?a_are_levels ?l_are_levels ?c_are_levels ?k_are_levels ?a_is_tick ?l_is_tick ?t_is_tick ?c_is_tick ?k_is_tick ?a_is_period ?l_is_period ?c_is_period ?k_is_period ?a_check_base ?l_check_base ?c_check_base ?k_check_base ?a_check_levels ?l_check_levels ?c_check_levels ?k_check_levels ?a_check_tick ?l_check_tick ?t_check_tick ?c_check_tick ?k_check_tick ?a_word_at ?l_word_at ?c_word_at ?k_word_at ?a_level_and_size ?l_level_and_size ?c_level_and_size ?k_level_and_size ?a_path ?l_path ?c_path ?k_path ?a_goes_in_front ?l_goes_in_front ?c_goes_in_front ?k_goes_in_front ?a_with_timer ?l_with_timer ?c_with_timer ?k_with_timer ?a_firing_order ?l_firing_order ?c_firing_order ?k_firing_order ?a_is_periodic ?l_is_periodic ?c_is_periodic ?k_is_periodic ?a_check_periodic ?l_check_periodic ?c_check_periodic ?k_check_periodic ?a_check_two ?l_check_two ?c_check_two ?k_check_two ?a_check_several ?l_check_several ?c_check_several ?k_check_several ?a_fires_again ?l_fires_again ?c_fires_again ?k_fires_again ?a_divisor_and_factor ?l_divisor_and_factor ?c_divisor_and_factor ?k_divisor_and_factor ?a_meetings ?l_meetings ?c_meetings ?k_meetings ?a_is_ahead ?l_is_ahead ?c_is_ahead ?k_is_ahead ?a_order_at ?l_order_at ?c_order_at ?k_order_at ?a_times_first ?l_times_first ?c_times_first ?k_times_first ?a_law_cell_at ?l_law_cell_at ?c_law_cell_at ?k_law_cell_at ?a_law_mixed ?l_law_mixed ?c_law_mixed ?k_law_mixed ?a_law_source ?l_law_source ?c_law_source ?k_law_source ?a_law_next ?l_law_next ?c_law_next ?k_law_next ?a_law_base ?l_law_base ?c_law_base ?k_law_base ?a_law_levels ?l_law_levels ?c_law_levels ?k_law_levels ?a_law_word ?l_law_word ?c_law_word ?k_law_word ?a_law_bad_base ?l_law_bad_base ?c_law_bad_base ?k_law_bad_base ?a_law_bad_levels ?l_law_bad_levels ?c_law_bad_levels ?k_law_bad_levels ?a_law_bad_tick ?l_law_bad_tick ?c_law_bad_tick ?k_law_bad_tick ?a_law_bad_pair ?l_law_bad_pair ?c_law_bad_pair ?k_law_bad_pair ?a_law_bad_list ?l_law_bad_list ?c_law_bad_list ?k_law_bad_list ?a_law_ask ?l_law_ask ?c_law_ask ?k_law_ask ?a_law_spoilt ?l_law_spoilt ?c_law_spoilt ?k_law_spoilt ?a_law_rows ?l_law_rows ?c_law_rows ?k_law_rows ?a_law ?l_law ?c_law ?k_law ?lc_law ?lp_law ?ch_law ?nt_law ?tm_law ?a_NoBase ?a_NoLevels ?a_NoTick ?a_NoPeriod ?a_TooMany ?a_TimerError ?a_NoTimer ?a_NoOrder ?a_NoSighting ?x_NoBase ?kp_NoBase ?bx_NoBase ?tx_NoBase ?ga_NoBase ?gg_NoBase ?hx_NoBase ?cc_NoBase ?mo_NoBase ?ss_NoBase ?x_NoLevels ?kp_NoLevels ?bx_NoLevels ?tx_NoLevels ?ga_NoLevels ?gg_NoLevels ?hx_NoLevels ?cc_NoLevels ?mo_NoLevels ?ss_NoLevels ?x_NoTick ?kp_NoTick ?bx_NoTick ?tx_NoTick ?ga_NoTick ?gg_NoTick ?hx_NoTick ?cc_NoTick ?mo_NoTick ?ss_NoTick ?x_NoPeriod ?kp_NoPeriod ?bx_NoPeriod ?tx_NoPeriod ?ga_NoPeriod ?gg_NoPeriod ?hx_NoPeriod ?cc_NoPeriod ?mo_NoPeriod ?ss_NoPeriod ?x_TooMany ?kp_TooMany ?bx_TooMany ?tx_TooMany ?ga_TooMany ?gg_TooMany ?hx_TooMany ?cc_TooMany ?mo_TooMany ?ss_TooMany ?sp_get ?tk_cls ?bx_TimerError ?ve_NoBase ?ss_NoBase_NoLevels ?ss_NoBase_NoTick ?ss_NoBase_NoPeriod ?ss_NoBase_TooMany ?ve_NoLevels ?ss_NoLevels_NoBase ?ss_NoLevels_NoTick ?ss_NoLevels_NoPeriod ?ss_NoLevels_TooMany ?ve_NoTick ?ss_NoTick_NoBase ?ss_NoTick_NoLevels ?ss_NoTick_NoPeriod ?ss_NoTick_TooMany ?ve_NoPeriod ?ss_NoPeriod_NoBase ?ss_NoPeriod_NoLevels ?ss_NoPeriod_NoTick ?ss_NoPeriod_TooMany ?ve_TooMany ?ss_TooMany_NoBase ?ss_TooMany_NoLevels ?ss_TooMany_NoTick ?ss_TooMany_NoPeriod ?hx_TimerError ?tx_TimerError ?ss_NoBase_TimerError ?ss_NoLevels_TimerError ?ss_NoTick_TimerError ?ss_NoPeriod_TimerError ?ss_TooMany_TimerError ?hx_NoTimer ?tx_NoTimer ?ss_NoBase_NoTimer ?ss_NoLevels_NoTimer ?ss_NoTick_NoTimer ?ss_NoPeriod_NoTimer ?ss_TooMany_NoTimer ?hx_NoOrder ?tx_NoOrder ?ss_NoBase_NoOrder ?ss_NoLevels_NoOrder ?ss_NoTick_NoOrder ?ss_NoPeriod_NoOrder ?ss_TooMany_NoOrder ?hx_NoSighting ?tx_NoSighting ?ss_NoBase_NoSighting ?ss_NoLevels_NoSighting ?ss_NoTick_NoSighting ?ss_NoPeriod_NoSighting ?ss_TooMany_NoSighting ?z_isinstance ?z_int ?z_bool ?z_str ?z_all ?z_list ?z_len ?z_min ?z_tuple ?z_set ?z_max ?z_enumerate ?z_sorted ?z_range ?z_ValueError ?z_repr ?a_WORDS ?l_WORDS ?a_MOST_LEVELS ?a_MOST_MEETINGS
    (case hT8 => exact PySem.W.km_tabs_of Y)
    (case a_is_integer => k_is)
    (case l_is_integer => k_is)
    (case c_is_integer => k_is)
    (case k_is_integer => k_is)
    (case a_is_word => k_is)
    (case l_is_word => k_is)
    (case c_is_word => k_is)
    (case k_is_word => k_is)
    (case a_is_base => k_is)
    (case l_is_base => k_is)
    (case c_is_base => k_is)
    (case k_is_base => k_is)
    (case a_is_length => k_is)
    (case l_is_length => k_is)
    (case c_is_length => k_is)
    (case k_is_length => k_is)
    (case a_are_levels => k_is)
    (case l_are_levels => k_is)
    (case c_are_levels => k_is)
    (case k_are_levels => k_is)
    (case a_is_tick => k_is)
    (case l_is_tick => k_is)
    (case t_is_tick => k_is)
    (case c_is_tick => k_is)
    (case k_is_tick => k_is)
    (case a_is_period => k_is)
    (case l_is_period => k_is)
    (case c_is_period => k_is)
    (case k_is_period => k_is)
    (case a_check_base => k_is)
    (case l_check_base => k_is)
    (case c_check_base => k_is)
    (case k_check_base => k_is)
    (case a_check_levels => k_is)
    (case l_check_levels => k_is)
    (case c_check_levels => k_is)
    (case k_check_levels => k_is)
    (case a_check_tick => k_is)
    (case l_check_tick => k_is)
    (case t_check_tick => k_is)
    (case c_check_tick => k_is)
    (case k_check_tick => k_is)
    (case a_word_at => k_is)
    (case l_word_at => k_is)
    (case c_word_at => k_is)
    (case k_word_at => k_is)
    (case a_level_and_size => k_is)
    (case l_level_and_size => k_is)
    (case c_level_and_size => k_is)
    (case k_level_and_size => k_is)
    (case a_path => k_is)
    (case l_path => k_is)
    (case c_path => k_is)
    (case k_path => k_is)
    (case a_goes_in_front => k_is)
    (case l_goes_in_front => k_is)
    (case c_goes_in_front => k_is)
    (case k_goes_in_front => k_is)
    (case a_with_timer => k_is)
    (case l_with_timer => k_is)
    (case c_with_timer => k_is)
    (case k_with_timer => k_is)
    (case a_firing_order => k_is)
    (case l_firing_order => k_is)
    (case c_firing_order => k_is)
    (case k_firing_order => k_is)
    (case a_is_periodic => k_is)
    (case l_is_periodic => k_is)
    (case c_is_periodic => k_is)
    (case k_is_periodic => k_is)
    (case a_check_periodic => k_is)
    (case l_check_periodic => k_is)
    (case c_check_periodic => k_is)
    (case k_check_periodic => k_is)
    (case a_check_two => k_is)
    (case l_check_two => k_is)
    (case c_check_two => k_is)
    (case k_check_two => k_is)
    (case a_check_several => k_is)
    (case l_check_several => k_is)
    (case c_check_several => k_is)
    (case k_check_several => k_is)
    (case a_fires_again => k_is)
    (case l_fires_again => k_is)
    (case c_fires_again => k_is)
    (case k_fires_again => k_is)
    (case a_divisor_and_factor => k_is)
    (case l_divisor_and_factor => k_is)
    (case c_divisor_and_factor => k_is)
    (case k_divisor_and_factor => k_is)
    (case a_meetings => k_is)
    (case l_meetings => k_is)
    (case c_meetings => k_is)
    (case k_meetings => k_is)
    (case a_is_ahead => k_is)
    (case l_is_ahead => k_is)
    (case c_is_ahead => k_is)
    (case k_is_ahead => k_is)
    (case a_order_at => k_is)
    (case l_order_at => k_is)
    (case c_order_at => k_is)
    (case k_order_at => k_is)
    (case a_times_first => k_is)
    (case l_times_first => k_is)
    (case c_times_first => k_is)
    (case k_times_first => k_is)
    (case a_law_cell_at => k_is)
    (case l_law_cell_at => k_is)
    (case c_law_cell_at => k_is)
    (case k_law_cell_at => k_is)
    (case a_law_mixed => k_is)
    (case l_law_mixed => k_is)
    (case c_law_mixed => k_is)
    (case k_law_mixed => k_is)
    (case a_law_source => k_is)
    (case l_law_source => k_is)
    (case c_law_source => k_is)
    (case k_law_source => k_is)
    (case a_law_next => k_is)
    (case l_law_next => k_is)
    (case c_law_next => k_is)
    (case k_law_next => k_is)
    (case a_law_base => k_is)
    (case l_law_base => k_is)
    (case c_law_base => k_is)
    (case k_law_base => k_is)
    (case a_law_levels => k_is)
    (case l_law_levels => k_is)
    (case c_law_levels => k_is)
    (case k_law_levels => k_is)
    (case a_law_word => k_is)
    (case l_law_word => k_is)
    (case c_law_word => k_is)
    (case k_law_word => k_is)
    (case a_law_bad_base => k_is)
    (case l_law_bad_base => k_is)
    (case c_law_bad_base => k_is)
    (case k_law_bad_base => k_is)
    (case a_law_bad_levels => k_is)
    (case l_law_bad_levels => k_is)
    (case c_law_bad_levels => k_is)
    (case k_law_bad_levels => k_is)
    (case a_law_bad_tick => k_is)
    (case l_law_bad_tick => k_is)
    (case c_law_bad_tick => k_is)
    (case k_law_bad_tick => k_is)
    (case a_law_bad_pair => k_is)
    (case l_law_bad_pair => k_is)
    (case c_law_bad_pair => k_is)
    (case k_law_bad_pair => k_is)
    (case a_law_bad_list => k_is)
    (case l_law_bad_list => k_is)
    (case c_law_bad_list => k_is)
    (case k_law_bad_list => k_is)
    (case a_law_ask => k_is)
    (case l_law_ask => k_is)
    (case c_law_ask => k_is)
    (case k_law_ask => k_is)
    (case a_law_spoilt => k_is)
    (case l_law_spoilt => k_is)
    (case c_law_spoilt => k_is)
    (case k_law_spoilt => k_is)
    (case a_law_rows => k_is)
    (case l_law_rows => k_is)
    (case c_law_rows => k_is)
    (case k_law_rows => k_is)
    (case a_law => k_is)
    (case l_law => k_is)
    (case c_law => k_is)
    (case k_law => k_is)
    (case lc_law => k_is)
    (case lp_law => rfl)
    (case ch_law => rfl)
    (case nt_law => rfl)
    (case tm_law => simp)
    (case a_NoBase => k_is)
    (case a_NoLevels => k_is)
    (case a_NoTick => k_is)
    (case a_NoPeriod => k_is)
    (case a_TooMany => k_is)
    (case a_TimerError => k_is)
    (case a_NoTimer => k_is)
    (case a_NoOrder => k_is)
    (case a_NoSighting => k_is)
    (case x_NoBase => k_exc)
    (case kp_NoBase => k_is)
    (case bx_NoBase => k_is)
    (case tx_NoBase => k_is)
    (case ga_NoBase => k_is)
    (case gg_NoBase => k_is)
    (case hx_NoBase => k_is)
    (case cc_NoBase => k_is)
    (case mo_NoBase => k_is)
    (case ss_NoBase => k_is)
    (case x_NoLevels => k_exc)
    (case kp_NoLevels => k_is)
    (case bx_NoLevels => k_is)
    (case tx_NoLevels => k_is)
    (case ga_NoLevels => k_is)
    (case gg_NoLevels => k_is)
    (case hx_NoLevels => k_is)
    (case cc_NoLevels => k_is)
    (case mo_NoLevels => k_is)
    (case ss_NoLevels => k_is)
    (case x_NoTick => k_exc)
    (case kp_NoTick => k_is)
    (case bx_NoTick => k_is)
    (case tx_NoTick => k_is)
    (case ga_NoTick => k_is)
    (case gg_NoTick => k_is)
    (case hx_NoTick => k_is)
    (case cc_NoTick => k_is)
    (case mo_NoTick => k_is)
    (case ss_NoTick => k_is)
    (case x_NoPeriod => k_exc)
    (case kp_NoPeriod => k_is)
    (case bx_NoPeriod => k_is)
    (case tx_NoPeriod => k_is)
    (case ga_NoPeriod => k_is)
    (case gg_NoPeriod => k_is)
    (case hx_NoPeriod => k_is)
    (case cc_NoPeriod => k_is)
    (case mo_NoPeriod => k_is)
    (case ss_NoPeriod => k_is)
    (case x_TooMany => k_exc)
    (case kp_TooMany => k_is)
    (case bx_TooMany => k_is)
    (case tx_TooMany => k_is)
    (case ga_TooMany => k_is)
    (case gg_TooMany => k_is)
    (case hx_TooMany => k_is)
    (case cc_TooMany => k_is)
    (case mo_TooMany => k_is)
    (case ss_TooMany => k_is)
    (case sp_get => k_is)
    (case tk_cls => k_is)
    (case bx_TimerError => k_is)
    (case ve_NoBase => k_is)
    (case ss_NoBase_NoLevels => k_is)
    (case ss_NoBase_NoTick => k_is)
    (case ss_NoBase_NoPeriod => k_is)
    (case ss_NoBase_TooMany => k_is)
    (case ve_NoLevels => k_is)
    (case ss_NoLevels_NoBase => k_is)
    (case ss_NoLevels_NoTick => k_is)
    (case ss_NoLevels_NoPeriod => k_is)
    (case ss_NoLevels_TooMany => k_is)
    (case ve_NoTick => k_is)
    (case ss_NoTick_NoBase => k_is)
    (case ss_NoTick_NoLevels => k_is)
    (case ss_NoTick_NoPeriod => k_is)
    (case ss_NoTick_TooMany => k_is)
    (case ve_NoPeriod => k_is)
    (case ss_NoPeriod_NoBase => k_is)
    (case ss_NoPeriod_NoLevels => k_is)
    (case ss_NoPeriod_NoTick => k_is)
    (case ss_NoPeriod_TooMany => k_is)
    (case ve_TooMany => k_is)
    (case ss_TooMany_NoBase => k_is)
    (case ss_TooMany_NoLevels => k_is)
    (case ss_TooMany_NoTick => k_is)
    (case ss_TooMany_NoPeriod => k_is)
    (case hx_TimerError => k_is)
    (case tx_TimerError => k_is)
    (case ss_NoBase_TimerError => k_is)
    (case ss_NoLevels_TimerError => k_is)
    (case ss_NoTick_TimerError => k_is)
    (case ss_NoPeriod_TimerError => k_is)
    (case ss_TooMany_TimerError => k_is)
    (case hx_NoTimer => k_is)
    (case tx_NoTimer => k_is)
    (case ss_NoBase_NoTimer => k_is)
    (case ss_NoLevels_NoTimer => k_is)
    (case ss_NoTick_NoTimer => k_is)
    (case ss_NoPeriod_NoTimer => k_is)
    (case ss_TooMany_NoTimer => k_is)
    (case hx_NoOrder => k_is)
    (case tx_NoOrder => k_is)
    (case ss_NoBase_NoOrder => k_is)
    (case ss_NoLevels_NoOrder => k_is)
    (case ss_NoTick_NoOrder => k_is)
    (case ss_NoPeriod_NoOrder => k_is)
    (case ss_TooMany_NoOrder => k_is)
    (case hx_NoSighting => k_is)
    (case tx_NoSighting => k_is)
    (case ss_NoBase_NoSighting => k_is)
    (case ss_NoLevels_NoSighting => k_is)
    (case ss_NoTick_NoSighting => k_is)
    (case ss_NoPeriod_NoSighting => k_is)
    (case ss_TooMany_NoSighting => k_is)
    (case z_isinstance => k_is)
    (case z_int => k_is)
    (case z_bool => k_is)
    (case z_str => k_is)
    (case z_all => k_is)
    (case z_list => k_is)
    (case z_len => k_is)
    (case z_min => k_is)
    (case z_tuple => k_is)
    (case z_set => k_is)
    (case z_max => k_is)
    (case z_enumerate => k_is)
    (case z_sorted => k_is)
    (case z_range => k_is)
    (case z_ValueError => k_is)
    (case z_repr => k_is)
    (case a_WORDS => k_is)
    (case l_WORDS => k_is)
    (case a_MOST_LEVELS => k_is)
    (case a_MOST_MEETINGS => k_is)
