import PyProof.Rows.All
import Wide.All
import OpenK.AllK
import Wide.FinOn
import HandS.ForMost
import HandS.IsInst
import HandS.Wide
import HandS.WideBits
import HandS.Defaults
import HandS.Zip
import HandS.Flow
import HandS.SortKw
import HandS.SortOrd
import HandS.Conv
import HandS.More
import HandS.Small
import KE.DatumOrd
import HandS.DictTup
import PyProof.DictMoreH
import HandS.MakeKwOnly
import HandS.Style
import HandS.Iter
import HandS.WordsDict
import HandS.SortInts
import HandS.TupAny
import HandS.DictComp
import PyProof.InstNe
import HandS.Rev
import HandS.TupMul
import HandS.Exc
import HandS.ExcOwn
import HandS.ExcIs
import HandS.TryOnly
import HandS.WordsExc
import HandS.Lambda
import HandS.EndTab
import KE.KNestM
import HandS.MakeKw
import KE.KDflt
import HandS.SetFor
import HandS.Strs
import PySem.Challenge.RW_timerdeque_k06_too_many_firings
set_option Elab.async false
set_option linter.all false
set_option maxRecDepth 100000
set_option maxHeartbeats 4000000
set_option exponentiation.threshold 10000
namespace Td
open PySem PySem.Spec PyProof.Rows L2
/-! ### small things: promises by name, heaps, numbers -/
section
variable {P : Program} {w : World} {K : PySem.W.Frag} {mg : Str → Option Value} {base : Heap}
/-- the module's name x holds a def that keeps the promise sp, its last parameters filled up by dvs -/
def Has (P : Program) (w : World) (K : PySem.W.Frag) (mg : Str → Option Value) (base : Heap) (k : Nat) (x : Str) (ps : List Str) (dvs : List V) (sp : Sp) : Prop :=
  ∃ (f : Addr) (fd : FuncData) (ds : List Value), FnOk P w K mg base CX0 k f fd ps sp ∧ mg x = some (.ref f) ∧ PySem.W.keepIn K (.ref f) = true ∧ Binds K fd ps ds ∧ Vals dvs ds
/-- what the top says of a def without defaults -/
def Df (K : PySem.W.Frag) (mg : Str → Option Value) (x : Str) (st : Stmt) (ps : List Str) : Prop :=
  ∃ (f : Addr) (fd : FuncData), Fun K x x st f fd ∧ mg x = some (.ref f) ∧ Binds K fd ps []
theorem Df.has {k : Nat} {x : Str} {st : Stmt} {ps : List Str} {sp : Sp} (D : Df K mg x st ps) (ok : ∀ f fd, Fun K x x st f fd → FnOk P w K mg base CX0 k f fd ps sp) : Has P w K mg base k x ps [] sp := by
  obtain ⟨f, fd, F, m, b⟩ := D
  exact ⟨f, fd, [], ok f fd F, m, F.kp, b, .nil⟩
/-- a def with one default, the last parameter's -/
def Dd (K : PySem.W.Frag) (mg : Str → Option Value) (x : Str) (st : Stmt) (ps : List Str) (d : V) : Prop :=
  ∃ (f : Addr) (fd : FuncData), FunD K x x (defArgs st) (defBody st) (defScope st) [d] [] f fd ∧ mg x = some (.ref f) ∧ (∃ ds, Vals [d] ds ∧ Binds K fd ps ds) ∧ Binds K fd ps []
theorem Dd.has {k : Nat} {x : Str} {st : Stmt} {ps : List Str} {d : V} {sp : Sp} (D : Dd K mg x st ps d) (ok : ∀ f fd, FunD K x x (defArgs st) (defBody st) (defScope st) [d] [] f fd → FnOk P w K mg base CX0 k f fd ps sp) :
    Has P w K mg base k x ps [d] sp ∧ Has P w K mg base k x ps [] sp := by
  obtain ⟨f, fd, F, m, ⟨ds, r, b⟩, b0⟩ := D
  exact ⟨⟨f, fd, ds, ok f fd F, m, F.kp, b, r⟩, ⟨f, fd, [], ok f fd F, m, F.kp, b0, .nil⟩⟩
end
section
variable {X : Cx}
/-- a product of which one side is small, or both are not too great -/
def CMulA (i j : Int) : Prop := IntMulOk i j
theorem op_mulA : OpR X (binaryOp .Mult) (rI CMulA fun i j => .int (i * j)) := opI fun _ _ _ _ _ _ _ hc q => mul_int q hc
end
/-! x *= e, ints -/
section
variable {X : Cx}
def ipC (C : Int → Int → Prop) (f : Int → Int → Int) : TIp := fun x y H Q => ∃ i j, x = .int i ∧ y = .int j ∧ C i j ∧ Q (.int (f i j)) H
theorem ip_mulA : PIp X .Mult (ipC CMulA fun i j => i * j) := by
  intro pins s σ H x y v u Q I r1 r2 h
  obtain ⟨i, j, rfl, rfl, hm, q⟩ := h
  obtain ⟨t, rfl⟩ := r1
  obtain ⟨t', rfl⟩ := r2
  exact imul_int ⟨.int _, H, I.tok _, ⟨_, rfl⟩, q⟩ hm
end
theorem mul_l {i j : Int} (h1 : -(2 ^ 64) < i) (h2 : i < 2 ^ 64) : CMulA i j := CMul.ok (.inl ⟨h1, h2⟩)
theorem mul_r {i j : Int} (h1 : -(2 ^ 64) < j) (h2 : j < 2 ^ 64) : CMulA i j := CMul.ok (.inr ⟨h1, h2⟩)
theorem mul_w {i j : Int} (a b : Nat) (ha : i.natAbs < 2 ^ a) (hb : j.natAbs < 2 ^ b) (h0 : 0 < a := by decide) (h1 : 0 < b := by decide) (h : a + b ≤ 1000000 := by decide) : CMulA i j := (wide_mul ha hb h0 h1 h).ok
theorem div_s {i j : Int} (h : 0 < j) (h2 : j < 2 ^ 300) : CDivW i j := wide_div (b := 300) h (by omega) (by decide) (by decide)
theorem div_b {i j : Int} (b : Nat) (h : 0 < j) (h2 : j < 2 ^ b) (h0 : 0 < b := by decide) (h9 : b ≤ 9000 := by decide) : CDivW i j := by
  refine wide_div (b := b) h ?_ h0 h9
  have e : ((2 ^ b : Nat) : Int) = (2 : Int) ^ b := by
    rw [Int.natCast_pow]
    rfl
  omega
theorem same_upd {H : Hp} {p : Addr} {o : HO} (h : H p = none) : Same H (upd H p o) := fun b x e => by
  rw [upd_ne (ne_of_none e h)]
  exact e
theorem sizeLine_ge {n : Nat} (h : n ≤ 1000000) : n < sizeLine := by
  rw [sizeLine_eq]
  omega
theorem sizeLine_le {n : Nat} (h : n ≤ 1000000) : n ≤ sizeLine := Nat.le_of_lt (sizeLine_ge h)
theorem pos_of {a c : Nat} (h : a ≤ c) (n : ¬ a = c) : 0 < c := by omega
/-! ### operators on numbers that are not negative -/
def rN (C : Nat → Nat → Prop) (g : Nat → Nat → Nat) : R2 := fun x y H Q => ∃ a b : Nat, x = .int (a : Nat) ∧ y = .int (b : Nat) ∧ C a b ∧ Q (.int ((g a b : Nat) : Int)) H
section
variable {X : Cx}
theorem opN {f : Value → Value → Sem Value} {C : Nat → Nat → Prop} {g : Nat → Nat → Nat} {CI : Int → Int → Prop} {gI : Int → Int → V} (h : OpR X f (rI CI gI)) (e : ∀ a b : Nat, C a b → CI (a : Nat) (b : Nat) ∧ gI (a : Nat) (b : Nat) = .int ((g a b : Nat) : Int)) : OpR X f (rN C g) := by
  intro pins s σ H x y v u Q I rx ry hq
  obtain ⟨a, b, ex, ey, hc, q⟩ := hq
  obtain ⟨h1, h2⟩ := e a b hc
  exact h pins s σ H x y v u Q I rx ry ⟨_, _, ex, ey, h1, by rw [h2]; exact q⟩
theorem opN0 {f : Value → Value → Sem Value} {C : Nat → Nat → Prop} {g : Nat → Nat → Nat} {gI : Int → Int → V} (h : OpR X f (rI0 gI)) (e : ∀ a b : Nat, C a b → gI (a : Nat) (b : Nat) = .int ((g a b : Nat) : Int)) : OpR X f (rN C g) := by
  intro pins s σ H x y v u Q I rx ry hq
  obtain ⟨a, b, ex, ey, hc, q⟩ := hq
  exact h pins s σ H x y v u Q I rx ry ⟨_, _, ex, ey, by rw [e a b hc]; exact q⟩
def NDiv (_ b : Nat) : Prop := 0 < b ∧ b < 2 ^ 9000
def NMod (_ b : Nat) : Prop := 0 < b
def NSub (a b : Nat) : Prop := b ≤ a
def NMul (a b : Nat) : Prop := IntMulOk (a : Int) (b : Int)
def NAny (_ _ : Nat) : Prop := True
theorem op_divN : OpR X (binaryOp .FloorDiv) (rN NDiv fun a b => a / b) := opN op_fdivW fun a b h => ⟨wide_div (b := 9000) (Int.natCast_pos.mpr h.1) h.2 (by decide) (Nat.le_refl _), rfl⟩
theorem op_remN : OpR X (binaryOp .Mod) (rN NMod fun a b => a % b) := opN op_mod fun a b h => ⟨Int.natCast_pos.mpr h, rfl⟩
theorem op_mulN : OpR X (binaryOp .Mult) (rN NMul fun a b => a * b) := opN op_mulA fun a b h => ⟨h, congrArg V.int (Int.natCast_mul a b).symm⟩
theorem op_addN : OpR X (binaryOp .Add) (rN NAny fun a b => a + b) := opN0 op_add fun _ _ _ => rfl
theorem op_subN : OpR X (binaryOp .Sub) (rN NSub fun a b => a - b) := opN0 op_sub fun a b h => congrArg V.int (Int.natCast_sub h).symm
end
theorem ndiv {a b : Nat} (t : Nat) (h : 0 < b) (h2 : b < 2 ^ t) (ht : t ≤ 9000 := by decide) : NDiv a b := ⟨h, Nat.lt_of_lt_of_le h2 (Nat.pow_le_pow_right (by decide) ht)⟩
theorem nmul_l {a b : Nat} (h : a < 2 ^ 64) : NMul a b := mul_l (by omega) (by omega)
theorem nmul_r {a b : Nat} (h : b < 2 ^ 64) : NMul a b := mul_r (by omega) (by omega)
theorem nmul_w {a b : Nat} (i j : Nat) (ha : a < 2 ^ i) (hb : b < 2 ^ j) (h0 : 0 < i := by decide) (h1 : 0 < j := by decide) (h : i + j ≤ 1000000 := by decide) : NMul a b := mul_w i j ha hb h0 h1 h
theorem int_ne {a b : Nat} (h : a ≠ b) : decide (V.int (a : Nat) = V.int (b : Nat)) = false := decide_eq_false fun e => h (Int.ofNat.inj (V.int.inj e))
theorem dT {p : Prop} [Decidable p] (h : p) : V.bl (decide p) = V.bl true := congrArg V.bl (decide_eq_true h)
theorem dF {p : Prop} [Decidable p] (h : ¬ p) : V.bl (decide p) = V.bl false := congrArg V.bl (decide_eq_false h)
theorem nT {p : Prop} [Decidable p] (h : ¬ p) : V.bl (!decide p) = V.bl true := congrArg V.bl (congrArg (!·) (decide_eq_false h))
theorem nF {p : Prop} [Decidable p] (h : p) : V.bl (!decide p) = V.bl false := congrArg V.bl (congrArg (!·) (decide_eq_true h))
theorem vN {a b : Nat} (h : a ≠ b) : ¬ V.int (a : Nat) = V.int (b : Nat) := fun e => h (Int.ofNat.inj (V.int.inj e))
theorem vE {a b : Nat} (h : a = b) : V.int (a : Nat) = V.int (b : Nat) := congrArg (fun c : Nat => V.int (c : Nat)) h
theorem vI {a b : Int} (h : a ≠ b) : ¬ V.int a = V.int b := fun e => h (V.int.inj e)
/-! ### rules with the written part named (within a comprehension's block) -/
section
variable {X : Cx} {K : PySem.W.Frag}
theorem ix_tupK (e : X.K = K) : IxR X (rIxT K) := by subst e; exact ix_tup
theorem ix_listK (e : X.K = K) : IxR X (rIxL K) := by subst e; exact ix_list
theorem sl_tupK (e : X.K = K) : SlR X (rSlT K) := by subst e; exact sl_tup
theorem sl_listK (e : X.K = K) : SlR X (rSlL K) := by subst e; exact sl_list
theorem op_eqK (e : X.K = K) (hu : X.A.units + 64 < cLine) : OpR X (compareOp .Eq) (rEqD K) := by subst e; exact op_eqD hu
theorem op_neK (e : X.K = K) (hu : X.A.units + 64 < cLine) : OpR X (compareOp .NotEq) (rNeD K) := by subst e; exact op_neD hu
theorem isiK (e : X.K = K) : CallR X (.builtin "isinstance") (rIsi K) := by subst e; exact call_isi
def rLenK (K : PySem.W.Frag) : List V → Hp → VK → Prop := fun xs H Q => ∃ p ys, xs = [.ref p] ∧ (SqL K H p ys ∨ SqT K H p ys) ∧ Q (.int ys.length) H
theorem lenK (e : X.K = K) : CallR X (.builtin "len") (rLenK K) := by subst e; exact call_len_seq
theorem allK (e : X.K = K) (hc : X.calm = true) : CallR X (.builtin "all") (rAll K) := by subst e; exact cr_all hc
theorem sumK (e : X.K = K) (hc : X.calm = true) : CallR X (.builtin "sum") (rSum K) := by subst e; exact cr_sum hc
theorem maxK (e : X.K = K) (hc : X.calm = true) : CallR X (.builtin "max") (rMax K) := by subst e; exact cr_max hc
theorem minK (e : X.K = K) (hc : X.calm = true) : CallR X (.builtin "min") (rMin K) := by subst e; exact cr_min hc
theorem anyK (e : X.K = K) (hc : X.calm = true) : CallR X (.builtin "any") (rAny K) := by subst e; exact cr_any hc
end
section
variable {X : Cx} {K : PySem.W.Frag}
theorem ix_ltK (e : X.K = K) : IxR X (fun x y H Q => rIxL K x y H Q ∨ rIxT K x y H Q) := by subst e; exact ix_list.or ix_tup
theorem pe_orTK {a b : Expr} {ta tb : TE} {rest : List Expr} {pos : Pos} (e : X.K = K) (ha : PE X a ta) (hb : PE X (.BoolOp .Or (b :: rest) pos) tb) : PE X (.BoolOp .Or (a :: b :: rest) pos) (tOrT K ta tb) := by subst e; exact pe_orT ha hb
end
theorem yesT {σ : L2.St} {H : Hp} {Q : Bool → Hp → Prop} (h : Q true H) : tYes σ H Q := h
section
variable {X : Cx} {K : PySem.W.Frag}
theorem pg_tupK {es : List Expr} {k : Nat} {t : TGs} {n : Nat} {pos : Pos} (e : X.K = K) (hc : X.calm = true) (h : PGs X es t)
    (hn : (assignEach es X.env).length = n := by rfl) (hst : (assignEach es X.env).findIdx? (·.1) = none := by rfl) : PG X (.Tuple es k pos) (gTup K n t) := by
  subst e
  exact pg_tup hc h hn hst
end
theorem tyx_list {K : PySem.W.Frag} {H : Hp} {a : Addr} {xs : List V} (h : SqL K H a xs) : TyX K H (.ref a) (.type "list") := by
  rcases h with (h | ⟨o, h⟩) | ⟨o, its, n, h, hc, _⟩
  · exact .base (.lst h)
  · exact .base (.frz h)
  · exact .kList h hc
/-- max and min of two numbers that are not negative -/
def rNN (g : Nat → Nat → Nat) : List V → Hp → VK → Prop := fun xs H Q => ∃ a b : Nat, xs = [.int (a : Nat), .int (b : Nat)] ∧ Q (.int ((g a b : Nat) : Int)) H
section
variable {X : Cx}
theorem max2N (hc : X.calm = true) : CallR X (.builtin "max") (rNN max) := by
  intro pins s σ H xs us Q I r h
  obtain ⟨a, b, rfl, q⟩ := h
  refine call_max2 hc pins s σ H _ us Q I r ⟨_, _, rfl, ?_⟩
  have e : (if (b : Int) > (a : Int) then (b : Int) else (a : Int)) = ((max a b : Nat) : Int) := by split <;> omega
  rw [e]
  exact q
theorem max0N (hc : X.calm = true) : CallR X (.builtin "max") (fun xs H Q => ∃ (z : Int) (n : Nat), xs = [.int 0, .int z] ∧ (if z > 0 then z else 0) = (n : Int) ∧ Q (.int (n : Nat)) H) := by
  intro pins s σ H xs us Q I r h
  obtain ⟨z, n, rfl, e, q⟩ := h
  refine call_max2 hc pins s σ H _ us Q I r ⟨0, z, rfl, ?_⟩
  rw [e]
  exact q
theorem min2N (hc : X.calm = true) : CallR X (.builtin "min") (rNN min) := by
  intro pins s σ H xs us Q I r h
  obtain ⟨a, b, rfl, q⟩ := h
  refine call_min2 hc pins s σ H _ us Q I r ⟨_, _, rfl, ?_⟩
  have e : (if (b : Int) < (a : Int) then (b : Int) else (a : Int)) = ((min a b : Nat) : Int) := by split <;> omega
  rw [e]
  exact q
end
/-- one rest behind several ways -/
theorem cut_at {α : Type} {I : α → Hp → Prop} {G : Prop} (R : α → Hp → Prop) (h1 : (∀ a H, I a H → R a H) → G) (h2 : ∀ a H, I a H → R a H) : G := h1 h2
theorem cut_rest {I : Hp → Prop} {G : Prop} (R : Hp → Prop) (h1 : (∀ H, I H → R H) → G) (h2 : ∀ H, I H → R H) : G := h1 h2
/-! ### range over numbers of any size -/
theorem turn_long {P : Program} {w : World} {K : PySem.W.Frag} {tg : Expr} (r : Addr) (lo c : Int) (n : Nat) :
    Turn P w K tg (Itc lo c n) [r] r (fun i hp => IsLongIter hp r (lo + (i : Nat) * c) ((n : Int) - (i : Nat)) c) where
  mem := List.mem_singleton.mpr rfl
  obj := fun _ _ here b hb => by
    cases List.mem_singleton.mp hb
    exact ⟨_, here, fun _ z => nomatch z⟩
  keep := fun _ _ _ here same => same r (List.mem_singleton.mpr rfl) _ here
  item := by
    intro Y y1 y2 y3 calm i pins s σ H E inv own here more
    subst y1; subst y2; subst y3
    have o := own r (List.mem_singleton.mpr rfl)
    refine (Walks.longrange (prog := Y.prog) (w := Y.w) (inv.ok.hd calm) r lo c n).item i s _ _ more here fun v h2 k hv next keep => ?_
    obtain ⟨t, rfl⟩ := hv
    have inv2 : Inv Y pins σ H { s with heap := h2, toks := k } := inv.turned (fun b ob hb e => keep b ob (fun z => hb (List.mem_singleton.mp z)) e) o.1 o.2.1 o.2.2.2.1 o.2.2.2.2.1 o.2.2.2.2.2
    have stay : ∀ b ∈ [r], H b = none := fun b hb => (own b hb).1
    exact ⟨_, rfl, go_of (s := { s with heap := h2, toks := k }) (n := "longrange_iterator") next rfl rfl (by decide) ⟨.int (lo + (i : Nat) * c), H, inv2, ⟨t, rfl⟩, ⟨rfl, rfl⟩, next, stay⟩⟩
  done := by
    intro Y y1 y2 y3 calm i pins s σ H E inv own here over
    subst y1; subst y2; subst y3
    have o := own r (List.mem_singleton.mpr rfl)
    have le : n ≤ i := over
    exact wpAny_pyNext_long_end (inv.ok.hd calm) here (by omega) fun h2 same => ⟨rfl, inv.turned (t' := s.toks) (fun b ob hb e => same b ob hb e) o.1 o.2.1 o.2.2.2.1 o.2.2.2.2.1 o.2.2.2.2.2⟩
  self := fun _ _ _ _ _ here h => wpAny_pyIter_longiter here h
/-- a range object just made, whatever its size -/
theorem range_wide {X : Cx} {tg : Expr} {pins : List (Addr × Obj)} {σ : L2.St} {H : Hp} {s : Shared} {R : It → Hp → Prop} {E : Value → Shared → Prop} {lo hi c : Int} {t u v : Tok} {tk n : Nat} (I : Inv X pins σ H s)
    (hn : Builtin.Range.rangeSize lo hi c = n) (q : R (Itc lo c n) H) :
    wpAny (model X.prog X.w) X.A (pyIter (.ref s.heap.objs.size)) (PIE X pins σ tg R) E { s with heap := s.heap.push { cls := .type "range", data := .fields #[.int lo t, .int hi u, .int c v] }, toks := tk } := by
  have made : Inv X pins σ H { s with heap := s.heap.push { cls := .type "range", data := .fields #[.int lo t, .int hi u, .int c v] }, toks := tk } := I.kept fun b ob e => Heap.get?_push_of_some _ e
  have e0 : lo + ((0 : Nat) : Int) * c = lo := by simp
  have e9 : (n : Int) - ((0 : Nat) : Int) = Builtin.Range.rangeSize lo hi c := by
    rw [hn]
    simp
  cases small : Builtin.Range.small lo hi c with
  | true =>
    refine wpAny_pyIter_range (IsRange.new ..) small (pi_one (tk := tk) made _ (turn_rangeC _ lo c n) ?_ q)
    show IsRangeIter _ _ (lo + ((0 : Nat) : Int) * c) ((n : Int) - ((0 : Nat) : Int)) c
    rw [e0, e9]
    exact Heap.get?_push_size _ rfl
  | false =>
    refine wpAny_pyIter_longrange (IsRange.new ..) small (pi_one (tk := tk) made _ (turn_long _ lo c n) ?_ q)
    show IsLongIter _ _ (lo + ((0 : Nat) : Int) * c) ((n : Int) - ((0 : Nat) : Int)) c
    rw [e0, e9]
    exact Heap.get?_push_size _ rfl
theorem itc_one (lo : Int) (n : Nat) : Itc lo 1 n = Itr lo n := by
  unfold Itc Itr
  congr 1
  funext i H x H'
  rw [Int.mul_one]
def iWide2 (ta : TA) : TI := fun σ H R => ta σ H fun vs H1 => ∃ i j : Int, vs = [.int i, .int j] ∧ R (Itr i (j - i).toNat) H1
def iWide3 (ta : TA) : TI := fun σ H R => ta σ H fun vs H1 => ∃ (i j c : Int) (n : Nat), vs = [.int i, .int j, .int c] ∧ CDivP (j - i) c ∧ Builtin.Range.rangeSize i j c = n ∧ R (Itc i c n) H1
section
variable {X : Cx} {tg : Expr}
theorem pi_wide2 {a b : Expr} {ta : TA} {p pos : Pos} (hg : Gl X "range") (hm : X.mg "range" = none) (ha : PA X [a, b] ta) (h2 : starEach [a, b] X.env = [(false, eval a X.env), (false, eval b X.env)] := by rfl) (h1 : starEach [b] X.env = [(false, eval b X.env)] := by rfl) :
    PI X tg (.Call (.Name "range" p) [a, b] [] pos) (iWide2 ta) := by
  refine ⟨fun pins s σ H R I h => Call_ (ld_blt I hg hm boot_range (PyProof.Rows.callWith_type1 (thn (ha.run pos pins s σ H _ I h) fun us s1 ⟨vs, H1, I1, r1, q1⟩ => ?_) (by rw [h2, h1]) (by rw [h1]; rfl)))⟩
  obtain ⟨i, j, rfl, q⟩ := q1
  obtain ⟨u1, u2, rfl, ⟨t, rfl⟩, ⟨t', rfl⟩⟩ := vals2 r1
  refine call_range_2 (range_wide (n := (j - i).toNat) I1 ?_ (by rw [itc_one]; exact q))
  rw [rangeSize_one]
  split <;> omega
theorem pi_wide3 {a b c : Expr} {ta : TA} {p pos : Pos} (hg : Gl X "range") (hm : X.mg "range" = none) (ha : PA X [a, b, c] ta)
    (h3 : starEach [a, b, c] X.env = (false, eval a X.env) :: starEach [b, c] X.env := by rfl) (hn : (backTo pos (starEach [b, c] X.env)).any (·.1) = false := by rfl) :
    PI X tg (.Call (.Name "range" p) [a, b, c] [] pos) (iWide3 ta) := by
  refine ⟨fun pins s σ H R I h => Call_ (ld_blt I hg hm boot_range (PyProof.Rows.callWith_type1 (thn (ha.run pos pins s σ H _ I h) fun us s1 ⟨vs, H1, I1, r1, q1⟩ => ?_) h3 hn))⟩
  obtain ⟨i, j, k, n, rfl, hk, hz, q⟩ := q1
  cases r1 with
  | cons ra rr =>
    obtain ⟨u2, u3, rfl, ⟨t', rfl⟩, ⟨t'', rfl⟩⟩ := vals2 rr
    obtain ⟨t, rfl⟩ := ra
    have k0 : k ≠ 0 := fun z => by
      have := hk.1
      omega
    exact call_range_3 k0 (range_wide (tk := s1.toks) I1 hz q) (.inl hk.2)
end
/-- a list made over a range with a step -/
theorem lc_step {lo c : Int} {n : Nat} {g : TG} {tt : TT} {te : TE} {ws : List Nat} {σ : L2.St} {G : Hp} {D : Addr} {Qd : Hp → Prop} (Pv : Nat → Hp → Prop) (start : Pv 0 (upd G D (.lst [])))
    (step : ∀ i G, i < n → Pv i G → g (.int (lo + (i : Nat) * c)) (wipe σ ws) G fun τ G2 => wipe τ ws = wipe σ ws ∧ tt τ G2 fun k G3 => if k = true then te τ G3 fun z G4 => ∃ ac, G4 D = some (.lst ac) ∧ ac.length < sizeLine ∧ Pv (i + 1) (upd G4 D (.lst (ac ++ [z]))) else Pv (i + 1) G3)
    (last : ∀ G, Pv n G → Qd G) : ∃ W : Nat → Nat → Hp → Prop, (∃ m, W 0 m (upd G D (.lst []))) ∧ ∀ i m G, W i m G → ((Itc lo c n).stop i G ∧ Qd G) ∨
      ((Itc lo c n).go i G ∧ ∃ N : Hp → Prop, (∀ G', N G' → ∃ m', m' < m ∧ W (i + 1) m' G') ∧ ∀ x G', (Itc lo c n).yld i G x G' → g x (wipe σ ws) G' fun τ G2 => wipe τ ws = wipe σ ws ∧ tt τ G2 fun k G3 => if k = true then te τ G3 fun z G4 => ∃ ac, G4 D = some (.lst ac) ∧ ac.length < sizeLine ∧ N (upd G4 D (.lst (ac ++ [z]))) else N G3) := by
  refine ⟨fun i m G => (m = n - i ∧ i ≤ n) ∧ Pv i G, ⟨n, ⟨rfl, Nat.zero_le _⟩, start⟩, ?_⟩
  rintro i m G ⟨⟨rfl, le⟩, pv⟩
  rcases Nat.lt_or_ge i n with lt | ge
  · exact .inr ⟨lt, Pv (i + 1), fun G' p' => ⟨n - (i + 1), by omega, ⟨rfl, lt⟩, p'⟩, fun x G' ⟨e1, e2⟩ => by
      rw [e1, e2]
      exact step i G lt pv⟩
  · have e : i = n := Nat.le_antisymm le ge
    rw [e] at pv ⊢
    exact .inl ⟨Nat.le_refl _, last G pv⟩
/-! ### rules that the layer lacks: min(.., default=None), sorted of a dict with pairs of ints as its keys -/
theorem minOf_spec : ∀ (x : Int) (xs : List Int), PySem.W.minOf x xs ∈ x :: xs ∧ ∀ y ∈ x :: xs, PySem.W.minOf x xs ≤ y := by
  intro x xs
  unfold PySem.W.minOf
  induction xs generalizing x with
  | nil =>
    refine ⟨List.mem_cons_self .., fun y hy => ?_⟩
    rcases List.mem_cons.mp hy with e | hy
    · rw [e]
      exact Int.le_refl _
    · cases hy
  | cons z zs ih =>
    have e : (PySem.W.DatumOrd.lt z x = true) ↔ z < x := by
      show decide (z < x) = true ↔ z < x
      exact decide_eq_true_iff
    rw [List.foldl_cons]
    obtain ⟨h1, h2⟩ := ih (if PySem.W.DatumOrd.lt z x = true then z else x)
    refine ⟨?_, fun y hy => ?_⟩
    · rcases List.mem_cons.mp h1 with e1 | h1
      · rw [e1]
        split
        · exact List.mem_cons_of_mem _ (List.mem_cons_self ..)
        · exact List.mem_cons_self ..
      · exact List.mem_cons_of_mem _ (List.mem_cons_of_mem _ h1)
    · have h3 := h2 _ (List.mem_cons_self ..)
      rcases List.mem_cons.mp hy with e1 | hy
      · rw [e1]
        by_cases c : z < x
        · rw [if_pos (e.mpr c)] at h3 ⊢
          omega
        · rw [if_neg (fun q => c (e.mp q))] at h3 ⊢
          exact h3
      · rcases List.mem_cons.mp hy with e1 | hy
        · rw [e1]
          by_cases c : z < x
          · rw [if_pos (e.mpr c)] at h3 ⊢
            exact h3
          · rw [if_neg (fun q => c (e.mp q))] at h3 ⊢
            omega
        · exact h2 y (List.mem_cons_of_mem _ hy)
def rMinD (K : PySem.W.Frag) : List V → List V → Hp → VK → Prop := fun vs zs H Q => ∃ (a : Addr) (ns : List Int), vs = [V.ref a] ∧ zs = [.non] ∧ SqL K H a (ns.map V.int) ∧ (ns = [] → Q .non H) ∧ ∀ v ∈ ns, (∀ x ∈ ns, v ≤ x) → Q (.int v) H
section
variable {X : Cx} {K : PySem.W.Frag}
theorem minDef (e : X.K = K) (hc : X.calm = true) (hu : X.A.units + 64 < cLine) : CallRK X (.builtin "min") [Str.ofString "default"] (rMinD K) := by
  subst e
  intro pins s σ H vs zs us ws Q I r rz h
  obtain ⟨a, ns, rfl, rfl, hs, q0, q1⟩ := h
  obtain ⟨its, rv, hl, hz⟩ := I.list hs
  obtain ⟨w1, rfl, e1⟩ := vals1 rz
  obtain rfl : w1 = Value.none := e1
  rw [Vals.ref1 r]
  have hi := rv.ints
  refine PySem.W.min_list_datum_default (α := Int) (xs := ns) (I.ok.hd hc) hl.isList (PySem.W.HoldAll.of_ints hi) (by show X.A.units + 1 + 0 < cLine; omega) (fun en h' tk hk => ?_) (fun y ys i v h' tk en hv hh hk => ?_)
  · exact ⟨.non, H, I.kept hk, rfl, q0 en⟩
  · obtain ⟨as, hr⟩ := hh
    have hm := minOf_spec y ys
    have ev : ∃ t, v = Value.int (PySem.W.minOf y ys) t := by
      cases hr
      exact ⟨_, rfl⟩
    obtain ⟨t, rfl⟩ := ev
    subst en
    exact ⟨.int _, H, I.kept hk, ⟨_, rfl⟩, q1 _ hm.1 hm.2⟩
end
/-! ### d.setdefault(t, x), t a tuple of whole numbers or texts -/
def rSetT : V → List V → Hp → VK → Prop := fun x xs H Q => ∃ (a : Addr) (kvs : List (List L2.Key × V)) (k : List L2.Key) (b : Addr) (d : V), x = .ref a ∧ xs = [.ref b, d] ∧ H a = some (.dT kvs) ∧ H b = some (.tup (k.map kV)) ∧ kvs.length < sizeLine ∧
  (∀ v, valV kvs k = some v → Q v H) ∧ (valV kvs k = none → Q d (upd H a (.dT (putK kvs k d))))
section
variable {X : Cx}
theorem mt_setT (hu : X.A.units + 1 < cLine) : MtR X "dict.setdefault" rSetT := by
  intro pins s σ H x xs v us Q I rx rxs h
  obtain ⟨a, kvs, k, b, d, rfl, rfl, ha, hb, hl, q1, q2⟩ := h
  cases rx
  obtain ⟨u1, u2, rfl, r1, r2⟩ := vals2 rxs
  cases r1
  obtain ⟨z, hd, xs', rel, dd⟩ := dt_of I.hok ha
  have hz : xs'.length ≤ sizeLine := by rw [← Paired.length rel]; exact z
  have hl2 : (putK kvs k d).length ≤ sizeLine := by have := length_putK kvs k d; omega
  refine PySem.call_setdefault_heap (tupleKind_room_in1 hu) (key_of I.hok hb) hd dd (fun p hp => ?_) (fun hn h' dd' hs => ?_) hz
  · have r := rel.val k
    rw [hp] at r
    cases ev : valV kvs k with
    | none =>
      rw [ev] at r
      exact (show False from r).elim
    | some v0 =>
      rw [ev] at r
      exact ⟨v0, H, I.tok _, r, q1 v0 ev⟩
  · have r := rel.val k
    rw [hn] at r
    have e : valV kvs k = none := by
      cases ev : valV kvs k with
      | none => rfl
      | some v0 =>
        rw [ev] at r
        exact (show False from r).elim
    obtain ⟨q, es, ep, hq, h2, h3, h4, _, h5⟩ := dd'
    exact ⟨d, upd H a (.dT (putK kvs k d)), d_write (ob := .dT (putK kvs k d)) I (by rw [ha]; exact True.intro) hs ⟨q, hq⟩ ⟨hl2, hd, _, (rel.put k hb r2).keeps fun c ys ec => (by rw [upd_ne (ne_of ec ha (fun z => nomatch z))]; exact ec), q, es, ep, hq, h2, h3, h4, h5⟩, r2, q2 e⟩
end
/-! ### sorted of a dict whose keys are pairs of whole numbers -/
def pairAt (H : Hp) : Value → Int × Int
  | .ref b => match H b with
    | some (.tup [.int i, .int j]) => (i, j)
    | _ => (0, 0)
  | _ => (0, 0)
theorem pairAt_of {H : Hp} {b : Addr} {i j : Int} (h : H b = some (.tup [.int i, .int j])) : pairAt H (.ref b) = (i, j) := by
  show (match H b with | some (.tup [.int i, .int j]) => (i, j) | _ => (0, 0)) = (i, j)
  rw [h]
def unRef : Value → Addr
  | .ref b => b
  | _ => 0
section
variable {X : Cx}
theorem call_sortedDT (hc : X.calm = true) : CallR X (.builtin "sorted") (fun xs H Q => ∃ (d : Addr) (kvs : List (List Key × V)) (ps : List (Int × Int)), xs = [V.ref d] ∧ Rd H d (.dT kvs) ∧ kvs.map (·.1) = ps.map (fun p => [Sum.inl p.1, Sum.inl p.2]) ∧
    ∀ (p : Addr) (bs : List Addr), H p = none → (bs.map fun b => pairAt H (.ref b)).Perm ps → (bs.map fun b => pairAt H (.ref b)).Pairwise (fun a b => SrtO.lexB b a = false) → (∀ b ∈ bs, H b = some (.tup [.int (pairAt H (.ref b)).1, .int (pairAt H (.ref b)).2])) → Q (.ref p) (upd H p (.lst (bs.map V.ref)))) := by
  intro pins s σ H xs us Q I r h
  obtain ⟨d, kvs, ps, rfl, hd, hps, q⟩ := h
  obtain ⟨u, rfl, rx⟩ := r.one
  cases rx
  obtain ⟨z, hs, ks, pr, o, es, ep, ho, hx, hdt, he, hn⟩ := (show ObjOk X.prog X.w H s.heap d (.dT kvs) from hd.ok I.hok)
  have l1 : es.size = ks.length := size_of_entries he
  have l2 : kvs.length = ks.length := Paired.length pr
  have ik : IsKeys H kvs (ks.map fun x => x.2.1) := isKeys_of pr
  -- what stands at the keys
  have keys : ∀ (kvs : List (List Key × V)) (ps : List (Int × Int)) (bs : List Addr), kvs.map (·.1) = ps.map (fun p => [Sum.inl p.1, Sum.inl p.2]) → IsKeys H kvs bs → bs.map (fun b => pairAt H (.ref b)) = ps ∧ ∀ b ∈ bs, H b = some (.tup [.int (pairAt H (.ref b)).1, .int (pairAt H (.ref b)).2]) := by
    intro kvs ps bs e1 e2
    induction e2 generalizing ps with
    | nil =>
      cases ps with
      | nil => exact ⟨rfl, fun b h => by cases h⟩
      | cons p ps => cases e1
    | cons h t ih =>
      cases ps with
      | nil => cases e1
      | cons p ps =>
        rw [List.map_cons, List.map_cons] at e1
        obtain ⟨e3, e4⟩ := List.cons.inj e1
        obtain ⟨i1, i2⟩ := ih ps e4
        rw [e3] at h
        have h' : H _ = some (.tup [.int p.1, .int p.2]) := h
        have hp := pairAt_of h'
        refine ⟨?_, fun b hb => ?_⟩
        · rw [List.map_cons, i1, hp]
        · rcases List.mem_cons.mp hb with e | hb
          · rw [e, hp]
            exact h'
          · exact i2 b hb
  obtain ⟨kp1, kp2⟩ := keys kvs ps _ hps ik
  refine Calls.call_function_entry PyProof.Rows.kind_sorted PyProof.Rows.plain_sorted PyProof.Rows.entry_sorted (PyProof.Rows.args_sorted1 _) ?_
  unfold Builtin.«sorted»
  refine wpAny_bind (m := checkCount "sorted" 1 1 _) (wpAny_pure ?_)
  refine wpAny_bind (PySem.W.kdu_collect (A := X.A.in1) (kdl_raw hs hx hdt) (I.ok.hd hc) ho (by omega) fun h' tk acc hk it => ?_)
  have ea : acc.toList = ks.map fun x => Value.ref x.2.1 := by
    have hl : acc.toList.length = ks.length := by rw [Array.length_toList, it.1]; exact l1
    apply List.ext_getElem?
    intro j
    rw [List.getElem?_map]
    cases hj : acc.toList[j]? with
    | none =>
      have h1 := List.getElem?_eq_none_iff.mp hj
      rw [List.getElem?_eq_none (by omega)]
      all_goals rfl
    | some v =>
      obtain ⟨en, hen, hv⟩ := it.2 j v (by rw [← Array.getElem?_toList]; exact hj)
      have qe := entry_at he j
      rw [hen] at qe
      cases hb : ks[j]? with
      | none =>
        rw [hb] at qe
        exact nomatch (show some en = none from qe)
      | some b =>
        rw [hb] at qe
        have e2 : en = entryOfKey (tupleKind (mixKind X.prog X.w)) b := Option.some.inj qe
        rw [hv, e2]
        all_goals rfl
  have I1 : Inv X pins σ H { s with heap := h', toks := tk } := I.kept hk
  have hal : acc.toList.length ≤ sizeLine := by
    rw [ea, List.length_map]
    omega
  refine wpAny_bind (wpAny_newList ?_ hal)
  have hoL : (h'.push (seqObj "list" acc.toList.toArray 0)).get? h'.objs.size = some (seqObj "list" acc.toList.toArray 0) := Heap.get?_push_size _ rfl
  show wpAny _ _ _ _ _ { s with heap := h'.push (seqObj "list" acc.toList.toArray 0), toks := tk }
  have hp : ∀ v ∈ acc.toList, Srt.IsPair (h'.push (seqObj "list" acc.toList.toArray 0)) v (pairAt H v).1 (pairAt H v).2 := fun v hv => by
    rw [ea] at hv
    obtain ⟨x, hxm, rfl⟩ := List.mem_map.mp hv
    have ht := kp2 x.2.1 (List.mem_map.mpr ⟨x, hxm, rfl⟩)
    obtain ⟨_, its2, r2, o2, ho2, hc2, n2, hd2⟩ := I1.hok _ _ ht
    obtain ⟨u1, u2, rfl, ri, rj⟩ := vals2 r2
    obtain ⟨t1, rfl⟩ := ri
    obtain ⟨t2, rfl⟩ := rj
    exact ⟨x.2.1, o2, t1, t2, n2, rfl, Heap.get?_push_of_some _ ho2, hc2, hd2⟩
  refine wpAny_bind (wpAny_holding (wpAny_call_entry PyProof.Rows.slot_list_sort ⟨_, hoL, rfl⟩ PyProof.Rows.entry_list_sort
    (SrtO.list_sort_ord (s := { s with heap := h'.push (seqObj "list" acc.toList.toArray 0), toks := tk }) (SrtO.swo_lex (pairAt H)) hoL hal (fun h2 => SrtO.pairs_sortableO (by omega) hp fun o e => ?_) fun out h1 h2 => ⟨_, rfl, ?_⟩) (PyProof.Rows.args_list_sort _)))
  · have e' : some o = some (seqObj "list" acc.toList.toArray 0) := e.symm.trans hoL
    cases e'
    intro c
    exact absurd (Value.type.inj c) (by decide)
  · obtain ⟨e', he'⟩ := PyProof.Rows.sortedHeap_at (vs := acc.toList) (out := out.toArray) hoL
    obtain ⟨bs, rfl, hbs⟩ : ∃ bs : List Addr, out = bs.map Value.ref ∧ bs.Perm (ks.map fun x => x.2.1) := by
      have hperm := h2.perm
      rw [ea] at hperm
      have e9 : (ks.map fun x => Value.ref x.2.1) = (ks.map fun x => x.2.1).map Value.ref := by rw [List.map_map]; rfl
      rw [e9] at hperm
      refine ⟨out.map unRef, ?_, ?_⟩
      · rw [List.map_map]
        have e11 : out.map (Value.ref ∘ unRef) = out.map id := List.map_congr_left fun v hv => by
          obtain ⟨b, _, rfl⟩ := List.mem_map.mp (hperm.mem_iff.mp hv)
          rfl
        rw [e11, List.map_id]
      · have z := hperm.map unRef
        rw [List.map_map] at z
        have e10 : ∀ l : List Addr, l.map (unRef ∘ Value.ref) = l := fun l => by
          induction l with
          | nil => rfl
          | cons a l ih => rw [List.map_cons, ih]; rfl
        rw [e10] at z
        exact z
    have hlen : (bs.map V.ref).length ≤ sizeLine := by
      rw [List.length_map, hbs.length_eq, List.length_map]
      omega
    have hkeys : (bs.map fun b => pairAt H (.ref b)).Perm ps := by
      have z := hbs.map fun b => pairAt H (.ref b)
      rw [kp1] at z
      exact z
    have hsort : (bs.map fun b => pairAt H (.ref b)).Pairwise (fun a b => SrtO.lexB b a = false) := by
      rw [List.pairwise_map]
      exact List.pairwise_map.mp h1
    refine wpAny_pure ⟨_, rfl, .ref h'.objs.size, upd H h'.objs.size (.lst (bs.map V.ref)), I1.laid (t' := tk) (fun b u e => ?_) (Nat.le_refl _)
      (show ObjOk X.prog X.w _ _ _ (.lst (bs.map V.ref)) from ⟨hlen, bs.map Value.ref, e', vals_refs bs, he'⟩), rfl, q _ bs (I1.hok.fresh (Nat.le_refl _)) hkeys hsort fun b hb => kp2 b (hbs.mem_iff.mp hb)⟩
    have hb : b < h'.objs.size := Heap.lt_size e
    rw [PyProof.Rows.sortedHeap_old (Nat.ne_of_lt hb) (by rw [size_push']; exact Nat.lt_succ_of_lt hb)]
    exact Heap.get?_push_of_some _ e
end
/-! ### len(o) of an object with a __len__ of its own -/
section
variable {X : Cx}
def Cx.in1 (X : Cx) : Cx := { X with A := X.A.in1 }
theorem Ok.in1 (o : X.Ok) : (Cx.in1 X).Ok := ⟨o.mod, o.kind, o.glob, o.blt, o.above, o.inj, o.has, o.cab, o.hd, o.frames, o.stk, o.exf, o.bs, o.bsz, o.noex, o.exfs, o.funs, o.frf⟩
theorem Ok.out1 (o : (Cx.in1 X).Ok) : X.Ok := ⟨o.mod, o.kind, o.glob, o.blt, o.above, o.inj, o.has, o.cab, o.hd, o.frames, o.stk, o.exf, o.bs, o.bsz, o.noex, o.exfs, o.funs, o.frf⟩
theorem inv_in1 {pins : List (Addr × Obj)} {σ : L2.St} {H : Hp} {s : Shared} (I : Inv X pins σ H s) : Inv (Cx.in1 X) pins σ H s := ⟨Ok.in1 I.ok, I.os, I.bare, I.base, I.loc, I.cell, I.free, I.freeC, I.pin, I.hok, I.len⟩
theorem inv_out1 {pins : List (Addr × Obj)} {σ : L2.St} {H : Hp} {s : Shared} (I : Inv (Cx.in1 X) pins σ H s) : Inv X pins σ H s := ⟨Ok.out1 I.ok, I.os, I.bare, I.base, I.loc, I.cell, I.free, I.freeC, I.pin, I.hok, I.len⟩
def rLenM (C : Addr) (sp : Sp) (E : XK) : List V → Hp → VK → Prop := fun xs H Q => ∃ (a dx : Addr) (fs : List (Str × V)), xs = [.ref a] ∧ H a = some (.ins C dx fs) ∧ sp [.ref a] H (fun v H' => ∃ n : Nat, v = .int (n : Nat) ∧ n < 2 ^ 62 ∧ Q (.int (n : Nat)) H') E
theorem call_lenM {CX : CXT} {C f : Addr} {fd : FuncData} {k : Nat} {sp : Sp} {E : XK} (hm : Meth X.K C "__len__" f) (F : FnOk X.prog X.w X.K X.mg X.base CX k f fd ["self"] sp) (hr : Room (k + 1) X.A) (hb : L2.Binds X.K fd ["self"] []) (hx : Passes CX X E) : CallR X (.builtin "len") (rLenM C sp E) := by
  intro pins s σ H xs us Q I r h
  obtain ⟨a, dx, fs, rfl, ea, q⟩ := h
  rw [Vals.ref1 r]
  obtain ⟨mA, om, _⟩ := ins_get I.hok ea
  obtain ⟨od, io, _⟩ := om.look
  obtain ⟨m, fr⟩ := I.fr
  have hx' : Passes CX (Cx.in1 X) E := fun pins σ H s e s' I' h => hx pins σ H s e s' (inv_out1 I') h
  have z := run_fn (X := Cx.in1 X) (dvs := []) (ds := []) F hr.in1 hb .nil hx' (inv_in1 I) (.cons (show RelV (.ref a) (.ref a) from rfl) .nil) q
  refine PySem.W.len_K fr I.ok.mod.kin io hm.at_ hm.fn (thn z fun u s' h => ?_)
  obtain ⟨v, H', I', rv, n, rfl, hn, qn⟩ := h
  obtain ⟨t, rfl⟩ := rv
  exact ⟨by omega, .int _, H', (inv_out1 I').tok _, ⟨_, rfl⟩, qn⟩
end
section
variable {X : Cx} {K : PySem.W.Frag}
theorem pe_fldK {o : Expr} {ta : TE} {f : Str} {pos : Pos} (e : X.K = K) (ho : PE X o ta) (hb : attributeBase o f X.env (eval o X.env) = eval o X.env) : PE X (.Attribute o f pos) (tFld K ta f) := by subst e; exact pe_fld ho hb
theorem pi_listK {l tg : Expr} {tl : TE} (e : X.K = K) (hl : PE X l tl) : PI X tg l (iList K tl) := by subst e; exact pi_list hl
end
section
variable {X : Cx} {K : PySem.W.Frag}
theorem op_catTK (e : X.K = K) : OpR X (binaryOp .Add) (rCatT K) := by subst e; exact op_catT
end
/-! ### sorted of a dict whose keys are whole numbers, any number of them -/
section
variable {X : Cx}
theorem keys_ints {es : List Value} : ∀ {ks : List Int}, es.length = ks.length → (∀ (j : Nat) (v : Value), es[j]? = some v → ∃ y t, ks[j]? = some y ∧ v = .int y t) → PyProof.Rows.IntsAre es ks := fun {ks} hl h => by
  induction es generalizing ks with
  | nil =>
    cases ks with
    | nil => exact .nil
    | cons k ks => cases hl
  | cons e es ih =>
    cases ks with
    | nil => cases hl
    | cons k ks =>
      obtain ⟨y, t, h1, h2⟩ := h 0 e rfl
      cases Option.some.inj h1
      subst h2
      exact .cons _ _ (ih (Nat.succ.inj hl) fun j v hv => h (j + 1) v hv)
theorem call_sortedDIb (hc : X.calm = true) : CallR X (.builtin "sorted") (fun xs H Q => ∃ (d : Addr) (kvs : List (Key × V)) (ks : List Int), xs = [V.ref d] ∧ Rd H d (.dK kvs) ∧ kvs.map (·.1) = ks.map Sum.inl ∧ ks.length ≤ 100000 ∧
    ∀ (ys : List Int) (p : Addr), ys.Perm ks → ys.Pairwise (· ≤ ·) → H p = none → Q (.ref p) (upd H p (.lst (ys.map V.int)))) := by
  intro pins s σ H xs us Q I r h
  obtain ⟨d, kvs, ks, rfl, hd, hks, hlen, q⟩ := h
  obtain ⟨u, rfl, rx⟩ := r.one
  cases rx
  obtain ⟨z, lo, vs, rel, dd⟩ := dk_rd I.hok hd
  obtain ⟨ep, hat⟩ := dd.dictAt
  have hkeys : vs.map (·.1) = ks.map Sum.inl := rel.keys.symm.trans hks
  have l1 : vs.length = ks.length := by
    have y := congrArg List.length hkeys
    simpa using y
  have room : ks.length ≤ sizeLine := sizeLine_le (by omega)
  refine Calls.call_function_entry PyProof.Rows.kind_sorted PyProof.Rows.plain_sorted PyProof.Rows.entry_sorted (PyProof.Rows.args_sorted1 _) ?_
  unfold Builtin.«sorted»
  refine wpAny_bind (m := checkCount "sorted" 1 1 _) (wpAny_pure ?_)
  refine wpAny_bind (PySem.W.kdu_collect (A := X.A.in1) (PySem.W.kdl_dict (knd := mixKind X.prog X.w) (kvs := vs) (ep := ep) lo) (I.ok.hd hc) hat (by omega) fun h' tk acc hk it => ?_)
  have hal : acc.toList.length = ks.length := by rw [Array.length_toList, it.1, l1]
  have hI : PyProof.Rows.IntsAre acc.toList ks := keys_ints hal fun j v hv => by
    obtain ⟨k, x, e1, e2⟩ := it.2 j v (by rw [← Array.getElem?_toList]; exact hv)
    have e3 := congrArg (fun l : List Key => l[j]?) hkeys
    simp only [List.getElem?_map, e1] at e3
    cases e4 : ks[j]? with
    | none =>
      rw [e4] at e3
      cases e3
    | some y =>
      rw [e4] at e3
      have e5 : k = Sum.inl y := Option.some.inj e3
      subst e5
      rcases keyIs_shape (show keyIs (Sum.inl y) v = true from e2) with ⟨i, t, ek, ev⟩ | ⟨c, t, ek, _⟩
      · cases ek
        exact ⟨y, t, rfl, ev⟩
      · cases ek
  have I1 : Inv X pins σ H { s with heap := h', toks := tk } := I.kept hk
  have hroom : acc.toList.length ≤ sizeLine := by omega
  refine wpAny_bind (wpAny_newList ?_ hroom)
  have hoL : (h'.push (seqObj "list" acc.toList.toArray 0)).get? h'.objs.size = some (seqObj "list" acc.toList.toArray 0) := Heap.get?_push_size _ rfl
  show wpAny _ _ _ _ _ { s with heap := h'.push (seqObj "list" acc.toList.toArray 0), toks := tk }
  refine wpAny_bind (wpAny_holding (wpAny_call_entry PyProof.Rows.slot_list_sort ⟨_, hoL, rfl⟩ PyProof.Rows.entry_list_sort
    (SrtO.list_sort_ord (s := { s with heap := h'.push (seqObj "list" acc.toList.toArray 0), toks := tk }) SrtO.swo_int hoL hroom (fun h2 => SrtO.ints_sortable hI h2) fun out h1 h2 => ⟨_, rfl, ?_⟩) (PyProof.Rows.args_list_sort _)))
  obtain ⟨k1, k2, k3⟩ := SrtO.ints_out hI h1 h2
  obtain ⟨e', he'⟩ := PyProof.Rows.sortedHeap_at (vs := acc.toList) (out := out.toArray) hoL
  have hfin : ((out.map SrtO.iv).map V.int).length ≤ sizeLine := by
    rw [List.length_map, k2.length_eq]
    exact room
  refine wpAny_pure ⟨_, rfl, .ref h'.objs.size, upd H h'.objs.size (.lst ((out.map SrtO.iv).map V.int)), I1.laid (t' := tk) (fun b u e => ?_) (Nat.le_refl _)
    (show ObjOk X.prog X.w _ _ _ (.lst ((out.map SrtO.iv).map V.int)) from ⟨hfin, out, e', vals_of_ints k1, he'⟩), rfl, q _ _ k2 k3 (I1.hok.fresh (Nat.le_refl _))⟩
  have hb : b < h'.objs.size := Heap.lt_size e
  rw [PyProof.Rows.sortedHeap_old (Nat.ne_of_lt hb) (by rw [size_push']; exact Nat.lt_succ_of_lt hb)]
  exact Heap.get?_push_of_some _ e
end
/-! ### digits: the mathematics -/
/-- k is the level of d at n -/
def IsLev (b n d k : Nat) : Prop := n / b ^ (k + 1) = d / b ^ (k + 1) ∧ ∀ j, j < k → n / b ^ (j + 1) ≠ d / b ^ (j + 1)
abbrev Row3 := Nat × Nat × Nat
/-- the stations below level k -/
def tailOf (b d : Nat) : Nat → List Row3
  | 0 => []
  | k + 1 => if d / b ^ k % b ≠ 0 then (k, d / b ^ k % b, d / b ^ (k + 1) * b ^ (k + 1)) :: tailOf b d k else tailOf b d k
/-- the stations of a timer set at n, k its level -/
def rowsOf (b n d k : Nat) : List Row3 := (k, d / b ^ k % b, n) :: tailOf b d k
theorem div_succ (n b k : Nat) : n / b ^ (k + 1) = n / b ^ k / b := by
  rw [Nat.pow_succ, Nat.div_div_eq_div_mul]
theorem pow_pos' {b : Nat} (h : 2 ≤ b) (k : Nat) : 0 < b ^ k := Nat.pow_pos (by omega)
theorem IsLev.uniq {b n d k k' : Nat} (h : IsLev b n d k) (h' : IsLev b n d k') : k = k' := by
  rcases Nat.lt_trichotomy k k' with l | l | l
  · exact absurd h.1 (h'.2 k l)
  · exact l
  · exact absurd h'.1 (h.2 k' l)
theorem IsLev.ne {b n d k : Nat} (h : IsLev b n d k) (hnd : n < d) : n / b ^ k < d / b ^ k := by
  cases k with
  | zero =>
    rw [Nat.pow_zero, Nat.div_one, Nat.div_one]
    exact hnd
  | succ j =>
    have h1 := h.2 j (Nat.lt_succ_self j)
    have h2 : n / b ^ (j + 1) ≤ d / b ^ (j + 1) := Nat.div_le_div_right (Nat.le_of_lt hnd)
    omega
theorem IsLev.size {b n d k : Nat} (h : IsLev b n d k) (hb : 2 ≤ b) (hnd : n < d) : b ^ k ≤ d := by
  have h1 := h.ne hnd
  have h2 : 0 < d / b ^ k := Nat.lt_of_le_of_lt (Nat.zero_le _) h1
  exact (Nat.div_pos_iff.mp h2).2
theorem IsLev.digit {b n d k : Nat} (h : IsLev b n d k) (hnd : n < d) : n / b ^ k % b < d / b ^ k % b := by
  have h1 := h.ne hnd
  have h2 := h.1
  rw [div_succ, div_succ] at h2
  have e1 := Nat.div_add_mod (n / b ^ k) b
  have e2 := Nat.div_add_mod (d / b ^ k) b
  rw [h2] at e1
  omega
theorem pow_two_le {b : Nat} (hb : 2 ≤ b) (k : Nat) : 2 ^ k ≤ b ^ k := Nat.pow_le_pow_left hb k
theorem lev_small {b n d k t : Nat} (h : IsLev b n d k) (hb : 2 ≤ b) (hnd : n < d) (hd : d < 2 ^ t) : k < t := by
  have h1 := h.size hb hnd
  have h2 := pow_two_le hb k
  exact (Nat.pow_lt_pow_iff_right (by decide : 1 < 2)).mp (Nat.lt_of_le_of_lt (Nat.le_trans h2 h1) hd)
/-- cutting below: what two cuts beside one another differ by -/
theorem cut_step (b d k : Nat) : d / b ^ k * b ^ k = d / b ^ (k + 1) * b ^ (k + 1) + d / b ^ k % b * b ^ k := by
  rw [div_succ]
  have e := Nat.div_add_mod (d / b ^ k) b
  have e2 : b ^ (k + 1) = b * b ^ k := by rw [Nat.pow_succ, Nat.mul_comm]
  rw [e2, ← Nat.mul_assoc, ← Nat.add_mul, Nat.mul_comm (d / b ^ k / b) b, e]
theorem cut_le (b d k : Nat) : d / b ^ k * b ^ k ≤ d := Nat.div_mul_le_self d (b ^ k)
theorem cut_mono (b d : Nat) {j k : Nat} (h : j ≤ k) : d / b ^ k * b ^ k ≤ d / b ^ j * b ^ j := by
  induction k with
  | zero =>
    have e : j = 0 := by omega
    rw [e]
    exact Nat.le_refl _
  | succ k ih =>
    by_cases e : j = k + 1
    · rw [e]
      exact Nat.le_refl _
    · have h1 := ih (by omega)
      have h2 := cut_step b d k
      omega
theorem lt_cut {b n d k : Nat} (hb : 2 ≤ b) (h : n / b ^ k < d / b ^ k) : n < d / b ^ k * b ^ k := by
  have hp := pow_pos' hb k
  exact (Nat.div_lt_iff_lt_mul hp).mp h
theorem tail_len (b d : Nat) : ∀ k, (tailOf b d k).length ≤ k
  | 0 => Nat.le_refl _
  | k + 1 => by
    have ih := tail_len b d k
    unfold tailOf
    split
    · rw [List.length_cons]
      omega
    · omega
/-- a later tick that lies ahead of the next cut has the same level -/
theorem IsLev.later {b n d k t : Nat} (hb : 2 ≤ b) (h : IsLev b n d k) (hnd : n < d) (h1 : n ≤ t) (h2 : t < d / b ^ k * b ^ k) : IsLev b t d k := by
  have hp := pow_pos' hb k
  have hp1 := pow_pos' hb (k + 1)
  have htd : t < d := Nat.lt_of_lt_of_le h2 (cut_le b d k)
  refine ⟨?_, fun j hj => ?_⟩
  · have a1 : n / b ^ (k + 1) ≤ t / b ^ (k + 1) := Nat.div_le_div_right h1
    have a2 : t / b ^ (k + 1) ≤ d / b ^ (k + 1) := Nat.div_le_div_right (Nat.le_of_lt htd)
    have a3 := h.1
    omega
  · have a1 : t / b ^ k < d / b ^ k := (Nat.div_lt_iff_lt_mul hp).mpr h2
    intro e
    have e2 : k = (j + 1) + (k - (j + 1)) := by omega
    rw [e2, Nat.pow_add, ← Nat.div_div_eq_div_mul, ← Nat.div_div_eq_div_mul, e] at a1
    omega
/-! ### exceptions: defs that may raise, any value as an argument -/
section
variable {P : Program} {w : World} {K : PySem.W.Frag} {mg : Str → Option Value} {base : Heap}
/-- as Has, for a def that may raise -/
def HasX (P : Program) (w : World) (K : PySem.W.Frag) (mg : Str → Option Value) (base : Heap) (k : Nat) (x : Str) (ps : List Str) (dvs : List V) (sp : Sp) : Prop :=
  ∃ (f : Addr) (fd : FuncData) (ds : List Value), FnOk P w K mg base (L2.CX P w) k f fd ps sp ∧ mg x = some (.ref f) ∧ PySem.W.keepIn K (.ref f) = true ∧ Binds K fd ps ds ∧ Vals dvs ds
def HasMX (P : Program) (w : World) (K : PySem.W.Frag) (mg : Str → Option Value) (base : Heap) (k : Nat) (C : Addr) (m : Str) (ps : List Str) (dvs : List V) (sp : Sp) : Prop :=
  ∃ (f : Addr) (fd : FuncData) (ds : List Value), FnOk P w K mg base (L2.CX P w) k f fd ps sp ∧ Meth K C m f ∧ Binds K fd ps ds ∧ Vals dvs ds
theorem Df.hasX {k : Nat} {x : Str} {st : Stmt} {ps : List Str} {sp : Sp} (D : Df K mg x st ps) (ok : ∀ f fd, Fun K x x st f fd → FnOk P w K mg base (L2.CX P w) k f fd ps sp) : HasX P w K mg base k x ps [] sp := by
  obtain ⟨f, fd, F, m, b⟩ := D
  exact ⟨f, fd, [], ok f fd F, m, F.kp, b, .nil⟩
theorem Dd.hasX {k : Nat} {x : Str} {st : Stmt} {ps : List Str} {d : V} {sp : Sp} (D : Dd K mg x st ps d) (ok : ∀ f fd, FunD K x x (defArgs st) (defBody st) (defScope st) [d] [] f fd → FnOk P w K mg base (L2.CX P w) k f fd ps sp) :
    HasX P w K mg base k x ps [d] sp ∧ HasX P w K mg base k x ps [] sp := by
  obtain ⟨f, fd, F, m, ⟨ds, r, b⟩, b0⟩ := D
  exact ⟨⟨f, fd, ds, ok f fd F, m, F.kp, b, r⟩, ⟨f, fd, [], ok f fd F, m, F.kp, b0, .nil⟩⟩
/-- what the top leaves of an error's class -/
structure EC (K : PySem.W.Frag) (mg : Str → Option Value) (x : Str) (C : Addr) : Prop where
  g : mg x = some (.ref C)
  x : PySem.W.excIn K C [.type "ValueError", .type "Exception", .type "BaseException", .type "object"] "ValueError.__new__" = true
  k : PySem.W.keepIn K (.ref C) = true
  b : PySem.W.subIn K (.ref C) (.type "BaseException") = some true
  t : PySem.W.typeIn K (.ref C) = some (.type "type")
/-- a class by its name alone -/
structure EG (mg : Str → Option Value) (x : Str) (C : Addr) : Prop where
  g : mg x = some (.ref C)
/-- of which types what is no integer may be -/
inductive NoIntT : Value → Prop where
  | non : NoIntT (.type "NoneType")
  | bool : NoIntT (.type "bool")
  | str : NoIntT (.type "str")
  | flt : NoIntT (.type "float")
  | byt : NoIntT (.type "bytes")
  | list : NoIntT (.type "list")
  | tup : NoIntT (.type "tuple")
  | dict : NoIntT (.type "dict")
  | set : NoIntT (.type "set")
/-- what is no integer: any value but an int, a bool too -/
def NoInt (K : PySem.W.Frag) (H : Hp) (x : V) : Prop := ∃ t, TyX K H x t ∧ NoIntT t
theorem NoIntT.kit {t : Value} (h : NoIntT t) : (∃ i b, PySem.W.kitOne K t (.type "int") = some i ∧ PySem.W.kitOne K t (.type "bool") = some b ∧ (i = true → b = true)) := by
  cases h <;> first
    | exact ⟨false, false, kit_ty (by decide +kernel), kit_ty (by decide +kernel), fun z => by cases z⟩
    | exact ⟨true, true, kit_ty (by decide +kernel), kit_ty (by decide +kernel), fun _ => rfl⟩
section
variable {H : Hp}
theorem NoInt.of_non : NoInt K H .non := ⟨_, .base .non, .non⟩
theorem NoInt.of_bl (b : Bool) : NoInt K H (.bl b) := ⟨_, .base (.bl b), .bool⟩
theorem NoInt.of_str (s : Str) : NoInt K H (.str s) := ⟨_, .base (.str s), .str⟩
theorem NoInt.of_lst {a : Addr} {xs : List V} (e : H a = some (.lst xs)) : NoInt K H (.ref a) := ⟨_, .base (.lst e), .list⟩
theorem NoInt.of_tup {a : Addr} {xs : List V} (e : H a = some (.tup xs)) : NoInt K H (.ref a) := ⟨_, .base (.tup e), .tup⟩
theorem NoInt.of_dK {a : Addr} {kvs : List (Key × V)} (e : H a = some (.dK kvs)) : NoInt K H (.ref a) := ⟨_, .base (.dK e), .dict⟩
end
end
section
variable {X : Cx} {K : PySem.W.Frag}
theorem op_notInK (e : X.K = K) : OpR X (compareOp .NotIn) (rIn K true) := by subst e; exact op_notIn_seq
end
/-- what an error was made of stands at a; isinstance(e, X) of it -/
def rIsEX (K : PySem.W.Frag) (cls : Value) (d : Option Addr) (a : Addr) : List V → Hp → VK → Prop := fun xs H Q => ∃ D, cls = .ref D ∧ d = none ∧ ExcC K D ∧ rIsE K D a xs H Q
theorem isiE {X : Cx} {a : Addr} {cls : Value} {d : Option Addr} {oe : Obj} {pn : List (Addr × Obj)} (hz : Zc cls d oe) (hf : ∃ vs, oe.data = .fields vs) : CallR (X.suite a ((a, oe) :: pn)) (.builtin "isinstance") (rIsEX X.K cls d a) := by
  intro pins s σ H xs us Q I r h
  obtain ⟨D, rfl, rfl, hC, h⟩ := h
  exact call_isE hC hz hf pins s σ H xs us Q I r h
section
variable {X : Cx} {CX : CXT} {k : Nat} {f C : Addr} {fd : FuncData} {ps : List Str} {sp : Sp} {E : L2.St → XK} {m : Str} {pos apos : Pos} {e o : Expr} {es : List Expr} {ta : TE} {t : TA}
/-- o.m(e, ..) that may raise, the wish told at the slots of the moment -/
def tMethS (C : Addr) (m : Str) (sp : Sp) (E : L2.St → XK) (ta : TE) (t : TA) : TE := fun σ H Q => ta σ H fun x H1 => ∃ a dx fs, x = .ref a ∧ H1 a = some (.ins C dx fs) ∧ fs.lookup m = none ∧
  t σ H1 fun vs H2 => sp (x :: vs) H2 Q (E σ)
theorem pe_methS {pl : Sem Bool} (he : PE X o ta) (c : Cls X.K C) (hm : Meth X.K C m f) (F : FnOk X.prog X.w X.K X.mg X.base CX k f fd ps sp) (hr : Room k X.A) (hb : Binds X.K fd ps []) (hx : ∀ σ, PassesAt CX X σ (E σ)) (ha : PA X (e :: es) t)
    (hst : starEach (e :: es) X.env = (false, eval e X.env) :: starEach es X.env := by rfl) (hpl : (backTo pos (starEach es X.env)).any (·.1) = false := by rfl)
    (ht : eval (.Call (.Attribute o m apos) (e :: es) [] pos) X.env = (do
      let ov ← eval o X.env
      standAt apos.atName
      let (f, first) ← holding [ov] (getMethod ov m pl)
      callWith pos f first (backTo pos (starEach (e :: es) X.env)) (backToKw pos (keywordEach [] X.env))) := by rfl) :
    PE X (.Call (.Attribute o m apos) (e :: es) [] pos) (tMethS C m sp E ta t) := by
  refine ⟨fun pins s σ H Q I h => ?_⟩
  refine PySem.W.methodCall_KW (pl := pl) (thn (he.run pins s σ H _ I h) fun u s1 ⟨x, H1, I1, rx, a, dx, fs, ex, ea, l, q⟩ => ?_) ht
  subst ex
  obtain rfl : u = Value.ref a := rx
  refine getmeth_ok I1 ea c hm l ?_
  refine PySem.W.callWith_K (first := [.ref a]) (h₀ := X.base) I.ok.mod.kin hm.kp (thn (ha.run pos pins s1 σ H1 _ I1 q) fun us s2 ⟨vs, H2, I2, r, q2⟩ => ⟨I2.kIn, ?_⟩) hst hpl
  exact run_fnS (us := .ref a :: us) (vs := .ref a :: vs) F hr hb (hx σ) I2 (.cons rfl r) q2
end
/-! ### lambdas: a def whose code object is told, tables of code objects -/
section
variable {P : Program} {w : World} {K : PySem.W.Frag} {mg : Str → Option Value} {base : Heap}
/-- the name that the lambdas of the def q bear -/
def lamQ (q : Str) : Str := (q ++ ".<locals>.") ++ "<lambda>"
/-- a def as it stands behind the top, its code object told -/
structure FunC (K : PySem.W.Frag) (x : Str) (st : Stmt) (f : Addr) (fd : FuncData) (cdv : Value) : Prop where
  at_ : ∃ (oc kV doc pm ct : Value) (od an : Option Addr) (osl : Array (Option Value)),
    fd = PySem.W.fnOf x x (defArgs st) (defBody st) (defScope st) .none kV doc pm an cdv ct ∧ K.lookup f = some ⟨oc, od, .func fd, osl⟩ ∧ PySem.W.codeIn K cdv x = true
  kp : PySem.W.keepIn K (.ref f) = true
theorem funC_mk {x : Str} {st : Stmt} {f : Addr} {oc : Value} {od an : Option Addr} {osl : Array (Option Value)} {kV doc pm cdv ct : Value} (l : K.lookup f = some ⟨oc, od, .func (PySem.W.fnOf x x (defArgs st) (defBody st) (defScope st) .none kV doc pm an cdv ct), osl⟩)
    (c : PySem.W.codeIn K cdv x = true) (k : PySem.W.keepIn K (.ref f) = true) : FunC K x st f (PySem.W.fnOf x x (defArgs st) (defBody st) (defScope st) .none kV doc pm an cdv ct) cdv := ⟨⟨oc, kV, doc, pm, ct, od, an, osl, rfl, l, c⟩, k⟩
theorem FunC.fn {x : Str} {st : Stmt} {f : Addr} {fd : FuncData} {cdv : Value} (F : FunC K x st f fd cdv) : Fun K x x st f fd := by
  obtain ⟨⟨oc, kV, doc, pm, ct, od, an, osl, e1, e2, e3⟩, kp⟩ := F
  exact ⟨⟨oc, od, kV, doc, pm, an, cdv, ct, osl, e1, e2, e3⟩, kp⟩
theorem FunC.ok {x : Str} {st : Stmt} {f : Addr} {fd : FuncData} {cdv : Value} {N ps : List Str} {k : Nat} {sp : Sp} (F : FunC K x st f fd cdv) (S : FnScope N ps (defScope st)) (len : ∀ vs H Q E, sp vs H Q E → vs.length = ps.length)
    (hb : ∀ (A : Around) (outer : List Env) (s : Shared) (H : Hp) (vs : List V) (Q : VK) (E : XK), Room k (A.deeper (envOfC x (defScope st) s.heap.objs.size f cdv)) → sp vs H Q E →
      ∃ t, PSs (cxOf CX0 P w K mg base N x (defScope st) f cdv A outer s H E).nox (defBody st) t ∧ t { nx := fun _ H' => Q .non H', rt := Q } (start N vs) H) : FnOk P w K mg base CX0 (k + 1) f fd ps sp := by
  obtain ⟨⟨oc, kV, doc, pm, ct, od, an, osl, e1, e2, e3⟩, kp⟩ := F
  subst e1
  refine fn_of e2 e3 S len fun A outer s H vs Q E hr' hs' => ?_
  obtain ⟨t, h1, h2⟩ := hb A outer s H vs Q E hr' hs'
  exact ⟨t, h1.nox, h2⟩
end
theorem extN_same {H H1 : Hp} (s : Same H H1) : LamX.ExtN H H1 := fun b o e _ => s b o e
theorem ExtN.seq {K : PySem.W.Frag} {H H1 : Hp} {a : Addr} {xs : List V} (e : LamX.ExtN H H1) (h : SqL K H a xs) : SqL K H1 a xs := by
  rcases h with (h | ⟨o, h⟩) | h
  · exact .inl (.inl (e _ _ h (fun ps z => by cases z)))
  · exact .inl (.inr ⟨o, e _ _ h (fun ps z => by cases z)⟩)
  · exact .inr h
theorem Tabs.same {T : List (Addr × Str)} {H H1 : Hp} (t : LamX.Tabs T H) (s : Same H H1) : LamX.Tabs T H1 := t.ext s
/-! ### words of levels, sides -/
def lvV (b : Bool) : V := if b then .str "stack" else .str "queue"
def sdV (b : Bool) : V := if b then .str "front" else .str "back"
theorem lv_ne : ¬ (V.str "queue" = V.str "stack") := by decide
theorem lv_dec (b : Bool) : decide (lvV b = .str "stack") = b := by
  cases b
  · exact decide_eq_false lv_ne
  · exact decide_eq_true rfl
def wordAt (ws : List Bool) (k : Nat) : Bool := ws.getD (min k (ws.length - 1)) false
theorem word_get {ws : List Bool} (h : ws ≠ []) (k : Nat) : (ws.map lvV)[min k (ws.length - 1)]? = some (lvV (wordAt ws k)) := by
  have hl : min k (ws.length - 1) < ws.length := by
    have : 0 < ws.length := List.length_pos_iff.mpr h
    omega
  rw [List.getElem?_map, List.getElem?_eq_getElem hl]
  unfold wordAt
  rw [List.getD_eq_getElem?_getD, List.getElem?_eq_getElem hl]
  rfl
/-- whether an odd number of the rows, at levels from lo on, have the word stack -/
def frontOf (ws : List Bool) (lo : Nat) (rs : List Row3) : Bool := decide (rs.countP (fun r => decide (lo ≤ r.1) && wordAt ws r.1) % 2 = 1)
theorem odd_succ (c : Nat) : decide ((c + 1) % 2 = 1) = !decide (c % 2 = 1) := by
  by_cases h : c % 2 = 1
  · rw [decide_eq_true h, decide_eq_false (by omega)]
    rfl
  · rw [decide_eq_false h, decide_eq_true (by omega)]
    rfl
theorem front_snoc (ws : List Bool) (lo : Nat) (rs : List Row3) (r : Row3) : frontOf ws lo (rs ++ [r]) = if (decide (lo ≤ r.1) && wordAt ws r.1) = true then !frontOf ws lo rs else frontOf ws lo rs := by
  unfold frontOf
  rw [List.countP_append, List.countP_singleton]
  split
  · exact odd_succ _
  · rw [Nat.add_zero]
/-! ### the wheel as plain data -/
structure Tm where
  num : Nat
  due : Nat
  per : Option Nat
  since : Nat
def perV : Option Nat → V
  | none => .non
  | some k => .int (k : Nat)
def tmV (m : Tm) : List V := [.int (m.due : Nat), perV m.per, .int (m.since : Nat)]
open Classical in
noncomputable def sideT (b : Nat) (ws : List Bool) (n d lo : Nat) : Bool := if h : ∃ k, IsLev b n d k then frontOf ws lo (rowsOf b n d (Classical.choose h)) else false
theorem sideT_eq {b : Nat} {ws : List Bool} {n d lo k : Nat} (h : IsLev b n d k) : sideT b ws n d lo = frontOf ws lo (rowsOf b n d k) := by
  have e : ∃ k, IsLev b n d k := ⟨k, h⟩
  unfold sideT
  rw [dif_pos e, (Classical.choose_spec e).uniq h]
def insT (front : Bool) (n : Nat) (l : List Nat) : List Nat := if front then n :: l else l ++ [n]
noncomputable def orderAt (b : Nat) (ws : List Bool) (t : Nat) (ms : List Tm) : List Nat := ms.foldl (fun acc m => if m.due = t then insT (sideT b ws m.since m.due 0) m.num acc else acc) []
theorem order_snoc (b : Nat) (ws : List Bool) (t : Nat) (ms : List Tm) (m : Tm) : orderAt b ws t (ms ++ [m]) = if m.due = t then insT (sideT b ws m.since m.due 0) m.num (orderAt b ws t ms) else orderAt b ws t ms := by
  unfold orderAt
  rw [List.foldl_append]
  rfl
theorem insT_len (f : Bool) (n : Nat) (l : List Nat) : (insT f n l).length = l.length + 1 := by
  unfold insT
  split
  · rfl
  · rw [List.length_append]
    rfl
theorem insT_mem {f : Bool} {n x : Nat} {l : List Nat} : x ∈ insT f n l ↔ x = n ∨ x ∈ l := by
  unfold insT
  split
  · rw [List.mem_cons]
  · rw [List.mem_append, List.mem_singleton]
    exact Or.comm
theorem order_spec (b : Nat) (ws : List Bool) (t : Nat) (ms : List Tm) : ∀ n : Nat, (orderAt b ws t (ms.take n)).length = ((ms.take n).filter fun m => decide (m.due = t)).length ∧ ∀ x, x ∈ orderAt b ws t (ms.take n) ↔ ∃ m ∈ ms.take n, m.due = t ∧ m.num = x := by
  intro n
  induction n with
  | zero =>
    refine ⟨rfl, fun x => ?_⟩
    simp [orderAt]
  | succ n ih =>
    cases e : ms[n]? with
    | none =>
      have hl : ms.length ≤ n := List.getElem?_eq_none_iff.mp e
      rw [List.take_of_length_le (by omega)]
      rw [List.take_of_length_le hl] at ih
      exact ih
    | some m =>
      rw [List.take_add_one, e]
      show (orderAt b ws t (ms.take n ++ [m])).length = _ ∧ ∀ x, x ∈ orderAt b ws t (ms.take n ++ [m]) ↔ ∃ m' ∈ ms.take n ++ [m], _
      rw [order_snoc]
      rw [Option.toList_some, List.filter_append, List.length_append]
      by_cases h : m.due = t
      · rw [if_pos h, insT_len, ih.1]
        refine ⟨by simp [h], fun x => ?_⟩
        rw [insT_mem, ih.2 x]
        constructor
        · rintro (e | ⟨m', h1, h2⟩)
          · exact ⟨m, by simp, h, e.symm⟩
          · exact ⟨m', List.mem_append_left _ h1, h2⟩
        · rintro ⟨m', h1, h2, h3⟩
          rcases List.mem_append.mp h1 with h1 | h1
          · exact .inr ⟨m', h1, h2, h3⟩
          · rw [List.mem_singleton.mp h1] at h3
            exact .inl h3.symm
      · rw [if_neg h, ih.1]
        refine ⟨by simp [h], fun x => ?_⟩
        rw [ih.2 x]
        constructor
        · rintro ⟨m', h1, h2⟩
          exact ⟨m', List.mem_append_left _ h1, h2⟩
        · rintro ⟨m', h1, h2, h3⟩
          rcases List.mem_append.mp h1 with h1 | h1
          · exact ⟨m', h1, h2, h3⟩
          · rw [List.mem_singleton.mp h1] at h2
            exact absurd h2 h
theorem order_len (b : Nat) (ws : List Bool) (t : Nat) (ms : List Tm) : (orderAt b ws t ms).length = (ms.filter fun m => decide (m.due = t)).length := by
  have z := (order_spec b ws t ms ms.length).1
  rw [List.take_length] at z
  exact z
theorem order_mem {b : Nat} {ws : List Bool} {t : Nat} {ms : List Tm} {x : Nat} : x ∈ orderAt b ws t ms ↔ ∃ m ∈ ms, m.due = t ∧ m.num = x := by
  have z := (order_spec b ws t ms ms.length).2 x
  rw [List.take_length] at z
  exact z
def dropT (n : Nat) (ms : List Tm) : List Tm := ms.filter fun m => decide (m.num ≠ n)
/-- a timer fires: it goes, and comes back at the end if it has a period -/
def fireT (t : Nat) (ms : List Tm) (n : Nat) : List Tm := match ms.find? fun m => decide (m.num = n) with
  | none => ms
  | some m => match m.per with
    | none => dropT n ms
    | some k => dropT n ms ++ [⟨n, t + k, some k, t⟩]
def afterF (t : Nat) (ms : List Tm) (ns : List Nat) : List Tm := ns.foldl (fireT t) ms
def leastD (ms : List Tm) : Option Nat := (ms.map (·.due)).min?
theorem least_none {ms : List Tm} : leastD ms = none ↔ ms = [] := by
  unfold leastD
  rw [List.min?_eq_none_iff, List.map_eq_nil_iff]
theorem least_some {ms : List Tm} {v : Nat} : leastD ms = some v ↔ v ∈ ms.map (·.due) ∧ ∀ x ∈ ms.map (·.due), v ≤ x := by
  unfold leastD
  exact List.min?_eq_some_iff
structure WS where
  b : Nat
  ws : List Bool
  tick : Nat
  fol : Nat
  live : List Tm
/-- live timers as they may stand at a tick -/
structure TOk (tick fol : Nat) (m : Tm) : Prop where
  since : m.since ≤ tick
  due : tick < m.due
  big : m.due < 2 ^ 250
  num : m.num < fol
  per : ∀ k, m.per = some k → 1 ≤ k
structure WOk (W : WS) : Prop where
  b2 : 2 ≤ W.b
  b64 : W.b ≤ 64
  ne : W.ws ≠ []
  l60 : W.ws.length ≤ 60
  tms : ∀ m ∈ W.live, TOk W.tick W.fol m
  nd : (W.live.map (·.num)).Nodup
  few : W.live.length ≤ 1000
/-- what an advance to t lets fire, step by step -/
inductive AdvTo (b : Nat) (ws : List Bool) (t : Nat) : List Tm → List (Nat × List Nat) → List Tm → Prop where
  | done {ms : List Tm} (h : ∀ m ∈ ms, t < m.due) : AdvTo b ws t ms [] ms
  | step {ms ms' : List Tm} {at_ : Nat} {rest : List (Nat × List Nat)} (h : leastD ms = some at_) (hle : at_ ≤ t) (ok : ∀ m ∈ ms, m.since < m.due ∧ m.due < 2 ^ 250) (nd : (ms.map (·.num)).Nodup) (few : ms.length ≤ 1000)
    (r : AdvTo b ws t (afterF at_ ms (orderAt b ws at_ ms)) rest ms') : AdvTo b ws t ms ((at_, orderAt b ws at_ ms) :: rest) ms'
open Classical in
/-- the tick at which a timer leaves the list in which it stands at n -/
noncomputable def evT (b n d : Nat) : Nat := if h : ∃ k, IsLev b n d k then d / b ^ Classical.choose h * b ^ Classical.choose h else 0
theorem evT_eq {b n d k : Nat} (h : IsLev b n d k) : evT b n d = d / b ^ k * b ^ k := by
  have e : ∃ k, IsLev b n d k := ⟨k, h⟩
  unfold evT
  rw [dif_pos e, (Classical.choose_spec e).uniq h]
noncomputable def nextE (b n : Nat) (ms : List Tm) : Option Nat := (ms.map fun m => evT b n m.due).min?
def total (fs : List (Nat × List Nat)) : Nat := (fs.map fun f => f.2.length).sum
theorem order_pos {b : Nat} {ws : List Bool} {t : Nat} {ms : List Tm} (h : leastD ms = some t) : 0 < (orderAt b ws t ms).length := by
  obtain ⟨m, hm, e⟩ := List.mem_map.mp (least_some.mp h).1
  have z : m.num ∈ orderAt b ws t ms := order_mem.mpr ⟨m, hm, e, rfl⟩
  exact List.length_pos_of_mem z
theorem insT_nodup {f : Bool} {n : Nat} {l : List Nat} (h : l.Nodup) (hn : n ∉ l) : (insT f n l).Nodup := by
  unfold insT
  split
  · exact List.nodup_cons.mpr ⟨hn, h⟩
  · exact L2.nd_snoc h hn
theorem order_nodup {b : Nat} {ws : List Bool} {t : Nat} {ms : List Tm} (nd : (ms.map (·.num)).Nodup) : (orderAt b ws t ms).Nodup := by
  suffices H : ∀ n : Nat, (orderAt b ws t (ms.take n)).Nodup by
    have z := H ms.length
    rw [List.take_length] at z
    exact z
  intro n
  induction n with
  | zero => exact List.nodup_nil
  | succ n ih =>
    cases e : ms[n]? with
    | none =>
      have hl : ms.length ≤ n := List.getElem?_eq_none_iff.mp e
      rw [List.take_of_length_le (by omega)]
      rw [List.take_of_length_le hl] at ih
      exact ih
    | some m =>
      rw [List.take_add_one, e]
      show (orderAt b ws t (ms.take n ++ [m])).Nodup
      rw [order_snoc]
      split
      · refine insT_nodup ih fun hm => ?_
        obtain ⟨m', h1, _, h3⟩ := order_mem.mp hm
        obtain ⟨i, hi⟩ := List.getElem?_of_mem h1
        rw [List.getElem?_take] at hi
        split at hi
        · rename_i hlt
          have a1 : (ms.map (·.num))[i]? = some m.num := by rw [List.getElem?_map, hi, ← h3]; rfl
          have a2 : (ms.map (·.num))[n]? = some m.num := by rw [List.getElem?_map, e]; rfl
          have z := (List.getElem?_inj (List.getElem?_eq_some_iff.mp a1).1 nd).mp (a1.trans a2.symm)
          omega
        · cases hi
      · exact ih
/-! ### the lists of a wheel -/
abbrev Cell := (Nat × Nat) × List Nat
def keyC (p : Nat × Nat) : List Key := [Sum.inl (p.1 : Int), Sum.inl (p.2 : Int)]
theorem keyC_inj {p q : Nat × Nat} : keyC p = keyC q ↔ p = q := by
  constructor
  · intro h
    unfold keyC at h
    obtain ⟨h1, h2⟩ := List.cons.inj h
    have a := Int.ofNat.inj (Sum.inl.inj h1)
    have b := Int.ofNat.inj (Sum.inl.inj (List.cons.inj h2).1)
    exact Prod.ext a b
  · intro h
    rw [h]
def cellV : List Cell → Nat × Nat → List Nat
  | [], _ => []
  | c :: cs, p => if c.1 = p then c.2 else cellV cs p
def cellPut (rs : List Cell) (p : Nat × Nat) (ns : List Nat) : List Cell := if (rs.any fun c => decide (c.1 = p)) = true then rs.map (fun c => if c.1 = p then (c.1, ns) else c) else rs ++ [(p, ns)]
theorem cellV_map {p q : Nat × Nat} {ns : List Nat} : ∀ rs : List Cell, cellV (rs.map fun c => if c.1 = p then (c.1, ns) else c) q = if p = q ∧ (rs.any fun c => decide (c.1 = p)) = true then ns else cellV rs q
  | [] => by simp [cellV]
  | c :: cs => by
    have ih := cellV_map (p := p) (q := q) (ns := ns) cs
    rw [List.map_cons]
    by_cases h : c.1 = p
    · rw [if_pos h]
      by_cases h2 : p = q
      · have e : c.1 = q := h.trans h2
        rw [if_pos ⟨h2, by rw [List.any_cons, decide_eq_true h]; rfl⟩]
        show (if c.1 = q then ns else _) = ns
        rw [if_pos e]
      · have e : ¬ c.1 = q := fun z => h2 (h.symm.trans z)
        rw [if_neg (fun z => h2 z.1)]
        rw [if_neg (fun z => h2 z.1)] at ih
        show (if c.1 = q then ns else _) = if c.1 = q then c.2 else cellV cs q
        rw [if_neg e, if_neg e]
        exact ih
    · rw [if_neg h, List.any_cons, decide_eq_false h, Bool.false_or]
      show (if c.1 = q then c.2 else _) = _
      by_cases h2 : c.1 = q
      · have e : ¬ p = q := fun z => h (h2.trans z.symm)
        rw [if_pos h2, if_neg (fun z => e z.1)]
        show c.2 = if c.1 = q then c.2 else cellV cs q
        rw [if_pos h2]
      · rw [if_neg h2, ih]
        show _ = if _ then ns else (if c.1 = q then c.2 else cellV cs q)
        rw [if_neg h2]
theorem cellV_snoc {p q : Nat × Nat} {ns : List Nat} : ∀ rs : List Cell, (rs.any fun c => decide (c.1 = p)) = false → cellV (rs ++ [(p, ns)]) q = if p = q then ns else cellV rs q
  | [], _ => rfl
  | c :: cs, h => by
    rw [List.any_cons, Bool.or_eq_false_iff] at h
    have ih := cellV_snoc (q := q) (ns := ns) cs h.2
    have hc : ¬ c.1 = p := of_decide_eq_false h.1
    show (if c.1 = q then c.2 else cellV (cs ++ [(p, ns)]) q) = if p = q then ns else (if c.1 = q then c.2 else cellV cs q)
    rw [ih]
    by_cases h2 : p = q
    · rw [if_pos h2, if_pos h2, if_neg fun z => hc (z.trans h2.symm)]
    · rw [if_neg h2, if_neg h2]
theorem cellV_put {rs : List Cell} {p q : Nat × Nat} {ns : List Nat} : cellV (cellPut rs p ns) q = if p = q then ns else cellV rs q := by
  unfold cellPut
  by_cases h : (rs.any fun c => decide (c.1 = p)) = true
  · rw [if_pos h, cellV_map]
    by_cases h2 : p = q
    · rw [if_pos ⟨h2, h⟩, if_pos h2]
    · rw [if_neg (fun z => h2 z.1), if_neg h2]
  · rw [if_neg h]
    exact cellV_snoc rs (Bool.eq_false_iff.mpr h)
theorem cellPut_len (rs : List Cell) (p : Nat × Nat) (ns : List Nat) : (cellPut rs p ns).length ≤ rs.length + 1 := by
  unfold cellPut
  split
  · rw [List.length_map]
    omega
  · rw [List.length_append]
    exact Nat.le_refl _
theorem cellPut_keys {rs : List Cell} {p : Nat × Nat} {ns : List Nat} (nd : (rs.map (·.1)).Nodup) : ((cellPut rs p ns).map (·.1)).Nodup := by
  unfold cellPut
  by_cases h : (rs.any fun c => decide (c.1 = p)) = true
  · rw [if_pos h, List.map_map]
    have e : rs.map ((fun c : Cell => c.1) ∘ fun c => if c.1 = p then (c.1, ns) else c) = rs.map (·.1) := List.map_congr_left fun c _ => by
      show (if c.1 = p then (c.1, ns) else c).1 = c.1
      split <;> rfl
    rw [e]
    exact nd
  · rw [if_neg h, List.map_append]
    refine L2.nd_snoc nd fun hm => h ?_
    obtain ⟨c, hc, e⟩ := List.mem_map.mp hm
    exact List.any_eq_true.mpr ⟨c, hc, decide_eq_true e⟩
open Classical in
noncomputable def levT (b n d : Nat) : Nat := if h : ∃ k, IsLev b n d k then Classical.choose h else 0
theorem levT_eq {b n d k : Nat} (h : IsLev b n d k) : levT b n d = k := by
  have e : ∃ k, IsLev b n d k := ⟨k, h⟩
  unfold levT
  rw [dif_pos e]
  exact (Classical.choose_spec e).uniq h
noncomputable def placeT (b t d : Nat) : Nat × Nat := (levT b t d, d / b ^ levT b t d % b)
noncomputable def standStep (b : Nat) (ws : List Bool) (t : Nat) (rs : List Cell) (m : Tm) : List Cell :=
  if t < m.due then cellPut rs (placeT b t m.due) (insT (sideT b ws m.since m.due (levT b t m.due)) m.num (cellV rs (placeT b t m.due))) else rs
noncomputable def standD (b : Nat) (ws : List Bool) (t : Nat) (ms : List Tm) : List Cell := ms.foldl (standStep b ws t) []
theorem stand_snoc (b : Nat) (ws : List Bool) (t : Nat) (ms : List Tm) (m : Tm) : standD b ws t (ms ++ [m]) = standStep b ws t (standD b ws t ms) m := by
  unfold standD
  rw [List.foldl_append]
  rfl
theorem stand_bounds (b : Nat) (ws : List Bool) (t : Nat) (ms : List Tm) : ∀ n : Nat, n ≤ ms.length → (standD b ws t (ms.take n)).length ≤ n ∧ (∀ p, (cellV (standD b ws t (ms.take n)) p).length ≤ n) ∧ ((standD b ws t (ms.take n)).map (·.1)).Nodup := by
  intro n
  induction n with
  | zero => exact fun _ => ⟨Nat.le_refl _, fun p => Nat.le_refl _, List.nodup_nil⟩
  | succ n ih =>
    intro hn
    obtain ⟨h1, h2, h3⟩ := ih (by omega)
    have e : ms[n]? = some ms[n] := List.getElem?_eq_getElem (by omega)
    rw [List.take_add_one, e]
    show (standD b ws t (ms.take n ++ [ms[n]])).length ≤ _ ∧ (∀ p, (cellV (standD b ws t (ms.take n ++ [ms[n]])) p).length ≤ _) ∧ ((standD b ws t (ms.take n ++ [ms[n]])).map _).Nodup
    rw [stand_snoc]
    unfold standStep
    split
    · refine ⟨Nat.le_trans (cellPut_len _ _ _) (by omega), fun p => ?_, cellPut_keys h3⟩
      rw [cellV_put]
      split
      · rw [insT_len]
        have z := h2 (placeT b t (ms[n]).due)
        omega
      · have z := h2 p
        omega
    · exact ⟨by omega, fun p => by have z := h2 p; omega, h3⟩
/-- the cells of a dict on the heap -/
def CellsAt (H : Hp) : List (List Key × V) → List Cell → Prop
  | [], [] => True
  | kv :: kvs, c :: cs => kv.1 = keyC c.1 ∧ (∃ a, kv.2 = .ref a ∧ H a = some (.lst (c.2.map fun x => V.int (x : Nat)))) ∧ CellsAt H kvs cs
  | _, _ => False
theorem CellsAt.frame {H H' : Hp} (s : ∀ a xs, H a = some (.lst xs) → H' a = some (.lst xs)) : ∀ {kvs : List (List Key × V)} {rs : List Cell}, CellsAt H kvs rs → CellsAt H' kvs rs
  | [], [], _ => trivial
  | _ :: _, _ :: _, ⟨h1, ⟨a, h2, h3⟩, h4⟩ => ⟨h1, ⟨a, h2, s _ _ h3⟩, h4.frame s⟩
  | [], _ :: _, h => h.elim
  | _ :: _, [], h => h.elim
theorem CellsAt.len {H : Hp} : ∀ {kvs : List (List Key × V)} {rs : List Cell}, CellsAt H kvs rs → kvs.length = rs.length
  | [], [], _ => rfl
  | _ :: _, _ :: _, h => congrArg Nat.succ h.2.2.len
  | [], _ :: _, h => h.elim
  | _ :: _, [], h => h.elim
theorem CellsAt.keys {H : Hp} : ∀ {kvs : List (List Key × V)} {rs : List Cell}, CellsAt H kvs rs → kvs.map (·.1) = (rs.map fun c => ((c.1.1 : Int), (c.1.2 : Int))).map fun p => [Sum.inl p.1, Sum.inl p.2]
  | [], [], _ => rfl
  | kv :: kvs, c :: cs, h => by
    rw [List.map_cons, List.map_cons, List.map_cons, h.1, h.2.2.keys]
    rfl
  | [], _ :: _, h => h.elim
  | _ :: _, [], h => h.elim
theorem CellsAt.val {H : Hp} {p : Nat × Nat} : ∀ {kvs : List (List Key × V)} {rs : List Cell}, CellsAt H kvs rs → (valV kvs (keyC p) = none ∧ cellV rs p = []) ∨ ∃ a, valV kvs (keyC p) = some (.ref a) ∧ H a = some (.lst ((cellV rs p).map fun x => V.int (x : Nat)))
  | [], [], _ => .inl ⟨rfl, rfl⟩
  | kv :: kvs, c :: cs, h => by
    obtain ⟨h1, ⟨a, h2, h3⟩, h4⟩ := h
    by_cases e : c.1 = p
    · refine .inr ⟨a, ?_, ?_⟩
      · rw [valV_pos (h1.trans (keyC_inj.mpr e)), h2]
      · show H a = some (.lst ((if c.1 = p then c.2 else cellV cs p).map _))
        rw [if_pos e]
        exact h3
    · have e1 : ¬ kv.1 = keyC p := fun z => e (keyC_inj.mp (h1.symm.trans z))
      rw [valV_neg e1]
      show _ ∧ (if c.1 = p then c.2 else cellV cs p) = [] ∨ ∃ a, _ ∧ H a = some (.lst ((if c.1 = p then c.2 else cellV cs p).map _))
      rw [if_neg e]
      exact h4.val
  | [], _ :: _, h => h.elim
  | _ :: _, [], h => h.elim
theorem CellsAt.val_mem {H : Hp} {p : Nat × Nat} : ∀ {kvs : List (List Key × V)} {rs : List Cell}, CellsAt H kvs rs → p ∈ rs.map (·.1) → ∃ a, valV kvs (keyC p) = some (.ref a) ∧ H a = some (.lst ((cellV rs p).map fun x => V.int (x : Nat)))
  | [], [], _, h => by cases h
  | kv :: kvs, c :: cs, h, hm => by
    obtain ⟨h1, ⟨a, h2, h3⟩, h4⟩ := h
    by_cases e : c.1 = p
    · refine ⟨a, ?_, ?_⟩
      · rw [valV_pos (h1.trans (keyC_inj.mpr e)), h2]
      · show H a = some (.lst ((if c.1 = p then c.2 else cellV cs p).map _))
        rw [if_pos e]
        exact h3
    · have e1 : ¬ kv.1 = keyC p := fun z => e (keyC_inj.mp (h1.symm.trans z))
      rw [valV_neg e1]
      show ∃ a, _ ∧ H a = some (.lst ((if c.1 = p then c.2 else cellV cs p).map _))
      rw [if_neg e]
      refine h4.val_mem ?_
      rw [List.map_cons] at hm
      rcases List.mem_cons.mp hm with z | z
      · exact absurd z.symm e
      · exact z
  | [], _ :: _, h, _ => h.elim
  | _ :: _, [], h, _ => h.elim
theorem CellsAt.any {H : Hp} {p : Nat × Nat} : ∀ {kvs : List (List Key × V)} {rs : List Cell}, CellsAt H kvs rs → (kvs.any fun kv => decide (kv.1 = keyC p)) = rs.any fun c => decide (c.1 = p)
  | [], [], _ => rfl
  | kv :: kvs, c :: cs, h => by
    rw [List.any_cons, List.any_cons, h.2.2.any]
    have e : (decide (kv.1 = keyC p)) = decide (c.1 = p) := decide_eq_decide.mpr (by rw [h.1]; exact keyC_inj)
    rw [e]
  | [], _ :: _, h => h.elim
  | _ :: _, [], h => h.elim
theorem CellsAt.mapd {H : Hp} {p : Nat × Nat} {a : Addr} {ns : List Nat} (ha : H a = some (.lst (ns.map fun x => V.int (x : Nat)))) : ∀ {kvs : List (List Key × V)} {rs : List Cell}, CellsAt H kvs rs → CellsAt H (kvs.map fun kv => if kv.1 = keyC p then (kv.1, .ref a) else kv) (rs.map fun c => if c.1 = p then (c.1, ns) else c)
  | [], [], _ => trivial
  | kv :: kvs, c :: cs, h => by
    obtain ⟨h1, h2, h4⟩ := h
    rw [List.map_cons, List.map_cons]
    by_cases e : c.1 = p
    · rw [if_pos e, if_pos (h1.trans (keyC_inj.mpr e))]
      exact ⟨h1, ⟨a, rfl, ha⟩, h4.mapd ha⟩
    · rw [if_neg e, if_neg fun z => e (keyC_inj.mp (h1.symm.trans z))]
      exact ⟨h1, h2, h4.mapd ha⟩
  | [], _ :: _, h => h.elim
  | _ :: _, [], h => h.elim
theorem CellsAt.snoc {H : Hp} {p : Nat × Nat} {a : Addr} {ns : List Nat} (ha : H a = some (.lst (ns.map fun x => V.int (x : Nat)))) : ∀ {kvs : List (List Key × V)} {rs : List Cell}, CellsAt H kvs rs → CellsAt H (kvs ++ [(keyC p, .ref a)]) (rs ++ [(p, ns)])
  | [], [], _ => ⟨rfl, ⟨a, rfl, ha⟩, trivial⟩
  | _ :: _, _ :: _, h => ⟨h.1, h.2.1, h.2.2.snoc ha⟩
  | [], _ :: _, h => h.elim
  | _ :: _, [], h => h.elim
theorem CellsAt.put {H : Hp} {p : Nat × Nat} {a : Addr} {ns : List Nat} (ha : H a = some (.lst (ns.map fun x => V.int (x : Nat)))) {kvs : List (List Key × V)} {rs : List Cell} (h : CellsAt H kvs rs) : CellsAt H (putK kvs (keyC p) (.ref a)) (cellPut rs p ns) := by
  unfold putK cellPut
  rw [h.any]
  split
  · exact h.mapd ha
  · exact h.snoc ha
/-! ### levels and events of timers -/
theorem least_nat {p : Nat → Prop} : ∀ n : Nat, p n → ∃ k, p k ∧ ∀ j, j < k → ¬ p j
  | 0, h => ⟨0, h, fun j hj => absurd hj (Nat.not_lt_zero j)⟩
  | n + 1, h => by
    by_cases c : ∃ m, m ≤ n ∧ p m
    · obtain ⟨m, hm, hp⟩ := c
      exact Classical.byContradiction fun no => by
        have all : ∀ k, ∀ j, j < k → ¬ p j := fun k => by
          induction k with
          | zero => exact fun j hj => absurd hj (Nat.not_lt_zero j)
          | succ k ih =>
            intro j hj
            by_cases e : j = k
            · intro hp'
              exact no ⟨k, by rw [← e]; exact hp', ih⟩
            · exact ih j (by omega)
        exact all (m + 1) m (Nat.lt_succ_self m) hp
    · exact ⟨n + 1, h, fun j hj hp => c ⟨j, Nat.le_of_lt_succ hj, hp⟩⟩
theorem lev_exists {b n d : Nat} (hb : 2 ≤ b) (h : n < d) : ∃ k, IsLev b n d k := by
  have big : d < b ^ (d + 1) := Nat.lt_of_lt_of_le (Nat.lt_of_lt_of_le Nat.lt_two_pow_self (Nat.pow_le_pow_right (by decide) (Nat.le_succ d))) (pow_two_le hb (d + 1))
  obtain ⟨k, h1, h2⟩ := least_nat (p := fun k => n / b ^ (k + 1) = d / b ^ (k + 1)) d (by
    show n / b ^ (d + 1) = d / b ^ (d + 1)
    rw [Nat.div_eq_of_lt big, Nat.div_eq_of_lt (Nat.lt_trans h big)])
  exact ⟨k, h1, h2⟩
theorem levT_is {b n d : Nat} (hb : 2 ≤ b) (h : n < d) : IsLev b n d (levT b n d) := by
  obtain ⟨k, hk⟩ := lev_exists hb h
  rw [levT_eq hk]
  exact hk
theorem evT_is {b n d : Nat} (hb : 2 ≤ b) (h : n < d) : evT b n d = d / b ^ levT b n d * b ^ levT b n d := evT_eq (levT_is hb h)
theorem evT_le {b n d : Nat} (hb : 2 ≤ b) (h : n < d) : evT b n d ≤ d := by
  rw [evT_is hb h]
  exact cut_le b d _
theorem evT_gt {b n d : Nat} (hb : 2 ≤ b) (h : n < d) : n < evT b n d := by
  rw [evT_is hb h]
  have hk := levT_is hb h
  generalize levT b n d = k at hk ⊢
  exact (Nat.div_lt_iff_lt_mul (pow_pos' hb k)).mp (hk.ne h)
/-- ahead of its event a timer stands where it stood -/
theorem lev_stays {b n d t : Nat} (hb : 2 ≤ b) (h : n < d) (h1 : n ≤ t) (h2 : t < evT b n d) : t < d ∧ levT b t d = levT b n d := by
  refine ⟨Nat.lt_of_lt_of_le h2 (evT_le hb h), ?_⟩
  rw [evT_is hb h] at h2
  exact levT_eq ((levT_is hb h).later hb h h1 h2)
/-- at its event it stands at a lower level -/
theorem lev_drops {b n d : Nat} (hb : 2 ≤ b) (h : n < d) (h2 : evT b n d < d) : levT b (evT b n d) d < levT b n d := by
  have hk := levT_is hb h
  have hk' := levT_is hb h2
  have e := evT_is hb h
  generalize levT b n d = k at hk e ⊢
  generalize levT b (evT b n d) d = k' at hk' ⊢
  have same : evT b n d / b ^ k = d / b ^ k := by
    rw [e, Nat.mul_div_cancel _ (pow_pos' hb k)]
  refine Classical.byContradiction fun no => ?_
  by_cases c : k' = k
  · subst c
    have z := hk'.ne h2
    omega
  · cases k with
    | zero =>
      rw [Nat.pow_zero, Nat.div_one, Nat.div_one] at same
      omega
    | succ j => exact hk'.2 j (by omega) same
/-! ### the law's own wheel: lists built at two ends -/
def insM (w : Bool) (m : Tm) (l : List Tm) : List Tm := if w then m :: l else l ++ [m]
def deq (f : Tm → Bool) (l : List Tm) : List Tm := (l.filter f).reverse ++ l.filter fun m => !f m
theorem deq_snoc (f : Tm → Bool) (l : List Tm) (m : Tm) : deq f (l ++ [m]) = insM (f m) m (deq f l) := by
  unfold deq insM
  rw [List.filter_append, List.filter_append]
  cases h : f m with
  | true => simp [h]
  | false => simp [h]
theorem deq_filter (f p : Tm → Bool) (l : List Tm) : (deq f l).filter p = deq f (l.filter p) := by
  unfold deq
  rw [List.filter_append, List.filter_reverse, List.filter_filter, List.filter_filter, List.filter_filter, List.filter_filter]
  have e : ∀ q : Tm → Bool, (fun m => p m && q m) = fun m => q m && p m := fun q => funext fun m => Bool.and_comm _ _
  rw [e, e]
theorem deq_false (l : List Tm) : deq (fun _ => false) l = l := by
  show (l.filter fun _ => false).reverse ++ l.filter (fun _ => true) = l
  rw [List.filter_eq_nil_iff.mpr (fun _ _ => Bool.false_ne_true), List.filter_eq_self.mpr (fun _ _ => rfl)]
  rfl
theorem deq_true (l : List Tm) : deq (fun _ => true) l = l.reverse := by
  show (l.filter fun _ => true).reverse ++ l.filter (fun _ => false) = _
  rw [List.filter_eq_nil_iff.mpr (fun _ _ => Bool.false_ne_true), List.filter_eq_self.mpr (fun _ _ => rfl), List.append_nil]
theorem deq_congr {f g : Tm → Bool} {l : List Tm} (h : ∀ m ∈ l, f m = g m) : deq f l = deq g l := by
  unfold deq
  rw [List.filter_congr h, List.filter_congr (p := fun m => !f m) (q := fun m => !g m) fun m hm => by rw [h m hm]]
theorem deq_deq (w : Bool) (f : Tm → Bool) (l : List Tm) : deq (fun _ => w) (deq f l) = deq (fun m => Bool.xor (f m) w) l := by
  cases w with
  | false =>
    rw [deq_false]
    exact deq_congr fun m _ => (Bool.xor_false _).symm
  | true =>
    rw [deq_true]
    unfold deq
    rw [List.reverse_append, List.reverse_reverse]
    have e1 : l.filter (fun m => Bool.xor (f m) true) = l.filter fun m => !f m := List.filter_congr fun m _ => Bool.xor_true _
    have e2 : l.filter (fun m => !Bool.xor (f m) true) = l.filter f := List.filter_congr fun m _ => by rw [Bool.xor_true, Bool.not_not]
    rw [e1, e2]
theorem mem_deq {f : Tm → Bool} {l : List Tm} {m : Tm} : m ∈ deq f l ↔ m ∈ l := by
  unfold deq
  rw [List.mem_append, List.mem_reverse, List.mem_filter, List.mem_filter]
  cases h : f m <;> simp
theorem deq_perm (f : Tm → Bool) (l : List Tm) : (deq f l).Perm l := by
  unfold deq
  exact ((List.reverse_perm _).append_right _).trans (List.filter_append_perm f l)
theorem deq_len (f : Tm → Bool) (l : List Tm) : (deq f l).length = l.length := (deq_perm f l).length_eq
theorem ins_len (w : Bool) (m : Tm) (l : List Tm) : (insM w m l).length = l.length + 1 := by
  unfold insM
  split
  · rfl
  · rw [List.length_append]
    rfl
theorem ins_fold (w : Bool) (l : List Tm) : l.foldl (fun a m => insM w m a) [] = deq (fun _ => w) l := by
  suffices H : ∀ (r : List Tm), l.foldl (fun a m => insM w m a) (deq (fun _ => w) r) = deq (fun _ => w) (r ++ l) by
    have z := H []
    rw [List.nil_append] at z
    exact z
  induction l with
  | nil =>
    intro r
    rw [List.append_nil]
    rfl
  | cons m l ih =>
    intro r
    rw [List.foldl_cons, ← deq_snoc (fun _ => w), ih, List.append_assoc]
    rfl
theorem ins_deq (f : Tm → Bool) (w : Bool) (l : List Tm) (h : ∀ m ∈ l, f m = w) : ∀ r : List Tm, l.foldl (fun a m => insM w m a) (deq f r) = deq f (r ++ l) := by
  induction l with
  | nil =>
    intro r
    rw [List.append_nil]
    rfl
  | cons m l ih =>
    intro r
    rw [List.foldl_cons, ← h m (List.mem_cons_self ..), ← deq_snoc, h m (List.mem_cons_self ..), ih fun x hx => h x (List.mem_cons_of_mem _ hx)]
    rw [List.append_assoc]
    rfl
/-! ### sides, digit by digit -/
def cntS (ws : List Bool) (b d lo k : Nat) : Nat := (tailOf b d k).countP fun r => decide (lo ≤ r.1) && wordAt ws r.1
theorem cntS_succ (ws : List Bool) (b d lo k : Nat) : cntS ws b d lo (k + 1) = cntS ws b d lo k + if d / b ^ k % b ≠ 0 ∧ lo ≤ k ∧ wordAt ws k = true then 1 else 0 := by
  unfold cntS
  show (if d / b ^ k % b ≠ 0 then (k, d / b ^ k % b, d / b ^ (k + 1) * b ^ (k + 1)) :: tailOf b d k else tailOf b d k).countP _ = _
  by_cases h : d / b ^ k % b ≠ 0
  · rw [if_pos h, List.countP_cons]
    congr 1
    by_cases h1 : lo ≤ k
    · cases h2 : wordAt ws k with
      | true => rw [if_pos (by simp [h1, h2]), if_pos ⟨h, h1, rfl⟩]
      | false => rw [if_neg (by simp [h2]), if_neg (fun z => by cases z.2.2)]
    · rw [if_neg (by simp [h1]), if_neg (fun z => h1 z.2.1)]
  · rw [if_neg h, if_neg fun z => h z.1, Nat.add_zero]
theorem cntS_high {ws : List Bool} {b d lo : Nat} : ∀ k, k ≤ lo → cntS ws b d lo k = 0
  | 0, _ => rfl
  | k + 1, h => by
    rw [cntS_succ, cntS_high k (by omega), if_neg (fun z => by omega)]
theorem cntS_skip {ws : List Bool} {b d lo lo' : Nat} (h : lo ≤ lo') (h0 : ∀ i, lo ≤ i → i < lo' → d / b ^ i % b = 0) : ∀ k, cntS ws b d lo k = cntS ws b d lo' k
  | 0 => rfl
  | k + 1 => by
    rw [cntS_succ, cntS_succ, cntS_skip h h0 k]
    congr 1
    by_cases c : lo' ≤ k
    · by_cases e : d / b ^ k % b ≠ 0 ∧ wordAt ws k = true
      · rw [if_pos ⟨e.1, by omega, e.2⟩, if_pos ⟨e.1, c, e.2⟩]
      · rw [if_neg fun z => e ⟨z.1, z.2.2⟩, if_neg fun z => e ⟨z.1, z.2.2⟩]
    · rw [if_neg (c := d / b ^ k % b ≠ 0 ∧ lo' ≤ k ∧ wordAt ws k = true) fun z => c z.2.1]
      refine if_neg fun z => z.1 (h0 k z.2.1 (by omega))
theorem cntS_one {ws : List Bool} {b d lo : Nat} (h : d / b ^ lo % b ≠ 0) : ∀ k, lo < k → cntS ws b d lo k = cntS ws b d (lo + 1) k + if wordAt ws lo = true then 1 else 0
  | 0, hk => absurd hk (Nat.not_lt_zero _)
  | k + 1, hk => by
    rw [cntS_succ, cntS_succ]
    by_cases e : k = lo
    · subst e
      rw [cntS_high k (Nat.le_refl _), cntS_high k (Nat.le_succ _), if_neg (c := d / b ^ k % b ≠ 0 ∧ k + 1 ≤ k ∧ wordAt ws k = true) fun z => by omega]
      by_cases c : wordAt ws k = true
      · rw [if_pos ⟨h, Nat.le_refl _, c⟩, if_pos c]
      · rw [if_neg fun z => c z.2.2, if_neg c]
    · rw [cntS_one h k (by omega)]
      have e2 : (if d / b ^ k % b ≠ 0 ∧ lo ≤ k ∧ wordAt ws k = true then 1 else 0) = if d / b ^ k % b ≠ 0 ∧ lo + 1 ≤ k ∧ wordAt ws k = true then 1 else 0 := by
        by_cases c : d / b ^ k % b ≠ 0 ∧ wordAt ws k = true
        · rw [if_pos ⟨c.1, by omega, c.2⟩, if_pos ⟨c.1, by omega, c.2⟩]
        · rw [if_neg fun z => c ⟨z.1, z.2.2⟩, if_neg fun z => c ⟨z.1, z.2.2⟩]
      rw [e2]
      omega
theorem front_cntS (ws : List Bool) (b n d lo k : Nat) (h : lo ≤ k) : frontOf ws lo (rowsOf b n d k) = decide ((cntS ws b d lo k + if wordAt ws k = true then 1 else 0) % 2 = 1) := by
  unfold frontOf rowsOf cntS
  rw [List.countP_cons]
  cases h2 : wordAt ws k with
  | true => rw [if_pos (by simp [h, h2])]; rfl
  | false => rw [if_neg (by simp [h2])]; rfl
theorem side_cnt {b : Nat} {ws : List Bool} {n d lo : Nat} (hb : 2 ≤ b) (h : n < d) (hl : lo ≤ levT b n d) : sideT b ws n d lo = decide ((cntS ws b d lo (levT b n d) + if wordAt ws (levT b n d) = true then 1 else 0) % 2 = 1) := by
  rw [sideT_eq (levT_is hb h)]
  exact front_cntS ws b n d lo _ hl
theorem odd_add (c : Nat) (w : Bool) : decide ((c + if w = true then 1 else 0) % 2 = 1) = Bool.xor (decide (c % 2 = 1)) w := by
  cases w with
  | false =>
    rw [if_neg (by decide), Bool.xor_false]
    rfl
  | true =>
    rw [if_pos rfl, Bool.xor_true]
    exact odd_succ c
theorem side_new {b : Nat} {ws : List Bool} {n d : Nat} (hb : 2 ≤ b) (h : n < d) : sideT b ws n d (levT b n d) = wordAt ws (levT b n d) := by
  rw [side_cnt hb h (Nat.le_refl _), cntS_high _ (Nat.le_refl _), odd_add]
  cases wordAt ws (levT b n d) <;> rfl
theorem lev_mono {b s n d : Nat} (hb : 2 ≤ b) (h : n < d) (hs : s ≤ n) : levT b n d ≤ levT b s d := by
  have k1 := levT_is hb h
  have k2 := levT_is hb (Nat.lt_of_le_of_lt hs h)
  generalize levT b n d = k at k1 ⊢
  generalize levT b s d = k0 at k2 ⊢
  refine Nat.le_of_not_lt fun c => k1.2 k0 c ?_
  have a1 : s / b ^ (k0 + 1) ≤ n / b ^ (k0 + 1) := Nat.div_le_div_right hs
  have a2 : n / b ^ (k0 + 1) ≤ d / b ^ (k0 + 1) := Nat.div_le_div_right (Nat.le_of_lt h)
  have a3 := k2.1
  omega
/-- the digits of a multiple -/
theorem dig_mul {b q h i : Nat} (hb : 2 ≤ b) (hi : i < h) : q * b ^ h / b ^ i % b = 0 := by
  have e : b ^ h = b ^ (h - i - 1) * b * b ^ i := by
    rw [← Nat.pow_succ, ← Nat.pow_add]
    congr 1
    omega
  rw [e, ← Nat.mul_assoc, Nat.mul_div_cancel _ (pow_pos' hb i), ← Nat.mul_assoc, Nat.mul_mod_left]
/-- where a timer goes on, its side turns with the word there -/
theorem side_drop {b : Nat} {ws : List Bool} {s n d : Nat} (hb : 2 ≤ b) (h : n < d) (hs : s ≤ n) (he : evT b n d < d) :
    sideT b ws s d (levT b (evT b n d) d) = Bool.xor (sideT b ws s d (levT b n d)) (wordAt ws (levT b (evT b n d) d)) := by
  have hm := lev_mono hb h hs
  have hd := lev_drops hb h he
  have hk := levT_is hb h
  have hj := levT_is hb he
  have ee := evT_is hb h
  have hsd := Nat.lt_of_le_of_lt hs h
  have hdj : d / b ^ levT b (evT b n d) d % b ≠ 0 := by
    have := hj.digit he
    omega
  rw [side_cnt hb hsd (by omega), side_cnt hb hsd hm, cntS_one hdj _ (by omega)]
  have e2 : cntS ws b d (levT b (evT b n d) d + 1) (levT b s d) = cntS ws b d (levT b n d) (levT b s d) := by
    refine cntS_skip (by omega) (fun i h1 h2 => ?_) _
    have a1 : evT b n d / b ^ (levT b (evT b n d) d + 1) = d / b ^ (levT b (evT b n d) d + 1) := hj.1
    have a2 : evT b n d / b ^ i = d / b ^ i := by
      have e3 : i = (levT b (evT b n d) d + 1) + (i - (levT b (evT b n d) d + 1)) := by omega
      rw [e3, Nat.pow_add, ← Nat.div_div_eq_div_mul, ← Nat.div_div_eq_div_mul, a1]
    rw [← a2, ee]
    exact dig_mul hb h2
  rw [e2, Nat.add_right_comm, odd_add]
/-- where it fires, the side is the one at the last list -/
theorem side_last {b : Nat} {ws : List Bool} {s n d : Nat} (hb : 2 ≤ b) (h : n < d) (hs : s ≤ n) (he : evT b n d = d) : sideT b ws s d (levT b n d) = sideT b ws s d 0 := by
  have hm := lev_mono hb h hs
  have hsd := Nat.lt_of_le_of_lt hs h
  rw [side_cnt hb hsd hm, side_cnt hb hsd (Nat.zero_le _)]
  rw [cntS_skip (lo := 0) (lo' := levT b n d) (Nat.zero_le _) (fun i _ h2 => ?_) _]
  have ee := evT_is hb h
  rw [he] at ee
  rw [ee]
  have e4 : levT b n (d / b ^ levT b n d * b ^ levT b n d) = levT b n d := by rw [← ee]
  exact dig_mul hb h2
/-! ### the law's own wheel: cells -/
abbrev LCell := (Nat × Nat) × List Tm
def gv : List LCell → Nat × Nat → List Tm
  | [], _ => []
  | c :: cs, p => if c.1 = p then c.2 else gv cs p
def lput (cs : List LCell) (p : Nat × Nat) (l : List Tm) : List LCell := if p ∈ cs.map (·.1) then cs.map (fun c => if c.1 = p then (c.1, l) else c) else cs ++ [(p, l)]
def ldrop (cs : List LCell) (p : Nat × Nat) : List LCell := cs.filter fun c => decide (c.1 ≠ p)
theorem gv_none {p : Nat × Nat} : ∀ {cs : List LCell}, p ∉ cs.map (·.1) → gv cs p = []
  | [], _ => rfl
  | c :: cs, h => by
    rw [List.map_cons, List.mem_cons, not_or] at h
    show (if c.1 = p then c.2 else gv cs p) = []
    rw [if_neg fun z => h.1 z.symm]
    exact gv_none h.2
theorem gv_map {p q : Nat × Nat} {l : List Tm} : ∀ cs : List LCell, p ∈ cs.map (·.1) → gv (cs.map fun c => if c.1 = p then (c.1, l) else c) q = if p = q then l else gv cs q
  | [], h => by cases h
  | c :: cs, h => by
    rw [List.map_cons]
    by_cases e : c.1 = p
    · rw [if_pos e]
      by_cases e2 : p = q
      · rw [if_pos e2]
        show (if c.1 = q then l else _) = l
        rw [if_pos (e.trans e2)]
      · rw [if_neg e2]
        show (if c.1 = q then l else gv _ q) = if c.1 = q then c.2 else gv cs q
        rw [if_neg fun z => e2 (e.symm.trans z), if_neg fun z => e2 (e.symm.trans z)]
        by_cases hm : p ∈ cs.map (·.1)
        · rw [gv_map cs hm, if_neg e2]
        · have e3 : (cs.map fun c => if c.1 = p then (c.1, l) else c) = cs := by
            have z : ∀ c ∈ cs, (if c.1 = p then (c.1, l) else c) = c := fun c hc => if_neg fun y => hm (List.mem_map.mpr ⟨c, hc, y⟩)
            rw [List.map_congr_left (g := id) z, List.map_id]
          rw [e3]
    · rw [if_neg e]
      rw [List.map_cons, List.mem_cons] at h
      have hm := h.resolve_left fun z => e z.symm
      show (if c.1 = q then c.2 else gv _ q) = if p = q then l else (if c.1 = q then c.2 else gv cs q)
      rw [gv_map cs hm]
      by_cases e2 : c.1 = q
      · rw [if_pos e2, if_neg fun z => e (e2.trans z.symm), if_pos e2]
      · rw [if_neg e2, if_neg e2]
theorem gv_snoc {p q : Nat × Nat} {l : List Tm} : ∀ cs : List LCell, p ∉ cs.map (·.1) → gv (cs ++ [(p, l)]) q = if p = q then l else gv cs q
  | [], _ => rfl
  | c :: cs, h => by
    rw [List.map_cons, List.mem_cons, not_or] at h
    show (if c.1 = q then c.2 else gv (cs ++ [(p, l)]) q) = if p = q then l else (if c.1 = q then c.2 else gv cs q)
    rw [gv_snoc cs h.2]
    by_cases e : p = q
    · rw [if_pos e, if_pos e, if_neg fun z => h.1 (e.trans z.symm)]
    · rw [if_neg e, if_neg e]
theorem gv_put {cs : List LCell} {p q : Nat × Nat} {l : List Tm} : gv (lput cs p l) q = if p = q then l else gv cs q := by
  unfold lput
  split
  · rename_i h
    exact gv_map cs h
  · rename_i h
    exact gv_snoc cs h
theorem gv_drop {p q : Nat × Nat} : ∀ cs : List LCell, gv (ldrop cs p) q = if p = q then [] else gv cs q
  | [] => by
    show [] = if p = q then [] else []
    split <;> rfl
  | c :: cs => by
    have ih := gv_drop (p := p) (q := q) cs
    by_cases e : c.1 = p
    · have z : ldrop (c :: cs) p = ldrop cs p := List.filter_cons_of_neg (by simp [e])
      rw [z, ih]
      by_cases e2 : p = q
      · rw [if_pos e2, if_pos e2]
      · rw [if_neg e2, if_neg e2]
        show _ = if c.1 = q then c.2 else gv cs q
        rw [if_neg fun z => e2 (e.symm.trans z)]
    · have z : ldrop (c :: cs) p = c :: ldrop cs p := List.filter_cons_of_pos (by simp [e])
      rw [z]
      show (if c.1 = q then c.2 else gv (ldrop cs p) q) = if p = q then [] else (if c.1 = q then c.2 else gv cs q)
      rw [ih]
      by_cases e2 : p = q
      · rw [if_pos e2, if_pos e2, if_neg fun z => e (z.trans e2.symm)]
      · rw [if_neg e2, if_neg e2]
theorem lput_keys {cs : List LCell} {p : Nat × Nat} {l : List Tm} (nd : (cs.map (·.1)).Nodup) : ((lput cs p l).map (·.1)).Nodup := by
  unfold lput
  split
  · rw [List.map_map]
    have e : cs.map ((fun c : LCell => c.1) ∘ fun c => if c.1 = p then (c.1, l) else c) = cs.map (·.1) := List.map_congr_left fun c _ => by
      show (if c.1 = p then (c.1, l) else c).1 = c.1
      split <;> rfl
    rw [e]
    exact nd
  · rename_i h
    rw [List.map_append]
    exact L2.nd_snoc nd h
theorem lput_len (cs : List LCell) (p : Nat × Nat) (l : List Tm) : (lput cs p l).length ≤ cs.length + 1 := by
  unfold lput
  split
  · rw [List.length_map]
    omega
  · rw [List.length_append]
    exact Nat.le_refl _
theorem ldrop_keys {cs : List LCell} {p : Nat × Nat} (nd : (cs.map (·.1)).Nodup) : ((ldrop cs p).map (·.1)).Nodup := List.Nodup.sublist (List.Sublist.map _ List.filter_sublist) nd
theorem ldrop_len (cs : List LCell) (p : Nat × Nat) : (ldrop cs p).length ≤ cs.length := List.length_filter_le _ _
theorem gv_mem {cs : List LCell} (nd : (cs.map (·.1)).Nodup) {c : LCell} (h : c ∈ cs) : gv cs c.1 = c.2 := by
  induction cs with
  | nil => cases h
  | cons x cs ih =>
    rw [List.map_cons, List.nodup_cons] at nd
    show (if x.1 = c.1 then x.2 else gv cs c.1) = c.2
    rcases List.mem_cons.mp h with e | h
    · rw [e, if_pos rfl]
    · rw [if_neg fun z => nd.1 (List.mem_map.mpr ⟨c, h, z.symm⟩)]
      exact ih nd.2 h
/-- what the law's wheel does with one timer, and with all of a list -/
noncomputable def lplace (b : Nat) (ws : List Bool) (t : Nat) (cs : List LCell) (m : Tm) : List LCell := lput cs (placeT b t m.due) (insM (wordAt ws (placeT b t m.due).1) m (gv cs (placeT b t m.due)))
theorem gv_place {b : Nat} {ws : List Bool} {t : Nat} {cs : List LCell} {m : Tm} {p : Nat × Nat} : gv (lplace b ws t cs m) p = if placeT b t m.due = p then insM (wordAt ws p.1) m (gv cs p) else gv cs p := by
  unfold lplace
  rw [gv_put]
  split
  · rename_i e
    rw [e]
  · rfl
theorem gv_places {b : Nat} {ws : List Bool} {t : Nat} {p : Nat × Nat} : ∀ (l : List Tm) (cs : List LCell), gv (l.foldl (lplace b ws t) cs) p = (l.filter fun m => decide (placeT b t m.due = p)).foldl (fun a m => insM (wordAt ws p.1) m a) (gv cs p)
  | [], _ => rfl
  | m :: l, cs => by
    rw [List.foldl_cons, gv_places l, gv_place]
    by_cases e : placeT b t m.due = p
    · rw [if_pos e, List.filter_cons_of_pos (by simpa using e), List.foldl_cons]
    · rw [if_neg e, List.filter_cons_of_neg (by simpa using e)]
/-- the list p at the tick t, of the timers ms in the order in which they were set -/
noncomputable def stM (b : Nat) (ws : List Bool) (t : Nat) (ms : List Tm) (p : Nat × Nat) : List Tm := deq (fun m => sideT b ws m.since m.due p.1) (ms.filter fun m => decide (placeT b t m.due = p))
def againM (t : Nat) (m : Tm) : Option Tm := m.per.map fun k => ⟨m.num, t + k, some k, t⟩
structure IsZer (b e h : Nat) : Prop where
  low : e % b ^ h = 0
  dig : e / b ^ h % b ≠ 0
theorem zer_uniq {b e h h' : Nat} (z : IsZer b e h) (z' : IsZer b e h') : h = h' := by
  have main : ∀ {i j : Nat}, IsZer b e i → IsZer b e j → ¬ i < j := fun {i j} zi zj c => by
    refine zi.dig ?_
    have e1 : b ^ j = b ^ i * (b * b ^ (j - i - 1)) := by
      rw [← Nat.mul_assoc, ← Nat.pow_succ, ← Nat.pow_add]
      congr 1
      omega
    have e2 : b ^ j ∣ e := Nat.dvd_of_mod_eq_zero zj.low
    rw [e1] at e2
    obtain ⟨q, hq⟩ := e2
    have hp : 0 < b ^ i := by
      rcases Nat.eq_zero_or_pos (b ^ i) with c0 | c0
      · exfalso
        rw [c0, Nat.zero_mul, Nat.zero_mul] at hq
        refine zi.dig ?_
        rw [hq, Nat.zero_div, Nat.zero_mod]
      · exact c0
    rw [hq, Nat.mul_assoc, Nat.mul_div_cancel_left _ hp, Nat.mul_assoc, Nat.mul_mod_right]
  have a1 := main z z'
  have a2 := main z' z
  omega
/-- the key of the list that is emptied at e -/
def keyE (b e h : Nat) : Nat × Nat := (h, e / b ^ h % b)
noncomputable def lpass (b : Nat) (ws : List Bool) (e h : Nat) (cs : List LCell) : List LCell :=
  ((((gv cs (keyE b e h)).filter fun m => decide (m.due = e)).filterMap (againM e))).foldl (lplace b ws e) (((gv cs (keyE b e h)).filter fun m => decide (m.due ≠ e)).foldl (lplace b ws e) (ldrop cs (keyE b e h)))
section
variable {b e h n d : Nat}
theorem ev_key (hb : 2 ≤ b) (z : IsZer b e h) (hnd : n < d) (he : evT b n d = e) : placeT b n d = keyE b e h := by
  have hk := levT_is hb hnd
  have ee := evT_is hb hnd
  rw [he] at ee
  have hp := pow_pos' hb (levT b n d)
  have e1 : e / b ^ levT b n d = d / b ^ levT b n d := by
    rw [ee, Nat.mul_div_cancel _ hp]
  have dg := hk.digit hnd
  have z2 : IsZer b e (levT b n d) := ⟨by rw [ee]; exact Nat.mul_mod_left _ _, by rw [e1]; omega⟩
  unfold placeT keyE
  rw [zer_uniq z z2, e1]
theorem key_ev (hb : 2 ≤ b) (z : e % b ^ h = 0) (hnd : n < d) (hne : n < e) (hle : e ≤ evT b n d) (hk : placeT b n d = keyE b e h) : evT b n d = e := by
  have k1 : levT b n d = h := congrArg Prod.fst hk
  have k2 : d / b ^ levT b n d % b = e / b ^ h % b := congrArg Prod.snd hk
  have hl := levT_is hb hnd
  have ee := evT_is hb hnd
  have hed := Nat.le_trans hle (evT_le hb hnd)
  rw [k1] at k2 hl ee
  have a1 : n / b ^ (h + 1) ≤ e / b ^ (h + 1) := Nat.div_le_div_right (Nat.le_of_lt hne)
  have a2 : e / b ^ (h + 1) ≤ d / b ^ (h + 1) := Nat.div_le_div_right hed
  have a3 := hl.1
  have a4 : e / b ^ h / b = d / b ^ h / b := by
    rw [← div_succ, ← div_succ]
    omega
  have a5 := Nat.div_add_mod (e / b ^ h) b
  have a6 := Nat.div_add_mod (d / b ^ h) b
  have a7 : e / b ^ h = d / b ^ h := by
    rw [a4] at a5
    omega
  rw [ee, ← a7]
  exact Nat.div_mul_cancel (Nat.dvd_of_mod_eq_zero z)
theorem low_none (hb : 2 ≤ b) (z : e % b ^ h = 0) (hnd : n < d) (hne : n < e) (hle : e < evT b n d) : h ≤ levT b n d := by
  refine Nat.le_of_not_lt fun c => ?_
  obtain ⟨s1, s2⟩ := lev_stays hb hnd (Nat.le_of_lt hne) hle
  have k1 := levT_is hb hnd
  have k2 := levT_is hb s1
  rw [s2] at k2
  generalize levT b n d = j at c k1 k2
  have a1 : n / b ^ (j + 1) = e / b ^ (j + 1) := k1.1.trans k2.1.symm
  have hp := pow_pos' hb (j + 1)
  have dv : b ^ (j + 1) ∣ e := Nat.dvd_trans (Nat.pow_dvd_pow b (by omega)) (Nat.dvd_of_mod_eq_zero z)
  have a2 : e / b ^ (j + 1) * b ^ (j + 1) = e := Nat.div_mul_cancel dv
  have a3 : n / b ^ (j + 1) < e / b ^ (j + 1) := (Nat.div_lt_iff_lt_mul hp).mpr (by rw [a2]; exact hne)
  omega
theorem not_key (hb : 2 ≤ b) (hed : e < d) : placeT b e d ≠ keyE b e h := fun hk => by
  have k1 : levT b e d = h := congrArg Prod.fst hk
  have k2 : d / b ^ levT b e d % b = e / b ^ h % b := congrArg Prod.snd hk
  have dg := (levT_is hb hed).digit hed
  rw [k1] at k2 dg
  omega
end
/-- one tick at which a list may be emptied: the lists behind, and what fires -/
theorem lw_pass {b : Nat} {ws : List Bool} {t e h : Nat} {ms : List Tm} {cs : List LCell} (hb : 2 ≤ b) (z : IsZer b e h) (hte : t < e) (hms : ∀ m ∈ ms, m.since ≤ t ∧ t < m.due ∧ e ≤ evT b t m.due) (hcs : ∀ p, gv cs p = stM b ws t ms p) :
    (gv cs (keyE b e h)).filter (fun m => decide (m.due = e)) = deq (fun m => sideT b ws m.since m.due 0) (ms.filter fun m => decide (m.due = e)) ∧
    ∀ p, (∀ m ∈ ms, ∀ k, m.per = some k → 1 ≤ k) → gv (lpass b ws e h cs) p = stM b ws e (ms.filter (fun m => decide (m.due ≠ e)) ++ (deq (fun m => sideT b ws m.since m.due 0) (ms.filter fun m => decide (m.due = e))).filterMap (againM e)) p := by
  have ev : ∀ m ∈ ms, m.due = e → evT b t m.due = e := fun m hm hd => Nat.le_antisymm (by rw [← hd] at *; exact evT_le hb (hms m hm).2.1) (hms m hm).2.2
  -- who stands in the list that is emptied
  have hkey : ∀ m ∈ ms, placeT b t m.due = keyE b e h ↔ evT b t m.due = e := fun m hm => ⟨key_ev hb z.low (hms m hm).2.1 hte (hms m hm).2.2, ev_key hb z (hms m hm).2.1⟩
  have hF : (gv cs (keyE b e h)).filter (fun m => decide (m.due = e)) = deq (fun m => sideT b ws m.since m.due 0) (ms.filter fun m => decide (m.due = e)) := by
    rw [hcs]
    unfold stM
    rw [deq_filter, List.filter_filter]
    have e1 : ms.filter (fun m => decide (m.due = e) && decide (placeT b t m.due = keyE b e h)) = ms.filter fun m => decide (m.due = e) := List.filter_congr fun m hm => by
      by_cases c : m.due = e
      · rw [decide_eq_true c, decide_eq_true ((hkey m hm).mpr (ev m hm c))]
        rfl
      · rw [decide_eq_false c]
        rfl
    rw [e1]
    refine deq_congr fun m hm => ?_
    obtain ⟨hm, hd⟩ := List.mem_filter.mp hm
    have hd : m.due = e := of_decide_eq_true hd
    have hev := ev m hm hd
    have hk := (hkey m hm).mpr hev
    have k1 : levT b t m.due = h := congrArg Prod.fst hk
    show sideT b ws m.since m.due h = _
    rw [← k1]
    exact side_last hb (hms m hm).2.1 (hms m hm).1 (hev.trans hd.symm)
  refine ⟨hF, fun p hper => ?_⟩
  unfold lpass
  rw [gv_places, gv_places, gv_drop, hF]
  -- the timers that go on
  have hA : ((((gv cs (keyE b e h)).filter fun m => decide (m.due ≠ e)).filter fun m => decide (placeT b e m.due = p)).foldl (fun a m => insM (wordAt ws p.1) m a) (if keyE b e h = p then [] else gv cs p))
      = deq (fun m => sideT b ws m.since m.due p.1) ((ms.filter fun m => decide (m.due ≠ e)).filter fun m => decide (placeT b e m.due = p)) := by
    have hL : ((gv cs (keyE b e h)).filter fun m => decide (m.due ≠ e)).filter (fun m => decide (placeT b e m.due = p)) = deq (fun m => sideT b ws m.since m.due h) (ms.filter fun m => decide (placeT b t m.due = keyE b e h) && decide (m.due ≠ e) && decide (placeT b e m.due = p)) := by
      rw [hcs]
      unfold stM
      rw [deq_filter, deq_filter, List.filter_filter, List.filter_filter]
      congr 1
      exact List.filter_congr fun m _ => by
        cases decide (placeT b t m.due = keyE b e h) <;> cases decide (m.due ≠ e) <;> cases decide (placeT b e m.due = p) <;> rfl
    have lt_due : ∀ m ∈ ms, m.due ≠ e → e < m.due := fun m hm hd => by
      have := Nat.le_trans (hms m hm).2.2 (evT_le hb (hms m hm).2.1)
      omega
    have drops : ∀ m ∈ ms, m.due ≠ e → evT b t m.due = e → levT b e m.due < h := fun m hm hd hev => by
      have z1 := lev_drops hb (hms m hm).2.1 (by rw [hev]; exact lt_due m hm hd)
      have k1 : levT b t m.due = h := congrArg Prod.fst ((hkey m hm).mpr hev)
      rw [hev, k1] at z1
      exact z1
    have stays : ∀ m ∈ ms, evT b t m.due ≠ e → placeT b e m.due = placeT b t m.due ∧ h ≤ levT b t m.due := fun m hm hev => by
      have hlt : e < evT b t m.due := by
        have := (hms m hm).2.2
        omega
      refine ⟨?_, low_none hb z.low (hms m hm).2.1 hte hlt⟩
      unfold placeT
      rw [(lev_stays hb (hms m hm).2.1 (Nat.le_of_lt hte) hlt).2]
    rw [hL, List.filter_filter]
    by_cases c1 : keyE b e h = p
    · rw [if_pos c1]
      have n1 : ms.filter (fun m => decide (placeT b t m.due = keyE b e h) && decide (m.due ≠ e) && decide (placeT b e m.due = p)) = [] := List.filter_eq_nil_iff.mpr fun m hm x => by
        simp only [Bool.and_eq_true, decide_eq_true_eq] at x
        exact not_key hb (lt_due m hm x.1.2) (x.2.trans c1.symm)
      have n2 : ms.filter (fun m => decide (placeT b e m.due = p) && decide (m.due ≠ e)) = [] := List.filter_eq_nil_iff.mpr fun m hm x => by
        simp only [Bool.and_eq_true, decide_eq_true_eq] at x
        exact not_key hb (lt_due m hm x.2) (x.1.trans c1.symm)
      rw [n1, n2]
      rfl
    · rw [if_neg c1, hcs]
      by_cases c2 : p.1 < h
      · -- a lower list: it was empty, and takes what comes down
        have n1 : ms.filter (fun m => decide (placeT b t m.due = p)) = [] := List.filter_eq_nil_iff.mpr fun m hm x => by
          have x : placeT b t m.due = p := of_decide_eq_true x
          by_cases c3 : evT b t m.due = e
          · exact c1 (((hkey m hm).mpr c3).symm.trans x)
          · have y := (stays m hm c3).2
            have y2 : levT b t m.due = p.1 := congrArg Prod.fst x
            omega
        have n2 : stM b ws t ms p = [] := by
          unfold stM
          rw [n1]
          rfl
        rw [n2, ins_fold, deq_deq]
        have e1 : ms.filter (fun m => decide (placeT b t m.due = keyE b e h) && decide (m.due ≠ e) && decide (placeT b e m.due = p)) = ms.filter (fun m => decide (placeT b e m.due = p) && decide (m.due ≠ e)) := List.filter_congr fun m hm => by
          by_cases c4 : m.due ≠ e ∧ placeT b e m.due = p
          · have c3 : evT b t m.due = e := Classical.byContradiction fun no => by
              obtain ⟨y1, y2⟩ := stays m hm no
              have y3 : levT b e m.due = p.1 := congrArg Prod.fst c4.2
              have y4 : levT b e m.due = levT b t m.due := congrArg Prod.fst y1
              omega
            rw [decide_eq_true ((hkey m hm).mpr c3), decide_eq_true c4.1, decide_eq_true c4.2]
            rfl
          · by_cases c5 : m.due ≠ e
            · rw [decide_eq_false (fun x => c4 ⟨c5, x⟩), Bool.and_false, Bool.false_and]
            · rw [decide_eq_false c5, Bool.and_false, Bool.false_and, Bool.and_false]
        rw [e1]
        refine deq_congr fun m hm => ?_
        obtain ⟨hm, x⟩ := List.mem_filter.mp hm
        simp only [Bool.and_eq_true, decide_eq_true_eq] at x
        have c3 : evT b t m.due = e := Classical.byContradiction fun no => by
          obtain ⟨y1, y2⟩ := stays m hm no
          have y3 : levT b e m.due = p.1 := congrArg Prod.fst x.1
          have y4 : levT b e m.due = levT b t m.due := congrArg Prod.fst y1
          omega
        have k1 : levT b t m.due = h := congrArg Prod.fst ((hkey m hm).mpr c3)
        have k2 : levT b e m.due = p.1 := congrArg Prod.fst x.1
        have sd := side_drop (ws := ws) hb (hms m hm).2.1 (hms m hm).1 (by rw [c3]; exact lt_due m hm x.2)
        rw [c3, k1, k2] at sd
        exact sd.symm
      · -- another list: it stays
        have n1 : ms.filter (fun m => decide (placeT b t m.due = keyE b e h) && decide (m.due ≠ e) && decide (placeT b e m.due = p)) = [] := List.filter_eq_nil_iff.mpr fun m hm x => by
          simp only [Bool.and_eq_true, decide_eq_true_eq] at x
          have y := drops m hm x.1.2 ((hkey m hm).mp x.1.1)
          have y3 : levT b e m.due = p.1 := congrArg Prod.fst x.2
          omega
        rw [n1]
        show stM b ws t ms p = _
        unfold stM
        congr 1
        refine List.filter_congr fun m hm => ?_
        by_cases c3 : evT b t m.due = e
        · have x1 : ¬ placeT b t m.due = p := fun x => c1 (((hkey m hm).mpr c3).symm.trans x)
          rw [decide_eq_false x1]
          by_cases c5 : m.due ≠ e
          · have x2 : ¬ placeT b e m.due = p := fun x => by
              have y := drops m hm c5 c3
              have y3 : levT b e m.due = p.1 := congrArg Prod.fst x
              omega
            rw [decide_eq_false x2, Bool.false_and]
          · rw [decide_eq_false c5, Bool.and_false]
        · have c5 : m.due ≠ e := fun x => c3 (ev m hm x)
          rw [decide_eq_true c5, (stays m hm c3).1, Bool.and_true]
  rw [hA]
  have hB : ∀ m ∈ ((deq (fun m => sideT b ws m.since m.due 0) (ms.filter fun m => decide (m.due = e))).filterMap (againM e)).filter (fun m => decide (placeT b e m.due = p)), sideT b ws m.since m.due p.1 = wordAt ws p.1 := fun m hm => by
    obtain ⟨hm, x⟩ := List.mem_filter.mp hm
    have x : placeT b e m.due = p := of_decide_eq_true x
    obtain ⟨m0, h0, h1⟩ := List.mem_filterMap.mp hm
    have h0' := (List.mem_filter.mp (mem_deq.mp h0)).1
    unfold againM at h1
    cases ep : m0.per with
    | none =>
      rw [ep] at h1
      cases h1
    | some k =>
      rw [ep] at h1
      have h2 := (Option.some.inj h1).symm
      have hk := hper m0 h0' k ep
      subst h2
      have k2 : levT b e (e + k) = p.1 := congrArg Prod.fst x
      show sideT b ws e (e + k) p.1 = wordAt ws p.1
      rw [← k2]
      exact side_new hb (Nat.lt_add_of_pos_right hk)
  rw [ins_deq _ _ _ hB]
  unfold stM
  rw [List.filter_append]
/-- the order of firing, the lists, what is live behind it: as the program has them -/
theorem order_deq (b : Nat) (ws : List Bool) (t : Nat) (ms : List Tm) : orderAt b ws t ms = (deq (fun m => sideT b ws m.since m.due 0) (ms.filter fun m => decide (m.due = t))).map (·.num) := by
  suffices H : ∀ n : Nat, orderAt b ws t (ms.take n) = (deq (fun m => sideT b ws m.since m.due 0) ((ms.take n).filter fun m => decide (m.due = t))).map (·.num) by
    have z := H ms.length
    rw [List.take_length] at z
    exact z
  intro n
  induction n with
  | zero => rfl
  | succ n ih =>
    cases e : ms[n]? with
    | none =>
      have hl : ms.length ≤ n := List.getElem?_eq_none_iff.mp e
      rw [List.take_of_length_le (by omega)]
      rw [List.take_of_length_le hl] at ih
      exact ih
    | some m =>
      rw [List.take_add_one, e, Option.toList_some, order_snoc, List.filter_append]
      by_cases h : m.due = t
      · have e1 : [m].filter (fun m => decide (m.due = t)) = [m] := List.filter_cons_of_pos (by simpa using h)
        rw [if_pos h, e1, deq_snoc, ih]
        unfold insT insM
        cases sideT b ws m.since m.due 0 with
        | true => rfl
        | false =>
          show _ ++ [m.num] = List.map _ (_ ++ [m])
          rw [List.map_append]
          rfl
      · have e1 : [m].filter (fun m => decide (m.due = t)) = [] := List.filter_cons_of_neg (by simpa using h)
        rw [if_neg h, e1, List.append_nil, ih]
theorem cell_st {b : Nat} {ws : List Bool} {t : Nat} {ms : List Tm} {p : Nat × Nat} (hd : ∀ m ∈ ms, t < m.due) : cellV (standD b ws t ms) p = (stM b ws t ms p).map (·.num) := by
  suffices H : ∀ n : Nat, cellV (standD b ws t (ms.take n)) p = (stM b ws t (ms.take n) p).map (·.num) by
    have z := H ms.length
    rw [List.take_length] at z
    exact z
  intro n
  induction n with
  | zero => rfl
  | succ n ih =>
    cases e : ms[n]? with
    | none =>
      have hl : ms.length ≤ n := List.getElem?_eq_none_iff.mp e
      rw [List.take_of_length_le (by omega)]
      rw [List.take_of_length_le hl] at ih
      exact ih
    | some m =>
      rw [List.take_add_one, e, Option.toList_some, stand_snoc]
      unfold standStep
      rw [if_pos (hd m (List.mem_of_getElem? e)), cellV_put]
      unfold stM at ih ⊢
      rw [List.filter_append]
      by_cases h : placeT b t m.due = p
      · have e1 : [m].filter (fun m => decide (placeT b t m.due = p)) = [m] := List.filter_cons_of_pos (by simpa using h)
        rw [if_pos h, e1, deq_snoc, h, ih]
        have e2 : levT b t m.due = p.1 := congrArg Prod.fst h
        rw [e2]
        unfold insT insM
        cases sideT b ws m.since m.due p.1 with
        | true => rfl
        | false =>
          show _ ++ [m.num] = List.map _ (_ ++ [m])
          rw [List.map_append]
          rfl
      · have e1 : [m].filter (fun m => decide (placeT b t m.due = p)) = [] := List.filter_cons_of_neg (by simpa using h)
        rw [if_neg h, e1, List.append_nil, ih]
theorem find_one {ms : List Tm} {m : Tm} (nd : (ms.map (·.num)).Nodup) (h : m ∈ ms) : ms.find? (fun x => decide (x.num = m.num)) = some m := by
  induction ms with
  | nil => cases h
  | cons x ms ih =>
    rw [List.map_cons, List.nodup_cons] at nd
    rw [List.find?_cons]
    rcases List.mem_cons.mp h with e | h
    · rw [← e, decide_eq_true rfl]
    · have n : ¬ x.num = m.num := fun z => nd.1 (List.mem_map.mpr ⟨m, h, z.symm⟩)
      rw [decide_eq_false n]
      exact ih nd.2 h
/-- a new timer, or an old one set anew, at the end -/
theorem nodup_end {ms : List Tm} {m : Tm} (nd : (ms.map (·.num)).Nodup) (h : ∀ x ∈ ms, x.num ≠ m.num) : ((ms ++ [m]).map (·.num)).Nodup := by
  rw [List.map_append]
  refine L2.nd_snoc nd fun hm => ?_
  obtain ⟨x, hx, e⟩ := List.mem_map.mp hm
  exact h x hx e
/-- firing a list of timers, one after the other -/
theorem after_list {t : Nat} : ∀ (F ms : List Tm), (ms.map (·.num)).Nodup → (F.map (·.num)).Nodup → (∀ m ∈ F, m ∈ ms) → afterF t ms (F.map (·.num)) = ms.filter (fun m => decide (m.num ∉ F.map (·.num))) ++ F.filterMap (againM t)
  | [], ms, _, _, _ => by
    show ms = ms.filter _ ++ []
    rw [List.append_nil, List.filter_eq_self.mpr fun m _ => by simp]
  | m :: F, ms, nd, ndF, hF => by
    rw [List.map_cons, List.nodup_cons] at ndF
    have hm := hF m (List.mem_cons_self ..)
    have key : fireT t ms m.num = dropT m.num ms ++ (againM t m).toList := by
      unfold fireT
      rw [find_one nd hm]
      show (match m.per with | none => dropT m.num ms | some k => dropT m.num ms ++ [(⟨m.num, t + k, some k, t⟩ : Tm)]) = _
      unfold againM
      cases m.per with
      | none =>
        show dropT m.num ms = dropT m.num ms ++ []
        rw [List.append_nil]
      | some k => rfl
    show afterF t (fireT t ms m.num) (F.map (·.num)) = _
    have nd1 : ((fireT t ms m.num).map (·.num)).Nodup := by
      rw [key]
      have nd0 : ((dropT m.num ms).map (·.num)).Nodup := List.Nodup.sublist (List.Sublist.map _ List.filter_sublist) nd
      cases ea : againM t m with
      | none => simpa using nd0
      | some m' =>
        have en : m'.num = m.num := by
          unfold againM at ea
          cases ep : m.per with
          | none =>
            rw [ep] at ea
            cases ea
          | some k =>
            rw [ep] at ea
            rw [← Option.some.inj ea]
        refine nodup_end nd0 fun x hx => ?_
        rw [en]
        simpa using (List.mem_filter.mp hx).2
    have mem1 : ∀ x ∈ F, x ∈ fireT t ms m.num := fun x hx => by
      rw [key]
      refine List.mem_append_left _ (List.mem_filter.mpr ⟨hF x (List.mem_cons_of_mem _ hx), ?_⟩)
      have n : ¬ x.num = m.num := fun z => ndF.1 (List.mem_map.mpr ⟨x, hx, z⟩)
      simpa using n
    rw [after_list F _ nd1 ndF.2 mem1, key, List.filter_append]
    have e1 : ((againM t m).toList).filter (fun x => decide (x.num ∉ F.map (·.num))) = (againM t m).toList := List.filter_eq_self.mpr fun x hx => by
      cases ea : againM t m with
      | none =>
        rw [ea] at hx
        cases hx
      | some m' =>
        rw [ea] at hx
        have en : m'.num = m.num := by
          unfold againM at ea
          cases ep : m.per with
          | none =>
            rw [ep] at ea
            cases ea
          | some k =>
            rw [ep] at ea
            rw [← Option.some.inj ea]
        have ex : x = m' := List.mem_singleton.mp hx
        rw [ex, en]
        exact decide_eq_true ndF.1
    rw [e1]
    unfold dropT
    rw [List.filter_filter]
    have e2 : ms.filter (fun x => decide (x.num ∉ F.map (·.num)) && decide (x.num ≠ m.num)) = ms.filter fun x => decide (x.num ∉ (m :: F).map (·.num)) := List.filter_congr fun x _ => by
      rw [List.map_cons]
      by_cases c : x.num = m.num
      · have c1 : decide (x.num ≠ m.num) = false := decide_eq_false fun z => z c
        have c2 : decide (x.num ∉ m.num :: F.map (·.num)) = false := decide_eq_false fun z => z (by rw [c]; exact List.mem_cons_self ..)
        rw [c1, c2, Bool.and_false]
      · have c1 : decide (x.num ≠ m.num) = true := decide_eq_true c
        rw [c1, Bool.and_true]
        exact decide_eq_decide.mpr ⟨fun z y => (List.mem_cons.mp y).elim c z, fun z y => z (List.mem_cons_of_mem _ y)⟩
    rw [e2, List.append_assoc]
    congr 1
    cases ea : againM t m with
    | none => rw [List.filterMap_cons_none ea]; rfl
    | some m' => rw [List.filterMap_cons_some ea]; rfl
theorem after_due {b : Nat} {ws : List Bool} {t : Nat} {ms : List Tm} (nd : (ms.map (·.num)).Nodup) : afterF t ms (orderAt b ws t ms) = ms.filter (fun m => decide (m.due ≠ t)) ++ (deq (fun m => sideT b ws m.since m.due 0) (ms.filter fun m => decide (m.due = t))).filterMap (againM t) := by
  rw [order_deq, after_list _ ms nd]
  · congr 1
    refine List.filter_congr fun m hm => ?_
    by_cases c : m.due = t
    · have c1 : decide (m.due ≠ t) = false := decide_eq_false fun z => z c
      rw [c1]
      exact decide_eq_false fun z => z (List.mem_map.mpr ⟨m, mem_deq.mpr (List.mem_filter.mpr ⟨hm, decide_eq_true c⟩), rfl⟩)
    · have c1 : decide (m.due ≠ t) = true := decide_eq_true c
      rw [c1]
      refine decide_eq_true ?_
      intro z
      obtain ⟨x, hx, e⟩ := List.mem_map.mp z
      obtain ⟨h1, h2⟩ := List.mem_filter.mp (mem_deq.mp hx)
      have f1 := find_one nd h1
      have f2 := find_one nd hm
      rw [e, f2] at f1
      have e3 : m = x := Option.some.inj f1
      rw [e3] at c
      exact c (of_decide_eq_true h2)
  · rw [List.Perm.nodup_iff ((deq_perm _ _).map _)]
    exact List.Nodup.sublist (List.Sublist.map _ List.filter_sublist) nd
  · exact fun m hm => (List.mem_filter.mp (mem_deq.mp hm)).1
/-! ### timers that fire again -/
theorem again_of {t : Nat} {m m' : Tm} (h : againM t m = some m') : ∃ k, m.per = some k ∧ m' = ⟨m.num, t + k, some k, t⟩ := by
  unfold againM at h
  cases ep : m.per with
  | none =>
    rw [ep] at h
    cases h
  | some k =>
    rw [ep] at h
    exact ⟨k, rfl, (Option.some.inj h).symm⟩
theorem fireN_nodup {t n : Nat} {ms : List Tm} (nd : (ms.map (·.num)).Nodup) : ((fireT t ms n).map (·.num)).Nodup := by
  have nd0 : ((dropT n ms).map (·.num)).Nodup := List.Nodup.sublist (List.Sublist.map _ List.filter_sublist) nd
  unfold fireT
  split
  · exact nd
  · split
    · exact nd0
    · exact nodup_end nd0 fun x hx => by simpa using (List.mem_filter.mp hx).2
theorem nodup_le {α : Type} [DecidableEq α] : ∀ (l l' : List α), l.Nodup → (∀ x ∈ l, x ∈ l') → l.length ≤ l'.length
  | [], _, _, _ => Nat.zero_le _
  | a :: l, l', nd, h => by
    rw [List.nodup_cons] at nd
    have ha := h a (List.mem_cons_self ..)
    have ih := nodup_le l (l'.erase a) nd.2 fun x hx => (List.mem_erase_of_ne fun e => nd.1 (by rw [← e]; exact hx)).mpr (h x (List.mem_cons_of_mem _ hx))
    rw [List.length_erase_of_mem ha] at ih
    have := List.length_pos_of_mem ha
    rw [List.length_cons]
    omega
/-! ### timers taken out, and fired -/
def DuesOk (ms : List Tm) : Prop := ∀ m ∈ ms, m.since < m.due ∧ m.due < 2 ^ 250
theorem order_few (b : Nat) (ws : List Bool) (t : Nat) (ms : List Tm) : (orderAt b ws t ms).length ≤ ms.length := by
  rw [order_len]
  exact List.length_filter_le _ _
/-- the timers that fire stand in the list, each once -/
structure Firing (t : Nat) (ms : List Tm) (ns : List Nat) : Prop where
  nd : ns.Nodup
  mem : ∀ n ∈ ns, ∃ m ∈ ms, m.num = n
theorem drop_mem {n : Nat} {ms : List Tm} {m : Tm} (h : m ∈ ms) (hn : m.num ≠ n) : m ∈ dropT n ms := List.mem_filter.mpr ⟨h, by simpa using hn⟩
theorem drop_len_lt {n : Nat} {ms : List Tm} (h : ∃ m ∈ ms, m.num = n) : (dropT n ms).length < ms.length := by
  obtain ⟨m, hm, e⟩ := h
  unfold dropT
  exact List.length_filter_lt_length_iff_exists.mpr ⟨m, hm, by simp [e]⟩
theorem fire_some {t n : Nat} {ms : List Tm} {m : Tm} (h : ms.find? (fun x => decide (x.num = n)) = some m) : fireT t ms n = match m.per with
    | none => dropT n ms
    | some k => dropT n ms ++ [⟨n, t + k, some k, t⟩] := by
  unfold fireT
  rw [h]
  try rfl
theorem drop_nodup {n : Nat} {ms : List Tm} (nd : (ms.map (·.num)).Nodup) : ((dropT n ms).map (·.num)).Nodup := by
  unfold dropT
  exact nd.sublist (List.Sublist.map _ List.filter_sublist)
theorem drop_not {n : Nat} {ms : List Tm} : ∀ m ∈ dropT n ms, m.num ≠ n := fun m hm => by simpa using (List.mem_filter.mp hm).2
theorem fire_nodup {t n : Nat} {ms : List Tm} (nd : (ms.map (·.num)).Nodup) : ((fireT t ms n).map (·.num)).Nodup := by
  unfold fireT
  split
  · exact nd
  · split
    · exact drop_nodup nd
    · rw [List.map_append]
      refine nd_snoc (drop_nodup nd) fun h => ?_
      obtain ⟨m, hm, e⟩ := List.mem_map.mp h
      exact drop_not m hm e
theorem fire_num {t n x : Nat} {ms : List Tm} (hx : x ≠ n) (h : ∃ m ∈ ms, m.num = x) : ∃ m ∈ fireT t ms n, m.num = x := by
  obtain ⟨m, hm, e⟩ := h
  unfold fireT
  split
  · exact ⟨m, hm, e⟩
  · split
    · exact ⟨m, drop_mem hm (by omega), e⟩
    · exact ⟨m, List.mem_append_left _ (drop_mem hm (by omega)), e⟩
theorem fire_len {t n : Nat} {ms : List Tm} : (fireT t ms n).length ≤ ms.length := by
  unfold fireT
  split
  · exact Nat.le_refl _
  · rename_i m hf
    have hm := List.mem_of_find?_eq_some hf
    have e : m.num = n := by simpa using List.find?_some hf
    have z := drop_len_lt (n := n) ⟨m, hm, e⟩
    split
    · omega
    · rw [List.length_append]
      show (dropT n ms).length + 1 ≤ _
      omega
/-! ### advancing in parts -/
theorem AdvTo.trans {b : Nat} {ws : List Bool} {s t : Nat} (hst : s ≤ t) {ms ms' ms'' : List Tm} {f f' : List (Nat × List Nat)} (h : AdvTo b ws s ms f ms') (h' : AdvTo b ws t ms' f' ms'') : AdvTo b ws t ms (f ++ f') ms'' := by
  induction h with
  | done _ => exact h'
  | step h1 h2 ok nd few _ ih => exact .step h1 (Nat.le_trans h2 hst) ok nd few (ih h')
theorem AdvTo.uniq {b : Nat} {ws : List Bool} {t : Nat} {ms ms' ms'' : List Tm} {f f' : List (Nat × List Nat)} (h : AdvTo b ws t ms f ms') (h' : AdvTo b ws t ms f' ms'') : f = f' ∧ ms' = ms'' := by
  induction h generalizing f' with
  | done hd =>
    cases h' with
    | done _ => exact ⟨rfl, rfl⟩
    | step h1 h2 _ _ _ _ =>
      obtain ⟨m, hm, e⟩ := List.mem_map.mp (least_some.mp h1).1
      have z := hd m hm
      omega
  | step h1 h2 ok nd few r ih =>
    cases h' with
    | done hd =>
      obtain ⟨m, hm, e⟩ := List.mem_map.mp (least_some.mp h1).1
      have z := hd m hm
      omega
    | step k1 k2 _ _ _ r' =>
      have e := Option.some.inj (h1.symm.trans k1)
      subst e
      obtain ⟨e1, e2⟩ := ih r'
      exact ⟨by rw [e1], e2⟩
/-- advancing to the tick ahead of all due ticks changes nothing -/
theorem AdvTo.none_due {b : Nat} {ws : List Bool} {t : Nat} {ms ms' : List Tm} {f : List (Nat × List Nat)} (h : AdvTo b ws t ms f ms') (hd : ∀ m ∈ ms, t < m.due) : f = [] ∧ ms' = ms := by
  obtain ⟨e1, e2⟩ := h.uniq (.done hd)
  exact ⟨e1, e2⟩
/-- in two parts or in one -/
theorem AdvTo.parts {b : Nat} {ws : List Bool} {s t : Nat} (hst : s ≤ t) {ms ms1 ms2 ms3 : List Tm} {f1 f2 f3 : List (Nat × List Nat)} (h1 : AdvTo b ws s ms f1 ms1) (h2 : AdvTo b ws t ms1 f2 ms2) (h3 : AdvTo b ws t ms f3 ms3) : f3 = f1 ++ f2 ∧ ms3 = ms2 := h3.uniq (h1.trans hst h2)
def topS (i : Nat) : Stmt := PySem.Challenge.pw_timerdeque_k06_too_many_firings.main.body.getD i (.Pass ⟨0, 0, 0, 0⟩)
abbrev s__wall : Stmt := topS 0
abbrev N__wall : List Str := ["k"]
theorem sc__wall : FnScope N__wall ["k"] (defScope s__wall) := by
  refine ⟨rfl, rfl, rfl, ?_, rfl, ?_, ?_⟩ <;> decide +kernel
abbrev s_is_integer : Stmt := topS 14
abbrev N_is_integer : List Str := ["given"]
theorem sc_is_integer : FnScope N_is_integer ["given"] (defScope s_is_integer) := by
  refine ⟨rfl, rfl, rfl, ?_, rfl, ?_, ?_⟩ <;> decide +kernel
abbrev s_is_word : Stmt := topS 15
abbrev N_is_word : List Str := ["given"]
theorem sc_is_word : FnScope N_is_word ["given"] (defScope s_is_word) := by
  refine ⟨rfl, rfl, rfl, ?_, rfl, ?_, ?_⟩ <;> decide +kernel
abbrev s_is_base : Stmt := topS 16
abbrev N_is_base : List Str := ["given"]
theorem sc_is_base : FnScope N_is_base ["given"] (defScope s_is_base) := by
  refine ⟨rfl, rfl, rfl, ?_, rfl, ?_, ?_⟩ <;> decide +kernel
abbrev s_is_length : Stmt := topS 17
abbrev N_is_length : List Str := ["given"]
theorem sc_is_length : FnScope N_is_length ["given"] (defScope s_is_length) := by
  refine ⟨rfl, rfl, rfl, ?_, rfl, ?_, ?_⟩ <;> decide +kernel
abbrev s_are_levels : Stmt := topS 18
abbrev N_are_levels : List Str := ["given", "word"]
theorem sc_are_levels : FnScope N_are_levels ["given"] (defScope s_are_levels) := by
  refine ⟨rfl, rfl, rfl, ?_, rfl, ?_, ?_⟩ <;> decide +kernel
abbrev s_is_tick : Stmt := topS 19
abbrev N_is_tick : List Str := ["given", "least"]
theorem sc_is_tick : FnScope N_is_tick ["given", "least"] (defScope s_is_tick) := by
  refine ⟨rfl, rfl, rfl, ?_, rfl, ?_, ?_⟩ <;> decide +kernel
abbrev s_is_period : Stmt := topS 20
abbrev N_is_period : List Str := ["given"]
theorem sc_is_period : FnScope N_is_period ["given"] (defScope s_is_period) := by
  refine ⟨rfl, rfl, rfl, ?_, rfl, ?_, ?_⟩ <;> decide +kernel
abbrev s_check_base : Stmt := topS 21
abbrev N_check_base : List Str := ["base"]
theorem sc_check_base : FnScope N_check_base ["base"] (defScope s_check_base) := by
  refine ⟨rfl, rfl, rfl, ?_, rfl, ?_, ?_⟩ <;> decide +kernel
abbrev s_check_levels : Stmt := topS 22
abbrev N_check_levels : List Str := ["levels"]
theorem sc_check_levels : FnScope N_check_levels ["levels"] (defScope s_check_levels) := by
  refine ⟨rfl, rfl, rfl, ?_, rfl, ?_, ?_⟩ <;> decide +kernel
abbrev s_check_tick : Stmt := topS 23
abbrev N_check_tick : List Str := ["tick", "least"]
theorem sc_check_tick : FnScope N_check_tick ["tick", "least"] (defScope s_check_tick) := by
  refine ⟨rfl, rfl, rfl, ?_, rfl, ?_, ?_⟩ <;> decide +kernel
abbrev s_word_at : Stmt := topS 25
abbrev N_word_at : List Str := ["levels", "level"]
theorem sc_word_at : FnScope N_word_at ["levels", "level"] (defScope s_word_at) := by
  refine ⟨rfl, rfl, rfl, ?_, rfl, ?_, ?_⟩ <;> decide +kernel
abbrev s_level_and_size : Stmt := topS 26
abbrev N_level_and_size : List Str := ["base", "now", "due", "level", "size", "above_now", "above_due"]
theorem sc_level_and_size : FnScope N_level_and_size ["base", "now", "due"] (defScope s_level_and_size) := by
  refine ⟨rfl, rfl, rfl, ?_, rfl, ?_, ?_⟩ <;> decide +kernel
abbrev s_path : Stmt := topS 27
abbrev N_path : List Str := ["base", "now", "due", "level", "size", "rows", "tick", "digit"]
theorem sc_path : FnScope N_path ["base", "now", "due"] (defScope s_path) := by
  refine ⟨rfl, rfl, rfl, ?_, rfl, ?_, ?_⟩ <;> decide +kernel
abbrev s_goes_in_front : Stmt := topS 28
abbrev N_goes_in_front : List Str := ["base", "levels", "now", "due", "lowest", "front", "level", "digit", "tick"]
theorem sc_goes_in_front : FnScope N_goes_in_front ["base", "levels", "now", "due", "lowest"] (defScope s_goes_in_front) := by
  refine ⟨rfl, rfl, rfl, ?_, rfl, ?_, ?_⟩ <;> decide +kernel
abbrev s_with_timer : Stmt := topS 29
abbrev N_with_timer : List Str := ["numbers", "number", "front"]
theorem sc_with_timer : FnScope N_with_timer ["numbers", "number", "front"] (defScope s_with_timer) := by
  refine ⟨rfl, rfl, rfl, ?_, rfl, ?_, ?_⟩ <;> decide +kernel
abbrev s_firing_order : Stmt := topS 30
abbrev N_firing_order : List Str := ["base", "levels", "due", "settings", "numbers", "number", "now"]
theorem sc_firing_order : FnScope N_firing_order ["base", "levels", "due", "settings"] (defScope s_firing_order) := by
  refine ⟨rfl, rfl, rfl, ?_, rfl, ?_, ?_⟩ <;> decide +kernel
abbrev s_without_repeats : Stmt := topS 33
abbrev N_without_repeats : List Str := ["levels", "many"]
theorem sc_without_repeats : FnScope N_without_repeats ["levels"] (defScope s_without_repeats) := by
  refine ⟨rfl, rfl, rfl, ?_, rfl, ?_, ?_⟩ <;> decide +kernel
abbrev s_check_period : Stmt := topS 34
abbrev N_check_period : List Str := ["period"]
theorem sc_check_period : FnScope N_check_period ["period"] (defScope s_check_period) := by
  refine ⟨rfl, rfl, rfl, ?_, rfl, ?_, ?_⟩ <;> decide +kernel
abbrev s_order_of_firing : Stmt := topS 35
abbrev N_order_of_firing : List Str := ["base", "levels", "live", "tick", "settings", "number", "due", "period", "since"]
theorem sc_order_of_firing : FnScope N_order_of_firing ["base", "levels", "live", "tick"] (defScope s_order_of_firing) := by
  refine ⟨rfl, rfl, rfl, ?_, rfl, ?_, ?_⟩ <;> decide +kernel
abbrev s_standing : Stmt := topS 36
abbrev N_standing : List Str := ["base", "levels", "live", "tick", "rows", "number", "due", "period", "since", "level", "size", "place", "front", "digit"]
theorem sc_standing : FnScope N_standing ["base", "levels", "live", "tick"] (defScope s_standing) := by
  refine ⟨rfl, rfl, rfl, ?_, rfl, ?_, ?_⟩ <;> decide +kernel
abbrev s_least_due : Stmt := topS 37
abbrev N_least_due : List Str := ["live", "due", "period", "since"]
theorem sc_least_due : FnScope N_least_due ["live"] (defScope s_least_due) := by
  refine ⟨rfl, rfl, rfl, ?_, rfl, ?_, ?_⟩ <;> decide +kernel
abbrev s_after_firing : Stmt := topS 38
abbrev N_after_firing : List Str := ["live", "numbers", "tick", "left", "number", "due", "period", "since"]
theorem sc_after_firing : FnScope N_after_firing ["live", "numbers", "tick"] (defScope s_after_firing) := by
  refine ⟨rfl, rfl, rfl, ?_, rfl, ?_, ?_⟩ <;> decide +kernel
abbrev s__law_cell_at : Stmt := topS 41
abbrev N__law_cell_at : List Str := ["_law_script", "_law_k"]
theorem sc__law_cell_at : FnScope N__law_cell_at ["_law_script", "_law_k"] (defScope s__law_cell_at) := by
  refine ⟨rfl, rfl, rfl, ?_, rfl, ?_, ?_⟩ <;> decide +kernel
abbrev s__law_mixed : Stmt := topS 42
abbrev N__law_mixed : List Str := ["_law_cell", "_law_k", "_law_low"]
theorem sc__law_mixed : FnScope N__law_mixed ["_law_cell", "_law_k"] (defScope s__law_mixed) := by
  refine ⟨rfl, rfl, rfl, ?_, rfl, ?_, ?_⟩ <;> decide +kernel
abbrev s__law_source : Stmt := topS 43
abbrev N__law_source : List Str := ["_law_script", "_law_k", "_law_cell"]
theorem sc__law_source : FnScope N__law_source ["_law_script", "_law_k"] (defScope s__law_source) := by
  refine ⟨rfl, rfl, rfl, ?_, rfl, ?_, ?_⟩ <;> decide +kernel
abbrev s__law_next : Stmt := topS 44
abbrev N__law_next : List Str := ["_law_source_here", "_law_many_here", "_law_found"]
theorem sc__law_next : FnScope N__law_next ["_law_source_here", "_law_many_here"] (defScope s__law_next) := by
  refine ⟨rfl, rfl, rfl, ?_, rfl, ?_, ?_⟩ <;> decide +kernel
abbrev s__law_base : Stmt := topS 45
abbrev N__law_base : List Str := ["_law_source_here"]
theorem sc__law_base : FnScope N__law_base ["_law_source_here"] (defScope s__law_base) := by
  refine ⟨rfl, rfl, rfl, ?_, rfl, ?_, ?_⟩ <;> decide +kernel
abbrev s__law_levels : Stmt := topS 46
abbrev N__law_levels : List Str := ["_law_source_here", "_law_many_here", "_law_sort", "_law_found", "_law_at"]
theorem sc__law_levels : FnScope N__law_levels ["_law_source_here"] (defScope s__law_levels) := by
  refine ⟨rfl, rfl, rfl, ?_, rfl, ?_, ?_⟩ <;> decide +kernel
abbrev s__law_tick : Stmt := topS 47
abbrev N__law_tick : List Str := ["_law_source_here", "_law_base_here", "_law_sort", "_law_size", "_law_at"]
theorem sc__law_tick : FnScope N__law_tick ["_law_source_here", "_law_base_here"] (defScope s__law_tick) := by
  refine ⟨rfl, rfl, rfl, ?_, rfl, ?_, ?_⟩ <;> decide +kernel
abbrev s__law_word : Stmt := topS 48
abbrev N__law_word : List Str := ["_law_call", "e", "_law_marks"]
theorem sc__law_word : FnScope N__law_word ["_law_call"] (defScope s__law_word) := by
  refine ⟨rfl, rfl, rfl, ?_, rfl, ?_, ?_⟩ <;> decide +kernel
abbrev s__law_many : Stmt := topS 49
abbrev N__law_many : List Str := ["_law_laps", "_law_now", "_law_last", "_law_lap"]
theorem sc__law_many : FnScope N__law_many ["_law_laps", "_law_now", "_law_last"] (defScope s__law_many) := by
  refine ⟨rfl, rfl, rfl, ?_, rfl, ?_, ?_⟩ <;> decide +kernel
abbrev s__law_bound : Stmt := topS 50
abbrev N__law_bound : List Str := ["_law_laps", "_law_now", "_law_least", "_law_most", "_law_middle"]
theorem sc__law_bound : FnScope N__law_bound ["_law_laps", "_law_now"] (defScope s__law_bound) := by
  refine ⟨rfl, rfl, rfl, ?_, rfl, ?_, ?_⟩ <;> decide +kernel
abbrev s__law_wheel : Stmt := topS 51
abbrev N__law_wheel : List Str := ["_law_base_here", "_law_levels_here", "_law_now", "_law_laps", "_law_found", "_law_lap"]
theorem sc__law_wheel : FnScope N__law_wheel ["_law_base_here", "_law_levels_here", "_law_now", "_law_laps"] (defScope s__law_wheel) := by
  refine ⟨rfl, rfl, rfl, ?_, rfl, ?_, ?_⟩ <;> decide +kernel
abbrev s_law : Stmt := topS 52
abbrev N_law : List Str := ["_law_script", "_law_k", "_law_source_here", "_law_base_here", "_law_levels_here", "_law_now", "_law_laps", "_law_bound_here", "_law_other", "_law_shown", "_law_told", "_law_middle", "_law_last", "_law_wheel_here", "_law_at", "_law_tick_here", "_law_numbers"]
theorem sc_law : FnScope N_law ["_law_script"] (defScope s_law) := by
  refine ⟨rfl, rfl, rfl, ?_, rfl, ?_, ?_⟩ <;> decide +kernel
abbrev s_Wheel___init__ : Stmt := inClass (topS 39) 0
abbrev N_Wheel___init__ : List Str := ["self", "base", "levels", "start"]
theorem sc_Wheel___init__ : FnScope N_Wheel___init__ ["self", "base", "levels", "start"] (defScope s_Wheel___init__) := by
  refine ⟨rfl, rfl, rfl, ?_, rfl, ?_, ?_⟩ <;> decide +kernel
abbrev s_Wheel___len__ : Stmt := inClass (topS 39) 1
abbrev N_Wheel___len__ : List Str := ["self"]
theorem sc_Wheel___len__ : FnScope N_Wheel___len__ ["self"] (defScope s_Wheel___len__) := by
  refine ⟨rfl, rfl, rfl, ?_, rfl, ?_, ?_⟩ <;> decide +kernel
abbrev s_Wheel___eq__ : Stmt := inClass (topS 39) 2
abbrev N_Wheel___eq__ : List Str := ["self", "other"]
theorem sc_Wheel___eq__ : FnScope N_Wheel___eq__ ["self", "other"] (defScope s_Wheel___eq__) := by
  refine ⟨rfl, rfl, rfl, ?_, rfl, ?_, ?_⟩ <;> decide +kernel
abbrev s_Wheel_check_timer : Stmt := inClass (topS 39) 3
abbrev N_Wheel_check_timer : List Str := ["self", "timer"]
theorem sc_Wheel_check_timer : FnScope N_Wheel_check_timer ["self", "timer"] (defScope s_Wheel_check_timer) := by
  refine ⟨rfl, rfl, rfl, ?_, rfl, ?_, ?_⟩ <;> decide +kernel
abbrev s_Wheel_now : Stmt := inClass (topS 39) 4
abbrev N_Wheel_now : List Str := ["self"]
theorem sc_Wheel_now : FnScope N_Wheel_now ["self"] (defScope s_Wheel_now) := by
  refine ⟨rfl, rfl, rfl, ?_, rfl, ?_, ?_⟩ <;> decide +kernel
abbrev s_Wheel_put : Stmt := inClass (topS 39) 5
abbrev N_Wheel_put : List Str := ["self", "due", "period", "number"]
theorem sc_Wheel_put : FnScope N_Wheel_put ["self", "due", "period"] (defScope s_Wheel_put) := by
  refine ⟨rfl, rfl, rfl, ?_, rfl, ?_, ?_⟩ <;> decide +kernel
abbrev s_Wheel_cancel : Stmt := inClass (topS 39) 6
abbrev N_Wheel_cancel : List Str := ["self", "timer"]
theorem sc_Wheel_cancel : FnScope N_Wheel_cancel ["self", "timer"] (defScope s_Wheel_cancel) := by
  refine ⟨rfl, rfl, rfl, ?_, rfl, ?_, ?_⟩ <;> decide +kernel
abbrev s_Wheel_reset : Stmt := inClass (topS 39) 7
abbrev N_Wheel_reset : List Str := ["self", "timer", "due"]
theorem sc_Wheel_reset : FnScope N_Wheel_reset ["self", "timer", "due"] (defScope s_Wheel_reset) := by
  refine ⟨rfl, rfl, rfl, ?_, rfl, ?_, ?_⟩ <;> decide +kernel
abbrev s_Wheel_due : Stmt := inClass (topS 39) 8
abbrev N_Wheel_due : List Str := ["self", "timer"]
theorem sc_Wheel_due : FnScope N_Wheel_due ["self", "timer"] (defScope s_Wheel_due) := by
  refine ⟨rfl, rfl, rfl, ?_, rfl, ?_, ?_⟩ <;> decide +kernel
abbrev s_Wheel_timers : Stmt := inClass (topS 39) 9
abbrev N_Wheel_timers : List Str := ["self"]
theorem sc_Wheel_timers : FnScope N_Wheel_timers ["self"] (defScope s_Wheel_timers) := by
  refine ⟨rfl, rfl, rfl, ?_, rfl, ?_, ?_⟩ <;> decide +kernel
abbrev s_Wheel_advance : Stmt := inClass (topS 39) 10
abbrev N_Wheel_advance : List Str := ["self", "tick", "fired", "many", "live", "at", "numbers"]
theorem sc_Wheel_advance : FnScope N_Wheel_advance ["self", "tick"] (defScope s_Wheel_advance) := by
  refine ⟨rfl, rfl, rfl, ?_, rfl, ?_, ?_⟩ <;> decide +kernel
abbrev s_Wheel_lists : Stmt := inClass (topS 39) 11
abbrev N_Wheel_lists : List Str := ["self"]
theorem sc_Wheel_lists : FnScope N_Wheel_lists ["self"] (defScope s_Wheel_lists) := by
  refine ⟨rfl, rfl, rfl, ?_, rfl, ?_, ?_⟩ <;> decide +kernel
abbrev s_Wheel_firing : Stmt := inClass (topS 39) 12
abbrev N_Wheel_firing : List Str := ["self", "tick"]
theorem sc_Wheel_firing : FnScope N_Wheel_firing ["self", "tick"] (defScope s_Wheel_firing) := by
  refine ⟨rfl, rfl, rfl, ?_, rfl, ?_, ?_⟩ <;> decide +kernel
abbrev s_Wheel_lists_at : Stmt := inClass (topS 39) 13
abbrev N_Wheel_lists_at : List Str := ["self", "tick"]
theorem sc_Wheel_lists_at : FnScope N_Wheel_lists_at ["self", "tick"] (defScope s_Wheel_lists_at) := by
  refine ⟨rfl, rfl, rfl, ?_, rfl, ?_, ?_⟩ <;> decide +kernel
abbrev s_Wheel_restoring : Stmt := inClass (topS 39) 14
abbrev N_Wheel_restoring : List Str := ["self", "rows", "level", "digit", "numbers", "number"]
theorem sc_Wheel_restoring : FnScope N_Wheel_restoring ["self"] (defScope s_Wheel_restoring) := by
  refine ⟨rfl, rfl, rfl, ?_, rfl, ?_, ?_⟩ <;> decide +kernel
abbrev s_Wheel_snapshot : Stmt := inClass (topS 39) 15
abbrev N_Wheel_snapshot : List Str := ["self", "rows", "number", "due"]
theorem sc_Wheel_snapshot : FnScope N_Wheel_snapshot ["self"] (defScope s_Wheel_snapshot) := by
  refine ⟨rfl, rfl, rfl, ?_, rfl, ?_, ?_⟩ <;> decide +kernel
abbrev s_Wheel_next_event : Stmt := inClass (topS 39) 16
abbrev N_Wheel_next_event : List Str := ["self"]
theorem sc_Wheel_next_event : FnScope N_Wheel_next_event ["self"] (defScope s_Wheel_next_event) := by
  refine ⟨rfl, rfl, rfl, ?_, rfl, ?_, ?_⟩ <;> decide +kernel
abbrev s_Wheel_next_firing : Stmt := inClass (topS 39) 17
abbrev N_Wheel_next_firing : List Str := ["self"]
theorem sc_Wheel_next_firing : FnScope N_Wheel_next_firing ["self"] (defScope s_Wheel_next_firing) := by
  refine ⟨rfl, rfl, rfl, ?_, rfl, ?_, ?_⟩ <;> decide +kernel
abbrev s_Wheel_moves_until : Stmt := inClass (topS 39) 18
abbrev N_Wheel_moves_until : List Str := ["self", "tick"]
theorem sc_Wheel_moves_until : FnScope N_Wheel_moves_until ["self", "tick"] (defScope s_Wheel_moves_until) := by
  refine ⟨rfl, rfl, rfl, ?_, rfl, ?_, ?_⟩ <;> decide +kernel
/-- what the top leaves of built-in names -/
structure Tx (K : PySem.W.Frag) (mg : Str → Option Value) : Prop where
  b_isinstance : mg "isinstance" = none
  b_int : mg "int" = none
  b_bool : mg "bool" = none
  b_str : mg "str" = none
  b_all : mg "all" = none
  b_list : mg "list" = none
  b_len : mg "len" = none
  b_min : mg "min" = none
  b_sorted : mg "sorted" = none
  b_dict : mg "dict" = none
  b_range : mg "range" = none
  b_max : mg "max" = none
  b_sum : mg "sum" = none
/-! ### the program: what an integer is, bases, ticks -/
def slotInt (σ : L2.St) (i : Nat) : Nat := match σ[i]? with
  | some (some (.int z)) => z.toNat
  | _ => 0
theorem cast_div (a b : Nat) : (a : Int) / (b : Int) = ((a / b : Nat) : Int) := rfl
theorem cast_mod (a b : Nat) : (a : Int) % (b : Int) = ((a % b : Nat) : Int) := rfl
theorem cast_mul (a b : Nat) : (a : Int) * (b : Int) = ((a * b : Nat) : Int) := (Int.natCast_mul a b).symm
theorem cast_add (a b : Nat) : (a : Int) + (b : Int) = ((a + b : Nat) : Int) := rfl
theorem natAbs_cast (a : Nat) : ((a : Nat) : Int).natAbs = a := rfl
theorem divp_s {i j : Int} (b : Nat) (hj : 0 < j) (hi : i.natAbs < 2 ^ b) (h : b ≤ 3000 := by decide) : CDivP i j := by
  refine divp_ok hj ?_
  have := PyProof.Rows.intBits_le hi
  omega
section
variable {P : Program} {w : World} {K : PySem.W.Frag} {mg : Str → Option Value} {base : Heap}
def spIsInt : Sp := fun vs H Q _ => ∃ n : Int, vs = [.int n] ∧ Q (.bl true) H
theorem ok_is_integer {f : Addr} {fd : FuncData} (F : Fun K "is_integer" "is_integer" s_is_integer f fd) (T : Tx K mg) : FnOk P w K mg base CX0 1 f fd ["given"] spIsInt := by
  refine F.ok sc_is_integer (fun vs H Q E h => ?_) (fun cdv A outer s H vs Q E hr h => ?_)
  · obtain ⟨n, rfl, _⟩ := h
    rfl
  · obtain ⟨n, rfl, q⟩ := h
    refine ⟨_, (pss_one (ps_ret (pe_and (pe_callB (isiK (K := K) rfl) (by rfl) T.b_isinstance (by decide +kernel) (pa_cons (pv 0) (pa_cons (pe_bltn (v := .ty "int") (u := .type "int") (by rfl) T.b_int (by decide +kernel) rfl) pa_nil))) (pe_one (pe_not (pe_callB (isiK (K := K) rfl) (by rfl) T.b_isinstance (by decide +kernel) (pa_cons (pv 0) (pa_cons (pe_bltn (v := .ty "bool") (u := .type "bool") (by rfl) T.b_bool (by decide +kernel) rfl) pa_nil)))))))), ?_⟩
    refine ⟨.int n, rfl, .int n, _, _, _, true, rfl, .ty "int", .base (.int n), kit_ty (by decide +kernel), true, rfl, iteT ?_⟩
    exact ⟨.int n, rfl, .int n, _, _, _, false, rfl, .ty "bool", .base (.int n), kit_ty (by decide +kernel), false, rfl, q⟩
end
/-! a tick, of an integer -/
section
variable {P : Program} {w : World} {K : PySem.W.Frag} {mg : Str → Option Value} {base : Heap}
def spIsTick : Sp := fun vs H Q _ => ∃ n l : Int, vs = [.int n, .int l] ∧ l ≤ n ∧ Q (.bl true) H
theorem ok_is_tick {f : Addr} {fd : FuncData} (F : FunD K "is_tick" "is_tick" (defArgs s_is_tick) (defBody s_is_tick) (defScope s_is_tick) [.int 0] [] f fd) (T : Tx K mg) (h1 : Has P w K mg base 1 "is_integer" ["given"] [] spIsInt) : FnOk P w K mg base CX0 2 f fd ["given", "least"] spIsTick := by
  obtain ⟨f_is_integer, fd_is_integer, ds_is_integer, G_is_integer, m_is_integer, k_is_integer, b_is_integer, v_is_integer⟩ := h1
  refine F.ok sc_is_tick (fun vs H Q E h => ?_) (fun cdv A outer s H vs Q E hr h => ?_)
  · obtain ⟨n, l, rfl, _⟩ := h
    rfl
  · obtain ⟨n, l, rfl, l1, q⟩ := h
    refine ⟨_, PSs.nox (pss_one (ps_ret (pe_and (pe_call G_is_integer hr (by rfl) m_is_integer k_is_integer b_is_integer v_is_integer pass0 (pa_cons (pv 0) pa_nil)) (pe_one (pe_cmpR op_ge (pv 0) (pv 1) (nomark _)))))), ?_⟩
    refine ⟨.int n, rfl, n, rfl, true, rfl, iteT ?_⟩
    refine ⟨.int n, rfl, .int l, rfl, n, l, rfl, rfl, ?_⟩
    have e : V.bl (decide (n ≥ l)) = V.bl true := dT l1
    show Q (V.bl (decide (n ≥ l))) H
    rw [e]
    exact q
end
/-! ### bases and ticks -/
section
variable {P : Program} {w : World} {K : PySem.W.Frag} {mg : Str → Option Value} {base : Heap}
def spIsBase : Sp := fun vs H Q _ => ∃ n : Int, vs = [.int n] ∧ 2 ≤ n ∧ n ≤ 64 ∧ Q (.bl true) H
theorem ok_is_base {f : Addr} {fd : FuncData} (F : Fun K "is_base" "is_base" s_is_base f fd) (h1 : Has P w K mg base 1 "is_integer" ["given"] [] spIsInt) : FnOk P w K mg base CX0 2 f fd ["given"] spIsBase := by
  obtain ⟨f_is_integer, fd_is_integer, ds_is_integer, G_is_integer, m_is_integer, k_is_integer, b_is_integer, v_is_integer⟩ := h1
  refine F.ok sc_is_base (fun vs H Q E h => ?_) (fun cdv A outer s H vs Q E hr h => ?_)
  · obtain ⟨n, rfl, _⟩ := h
    rfl
  · obtain ⟨n, rfl, l1, l2, q⟩ := h
    refine ⟨_, (pss_one (ps_ret (pe_and (pe_call G_is_integer hr (by rfl) m_is_integer k_is_integer b_is_integer v_is_integer pass0 (pa_cons (pv 0) pa_nil)) (pe_one (pe_chain op_le op_le pe_int (pv 0) pe_int))))), ?_⟩
    refine ⟨.int n, rfl, n, rfl, true, rfl, iteT ?_⟩
    refine ⟨.int n, rfl, 2, n, rfl, rfl, true, congrArg V.bl (decide_eq_true l1), iteT ?_⟩
    refine ⟨n, 64, rfl, rfl, ?_⟩
    have e : V.bl (decide (n ≤ 64)) = V.bl true := dT l2
    show Q (V.bl (decide (n ≤ 64))) H
    rw [e]
    exact q
def spCheckBase : Sp := fun vs H Q _ => ∃ n : Int, vs = [.int n] ∧ 2 ≤ n ∧ n ≤ 64 ∧ Q .non H
theorem ok_check_base {f : Addr} {fd : FuncData} (F : Fun K "check_base" "check_base" s_check_base f fd) (h1 : Has P w K mg base 2 "is_base" ["given"] [] spIsBase) : FnOk P w K mg base CX0 3 f fd ["base"] spCheckBase := by
  obtain ⟨f_is_base, fd_is_base, ds_is_base, G_is_base, m_is_base, k_is_base, b_is_base, v_is_base⟩ := h1
  refine F.ok sc_check_base (fun vs H Q E h => ?_) (fun cdv A outer s H vs Q E hr h => ?_)
  · obtain ⟨n, rfl, _⟩ := h
    rfl
  · obtain ⟨n, rfl, l1, l2, q⟩ := h
    refine ⟨_, (pss_one (ps_if (pt_not (pt_val (pe_call G_is_base hr (by rfl) m_is_base k_is_base b_is_base v_is_base pass0 (pa_cons (pv 0) pa_nil))))
        (pss_one ps_never)
        pss_nil)), ?_⟩
    exact ⟨.int n, rfl, n, rfl, l1, l2, true, rfl, iteF q⟩
def spCheckTick : Sp := fun vs H Q _ => ∃ n l : Int, vs = [.int n, .int l] ∧ l ≤ n ∧ Q .non H
theorem ok_check_tick {f : Addr} {fd : FuncData} (F : FunD K "check_tick" "check_tick" (defArgs s_check_tick) (defBody s_check_tick) (defScope s_check_tick) [.int 0] [] f fd) (h1 : Has P w K mg base 2 "is_tick" ["given", "least"] [] spIsTick) : FnOk P w K mg base CX0 3 f fd ["tick", "least"] spCheckTick := by
  obtain ⟨f_is_tick, fd_is_tick, ds_is_tick, G_is_tick, m_is_tick, k_is_tick, b_is_tick, v_is_tick⟩ := h1
  refine F.ok sc_check_tick (fun vs H Q E h => ?_) (fun cdv A outer s H vs Q E hr h => ?_)
  · obtain ⟨n, l, rfl, _⟩ := h
    rfl
  · obtain ⟨n, l, rfl, l1, q⟩ := h
    refine ⟨_, PSs.nox (pss_one (ps_if (pt_not (pt_val (pe_call G_is_tick hr (by rfl) m_is_tick k_is_tick b_is_tick v_is_tick pass0 (pa_cons (pv 0) (pa_cons (pv 1) pa_nil)))))
        (pss_one ps_never)
        pss_nil)), ?_⟩
    exact ⟨.int n, rfl, .int l, rfl, n, l, rfl, l1, true, rfl, iteF q⟩
end
/-! ### is_integer of any value; a tick that is none -/
section
variable {P : Program} {w : World} {K : PySem.W.Frag} {mg : Str → Option Value} {base : Heap}
def spIsIntX (K : PySem.W.Frag) : Sp := fun vs H Q _ => ∃ x : V, vs = [x] ∧ ((∃ n : Int, x = .int n ∧ Q (.bl true) H) ∨ (NoInt K H x ∧ Q (.bl false) H))
theorem okA_is_integer {f : Addr} {fd : FuncData} (F : Fun K "is_integer" "is_integer" s_is_integer f fd) (T : Tx K mg) : FnOk P w K mg base CX0 1 f fd ["given"] (spIsIntX K) := by
  refine F.ok sc_is_integer (fun vs H Q E h => ?_) (fun cdv A outer s H vs Q E hr h => ?_)
  · obtain ⟨x, rfl, _⟩ := h
    rfl
  · obtain ⟨x, rfl, hx⟩ := h
    refine ⟨_, (pss_one (ps_ret (pe_and (pe_callB (isiK (K := K) rfl) (by rfl) T.b_isinstance (by decide +kernel) (pa_cons (pv 0) (pa_cons (pe_bltn (v := .ty "int") (u := .type "int") (by rfl) T.b_int (by decide +kernel) rfl) pa_nil))) (pe_one (pe_not (pe_callB (isiK (K := K) rfl) (by rfl) T.b_isinstance (by decide +kernel) (pa_cons (pv 0) (pa_cons (pe_bltn (v := .ty "bool") (u := .type "bool") (by rfl) T.b_bool (by decide +kernel) rfl) pa_nil)))))))), ?_⟩
    rcases hx with ⟨n, rfl, q⟩ | ⟨⟨t, ht, hn⟩, q⟩
    · refine ⟨.int n, rfl, .int n, _, _, _, true, rfl, .ty "int", .base (.int n), kit_ty (by decide +kernel), true, rfl, iteT ?_⟩
      exact ⟨.int n, rfl, .int n, _, _, _, false, rfl, .ty "bool", .base (.int n), kit_ty (by decide +kernel), false, rfl, q⟩
    · obtain ⟨i, b, h1, h2, h3⟩ := hn.kit (K := K)
      cases i with
      | false => exact ⟨x, rfl, x, _, _, _, false, rfl, .ty "int", ht, h1, false, rfl, iteF q⟩
      | true =>
        refine ⟨x, rfl, x, _, _, _, true, rfl, .ty "int", ht, h1, true, rfl, iteT ?_⟩
        exact ⟨x, rfl, x, _, _, _, b, rfl, .ty "bool", ht, h2, b, rfl, by rw [h3 rfl]; exact q⟩
/-- what is no tick from l on -/
def BadTick (K : PySem.W.Frag) (H : Hp) (x : V) (l : Int) : Prop := NoInt K H x ∨ ∃ n : Int, x = .int n ∧ n < l
def spIsTickX (K : PySem.W.Frag) : Sp := fun vs H Q _ => ∃ (x : V) (l : Int), vs = [x, .int l] ∧ ((∃ n : Int, x = .int n ∧ l ≤ n ∧ Q (.bl true) H) ∨ (BadTick K H x l ∧ Q (.bl false) H))
theorem okA_is_tick {f : Addr} {fd : FuncData} (F : FunD K "is_tick" "is_tick" (defArgs s_is_tick) (defBody s_is_tick) (defScope s_is_tick) [.int 0] [] f fd) (h1 : Has P w K mg base 1 "is_integer" ["given"] [] (spIsIntX K)) : FnOk P w K mg base CX0 2 f fd ["given", "least"] (spIsTickX K) := by
  obtain ⟨f_is_integer, fd_is_integer, ds_is_integer, G_is_integer, m_is_integer, k_is_integer, b_is_integer, v_is_integer⟩ := h1
  refine F.ok sc_is_tick (fun vs H Q E h => ?_) (fun cdv A outer s H vs Q E hr h => ?_)
  · obtain ⟨x, l, rfl, _⟩ := h
    rfl
  · obtain ⟨x, l, rfl, hx⟩ := h
    refine ⟨_, PSs.nox (pss_one (ps_ret (pe_and (pe_call G_is_integer hr (by rfl) m_is_integer k_is_integer b_is_integer v_is_integer pass0 (pa_cons (pv 0) pa_nil)) (pe_one (pe_cmpR op_ge (pv 0) (pv 1) (nomark _)))))), ?_⟩
    have e1 : ∀ n : Int, l ≤ n → V.bl (decide (n ≥ l)) = V.bl true := fun n h => dT h
    have e2 : ∀ n : Int, n < l → V.bl (decide (n ≥ l)) = V.bl false := fun n h => dF (by omega)
    rcases hx with ⟨n, rfl, l1, q⟩ | ⟨hn | ⟨n, rfl, l1⟩, q⟩
    · refine ⟨.int n, rfl, .int n, rfl, .inl ⟨n, rfl, true, rfl, iteT ⟨.int n, rfl, .int l, rfl, n, l, rfl, rfl, ?_⟩⟩⟩
      show Q (V.bl (decide (n ≥ l))) H
      rw [e1 n l1]
      exact q
    · exact ⟨x, rfl, x, rfl, .inr ⟨hn, false, rfl, iteF q⟩⟩
    · refine ⟨.int n, rfl, .int n, rfl, .inl ⟨n, rfl, true, rfl, iteT ⟨.int n, rfl, .int l, rfl, n, l, rfl, rfl, ?_⟩⟩⟩
      show Q (V.bl (decide (n ≥ l))) H
      rw [e2 n l1]
      exact q
def spCheckTickX (K : PySem.W.Frag) (CN : Addr) : Sp := fun vs H Q E => ∃ (x : V) (l : Int), vs = [x, .int l] ∧ ((∃ n : Int, x = .int n ∧ l ≤ n ∧ Q .non H) ∨ (BadTick K H x l ∧ E (.ref CN) none H))
theorem okX_check_tick {f c_NoTick : Addr} {fd : FuncData} (F : FunD K "check_tick" "check_tick" (defArgs s_check_tick) (defBody s_check_tick) (defScope s_check_tick) [.int 0] [] f fd) (T : Tx K mg) (X_NoTick : EC K mg "NoTick" c_NoTick) (h1 : Has P w K mg base 2 "is_tick" ["given", "least"] [] (spIsTickX K)) : FnOk P w K mg base (L2.CX P w) 3 f fd ["tick", "least"] (spCheckTickX K c_NoTick) := by
  obtain ⟨f_is_tick, fd_is_tick, ds_is_tick, G_is_tick, m_is_tick, k_is_tick, b_is_tick, v_is_tick⟩ := h1
  refine F.ok sc_check_tick (fun vs H Q E h => ?_) (fun cdv A outer s H vs Q E hr h => ?_)
  · obtain ⟨x, l, rfl, _⟩ := h
    rfl
  · obtain ⟨x, l, rfl, hx⟩ := h
    refine ⟨_, (pss_one (ps_if (pt_not (pt_val (pe_call G_is_tick hr (by rfl) m_is_tick k_is_tick b_is_tick v_is_tick pass0 (pa_cons (pv 0) (pa_cons (pv 1) pa_nil)))))
        (pss_one (ps_raise rfl (takes_of rfl rfl rfl rfl) (pmk_own PySem.F.excBase_ValueError X_NoTick.x X_NoTick.g X_NoTick.k (raises_own X_NoTick.b X_NoTick.t) rfl)))
        pss_nil)), ?_⟩
    rcases hx with ⟨n, rfl, l1, q⟩ | ⟨hn, q⟩
    · exact ⟨.int n, rfl, .int l, rfl, .int n, l, rfl, .inl ⟨n, rfl, l1, true, rfl, iteF q⟩⟩
    · exact ⟨x, rfl, .int l, rfl, x, l, rfl, .inr ⟨hn, false, rfl, iteT q⟩⟩
end
/-! ### the program: level_and_size, path -/
section
variable {P : Program} {w : World} {K : PySem.W.Frag} {mg : Str → Option Value} {base : Heap}
/-! the level -/
def spLevel : Sp := fun vs H Q _ => ∃ b n d : Nat, vs = [.int b, .int n, .int d] ∧ 2 ≤ b ∧ b ≤ 64 ∧ n < d ∧ d < 2 ^ 250 ∧ ∀ k, IsLev b n d k → ∀ H' p, Same H H' → H p = none → H' p = some (.tup [.int (k : Nat), .int ((b ^ k : Nat) : Int)]) → Q (.ref p) H'
theorem ok_level_and_size {f : Addr} {fd : FuncData} (F : Fun K "level_and_size" "level_and_size" s_level_and_size f fd) : FnOk P w K mg base CX0 1 f fd ["base", "now", "due"] spLevel := by
  refine F.ok sc_level_and_size (fun vs H Q E h => ?_) (fun cdv A outer s H vs Q E hr h => ?_)
  · obtain ⟨b, n, d, rfl, _⟩ := h
    rfl
  · obtain ⟨b, n, d, rfl, hb, hb64, hnd, hd, q⟩ := h
    have cb : ∀ x : Nat, NDiv x b := fun x => ndiv 7 (by omega) (by omega)
    refine ⟨_, (pss_cons (ps_asg (pe_tup (pa_cons pe_int (pa_cons pe_int pa_nil))) (pg_tupK (K := K) (n := 2) rfl rfl (pgs_cons (pg_name (i := 3) sc_level_and_size.nd rfl (.inl rfl)) (pgs_cons (pg_name (i := 4) sc_level_and_size.nd rfl (.inl rfl)) pgs_nil))))
      (pss_cons (ps_par (i := 5) (j := 6) (by rfl) sc_level_and_size.nd rfl rfl (by decide) rfl rfl (pa_cons (pe_op op_divN (pv 1) (pv 0)) (pa_cons (pe_op op_divN (pv 2) (pv 0)) pa_nil)) (by rfl))
      (pss_cons (ps_while PassesOwn.never (pt_cmpR op_ne (pv 5) (pv 6) (nomark _))
        (pss_cons (ps_par (i := 5) (j := 6) (by rfl) sc_level_and_size.nd rfl rfl (by decide) rfl rfl (pa_cons (pe_op op_divN (pv 5) (pv 0)) (pa_cons (pe_op op_divN (pv 6) (pv 0)) pa_nil)) (by rfl))
        (pss_one (ps_par (i := 3) (j := 4) (by rfl) sc_level_and_size.nd rfl rfl (by decide) rfl rfl (pa_cons (pe_op op_addN (pv 3) pe_int) (pa_cons (pe_op op_mulN (pv 4) (pv 0)) pa_nil)) (by rfl)))))
      (pss_one (ps_ret (pe_tup (pa_cons (pv 3) (pa_cons (pv 4) pa_nil)))))))), ?_⟩
    refine ⟨by simp [sizeLine_eq], fun t hT => ⟨t, _, rfl, .inl (.inl upd_same), rfl, _, _, rfl, _, _, rfl, rfl, ?_⟩⟩
    refine ⟨_, rfl, _, rfl, _, _, rfl, rfl, cb _, _, rfl, _, rfl, _, _, rfl, rfl, cb _, _, _, rfl, ?_⟩
    refine while_by (fun σ H' => ∃ k : Nat, σ = [some (.int (b : Int)), some (.int (n : Int)), some (.int (d : Int)), some (.int (k : Int)), some (.int ((b ^ k : Nat) : Int)), some (.int ((n / b ^ (k + 1) : Nat) : Int)), some (.int ((d / b ^ (k + 1) : Nat) : Int))] ∧ Same H H' ∧ ∀ j, j < k → n / b ^ (j + 1) ≠ d / b ^ (j + 1))
      (fun σ _ => slotInt σ 6) ⟨0, ?_, same_upd hT, fun j hj => absurd hj (Nat.not_lt_zero j)⟩ ?_ ?_
    · rw [Nat.zero_add, Nat.pow_one]
      rfl
    · rintro σ H' ⟨k, rfl, sm, hk⟩
      by_cases hne : n / b ^ (k + 1) = d / b ^ (k + 1)
      · refine ⟨_, rfl, _, rfl, rfl, false, ?_, iteF ?_⟩
        · rw [hne, decide_eq_true rfl]
          rfl
        · refine ⟨_, rfl, _, rfl, by simp [sizeLine_eq], fun p hp => ?_⟩
          exact q k ⟨hne, hk⟩ _ p (sm.trans (same_upd hp)) (sm.free hp) upd_same
      · have h2 : n / b ^ (k + 1) ≤ d / b ^ (k + 1) := Nat.div_le_div_right (Nat.le_of_lt hnd)
        have hpos : 0 < d / b ^ (k + 1) := pos_of h2 hne
        refine ⟨_, rfl, _, rfl, rfl, true, ?_, iteT ?_⟩
        · rw [int_ne hne]
          rfl
        · refine ⟨_, rfl, _, rfl, _, _, rfl, rfl, cb _, _, rfl, _, rfl, _, _, rfl, rfl, cb _, _, _, rfl, ?_⟩
          refine ⟨_, rfl, k, 1, rfl, rfl, trivial, _, rfl, _, rfl, _, _, rfl, rfl, nmul_r (by omega), _, _, rfl, ?_⟩
          have hlt : d / b ^ (k + 1) / b < d / b ^ (k + 1) := Nat.div_lt_self hpos (by omega)
          refine ⟨⟨k + 1, ?_, sm, fun j hj => ?_⟩, ?_⟩
          · rw [div_succ n b (k + 1), div_succ d b (k + 1), Nat.pow_succ b k]
            rfl
          · by_cases e : j = k
            · rw [e]
              exact hne
            · exact hk j (by omega)
          · show (((d / b ^ (k + 1) / b : Nat) : Int)).toNat < (((d / b ^ (k + 1) : Nat) : Int)).toNat
            rw [Int.toNat_natCast, Int.toNat_natCast]
            exact hlt
    · rintro σ H' Q1 Q2 h ⟨x, hx, y, hy, hs, k, e, z⟩
      exact ⟨x, hx, y, hy, hs, k, e, h _ _ z⟩
/-! the stations -/
def rowV (r : Row3) : List V := [.int (r.1 : Nat), .int (r.2.1 : Nat), .int (r.2.2 : Nat)]
/-- at the places ts stand the rows rs, each a tuple of three -/
def RowsAt (H : Hp) : List Addr → List Row3 → Prop
  | [], [] => True
  | t :: ts, r :: rs => H t = some (.tup (rowV r)) ∧ RowsAt H ts rs
  | _, _ => False
theorem RowsAt.same {H H' : Hp} (s : Same H H') : ∀ {ts : List Addr} {rs : List Row3}, RowsAt H ts rs → RowsAt H' ts rs
  | [], [], h => h
  | _ :: _, _ :: _, h => ⟨s _ _ h.1, h.2.same s⟩
  | [], _ :: _, h => h
  | _ :: _, [], h => h
theorem RowsAt.app {H : Hp} {t : Addr} {r : Row3} : ∀ {ts : List Addr} {rs : List Row3}, RowsAt H ts rs → H t = some (.tup (rowV r)) → RowsAt H (ts ++ [t]) (rs ++ [r])
  | [], [], _, h => ⟨h, trivial⟩
  | _ :: _, _ :: _, h, h2 => ⟨h.1, h.2.app h2⟩
  | [], _ :: _, h, _ => h.elim
  | _ :: _, [], h, _ => h.elim
theorem RowsAt.len {H : Hp} : ∀ {ts : List Addr} {rs : List Row3}, RowsAt H ts rs → ts.length = rs.length
  | [], [], _ => rfl
  | _ :: _, _ :: _, h => congrArg Nat.succ h.2.len
  | [], _ :: _, h => h.elim
  | _ :: _, [], h => h.elim
theorem RowsAt.upd {H : Hp} {p : Addr} {xs : List V} {o : HO} (hp : H p = some (.lst xs)) : ∀ {ts : List Addr} {rs : List Row3}, RowsAt H ts rs → RowsAt (upd H p o) ts rs
  | [], [], h => h
  | t :: _, _ :: _, h => ⟨by rw [upd_ne (ne_of h.1 hp (by intro z; cases z))]; exact h.1, h.2.upd hp⟩
  | [], _ :: _, h => h
  | _ :: _, [], h => h
theorem RowsAt.get {H : Hp} : ∀ {ts : List Addr} {rs : List Row3} {i : Nat} {t : Addr}, RowsAt H ts rs → ts[i]? = some t → ∃ r, rs[i]? = some r ∧ H t = some (.tup (rowV r))
  | t :: _, r :: _, 0, _, h, e => ⟨r, rfl, by cases Option.some.inj e; exact h.1⟩
  | _ :: _, _ :: _, i + 1, _, h, e => h.2.get (i := i) e
  | [], _, _, _, _, e => by simp at e
  | _ :: _, [], _, _, h, _ => h.elim
def spPath : Sp := fun vs H Q _ => ∃ b n d : Nat, vs = [.int b, .int n, .int d] ∧ 2 ≤ b ∧ b ≤ 64 ∧ n < d ∧ d < 2 ^ 250 ∧ ∀ k, IsLev b n d k → ∀ H' p ts, Same H H' → H p = none → H' p = some (.lst (ts.map V.ref)) → RowsAt H' ts (rowsOf b n d k) → Q (.ref p) H'
theorem ok_path {f : Addr} {fd : FuncData} (F : Fun K "path" "path" s_path f fd) (h1 : Has P w K mg base 1 "level_and_size" ["base", "now", "due"] [] spLevel) : FnOk P w K mg base CX0 2 f fd ["base", "now", "due"] spPath := by
  obtain ⟨f_level_and_size, fd_level_and_size, ds_level_and_size, G_level_and_size, m_level_and_size, k_level_and_size, b_level_and_size, v_level_and_size⟩ := h1
  refine F.ok sc_path (fun vs H Q E h => ?_) (fun cdv A outer s H vs Q E hr h => ?_)
  · obtain ⟨b, n, d, rfl, _⟩ := h
    rfl
  · obtain ⟨b, n, d, rfl, hb, hb64, hnd, hd, q⟩ := h
    have cb : ∀ x : Nat, NDiv x b := fun x => ndiv 7 (by omega) (by omega)
    have hb0 : 0 < b := by omega
    refine ⟨_, (pss_cons (ps_asg (pe_call G_level_and_size hr (by rfl) m_level_and_size k_level_and_size b_level_and_size v_level_and_size pass0 (pa_cons (pv 0) (pa_cons (pv 1) (pa_cons (pv 2) pa_nil)))) (pg_tupK (K := K) (n := 2) rfl rfl (pgs_cons (pg_name (i := 3) sc_path.nd rfl (.inl rfl)) (pgs_cons (pg_name (i := 4) sc_path.nd rfl (.inl rfl)) pgs_nil))))
      (pss_cons (ps_set (i := 5) sc_path.nd rfl (.inl rfl) (pe_lst (pa_cons (pe_tup (pa_cons (pv 3) (pa_cons (pe_op op_remN (pe_op op_divN (pv 2) (pv 4)) (pv 0)) (pa_cons (pv 1) pa_nil)))) pa_nil)))
      (pss_cons (ps_while PassesOwn.never (pt_cmpR op_gt (pv 3) pe_int (nomark _))
        (pss_cons (ps_set (i := 6) sc_path.nd rfl (.inl rfl) (pe_op op_mulN (pe_op op_divN (pv 2) (pv 4)) (pv 4)))
        (pss_cons (ps_par (i := 3) (j := 4) (by rfl) sc_path.nd rfl rfl (by decide) rfl rfl (pa_cons (pe_op op_subN (pv 3) pe_int) (pa_cons (pe_op op_divN (pv 4) (pv 0)) pa_nil)) (by rfl))
        (pss_cons (ps_set (i := 7) sc_path.nd rfl (.inl rfl) (pe_op op_remN (pe_op op_divN (pv 2) (pv 4)) (pv 0)))
        (pss_one (ps_if (pt_cmpR op_ne (pv 7) pe_int (nomark _))
          (pss_one (ps_expr (pe_bm PySem.F.plainAttrs_list PySem.F.slot_list_append PySem.F.type_list_append mt_append (pv 5) (pa_cons (pe_tup (pa_cons (pv 3) (pa_cons (pv 7) (pa_cons (pv 6) pa_nil)))) pa_nil))))
          pss_nil))))))
      (pss_one (ps_ret (pv 5)))))), ?_⟩
    refine ⟨_, rfl, _, rfl, _, rfl, b, n, d, rfl, hb, hb64, hnd, hd, fun k hk H0 t0 s0 ht0 eT0 => ?_⟩
    have hkd : ∀ j, j ≤ k → b ^ j ≤ d := fun j hj => Nat.le_trans (Nat.pow_le_pow_right (by omega) hj) (hk.size hb hnd)
    have hk250 : k < 250 := lev_small hk hb hnd hd
    have cs : ∀ j, j ≤ k → ∀ x : Nat, NDiv x (b ^ j) := fun j hj x => ndiv 250 (pow_pos' hb j) (Nat.lt_of_le_of_lt (hkd j hj) hd)
    -- level, size = ..
    refine ⟨t0, _, rfl, .inl (.inl eT0), rfl, _, _, rfl, _, _, rfl, rfl, ?_⟩
    -- rows = [(level, due // size % base, now)]
    refine ⟨_, rfl, _, rfl, _, rfl, _, _, rfl, rfl, cs k (Nat.le_refl k) _, _, rfl, _, _, rfl, rfl, hb0, _, rfl, by simp [sizeLine_eq], fun t1 ht1 => ?_⟩
    have s1 := s0.trans (same_upd (o := .tup (rowV (k, d / b ^ k % b, n))) ht1)
    refine ⟨by simp [sizeLine_eq], fun p hp => ?_⟩
    have s2 := s1.trans (same_upd (o := .lst [.ref t1]) hp)
    have np1 : t1 ≠ p := fun e => by
      rw [← e, upd_same] at hp
      cases hp
    have hpH : H p = none := s1.free hp
    refine while_by (fun σ H' => ∃ (j : Nat) (ts : List Addr) (done : List Row3) (y6 y7 : Option V), σ = [some (.int (b : Int)), some (.int (n : Int)), some (.int (d : Int)), some (.int (j : Int)), some (.int ((b ^ j : Nat) : Int)), some (.ref p), y6, y7] ∧ j ≤ k ∧ ts.length + j ≤ k + 1 ∧ Same H H' ∧ H' p = some (.lst (ts.map V.ref)) ∧ RowsAt H' ts ((k, d / b ^ k % b, n) :: done) ∧ tailOf b d k = done ++ tailOf b d j)
      (fun σ _ => slotInt σ 3) ⟨k, [t1], [], none, none, rfl, Nat.le_refl k, by simp; omega, s2, upd_same, ⟨?_, trivial⟩, rfl⟩ ?_ ?_
    · rw [upd_ne np1, upd_same]
      rfl
    · rintro σ H' ⟨j, ts, done, y6, y7, rfl, hjk, hlen, sm, eL, R, et⟩
      cases j with
      | zero =>
        refine ⟨_, rfl, ((0 : Nat) : Int), 0, rfl, rfl, false, rfl, iteF ?_⟩
        refine ⟨_, rfl, q k hk H' p ts sm hpH eL ?_⟩
        have e : done = tailOf b d k := by
          rw [et]
          exact (List.append_nil done).symm
        rw [e] at R
        exact R
      | succ j =>
        have hj0 : (0 : Int) < ((j + 1 : Nat) : Int) := by omega
        refine ⟨_, rfl, _, _, rfl, rfl, true, congrArg V.bl (decide_eq_true hj0), iteT ?_⟩
        -- tick = due // size * size
        refine ⟨_, rfl, _, rfl, _, _, rfl, rfl, cs (j + 1) hjk _, _, rfl, _, _, rfl, rfl, nmul_w 250 250 (Nat.lt_of_le_of_lt (Nat.div_le_self d _) hd) (Nat.lt_of_le_of_lt (hkd (j + 1) hjk) hd), ?_⟩
        -- level, size = level - 1, size // base
        refine ⟨_, rfl, j + 1, 1, rfl, rfl, Nat.le_add_left 1 j, _, rfl, _, rfl, b ^ (j + 1), b, rfl, rfl, cb _, .int (j : Nat), .int ((b ^ j : Nat) : Int), ?_, ?_⟩
        · show [V.int ((j + 1 - 1 : Nat) : Int), V.int ((b ^ (j + 1) / b : Nat) : Int)] = _
          rw [Nat.pow_succ, Nat.mul_div_cancel _ hb0]
          rfl
        -- digit = due // size % base
        refine ⟨_, rfl, _, rfl, d, b ^ j, rfl, rfl, cs j (by omega) _, _, rfl, _, _, rfl, rfl, hb0, ?_⟩
        have lt : slotInt [some (.int (b : Int)), some (.int (n : Int)), some (.int (d : Int)), some (.int (j : Int)), some (.int ((b ^ j : Nat) : Int)), some (.ref p), some (.int ((d / b ^ (j + 1) * b ^ (j + 1) : Nat) : Int)), some (.int ((d / b ^ j % b : Nat) : Int))] 3 < ((j + 1 : Nat) : Int).toNat := by
          show ((j : Int)).toNat < _
          omega
        by_cases h0 : d / b ^ j % b = 0
        · refine ⟨_, rfl, rfl, false, nF (vE h0), iteF ?_⟩
          · refine ⟨⟨j, ts, done, _, _, rfl, by omega, by omega, sm, eL, R, ?_⟩, lt⟩
            rw [et]
            show done ++ tailOf b d (j + 1) = done ++ tailOf b d j
            have : tailOf b d (j + 1) = tailOf b d j := if_neg (fun z => z h0)
            rw [this]
        · refine ⟨_, rfl, rfl, true, nT (vN (b := 0) h0), iteT ?_⟩
          · -- rows.append((level, digit, tick))
            refine ⟨_, rfl, .inl ⟨rfl, _, .inl (.inl eL)⟩, _, rfl, _, rfl, _, rfl, by simp [sizeLine_eq], fun t2 ht2 => ?_⟩
            have s3 := same_upd (o := .tup (rowV (j, d / b ^ j % b, d / b ^ (j + 1) * b ^ (j + 1)))) ht2
            have npt : t2 ≠ p := fun e => by
              rw [e, eL] at ht2
              cases ht2
            have eL' := s3 _ _ eL
            refine ⟨p, _, _, rfl, rfl, eL', ?_, ?_⟩
            · rw [List.length_map]
              exact sizeLine_ge (by omega)
            · refine ⟨⟨j, ts ++ [t2], done ++ [(j, d / b ^ j % b, d / b ^ (j + 1) * b ^ (j + 1))], _, _, rfl, by omega, ?_, fun c o e => ?_, ?_, ?_, ?_⟩, lt⟩
              · rw [List.length_append, List.length_singleton]
                omega
              · rw [upd_ne (ne_of_none e hpH)]
                exact s3 _ _ (sm _ _ e)
              · rw [upd_same, List.map_append]
                rfl
              · refine RowsAt.upd eL' ?_
                exact RowsAt.app (r := (j, d / b ^ j % b, d / b ^ (j + 1) * b ^ (j + 1))) (rs := (k, d / b ^ k % b, n) :: done) (R.same s3) upd_same
              · rw [et, List.append_assoc]
                show done ++ tailOf b d (j + 1) = done ++ ((j, d / b ^ j % b, d / b ^ (j + 1) * b ^ (j + 1)) :: tailOf b d j)
                have : tailOf b d (j + 1) = (j, d / b ^ j % b, d / b ^ (j + 1) * b ^ (j + 1)) :: tailOf b d j := if_pos h0
                rw [this]
    · rintro σ H' Q1 Q2 h ⟨x, hx, i, j, e1, e2, k, e, z⟩
      exact ⟨x, hx, i, j, e1, e2, k, e, h _ _ z⟩
end
theorem RowsAt.item {H : Hp} {ts : List Addr} {rs : List Row3} (R : RowsAt H ts rs) {i : Nat} {x : V} (hx : (ts.map V.ref)[i]? = some x) : ∃ ti r, x = V.ref ti ∧ ts[i]? = some ti ∧ rs[i]? = some r ∧ H ti = some (.tup (rowV r)) := by
  rw [List.getElem?_map] at hx
  cases e : ts[i]? with
  | none =>
    rw [e] at hx
    cases hx
  | some ti =>
    rw [e] at hx
    obtain ⟨r, hr, er⟩ := R.get e
    exact ⟨ti, r, (Option.some.inj hx).symm, rfl, hr, er⟩
section
variable {P : Program} {w : World} {K : PySem.W.Frag} {mg : Str → Option Value} {base : Heap}
def spWordAt (K : PySem.W.Frag) : Sp := fun vs H Q _ => ∃ (q : Addr) (ws : List Bool) (k : Nat), vs = [.ref q, .int (k : Nat)] ∧ SqL K H q (ws.map lvV) ∧ ws ≠ [] ∧ Q (lvV (wordAt ws k)) H
theorem ok_word_at {f : Addr} {fd : FuncData} (F : Fun K "word_at" "word_at" s_word_at f fd) (T : Tx K mg) : FnOk P w K mg base CX0 1 f fd ["levels", "level"] (spWordAt K) := by
  refine F.ok sc_word_at (fun vs H Q E h => ?_) (fun cdv A outer s H vs Q E hr h => ?_)
  · obtain ⟨q, ws, k, rfl, _⟩ := h
    rfl
  · obtain ⟨q, ws, k, rfl, hL, hne, c⟩ := h
    have hp : 0 < ws.length := List.length_pos_iff.mpr hne
    have hpm : 1 ≤ (ws.map lvV).length := by
      rw [List.length_map]
      exact hp
    refine ⟨_, (pss_one (ps_ret (pe_ix (ix_listK (K := K) rfl) (pv 0) (pe_callB (call_min2 rfl) (by rfl) T.b_min (by decide +kernel) (pa_cons (pv 1) (pa_cons (pe_op op_subN (pe_callB (lenK (K := K) rfl) (by rfl) T.b_len PySem.boot_len (pa_cons (pv 0) pa_nil)) pe_int) pa_nil))) (fun _ _ => rfl)))), ?_⟩
    have g := word_get hne k
    refine ⟨.ref q, rfl, _, rfl, .ref q, rfl, q, _, rfl, .inl hL, (ws.map lvV).length, 1, rfl, rfl, hpm, k, _, rfl, q, _, ((min k (ws.length - 1) : Nat) : Int), _, rfl, congrArg V.int ?_, hL, atI_nat g, c⟩
    dsimp only
    rw [List.length_map]
    split <;> omega
def WordsAt (K : PySem.W.Frag) (mg : Str → Option Value) : Prop := ∃ a, mg "WORDS" = some (.ref a) ∧ ∀ H, SqT K H a [.str "stack", .str "queue"]
def MostAt (mg : Str → Option Value) : Prop := ∃ t, mg "MOST_LEVELS" = some (.int 60 t)
def spIsWord : Sp := fun vs H Q _ => ∃ b : Bool, vs = [lvV b] ∧ Q (.bl true) H
theorem ok_is_word {f : Addr} {fd : FuncData} (F : Fun K "is_word" "is_word" s_is_word f fd) (T : Tx K mg) (hW : WordsAt K mg) : FnOk P w K mg base CX0 1 f fd ["given"] spIsWord := by
  obtain ⟨a_WORDS, g_WORDS, sW⟩ := hW
  refine F.ok sc_is_word (fun vs H Q E h => ?_) (fun cdv A outer s H vs Q E hr h => ?_)
  · obtain ⟨b, rfl, _⟩ := h
    rfl
  · obtain ⟨b, rfl, c⟩ := h
    refine ⟨_, (pss_one (ps_ret (pe_and (pe_callB (isiK (K := K) rfl) (by rfl) T.b_isinstance (by decide +kernel) (pa_cons (pv 0) (pa_cons (pe_bltn (v := .ty "str") (u := .type "str") (by rfl) T.b_str (by decide +kernel) rfl) pa_nil))) (pe_one (pe_cmpR op_in_seq (pv 0) (pe_glob (v := .ref a_WORDS) rfl g_WORDS rfl) (by rfl)))))), ?_⟩
    obtain ⟨x, ex, hx⟩ : ∃ x : Str, lvV b = .str x ∧ (if false then !inV (V.str x) [.str "stack", .str "queue"] else inV (V.str x) [.str "stack", .str "queue"]) = true := by
      cases b
      · exact ⟨_, rfl, by decide⟩
      · exact ⟨_, rfl, by decide⟩
    rw [ex]
    refine ⟨.str x, rfl, _, _, _, _, true, rfl, .ty "str", .base (.str x), kit_ty (by decide +kernel), true, rfl, iteT ?_⟩
    refine ⟨.str x, rfl, a_WORDS, _, rfl, .inr (sW _), rfl, rfl, ?_⟩
    rw [hx]
    exact c
def spIsLength : Sp := fun vs H Q _ => ∃ n : Int, vs = [.int n] ∧ 1 ≤ n ∧ n ≤ 60 ∧ Q (.bl true) H
theorem ok_is_length {f : Addr} {fd : FuncData} (F : Fun K "is_length" "is_length" s_is_length f fd) (hM : MostAt mg) (h1 : Has P w K mg base 1 "is_integer" ["given"] [] spIsInt) : FnOk P w K mg base CX0 2 f fd ["given"] spIsLength := by
  obtain ⟨tM, g_MOST_LEVELS⟩ := hM
  obtain ⟨f_is_integer, fd_is_integer, ds_is_integer, G_is_integer, m_is_integer, k_is_integer, b_is_integer, v_is_integer⟩ := h1
  refine F.ok sc_is_length (fun vs H Q E h => ?_) (fun cdv A outer s H vs Q E hr h => ?_)
  · obtain ⟨n, rfl, _⟩ := h
    rfl
  · obtain ⟨n, rfl, l1, l2, q⟩ := h
    refine ⟨_, (pss_one (ps_ret (pe_and (pe_call G_is_integer hr (by rfl) m_is_integer k_is_integer b_is_integer v_is_integer pass0 (pa_cons (pv 0) pa_nil)) (pe_one (pe_chain op_le op_le pe_int (pv 0) (pe_glob (v := .int 60) rfl g_MOST_LEVELS ⟨_, rfl⟩)))))), ?_⟩
    refine ⟨.int n, rfl, n, rfl, true, rfl, iteT ?_⟩
    refine ⟨.int n, rfl, 1, n, rfl, rfl, true, congrArg V.bl (decide_eq_true l1), iteT ?_⟩
    refine ⟨n, 60, rfl, rfl, ?_⟩
    have e : V.bl (decide (n ≤ 60)) = V.bl true := dT l2
    show Q (V.bl (decide (n ≤ 60))) H
    rw [e]
    exact q
def spAreLevels (K : PySem.W.Frag) : Sp := fun vs H Q _ => ∃ (q : Addr) (ws : List Bool), vs = [.ref q] ∧ SqL K H q (ws.map lvV) ∧ ws ≠ [] ∧ ws.length ≤ 60 ∧ ∀ H', Same H H' → Q (.bl true) H'
theorem ok_are_levels {f : Addr} {fd : FuncData} (F : Fun K "are_levels" "are_levels" s_are_levels f fd) (T : Tx K mg) (h0 : Has P w K mg base 2 "is_length" ["given"] [] spIsLength) (h1 : Has P w K mg base 1 "is_word" ["given"] [] spIsWord) : FnOk P w K mg base CX0 3 f fd ["given"] (spAreLevels K) := by
  obtain ⟨f_is_length, fd_is_length, ds_is_length, G_is_length, m_is_length, k_is_length, b_is_length, v_is_length⟩ := h0
  obtain ⟨f_is_word, fd_is_word, ds_is_word, G_is_word, m_is_word, k_is_word, b_is_word, v_is_word⟩ := h1
  refine F.ok sc_are_levels (fun vs H Q E h => ?_) (fun cdv A outer s H vs Q E hr h => ?_)
  · obtain ⟨q, ws, rfl, _⟩ := h
    rfl
  · obtain ⟨q, ws, rfl, hL, hne, h60, c⟩ := h
    have hp : 0 < ws.length := List.length_pos_iff.mpr hne
    refine ⟨_, (pss_cons (ps_if (PW.pt (pw_or (pt_not (pt_val (pe_callB (isiK (K := K) rfl) (by rfl) T.b_isinstance (by decide +kernel) (pa_cons (pv 0) (pa_cons (pe_bltn (v := .ty "list") (u := .type "list") (by rfl) T.b_list (by decide +kernel) rfl) pa_nil))))) (pw_or1 (pt_not (pt_val (pe_call G_is_length hr (by rfl) m_is_length k_is_length b_is_length v_is_length pass0 (pa_cons (pe_callB (lenK (K := K) rfl) (by rfl) T.b_len PySem.boot_len (pa_cons (pv 0) pa_nil)) pa_nil)))))))
        (pss_one (ps_ret pe_bl))
        pss_nil)
      (pss_one (ps_ret (pe_callB (allK (K := K) rfl rfl) (by rfl) T.b_all (by decide +kernel) (pa_cons (pe_lc (own := [("word", 1)]) (g := gName 1) (tt := tYes) rfl sc_are_levels.nd (pi_list (pv 0)) (blkOk_by (own := [("word", 1)]) (N := N_are_levels) (sc := defScope s_are_levels) (by decide +kernel)) (fun _ _ _ _ _ => (pg_name (i := 1) sc_are_levels.nd rfl (.inl rfl))) (fun _ _ _ _ _ => pts_nil) (fun _ _ _ _ _ => (pe_call G_is_word (hr.mono (by decide)) (by rfl) m_is_word k_is_word b_is_word v_is_word pass0 (pa_cons (pv 1) pa_nil)))) pa_nil))))), ?_⟩
    refine ⟨.ref q, rfl, _, _, _, _, true, rfl, .ty "list", tyx_list hL, kit_ty (by decide +kernel), true, rfl, iteF ?_⟩
    refine ⟨.ref q, rfl, q, _, rfl, .inl hL, _, rfl, ?_, ?_, true, rfl, iteF ?_⟩
    · rw [List.length_map]
      omega
    · rw [List.length_map]
      omega
    refine ⟨.ref q, rfl, q, rfl, ⟨_, hL⟩, fun D hD => lc_list (K := K) (a := q) (xs := ws.map lvV) (fun i H' => Same H H' ∧ H' D = some (.lst ((List.replicate i true).map V.bl)))
      ⟨same_upd hD, upd_same⟩ (fun i H' _ ⟨sm, _⟩ => sm.seq hL) ?_ ?_⟩
    · rintro i x H' hx ⟨sm, eD⟩
      obtain ⟨b, rfl⟩ : ∃ b, x = lvV b := by
        rw [List.getElem?_map] at hx
        cases e : ws[i]? with
        | none =>
          rw [e] at hx
          cases hx
        | some b =>
          rw [e] at hx
          exact ⟨b, (Option.some.inj hx).symm⟩
      have hi : i < (ws.map lvV).length := (List.getElem?_eq_some_iff.mp hx).1
      rw [List.length_map] at hi
      refine ⟨rfl, yesT (iteT ?_)⟩
      refine ⟨_, rfl, b, rfl, _, eD, ?_, fun c o e => ?_, ?_⟩
      · rw [List.length_map, List.length_replicate]
        exact sizeLine_ge (by omega)
      · rw [upd_ne (ne_of_none e hD)]
        exact sm _ _ e
      · rw [upd_same, List.replicate_succ', List.map_append]
        rfl
    · rintro H1 ⟨s1, eD⟩
      refine ⟨D, _, rfl, SqL.of eD, ?_⟩
      have ea : (List.replicate (ws.map lvV).length true).all id = true := by
        rw [List.all_replicate]
        simp
      rw [ea]
      exact c H1 s1
def spCheckLevels (K : PySem.W.Frag) : Sp := fun vs H Q _ => ∃ (q : Addr) (ws : List Bool), vs = [.ref q] ∧ SqL K H q (ws.map lvV) ∧ ws ≠ [] ∧ ws.length ≤ 60 ∧ ∀ H', Same H H' → Q .non H'
theorem ok_check_levels {f : Addr} {fd : FuncData} (F : Fun K "check_levels" "check_levels" s_check_levels f fd) (h1 : Has P w K mg base 3 "are_levels" ["given"] [] (spAreLevels K)) : FnOk P w K mg base CX0 4 f fd ["levels"] (spCheckLevels K) := by
  obtain ⟨f_are_levels, fd_are_levels, ds_are_levels, G_are_levels, m_are_levels, k_are_levels, b_are_levels, v_are_levels⟩ := h1
  refine F.ok sc_check_levels (fun vs H Q E h => ?_) (fun cdv A outer s H vs Q E hr h => ?_)
  · obtain ⟨q, ws, rfl, _⟩ := h
    rfl
  · obtain ⟨q, ws, rfl, hL, hne, h60, c⟩ := h
    refine ⟨_, (pss_one (ps_if (pt_not (pt_val (pe_call G_are_levels hr (by rfl) m_are_levels k_are_levels b_are_levels v_are_levels pass0 (pa_cons (pv 0) pa_nil))))
        (pss_one ps_never)
        pss_nil)), ?_⟩
    exact ⟨_, rfl, q, ws, rfl, hL, hne, h60, fun H1 s1 => ⟨true, rfl, iteF (c H1 s1)⟩⟩
end
section
variable {P : Program} {w : World} {K : PySem.W.Frag} {mg : Str → Option Value} {base : Heap}
def spFront (K : PySem.W.Frag) : Sp := fun vs H Q _ => ∃ (b n d lo : Nat) (q : Addr) (ws : List Bool), vs = [.int (b : Nat), .ref q, .int (n : Nat), .int (d : Nat), .int (lo : Nat)] ∧ 2 ≤ b ∧ b ≤ 64 ∧ n < d ∧ d < 2 ^ 250 ∧ SqL K H q (ws.map lvV) ∧ ws ≠ [] ∧
  ∀ k, IsLev b n d k → ∀ H', Same H H' → Q (.bl (frontOf ws lo (rowsOf b n d k))) H'
theorem ok_goes_in_front {f : Addr} {fd : FuncData} (F : Fun K "goes_in_front" "goes_in_front" s_goes_in_front f fd) (h1 : Has P w K mg base 2 "path" ["base", "now", "due"] [] spPath) (h2 : Has P w K mg base 1 "word_at" ["levels", "level"] [] (spWordAt K)) :
    FnOk P w K mg base CX0 3 f fd ["base", "levels", "now", "due", "lowest"] (spFront K) := by
  obtain ⟨f_path, fd_path, ds_path, G_path, m_path, k_path, b_path, v_path⟩ := h1
  obtain ⟨f_word_at, fd_word_at, ds_word_at, G_word_at, m_word_at, k_word_at, b_word_at, v_word_at⟩ := h2
  refine F.ok sc_goes_in_front (fun vs H Q E h => ?_) (fun cdv A outer s H vs Q E hr h => ?_)
  · obtain ⟨b, n, d, lo, q, ws, rfl, _⟩ := h
    rfl
  · obtain ⟨b, n, d, lo, q, ws, rfl, hb, hb64, hnd, hd, hL, hne, c⟩ := h
    refine ⟨_, (pss_cons (ps_set (i := 5) sc_goes_in_front.nd rfl (.inl rfl) pe_bl)
      (pss_cons (ps_for PassesOwn.never rfl (pi_list (pe_call G_path hr (by rfl) m_path k_path b_path v_path pass0 (pa_cons (pv 0) (pa_cons (pv 2) (pa_cons (pv 3) pa_nil))))) (pg_tupK (K := K) (n := 3) rfl rfl (pgs_cons (pg_name (i := 6) sc_goes_in_front.nd rfl (.inl rfl)) (pgs_cons (pg_name (i := 7) sc_goes_in_front.nd rfl (.inl rfl)) (pgs_cons (pg_name (i := 8) sc_goes_in_front.nd rfl (.inl rfl)) pgs_nil))))
        (pss_one (ps_if (PW.pt (pw_and (pt_cmpR op_ge (pv 6) (pv 4) (nomark _)) (pw_and1 (pt_cmpR op_eq (pe_call G_word_at (hr.mono (by decide)) (by rfl) m_word_at k_word_at b_word_at v_word_at pass0 (pa_cons (pv 1) (pa_cons (pv 6) pa_nil))) pe_str (nomark _)))))
          (pss_one (ps_set (i := 5) sc_goes_in_front.nd rfl (.inl rfl) (pe_not (pv 5))))
          pss_nil)))
      (pss_one (ps_ret (pv 5))))), ?_⟩
    refine ⟨_, rfl, _, rfl, _, rfl, b, n, d, rfl, hb, hb64, hnd, hd, fun k hk H1 p ts s1 hp0 hp R => ?_⟩
    refine ⟨p, rfl, ⟨_, SqL.of hp⟩, for_list (K := K) (a := p) (xs := ts.map V.ref) (fun i σ H' => ∃ y6 y7 y8, σ = [some (.int (b : Nat)), some (.ref q), some (.int (n : Nat)), some (.int (d : Nat)), some (.int (lo : Nat)), some (.bl (frontOf ws lo ((rowsOf b n d k).take i))), y6, y7, y8] ∧ H' = H1)
      ⟨none, none, none, rfl, rfl⟩ (fun i σ H' _ ⟨_, _, _, _, e⟩ => by rw [e]; exact SqL.of hp) ?_ ?_⟩
    · rintro i x σ H' hx ⟨y6, y7, y8, rfl, rfl⟩
      obtain ⟨ti, r, rfl, hti, hr, er⟩ := R.item hx
      have hstep : frontOf ws lo ((rowsOf b n d k).take (i + 1)) = if (decide (lo ≤ r.1) && wordAt ws r.1) = true then !frontOf ws lo ((rowsOf b n d k).take i) else frontOf ws lo ((rowsOf b n d k).take i) := by
        rw [List.take_add_one, hr]
        exact front_snoc ws lo _ r
      refine ⟨ti, _, rfl, .inl (.inl er), rfl, _, _, rfl, _, _, rfl, _, _, rfl, rfl, ?_⟩
      have hL1 := s1.seq hL
      by_cases hlo : lo ≤ r.1
      · refine ⟨_, rfl, _, rfl, _, _, rfl, rfl, true, dT (by omega), iteT ?_⟩
        refine ⟨_, rfl, _, rfl, q, ws, r.1, rfl, hL1, hne, ?_, wordAt ws r.1, congrArg V.bl (lv_dec _), ?_⟩
        · cases wordAt ws r.1 <;> rfl
        cases hw : wordAt ws r.1 with
        | true =>
          refine iteT ⟨_, rfl, _, rfl, ⟨some (.int (r.1 : Nat)), some (.int (r.2.1 : Nat)), some (.int (r.2.2 : Nat)), ?_, rfl⟩⟩
          rw [hstep, hw, decide_eq_true hlo]
          rfl
        | false =>
          refine iteF ⟨some (.int (r.1 : Nat)), some (.int (r.2.1 : Nat)), some (.int (r.2.2 : Nat)), ?_, rfl⟩
          rw [hstep, hw, decide_eq_true hlo]
          rfl
      · refine ⟨_, rfl, _, rfl, _, _, rfl, rfl, false, dF (by omega), iteF (iteF ⟨some (.int (r.1 : Nat)), some (.int (r.2.1 : Nat)), some (.int (r.2.2 : Nat)), ?_, rfl⟩)⟩
        rw [hstep, decide_eq_false hlo]
        rfl
    · rintro σ H' ⟨y6, y7, y8, rfl, rfl⟩
      have e : (rowsOf b n d k).take (ts.map V.ref).length = rowsOf b n d k := by
        refine List.take_of_length_le ?_
        rw [List.length_map]
        exact Nat.le_of_eq R.len.symm
      rw [e]
      exact ⟨_, rfl, c k hk _ s1⟩
end
/-! ### bases and levels of any value -/
theorem tyOf_same {K : PySem.W.Frag} {H H' : Hp} (s : Same H H') {x : V} {t : Value} (h : TyOf K H x t) : TyOf K H' x t := by
  cases h with
  | non => exact .non
  | bl x => exact .bl x
  | int i => exact .int i
  | str x => exact .str x
  | flt x => exact .flt x
  | lst e => exact .lst (s _ _ e)
  | frz e => exact .frz (s _ _ e)
  | tup e => exact .tup (s _ _ e)
  | dK e => exact .dK (s _ _ e)
  | dT e => exact .dT (s _ _ e)
  | ins e cl ha hn htk hm => exact .ins (s _ _ e) cl ha hn htk hm
theorem tyX_same {K : PySem.W.Frag} {H H' : Hp} (s : Same H H') {x : V} {t : Value} (h : TyX K H x t) : TyX K H' x t := by
  cases h with
  | base h => exact .base (tyOf_same s h)
  | byt b => exact .byt b
  | set e => exact .set (s _ _ e)
  | kList e c => exact .kList e c
  | kTuple e c => exact .kTuple e c
  | kDict e c => exact .kDict e c
  | fTuple e => exact .fTuple (s _ _ e)
  | fDict e => exact .fDict (s _ _ e)
/-- x is of a built-in type, and of none that isinstance(x, c) would take -/
def NotA (K : PySem.W.Frag) (H : Hp) (c : String) (x : V) : Prop := ∃ a : String, TyX K H x (.type a) ∧ kitB a c = some false
theorem NotA.same {K : PySem.W.Frag} {H H' : Hp} {c : String} {x : V} (s : Same H H') (h : NotA K H c x) : NotA K H' c x := by
  obtain ⟨a, h1, h2⟩ := h
  exact ⟨a, tyX_same s h1, h2⟩
theorem NoInt.same {K : PySem.W.Frag} {H H' : Hp} {x : V} (s : Same H H') (h : NoInt K H x) : NoInt K H' x := by
  obtain ⟨t, h1, h2⟩ := h
  exact ⟨t, tyX_same s h1, h2⟩
theorem BadTick.same {K : PySem.W.Frag} {H H' : Hp} {x : V} {l : Int} (s : Same H H') (h : BadTick K H x l) : BadTick K H' x l := h.imp (·.same s) id
/-- whether x is one of the two words -/
def wordB (x : V) : Bool := inV x [.str "stack", .str "queue"]
/-- what is no word of levels -/
def NoWord (K : PySem.W.Frag) (H : Hp) (x : V) : Prop := NotA K H "str" x ∨ ∃ s : Str, x = .str s ∧ wordB x = false
theorem NoWord.same {K : PySem.W.Frag} {H H' : Hp} {x : V} (s : Same H H') (h : NoWord K H x) : NoWord K H' x := h.imp (·.same s) id
theorem word_lv (b : Bool) : wordB (lvV b) = true := by
  cases b <;> decide
theorem no_word {K : PySem.W.Frag} {H : Hp} {x : V} (h : NoWord K H x) : wordB x = false := by
  rcases h with ⟨a, h1, h2⟩ | ⟨s, _, h⟩
  · cases x with
    | str s =>
      cases h1 with
      | base h1 =>
        cases h1
        exact absurd h2 (by decide +kernel)
    | _ => rfl
  · exact h
/-- what is no base -/
def BadBase (K : PySem.W.Frag) (H : Hp) (x : V) : Prop := NoInt K H x ∨ ∃ n : Int, x = .int n ∧ (n < 2 ∨ 64 < n)
theorem BadBase.same {K : PySem.W.Frag} {H H' : Hp} {x : V} (s : Same H H') (h : BadBase K H x) : BadBase K H' x := h.imp (·.same s) id
/-- what are no levels -/
def BadLevels (K : PySem.W.Frag) (H : Hp) (x : V) : Prop := NotA K H "list" x ∨ ∃ (q : Addr) (xs : List V), x = .ref q ∧ SqL K H q xs ∧ (xs.length = 0 ∨ 60 < xs.length ∨ (xs.length ≤ 60 ∧ (∀ v ∈ xs, (∃ b, v = lvV b) ∨ NoWord K H v) ∧ ∃ v ∈ xs, NoWord K H v))
theorem BadLevels.same {K : PySem.W.Frag} {H H' : Hp} {x : V} (s : Same H H') (h : BadLevels K H x) : BadLevels K H' x := by
  rcases h with h | ⟨q, xs, e, hs, h⟩
  · exact .inl (h.same s)
  · refine .inr ⟨q, xs, e, s.seq hs, ?_⟩
    rcases h with h | h | ⟨h1, h2, v, hv, h3⟩
    · exact .inl h
    · exact .inr (.inl h)
    · exact .inr (.inr ⟨h1, fun v hv => (h2 v hv).imp id (·.same s), v, hv, h3.same s⟩)
section
variable {P : Program} {w : World} {K : PySem.W.Frag} {mg : Str → Option Value} {base : Heap}
def spIsWordX (K : PySem.W.Frag) : Sp := fun vs H Q _ => ∃ x : V, vs = [x] ∧ ((∃ b, x = lvV b ∧ Q (.bl true) H) ∨ (NoWord K H x ∧ Q (.bl false) H))
theorem okA_is_word {f : Addr} {fd : FuncData} (F : Fun K "is_word" "is_word" s_is_word f fd) (T : Tx K mg) (hW : WordsAt K mg) : FnOk P w K mg base CX0 1 f fd ["given"] (spIsWordX K) := by
  obtain ⟨a_WORDS, g_WORDS, sW⟩ := hW
  refine F.ok sc_is_word (fun vs H Q E h => ?_) (fun cdv A outer s H vs Q E hr h => ?_)
  · obtain ⟨x, rfl, _⟩ := h
    rfl
  · obtain ⟨x, rfl, hx⟩ := h
    refine ⟨_, (pss_one (ps_ret (pe_and (pe_callB (isiK (K := K) rfl) (by rfl) T.b_isinstance (by decide +kernel) (pa_cons (pv 0) (pa_cons (pe_bltn (v := .ty "str") (u := .type "str") (by rfl) T.b_str (by decide +kernel) rfl) pa_nil))) (pe_one (pe_cmpR op_in_seq (pv 0) (pe_glob (v := .ref a_WORDS) rfl g_WORDS rfl) (by rfl)))))), ?_⟩
    have word : ∀ (s : Str) (b : Bool), wordB (.str s) = b → Q (.bl b) H → ∃ (p : Addr) (xs : List V), V.ref a_WORDS = .ref p ∧ (SqL K H p xs ∨ SqT K H p xs) ∧ flatV (.str s) = true ∧ xs.all flatV = true ∧ Q (.bl (if false then !inV (.str s) xs else inV (.str s) xs)) H := fun s b e q => by
      refine ⟨a_WORDS, _, rfl, .inr (sW _), rfl, rfl, ?_⟩
      have e2 : (if false then !inV (V.str s) [.str "stack", .str "queue"] else inV (V.str s) [.str "stack", .str "queue"]) = b := e
      rw [e2]
      exact q
    rcases hx with ⟨b, rfl, q⟩ | ⟨⟨a, ht, hk⟩ | ⟨s, rfl, hs⟩, q⟩
    · obtain ⟨x, ex, hx⟩ : ∃ x : Str, lvV b = .str x ∧ wordB (.str x) = true := by
        cases b
        · exact ⟨_, rfl, by decide⟩
        · exact ⟨_, rfl, by decide⟩
      rw [ex]
      exact ⟨.str x, rfl, _, _, _, _, true, rfl, .ty "str", .base (.str x), kit_ty (by decide +kernel), true, rfl, iteT ⟨.str x, rfl, word x true hx q⟩⟩
    · exact ⟨x, rfl, x, _, _, _, false, rfl, .ty "str", ht, kit_ty hk, false, rfl, iteF q⟩
    · exact ⟨.str s, rfl, _, _, _, _, true, rfl, .ty "str", .base (.str s), kit_ty (by decide +kernel), true, rfl, iteT ⟨.str s, rfl, word s false hs q⟩⟩
def spIsBaseX (K : PySem.W.Frag) : Sp := fun vs H Q _ => ∃ x : V, vs = [x] ∧ ((∃ n : Int, x = .int n ∧ 2 ≤ n ∧ n ≤ 64 ∧ Q (.bl true) H) ∨ (BadBase K H x ∧ Q (.bl false) H))
theorem okA_is_base {f : Addr} {fd : FuncData} (F : Fun K "is_base" "is_base" s_is_base f fd) (h1 : Has P w K mg base 1 "is_integer" ["given"] [] (spIsIntX K)) : FnOk P w K mg base CX0 2 f fd ["given"] (spIsBaseX K) := by
  obtain ⟨f_is_integer, fd_is_integer, ds_is_integer, G_is_integer, m_is_integer, k_is_integer, b_is_integer, v_is_integer⟩ := h1
  refine F.ok sc_is_base (fun vs H Q E h => ?_) (fun cdv A outer s H vs Q E hr h => ?_)
  · obtain ⟨x, rfl, _⟩ := h
    rfl
  · obtain ⟨x, rfl, hx⟩ := h
    refine ⟨_, (pss_one (ps_ret (pe_and (pe_call G_is_integer hr (by rfl) m_is_integer k_is_integer b_is_integer v_is_integer pass0 (pa_cons (pv 0) pa_nil)) (pe_one (pe_chain op_le op_le pe_int (pv 0) pe_int))))), ?_⟩
    have e2 : ∀ (n : Int) (b : Bool), decide (n ≤ 64) = b → Q (.bl b) H → Q (V.bl (decide (n ≤ 64))) H := fun n b e q => by
      rw [e]
      exact q
    rcases hx with ⟨n, rfl, l1, l2, q⟩ | ⟨hn | ⟨n, rfl, hn⟩, q⟩
    · refine ⟨.int n, rfl, .int n, rfl, .inl ⟨n, rfl, true, rfl, iteT ?_⟩⟩
      refine ⟨.int n, rfl, 2, n, rfl, rfl, true, congrArg V.bl (decide_eq_true l1), iteT ?_⟩
      exact ⟨n, 64, rfl, rfl, e2 n true (decide_eq_true l2) q⟩
    · exact ⟨x, rfl, x, rfl, .inr ⟨hn, false, rfl, iteF q⟩⟩
    · refine ⟨.int n, rfl, .int n, rfl, .inl ⟨n, rfl, true, rfl, iteT ?_⟩⟩
      by_cases l1 : 2 ≤ n
      · refine ⟨.int n, rfl, 2, n, rfl, rfl, true, congrArg V.bl (decide_eq_true l1), iteT ?_⟩
        exact ⟨n, 64, rfl, rfl, e2 n false (decide_eq_false (by omega)) q⟩
      · exact ⟨.int n, rfl, 2, n, rfl, rfl, false, congrArg V.bl (decide_eq_false l1), iteF q⟩
def spCheckBaseX (K : PySem.W.Frag) (CN : Addr) : Sp := fun vs H Q E => ∃ x : V, vs = [x] ∧ ((∃ n : Int, x = .int n ∧ 2 ≤ n ∧ n ≤ 64 ∧ Q .non H) ∨ (BadBase K H x ∧ E (.ref CN) none H))
theorem okX_check_base {f c_NoBase : Addr} {fd : FuncData} (F : Fun K "check_base" "check_base" s_check_base f fd) (T : Tx K mg) (X_NoBase : EC K mg "NoBase" c_NoBase) (h1 : Has P w K mg base 2 "is_base" ["given"] [] (spIsBaseX K)) : FnOk P w K mg base (L2.CX P w) 3 f fd ["base"] (spCheckBaseX K c_NoBase) := by
  obtain ⟨f_is_base, fd_is_base, ds_is_base, G_is_base, m_is_base, k_is_base, b_is_base, v_is_base⟩ := h1
  refine F.okX sc_check_base (fun vs H Q E h => ?_) (fun cdv A outer s H vs Q E hr h => ?_)
  · obtain ⟨x, rfl, _⟩ := h
    rfl
  · obtain ⟨x, rfl, hx⟩ := h
    refine ⟨_, (pss_one (ps_if (pt_not (pt_val (pe_call G_is_base hr (by rfl) m_is_base k_is_base b_is_base v_is_base pass0 (pa_cons (pv 0) pa_nil))))
        (pss_one (ps_raise rfl (takes_of rfl rfl rfl rfl) (pmk_own PySem.F.excBase_ValueError X_NoBase.x X_NoBase.g X_NoBase.k (raises_own X_NoBase.b X_NoBase.t) rfl)))
        pss_nil)), ?_⟩
    rcases hx with ⟨n, rfl, l1, l2, q⟩ | ⟨hn, q⟩
    · exact ⟨.int n, rfl, .int n, rfl, .inl ⟨n, rfl, l1, l2, true, rfl, iteF q⟩⟩
    · exact ⟨x, rfl, x, rfl, .inr ⟨hn, false, rfl, iteT q⟩⟩
/-- what is no length of levels -/
def BadLength (K : PySem.W.Frag) (H : Hp) (x : V) : Prop := NoInt K H x ∨ ∃ n : Int, x = .int n ∧ (n < 1 ∨ 60 < n)
theorem BadLength.same {K : PySem.W.Frag} {H H' : Hp} {x : V} (s : Same H H') (h : BadLength K H x) : BadLength K H' x := h.imp (·.same s) id
def spIsLengthX (K : PySem.W.Frag) : Sp := fun vs H Q _ => ∃ x : V, vs = [x] ∧ ((∃ n : Int, x = .int n ∧ 1 ≤ n ∧ n ≤ 60 ∧ Q (.bl true) H) ∨ (BadLength K H x ∧ Q (.bl false) H))
theorem okA_is_length {f : Addr} {fd : FuncData} (F : Fun K "is_length" "is_length" s_is_length f fd) (hM : MostAt mg) (h1 : Has P w K mg base 1 "is_integer" ["given"] [] (spIsIntX K)) : FnOk P w K mg base CX0 2 f fd ["given"] (spIsLengthX K) := by
  obtain ⟨tM, g_MOST_LEVELS⟩ := hM
  obtain ⟨f_is_integer, fd_is_integer, ds_is_integer, G_is_integer, m_is_integer, k_is_integer, b_is_integer, v_is_integer⟩ := h1
  refine F.ok sc_is_length (fun vs H Q E h => ?_) (fun cdv A outer s H vs Q E hr h => ?_)
  · obtain ⟨x, rfl, _⟩ := h
    rfl
  · obtain ⟨x, rfl, hx⟩ := h
    refine ⟨_, (pss_one (ps_ret (pe_and (pe_call G_is_integer hr (by rfl) m_is_integer k_is_integer b_is_integer v_is_integer pass0 (pa_cons (pv 0) pa_nil)) (pe_one (pe_chain op_le op_le pe_int (pv 0) (pe_glob (v := .int 60) rfl g_MOST_LEVELS ⟨_, rfl⟩)))))), ?_⟩
    have e2 : ∀ (n : Int) (b : Bool), decide (n ≤ 60) = b → Q (.bl b) H → Q (V.bl (decide (n ≤ 60))) H := fun n b e q => by
      rw [e]
      exact q
    rcases hx with ⟨n, rfl, l1, l2, q⟩ | ⟨hn | ⟨n, rfl, hn⟩, q⟩
    · refine ⟨.int n, rfl, .int n, rfl, .inl ⟨n, rfl, true, rfl, iteT ?_⟩⟩
      refine ⟨.int n, rfl, 1, n, rfl, rfl, true, congrArg V.bl (decide_eq_true l1), iteT ?_⟩
      exact ⟨n, 60, rfl, rfl, e2 n true (decide_eq_true l2) q⟩
    · exact ⟨x, rfl, x, rfl, .inr ⟨hn, false, rfl, iteF q⟩⟩
    · refine ⟨.int n, rfl, .int n, rfl, .inl ⟨n, rfl, true, rfl, iteT ?_⟩⟩
      by_cases l1 : 1 ≤ n
      · refine ⟨.int n, rfl, 1, n, rfl, rfl, true, congrArg V.bl (decide_eq_true l1), iteT ?_⟩
        exact ⟨n, 60, rfl, rfl, e2 n false (decide_eq_false (by omega)) q⟩
      · exact ⟨.int n, rfl, 1, n, rfl, rfl, false, congrArg V.bl (decide_eq_false l1), iteF q⟩
def spAreLevelsX (K : PySem.W.Frag) : Sp := fun vs H Q _ => ∃ x : V, vs = [x] ∧ ((∃ (q : Addr) (ws : List Bool), x = .ref q ∧ SqL K H q (ws.map lvV) ∧ ws ≠ [] ∧ ws.length ≤ 60 ∧ ∀ H', Same H H' → Q (.bl true) H') ∨ (BadLevels K H x ∧ ∀ H', Same H H' → Q (.bl false) H'))
theorem okA_are_levels {f : Addr} {fd : FuncData} (F : Fun K "are_levels" "are_levels" s_are_levels f fd) (T : Tx K mg) (h0 : Has P w K mg base 2 "is_length" ["given"] [] (spIsLengthX K)) (h1 : Has P w K mg base 1 "is_word" ["given"] [] (spIsWordX K)) : FnOk P w K mg base CX0 3 f fd ["given"] (spAreLevelsX K) := by
  obtain ⟨f_is_length, fd_is_length, ds_is_length, G_is_length, m_is_length, k_is_length, b_is_length, v_is_length⟩ := h0
  obtain ⟨f_is_word, fd_is_word, ds_is_word, G_is_word, m_is_word, k_is_word, b_is_word, v_is_word⟩ := h1
  refine F.ok sc_are_levels (fun vs H Q E h => ?_) (fun cdv A outer s H vs Q E hr h => ?_)
  · obtain ⟨x, rfl, _⟩ := h
    rfl
  · obtain ⟨x, rfl, hx⟩ := h
    have hx2 : (NotA K H "list" x ∧ Q (.bl false) H) ∨ (∃ (q : Addr) (xs : List V), x = .ref q ∧ SqL K H q xs ∧ (xs.length = 0 ∨ 60 < xs.length) ∧ Q (.bl false) H) ∨
        (∃ (q : Addr) (xs : List V), x = .ref q ∧ SqL K H q xs ∧ 1 ≤ xs.length ∧ xs.length ≤ 60 ∧ (∀ v ∈ xs, (∃ b, v = lvV b) ∨ NoWord K H v) ∧ ∀ H', Same H H' → if xs.all wordB = true then Q (.bl true) H' else Q (.bl false) H') := by
      rcases hx with ⟨q, ws, rfl, hL, hne, h60, c⟩ | ⟨hn | ⟨q, xs, rfl, hL, hb | hb | ⟨h60, hw, v, hv, hno⟩⟩, c⟩
      · refine .inr (.inr ⟨q, _, rfl, hL, ?_, ?_, fun v hv => ?_, fun H' s1 => ?_⟩)
        · rw [List.length_map]
          exact List.length_pos_iff.mpr hne
        · rw [List.length_map]
          exact h60
        · obtain ⟨b, _, e⟩ := List.mem_map.mp hv
          exact .inl ⟨b, e.symm⟩
        · rw [if_pos (List.all_eq_true.mpr fun v hv => by obtain ⟨b, _, e⟩ := List.mem_map.mp hv; rw [← e]; exact word_lv b)]
          exact c H' s1
      · exact .inl ⟨hn, c H fun _ _ e => e⟩
      · exact .inr (.inl ⟨q, xs, rfl, hL, .inl hb, c H fun _ _ e => e⟩)
      · exact .inr (.inl ⟨q, xs, rfl, hL, .inr hb, c H fun _ _ e => e⟩)
      · refine .inr (.inr ⟨q, xs, rfl, hL, List.length_pos_of_mem hv, h60, hw, fun H' s1 => ?_⟩)
        rw [if_neg fun e => by
          have z := List.all_eq_true.mp e v hv
          rw [no_word hno] at z
          cases z]
        exact c H' s1
    clear hx
    refine ⟨_, (pss_cons (ps_if (PW.pt (pw_or (pt_not (pt_val (pe_callB (isiK (K := K) rfl) (by rfl) T.b_isinstance (by decide +kernel) (pa_cons (pv 0) (pa_cons (pe_bltn (v := .ty "list") (u := .type "list") (by rfl) T.b_list (by decide +kernel) rfl) pa_nil))))) (pw_or1 (pt_not (pt_val (pe_call G_is_length hr (by rfl) m_is_length k_is_length b_is_length v_is_length pass0 (pa_cons (pe_callB (lenK (K := K) rfl) (by rfl) T.b_len PySem.boot_len (pa_cons (pv 0) pa_nil)) pa_nil)))))))
        (pss_one (ps_ret pe_bl))
        pss_nil)
      (pss_one (ps_ret (pe_callB (allK (K := K) rfl rfl) (by rfl) T.b_all (by decide +kernel) (pa_cons (pe_lc (own := [("word", 1)]) (g := gName 1) (tt := tYes) rfl sc_are_levels.nd (pi_list (pv 0)) (blkOk_by (own := [("word", 1)]) (N := N_are_levels) (sc := defScope s_are_levels) (by decide +kernel)) (fun _ _ _ _ _ => (pg_name (i := 1) sc_are_levels.nd rfl (.inl rfl))) (fun _ _ _ _ _ => pts_nil) (fun _ _ _ _ _ => (pe_call G_is_word (hr.mono (by decide)) (by rfl) m_is_word k_is_word b_is_word v_is_word pass0 (pa_cons (pv 1) pa_nil)))) pa_nil))))), ?_⟩
    rcases hx2 with ⟨⟨a, ht, hk⟩, q⟩ | ⟨q, xs, rfl, hL, hb, c⟩ | ⟨q, xs, rfl, hL, h0, h60, hw, c⟩
    · exact ⟨x, rfl, _, _, _, _, false, rfl, .ty "list", ht, kit_ty hk, false, rfl, iteT q⟩
    · refine ⟨.ref q, rfl, _, _, _, _, true, rfl, .ty "list", tyx_list hL, kit_ty (by decide +kernel), true, rfl, iteF ?_⟩
      exact ⟨.ref q, rfl, q, _, rfl, .inl hL, _, rfl, .inr ⟨.inr ⟨_, rfl, by omega⟩, false, rfl, iteT c⟩⟩
    refine ⟨.ref q, rfl, _, _, _, _, true, rfl, .ty "list", tyx_list hL, kit_ty (by decide +kernel), true, rfl, iteF ?_⟩
    refine ⟨.ref q, rfl, q, _, rfl, .inl hL, _, rfl, .inl ⟨_, rfl, by omega, by omega, true, rfl, iteF ?_⟩⟩
    refine ⟨.ref q, rfl, q, rfl, ⟨_, hL⟩, fun D hD => lc_list (K := K) (a := q) (xs := xs) (fun i H' => Same H H' ∧ H' D = some (.lst (((xs.take i).map wordB).map V.bl)))
      ⟨same_upd hD, upd_same⟩ (fun i H' _ ⟨sm, _⟩ => sm.seq hL) ?_ ?_⟩
    · rintro i x H' hx ⟨sm, eD⟩
      have hi : i < xs.length := (List.getElem?_eq_some_iff.mp hx).1
      refine ⟨rfl, yesT (iteT ?_)⟩
      have fin : ∃ acc, H' D = some (.lst acc) ∧ acc.length < sizeLine ∧ (Same H (upd H' D (.lst (acc ++ [V.bl (wordB x)]))) ∧ (upd H' D (.lst (acc ++ [V.bl (wordB x)]))) D = some (.lst (((xs.take (i + 1)).map wordB).map V.bl))) := by
        refine ⟨_, eD, ?_, fun c o e => ?_, ?_⟩
        · rw [List.length_map, List.length_map, List.length_take]
          exact sizeLine_ge (by omega)
        · rw [upd_ne (ne_of_none e hD)]
          exact sm _ _ e
        · rw [upd_same, List.take_add_one, hx, List.map_append, List.map_append]
          rfl
      rcases hw x (List.mem_of_getElem? hx) with ⟨b, rfl⟩ | hno
      · rw [word_lv b] at fin
        exact ⟨_, rfl, _, rfl, .inl ⟨b, rfl, fin⟩⟩
      · rw [no_word hno] at fin
        exact ⟨_, rfl, _, rfl, .inr ⟨hno.same sm, fin⟩⟩
    · rintro H1 ⟨s1, eD⟩
      rw [List.take_length] at eD
      have c1 := c H1 s1
      refine ⟨D, _, rfl, SqL.of eD, ?_⟩
      have ea : (xs.map wordB).all id = xs.all wordB := by
        rw [List.all_map]
        rfl
      rw [ea]
      cases hb : xs.all wordB with
      | true =>
        rw [if_pos hb] at c1
        exact c1
      | false =>
        rw [if_neg (by rw [hb]; exact Bool.false_ne_true)] at c1
        exact c1
def spCheckLevelsX (K : PySem.W.Frag) (CN : Addr) : Sp := fun vs H Q E => ∃ x : V, vs = [x] ∧ ((∃ (q : Addr) (ws : List Bool), x = .ref q ∧ SqL K H q (ws.map lvV) ∧ ws ≠ [] ∧ ws.length ≤ 60 ∧ ∀ H', Same H H' → Q .non H') ∨ (BadLevels K H x ∧ ∀ H', Same H H' → E (.ref CN) none H'))
theorem okX_check_levels {f c_NoLevels : Addr} {fd : FuncData} (F : Fun K "check_levels" "check_levels" s_check_levels f fd) (T : Tx K mg) (X_NoLevels : EC K mg "NoLevels" c_NoLevels) (h1 : Has P w K mg base 3 "are_levels" ["given"] [] (spAreLevelsX K)) : FnOk P w K mg base (L2.CX P w) 4 f fd ["levels"] (spCheckLevelsX K c_NoLevels) := by
  obtain ⟨f_are_levels, fd_are_levels, ds_are_levels, G_are_levels, m_are_levels, k_are_levels, b_are_levels, v_are_levels⟩ := h1
  refine F.okX sc_check_levels (fun vs H Q E h => ?_) (fun cdv A outer s H vs Q E hr h => ?_)
  · obtain ⟨x, rfl, _⟩ := h
    rfl
  · obtain ⟨x, rfl, hx⟩ := h
    refine ⟨_, (pss_one (ps_if (pt_not (pt_val (pe_call G_are_levels hr (by rfl) m_are_levels k_are_levels b_are_levels v_are_levels pass0 (pa_cons (pv 0) pa_nil))))
        (pss_one (ps_raise rfl (takes_of rfl rfl rfl rfl) (pmk_own PySem.F.excBase_ValueError X_NoLevels.x X_NoLevels.g X_NoLevels.k (raises_own X_NoLevels.b X_NoLevels.t) rfl)))
        pss_nil)), ?_⟩
    rcases hx with ⟨q, ws, rfl, hL, hne, h60, c⟩ | ⟨hn, c⟩
    · exact ⟨_, rfl, _, rfl, .inl ⟨q, ws, rfl, hL, hne, h60, fun H1 s1 => ⟨true, rfl, iteF (c H1 s1)⟩⟩⟩
    · exact ⟨_, rfl, _, rfl, .inr ⟨hn, fun H1 s1 => ⟨false, rfl, iteT (c H1 s1)⟩⟩⟩
end
/-! ### a period of any value -/
/-- what is no period -/
def BadPer (K : PySem.W.Frag) (H : Hp) (x : V) : Prop := NoInt K H x ∨ ∃ n : Int, x = .int n ∧ n < 1
theorem BadPer.same {K : PySem.W.Frag} {H H' : Hp} {x : V} (s : Same H H') (h : BadPer K H x) : BadPer K H' x := h.imp (·.same s) id
section
variable {P : Program} {w : World} {K : PySem.W.Frag} {mg : Str → Option Value} {base : Heap}
def spIsPeriodX (K : PySem.W.Frag) : Sp := fun vs H Q _ => ∃ x : V, vs = [x] ∧ ((∃ n : Int, x = .int n ∧ 1 ≤ n ∧ Q (.bl true) H) ∨ (BadPer K H x ∧ Q (.bl false) H))
theorem okA_is_period {f : Addr} {fd : FuncData} (F : Fun K "is_period" "is_period" s_is_period f fd) (h1 : Has P w K mg base 1 "is_integer" ["given"] [] (spIsIntX K)) : FnOk P w K mg base CX0 2 f fd ["given"] (spIsPeriodX K) := by
  obtain ⟨f_is_integer, fd_is_integer, ds_is_integer, G_is_integer, m_is_integer, k_is_integer, b_is_integer, v_is_integer⟩ := h1
  refine F.ok sc_is_period (fun vs H Q E h => ?_) (fun cdv A outer s H vs Q E hr h => ?_)
  · obtain ⟨x, rfl, _⟩ := h
    rfl
  · obtain ⟨x, rfl, hx⟩ := h
    refine ⟨_, (pss_one (ps_ret (pe_and (pe_call G_is_integer hr (by rfl) m_is_integer k_is_integer b_is_integer v_is_integer pass0 (pa_cons (pv 0) pa_nil)) (pe_one (pe_cmpR op_ge (pv 0) pe_int (nomark _)))))), ?_⟩
    have e2 : ∀ (n : Int) (b : Bool), decide (n ≥ 1) = b → Q (.bl b) H → Q (V.bl (decide (n ≥ 1))) H := fun n b e q => by
      rw [e]
      exact q
    rcases hx with ⟨n, rfl, l1, q⟩ | ⟨hn | ⟨n, rfl, hn⟩, q⟩
    · exact ⟨.int n, rfl, .int n, rfl, .inl ⟨n, rfl, true, rfl, iteT ⟨_, rfl, n, 1, rfl, rfl, e2 n true (decide_eq_true l1) q⟩⟩⟩
    · exact ⟨x, rfl, x, rfl, .inr ⟨hn, false, rfl, iteF q⟩⟩
    · exact ⟨.int n, rfl, .int n, rfl, .inl ⟨n, rfl, true, rfl, iteT ⟨_, rfl, n, 1, rfl, rfl, e2 n false (decide_eq_false (by omega)) q⟩⟩⟩
end
/-! ### the dict of live timers -/
def LiveK (H : Hp) : List (Key × V) → List Tm → Prop
  | [], [] => True
  | kv :: kvs, m :: ms => kv.1 = Sum.inl (m.num : Int) ∧ (∃ t, kv.2 = .ref t ∧ H t = some (.tup (tmV m))) ∧ LiveK H kvs ms
  | _, _ => False
theorem LiveK.frame {H H' : Hp} (s : ∀ t m, H t = some (.tup (tmV m)) → H' t = some (.tup (tmV m))) : ∀ {kvs : List (Key × V)} {ms : List Tm}, LiveK H kvs ms → LiveK H' kvs ms
  | [], [], _ => trivial
  | _ :: _, _ :: _, ⟨h1, ⟨t, h2, h3⟩, h4⟩ => ⟨h1, ⟨t, h2, s _ _ h3⟩, h4.frame s⟩
  | [], _ :: _, h => h.elim
  | _ :: _, [], h => h.elim
theorem LiveK.same {H H' : Hp} (s : Same H H') {kvs : List (Key × V)} {ms : List Tm} (h : LiveK H kvs ms) : LiveK H' kvs ms := h.frame fun _ _ e => s _ _ e
/-- a place that holds no tuple may change -/
theorem LiveK.upd {H : Hp} {l : Addr} {o o' : HO} (hl : H l = some o) (hn : ∀ xs, o ≠ .tup xs) {kvs : List (Key × V)} {ms : List Tm} (h : LiveK H kvs ms) : LiveK (upd H l o') kvs ms := h.frame fun t m e => by
  rw [upd_ne fun z => ?_]
  · exact e
  · rw [z, hl] at e
    exact hn _ (Option.some.inj e)
theorem LiveK.len {H : Hp} : ∀ {kvs : List (Key × V)} {ms : List Tm}, LiveK H kvs ms → kvs.length = ms.length
  | [], [], _ => rfl
  | _ :: _, _ :: _, h => congrArg Nat.succ h.2.2.len
  | [], _ :: _, h => h.elim
  | _ :: _, [], h => h.elim
theorem LiveK.keys {H : Hp} : ∀ {kvs : List (Key × V)} {ms : List Tm}, LiveK H kvs ms → kvs.map (·.1) = ms.map fun m => Sum.inl (m.num : Int)
  | [], [], _ => rfl
  | kv :: kvs, m :: ms, h => by
    rw [List.map_cons, List.map_cons, h.1, h.2.2.keys]
  | [], _ :: _, h => h.elim
  | _ :: _, [], h => h.elim
theorem LiveK.get {H : Hp} : ∀ {kvs : List (Key × V)} {ms : List Tm} {i : Nat} {k : Key} {v : V}, LiveK H kvs ms → kvs[i]? = some (k, v) → ∃ m t, ms[i]? = some m ∧ k = Sum.inl (m.num : Int) ∧ v = .ref t ∧ H t = some (.tup (tmV m))
  | kv :: _, m :: _, 0, k, v, ⟨h1, ⟨t, h2, h3⟩, _⟩, e => by
    cases Option.some.inj e
    exact ⟨m, t, rfl, h1, h2, h3⟩
  | _ :: _, _ :: _, i + 1, _, _, h, e => h.2.2.get (i := i) e
  | [], _, _, _, _, _, e => by simp at e
  | _ :: _, [], _, _, _, h, _ => h.elim
theorem LiveK.snoc {H : Hp} {k : Key} {t : Addr} {m : Tm} : ∀ {kvs : List (Key × V)} {ms : List Tm}, LiveK H kvs ms → k = Sum.inl (m.num : Int) → H t = some (.tup (tmV m)) → LiveK H (kvs ++ [(k, .ref t)]) (ms ++ [m])
  | [], [], _, h1, h2 => ⟨h1, ⟨t, rfl, h2⟩, trivial⟩
  | _ :: _, _ :: _, h, h1, h2 => ⟨h.1, h.2.1, h.2.2.snoc h1 h2⟩
  | [], _ :: _, h, _, _ => h.elim
  | _ :: _, [], h, _, _ => h.elim
theorem inl_num {a b : Nat} : (Sum.inl (a : Int) : Key) = Sum.inl (b : Int) ↔ a = b := ⟨fun e => Int.ofNat.inj (Sum.inl.inj e), fun e => by rw [e]⟩
theorem LiveK.drop {H : Hp} {n : Nat} : ∀ {kvs : List (Key × V)} {ms : List Tm}, LiveK H kvs ms → LiveK H (dropK kvs (Sum.inl (n : Int))) (dropT n ms)
  | [], [], _ => trivial
  | kv :: kvs, m :: ms, h => by
    by_cases e : m.num = n
    · have e1 : kv.1 = (Sum.inl (n : Int) : Key) := by rw [h.1, e]
      have e2 : dropT n (m :: ms) = dropT n ms := by
        unfold dropT
        rw [List.filter_cons, if_neg (by simp [e])]
      rw [dropK_pos e1, e2]
      exact h.2.2.drop
    · have e1 : ¬ kv.1 = (Sum.inl (n : Int) : Key) := by
        rw [h.1]
        exact fun z => e (inl_num.mp z)
      have e2 : dropT n (m :: ms) = m :: dropT n ms := by
        unfold dropT
        rw [List.filter_cons, if_pos (by simp [e])]
      rw [dropK_neg e1, e2]
      exact ⟨h.1, h.2.1, h.2.2.drop⟩
  | [], _ :: _, h => h.elim
  | _ :: _, [], h => h.elim
theorem LiveK.val {H : Hp} {n : Nat} : ∀ {kvs : List (Key × V)} {ms : List Tm}, LiveK H kvs ms → match ms.find? fun m => decide (m.num = n) with
    | none => valV kvs (Sum.inl (n : Int)) = none
    | some m => ∃ t, valV kvs (Sum.inl (n : Int)) = some (.ref t) ∧ H t = some (.tup (tmV m))
  | [], [], _ => rfl
  | kv :: kvs, m :: ms, h => by
    by_cases e : m.num = n
    · have e1 : kv.1 = (Sum.inl (n : Int) : Key) := by rw [h.1, e]
      rw [List.find?_cons_of_pos (by simpa using e), valV_pos e1]
      obtain ⟨t, h2, h3⟩ := h.2.1
      exact ⟨t, by rw [h2], h3⟩
    · have e1 : ¬ kv.1 = (Sum.inl (n : Int) : Key) := by
        rw [h.1]
        exact fun z => e (inl_num.mp z)
      rw [List.find?_cons_of_neg (by simpa using e), valV_neg e1]
      exact h.2.2.val
  | [], _ :: _, h => h.elim
  | _ :: _, [], h => h.elim
theorem find_of {ms : List Tm} {m : Tm} (nd : (ms.map (·.num)).Nodup) (h : m ∈ ms) : ms.find? (fun x => decide (x.num = m.num)) = some m := by
  induction ms with
  | nil => cases h
  | cons a r ih =>
    rw [List.map_cons, List.nodup_cons] at nd
    rcases List.mem_cons.mp h with e | h
    · rw [e]
      exact List.find?_cons_of_pos (by simp)
    · have hne : ¬ a.num = m.num := fun e => nd.1 (by rw [e]; exact List.mem_map_of_mem h)
      rw [List.find?_cons_of_neg (by simpa using hne)]
      exact ih nd.2 h
theorem LiveK.val_of {H : Hp} {kvs : List (Key × V)} {ms : List Tm} {m : Tm} (h : LiveK H kvs ms) (nd : (ms.map (·.num)).Nodup) (hm : m ∈ ms) : ∃ t, valV kvs (Sum.inl (m.num : Int)) = some (.ref t) ∧ H t = some (.tup (tmV m)) := by
  have z := h.val (n := m.num)
  rw [find_of nd hm] at z
  exact z
theorem LiveK.val_not {H : Hp} {kvs : List (Key × V)} {ms : List Tm} {n : Nat} (h : LiveK H kvs ms) (hn : ∀ m ∈ ms, m.num ≠ n) : valV kvs (Sum.inl (n : Int)) = none := by
  have z := h.val (n := n)
  rw [List.find?_eq_none.mpr (fun m hm => by simpa using hn m hm)] at z
  exact z
theorem unlock {H H1 : Hp} {l : Addr} {u : HO} {od : Obj} (h : H l = some u) (s : Same (upd H l (.frz od u)) H1) : Same H (upd H1 l u) := fun c o e => by
  by_cases z : c = l
  · rw [z] at e ⊢
    rw [upd_same]
    exact h.symm.trans e
  · rw [upd_ne z]
    exact s c o (by rw [upd_ne z]; exact e)
theorem lock_same {H : Hp} {l : Addr} {u : HO} {o' : HO} {c : Addr} {o : HO} (h : H l = some u) (e : H c = some o) (hn : u ≠ o) : upd H l o' c = some o := by
  rw [upd_ne fun z => hn (by rw [z, h] at e; exact Option.some.inj e)]
  exact e
theorem sq_lock {K : PySem.W.Frag} {H : Hp} {l q : Addr} {kvs : List (Key × V)} {o' : HO} {xs : List V} (h : H l = some (.dK kvs)) (hq : SqL K H q xs) : SqL K (upd H l o') q xs := by
  rcases hq with (e | ⟨o, e⟩) | e
  · exact .inl (.inl (lock_same h e (by intro z; cases z)))
  · exact .inl (.inr ⟨o, lock_same h e (by intro z; cases z)⟩)
  · exact .inr e
/-- a loop over d.items() -/
theorem for_items {d : Addr} {o : Obj} {kvs : List (Key × V)} {g : TG} {tb : TS} {D : Ends} {σ : L2.St} {H : Hp} (Pv : Nat → L2.St → Hp → Prop) (h0 : Pv 0 σ H) (hq : ∀ i σ H, Pv i σ H → H d = some (.frz o (.dK kvs)))
    (hs : ∀ (i : Nat) (k : Key) (v : V) (T : Addr) (σ : L2.St) (H : Hp), kvs[i]? = some (k, v) → Pv i σ H → H T = none → g (.ref T) σ (upd H T (.tup [kV k, v])) fun σ2 H2 => tb { D with nx := Pv (i + 1), ct := Pv (i + 1), bk := D.nx } σ2 H2) (hd : ∀ σ H, Pv kvs.length σ H → D.nx σ H) :
    ∃ W : Nat → Nat → L2.St → Hp → Prop, (∃ m, W 0 m σ H) ∧ ∀ i m σ H, W i m σ H →
      ((Iti d o kvs).stop i H ∧ D.nx σ H) ∨ ((Iti d o kvs).go i H ∧ ∃ N : L2.St → Hp → Prop, (∀ σ' H', N σ' H' → ∃ m', m' < m ∧ W (i + 1) m' σ' H') ∧ ∀ v H', (Iti d o kvs).yld i H v H' → g v σ H' fun σ2 H2 => tb { D with nx := N, ct := N, bk := D.nx } σ2 H2) := by
  refine ⟨fun i m σ H => m = kvs.length - i ∧ i ≤ kvs.length ∧ Pv i σ H, ⟨kvs.length, rfl, Nat.zero_le _, h0⟩, ?_⟩
  rintro i m σ H ⟨rfl, hi, p⟩
  have qx := hq i σ H p
  by_cases hlt : i < kvs.length
  · refine .inr ⟨⟨qx, hlt⟩, Pv (i + 1), fun σ' H' p' => ⟨kvs.length - (i + 1), by omega, rfl, hlt, p'⟩, fun x H' y => ?_⟩
    obtain ⟨T, k, v, e, rfl, nT, rfl⟩ := y
    exact hs i k v T σ H e p nT
  · have e : i = kvs.length := by omega
    subst e
    exact .inl ⟨⟨qx, Nat.le_refl _⟩, hd σ H p⟩
/-- a loop over d.values() -/
theorem for_values {d : Addr} {o : Obj} {kvs : List (Key × V)} {g : TG} {tb : TS} {D : Ends} {σ : L2.St} {H : Hp} (Pv : Nat → L2.St → Hp → Prop) (h0 : Pv 0 σ H) (hq : ∀ i σ H, Pv i σ H → H d = some (.frz o (.dK kvs)))
    (hs : ∀ (i : Nat) (k : Key) (v : V) (σ : L2.St) (H : Hp), kvs[i]? = some (k, v) → Pv i σ H → g v σ H fun σ2 H2 => tb { D with nx := Pv (i + 1), ct := Pv (i + 1), bk := D.nx } σ2 H2) (hd : ∀ σ H, Pv kvs.length σ H → D.nx σ H) :
    ∃ W : Nat → Nat → L2.St → Hp → Prop, (∃ m, W 0 m σ H) ∧ ∀ i m σ H, W i m σ H →
      ((Itd d o kvs).stop i H ∧ D.nx σ H) ∨ ((Itd d o kvs).go i H ∧ ∃ N : L2.St → Hp → Prop, (∀ σ' H', N σ' H' → ∃ m', m' < m ∧ W (i + 1) m' σ' H') ∧ ∀ v H', (Itd d o kvs).yld i H v H' → g v σ H' fun σ2 H2 => tb { D with nx := N, ct := N, bk := D.nx } σ2 H2) := by
  refine ⟨fun i m σ H => m = kvs.length - i ∧ i ≤ kvs.length ∧ Pv i σ H, ⟨kvs.length, rfl, Nat.zero_le _, h0⟩, ?_⟩
  rintro i m σ H ⟨rfl, hi, p⟩
  have qx := hq i σ H p
  by_cases hlt : i < kvs.length
  · refine .inr ⟨⟨qx, hlt⟩, Pv (i + 1), fun σ' H' p' => ⟨kvs.length - (i + 1), by omega, rfl, hlt, p'⟩, fun x H' y => ?_⟩
    obtain ⟨rfl, k, e⟩ := y
    exact hs i k x σ H' e p
  · have e : i = kvs.length := by omega
    subst e
    exact .inl ⟨⟨qx, Nat.le_refl _⟩, hd σ H p⟩
/-- a comprehension over d.values() -/
theorem lc_values {d : Addr} {o : Obj} {kvs : List (Key × V)} {g : TG} {tt : TT} {te : TE} {vs : List Nat} {σ : L2.St} {H1 : Hp} {D : Addr} {Qd : Hp → Prop} (Pv : Nat → Hp → Prop) (h0 : Pv 0 (upd H1 D (.lst []))) (hq : ∀ i H, Pv i H → H d = some (.frz o (.dK kvs)))
    (hs : ∀ i k x H, kvs[i]? = some (k, x) → Pv i H → g x (wipe σ vs) H fun σ2 H2 => wipe σ2 vs = wipe σ vs ∧ tt σ2 H2 fun b H3 =>
      if b = true then te σ2 H3 fun y H4 => ∃ acc, H4 D = some (.lst acc) ∧ acc.length < sizeLine ∧ Pv (i + 1) (upd H4 D (.lst (acc ++ [y]))) else Pv (i + 1) H3) (hd : ∀ H, Pv kvs.length H → Qd H) :
    ∃ W : Nat → Nat → Hp → Prop, (∃ m, W 0 m (upd H1 D (.lst []))) ∧ ∀ i m H, W i m H →
      ((Itd d o kvs).stop i H ∧ Qd H) ∨ ((Itd d o kvs).go i H ∧ ∃ Nx : Hp → Prop, (∀ H', Nx H' → ∃ m', m' < m ∧ W (i + 1) m' H') ∧ ∀ x H', (Itd d o kvs).yld i H x H' → g x (wipe σ vs) H' fun σ2 H2 => wipe σ2 vs = wipe σ vs ∧ tt σ2 H2 fun b H3 =>
        if b = true then te σ2 H3 fun y H4 => ∃ acc, H4 D = some (.lst acc) ∧ acc.length < sizeLine ∧ Nx (upd H4 D (.lst (acc ++ [y]))) else Nx H3) := by
  refine ⟨fun i m H => m = kvs.length - i ∧ i ≤ kvs.length ∧ Pv i H, ⟨kvs.length, rfl, Nat.zero_le _, h0⟩, ?_⟩
  rintro i m H ⟨rfl, hi, p⟩
  have qx := hq i H p
  by_cases hlt : i < kvs.length
  · refine .inr ⟨⟨qx, hlt⟩, Pv (i + 1), fun H' p' => ⟨kvs.length - (i + 1), by omega, rfl, hlt, p'⟩, fun x H' y => ?_⟩
    obtain ⟨rfl, k, e⟩ := y
    exact hs i k x H' e p
  · have e : i = kvs.length := by omega
    subst e
    exact .inl ⟨⟨qx, Nat.le_refl _⟩, hd H p⟩
section
variable {P : Program} {w : World} {K : PySem.W.Frag} {mg : Str → Option Value} {base : Heap}
def spLeast : Sp := fun vs H Q _ => ∃ (l : Addr) (kvs : List (Key × V)) (ms : List Tm), vs = [.ref l] ∧ H l = some (.dK kvs) ∧ LiveK H kvs ms ∧ ms.length ≤ 1000 ∧ ∀ H', Same H H' → Q (perV (leastD ms)) H'
theorem min_least {ms : List Tm} {Q : V → Prop} (q : Q (perV (leastD ms))) : (ms.map (fun m => (m.due : Int)) = [] → Q .non) ∧ ∀ v ∈ ms.map (fun m => (m.due : Int)), (∀ x ∈ ms.map (fun m => (m.due : Int)), v ≤ x) → Q (.int v) := by
  refine ⟨fun e => ?_, fun v hv hx => ?_⟩
  · rw [least_none.mpr (List.map_eq_nil_iff.mp e)] at q
    exact q
  · obtain ⟨m, hm, rfl⟩ := List.mem_map.mp hv
    have e : leastD ms = some m.due := least_some.mpr ⟨List.mem_map_of_mem hm, fun x h => by
      obtain ⟨m', hm', rfl⟩ := List.mem_map.mp h
      exact Int.ofNat_le.mp (hx _ (List.mem_map_of_mem hm'))⟩
    rw [e] at q
    exact q
theorem ok_least_due {f : Addr} {fd : FuncData} (F : Fun K "least_due" "least_due" s_least_due f fd) (T : Tx K mg) : FnOk P w K mg base CX0 1 f fd ["live"] spLeast := by
  refine F.ok sc_least_due (fun vs H Q E h => ?_) (fun cdv A outer s H vs Q E hr h => ?_)
  · obtain ⟨l, kvs, ms, rfl, _⟩ := h
    rfl
  · obtain ⟨l, kvs, ms, rfl, hl, L, few, q⟩ := h
    refine ⟨_, (pss_one (ps_ret (pe_callBK (minDef (K := K) rfl rfl hr.units) (by rfl) T.b_min (by decide +kernel) (pa_cons (pe_lock (pe_lc (own := [("due", 1), ("period", 2), ("since", 3)]) (g := _) (tt := tYes) rfl sc_least_due.nd (pi_values (pv 0)) (blkOk_by (own := [("due", 1), ("period", 2), ("since", 3)]) (N := N_least_due) (sc := defScope s_least_due) (by decide +kernel)) (fun _ _ _ _ _ => (pg_tupK (K := K) (n := 3) rfl rfl (pgs_cons (pg_name (i := 1) sc_least_due.nd rfl (.inl rfl)) (pgs_cons (pg_name (i := 2) sc_least_due.nd rfl (.inl rfl)) (pgs_cons (pg_name (i := 3) sc_least_due.nd rfl (.inl rfl)) pgs_nil))))) (fun _ _ _ _ _ => pts_nil) (fun _ _ _ _ _ => (pv 1)))) pa_nil) (pk_cons pe_non pk_nil)))), ?_⟩
    refine ⟨l, _, hl, trivial, fun od => ?_⟩
    refine ⟨_, rfl, l, od, kvs, rfl, upd_same, fun D hD => lc_values (d := l) (o := od) (kvs := kvs) (fun i H' => Same (upd H l (.frz od (.dK kvs))) H' ∧ H' D = some (.lst ((ms.take i).map fun m => V.int (m.due : Nat))))
      ⟨same_upd hD, upd_same⟩ (fun i H' ⟨sm, _⟩ => sm _ _ upd_same) ?_ ?_⟩
    · rintro i k x H' hx ⟨sm, eD⟩
      have L' := L.upd (o' := .frz od (.dK kvs)) hl (fun xs z => by cases z)
      obtain ⟨m, t, hm, rfl, rfl, ht⟩ := L'.get hx
      refine ⟨t, _, rfl, .inl (.inl (sm _ _ ht)), rfl, _, _, rfl, _, _, rfl, _, _, rfl, rfl, rfl, yesT (iteT ?_)⟩
      refine ⟨_, rfl, _, eD, ?_, fun c o e => ?_, ?_⟩
      · rw [List.length_map, List.length_take]
        exact sizeLine_ge (by omega)
      · rw [upd_ne (ne_of_none e hD)]
        exact sm _ _ e
      · rw [upd_same, List.take_add_one, hm, List.map_append]
        rfl
    · rintro H1 ⟨sm, eD⟩
      rw [L.len, List.take_length] at eD
      have nDl : D ≠ l := fun e => by
        rw [e, upd_same] at hD
        cases hD
      have s2 := unlock hl sm
      have eD2 : (upd H1 l (.dK kvs)) D = some (.lst ((ms.map fun m => (m.due : Int)).map V.int)) := by
        rw [upd_ne nDl, eD, List.map_map]
        rfl
      refine ⟨sm _ _ upd_same, D, ms.map fun m => (m.due : Int), rfl, rfl, SqL.of eD2, ?_⟩
      exact min_least (Q := fun v => Q v (upd H1 l (.dK kvs))) (q _ s2)
end
/-! ### what fires, what is left -/
section
variable {P : Program} {w : World} {K : PySem.W.Frag} {mg : Str → Option Value} {base : Heap}
def spWithTimer : Sp := fun vs H Q _ => ∃ (a : Addr) (xs : List Nat) (n : Nat) (f : Bool), vs = [.ref a, .int (n : Nat), .bl f] ∧ H a = some (.lst (xs.map fun x => V.int (x : Nat))) ∧ xs.length ≤ 1000 ∧ ∀ H' p, Same H H' → H p = none → H' p = some (.lst ((insT f n xs).map fun x => V.int (x : Nat))) → Q (.ref p) H'
theorem ok_with_timer {f : Addr} {fd : FuncData} (F : Fun K "with_timer" "with_timer" s_with_timer f fd) : FnOk P w K mg base CX0 1 f fd ["numbers", "number", "front"] spWithTimer := by
  refine F.ok sc_with_timer (fun vs H Q E h => ?_) (fun cdv A outer s H vs Q E hr h => ?_)
  · obtain ⟨a, xs, n, fr, rfl, _⟩ := h
    rfl
  · obtain ⟨a, xs, n, fr, rfl, ha, hl, q⟩ := h
    refine ⟨_, (pss_cons (ps_if (pt_val (pv 2))
        (pss_one (ps_ret (pe_op op_cat (pe_lst (pa_cons (pv 1) pa_nil)) (pv 0))))
        pss_nil)
      (pss_one (ps_ret (pe_op op_cat (pv 0) (pe_lst (pa_cons (pv 1) pa_nil)))))), ?_⟩
    refine ⟨_, rfl, fr, rfl, ?_⟩
    cases fr with
    | true =>
      refine iteT ⟨_, rfl, by simp [sizeLine_eq], fun p1 h1 => ?_⟩
      have s1 := same_upd (o := .lst [.int (n : Nat)]) h1
      refine ⟨_, rfl, p1, a, _, _, rfl, rfl, upd_same, s1 _ _ ha, ?_, fun p hp => ?_⟩
      · rw [List.length_map]
        exact sizeLine_le (by show 1 + xs.length ≤ 1000000; omega)
      · exact q _ p (s1.trans (same_upd hp)) (s1.free hp) upd_same
    | false =>
      refine iteF ⟨_, rfl, _, rfl, by simp [sizeLine_eq], fun p1 h1 => ?_⟩
      have s1 := same_upd (o := .lst [.int (n : Nat)]) h1
      refine ⟨a, p1, _, _, rfl, rfl, s1 _ _ ha, upd_same, ?_, fun p hp => ?_⟩
      · rw [List.length_map]
        exact sizeLine_le (by show xs.length + 1 ≤ 1000000; omega)
      · refine q _ p (s1.trans (same_upd hp)) (s1.free hp) ?_
        rw [upd_same]
        unfold insT
        rw [if_neg (by decide), List.map_append]
        rfl
end
/-- the order of timers that are set at these ticks and due at one tick -/
noncomputable def orderP (b : Nat) (ws : List Bool) (d : Nat) (ps : List (Nat × Nat)) : List Nat := ps.foldl (fun acc r => insT (sideT b ws r.2 d 0) r.1 acc) []
theorem orderP_snoc (b : Nat) (ws : List Bool) (d : Nat) (ps : List (Nat × Nat)) (r : Nat × Nat) : orderP b ws d (ps ++ [r]) = insT (sideT b ws r.2 d 0) r.1 (orderP b ws d ps) := by
  unfold orderP
  rw [List.foldl_append]
  rfl
theorem orderP_len (b : Nat) (ws : List Bool) (d : Nat) (ps : List (Nat × Nat)) : (orderP b ws d ps).length = ps.length := by
  have H : ∀ (ps : List (Nat × Nat)) (acc : List Nat), (ps.foldl (fun acc r => insT (sideT b ws r.2 d 0) r.1 acc) acc).length = acc.length + ps.length := by
    intro ps
    induction ps with
    | nil => intro acc; rfl
    | cons r ps ih =>
      intro acc
      rw [List.foldl_cons, ih, insT_len, List.length_cons]
      omega
  have z := H ps []
  rw [List.length_nil, Nat.zero_add] at z
  exact z
def setsOf (t : Nat) (ms : List Tm) : List (Nat × Nat) := (ms.filter fun m => decide (m.due = t)).map fun m => (m.num, m.since)
theorem order_P (b : Nat) (ws : List Bool) (t : Nat) (ms : List Tm) : orderAt b ws t ms = orderP b ws t (setsOf t ms) := by
  have H : ∀ (ms : List Tm) (acc : List Nat), ms.foldl (fun acc m => if m.due = t then insT (sideT b ws m.since m.due 0) m.num acc else acc) acc = (setsOf t ms).foldl (fun acc r => insT (sideT b ws r.2 t 0) r.1 acc) acc := by
    intro ms
    induction ms with
    | nil => intro acc; rfl
    | cons m ms ih =>
      intro acc
      rw [List.foldl_cons, ih]
      by_cases e : m.due = t
      · have z : setsOf t (m :: ms) = (m.num, m.since) :: setsOf t ms := by
          unfold setsOf
          rw [List.filter_cons_of_pos (by simpa using e)]
          rfl
        rw [z, List.foldl_cons, if_pos e, e]
      · have z : setsOf t (m :: ms) = setsOf t ms := by
          unfold setsOf
          rw [List.filter_cons_of_neg (by simpa using e)]
        rw [z, if_neg e]
  exact H ms []
/-- at the places ts stand tuples of a number and a tick -/
def PrAt (H : Hp) : List Addr → List (Nat × Nat) → Prop
  | [], [] => True
  | t :: ts, r :: rs => H t = some (.tup [.int (r.1 : Nat), .int (r.2 : Nat)]) ∧ PrAt H ts rs
  | _, _ => False
theorem PrAt.frame {H H' : Hp} : ∀ {ts : List Addr} {rs : List (Nat × Nat)}, PrAt H ts rs → (∀ t xs, H t = some (.tup xs) → H' t = some (.tup xs)) → PrAt H' ts rs
  | [], [], _, _ => trivial
  | _ :: _, _ :: _, h, s => ⟨s _ _ h.1, h.2.frame s⟩
  | [], _ :: _, h, _ => h.elim
  | _ :: _, [], h, _ => h.elim
theorem PrAt.app {H : Hp} {t : Addr} {r : Nat × Nat} : ∀ {ts : List Addr} {rs : List (Nat × Nat)}, PrAt H ts rs → H t = some (.tup [.int (r.1 : Nat), .int (r.2 : Nat)]) → PrAt H (ts ++ [t]) (rs ++ [r])
  | [], [], _, h => ⟨h, trivial⟩
  | _ :: _, _ :: _, h, h2 => ⟨h.1, h.2.app h2⟩
  | [], _ :: _, h, _ => h.elim
  | _ :: _, [], h, _ => h.elim
theorem PrAt.len {H : Hp} : ∀ {ts : List Addr} {rs : List (Nat × Nat)}, PrAt H ts rs → ts.length = rs.length
  | [], [], _ => rfl
  | _ :: _, _ :: _, h => congrArg Nat.succ h.2.len
  | [], _ :: _, h => h.elim
  | _ :: _, [], h => h.elim
theorem PrAt.item {H : Hp} : ∀ {ts : List Addr} {rs : List (Nat × Nat)} {i : Nat} {x : V}, PrAt H ts rs → (ts.map V.ref)[i]? = some x → ∃ t r, x = V.ref t ∧ rs[i]? = some r ∧ H t = some (.tup [.int (r.1 : Nat), .int (r.2 : Nat)])
  | t :: _, r :: _, 0, x, h, e => ⟨t, r, (Option.some.inj e).symm, rfl, h.1⟩
  | _ :: _, _ :: _, i + 1, _, h, e => h.2.item (i := i) e
  | [], _, _, _, _, e => by simp at e
  | _ :: _, [], _, _, h, _ => h.elim
/-- a list made over the items of a dict -/
theorem lc_items {d : Addr} {o : Obj} {kvs : List (Key × V)} {g : TG} {tt : TT} {te : TE} {ws : List Nat} {σ : L2.St} {G : Hp} {D : Addr} {Qd : Hp → Prop} (Pv : Nat → Hp → Prop) (start : Pv 0 (upd G D (.lst []))) (lock : ∀ i G, Pv i G → G d = some (.frz o (.dK kvs)))
    (step : ∀ (i : Nat) (k : Key) (v : V) (T : Addr) (G : Hp), kvs[i]? = some (k, v) → Pv i G → G T = none → g (.ref T) (wipe σ ws) (upd G T (.tup [kV k, v])) fun τ G2 => wipe τ ws = wipe σ ws ∧ tt τ G2 fun c G3 => if c = true then te τ G3 fun z G4 => ∃ ac, G4 D = some (.lst ac) ∧ ac.length < sizeLine ∧ Pv (i + 1) (upd G4 D (.lst (ac ++ [z]))) else Pv (i + 1) G3)
    (last : ∀ G, Pv kvs.length G → Qd G) : ∃ W : Nat → Nat → Hp → Prop, (∃ m, W 0 m (upd G D (.lst []))) ∧ ∀ i m G, W i m G → ((Iti d o kvs).stop i G ∧ Qd G) ∨
      ((Iti d o kvs).go i G ∧ ∃ N : Hp → Prop, (∀ G', N G' → ∃ m', m' < m ∧ W (i + 1) m' G') ∧ ∀ x G', (Iti d o kvs).yld i G x G' → g x (wipe σ ws) G' fun τ G2 => wipe τ ws = wipe σ ws ∧ tt τ G2 fun c G3 => if c = true then te τ G3 fun z G4 => ∃ ac, G4 D = some (.lst ac) ∧ ac.length < sizeLine ∧ N (upd G4 D (.lst (ac ++ [z]))) else N G3) := by
  refine ⟨fun i m G => (m = kvs.length - i ∧ i ≤ kvs.length) ∧ Pv i G, ⟨kvs.length, ⟨rfl, Nat.zero_le _⟩, start⟩, ?_⟩
  rintro i m G ⟨⟨rfl, le⟩, pv⟩
  have here := lock i G pv
  rcases Nat.lt_or_ge i kvs.length with lt | ge
  · refine .inr ⟨⟨here, lt⟩, Pv (i + 1), fun G' p' => ⟨kvs.length - (i + 1), by omega, ⟨rfl, lt⟩, p'⟩, fun x G' y => ?_⟩
    obtain ⟨T, k, v, e, rfl, nT, rfl⟩ := y
    exact step i k v T G e pv nT
  · have e : i = kvs.length := Nat.le_antisymm le ge
    rw [e] at pv ⊢
    exact .inl ⟨⟨here, Nat.le_refl _⟩, last G pv⟩
section
variable {P : Program} {w : World} {K : PySem.W.Frag} {mg : Str → Option Value} {base : Heap}
def spFiringOrder (K : PySem.W.Frag) : Sp := fun vs H Q _ => ∃ (b d : Nat) (q S : Addr) (ws : List Bool) (ts : List Addr) (ps : List (Nat × Nat)), vs = [.int (b : Nat), .ref q, .int (d : Nat), .ref S] ∧ 2 ≤ b ∧ b ≤ 64 ∧ SqL K H q (ws.map lvV) ∧ ws ≠ [] ∧ H S = some (.lst (ts.map V.ref)) ∧ PrAt H ts ps ∧ ps.length ≤ 1000 ∧ (∀ r ∈ ps, r.2 < d ∧ d < 2 ^ 250) ∧
  ∀ H' p, Same H H' → H p = none → H' p = some (.lst ((orderP b ws d ps).map fun x => V.int (x : Nat))) → Q (.ref p) H'
theorem ok_firing_order {f : Addr} {fd : FuncData} (F : Fun K "firing_order" "firing_order" s_firing_order f fd) (h1 : Has P w K mg base 1 "with_timer" ["numbers", "number", "front"] [] spWithTimer)
    (h2 : Has P w K mg base 3 "goes_in_front" ["base", "levels", "now", "due", "lowest"] [] (spFront K)) : FnOk P w K mg base CX0 4 f fd ["base", "levels", "due", "settings"] (spFiringOrder K) := by
  obtain ⟨f_with_timer, fd_with_timer, ds_with_timer, G_with_timer, m_with_timer, k_with_timer, b_with_timer, v_with_timer⟩ := h1
  obtain ⟨f_goes_in_front, fd_goes_in_front, ds_goes_in_front, G_goes_in_front, m_goes_in_front, k_goes_in_front, b_goes_in_front, v_goes_in_front⟩ := h2
  refine F.ok sc_firing_order (fun vs H Q E h => ?_) (fun cdv A outer s H vs Q E hr h => ?_)
  · obtain ⟨b, d, q, S, ws, ts, ps, rfl, _⟩ := h
    rfl
  · obtain ⟨b, d, q, S, ws, ts, ps, rfl, hb, hb64, hL, hne, hS, hP, few, ok, c⟩ := h
    refine ⟨_, (pss_cons (ps_set (i := 4) sc_firing_order.nd rfl (.inl rfl) (pe_lst pa_nil))
      (pss_cons (ps_for PassesOwn.never rfl (pi_list (pv 3)) (pg_tupK (K := K) (n := 2) rfl rfl (pgs_cons (pg_name (i := 5) sc_firing_order.nd rfl (.inl rfl)) (pgs_cons (pg_name (i := 6) sc_firing_order.nd rfl (.inl rfl)) pgs_nil)))
        (pss_one (ps_set (i := 4) sc_firing_order.nd rfl (.inl rfl) (pe_call G_with_timer (hr.mono (by decide)) (by rfl) m_with_timer k_with_timer b_with_timer v_with_timer pass0 (pa_cons (pv 4) (pa_cons (pv 5) (pa_cons (pe_call G_goes_in_front hr (by rfl) m_goes_in_front k_goes_in_front b_goes_in_front v_goes_in_front pass0 (pa_cons (pv 0) (pa_cons (pv 1) (pa_cons (pv 6) (pa_cons (pv 2) (pa_cons pe_int pa_nil)))))) pa_nil)))))))
      (pss_one (ps_ret (pv 4))))), ?_⟩
    refine ⟨by simp [sizeLine_eq], fun p0 hp0 => ?_⟩
    have s0 := same_upd (o := .lst []) hp0
    have e0 : (upd H p0 (.lst [])) p0 = some (.lst []) := upd_same
    generalize upd H p0 (.lst []) = H0 at s0 e0 ⊢
    have hS0 := s0 _ _ hS
    refine ⟨_, rfl, S, rfl, ⟨_, SqL.of hS0⟩, for_list (K := K) (a := S) (xs := ts.map V.ref) (fun i σ H' => ∃ (p : Addr) (y5 y6 : Option V), σ = [some (.int (b : Nat)), some (.ref q), some (.int (d : Nat)), some (.ref S), some (.ref p), y5, y6] ∧ Same H0 H' ∧ H p = none ∧ H' p = some (.lst ((orderP b ws d (ps.take i)).map fun x => V.int (x : Nat))))
      ⟨p0, none, none, rfl, Same.refl _, hp0, e0⟩ (fun i σ H' _ ⟨_, _, _, _, sm, _⟩ => SqL.of (sm _ _ hS0)) ?_ ?_⟩
    · rintro i x σ H' hx ⟨p, y5, y6, rfl, sm, hp, eP⟩
      have hP' := hP.frame (H' := H') (fun t xs e => sm _ _ (s0 _ _ e))
      obtain ⟨t, r, rfl, hr2, ht⟩ := hP'.item hx
      obtain ⟨hrd, hd⟩ := ok r (List.mem_of_getElem? hr2)
      refine ⟨t, _, rfl, .inl (.inl ht), rfl, _, _, rfl, _, _, rfl, rfl, ?_⟩
      have hfew : (orderP b ws d (ps.take i)).length ≤ 1000 := by
        rw [orderP_len, List.length_take]
        omega
      refine ⟨_, rfl, _, rfl, _, rfl, _, rfl, _, rfl, _, rfl, b, r.2, d, 0, q, ws, rfl, hb, hb64, hrd, hd, (s0.trans sm).seq hL, hne, fun k2 hk2 H2 s2 => ?_⟩
      have eP2 := s2 _ _ eP
      refine ⟨p, orderP b ws d (ps.take i), r.1, frontOf ws 0 (rowsOf b r.2 d k2), rfl, eP2, hfew, fun H3 p3 s3 hp3 eP3 => ?_⟩
      refine ⟨p3, _, _, rfl, (sm.trans s2).trans s3, ((s0.trans sm).trans s2).free hp3, ?_⟩
      rw [List.take_add_one, hr2]
      show _ = some (HO.lst ((orderP b ws d (ps.take i ++ [r])).map fun x => V.int (x : Nat)))
      rw [orderP_snoc, sideT_eq hk2]
      exact eP3
    · rintro σ H' ⟨p, y5, y6, rfl, sm, hp, eP⟩
      rw [List.length_map, hP.len, List.take_length] at eP
      exact ⟨_, rfl, c _ p (s0.trans sm) hp eP⟩
end
/-! ### what fires, what is left -/
section
variable {P : Program} {w : World} {K : PySem.W.Frag} {mg : Str → Option Value} {base : Heap}
def spOrder (K : PySem.W.Frag) : Sp := fun vs H Q _ => ∃ (b t : Nat) (q l : Addr) (ws : List Bool) (kvs : List (Key × V)) (ms : List Tm), vs = [.int (b : Nat), .ref q, .ref l, .int (t : Nat)] ∧ 2 ≤ b ∧ b ≤ 64 ∧ SqL K H q (ws.map lvV) ∧ ws ≠ [] ∧ H l = some (.dK kvs) ∧ LiveK H kvs ms ∧ ms.length ≤ 1000 ∧ DuesOk ms ∧
  ∀ H' p, Same H H' → H p = none → H' p = some (.lst ((orderAt b ws t ms).map fun x => V.int (x : Nat))) → Q (.ref p) H'
theorem ok_order {f : Addr} {fd : FuncData} (F : Fun K "order_of_firing" "order_of_firing" s_order_of_firing f fd) (h1 : Has P w K mg base 4 "firing_order" ["base", "levels", "due", "settings"] [] (spFiringOrder K)) :
    FnOk P w K mg base CX0 5 f fd ["base", "levels", "live", "tick"] (spOrder K) := by
  obtain ⟨f_firing_order, fd_firing_order, ds_firing_order, G_firing_order, m_firing_order, k_firing_order, b_firing_order, v_firing_order⟩ := h1
  refine F.ok sc_order_of_firing (fun vs H Q E h => ?_) (fun cdv A outer s H vs Q E hr h => ?_)
  · obtain ⟨b, t, q, l, ws, kvs, ms, rfl, _⟩ := h
    rfl
  · obtain ⟨b, t, q, l, ws, kvs, ms, rfl, hb, hb64, hL, hne, hl, L, few, ok, c⟩ := h
    refine ⟨_, (pss_cons (ps_lock (ps_setLc (i := 4) (own := [("number", 5), ("due", 6), ("period", 7), ("since", 8)]) (g := _)  rfl sc_order_of_firing.nd rfl rfl (sw_true rfl rfl rfl (by decide +kernel)) (pi_items (pv 2)) (blkOk_by (own := [("number", 5), ("due", 6), ("period", 7), ("since", 8)]) (N := N_order_of_firing) (sc := defScope s_order_of_firing) (by decide +kernel)) (fun _ _ _ _ _ => (pg_tupK (K := K) (n := 2) rfl rfl (pgs_cons (pg_name (i := 5) sc_order_of_firing.nd rfl (.inl rfl)) (pgs_cons (pg_tupK (K := K) (n := 3) rfl rfl (pgs_cons (pg_name (i := 6) sc_order_of_firing.nd rfl (.inl rfl)) (pgs_cons (pg_name (i := 7) sc_order_of_firing.nd rfl (.inl rfl)) (pgs_cons (pg_name (i := 8) sc_order_of_firing.nd rfl (.inl rfl)) pgs_nil)))) pgs_nil)))) (fun _ _ _ _ _ => (pts_one (pt_cmpR op_eq (pv 6) (pv 3) (nomark _)))) (fun _ _ _ _ _ => (pe_tup (pa_cons (pv 5) (pa_cons (pv 8) pa_nil))))))
      (pss_one (ps_ret (pe_call G_firing_order hr (by rfl) m_firing_order k_firing_order b_firing_order v_firing_order pass0 (pa_cons (pv 0) (pa_cons (pv 1) (pa_cons (pv 3) (pa_cons (pv 4) pa_nil)))))))), ?_⟩
    refine ⟨l, _, hl, trivial, fun od => ?_⟩
    refine ⟨_, rfl, l, od, kvs, rfl, upd_same, fun D hD => lc_items (d := l) (o := od) (kvs := kvs) (fun i H' => Same (upd H l (.frz od (.dK kvs))) H' ∧ ∃ ts : List Addr, H' D = some (.lst (ts.map V.ref)) ∧ PrAt H' ts (setsOf t (ms.take i)))
      ⟨same_upd hD, [], upd_same, trivial⟩ (fun i H' ⟨sm, _⟩ => sm _ _ upd_same) ?_ ?_⟩
    · rintro i k v U H' hx ⟨sm, ts, eD, hP⟩ hU
      have L' := L.upd (o' := .frz od (.dK kvs)) hl (fun xs z => by cases z)
      obtain ⟨m, tt, hm, rfl, rfl, ht⟩ := L'.get hx
      have sU := same_upd (o := .tup [.int (m.num : Nat), .ref tt]) hU
      have ht' := sU _ _ (sm _ _ ht)
      have eD' := sU _ _ eD
      have hP' := hP.frame (H' := upd H' U (.tup [.int (m.num : Nat), .ref tt])) (fun t xs e => sU _ _ e)
      have hstep : setsOf t (ms.take (i + 1)) = setsOf t (ms.take i) ++ if m.due = t then [(m.num, m.since)] else [] := by
        rw [List.take_add_one, hm]
        show setsOf t (ms.take i ++ [m]) = _
        unfold setsOf
        rw [List.filter_append, List.map_append]
        by_cases e : m.due = t
        · rw [if_pos e, List.filter_cons_of_pos (by simpa using e)]
          rfl
        · rw [if_neg e, List.filter_cons_of_neg (by simpa using e)]
          rfl
      have hts : ts.length ≤ 1000 := by
        rw [hP.len]
        unfold setsOf
        rw [List.length_map]
        have z := List.length_filter_le (fun m : Tm => decide (m.due = t)) (ms.take i)
        rw [List.length_take] at z
        omega
      refine ⟨U, _, rfl, .inl (.inl upd_same), rfl, _, _, rfl, _, _, rfl, tt, _, rfl, .inl (.inl ht'), rfl, _, _, rfl, _, _, rfl, _, _, rfl, rfl, rfl, rfl, ?_⟩
      have sm1 := sm.trans sU
      by_cases e : m.due = t
      · refine ⟨_, rfl, _, rfl, rfl, true, dT (vE e), iteT ⟨_, rfl, _, rfl, by simp [sizeLine_eq], fun t3 ht3 => ?_⟩⟩
        have s3 := same_upd (o := .tup [.int (m.num : Nat), .int (m.since : Nat)]) ht3
        have eD3 := s3 _ _ eD'
        have n3 : t3 ≠ D := fun z => by
          rw [z] at ht3
          exact absurd (eD'.symm.trans ht3) (by intro y; cases y)
        refine ⟨_, eD3, ?_, fun c o e' => ?_, ts ++ [t3], ?_, ?_⟩
        · rw [List.length_map]
          exact sizeLine_ge (by omega)
        · rw [upd_ne (ne_of_none e' hD)]
          exact s3 _ _ (sm1 _ _ e')
        · rw [upd_same, List.map_append]
          rfl
        · rw [hstep, if_pos e]
          refine PrAt.app (r := (m.num, m.since)) (hP'.frame fun t' xs e' => ?_) ?_
          · rw [upd_ne (ne_of (s3 _ _ e') eD3 (by intro z; cases z))]
            exact s3 _ _ e'
          · rw [upd_ne n3]
            exact upd_same
      · refine ⟨_, rfl, _, rfl, rfl, false, dF (vN e), iteF ⟨sm1, ts, eD', ?_⟩⟩
        rw [hstep, if_neg e, List.append_nil]
        exact hP'
    · rintro H1 ⟨sm, ts, eD, hP⟩
      rw [L.len, List.take_length] at hP
      have nDl : D ≠ l := fun e => by
        rw [e, upd_same] at hD
        cases hD
      have s2 := unlock hl sm
      have hDn : H D = none := by
        rw [upd_ne nDl] at hD
        exact hD
      refine ⟨sm _ _ upd_same, ?_⟩
      have hP2 := hP.frame (H' := upd H1 l (.dK kvs)) (fun t' xs e' => by
        rw [upd_ne (ne_of e' (sm _ _ upd_same) (by intro z; cases z))]
        exact e')
      have eD2 : (upd H1 l (.dK kvs)) D = some (.lst (ts.map V.ref)) := by
        rw [upd_ne nDl]
        exact eD
      generalize upd H1 l (.dK kvs) = H2 at s2 hP2 eD2 ⊢
      refine ⟨_, rfl, _, rfl, _, rfl, _, rfl, b, t, q, D, ws, ts, setsOf t ms, rfl, hb, hb64, s2.seq hL, hne, eD2, hP2, ?_, ?_, fun H3 p s3 hp eP => ?_⟩
      · unfold setsOf
        rw [List.length_map]
        exact Nat.le_trans (List.length_filter_le _ _) few
      · intro r hr
        obtain ⟨m, hm, rfl⟩ := List.mem_map.mp hr
        have z := List.mem_filter.mp hm
        have e : m.due = t := by simpa using z.2
        rw [← e]
        exact ok m z.1
      · rw [← order_P] at eP
        exact c H3 p (s2.trans s3) (s2.free hp) eP
end
section
variable {P : Program} {w : World} {K : PySem.W.Frag} {mg : Str → Option Value} {base : Heap}
def spAfter : Sp := fun vs H Q _ => ∃ (l a : Addr) (t : Nat) (ns : List Nat) (kvs : List (Key × V)) (ms : List Tm), vs = [.ref l, .ref a, .int (t : Nat)] ∧ H l = some (.dK kvs) ∧ LiveK H kvs ms ∧ ms.length ≤ 1000 ∧ (ms.map (·.num)).Nodup ∧ H a = some (.lst (ns.map fun x => V.int (x : Nat))) ∧ Firing t ms ns ∧
  ∀ H' p kvs', Same H H' → H p = none → H' p = some (.dK kvs') → LiveK H' kvs' (afterF t ms ns) → Q (.ref p) H'
theorem ok_after {f : Addr} {fd : FuncData} (F : Fun K "after_firing" "after_firing" s_after_firing f fd) (T : Tx K mg) : FnOk P w K mg base CX0 1 f fd ["live", "numbers", "tick"] spAfter := by
  refine F.ok sc_after_firing (fun vs H Q E h => ?_) (fun cdv A outer s H vs Q E hr h => ?_)
  · obtain ⟨l, a, t, ns, kvs, ms, rfl, _⟩ := h
    rfl
  · obtain ⟨l, a, t, ns, kvs, ms, rfl, hl, L, few, nd, ha, fr, c⟩ := h
    have hu := hu_of hr
    refine ⟨_, (pss_cons (ps_set (i := 3) sc_after_firing.nd rfl (.inl rfl) (pe_callTy call_dictD (by rfl) T.b_dict (by decide +kernel) (pa_cons (pv 0) pa_nil)))
      (pss_cons (ps_for PassesOwn.never rfl (pi_list (pv 1)) (pg_name (i := 4) sc_after_firing.nd rfl (.inl rfl))
        (pss_cons (ps_asg (pe_dpop1 (pv 3) (pv 4) ⟨by rfl, by rfl, by rfl, by rfl⟩) (pg_tupK (K := K) (n := 3) rfl rfl (pgs_cons (pg_name (i := 5) sc_after_firing.nd rfl (.inl rfl)) (pgs_cons (pg_name (i := 6) sc_after_firing.nd rfl (.inl rfl)) (pgs_cons (pg_name (i := 7) sc_after_firing.nd rfl (.inl rfl)) pgs_nil)))))
        (pss_one (ps_if (pt_cmpR op_notN (pv 6) pe_non (nomark _))
          (pss_one (ps_dput hu (pv 3) (pv 4) (pe_tup (pa_cons (pe_op op_add (pv 2) (pv 6)) (pa_cons (pv 6) (pa_cons (pv 2) pa_nil)))) rfl))
          pss_nil))))
      (pss_one (ps_ret (pv 3))))), ?_⟩
    refine ⟨_, rfl, l, kvs, rfl, .inl hl, fun p hp => ?_⟩
    have s0 := same_upd (o := .dK kvs) hp
    have npa : p ≠ a := fun e => by
      rw [e, ha] at hp
      cases hp
    refine ⟨_, rfl, a, rfl, ⟨_, SqL.of (s0 _ _ ha)⟩, for_list (K := K) (a := a) (xs := ns.map fun x => V.int (x : Nat)) (fun i σ H' => ∃ (y4 y5 y6 y7 : Option V) (kvs' : List (Key × V)), σ = [some (.ref l), some (.ref a), some (.int (t : Nat)), some (.ref p), y4, y5, y6, y7] ∧ Same H H' ∧ H' p = some (.dK kvs') ∧ LiveK H' kvs' (afterF t ms (ns.take i)) ∧ ((afterF t ms (ns.take i)).map (·.num)).Nodup ∧ (afterF t ms (ns.take i)).length ≤ 1000 ∧ ∀ (x : Nat), (∃ j, i ≤ j ∧ ns[j]? = some x) → ∃ m ∈ afterF t ms (ns.take i), m.num = x)
      ⟨none, none, none, none, kvs, rfl, s0, upd_same, L.same s0, nd, few, fun x ⟨j, _, hj⟩ => fr.mem x (List.mem_of_getElem? hj)⟩ (fun i σ H' _ ⟨_, _, _, _, _, _, sm, _⟩ => SqL.of (sm _ _ ha)) ?_ ?_⟩
    · rintro i x σ H' hx ⟨y4, y5, y6, y7, kvs', rfl, sm, eP, L', nd', few', hin⟩
      rw [List.getElem?_map] at hx
      obtain ⟨n, hn, rfl⟩ : ∃ n, ns[i]? = some n ∧ x = V.int (n : Nat) := by
        cases e : ns[i]? with
        | none =>
          rw [e] at hx
          cases hx
        | some n =>
          rw [e] at hx
          exact ⟨n, rfl, (Option.some.inj hx).symm⟩
      obtain ⟨m, hm, en⟩ := hin n ⟨i, Nat.le_refl i, hn⟩
      have hfind := find_of nd' hm
      rw [en] at hfind
      obtain ⟨tt, hv, ht⟩ := L'.val_of nd' hm
      rw [en] at hv
      have estep : afterF t ms (ns.take (i + 1)) = fireT t (afterF t ms (ns.take i)) n := by
        unfold afterF
        rw [List.take_add_one, hn, List.foldl_append]
        rfl
      generalize hms : afterF t ms (ns.take i) = ms1 at L' nd' few' hin hm hfind estep
      have hnext : ∀ (x : Nat), (∃ j, i + 1 ≤ j ∧ ns[j]? = some x) → ∃ m ∈ fireT t ms1 n, m.num = x := fun x ⟨j, hj, ej⟩ => by
        refine fire_num (fun e => ?_) (hin x ⟨j, by omega, ej⟩)
        rw [e] at ej
        have hjl : j < ns.length := (List.getElem?_eq_some_iff.mp ej).1
        have := (List.getElem?_inj (i := i) (j := j) (List.getElem?_eq_some_iff.mp hn).1 fr.nd).mp (hn.trans ej.symm)
        omega
      refine ⟨_, rfl, p, rfl, .inl ⟨_, .inl eP⟩, _, rfl, kvs', Sum.inl (n : Int), _, eP, rfl, hv, ?_⟩
      have Ld := (L'.drop (n := n)).upd (o' := .dK (dropK kvs' (Sum.inl (n : Int)))) eP (fun xs z => by cases z)
      have ntp : tt ≠ p := ne_of ht eP (by intro z; cases z)
      have ht2 : (upd H' p (.dK (dropK kvs' (Sum.inl (n : Int))))) tt = some (.tup (tmV m)) := by
        rw [upd_ne ntp]
        exact ht
      have sd : Same H (upd H' p (.dK (dropK kvs' (Sum.inl (n : Int))))) := fun b o e => by
        rw [upd_ne (ne_of_none e hp)]
        exact sm _ _ e
      refine ⟨tt, _, rfl, .inl (.inl ht2), rfl, _, _, rfl, _, _, rfl, _, _, rfl, rfl, ?_⟩
      cases hper : m.per with
      | none =>
        have ef : fireT t ms1 n = dropT n ms1 := by rw [fire_some hfind, hper]
        refine ⟨perV none, rfl, rfl, false, ?_, iteF ?_⟩
        · rfl
        · refine ⟨_, _, _, _, _, rfl, sd, upd_same, ?_, ?_, ?_, ?_⟩
          · rw [estep, ef]
            exact Ld
          · rw [estep]
            exact fire_nodup nd'
          · rw [estep]
            exact Nat.le_trans fire_len few'
          · rw [estep]
            exact hnext
      | some k =>
        have ef : fireT t ms1 n = dropT n ms1 ++ [⟨n, t + k, some k, t⟩] := by rw [fire_some hfind, hper]
        refine ⟨perV (some k), rfl, rfl, true, ?_, iteT ?_⟩
        · rfl
        · have hvn := Ld.val_not (n := n) (fun m' hm' => drop_not m' hm')
          have hlen : (dropK kvs' (Sum.inl (n : Int))).length < sizeLine := by
            have z := dropK_le kvs' (Sum.inl (n : Int) : Key)
            rw [L'.len] at z
            exact sizeLine_ge (by omega)
          refine ⟨_, rfl, .int (k : Nat), rfl, _, _, rfl, rfl, .int (k : Nat), rfl, _, rfl, by simp [sizeLine_eq], fun u hu0 => ?_⟩
          have su := same_upd (o := .tup [.int ((t : Int) + (k : Int)), .int (k : Nat), .int (t : Nat)]) hu0
          have nup : p ≠ u := fun e => by
            rw [← e, upd_same] at hu0
            cases hu0
          refine ⟨_, rfl, _, rfl, p, _, rfl, DPut.k (k := Sum.inl (n : Int)) (su _ _ upd_same) hlen, ?_⟩
          rw [putK_new _ hvn]
          refine ⟨_, _, _, _, _, rfl, fun b o e => ?_, upd_same, ?_, ?_, ?_, ?_⟩
          · rw [upd_ne (ne_of_none e hp)]
            exact su _ _ (sd _ _ e)
          · rw [estep, ef]
            refine LiveK.upd (su _ _ upd_same) (fun xs z => by cases z) ?_
            exact (Ld.same su).snoc (m := ⟨n, t + k, some k, t⟩) rfl upd_same
          · rw [estep]
            exact fire_nodup nd'
          · rw [estep]
            exact Nat.le_trans fire_len few'
          · rw [estep]
            exact hnext
    · rintro σ H' ⟨y4, y5, y6, y7, kvs', rfl, sm, eP, L', _⟩
      rw [List.length_map, List.take_length] at L'
      exact ⟨_, rfl, c H' p kvs' sm hp eP L'⟩
end
/-! ### a wheel in the heap -/
def wfl (b : Nat) (q : Addr) (t f : Nat) (l : Addr) : List (Str × V) := [("base", .int (b : Nat)), ("words", .ref q), ("tick", .int (t : Nat)), ("following", .int (f : Nat)), ("live", .ref l)]
theorem ne_bw : ¬ (("base" : Str) = "words") := by decide +kernel
theorem ne_bt : ¬ (("base" : Str) = "tick") := by decide +kernel
theorem ne_bf : ¬ (("base" : Str) = "following") := by decide +kernel
theorem ne_bl : ¬ (("base" : Str) = "live") := by decide +kernel
theorem ne_wt : ¬ (("words" : Str) = "tick") := by decide +kernel
theorem ne_wf : ¬ (("words" : Str) = "following") := by decide +kernel
theorem ne_wl : ¬ (("words" : Str) = "live") := by decide +kernel
theorem ne_tf : ¬ (("tick" : Str) = "following") := by decide +kernel
theorem ne_tl : ¬ (("tick" : Str) = "live") := by decide +kernel
theorem ne_fl : ¬ (("following" : Str) = "live") := by decide +kernel
theorem lk_hit {k : Str} {v : V} {r : List (Str × V)} : List.lookup k ((k, v) :: r) = some v := by simp [List.lookup]
theorem lk_miss {k g : Str} {v : V} {r : List (Str × V)} (h : ¬ g = k) : List.lookup k ((g, v) :: r) = List.lookup k r := by
  have e : (k == g) = false := by simpa using fun z : k = g => h z.symm
  rw [List.lookup, e]
theorem pt_hit {k : Str} {v x : V} {r : List (Str × V)} : putF k v ((k, x) :: r) = (k, v) :: r := if_pos rfl
theorem pt_miss {k g : Str} {v x : V} {r : List (Str × V)} (h : ¬ g = k) : putF k v ((g, x) :: r) = (g, x) :: putF k v r := if_neg h
theorem pt_nil {k : Str} {v : V} : putF k v [] = [(k, v)] := rfl
section
variable {b : Nat} {q : Addr} {t f : Nat} {l : Addr}
theorem wf_b : (wfl b q t f l).lookup ("base" : Str) = some (.int (b : Nat)) := lk_hit
theorem wf_w : (wfl b q t f l).lookup ("words" : Str) = some (.ref q) := (lk_miss ne_bw).trans lk_hit
theorem wf_t : (wfl b q t f l).lookup ("tick" : Str) = some (.int (t : Nat)) := (lk_miss ne_bt).trans ((lk_miss ne_wt).trans lk_hit)
theorem wf_f : (wfl b q t f l).lookup ("following" : Str) = some (.int (f : Nat)) := (lk_miss ne_bf).trans ((lk_miss ne_wf).trans ((lk_miss ne_tf).trans lk_hit))
theorem wf_l : (wfl b q t f l).lookup ("live" : Str) = some (.ref l) := (lk_miss ne_bl).trans ((lk_miss ne_wl).trans ((lk_miss ne_tl).trans ((lk_miss ne_fl).trans lk_hit)))
theorem wf_no {m : Str} (h1 : ¬ ("base" : Str) = m) (h2 : ¬ ("words" : Str) = m) (h3 : ¬ ("tick" : Str) = m) (h4 : ¬ ("following" : Str) = m) (h5 : ¬ ("live" : Str) = m) : (wfl b q t f l).lookup m = none :=
  (lk_miss h1).trans ((lk_miss h2).trans ((lk_miss h3).trans ((lk_miss h4).trans ((lk_miss h5).trans rfl))))
theorem wf_pt {t' : Nat} : putF "tick" (.int (t' : Nat)) (wfl b q t f l) = wfl b q t' f l := by
  unfold wfl
  rw [pt_miss ne_bt, pt_miss ne_wt, pt_hit]
theorem wf_pf {f' : Nat} : putF "following" (.int (f' : Nat)) (wfl b q t f l) = wfl b q t f' l := by
  unfold wfl
  rw [pt_miss ne_bf, pt_miss ne_wf, pt_miss ne_tf, pt_hit]
theorem wf_pl {l' : Addr} : putF "live" (.ref l') (wfl b q t f l) = wfl b q t f l' := by
  unfold wfl
  rw [pt_miss ne_bl, pt_miss ne_wl, pt_miss ne_tl, pt_miss ne_fl, pt_hit]
end
structure WheelAt (C : Addr) (H : Hp) (p q l : Addr) (W : WS) : Prop where
  ins : ∃ dx, H p = some (.ins C dx (wfl W.b q W.tick W.fol l))
  words : H q = some (.lst (W.ws.map lvV))
  live : ∃ kvs, H l = some (.dK kvs) ∧ LiveK H kvs W.live
/-- all but the wheel (its object p, its dict l) stands as it was; its dict is the old one or a new one -/
structure Wk (p l : Addr) (H H' : Hp) (l' : Addr) : Prop where
  keep : ∀ c o, c ≠ p → c ≠ l → H c = some o → H' c = some o
  new : l' = l ∨ H l' = none
theorem WheelAt.same {C : Addr} {H H' : Hp} {p q l : Addr} {W : WS} (s : Same H H') (w : WheelAt C H p q l W) : WheelAt C H' p q l W := by
  obtain ⟨dx, h⟩ := w.ins
  obtain ⟨kvs, h2, L⟩ := w.live
  exact ⟨⟨dx, s _ _ h⟩, s _ _ w.words, ⟨kvs, s _ _ h2, L.same s⟩⟩
theorem WheelAt.frame {C : Addr} {H H' : Hp} {p q l a : Addr} {W : WS} {xs : List V} (w : WheelAt C H p q l W) (ha : H a = some (.lst xs)) (hq : a ≠ q) (s : ∀ c o, c ≠ a → H c = some o → H' c = some o) : WheelAt C H' p q l W := by
  obtain ⟨dx, h⟩ := w.ins
  obtain ⟨kvs, h2, L⟩ := w.live
  refine ⟨⟨dx, s _ _ (ne_of h ha (by intro z; cases z)) h⟩, s _ _ (Ne.symm hq) w.words, ⟨kvs, s _ _ (ne_of h2 ha (by intro z; cases z)) h2, L.frame fun t m e => s _ _ (ne_of e ha (by intro z; cases z)) e⟩⟩
structure TxW (K : PySem.W.Frag) (mg : Str → Option Value) (C : Addr) : Prop where
  cl : Cls K C
  nB : NoAttr K C "base"
  nW : NoAttr K C "words"
  nT : NoAttr K C "tick"
  nF : NoAttr K C "following"
  nL : NoAttr K C "live"
  mgC : mg "Wheel" = some (.ref C)
section
variable {P : Program} {w : World} {K : PySem.W.Frag} {mg : Str → Option Value} {base : Heap}
/-- a method that keeps its promise -/
def HasM (P : Program) (w : World) (K : PySem.W.Frag) (mg : Str → Option Value) (base : Heap) (k : Nat) (C : Addr) (m : Str) (ps : List Str) (dvs : List V) (sp : Sp) : Prop :=
  ∃ (f : Addr) (fd : FuncData) (ds : List Value), FnOk P w K mg base CX0 k f fd ps sp ∧ Meth K C m f ∧ Binds K fd ps ds ∧ Vals dvs ds
end
/-! ### a period, of an integer -/
section
variable {P : Program} {w : World} {K : PySem.W.Frag} {mg : Str → Option Value} {base : Heap}
def spIsPeriod : Sp := fun vs H Q _ => ∃ n : Int, vs = [.int n] ∧ 1 ≤ n ∧ Q (.bl true) H
theorem ok_is_period {f : Addr} {fd : FuncData} (F : Fun K "is_period" "is_period" s_is_period f fd) (h1 : Has P w K mg base 1 "is_integer" ["given"] [] spIsInt) : FnOk P w K mg base CX0 2 f fd ["given"] spIsPeriod := by
  obtain ⟨f_is_integer, fd_is_integer, ds_is_integer, G_is_integer, m_is_integer, k_is_integer, b_is_integer, v_is_integer⟩ := h1
  refine F.ok sc_is_period (fun vs H Q E h => ?_) (fun cdv A outer s H vs Q E hr h => ?_)
  · obtain ⟨n, rfl, _⟩ := h
    rfl
  · obtain ⟨n, rfl, l1, q⟩ := h
    refine ⟨_, (pss_one (ps_ret (pe_and (pe_call G_is_integer hr (by rfl) m_is_integer k_is_integer b_is_integer v_is_integer pass0 (pa_cons (pv 0) pa_nil)) (pe_one (pe_cmpR op_ge (pv 0) pe_int (nomark _)))))), ?_⟩
    refine ⟨.int n, rfl, n, rfl, true, rfl, iteT ?_⟩
    refine ⟨.int n, rfl, n, 1, rfl, rfl, ?_⟩
    have e : V.bl (decide (n ≥ 1)) = V.bl true := dT l1
    show Q (V.bl (decide (n ≥ 1))) H
    rw [e]
    exact q
end
section
variable {P : Program} {w : World} {K : PySem.W.Frag} {mg : Str → Option Value} {base : Heap}
def trimN (ws : List Bool) : Nat → Nat
  | 0 => 0
  | n + 1 => if 1 ≤ n ∧ ws[n]? = ws[n - 1]? then trimN ws n else n + 1
def trimW (ws : List Bool) : List Bool := ws.take (trimN ws ws.length)
theorem trimN_le (ws : List Bool) : ∀ n, trimN ws n ≤ n
  | 0 => Nat.le_refl _
  | n + 1 => by
    unfold trimN
    split
    · exact Nat.le_succ_of_le (trimN_le ws n)
    · exact Nat.le_refl _
theorem trimN_pos (ws : List Bool) : ∀ n, 1 ≤ n → 1 ≤ trimN ws n
  | 0, h => h
  | n + 1, _ => by
    unfold trimN
    split
    · rename_i h
      exact trimN_pos ws n h.1
    · omega
theorem trim_ne {ws : List Bool} (h : ws ≠ []) : trimW ws ≠ [] := by
  have hp : 0 < ws.length := List.length_pos_iff.mpr h
  have z := trimN_pos ws ws.length hp
  intro e
  have e2 := congrArg List.length e
  unfold trimW at e2
  rw [List.length_take] at e2
  have e3 : ([] : List Bool).length = 0 := rfl
  omega
theorem trim_len (ws : List Bool) : (trimW ws).length ≤ ws.length := by
  unfold trimW
  rw [List.length_take]
  omega
def spRepeats (K : PySem.W.Frag) : Sp := fun vs H Q _ => ∃ (q : Addr) (ws : List Bool), vs = [.ref q] ∧ SqL K H q (ws.map lvV) ∧ ws ≠ [] ∧ ws.length ≤ 60 ∧ ∀ H' p, Same H H' → H p = none → H' p = some (.lst ((trimW ws).map lvV)) → Q (.ref p) H'
theorem lv_inj {a b : Bool} : lvV a = lvV b ↔ a = b := by
  cases a <;> cases b <;> decide
theorem ok_repeats {f : Addr} {fd : FuncData} (F : Fun K "without_repeats" "without_repeats" s_without_repeats f fd) (T : Tx K mg) : FnOk P w K mg base CX0 1 f fd ["levels"] (spRepeats K) := by
  refine F.ok sc_without_repeats (fun vs H Q E h => ?_) (fun cdv A outer s H vs Q E hr h => ?_)
  · obtain ⟨q, ws, rfl, _⟩ := h
    rfl
  · obtain ⟨q, ws, rfl, hL, hne, h60, c⟩ := h
    refine ⟨_, (pss_cons (ps_set (i := 1) sc_without_repeats.nd rfl (.inl rfl) (pe_callB (lenK (K := K) rfl) (by rfl) T.b_len PySem.boot_len (pa_cons (pv 0) pa_nil)))
      (pss_cons (ps_while PassesOwn.never (PW.pt (pw_and (pt_cmpR op_gt (pv 1) pe_int (nomark _)) (pw_and1 (pt_cmpR op_eq (pe_ix (ix_listK (K := K) rfl) (pv 0) (pe_op op_subN (pv 1) pe_int) (fun _ _ => rfl)) (pe_ix (ix_listK (K := K) rfl) (pv 0) (pe_op op_subN (pv 1) pe_int) (fun _ _ => rfl)) (nomark _)))))
        (pss_one (ps_aug (i := 1) sc_without_repeats.nd rfl (.inl rfl) pe_int ip_sub)))
      (pss_one (ps_ret (pe_slice (sl_listK (K := K) rfl) (pv 0) po_none (po_some (pv 1))))))), ?_⟩
    refine ⟨.ref q, rfl, q, _, rfl, .inl hL, ?_⟩
    refine while_by (fun σ H' => ∃ n : Nat, σ = [some (.ref q), some (.int (n : Nat))] ∧ H' = H ∧ 1 ≤ n ∧ n ≤ ws.length ∧ trimN ws ws.length = trimN ws n) (fun σ _ => slotInt σ 1) ⟨ws.length, by rw [List.length_map]; rfl, rfl, List.length_pos_iff.mpr hne, Nat.le_refl _, rfl⟩ ?_ ?_
    · rintro σ H' ⟨n, rfl, rfl, h1, hn, et⟩
      have fin : n = trimN ws n → tRet (tSl (rSlL K) (tVar 0) tNoPart (tPart (tVar 1))) { nx := fun _ H' => Q .non H', rt := Q } [some (.ref q), some (.int (n : Nat))] H' := fun e => by
        refine ⟨_, rfl, _, rfl, _, rfl, q, _, rfl, hL, fun p hp => ?_⟩
        refine c _ p (same_upd hp) hp ?_
        rw [upd_same]
        have ec : cutV (ws.map lvV) none (some ((n : Nat) : Int)) = (trimW ws).map lvV := by
          unfold trimW cutV
          rw [HT.sIx_none, HT.sIx_nat, List.drop_zero, Nat.sub_zero, List.length_map, Nat.min_eq_left hn, List.map_take, et, ← e]
        rw [ec]
      obtain ⟨n, rfl⟩ : ∃ n', n = n' + 1 := ⟨n - 1, by omega⟩
      by_cases h2 : 1 < n + 1
      · have g1 : (ws.map lvV)[n]? = some (lvV (ws[n]'(by omega))) := by
          rw [List.getElem?_map, List.getElem?_eq_getElem]
          rfl
        have g2 : (ws.map lvV)[n - 1]? = some (lvV (ws[n - 1]'(by omega))) := by
          rw [List.getElem?_map, List.getElem?_eq_getElem]
          rfl
        refine ⟨_, rfl, _, _, rfl, rfl, true, dT (by omega), iteT ?_⟩
        refine ⟨_, rfl, _, rfl, n + 1, 1, rfl, rfl, Nat.le_add_left 1 n, q, _, _, _, rfl, rfl, hL, atI_nat (j := n) g1, _, rfl, _, rfl, n + 1, 2, rfl, rfl, (by show 2 ≤ n + 1; omega), q, _, _, _, rfl, rfl, hL, atI_nat (j := n - 1) g2, ?_, ?_⟩
        · cases ws[n]'(by omega) <;> cases ws[n - 1]'(by omega) <;> rfl
        · by_cases e : ws[n]'(by omega) = ws[n - 1]'(by omega)
          · have et2 : trimN ws (n + 1) = trimN ws n := by
              rw [trimN, if_pos]
              refine ⟨by omega, ?_⟩
              rw [List.getElem?_eq_getElem (by omega : n < ws.length), List.getElem?_eq_getElem (by omega : n - 1 < ws.length), e]
            refine ⟨true, dT (lv_inj.mpr e), iteT ⟨_, rfl, _, _, rfl, rfl, ⟨n, ?_, rfl, by omega, by omega, by rw [et, et2]⟩, ?_⟩⟩
            · show [some (V.ref q), some (V.int (((n + 1 : Nat) : Int) - 1))] = _
              rw [show ((n + 1 : Nat) : Int) - 1 = (n : Int) by omega]
            · show (((n + 1 : Nat) : Int) - 1).toNat < (((n + 1 : Nat) : Int)).toNat
              omega
          · refine ⟨false, dF (fun z => e (lv_inj.mp z)), iteF ?_⟩
            refine fin ?_
            rw [trimN, if_neg]
            rintro ⟨_, z⟩
            rw [List.getElem?_eq_getElem (by omega : n < ws.length), List.getElem?_eq_getElem (by omega : n - 1 < ws.length)] at z
            exact e (Option.some.inj z)
      · refine ⟨_, rfl, _, _, rfl, rfl, false, dF (by omega), iteF (iteF ?_)⟩
        refine fin ?_
        rw [trimN, if_neg]
        rintro ⟨z, _⟩
        omega
    · rintro σ H' Q1 Q2 h ⟨x, hx, i, j, e1, e2, k, e, z⟩
      refine ⟨x, hx, i, j, e1, e2, k, e, ?_⟩
      cases k with
      | false => exact iteF (h _ _ (by rw [if_neg Bool.false_ne_true] at z; exact z))
      | true =>
        rw [if_pos rfl] at z
        refine iteT ?_
        obtain ⟨x1, hx1, x2, hx2, a1, b1, e3, e4, c1, p1, i1, j1, v1, e5, e6, hs1, g1, y1, hy1, y2, hy2, a2, b2, e7, e8, c2, p2, i2, j2, v2, e9, e10, hs2, g2, hsc, k', ek, zz⟩ := z
        exact ⟨x1, hx1, x2, hx2, a1, b1, e3, e4, c1, p1, i1, j1, v1, e5, e6, hs1, g1, y1, hy1, y2, hy2, a2, b2, e7, e8, c2, p2, i2, j2, v2, e9, e10, hs2, g2, hsc, k', ek, h _ _ zz⟩
def spCheckPeriod : Sp := fun vs H Q _ => ∃ o : Option Nat, vs = [perV o] ∧ (∀ k, o = some k → 1 ≤ k) ∧ Q .non H
theorem ok_check_period {f : Addr} {fd : FuncData} (F : Fun K "check_period" "check_period" s_check_period f fd) (h1 : Has P w K mg base 2 "is_period" ["given"] [] spIsPeriod) : FnOk P w K mg base CX0 3 f fd ["period"] spCheckPeriod := by
  obtain ⟨f_is_period, fd_is_period, ds_is_period, G_is_period, m_is_period, k_is_period, b_is_period, v_is_period⟩ := h1
  refine F.ok sc_check_period (fun vs H Q E h => ?_) (fun cdv A outer s H vs Q E hr h => ?_)
  · obtain ⟨o, rfl, _⟩ := h
    rfl
  · obtain ⟨o, rfl, hp, q⟩ := h
    refine ⟨_, (pss_one (ps_if (PW.pt (pw_and (pt_cmpR op_notN (pv 0) pe_non (nomark _)) (pw_and1 (pt_not (pt_val (pe_call G_is_period hr (by rfl) m_is_period k_is_period b_is_period v_is_period pass0 (pa_cons (pv 0) pa_nil)))))))
        (pss_one ps_never)
        pss_nil)), ?_⟩
    cases o with
    | none => exact ⟨_, rfl, rfl, false, rfl, iteF (iteF q)⟩
    | some k =>
      have hk := hp k rfl
      refine ⟨_, rfl, rfl, true, rfl, iteT ?_⟩
      exact ⟨.int (k : Nat), rfl, (k : Nat), rfl, by omega, true, rfl, iteF q⟩
def spInit (C : Addr) (K : PySem.W.Frag) : Sp := fun vs H Q _ => ∃ (p dx q0 : Addr) (b t : Nat) (ws : List Bool), vs = [.ref p, .int (b : Nat), .ref q0, .int (t : Nat)] ∧ H p = some (.ins C dx []) ∧ SqL K H q0 (ws.map lvV) ∧ 2 ≤ b ∧ b ≤ 64 ∧ ws ≠ [] ∧ ws.length ≤ 60 ∧
  ∀ H' q l, (∀ c o, c ≠ p → H c = some o → H' c = some o) → H q = none → H l = none → WheelAt C H' p q l ⟨b, trimW ws, t, 0, []⟩ → Q .non H'
theorem ok_init {f C : Addr} {fd : FuncData} (F : FunD K "__init__" "Wheel.__init__" (defArgs s_Wheel___init__) (defBody s_Wheel___init__) (defScope s_Wheel___init__) [] [("start", .int 0)] f fd) (TW : TxW K mg C) (h1 : Has P w K mg base 3 "check_base" ["base"] [] spCheckBase)
    (h2 : Has P w K mg base 3 "check_tick" ["tick", "least"] [.int 0] spCheckTick) (h4 : Has P w K mg base 4 "check_levels" ["levels"] [] (spCheckLevels K)) (h5 : Has P w K mg base 1 "without_repeats" ["levels"] [] (spRepeats K)) :
    FnOk P w K mg base CX0 5 f fd ["self", "base", "levels", "start"] (spInit C K) := by
  obtain ⟨f_check_base, fd_check_base, ds_check_base, G_check_base, m_check_base, k_check_base, b_check_base, v_check_base⟩ := h1
  obtain ⟨f_check_tick1, fd_check_tick1, ds_check_tick1, G_check_tick1, m_check_tick1, k_check_tick1, b_check_tick1, v_check_tick1⟩ := h2
  obtain ⟨f_check_levels, fd_check_levels, ds_check_levels, G_check_levels, m_check_levels, k_check_levels, b_check_levels, v_check_levels⟩ := h4
  obtain ⟨f_without_repeats, fd_without_repeats, ds_without_repeats, G_without_repeats, m_without_repeats, k_without_repeats, b_without_repeats, v_without_repeats⟩ := h5
  refine F.ok sc_Wheel___init__ (fun vs H Q E h => ?_) (fun cdv A outer s H vs Q E hr h => ?_)
  · obtain ⟨p, dx, q0, b, t, ws, rfl, _⟩ := h
    rfl
  · obtain ⟨p, dx, q0, b, t, ws, rfl, hp, hL, hb, hb64, hne, h60, c⟩ := h
    refine ⟨_, PSs.nox (pss_cons (ps_expr (pe_call G_check_base (hr.mono (by decide)) (by rfl) m_check_base k_check_base b_check_base v_check_base pass0 (pa_cons (pv 1) pa_nil)))
      (pss_cons (ps_expr (pe_call G_check_levels hr (by rfl) m_check_levels k_check_levels b_check_levels v_check_levels pass0 (pa_cons (pv 2) pa_nil)))
      (pss_cons (ps_expr (pe_call G_check_tick1 (hr.mono (by decide)) (by rfl) m_check_tick1 k_check_tick1 b_check_tick1 v_check_tick1 pass0 (pa_cons (pv 3) pa_nil)))
      (pss_cons (ps_fld (pv 0) (pv 1) rfl)
      (pss_cons (ps_fld (pv 0) (pe_call G_without_repeats (hr.mono (by decide)) (by rfl) m_without_repeats k_without_repeats b_without_repeats v_without_repeats pass0 (pa_cons (pv 2) pa_nil)) rfl)
      (pss_cons (ps_fld (pv 0) (pv 3) rfl)
      (pss_cons (ps_fld (pv 0) pe_int rfl)
      (pss_one (ps_fld (pv 0) pe_dnewK rfl))))))))), ?_⟩
    refine ⟨_, rfl, b, rfl, by omega, by omega, ?_⟩
    refine ⟨_, rfl, q0, ws, rfl, hL, hne, h60, fun H1 s1 => ?_⟩
    refine ⟨_, rfl, t, 0, rfl, by omega, ?_⟩
    have hp1 := s1 _ _ hp
    refine ⟨_, rfl, _, rfl, p, C, dx, [], rfl, hp1, TW.cl, TW.nB, by simp, ?_⟩
    have k2 : ∀ c o, c ≠ p → H c = some o → (upd H1 p (.ins C dx (putF "base" (.int (b : Nat)) []))) c = some o := fun c o n e => by
      rw [upd_ne n]
      exact s1 _ _ e
    have hL2 : SqL K (upd H1 p (.ins C dx (putF "base" (.int (b : Nat)) []))) q0 (ws.map lvV) := by
      rcases s1.seq hL with (e | ⟨o, e⟩) | e
      · exact .inl (.inl (by rw [upd_ne (ne_of e hp1 (by intro z; cases z))]; exact e))
      · exact .inl (.inr ⟨o, by rw [upd_ne (ne_of e hp1 (by intro z; cases z))]; exact e⟩)
      · exact .inr e
    refine ⟨_, rfl, q0, ws, rfl, hL2, hne, h60, fun H3 q s3 hq0 hq3 => ?_⟩
    have hp3 := s3 _ _ (upd_same (H := H1) (a := p))
    have nqp : q ≠ p := fun e => by
      rw [e, upd_same] at hq0
      cases hq0
    have k3 : ∀ c o, c ≠ p → H c = some o → H3 c = some o := fun c o n e => s3 _ _ (k2 c o n e)
    have hqn : H q = none := by
      cases e : H q with
      | none => rfl
      | some o =>
        rw [k2 q o nqp e] at hq0
        cases hq0
    refine ⟨_, rfl, p, C, dx, _, rfl, hp3, TW.cl, TW.nW, by rw [pt_nil]; simp, ?_⟩
    refine ⟨_, rfl, _, rfl, p, C, dx, _, rfl, upd_same, TW.cl, TW.nT, by rw [pt_nil, pt_miss ne_bw, pt_nil]; simp, ?_⟩
    refine ⟨_, rfl, p, C, dx, _, rfl, upd_same, TW.cl, TW.nF, by rw [pt_nil, pt_miss ne_bw, pt_nil, pt_miss ne_bt, pt_miss ne_wt, pt_nil]; simp, ?_⟩
    refine fun l hl => ⟨_, rfl, p, C, dx, putF "following" (.int 0) (putF "tick" (.int (t : Nat)) (putF "words" (.ref q) (putF "base" (.int (b : Nat)) []))), rfl, ?_, TW.cl, TW.nL, by rw [pt_nil, pt_miss ne_bw, pt_nil, pt_miss ne_bt, pt_miss ne_wt, pt_nil, pt_miss ne_bf, pt_miss ne_wf, pt_miss ne_tf, pt_nil]; simp, ?_⟩
    · have nlp : p ≠ l := fun e => by
        rw [← e, upd_same] at hl
        cases hl
      rw [upd_ne nlp, upd_same]
    have nlp : l ≠ p := fun e => by
      rw [e, upd_same] at hl
      cases hl
    rw [upd_ne nlp, upd_ne nlp, upd_ne nlp] at hl
    have nlq : l ≠ q := fun e => by
      rw [e, hq3] at hl
      cases hl
    have hln : H l = none := by
      cases e : H l with
      | none => rfl
      | some o =>
        rw [k3 l o nlp e] at hl
        cases hl
    refine c _ q l (fun c o n e => ?_) hqn hln ⟨⟨dx, ?_⟩, ?_, ⟨[], ?_, trivial⟩⟩
    · rw [upd_ne n, upd_ne (fun z => by rw [z, hln] at e; cases e), upd_ne n, upd_ne n, upd_ne n]
      exact k3 c o n e
    · rw [upd_same, pt_nil, pt_miss ne_bw, pt_nil, pt_miss ne_bt, pt_miss ne_wt, pt_nil, pt_miss ne_bf, pt_miss ne_wf, pt_miss ne_tf, pt_nil, pt_miss ne_bl, pt_miss ne_wl, pt_miss ne_tl, pt_miss ne_fl, pt_nil]
      rfl
    · rw [upd_ne nqp, upd_ne (Ne.symm nlq), upd_ne nqp, upd_ne nqp, upd_ne nqp]
      exact hq3
    · rw [upd_ne nlp, upd_same]
end
section
variable {P : Program} {w : World} {K : PySem.W.Frag} {mg : Str → Option Value} {base : Heap}
theorem no_ct {b : Nat} {q : Addr} {t f : Nat} {l : Addr} : (wfl b q t f l).lookup ("check_timer" : Str) = none := wf_no (by decide +kernel) (by decide +kernel) (by decide +kernel) (by decide +kernel) (by decide +kernel)
def spCheckTimer (C : Addr) : Sp := fun vs H Q _ => ∃ (p q l : Addr) (W : WS) (n : Nat), vs = [.ref p, .int (n : Nat)] ∧ WheelAt C H p q l W ∧ (W.live.map (·.num)).Nodup ∧ (∃ m ∈ W.live, m.num = n) ∧ Q .non H
theorem ok_check_timer {f C : Addr} {fd : FuncData} (F : Fun K "check_timer" "Wheel.check_timer" s_Wheel_check_timer f fd) (TW : TxW K mg C) (h1 : Has P w K mg base 1 "is_integer" ["given"] [] spIsInt) : FnOk P w K mg base CX0 2 f fd ["self", "timer"] (spCheckTimer C) := by
  obtain ⟨f_is_integer, fd_is_integer, ds_is_integer, G_is_integer, m_is_integer, k_is_integer, b_is_integer, v_is_integer⟩ := h1
  refine F.ok sc_Wheel_check_timer (fun vs H Q E h => ?_) (fun cdv A outer s H vs Q E hr h => ?_)
  · obtain ⟨p, q, l, W, n, rfl, _⟩ := h
    rfl
  · obtain ⟨p, q, l, W, n, rfl, hw, nd, ⟨m, hm, en⟩, c⟩ := h
    have hu := hu_of hr
    obtain ⟨dx, hp⟩ := hw.ins
    obtain ⟨kvs, hl, L⟩ := hw.live
    obtain ⟨tt, hv, ht⟩ := L.val_of nd hm
    rw [en] at hv
    refine ⟨_, (pss_one (ps_if (PW.pt (pw_or (pt_not (pt_val (pe_call G_is_integer hr (by rfl) m_is_integer k_is_integer b_is_integer v_is_integer pass0 (pa_cons (pv 1) pa_nil)))) (pw_or1 (pt_cmp (pc_dnotin hu (pv 1) (pe_fld (pv 0) rfl))))))
        (pss_one ps_never)
        pss_nil)), ?_⟩
    refine ⟨_, rfl, (n : Nat), rfl, true, rfl, iteF ?_⟩
    refine ⟨_, rfl, _, rfl, p, C, dx, _, _, rfl, hp, TW.cl, TW.nL, wf_l, l, some (.ref tt), rfl, ?_, false, rfl, iteF c⟩
    rw [← hv]
    exact DGet.k (k := Sum.inl (n : Int)) hl
def spNow (C : Addr) : Sp := fun vs H Q _ => ∃ (p q l : Addr) (W : WS), vs = [.ref p] ∧ WheelAt C H p q l W ∧ Q (.int (W.tick : Nat)) H
theorem ok_now {f C : Addr} {fd : FuncData} (F : Fun K "now" "Wheel.now" s_Wheel_now f fd) (TW : TxW K mg C) : FnOk P w K mg base CX0 1 f fd ["self"] (spNow C) := by
  refine F.ok sc_Wheel_now (fun vs H Q E h => ?_) (fun cdv A outer s H vs Q E hr h => ?_)
  · obtain ⟨p, q, l, W, rfl, _⟩ := h
    rfl
  · obtain ⟨p, q, l, W, rfl, hw, c⟩ := h
    obtain ⟨dx, hp⟩ := hw.ins
    refine ⟨_, (pss_one (ps_ret (pe_fld (pv 0) rfl))), ?_⟩
    exact ⟨_, rfl, p, C, dx, _, _, rfl, hp, TW.cl, TW.nT, wf_t, c⟩
def spPut (C : Addr) : Sp := fun vs H Q _ => ∃ (p q l : Addr) (W : WS) (d : Nat) (o : Option Nat), vs = [.ref p, .int (d : Nat), perV o] ∧ WheelAt C H p q l W ∧ WOk W ∧ W.live.length < 1000 ∧ W.tick < d ∧ (∀ k, o = some k → 1 ≤ k) ∧
  ∀ H', Wk p l H H' l → WheelAt C H' p q l { W with fol := W.fol + 1, live := W.live ++ [⟨W.fol, d, o, W.tick⟩] } → Q (.int (W.fol : Nat)) H'
theorem ok_put {f C : Addr} {fd : FuncData} (F : FunD K "put" "Wheel.put" (defArgs s_Wheel_put) (defBody s_Wheel_put) (defScope s_Wheel_put) [] [("period", .non)] f fd) (TW : TxW K mg C) (h1 : Has P w K mg base 3 "check_tick" ["tick", "least"] [] spCheckTick)
    (h2 : Has P w K mg base 3 "check_period" ["period"] [] spCheckPeriod) : FnOk P w K mg base CX0 4 f fd ["self", "due", "period"] (spPut C) := by
  obtain ⟨f_check_tick, fd_check_tick, ds_check_tick, G_check_tick, m_check_tick, k_check_tick, b_check_tick, v_check_tick⟩ := h1
  obtain ⟨f_check_period, fd_check_period, ds_check_period, G_check_period, m_check_period, k_check_period, b_check_period, v_check_period⟩ := h2
  refine F.ok sc_Wheel_put (fun vs H Q E h => ?_) (fun cdv A outer s H vs Q E hr h => ?_)
  · obtain ⟨p, q, l, W, d, o, rfl, _⟩ := h
    rfl
  · obtain ⟨p, q, l, W, d, o, rfl, hw, ok, few, htd, hper, c⟩ := h
    have hu := hu_of hr
    obtain ⟨dx, hp⟩ := hw.ins
    obtain ⟨kvs, hl, L⟩ := hw.live
    refine ⟨_, PSs.nox (pss_cons (ps_expr (pe_call G_check_tick hr (by rfl) m_check_tick k_check_tick b_check_tick v_check_tick pass0 (pa_cons (pv 1) (pa_cons (pe_op op_add (pe_fld (pv 0) rfl) pe_int) pa_nil))))
      (pss_cons (ps_expr (pe_call G_check_period hr (by rfl) m_check_period k_check_period b_check_period v_check_period pass0 (pa_cons (pv 2) pa_nil)))
      (pss_cons (ps_set (i := 3) sc_Wheel_put.nd rfl (.inl rfl) (pe_fld (pv 0) rfl))
      (pss_cons (ps_fldaug (pv 0) pe_int in_add)
      (pss_cons (ps_dput hu (pe_fld (pv 0) rfl) (pv 3) (pe_tup (pa_cons (pv 1) (pa_cons (pv 2) (pa_cons (pe_fld (pv 0) rfl) pa_nil)))) rfl)
      (pss_one (ps_ret (pv 3)))))))), ?_⟩
    refine ⟨_, rfl, _, rfl, p, C, dx, _, _, rfl, hp, TW.cl, TW.nT, wf_t, _, 1, rfl, rfl, (d : Nat), _, rfl, by omega, ?_⟩
    refine ⟨_, rfl, o, rfl, hper, ?_⟩
    refine ⟨_, rfl, p, C, dx, _, _, rfl, hp, TW.cl, TW.nF, wf_f, ?_⟩
    refine ⟨_, rfl, p, C, dx, _, _, rfl, hp, TW.cl, TW.nF, wf_f, (W.fol : Nat), 1, rfl, rfl, dx, _, hp, by simp [wfl], ?_⟩
    have e1 : putF "following" (.int ((W.fol : Int) + 1)) (wfl W.b q W.tick W.fol l) = wfl W.b q W.tick (W.fol + 1) l := wf_pf (f' := W.fol + 1)
    have npl : l ≠ p := ne_of hl hp (by intro z; cases z)
    have hp2 : (upd H p (.ins C dx (putF "following" (.int ((W.fol : Int) + 1)) (wfl W.b q W.tick W.fol l)))) p = some (.ins C dx (wfl W.b q W.tick (W.fol + 1) l)) := by rw [upd_same, e1]
    refine ⟨_, rfl, _, rfl, _, rfl, p, C, dx, _, _, rfl, hp2, TW.cl, TW.nT, wf_t, by simp [sizeLine_eq], fun u hu0 => ?_⟩
    have nup : u ≠ p := fun e => by
      rw [e, upd_same] at hu0
      cases hu0
    rw [upd_ne nup] at hu0
    have nul : u ≠ l := fun e => by
      rw [e, hl] at hu0
      cases hu0
    generalize hH2 : upd (upd H p (.ins C dx (putF "following" (.int ((W.fol : Int) + 1)) (wfl W.b q W.tick W.fol l)))) u (.tup [.int (d : Nat), perV o, .int (W.tick : Nat)]) = H2
    have a1 : H2 p = some (.ins C dx (wfl W.b q W.tick (W.fol + 1) l)) := by rw [← hH2, upd_ne (Ne.symm nup)]; exact hp2
    have a2 : H2 u = some (.tup (tmV ⟨W.fol, d, o, W.tick⟩)) := by rw [← hH2, upd_same]; rfl
    have a3 : ∀ c o, c ≠ p → H c = some o → H2 c = some o := fun c o n e => by
      rw [← hH2, upd_ne (ne_of_none e hu0), upd_ne n]
      exact e
    have a4 := a3 _ _ npl hl
    have L2' : LiveK H2 kvs W.live := L.frame fun t m e => a3 _ _ (ne_of e hp (by intro z; cases z)) e
    have hvn := L2'.val_not (n := W.fol) fun m hm => Nat.ne_of_lt (ok.tms m hm).num
    refine ⟨_, rfl, p, C, dx, _, _, rfl, a1, TW.cl, TW.nL, wf_l, _, rfl, l, _, rfl, DPut.k (k := Sum.inl (W.fol : Int)) a4 (by rw [L.len]; exact sizeLine_ge (by omega)), ?_⟩
    rw [putK_new _ hvn]
    refine ⟨_, rfl, c _ ⟨fun c o n1 n2 e => ?_, .inl rfl⟩ ⟨⟨dx, ?_⟩, ?_, ⟨_, upd_same, ?_⟩⟩⟩
    · rw [upd_ne n2]
      exact a3 c o n1 e
    · rw [upd_ne (Ne.symm npl)]
      exact a1
    · rw [upd_ne (ne_of hw.words hl (by intro z; cases z))]
      exact a3 _ _ (ne_of hw.words hp (by intro z; cases z)) hw.words
    · exact LiveK.upd a4 (fun xs z => by cases z) (L2'.snoc (m := ⟨W.fol, d, o, W.tick⟩) rfl a2)
end
section
variable {P : Program} {w : World} {K : PySem.W.Frag} {mg : Str → Option Value} {base : Heap}
def spTimers (C : Addr) : Sp := fun vs H Q _ => ∃ (p q l : Addr) (W : WS), vs = [.ref p] ∧ WheelAt C H p q l W ∧ W.live.length ≤ 1000 ∧
  ∀ H' r (ns : List Nat), Same H H' → H r = none → H' r = some (.lst (ns.map fun x => V.int (x : Nat))) → ns.Perm (W.live.map (·.num)) → ns.Pairwise (· ≤ ·) → Q (.ref r) H'
theorem nats_of : ∀ {ys : List Int} {ns : List Nat}, (∀ y ∈ ys, 0 ≤ y) → (ys.map Int.toNat).map (fun n : Nat => (n : Int)) = ys
  | [], _, _ => rfl
  | y :: ys, _, h => by
    rw [List.map_cons, List.map_cons, nats_of (ns := []) fun z hz => h z (List.mem_cons_of_mem _ hz), Int.toNat_of_nonneg (h y (List.mem_cons_self ..))]
theorem ok_timers {f C : Addr} {fd : FuncData} (F : Fun K "timers" "Wheel.timers" s_Wheel_timers f fd) (T : Tx K mg) (TW : TxW K mg C) : FnOk P w K mg base CX0 1 f fd ["self"] (spTimers C) := by
  refine F.ok sc_Wheel_timers (fun vs H Q E h => ?_) (fun cdv A outer s H vs Q E hr h => ?_)
  · obtain ⟨p, q, l, W, rfl, _⟩ := h
    rfl
  · obtain ⟨p, q, l, W, rfl, hw, h64, c⟩ := h
    obtain ⟨dx, hp⟩ := hw.ins
    obtain ⟨kvs, hl, L⟩ := hw.live
    refine ⟨_, (pss_one (ps_ret (pe_callB (call_sortedDIb rfl) (by rfl) T.b_sorted (by decide +kernel) (pa_cons (pe_fld (pv 0) rfl) pa_nil)))), ?_⟩
    refine ⟨_, rfl, p, C, dx, _, _, rfl, hp, TW.cl, TW.nL, wf_l, l, kvs, W.live.map fun m => (m.num : Int), rfl, .inl hl, ?_, by rw [List.length_map]; omega, fun ys r hperm hsort hr0 => ?_⟩
    · rw [L.keys, List.map_map]
      rfl
    · have hnn : ∀ y ∈ ys, 0 ≤ y := fun y hy => by
        obtain ⟨m, _, e⟩ := List.mem_map.mp (hperm.mem_iff.mp hy)
        rw [← e]
        omega
      have e := nats_of (ns := []) hnn
      refine c _ r (ys.map Int.toNat) (same_upd hr0) hr0 ?_ ?_ ?_
      · rw [upd_same]
        have e2 : (ys.map Int.toNat).map (fun x : Nat => V.int (x : Nat)) = ys.map V.int := by
          have z := congrArg (List.map V.int) e
          rw [List.map_map] at z
          exact z
        rw [e2]
      · have z := hperm.map Int.toNat
        rw [List.map_map] at z
        have e3 : (W.live.map (Int.toNat ∘ fun m => (m.num : Int))) = W.live.map (·.num) := List.map_congr_left fun m _ => Int.toNat_natCast m.num
        rw [e3] at z
        exact z
      · rw [List.pairwise_map]
        exact hsort.imp fun h => Int.toNat_le_toNat h
end
/-! ### what fired, in the heap -/
/-- the list of what fired: tuples of the tick and a list of numbers -/
def FiredAt (r : Addr) (H : Hp) : List Addr → List (Nat × List Nat) → Prop
  | [], [] => True
  | t :: ts, f :: fs => (∃ u, H t = some (.tup [.int (f.1 : Nat), .ref u]) ∧ u ≠ r ∧ H u = some (.lst (f.2.map fun x => V.int (x : Nat)))) ∧ FiredAt r H ts fs
  | _, _ => False
theorem FiredAt.frame {r : Addr} {H H' : Hp} (s : ∀ t a u, H t = some (.tup [a, .ref u]) → H' t = some (.tup [a, .ref u])) (s2 : ∀ u (xs : List Nat), u ≠ r → H u = some (.lst (xs.map fun x => V.int (x : Nat))) → H' u = some (.lst (xs.map fun x => V.int (x : Nat)))) : ∀ {ts : List Addr} {fs : List (Nat × List Nat)}, FiredAt r H ts fs → FiredAt r H' ts fs
  | [], [], _ => trivial
  | _ :: _, _ :: _, ⟨⟨u, h1, hn, h2⟩, h3⟩ => ⟨⟨u, s _ _ _ h1, hn, s2 _ _ hn h2⟩, h3.frame s s2⟩
  | [], _ :: _, h => h.elim
  | _ :: _, [], h => h.elim
theorem FiredAt.same {r : Addr} {H H' : Hp} (s : Same H H') {ts : List Addr} {fs : List (Nat × List Nat)} (h : FiredAt r H ts fs) : FiredAt r H' ts fs := h.frame (fun _ _ _ e => s _ _ e) fun _ _ _ e => s _ _ e
theorem FiredAt.app {r : Addr} {H : Hp} {t : Addr} {f : Nat × List Nat} : ∀ {ts : List Addr} {fs : List (Nat × List Nat)}, FiredAt r H ts fs → (∃ u, H t = some (.tup [.int (f.1 : Nat), .ref u]) ∧ u ≠ r ∧ H u = some (.lst (f.2.map fun x => V.int (x : Nat)))) → FiredAt r H (ts ++ [t]) (fs ++ [f])
  | [], [], _, h => ⟨h, trivial⟩
  | _ :: _, _ :: _, h, h2 => ⟨h.1, h.2.app h2⟩
  | [], _ :: _, h, _ => h.elim
  | _ :: _, [], h, _ => h.elim
theorem FiredAt.len {r : Addr} {H : Hp} : ∀ {ts : List Addr} {fs : List (Nat × List Nat)}, FiredAt r H ts fs → ts.length = fs.length
  | [], [], _ => rfl
  | _ :: _, _ :: _, h => congrArg Nat.succ h.2.len
  | [], _ :: _, h => h.elim
  | _ :: _, [], h => h.elim
/-! ### advance -/
/-- the lists of what fired are new ones -/
def FrT (H0 H : Hp) (ts : List Addr) : Prop := ∀ t ∈ ts, ∃ a u, H t = some (.tup [a, .ref u]) ∧ H0 u = none
theorem FrT.frame {H0 H H' : Hp} {ts : List Addr} (h : FrT H0 H ts) (k : ∀ t xs, H t = some (.tup xs) → H' t = some (.tup xs)) : FrT H0 H' ts := fun t ht => by
  obtain ⟨a, u, h1, h2⟩ := h t ht
  exact ⟨a, u, k _ _ h1, h2⟩
theorem FrT.app {H0 H : Hp} {ts : List Addr} {t u : Addr} {a : V} (h : FrT H0 H ts) (e : H t = some (.tup [a, .ref u])) (hu : H0 u = none) : FrT H0 H (ts ++ [t]) := fun x hx => by
  rcases List.mem_append.mp hx with z | z
  · exact h x z
  · rw [List.mem_singleton.mp z]
    exact ⟨a, u, e, hu⟩
section
variable {P : Program} {w : World} {K : PySem.W.Frag} {mg : Str → Option Value} {base : Heap}
def spAdvance (C : Addr) : Sp := fun vs H Q _ => ∃ (p q l : Addr) (W : WS) (t : Nat) (fired : List (Nat × List Nat)) (ms' : List Tm), vs = [.ref p, .int (t : Nat)] ∧ WheelAt C H p q l W ∧ 2 ≤ W.b ∧ W.b ≤ 64 ∧ W.ws ≠ [] ∧ W.live.length ≤ 1000 ∧ W.tick ≤ t ∧ AdvTo W.b W.ws t W.live fired ms' ∧ total fired ≤ 2000 ∧
  ∀ H' r l' ts, Wk p l H H' l' → H r = none → H' r = some (.lst (ts.map V.ref)) → FiredAt r H' ts fired → FrT H H' ts → WheelAt C H' p q l' { W with tick := t, live := ms' } → Q (.ref r) H'
theorem fire_tick (t : Nat) (ms : List Tm) (ns : List Nat) : (afterF t ms ns).length ≤ ms.length := by
  unfold afterF
  induction ns generalizing ms with
  | nil => exact Nat.le_refl _
  | cons n ns ih => exact Nat.le_trans (ih (fireT t ms n)) fire_len
theorem ok_advance {f C : Addr} {fd : FuncData} (F : Fun K "advance" "Wheel.advance" s_Wheel_advance f fd) (T : Tx K mg) (TW : TxW K mg C) (hM : ∃ t, mg "MOST_FIRINGS" = some (.int 2000 t)) (h1 : Has P w K mg base 3 "check_tick" ["tick", "least"] [] spCheckTick)
    (h2 : Has P w K mg base 1 "least_due" ["live"] [] spLeast) (h3 : Has P w K mg base 5 "order_of_firing" ["base", "levels", "live", "tick"] [] (spOrder K)) (h4 : Has P w K mg base 1 "after_firing" ["live", "numbers", "tick"] [] spAfter) :
    FnOk P w K mg base CX0 6 f fd ["self", "tick"] (spAdvance C) := by
  obtain ⟨f_check_tick, fd_check_tick, ds_check_tick, G_check_tick, m_check_tick, k_check_tick, b_check_tick, v_check_tick⟩ := h1
  obtain ⟨f_least_due, fd_least_due, ds_least_due, G_least_due, m_least_due, k_least_due, b_least_due, v_least_due⟩ := h2
  obtain ⟨f_order_of_firing, fd_order_of_firing, ds_order_of_firing, G_order_of_firing, m_order_of_firing, k_order_of_firing, b_order_of_firing, v_order_of_firing⟩ := h3
  obtain ⟨f_after_firing, fd_after_firing, ds_after_firing, G_after_firing, m_after_firing, k_after_firing, b_after_firing, v_after_firing⟩ := h4
  obtain ⟨tM, g_MOST_FIRINGS⟩ := hM
  refine F.ok sc_Wheel_advance (fun vs H Q E h => ?_) (fun cdv A outer s H vs Q E hr h => ?_)
  · obtain ⟨p, q, l, W, t, fired, ms', rfl, _⟩ := h
    rfl
  · obtain ⟨p, q, l, W, t, fired, ms', rfl, hw, hb, hb64, hne, few, htt, adv, tot, c⟩ := h
    obtain ⟨dx, hp⟩ := hw.ins
    obtain ⟨kvs, hl, L⟩ := hw.live
    refine ⟨_, (pss_cons (ps_expr (pe_call G_check_tick (hr.mono (by decide)) (by rfl) m_check_tick k_check_tick b_check_tick v_check_tick pass0 (pa_cons (pv 1) (pa_cons (pe_fld (pv 0) rfl) pa_nil))))
      (pss_cons (ps_set (i := 2) sc_Wheel_advance.nd rfl (.inl rfl) (pe_lst pa_nil))
      (pss_cons (ps_set (i := 3) sc_Wheel_advance.nd rfl (.inl rfl) pe_int)
      (pss_cons (ps_set (i := 4) sc_Wheel_advance.nd rfl (.inl rfl) (pe_fld (pv 0) rfl))
      (pss_cons (ps_set (i := 5) sc_Wheel_advance.nd rfl (.inl rfl) (pe_call G_least_due (hr.mono (by decide)) (by rfl) m_least_due k_least_due b_least_due v_least_due pass0 (pa_cons (pv 4) pa_nil)))
      (pss_cons (ps_while PassesOwn.never (PW.pt (pw_and (pt_cmpR op_notN (pv 5) pe_non (nomark _)) (pw_and1 (pt_cmpR op_le (pv 5) (pv 1) (nomark _)))))
        (pss_cons (ps_set (i := 6) sc_Wheel_advance.nd rfl (.inl rfl) (pe_call G_order_of_firing hr (by rfl) m_order_of_firing k_order_of_firing b_order_of_firing v_order_of_firing pass0 (pa_cons (pe_fld (pv 0) rfl) (pa_cons (pe_fld (pv 0) rfl) (pa_cons (pv 4) (pa_cons (pv 5) pa_nil))))))
        (pss_cons (ps_aug (i := 3) sc_Wheel_advance.nd rfl (.inl rfl) (pe_callB (lenK (K := K) rfl) (by rfl) T.b_len PySem.boot_len (pa_cons (pv 6) pa_nil)) ip_add)
        (pss_cons (ps_if (pt_cmpR op_gt (pv 3) (pe_glob (v := .int 2000) rfl g_MOST_FIRINGS ⟨_, rfl⟩) (nomark _))
          (pss_one ps_never)
          pss_nil)
        (pss_cons (ps_expr (pe_bm PySem.F.plainAttrs_list PySem.F.slot_list_append PySem.F.type_list_append mt_append (pv 2) (pa_cons (pe_tup (pa_cons (pv 5) (pa_cons (pv 6) pa_nil))) pa_nil)))
        (pss_cons (ps_set (i := 4) sc_Wheel_advance.nd rfl (.inl rfl) (pe_call G_after_firing (hr.mono (by decide)) (by rfl) m_after_firing k_after_firing b_after_firing v_after_firing pass0 (pa_cons (pv 4) (pa_cons (pv 6) (pa_cons (pv 5) pa_nil)))))
        (pss_one (ps_set (i := 5) sc_Wheel_advance.nd rfl (.inl rfl) (pe_call G_least_due (hr.mono (by decide)) (by rfl) m_least_due k_least_due b_least_due v_least_due pass0 (pa_cons (pv 4) pa_nil))))))))))
      (pss_cons (ps_fld (pv 0) (pv 4) rfl)
      (pss_cons (ps_fld (pv 0) (pv 1) rfl)
      (pss_one (ps_ret (pv 2))))))))))), ?_⟩
    refine ⟨_, rfl, _, rfl, p, C, dx, _, _, rfl, hp, TW.cl, TW.nT, wf_t, (t : Nat), _, rfl, by omega, ?_⟩
    refine ⟨by simp [sizeLine_eq], fun r hr0 => ?_⟩
    have s1 := same_upd (o := .lst []) hr0
    refine ⟨_, rfl, p, C, dx, _, _, rfl, s1 _ _ hp, TW.cl, TW.nL, wf_l, ?_⟩
    refine ⟨_, rfl, l, kvs, W.live, rfl, s1 _ _ hl, L.same s1, few, fun H2 s2 => ?_⟩
    have s12 := s1.trans s2
    refine while_by (fun σ H' => ∃ (lc : Addr) (kvc : List (Key × V)) (ms : List Tm) (rest done : List (Nat × List Nat)) (ts : List Addr) (many : Nat) (y6 : Option V), σ = [some (.ref p), some (.int (t : Nat)), some (.ref r), some (.int (many : Nat)), some (.ref lc), some (perV (leastD ms)), y6] ∧ Same H H' ∧ H' lc = some (.dK kvc) ∧ LiveK H' kvc ms ∧ ms.length ≤ 1000 ∧ AdvTo W.b W.ws t ms rest ms' ∧ many + total rest ≤ 2000 ∧ ts.length ≤ many ∧ fired = done ++ rest ∧ H' r = some (.lst (ts.map V.ref)) ∧ (FiredAt r H' ts done ∧ FrT H H' ts) ∧ (lc = l ∨ H lc = none))
      (fun σ _ => 3000 - slotInt σ 3) ⟨l, kvs, W.live, fired, [], [], 0, none, rfl, s12, s12 _ _ hl, L.same s12, few, adv, by omega, Nat.le_refl _, rfl, s2 _ _ upd_same, ⟨trivial, fun t ht => by cases ht⟩, .inl rfl⟩ ?_ ?_
    · rintro σ H' ⟨lc, kvc, ms, rest, done, ts, many, y6, rfl, sm, elc, Lc, fewc, advc, totc, htsm, efd, er, ⟨FA, FR⟩, hlc⟩
      have hp' := sm _ _ hp
      have hw' := sm _ _ hw.words
      -- the end of it
      have fin : rest = [] → ms = ms' → tSeq (sFld K (tVar 0) (tVar 4) "live") (tSeq (sFld K (tVar 0) (tVar 1) "tick") (tRet (tVar 2))) { nx := fun _ H' => Q .non H', rt := Q } [some (.ref p), some (.int (t : Nat)), some (.ref r), some (.int (many : Nat)), some (.ref lc), some (perV (leastD ms)), y6] H' := by
        rintro rfl rfl
        rw [List.append_nil] at efd
        have npr : p ≠ r := fun e => by
          rw [e, hr0] at hp
          cases hp
        have npl : lc ≠ p := ne_of elc hp' (by intro z; cases z)
        have nqp : q ≠ p := ne_of hw' hp' (by intro z; cases z)
        refine ⟨_, rfl, _, rfl, p, C, dx, _, rfl, hp', TW.cl, TW.nL, by simp [wfl], ?_⟩
        rw [wf_pl]
        refine ⟨_, rfl, _, rfl, p, C, dx, _, rfl, upd_same, TW.cl, TW.nT, by simp [wfl], ?_⟩
        rw [wf_pt]
        have k' : ∀ c o, c ≠ p → H' c = some o → (upd (upd H' p (.ins C dx (wfl W.b q W.tick W.fol lc))) p (.ins C dx (wfl W.b q t W.fol lc))) c = some o := fun c o n e => by
          rw [upd_ne n, upd_ne n]
          exact e
        refine ⟨_, rfl, c _ r lc ts ⟨fun c o n1 n2 e => k' c o n1 (sm _ _ e), hlc⟩ hr0 (k' _ _ (Ne.symm npr) er) ?_ (FR.frame fun t xs e => k' _ _ (ne_of e hp' (by intro z; cases z)) e) ⟨⟨dx, upd_same⟩, k' _ _ nqp hw', ⟨kvc, k' _ _ npl elc, ?_⟩⟩⟩
        · rw [efd]
          exact FA.frame (fun t a u e => k' _ _ (ne_of e hp' (by intro z; cases z)) e) fun u xs _ e => k' _ _ (ne_of e hp' (by intro z; cases z)) e
        · exact Lc.frame fun t m e => k' _ _ (ne_of e hp' (by intro z; cases z)) e
      cases advc with
      | done hdone =>
        cases hle : leastD ms' with
        | none => exact ⟨_, rfl, rfl, false, rfl, iteF (iteF (by rw [← hle]; exact fin rfl rfl))⟩
        | some v =>
          obtain ⟨m, hm, em⟩ := List.mem_map.mp (least_some.mp hle).1
          have hmt := hdone m hm
          have hvt : ¬ ((v : Int) ≤ (t : Int)) := by omega
          refine ⟨_, rfl, rfl, true, rfl, iteT ⟨_, rfl, _, rfl, (v : Nat), (t : Nat), rfl, rfl, false, dF hvt, iteF ?_⟩⟩
          rw [show perV (some v) = perV (leastD ms') from by rw [hle]]
          exact fin rfl rfl
      | @step _ _ at_ rest' hle hat okm ndm fewm radv =>
        rw [hle]
        have hat' : ((at_ : Int) ≤ (t : Int)) := by omega
        have etot : total ((at_, orderAt W.b W.ws at_ ms) :: rest') = (orderAt W.b W.ws at_ ms).length + total rest' := by
          unfold total
          rw [List.map_cons, List.sum_cons]
        rw [etot] at totc
        have hpos := order_pos (b := W.b) (ws := W.ws) hle
        refine ⟨_, rfl, rfl, true, rfl, iteT ⟨_, rfl, _, rfl, (at_ : Nat), (t : Nat), rfl, rfl, true, dT hat', iteT ?_⟩⟩
        refine ⟨_, rfl, p, C, dx, _, _, rfl, hp', TW.cl, TW.nB, wf_b, _, rfl, p, C, dx, _, _, rfl, hp', TW.cl, TW.nW, wf_w, _, rfl, _, rfl, W.b, at_, q, lc, W.ws, kvc, ms, rfl, hb, hb64, SqL.of hw', hne, elc, Lc, fewc, okm, fun H3 pn s3 hpn0 epn => ?_⟩
        refine ⟨_, rfl, _, rfl, pn, _, rfl, .inl (SqL.of epn), (many : Nat), ((orderAt W.b W.ws at_ ms).length : Nat), rfl, congrArg (fun k : Nat => V.int (k : Nat)) (List.length_map ..), ?_⟩
        refine ⟨_, rfl, _, _, rfl, rfl, false, dF (by show ¬ ((2000 : Int) < (many : Int) + ((orderAt W.b W.ws at_ ms).length : Nat)); omega), iteF ?_⟩
        have er3 := s3 _ _ er
        have nrp : r ≠ pn := fun e => by
          rw [← e, er] at hpn0
          cases hpn0
        refine ⟨_, rfl, .inl ⟨rfl, _, .inl (.inl er3)⟩, _, rfl, _, rfl, by simp [sizeLine_eq], fun u hu0 => ?_⟩
        have su := same_upd (o := .tup [perV (some at_), .ref pn]) hu0
        have eru := su _ _ er3
        refine ⟨r, _, _, rfl, rfl, eru, by rw [List.length_map]; exact sizeLine_ge (by omega), ?_⟩
        generalize hH4 : upd (upd H3 u (.tup [perV (some at_), .ref pn])) r (.lst (ts.map V.ref ++ [.ref u])) = H4
        have k4 : ∀ c o, c ≠ r → H3 c = some o → H4 c = some o := fun c o n e => by
          rw [← hH4, upd_ne n]
          exact su _ _ e
        have nur : u ≠ r := fun e => by
          rw [e, er3] at hu0
          cases hu0
        have eu4 : H4 u = some (.tup [.int (at_ : Nat), .ref pn]) := by
          rw [← hH4, upd_ne nur]
          exact upd_same
        have er4 : H4 r = some (.lst ((ts ++ [u]).map V.ref)) := by
          rw [← hH4, upd_same, List.map_append]
          rfl
        have epn4 := k4 _ _ (Ne.symm nrp) epn
        have sm4 : Same H H4 := fun c o e => k4 c o (ne_of_none e hr0) (s3 _ _ (sm _ _ e))
        have nlr : lc ≠ r := ne_of elc er (by intro z; cases z)
        have elc4 := k4 _ _ nlr (s3 _ _ elc)
        have Lc4 : LiveK H4 kvc ms := Lc.frame fun t m e => k4 _ _ (ne_of e er (by intro z; cases z)) (s3 _ _ e)
        have FA4 : FiredAt r H4 ts done := by
          exact FA.frame (fun t a u e => k4 _ _ (ne_of e er (by intro z; cases z)) (s3 _ _ e)) fun u xs hn e => k4 _ _ hn (s3 _ _ e)
        have FR4 : FrT H H4 ts := FR.frame fun t xs e => k4 _ _ (ne_of e er (by intro z; cases z)) (s3 _ _ e)
        refine ⟨_, rfl, _, rfl, _, rfl, lc, pn, at_, orderAt W.b W.ws at_ ms, kvc, ms, rfl, elc4, Lc4, fewc, ndm, epn4, ⟨order_nodup ndm, fun n hn => by
          obtain ⟨m, h1, _, h3⟩ := order_mem.mp hn
          exact ⟨m, h1, h3⟩⟩, fun H5 lc5 kvc5 s5 hlc5 elc5 Lc5 => ?_⟩
        have few5 : (afterF at_ ms (orderAt W.b W.ws at_ ms)).length ≤ 1000 := Nat.le_trans (fire_tick _ _ _) fewc
        refine ⟨_, rfl, lc5, kvc5, _, rfl, elc5, Lc5, few5, fun H6 s6 => ?_⟩
        have s56 := s5.trans s6
        refine ⟨⟨lc5, kvc5, afterF at_ ms (orderAt W.b W.ws at_ ms), rest', done ++ [(at_, orderAt W.b W.ws at_ ms)], ts ++ [u], (many + (orderAt W.b W.ws at_ ms).length), _, rfl, sm4.trans s56, s6 _ _ elc5, Lc5.same s6, few5, radv, by omega, ?_, by rw [efd, List.append_assoc]; rfl, s56 _ _ er4, ⟨(FA4.app ⟨pn, eu4, Ne.symm nrp, epn4⟩).same s56, (FR4.app eu4 (sm.free hpn0)).frame fun t xs e => s56 _ _ e⟩, .inr (sm4.free hlc5)⟩, ?_⟩
        · rw [List.length_append, List.length_singleton]
          omega
        · show 3000 - (((many + (orderAt W.b W.ws at_ ms).length) : Int)).toNat < 3000 - ((many : Int)).toNat
          omega
    · rintro σ H' Q1 Q2 h ⟨x, hx, e1, k, e, z⟩
      refine ⟨x, hx, e1, k, e, ?_⟩
      cases k with
      | false => exact iteF (h _ _ (by rw [if_neg Bool.false_ne_true] at z; exact z))
      | true =>
        rw [if_pos rfl] at z
        refine iteT ?_
        obtain ⟨x1, hx1, x2, hx2, i, j, e2, e3, k', e4, zz⟩ := z
        exact ⟨x1, hx1, x2, hx2, i, j, e2, e3, k', e4, h _ _ zz⟩
end
/-! ### o.m(e, .., k = v, ..) -/
def tMethK (C : Addr) (m : Str) (sp : Sp) (n mk : Nat) (gV : List V → List V → List V) (E : XK) (ta : TE) (t tk : TA) : TE := fun σ H Q => ta σ H fun x H1 => ∃ (a dx : Addr) (fs : List (Str × V)), x = .ref a ∧ H1 a = some (.ins C dx fs) ∧ fs.lookup m = none ∧
  t σ H1 fun vs H2 => tk σ H2 fun zs H3 => vs.length + 1 = n ∧ zs.length = mk ∧ sp (gV (.ref a :: vs) zs) H3 Q E
section
variable {X : Cx} {CX : CXT} {k n : Nat} {C f : Addr} {fd : FuncData} {ps ks : List Str} {m : Str} {sp : Sp} {E : XK} {g : List Value → List Value → List Value} {gV : List V → List V → List V} {o e : Expr} {es : List Expr} {kws : List Keyword} {ta : TE} {t tk : TA} {apos pos : Pos}
theorem pe_methK {pl : Sem Bool} (he : PE X o ta) (c : Cls X.K C) (hm : Meth X.K C m f) (F : FnOk X.prog X.w X.K X.mg X.base CX k f fd ps sp) (hr : Room k X.A) (hb : KBn X.K fd ps n ks g gV) (hx : Passes CX X E) (ha : PA X (e :: es) t) (hkw : PK X kws tk)
    (hall : (backToKw pos (keywordEach kws X.env)).all (·.1.isSome) = true := by rfl) (hks : (backToKw pos (keywordEach kws X.env)).filterMap (·.1) = ks := by rfl)
    (hst : starEach (e :: es) X.env = (false, eval e X.env) :: starEach es X.env := by rfl)
    (hpl : ((backTo pos (starEach (e :: es) X.env)).any (·.1) || (backToKw pos (keywordEach kws X.env)).any (·.1.isNone)) = false := by rfl)
    (ht : eval (.Call (.Attribute o m apos) (e :: es) kws pos) X.env = (do
      let ov ← eval o X.env
      standAt apos.atName
      let (f, first) ← holding [ov] (getMethod ov m pl)
      callWith pos f first (backTo pos (starEach (e :: es) X.env)) (backToKw pos (keywordEach kws X.env))) := by rfl) :
    PE X (.Call (.Attribute o m apos) (e :: es) kws pos) (tMethK C m sp n ks.length gV E ta t tk) := by
  refine ⟨fun pins s σ H Q I h => ?_⟩
  refine PySem.W.methodCall_KW (pl := pl) (thn (he.run pins s σ H _ I h) fun u s1 ⟨x, H1, I1, rx, a, dx, fs, ex, ea, l, q⟩ => ?_) ht
  subst ex
  obtain rfl : u = Value.ref a := rx
  refine getmeth_ok I1 ea c hm l ?_
  refine PySem.W.callWith_KW (first := [.ref a]) (h₀ := X.base) I.ok.mod.kin hm.kp hall (thn (ha.run pos pins s1 σ H1 _ I1 q) fun us s2 ⟨vs, H2, I2, r, q2⟩ => ?_) hpl hst
  refine thn (hkw.run pos pins s2 σ H2 _ I2 q2) fun ws s3 ⟨zs, H3, I3, rz, l1, l2, q3⟩ => ⟨I3.kIn, ?_⟩
  rw [hks]
  exact run_fnN (us := .ref a :: us) (vs := .ref a :: vs) F hr hb hx I3 (.cons rfl r) rz (by rw [List.length_cons]; exact l1) l2 q3
end
/-! ### put, with its period told by name -/
section
variable {b : Nat} {q : Addr} {t f : Nat} {l : Addr}
theorem nm_put : (wfl b q t f l).lookup ("put" : Str) = none := wf_no (by decide +kernel) (by decide +kernel) (by decide +kernel) (by decide +kernel) (by decide +kernel)
theorem nm_timers : (wfl b q t f l).lookup ("timers" : Str) = none := wf_no (by decide +kernel) (by decide +kernel) (by decide +kernel) (by decide +kernel) (by decide +kernel)
theorem nm_cancel : (wfl b q t f l).lookup ("cancel" : Str) = none := wf_no (by decide +kernel) (by decide +kernel) (by decide +kernel) (by decide +kernel) (by decide +kernel)
theorem nm_reset : (wfl b q t f l).lookup ("reset" : Str) = none := wf_no (by decide +kernel) (by decide +kernel) (by decide +kernel) (by decide +kernel) (by decide +kernel)
theorem nm_now : (wfl b q t f l).lookup ("now" : Str) = none := wf_no (by decide +kernel) (by decide +kernel) (by decide +kernel) (by decide +kernel) (by decide +kernel)
theorem nm_lists : (wfl b q t f l).lookup ("lists" : Str) = none := wf_no (by decide +kernel) (by decide +kernel) (by decide +kernel) (by decide +kernel) (by decide +kernel)
theorem nm_lists_at : (wfl b q t f l).lookup ("lists_at" : Str) = none := wf_no (by decide +kernel) (by decide +kernel) (by decide +kernel) (by decide +kernel) (by decide +kernel)
theorem nm_advance : (wfl b q t f l).lookup ("advance" : Str) = none := wf_no (by decide +kernel) (by decide +kernel) (by decide +kernel) (by decide +kernel) (by decide +kernel)
theorem nm_next_event : (wfl b q t f l).lookup ("next_event" : Str) = none := wf_no (by decide +kernel) (by decide +kernel) (by decide +kernel) (by decide +kernel) (by decide +kernel)
theorem nm_next_firing : (wfl b q t f l).lookup ("next_firing" : Str) = none := wf_no (by decide +kernel) (by decide +kernel) (by decide +kernel) (by decide +kernel) (by decide +kernel)
end
section
variable {P : Program} {w : World} {K : PySem.W.Frag} {mg : Str → Option Value} {base : Heap}
def HasPut (P : Program) (w : World) (K : PySem.W.Frag) (mg : Str → Option Value) (base : Heap) (k : Nat) (C : Addr) : Prop :=
  ∃ (f : Addr) (fd : FuncData) (ds : List Value), FnOk P w K mg base CX0 k f fd ["self", "due", "period"] (spPut C) ∧ Meth K C "put" f ∧ L2.Binds K fd ["self", "due", "period"] ds ∧ Vals [.non] ds ∧ KBn K fd ["self", "due", "period"] 2 [Str.ofString "period"] (fun us ws => us ++ ws) (fun vs zs => vs ++ zs)
def HasInit (P : Program) (w : World) (K : PySem.W.Frag) (mg : Str → Option Value) (base : Heap) (k : Nat) (C : Addr) : Prop :=
  ∃ (fi : Addr) (fdi : FuncData), Mk K C fi ∧ FnOk P w K mg base CX0 k fi fdi ["self", "base", "levels", "start"] (spInit C K) ∧ KBn K fdi ["self", "base", "levels", "start"] 3 [Str.ofString "start"] (fun us ws => us ++ ws) (fun vs zs => vs ++ zs)
end
theorem okw_put {W : WS} (h : WOk W) (hl : W.live.length < 1000) {d : Nat} {o : Option Nat} (h1 : W.tick < d) (h2 : d < 2 ^ 250) (ho : ∀ k, o = some k → 1 ≤ k) : WOk { W with fol := W.fol + 1, live := W.live ++ [⟨W.fol, d, o, W.tick⟩] } := by
  refine ⟨h.b2, h.b64, h.ne, h.l60, fun m hm => ?_, ?_, ?_⟩
  · rcases List.mem_append.mp hm with z | z
    · have y := h.tms m z
      exact ⟨y.since, y.due, y.big, Nat.lt_succ_of_lt y.num, y.per⟩
    · rw [List.mem_singleton.mp z]
      exact ⟨Nat.le_refl _, h1, h2, Nat.lt_succ_self _, ho⟩
  · rw [List.map_append]
    refine L2.nd_snoc h.nd fun hm => ?_
    obtain ⟨m, hm, e⟩ := List.mem_map.mp hm
    have := (h.tms m hm).num
    have e' : m.num = W.fol := e
    omega
  · show (W.live ++ [_]).length ≤ 1000
    rw [List.length_append]
    show W.live.length + 1 ≤ 1000
    omega
/-- the rows that tell the lists: the rows in H, what they hold in H0 -/
def CRows (H0 H : Hp) : List Addr → List Cell → Prop
  | [], [] => True
  | t :: ts, c :: cs => (∃ a, H t = some (.tup [.int (c.1.1 : Nat), .int (c.1.2 : Nat), .ref a]) ∧ H0 a = some (.lst (c.2.map fun x => V.int (x : Nat)))) ∧ CRows H0 H ts cs
  | _, _ => False
theorem CRows.frame {H0 H0' H H' : Hp} (s0 : ∀ a xs, H0 a = some (.lst xs) → H0' a = some (.lst xs)) (s : ∀ t xs, H t = some (.tup xs) → H' t = some (.tup xs)) : ∀ {ts : List Addr} {cs : List Cell}, CRows H0 H ts cs → CRows H0' H' ts cs
  | [], [], _ => trivial
  | _ :: _, _ :: _, ⟨⟨a, h1, h2⟩, h3⟩ => ⟨⟨a, s _ _ h1, s0 _ _ h2⟩, h3.frame s0 s⟩
  | [], _ :: _, h => h.elim
  | _ :: _, [], h => h.elim
theorem CRows.snoc {H0 H : Hp} {t a : Addr} {c : Cell} (h1 : H t = some (.tup [.int (c.1.1 : Nat), .int (c.1.2 : Nat), .ref a])) (h2 : H0 a = some (.lst (c.2.map fun x => V.int (x : Nat)))) : ∀ {ts : List Addr} {cs : List Cell}, CRows H0 H ts cs → CRows H0 H (ts ++ [t]) (cs ++ [c])
  | [], [], _ => ⟨⟨a, h1, h2⟩, trivial⟩
  | _ :: _, _ :: _, h => ⟨h.1, h.2.snoc h1 h2⟩
  | [], _ :: _, h => h.elim
  | _ :: _, [], h => h.elim
/-- the lists that the rows hold are new ones -/
def FRows (Hb H : Hp) : List Addr → Prop
  | [] => True
  | t :: ts => (∃ (x y : V) (a : Addr), H t = some (.tup [x, y, .ref a]) ∧ Hb a = none) ∧ FRows Hb H ts
theorem FRows.frame {Hb H H' : Hp} (s : ∀ t xs, H t = some (.tup xs) → H' t = some (.tup xs)) : ∀ {ts : List Addr}, FRows Hb H ts → FRows Hb H' ts
  | [], _ => trivial
  | _ :: _, ⟨⟨x, y, a, h1, h2⟩, h3⟩ => ⟨⟨x, y, a, s _ _ h1, h2⟩, h3.frame s⟩
theorem FRows.snoc {Hb H : Hp} {t a : Addr} {x y : V} (h1 : H t = some (.tup [x, y, .ref a])) (h2 : Hb a = none) : ∀ {ts : List Addr}, FRows Hb H ts → FRows Hb H (ts ++ [t])
  | [], _ => ⟨⟨x, y, a, h1, h2⟩, trivial⟩
  | _ :: _, h => ⟨h.1, h.2.snoc h1 h2⟩
/-- the rows stand on where all but old things stay -/
theorem CRows.keepF {Hb H H' : Hp} (s0 : ∀ c o, Hb c = none → H c = some o → H' c = some o) (s : ∀ t xs, H t = some (.tup xs) → H' t = some (.tup xs)) : ∀ {ts : List Addr} {cs : List Cell}, CRows H H ts cs → FRows Hb H ts → CRows H' H' ts cs
  | [], [], _, _ => trivial
  | _ :: _, _ :: _, ⟨⟨a, h1, h2⟩, h3⟩, ⟨⟨x, y, a', h4, h5⟩, h6⟩ => by
    rw [h1] at h4
    have e := HO.tup.inj (Option.some.inj h4)
    have ea : a = a' := by
      injection e with _ e
      injection e with _ e
      injection e with e _
      exact V.ref.inj e
    subst ea
    exact ⟨⟨a, s _ _ h1, s0 _ _ h5 h2⟩, h3.keepF s0 s h6⟩
  | [], _ :: _, h, _ => h.elim
  | _ :: _, [], h, _ => h.elim
theorem mem_putK {κ : Type} [DecidableEq κ] {kvs : List (κ × V)} {k : κ} {v : V} {kv : κ × V} (h : kv ∈ putK kvs k v) : kv ∈ kvs ∨ kv.2 = v := by
  unfold putK at h
  split at h
  · obtain ⟨x, hx, e⟩ := List.mem_map.mp h
    by_cases c : x.1 = k
    · rw [if_pos c] at e
      exact .inr (by rw [← e])
    · rw [if_neg c] at e
      exact .inl (by rw [← e]; exact hx)
  · rcases List.mem_append.mp h with h | h
    · exact .inl h
    · rw [List.mem_singleton.mp h]
      exact .inr rfl
theorem valV_mem2 {κ : Type} [DecidableEq κ] {k : κ} {v : V} : ∀ {kvs : List (κ × V)}, valV kvs k = some v → ∃ kv ∈ kvs, kv.2 = v
  | [], h => by cases h
  | kv :: kvs, h => by
    by_cases c : kv.1 = k
    · rw [valV_pos c] at h
      exact ⟨kv, List.mem_cons_self .., Option.some.inj h⟩
    · rw [valV_neg c] at h
      obtain ⟨x, hx, e⟩ := valV_mem2 h
      exact ⟨x, List.mem_cons_of_mem _ hx, e⟩
/-- what tells the lists, and nothing else does -/
structure IsLists (b : Nat) (ws : List Bool) (t : Nat) (ms : List Tm) (cs : List Cell) : Prop where
  perm : (cs.map (·.1)).Perm ((standD b ws t ms).map (·.1))
  sorted : (cs.map fun c => ((c.1.1 : Int), (c.1.2 : Int))).Pairwise (fun a b => SrtO.lexB b a = false)
  val : ∀ c ∈ cs, c.2 = cellV (standD b ws t ms) c.1
section
variable {P : Program} {w : World} {K : PySem.W.Frag} {mg : Str → Option Value} {base : Heap}
def spStanding (K : PySem.W.Frag) : Sp := fun vs H Q _ => ∃ (b t : Nat) (q l : Addr) (ws : List Bool) (kvs : List (Key × V)) (ms : List Tm), vs = [.int (b : Nat), .ref q, .ref l, .int (t : Nat)] ∧ 2 ≤ b ∧ b ≤ 64 ∧ SqL K H q (ws.map lvV) ∧ ws ≠ [] ∧ H l = some (.dK kvs) ∧ LiveK H kvs ms ∧ ms.length ≤ 1000 ∧ DuesOk ms ∧
  ∀ H' p ts cs, Same H H' → H p = none → H' p = some (.lst (ts.map V.ref)) → CRows H' H' ts cs → FRows H H' ts → IsLists b ws t ms cs → Q (.ref p) H'
theorem ok_standing {f : Addr} {fd : FuncData} (F : Fun K "standing" "standing" s_standing f fd) (T : Tx K mg) (h0 : Has P w K mg base 1 "level_and_size" ["base", "now", "due"] [] spLevel) (h1 : Has P w K mg base 1 "with_timer" ["numbers", "number", "front"] [] spWithTimer)
    (h2 : Has P w K mg base 3 "goes_in_front" ["base", "levels", "now", "due", "lowest"] [] (spFront K)) : FnOk P w K mg base CX0 4 f fd ["base", "levels", "live", "tick"] (spStanding K) := by
  obtain ⟨f_level_and_size, fd_level_and_size, ds_level_and_size, G_level_and_size, m_level_and_size, k_level_and_size, b_level_and_size, v_level_and_size⟩ := h0
  obtain ⟨f_with_timer, fd_with_timer, ds_with_timer, G_with_timer, m_with_timer, k_with_timer, b_with_timer, v_with_timer⟩ := h1
  obtain ⟨f_goes_in_front, fd_goes_in_front, ds_goes_in_front, G_goes_in_front, m_goes_in_front, k_goes_in_front, b_goes_in_front, v_goes_in_front⟩ := h2
  refine F.ok sc_standing (fun vs H Q E h => ?_) (fun cdv A outer s H vs Q E hr h => ?_)
  · obtain ⟨b, t, q, l, ws, kvs, ms, rfl, _⟩ := h
    rfl
  · obtain ⟨b, t, q, l, ws, kvs, ms, rfl, hb, hb64, hL, hne, hl, L, few, ok, c⟩ := h
    have hu := hu_of hr
    have hb0 : 0 < b := by omega
    refine ⟨_, (pss_cons (ps_set (i := 4) sc_standing.nd rfl (.inr rfl) pe_dnewT)
      (pss_cons (ps_lock (ps_for PassesOwn.never rfl (pi_items (pv 2)) (pg_tupK (K := K) (n := 2) rfl rfl (pgs_cons (pg_name (i := 5) sc_standing.nd rfl (.inl rfl)) (pgs_cons (pg_tupK (K := K) (n := 3) rfl rfl (pgs_cons (pg_name (i := 6) sc_standing.nd rfl (.inl rfl)) (pgs_cons (pg_name (i := 7) sc_standing.nd rfl (.inl rfl)) (pgs_cons (pg_name (i := 8) sc_standing.nd rfl (.inl rfl)) pgs_nil)))) pgs_nil)))
        (pss_one (ps_if (pt_cmpR op_gt (pv 6) (pv 3) (nomark _))
          (pss_cons (ps_asg (pe_call G_level_and_size (hr.mono (by decide)) (by rfl) m_level_and_size k_level_and_size b_level_and_size v_level_and_size pass0 (pa_cons (pv 0) (pa_cons (pv 3) (pa_cons (pv 6) pa_nil)))) (pg_tupK (K := K) (n := 2) rfl rfl (pgs_cons (pg_name (i := 9) sc_standing.nd rfl (.inl rfl)) (pgs_cons (pg_name (i := 10) sc_standing.nd rfl (.inl rfl)) pgs_nil))))
          (pss_cons (ps_set (i := 11) sc_standing.nd rfl (.inl rfl) (pe_tup (pa_cons (pv 9) (pa_cons (pe_op op_remN (pe_op op_divN (pv 6) (pv 10)) (pv 0)) pa_nil))))
          (pss_cons (ps_set (i := 12) sc_standing.nd rfl (.inl rfl) (pe_call G_goes_in_front hr (by rfl) m_goes_in_front k_goes_in_front b_goes_in_front v_goes_in_front pass0 (pa_cons (pv 0) (pa_cons (pv 1) (pa_cons (pv 8) (pa_cons (pv 6) (pa_cons (pv 9) pa_nil)))))))
          (pss_one (ps_asg (pe_call G_with_timer (hr.mono (by decide)) (by rfl) m_with_timer k_with_timer b_with_timer v_with_timer pass0 (pa_cons (pe_dget2 hu (pv 4) (pv 11) (pe_lst pa_nil) ⟨by rfl, by rfl, by rfl, by rfl⟩) (pa_cons (pv 5) (pa_cons (pv 12) pa_nil)))) (pg_sub (pv 4) (pv 11) (set_dict hu)))))))
          pss_nil))))
      (pss_one (ps_ret (pe_lc (own := [("level", 9), ("digit", 13)]) (g := _) (tt := tYes) rfl sc_standing.nd (pi_list (pe_callB (call_sortedDT rfl) (by rfl) T.b_sorted (by decide +kernel) (pa_cons (pv 4) pa_nil))) (blkOk_by (own := [("level", 9), ("digit", 13)]) (N := N_standing) (sc := defScope s_standing) (by decide +kernel)) (fun _ _ _ _ _ => (pg_tupK (K := K) (n := 2) rfl rfl (pgs_cons (pg_name (i := 9) sc_standing.nd rfl (.inl rfl)) (pgs_cons (pg_name (i := 13) sc_standing.nd rfl (.inl rfl)) pgs_nil)))) (fun _ _ _ _ _ => pts_nil) (fun _ _ _ _ _ => (pe_tup (pa_cons (pv 9) (pa_cons (pv 13) (pa_cons (pe_dget hu (pv 4) (pe_tup (pa_cons (pv 9) (pa_cons (pv 13) pa_nil))) (fun _ _ => rfl)) pa_nil)))))))))), ?_⟩
    refine fun R hR0 => ?_
    have s0 := same_upd (o := .dT []) hR0
    have hl0 := s0 _ _ hl
    refine ⟨l, _, hl0, trivial, fun od => ?_⟩
    have nR : R ≠ l := fun e => by
      rw [e, hl] at hR0
      cases hR0
    refine ⟨_, rfl, l, od, kvs, rfl, upd_same, for_items (d := l) (o := od) (kvs := kvs) (fun i σ H' => ∃ (kvd : List (List Key × V)) (y5 y6 y7 y8 y9 y10 y11 y12 y13 : Option V), σ = [some (.int (b : Nat)), some (.ref q), some (.ref l), some (.int (t : Nat)), some (.ref R), y5, y6, y7, y8, y9, y10, y11, y12, y13] ∧ (∀ c o, c ≠ R → (upd (upd H R (.dT [])) l (.frz od (.dK kvs))) c = some o → H' c = some o) ∧ H' R = some (.dT kvd) ∧ CellsAt H' kvd (standD b ws t (ms.take i)) ∧ ∀ kv ∈ kvd, ∀ a, kv.2 = .ref a → H a = none)
      ⟨[], none, none, none, none, none, none, none, none, none, rfl, fun _ _ _ e => e, by rw [upd_ne nR, upd_same], trivial, fun kv h => by cases h⟩ (fun i σ H' ⟨_, _, _, _, _, _, _, _, _, _, _, kp, _, _, _⟩ => kp _ _ (Ne.symm nR) upd_same) ?_ ?_⟩
    · rintro i k v U σ H' hx ⟨kvd, y5, y6, y7, y8, y9, y10, y11, y12, y13, rfl, kp, eR, CA, fr⟩ hU
      have L' := (L.same s0).upd (o' := .frz od (.dK kvs)) hl0 (fun xs z => by cases z)
      obtain ⟨m, tt, hm, rfl, rfl, ht⟩ := L'.get hx
      have sU := same_upd (o := .tup [.int (m.num : Nat), .ref tt]) hU
      have ntR : tt ≠ R := fun e => by
        rw [e, upd_ne nR, upd_same] at ht
        cases ht
      have ht' := sU _ _ (kp _ _ ntR ht)
      have eRU := sU _ _ eR
      have CAU := CA.frame (H' := upd H' U (.tup [.int (m.num : Nat), .ref tt])) fun a xs e => sU _ _ e
      have okm := ok m (List.mem_of_getElem? hm)
      have hi : i < ms.length := (List.getElem?_eq_some_iff.mp hm).1
      obtain ⟨bd1, bd2, bd3⟩ := stand_bounds b ws t ms i (by omega)
      have hstep : standD b ws t (ms.take (i + 1)) = standStep b ws t (standD b ws t (ms.take i)) m := by
        rw [List.take_add_one, hm]
        exact stand_snoc b ws t _ m
      refine ⟨U, _, rfl, .inl (.inl upd_same), rfl, _, _, rfl, _, _, rfl, tt, _, rfl, .inl (.inl ht'), rfl, _, _, rfl, _, _, rfl, _, _, rfl, rfl, rfl, ?_⟩
      by_cases e : t < m.due
      · refine ⟨_, rfl, _, rfl, (m.due : Nat), (t : Nat), rfl, rfl, true, dT (Int.ofNat_lt.mpr e), iteT ?_⟩
        refine ⟨_, rfl, _, rfl, _, rfl, b, t, m.due, rfl, hb, hb64, e, okm.2, fun k hk H2 t0 s2 ht0 eT0 => ?_⟩
        refine ⟨t0, _, rfl, .inl (.inl eT0), rfl, _, _, rfl, _, _, rfl, rfl, ?_⟩
        have hsz : b ^ k < 2 ^ 250 := Nat.lt_of_le_of_lt (hk.size hb e) okm.2
        refine ⟨_, rfl, _, rfl, _, rfl, m.due, b ^ k, rfl, rfl, ndiv 250 (pow_pos' hb k) hsz, _, rfl, _, _, rfl, rfl, hb0, by simp [sizeLine_eq], fun pl hpl => ?_⟩
        have s3 := same_upd (o := .tup [.int (k : Nat), .int ((m.due / b ^ k % b : Nat) : Int)]) hpl
        have epl : (upd H2 pl (.tup [.int (k : Nat), .int ((m.due / b ^ k % b : Nat) : Int)])) pl = some (.tup ((keyC (placeT b t m.due)).map kV)) := by
          rw [upd_same]
          unfold placeT
          rw [levT_eq hk]
          rfl
        have s13 := (sU.trans s2).trans s3
        generalize upd H2 pl (.tup [.int (k : Nat), .int ((m.due / b ^ k % b : Nat) : Int)]) = H3 at s3 epl s13 ⊢
        have hq3 : SqL K H3 q (ws.map lvV) := by
          have hq0 := sq_lock (o' := .frz od (.dK kvs)) hl0 (s0.seq hL)
          rcases hq0 with (e1 | ⟨o1, e1⟩) | e1
          · exact .inl (.inl (s13 _ _ (kp _ _ (fun z => by rw [z, upd_ne nR, upd_same] at e1; cases e1) e1)))
          · exact .inl (.inr ⟨o1, s13 _ _ (kp _ _ (fun z => by rw [z, upd_ne nR, upd_same] at e1; cases e1) e1)⟩)
          · exact .inr e1
        refine ⟨_, rfl, _, rfl, _, rfl, _, rfl, _, rfl, b, m.since, m.due, k, q, ws, rfl, hb, hb64, okm.1, okm.2, hq3, hne, fun k2 hk2 H4 s4 => ?_⟩
        have s14 := s13.trans s4
        have eR4 := s14 _ _ eR
        have CA4 := CA.frame (H' := H4) fun a xs e => s14 _ _ e
        have epl4 := s4 _ _ epl
        refine ⟨_, rfl, R, rfl, .inr ⟨_, .inl eR4⟩, _, rfl, by simp [sizeLine_eq], fun el hel => ?_⟩
        have s5 := same_upd (o := .lst []) hel
        have eel : (upd H4 el (.lst [])) el = some (.lst []) := upd_same
        have s15 := s14.trans s5
        generalize upd H4 el (.lst []) = H5 at s5 s15 eel ⊢
        have eR5 := s15 _ _ eR
        have CA5 := CA.frame (H' := H5) fun a xs e => s15 _ _ e
        have epl5 := s5 _ _ epl4
        obtain ⟨a, ea, hla⟩ : ∃ a, (valV kvd (keyC (placeT b t m.due))).getD (.ref el) = .ref a ∧ H5 a = some (.lst ((cellV (standD b ws t (ms.take i)) (placeT b t m.due)).map fun x => V.int (x : Nat))) := by
          rcases CA5.val (p := placeT b t m.due) with ⟨z1, z2⟩ | ⟨a, z1, z2⟩
          · exact ⟨el, by rw [z1]; rfl, by rw [z2]; exact eel⟩
          · exact ⟨a, by rw [z1]; rfl, z2⟩
        refine ⟨_, DGet.t eR5 epl5, _, rfl, _, rfl, a, cellV (standD b ws t (ms.take i)) (placeT b t m.due), m.num, frontOf ws k (rowsOf b m.since m.due k2), by rw [ea]; rfl, hla, ?_, fun H6 a6 s6 ha6 ea6 => ?_⟩
        · have z := bd2 (placeT b t m.due)
          omega
        have s16 := s15.trans s6
        have eR6 := s16 _ _ eR
        have epl6 := s6 _ _ epl5
        have CA6 := CA.frame (H' := H6) fun a xs e => s16 _ _ e
        refine ⟨_, rfl, _, rfl, R, _, rfl, DPut.t eR6 epl6 ?_, ?_⟩
        · rw [CA6.len]
          exact sizeLine_ge (by omega)
        · refine ⟨_, _, _, _, _, _, _, _, _, _, rfl, fun c o n e => ?_, upd_same, ?_⟩
          · rw [upd_ne n]
            exact s16 _ _ (kp _ _ n e)
          · refine ⟨?_, fun kv hkv a' ea' => ?_⟩
            rotate_left
            · rcases mem_putK hkv with h | h
              · exact fr kv h a' ea'
              · rw [ea'] at h
                rw [V.ref.inj h]
                have hf := s15.free ha6
                cases eh : H a6 with
                | none => rfl
                | some o =>
                  exfalso
                  by_cases n : a6 = l
                  · have z := kp l _ (Ne.symm nR) upd_same
                    rw [← n, hf] at z
                    cases z
                  · have z := kp a6 o (ne_of_none eh hR0) (by rw [upd_ne n]; exact s0 _ _ eh)
                    rw [hf] at z
                    cases z
            have eput := CA6.put (p := placeT b t m.due) ea6
            have e2 : standD b ws t (ms.take (i + 1)) = cellPut (standD b ws t (ms.take i)) (placeT b t m.due) (insT (frontOf ws k (rowsOf b m.since m.due k2)) m.num (cellV (standD b ws t (ms.take i)) (placeT b t m.due))) := by
              rw [hstep]
              unfold standStep
              rw [if_pos e, levT_eq hk, sideT_eq hk2]
            rw [e2]
            exact eput.frame fun a xs e => by
              rw [upd_ne fun z => ?_]
              · exact e
              · rw [z, eR6] at e
                cases e
      · refine ⟨_, rfl, _, rfl, (m.due : Nat), (t : Nat), rfl, rfl, false, dF (fun z => e (Int.ofNat_lt.mp z)), iteF ?_⟩
        refine ⟨kvd, _, _, _, _, _, _, _, _, _, rfl, fun c o n e => sU _ _ (kp _ _ n e), eRU, ?_⟩
        rw [hstep]
        unfold standStep
        rw [if_neg e]
        exact ⟨CAU, fr⟩
    · rintro σ H' ⟨kvd, y5, y6, y7, y8, y9, y10, y11, y12, y13, rfl, kp, eR, CA, fr⟩
      rw [L.len, List.take_length] at CA
      refine ⟨kp _ _ (Ne.symm nR) upd_same, ?_⟩
      obtain ⟨bd1, bd2, bd3⟩ := stand_bounds b ws t ms ms.length (Nat.le_refl _)
      rw [List.take_length] at bd1 bd2 bd3
      have nRl : R ≠ l := nR
      have hlz := kp l _ (Ne.symm nR) upd_same
      have eR1 : (upd H' l (.dK kvs)) R = some (.dT kvd) := by
        rw [upd_ne nR]
        exact eR
      have CA1 := CA.frame (H' := upd H' l (.dK kvs)) fun a xs e => by
        rw [upd_ne fun z => ?_]
        · exact e
        · rw [z, hlz] at e
          cases e
      have sAll : Same H (upd H' l (.dK kvs)) := fun c o e => by
        by_cases n : c = l
        · rw [n] at e ⊢
          rw [upd_same]
          exact hl.symm.trans e
        · rw [upd_ne n]
          exact kp _ _ (ne_of_none e hR0) (by rw [upd_ne n]; exact s0 _ _ e)
      generalize upd H' l (.dK kvs) = H1 at eR1 CA1 sAll ⊢
      generalize hrs : standD b ws t ms = rs at CA1 bd1 bd2 bd3
      refine ⟨_, rfl, R, kvd, _, rfl, .inl eR1, CA1.keys, fun p bs hp0 hperm hsort hbs => ?_⟩
      obtain ⟨ks, eks, hks⟩ : ∃ ks : List (Nat × Nat), (bs.map fun x => pairAt H1 (.ref x)) = ks.map (fun k => ((k.1 : Int), (k.2 : Int))) ∧ ks.Perm (rs.map (·.1)) := by
        refine ⟨(bs.map fun x => pairAt H1 (.ref x)).map fun z => (z.1.toNat, z.2.toNat), ?_, ?_⟩
        · rw [List.map_map]
          have e1 : (bs.map fun x => pairAt H1 (.ref x)).map id = _ := List.map_congr_left (f := id) (g := (fun k : Nat × Nat => ((k.1 : Int), (k.2 : Int))) ∘ fun z : Int × Int => (z.1.toNat, z.2.toNat)) fun z hz => by
            obtain ⟨cc, _, rfl⟩ := List.mem_map.mp (hperm.mem_iff.mp hz)
            rfl
          rw [List.map_id] at e1
          exact e1
        · have z := hperm.map fun z : Int × Int => (z.1.toNat, z.2.toNat)
          have e1 : (rs.map fun c => ((c.1.1 : Int), (c.1.2 : Int))).map (fun z : Int × Int => (z.1.toNat, z.2.toNat)) = rs.map (·.1) := by
            rw [List.map_map]
            exact List.map_congr_left fun c _ => rfl
          rw [e1] at z
          exact z
      have hbl : bs.length = ks.length := by
        have z := congrArg List.length eks
        rw [List.length_map, List.length_map] at z
        exact z
      have hkl : ks.length ≤ 1000 := by
        have z := hks.length_eq
        rw [List.length_map] at z
        omega
      have s2 := same_upd (o := .lst (bs.map V.ref)) hp0
      have ep : (upd H1 p (.lst (bs.map V.ref))) p = some (.lst (bs.map V.ref)) := upd_same
      generalize upd H1 p (.lst (bs.map V.ref)) = H2 at s2 ep ⊢
      have eR2 := s2 _ _ eR1
      have CA2 := CA1.frame (H' := H2) fun a xs e => s2 _ _ e
      refine ⟨p, rfl, ⟨_, SqL.of ep⟩, fun D hD => lc_list (K := K) (a := p) (xs := bs.map V.ref) (fun i H3 => Same H2 H3 ∧ ∃ ts, H3 D = some (.lst (ts.map V.ref)) ∧ ts.length = (ks.take i).length ∧ CRows H2 H3 ts ((ks.take i).map fun k => (k, cellV rs k)) ∧ FRows H H3 ts)
        ⟨same_upd hD, [], upd_same, rfl, trivial, trivial⟩ (fun i H3 _ ⟨sm, _⟩ => SqL.of (sm _ _ ep)) ?_ ?_⟩
      · rintro i x H3 hx ⟨sm, ts, eD, hts, CR, FR⟩
        rw [List.getElem?_map] at hx
        obtain ⟨x0, hx0, rfl⟩ : ∃ x0, bs[i]? = some x0 ∧ x = V.ref x0 := by
          cases e : bs[i]? with
          | none =>
            rw [e] at hx
            cases hx
          | some y =>
            rw [e] at hx
            exact ⟨y, rfl, (Option.some.inj hx).symm⟩
        have hlt : i < ks.length := by
          have z := (List.getElem?_eq_some_iff.mp hx0).1
          omega
        have hk : ks[i]? = some ks[i] := List.getElem?_eq_getElem hlt
        generalize ks[i] = kk at hk
        have epa : pairAt H1 (.ref x0) = ((kk.1 : Int), (kk.2 : Int)) := by
          have z := congrArg (fun l : List (Int × Int) => l[i]?) eks
          simp only [List.getElem?_map, hx0, hk] at z
          exact Option.some.inj z
        have ex0 := hbs x0 (List.mem_of_getElem? hx0)
        rw [epa] at ex0
        have ex3 := sm _ _ (s2 _ _ ex0)
        refine ⟨x0, _, rfl, .inl (.inl ex3), rfl, _, _, rfl, _, _, rfl, rfl, rfl, yesT (iteT ?_)⟩
        refine ⟨_, rfl, _, rfl, _, rfl, _, rfl, _, rfl, by simp [sizeLine_eq], fun kt hkt => ?_⟩
        have s4 := same_upd (o := .tup [.int (kk.1 : Int), .int (kk.2 : Int)]) hkt
        have ekt : (upd H3 kt (.tup [.int (kk.1 : Int), .int (kk.2 : Int)])) kt = some (.tup ((keyC kk).map kV)) := upd_same
        have eD4 := s4 _ _ eD
        have eR4 := s4 _ _ (sm _ _ eR2)
        obtain ⟨a, ha1, ha2⟩ := CA2.val_mem (p := kk) (hks.mem_iff.mp (List.mem_of_getElem? hk))
        have g := DGet.t eR4 ekt
        rw [ha1] at g
        refine ⟨R, .ref a, rfl, g, by simp [sizeLine_eq], fun tr htr => ?_⟩
        have s5 := same_upd (o := .tup [.int (kk.1 : Int), .int (kk.2 : Int), .ref a]) htr
        have eD5 := s5 _ _ eD4
        have nDr : tr ≠ D := fun z => by
          rw [z, eD4] at htr
          cases htr
        refine ⟨_, eD5, ?_, fun c o e => ?_, ts ++ [tr], ?_, ?_, ?_, ?_⟩
        · rw [List.length_map, hts, List.length_take]
          exact sizeLine_ge (by omega)
        · rw [upd_ne (ne_of_none e hD)]
          exact s5 _ _ (s4 _ _ (sm _ _ e))
        · rw [upd_same, List.map_append]
          rfl
        · rw [List.take_add_one, hk, List.length_append, List.length_append, hts]
          rfl
        · rw [List.take_add_one, hk, List.map_append]
          have CR5 := CR.frame (H0' := H2) (H' := upd (upd H3 kt (.tup [.int (kk.1 : Int), .int (kk.2 : Int)])) tr (.tup [.int (kk.1 : Int), .int (kk.2 : Int), .ref a])) (fun _ _ e => e) fun _ _ e => s5 _ _ (s4 _ _ e)
          have CR6 := CR5.snoc (t := tr) (a := a) (c := (kk, cellV rs kk)) upd_same ha2
          exact CR6.frame (fun _ _ e => e) fun t xs e => by
            rw [upd_ne fun z => ?_]
            · exact e
            · rw [z, eD5] at e
              cases e
        · obtain ⟨kv, hkv, ekv⟩ := valV_mem2 ha1
          have FR5 := (FR.frame (H' := upd (upd H3 kt (.tup [.int (kk.1 : Int), .int (kk.2 : Int)])) tr (.tup [.int (kk.1 : Int), .int (kk.2 : Int), .ref a])) fun _ _ e => s5 _ _ (s4 _ _ e)).snoc (t := tr) upd_same (fr kv hkv a ekv)
          exact FR5.frame fun t xs e => by
            rw [upd_ne fun z => ?_]
            · exact e
            · rw [z, eD5] at e
              cases e
      · rintro H3 ⟨s3, ts, eD, hts, CR, FR⟩
        rw [List.length_map, hbl, List.take_length] at CR
        refine c H3 D ts (ks.map fun k => (k, cellV rs k)) (sAll.trans (s2.trans s3)) ((sAll.trans s2).free hD) eD (CR.frame (fun _ _ e => s3 _ _ e) fun _ _ e => e) FR ⟨?_, ?_, ?_⟩
        · rw [List.map_map, hrs]
          have e1 : ks.map ((fun c : Cell => c.1) ∘ fun k => (k, cellV rs k)) = ks.map id := List.map_congr_left fun k _ => rfl
          rw [e1, List.map_id]
          exact hks
        · rw [List.map_map]
          rw [eks] at hsort
          exact hsort
        · intro cc hcc
          obtain ⟨k, _, rfl⟩ := List.mem_map.mp hcc
          rw [hrs]
end
/-! ### data equal to itself -/
theorem neq_refl {d : PyData} (h : d.canLay0 = true) : V.bl (!PyData.eqv d d) = V.bl false := by
  rw [SeqAt.eqv_refl d h]
  rfl
theorem eq_refl {d : PyData} (h : d.canLay0 = true) : V.bl (PyData.eqv d d) = V.bl true := by
  rw [SeqAt.eqv_refl d h]
/-! ### rows as data, walks with numbers -/
def rowD (r : Row3) : PyData := .tuple [.int (r.1 : Nat), .int (r.2.1 : Nat), .int (r.2.2 : Nat)]
theorem rows_dp {K : PySem.W.Frag} {H : Hp} : ∀ {ts : List Addr} {rs : List Row3}, RowsAt H ts rs → DpAll K H (ts.map V.ref) (rs.map rowD)
  | [], [], _ => .nil
  | _ :: _, _ :: _, h => .cons (.tup (.inl (.inl h.1)) (.cons (.int _) (.cons (.int _) (.cons (.int _) .nil)))) (rows_dp h.2)
  | [], _ :: _, h => h.elim
  | _ :: _, [], h => h.elim
theorem rowD_lay (r : Row3) : (rowD r).canLay0 = true := rfl
theorem rows_lay : ∀ rs : List Row3, PyData.canLayAll0 (rs.map rowD) = true
  | [] => rfl
  | r :: rs => by
    show ((rowD r).canLay0 && PyData.canLayAll0 (rs.map rowD)) = true
    rw [rowD_lay, rows_lay rs]
    rfl
theorem rows_depth : ∀ rs : List Row3, PyData.depthAll (rs.map rowD) ≤ 1
  | [] => Nat.zero_le _
  | r :: rs => by
    have ih := rows_depth rs
    show max (rowD r).depth (PyData.depthAll (rs.map rowD)) ≤ 1
    have e : (rowD r).depth = 1 := rfl
    rw [e]
    omega
theorem rows_shaped (rs : List Row3) : SeqAt.shaped (.list (rs.map rowD)) = true := by
  have h1 : (PyData.list (rs.map rowD)).canLay0 = true := by
    show PyData.canLayAll0 (rs.map rowD) = true
    exact rows_lay rs
  have h2 : (PyData.list (rs.map rowD)).depth ≤ 64 := by
    show PyData.depthAll (rs.map rowD) + 1 ≤ 64
    have := rows_depth rs
    omega
  unfold SeqAt.shaped
  rw [h1, decide_eq_true h2]
  rfl
theorem dp_nats {K : PySem.W.Frag} {H : Hp} : ∀ ns : List Nat, DpAll K H (ns.map fun x => V.int (x : Nat)) (ns.map fun x => PyData.int (x : Nat))
  | [] => .nil
  | _ :: r => .cons (.int _) (dp_nats r)
theorem nats_lay : ∀ ns : List Nat, PyData.canLayAll0 (ns.map fun x => PyData.int (x : Nat)) = true
  | [] => rfl
  | _ :: r => by
    show (PyData.canLay0 _ && PyData.canLayAll0 (r.map fun x => PyData.int (x : Nat))) = true
    rw [nats_lay r]
    rfl
theorem nats_depth : ∀ ns : List Nat, PyData.depthAll (ns.map fun x => PyData.int (x : Nat)) = 0
  | [] => rfl
  | _ :: r => by
    show max (PyData.depth _) (PyData.depthAll (r.map fun x => PyData.int (x : Nat))) = 0
    rw [nats_depth r]
    rfl
theorem nats_shaped (ns : List Nat) : SeqAt.shaped (.list (ns.map fun x => PyData.int (x : Nat))) = true := by
  have h1 : (PyData.list (ns.map fun x => PyData.int (x : Nat))).canLay0 = true := by
    show PyData.canLayAll0 _ = true
    exact nats_lay ns
  have h2 : (PyData.list (ns.map fun x => PyData.int (x : Nat))).depth ≤ 64 := by
    show PyData.depthAll _ + 1 ≤ 64
    rw [nats_depth ns]
    decide
  unfold SeqAt.shaped
  rw [h1, decide_eq_true h2]
  rfl
theorem cut1 (xs : List V) : cutV xs (some 1) none = xs.drop 1 := by
  unfold cutV
  rw [show HT.sIx xs.length 0 (some 1) = min 1 xs.length from HT.sIx_nat xs.length 0 1, HT.sIx_none]
  cases xs with
  | nil => rfl
  | cons x r =>
    rw [show min 1 (x :: r).length = 1 by
      rw [List.length_cons]
      omega]
    show (List.take ((x :: r).length - 1) r) = r
    rw [List.length_cons, Nat.add_sub_cancel]
    exact List.take_length
theorem cutTo {xs : List V} {k : Nat} : cutV xs none (some (k : Int)) = xs.take k := by
  unfold cutV
  rw [HT.sIx_none, HT.sIx_nat, List.drop_zero, Nat.sub_zero]
  by_cases h : k ≤ xs.length
  · rw [Nat.min_eq_left h]
  · rw [Nat.min_eq_right (by omega), List.take_length, List.take_of_length_le (by omega)]
theorem cutFrom {xs : List V} {k : Nat} : cutV xs (some (k : Int)) none = xs.drop k := by
  unfold cutV
  rw [HT.sIx_none, HT.sIx_nat]
  by_cases h : k ≤ xs.length
  · rw [Nat.min_eq_left h]
    exact List.take_of_length_le (by rw [List.length_drop]; exact Nat.le_refl _)
  · rw [Nat.min_eq_right (by omega), List.drop_length, List.drop_of_length_le (by omega)]
    simp
theorem cutLast {xs : List V} (h : xs ≠ []) : cutV xs (some (-1)) none = [xs.getLast h] := by
  have hp : 0 < xs.length := List.length_pos_iff.mpr h
  have e : HT.sIx xs.length 0 (some (-1)) = xs.length - 1 := by
    show (if (-1 : Int) < 0 then ((-1 : Int) + (xs.length : Int)).toNat else min (-1 : Int).toNat xs.length) = _
    rw [if_pos (by decide)]
    omega
  unfold cutV
  rw [e, HT.sIx_none, List.drop_eq_getElem_cons (show xs.length - 1 < xs.length by omega), List.getLast_eq_getElem]
  rw [show xs.length - 1 + 1 = xs.length by omega, List.drop_length]
  rw [show xs.length - (xs.length - 1) = 1 by omega]
  rfl
theorem RowsAt.frame {H H' : Hp} : ∀ {ts : List Addr} {rs : List Row3}, RowsAt H ts rs → (∀ t r, H t = some (.tup (rowV r)) → H' t = some (.tup (rowV r))) → RowsAt H' ts rs
  | [], [], _, _ => trivial
  | _ :: _, _ :: _, h, s => ⟨s _ _ h.1, h.2.frame s⟩
  | [], _ :: _, h, _ => h.elim
  | _ :: _, [], h, _ => h.elim
/-- the tick behind the first station -/
theorem behind_first (b d : Nat) : ∀ k, ((tailOf b d k).map (fun r => r.2.2) ++ [d])[0]? = some (d / b ^ k * b ^ k)
  | 0 => by
    show some d = some (d / b ^ 0 * b ^ 0)
    rw [Nat.pow_zero, Nat.div_one, Nat.mul_one]
  | k + 1 => by
    have e := cut_step b d k
    unfold tailOf
    split
    · rfl
    · rename_i h
      have h0 : d / b ^ k % b = 0 := Classical.byContradiction h
      rw [h0, Nat.zero_mul, Nat.add_zero] at e
      rw [behind_first b d k, e]
/-- a loop over enumerate(a list) -/
theorem for_enum {K : PySem.W.Frag} {a : Addr} {xs : List V} {g : TG} {tb : TS} {D : Ends} {σ : L2.St} {H : Hp} (Pv : Nat → L2.St → Hp → Prop) (h0 : Pv 0 σ H) (hq : ∀ i σ H, Pv i σ H → SqL K H a xs)
    (hs : ∀ (i : Nat) (x : V) (T : Addr) (σ : L2.St) (H : Hp), xs[i]? = some x → Pv i σ H → H T = none → g (.ref T) σ (upd H T (.tup [.int (i : Nat), x])) fun σ2 H2 => tb { D with nx := Pv (i + 1), ct := Pv (i + 1), bk := D.nx } σ2 H2) (hd : ∀ σ H, Pv xs.length σ H → D.nx σ H) :
    ∃ W : Nat → Nat → L2.St → Hp → Prop, (∃ m, W 0 m σ H) ∧ ∀ i m σ H, W i m σ H →
      ((Ite K a).stop i H ∧ D.nx σ H) ∨ ((Ite K a).go i H ∧ ∃ N : L2.St → Hp → Prop, (∀ σ' H', N σ' H' → ∃ m', m' < m ∧ W (i + 1) m' σ' H') ∧ ∀ v H', (Ite K a).yld i H v H' → g v σ H' fun σ2 H2 => tb { D with nx := N, ct := N, bk := D.nx } σ2 H2) := by
  refine ⟨fun i m σ H => m = xs.length - i ∧ i ≤ xs.length ∧ Pv i σ H, ⟨xs.length, rfl, Nat.zero_le _, h0⟩, ?_⟩
  rintro i m σ H ⟨rfl, hi, p⟩
  have qx := hq i σ H p
  by_cases hlt : i < xs.length
  · have hx : xs[i]? = some xs[i] := List.getElem?_eq_getElem hlt
    refine .inr ⟨⟨xs, xs[i], qx, hx⟩, Pv (i + 1), fun σ' H' p' => ⟨xs.length - (i + 1), by omega, rfl, hlt, p'⟩, fun v H' y => ?_⟩
    obtain ⟨T, x, rfl, nT, rfl, f⟩ := y
    have ex : x = xs[i] := Option.some.inj ((f xs qx).symm.trans hx)
    subst ex
    exact hs i _ T σ H hx p nT
  · have e : i = xs.length := by omega
    subst e
    exact .inl ⟨⟨xs, qx, Nat.le_refl _⟩, hd σ H p⟩
/-- a loop over zip(a list, a list), of any two lengths -/
theorem for_zip2 {K : PySem.W.Frag} {a b : Addr} {xs ys : List V} {g : TG} {tb : TS} {D : Ends} {σ : L2.St} {H : Hp} (Pv : Nat → L2.St → Hp → Prop) (h0 : Pv 0 σ H) (hq : ∀ i σ H, Pv i σ H → SqL K H a xs ∧ SqL K H b ys)
    (hs : ∀ (i : Nat) (x y : V) (T : Addr) (σ : L2.St) (H : Hp), xs[i]? = some x → ys[i]? = some y → Pv i σ H → H T = none → g (.ref T) σ (upd H T (.tup [x, y])) fun σ2 H2 => tb { D with nx := Pv (i + 1), ct := Pv (i + 1), bk := D.nx } σ2 H2) (hd : ∀ i σ H, Pv i σ H → D.nx σ H) :
    ∃ W : Nat → Nat → L2.St → Hp → Prop, (∃ m, W 0 m σ H) ∧ ∀ i m σ H, W i m σ H →
      ((Itz K a b).stop i H ∧ D.nx σ H) ∨ ((Itz K a b).go i H ∧ ∃ N : L2.St → Hp → Prop, (∀ σ' H', N σ' H' → ∃ m', m' < m ∧ W (i + 1) m' σ' H') ∧ ∀ v H', (Itz K a b).yld i H v H' → g v σ H' fun σ2 H2 => tb { D with nx := N, ct := N, bk := D.nx } σ2 H2) := by
  refine ⟨fun i m σ H => m = xs.length - i ∧ i ≤ xs.length ∧ Pv i σ H, ⟨xs.length, rfl, Nat.zero_le _, h0⟩, ?_⟩
  rintro i m σ H ⟨rfl, hi, p⟩
  obtain ⟨qx, qy⟩ := hq i σ H p
  by_cases hlt : i < xs.length ∧ i < ys.length
  · have hx : xs[i]? = some xs[i] := List.getElem?_eq_getElem hlt.1
    have hy : ys[i]? = some ys[i] := List.getElem?_eq_getElem hlt.2
    refine .inr ⟨⟨xs, ys, _, _, qx, qy, hx, hy⟩, Pv (i + 1), fun σ' H' p' => ⟨xs.length - (i + 1), by omega, rfl, hlt.1, p'⟩, fun v H' e => ?_⟩
    obtain ⟨T, x, y, rfl, nT, rfl, f, f2⟩ := e
    have ex : x = xs[i] := Option.some.inj ((f xs qx).symm.trans hx)
    have ey : y = ys[i] := Option.some.inj ((f2 ys qy).symm.trans hy)
    subst ex
    subst ey
    exact hs i _ _ T σ H hx hy p nT
  · refine .inl ⟨⟨xs, ys, qx, qy, ?_⟩, hd i σ H p⟩
    by_cases h1 : i < xs.length
    · right
      by_cases h2 : i < ys.length
      · exact absurd ⟨h1, h2⟩ hlt
      · omega
    · left
      omega
/-- the last item of a list that has one -/
theorem atI_neg1 {xs : List V} {x : V} (h : xs[xs.length - 1]? = some x) : atI xs (-1) = some x := by
  have hne : xs ≠ [] := fun e => by
    rw [e] at h
    simp at h
  have e : xs = xs.dropLast ++ [xs.getLast hne] := (List.dropLast_concat_getLast hne).symm
  have ex : x = xs.getLast hne := by
    have z := List.getLast?_eq_getElem? (l := xs)
    rw [h, List.getLast?_eq_some_getLast hne] at z
    exact (Option.some.inj z).symm
  rw [e, ex]
  exact atI_last _ _
section
variable {P : Program} {w : World} {K : PySem.W.Frag} {mg : Str → Option Value} {base : Heap}
def spLists (C : Addr) : Sp := fun vs H Q _ => ∃ (p q l : Addr) (W : WS), vs = [.ref p] ∧ WheelAt C H p q l W ∧ WOk W ∧ ∀ H' r ts cs, Same H H' → H r = none → H' r = some (.lst (ts.map V.ref)) → CRows H' H' ts cs → FRows H H' ts → IsLists W.b W.ws W.tick W.live cs → Q (.ref r) H'
theorem ok_lists {f C : Addr} {fd : FuncData} (F : Fun K "lists" "Wheel.lists" s_Wheel_lists f fd) (TW : TxW K mg C) (h1 : Has P w K mg base 4 "standing" ["base", "levels", "live", "tick"] [] (spStanding K)) : FnOk P w K mg base CX0 5 f fd ["self"] (spLists C) := by
  obtain ⟨f_standing, fd_standing, ds_standing, G_standing, m_standing, k_standing, b_standing, v_standing⟩ := h1
  refine F.ok sc_Wheel_lists (fun vs H Q E h => ?_) (fun cdv A outer s H vs Q E hr h => ?_)
  · obtain ⟨p, q, l, W, rfl, _⟩ := h
    rfl
  · obtain ⟨p, q, l, W, rfl, hw, ok, c⟩ := h
    obtain ⟨dx, hp⟩ := hw.ins
    obtain ⟨kvs, hl, L⟩ := hw.live
    refine ⟨_, (pss_one (ps_ret (pe_call G_standing hr (by rfl) m_standing k_standing b_standing v_standing pass0 (pa_cons (pe_fld (pv 0) rfl) (pa_cons (pe_fld (pv 0) rfl) (pa_cons (pe_fld (pv 0) rfl) (pa_cons (pe_fld (pv 0) rfl) pa_nil))))))), ?_⟩
    refine ⟨_, rfl, p, C, dx, _, _, rfl, hp, TW.cl, TW.nB, wf_b, _, rfl, p, C, dx, _, _, rfl, hp, TW.cl, TW.nW, wf_w, _, rfl, p, C, dx, _, _, rfl, hp, TW.cl, TW.nL, wf_l, _, rfl, p, C, dx, _, _, rfl, hp, TW.cl, TW.nT, wf_t, ?_⟩
    exact ⟨W.b, W.tick, q, l, W.ws, kvs, W.live, rfl, ok.b2, ok.b64, SqL.of hw.words, ok.ne, hl, L, ok.few, fun m hm => ⟨Nat.lt_of_le_of_lt (ok.tms m hm).since (ok.tms m hm).due, (ok.tms m hm).big⟩, c⟩
end
/-- the lists are told in one way -/
theorem IsLists.uniq {b : Nat} {ws : List Bool} {t : Nat} {ms : List Tm} {cs cs' : List Cell} (h : IsLists b ws t ms cs) (h' : IsLists b ws t ms cs') : cs = cs' := by
  have cast : ∀ l : List Cell, (l.map fun c => ((c.1.1 : Int), (c.1.2 : Int))) = (l.map (·.1)).map fun k => ((k.1 : Int), (k.2 : Int)) := fun l => by
    rw [List.map_map]
    rfl
  have hk : cs.map (·.1) = cs'.map (·.1) := by
    have z1 := h.sorted
    have z2 := h'.sorted
    rw [cast, List.pairwise_map] at z1 z2
    refine List.Perm.eq_of_pairwise (fun a c _ _ h1 h2 => ?_) z1 z2 (h.perm.trans h'.perm.symm)
    rw [SrtO.lexB_no] at h1 h2
    dsimp only at h1 h2
    refine Prod.ext ?_ ?_ <;> omega
  have hall : ∀ (l l' : List Cell), l.map (·.1) = l'.map (·.1) → (∀ c ∈ l, c.2 = cellV (standD b ws t ms) c.1) → (∀ c ∈ l', c.2 = cellV (standD b ws t ms) c.1) → l = l' := by
    intro l
    induction l with
    | nil =>
      intro l' e _ _
      cases l' with
      | nil => rfl
      | cons c l' => cases e
    | cons c l ih =>
      intro l' e h1 h2
      cases l' with
      | nil => cases e
      | cons c' l' =>
        rw [List.map_cons, List.map_cons] at e
        obtain ⟨e1, e2⟩ := List.cons.inj e
        rw [ih l' e2 (fun x hx => h1 x (List.mem_cons_of_mem _ hx)) fun x hx => h2 x (List.mem_cons_of_mem _ hx)]
        have a1 := h1 c (List.mem_cons_self ..)
        have a2 := h2 c' (List.mem_cons_self ..)
        rw [← e1, ← a1] at a2
        rw [Prod.ext e1 a2.symm]
  exact hall cs cs' hk h.val h'.val
/-! ### the lists as data -/
def cellD (c : Cell) : PyData := .tuple [.int (c.1.1 : Nat), .int (c.1.2 : Nat), .list (c.2.map fun x => PyData.int (x : Nat))]
theorem cells_dp {K : PySem.W.Frag} {H0 H : Hp} (s : ∀ a xs, H0 a = some (.lst xs) → H a = some (.lst xs)) : ∀ {ts : List Addr} {cs : List Cell}, CRows H0 H ts cs → DpAll K H (ts.map V.ref) (cs.map cellD)
  | [], [], _ => .nil
  | _ :: _, _ :: _, ⟨⟨a, h1, h2⟩, h3⟩ => .cons (.tup (SqT.of h1) (.cons (.int _) (.cons (.int _) (.cons (.lst (SqL.of (s _ _ h2)) (dp_nats _)) .nil)))) (cells_dp s h3)
  | [], _ :: _, h => h.elim
  | _ :: _, [], h => h.elim
theorem cellD_lay (c : Cell) : (cellD c).canLay0 = true := by
  simp [cellD, PyData.canLay0, PyData.canLayAll0, nats_lay]
theorem cells_lay : ∀ cs : List Cell, PyData.canLayAll0 (cs.map cellD) = true
  | [] => rfl
  | c :: cs => by
    show ((cellD c).canLay0 && PyData.canLayAll0 (cs.map cellD)) = true
    rw [cellD_lay, cells_lay cs]
    rfl
theorem cellD_depth (c : Cell) : (cellD c).depth ≤ 2 := by
  have h : (PyData.list (c.2.map fun x => PyData.int (x : Nat))).depth = 1 := by
    show PyData.depthAll _ + 1 = 1
    rw [nats_depth c.2]
  show max (PyData.depth _) (max (PyData.depth _) (max (PyData.depth (PyData.list (c.2.map fun x => PyData.int (x : Nat)))) (PyData.depthAll []))) + 1 ≤ 2
  rw [h]
  exact Nat.le_refl 2
theorem cells_depth : ∀ cs : List Cell, PyData.depthAll (cs.map cellD) ≤ 2
  | [] => Nat.zero_le _
  | c :: cs => by
    have ih := cells_depth cs
    have h := cellD_depth c
    show max (cellD c).depth (PyData.depthAll (cs.map cellD)) ≤ 2
    omega
theorem cells_shaped (cs : List Cell) : SeqAt.shaped (.list (cs.map cellD)) = true := by
  have h1 : (PyData.list (cs.map cellD)).canLay0 = true := by
    show PyData.canLayAll0 (cs.map cellD) = true
    exact cells_lay cs
  have h2 : (PyData.list (cs.map cellD)).depth ≤ 64 := by
    show PyData.depthAll (cs.map cellD) + 1 ≤ 64
    have := cells_depth cs
    omega
  unfold SeqAt.shaped
  rw [h1, decide_eq_true h2]
  rfl
/-! ### advance: too many firings -/
section
variable {P : Program} {w : World} {K : PySem.W.Frag} {mg : Str → Option Value} {base : Heap}
def spAdvMany (C CN : Addr) : Sp := fun vs H _ E => ∃ (p q l : Addr) (W : WS) (t : Nat) (fired : List (Nat × List Nat)) (ms' : List Tm), vs = [.ref p, .int (t : Nat)] ∧ WheelAt C H p q l W ∧ 2 ≤ W.b ∧ W.b ≤ 64 ∧ W.ws ≠ [] ∧ W.live.length ≤ 1000 ∧ W.tick ≤ t ∧ AdvTo W.b W.ws t W.live fired ms' ∧ 2000 < total fired ∧ ∀ H', Same H H' → E (.ref CN) none H'
theorem okX_advmany {f C c_TooMany : Addr} {fd : FuncData} (F : Fun K "advance" "Wheel.advance" s_Wheel_advance f fd) (T : Tx K mg) (TW : TxW K mg C) (hM : ∃ t, mg "MOST_FIRINGS" = some (.int 2000 t)) (X_TooMany : EC K mg "TooMany" c_TooMany) (h1 : Has P w K mg base 3 "check_tick" ["tick", "least"] [] spCheckTick)
    (h2 : Has P w K mg base 1 "least_due" ["live"] [] spLeast) (h3 : Has P w K mg base 5 "order_of_firing" ["base", "levels", "live", "tick"] [] (spOrder K)) (h4 : Has P w K mg base 1 "after_firing" ["live", "numbers", "tick"] [] spAfter) :
    FnOk P w K mg base (L2.CX P w) 6 f fd ["self", "tick"] (spAdvMany C c_TooMany) := by
  obtain ⟨f_check_tick, fd_check_tick, ds_check_tick, G_check_tick, m_check_tick, k_check_tick, b_check_tick, v_check_tick⟩ := h1
  obtain ⟨f_least_due, fd_least_due, ds_least_due, G_least_due, m_least_due, k_least_due, b_least_due, v_least_due⟩ := h2
  obtain ⟨f_order_of_firing, fd_order_of_firing, ds_order_of_firing, G_order_of_firing, m_order_of_firing, k_order_of_firing, b_order_of_firing, v_order_of_firing⟩ := h3
  obtain ⟨f_after_firing, fd_after_firing, ds_after_firing, G_after_firing, m_after_firing, k_after_firing, b_after_firing, v_after_firing⟩ := h4
  obtain ⟨tM, g_MOST_FIRINGS⟩ := hM
  refine F.okX sc_Wheel_advance (fun vs H Q E h => ?_) (fun cdv A outer s H vs Q E hr h => ?_)
  · obtain ⟨p, q, l, W, t, fired, ms', rfl, _⟩ := h
    rfl
  · obtain ⟨p, q, l, W, t, fired, ms', rfl, hw, hb, hb64, hne, few, htt, adv, tot, c⟩ := h
    obtain ⟨dx, hp⟩ := hw.ins
    obtain ⟨kvs, hl, L⟩ := hw.live
    refine ⟨_, (pss_cons (ps_expr (pe_call G_check_tick (hr.mono (by decide)) (by rfl) m_check_tick k_check_tick b_check_tick v_check_tick pass0 (pa_cons (pv 1) (pa_cons (pe_fld (pv 0) rfl) pa_nil))))
      (pss_cons (ps_set (i := 2) sc_Wheel_advance.nd rfl (.inl rfl) (pe_lst pa_nil))
      (pss_cons (ps_set (i := 3) sc_Wheel_advance.nd rfl (.inl rfl) pe_int)
      (pss_cons (ps_set (i := 4) sc_Wheel_advance.nd rfl (.inl rfl) (pe_fld (pv 0) rfl))
      (pss_cons (ps_set (i := 5) sc_Wheel_advance.nd rfl (.inl rfl) (pe_call G_least_due (hr.mono (by decide)) (by rfl) m_least_due k_least_due b_least_due v_least_due pass0 (pa_cons (pv 4) pa_nil)))
      (pss_cons (ps_while (passes_of rfl) (PW.pt (pw_and (pt_cmpR op_notN (pv 5) pe_non (nomark _)) (pw_and1 (pt_cmpR op_le (pv 5) (pv 1) (nomark _)))))
        (pss_cons (ps_set (i := 6) sc_Wheel_advance.nd rfl (.inl rfl) (pe_call G_order_of_firing hr (by rfl) m_order_of_firing k_order_of_firing b_order_of_firing v_order_of_firing pass0 (pa_cons (pe_fld (pv 0) rfl) (pa_cons (pe_fld (pv 0) rfl) (pa_cons (pv 4) (pa_cons (pv 5) pa_nil))))))
        (pss_cons (ps_aug (i := 3) sc_Wheel_advance.nd rfl (.inl rfl) (pe_callB (lenK (K := K) rfl) (by rfl) T.b_len PySem.boot_len (pa_cons (pv 6) pa_nil)) ip_add)
        (pss_cons (ps_if (pt_cmpR op_gt (pv 3) (pe_glob (v := .int 2000) rfl g_MOST_FIRINGS ⟨_, rfl⟩) (nomark _))
          (pss_one (ps_raise rfl (takes_of rfl rfl rfl rfl) (pmk_own PySem.F.excBase_ValueError X_TooMany.x X_TooMany.g X_TooMany.k (raises_own X_TooMany.b X_TooMany.t) rfl)))
          pss_nil)
        (pss_cons (ps_expr (pe_bm PySem.F.plainAttrs_list PySem.F.slot_list_append PySem.F.type_list_append mt_append (pv 2) (pa_cons (pe_tup (pa_cons (pv 5) (pa_cons (pv 6) pa_nil))) pa_nil)))
        (pss_cons (ps_set (i := 4) sc_Wheel_advance.nd rfl (.inl rfl) (pe_call G_after_firing (hr.mono (by decide)) (by rfl) m_after_firing k_after_firing b_after_firing v_after_firing pass0 (pa_cons (pv 4) (pa_cons (pv 6) (pa_cons (pv 5) pa_nil)))))
        (pss_one (ps_set (i := 5) sc_Wheel_advance.nd rfl (.inl rfl) (pe_call G_least_due (hr.mono (by decide)) (by rfl) m_least_due k_least_due b_least_due v_least_due pass0 (pa_cons (pv 4) pa_nil))))))))))
      (pss_cons (ps_fld (pv 0) (pv 4) rfl)
      (pss_cons (ps_fld (pv 0) (pv 1) rfl)
      (pss_one (ps_ret (pv 2))))))))))), ?_⟩
    refine ⟨_, rfl, _, rfl, p, C, dx, _, _, rfl, hp, TW.cl, TW.nT, wf_t, (t : Nat), _, rfl, by omega, ?_⟩
    refine ⟨by simp [sizeLine_eq], fun r hr0 => ?_⟩
    have s1 := same_upd (o := .lst []) hr0
    refine ⟨_, rfl, p, C, dx, _, _, rfl, s1 _ _ hp, TW.cl, TW.nL, wf_l, ?_⟩
    refine ⟨_, rfl, l, kvs, W.live, rfl, s1 _ _ hl, L.same s1, few, fun H2 s2 => ?_⟩
    have s12 := s1.trans s2
    refine while_by (fun σ H' => ∃ (lc : Addr) (kvc : List (Key × V)) (ms : List Tm) (rest : List (Nat × List Nat)) (xs : List V) (many : Nat) (y6 : Option V), σ = [some (.ref p), some (.int (t : Nat)), some (.ref r), some (.int (many : Nat)), some (.ref lc), some (perV (leastD ms)), y6] ∧ Same H H' ∧ H' lc = some (.dK kvc) ∧ LiveK H' kvc ms ∧ ms.length ≤ 1000 ∧ AdvTo W.b W.ws t ms rest ms' ∧ 2000 < many + total rest ∧ many ≤ 2000 ∧ xs.length ≤ many ∧ H' r = some (.lst xs))
      (fun σ _ => 3000 - slotInt σ 3) ⟨l, kvs, W.live, fired, [], 0, none, rfl, s12, s12 _ _ hl, L.same s12, few, adv, by omega, Nat.zero_le _, Nat.le_refl _, s2 _ _ upd_same⟩ ?_ ?_
    · rintro σ H' ⟨lc, kvc, ms, rest, xs, many, y6, rfl, sm, elc, Lc, fewc, advc, totc, hm2000, htsm, er⟩
      have hp' := sm _ _ hp
      have hw' := sm _ _ hw.words
      cases advc with
      | done hdone =>
        have z : total ([] : List (Nat × List Nat)) = 0 := rfl
        omega
      | @step _ _ at_ rest' hle hat okm ndm fewm radv =>
        rw [hle]
        have hat' : ((at_ : Int) ≤ (t : Int)) := by omega
        have etot : total ((at_, orderAt W.b W.ws at_ ms) :: rest') = (orderAt W.b W.ws at_ ms).length + total rest' := by
          unfold total
          rw [List.map_cons, List.sum_cons]
        rw [etot] at totc
        have hpos := order_pos (b := W.b) (ws := W.ws) hle
        refine ⟨_, rfl, rfl, true, rfl, iteT ⟨_, rfl, _, rfl, (at_ : Nat), (t : Nat), rfl, rfl, true, dT hat', iteT ?_⟩⟩
        refine ⟨_, rfl, p, C, dx, _, _, rfl, hp', TW.cl, TW.nB, wf_b, _, rfl, p, C, dx, _, _, rfl, hp', TW.cl, TW.nW, wf_w, _, rfl, _, rfl, W.b, at_, q, lc, W.ws, kvc, ms, rfl, hb, hb64, SqL.of hw', hne, elc, Lc, fewc, okm, fun H3 pn s3 hpn0 epn => ?_⟩
        refine ⟨_, rfl, _, rfl, pn, _, rfl, .inl (SqL.of epn), (many : Nat), ((orderAt W.b W.ws at_ ms).length : Nat), rfl, congrArg (fun k : Nat => V.int (k : Nat)) (List.length_map ..), ?_⟩
        by_cases over : 2000 < many + (orderAt W.b W.ws at_ ms).length
        · refine ⟨_, rfl, _, _, rfl, rfl, true, dT (by show ((2000 : Int) < (many : Int) + ((orderAt W.b W.ws at_ ms).length : Nat)); omega), iteT ?_⟩
          exact c _ (sm.trans s3)
        refine ⟨_, rfl, _, _, rfl, rfl, false, dF (by show ¬ ((2000 : Int) < (many : Int) + ((orderAt W.b W.ws at_ ms).length : Nat)); omega), iteF ?_⟩
        have er3 := s3 _ _ er
        have nrp : r ≠ pn := fun e => by
          rw [← e, er] at hpn0
          cases hpn0
        refine ⟨_, rfl, .inl ⟨rfl, _, .inl (.inl er3)⟩, _, rfl, _, rfl, by simp [sizeLine_eq], fun u hu0 => ?_⟩
        have su := same_upd (o := .tup [perV (some at_), .ref pn]) hu0
        have eru := su _ _ er3
        refine ⟨r, _, _, rfl, rfl, eru, sizeLine_ge (by omega), ?_⟩
        generalize hH4 : upd (upd H3 u (.tup [perV (some at_), .ref pn])) r (.lst (xs ++ [.ref u])) = H4
        have k4 : ∀ c o, c ≠ r → H3 c = some o → H4 c = some o := fun c o n e => by
          rw [← hH4, upd_ne n]
          exact su _ _ e
        have er4 : H4 r = some (.lst (xs ++ [.ref u])) := by
          rw [← hH4, upd_same]
        have epn4 := k4 _ _ (Ne.symm nrp) epn
        have sm4 : Same H H4 := fun c o e => k4 c o (ne_of_none e hr0) (s3 _ _ (sm _ _ e))
        have nlr : lc ≠ r := ne_of elc er (by intro z; cases z)
        have elc4 := k4 _ _ nlr (s3 _ _ elc)
        have Lc4 : LiveK H4 kvc ms := Lc.frame fun t m e => k4 _ _ (ne_of e er (by intro z; cases z)) (s3 _ _ e)
        refine ⟨_, rfl, _, rfl, _, rfl, lc, pn, at_, orderAt W.b W.ws at_ ms, kvc, ms, rfl, elc4, Lc4, fewc, ndm, epn4, ⟨order_nodup ndm, fun n hn => by
          obtain ⟨m, h1, _, h3⟩ := order_mem.mp hn
          exact ⟨m, h1, h3⟩⟩, fun H5 lc5 kvc5 s5 hlc5 elc5 Lc5 => ?_⟩
        have few5 : (afterF at_ ms (orderAt W.b W.ws at_ ms)).length ≤ 1000 := Nat.le_trans (fire_tick _ _ _) fewc
        refine ⟨_, rfl, lc5, kvc5, _, rfl, elc5, Lc5, few5, fun H6 s6 => ?_⟩
        have s56 := s5.trans s6
        refine ⟨⟨lc5, kvc5, afterF at_ ms (orderAt W.b W.ws at_ ms), rest', xs ++ [.ref u], (many + (orderAt W.b W.ws at_ ms).length), _, rfl, sm4.trans s56, s6 _ _ elc5, Lc5.same s6, few5, radv, by omega, by omega, ?_, s56 _ _ er4⟩, ?_⟩
        · rw [List.length_append, List.length_singleton]
          omega
        · show 3000 - (((many + (orderAt W.b W.ws at_ ms).length) : Int)).toNat < 3000 - ((many : Int)).toNat
          omega
    · rintro σ H' Q1 Q2 h ⟨x, hx, e1, k, e, z⟩
      refine ⟨x, hx, e1, k, e, ?_⟩
      cases k with
      | false => exact iteF (h _ _ (by rw [if_neg Bool.false_ne_true] at z; exact z))
      | true =>
        rw [if_pos rfl] at z
        refine iteT ?_
        obtain ⟨x1, hx1, x2, hx2, i, j, e2, e3, k', e4, zz⟩ := z
        exact ⟨x1, hx1, x2, hx2, i, j, e2, e3, k', e4, h _ _ zz⟩
end
/-! ### advancing any wheel: that it ends, and how often something fires -/
/-- how often a timer fires up to t -/
def frN (t : Nat) (m : Tm) : Nat := if t < m.due then 0 else match m.per with
  | none => 1
  | some k => 1 + (t - m.due) / k
theorem again_at {t : Nat} {m m' : Tm} (h : againM t m = some m') : ∃ k, m.per = some k ∧ m' = ⟨m.num, t + k, some k, t⟩ := by
  unfold againM at h
  cases ep : m.per with
  | none =>
    rw [ep] at h
    cases h
  | some k =>
    rw [ep] at h
    exact ⟨k, rfl, (Option.some.inj h).symm⟩
def sumF (t : Nat) (ms : List Tm) : Nat := (ms.map (frN t)).sum
theorem sumF_app (t : Nat) (a c : List Tm) : sumF t (a ++ c) = sumF t a + sumF t c := by
  unfold sumF
  rw [List.map_append, List.sum_append]
theorem sumF_cons (t : Nat) (m : Tm) (c : List Tm) : sumF t (m :: c) = frN t m + sumF t c := by
  unfold sumF
  rw [List.map_cons, List.sum_cons]
theorem sumF_perm {t : Nat} {a c : List Tm} (h : a.Perm c) : sumF t a = sumF t c := by
  induction h with
  | nil => rfl
  | cons m _ ih => rw [sumF_cons, sumF_cons, ih]
  | swap m n l =>
    rw [sumF_cons, sumF_cons, sumF_cons, sumF_cons]
    omega
  | trans _ _ h1 h2 => exact h1.trans h2
theorem sumF_split (t : Nat) (p : Tm → Bool) : ∀ l : List Tm, sumF t (l.filter fun m => !p m) + sumF t (l.filter p) = sumF t l
  | [] => rfl
  | m :: l => by
    have ih := sumF_split t p l
    cases c : p m with
    | true =>
      rw [List.filter_cons_of_neg (by simp [c]), List.filter_cons_of_pos c, sumF_cons, sumF_cons]
      omega
    | false =>
      rw [List.filter_cons_of_pos (by simp [c]), List.filter_cons_of_neg (by simp [c]), sumF_cons, sumF_cons]
      omega
theorem sumF_none {t : Nat} : ∀ {l : List Tm}, (∀ m ∈ l, t < m.due) → sumF t l = 0
  | [], _ => rfl
  | m :: l, h => by
    rw [sumF_cons, sumF_none fun x hx => h x (List.mem_cons_of_mem _ hx)]
    unfold frN
    rw [if_pos (h m (List.mem_cons_self ..))]
/-- those that fire at v fire once less from there on -/
theorem sumF_again {L v : Nat} (hv : v ≤ L) : ∀ {l : List Tm}, (∀ m ∈ l, m.due = v ∧ ∀ k, m.per = some k → 1 ≤ k) → sumF L (l.filterMap (againM v)) + l.length = sumF L l
  | [], _ => rfl
  | m :: l, h => by
    have ih := sumF_again hv (l := l) fun x hx => h x (List.mem_cons_of_mem _ hx)
    obtain ⟨hd, hp⟩ := h m (List.mem_cons_self ..)
    rw [sumF_cons, List.length_cons]
    have e0 : frN L m = match m.per with
      | none => 1
      | some k => 1 + (L - m.due) / k := by
      unfold frN
      rw [if_neg (by omega)]
    cases ep : m.per with
    | none =>
      have e1 : againM v m = none := by
        unfold againM
        rw [ep]
        rfl
      rw [List.filterMap_cons_none e1, e0, ep]
      show _ = 1 + _
      omega
    | some k =>
      have e1 : againM v m = some ⟨m.num, v + k, some k, v⟩ := by
        unfold againM
        rw [ep]
        rfl
      have hk := hp k ep
      rw [List.filterMap_cons_some e1, sumF_cons, e0, ep, hd]
      have e2 : frN L ⟨m.num, v + k, some k, v⟩ = (L - v) / k := by
        show (if L < v + k then 0 else 1 + (L - (v + k)) / k) = _
        by_cases c : L < v + k
        · rw [if_pos c, Nat.div_eq_of_lt (by omega)]
        · rw [if_neg c]
          have e3 : L - v = (L - (v + k)) + k := by omega
          rw [e3, Nat.add_div_right _ (by omega)]
          omega
      rw [e2]
      show _ = 1 + (L - v) / k + _
      omega
/-- timers that may be advanced up to L -/
structure AdvT (L : Nat) (m : Tm) : Prop where
  since : m.since < m.due
  due : m.due < 2 ^ 240
  per : ∀ k, m.per = some k → 1 ≤ k ∧ L + k < 2 ^ 240
theorem after_mem {b : Nat} {ws : List Bool} {v : Nat} {ms : List Tm} (nd : (ms.map (·.num)).Nodup) {m : Tm} (hm : m ∈ afterF v ms (orderAt b ws v ms)) : (m ∈ ms ∧ m.due ≠ v) ∨ ∃ m0 ∈ ms, m0.due = v ∧ ∃ k, m0.per = some k ∧ m = ⟨m0.num, v + k, some k, v⟩ := by
  rw [after_due nd] at hm
  rcases List.mem_append.mp hm with z | z
  · obtain ⟨z1, z2⟩ := List.mem_filter.mp z
    exact .inl ⟨z1, of_decide_eq_true z2⟩
  · obtain ⟨m0, z1, z2⟩ := List.mem_filterMap.mp z
    obtain ⟨z3, z4⟩ := List.mem_filter.mp (mem_deq.mp z1)
    obtain ⟨k, k1, k2⟩ := again_at z2
    exact .inr ⟨m0, z3, of_decide_eq_true z4, k, k1, k2⟩
theorem after_nodup {b : Nat} {ws : List Bool} {v : Nat} {ms : List Tm} (nd : (ms.map (·.num)).Nodup) : ((afterF v ms (orderAt b ws v ms)).map (·.num)).Nodup := by
  unfold afterF
  have all : ∀ (ns : List Nat) (l : List Tm), (l.map (·.num)).Nodup → ((ns.foldl (fireT v) l).map (·.num)).Nodup := by
    intro ns
    induction ns with
    | nil => exact fun l nd => nd
    | cons n ns ih => exact fun l nd => ih _ (fire_nodup nd)
  exact all _ _ nd
theorem after_sum {b : Nat} {ws : List Bool} {L v : Nat} {ms : List Tm} (hv : v ≤ L) (nd : (ms.map (·.num)).Nodup) (hp : ∀ m ∈ ms, ∀ k, m.per = some k → 1 ≤ k) : sumF L (afterF v ms (orderAt b ws v ms)) + (orderAt b ws v ms).length = sumF L ms := by
  rw [after_due nd, sumF_app, order_deq, List.length_map, Nat.add_assoc]
  rw [sumF_again hv (fun m hm => ?_)]
  · rw [sumF_perm (deq_perm _ _), ← sumF_split L (fun m => decide (m.due = v)) ms]
    congr 2
    refine List.filter_congr fun m _ => ?_
    by_cases c : m.due = v <;> simp [c]
  · obtain ⟨z3, z4⟩ := List.mem_filter.mp (mem_deq.mp hm)
    exact ⟨of_decide_eq_true z4, hp m z3⟩
theorem adv_gen (b : Nat) (ws : List Bool) {L t : Nat} (htL : t ≤ L) : ∀ (n : Nat) (ms : List Tm), sumF L ms ≤ n → (∀ m ∈ ms, AdvT L m) → (ms.map (·.num)).Nodup → ms.length ≤ 1000 →
    ∃ fired ms', AdvTo b ws t ms fired ms' ∧ total fired + sumF L ms' = sumF L ms ∧ (∀ m ∈ ms', AdvT L m ∧ t < m.due ∧ (m ∈ ms ∨ m.since ≤ t) ∧ ∃ m0 ∈ ms, m0.num = m.num ∧ m0.per = m.per) ∧ (ms'.map (·.num)).Nodup ∧ ms'.length ≤ ms.length ∧ fired.length ≤ total fired := by
  intro n
  induction n with
  | zero =>
    intro ms hs ok nd few
    refine ⟨[], ms, .done fun m hm => ?_, (by show 0 + _ = _; omega), fun m hm => ⟨ok m hm, ?_, .inl hm, m, hm, rfl, rfl⟩, nd, Nat.le_refl _, Nat.le_refl _⟩
    all_goals
      refine Classical.byContradiction fun no => ?_
      have pos : 0 < frN L m := by
        unfold frN
        rw [if_neg (by omega)]
        split
        · exact Nat.one_pos
        · exact Nat.lt_of_lt_of_le Nat.one_pos (Nat.le_add_right 1 _)
      have z : frN L m ≤ sumF L ms := by
        obtain ⟨a, c, e⟩ := List.append_of_mem hm
        rw [e, sumF_app, sumF_cons]
        omega
      omega
  | succ n ih =>
    intro ms hs ok nd few
    by_cases hd : ∀ m ∈ ms, t < m.due
    · exact ⟨[], ms, .done hd, (by show 0 + _ = _; omega), fun m hm => ⟨ok m hm, hd m hm, .inl hm, m, hm, rfl, rfl⟩, nd, Nat.le_refl _, Nat.le_refl _⟩
    · cases hl : leastD ms with
      | none =>
        rw [least_none.mp hl] at hd
        exact absurd (fun m hm => by cases hm) hd
      | some v =>
        obtain ⟨hv1, hv2⟩ := least_some.mp hl
        have hvt : v ≤ t := by
          refine Classical.byContradiction fun no => hd fun m hm => ?_
          have := hv2 _ (List.mem_map.mpr ⟨m, hm, rfl⟩)
          omega
        have hpos := order_pos (b := b) (ws := ws) hl
        have hsum := after_sum (b := b) (ws := ws) (L := L) (Nat.le_trans hvt htL) nd fun m hm k hk => ((ok m hm).per k hk).1
        obtain ⟨fired, ms', a1, a2, a3, a4, a5, a6⟩ := ih (afterF v ms (orderAt b ws v ms)) (by omega) (fun m hm => by
          rcases after_mem nd hm with ⟨z, _⟩ | ⟨m0, z1, z2, k, z3, rfl⟩
          · exact ok m z
          · obtain ⟨k1, k2⟩ := (ok m0 z1).per k z3
            exact ⟨(by show v < v + k; omega), (by show v + k < _; omega), fun k' e => by cases e; exact ⟨k1, k2⟩⟩) (after_nodup nd) (Nat.le_trans (fire_tick _ _ _) few)
        have etot : total ((v, orderAt b ws v ms) :: fired) = (orderAt b ws v ms).length + total fired := by
          unfold total
          rw [List.map_cons, List.sum_cons]
        refine ⟨(v, orderAt b ws v ms) :: fired, ms', .step hl hvt (fun m hm => ⟨(ok m hm).since, Nat.lt_trans (ok m hm).due (by decide)⟩) nd few a1, ?_, fun m hm => ?_, a4, Nat.le_trans a5 (fire_tick _ _ _), ?_⟩
        · rw [etot]
          omega
        · obtain ⟨b1, b2, b3, m1, b4, b5, b6⟩ := a3 m hm
          have src : ∀ {x : Tm}, x ∈ afterF v ms (orderAt b ws v ms) → (x ∈ ms ∨ x.since ≤ t) ∧ ∃ m0 ∈ ms, m0.num = x.num ∧ m0.per = x.per := fun {x} hx => by
            rcases after_mem nd hx with ⟨z, _⟩ | ⟨m0, z1, z2, k, z3, rfl⟩
            · exact ⟨.inl z, x, z, rfl, rfl⟩
            · exact ⟨.inr hvt, m0, z1, rfl, z3⟩
          refine ⟨b1, b2, ?_, ?_⟩
          · rcases b3 with c | c
            · exact (src c).1
            · exact .inr c
          · obtain ⟨m2, c1, c2, c3⟩ := (src b4).2
            exact ⟨m2, c1, c2.trans b5, c3.trans b6⟩
        · rw [List.length_cons, etot]
          omega
/-- a wheel that may be advanced up to L -/
structure FarW (L : Nat) (W : WS) : Prop where
  ok : WOk W
  adv : ∀ m ∈ W.live, AdvT L m
theorem FarW.go {L t : Nat} {W : WS} (h : FarW L W) (h1 : W.tick ≤ t) (h2 : t ≤ L) : ∃ fired ms', AdvTo W.b W.ws t W.live fired ms' ∧ total fired + sumF L ms' = sumF L W.live ∧ FarW L { W with tick := t, live := ms' } ∧ fired.length ≤ total fired ∧ ms'.length ≤ W.live.length := by
  obtain ⟨fired, ms', a1, a2, a3, a4, a5, a6⟩ := adv_gen W.b W.ws h2 _ W.live (Nat.le_refl _) h.adv h.ok.nd h.ok.few
  refine ⟨fired, ms', a1, a2, ⟨⟨h.ok.b2, h.ok.b64, h.ok.ne, h.ok.l60, fun m hm => ?_, a4, Nat.le_trans a5 h.ok.few⟩, fun m hm => (a3 m hm).1⟩, a6, a5⟩
  obtain ⟨b1, b2, b3, m0, b4, b5, b6⟩ := a3 m hm
  refine ⟨?_, b2, Nat.lt_trans b1.due (by decide), ?_, fun k hk => (b1.per k hk).1⟩
  · rcases b3 with c | c
    · exact Nat.le_trans (h.ok.tms m c).since h1
    · exact c
  · rw [← b5]
    exact (h.ok.tms m0 b4).num
/-! ### what a changed wheel leaves as it stands -/
theorem Wk.pre {p l l' : Addr} {H H1 H' : Hp} (s : Same H H1) (k : Wk p l H1 H' l') : Wk p l H H' l' := ⟨fun c o n1 n2 e => k.keep c o n1 n2 (s _ _ e), k.new.imp id s.free⟩
theorem Wk.post {p l l' : Addr} {H H1 H' : Hp} (k : Wk p l H H1 l') (s : Same H1 H') : Wk p l H H' l' := ⟨fun c o n1 n2 e => s _ _ (k.keep c o n1 n2 e), k.new⟩
/-- what stands in a heap beside wheels: lists and tuples stay -/
theorem Wk.lst {C p q l l' : Addr} {H H' : Hp} {W : WS} (k : Wk p l H H' l') (w : WheelAt C H p q l W) {c : Addr} {xs : List V} (e : H c = some (.lst xs)) : H' c = some (.lst xs) := by
  obtain ⟨dx, hp⟩ := w.ins
  obtain ⟨kvs, hl, _⟩ := w.live
  exact k.keep _ _ (ne_of e hp (by intro z; cases z)) (ne_of e hl (by intro z; cases z)) e
theorem Wk.tup {C p q l l' : Addr} {H H' : Hp} {W : WS} (k : Wk p l H H' l') (w : WheelAt C H p q l W) {c : Addr} {xs : List V} (e : H c = some (.tup xs)) : H' c = some (.tup xs) := by
  obtain ⟨dx, hp⟩ := w.ins
  obtain ⟨kvs, hl, _⟩ := w.live
  exact k.keep _ _ (ne_of e hp (by intro z; cases z)) (ne_of e hl (by intro z; cases z)) e
/-! ### law k06: how many timers fire up to a tick -/
def manyL (laps : List Nat) (now t : Nat) : Nat := (laps.map fun k => (t - now) / k).sum
theorem manyL_cons (k now t : Nat) (laps : List Nat) : manyL (k :: laps) now t = (t - now) / k + manyL laps now t := rfl
theorem many_mono {now t u : Nat} (h : t ≤ u) : ∀ laps : List Nat, manyL laps now t ≤ manyL laps now u
  | [] => Nat.le_refl _
  | k :: laps => by
    rw [manyL_cons, manyL_cons]
    exact Nat.add_le_add (Nat.div_le_div_right (by omega)) (many_mono h laps)
theorem many_now (now : Nat) : ∀ laps : List Nat, manyL laps now now = 0
  | [] => rfl
  | k :: laps => by
    rw [manyL_cons, many_now now laps, Nat.sub_self, Nat.zero_div]
theorem many_ge {laps : List Nat} {k now t : Nat} (h : k ∈ laps) : (t - now) / k ≤ manyL laps now t := by
  induction laps with
  | nil => cases h
  | cons a laps ih =>
    rw [manyL_cons]
    rcases List.mem_cons.mp h with rfl | h
    · exact Nat.le_add_right _ _
    · exact Nat.le_trans (ih h) (Nat.le_add_left _ _)
/-- timers as the law's wheel has them at first -/
def mkTs (now : Nat) : Nat → List Nat → List Tm
  | _, [] => []
  | j, k :: ks => ⟨j, now + k, some k, now⟩ :: mkTs now (j + 1) ks
theorem mk_app (now k : Nat) : ∀ (ks : List Nat) (j : Nat), mkTs now j (ks ++ [k]) = mkTs now j ks ++ [⟨j + ks.length, now + k, some k, now⟩]
  | [], j => rfl
  | a :: ks, j => by
    show _ :: mkTs now (j + 1) (ks ++ [k]) = _
    rw [mk_app now k ks (j + 1), List.length_cons, show j + 1 + ks.length = j + (ks.length + 1) by omega]
    rfl
theorem mk_len (now : Nat) : ∀ (ks : List Nat) (j : Nat), (mkTs now j ks).length = ks.length
  | [], _ => rfl
  | a :: ks, j => congrArg (· + 1) (mk_len now ks (j + 1))
theorem mk_nums (now : Nat) : ∀ (ks : List Nat) (j : Nat), (mkTs now j ks).map (·.num) = List.range' j ks.length
  | [], _ => rfl
  | a :: ks, j => by
    show j :: (mkTs now (j + 1) ks).map (·.num) = _
    rw [mk_nums now ks (j + 1), List.length_cons, List.range'_succ]
theorem mk_mem {now : Nat} {m : Tm} : ∀ {ks : List Nat} {j : Nat}, m ∈ mkTs now j ks → ∃ k ∈ ks, m.due = now + k ∧ m.per = some k ∧ m.since = now ∧ j ≤ m.num ∧ m.num < j + ks.length
  | [], _, h => by cases h
  | a :: ks, j, h => by
    rcases List.mem_cons.mp h with rfl | h
    · exact ⟨a, List.mem_cons_self .., rfl, rfl, rfl, Nat.le_refl _, by rw [List.length_cons]; show j < _; omega⟩
    · obtain ⟨k, z1, z2, z3, z4, z5, z6⟩ := mk_mem h
      exact ⟨k, List.mem_cons_of_mem _ z1, z2, z3, z4, by omega, by rw [List.length_cons]; omega⟩
theorem fr_lap {now t k j : Nat} (hk : 1 ≤ k) : frN t ⟨j, now + k, some k, now⟩ = (t - now) / k := by
  unfold frN
  by_cases c : t < now + k
  · rw [if_pos c, Nat.div_eq_of_lt (by omega)]
  · rw [if_neg c]
    show 1 + (t - (now + k)) / k = _
    rw [show t - now = (t - (now + k)) + k by omega, Nat.add_div_right _ (by omega)]
    omega
theorem sum_mk (now t : Nat) : ∀ (ks : List Nat) (j : Nat), (∀ k ∈ ks, 1 ≤ k) → sumF t (mkTs now j ks) = manyL ks now t
  | [], _, _ => rfl
  | a :: ks, j, h => by
    show sumF t (⟨j, now + a, some a, now⟩ :: mkTs now (j + 1) ks) = _
    rw [sumF_cons, fr_lap (h a (List.mem_cons_self ..)), sum_mk now t ks (j + 1) fun k hk => h k (List.mem_cons_of_mem _ hk), manyL_cons]
/-- few ticks let few fire -/
theorem few_ticks {B e : Nat} : ∀ {ms : List Tm}, (∀ m ∈ ms, B < m.due) → sumF (B + e) ms ≤ e * ms.length
  | [], _ => Nat.le_refl _
  | m :: ms, h => by
    have ih := few_ticks (B := B) (e := e) (ms := ms) fun x hx => h x (List.mem_cons_of_mem _ hx)
    have hm := h m (List.mem_cons_self ..)
    rw [sumF_cons, List.length_cons, Nat.mul_add, Nat.mul_one]
    have y : frN (B + e) m ≤ e := by
      unfold frN
      by_cases c : B + e < m.due
      · rw [if_pos c]
        exact Nat.zero_le _
      · rw [if_neg c]
        split
        · omega
        · rename_i k _
          have z := Nat.div_le_self (B + e - m.due) k
          omega
    omega
/-- how many fire in all -/
theorem adv_total {b : Nat} {ws : List Bool} {t : Nat} {ms ms' : List Tm} {fired : List (Nat × List Nat)} (h : AdvTo b ws t ms fired ms') (hm : ∀ m ∈ ms, AdvT t m) (nd : (ms.map (·.num)).Nodup) (few : ms.length ≤ 1000) : total fired = sumF t ms := by
  obtain ⟨f2, ms2, a1, a2, a3, _⟩ := adv_gen b ws (Nat.le_refl t) _ ms (Nat.le_refl _) hm nd few
  obtain ⟨e1, e2⟩ := h.uniq a1
  have z : sumF t ms2 = 0 := sumF_none fun m hm => (a3 m hm).2.1
  rw [e1]
  omega
theorem total_sum (fs : List (Nat × List Nat)) : (fs.map fun f => ((f.2.length : Nat) : Int)).sum = ((total fs : Nat) : Int) := by
  unfold total
  induction fs with
  | nil => rfl
  | cons f fs ih =>
    rw [List.map_cons, List.sum_cons, List.map_cons, List.sum_cons, ih]
    omega
theorem many_sum (now t : Nat) (laps : List Nat) : (laps.map fun k => (((t - now) / k : Nat) : Int)).sum = ((manyL laps now t : Nat) : Int) := by
  induction laps with
  | nil => rfl
  | cons k laps ih =>
    rw [List.map_cons, List.sum_cons, ih, manyL_cons]
    omega
/-- ascending numbers that are those below n -/
theorem asc_range {n : Nat} {ns : List Nat} (hp : ns.Perm (List.range n)) (hs : ns.Pairwise (· ≤ ·)) : ns = List.range n := by
  refine List.Perm.eq_of_pairwise (le := fun a b => decide (a ≤ b)) (fun a b _ _ h1 h2 => ?_) ?_ ?_ hp
  · simp at h1 h2
    omega
  · exact hs.imp fun h => by simpa using h
  · exact List.pairwise_le_range.imp fun h => by simpa using h
/-! ### the law's drawing of numbers -/
def SrcAt (H : Hp) (p : Addr) : Prop := ∃ a b c : Int, H p = some (.lst [.int a, .int b, .int c])
/-- all but the source p stands as it was; p is a source again -/
structure Stp (p : Addr) (H H' : Hp) : Prop where
  keep : ∀ q o, q ≠ p → H q = some o → H' q = some o
  src : SrcAt H' p
theorem Stp.refl {p : Addr} {H : Hp} (h : SrcAt H p) : Stp p H H := ⟨fun _ _ _ e => e, h⟩
theorem Stp.trans {p : Addr} {H H1 H2 : Hp} (a : Stp p H H1) (b : Stp p H1 H2) : Stp p H H2 := ⟨fun q o n e => b.keep q o n (a.keep q o n e), b.src⟩
theorem Stp.same {p : Addr} {H H1 H2 : Hp} (a : Stp p H H1) (b : Same H1 H2) : Stp p H H2 := by
  obtain ⟨x, y, z, e⟩ := a.src
  exact ⟨fun q o n e => b q o (a.keep q o n e), ⟨x, y, z, b _ _ e⟩⟩
theorem SrcAt.same {p : Addr} {H H' : Hp} (h : SrcAt H p) (s : Same H H') : SrcAt H' p := by
  obtain ⟨a, b, c, e⟩ := h
  exact ⟨a, b, c, s _ _ e⟩
theorem Stp.free {p q : Addr} {H H' : Hp} (a : Stp p H H') (hq : H' q = none) : H q = none := by
  cases e : H q with
  | none => rfl
  | some o =>
    by_cases z : q = p
    · obtain ⟨x, y, u, w⟩ := a.src
      rw [z, w] at hq
      cases hq
    · rw [a.keep q o z e] at hq
      cases hq
theorem SrcAt.ne {H : Hp} {p l : Addr} (h : SrcAt H p) (hl : H l = none) : l ≠ p := fun e => by
  obtain ⟨x, y, z, w⟩ := h
  rw [e, w] at hl
  cases hl
theorem SrcAt.stp_same {p : Addr} {H H' : Hp} (h : SrcAt H p) (s : Same H H') : Stp p H H' := (Stp.refl h).same s
theorem Stp.seqL {K : PySem.W.Frag} {p a : Addr} {xs : List V} {H H' : Hp} (s : Stp p H H') (n : a ≠ p) (h : SqL K H a xs) : SqL K H' a xs := by
  rcases h with (h | ⟨o, h⟩) | h
  · exact .inl (.inl (s.keep _ _ n h))
  · exact .inl (.inr ⟨o, s.keep _ _ n h⟩)
  · exact .inr h
section
variable {P : Program} {w : World} {K : PySem.W.Frag} {mg : Str → Option Value} {base : Heap}
def spCellAt (K : PySem.W.Frag) : Sp := fun vs H Q _ => ∃ (a : Addr) (ns : List Int) (k : Nat), vs = [.ref a, .int (k : Nat)] ∧ SqL K H a (ns.map V.int) ∧ ∀ v : Int, Q (.int v) H
theorem ok_cell_at {f : Addr} {fd : FuncData} (F : Fun K "_law_cell_at" "_law_cell_at" s__law_cell_at f fd) (T : Tx K mg) : FnOk P w K mg base CX0 1 f fd ["_law_script", "_law_k"] (spCellAt K) := by
  refine F.ok sc__law_cell_at (fun vs H Q E h => ?_) (fun cdv A outer s H vs Q E hr h => ?_)
  · obtain ⟨a, ns, k, rfl, _⟩ := h
    rfl
  · obtain ⟨a, ns, k, rfl, hS, q⟩ := h
    refine ⟨_, (pss_cons (ps_if (pt_cmpR op_lt (pv 1) (pe_callB (lenK (K := K) rfl) (by rfl) T.b_len PySem.boot_len (pa_cons (pv 0) pa_nil)) (nomark _))
        (pss_one (ps_ret (pe_ix (ix_listK (K := K) rfl) (pv 0) (pv 1) (fun _ _ => rfl))))
        pss_nil)
      (pss_one (ps_ret pe_int))), ?_⟩
    refine ⟨_, rfl, .ref a, rfl, a, ns.map V.int, rfl, .inl hS, _, _, rfl, rfl, _, rfl, ite2 (fun e => ?_) (fun e => ?_)⟩
    · have hk : k < ns.length := by
        have z := of_decide_eq_true e
        rw [List.length_map] at z
        omega
      have g : (ns.map V.int)[k]? = some (.int ns[k]) := by
        rw [List.getElem?_map, List.getElem?_eq_getElem hk]
        rfl
      exact ⟨.ref a, rfl, _, rfl, a, _, _, _, rfl, rfl, hS, atI_nat g, q _⟩
    · exact q 0
def spMixed : Sp := fun vs H Q _ => ∃ c k : Int, vs = [.int c, .int k] ∧ ∀ r : Int, 0 ≤ r → r < 2147483563 → Q (.int r) H
theorem ok_mixed {f : Addr} {fd : FuncData} (F : Fun K "_law_mixed" "_law_mixed" s__law_mixed f fd)  : FnOk P w K mg base CX0 1 f fd ["_law_cell", "_law_k"] spMixed := by
  refine F.ok sc__law_mixed (fun vs H Q E h => ?_) (fun cdv A outer s H vs Q E hr h => ?_)
  · obtain ⟨c, k, rfl, _⟩ := h
    rfl
  · obtain ⟨c, k, rfl, q⟩ := h
    refine ⟨_, (pss_cons (ps_set (i := 2) sc__law_mixed.nd rfl (.inl rfl) (pe_op op_add (pe_op op_mod (pv 0) pe_int) (pe_op op_mulA (pe_op op_fdivW (pv 0) pe_int) pe_int)))
      (pss_cons (ps_set (i := 2) sc__law_mixed.nd rfl (.inl rfl) (pe_op op_mod (pe_op op_mulA (pe_op op_add (pe_op op_add (pv 2) (pe_op op_mulA pe_int (pv 1))) pe_int) pe_int) pe_int))
      (pss_cons (ps_set (i := 2) sc__law_mixed.nd rfl (.inl rfl) (pe_op op_mod (pe_op op_mulA (pv 2) (pe_op op_add (pe_op op_add (pe_op op_fdivW (pv 2) pe_int) pe_int) (pv 1))) pe_int))
      (pss_one (ps_ret (pe_op op_mod (pe_op op_mulA (pv 2) (pe_op op_add (pe_op op_fdivW (pv 2) pe_int) pe_int)) pe_int)))))), ?_⟩
    refine ⟨_, rfl, c, 2147483629, rfl, rfl, (by decide : (0 : Int) < 2147483629), _, rfl, c, 2147483629, rfl, rfl, div_s (by decide) (by decide), _, 30011, rfl, rfl, mul_r (by decide) (by decide), _, _, rfl, rfl, ?_⟩
    refine ⟨_, rfl, _, rfl, 69621, k, rfl, rfl, mul_l (by decide) (by decide), _, _, rfl, rfl, _, 1, rfl, rfl, _, 48271, rfl, rfl, mul_r (by decide) (by decide), _, 2147483629, rfl, rfl, (by decide : (0 : Int) < 2147483629), ?_⟩
    generalize hl : (c % 2147483629 + c / 2147483629 * 30011 + 69621 * k + 1) * 48271 = l0
    have b1 : 0 ≤ l0 % 2147483629 := Int.emod_nonneg _ (by decide)
    have b2 : l0 % 2147483629 < 2147483629 := Int.emod_lt_of_pos _ (by decide)
    refine ⟨_, rfl, _, rfl, l0 % 2147483629, 907, rfl, rfl, div_s (by decide) (by decide), _, 16831, rfl, rfl, _, rfl, _, k, rfl, rfl, l0 % 2147483629, _, rfl, rfl, mul_l (by omega) (by omega), _, 2147483587, rfl, rfl, (by decide : (0 : Int) < 2147483587), ?_⟩
    generalize (l0 % 2147483629) * (l0 % 2147483629 / 907 + 16831 + k) = l1
    have b3 : 0 ≤ l1 % 2147483587 := Int.emod_nonneg _ (by decide)
    have b4 : l1 % 2147483587 < 2147483587 := Int.emod_lt_of_pos _ (by decide)
    refine ⟨_, rfl, _, rfl, _, 1201, rfl, rfl, div_s (by decide) (by decide), _, 30011, rfl, rfl, _, _, rfl, rfl, mul_l (i := l1 % 2147483587) (by omega) (by omega), _, 2147483563, rfl, rfl, (by decide : (0 : Int) < 2147483563), ?_⟩
    exact q _ (Int.emod_nonneg _ (by decide)) (Int.emod_lt_of_pos _ (by decide))
def spSource (K : PySem.W.Frag) : Sp := fun vs H Q _ => ∃ (a : Addr) (ns : List Int) (k : Nat), vs = [.ref a, .int (k : Nat)] ∧ SqL K H a (ns.map V.int) ∧ ∀ H' p, Same H H' → H p = none → SrcAt H' p → Q (.ref p) H'
theorem ok_source {f : Addr} {fd : FuncData} (F : Fun K "_law_source" "_law_source" s__law_source f fd) (T : Tx K mg) (h1 : Has P w K mg base 1 "_law_cell_at" ["_law_script", "_law_k"] [] (spCellAt K))
    (h2 : Has P w K mg base 1 "_law_mixed" ["_law_cell", "_law_k"] [] spMixed) : FnOk P w K mg base CX0 2 f fd ["_law_script", "_law_k"] (spSource K) := by
  obtain ⟨f__law_cell_at, fd__law_cell_at, ds__law_cell_at, G__law_cell_at, m__law_cell_at, k__law_cell_at, b__law_cell_at, v__law_cell_at⟩ := h1
  obtain ⟨f__law_mixed, fd__law_mixed, ds__law_mixed, G__law_mixed, m__law_mixed, k__law_mixed, b__law_mixed, v__law_mixed⟩ := h2
  refine F.ok sc__law_source (fun vs H Q E h => ?_) (fun cdv A outer s H vs Q E hr h => ?_)
  · obtain ⟨a, ns, k, rfl, _⟩ := h
    rfl
  · obtain ⟨a, ns, k, rfl, hS, q⟩ := h
    refine ⟨_, (pss_cons (ps_if (pt_cmpR op_lt (pv 1) (pe_callB (lenK (K := K) rfl) (by rfl) T.b_len PySem.boot_len (pa_cons (pv 0) pa_nil)) (nomark _))
        (pss_one (ps_ret (pe_lst (pa_cons (pe_ix (ix_listK (K := K) rfl) (pv 0) (pv 1) (fun _ _ => rfl)) (pa_cons (pe_ix (ix_listK (K := K) rfl) (pv 0) (pv 1) (fun _ _ => rfl)) (pa_cons pe_int pa_nil))))))
        pss_nil)
      (pss_cons (ps_set (i := 2) sc__law_source.nd rfl (.inl rfl) (pe_call G__law_mixed hr (by rfl) m__law_mixed k__law_mixed b__law_mixed v__law_mixed pass0 (pa_cons (pe_call G__law_cell_at hr (by rfl) m__law_cell_at k__law_cell_at b__law_cell_at v__law_cell_at pass0 (pa_cons (pv 0) (pa_cons pe_int pa_nil))) (pa_cons (pe_op op_add pe_int (pv 1)) pa_nil))))
      (pss_one (ps_ret (pe_lst (pa_cons (pv 2) (pa_cons (pv 2) (pa_cons pe_int pa_nil)))))))), ?_⟩
    refine ⟨_, rfl, .ref a, rfl, a, ns.map V.int, rfl, .inl hS, _, _, rfl, rfl, _, rfl, ite2 (fun e => ?_) (fun e => ?_)⟩
    · have hk : k < ns.length := by
        have z := of_decide_eq_true e
        rw [List.length_map] at z
        omega
      have g : (ns.map V.int)[k]? = some (.int ns[k]) := by
        rw [List.getElem?_map, List.getElem?_eq_getElem hk]
        rfl
      refine ⟨.ref a, rfl, _, rfl, a, _, _, _, rfl, rfl, hS, atI_nat g, .ref a, rfl, _, rfl, a, _, _, _, rfl, rfl, hS, atI_nat g, by simp [sizeLine_eq], fun p hp => ?_⟩
      exact q _ p (same_upd hp) hp ⟨_, _, _, upd_same⟩
    · refine ⟨.ref a, rfl, a, ns, 0, rfl, hS, fun v => ⟨_, rfl, 1000, _, rfl, rfl, v, _, rfl, fun r _ _ => ?_⟩⟩
      refine ⟨_, rfl, _, rfl, by simp [sizeLine_eq], fun p hp => ?_⟩
      exact q _ p (same_upd hp) hp ⟨_, _, _, upd_same⟩
def spNext : Sp := fun vs H Q _ => ∃ (p : Addr) (m : Int), vs = [.ref p, .int m] ∧ 0 < m ∧ m < 2 ^ 300 ∧ SrcAt H p ∧ ∀ (r : Nat) H', (r : Int) < m → Stp p H H' → Q (.int (r : Nat)) H'
theorem ok_next {f : Addr} {fd : FuncData} (F : Fun K "_law_next" "_law_next" s__law_next f fd)  (h2 : Has P w K mg base 1 "_law_mixed" ["_law_cell", "_law_k"] [] spMixed) : FnOk P w K mg base CX0 2 f fd ["_law_source_here", "_law_many_here"] spNext := by
  obtain ⟨f__law_mixed, fd__law_mixed, ds__law_mixed, G__law_mixed, m__law_mixed, k__law_mixed, b__law_mixed, v__law_mixed⟩ := h2
  refine F.ok sc__law_next (fun vs H Q E h => ?_) (fun cdv A outer s H vs Q E hr h => ?_)
  · obtain ⟨p, m, rfl, _⟩ := h
    rfl
  · obtain ⟨p, m, rfl, hm, hm2, ⟨a, b, c, hp⟩, q⟩ := h
    have fin : ∀ (x : Int) (H' : Hp), Stp p H H' → Q (.int (x % m)) H' := fun x H' s => by
      have h0 : 0 ≤ x % m := Int.emod_nonneg _ (by omega)
      have h1 : x % m < m := Int.emod_lt_of_pos _ hm
      have e : ((x % m).toNat : Int) = x % m := Int.toNat_of_nonneg h0
      have z := q (x % m).toNat H' (by omega) s
      rw [e] at z
      exact z
    have st : ∀ x y z : Int, Stp p H (upd H p (.lst [.int x, .int y, .int z])) := fun x y z => ⟨fun q o n e => by rw [upd_ne n]; exact e, ⟨x, y, z, upd_same⟩⟩
    refine ⟨_, (pss_cons (ps_if (pt_cmpR op_ge (pe_ix (ix_listK (K := K) rfl) (pv 0) pe_int (fun _ _ => rfl)) (pe_op op_pow pe_int pe_int) (nomark _))
        (pss_cons (ps_set (i := 2) sc__law_next.nd rfl (.inl rfl) (pe_op op_mod (pe_ix (ix_listK (K := K) rfl) (pv 0) pe_int (fun _ _ => rfl)) (pv 1)))
        (pss_cons (ps_asg (pe_op op_fdivW (pe_ix (ix_listK (K := K) rfl) (pv 0) pe_int (fun _ _ => rfl)) (pv 1)) (pg_sub (pv 0) pe_int set_list))
        (pss_one (ps_ret (pv 2)))))
        pss_nil)
      (pss_cons (ps_asg (pe_op op_add (pe_ix (ix_listK (K := K) rfl) (pv 0) pe_int (fun _ _ => rfl)) pe_int) (pg_sub (pv 0) pe_int set_list))
      (pss_one (ps_ret (pe_op op_mod (pe_call G__law_mixed hr (by rfl) m__law_mixed k__law_mixed b__law_mixed v__law_mixed pass0 (pa_cons (pe_ix (ix_listK (K := K) rfl) (pv 0) pe_int (fun _ _ => rfl)) (pa_cons (pe_ix (ix_listK (K := K) rfl) (pv 0) pe_int (fun _ _ => rfl)) pa_nil))) (pv 1)))))), ?_⟩
    refine ⟨.ref p, rfl, p, _, 0, .int a, rfl, rfl, SqL.of hp, atI_nat (j := 0) rfl, 10, 18, rfl, rfl, ⟨by decide, by decide, by decide⟩, a, _, rfl, rfl, _, rfl, ite2 (fun _ => ?_) (fun _ => ?_)⟩
    · refine ⟨.ref p, rfl, p, _, 0, .int a, rfl, rfl, SqL.of hp, atI_nat (j := 0) rfl, .int m, rfl, a, m, rfl, rfl, hm, ?_⟩
      refine ⟨.ref p, rfl, p, _, 0, .int a, rfl, rfl, SqL.of hp, atI_nat (j := 0) rfl, .int m, rfl, a, m, rfl, rfl, div_s hm hm2, ?_⟩
      refine ⟨.ref p, rfl, p, _, 0, 0, rfl, rfl, hp, rfl, ?_⟩
      exact ⟨_, rfl, fin a _ (st _ _ _)⟩
    · refine ⟨.ref p, rfl, p, _, 2, .int c, rfl, rfl, SqL.of hp, atI_nat (j := 2) rfl, c, 1, rfl, rfl, ?_⟩
      refine ⟨.ref p, rfl, p, _, 2, 2, rfl, rfl, hp, rfl, ?_⟩
      have h2 : (upd H p (.lst [.int a, .int b, .int (c + 1)])) p = some (.lst [.int a, .int b, .int (c + 1)]) := upd_same
      refine ⟨.ref p, rfl, p, _, 1, .int b, rfl, rfl, SqL.of h2, atI_nat (j := 1) rfl, .ref p, rfl, p, _, 2, .int (c + 1), rfl, rfl, SqL.of h2, atI_nat (j := 2) rfl, b, c + 1, rfl, fun r _ _ => ?_⟩
      exact ⟨.int m, rfl, r, m, rfl, rfl, hm, fin r _ (st _ _ _)⟩
end
/-! ### the law's bases -/
section
variable {P : Program} {w : World} {K : PySem.W.Frag} {mg : Str → Option Value} {base : Heap}
def spBase : Sp := fun vs H Q _ => ∃ (p : Addr), vs = [.ref p] ∧ SrcAt H p ∧ ∀ (b : Nat) H', 2 ≤ b → b ≤ 64 → Stp p H H' → Q (.int (b : Nat)) H'
theorem ok_base {f : Addr} {fd : FuncData} (F : Fun K "_law_base" "_law_base" s__law_base f fd) (h1 : Has P w K mg base 2 "_law_next" ["_law_source_here", "_law_many_here"] [] spNext) : FnOk P w K mg base CX0 3 f fd ["_law_source_here"] spBase := by
  obtain ⟨f__law_next, fd__law_next, ds__law_next, G__law_next, m__law_next, k__law_next, b__law_next, v__law_next⟩ := h1
  refine F.ok sc__law_base (fun vs H Q E h => ?_) (fun cdv A outer s H vs Q E hr h => ?_)
  · obtain ⟨p, rfl, _⟩ := h
    rfl
  · obtain ⟨p, rfl, hs, q⟩ := h
    refine ⟨_, (pss_one (ps_ret (pe_ix (ix_listK (K := K) rfl) (pe_lst (pa_cons pe_int (pa_cons pe_int (pa_cons pe_int (pa_cons pe_int (pa_cons pe_int (pa_cons pe_int (pa_cons pe_int (pa_cons pe_int (pa_cons pe_int pa_nil)))))))))) (pe_call G__law_next hr (by rfl) m__law_next k__law_next b__law_next v__law_next pass0 (pa_cons (pv 0) (pa_cons pe_int pa_nil))) (fun _ _ => rfl)))), ?_⟩
    refine ⟨by simp [sizeLine_eq], fun l hl => ?_⟩
    have s1 := same_upd (o := .lst [.int 2, .int 3, .int 4, .int 5, .int 7, .int 10, .int 16, .int 63, .int 64]) hl
    have nlp : l ≠ p := fun e => by
      obtain ⟨x, y, z, h⟩ := hs
      rw [e, h] at hl
      cases hl
    refine ⟨_, rfl, p, 9, rfl, by decide, by decide, hs.same s1, fun r H' hr9 st => ?_⟩
    have eL := st.keep _ _ nlp upd_same
    have hst : Stp p H H' := (hs.stp_same s1).trans st
    have hr : r < 9 := by omega
    have all : ∀ j : Nat, j < 9 → ∃ b : Nat, ([.int 2, .int 3, .int 4, .int 5, .int 7, .int 10, .int 16, .int 63, .int 64] : List V)[j]? = some (.int (b : Nat)) ∧ 2 ≤ b ∧ b ≤ 64 := by
      intro j hj
      match j, hj with
      | 0, _ => exact ⟨2, rfl, by decide, by decide⟩
      | 1, _ => exact ⟨3, rfl, by decide, by decide⟩
      | 2, _ => exact ⟨4, rfl, by decide, by decide⟩
      | 3, _ => exact ⟨5, rfl, by decide, by decide⟩
      | 4, _ => exact ⟨7, rfl, by decide, by decide⟩
      | 5, _ => exact ⟨10, rfl, by decide, by decide⟩
      | 6, _ => exact ⟨16, rfl, by decide, by decide⟩
      | 7, _ => exact ⟨63, rfl, by decide, by decide⟩
      | 8, _ => exact ⟨64, rfl, by decide, by decide⟩
      | j + 9, h => omega
    obtain ⟨b, eb, b2, b64⟩ := all r hr
    exact ⟨l, _, r, .int (b : Nat), rfl, rfl, SqL.of eL, atI_nat eb, q b H' b2 b64 hst⟩
end
section
variable {P : Program} {w : World} {K : PySem.W.Frag} {mg : Str → Option Value} {base : Heap}
theorem flat_rep {α : Type} (x : α) : ∀ n : Nat, (List.replicate n [x]).flatten = List.replicate n x
  | 0 => rfl
  | n + 1 => by
    rw [List.replicate_succ, List.flatten_cons, flat_rep x n, List.replicate_succ]
    rfl
theorem pick_lv {r : Nat} (h : r < 2) : ([.str "stack", .str "queue"] : List V)[r]? = some (lvV (decide (r = 0))) := by
  match r, h with
  | 0, _ => rfl
  | 1, _ => rfl
  | r + 2, h => omega
theorem pick_vl {r : Nat} (h : r < 2) : ([.str "queue", .str "stack"] : List V)[r]? = some (lvV (decide (r = 1))) := by
  match r, h with
  | 0, _ => rfl
  | 1, _ => rfl
  | r + 2, h => omega
def spLevels : Sp := fun vs H Q _ => ∃ (p : Addr), vs = [.ref p] ∧ SrcAt H p ∧ ∀ H' q (ws : List Bool), Stp p H H' → H q = none → H' q = some (.lst (ws.map lvV)) → ws ≠ [] → ws.length ≤ 60 → Q (.ref q) H'
theorem ok_levels {f : Addr} {fd : FuncData} (F : Fun K "_law_levels" "_law_levels" s__law_levels f fd) (T : Tx K mg) (h1 : Has P w K mg base 2 "_law_next" ["_law_source_here", "_law_many_here"] [] spNext) : FnOk P w K mg base CX0 3 f fd ["_law_source_here"] spLevels := by
  obtain ⟨f__law_next, fd__law_next, ds__law_next, G__law_next, m__law_next, k__law_next, b__law_next, v__law_next⟩ := h1
  refine F.ok sc__law_levels (fun vs H Q E h => ?_) (fun cdv A outer s H vs Q E hr h => ?_)
  · obtain ⟨p, rfl, _⟩ := h
    rfl
  · obtain ⟨p, rfl, hs, c⟩ := h
    refine ⟨_, (pss_cons (ps_set (i := 1) sc__law_levels.nd rfl (.inl rfl) (pe_ix (ix_listK (K := K) rfl) (pe_lst (pa_cons (pe_op op_add pe_int (pe_call G__law_next hr (by rfl) m__law_next k__law_next b__law_next v__law_next pass0 (pa_cons (pv 0) (pa_cons pe_int pa_nil)))) (pa_cons (pe_op op_add pe_int (pe_call G__law_next hr (by rfl) m__law_next k__law_next b__law_next v__law_next pass0 (pa_cons (pv 0) (pa_cons pe_int pa_nil)))) pa_nil))) (pe_callTy call_int1 (by rfl) T.b_int (by decide +kernel) (pa_cons (pe_cmpR op_eq (pe_call G__law_next hr (by rfl) m__law_next k__law_next b__law_next v__law_next pass0 (pa_cons (pv 0) (pa_cons pe_int pa_nil))) pe_int (nomark _)) pa_nil)) (fun _ _ => rfl)))
      (pss_cons (ps_set (i := 2) sc__law_levels.nd rfl (.inl rfl) (pe_call G__law_next hr (by rfl) m__law_next k__law_next b__law_next v__law_next pass0 (pa_cons (pv 0) (pa_cons pe_int pa_nil))))
      (pss_cons (ps_if (pt_cmpR op_lt (pv 2) pe_int (nomark _))
        (pss_one (ps_ret (pe_op op_rep (pe_lst (pa_cons (pe_ix (ix_listK (K := K) rfl) (pe_lst (pa_cons pe_str (pa_cons pe_str pa_nil))) (pv 2) (fun _ _ => rfl)) pa_nil)) (pv 1))))
        pss_nil)
      (pss_cons (ps_setLc (i := 3) (own := [("_law_at", 4)]) (g := gName 4) (tt := tYes) rfl sc__law_levels.nd rfl rfl (sw_true rfl rfl rfl (by decide +kernel)) (pi_range1 (by rfl) T.b_range (pa_cons (pv 1) pa_nil)) (blkOk_by (own := [("_law_at", 4)]) (N := N__law_levels) (sc := defScope s__law_levels) (by decide +kernel)) (fun _ _ _ _ _ => (pg_name (i := 4) sc__law_levels.nd rfl (.inl rfl))) (fun _ _ _ _ _ => pts_nil) (fun _ _ _ _ _ => (pe_ix (ix_listK (K := K) rfl) (pe_lst (pa_cons pe_str (pa_cons pe_str pa_nil))) (pe_call G__law_next hr (by rfl) m__law_next k__law_next b__law_next v__law_next pass0 (pa_cons (pv 0) (pa_cons pe_int pa_nil))) (fun _ _ => rfl))))
      (pss_cons (ps_if (pt_cmpR op_eq (pv 2) pe_int (nomark _))
        (pss_one (ps_setLc (i := 3) (own := [("_law_at", 4)]) (g := gName 4) (tt := tYes) rfl sc__law_levels.nd rfl rfl (sw_true rfl rfl rfl (by decide +kernel)) (pi_range1 (by rfl) T.b_range (pa_cons (pv 1) pa_nil)) (blkOk_by (own := [("_law_at", 4)]) (N := N__law_levels) (sc := defScope s__law_levels) (by decide +kernel)) (fun _ _ _ _ _ => (pg_name (i := 4) sc__law_levels.nd rfl (.inl rfl))) (fun _ _ _ _ _ => pts_nil) (fun _ _ _ _ _ => (pe_ix (ix_listK (K := K) rfl) (pe_lst (pa_cons pe_str (pa_cons pe_str pa_nil))) (pe_op op_mod (pv 4) pe_int) (fun _ _ => rfl)))))
        pss_nil)
      (pss_one (ps_ret (pv 3)))))))), ?_⟩
    -- many
    refine ⟨_, rfl, p, 6, rfl, by decide, by decide, hs, fun r1 H1 hr1 s1 => ⟨1, r1, rfl, rfl, _, rfl, p, 60, rfl, by decide, by decide, s1.src, fun r2 H2 hr2 s2 => ⟨1, r2, rfl, rfl, by simp [sizeLine_eq], fun l hl => ?_⟩⟩⟩
    have s3 : Stp p H2 (upd H2 l (.lst [.int (1 + (r1 : Int)), .int (1 + (r2 : Int))])) := s2.src.stp_same (same_upd hl)
    refine ⟨_, rfl, p, 5, rfl, by decide, by decide, s3.src, fun r3 H4 hr3 s4 => ⟨rfl, .inr ⟨_, rfl, ?_⟩⟩⟩
    have eL := s4.keep _ _ (s2.src.ne hl) upd_same
    obtain ⟨m, em, hm0, hm⟩ : ∃ m : Nat, ([.int (1 + (r1 : Int)), .int (1 + (r2 : Int))] : List V)[if decide (V.int (r3 : Nat) = V.int 4) = true then 1 else 0]? = some (.int (m : Nat)) ∧ 1 ≤ m ∧ m ≤ 60 := by
      split
      · exact ⟨1 + r2, rfl, by omega, by omega⟩
      · exact ⟨1 + r1, rfl, by omega, by omega⟩
    refine ⟨l, _, ((if decide (V.int (r3 : Nat) = V.int 4) = true then 1 else 0 : Nat) : Int), _, rfl, ?_, SqL.of eL, atI_nat em, ?_⟩
    · split <;> rfl
    have s04 := ((s1.trans s2).trans s3).trans s4
    -- sort
    refine ⟨_, rfl, p, 5, rfl, by decide, by decide, s4.src, fun r5 H5 hr5 s5 => ?_⟩
    have s05 := s04.trans s5
    refine ⟨_, rfl, _, 2, rfl, rfl, _, rfl, ite2 (fun e => ?_) (fun e0 => ?_)⟩
    · have hr2' : r5 < 2 := by
        have z := of_decide_eq_true e
        omega
      refine ⟨by simp [sizeLine_eq], fun l6 hl6 => ?_⟩
      refine ⟨_, rfl, l6, _, r5, _, rfl, rfl, SqL.of upd_same, atI_nat (pick_lv hr2'), by simp [sizeLine_eq], fun l7 hl7 => ?_⟩
      refine ⟨_, rfl, l7, (m : Nat), _, rfl, rfl, upd_same, by omega, by omega, ?_, fun q hq => ?_⟩
      · exact sizeLine_le (by show 1 * m ≤ 1000000; omega)
      · have s8 := ((s05.same (same_upd hl6)).same (same_upd hl7)).same (same_upd (o := .lst (List.replicate ((m : Nat) : Int).toNat [lvV (decide (r5 = 0))]).flatten) hq)
        refine c _ q (List.replicate m (decide (r5 = 0))) s8 ?_ ?_ ?_ ?_
        · exact ((s05.same (same_upd hl6)).same (same_upd hl7)).free hq
        · rw [upd_same, flat_rep, List.map_replicate]
          rfl
        · intro e
          have z := congrArg List.length e
          rw [List.length_replicate] at z
          exact absurd z (by show ¬ m = 0; omega)
        · rw [List.length_replicate]
          exact hm
    · -- drawn words
      refine ⟨_, rfl, m, rfl, by omega, by omega, fun D hD => lc_range (lo := 0) (n := ((m : Nat) : Int).toNat) (fun i H' => Stp p H5 H' ∧ ∃ ws : List Bool, ws.length = i ∧ H' D = some (.lst (ws.map lvV)))
        ⟨s5.src.stp_same (same_upd hD), [], rfl, upd_same⟩ ?_ ?_⟩
      · rintro i H' hi ⟨st, ws, hw, eD⟩
        have nDp : D ≠ p := s5.src.ne hD
        refine ⟨rfl, yesT (iteT ?_)⟩
        refine ⟨by simp [sizeLine_eq], fun l8 hl8 => ?_⟩
        have s8 : Stp p H' (upd H' l8 (.lst [.str "queue", .str "stack"])) := st.src.stp_same (same_upd hl8)
        refine ⟨_, rfl, p, 2, rfl, by decide, by decide, s8.src, fun r9 H9 hr9 s9 => ?_⟩
        have eL8 := s9.keep _ _ (st.src.ne hl8) upd_same
        have eD9 := s9.keep _ _ nDp (s8.keep _ _ nDp eD)
        refine ⟨l8, _, r9, _, rfl, rfl, SqL.of eL8, atI_nat (pick_vl (by omega)), _, eD9, ?_, ⟨fun b o n e => ?_, ?_⟩, ws ++ [decide (r9 = 1)], ?_, ?_⟩
        · rw [List.length_map, hw]
          exact sizeLine_ge (by omega)
        · rw [upd_ne (ne_of_none e hD)]
          exact s9.keep _ _ n (s8.keep _ _ n (st.keep _ _ n e))
        · obtain ⟨x, y, z, h⟩ := s9.src
          exact ⟨x, y, z, by rw [upd_ne nDp.symm]; exact h⟩
        · rw [List.length_append, hw]
          rfl
        · rw [upd_same, List.map_append]
          rfl
      rintro H6 ⟨s6, ws, hw, eD⟩
      have hw' : ws.length = m := by rw [hw]; exact Int.toNat_natCast m
      have s06 := s05.trans s6
      have last : ∀ H7 q (vs : List Bool), Stp p H H7 → H q = none → H7 q = some (.lst (vs.map lvV)) → vs.length = m → Q (.ref q) H7 := fun H7 q vs st hq eq hv =>
        c H7 q vs st hq eq (fun e => by
          rw [e] at hv
          exact absurd hv (by show ¬ 0 = m; omega)) (by omega)
      have hD0 : H D = none := s05.free hD
      refine ⟨_, rfl, rfl, _, rfl, ite2 (fun e => ?_) (fun e => ?_)⟩
      · refine ⟨_, rfl, m, rfl, by omega, by omega, fun D2 hD2 => lc_range (lo := 0) (n := ((m : Nat) : Int).toNat) (fun i H' => Same H6 H' ∧ ∃ ws : List Bool, ws.length = i ∧ H' D2 = some (.lst (ws.map lvV)))
          ⟨same_upd hD2, [], rfl, upd_same⟩ ?_ ?_⟩
        · rintro i H' hi ⟨st, ws2, hw2, eD2⟩
          refine ⟨rfl, yesT (iteT ?_)⟩
          refine ⟨by simp [sizeLine_eq], fun l8 hl8 => ?_⟩
          have s8 := same_upd (o := .lst [.str "queue", .str "stack"]) hl8
          have ei : (0 + (i : Int)) % 2 = ((i % 2 : Nat) : Int) := by omega
          refine ⟨_, rfl, _, 2, rfl, rfl, (by decide : (0 : Int) < 2), l8, _, ((i % 2 : Nat) : Int), _, rfl, congrArg V.int ei, SqL.of upd_same, atI_nat (pick_vl (Nat.mod_lt i (by decide))), _, s8 _ _ eD2, ?_, fun b o e => ?_, ws2 ++ [decide (i % 2 = 1)], ?_, ?_⟩
          · rw [List.length_map, hw2]
            exact sizeLine_ge (by omega)
          · rw [upd_ne (ne_of_none e hD2)]
            exact s8 _ _ (st _ _ e)
          · rw [List.length_append, hw2]
            rfl
          · rw [upd_same, List.map_append]
            rfl
        rintro H7 ⟨s7, ws2, hw2, eD2⟩
        refine ⟨_, rfl, last H7 D2 ws2 (s06.same s7) (s06.free hD2) eD2 ?_⟩
        rw [hw2]
        exact Int.toNat_natCast m
      · exact ⟨_, rfl, last H6 D ws s06 hD0 eD hw'⟩
end
/-! ### the law's ticks -/
theorem emod_le_self {a m : Int} (h : 0 ≤ a) (hm : 0 < m) : a % m ≤ a := by
  have e := Int.emod_add_mul_ediv a m
  have z : 0 ≤ m * (a / m) := Int.mul_nonneg (Int.le_of_lt hm) (Int.ediv_nonneg h (Int.le_of_lt hm))
  omega
theorem pow64_le {b j : Nat} (h : b ≤ 64) (hj : j ≤ 30) : b ^ j < 2 ^ 181 := by
  have h1 : b ^ j ≤ 64 ^ j := Nat.pow_le_pow_left h j
  have h2 : (64 : Nat) ^ j ≤ 64 ^ 30 := Nat.pow_le_pow_right (by decide) hj
  have h3 : (64 : Nat) ^ 30 < 2 ^ 181 := by decide
  omega
section
variable {P : Program} {w : World} {K : PySem.W.Frag} {mg : Str → Option Value} {base : Heap}
/-- a pick of a list of two, by a number less than 2 -/
theorem pick2 {x y : V} {r : Nat} (h : r < 2) : ([x, y] : List V)[r]? = some (if r = 0 then x else y) := by
  match r, h with
  | 0, _ => rfl
  | 1, _ => rfl
  | r + 2, h => omega
def spTick : Sp := fun vs H Q _ => ∃ (p : Addr) (b : Nat), vs = [.ref p, .int (b : Nat)] ∧ 2 ≤ b ∧ b ≤ 64 ∧ SrcAt H p ∧ ∀ (t : Nat) H', t < 2 ^ 190 → Stp p H H' → Q (.int (t : Nat)) H'
theorem ok_tick {f : Addr} {fd : FuncData} (F : Fun K "_law_tick" "_law_tick" s__law_tick f fd) (T : Tx K mg) (h1 : Has P w K mg base 2 "_law_next" ["_law_source_here", "_law_many_here"] [] spNext) : FnOk P w K mg base CX0 3 f fd ["_law_source_here", "_law_base_here"] spTick := by
  obtain ⟨f__law_next, fd__law_next, ds__law_next, G__law_next, m__law_next, k__law_next, b__law_next, v__law_next⟩ := h1
  refine F.ok sc__law_tick (fun vs H Q E h => ?_) (fun cdv A outer s H vs Q E hr h => ?_)
  · obtain ⟨p, b, rfl, _⟩ := h
    rfl
  · obtain ⟨p, b, rfl, hb2, hb64, hs, q⟩ := h
    have two : ∀ {H : Hp} {l : Addr} {o : HO}, SrcAt H p → H l = none → Stp p H (upd H l o) ∧ l ≠ p := fun {H l o} hs hl =>
      ⟨hs.stp_same (same_upd hl), fun e => by
        obtain ⟨x, y, z, h⟩ := hs
        rw [e, h] at hl
        cases hl⟩
    refine ⟨_, (pss_cons (ps_set (i := 2) sc__law_tick.nd rfl (.inl rfl) (pe_call G__law_next hr (by rfl) m__law_next k__law_next b__law_next v__law_next pass0 (pa_cons (pv 0) (pa_cons pe_int pa_nil))))
      (pss_cons (ps_if (pt_cmpR op_lt (pv 2) pe_int (nomark _))
        (pss_one (ps_ret (pe_call G__law_next hr (by rfl) m__law_next k__law_next b__law_next v__law_next pass0 (pa_cons (pv 0) (pa_cons (pe_ix (ix_listK (K := K) rfl) (pe_lst (pa_cons pe_int (pa_cons pe_int pa_nil))) (pv 2) (fun _ _ => rfl)) pa_nil)))))
        pss_nil)
      (pss_cons (ps_set (i := 3) sc__law_tick.nd rfl (.inl rfl) pe_int)
      (pss_cons (ps_for PassesOwn.never rfl (pi_range1 (by rfl) T.b_range (pa_cons (pe_call G__law_next hr (by rfl) m__law_next k__law_next b__law_next v__law_next pass0 (pa_cons (pv 0) (pa_cons (pe_ix (ix_listK (K := K) rfl) (pe_lst (pa_cons pe_int (pa_cons pe_int pa_nil))) (pe_call G__law_next hr (by rfl) m__law_next k__law_next b__law_next v__law_next pass0 (pa_cons (pv 0) (pa_cons pe_int pa_nil))) (fun _ _ => rfl)) pa_nil))) pa_nil)) (pg_name (i := 4) sc__law_tick.nd rfl (.inl rfl))
        (pss_one (ps_set (i := 3) sc__law_tick.nd rfl (.inl rfl) (pe_op op_mulA (pv 3) (pv 1)))))
      (pss_cons (ps_set (i := 3) sc__law_tick.nd rfl (.inl rfl) (pe_op op_mod (pv 3) (pe_op op_pow pe_int pe_int)))
      (pss_cons (ps_if (pt_cmpR op_eq (pv 2) pe_int (nomark _))
        (pss_one (ps_ret (pe_callB (call_max2 rfl) (by rfl) T.b_max (by decide +kernel) (pa_cons pe_int (pa_cons (pe_op op_sub (pe_op op_add (pv 3) (pe_call G__law_next hr (by rfl) m__law_next k__law_next b__law_next v__law_next pass0 (pa_cons (pv 0) (pa_cons pe_int pa_nil)))) pe_int) pa_nil)))))
        pss_nil)
      (pss_cons (ps_if (pt_cmpR op_eq (pv 2) pe_int (nomark _))
        (pss_one (ps_ret (pe_op op_add (pe_op op_mulA (pv 3) (pe_op op_add pe_int (pe_call G__law_next hr (by rfl) m__law_next k__law_next b__law_next v__law_next pass0 (pa_cons (pv 0) (pa_cons (pv 1) pa_nil))))) (pe_call G__law_next hr (by rfl) m__law_next k__law_next b__law_next v__law_next pass0 (pa_cons (pv 0) (pa_cons (pv 1) pa_nil))))))
        pss_nil)
      (pss_one (ps_ret (pe_op op_add (pe_op op_mulA (pe_call G__law_next hr (by rfl) m__law_next k__law_next b__law_next v__law_next pass0 (pa_cons (pv 0) (pa_cons (pe_op op_pow pe_int pe_int) pa_nil))) (pe_op op_pow pe_int pe_int)) (pe_call G__law_next hr (by rfl) m__law_next k__law_next b__law_next v__law_next pass0 (pa_cons (pv 0) (pa_cons (pe_op op_pow pe_int pe_int) pa_nil))))))))))))), ?_⟩
    -- sort = next(source, 5)
    refine ⟨_, rfl, p, 5, rfl, by decide, by decide, hs, fun r0 H1 hr0 s1 => ?_⟩
    refine ⟨_, rfl, _, 2, rfl, rfl, _, rfl, ite2 (fun e => ?_) (fun e0 => ?_)⟩
    · -- near ones
      have hr2 : r0 < 2 := by
        have z := of_decide_eq_true e
        omega
      refine ⟨_, rfl, by simp [sizeLine_eq], fun l hl => ?_⟩
      obtain ⟨s2, nl⟩ := two (o := .lst [.int 6, .int 400]) s1.src hl
      refine ⟨_, rfl, l, _, r0, _, rfl, rfl, SqL.of upd_same, atI_nat (pick2 hr2), p, if r0 = 0 then 6 else 400, ?_, ?_, ?_, s2.src, fun r H2 hr s3 => ?_⟩
      · show [V.ref p, if r0 = 0 then V.int 6 else V.int 400] = _
        split <;> rfl
      · split <;> decide
      · split <;> decide
      · refine q r H2 ?_ ((s1.trans s2).trans s3)
        have z : r < 400 := by
          split at hr <;> omega
        exact Nat.lt_trans z (by decide)
    · -- size = 1; for at in range(next(..)): size = size * base
      refine ⟨_, rfl, by simp [sizeLine_eq], fun l hl => ?_⟩
      obtain ⟨s2, nl⟩ := two (o := .lst [.int 4, .int 30]) s1.src hl
      refine ⟨_, rfl, p, 2, rfl, by decide, by decide, s2.src, fun r1 H2 hr1 s3 => ?_⟩
      have eL : H2 l = some (.lst [.int 4, .int 30]) := s3.keep _ _ nl upd_same
      refine ⟨l, _, r1, _, rfl, rfl, SqL.of eL, atI_nat (pick2 (by omega)), p, if r1 = 0 then 4 else 30, ?_, ?_, ?_, s3.src, fun r2 H3 hr2 s4 => ?_⟩
      · show [V.ref p, if r1 = 0 then V.int 4 else V.int 30] = _
        split <;> rfl
      · split <;> decide
      · split <;> decide
      have hr30 : r2 < 30 := by
        split at hr2 <;> omega
      have s14 := ((s1.trans s2).trans s3).trans s4
      refine ⟨_, rfl, by omega, by omega, for_range (Pv := fun i σ H' => H' = H3 ∧ ∃ y, σ = [some (.ref p), some (.int (b : Nat)), some (.int (r0 : Nat)), some (.int ((b ^ i : Nat) : Int)), y]) ⟨rfl, none, rfl⟩ ?_ ?_⟩
      · rintro i σ H' hi ⟨rfl, y, rfl⟩
        have hi30 : i < 30 := by omega
        have hb : b ^ i < 2 ^ 181 := pow64_le hb64 (by omega)
        refine ⟨_, rfl, _, rfl, _, _, rfl, rfl, mul_r (by omega) (by omega), ?_⟩
        refine ⟨rfl, some (.int (0 + (i : Int))), ?_⟩
        rw [Nat.pow_succ, Int.natCast_mul]
        rfl
      · rintro σ H' ⟨rfl, y, rfl⟩
        have h58 : (0 : Int) < (10 : Int) ^ (58 : Int).toNat := by decide
        refine ⟨_, rfl, 10, 58, rfl, rfl, ⟨by decide, by decide, by decide⟩, _, _, rfl, rfl, h58, ?_⟩
        generalize hz : (((b ^ ((r2 : Nat) : Int).toNat : Nat) : Int) % (10 : Int) ^ (58 : Int).toNat) = z
        have z0 : 0 ≤ z := by
          rw [← hz]
          exact Int.emod_nonneg _ (by decide)
        have z1 : z < 2 ^ 181 := by
          rw [← hz]
          refine Int.lt_of_le_of_lt (emod_le_self (by omega) (by decide)) ?_
          have := pow64_le (j := ((r2 : Nat) : Int).toNat) hb64 (by omega)
          omega
        -- sort == 2
        refine ⟨_, rfl, rfl, _, rfl, ite2 (fun _ => ?_) (fun _ => ?_)⟩
        · refine ⟨_, rfl, _, rfl, p, 3, rfl, by decide, by decide, s14.src, fun r3 H4 hr3 s5 => ?_⟩
          refine ⟨z, r3, congrArg V.int hz, rfl, _, 1, rfl, rfl, 0, _, rfl, ?_⟩
          have e3 : (if z + (r3 : Int) - 1 > 0 then z + (r3 : Int) - 1 else 0) = (((if z + (r3 : Int) - 1 > 0 then z + (r3 : Int) - 1 else 0).toNat : Nat) : Int) := by
            split <;> omega
          show Q (.int (if z + (r3 : Int) - 1 > 0 then z + (r3 : Int) - 1 else 0)) H4
          rw [e3]
          refine q _ H4 ?_ (s14.trans s5)
          split <;> omega
        · refine ⟨_, rfl, rfl, _, rfl, ite2 (fun _ => ?_) (fun _ => ?_)⟩
          · refine ⟨_, rfl, _, rfl, _, rfl, p, b, rfl, by omega, by omega, s14.src, fun r3 H4 hr3 s5 => ?_⟩
            refine ⟨1, r3, rfl, rfl, z, _, congrArg V.int hz, rfl, mul_r (by omega) (by omega), _, rfl, _, rfl, p, b, rfl, by omega, by omega, s5.src, fun r4 H5 hr4 s6 => ?_⟩
            refine ⟨_, _, rfl, rfl, ?_⟩
            have zr : z * (1 + (r3 : Int)) ≤ z * 65 := Int.mul_le_mul_of_nonneg_left (by omega) z0
            have zr0 : 0 ≤ z * (1 + (r3 : Int)) := Int.mul_nonneg z0 (by omega)
            have e3 : z * (1 + (r3 : Int)) + (r4 : Int) = (((z * (1 + (r3 : Int)) + (r4 : Int)).toNat : Nat) : Int) := by omega
            show Q (.int (z * (1 + (r3 : Int)) + (r4 : Int))) H5
            rw [e3]
            exact q _ H5 (by omega) ((s14.trans s5).trans s6)
          · refine ⟨_, rfl, 10, 9, rfl, rfl, ⟨by decide, by decide, by decide⟩, p, _, rfl, by decide, by decide, s14.src, fun r3 H4 hr3 s5 => ?_⟩
            have hr3' : r3 < 10 ^ 9 := by
              have q : (r3 : Int) < 10 ^ (9 : Int).toNat := hr3
              have e : (10 : Int) ^ (9 : Int).toNat = 1000000000 := by decide
              omega
            have e20 : (10 : Int) ^ (20 : Int).toNat = 100000000000000000000 := by decide
            refine ⟨10, 20, rfl, rfl, ⟨by decide, by decide, by decide⟩, _, _, rfl, rfl, mul_l (by omega) (by omega), _, rfl, 10, 6, rfl, rfl, ⟨by decide, by decide, by decide⟩, p, _, rfl, by decide, by decide, s5.src, fun r4 H5 hr4 s6 => ?_⟩
            have hr4' : r4 < 10 ^ 6 := by
              have q : (r4 : Int) < 10 ^ (6 : Int).toNat := hr4
              have e : (10 : Int) ^ (6 : Int).toNat = 1000000 := by decide
              omega
            refine ⟨_, _, rfl, rfl, ?_⟩
            show Q (.int ((r3 : Int) * (10 : Int) ^ (20 : Int).toNat + (r4 : Int))) H5
            rw [e20]
            have e3 : (r3 : Int) * 100000000000000000000 + (r4 : Int) = ((r3 * 100000000000000000000 + r4 : Nat) : Int) := by omega
            rw [e3]
            exact q _ H5 (by omega) ((s14.trans s5).trans s6)
end
/-! ### the law's loop over its numbers -/
theorem seq_new {K : PySem.W.Frag} {a p : Addr} {xs : List V} {H H1 H2 : Hp} (h : SqL K H a xs) (hp : H p = none) (s1 : Same H H1) (s2 : Stp p H1 H2) : SqL K H2 a xs := by
  rcases h with (h | ⟨o, h⟩) | h
  · exact .inl (.inl (s2.keep _ _ (ne_of_none h hp) (s1 _ _ h)))
  · exact .inl (.inr ⟨o, s2.keep _ _ (ne_of_none h hp) (s1 _ _ h)⟩)
  · exact .inr h
/-! ### law k06: how many fire, the last tick with two thousand, the wheel -/
section
variable {P : Program} {w : World} {K : PySem.W.Frag} {mg : Str → Option Value} {base : Heap}
def LapsAt (H : Hp) (a : Addr) (laps : List Nat) : Prop := H a = some (.lst (laps.map fun x => V.int (x : Nat))) ∧ laps.length ≤ 10 ∧ (∀ k ∈ laps, 1 ≤ k ∧ k ≤ 40) ∧ laps ≠ []
theorem LapsAt.same {H H' : Hp} {a : Addr} {laps : List Nat} (h : LapsAt H a laps) (s : Same H H') : LapsAt H' a laps := ⟨s _ _ h.1, h.2⟩
def spMany06 : Sp := fun vs H Q _ => ∃ (a : Addr) (laps : List Nat) (now t : Nat), vs = [.ref a, .int (now : Nat), .int (t : Nat)] ∧ LapsAt H a laps ∧ now ≤ t ∧ ∀ H', Same H H' → Q (.int ((manyL laps now t : Nat) : Int)) H'
theorem ok_many06 {f : Addr} {fd : FuncData} (F : Fun K "_law_many" "_law_many" s__law_many f fd) (T : Tx K mg) : FnOk P w K mg base CX0 1 f fd ["_law_laps", "_law_now", "_law_last"] spMany06 := by
  refine F.ok sc__law_many (fun vs H Q E h => ?_) (fun cdv A outer s H vs Q E hr h => ?_)
  · obtain ⟨a, laps, now, t, rfl, _⟩ := h
    rfl
  · obtain ⟨a, laps, now, t, rfl, ⟨ea, hl, hk, _⟩, hnt, c⟩ := h
    refine ⟨_, (pss_one (ps_ret (pe_callB (sumK (K := K) rfl rfl) (by rfl) T.b_sum (by decide +kernel) (pa_cons (pe_lc (own := [("_law_lap", 3)]) (g := gName 3) (tt := tYes) rfl sc__law_many.nd (pi_list (pv 0)) (blkOk_by (own := [("_law_lap", 3)]) (N := N__law_many) (sc := defScope s__law_many) (by decide +kernel)) (fun _ _ _ _ _ => (pg_name (i := 3) sc__law_many.nd rfl (.inl rfl))) (fun _ _ _ _ _ => pts_nil) (fun _ _ _ _ _ => (pe_op op_divN (pe_op op_subN (pv 2) (pv 1)) (pv 3)))) pa_nil)))), ?_⟩
    refine ⟨_, rfl, a, rfl, ⟨_, SqL.of ea⟩, fun D hD => lc_list (K := K) (a := a) (xs := laps.map fun x => V.int (x : Nat)) (fun j H' => Same H H' ∧ H' D = some (.lst ((((laps.take j).map fun k => (((t - now) / k : Nat) : Int))).map V.int))) ⟨same_upd hD, upd_same⟩ (fun j H' _ ⟨sm, _⟩ => SqL.of (sm _ _ ea)) ?_ ?_⟩
    · rintro j v H' hv ⟨sm, eD⟩
      obtain ⟨x, hx, rfl⟩ : ∃ x : Nat, laps[j]? = some x ∧ V.int (x : Nat) = v := by
        rw [List.getElem?_map] at hv
        cases hd : laps[j]? with
        | none =>
          rw [hd] at hv
          cases hv
        | some d =>
          rw [hd] at hv
          exact ⟨d, rfl, Option.some.inj hv⟩
      have hjl := (List.getElem?_eq_some_iff.mp hx).1
      obtain ⟨hx1, hx2⟩ := hk x (List.mem_of_getElem? hx)
      refine ⟨rfl, yesT (iteT ⟨_, rfl, _, rfl, t, now, rfl, rfl, hnt, _, rfl, t - now, x, rfl, rfl, ndiv 7 (by omega) (by omega), _, eD, ?_, fun c o e => ?_, ?_⟩)⟩
      · rw [List.length_map, List.length_map, List.length_take]
        exact sizeLine_ge (by omega)
      · rw [upd_ne (ne_of_none e hD)]
        exact sm _ _ e
      · rw [upd_same, List.take_add_one, hx, Option.toList_some, List.map_append, List.map_append]
        rfl
    · rintro H' ⟨sm, eD⟩
      rw [List.length_map, List.take_length] at eD
      refine ⟨D, _, rfl, SqL.of eD, ?_⟩
      rw [many_sum]
      exact c H' sm
def spBound06 : Sp := fun vs H Q _ => ∃ (a : Addr) (laps : List Nat) (now : Nat), vs = [.ref a, .int (now : Nat)] ∧ LapsAt H a laps ∧ ∀ H' B, Same H H' → now ≤ B → B ≤ now + 2001 * 40 → manyL laps now B ≤ 2000 → 2000 < manyL laps now (B + 1) → Q (.int (B : Nat)) H'
theorem ok_bound06 {f : Addr} {fd : FuncData} (F : Fun K "_law_bound" "_law_bound" s__law_bound f fd) (T : Tx K mg) (h1 : Has P w K mg base 1 "_law_many" ["_law_laps", "_law_now", "_law_last"] [] spMany06) : FnOk P w K mg base CX0 2 f fd ["_law_laps", "_law_now"] spBound06 := by
  obtain ⟨f__law_many, fd__law_many, ds__law_many, G__law_many, m__law_many, k__law_many, b__law_many, v__law_many⟩ := h1
  refine F.ok sc__law_bound (fun vs H Q E h => ?_) (fun cdv A outer s H vs Q E hr h => ?_)
  · obtain ⟨a, laps, now, rfl, _⟩ := h
    rfl
  · obtain ⟨a, laps, now, rfl, hL, c⟩ := h
    obtain ⟨ea, hl, hk, hne⟩ := id hL
    refine ⟨_, (pss_cons (ps_par (i := 2) (j := 3) (by rfl) sc__law_bound.nd rfl rfl (by decide) rfl rfl (pa_cons (pv 1) (pa_cons (pe_op op_addN (pv 1) (pe_op op_mulN pe_int (pe_callB (maxK (K := K) rfl rfl) (by rfl) T.b_max (by decide +kernel) (pa_cons (pv 0) pa_nil)))) pa_nil)) (by rfl))
      (pss_cons (ps_while PassesOwn.never (pt_cmpR op_lt (pv 2) (pv 3) (nomark _))
        (pss_cons (ps_set (i := 4) sc__law_bound.nd rfl (.inl rfl) (pe_op op_divN (pe_op op_addN (pe_op op_addN (pv 2) (pv 3)) pe_int) pe_int))
        (pss_one (ps_if (pt_cmpR op_le (pe_call G__law_many hr (by rfl) m__law_many k__law_many b__law_many v__law_many pass0 (pa_cons (pv 0) (pa_cons (pv 1) (pa_cons (pv 4) pa_nil)))) pe_int (nomark _))
          (pss_one (ps_set (i := 2) sc__law_bound.nd rfl (.inl rfl) (pv 4)))
          (pss_one (ps_set (i := 3) sc__law_bound.nd rfl (.inl rfl) (pe_op op_subN (pv 4) pe_int)))))))
      (pss_one (ps_ret (pv 2))))), ?_⟩
    refine ⟨_, rfl, _, rfl, _, rfl, a, laps.map fun x : Nat => (x : Int), rfl, ?_, ?_, fun mi hmi hmax => ?_⟩
    · rw [List.map_map]
      exact SqL.of ea
    · rw [List.length_map]
      exact List.length_pos_iff.mpr hne
    obtain ⟨mx, hmx, rfl⟩ := List.mem_map.mp hmi
    obtain ⟨hm1, hm40⟩ := hk mx hmx
    refine ⟨2001, mx, rfl, rfl, nmul_l (by decide), now, 2001 * mx, rfl, rfl, trivial, _, _, rfl, ?_⟩
    have hmul : 2001 * mx ≤ 2001 * 40 := Nat.mul_le_mul_left _ hm40
    obtain ⟨top, etop⟩ : ∃ top, top = 2001 * mx := ⟨_, rfl⟩
    have etop2 : (fun a b : Nat => a + b) now ((fun a b : Nat => a * b) 2001 mx) = now + top := by
      rw [etop]
    have hbig : 2000 < manyL laps now (now + top + 1) := by
      refine Nat.lt_of_lt_of_le ?_ (many_ge hmx)
      rw [etop, show now + 2001 * mx + 1 - now = 2001 * mx + 1 by omega]
      exact Nat.lt_of_lt_of_le (show 2000 < 2001 by decide) ((Nat.le_div_iff_mul_le (by omega)).mpr (by omega))
    refine while_by (fun σ H' => ∃ (lo hi : Nat) (y4 : Option V), σ = [some (.ref a), some (.int (now : Nat)), some (.int (lo : Nat)), some (.int (hi : Nat)), y4] ∧ Same H H' ∧ now ≤ lo ∧ lo ≤ hi ∧ hi ≤ now + top ∧ manyL laps now lo ≤ 2000 ∧ 2000 < manyL laps now (hi + 1))
      (fun σ _ => slotInt σ 3 - slotInt σ 2) ⟨now, now + top, none, ?_, fun _ _ e => e, Nat.le_refl _, Nat.le_add_right _ _, Nat.le_refl _, by rw [many_now]; exact Nat.zero_le _, hbig⟩ ?_ ?_
    · rw [etop]
      rfl
    · rintro σ H' ⟨lo, hi, y4, rfl, sm, h1, h2, h3, h4, h5⟩
      by_cases c1 : lo < hi
      · refine ⟨_, rfl, _, rfl, (lo : Nat), (hi : Nat), rfl, rfl, true, dT (by omega), iteT ?_⟩
        obtain ⟨mid, emid⟩ : ∃ mid, mid = (lo + hi + 1) / 2 := ⟨_, rfl⟩
        have hm1 : lo < mid := by omega
        have hm2 : mid ≤ hi := by omega
        refine ⟨_, rfl, _, rfl, lo, hi, rfl, rfl, trivial, lo + hi, 1, rfl, rfl, trivial, lo + hi + 1, 2, rfl, rfl, ndiv 2 (by decide) (by decide), ?_⟩
        have em2 : (fun a b : Nat => a / b) (lo + hi + 1) 2 = mid := emid.symm
        rw [em2]
        refine ⟨_, rfl, _, rfl, _, rfl, a, laps, now, mid, rfl, hL.same sm, by omega, fun H2 s2 => ?_⟩
        by_cases c2 : manyL laps now mid ≤ 2000
        · refine ⟨((manyL laps now mid : Nat) : Int), 2000, rfl, rfl, true, dT (by omega), iteT ⟨_, rfl, ?_⟩⟩
          refine ⟨⟨mid, hi, _, rfl, sm.trans s2, by omega, hm2, h3, c2, h5⟩, ?_⟩
          show ((hi : Nat) : Int).toNat - ((mid : Nat) : Int).toNat < ((hi : Nat) : Int).toNat - ((lo : Nat) : Int).toNat
          omega
        · refine ⟨((manyL laps now mid : Nat) : Int), 2000, rfl, rfl, false, dF (by omega), iteF ⟨_, rfl, mid, 1, rfl, rfl, by show 1 ≤ mid; omega, ?_⟩⟩
          refine ⟨⟨lo, mid - 1, _, rfl, sm.trans s2, h1, by omega, by omega, h4, by rw [show mid - 1 + 1 = mid by omega]; omega⟩, ?_⟩
          show ((mid - 1 : Nat) : Int).toNat - ((lo : Nat) : Int).toNat < ((hi : Nat) : Int).toNat - ((lo : Nat) : Int).toNat
          omega
      · refine ⟨_, rfl, _, rfl, (lo : Nat), (hi : Nat), rfl, rfl, false, dF (by omega), iteF ?_⟩
        have e : lo = hi := by omega
        subst e
        exact ⟨_, rfl, c H' lo sm h1 (by omega) h4 h5⟩
    · rintro σ H' Q1 Q2 h ⟨x, hx, y, hy, i, j, e1, e2, k, e, z⟩
      exact ⟨x, hx, y, hy, i, j, e1, e2, k, e, h _ _ z⟩
/-- a wheel as the law makes it -/
def W06 (b : Nat) (ws : List Bool) (now : Nat) (laps : List Nat) : WS := ⟨b, trimW ws, now, laps.length, mkTs now 0 laps⟩
theorem w06_ok {b now : Nat} {ws : List Bool} {laps : List Nat} (hb : 2 ≤ b) (hb64 : b ≤ 64) (hne : ws ≠ []) (h60 : ws.length ≤ 60) (hn : now < 2 ^ 195) (hl : laps.length ≤ 10) (hk : ∀ k ∈ laps, 1 ≤ k ∧ k ≤ 40) : WOk (W06 b ws now laps) := by
  refine ⟨hb, hb64, trim_ne hne, Nat.le_trans (trim_len ws) h60, fun m hm => ?_, ?_, ?_⟩
  · obtain ⟨k, z1, z2, z3, z4, z5, z6⟩ := mk_mem hm
    have zk := hk k z1
    refine ⟨Nat.le_of_eq z4, by show now < m.due; omega, ?_, by show m.num < laps.length; omega, fun k' e => ?_⟩
    · have y : m.due < 2 ^ 195 + 50 := by omega
      exact Nat.lt_trans y (by decide)
    · rw [z3] at e
      cases e
      exact zk.1
  · show ((mkTs now 0 laps).map (·.num)).Nodup
    rw [mk_nums]
    exact List.nodup_range'
  · show (mkTs now 0 laps).length ≤ 1000
    rw [mk_len]
    omega
def spWheel06 (C : Addr) : Sp := fun vs H Q _ => ∃ (ql a : Addr) (b now : Nat) (ws : List Bool) (laps : List Nat), vs = [.int (b : Nat), .ref ql, .int (now : Nat), .ref a] ∧ H ql = some (.lst (ws.map lvV)) ∧ LapsAt H a laps ∧ 2 ≤ b ∧ b ≤ 64 ∧ ws ≠ [] ∧ ws.length ≤ 60 ∧ now < 2 ^ 195 ∧
  ∀ H' p q l, Same H H' → H p = none → H q = none → H l = none → WheelAt C H' p q l (W06 b ws now laps) → Q (.ref p) H'
set_option maxHeartbeats 40000000 in
theorem ok_wheel06 {f C : Addr} {fd : FuncData} (F : Fun K "_law_wheel" "_law_wheel" s__law_wheel f fd) (T : Tx K mg) (TW : TxW K mg C) (hI : HasInit P w K mg base 5 C) (hP : HasPut P w K mg base 4 C) : FnOk P w K mg base CX0 7 f fd ["_law_base_here", "_law_levels_here", "_law_now", "_law_laps"] (spWheel06 C) := by
  have cl_Wheel := TW.cl
  obtain ⟨fi, fdi, M_Wheel, G_Wheel_init, b_Wheel_init⟩ := hI
  have c_Wheel := TW.mgC
  obtain ⟨g0, gd0, gs0, G_Wheel_put, M_Wheel_put, b_Wheel_put, v_Wheel_put, bK_Wheel_put⟩ := hP
  refine F.ok sc__law_wheel (fun vs H Q E h => ?_) (fun cdv A outer s H vs Q E hr h => ?_)
  · obtain ⟨ql, a, b, now, ws, laps, rfl, _⟩ := h
    rfl
  · obtain ⟨ql, a, b, now, ws, laps, rfl, hql, hL, hb, hb64, hne, h60, hn, c⟩ := h
    obtain ⟨ea, hl, hk, _⟩ := id hL
    refine ⟨_, (pss_cons (ps_set (i := 4) sc__law_wheel.nd rfl (.inl rfl) (pe_makeK M_Wheel G_Wheel_init hr (by rfl) c_Wheel b_Wheel_init pass0 (pa_cons (pv 0) (pa_cons (pv 1) pa_nil)) (pk_cons (pv 2) pk_nil)))
      (pss_cons (ps_for PassesOwn.never rfl (pi_list (pv 3)) (pg_name (i := 5) sc__law_wheel.nd rfl (.inl rfl))
        (pss_one (ps_expr (pe_methK (pv 4) cl_Wheel M_Wheel_put G_Wheel_put (hr.mono (by decide)) bK_Wheel_put pass0 (pa_cons (pe_op op_addN (pv 2) (pv 5)) pa_nil) (pk_cons (pv 5) pk_nil)))))
      (pss_one (ps_ret (pv 4))))), ?_⟩
    refine ⟨_, rfl, _, rfl, _, rfl, rfl, rfl, fun p dx hpn hdx0 nex => ?_⟩
    have u0 : Same H (upd (upd H dx (.own p)) p (.ins C dx [])) := fun c o e => by
      rw [upd_ne (ne_of_none e hpn), upd_ne (ne_of_none e hdx0)]
      exact e
    refine ⟨p, dx, ql, b, now, ws, rfl, upd_same, SqL.of (u0 _ _ hql), hb, hb64, hne, h60, fun H1 q l k1 hq1 hl1 hw1 => ⟨rfl, ?_⟩⟩
    have s1 : Same H H1 := fun c o e => k1 c o (ne_of_none e hpn) (u0 _ _ e)
    have hqH := u0.free hq1
    have hlH := u0.free hl1
    refine ⟨_, rfl, a, rfl, ⟨_, SqL.of (s1 _ _ ea)⟩, for_list (K := K) (a := a) (xs := laps.map fun x => V.int (x : Nat)) (fun i σ H' => ∃ (l : Addr) (y5 : Option V), σ = [some (.int (b : Nat)), some (.ref ql), some (.int (now : Nat)), some (.ref a), some (.ref p), y5] ∧ Same H H' ∧ H l = none ∧ WheelAt C H' p q l (W06 b ws now (laps.take i))) ⟨l, none, rfl, s1, hlH, hw1⟩ (fun i σ H' _ ⟨_, _, _, sm, _⟩ => SqL.of (sm _ _ ea)) ?_ ?_⟩
    · rintro i x σ H2 hx ⟨l2, y5, rfl, s2, hl2, w2⟩
      obtain ⟨k, hkx, rfl⟩ : ∃ k : Nat, laps[i]? = some k ∧ V.int (k : Nat) = x := by
        rw [List.getElem?_map] at hx
        cases hd : laps[i]? with
        | none =>
          rw [hd] at hx
          cases hx
        | some d =>
          rw [hd] at hx
          exact ⟨d, rfl, Option.some.inj hx⟩
      obtain ⟨hk1, hk2⟩ := hk k (List.mem_of_getElem? hkx)
      have hil := (List.getElem?_eq_some_iff.mp hkx).1
      obtain ⟨dx2, hp2⟩ := w2.ins
      have htl : (laps.take i).length = i := by
        rw [List.length_take]
        omega
      have ok2 : WOk (W06 b ws now (laps.take i)) := w06_ok hb hb64 hne h60 hn (by omega) fun k h => hk k (List.mem_of_mem_take h)
      have fw : (W06 b ws now (laps.take i)).live.length < 1000 := by
        show (mkTs now 0 (laps.take i)).length < 1000
        rw [mk_len]
        omega
      refine ⟨_, rfl, p, dx2, _, rfl, hp2, nm_put, _, rfl, _, rfl, now, k, rfl, rfl, trivial, ?_⟩
      refine ⟨_, rfl, rfl, rfl, p, q, l2, W06 b ws now (laps.take i), now + k, some k, rfl, w2, ok2, fw, by show now < now + k; omega, (fun k' e => by cases e; exact hk1), fun H3 k3 w3 => ?_⟩
      refine ⟨l2, _, rfl, fun c o e => k3.keep _ _ (ne_of_none e hpn) (ne_of_none e hl2) (s2 _ _ e), hl2, ?_⟩
      have eW : ({ W06 b ws now (laps.take i) with fol := (W06 b ws now (laps.take i)).fol + 1, live := (W06 b ws now (laps.take i)).live ++ [⟨(W06 b ws now (laps.take i)).fol, now + k, some k, (W06 b ws now (laps.take i)).tick⟩] } : WS) = W06 b ws now (laps.take (i + 1)) := by
        unfold W06
        rw [List.take_add_one, hkx, Option.toList_some, mk_app, List.length_append, Nat.zero_add]
        rfl
      rw [← eW]
      exact w3
    · rintro σ H2 ⟨l2, y5, rfl, s2, hl2, w2⟩
      rw [List.length_map, List.take_length] at w2
      exact ⟨_, rfl, c H2 p q l2 s2 hpn hqH hl2 w2⟩
end
/-! ### xs.count(y), xs of flat items -/
theorem count_eqU {y : V} : ∀ {ys : List V} {its : List Value}, Vals ys its → ys.all flatV = true → its.countP (eqU y) = ys.countP (fun z => eqV z y)
  | _, _, .nil, _ => rfl
  | z :: ys, u :: its, .cons r rs, f => by
    rw [List.all_cons, Bool.and_eq_true] at f
    rw [List.countP_cons, List.countP_cons, count_eqU rs f.2, eqU_of r f.1]
def rCntF (K : PySem.W.Frag) : V → List V → Hp → VK → Prop := fun x xs H Q => ∃ (p : Addr) (ys : List V) (y : V), x = .ref p ∧ xs = [y] ∧ SqL K H p ys ∧ flatV y = true ∧ ys.all flatV = true ∧ Q (.int (ys.countP (fun z => eqV z y) : Nat)) H
section
variable {X : Cx} {K : PySem.W.Frag}
theorem mt_lcountF (e : X.K = K) : MtR X "list.count" (rCntF K) := by
  subst e
  intro pins s σ H x xs v us Q I rx rxs h
  obtain ⟨p, ys, y, rfl, rfl, hs, fy, fys, q⟩ := h
  cases rx
  cases rxs with
  | cons ry rt =>
    rename_i uy ut
    cases rt
    obtain ⟨its, rv, ⟨⟨cls, dd, data, sl⟩, n, ho, hc, hdn, hd⟩, hlen⟩ := I.list hs
    simp only at hc hd
    subst hc hd
    refine call_meets PySem.F.slot_list_count ⟨_, ho, rfl⟩ PySem.F.entry_list_count (PySem.F.args_list_count_2 _ _)
      (SeqAt.list_countAt p its.toArray n dd sl uy (eqU y)) ⟨ho, fun u' hu' => mem_eqAt ry fy rv fys u' (by simpa using hu'), ?_⟩
    have ec : its.toArray.toList.countP (eqU y) = ys.countP (fun z => eqV z y) := count_eqU rv fys
    refine ⟨.int (ys.countP (fun z => eqV z y) : Nat), H, I.tok _, ⟨s.toks, ?_⟩, q⟩
    show Value.int ((its.toArray.toList.countP (eqU y) : Nat) : Int) s.toks = Value.int ((ys.countP (fun z => eqV z y) : Nat) : Int) s.toks
    rw [ec]
theorem mt_indexK (e : X.K = K) : MtR X "list.index" (rIndex K) := by subst e; exact mt_index
end
/-! ### the word for what a call does: one class of errors of eight -/
def trySuite : List Stmt → List Stmt
  | .Try _ [.ExceptHandler _ _ b _] _ _ _ :: _ => b
  | _ => []
/-- an error of the class N is one of the j-th of the classes cs, and of no other -/
structure Kind8 (K : PySem.W.Frag) (N : Addr) (cs : List Addr) (j : Nat) : Prop where
  ec : ExcC K N
  ve : PySem.W.kitOne K (.ref N) (.type "ValueError") = some true
  lt : j < 8
  at_ : ∀ i c, cs[i]? = some c → PySem.W.kitOne K (.ref N) (.ref c) = some (decide (i = j))
def marks8 (j : Nat) : List V := ([.bl (decide (0 = j)), .bl (decide (1 = j)), .bl (decide (2 = j)), .bl (decide (3 = j))] ++ [.bl (decide (4 = j)), .bl (decide (5 = j)), .bl (decide (6 = j))]) ++ [.bl (decide (7 = j))]
theorem marks_count {j : Nat} (h : j < 8) : (marks8 j).countP (fun z => eqV z (.bl true)) = 1 := by
  have z : j = 0 ∨ j = 1 ∨ j = 2 ∨ j = 3 ∨ j = 4 ∨ j = 5 ∨ j = 6 ∨ j = 7 := by omega
  rcases z with rfl | rfl | rfl | rfl | rfl | rfl | rfl | rfl <;> rfl
theorem marks_at {j : Nat} (h : j < 8) : (marks8 j)[j]? = some (.bl true) := by
  have z : j = 0 ∨ j = 1 ∨ j = 2 ∨ j = 3 ∨ j = 4 ∨ j = 5 ∨ j = 6 ∨ j = 7 := by omega
  rcases z with rfl | rfl | rfl | rfl | rfl | rfl | rfl | rfl <;> rfl
theorem marks_no {j : Nat} (h : j < 8) (m : Nat) (z' : V) (hm : m < j) (hz : (marks8 j)[m]? = some z') : eqV z' (.bl true) = false := by
  have e : (marks8 j)[m]? = some (.bl (decide (m = j))) := by
    have z : m = 0 ∨ m = 1 ∨ m = 2 ∨ m = 3 ∨ m = 4 ∨ m = 5 ∨ m = 6 := by omega
    rcases z with rfl | rfl | rfl | rfl | rfl | rfl | rfl <;> rfl
  rw [e, decide_eq_false (by omega)] at hz
  cases hz
  rfl
theorem marks_flat (j : Nat) : (marks8 j).all flatV = true := rfl
theorem pss_imp {X : Cx} {st : List Stmt} {t' : TS} (h : ∃ t, PSs X st t ∧ ∀ D σ H, t' D σ H → t D σ H) : PSs X st t' := by
  obtain ⟨t, hp, hi⟩ := h
  exact ⟨fun pins s σ H D I q => hp.run pins s σ H D I (hi D σ H q)⟩
/-! ### laws k05, k06: the word for what a call does -/
def words24 : List V := [.str "base", .str "levels", .str "tick", .str "period", .str "timer", .str "order", .str "sighting", .str "many"]
section
variable {P : Program} {w : World} {K : PySem.W.Frag} {mg : Str → Option Value} {base : Heap}
/-- what the suite wants: e is an error of the class N, the j-th -/
def tWord8 (K : PySem.W.Frag) (cs : List Addr) (a : Addr) (cls : Value) (d : Option Addr) : TS := fun D σ H => ∃ (N : Addr) (j : Nat) (x : Str) (v0 v2 : Option V), cls = .ref N ∧ d = none ∧ σ = [v0, some (.ref a), v2] ∧ Kind8 K N cs j ∧ words24[j]? = some (.str x) ∧ ∀ H', Same H H' → D.rt (.str x) H'
theorem word_suite {f c_NoBase c_NoLevels c_NoTick c_NoOrder c_NoPeriod c_NoSighting c_NoTimer c_TooMany a : Addr} {cdv cls : Value} {A : Around} {outer : List Env} {s : Shared} {H : Hp} {E : XK} {d : Option Addr} {oe : Obj} {pn : List (Addr × Obj)} (T : Tx K mg)
    (X_NoBase : EG mg "NoBase" c_NoBase) (X_NoLevels : EG mg "NoLevels" c_NoLevels) (X_NoTick : EG mg "NoTick" c_NoTick) (X_NoOrder : EG mg "NoOrder" c_NoOrder) (X_NoPeriod : EG mg "NoPeriod" c_NoPeriod) (X_NoSighting : EG mg "NoSighting" c_NoSighting) (X_NoTimer : EG mg "NoTimer" c_NoTimer) (X_TooMany : EG mg "TooMany" c_TooMany)
    (hz : Zc cls d oe) (hf : ∃ vs, oe.data = .fields vs) : PSs ((cxOf CX0 P w K mg base N__law_word (Str.ofString "_law_word") (defScope s__law_word) f cdv A outer s H E).nox.suite a ((a, oe) :: pn)) (trySuite (defBody s__law_word)) (tWord8 K [c_NoBase, c_NoLevels, c_NoTick, c_NoPeriod, c_NoTimer, c_NoOrder, c_NoSighting, c_TooMany] a cls d) := by
  refine pss_imp ⟨_, (pss_cons (ps_set (i := 2) sc__law_word.nd rfl (.inl rfl) (pe_lst (pa_cons (pe_callB (isiE hz hf) (by rfl) T.b_isinstance (by decide +kernel) (pa_cons (pv 1) (pa_cons (pe_glob (v := .ref c_NoBase) rfl X_NoBase.g rfl) pa_nil))) (pa_cons (pe_callB (isiE hz hf) (by rfl) T.b_isinstance (by decide +kernel) (pa_cons (pv 1) (pa_cons (pe_glob (v := .ref c_NoLevels) rfl X_NoLevels.g rfl) pa_nil))) (pa_cons (pe_callB (isiE hz hf) (by rfl) T.b_isinstance (by decide +kernel) (pa_cons (pv 1) (pa_cons (pe_glob (v := .ref c_NoTick) rfl X_NoTick.g rfl) pa_nil))) (pa_cons (pe_callB (isiE hz hf) (by rfl) T.b_isinstance (by decide +kernel) (pa_cons (pv 1) (pa_cons (pe_glob (v := .ref c_NoPeriod) rfl X_NoPeriod.g rfl) pa_nil))) pa_nil))))))
      (pss_cons (ps_set (i := 2) sc__law_word.nd rfl (.inl rfl) (pe_op op_cat (pv 2) (pe_lst (pa_cons (pe_callB (isiE hz hf) (by rfl) T.b_isinstance (by decide +kernel) (pa_cons (pv 1) (pa_cons (pe_glob (v := .ref c_NoTimer) rfl X_NoTimer.g rfl) pa_nil))) (pa_cons (pe_callB (isiE hz hf) (by rfl) T.b_isinstance (by decide +kernel) (pa_cons (pv 1) (pa_cons (pe_glob (v := .ref c_NoOrder) rfl X_NoOrder.g rfl) pa_nil))) (pa_cons (pe_callB (isiE hz hf) (by rfl) T.b_isinstance (by decide +kernel) (pa_cons (pv 1) (pa_cons (pe_glob (v := .ref c_NoSighting) rfl X_NoSighting.g rfl) pa_nil))) pa_nil))))))
      (pss_cons (ps_expr (pe_bm PySem.F.plainAttrs_list PySem.F.slot_list_append PySem.F.type_list_append mt_append (pv 2) (pa_cons (pe_callB (isiE hz hf) (by rfl) T.b_isinstance (by decide +kernel) (pa_cons (pv 1) (pa_cons (pe_glob (v := .ref c_TooMany) rfl X_TooMany.g rfl) pa_nil))) pa_nil)))
      (pss_cons (ps_if (pt_cmpR op_ne (pe_bm PySem.F.plainAttrs_list PySem.F.slot_list_count PySem.F.type_list_count (mt_lcountF (K := K) rfl) (pv 2) (pa_cons pe_bl pa_nil)) pe_int (nomark _))
        (pss_one (ps_ret pe_str))
        pss_nil)
      (pss_one (ps_ret (pe_ix (ix_listK (K := K) rfl) (pe_lst (pa_cons pe_str (pa_cons pe_str (pa_cons pe_str (pa_cons pe_str (pa_cons pe_str (pa_cons pe_str (pa_cons pe_str (pa_cons pe_str pa_nil))))))))) (pe_bm PySem.F.plainAttrs_list PySem.F.slot_list_index PySem.F.type_list_index (mt_indexK (K := K) rfl) (pv 2) (pa_cons pe_bl pa_nil)) (fun _ _ => rfl)))))))), fun D σ H' h => ?_⟩
  obtain ⟨N, j, x, v0, v2, rfl, rfl, rfl, ⟨hC, ve, hj, at_⟩, hx, c⟩ := h
  have n0 := at_ 0 _ rfl
  have n1 := at_ 1 _ rfl
  have n2 := at_ 2 _ rfl
  have n3 := at_ 3 _ rfl
  have n4 := at_ 4 _ rfl
  have n5 := at_ 5 _ rfl
  have n6 := at_ 6 _ rfl
  have n7 := at_ 7 _ rfl
  refine ⟨_, rfl, N, rfl, rfl, hC, _, _, _, rfl, fun _ h => h, n0, _, rfl, N, rfl, rfl, hC, _, _, _, rfl, fun _ h => h, n1, _, rfl, N, rfl, rfl, hC, _, _, _, rfl, fun _ h => h, n2, _, rfl, N, rfl, rfl, hC, _, _, _, rfl, fun _ h => h, n3, by simp [sizeLine_eq], fun m1 hm1 => ?_⟩
  refine ⟨_, rfl, _, rfl, N, rfl, rfl, hC, _, _, _, rfl, fun _ h => h, n4, _, rfl, N, rfl, rfl, hC, _, _, _, rfl, fun _ h => h, n5, _, rfl, N, rfl, rfl, hC, _, _, _, rfl, fun _ h => h, n6, by simp [sizeLine_eq], fun m2 hm2 => ?_⟩
  have s1 := same_upd (o := .lst [.bl (decide (0 = j)), .bl (decide (1 = j)), .bl (decide (2 = j)), .bl (decide (3 = j))]) hm1
  have s2 := s1.trans (same_upd (o := .lst [.bl (decide (4 = j)), .bl (decide (5 = j)), .bl (decide (6 = j))]) hm2)
  refine ⟨m1, m2, _, _, rfl, rfl, (same_upd hm2) _ _ upd_same, upd_same, by simp [sizeLine_eq], fun m3 hm3 => ?_⟩
  generalize hH3 : upd (upd H' m1 _) m2 _ = H3 at s2 hm3 ⊢
  clear hH3
  refine ⟨_, rfl, .inl ⟨rfl, _, .inl (.inl upd_same)⟩, _, rfl, N, rfl, rfl, hC, _, _, _, rfl, fun _ h => h, n7, m3, _, _, rfl, rfl, upd_same, by simp [sizeLine_eq], ?_⟩
  have s4 : Same H' (upd (upd H3 m3 (.lst ([.bl (decide (0 = j)), .bl (decide (1 = j)), .bl (decide (2 = j)), .bl (decide (3 = j))] ++ [.bl (decide (4 = j)), .bl (decide (5 = j)), .bl (decide (6 = j))]))) m3 (.lst (([.bl (decide (0 = j)), .bl (decide (1 = j)), .bl (decide (2 = j)), .bl (decide (3 = j))] ++ [.bl (decide (4 = j)), .bl (decide (5 = j)), .bl (decide (6 = j))]) ++ [.bl (decide (7 = j))]))) := fun p o e => by
    rw [upd_ne (ne_of_none (s2 _ _ e) hm3), upd_ne (ne_of_none (s2 _ _ e) hm3)]
    exact s2 _ _ e
  have e4 : (upd (upd H3 m3 (.lst ([.bl (decide (0 = j)), .bl (decide (1 = j)), .bl (decide (2 = j)), .bl (decide (3 = j))] ++ [.bl (decide (4 = j)), .bl (decide (5 = j)), .bl (decide (6 = j))]))) m3 (.lst (([.bl (decide (0 = j)), .bl (decide (1 = j)), .bl (decide (2 = j)), .bl (decide (3 = j))] ++ [.bl (decide (4 = j)), .bl (decide (5 = j)), .bl (decide (6 = j))]) ++ [.bl (decide (7 = j))]))) m3 = some (.lst (marks8 j)) := upd_same
  generalize upd (upd H3 m3 (.lst ([.bl (decide (0 = j)), .bl (decide (1 = j)), .bl (decide (2 = j)), .bl (decide (3 = j))] ++ [.bl (decide (4 = j)), .bl (decide (5 = j)), .bl (decide (6 = j))]))) m3 (.lst (([.bl (decide (0 = j)), .bl (decide (1 = j)), .bl (decide (2 = j)), .bl (decide (3 = j))] ++ [.bl (decide (4 = j)), .bl (decide (5 = j)), .bl (decide (6 = j))]) ++ [.bl (decide (7 = j))])) = H4 at s4 e4 ⊢
  refine ⟨_, rfl, .inl ⟨rfl, _, SqL.of e4⟩, m3, _, _, rfl, rfl, SqL.of e4, rfl, marks_flat j, rfl, false, nF (congrArg (fun z : Nat => V.int (z : Nat)) (marks_count hj)), iteF ?_⟩
  refine ⟨by simp [sizeLine_eq], fun m6 hm6 => ?_⟩
  have s6 := same_upd (o := .lst words24) hm6
  refine ⟨_, rfl, .inl ⟨rfl, _, SqL.of (s6 _ _ e4)⟩, m3, _, _, j, _, rfl, rfl, SqL.of (s6 _ _ e4), rfl, marks_flat j, marks_at hj, rfl, marks_no hj, ?_⟩
  exact ⟨m6, words24, j, _, rfl, rfl, SqL.of upd_same, atI_nat hx, c _ (s4.trans s6)⟩
end
/-! ### the word for what a lambda does -/
section
variable {X : Cx}
theorem takes_len {W : WX} (tk : Takes X W) : Takes X (fun cls d σ H => σ.length = X.N.length → W cls d σ H) := fun u s' x => by
  obtain ⟨a, B, sI, pins, σ, H, cls, d, e, J, nb, up, sky, na, os, ag, hw⟩ := x
  exact tk u s' ⟨a, B, sI, pins, σ, H, cls, d, e, J, nb, up, sky, na, os, ag, hw J.len⟩
/-- told, or the word of the error's class -/
def TTw (K : PySem.W.Frag) (cs : List Addr) (CT : Addr) : (XK → Hp → VK → Prop) → Hp → VK → Prop := fun tl H Q =>
  tl (fun cls d H' => ∃ (N : Addr) (j : Nat) (x : Str), cls = .ref N ∧ d = none ∧ PySem.W.exmOne K (.ref N) (.ref CT) = some true ∧ Kind8 K N cs j ∧ words24[j]? = some (.str x) ∧ ∀ H'', Same H' H'' → Q (.str x) H'') H fun _ H' => Q (.str "told") H'
theorem word_gives {g CT c_NoBase c_NoLevels c_NoTick c_NoOrder c_NoPeriod c_NoSighting c_NoTimer c_TooMany : Addr} {cdg : Value} {q : Str} (T : Tx X.K X.mg) (XT : EG X.mg "TimerError" CT)
    (X_NoBase : EG X.mg "NoBase" c_NoBase) (X_NoLevels : EG X.mg "NoLevels" c_NoLevels) (X_NoTick : EG X.mg "NoTick" c_NoTick) (X_NoOrder : EG X.mg "NoOrder" c_NoOrder) (X_NoPeriod : EG X.mg "NoPeriod" c_NoPeriod) (X_NoSighting : EG X.mg "NoSighting" c_NoSighting) (X_NoTimer : EG X.mg "NoTimer" c_NoTimer) (X_TooMany : EG X.mg "TooMany" c_TooMany) :
    LamX.GivesTo X N__law_word "_law_word" (defScope s__law_word) g cdg (defBody s__law_word) "_law_call" q (TTw X.K [c_NoBase, c_NoLevels, c_NoTick, c_NoPeriod, c_NoTimer, c_NoOrder, c_NoSighting, c_TooMany] CT) := by
  intro f c' s H Q tl act hc h
  refine ⟨_, pss_cons (ps_try_as (X := (cxOf C8.CX0 X.prog X.w X.K X.mg X.base N__law_word "_law_word" (defScope s__law_word) g cdg X.A X.stack s H C8.E0).nox) (i := 1)
    (tb := fun W D σ H => ∃ Ech : XK, (∀ cls d σ' H', Ech cls d H' → σ'.length = N__law_word.length → W cls d σ' H') ∧ σ[0]? = some (some (.ref f)) ∧ H c' = some (LamX.CodeO c' q) ∧ tl Ech H fun _ H1 => D.nx σ H1)
    rfl rfl sc__law_word.nd rfl rfl ⟨rfl, by decide, .inl XT.g⟩ takes0 (fun W pn xe tk _ => ?_) (fun a oe cls d pn hz hf => word_suite T X_NoBase X_NoLevels X_NoTick X_NoOrder X_NoPeriod X_NoSighting X_NoTimer X_TooMany hz hf)) (pss_one (ps_ret pe_str)), ?_⟩
  · refine ⟨fun pins s' σ H' D I h' => ?_⟩
    obtain ⟨Ech, hW, h1, h2, h3⟩ := h'
    exact (pss_one (ps_expr (act _ pn xe Ech _ _ (takes_len tk) hW))).run pins s' σ H' D I ⟨h1, h2, h3⟩
  · refine ⟨_, fun cls d σ' H' hE hl => ?_, rfl, hc, h⟩
    obtain ⟨N, j, x, rfl, rfl, hx, kd, hw, q⟩ := hE
    refine ⟨true, hx, fun _ a _ => ?_, fun z => nomatch z⟩
    obtain ⟨v0, v1, v2, rfl⟩ : ∃ v0 v1 v2, σ' = [v0, v1, v2] := by
      match σ', hl with
      | [v0, v1, v2], _ => exact ⟨v0, v1, v2, rfl⟩
    exact ⟨N, j, x, v0, v2, rfl, rfl, rfl, kd, hw, q⟩
end
/-! ### what fired, as data -/
def firedD (f : Nat × List Nat) : PyData := .tuple [.int (f.1 : Nat), .list (f.2.map fun x => PyData.int (x : Nat))]
theorem fired_dp {K : PySem.W.Frag} {r : Addr} {H : Hp} : ∀ {ts : List Addr} {fs : List (Nat × List Nat)}, FiredAt r H ts fs → DpAll K H (ts.map V.ref) (fs.map firedD)
  | [], [], _ => .nil
  | _ :: _, _ :: _, ⟨⟨u, h1, _, h2⟩, h3⟩ => .cons (.tup (SqT.of h1) (.cons (.int _) (.cons (.lst (SqL.of h2) (dp_nats _)) .nil))) (fired_dp h3)
  | [], _ :: _, h => h.elim
  | _ :: _, [], h => h.elim
theorem firedD_lay (f : Nat × List Nat) : (firedD f).canLay0 = true := by
  simp [firedD, PyData.canLay0, PyData.canLayAll0, nats_lay]
theorem fired_lay : ∀ fs : List (Nat × List Nat), PyData.canLayAll0 (fs.map firedD) = true
  | [] => rfl
  | f :: fs => by
    show ((firedD f).canLay0 && PyData.canLayAll0 (fs.map firedD)) = true
    rw [firedD_lay, fired_lay fs]
    rfl
theorem firedD_depth (f : Nat × List Nat) : (firedD f).depth ≤ 2 := by
  have h : (PyData.list (f.2.map fun x => PyData.int (x : Nat))).depth = 1 := by
    show PyData.depthAll _ + 1 = 1
    rw [nats_depth f.2]
  show max (PyData.depth _) (max (PyData.depth (PyData.list (f.2.map fun x => PyData.int (x : Nat)))) (PyData.depthAll [])) + 1 ≤ 2
  rw [h]
  exact Nat.le_refl 2
theorem fired_depth : ∀ fs : List (Nat × List Nat), PyData.depthAll (fs.map firedD) ≤ 2
  | [] => by decide
  | f :: fs => by
    show max (firedD f).depth (PyData.depthAll (fs.map firedD)) ≤ 2
    have h1 := fired_depth fs
    have h2 := firedD_depth f
    omega
theorem fired_shaped (fs : List (Nat × List Nat)) : SeqAt.shaped (.list (fs.map firedD)) = true := by
  have h1 : (PyData.list (fs.map firedD)).canLay0 = true := by
    show PyData.canLayAll0 (fs.map firedD) = true
    exact fired_lay fs
  have h2 : (PyData.list (fs.map firedD)).depth ≤ 64 := by
    show PyData.depthAll (fs.map firedD) + 1 ≤ 64
    have := fired_depth fs
    omega
  unfold SeqAt.shaped
  rw [h1, decide_eq_true h2]
  rfl
/-! ### two wheels in one heap -/
theorem WheelAt.draw {C : Addr} {H H' : Hp} {s p q l : Addr} {W : WS} (w : WheelAt C H p q l W) (hs : SrcAt H s) (hq : q ≠ s) (k : Stp s H H') : WheelAt C H' p q l W := by
  obtain ⟨x, y, z, h⟩ := hs
  exact w.frame h (Ne.symm hq) k.keep
/-- a wheel is changed, the other one stands as it stood -/
theorem WheelAt.other {C : Addr} {H H' : Hp} {p q l l' p2 q2 l2 : Addr} {W W2 : WS} (w2 : WheelAt C H p2 q2 l2 W2) (w : WheelAt C H p q l W) (k : Wk p l H H' l') (n1 : p2 ≠ p) (n2 : l2 ≠ l) : WheelAt C H' p2 q2 l2 W2 := by
  obtain ⟨dx, hp⟩ := w.ins
  obtain ⟨kvs, hl, _⟩ := w.live
  obtain ⟨dx2, hp2⟩ := w2.ins
  obtain ⟨kvs2, hl2, L2'⟩ := w2.live
  refine ⟨⟨dx2, k.keep _ _ n1 (ne_of hp2 hl (by intro z; cases z)) hp2⟩, k.keep _ _ (ne_of w2.words hp (by intro z; cases z)) (ne_of w2.words hl (by intro z; cases z)) w2.words, ⟨kvs2, k.keep _ _ (ne_of hl2 hp (by intro z; cases z)) n2 hl2, L2'.frame fun t m e => k.keep _ _ (ne_of e hp (by intro z; cases z)) (ne_of e hl (by intro z; cases z)) e⟩⟩
theorem FiredAt.wk {C p q l l' r : Addr} {H H' : Hp} {W : WS} (k : Wk p l H H' l') (w : WheelAt C H p q l W) {ts : List Addr} {fs : List (Nat × List Nat)} (h : FiredAt r H ts fs) : FiredAt r H' ts fs := h.frame (fun _ _ _ e => k.tup w e) fun _ _ _ e => k.lst w e
/-- the rows told in another list -/
theorem FiredAt.to {r N : Addr} {H : Hp} {o : HO} (hN : H N = none) : ∀ {ts : List Addr} {fs : List (Nat × List Nat)}, FiredAt r H ts fs → FiredAt N (upd H N o) ts fs
  | [], [], _ => trivial
  | _ :: _, _ :: _, ⟨⟨u, h1, _, h2⟩, h3⟩ => ⟨⟨u, same_upd hN _ _ h1, ne_of_none h2 hN, same_upd hN _ _ h2⟩, h3.to hN⟩
  | [], _ :: _, h => h.elim
  | _ :: _, [], h => h.elim
theorem FiredAt.cat {r : Addr} {H : Hp} : ∀ {ts us : List Addr} {fs gs : List (Nat × List Nat)}, FiredAt r H ts fs → FiredAt r H us gs → FiredAt r H (ts ++ us) (fs ++ gs)
  | [], _, [], _, _, h => h
  | _ :: _, _, _ :: _, _, ⟨h1, h2⟩, h => ⟨h1, h2.cat h⟩
  | [], _, _ :: _, _, h, _ => h.elim
  | _ :: _, _, [], _, h, _ => h.elim
theorem fired_item {r : Addr} {H : Hp} : ∀ {ts : List Addr} {fs : List (Nat × List Nat)} {i : Nat} {x : V}, FiredAt r H ts fs → (ts.map V.ref)[i]? = some x → ∃ t f u, x = .ref t ∧ fs[i]? = some f ∧ H t = some (.tup [.int (f.1 : Nat), .ref u])
  | t :: ts, f :: fs, 0, x, h, e => by
    obtain ⟨u, h1, _⟩ := h.1
    exact ⟨t, f, u, (Option.some.inj e).symm, rfl, h1⟩
  | t :: ts, f :: fs, i + 1, x, h, e => fired_item (i := i) h.2 e
  | [], [], _, _, _, e => by cases e
  | [], _ :: _, _, _, h, _ => h.elim
  | _ :: _, [], _, _, h, _ => h.elim
/-- two wheels of the law, what they stand in since H0 -/
structure Two (C : Addr) (H0 H : Hp) (s p q l p2 q2 l2 : Addr) (W W2 : WS) : Prop where
  keep : ∀ c o, c ≠ s → H0 c = some o → H c = some o
  src : SrcAt H s
  src0 : SrcAt H0 s
  p0 : H0 p = none
  q0 : H0 q = none
  l0 : H0 l = none
  p20 : H0 p2 = none
  q20 : H0 q2 = none
  l20 : H0 l2 = none
  np : p ≠ p2
  nl : l ≠ l2
  at1 : WheelAt C H p q l W
  at2 : WheelAt C H p2 q2 l2 W2
section
variable {C : Addr} {H0 H H' : Hp} {s p q l p2 q2 l2 : Addr} {W W2 : WS}
theorem Two.stp (T : Two C H0 H s p q l p2 q2 l2 W W2) : Stp s H0 H := ⟨T.keep, T.src⟩
theorem Two.same (T : Two C H0 H s p q l p2 q2 l2 W W2) (k : Same H H') : Two C H0 H' s p q l p2 q2 l2 W W2 :=
  ⟨fun c o n e => k _ _ (T.keep c o n e), T.src.same k, T.src0, T.p0, T.q0, T.l0, T.p20, T.q20, T.l20, T.np, T.nl, T.at1.same k, T.at2.same k⟩
theorem src_no {c : Addr} (h : SrcAt H0 s) (hc : H0 c = none) : c ≠ s := fun e => by
  obtain ⟨x, y, z, h⟩ := h
  rw [e, h] at hc
  cases hc
theorem Two.draw (T : Two C H0 H s p q l p2 q2 l2 W W2) (k : Stp s H H') : Two C H0 H' s p q l p2 q2 l2 W W2 :=
  ⟨fun c o n e => k.keep _ _ n (T.keep c o n e), k.src, T.src0, T.p0, T.q0, T.l0, T.p20, T.q20, T.l20, T.np, T.nl, T.at1.draw T.src (src_no T.src0 T.q0) k, T.at2.draw T.src (src_no T.src0 T.q20) k⟩
theorem Two.swap (T : Two C H0 H s p q l p2 q2 l2 W W2) : Two C H0 H s p2 q2 l2 p q l W2 W := ⟨T.keep, T.src, T.src0, T.p20, T.q20, T.l20, T.p0, T.q0, T.l0, Ne.symm T.np, Ne.symm T.nl, T.at2, T.at1⟩
/-- the first one is changed -/
theorem Two.go (T : Two C H0 H s p q l p2 q2 l2 W W2) {l' : Addr} {W' : WS} (k : Wk p l H H' l') (w : WheelAt C H' p q l' W') : Two C H0 H' s p q l' p2 q2 l2 W' W2 := by
  have free : ∀ {c : Addr}, H c = none → c ≠ s → H0 c = none := fun {c} hc hn => by
    cases e : H0 c with
    | none => rfl
    | some o =>
      rw [T.keep c o hn e] at hc
      cases hc
  refine ⟨fun c o n e => k.keep _ _ (ne_of_none e T.p0) (ne_of_none e T.l0) (T.keep c o n e), ?_, T.src0, T.p0, T.q0, ?_, T.p20, T.q20, T.l20, T.np, ?_, w, T.at2.other T.at1 k (Ne.symm T.np) (Ne.symm T.nl)⟩
  · obtain ⟨x, y, z, h⟩ := T.src
    exact ⟨x, y, z, k.lst T.at1 h⟩
  · rcases k.new with e | e
    · rw [e]
      exact T.l0
    · refine free e fun z => ?_
      obtain ⟨x, y, v, h⟩ := T.src
      rw [z, h] at e
      cases e
  · rcases k.new with e | e
    · rw [e]
      exact T.nl
    · intro z
      obtain ⟨kvs, h, _⟩ := T.at2.live
      rw [z, h] at e
      cases e
end
/-! ### law k06 -/
theorem WheelAt.x {C : Addr} {H H' : Hp} {p q l : Addr} {W : WS} (w : WheelAt C H p q l W) (x : LamX.ExtN H H') : WheelAt C H' p q l W := by
  obtain ⟨dx, h⟩ := w.ins
  obtain ⟨kvs, h2, L⟩ := w.live
  exact ⟨⟨dx, x _ _ h (fun t z => by cases z)⟩, x _ _ w.words (fun t z => by cases z), ⟨kvs, x _ _ h2 (fun t z => by cases z), L.frame fun t m e => x _ _ e (fun t z => by cases z)⟩⟩
theorem tot_app6 (a c : List (Nat × List Nat)) : total (a ++ c) = total a + total c := by
  unfold total
  rw [List.map_append, List.sum_append]
theorem fired_itemL {r : Addr} {H : Hp} : ∀ {ts : List Addr} {fs : List (Nat × List Nat)} {i : Nat} {x : V}, FiredAt r H ts fs → (ts.map V.ref)[i]? = some x → ∃ t f u, x = .ref t ∧ fs[i]? = some f ∧ H t = some (.tup [.int (f.1 : Nat), .ref u]) ∧ H u = some (.lst (f.2.map fun x => V.int (x : Nat)))
  | t :: ts, f :: fs, 0, x, h, e => by
    obtain ⟨u, h1, _, h2⟩ := h.1
    exact ⟨t, f, u, (Option.some.inj e).symm, rfl, h1, h2⟩
  | t :: ts, f :: fs, i + 1, x, h, e => fired_itemL (i := i) h.2 e
  | [], [], _, _, _, e => by cases e
  | [], _ :: _, _, _, h, _ => h.elim
  | _ :: _, [], _, _, h, _ => h.elim
/-- two wheels, the laps and the script beside them -/
structure S06 (C : Addr) (K : PySem.W.Frag) (lamT : List (Addr × Str)) (sa : Addr) (ns : List Int) (p q l p2 q2 l2 a : Addr) (laps : List Nat) (H : Hp) (W W2 : WS) : Prop where
  w1 : WheelAt C H p q l W
  w2 : WheelAt C H p2 q2 l2 W2
  np : p ≠ p2
  nl : l ≠ l2
  laps : LapsAt H a laps
  tabs : LamX.Tabs lamT H
  scr : SqL K H sa (ns.map V.int)
section
variable {C : Addr} {K : PySem.W.Frag} {lamT : List (Addr × Str)} {sa : Addr} {ns : List Int} {p q l p2 q2 l2 a : Addr} {laps : List Nat} {H H' : Hp} {W W2 : WS}
theorem S06.same (S : S06 C K lamT sa ns p q l p2 q2 l2 a laps H W W2) (s : Same H H') : S06 C K lamT sa ns p q l p2 q2 l2 a laps H' W W2 :=
  ⟨S.w1.same s, S.w2.same s, S.np, S.nl, S.laps.same s, S.tabs.ext s, s.seq S.scr⟩
theorem S06.x (S : S06 C K lamT sa ns p q l p2 q2 l2 a laps H W W2) (x : LamX.ExtN H H') (t : LamX.Tabs lamT H') : S06 C K lamT sa ns p q l p2 q2 l2 a laps H' W W2 :=
  ⟨S.w1.x x, S.w2.x x, S.np, S.nl, ⟨x _ _ S.laps.1 (fun t z => by cases z), S.laps.2⟩, t, ExtN.seq x S.scr⟩
theorem S06.swap (S : S06 C K lamT sa ns p q l p2 q2 l2 a laps H W W2) : S06 C K lamT sa ns p2 q2 l2 p q l a laps H W2 W := ⟨S.w2, S.w1, Ne.symm S.np, Ne.symm S.nl, S.laps, S.tabs, S.scr⟩
theorem S06.go (S : S06 C K lamT sa ns p q l p2 q2 l2 a laps H W W2) {l' : Addr} {W' : WS} (k : Wk p l H H' l') (w : WheelAt C H' p q l' W') : S06 C K lamT sa ns p q l' p2 q2 l2 a laps H' W' W2 := by
  obtain ⟨dx, hp⟩ := S.w1.ins
  obtain ⟨kvs, hl, _⟩ := S.w1.live
  have go : ∀ {c : Addr} {o : HO}, (∀ d f, o ≠ .ins C d f) → (∀ kk, o ≠ .dK kk) → H c = some o → H' c = some o := fun {c o} n1 n2 e => k.keep c o (ne_of e hp (n1 _ _)) (ne_of e hl (n2 _)) e
  refine ⟨w, S.w2.other S.w1 k (Ne.symm S.np) (Ne.symm S.nl), S.np, ?_, ⟨go (fun _ _ z => by cases z) (fun _ z => by cases z) S.laps.1, S.laps.2⟩, fun t ht => ?_, ?_⟩
  · rcases k.new with e | e
    · rw [e]
      exact S.nl
    · intro z
      obtain ⟨kv2, hl2, _⟩ := S.w2.live
      rw [← z, e] at hl2
      cases hl2
  · obtain ⟨tb, e0, h1, h2⟩ := S.tabs t ht
    refine ⟨tb, go (fun _ _ z => by cases z) (fun _ z => by cases z) e0, h1, fun pos cv hc => ?_⟩
    obtain ⟨c', e1, e2⟩ := h2 pos cv hc
    exact ⟨c', e1, go (fun _ _ z => by unfold LamX.CodeO at z; cases z) (fun _ z => by unfold LamX.CodeO at z; cases z) e2⟩
  · rcases S.scr with (e | ⟨o, e⟩) | e
    · exact .inl (.inl (go (fun _ _ z => by cases z) (fun _ z => by cases z) e))
    · exact .inl (.inr ⟨o, go (fun _ _ z => by cases z) (fun _ z => by cases z) e⟩)
    · exact .inr e
end
section
variable {P : Program} {w : World} {K : PySem.W.Frag} {mg : Str → Option Value} {base : Heap}
def spLaw (K : PySem.W.Frag) (lamT : List (Addr × Str)) : Sp := fun vs H Q _ => ∃ (a : Addr) (ns : List Int), vs = [.ref a] ∧ SqL K H a (ns.map V.int) ∧ ns.length ≤ 63 ∧ LamX.Tabs lamT H ∧ ∀ H', Q (.bl true) H'
set_option maxHeartbeats 40000000 in
theorem ok_law {f fW cB Pt C c_TimerError c_NoBase c_NoLevels c_NoTick c_NoOrder c_NoPeriod c_NoSighting c_NoTimer c_TooMany : Addr} {fd fdW : FuncData} {cdW : Value} {lamT : List (Addr × Str)} (F : FunC K "law" s_law f fd (.ref cB)) (T : Tx K mg) (TW : TxW K mg C)
    (FW : FunC K "_law_word" s__law_word fW fdW cdW) (m__law_word : mg "_law_word" = some (.ref fW)) (b__law_word : Binds K fdW ["_law_call"] []) (TB : LamX.TabB base mg cB Pt) (hmT : (Pt, lamQ "law") ∈ lamT) (hu : ∀ p ∈ lamT, p.1 = Pt → p.2 = lamQ "law")
    (XG_TimerError : EG mg "TimerError" c_TimerError) (XG_NoBase : EG mg "NoBase" c_NoBase) (XG_NoLevels : EG mg "NoLevels" c_NoLevels) (XG_NoTick : EG mg "NoTick" c_NoTick) (XG_NoOrder : EG mg "NoOrder" c_NoOrder) (XG_NoPeriod : EG mg "NoPeriod" c_NoPeriod) (XG_NoSighting : EG mg "NoSighting" c_NoSighting) (XG_NoTimer : EG mg "NoTimer" c_NoTimer) (XG_TooMany : EG mg "TooMany" c_TooMany)
    (te : PySem.W.exmOne K (.ref c_TooMany) (.ref c_TimerError) = some true) (kd : Kind8 K c_TooMany [c_NoBase, c_NoLevels, c_NoTick, c_NoPeriod, c_NoTimer, c_NoOrder, c_NoSighting, c_TooMany] 7)
    (h1 : Has P w K mg base 2 "_law_source" ["_law_script", "_law_k"] [] (spSource K)) (h2 : Has P w K mg base 3 "_law_base" ["_law_source_here"] [] spBase) (h3 : Has P w K mg base 3 "_law_levels" ["_law_source_here"] [] spLevels)
    (h4 : Has P w K mg base 3 "_law_tick" ["_law_source_here", "_law_base_here"] [] spTick) (h5 : Has P w K mg base 2 "_law_next" ["_law_source_here", "_law_many_here"] [] spNext) (h6 : Has P w K mg base 1 "_law_many" ["_law_laps", "_law_now", "_law_last"] [] spMany06)
    (h7 : Has P w K mg base 2 "_law_bound" ["_law_laps", "_law_now"] [] spBound06) (h8 : Has P w K mg base 7 "_law_wheel" ["_law_base_here", "_law_levels_here", "_law_now", "_law_laps"] [] (spWheel06 C))
    (m1 : HasM P w K mg base 6 C "advance" ["self", "tick"] [] (spAdvance C)) (m1X : HasMX P w K mg base 6 C "advance" ["self", "tick"] [] (spAdvMany C c_TooMany)) (m2 : HasM P w K mg base 5 C "lists" ["self"] [] (spLists C)) (m3 : HasM P w K mg base 1 C "now" ["self"] [] (spNow C)) (m4 : HasM P w K mg base 1 C "timers" ["self"] [] (spTimers C)) :
    FnOk P w K mg base CX0 9 f fd ["_law_script"] (spLaw K lamT) := by
  have cl_Wheel := TW.cl
  obtain ⟨⟨oc, kV, doc, pm, ct, od, an, osl, e1, lk__law_word, hc__law_word⟩, kp__law_word⟩ := FW
  subst e1
  obtain ⟨f__law_source, fd__law_source, ds__law_source, G__law_source, m__law_source, k__law_source, b__law_source, v__law_source⟩ := h1
  obtain ⟨f__law_base, fd__law_base, ds__law_base, G__law_base, m__law_base, k__law_base, b__law_base, v__law_base⟩ := h2
  obtain ⟨f__law_levels, fd__law_levels, ds__law_levels, G__law_levels, m__law_levels, k__law_levels, b__law_levels, v__law_levels⟩ := h3
  obtain ⟨f__law_tick, fd__law_tick, ds__law_tick, G__law_tick, m__law_tick, k__law_tick, b__law_tick, v__law_tick⟩ := h4
  obtain ⟨f__law_next, fd__law_next, ds__law_next, G__law_next, m__law_next, k__law_next, b__law_next, v__law_next⟩ := h5
  obtain ⟨f__law_many, fd__law_many, ds__law_many, G__law_many, m__law_many, k__law_many, b__law_many, v__law_many⟩ := h6
  obtain ⟨f__law_bound, fd__law_bound, ds__law_bound, G__law_bound, m__law_bound, k__law_bound, b__law_bound, v__law_bound⟩ := h7
  obtain ⟨f__law_wheel, fd__law_wheel, ds__law_wheel, G__law_wheel, m__law_wheel, k__law_wheel, b__law_wheel, v__law_wheel⟩ := h8
  obtain ⟨g1, gd1, gs1, G_Wheel_advance, M_Wheel_advance, b_Wheel_advance, v_Wheel_advance⟩ := m1
  obtain ⟨g1X, gd1X, gs1X, G_Wheel_advanceX, M_Wheel_advanceX, b_Wheel_advanceX, v_Wheel_advanceX⟩ := m1X
  obtain ⟨g2, gd2, gs2, G_Wheel_lists, M_Wheel_lists, b_Wheel_lists, v_Wheel_lists⟩ := m2
  obtain ⟨g3, gd3, gs3, G_Wheel_now, M_Wheel_now, b_Wheel_now, v_Wheel_now⟩ := m3
  obtain ⟨g4, gd4, gs4, G_Wheel_timers, M_Wheel_timers, b_Wheel_timers, v_Wheel_timers⟩ := m4
  refine F.ok sc_law (fun vs H Q E h => ?_) (fun A outer s H vs Q E hr h => ?_)
  · obtain ⟨a, ns, rfl, _⟩ := h
    rfl
  · obtain ⟨sa, ns, rfl, hS, hlen, hT, fin⟩ := h
    refine ⟨_, (pss_cons (ps_for PassesOwn.never rfl (pi_range1 (by rfl) T.b_range (pa_cons (pe_callB (call_max2 rfl) (by rfl) T.b_max (by decide +kernel) (pa_cons pe_int (pa_cons (pe_callB (call_min2 rfl) (by rfl) T.b_min (by decide +kernel) (pa_cons pe_int (pa_cons (pe_callB (lenK (K := K) rfl) (by rfl) T.b_len PySem.boot_len (pa_cons (pv 0) pa_nil)) pa_nil))) pa_nil))) pa_nil)) (pg_name (i := 1) sc_law.nd rfl (.inl rfl))
        (pss_cons (ps_set (i := 2) sc_law.nd rfl (.inr rfl) (pe_call G__law_source (hr.mono (by decide)) (by rfl) m__law_source k__law_source b__law_source v__law_source pass0 (pa_cons (pv 0) (pa_cons (pv 1) pa_nil))))
        (pss_cons (ps_par (i := 3) (j := 4) (by rfl) sc_law.nd rfl rfl (by decide) rfl rfl (pa_cons (pe_call G__law_base (hr.mono (by decide)) (by rfl) m__law_base k__law_base b__law_base v__law_base pass0 (pa_cons (pv 2) pa_nil)) (pa_cons (pe_call G__law_levels (hr.mono (by decide)) (by rfl) m__law_levels k__law_levels b__law_levels v__law_levels pass0 (pa_cons (pv 2) pa_nil)) pa_nil)) (by rfl))
        (pss_cons (ps_set (i := 5) sc_law.nd rfl (.inl rfl) (pe_call G__law_tick (hr.mono (by decide)) (by rfl) m__law_tick k__law_tick b__law_tick v__law_tick pass0 (pa_cons (pv 2) (pa_cons (pv 3) pa_nil))))
        (pss_cons (ps_setLc (i := 6) (own := [("_law_at", 14)]) (g := gName 14) (tt := tYes) rfl sc_law.nd rfl rfl (sw_true rfl rfl rfl (by decide +kernel)) (pi_range1 (by rfl) T.b_range (pa_cons (pe_op op_addN pe_int (pe_call G__law_next (hr.mono (by decide)) (by rfl) m__law_next k__law_next b__law_next v__law_next pass0 (pa_cons (pv 2) (pa_cons pe_int pa_nil)))) pa_nil)) (blkOk_by (own := [("_law_at", 14)]) (N := N_law) (sc := defScope s_law) (by decide +kernel)) (fun _ _ _ _ _ => (pg_name (i := 14) sc_law.nd rfl (.inl rfl))) (fun _ _ _ _ _ => pts_nil) (fun _ _ _ _ _ => (pe_op op_addN pe_int (pe_call G__law_next (hr.mono (by decide)) (by rfl) m__law_next k__law_next b__law_next v__law_next pass0 (pa_cons (pv 2) (pa_cons (pe_ix (ix_listK (K := K) rfl) (pe_lst (pa_cons pe_int (pa_cons pe_int pa_nil))) (pe_call G__law_next (hr.mono (by decide)) (by rfl) m__law_next k__law_next b__law_next v__law_next pass0 (pa_cons (pv 2) (pa_cons pe_int pa_nil))) (fun _ _ => rfl)) pa_nil))))))
        (pss_cons (ps_set (i := 7) sc_law.nd rfl (.inl rfl) (pe_call G__law_bound (hr.mono (by decide)) (by rfl) m__law_bound k__law_bound b__law_bound v__law_bound pass0 (pa_cons (pv 6) (pa_cons (pv 5) pa_nil))))
        (pss_cons (ps_asg (pe_tup (pa_cons (pe_call G__law_wheel (hr.mono (by decide)) (by rfl) m__law_wheel k__law_wheel b__law_wheel v__law_wheel pass0 (pa_cons (pv 3) (pa_cons (pv 4) (pa_cons (pv 5) (pa_cons (pv 6) pa_nil))))) (pa_cons (pe_call G__law_wheel (hr.mono (by decide)) (by rfl) m__law_wheel k__law_wheel b__law_wheel v__law_wheel pass0 (pa_cons (pv 3) (pa_cons (pv 4) (pa_cons (pv 5) (pa_cons (pv 6) pa_nil))))) pa_nil))) (pg_tupK (K := K) (n := 2) rfl rfl (pgs_cons (pg_name (i := 13) sc_law.nd rfl (.inr rfl)) (pgs_cons (pg_name (i := 8) sc_law.nd rfl (.inl rfl)) pgs_nil))))
        (pss_cons (ps_set (i := 9) sc_law.nd rfl (.inl rfl) (pe_meth0 (pv 13) cl_Wheel M_Wheel_lists G_Wheel_lists (hr.mono (by decide)) b_Wheel_lists v_Wheel_lists pass0))
        (pss_cons (ps_for PassesOwn.never rfl (pi_list (pe_lst (pa_cons (pe_op op_addN (pv 7) pe_int) (pa_cons (pe_op op_addN (pv 7) pe_int) (pa_cons (pe_op op_addN (pv 5) (pe_op op_pow pe_int pe_int)) pa_nil))))) (pg_name (i := 12) sc_law.nd rfl (.inr rfl))
          (pss_cons (ps_if (pt_cmpR op_ne (LamX.pe_lamcall (k := 6) (T := lamT) rfl m__law_word kp__law_word lk__law_word hc__law_word b__law_word sc__law_word rfl (Or.inl (by decide +kernel)) (word_gives T XG_TimerError XG_NoBase XG_NoLevels XG_NoTick XG_NoOrder XG_NoPeriod XG_NoSighting XG_NoTimer XG_TooMany) TB rfl hmT hu hr (LamX.lamS_by (show LamX.lamSB (defScope s_law) _ = true by decide +kernel)) rfl (fun _ _ _ _ _ => rfl) (fun _ _ _ _ _ _ _ hr2 => (pe_meth (pv 13) cl_Wheel M_Wheel_advanceX G_Wheel_advanceX hr2 b_Wheel_advanceX v_Wheel_advanceX (passes_call (takes_of rfl rfl rfl rfl) (fun _ _ _ _ h => h)) (pa_cons (pv 12) pa_nil)))) pe_str (nomark _))
            (pss_one (ps_ret pe_bl))
            pss_nil)
          (pss_one (ps_if (PW.pt (pw_or (pt_cmpR (op_neK (K := K) rfl hr.units) (pe_meth0 (pv 13) cl_Wheel M_Wheel_lists G_Wheel_lists (hr.mono (by decide)) b_Wheel_lists v_Wheel_lists pass0) (pv 9) (nomark _)) (pw_or (pt_cmpR op_ne (pe_meth0 (pv 13) cl_Wheel M_Wheel_now G_Wheel_now (hr.mono (by decide)) b_Wheel_now v_Wheel_now pass0) (pv 5) (nomark _)) (pw_or1 (pt_cmpR (op_neK (K := K) rfl hr.units) (pe_meth0 (pv 13) cl_Wheel M_Wheel_timers G_Wheel_timers (hr.mono (by decide)) b_Wheel_timers v_Wheel_timers pass0) (pe_listRg rfl (by rfl) T.b_list (prg_1 (by rfl) T.b_range (pe_callB (lenK (K := K) rfl) (by rfl) T.b_len PySem.boot_len (pa_cons (pv 6) pa_nil)))) (nomark _))))))
            (pss_one (ps_ret pe_bl))
            pss_nil))))
        (pss_cons (ps_set (i := 10) sc_law.nd rfl (.inl rfl) (pe_meth (pv 8) cl_Wheel M_Wheel_advance G_Wheel_advance (hr.mono (by decide)) b_Wheel_advance v_Wheel_advance pass0 (pa_cons (pv 7) pa_nil)))
        (pss_cons (ps_if (pt_cmpR op_ne (pe_callB (sumK (K := K) rfl rfl) (by rfl) T.b_sum (by decide +kernel) (pa_cons (pe_lc (own := [("_law_tick_here", 15), ("_law_numbers", 16)]) (g := _) (tt := tYes) rfl sc_law.nd (pi_list (pv 10)) (blkOk_by (own := [("_law_tick_here", 15), ("_law_numbers", 16)]) (N := N_law) (sc := defScope s_law) (by decide +kernel)) (fun _ _ _ _ _ => (pg_tupK (K := K) (n := 2) rfl rfl (pgs_cons (pg_name (i := 15) sc_law.nd rfl (.inl rfl)) (pgs_cons (pg_name (i := 16) sc_law.nd rfl (.inl rfl)) pgs_nil)))) (fun _ _ _ _ _ => pts_nil) (fun _ _ _ _ _ => (pe_callB (lenK (K := K) rfl) (by rfl) T.b_len PySem.boot_len (pa_cons (pv 16) pa_nil)))) pa_nil)) (pe_call G__law_many (hr.mono (by decide)) (by rfl) m__law_many k__law_many b__law_many v__law_many pass0 (pa_cons (pv 6) (pa_cons (pv 5) (pa_cons (pv 7) pa_nil)))) (nomark _))
          (pss_one (ps_ret pe_bl))
          pss_nil)
        (pss_cons (ps_set (i := 11) sc_law.nd rfl (.inl rfl) (pe_op op_addN (pv 5) (pe_op op_divN (pe_op op_subN (pv 7) (pv 5)) pe_int)))
        (pss_cons (ps_if (PW.pt (pw_or (pt_cmpR (op_neK (K := K) rfl hr.units) (pe_op op_cat (pe_meth (pv 13) cl_Wheel M_Wheel_advance G_Wheel_advance (hr.mono (by decide)) b_Wheel_advance v_Wheel_advance pass0 (pa_cons (pv 11) pa_nil)) (pe_meth (pv 13) cl_Wheel M_Wheel_advance G_Wheel_advance (hr.mono (by decide)) b_Wheel_advance v_Wheel_advance pass0 (pa_cons (pv 7) pa_nil))) (pv 10) (nomark _)) (pw_or1 (pt_cmpR (op_neK (K := K) rfl hr.units) (pe_meth0 (pv 13) cl_Wheel M_Wheel_lists G_Wheel_lists (hr.mono (by decide)) b_Wheel_lists v_Wheel_lists pass0) (pe_meth0 (pv 8) cl_Wheel M_Wheel_lists G_Wheel_lists (hr.mono (by decide)) b_Wheel_lists v_Wheel_lists pass0) (nomark _)))))
          (pss_one (ps_ret pe_bl))
          pss_nil)
        (pss_one (ps_if (pt_cmpR (op_neK (K := K) rfl hr.units) (pe_meth (pv 13) cl_Wheel M_Wheel_advance G_Wheel_advance (hr.mono (by decide)) b_Wheel_advance v_Wheel_advance pass0 (pa_cons (pe_op op_addN (pv 7) pe_int) pa_nil)) (pe_meth (pv 8) cl_Wheel M_Wheel_advance G_Wheel_advance (hr.mono (by decide)) b_Wheel_advance v_Wheel_advance pass0 (pa_cons (pe_op op_addN (pv 7) pe_int) pa_nil)) (nomark _))
          (pss_one (ps_ret pe_bl))
          pss_nil)))))))))))))))
      (pss_one (ps_ret pe_bl))), ?_⟩
    refine ⟨.ref sa, rfl, sa, ns.map V.int, rfl, .inl hS, 4, _, rfl, 1, _, rfl, _, rfl, ?_, ?_, for_range (Pv := fun i σ H' => SqL K H' sa (ns.map V.int) ∧ LamX.Tabs lamT H' ∧ ∃ y1 y2 y3 y4 y5 y6 y7 y8 y9 y10 y11 y12 y13 y14 y15 y16, σ = [some (.ref sa), y1, y2, y3, y4, y5, y6, y7, y8, y9, y10, y11, y12, y13, y14, y15, y16]) ⟨hS, hT, none, none, none, none, none, none, none, none, none, none, none, none, none, none, none, none, rfl⟩ ?_ ?_⟩
    · split <;> split <;> omega
    · rw [List.length_map]
      split <;> split <;> omega
    · rintro i0 σ H0 hi ⟨hS, hT, y1, y2, y3, y4, y5, y6, y7, y8, y9, y10, y11, y12, y13, y14, y15, y16, rfl⟩
      refine ⟨_, rfl, _, rfl, sa, ns, 0 + i0, rfl, hS, fun H1 s0 s1 hs0 hsrc => ?_⟩
      refine ⟨_, rfl, s0, rfl, hsrc, fun b H2 hb hb64 k2 => ⟨_, rfl, s0, rfl, k2.src, fun H3 ql ws k3 hql0 hql hne h60 => ?_⟩⟩
      have nql : ql ≠ s0 := k2.src.ne hql0
      refine ⟨_, _, rfl, ?_⟩
      refine ⟨_, rfl, _, rfl, s0, b, rfl, hb, hb64, k3.src, fun n H4 hn k4 => ?_⟩
      have hql4 := k4.keep _ _ nql hql
      have k14 := (k2.trans k3).trans k4
      -- the laps
      refine ⟨_, rfl, s0, 4, rfl, by decide, by decide, k4.src, fun r5 H5 hr5 k5 => ⟨1, r5, rfl, rfl, trivial, ?_⟩⟩
      have nr : (((1 + r5 : Nat) : Int) - 0).toNat = 1 + r5 := by omega
      refine ⟨((1 + r5 : Nat) : Int), rfl, by omega, by omega, fun D hD => lc_range (lo := 0) (n := (((1 + r5 : Nat) : Int)).toNat) (fun i H' => Stp s0 H5 H' ∧ ∃ laps : List Nat, laps.length = i ∧ (∀ x ∈ laps, 1 ≤ x ∧ x ≤ 40) ∧ H' D = some (.lst (laps.map fun x => V.int (x : Nat))))
        ⟨k5.src.stp_same (same_upd hD), [], rfl, (fun x hx => by cases hx), upd_same⟩ ?_ ?_⟩
      · rintro i H6 hi6 ⟨st, laps, hl, hx, eD⟩
        have nDs : D ≠ s0 := k5.src.ne hD
        have hi5 : i < 1 + r5 := by omega
        refine ⟨rfl, yesT (iteT ⟨_, rfl, by simp [sizeLine_eq], fun l7 hl7 => ?_⟩)⟩
        have u7 := same_upd (o := .lst [.int 3, .int 40]) hl7
        have st7 := st.same u7
        have nl7 : l7 ≠ s0 := st.src.ne hl7
        have el7 := upd_same (H := H6) (a := l7) (o := .lst [.int 3, .int 40])
        have eD7 := u7 _ _ eD
        generalize upd H6 l7 (.lst [.int 3, .int 40]) = H7 at st7 el7 eD7 ⊢
        refine ⟨_, rfl, s0, 2, rfl, by decide, by decide, st7.src, fun r8 H8 hr8 k8 => ?_⟩
        have el8 := k8.keep _ _ nl7 el7
        obtain ⟨g, hg0, hg, eg⟩ : ∃ g : Nat, 0 < g ∧ g ≤ 40 ∧ ([.int 3, .int 40] : List V)[r8]? = some (.int (g : Nat)) := by
          have z : r8 = 0 ∨ r8 = 1 := by omega
          rcases z with rfl | rfl
          · exact ⟨3, by decide, by decide, rfl⟩
          · exact ⟨40, by decide, by decide, rfl⟩
        refine ⟨l7, _, r8, _, rfl, rfl, SqL.of el8, atI_nat eg, s0, (g : Nat), rfl, by omega, Int.lt_of_le_of_lt (show ((g : Nat) : Int) ≤ 40 by omega) (by decide), k8.src, fun r9 H9 hr9 k9 => ⟨1, r9, rfl, rfl, trivial, _, k9.keep _ _ nDs (k8.keep _ _ nDs eD7), ?_, ⟨fun c o n e => ?_, ?_⟩, laps ++ [1 + r9], ?_, fun x hx' => ?_, ?_⟩⟩
        · rw [List.length_map]
          exact sizeLine_ge (by omega)
        · rw [upd_ne (ne_of_none e hD)]
          exact k9.keep _ _ n (k8.keep _ _ n (st7.keep _ _ n e))
        · obtain ⟨x, y, z, h⟩ := k9.src
          exact ⟨x, y, z, by rw [upd_ne nDs.symm]; exact h⟩
        · rw [List.length_append, hl]
          rfl
        · rcases List.mem_append.mp hx' with h | h
          · exact hx x h
          · rw [List.mem_singleton.mp h]
            omega
        · rw [upd_same, List.map_append]
          rfl
      rintro H6 ⟨k6, laps, hll, hlx, eD6⟩
      have hll2 : laps.length = 1 + r5 := by omega
      have nDs : D ≠ s0 := k5.src.ne hD
      have s06 : Same H0 H6 := fun c o e => k6.keep _ _ (ne_of_none e hs0) (k5.keep _ _ (ne_of_none e hs0) (k14.keep _ _ (ne_of_none e hs0) (s1 _ _ e)))
      have hql6 := k6.keep _ _ nql (k5.keep _ _ nql hql4)
      have hL6 : LapsAt H6 D laps := ⟨eD6, by omega, hlx, fun z => by rw [z] at hll2; simp at hll2; omega⟩
      refine ⟨_, rfl, _, rfl, D, laps, n, rfl, hL6, fun H7 B s7 hB1 hB2 hB3 hB4 => ?_⟩
      have hL7 := hL6.same s7
      have hn195 : n < 2 ^ 195 := Nat.lt_trans hn (by decide)
      refine ⟨_, rfl, _, rfl, _, rfl, _, rfl, ql, D, b, n, ws, laps, rfl, s7 _ _ hql6, hL7, hb, hb64, hne, h60, hn195, fun H8 p q l s8 hp80 hq80 hl80 w8 => ?_⟩
      have hL8 := hL7.same s8
      refine ⟨_, rfl, _, rfl, _, rfl, _, rfl, ql, D, b, n, ws, laps, rfl, s8 _ _ (s7 _ _ hql6), hL8, hb, hb64, hne, h60, hn195, fun H9 p2 q2 l2 s9 hp90 hq90 hl90 w9 => ⟨by simp [sizeLine_eq], fun u10 hu10 => ?_⟩⟩
      have u10s := same_upd (o := .tup [.ref p, .ref p2]) hu10
      have eu10 := upd_same (H := H9) (a := u10) (o := .tup [.ref p, .ref p2])
      have ok : WOk (W06 b ws n laps) := w06_ok hb hb64 hne h60 hn195 (by omega) hlx
      have S10 : S06 C K lamT sa ns p q l p2 q2 l2 D laps (upd H9 u10 (.tup [.ref p, .ref p2])) (W06 b ws n laps) (W06 b ws n laps) := by
        have S9 : S06 C K lamT sa ns p q l p2 q2 l2 D laps H9 (W06 b ws n laps) (W06 b ws n laps) := by
          obtain ⟨dx, hp⟩ := w8.ins
          obtain ⟨kv, hlv, _⟩ := w8.live
          have s09 : Same H0 H9 := ((s06.trans s7).trans s8).trans s9
          exact ⟨w8.same s9, w9, ne_of_none hp hp90, ne_of_none hlv hl90, hL8.same s9, hT.ext s09, s09.seq hS⟩
        exact S9.same u10s
      generalize upd H9 u10 (.tup [.ref p, .ref p2]) = H10 at eu10 S10 ⊢
      refine ⟨u10, _, rfl, SqT.of eu10, rfl, _, _, rfl, _, _, rfl, rfl, ?_⟩
      obtain ⟨dx10, hp10⟩ := S10.w1.ins
      refine ⟨_, rfl, p, dx10, _, rfl, hp10, nm_lists, p, q, l, W06 b ws n laps, rfl, S10.w1, ok, fun H11 R11 ts11 cs11 s11 hR11 eR11 hC11 hF11 hI11 => ?_⟩
      have S11 := S10.same s11
      -- too many
      have adT : ∀ t, n ≤ t → t < 2 ^ 200 → ∀ m ∈ mkTs n 0 laps, AdvT t m := fun t h1 h2 m hm => by
        obtain ⟨k, z1, z2, z3, z4, _, _⟩ := mk_mem hm
        have zk := hlx k z1
        have hn200 : n < 2 ^ 200 := by omega
        have h240 : ∀ x : Nat, x < 2 ^ 200 + 100 → x < 2 ^ 240 := fun x h => Nat.lt_trans h (by decide)
        exact ⟨by omega, h240 _ (by omega), fun k' e => by rw [z3] at e; cases e; exact ⟨zk.1, h240 _ (by omega)⟩⟩
      have lenT : (mkTs n 0 laps).length ≤ 4 := by
        rw [mk_len]
        omega
      have runT : ∀ t, n ≤ t → t < 2 ^ 200 → ∃ fired ms', AdvTo b (trimW ws) t (mkTs n 0 laps) fired ms' ∧ total fired = manyL laps n t := fun t h1 h2 => by
        obtain ⟨fired, ms', a1, _⟩ := adv_gen b (trimW ws) (Nat.le_refl t) _ (mkTs n 0 laps) (Nat.le_refl _) (adT t h1 h2) ok.nd ok.few
        exact ⟨fired, ms', a1, (adv_total a1 (adT t h1 h2) ok.nd ok.few).trans (sum_mk n t laps 0 fun k hk => (hlx k hk).1)⟩
      have hn190 : n < 2 ^ 190 := hn
      have hB200 : B + 100 < 2 ^ 200 := by
        have z : B + 100 < 2 ^ 190 + 200000 := by omega
        exact Nat.lt_trans z (by decide)
      obtain ⟨far, efar⟩ : ∃ far, far = n + 10 ^ 50 := ⟨_, rfl⟩
      have hfar1 : B + 1 ≤ far := by
        have z : (100000 : Nat) ≤ 10 ^ 50 := by decide
        omega
      have hfar2 : far < 2 ^ 200 := by
        have z : (10 : Nat) ^ 50 < 2 ^ 190 := by decide
        have z2 : far < 2 ^ 191 := by omega
        exact Nat.lt_trans z2 (by decide)
      refine ⟨_, rfl, B, 1, rfl, rfl, trivial, _, rfl, B, 7, rfl, rfl, trivial, _, rfl, 10, 50, rfl, rfl, ⟨by decide, by decide, by decide⟩, n, 10 ^ 50, rfl, congrArg V.int (by decide), trivial, by simp [sizeLine_eq], fun l12 hl12 => ?_⟩
      have ev : ([.int ((B + 1 : Nat) : Int), .int ((B + 7 : Nat) : Int), .int ((n + 10 ^ 50 : Nat) : Int)] : List V) = [B + 1, B + 7, far].map fun x => V.int (x : Nat) := by
        rw [efar]
        rfl
      have u12 := same_upd (o := .lst ([B + 1, B + 7, far].map fun x => V.int (x : Nat))) hl12
      have el12 := upd_same (H := H11) (a := l12) (o := .lst ([B + 1, B + 7, far].map fun x => V.int (x : Nat)))
      have eH : upd H11 l12 (.lst [.int ((B + 1 : Nat) : Int), .int ((B + 7 : Nat) : Int), .int ((n + 10 ^ 50 : Nat) : Int)]) = upd H11 l12 (.lst ([B + 1, B + 7, far].map fun x => V.int (x : Nat))) := by rw [ev]
      obtain ⟨H12, eH12⟩ : ∃ H12, H12 = upd H11 l12 (.lst [.int ((B + 1 : Nat) : Int), .int ((B + 7 : Nat) : Int), .int ((n + 10 ^ 50 : Nat) : Int)]) := ⟨_, rfl⟩
      have eH2 := eH12.trans eH
      rw [← eH2] at u12 el12
      have S12 := S11.same u12
      have eR12 := u12 _ _ eR11
      have hC12 := hC11.frame (H0' := H12) (H' := H12) (fun a xs e => u12 _ _ e) fun t xs e => u12 _ _ e
      have goalH : ∀ {G : Hp → Prop}, G H12 → G (upd H11 l12 (.lst [.int ((B + 1 : Nat) : Int), .int ((B + 7 : Nat) : Int), .int ((n + 10 ^ 50 : Nat) : Int)])) := fun {G} h => by
        rw [← eH12]
        exact h
      refine goalH (G := fun Hx => _) ?_
      refine ⟨l12, rfl, ⟨_, SqL.of el12⟩, for_list (K := K) (a := l12) (xs := [B + 1, B + 7, far].map fun x => V.int (x : Nat)) (fun i σ H' => ∃ (y12 : Option V), σ = [some (.ref sa), some (.int ((0 : Int) + (i0 : Int))), some (.ref s0), some (.int (b : Nat)), some (.ref ql), some (.int (n : Nat)), some (.ref D), some (.int (B : Nat)), some (.ref p2), some (.ref R11), y10, y11, y12, some (.ref p), y14, y15, y16] ∧ LamX.ExtN H12 H' ∧ LamX.Tabs lamT H') ⟨y12, rfl, fun _ _ e _ => e, S12.tabs⟩ (fun i σ H' _ ⟨_, _, x, _⟩ => SqL.of (x _ _ el12 (fun t z => by cases z))) ?_ ?_⟩
      · rintro i x σ H13 hx ⟨y12, rfl, x13, t13⟩
        obtain ⟨t, ht, rfl⟩ : ∃ t : Nat, [B + 1, B + 7, far][i]? = some t ∧ V.int (t : Nat) = x := by
          rw [List.getElem?_map] at hx
          cases hd : [B + 1, B + 7, far][i]? with
          | none =>
            rw [hd] at hx
            cases hx
          | some d =>
            rw [hd] at hx
            exact ⟨d, rfl, Option.some.inj hx⟩
        have htB : B + 1 ≤ t ∧ t < 2 ^ 200 := by
          have z := List.mem_of_getElem? ht
          have z2 : t = B + 1 ∨ t = B + 7 ∨ t = far := by simpa using z
          rcases z2 with e | e | e <;> omega
        have S13 := S12.x x13 t13
        obtain ⟨fired, ms', adv, tot⟩ := runT t (by omega) htB.2
        have hover : 2000 < total fired := by
          rw [tot]
          exact Nat.lt_of_lt_of_le hB4 (many_mono htB.1 laps)
        refine ⟨t13, fun H14 x14 t14 => ?_⟩
        have S14 := S13.x x14 t14
        obtain ⟨dx14, hp14⟩ := S14.w1.ins
        refine ⟨_, rfl, p, dx14, _, rfl, hp14, nm_advance, _, rfl, p, q, l, W06 b ws n laps, t, fired, ms', rfl, S14.w1, hb, hb64, trim_ne hne, ok.few, (by show n ≤ t; omega), adv, hover, fun H15 s15 => ⟨c_TooMany, 7, _, rfl, rfl, te, kd, rfl, fun H16 s16 => ?_⟩⟩
        have S16 := (S14.same s15).same s16
        refine ⟨rfl, false, nF rfl, iteF ?_⟩
        have x16 : LamX.ExtN H12 H16 := (x13.trans x14).trans (extN_same (s15.trans s16))
        obtain ⟨dx16, hp16⟩ := S16.w1.ins
        have eR16 := x16 _ _ eR12 (fun t z => by cases z)
        have hC16 := hC12.frame (H0' := H16) (H' := H16) (fun a xs e => x16 _ _ e (fun t z => by cases z)) fun t xs e => x16 _ _ e (fun t z => by cases z)
        refine ⟨_, rfl, p, dx16, _, rfl, hp16, nm_lists, p, q, l, W06 b ws n laps, rfl, S16.w1, ok, fun H17 R17 ts17 cs17 s17 hR17 eR17 hC17 hF17 hI17 => ?_⟩
        have e17 : cs17 = cs11 := hI17.uniq hI11
        subst e17
        refine ⟨_, rfl, .list (cs17.map cellD), .list (cs17.map cellD), .lst (SqL.of eR17) (cells_dp (fun _ _ e => e) hC17), .lst (SqL.of (s17 _ _ eR16)) (cells_dp (fun _ _ e => e) (hC16.frame (H0' := H17) (H' := H17) (fun a xs e => s17 _ _ e) fun t xs e => s17 _ _ e)), cells_shaped _, cells_shaped _, false, neq_refl (d := .list (cs17.map cellD)) (cells_lay _), iteF ?_⟩
        have S17 := S16.same s17
        obtain ⟨dx17, hp17⟩ := S17.w1.ins
        refine ⟨_, rfl, p, dx17, _, rfl, hp17, nm_now, p, q, l, W06 b ws n laps, rfl, S17.w1, ?_⟩
        refine ⟨_, rfl, rfl, false, nF rfl, iteF ?_⟩
        refine ⟨_, rfl, p, dx17, _, rfl, hp17, nm_timers, p, q, l, W06 b ws n laps, rfl, S17.w1, ok.few, fun H18 R18 nums s18 hR18 eR18 hperm hsort => ?_⟩
        have enum : nums = List.range laps.length := by
          refine asc_range ?_ hsort
          have z : (W06 b ws n laps).live.map (·.num) = List.range laps.length := by
            show (mkTs n 0 laps).map (·.num) = _
            rw [mk_nums, List.range_eq_range']
          rw [z] at hperm
          exact hperm
        have S18 := S17.same s18
        refine ⟨_, rfl, D, _, rfl, .inl (SqL.of S18.laps.1), (laps.length : Nat), congrArg (fun k : Nat => V.int (k : Nat)) (List.length_map ..), RgOk.of_le (by decide) (by omega) (by decide) (by omega), fun R19 hR19 => ?_⟩
        have erg : rgV 0 ((laps.length : Nat) : Int) = (List.range laps.length).map fun x => V.int (x : Nat) := by
          unfold rgV
          rw [show (((laps.length : Nat) : Int) - 0).toNat = laps.length by omega]
          exact List.map_congr_left fun x _ => by rw [Int.zero_add]
        have u19 := same_upd (o := .lst (rgV 0 ((laps.length : Nat) : Int))) hR19
        have e19 : (upd H18 R19 (.lst (rgV 0 ((laps.length : Nat) : Int)))) R19 = some (.lst ((List.range laps.length).map fun x => V.int (x : Nat))) := by rw [upd_same, erg]
        rw [enum] at eR18
        refine ⟨.list ((List.range laps.length).map fun x => PyData.int (x : Nat)), .list ((List.range laps.length).map fun x => PyData.int (x : Nat)), .lst (SqL.of (u19 _ _ eR18)) (dp_nats _), .lst (SqL.of e19) (dp_nats _), nats_shaped _, nats_shaped _, false, neq_refl (d := .list ((List.range laps.length).map fun x => PyData.int (x : Nat))) (nats_lay _), iteF ?_⟩
        exact ⟨_, rfl, x16.trans (extN_same ((s17.trans s18).trans u19)), (S18.same u19).tabs⟩
      · rintro σ H13 ⟨y12, rfl, x13, t13⟩
        have S13 := S12.x x13 t13
        -- two thousand
        have FW : FarW (B + 5) (W06 b ws n laps) := ⟨ok, adT (B + 5) (by omega) (by omega)⟩
        obtain ⟨mid, emid⟩ : ∃ mid, mid = n + (B - n) / 3 := ⟨_, rfl⟩
        have hmid1 : n ≤ mid := by omega
        have hmid2 : mid ≤ B := by omega
        obtain ⟨fB, msB, aB, _, FB, nB, lB⟩ := FW.go (t := B) hB1 (by omega)
        obtain ⟨fA, msA, aA, _, FA, _, lA⟩ := FW.go (t := mid) hmid1 (by omega)
        obtain ⟨fC, msC, aC, _, FC, _, lC⟩ := FA.go (t := B) hmid2 (by omega)
        obtain ⟨fE, msE, aE, tE, FE, _, lE⟩ := FB.go (t := B + 5) (by show B ≤ B + 5; omega) (Nat.le_refl _)
        have totB : total fB = manyL laps n B := (adv_total aB (adT B hB1 (by omega)) ok.nd ok.few).trans (sum_mk n B laps 0 fun k hk => (hlx k hk).1)
        obtain ⟨eF, eM⟩ := AdvTo.parts hmid2 aA aC aB
        have totAC : total fA + total fC ≤ 2000 := by
          rw [← tot_app6, ← eF, totB]
          exact hB3
        have totE : total fE ≤ 2000 := by
          have z1 := few_ticks (B := B) (e := 5) (ms := msB) fun m hm => (FB.ok.tms m hm).due
          have z2 : msB.length ≤ (mkTs n 0 laps).length := lB
          have z3 : total fE + sumF (B + 5) msE = sumF (B + 5) msB := tE
          omega
        have S13s := S13.swap
        obtain ⟨dx13, hp13⟩ := S13s.w1.ins
        refine ⟨_, rfl, p2, dx13, _, rfl, hp13, nm_advance, _, rfl, p2, q2, l2, W06 b ws n laps, B, fB, msB, rfl, S13s.w1, hb, hb64, trim_ne hne, ok.few, hB1, aB, by rw [totB]; exact hB3, fun H14 r14 l14 ts14 k14 hr14 er14 fat14 frt14 w14 => ?_⟩
        have S14 := (S13s.go k14 w14).swap
        refine ⟨_, rfl, r14, rfl, ⟨_, SqL.of er14⟩, fun D15 hD15 => lc_list (K := K) (a := r14) (xs := ts14.map V.ref) (fun j H' => Same H14 H' ∧ H' D15 = some (.lst (((fB.take j).map fun f => ((f.2.length : Nat) : Int)).map V.int))) ⟨same_upd hD15, upd_same⟩ (fun j H' _ ⟨sm, _⟩ => SqL.of (sm _ _ er14)) ?_ ?_⟩
        · rintro j x H' hx ⟨sm, eD⟩
          obtain ⟨t, f, u, rfl, hf, ht, hul⟩ := fired_itemL fat14 hx
          have hjl := (List.getElem?_eq_some_iff.mp hf).1
          refine ⟨t, _, rfl, .inl (.inl (sm _ _ ht)), rfl, _, _, rfl, _, _, rfl, rfl, rfl, yesT (iteT ⟨_, rfl, u, _, rfl, .inl (SqL.of (sm _ _ hul)), ?_⟩)⟩
          refine ⟨_, eD, ?_, fun c o e => ?_, ?_⟩
          · rw [List.length_map, List.length_map, List.length_take]
            have z : total fB ≤ 2000 := by
              rw [totB]
              exact hB3
            exact sizeLine_ge (by omega)
          · rw [upd_ne (ne_of_none e hD15)]
            exact sm _ _ e
          · rw [upd_same, List.take_add_one, hf, Option.toList_some, List.map_append, List.map_append, List.length_map]
            rfl
        · rintro H15 ⟨sm15, eD15⟩
          have hfl : ts14.length = fB.length := fat14.len
          rw [List.length_map, hfl, List.take_length] at eD15
          refine ⟨D15, _, rfl, SqL.of eD15, ?_⟩
          rw [total_sum]
          have S15 := S14.same sm15
          refine ⟨_, rfl, _, rfl, _, rfl, D, laps, n, B, rfl, S15.laps, hB1, fun H16 s16 => ?_⟩
          rw [totB]
          refine ⟨rfl, false, nF rfl, iteF ?_⟩
          have S16 := S15.same s16
          refine ⟨_, rfl, _, rfl, _, rfl, B, n, rfl, rfl, hB1, B - n, 3, rfl, rfl, ndiv 2 (by decide) (by decide), n, (B - n) / 3, rfl, rfl, trivial, ?_⟩
          have emid2 : (fun a b : Nat => a + b) n ((B - n) / 3) = mid := emid.symm
          rw [emid2]
          subst eM
          -- in two parts
          have er16 := s16 _ _ (sm15 _ _ er14)
          have fat16 := (fat14.same sm15).same s16
          obtain ⟨dx16, hp16⟩ := S16.w1.ins
          refine ⟨_, rfl, p, dx16, _, rfl, hp16, nm_advance, _, rfl, p, q, l, W06 b ws n laps, mid, fA, msA, rfl, S16.w1, hb, hb64, trim_ne hne, ok.few, hmid1, aA, by omega, fun H17 r17 l17 ts17 k17 hr17 er17 fat17 frt17 w17 => ?_⟩
          have S17 := S16.go k17 w17
          have er14b := k17.lst S16.w1 er16
          have fat14b := fat16.wk k17 S16.w1
          obtain ⟨dx17, hp17⟩ := S17.w1.ins
          refine ⟨_, rfl, p, dx17, _, rfl, hp17, nm_advance, _, rfl, p, q, l17, _, B, fC, msB, rfl, S17.w1, hb, hb64, trim_ne hne, FA.ok.few, hmid2, aC, by omega, fun H18 r18 l18 ts18 k18 hr18 er18 fat18 frt18 w18 => ?_⟩
          have S18 := S17.go k18 w18
          have er14c := k18.lst S17.w1 er14b
          have fat14c := fat14b.wk k18 S17.w1
          have er17b := k18.lst S17.w1 er17
          have fat17b := fat17.wk k18 S17.w1
          have hl17 := fat17.len
          have hl18 := fat18.len
          have hl14 := fat14.len
          have hfl14 : fB.length ≤ 2000 := Nat.le_trans nB (by rw [totB]; exact hB3)
          have hflAC : fA.length + fC.length ≤ 2000 := by
            rw [← List.length_append, ← eF]
            exact hfl14
          refine ⟨r17, r18, ts17.map V.ref, ts18.map V.ref, rfl, rfl, er17b, er18, ?_, fun N hN => ?_⟩
          · rw [List.length_map, List.length_map]
            exact sizeLine_le (by omega)
          have uN := same_upd (o := .lst (ts17.map V.ref ++ ts18.map V.ref)) hN
          have eN : (upd H18 N (.lst (ts17.map V.ref ++ ts18.map V.ref))) N = some (.lst ((ts17 ++ ts18).map V.ref)) := by
            rw [upd_same, List.map_append]
          have fatN := (fat17b.to (o := .lst (ts17.map V.ref ++ ts18.map V.ref)) hN).cat (fat18.to (o := .lst (ts17.map V.ref ++ ts18.map V.ref)) hN)
          rw [← eF] at fatN
          have S19 := S18.same uN
          have er19 := uN _ _ er14c
          have fat19 := fat14c.same uN
          generalize upd H18 N (.lst (ts17.map V.ref ++ ts18.map V.ref)) = H19 at uN eN fatN S19 er19 fat19 ⊢
          refine ⟨_, rfl, .list (fB.map firedD), .list (fB.map firedD), .lst (SqL.of eN) (fired_dp fatN), .lst (SqL.of er19) (fired_dp fat19), fired_shaped _, fired_shaped _, false, neq_refl (d := .list (fB.map firedD)) (fired_lay _), iteF ?_⟩
          obtain ⟨dx19, hp19⟩ := S19.w1.ins
          refine ⟨_, rfl, p, dx19, _, rfl, hp19, nm_lists, p, q, l18, _, rfl, S19.w1, FB.ok, fun H20 R20 ts20 cs20 s20 hR20 eR20 hC20 hF20 hI20 => ?_⟩
          have S20 := S19.same s20
          obtain ⟨dx20, hp20⟩ := S20.w2.ins
          refine ⟨_, rfl, p2, dx20, _, rfl, hp20, nm_lists, p2, q2, l14, _, rfl, S20.w2, FB.ok, fun H21 R21 ts21 cs21 s21 hR21 eR21 hC21 hF21 hI21 => ?_⟩
          have e21 : cs21 = cs20 := hI21.uniq hI20
          subst e21
          have S21 := S20.same s21
          refine ⟨.list (cs21.map cellD), .list (cs21.map cellD), .lst (SqL.of (s21 _ _ eR20)) (cells_dp (fun _ _ e => e) (hC20.frame (H0' := H21) (H' := H21) (fun a xs e => s21 _ _ e) fun t xs e => s21 _ _ e)), .lst (SqL.of eR21) (cells_dp (fun _ _ e => e) hC21), cells_shaped _, cells_shaped _, false, neq_refl (d := .list (cs21.map cellD)) (cells_lay _), iteF ?_⟩
          -- five ticks more
          obtain ⟨dx21, hp21⟩ := S21.w1.ins
          refine ⟨_, rfl, p, dx21, _, rfl, hp21, nm_advance, _, rfl, B, 5, rfl, rfl, trivial, p, q, l18, _, B + 5, fE, msE, rfl, S21.w1, hb, hb64, trim_ne hne, FB.ok.few, by show B ≤ B + 5; omega, aE, totE, fun H22 r22 l22 ts22 k22 hr22 er22 fat22 frt22 w22 => ?_⟩
          have S22 := (S21.go k22 w22).swap
          obtain ⟨dx22, hp22⟩ := S22.w1.ins
          refine ⟨_, rfl, p2, dx22, _, rfl, hp22, nm_advance, _, rfl, B, 5, rfl, rfl, trivial, p2, q2, l14, _, B + 5, fE, msE, rfl, S22.w1, hb, hb64, trim_ne hne, FB.ok.few, by show B ≤ B + 5; omega, aE, totE, fun H23 r23 l23 ts23 k23 hr23 er23 fat23 frt23 w23 => ?_⟩
          have S23 := S22.go k23 w23
          refine ⟨.list (fE.map firedD), .list (fE.map firedD), .lst (SqL.of (k23.lst S22.w1 er22)) (fired_dp (fat22.wk k23 S22.w1)), .lst (SqL.of er23) (fired_dp fat23), fired_shaped _, fired_shaped _, false, neq_refl (d := .list (fE.map firedD)) (fired_lay _), iteF ?_⟩
          exact ⟨S23.scr, S23.tabs, _, _, _, _, _, _, _, _, _, _, _, _, _, _, _, _, rfl⟩
    · rintro σ H' ⟨_, _, y1, y2, y3, y4, y5, y6, y7, y8, y9, y10, y11, y12, y13, y14, y15, y16, rfl⟩
      exact fin H'
end
/-! ### classes of errors, told apart -/
section
variable {K : PySem.W.Frag}
theorem cls_ok {O : Addr} (hd : PySem.W.hasDictIn K O = true) (ht : PySem.W.typeIn K (.ref O) = some (.type "type")) : ((PySem.W.clsIn K O).isSome && PySem.W.typeIn K (.ref O) == some (.type "type")) = true := by
  obtain ⟨cd, hc, _⟩ := PySem.W.any_some hd
  rw [hc, ht] <;> rfl
/-- an error of one class is none of another -/
theorem kit_no {N O : Addr} (hN : PySem.W.subIn K (.ref N) (.ref N) = some true) (hd : PySem.W.hasDictIn K O = true) (ht : PySem.W.typeIn K (.ref O) = some (.type "type")) (h : PySem.W.subIn K (.ref N) (.ref O) = some false) : PySem.W.kitOne K (.ref N) (.ref O) = some false := by
  have ne : ¬ (Value.ref N == Value.ref O) = true := fun q => by
    have e : N = O := Value.ref.inj (beq_iff_eq.mp q)
    subst e
    rw [hN] at h
    cases h
  have e2 := cls_ok hd ht
  unfold PySem.W.kitOne
  rw [if_neg ne]
  show (if ((PySem.W.clsIn K O).isSome && PySem.W.typeIn K (.ref O) == some (.type "type")) = true then PySem.W.subIn K (.ref N) (.ref O) else none) = some false
  rw [if_pos e2]
  exact h
end
section
variable {K : PySem.W.Frag}
theorem kit_self (N : Addr) : PySem.W.kitOne K (.ref N) (.ref N) = some true := by
  unfold PySem.W.kitOne
  rw [if_pos (beq_self_eq_true _)]
theorem kit_ve {N : Addr} (h : PySem.W.subIn K (.ref N) (.type "ValueError") = some true) : PySem.W.kitOne K (.ref N) (.type "ValueError") = some true := by
  have ne : ¬ (Value.ref N == Value.type "ValueError") = true := fun q => by
    have e : Value.ref N = Value.type "ValueError" := beq_iff_eq.mp q
    cases e
  unfold PySem.W.kitOne
  rw [if_neg ne]
  show (if PySem.W.kitMeta "ValueError" = true then PySem.W.subIn K (.ref N) (.type "ValueError") else none) = some true
  rw [if_pos (by decide +kernel)]
  exact h
end
/-- an error of the j-th class of eight -/
theorem kind8_of {K : PySem.W.Frag} {N c0 c1 c2 c3 c4 c5 c6 c7 : Addr} (j : Nat) (ec : ExcC K N) (ve : PySem.W.subIn K (.ref N) (.type "ValueError") = some true) (lt : j < 8)
    (h : ∀ i c, [c0, c1, c2, c3, c4, c5, c6, c7][i]? = some c → (i = j → c = N) ∧ (i ≠ j → PySem.W.kitOne K (.ref N) (.ref c) = some false)) : Kind8 K N [c0, c1, c2, c3, c4, c5, c6, c7] j := ⟨ec, kit_ve ve, lt, fun i c hc => by
  obtain ⟨h1, h2⟩ := h i c hc
  by_cases e : i = j
  · rw [h1 e, decide_eq_true e]
    exact kit_self N
  · rw [decide_eq_false e]
    exact h2 e⟩
theorem eight_at {c0 c1 c2 c3 c4 c5 c6 c7 : Addr} {Pr : Nat → Addr → Prop} (h0 : Pr 0 c0) (h1 : Pr 1 c1) (h2 : Pr 2 c2) (h3 : Pr 3 c3) (h4 : Pr 4 c4) (h5 : Pr 5 c5) (h6 : Pr 6 c6) (h7 : Pr 7 c7) : ∀ i c, [c0, c1, c2, c3, c4, c5, c6, c7][i]? = some c → Pr i c := fun i c hc => by
  match i, hc with
  | 0, hc => cases hc; exact h0
  | 1, hc => cases hc; exact h1
  | 2, hc => cases hc; exact h2
  | 3, hc => cases hc; exact h3
  | 4, hc => cases hc; exact h4
  | 5, hc => cases hc; exact h5
  | 6, hc => cases hc; exact h6
  | 7, hc => cases hc; exact h7
  | i + 8, hc => cases hc
theorem all_mk {l : PySem.W.OpenLaw} {w : World} {K : PySem.W.Frag} {h : Heap} {mg : Str → Option Value} {fa : Addr} {ts : List Addr} (X : K.In h) (G : h.Ns mainGlobals mg) (hfa : mg "law" = some (.ref fa)) (hT8 : ∀ Pt ∈ ts, h.get? Pt = some (PySem.W.tabObj #[]))
    {f_WORDS : Addr} {od_WORDS : Option Addr} {tk0_WORDS tk1_WORDS : Tok} {tn_WORDS : Nat} {ts_WORDS : Array (Option Value)}
    {tk_MOST_LEVELS : Tok}
    {tk_MOST_FIRINGS : Tok}
    {f_wall f_is_integer f_is_word f_is_base f_is_length f_are_levels f_is_tick f_is_period f_check_base f_check_levels f_check_tick f_word_at f_level_and_size f_path f_goes_in_front f_with_timer f_firing_order f_without_repeats f_check_period f_order_of_firing f_standing f_least_due f_after_firing f_law_cell_at f_law_mixed f_law_source f_law_next f_law_base f_law_levels f_law_tick f_law_word f_law_many f_law_bound f_law_wheel f_law : Addr}
    {od_wall an_wall od_is_integer an_is_integer od_is_word an_is_word od_is_base an_is_base od_is_length an_is_length od_are_levels an_are_levels od_is_tick an_is_tick od_is_period an_is_period od_check_base an_check_base od_check_levels an_check_levels od_check_tick an_check_tick od_word_at an_word_at od_level_and_size an_level_and_size od_path an_path od_goes_in_front an_goes_in_front od_with_timer an_with_timer od_firing_order an_firing_order od_without_repeats an_without_repeats od_check_period an_check_period od_order_of_firing an_order_of_firing od_standing an_standing od_least_due an_least_due od_after_firing an_after_firing od_law_cell_at an_law_cell_at od_law_mixed an_law_mixed od_law_source an_law_source od_law_next an_law_next od_law_base an_law_base od_law_levels an_law_levels od_law_tick an_law_tick od_law_word an_law_word od_law_many an_law_many od_law_bound an_law_bound od_law_wheel an_law_wheel od_law an_law : Option Addr}
    {sl_wall sl_is_integer sl_is_word sl_is_base sl_is_length sl_are_levels sl_is_tick sl_is_period sl_check_base sl_check_levels sl_check_tick sl_word_at sl_level_and_size sl_path sl_goes_in_front sl_with_timer sl_firing_order sl_without_repeats sl_check_period sl_order_of_firing sl_standing sl_least_due sl_after_firing sl_law_cell_at sl_law_mixed sl_law_source sl_law_next sl_law_base sl_law_levels sl_law_tick sl_law_word sl_law_many sl_law_bound sl_law_wheel sl_law : Array (Option Value)}
    {oc_wall kV_wall dc_wall pm_wall cd_wall ct_wall oc_is_integer kV_is_integer dc_is_integer pm_is_integer cd_is_integer ct_is_integer oc_is_word kV_is_word dc_is_word pm_is_word cd_is_word ct_is_word oc_is_base kV_is_base dc_is_base pm_is_base cd_is_base ct_is_base oc_is_length kV_is_length dc_is_length pm_is_length cd_is_length ct_is_length oc_are_levels kV_are_levels dc_are_levels pm_are_levels cd_are_levels ct_are_levels oc_is_tick kV_is_tick dc_is_tick pm_is_tick cd_is_tick ct_is_tick oc_is_period kV_is_period dc_is_period pm_is_period cd_is_period ct_is_period oc_check_base kV_check_base dc_check_base pm_check_base cd_check_base ct_check_base oc_check_levels kV_check_levels dc_check_levels pm_check_levels cd_check_levels ct_check_levels oc_check_tick kV_check_tick dc_check_tick pm_check_tick cd_check_tick ct_check_tick oc_word_at kV_word_at dc_word_at pm_word_at cd_word_at ct_word_at oc_level_and_size kV_level_and_size dc_level_and_size pm_level_and_size cd_level_and_size ct_level_and_size oc_path kV_path dc_path pm_path cd_path ct_path oc_goes_in_front kV_goes_in_front dc_goes_in_front pm_goes_in_front cd_goes_in_front ct_goes_in_front oc_with_timer kV_with_timer dc_with_timer pm_with_timer cd_with_timer ct_with_timer oc_firing_order kV_firing_order dc_firing_order pm_firing_order cd_firing_order ct_firing_order oc_without_repeats kV_without_repeats dc_without_repeats pm_without_repeats cd_without_repeats ct_without_repeats oc_check_period kV_check_period dc_check_period pm_check_period cd_check_period ct_check_period oc_order_of_firing kV_order_of_firing dc_order_of_firing pm_order_of_firing cd_order_of_firing ct_order_of_firing oc_standing kV_standing dc_standing pm_standing cd_standing ct_standing oc_least_due kV_least_due dc_least_due pm_least_due cd_least_due ct_least_due oc_after_firing kV_after_firing dc_after_firing pm_after_firing cd_after_firing ct_after_firing oc_law_cell_at kV_law_cell_at dc_law_cell_at pm_law_cell_at cd_law_cell_at ct_law_cell_at oc_law_mixed kV_law_mixed dc_law_mixed pm_law_mixed cd_law_mixed ct_law_mixed oc_law_source kV_law_source dc_law_source pm_law_source cd_law_source ct_law_source oc_law_next kV_law_next dc_law_next pm_law_next cd_law_next ct_law_next oc_law_base kV_law_base dc_law_base pm_law_base cd_law_base ct_law_base oc_law_levels kV_law_levels dc_law_levels pm_law_levels cd_law_levels ct_law_levels oc_law_tick kV_law_tick dc_law_tick pm_law_tick cd_law_tick ct_law_tick oc_law_word kV_law_word dc_law_word pm_law_word cd_law_word ct_law_word oc_law_many kV_law_many dc_law_many pm_law_many cd_law_many ct_law_many oc_law_bound kV_law_bound dc_law_bound pm_law_bound cd_law_bound ct_law_bound oc_law_wheel kV_law_wheel dc_law_wheel pm_law_wheel cd_law_wheel ct_law_wheel oc_law kV_law dc_law pm_law ct_law : Value}
    {C_ : Addr}
    {f_m_init f_m_now f_m_put f_m_timers f_m_advance f_m_lists : Addr}
    {od_m_init an_m_init od_m_now an_m_now od_m_put an_m_put od_m_timers an_m_timers od_m_advance an_m_advance od_m_lists an_m_lists : Option Addr}
    {sl_m_init sl_m_now sl_m_put sl_m_timers sl_m_advance sl_m_lists : Array (Option Value)}
    {oc_m_init dc_m_init pm_m_init cd_m_init ct_m_init oc_m_now dc_m_now pm_m_now cd_m_now ct_m_now kV_m_now oc_m_put dc_m_put pm_m_put cd_m_put ct_m_put oc_m_timers dc_m_timers pm_m_timers cd_m_timers ct_m_timers kV_m_timers oc_m_advance dc_m_advance pm_m_advance cd_m_advance ct_m_advance kV_m_advance oc_m_lists dc_m_lists pm_m_lists cd_m_lists ct_m_lists kV_m_lists : Value}
    {kD_m_init : Addr} {kt_m_init : Tok}
    {kD_m_put : Addr}
    {c_TooMany c_TimerError c_NoBase c_NoLevels c_NoTick c_NoPeriod c_NoTimer c_NoOrder c_NoSighting : Addr}
    {dT_is_tick : Addr} {tc_is_tick : Value} {td_is_tick : Option Addr} {tt_is_tick : Tok} {tn_is_tick : Nat} {ts_is_tick : Array (Option Value)}
    {dT_check_tick : Addr} {tc_check_tick : Value} {td_check_tick : Option Addr} {tt_check_tick : Tok} {tn_check_tick : Nat} {ts_check_tick : Array (Option Value)}
    {cc_law P_law : Addr} {dd_law : Option Addr} {vs_law : Array Value} {sv_law : Array (Option Value)}
    (a_wall : PySem.W.nsIn K mainGlobals "_wall" = some (some (.ref f_wall)))
    (l_wall : K.lookup f_wall = some ⟨oc_wall, od_wall, .func (PySem.W.fnOf "_wall" "_wall" (defArgs s__wall) (defBody s__wall) (defScope s__wall) .none kV_wall dc_wall pm_wall an_wall cd_wall ct_wall), sl_wall⟩)
    (c_wall : PySem.W.codeIn K cd_wall "_wall" = true) (k_wall : PySem.W.keepIn K (.ref f_wall) = true)
    (a_is_integer : PySem.W.nsIn K mainGlobals "is_integer" = some (some (.ref f_is_integer)))
    (l_is_integer : K.lookup f_is_integer = some ⟨oc_is_integer, od_is_integer, .func (PySem.W.fnOf "is_integer" "is_integer" (defArgs s_is_integer) (defBody s_is_integer) (defScope s_is_integer) .none kV_is_integer dc_is_integer pm_is_integer an_is_integer cd_is_integer ct_is_integer), sl_is_integer⟩)
    (c_is_integer : PySem.W.codeIn K cd_is_integer "is_integer" = true) (k_is_integer : PySem.W.keepIn K (.ref f_is_integer) = true)
    (a_is_word : PySem.W.nsIn K mainGlobals "is_word" = some (some (.ref f_is_word)))
    (l_is_word : K.lookup f_is_word = some ⟨oc_is_word, od_is_word, .func (PySem.W.fnOf "is_word" "is_word" (defArgs s_is_word) (defBody s_is_word) (defScope s_is_word) .none kV_is_word dc_is_word pm_is_word an_is_word cd_is_word ct_is_word), sl_is_word⟩)
    (c_is_word : PySem.W.codeIn K cd_is_word "is_word" = true) (k_is_word : PySem.W.keepIn K (.ref f_is_word) = true)
    (a_is_base : PySem.W.nsIn K mainGlobals "is_base" = some (some (.ref f_is_base)))
    (l_is_base : K.lookup f_is_base = some ⟨oc_is_base, od_is_base, .func (PySem.W.fnOf "is_base" "is_base" (defArgs s_is_base) (defBody s_is_base) (defScope s_is_base) .none kV_is_base dc_is_base pm_is_base an_is_base cd_is_base ct_is_base), sl_is_base⟩)
    (c_is_base : PySem.W.codeIn K cd_is_base "is_base" = true) (k_is_base : PySem.W.keepIn K (.ref f_is_base) = true)
    (a_is_length : PySem.W.nsIn K mainGlobals "is_length" = some (some (.ref f_is_length)))
    (l_is_length : K.lookup f_is_length = some ⟨oc_is_length, od_is_length, .func (PySem.W.fnOf "is_length" "is_length" (defArgs s_is_length) (defBody s_is_length) (defScope s_is_length) .none kV_is_length dc_is_length pm_is_length an_is_length cd_is_length ct_is_length), sl_is_length⟩)
    (c_is_length : PySem.W.codeIn K cd_is_length "is_length" = true) (k_is_length : PySem.W.keepIn K (.ref f_is_length) = true)
    (a_are_levels : PySem.W.nsIn K mainGlobals "are_levels" = some (some (.ref f_are_levels)))
    (l_are_levels : K.lookup f_are_levels = some ⟨oc_are_levels, od_are_levels, .func (PySem.W.fnOf "are_levels" "are_levels" (defArgs s_are_levels) (defBody s_are_levels) (defScope s_are_levels) .none kV_are_levels dc_are_levels pm_are_levels an_are_levels cd_are_levels ct_are_levels), sl_are_levels⟩)
    (c_are_levels : PySem.W.codeIn K cd_are_levels "are_levels" = true) (k_are_levels : PySem.W.keepIn K (.ref f_are_levels) = true)
    (a_is_tick : PySem.W.nsIn K mainGlobals "is_tick" = some (some (.ref f_is_tick)))
    (l_is_tick : K.lookup f_is_tick = some ⟨oc_is_tick, od_is_tick, .func (PySem.W.fnOf "is_tick" "is_tick" (defArgs s_is_tick) (defBody s_is_tick) (defScope s_is_tick) (.ref dT_is_tick) kV_is_tick dc_is_tick pm_is_tick an_is_tick cd_is_tick ct_is_tick), sl_is_tick⟩)
    (t_is_tick : K.lookup dT_is_tick = some ⟨tc_is_tick, td_is_tick, .seq #[.int 0 tt_is_tick] tn_is_tick, ts_is_tick⟩)
    (c_is_tick : PySem.W.codeIn K cd_is_tick "is_tick" = true) (k_is_tick : PySem.W.keepIn K (.ref f_is_tick) = true)
    (a_is_period : PySem.W.nsIn K mainGlobals "is_period" = some (some (.ref f_is_period)))
    (l_is_period : K.lookup f_is_period = some ⟨oc_is_period, od_is_period, .func (PySem.W.fnOf "is_period" "is_period" (defArgs s_is_period) (defBody s_is_period) (defScope s_is_period) .none kV_is_period dc_is_period pm_is_period an_is_period cd_is_period ct_is_period), sl_is_period⟩)
    (c_is_period : PySem.W.codeIn K cd_is_period "is_period" = true) (k_is_period : PySem.W.keepIn K (.ref f_is_period) = true)
    (a_check_base : PySem.W.nsIn K mainGlobals "check_base" = some (some (.ref f_check_base)))
    (l_check_base : K.lookup f_check_base = some ⟨oc_check_base, od_check_base, .func (PySem.W.fnOf "check_base" "check_base" (defArgs s_check_base) (defBody s_check_base) (defScope s_check_base) .none kV_check_base dc_check_base pm_check_base an_check_base cd_check_base ct_check_base), sl_check_base⟩)
    (c_check_base : PySem.W.codeIn K cd_check_base "check_base" = true) (k_check_base : PySem.W.keepIn K (.ref f_check_base) = true)
    (a_check_levels : PySem.W.nsIn K mainGlobals "check_levels" = some (some (.ref f_check_levels)))
    (l_check_levels : K.lookup f_check_levels = some ⟨oc_check_levels, od_check_levels, .func (PySem.W.fnOf "check_levels" "check_levels" (defArgs s_check_levels) (defBody s_check_levels) (defScope s_check_levels) .none kV_check_levels dc_check_levels pm_check_levels an_check_levels cd_check_levels ct_check_levels), sl_check_levels⟩)
    (c_check_levels : PySem.W.codeIn K cd_check_levels "check_levels" = true) (k_check_levels : PySem.W.keepIn K (.ref f_check_levels) = true)
    (a_check_tick : PySem.W.nsIn K mainGlobals "check_tick" = some (some (.ref f_check_tick)))
    (l_check_tick : K.lookup f_check_tick = some ⟨oc_check_tick, od_check_tick, .func (PySem.W.fnOf "check_tick" "check_tick" (defArgs s_check_tick) (defBody s_check_tick) (defScope s_check_tick) (.ref dT_check_tick) kV_check_tick dc_check_tick pm_check_tick an_check_tick cd_check_tick ct_check_tick), sl_check_tick⟩)
    (t_check_tick : K.lookup dT_check_tick = some ⟨tc_check_tick, td_check_tick, .seq #[.int 0 tt_check_tick] tn_check_tick, ts_check_tick⟩)
    (c_check_tick : PySem.W.codeIn K cd_check_tick "check_tick" = true) (k_check_tick : PySem.W.keepIn K (.ref f_check_tick) = true)
    (a_word_at : PySem.W.nsIn K mainGlobals "word_at" = some (some (.ref f_word_at)))
    (l_word_at : K.lookup f_word_at = some ⟨oc_word_at, od_word_at, .func (PySem.W.fnOf "word_at" "word_at" (defArgs s_word_at) (defBody s_word_at) (defScope s_word_at) .none kV_word_at dc_word_at pm_word_at an_word_at cd_word_at ct_word_at), sl_word_at⟩)
    (c_word_at : PySem.W.codeIn K cd_word_at "word_at" = true) (k_word_at : PySem.W.keepIn K (.ref f_word_at) = true)
    (a_level_and_size : PySem.W.nsIn K mainGlobals "level_and_size" = some (some (.ref f_level_and_size)))
    (l_level_and_size : K.lookup f_level_and_size = some ⟨oc_level_and_size, od_level_and_size, .func (PySem.W.fnOf "level_and_size" "level_and_size" (defArgs s_level_and_size) (defBody s_level_and_size) (defScope s_level_and_size) .none kV_level_and_size dc_level_and_size pm_level_and_size an_level_and_size cd_level_and_size ct_level_and_size), sl_level_and_size⟩)
    (c_level_and_size : PySem.W.codeIn K cd_level_and_size "level_and_size" = true) (k_level_and_size : PySem.W.keepIn K (.ref f_level_and_size) = true)
    (a_path : PySem.W.nsIn K mainGlobals "path" = some (some (.ref f_path)))
    (l_path : K.lookup f_path = some ⟨oc_path, od_path, .func (PySem.W.fnOf "path" "path" (defArgs s_path) (defBody s_path) (defScope s_path) .none kV_path dc_path pm_path an_path cd_path ct_path), sl_path⟩)
    (c_path : PySem.W.codeIn K cd_path "path" = true) (k_path : PySem.W.keepIn K (.ref f_path) = true)
    (a_goes_in_front : PySem.W.nsIn K mainGlobals "goes_in_front" = some (some (.ref f_goes_in_front)))
    (l_goes_in_front : K.lookup f_goes_in_front = some ⟨oc_goes_in_front, od_goes_in_front, .func (PySem.W.fnOf "goes_in_front" "goes_in_front" (defArgs s_goes_in_front) (defBody s_goes_in_front) (defScope s_goes_in_front) .none kV_goes_in_front dc_goes_in_front pm_goes_in_front an_goes_in_front cd_goes_in_front ct_goes_in_front), sl_goes_in_front⟩)
    (c_goes_in_front : PySem.W.codeIn K cd_goes_in_front "goes_in_front" = true) (k_goes_in_front : PySem.W.keepIn K (.ref f_goes_in_front) = true)
    (a_with_timer : PySem.W.nsIn K mainGlobals "with_timer" = some (some (.ref f_with_timer)))
    (l_with_timer : K.lookup f_with_timer = some ⟨oc_with_timer, od_with_timer, .func (PySem.W.fnOf "with_timer" "with_timer" (defArgs s_with_timer) (defBody s_with_timer) (defScope s_with_timer) .none kV_with_timer dc_with_timer pm_with_timer an_with_timer cd_with_timer ct_with_timer), sl_with_timer⟩)
    (c_with_timer : PySem.W.codeIn K cd_with_timer "with_timer" = true) (k_with_timer : PySem.W.keepIn K (.ref f_with_timer) = true)
    (a_firing_order : PySem.W.nsIn K mainGlobals "firing_order" = some (some (.ref f_firing_order)))
    (l_firing_order : K.lookup f_firing_order = some ⟨oc_firing_order, od_firing_order, .func (PySem.W.fnOf "firing_order" "firing_order" (defArgs s_firing_order) (defBody s_firing_order) (defScope s_firing_order) .none kV_firing_order dc_firing_order pm_firing_order an_firing_order cd_firing_order ct_firing_order), sl_firing_order⟩)
    (c_firing_order : PySem.W.codeIn K cd_firing_order "firing_order" = true) (k_firing_order : PySem.W.keepIn K (.ref f_firing_order) = true)
    (a_without_repeats : PySem.W.nsIn K mainGlobals "without_repeats" = some (some (.ref f_without_repeats)))
    (l_without_repeats : K.lookup f_without_repeats = some ⟨oc_without_repeats, od_without_repeats, .func (PySem.W.fnOf "without_repeats" "without_repeats" (defArgs s_without_repeats) (defBody s_without_repeats) (defScope s_without_repeats) .none kV_without_repeats dc_without_repeats pm_without_repeats an_without_repeats cd_without_repeats ct_without_repeats), sl_without_repeats⟩)
    (c_without_repeats : PySem.W.codeIn K cd_without_repeats "without_repeats" = true) (k_without_repeats : PySem.W.keepIn K (.ref f_without_repeats) = true)
    (a_check_period : PySem.W.nsIn K mainGlobals "check_period" = some (some (.ref f_check_period)))
    (l_check_period : K.lookup f_check_period = some ⟨oc_check_period, od_check_period, .func (PySem.W.fnOf "check_period" "check_period" (defArgs s_check_period) (defBody s_check_period) (defScope s_check_period) .none kV_check_period dc_check_period pm_check_period an_check_period cd_check_period ct_check_period), sl_check_period⟩)
    (c_check_period : PySem.W.codeIn K cd_check_period "check_period" = true) (k_check_period : PySem.W.keepIn K (.ref f_check_period) = true)
    (a_order_of_firing : PySem.W.nsIn K mainGlobals "order_of_firing" = some (some (.ref f_order_of_firing)))
    (l_order_of_firing : K.lookup f_order_of_firing = some ⟨oc_order_of_firing, od_order_of_firing, .func (PySem.W.fnOf "order_of_firing" "order_of_firing" (defArgs s_order_of_firing) (defBody s_order_of_firing) (defScope s_order_of_firing) .none kV_order_of_firing dc_order_of_firing pm_order_of_firing an_order_of_firing cd_order_of_firing ct_order_of_firing), sl_order_of_firing⟩)
    (c_order_of_firing : PySem.W.codeIn K cd_order_of_firing "order_of_firing" = true) (k_order_of_firing : PySem.W.keepIn K (.ref f_order_of_firing) = true)
    (a_standing : PySem.W.nsIn K mainGlobals "standing" = some (some (.ref f_standing)))
    (l_standing : K.lookup f_standing = some ⟨oc_standing, od_standing, .func (PySem.W.fnOf "standing" "standing" (defArgs s_standing) (defBody s_standing) (defScope s_standing) .none kV_standing dc_standing pm_standing an_standing cd_standing ct_standing), sl_standing⟩)
    (c_standing : PySem.W.codeIn K cd_standing "standing" = true) (k_standing : PySem.W.keepIn K (.ref f_standing) = true)
    (a_least_due : PySem.W.nsIn K mainGlobals "least_due" = some (some (.ref f_least_due)))
    (l_least_due : K.lookup f_least_due = some ⟨oc_least_due, od_least_due, .func (PySem.W.fnOf "least_due" "least_due" (defArgs s_least_due) (defBody s_least_due) (defScope s_least_due) .none kV_least_due dc_least_due pm_least_due an_least_due cd_least_due ct_least_due), sl_least_due⟩)
    (c_least_due : PySem.W.codeIn K cd_least_due "least_due" = true) (k_least_due : PySem.W.keepIn K (.ref f_least_due) = true)
    (a_after_firing : PySem.W.nsIn K mainGlobals "after_firing" = some (some (.ref f_after_firing)))
    (l_after_firing : K.lookup f_after_firing = some ⟨oc_after_firing, od_after_firing, .func (PySem.W.fnOf "after_firing" "after_firing" (defArgs s_after_firing) (defBody s_after_firing) (defScope s_after_firing) .none kV_after_firing dc_after_firing pm_after_firing an_after_firing cd_after_firing ct_after_firing), sl_after_firing⟩)
    (c_after_firing : PySem.W.codeIn K cd_after_firing "after_firing" = true) (k_after_firing : PySem.W.keepIn K (.ref f_after_firing) = true)
    (a_law_cell_at : PySem.W.nsIn K mainGlobals "_law_cell_at" = some (some (.ref f_law_cell_at)))
    (l_law_cell_at : K.lookup f_law_cell_at = some ⟨oc_law_cell_at, od_law_cell_at, .func (PySem.W.fnOf "_law_cell_at" "_law_cell_at" (defArgs s__law_cell_at) (defBody s__law_cell_at) (defScope s__law_cell_at) .none kV_law_cell_at dc_law_cell_at pm_law_cell_at an_law_cell_at cd_law_cell_at ct_law_cell_at), sl_law_cell_at⟩)
    (c_law_cell_at : PySem.W.codeIn K cd_law_cell_at "_law_cell_at" = true) (k_law_cell_at : PySem.W.keepIn K (.ref f_law_cell_at) = true)
    (a_law_mixed : PySem.W.nsIn K mainGlobals "_law_mixed" = some (some (.ref f_law_mixed)))
    (l_law_mixed : K.lookup f_law_mixed = some ⟨oc_law_mixed, od_law_mixed, .func (PySem.W.fnOf "_law_mixed" "_law_mixed" (defArgs s__law_mixed) (defBody s__law_mixed) (defScope s__law_mixed) .none kV_law_mixed dc_law_mixed pm_law_mixed an_law_mixed cd_law_mixed ct_law_mixed), sl_law_mixed⟩)
    (c_law_mixed : PySem.W.codeIn K cd_law_mixed "_law_mixed" = true) (k_law_mixed : PySem.W.keepIn K (.ref f_law_mixed) = true)
    (a_law_source : PySem.W.nsIn K mainGlobals "_law_source" = some (some (.ref f_law_source)))
    (l_law_source : K.lookup f_law_source = some ⟨oc_law_source, od_law_source, .func (PySem.W.fnOf "_law_source" "_law_source" (defArgs s__law_source) (defBody s__law_source) (defScope s__law_source) .none kV_law_source dc_law_source pm_law_source an_law_source cd_law_source ct_law_source), sl_law_source⟩)
    (c_law_source : PySem.W.codeIn K cd_law_source "_law_source" = true) (k_law_source : PySem.W.keepIn K (.ref f_law_source) = true)
    (a_law_next : PySem.W.nsIn K mainGlobals "_law_next" = some (some (.ref f_law_next)))
    (l_law_next : K.lookup f_law_next = some ⟨oc_law_next, od_law_next, .func (PySem.W.fnOf "_law_next" "_law_next" (defArgs s__law_next) (defBody s__law_next) (defScope s__law_next) .none kV_law_next dc_law_next pm_law_next an_law_next cd_law_next ct_law_next), sl_law_next⟩)
    (c_law_next : PySem.W.codeIn K cd_law_next "_law_next" = true) (k_law_next : PySem.W.keepIn K (.ref f_law_next) = true)
    (a_law_base : PySem.W.nsIn K mainGlobals "_law_base" = some (some (.ref f_law_base)))
    (l_law_base : K.lookup f_law_base = some ⟨oc_law_base, od_law_base, .func (PySem.W.fnOf "_law_base" "_law_base" (defArgs s__law_base) (defBody s__law_base) (defScope s__law_base) .none kV_law_base dc_law_base pm_law_base an_law_base cd_law_base ct_law_base), sl_law_base⟩)
    (c_law_base : PySem.W.codeIn K cd_law_base "_law_base" = true) (k_law_base : PySem.W.keepIn K (.ref f_law_base) = true)
    (a_law_levels : PySem.W.nsIn K mainGlobals "_law_levels" = some (some (.ref f_law_levels)))
    (l_law_levels : K.lookup f_law_levels = some ⟨oc_law_levels, od_law_levels, .func (PySem.W.fnOf "_law_levels" "_law_levels" (defArgs s__law_levels) (defBody s__law_levels) (defScope s__law_levels) .none kV_law_levels dc_law_levels pm_law_levels an_law_levels cd_law_levels ct_law_levels), sl_law_levels⟩)
    (c_law_levels : PySem.W.codeIn K cd_law_levels "_law_levels" = true) (k_law_levels : PySem.W.keepIn K (.ref f_law_levels) = true)
    (a_law_tick : PySem.W.nsIn K mainGlobals "_law_tick" = some (some (.ref f_law_tick)))
    (l_law_tick : K.lookup f_law_tick = some ⟨oc_law_tick, od_law_tick, .func (PySem.W.fnOf "_law_tick" "_law_tick" (defArgs s__law_tick) (defBody s__law_tick) (defScope s__law_tick) .none kV_law_tick dc_law_tick pm_law_tick an_law_tick cd_law_tick ct_law_tick), sl_law_tick⟩)
    (c_law_tick : PySem.W.codeIn K cd_law_tick "_law_tick" = true) (k_law_tick : PySem.W.keepIn K (.ref f_law_tick) = true)
    (a_law_word : PySem.W.nsIn K mainGlobals "_law_word" = some (some (.ref f_law_word)))
    (l_law_word : K.lookup f_law_word = some ⟨oc_law_word, od_law_word, .func (PySem.W.fnOf "_law_word" "_law_word" (defArgs s__law_word) (defBody s__law_word) (defScope s__law_word) .none kV_law_word dc_law_word pm_law_word an_law_word cd_law_word ct_law_word), sl_law_word⟩)
    (c_law_word : PySem.W.codeIn K cd_law_word "_law_word" = true) (k_law_word : PySem.W.keepIn K (.ref f_law_word) = true)
    (a_law_many : PySem.W.nsIn K mainGlobals "_law_many" = some (some (.ref f_law_many)))
    (l_law_many : K.lookup f_law_many = some ⟨oc_law_many, od_law_many, .func (PySem.W.fnOf "_law_many" "_law_many" (defArgs s__law_many) (defBody s__law_many) (defScope s__law_many) .none kV_law_many dc_law_many pm_law_many an_law_many cd_law_many ct_law_many), sl_law_many⟩)
    (c_law_many : PySem.W.codeIn K cd_law_many "_law_many" = true) (k_law_many : PySem.W.keepIn K (.ref f_law_many) = true)
    (a_law_bound : PySem.W.nsIn K mainGlobals "_law_bound" = some (some (.ref f_law_bound)))
    (l_law_bound : K.lookup f_law_bound = some ⟨oc_law_bound, od_law_bound, .func (PySem.W.fnOf "_law_bound" "_law_bound" (defArgs s__law_bound) (defBody s__law_bound) (defScope s__law_bound) .none kV_law_bound dc_law_bound pm_law_bound an_law_bound cd_law_bound ct_law_bound), sl_law_bound⟩)
    (c_law_bound : PySem.W.codeIn K cd_law_bound "_law_bound" = true) (k_law_bound : PySem.W.keepIn K (.ref f_law_bound) = true)
    (a_law_wheel : PySem.W.nsIn K mainGlobals "_law_wheel" = some (some (.ref f_law_wheel)))
    (l_law_wheel : K.lookup f_law_wheel = some ⟨oc_law_wheel, od_law_wheel, .func (PySem.W.fnOf "_law_wheel" "_law_wheel" (defArgs s__law_wheel) (defBody s__law_wheel) (defScope s__law_wheel) .none kV_law_wheel dc_law_wheel pm_law_wheel an_law_wheel cd_law_wheel ct_law_wheel), sl_law_wheel⟩)
    (c_law_wheel : PySem.W.codeIn K cd_law_wheel "_law_wheel" = true) (k_law_wheel : PySem.W.keepIn K (.ref f_law_wheel) = true)
    (a_law : PySem.W.nsIn K mainGlobals "law" = some (some (.ref f_law)))
    (l_law : K.lookup f_law = some ⟨oc_law, od_law, .func (PySem.W.fnOf "law" "law" (defArgs s_law) (defBody s_law) (defScope s_law) .none kV_law dc_law pm_law an_law (.ref cc_law) ct_law), sl_law⟩)
    (c_law : PySem.W.codeIn K (.ref cc_law) "law" = true) (k_law : PySem.W.keepIn K (.ref f_law) = true)
    (lc_law : K.lookup cc_law = some ⟨.type "code", dd_law, .fields vs_law, sv_law⟩)
    (lp_law : vs_law[11]? = some (.ref P_law))
    (ch_law : PySem.W.codeHdIn K cc_law P_law = true)
    (nt_law : K.lookup P_law = none)
    (tm_law : P_law ∈ ts)
    (a_Wheel : PySem.W.nsIn K mainGlobals "Wheel" = some (some (.ref C_)))
    (a_m_init : PySem.W.findIn K (.ref C_) "__init__" = some (some (.ref f_m_init))) (i_m_init : PySem.W.isFn K (.ref f_m_init) = true)
    (l_m_init : K.lookup f_m_init = some ⟨oc_m_init, od_m_init, .func (PySem.W.fnOf "__init__" "Wheel.__init__" (defArgs s_Wheel___init__) (defBody s_Wheel___init__) (defScope s_Wheel___init__) .none (.ref kD_m_init) dc_m_init pm_m_init an_m_init cd_m_init ct_m_init), sl_m_init⟩)
    (c_m_init : PySem.W.codeIn K cd_m_init "Wheel.__init__" = true) (k_m_init : PySem.W.keepIn K (.ref f_m_init) = true)
    (d_m_init : PySem.W.nsIn K kD_m_init "start" = some (some (.int 0 kt_m_init)))
    (a_m_now : PySem.W.findIn K (.ref C_) "now" = some (some (.ref f_m_now))) (i_m_now : PySem.W.isFn K (.ref f_m_now) = true)
    (l_m_now : K.lookup f_m_now = some ⟨oc_m_now, od_m_now, .func (PySem.W.fnOf "now" "Wheel.now" (defArgs s_Wheel_now) (defBody s_Wheel_now) (defScope s_Wheel_now) .none kV_m_now dc_m_now pm_m_now an_m_now cd_m_now ct_m_now), sl_m_now⟩)
    (c_m_now : PySem.W.codeIn K cd_m_now "Wheel.now" = true) (k_m_now : PySem.W.keepIn K (.ref f_m_now) = true)
    (a_m_put : PySem.W.findIn K (.ref C_) "put" = some (some (.ref f_m_put))) (i_m_put : PySem.W.isFn K (.ref f_m_put) = true)
    (l_m_put : K.lookup f_m_put = some ⟨oc_m_put, od_m_put, .func (PySem.W.fnOf "put" "Wheel.put" (defArgs s_Wheel_put) (defBody s_Wheel_put) (defScope s_Wheel_put) .none (.ref kD_m_put) dc_m_put pm_m_put an_m_put cd_m_put ct_m_put), sl_m_put⟩)
    (c_m_put : PySem.W.codeIn K cd_m_put "Wheel.put" = true) (k_m_put : PySem.W.keepIn K (.ref f_m_put) = true)
    (d_m_put : PySem.W.nsIn K kD_m_put "period" = some (some .none))
    (a_m_timers : PySem.W.findIn K (.ref C_) "timers" = some (some (.ref f_m_timers))) (i_m_timers : PySem.W.isFn K (.ref f_m_timers) = true)
    (l_m_timers : K.lookup f_m_timers = some ⟨oc_m_timers, od_m_timers, .func (PySem.W.fnOf "timers" "Wheel.timers" (defArgs s_Wheel_timers) (defBody s_Wheel_timers) (defScope s_Wheel_timers) .none kV_m_timers dc_m_timers pm_m_timers an_m_timers cd_m_timers ct_m_timers), sl_m_timers⟩)
    (c_m_timers : PySem.W.codeIn K cd_m_timers "Wheel.timers" = true) (k_m_timers : PySem.W.keepIn K (.ref f_m_timers) = true)
    (a_m_advance : PySem.W.findIn K (.ref C_) "advance" = some (some (.ref f_m_advance))) (i_m_advance : PySem.W.isFn K (.ref f_m_advance) = true)
    (l_m_advance : K.lookup f_m_advance = some ⟨oc_m_advance, od_m_advance, .func (PySem.W.fnOf "advance" "Wheel.advance" (defArgs s_Wheel_advance) (defBody s_Wheel_advance) (defScope s_Wheel_advance) .none kV_m_advance dc_m_advance pm_m_advance an_m_advance cd_m_advance ct_m_advance), sl_m_advance⟩)
    (c_m_advance : PySem.W.codeIn K cd_m_advance "Wheel.advance" = true) (k_m_advance : PySem.W.keepIn K (.ref f_m_advance) = true)
    (a_m_lists : PySem.W.findIn K (.ref C_) "lists" = some (some (.ref f_m_lists))) (i_m_lists : PySem.W.isFn K (.ref f_m_lists) = true)
    (l_m_lists : K.lookup f_m_lists = some ⟨oc_m_lists, od_m_lists, .func (PySem.W.fnOf "lists" "Wheel.lists" (defArgs s_Wheel_lists) (defBody s_Wheel_lists) (defScope s_Wheel_lists) .none kV_m_lists dc_m_lists pm_m_lists an_m_lists cd_m_lists ct_m_lists), sl_m_lists⟩)
    (c_m_lists : PySem.W.codeIn K cd_m_lists "Wheel.lists" = true) (k_m_lists : PySem.W.keepIn K (.ref f_m_lists) = true)
    (pg : PySem.W.plainGet K C_ Str.empty = true)
    (hd : PySem.W.hasDictIn K C_ = true)
    (po : PySem.W.plainOver K C_ = true)
    (sa : PySem.W.findIn K (.ref C_) "__setattr__" = some (some (.builtin "object.__setattr__")))
    (mkC : PySem.W.makesIn K C_ = true)
    (kc : PySem.W.keepIn K (.ref C_) = true)
    (n_base : PySem.W.findIn K (.ref C_) "base" = some none)
    (n_words : PySem.W.findIn K (.ref C_) "words" = some none)
    (n_tick : PySem.W.findIn K (.ref C_) "tick" = some none)
    (n_following : PySem.W.findIn K (.ref C_) "following" = some none)
    (n_live : PySem.W.findIn K (.ref C_) "live" = some none)
    (a_TooMany : PySem.W.nsIn K mainGlobals "TooMany" = some (some (.ref c_TooMany)))
    (a_TimerError : PySem.W.nsIn K mainGlobals "TimerError" = some (some (.ref c_TimerError)))
    (a_NoBase : PySem.W.nsIn K mainGlobals "NoBase" = some (some (.ref c_NoBase)))
    (a_NoLevels : PySem.W.nsIn K mainGlobals "NoLevels" = some (some (.ref c_NoLevels)))
    (a_NoTick : PySem.W.nsIn K mainGlobals "NoTick" = some (some (.ref c_NoTick)))
    (a_NoPeriod : PySem.W.nsIn K mainGlobals "NoPeriod" = some (some (.ref c_NoPeriod)))
    (a_NoTimer : PySem.W.nsIn K mainGlobals "NoTimer" = some (some (.ref c_NoTimer)))
    (a_NoOrder : PySem.W.nsIn K mainGlobals "NoOrder" = some (some (.ref c_NoOrder)))
    (a_NoSighting : PySem.W.nsIn K mainGlobals "NoSighting" = some (some (.ref c_NoSighting)))
    (x_TooMany : PySem.W.excIn K c_TooMany [.type "ValueError", .type "Exception", .type "BaseException", .type "object"] "ValueError.__new__" = true)
    (kp_TooMany : PySem.W.keepIn K (.ref c_TooMany) = true)
    (bx_TooMany : PySem.W.subIn K (.ref c_TooMany) (.type "BaseException") = some true)
    (tx_TooMany : PySem.W.typeIn K (.ref c_TooMany) = some (.type "type"))
    (ga_TooMany : PySem.W.findIn K (.ref c_TooMany) "__getattribute__" = some (some (.builtin "BaseException.__getattribute__")))
    (gg_TooMany : PySem.W.findIn K (.ref c_TooMany) "__getattr__" = some none)
    (hx_TooMany : PySem.W.hasDictIn K c_TooMany = true)
    (cc_TooMany : PySem.W.findIn K (.ref c_TooMany) "__class__" = some (some (.builtin "object.__class__")))
    (mo_TooMany : PySem.W.mroIn K c_TooMany (.type "object") = some true)
    (ss_TooMany : PySem.W.subIn K (.ref c_TooMany) (.ref c_TooMany) = some true)
    (sp_get : PySem.W.specialIn K (.builtin "object.__class__") "__get__" = some (some (.builtin "getset_descriptor.__get__")))
    (tk_cls : PySem.W.takesIn K (.builtin "object.__class__") = some true)
    (bx_TimerError : PySem.W.subIn K (.ref c_TimerError) (.type "BaseException") = some true)
    (ve_TooMany : PySem.W.subIn K (.ref c_TooMany) (.type "ValueError") = some true)
    (hx_TimerError : PySem.W.hasDictIn K c_TimerError = true)
    (tx_TimerError : PySem.W.typeIn K (.ref c_TimerError) = some (.type "type"))
    (ss_TooMany_TimerError : PySem.W.subIn K (.ref c_TooMany) (.ref c_TimerError) = some true)
    (hx_NoBase : PySem.W.hasDictIn K c_NoBase = true)
    (tx_NoBase : PySem.W.typeIn K (.ref c_NoBase) = some (.type "type"))
    (ss_TooMany_NoBase : PySem.W.subIn K (.ref c_TooMany) (.ref c_NoBase) = some false)
    (hx_NoLevels : PySem.W.hasDictIn K c_NoLevels = true)
    (tx_NoLevels : PySem.W.typeIn K (.ref c_NoLevels) = some (.type "type"))
    (ss_TooMany_NoLevels : PySem.W.subIn K (.ref c_TooMany) (.ref c_NoLevels) = some false)
    (hx_NoTick : PySem.W.hasDictIn K c_NoTick = true)
    (tx_NoTick : PySem.W.typeIn K (.ref c_NoTick) = some (.type "type"))
    (ss_TooMany_NoTick : PySem.W.subIn K (.ref c_TooMany) (.ref c_NoTick) = some false)
    (hx_NoPeriod : PySem.W.hasDictIn K c_NoPeriod = true)
    (tx_NoPeriod : PySem.W.typeIn K (.ref c_NoPeriod) = some (.type "type"))
    (ss_TooMany_NoPeriod : PySem.W.subIn K (.ref c_TooMany) (.ref c_NoPeriod) = some false)
    (hx_NoTimer : PySem.W.hasDictIn K c_NoTimer = true)
    (tx_NoTimer : PySem.W.typeIn K (.ref c_NoTimer) = some (.type "type"))
    (ss_TooMany_NoTimer : PySem.W.subIn K (.ref c_TooMany) (.ref c_NoTimer) = some false)
    (hx_NoOrder : PySem.W.hasDictIn K c_NoOrder = true)
    (tx_NoOrder : PySem.W.typeIn K (.ref c_NoOrder) = some (.type "type"))
    (ss_TooMany_NoOrder : PySem.W.subIn K (.ref c_TooMany) (.ref c_NoOrder) = some false)
    (hx_NoSighting : PySem.W.hasDictIn K c_NoSighting = true)
    (tx_NoSighting : PySem.W.typeIn K (.ref c_NoSighting) = some (.type "type"))
    (ss_TooMany_NoSighting : PySem.W.subIn K (.ref c_TooMany) (.ref c_NoSighting) = some false)
    (z_isinstance : PySem.W.nsIn K mainGlobals "isinstance" = some none)
    (z_int : PySem.W.nsIn K mainGlobals "int" = some none)
    (z_bool : PySem.W.nsIn K mainGlobals "bool" = some none)
    (z_str : PySem.W.nsIn K mainGlobals "str" = some none)
    (z_all : PySem.W.nsIn K mainGlobals "all" = some none)
    (z_list : PySem.W.nsIn K mainGlobals "list" = some none)
    (z_len : PySem.W.nsIn K mainGlobals "len" = some none)
    (z_min : PySem.W.nsIn K mainGlobals "min" = some none)
    (z_sorted : PySem.W.nsIn K mainGlobals "sorted" = some none)
    (z_dict : PySem.W.nsIn K mainGlobals "dict" = some none)
    (z_range : PySem.W.nsIn K mainGlobals "range" = some none)
    (z_max : PySem.W.nsIn K mainGlobals "max" = some none)
    (z_sum : PySem.W.nsIn K mainGlobals "sum" = some none)
    (a_WORDS : PySem.W.nsIn K mainGlobals "WORDS" = some (some (.ref f_WORDS)))
    (l_WORDS : K.lookup f_WORDS = some ⟨.type "tuple", od_WORDS, .seq #[.str "stack" tk0_WORDS, .str "queue" tk1_WORDS] tn_WORDS, ts_WORDS⟩)
    (a_MOST_LEVELS : PySem.W.nsIn K mainGlobals "MOST_LEVELS" = some (some (.int 60 tk_MOST_LEVELS)))
    (a_MOST_FIRINGS : PySem.W.nsIn K mainGlobals "MOST_FIRINGS" = some (some (.int 2000 tk_MOST_FIRINGS)))
    : LamX.LawAtS l w K CX0 9 63 "_law_script" mg fa h := by
  have e := hfa.symm.trans (PySem.W.mg_of X G a_law)
  cases e
  have T : Tx K mg := ⟨PySem.W.mg_none_of X G z_isinstance, PySem.W.mg_none_of X G z_int, PySem.W.mg_none_of X G z_bool, PySem.W.mg_none_of X G z_str, PySem.W.mg_none_of X G z_all, PySem.W.mg_none_of X G z_list, PySem.W.mg_none_of X G z_len, PySem.W.mg_none_of X G z_min, PySem.W.mg_none_of X G z_sorted, PySem.W.mg_none_of X G z_dict, PySem.W.mg_none_of X G z_range, PySem.W.mg_none_of X G z_max, PySem.W.mg_none_of X G z_sum⟩
  have h_WORDS : ∃ a, mg "WORDS" = some (.ref a) ∧ ∀ H, SqT K H a [.str "stack", .str "queue"] := ⟨f_WORDS, PySem.W.mg_of X G a_WORDS, fun H => .inr ⟨_, _, _, l_WORDS, rfl, rfl, by simp [sizeLine_eq], .cons ⟨_, rfl⟩ (.cons ⟨_, rfl⟩ (.nil))⟩⟩
  have h_MOST_LEVELS : mg "MOST_LEVELS" = some (.int 60 tk_MOST_LEVELS) := PySem.W.mg_of X G a_MOST_LEVELS
  have h_MOST_FIRINGS : mg "MOST_FIRINGS" = some (.int 2000 tk_MOST_FIRINGS) := PySem.W.mg_of X G a_MOST_FIRINGS
  have D_wall : Df K mg "_wall" s__wall ["k"] := by
    have F := fun_mk (st := s__wall) l_wall c_wall k_wall
    exact ⟨_, _, F, PySem.W.mg_of X G a_wall, F.binds (ps := ["k"]) fun _ _ _ _ _ _ us hl => match us, hl with | [_], _ => rfl⟩
  have D_is_integer : Df K mg "is_integer" s_is_integer ["given"] := by
    have F := fun_mk (st := s_is_integer) l_is_integer c_is_integer k_is_integer
    exact ⟨_, _, F, PySem.W.mg_of X G a_is_integer, F.binds (ps := ["given"]) fun _ _ _ _ _ _ us hl => match us, hl with | [_], _ => rfl⟩
  have D_is_word : Df K mg "is_word" s_is_word ["given"] := by
    have F := fun_mk (st := s_is_word) l_is_word c_is_word k_is_word
    exact ⟨_, _, F, PySem.W.mg_of X G a_is_word, F.binds (ps := ["given"]) fun _ _ _ _ _ _ us hl => match us, hl with | [_], _ => rfl⟩
  have D_is_base : Df K mg "is_base" s_is_base ["given"] := by
    have F := fun_mk (st := s_is_base) l_is_base c_is_base k_is_base
    exact ⟨_, _, F, PySem.W.mg_of X G a_is_base, F.binds (ps := ["given"]) fun _ _ _ _ _ _ us hl => match us, hl with | [_], _ => rfl⟩
  have D_is_length : Df K mg "is_length" s_is_length ["given"] := by
    have F := fun_mk (st := s_is_length) l_is_length c_is_length k_is_length
    exact ⟨_, _, F, PySem.W.mg_of X G a_is_length, F.binds (ps := ["given"]) fun _ _ _ _ _ _ us hl => match us, hl with | [_], _ => rfl⟩
  have D_are_levels : Df K mg "are_levels" s_are_levels ["given"] := by
    have F := fun_mk (st := s_are_levels) l_are_levels c_are_levels k_are_levels
    exact ⟨_, _, F, PySem.W.mg_of X G a_are_levels, F.binds (ps := ["given"]) fun _ _ _ _ _ _ us hl => match us, hl with | [_], _ => rfl⟩
  have D_is_tick : Dd K mg "is_tick" s_is_tick ["given", "least"] (.int 0) := by
    have F : FunD K "is_tick" "is_tick" (defArgs s_is_tick) (defBody s_is_tick) (defScope s_is_tick) [(.int 0)] [] _ _ := ⟨⟨_, _, _, _, _, _, _, _, _, _, rfl, l_is_tick, c_is_tick, .inr ⟨by simp, dT_is_tick, _, [_], _, rfl, t_is_tick, rfl, .cons ⟨_, rfl⟩ .nil⟩, .inl rfl⟩, k_is_tick⟩
    exact ⟨_, _, F, PySem.W.mg_of X G a_is_tick,
      FunD.binds1 (ps := ["given", "least"]) F 1 0 (by simp) rfl fun _ _ _ _ _ _ _ us its hu hi => match us, its, hu, hi with | [_], [_], _, _ => ⟨_, rfl, rfl⟩,
      by obtain ⟨ds, r, b⟩ := FunD.binds1 (ps := ["given", "least"]) F 2 1 (by simp) rfl fun _ _ _ _ _ _ _ us its hu hi => match us, its, hu, hi with | [_, _], [_], _, _ => ⟨_, rfl, rfl⟩
         cases r
         exact b⟩
  have D_is_period : Df K mg "is_period" s_is_period ["given"] := by
    have F := fun_mk (st := s_is_period) l_is_period c_is_period k_is_period
    exact ⟨_, _, F, PySem.W.mg_of X G a_is_period, F.binds (ps := ["given"]) fun _ _ _ _ _ _ us hl => match us, hl with | [_], _ => rfl⟩
  have D_check_base : Df K mg "check_base" s_check_base ["base"] := by
    have F := fun_mk (st := s_check_base) l_check_base c_check_base k_check_base
    exact ⟨_, _, F, PySem.W.mg_of X G a_check_base, F.binds (ps := ["base"]) fun _ _ _ _ _ _ us hl => match us, hl with | [_], _ => rfl⟩
  have D_check_levels : Df K mg "check_levels" s_check_levels ["levels"] := by
    have F := fun_mk (st := s_check_levels) l_check_levels c_check_levels k_check_levels
    exact ⟨_, _, F, PySem.W.mg_of X G a_check_levels, F.binds (ps := ["levels"]) fun _ _ _ _ _ _ us hl => match us, hl with | [_], _ => rfl⟩
  have D_check_tick : Dd K mg "check_tick" s_check_tick ["tick", "least"] (.int 0) := by
    have F : FunD K "check_tick" "check_tick" (defArgs s_check_tick) (defBody s_check_tick) (defScope s_check_tick) [(.int 0)] [] _ _ := ⟨⟨_, _, _, _, _, _, _, _, _, _, rfl, l_check_tick, c_check_tick, .inr ⟨by simp, dT_check_tick, _, [_], _, rfl, t_check_tick, rfl, .cons ⟨_, rfl⟩ .nil⟩, .inl rfl⟩, k_check_tick⟩
    exact ⟨_, _, F, PySem.W.mg_of X G a_check_tick,
      FunD.binds1 (ps := ["tick", "least"]) F 1 0 (by simp) rfl fun _ _ _ _ _ _ _ us its hu hi => match us, its, hu, hi with | [_], [_], _, _ => ⟨_, rfl, rfl⟩,
      by obtain ⟨ds, r, b⟩ := FunD.binds1 (ps := ["tick", "least"]) F 2 1 (by simp) rfl fun _ _ _ _ _ _ _ us its hu hi => match us, its, hu, hi with | [_, _], [_], _, _ => ⟨_, rfl, rfl⟩
         cases r
         exact b⟩
  have D_word_at : Df K mg "word_at" s_word_at ["levels", "level"] := by
    have F := fun_mk (st := s_word_at) l_word_at c_word_at k_word_at
    exact ⟨_, _, F, PySem.W.mg_of X G a_word_at, F.binds (ps := ["levels", "level"]) fun _ _ _ _ _ _ us hl => match us, hl with | [_, _], _ => rfl⟩
  have D_level_and_size : Df K mg "level_and_size" s_level_and_size ["base", "now", "due"] := by
    have F := fun_mk (st := s_level_and_size) l_level_and_size c_level_and_size k_level_and_size
    exact ⟨_, _, F, PySem.W.mg_of X G a_level_and_size, F.binds (ps := ["base", "now", "due"]) fun _ _ _ _ _ _ us hl => match us, hl with | [_, _, _], _ => rfl⟩
  have D_path : Df K mg "path" s_path ["base", "now", "due"] := by
    have F := fun_mk (st := s_path) l_path c_path k_path
    exact ⟨_, _, F, PySem.W.mg_of X G a_path, F.binds (ps := ["base", "now", "due"]) fun _ _ _ _ _ _ us hl => match us, hl with | [_, _, _], _ => rfl⟩
  have D_goes_in_front : Df K mg "goes_in_front" s_goes_in_front ["base", "levels", "now", "due", "lowest"] := by
    have F := fun_mk (st := s_goes_in_front) l_goes_in_front c_goes_in_front k_goes_in_front
    exact ⟨_, _, F, PySem.W.mg_of X G a_goes_in_front, F.binds (ps := ["base", "levels", "now", "due", "lowest"]) fun _ _ _ _ _ _ us hl => match us, hl with | [_, _, _, _, _], _ => rfl⟩
  have D_with_timer : Df K mg "with_timer" s_with_timer ["numbers", "number", "front"] := by
    have F := fun_mk (st := s_with_timer) l_with_timer c_with_timer k_with_timer
    exact ⟨_, _, F, PySem.W.mg_of X G a_with_timer, F.binds (ps := ["numbers", "number", "front"]) fun _ _ _ _ _ _ us hl => match us, hl with | [_, _, _], _ => rfl⟩
  have D_firing_order : Df K mg "firing_order" s_firing_order ["base", "levels", "due", "settings"] := by
    have F := fun_mk (st := s_firing_order) l_firing_order c_firing_order k_firing_order
    exact ⟨_, _, F, PySem.W.mg_of X G a_firing_order, F.binds (ps := ["base", "levels", "due", "settings"]) fun _ _ _ _ _ _ us hl => match us, hl with | [_, _, _, _], _ => rfl⟩
  have D_without_repeats : Df K mg "without_repeats" s_without_repeats ["levels"] := by
    have F := fun_mk (st := s_without_repeats) l_without_repeats c_without_repeats k_without_repeats
    exact ⟨_, _, F, PySem.W.mg_of X G a_without_repeats, F.binds (ps := ["levels"]) fun _ _ _ _ _ _ us hl => match us, hl with | [_], _ => rfl⟩
  have D_check_period : Df K mg "check_period" s_check_period ["period"] := by
    have F := fun_mk (st := s_check_period) l_check_period c_check_period k_check_period
    exact ⟨_, _, F, PySem.W.mg_of X G a_check_period, F.binds (ps := ["period"]) fun _ _ _ _ _ _ us hl => match us, hl with | [_], _ => rfl⟩
  have D_order_of_firing : Df K mg "order_of_firing" s_order_of_firing ["base", "levels", "live", "tick"] := by
    have F := fun_mk (st := s_order_of_firing) l_order_of_firing c_order_of_firing k_order_of_firing
    exact ⟨_, _, F, PySem.W.mg_of X G a_order_of_firing, F.binds (ps := ["base", "levels", "live", "tick"]) fun _ _ _ _ _ _ us hl => match us, hl with | [_, _, _, _], _ => rfl⟩
  have D_standing : Df K mg "standing" s_standing ["base", "levels", "live", "tick"] := by
    have F := fun_mk (st := s_standing) l_standing c_standing k_standing
    exact ⟨_, _, F, PySem.W.mg_of X G a_standing, F.binds (ps := ["base", "levels", "live", "tick"]) fun _ _ _ _ _ _ us hl => match us, hl with | [_, _, _, _], _ => rfl⟩
  have D_least_due : Df K mg "least_due" s_least_due ["live"] := by
    have F := fun_mk (st := s_least_due) l_least_due c_least_due k_least_due
    exact ⟨_, _, F, PySem.W.mg_of X G a_least_due, F.binds (ps := ["live"]) fun _ _ _ _ _ _ us hl => match us, hl with | [_], _ => rfl⟩
  have D_after_firing : Df K mg "after_firing" s_after_firing ["live", "numbers", "tick"] := by
    have F := fun_mk (st := s_after_firing) l_after_firing c_after_firing k_after_firing
    exact ⟨_, _, F, PySem.W.mg_of X G a_after_firing, F.binds (ps := ["live", "numbers", "tick"]) fun _ _ _ _ _ _ us hl => match us, hl with | [_, _, _], _ => rfl⟩
  have D_law_cell_at : Df K mg "_law_cell_at" s__law_cell_at ["_law_script", "_law_k"] := by
    have F := fun_mk (st := s__law_cell_at) l_law_cell_at c_law_cell_at k_law_cell_at
    exact ⟨_, _, F, PySem.W.mg_of X G a_law_cell_at, F.binds (ps := ["_law_script", "_law_k"]) fun _ _ _ _ _ _ us hl => match us, hl with | [_, _], _ => rfl⟩
  have D_law_mixed : Df K mg "_law_mixed" s__law_mixed ["_law_cell", "_law_k"] := by
    have F := fun_mk (st := s__law_mixed) l_law_mixed c_law_mixed k_law_mixed
    exact ⟨_, _, F, PySem.W.mg_of X G a_law_mixed, F.binds (ps := ["_law_cell", "_law_k"]) fun _ _ _ _ _ _ us hl => match us, hl with | [_, _], _ => rfl⟩
  have D_law_source : Df K mg "_law_source" s__law_source ["_law_script", "_law_k"] := by
    have F := fun_mk (st := s__law_source) l_law_source c_law_source k_law_source
    exact ⟨_, _, F, PySem.W.mg_of X G a_law_source, F.binds (ps := ["_law_script", "_law_k"]) fun _ _ _ _ _ _ us hl => match us, hl with | [_, _], _ => rfl⟩
  have D_law_next : Df K mg "_law_next" s__law_next ["_law_source_here", "_law_many_here"] := by
    have F := fun_mk (st := s__law_next) l_law_next c_law_next k_law_next
    exact ⟨_, _, F, PySem.W.mg_of X G a_law_next, F.binds (ps := ["_law_source_here", "_law_many_here"]) fun _ _ _ _ _ _ us hl => match us, hl with | [_, _], _ => rfl⟩
  have D_law_base : Df K mg "_law_base" s__law_base ["_law_source_here"] := by
    have F := fun_mk (st := s__law_base) l_law_base c_law_base k_law_base
    exact ⟨_, _, F, PySem.W.mg_of X G a_law_base, F.binds (ps := ["_law_source_here"]) fun _ _ _ _ _ _ us hl => match us, hl with | [_], _ => rfl⟩
  have D_law_levels : Df K mg "_law_levels" s__law_levels ["_law_source_here"] := by
    have F := fun_mk (st := s__law_levels) l_law_levels c_law_levels k_law_levels
    exact ⟨_, _, F, PySem.W.mg_of X G a_law_levels, F.binds (ps := ["_law_source_here"]) fun _ _ _ _ _ _ us hl => match us, hl with | [_], _ => rfl⟩
  have D_law_tick : Df K mg "_law_tick" s__law_tick ["_law_source_here", "_law_base_here"] := by
    have F := fun_mk (st := s__law_tick) l_law_tick c_law_tick k_law_tick
    exact ⟨_, _, F, PySem.W.mg_of X G a_law_tick, F.binds (ps := ["_law_source_here", "_law_base_here"]) fun _ _ _ _ _ _ us hl => match us, hl with | [_, _], _ => rfl⟩
  have FC_law_word := funC_mk (st := s__law_word) l_law_word c_law_word k_law_word
  have mgC_law_word := PySem.W.mg_of X G a_law_word
  have bC_law_word := FC_law_word.fn.binds (ps := ["_law_call"]) fun _ _ _ _ _ _ us hl => match us, hl with | [_], _ => rfl
  have D_law_many : Df K mg "_law_many" s__law_many ["_law_laps", "_law_now", "_law_last"] := by
    have F := fun_mk (st := s__law_many) l_law_many c_law_many k_law_many
    exact ⟨_, _, F, PySem.W.mg_of X G a_law_many, F.binds (ps := ["_law_laps", "_law_now", "_law_last"]) fun _ _ _ _ _ _ us hl => match us, hl with | [_, _, _], _ => rfl⟩
  have D_law_bound : Df K mg "_law_bound" s__law_bound ["_law_laps", "_law_now"] := by
    have F := fun_mk (st := s__law_bound) l_law_bound c_law_bound k_law_bound
    exact ⟨_, _, F, PySem.W.mg_of X G a_law_bound, F.binds (ps := ["_law_laps", "_law_now"]) fun _ _ _ _ _ _ us hl => match us, hl with | [_, _], _ => rfl⟩
  have D_law_wheel : Df K mg "_law_wheel" s__law_wheel ["_law_base_here", "_law_levels_here", "_law_now", "_law_laps"] := by
    have F := fun_mk (st := s__law_wheel) l_law_wheel c_law_wheel k_law_wheel
    exact ⟨_, _, F, PySem.W.mg_of X G a_law_wheel, F.binds (ps := ["_law_base_here", "_law_levels_here", "_law_now", "_law_laps"]) fun _ _ _ _ _ _ us hl => match us, hl with | [_, _, _, _], _ => rfl⟩
  have FC_law := funC_mk (st := s_law) l_law c_law k_law
  have mgC_law := PySem.W.mg_of X G a_law
  have bC_law := FC_law.fn.binds (ps := ["_law_script"]) fun _ _ _ _ _ _ us hl => match us, hl with | [_], _ => rfl
  have TW : TxW K mg C_ := ⟨⟨pg, hd, po, sa⟩, n_base, n_words, n_tick, n_following, n_live, PySem.W.mg_of X G a_Wheel⟩
  have F_m_init : FunD K "__init__" "Wheel.__init__" (defArgs s_Wheel___init__) (defBody s_Wheel___init__) (defScope s_Wheel___init__) [] [("start", .int 0)] _ _ := ⟨⟨_, _, _, _, _, _, _, _, _, _, rfl, l_m_init, c_m_init, .inl ⟨rfl, rfl⟩, .inr ⟨_, rfl, fun q hq => by rw [List.mem_singleton.mp hq]; exact ⟨_, d_m_init, ⟨_, rfl⟩⟩⟩⟩, k_m_init⟩
  obtain ⟨ds_m_init, V_m_init, B_m_init⟩ := FunD.binds0 (ps := ["self", "base", "levels", "start"]) F_m_init 3 (by simp) rfl fun _ _ _ _ _ _ us ks hl hk => match us, ks, hl, hk with | [_, _, _], [_], _, _ => ⟨_, _, _, _, _, _, rfl, rfl, rfl⟩
  have F_m_now := fun_mk (st := s_Wheel_now) l_m_now c_m_now k_m_now
  have B_m_now := F_m_now.binds (ps := ["self"]) fun _ _ _ _ _ _ us hl => match us, hl with | [_], _ => rfl
  have F_m_put : FunD K "put" "Wheel.put" (defArgs s_Wheel_put) (defBody s_Wheel_put) (defScope s_Wheel_put) [] [("period", .non)] _ _ := ⟨⟨_, _, _, _, _, _, _, _, _, _, rfl, l_m_put, c_m_put, .inl ⟨rfl, rfl⟩, .inr ⟨_, rfl, fun q hq => by rw [List.mem_singleton.mp hq]; exact ⟨_, d_m_put, rfl⟩⟩⟩, k_m_put⟩
  obtain ⟨ds_m_put, V_m_put, B_m_put⟩ := FunD.binds0 (ps := ["self", "due", "period"]) F_m_put 2 (by simp) rfl fun _ _ _ _ _ _ us ks hl hk => match us, ks, hl, hk with | [_, _], [_], _, _ => ⟨_, _, _, _, _, _, rfl, rfl, rfl⟩
  have F_m_timers := fun_mk (st := s_Wheel_timers) l_m_timers c_m_timers k_m_timers
  have B_m_timers := F_m_timers.binds (ps := ["self"]) fun _ _ _ _ _ _ us hl => match us, hl with | [_], _ => rfl
  have F_m_advance := fun_mk (st := s_Wheel_advance) l_m_advance c_m_advance k_m_advance
  have B_m_advance := F_m_advance.binds (ps := ["self", "tick"]) fun _ _ _ _ _ _ us hl => match us, hl with | [_, _], _ => rfl
  have F_m_lists := fun_mk (st := s_Wheel_lists) l_m_lists c_m_lists k_m_lists
  have B_m_lists := F_m_lists.binds (ps := ["self"]) fun _ _ _ _ _ _ us hl => match us, hl with | [_], _ => rfl
  have X_TooMany : EC K mg "TooMany" c_TooMany := ⟨PySem.W.mg_of X G a_TooMany, x_TooMany, kp_TooMany, bx_TooMany, tx_TooMany⟩
  have EX_TooMany : ExcC K c_TooMany := ⟨ga_TooMany, gg_TooMany, bx_TooMany, hx_TooMany, cc_TooMany, sp_get, tk_cls, mo_TooMany⟩
  have XG_TimerError : EG mg "TimerError" c_TimerError := ⟨PySem.W.mg_of X G a_TimerError⟩
  have XG_NoBase : EG mg "NoBase" c_NoBase := ⟨PySem.W.mg_of X G a_NoBase⟩
  have XG_NoLevels : EG mg "NoLevels" c_NoLevels := ⟨PySem.W.mg_of X G a_NoLevels⟩
  have XG_NoTick : EG mg "NoTick" c_NoTick := ⟨PySem.W.mg_of X G a_NoTick⟩
  have XG_NoPeriod : EG mg "NoPeriod" c_NoPeriod := ⟨PySem.W.mg_of X G a_NoPeriod⟩
  have XG_NoTimer : EG mg "NoTimer" c_NoTimer := ⟨PySem.W.mg_of X G a_NoTimer⟩
  have XG_NoOrder : EG mg "NoOrder" c_NoOrder := ⟨PySem.W.mg_of X G a_NoOrder⟩
  have XG_NoSighting : EG mg "NoSighting" c_NoSighting := ⟨PySem.W.mg_of X G a_NoSighting⟩
  refine ⟨PySem.W.fnOf "law" "law" (defArgs s_law) (defBody s_law) (defScope s_law) .none kV_law dc_law pm_law an_law (.ref cc_law) ct_law, [(cc_law, P_law)], spLaw K [(P_law, lamQ "law")], (List.forall_mem_cons.mpr ⟨hT8 _ tm_law, (fun _ hh => nomatch hh)⟩), (List.forall_mem_cons.mpr ⟨nt_law, (fun _ hh => nomatch hh)⟩), (List.forall_mem_cons.mpr ⟨PySem.W.codeHd_of_K X ch_law, (fun _ hh => nomatch hh)⟩), fun s v => .of_eq rfl, fun H a ns h1 _ h3 h4 => ⟨a, ns, rfl, h4, h1, (List.forall_mem_cons.mpr ⟨LamX.TabS.nil (h3 (cc_law, P_law) (by simp)), (fun _ hh => nomatch hh)⟩), fun _ => rfl⟩, fun base hKb hNb hTB => ?_⟩
  have TB_law := hTB (cc_law, P_law) (by simp)
  have h_is_integer : Has l.prog w K mg base 1 "is_integer" ["given"] [] spIsInt := D_is_integer.has fun _ _ F => ok_is_integer F T
  have h2_is_tick : Has l.prog w K mg base 2 "is_tick" ["given", "least"] [.int 0] spIsTick ∧ Has l.prog w K mg base 2 "is_tick" ["given", "least"] [] spIsTick := D_is_tick.has fun _ _ F => ok_is_tick F T h_is_integer
  have h_is_base : Has l.prog w K mg base 2 "is_base" ["given"] [] spIsBase := D_is_base.has fun _ _ F => ok_is_base F h_is_integer
  have h_check_base : Has l.prog w K mg base 3 "check_base" ["base"] [] spCheckBase := D_check_base.has fun _ _ F => ok_check_base F h_is_base
  have h2_check_tick : Has l.prog w K mg base 3 "check_tick" ["tick", "least"] [.int 0] spCheckTick ∧ Has l.prog w K mg base 3 "check_tick" ["tick", "least"] [] spCheckTick := D_check_tick.has fun _ _ F => ok_check_tick F h2_is_tick.2
  have h_level_and_size : Has l.prog w K mg base 1 "level_and_size" ["base", "now", "due"] [] spLevel := D_level_and_size.has fun _ _ F => ok_level_and_size F 
  have h_path : Has l.prog w K mg base 2 "path" ["base", "now", "due"] [] spPath := D_path.has fun _ _ F => ok_path F h_level_and_size
  have h_word_at : Has l.prog w K mg base 1 "word_at" ["levels", "level"] [] (spWordAt K) := D_word_at.has fun _ _ F => ok_word_at F T
  have h_is_word : Has l.prog w K mg base 1 "is_word" ["given"] [] spIsWord := D_is_word.has fun _ _ F => ok_is_word F T h_WORDS
  have h_is_length : Has l.prog w K mg base 2 "is_length" ["given"] [] spIsLength := D_is_length.has fun _ _ F => ok_is_length F ⟨_, h_MOST_LEVELS⟩ h_is_integer
  have h_are_levels : Has l.prog w K mg base 3 "are_levels" ["given"] [] (spAreLevels K) := D_are_levels.has fun _ _ F => ok_are_levels F T h_is_length h_is_word
  have h_check_levels : Has l.prog w K mg base 4 "check_levels" ["levels"] [] (spCheckLevels K) := D_check_levels.has fun _ _ F => ok_check_levels F h_are_levels
  have h_goes_in_front : Has l.prog w K mg base 3 "goes_in_front" ["base", "levels", "now", "due", "lowest"] [] (spFront K) := D_goes_in_front.has fun _ _ F => ok_goes_in_front F h_path h_word_at
  have h_without_repeats : Has l.prog w K mg base 1 "without_repeats" ["levels"] [] (spRepeats K) := D_without_repeats.has fun _ _ F => ok_repeats F T
  have h_is_period : Has l.prog w K mg base 2 "is_period" ["given"] [] spIsPeriod := D_is_period.has fun _ _ F => ok_is_period F h_is_integer
  have h_check_period : Has l.prog w K mg base 3 "check_period" ["period"] [] spCheckPeriod := D_check_period.has fun _ _ F => ok_check_period F h_is_period
  have h_with_timer : Has l.prog w K mg base 1 "with_timer" ["numbers", "number", "front"] [] spWithTimer := D_with_timer.has fun _ _ F => ok_with_timer F 
  have h_firing_order : Has l.prog w K mg base 4 "firing_order" ["base", "levels", "due", "settings"] [] (spFiringOrder K) := D_firing_order.has fun _ _ F => ok_firing_order F h_with_timer h_goes_in_front
  have h_order_of_firing : Has l.prog w K mg base 5 "order_of_firing" ["base", "levels", "live", "tick"] [] (spOrder K) := D_order_of_firing.has fun _ _ F => ok_order F h_firing_order
  have h_least_due : Has l.prog w K mg base 1 "least_due" ["live"] [] spLeast := D_least_due.has fun _ _ F => ok_least_due F T
  have h_after_firing : Has l.prog w K mg base 1 "after_firing" ["live", "numbers", "tick"] [] spAfter := D_after_firing.has fun _ _ F => ok_after F T
  have h_standing : Has l.prog w K mg base 4 "standing" ["base", "levels", "live", "tick"] [] (spStanding K) := D_standing.has fun _ _ F => ok_standing F T h_level_and_size h_with_timer h_goes_in_front
  have M_init : ∃ (fi : Addr) (fdi : FuncData), Mk K C_ fi ∧ FnOk l.prog w K mg base CX0 5 fi fdi ["self", "base", "levels", "start"] (spInit C_ K) ∧ KBn K fdi ["self", "base", "levels", "start"] 3 [Str.ofString "start"] (fun us ws => us ++ ws) (fun vs zs => vs ++ zs) := by
    obtain ⟨mv, hb⟩ := FunD.kbinds0 (ps := ["self", "base", "levels", "start"]) F_m_init 3 [Str.ofString "start"] [] (fun us _ ws => us ++ ws) (by simp) (fun q hq => by cases hq) (fun h1 _ h3 => h1.append h3) fun _ _ _ _ _ _ us mv ws h1 h2 h3 => match us, mv, ws, h1, h2, h3 with | [_, _, _], [], [_], _, _, _ => rfl
    exact ⟨_, _, ⟨mkC, a_m_init, i_m_init, kc⟩, ok_init F_m_init TW h_check_base h2_check_tick.1 h_check_levels h_without_repeats, hb⟩
  obtain ⟨mv_put, hb_put⟩ := FunD.kbinds0 (ps := ["self", "due", "period"]) F_m_put 2 [Str.ofString "period"] [] (fun us _ ws => us ++ ws) (by simp) (fun q hq => by cases hq) (fun h1 _ h3 => h1.append h3) fun _ _ _ _ _ _ us mv ws h1 h2 h3 => match us, mv, ws, h1, h2, h3 with | [_, _], [], [_], _, _, _ => rfl
  have MK_put : HasPut l.prog w K mg base 4 C_ := ⟨_, _, ds_m_put, ok_put F_m_put TW h2_check_tick.2 h_check_period, ⟨a_m_put, i_m_put, k_m_put⟩, B_m_put, V_m_put, hb_put⟩
  have M_now : HasM l.prog w K mg base 1 C_ "now" ["self"] [] (spNow C_) := ⟨_, _, [], ok_now F_m_now TW, ⟨a_m_now, i_m_now, k_m_now⟩, B_m_now, .nil⟩
  have M_timers : HasM l.prog w K mg base 1 C_ "timers" ["self"] [] (spTimers C_) := ⟨_, _, [], ok_timers F_m_timers T TW, ⟨a_m_timers, i_m_timers, k_m_timers⟩, B_m_timers, .nil⟩
  have M_advance : HasM l.prog w K mg base 6 C_ "advance" ["self", "tick"] [] (spAdvance C_) := ⟨_, _, [], ok_advance F_m_advance T TW ⟨_, h_MOST_FIRINGS⟩ h2_check_tick.2 h_least_due h_order_of_firing h_after_firing, ⟨a_m_advance, i_m_advance, k_m_advance⟩, B_m_advance, .nil⟩
  have M_lists : HasM l.prog w K mg base 5 C_ "lists" ["self"] [] (spLists C_) := ⟨_, _, [], ok_lists F_m_lists TW h_standing, ⟨a_m_lists, i_m_lists, k_m_lists⟩, B_m_lists, .nil⟩
  have MX_advance : HasMX l.prog w K mg base 6 C_ "advance" ["self", "tick"] [] (spAdvMany C_ c_TooMany) := ⟨_, _, [], okX_advmany F_m_advance T TW ⟨_, h_MOST_FIRINGS⟩ X_TooMany h2_check_tick.2 h_least_due h_order_of_firing h_after_firing, ⟨a_m_advance, i_m_advance, k_m_advance⟩, B_m_advance, .nil⟩
  have kd_TooMany : Kind8 K c_TooMany [c_NoBase, c_NoLevels, c_NoTick, c_NoPeriod, c_NoTimer, c_NoOrder, c_NoSighting, c_TooMany] 7 := kind8_of 7 EX_TooMany ve_TooMany (by decide) (eight_at ⟨fun z => absurd z (by decide), fun _ => kit_no ss_TooMany hx_NoBase tx_NoBase ss_TooMany_NoBase⟩ ⟨fun z => absurd z (by decide), fun _ => kit_no ss_TooMany hx_NoLevels tx_NoLevels ss_TooMany_NoLevels⟩ ⟨fun z => absurd z (by decide), fun _ => kit_no ss_TooMany hx_NoTick tx_NoTick ss_TooMany_NoTick⟩ ⟨fun z => absurd z (by decide), fun _ => kit_no ss_TooMany hx_NoPeriod tx_NoPeriod ss_TooMany_NoPeriod⟩ ⟨fun z => absurd z (by decide), fun _ => kit_no ss_TooMany hx_NoTimer tx_NoTimer ss_TooMany_NoTimer⟩ ⟨fun z => absurd z (by decide), fun _ => kit_no ss_TooMany hx_NoOrder tx_NoOrder ss_TooMany_NoOrder⟩ ⟨fun z => absurd z (by decide), fun _ => kit_no ss_TooMany hx_NoSighting tx_NoSighting ss_TooMany_NoSighting⟩ ⟨fun _ => rfl, fun z => absurd rfl z⟩)
  have te_TooMany := PySem.W.exm_ref bx_TimerError hx_TimerError tx_TimerError ss_TooMany_TimerError
  have h_law_cell_at : Has l.prog w K mg base 1 "_law_cell_at" ["_law_script", "_law_k"] [] (spCellAt K) := D_law_cell_at.has fun _ _ F => ok_cell_at F T
  have h_law_mixed : Has l.prog w K mg base 1 "_law_mixed" ["_law_cell", "_law_k"] [] spMixed := D_law_mixed.has fun _ _ F => ok_mixed F 
  have h_law_source : Has l.prog w K mg base 2 "_law_source" ["_law_script", "_law_k"] [] (spSource K) := D_law_source.has fun _ _ F => ok_source F T h_law_cell_at h_law_mixed
  have h_law_next : Has l.prog w K mg base 2 "_law_next" ["_law_source_here", "_law_many_here"] [] spNext := D_law_next.has fun _ _ F => ok_next F  h_law_mixed
  have h_law_base : Has l.prog w K mg base 3 "_law_base" ["_law_source_here"] [] spBase := D_law_base.has fun _ _ F => ok_base F h_law_next
  have h_law_tick : Has l.prog w K mg base 3 "_law_tick" ["_law_source_here", "_law_base_here"] [] spTick := D_law_tick.has fun _ _ F => ok_tick F T h_law_next
  have h_law_levels : Has l.prog w K mg base 3 "_law_levels" ["_law_source_here"] [] spLevels := D_law_levels.has fun _ _ F => ok_levels F T h_law_next
  have h_law_many : Has l.prog w K mg base 1 "_law_many" ["_law_laps", "_law_now", "_law_last"] [] spMany06 := D_law_many.has fun _ _ F => ok_many06 F T
  have h_law_bound : Has l.prog w K mg base 2 "_law_bound" ["_law_laps", "_law_now"] [] spBound06 := D_law_bound.has fun _ _ F => ok_bound06 F T h_law_many
  have h_law_wheel : Has l.prog w K mg base 7 "_law_wheel" ["_law_base_here", "_law_levels_here", "_law_now", "_law_laps"] [] (spWheel06 C_) := D_law_wheel.has fun _ _ F => ok_wheel06 F T TW M_init MK_put
  exact ok_law FC_law T TW FC_law_word mgC_law_word bC_law_word TB_law (by simp) (fun p hp _ => congrArg Prod.snd (List.mem_singleton.mp hp)) XG_TimerError XG_NoBase XG_NoLevels XG_NoTick XG_NoOrder XG_NoPeriod XG_NoSighting XG_NoTimer ⟨X_TooMany.g⟩ te_TooMany kd_TooMany h_law_source h_law_base h_law_levels h_law_tick h_law_next h_law_many h_law_bound h_law_wheel M_advance MX_advance M_lists M_now M_timers
end Td
open PySem PySem.W PyProof.Rows in
set_option maxRecDepth 100000 in
set_option maxHeartbeats 0 in
theorem PySem.Challenge.cw_timerdeque_k06_too_many_firings_holds : PySem.Challenge.rw_timerdeque_k06_too_many_firings.Holds := by
  w_on; o_law; k_head; (case hw => w_witness2)
  k_fill
  refine LamX.walk_ofTs (l := PySem.Challenge.rw_timerdeque_k06_too_many_firings) (n := 63) (k := 9) (x := "_law_script") (CX := fun _ => L2.CX0) rfl (by decide) rfl ⟨rfl, by decide, by decide⟩ (fun w h Y => PySem.W.km_in_of Y) ?F (fun _ _ _ _ _ h => h)
  case F =>
    intro w mg fa h Y KX G hmg
    refine' Td.all_mk KX G hmg ?hT8 ?a_wall ?l_wall ?c_wall ?k_wall ?a_is_integer ?l_is_integer ?c_is_integer ?k_is_integer ?a_is_word ?l_is_word ?c_is_word ?k_is_word ?a_is_base ?l_is_base ?c_is_base ?k_is_base ?a_is_length ?l_is_length ?c_is_length ?k_is_length ?a_are_levels ?l_are_levels ?c_are_levels ?k_are_levels ?a_is_tick ?l_is_tick ?t_is_tick ?c_is_tick ?k_is_tick ?a_is_period ?l_is_period ?c_is_period ?k_is_period ?a_check_base ?l_check_base ?c_check_base ?k_check_base ?a_check_levels ?l_check_levels ?c_check_levels ?k_check_levels ?a_check_tick ?l_check_tick ?t_check_tick ?c_check_tick ?k_check_tick ?a_word_at ?l_word_at ?c_word_at ?k_word_at ?a_level_and_size ?l_level_and_size ?c_level_and_size ?k_level_and_size ?a_path ?l_path ?c_path ?k_path ?a_goes_in_front ?l_goes_in_front ?c_goes_in_front ?k_goes_in_front ?a_with_timer ?l_with_timer ?c_with_timer ?k_with_timer ?a_firing_order ?l_firing_order ?c_firing_order ?k_firing_order ?a_without_repeats ?l_without_repeats ?c_without_repeats ?k_without_repeats ?a_check_period ?l_check_period ?c_check_period ?k_check_period ?a_order_of_firing ?l_order_of_firing ?c_order_of_firing ?k_order_of_firing ?a_standing ?l_standing ?c_standing ?k_standing ?a_least_due ?l_least_due ?c_least_due ?k_least_due ?a_after_firing ?l_after_firing ?c_after_firing ?k_after_firing ?a_law_cell_at ?l_law_cell_at ?c_law_cell_at ?k_law_cell_at ?a_law_mixed ?l_law_mixed ?c_law_mixed ?k_law_mixed ?a_law_source ?l_law_source ?c_law_source ?k_law_source ?a_law_next ?l_law_next ?c_law_next ?k_law_next ?a_law_base ?l_law_base ?c_law_base ?k_law_base ?a_law_levels ?l_law_levels ?c_law_levels ?k_law_levels ?a_law_tick ?l_law_tick ?c_law_tick ?k_law_tick ?a_law_word ?l_law_word ?c_law_word ?k_law_word ?a_law_many ?l_law_many ?c_law_many ?k_law_many ?a_law_bound ?l_law_bound ?c_law_bound ?k_law_bound ?a_law_wheel ?l_law_wheel ?c_law_wheel ?k_law_wheel ?a_law ?l_law ?c_law ?k_law ?lc_law ?lp_law ?ch_law ?nt_law ?tm_law ?a_Wheel ?a_m_init ?i_m_init ?l_m_init ?c_m_init ?k_m_init ?d_m_init ?a_m_now ?i_m_now ?l_m_now ?c_m_now ?k_m_now ?a_m_put ?i_m_put ?l_m_put ?c_m_put ?k_m_put ?d_m_put ?a_m_timers ?i_m_timers ?l_m_timers ?c_m_timers ?k_m_timers ?a_m_advance ?i_m_advance ?l_m_advance ?c_m_advance ?k_m_advance ?a_m_lists ?i_m_lists ?l_m_lists ?c_m_lists ?k_m_lists ?pg ?hd ?po ?sa ?mkC ?kc ?n_base ?n_words ?n_tick ?n_following ?n_live ?a_TooMany ?a_TimerError ?a_NoBase ?a_NoLevels ?a_NoTick ?a_NoPeriod ?a_NoTimer ?a_NoOrder ?a_NoSighting ?x_TooMany ?kp_TooMany ?bx_TooMany ?tx_TooMany ?ga_TooMany ?gg_TooMany ?hx_TooMany ?cc_TooMany ?mo_TooMany ?ss_TooMany ?sp_get ?tk_cls ?bx_TimerError ?ve_TooMany ?hx_TimerError ?tx_TimerError ?ss_TooMany_TimerError ?hx_NoBase ?tx_NoBase ?ss_TooMany_NoBase ?hx_NoLevels ?tx_NoLevels ?ss_TooMany_NoLevels ?hx_NoTick ?tx_NoTick ?ss_TooMany_NoTick ?hx_NoPeriod ?tx_NoPeriod ?ss_TooMany_NoPeriod ?hx_NoTimer ?tx_NoTimer ?ss_TooMany_NoTimer ?hx_NoOrder ?tx_NoOrder ?ss_TooMany_NoOrder ?hx_NoSighting ?tx_NoSighting ?ss_TooMany_NoSighting ?z_isinstance ?z_int ?z_bool ?z_str ?z_all ?z_list ?z_len ?z_min ?z_sorted ?z_dict ?z_range ?z_max ?z_sum ?a_WORDS ?l_WORDS ?a_MOST_LEVELS ?a_MOST_FIRINGS
    (case hT8 => exact PySem.W.km_tabs_of Y)
    (case a_wall => k_is)
    (case l_wall => k_is)
    (case c_wall => k_is)
    (case k_wall => k_is)
    (case a_is_integer => k_is)
    (case l_is_integer => k_is)
    (case c_is_integer => k_is)
    (case k_is_integer => k_is)
    (case a_is_word => k_is)
    (case l_is_word => k_is)
    (case c_is_word => k_is)
    (case k_is_word => k_is)
    (case a_is_base => k_is)
    (case l_is_base => k_is)
    (case c_is_base => k_is)
    (case k_is_base => k_is)
    (case a_is_length => k_is)
    (case l_is_length => k_is)
    (case c_is_length => k_is)
    (case k_is_length => k_is)
    (case a_are_levels => k_is)
    (case l_are_levels => k_is)
    (case c_are_levels => k_is)
    (case k_are_levels => k_is)
    (case a_is_tick => k_is)
    (case l_is_tick => k_is)
    (case t_is_tick => k_is)
    (case c_is_tick => k_is)
    (case k_is_tick => k_is)
    (case a_is_period => k_is)
    (case l_is_period => k_is)
    (case c_is_period => k_is)
    (case k_is_period => k_is)
    (case a_check_base => k_is)
    (case l_check_base => k_is)
    (case c_check_base => k_is)
    (case k_check_base => k_is)
    (case a_check_levels => k_is)
    (case l_check_levels => k_is)
    (case c_check_levels => k_is)
    (case k_check_levels => k_is)
    (case a_check_tick => k_is)
    (case l_check_tick => k_is)
    (case t_check_tick => k_is)
    (case c_check_tick => k_is)
    (case k_check_tick => k_is)
    (case a_word_at => k_is)
    (case l_word_at => k_is)
    (case c_word_at => k_is)
    (case k_word_at => k_is)
    (case a_level_and_size => k_is)
    (case l_level_and_size => k_is)
    (case c_level_and_size => k_is)
    (case k_level_and_size => k_is)
    (case a_path => k_is)
    (case l_path => k_is)
    (case c_path => k_is)
    (case k_path => k_is)
    (case a_goes_in_front => k_is)
    (case l_goes_in_front => k_is)
    (case c_goes_in_front => k_is)
    (case k_goes_in_front => k_is)
    (case a_with_timer => k_is)
    (case l_with_timer => k_is)
    (case c_with_timer => k_is)
    (case k_with_timer => k_is)
    (case a_firing_order => k_is)
    (case l_firing_order => k_is)
    (case c_firing_order => k_is)
    (case k_firing_order => k_is)
    (case a_without_repeats => k_is)
    (case l_without_repeats => k_is)
    (case c_without_repeats => k_is)
    (case k_without_repeats => k_is)
    (case a_check_period => k_is)
    (case l_check_period => k_is)
    (case c_check_period => k_is)
    (case k_check_period => k_is)
    (case a_order_of_firing => k_is)
    (case l_order_of_firing => k_is)
    (case c_order_of_firing => k_is)
    (case k_order_of_firing => k_is)
    (case a_standing => k_is)
    (case l_standing => k_is)
    (case c_standing => k_is)
    (case k_standing => k_is)
    (case a_least_due => k_is)
    (case l_least_due => k_is)
    (case c_least_due => k_is)
    (case k_least_due => k_is)
    (case a_after_firing => k_is)
    (case l_after_firing => k_is)
    (case c_after_firing => k_is)
    (case k_after_firing => k_is)
    (case a_law_cell_at => k_is)
    (case l_law_cell_at => k_is)
    (case c_law_cell_at => k_is)
    (case k_law_cell_at => k_is)
    (case a_law_mixed => k_is)
    (case l_law_mixed => k_is)
    (case c_law_mixed => k_is)
    (case k_law_mixed => k_is)
    (case a_law_source => k_is)
    (case l_law_source => k_is)
    (case c_law_source => k_is)
    (case k_law_source => k_is)
    (case a_law_next => k_is)
    (case l_law_next => k_is)
    (case c_law_next => k_is)
    (case k_law_next => k_is)
    (case a_law_base => k_is)
    (case l_law_base => k_is)
    (case c_law_base => k_is)
    (case k_law_base => k_is)
    (case a_law_levels => k_is)
    (case l_law_levels => k_is)
    (case c_law_levels => k_is)
    (case k_law_levels => k_is)
    (case a_law_tick => k_is)
    (case l_law_tick => k_is)
    (case c_law_tick => k_is)
    (case k_law_tick => k_is)
    (case a_law_word => k_is)
    (case l_law_word => k_is)
    (case c_law_word => k_is)
    (case k_law_word => k_is)
    (case a_law_many => k_is)
    (case l_law_many => k_is)
    (case c_law_many => k_is)
    (case k_law_many => k_is)
    (case a_law_bound => k_is)
    (case l_law_bound => k_is)
    (case c_law_bound => k_is)
    (case k_law_bound => k_is)
    (case a_law_wheel => k_is)
    (case l_law_wheel => k_is)
    (case c_law_wheel => k_is)
    (case k_law_wheel => k_is)
    (case a_law => k_is)
    (case l_law => k_is)
    (case c_law => k_is)
    (case k_law => k_is)
    (case lc_law => k_is)
    (case lp_law => rfl)
    (case ch_law => rfl)
    (case nt_law => rfl)
    (case tm_law => simp)
    (case a_Wheel => k_is)
    (case a_m_init => k_is)
    (case i_m_init => k_is)
    (case l_m_init => k_is)
    (case c_m_init => k_is)
    (case k_m_init => k_is)
    (case d_m_init => k_is)
    (case a_m_now => k_is)
    (case i_m_now => k_is)
    (case l_m_now => k_is)
    (case c_m_now => k_is)
    (case k_m_now => k_is)
    (case a_m_put => k_is)
    (case i_m_put => k_is)
    (case l_m_put => k_is)
    (case c_m_put => k_is)
    (case k_m_put => k_is)
    (case d_m_put => k_is)
    (case a_m_timers => k_is)
    (case i_m_timers => k_is)
    (case l_m_timers => k_is)
    (case c_m_timers => k_is)
    (case k_m_timers => k_is)
    (case a_m_advance => k_is)
    (case i_m_advance => k_is)
    (case l_m_advance => k_is)
    (case c_m_advance => k_is)
    (case k_m_advance => k_is)
    (case a_m_lists => k_is)
    (case i_m_lists => k_is)
    (case l_m_lists => k_is)
    (case c_m_lists => k_is)
    (case k_m_lists => k_is)
    (case pg => k_is)
    (case hd => k_is)
    (case po => k_is)
    (case sa => k_is)
    (case mkC => k_is)
    (case kc => k_is)
    (case n_base => k_is)
    (case n_words => k_is)
    (case n_tick => k_is)
    (case n_following => k_is)
    (case n_live => k_is)
    (case a_TooMany => k_is)
    (case a_TimerError => k_is)
    (case a_NoBase => k_is)
    (case a_NoLevels => k_is)
    (case a_NoTick => k_is)
    (case a_NoPeriod => k_is)
    (case a_NoTimer => k_is)
    (case a_NoOrder => k_is)
    (case a_NoSighting => k_is)
    (case x_TooMany => k_exc)
    (case kp_TooMany => k_is)
    (case bx_TooMany => k_is)
    (case tx_TooMany => k_is)
    (case ga_TooMany => k_is)
    (case gg_TooMany => k_is)
    (case hx_TooMany => k_is)
    (case cc_TooMany => k_is)
    (case mo_TooMany => k_is)
    (case ss_TooMany => k_is)
    (case sp_get => k_is)
    (case tk_cls => k_is)
    (case bx_TimerError => k_is)
    (case ve_TooMany => k_is)
    (case hx_TimerError => k_is)
    (case tx_TimerError => k_is)
    (case ss_TooMany_TimerError => k_is)
    (case hx_NoBase => k_is)
    (case tx_NoBase => k_is)
    (case ss_TooMany_NoBase => k_is)
    (case hx_NoLevels => k_is)
    (case tx_NoLevels => k_is)
    (case ss_TooMany_NoLevels => k_is)
    (case hx_NoTick => k_is)
    (case tx_NoTick => k_is)
    (case ss_TooMany_NoTick => k_is)
    (case hx_NoPeriod => k_is)
    (case tx_NoPeriod => k_is)
    (case ss_TooMany_NoPeriod => k_is)
    (case hx_NoTimer => k_is)
    (case tx_NoTimer => k_is)
    (case ss_TooMany_NoTimer => k_is)
    (case hx_NoOrder => k_is)
    (case tx_NoOrder => k_is)
    (case ss_TooMany_NoOrder => k_is)
    (case hx_NoSighting => k_is)
    (case tx_NoSighting => k_is)
    (case ss_TooMany_NoSighting => k_is)
    (case z_isinstance => k_is)
    (case z_int => k_is)
    (case z_bool => k_is)
    (case z_str => k_is)
    (case z_all => k_is)
    (case z_list => k_is)
    (case z_len => k_is)
    (case z_min => k_is)
    (case z_sorted => k_is)
    (case z_dict => k_is)
    (case z_range => k_is)
    (case z_max => k_is)
    (case z_sum => k_is)
    (case a_WORDS => k_is)
    (case l_WORDS => k_is)
    (case a_MOST_LEVELS => k_is)
    (case a_MOST_FIRINGS => k_is)
