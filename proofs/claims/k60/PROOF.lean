import PyProof.Rows.All
import Wide.All
import OpenK.AllK
import Wide.FinOn
import HandS.ForMost
import HandS.IsInst
import HandS.Wide
import HandS.WideBits
import HandS.Defaults
import HandS.Zip
import HandS.Flow
import HandS.SortKw
import HandS.SortOrd
import HandS.Conv
import HandS.More
import HandS.Small
import KE.DatumOrd
import HandS.DictTup
import PyProof.DictMoreH
import HandS.MakeKwOnly
import HandS.Style
import HandS.Iter
import HandS.WordsDict
import HandS.SortInts
import HandS.TupAny
import PySem.Challenge.RW_timerdeque_k60_whole_in_parts_and_withou
set_option Elab.async false
set_option linter.all false
set_option maxRecDepth 100000
set_option maxHeartbeats 4000000
set_option exponentiation.threshold 10000
namespace Td
open PySem PySem.Spec PyProof.Rows L2
/-! ### small things: promises by name, heaps, numbers -/
section
variable {P : Program} {w : World} {K : PySem.W.Frag} {mg : Str → Option Value} {base : Heap}
/-- the module's name x holds a def that keeps the promise sp, its last parameters filled up by dvs -/
def Has (P : Program) (w : World) (K : PySem.W.Frag) (mg : Str → Option Value) (base : Heap) (k : Nat) (x : Str) (ps : List Str) (dvs : List V) (sp : Sp) : Prop :=
  ∃ (f : Addr) (fd : FuncData) (ds : List Value), FnOk P w K mg base CX0 k f fd ps sp ∧ mg x = some (.ref f) ∧ PySem.W.keepIn K (.ref f) = true ∧ Binds K fd ps ds ∧ Vals dvs ds
/-- what the top says of a def without defaults -/
def Df (K : PySem.W.Frag) (mg : Str → Option Value) (x : Str) (st : Stmt) (ps : List Str) : Prop :=
  ∃ (f : Addr) (fd : FuncData), Fun K x x st f fd ∧ mg x = some (.ref f) ∧ Binds K fd ps []
theorem Df.has {k : Nat} {x : Str} {st : Stmt} {ps : List Str} {sp : Sp} (D : Df K mg x st ps) (ok : ∀ f fd, Fun K x x st f fd → FnOk P w K mg base CX0 k f fd ps sp) : Has P w K mg base k x ps [] sp := by
  obtain ⟨f, fd, F, m, b⟩ := D
  exact ⟨f, fd, [], ok f fd F, m, F.kp, b, .nil⟩
/-- a def with one default, the last parameter's -/
def Dd (K : PySem.W.Frag) (mg : Str → Option Value) (x : Str) (st : Stmt) (ps : List Str) (d : V) : Prop :=
  ∃ (f : Addr) (fd : FuncData), FunD K x x (defArgs st) (defBody st) (defScope st) [d] [] f fd ∧ mg x = some (.ref f) ∧ (∃ ds, Vals [d] ds ∧ Binds K fd ps ds) ∧ Binds K fd ps []
theorem Dd.has {k : Nat} {x : Str} {st : Stmt} {ps : List Str} {d : V} {sp : Sp} (D : Dd K mg x st ps d) (ok : ∀ f fd, FunD K x x (defArgs st) (defBody st) (defScope st) [d] [] f fd → FnOk P w K mg base CX0 k f fd ps sp) :
    Has P w K mg base k x ps [d] sp ∧ Has P w K mg base k x ps [] sp := by
  obtain ⟨f, fd, F, m, ⟨ds, r, b⟩, b0⟩ := D
  exact ⟨⟨f, fd, ds, ok f fd F, m, F.kp, b, r⟩, ⟨f, fd, [], ok f fd F, m, F.kp, b0, .nil⟩⟩
end
section
variable {X : Cx}
/-- a product of which one side is small, or both are not too great -/
def CMulA (i j : Int) : Prop := IntMulOk i j
theorem op_mulA : OpR X (binaryOp .Mult) (rI CMulA fun i j => .int (i * j)) := opI fun _ _ _ _ _ _ _ hc q => mul_int q hc
end
/-! x *= e, ints -/
section
variable {X : Cx}
def ipC (C : Int → Int → Prop) (f : Int → Int → Int) : TIp := fun x y H Q => ∃ i j, x = .int i ∧ y = .int j ∧ C i j ∧ Q (.int (f i j)) H
theorem ip_mulA : PIp X .Mult (ipC CMulA fun i j => i * j) := by
  intro pins s σ H x y v u Q I r1 r2 h
  obtain ⟨i, j, rfl, rfl, hm, q⟩ := h
  obtain ⟨t, rfl⟩ := r1
  obtain ⟨t', rfl⟩ := r2
  exact imul_int ⟨.int _, H, I.tok _, ⟨_, rfl⟩, q⟩ hm
end
theorem mul_l {i j : Int} (h1 : -(2 ^ 64) < i) (h2 : i < 2 ^ 64) : CMulA i j := CMul.ok (.inl ⟨h1, h2⟩)
theorem mul_r {i j : Int} (h1 : -(2 ^ 64) < j) (h2 : j < 2 ^ 64) : CMulA i j := CMul.ok (.inr ⟨h1, h2⟩)
theorem mul_w {i j : Int} (a b : Nat) (ha : i.natAbs < 2 ^ a) (hb : j.natAbs < 2 ^ b) (h0 : 0 < a := by decide) (h1 : 0 < b := by decide) (h : a + b ≤ 1000000 := by decide) : CMulA i j := (wide_mul ha hb h0 h1 h).ok
theorem div_s {i j : Int} (h : 0 < j) (h2 : j < 2 ^ 300) : CDivW i j := wide_div (b := 300) h (by omega) (by decide) (by decide)
theorem div_b {i j : Int} (b : Nat) (h : 0 < j) (h2 : j < 2 ^ b) (h0 : 0 < b := by decide) (h9 : b ≤ 9000 := by decide) : CDivW i j := by
  refine wide_div (b := b) h ?_ h0 h9
  have e : ((2 ^ b : Nat) : Int) = (2 : Int) ^ b := by
    rw [Int.natCast_pow]
    rfl
  omega
theorem same_upd {H : Hp} {p : Addr} {o : HO} (h : H p = none) : Same H (upd H p o) := fun b x e => by
  rw [upd_ne (ne_of_none e h)]
  exact e
theorem sizeLine_ge {n : Nat} (h : n ≤ 1000000) : n < sizeLine := by
  rw [sizeLine_eq]
  omega
theorem sizeLine_le {n : Nat} (h : n ≤ 1000000) : n ≤ sizeLine := Nat.le_of_lt (sizeLine_ge h)
theorem pos_of {a c : Nat} (h : a ≤ c) (n : ¬ a = c) : 0 < c := by omega
/-! ### operators on numbers that are not negative -/
def rN (C : Nat → Nat → Prop) (g : Nat → Nat → Nat) : R2 := fun x y H Q => ∃ a b : Nat, x = .int (a : Nat) ∧ y = .int (b : Nat) ∧ C a b ∧ Q (.int ((g a b : Nat) : Int)) H
section
variable {X : Cx}
theorem opN {f : Value → Value → Sem Value} {C : Nat → Nat → Prop} {g : Nat → Nat → Nat} {CI : Int → Int → Prop} {gI : Int → Int → V} (h : OpR X f (rI CI gI)) (e : ∀ a b : Nat, C a b → CI (a : Nat) (b : Nat) ∧ gI (a : Nat) (b : Nat) = .int ((g a b : Nat) : Int)) : OpR X f (rN C g) := by
  intro pins s σ H x y v u Q I rx ry hq
  obtain ⟨a, b, ex, ey, hc, q⟩ := hq
  obtain ⟨h1, h2⟩ := e a b hc
  exact h pins s σ H x y v u Q I rx ry ⟨_, _, ex, ey, h1, by rw [h2]; exact q⟩
theorem opN0 {f : Value → Value → Sem Value} {C : Nat → Nat → Prop} {g : Nat → Nat → Nat} {gI : Int → Int → V} (h : OpR X f (rI0 gI)) (e : ∀ a b : Nat, C a b → gI (a : Nat) (b : Nat) = .int ((g a b : Nat) : Int)) : OpR X f (rN C g) := by
  intro pins s σ H x y v u Q I rx ry hq
  obtain ⟨a, b, ex, ey, hc, q⟩ := hq
  exact h pins s σ H x y v u Q I rx ry ⟨_, _, ex, ey, by rw [e a b hc]; exact q⟩
def NDiv (_ b : Nat) : Prop := 0 < b ∧ b < 2 ^ 9000
def NMod (_ b : Nat) : Prop := 0 < b
def NSub (a b : Nat) : Prop := b ≤ a
def NMul (a b : Nat) : Prop := IntMulOk (a : Int) (b : Int)
def NAny (_ _ : Nat) : Prop := True
theorem op_divN : OpR X (binaryOp .FloorDiv) (rN NDiv fun a b => a / b) := opN op_fdivW fun a b h => ⟨wide_div (b := 9000) (Int.natCast_pos.mpr h.1) h.2 (by decide) (Nat.le_refl _), rfl⟩
theorem op_remN : OpR X (binaryOp .Mod) (rN NMod fun a b => a % b) := opN op_mod fun a b h => ⟨Int.natCast_pos.mpr h, rfl⟩
theorem op_mulN : OpR X (binaryOp .Mult) (rN NMul fun a b => a * b) := opN op_mulA fun a b h => ⟨h, congrArg V.int (Int.natCast_mul a b).symm⟩
theorem op_addN : OpR X (binaryOp .Add) (rN NAny fun a b => a + b) := opN0 op_add fun _ _ _ => rfl
theorem op_subN : OpR X (binaryOp .Sub) (rN NSub fun a b => a - b) := opN0 op_sub fun a b h => congrArg V.int (Int.natCast_sub h).symm
end
theorem ndiv {a b : Nat} (t : Nat) (h : 0 < b) (h2 : b < 2 ^ t) (ht : t ≤ 9000 := by decide) : NDiv a b := ⟨h, Nat.lt_of_lt_of_le h2 (Nat.pow_le_pow_right (by decide) ht)⟩
theorem nmul_l {a b : Nat} (h : a < 2 ^ 64) : NMul a b := mul_l (by omega) (by omega)
theorem nmul_r {a b : Nat} (h : b < 2 ^ 64) : NMul a b := mul_r (by omega) (by omega)
theorem nmul_w {a b : Nat} (i j : Nat) (ha : a < 2 ^ i) (hb : b < 2 ^ j) (h0 : 0 < i := by decide) (h1 : 0 < j := by decide) (h : i + j ≤ 1000000 := by decide) : NMul a b := mul_w i j ha hb h0 h1 h
theorem int_ne {a b : Nat} (h : a ≠ b) : decide (V.int (a : Nat) = V.int (b : Nat)) = false := decide_eq_false fun e => h (Int.ofNat.inj (V.int.inj e))
theorem dT {p : Prop} [Decidable p] (h : p) : V.bl (decide p) = V.bl true := congrArg V.bl (decide_eq_true h)
theorem dF {p : Prop} [Decidable p] (h : ¬ p) : V.bl (decide p) = V.bl false := congrArg V.bl (decide_eq_false h)
theorem nT {p : Prop} [Decidable p] (h : ¬ p) : V.bl (!decide p) = V.bl true := congrArg V.bl (congrArg (!·) (decide_eq_false h))
theorem nF {p : Prop} [Decidable p] (h : p) : V.bl (!decide p) = V.bl false := congrArg V.bl (congrArg (!·) (decide_eq_true h))
theorem vN {a b : Nat} (h : a ≠ b) : ¬ V.int (a : Nat) = V.int (b : Nat) := fun e => h (Int.ofNat.inj (V.int.inj e))
theorem vE {a b : Nat} (h : a = b) : V.int (a : Nat) = V.int (b : Nat) := congrArg (fun c : Nat => V.int (c : Nat)) h
theorem vI {a b : Int} (h : a ≠ b) : ¬ V.int a = V.int b := fun e => h (V.int.inj e)
/-! ### rules with the written part named (within a comprehension's block) -/
section
variable {X : Cx} {K : PySem.W.Frag}
theorem ix_tupK (e : X.K = K) : IxR X (rIxT K) := by subst e; exact ix_tup
theorem ix_listK (e : X.K = K) : IxR X (rIxL K) := by subst e; exact ix_list
theorem sl_tupK (e : X.K = K) : SlR X (rSlT K) := by subst e; exact sl_tup
theorem sl_listK (e : X.K = K) : SlR X (rSlL K) := by subst e; exact sl_list
theorem op_eqK (e : X.K = K) (hu : X.A.units + 64 < cLine) : OpR X (compareOp .Eq) (rEqD K) := by subst e; exact op_eqD hu
theorem op_neK (e : X.K = K) (hu : X.A.units + 64 < cLine) : OpR X (compareOp .NotEq) (rNeD K) := by subst e; exact op_neD hu
theorem isiK (e : X.K = K) : CallR X (.builtin "isinstance") (rIsi K) := by subst e; exact call_isi
def rLenK (K : PySem.W.Frag) : List V → Hp → VK → Prop := fun xs H Q => ∃ p ys, xs = [.ref p] ∧ (SqL K H p ys ∨ SqT K H p ys) ∧ Q (.int ys.length) H
theorem lenK (e : X.K = K) : CallR X (.builtin "len") (rLenK K) := by subst e; exact call_len_seq
theorem allK (e : X.K = K) (hc : X.calm = true) : CallR X (.builtin "all") (rAll K) := by subst e; exact cr_all hc
theorem sumK (e : X.K = K) (hc : X.calm = true) : CallR X (.builtin "sum") (rSum K) := by subst e; exact cr_sum hc
theorem maxK (e : X.K = K) (hc : X.calm = true) : CallR X (.builtin "max") (rMax K) := by subst e; exact cr_max hc
theorem minK (e : X.K = K) (hc : X.calm = true) : CallR X (.builtin "min") (rMin K) := by subst e; exact cr_min hc
theorem anyK (e : X.K = K) (hc : X.calm = true) : CallR X (.builtin "any") (rAny K) := by subst e; exact cr_any hc
end
section
variable {X : Cx} {K : PySem.W.Frag}
theorem ix_ltK (e : X.K = K) : IxR X (fun x y H Q => rIxL K x y H Q ∨ rIxT K x y H Q) := by subst e; exact ix_list.or ix_tup
theorem pe_orTK {a b : Expr} {ta tb : TE} {rest : List Expr} {pos : Pos} (e : X.K = K) (ha : PE X a ta) (hb : PE X (.BoolOp .Or (b :: rest) pos) tb) : PE X (.BoolOp .Or (a :: b :: rest) pos) (tOrT K ta tb) := by subst e; exact pe_orT ha hb
end
theorem yesT {σ : L2.St} {H : Hp} {Q : Bool → Hp → Prop} (h : Q true H) : tYes σ H Q := h
section
variable {X : Cx} {K : PySem.W.Frag}
theorem pg_tupK {es : List Expr} {k : Nat} {t : TGs} {n : Nat} {pos : Pos} (e : X.K = K) (hc : X.calm = true) (h : PGs X es t)
    (hn : (assignEach es X.env).length = n := by rfl) (hst : (assignEach es X.env).findIdx? (·.1) = none := by rfl) : PG X (.Tuple es k pos) (gTup K n t) := by
  subst e
  exact pg_tup hc h hn hst
end
theorem tyx_list {K : PySem.W.Frag} {H : Hp} {a : Addr} {xs : List V} (h : SqL K H a xs) : TyX K H (.ref a) (.type "list") := by
  rcases h with (h | ⟨o, h⟩) | ⟨o, its, n, h, hc, _⟩
  · exact .base (.lst h)
  · exact .base (.frz h)
  · exact .kList h hc
/-- max and min of two numbers that are not negative -/
def rNN (g : Nat → Nat → Nat) : List V → Hp → VK → Prop := fun xs H Q => ∃ a b : Nat, xs = [.int (a : Nat), .int (b : Nat)] ∧ Q (.int ((g a b : Nat) : Int)) H
section
variable {X : Cx}
theorem max2N (hc : X.calm = true) : CallR X (.builtin "max") (rNN max) := by
  intro pins s σ H xs us Q I r h
  obtain ⟨a, b, rfl, q⟩ := h
  refine call_max2 hc pins s σ H _ us Q I r ⟨_, _, rfl, ?_⟩
  have e : (if (b : Int) > (a : Int) then (b : Int) else (a : Int)) = ((max a b : Nat) : Int) := by split <;> omega
  rw [e]
  exact q
theorem max0N (hc : X.calm = true) : CallR X (.builtin "max") (fun xs H Q => ∃ (z : Int) (n : Nat), xs = [.int 0, .int z] ∧ (if z > 0 then z else 0) = (n : Int) ∧ Q (.int (n : Nat)) H) := by
  intro pins s σ H xs us Q I r h
  obtain ⟨z, n, rfl, e, q⟩ := h
  refine call_max2 hc pins s σ H _ us Q I r ⟨0, z, rfl, ?_⟩
  rw [e]
  exact q
theorem min2N (hc : X.calm = true) : CallR X (.builtin "min") (rNN min) := by
  intro pins s σ H xs us Q I r h
  obtain ⟨a, b, rfl, q⟩ := h
  refine call_min2 hc pins s σ H _ us Q I r ⟨_, _, rfl, ?_⟩
  have e : (if (b : Int) < (a : Int) then (b : Int) else (a : Int)) = ((min a b : Nat) : Int) := by split <;> omega
  rw [e]
  exact q
end
/-- one rest behind several ways -/
theorem cut_at {α : Type} {I : α → Hp → Prop} {G : Prop} (R : α → Hp → Prop) (h1 : (∀ a H, I a H → R a H) → G) (h2 : ∀ a H, I a H → R a H) : G := h1 h2
theorem cut_rest {I : Hp → Prop} {G : Prop} (R : Hp → Prop) (h1 : (∀ H, I H → R H) → G) (h2 : ∀ H, I H → R H) : G := h1 h2
/-! ### range over numbers of any size -/
theorem turn_long {P : Program} {w : World} {K : PySem.W.Frag} {tg : Expr} (r : Addr) (lo c : Int) (n : Nat) :
    Turn P w K tg (Itc lo c n) [r] r (fun i hp => IsLongIter hp r (lo + (i : Nat) * c) ((n : Int) - (i : Nat)) c) where
  mem := List.mem_singleton.mpr rfl
  obj := fun _ _ here b hb => by
    cases List.mem_singleton.mp hb
    exact ⟨_, here, fun _ z => nomatch z⟩
  keep := fun _ _ _ here same => same r (List.mem_singleton.mpr rfl) _ here
  item := by
    intro Y y1 y2 y3 calm i pins s σ H E inv own here more
    subst y1; subst y2; subst y3
    have o := own r (List.mem_singleton.mpr rfl)
    refine (Walks.longrange (prog := Y.prog) (w := Y.w) (inv.ok.hd calm) r lo c n).item i s _ _ more here fun v h2 k hv next keep => ?_
    obtain ⟨t, rfl⟩ := hv
    have inv2 : Inv Y pins σ H { s with heap := h2, toks := k } := inv.turned (fun b ob hb e => keep b ob (fun z => hb (List.mem_singleton.mp z)) e) o.1 o.2.1 o.2.2.2.1 o.2.2.2.2.1 o.2.2.2.2.2
    have stay : ∀ b ∈ [r], H b = none := fun b hb => (own b hb).1
    exact ⟨_, rfl, go_of (s := { s with heap := h2, toks := k }) (n := "longrange_iterator") next rfl rfl (by decide) ⟨.int (lo + (i : Nat) * c), H, inv2, ⟨t, rfl⟩, ⟨rfl, rfl⟩, next, stay⟩⟩
  done := by
    intro Y y1 y2 y3 calm i pins s σ H E inv own here over
    subst y1; subst y2; subst y3
    have o := own r (List.mem_singleton.mpr rfl)
    have le : n ≤ i := over
    exact wpAny_pyNext_long_end (inv.ok.hd calm) here (by omega) fun h2 same => ⟨rfl, inv.turned (t' := s.toks) (fun b ob hb e => same b ob hb e) o.1 o.2.1 o.2.2.2.1 o.2.2.2.2.1 o.2.2.2.2.2⟩
  self := fun _ _ _ _ _ here h => wpAny_pyIter_longiter here h
/-- a range object just made, whatever its size -/
theorem range_wide {X : Cx} {tg : Expr} {pins : List (Addr × Obj)} {σ : L2.St} {H : Hp} {s : Shared} {R : It → Hp → Prop} {E : Value → Shared → Prop} {lo hi c : Int} {t u v : Tok} {tk n : Nat} (I : Inv X pins σ H s)
    (hn : Builtin.Range.rangeSize lo hi c = n) (q : R (Itc lo c n) H) :
    wpAny (model X.prog X.w) X.A (pyIter (.ref s.heap.objs.size)) (PIE X pins σ tg R) E { s with heap := s.heap.push { cls := .type "range", data := .fields #[.int lo t, .int hi u, .int c v] }, toks := tk } := by
  have made : Inv X pins σ H { s with heap := s.heap.push { cls := .type "range", data := .fields #[.int lo t, .int hi u, .int c v] }, toks := tk } := I.kept fun b ob e => Heap.get?_push_of_some _ e
  have e0 : lo + ((0 : Nat) : Int) * c = lo := by simp
  have e9 : (n : Int) - ((0 : Nat) : Int) = Builtin.Range.rangeSize lo hi c := by
    rw [hn]
    simp
  cases small : Builtin.Range.small lo hi c with
  | true =>
    refine wpAny_pyIter_range (IsRange.new ..) small (pi_one (tk := tk) made _ (turn_rangeC _ lo c n) ?_ q)
    show IsRangeIter _ _ (lo + ((0 : Nat) : Int) * c) ((n : Int) - ((0 : Nat) : Int)) c
    rw [e0, e9]
    exact Heap.get?_push_size _ rfl
  | false =>
    refine wpAny_pyIter_longrange (IsRange.new ..) small (pi_one (tk := tk) made _ (turn_long _ lo c n) ?_ q)
    show IsLongIter _ _ (lo + ((0 : Nat) : Int) * c) ((n : Int) - ((0 : Nat) : Int)) c
    rw [e0, e9]
    exact Heap.get?_push_size _ rfl
theorem itc_one (lo : Int) (n : Nat) : Itc lo 1 n = Itr lo n := by
  unfold Itc Itr
  congr 1
  funext i H x H'
  rw [Int.mul_one]
def iWide2 (ta : TA) : TI := fun σ H R => ta σ H fun vs H1 => ∃ i j : Int, vs = [.int i, .int j] ∧ R (Itr i (j - i).toNat) H1
def iWide3 (ta : TA) : TI := fun σ H R => ta σ H fun vs H1 => ∃ (i j c : Int) (n : Nat), vs = [.int i, .int j, .int c] ∧ CDivP (j - i) c ∧ Builtin.Range.rangeSize i j c = n ∧ R (Itc i c n) H1
section
variable {X : Cx} {tg : Expr}
theorem pi_wide2 {a b : Expr} {ta : TA} {p pos : Pos} (hg : Gl X "range") (hm : X.mg "range" = none) (ha : PA X [a, b] ta) (h2 : starEach [a, b] X.env = [(false, eval a X.env), (false, eval b X.env)] := by rfl) (h1 : starEach [b] X.env = [(false, eval b X.env)] := by rfl) :
    PI X tg (.Call (.Name "range" p) [a, b] [] pos) (iWide2 ta) := by
  refine ⟨fun pins s σ H R I h => Call_ (ld_blt I hg hm boot_range (PyProof.Rows.callWith_type1 (thn (ha.run pos pins s σ H _ I h) fun us s1 ⟨vs, H1, I1, r1, q1⟩ => ?_) (by rw [h2, h1]) (by rw [h1]; rfl)))⟩
  obtain ⟨i, j, rfl, q⟩ := q1
  obtain ⟨u1, u2, rfl, ⟨t, rfl⟩, ⟨t', rfl⟩⟩ := vals2 r1
  refine call_range_2 (range_wide (n := (j - i).toNat) I1 ?_ (by rw [itc_one]; exact q))
  rw [rangeSize_one]
  split <;> omega
theorem pi_wide3 {a b c : Expr} {ta : TA} {p pos : Pos} (hg : Gl X "range") (hm : X.mg "range" = none) (ha : PA X [a, b, c] ta)
    (h3 : starEach [a, b, c] X.env = (false, eval a X.env) :: starEach [b, c] X.env := by rfl) (hn : (backTo pos (starEach [b, c] X.env)).any (·.1) = false := by rfl) :
    PI X tg (.Call (.Name "range" p) [a, b, c] [] pos) (iWide3 ta) := by
  refine ⟨fun pins s σ H R I h => Call_ (ld_blt I hg hm boot_range (PyProof.Rows.callWith_type1 (thn (ha.run pos pins s σ H _ I h) fun us s1 ⟨vs, H1, I1, r1, q1⟩ => ?_) h3 hn))⟩
  obtain ⟨i, j, k, n, rfl, hk, hz, q⟩ := q1
  cases r1 with
  | cons ra rr =>
    obtain ⟨u2, u3, rfl, ⟨t', rfl⟩, ⟨t'', rfl⟩⟩ := vals2 rr
    obtain ⟨t, rfl⟩ := ra
    have k0 : k ≠ 0 := fun z => by
      have := hk.1
      omega
    exact call_range_3 k0 (range_wide (tk := s1.toks) I1 hz q) (.inl hk.2)
end
/-- a list made over a range with a step -/
theorem lc_step {lo c : Int} {n : Nat} {g : TG} {tt : TT} {te : TE} {ws : List Nat} {σ : L2.St} {G : Hp} {D : Addr} {Qd : Hp → Prop} (Pv : Nat → Hp → Prop) (start : Pv 0 (upd G D (.lst [])))
    (step : ∀ i G, i < n → Pv i G → g (.int (lo + (i : Nat) * c)) (wipe σ ws) G fun τ G2 => wipe τ ws = wipe σ ws ∧ tt τ G2 fun k G3 => if k = true then te τ G3 fun z G4 => ∃ ac, G4 D = some (.lst ac) ∧ ac.length < sizeLine ∧ Pv (i + 1) (upd G4 D (.lst (ac ++ [z]))) else Pv (i + 1) G3)
    (last : ∀ G, Pv n G → Qd G) : ∃ W : Nat → Nat → Hp → Prop, (∃ m, W 0 m (upd G D (.lst []))) ∧ ∀ i m G, W i m G → ((Itc lo c n).stop i G ∧ Qd G) ∨
      ((Itc lo c n).go i G ∧ ∃ N : Hp → Prop, (∀ G', N G' → ∃ m', m' < m ∧ W (i + 1) m' G') ∧ ∀ x G', (Itc lo c n).yld i G x G' → g x (wipe σ ws) G' fun τ G2 => wipe τ ws = wipe σ ws ∧ tt τ G2 fun k G3 => if k = true then te τ G3 fun z G4 => ∃ ac, G4 D = some (.lst ac) ∧ ac.length < sizeLine ∧ N (upd G4 D (.lst (ac ++ [z]))) else N G3) := by
  refine ⟨fun i m G => (m = n - i ∧ i ≤ n) ∧ Pv i G, ⟨n, ⟨rfl, Nat.zero_le _⟩, start⟩, ?_⟩
  rintro i m G ⟨⟨rfl, le⟩, pv⟩
  rcases Nat.lt_or_ge i n with lt | ge
  · exact .inr ⟨lt, Pv (i + 1), fun G' p' => ⟨n - (i + 1), by omega, ⟨rfl, lt⟩, p'⟩, fun x G' ⟨e1, e2⟩ => by
      rw [e1, e2]
      exact step i G lt pv⟩
  · have e : i = n := Nat.le_antisymm le ge
    rw [e] at pv ⊢
    exact .inl ⟨Nat.le_refl _, last G pv⟩
/-! ### rules that the layer lacks: min(.., default=None), sorted of a dict with pairs of ints as its keys -/
theorem minOf_spec : ∀ (x : Int) (xs : List Int), PySem.W.minOf x xs ∈ x :: xs ∧ ∀ y ∈ x :: xs, PySem.W.minOf x xs ≤ y := by
  intro x xs
  unfold PySem.W.minOf
  induction xs generalizing x with
  | nil =>
    refine ⟨List.mem_cons_self .., fun y hy => ?_⟩
    rcases List.mem_cons.mp hy with e | hy
    · rw [e]
      exact Int.le_refl _
    · cases hy
  | cons z zs ih =>
    have e : (PySem.W.DatumOrd.lt z x = true) ↔ z < x := by
      show decide (z < x) = true ↔ z < x
      exact decide_eq_true_iff
    rw [List.foldl_cons]
    obtain ⟨h1, h2⟩ := ih (if PySem.W.DatumOrd.lt z x = true then z else x)
    refine ⟨?_, fun y hy => ?_⟩
    · rcases List.mem_cons.mp h1 with e1 | h1
      · rw [e1]
        split
        · exact List.mem_cons_of_mem _ (List.mem_cons_self ..)
        · exact List.mem_cons_self ..
      · exact List.mem_cons_of_mem _ (List.mem_cons_of_mem _ h1)
    · have h3 := h2 _ (List.mem_cons_self ..)
      rcases List.mem_cons.mp hy with e1 | hy
      · rw [e1]
        by_cases c : z < x
        · rw [if_pos (e.mpr c)] at h3 ⊢
          omega
        · rw [if_neg (fun q => c (e.mp q))] at h3 ⊢
          exact h3
      · rcases List.mem_cons.mp hy with e1 | hy
        · rw [e1]
          by_cases c : z < x
          · rw [if_pos (e.mpr c)] at h3 ⊢
            exact h3
          · rw [if_neg (fun q => c (e.mp q))] at h3 ⊢
            omega
        · exact h2 y (List.mem_cons_of_mem _ hy)
def rMinD (K : PySem.W.Frag) : List V → List V → Hp → VK → Prop := fun vs zs H Q => ∃ (a : Addr) (ns : List Int), vs = [V.ref a] ∧ zs = [.non] ∧ SqL K H a (ns.map V.int) ∧ (ns = [] → Q .non H) ∧ ∀ v ∈ ns, (∀ x ∈ ns, v ≤ x) → Q (.int v) H
section
variable {X : Cx} {K : PySem.W.Frag}
theorem minDef (e : X.K = K) (hc : X.calm = true) (hu : X.A.units + 64 < cLine) : CallRK X (.builtin "min") [Str.ofString "default"] (rMinD K) := by
  subst e
  intro pins s σ H vs zs us ws Q I r rz h
  obtain ⟨a, ns, rfl, rfl, hs, q0, q1⟩ := h
  obtain ⟨its, rv, hl, hz⟩ := I.list hs
  obtain ⟨w1, rfl, e1⟩ := vals1 rz
  obtain rfl : w1 = Value.none := e1
  rw [Vals.ref1 r]
  have hi := rv.ints
  refine PySem.W.min_list_datum_default (α := Int) (xs := ns) (I.ok.hd hc) hl.isList (PySem.W.HoldAll.of_ints hi) (by show X.A.units + 1 + 0 < cLine; omega) (fun en h' tk hk => ?_) (fun y ys i v h' tk en hv hh hk => ?_)
  · exact ⟨.non, H, I.kept hk, rfl, q0 en⟩
  · obtain ⟨as, hr⟩ := hh
    have hm := minOf_spec y ys
    have ev : ∃ t, v = Value.int (PySem.W.minOf y ys) t := by
      cases hr
      exact ⟨_, rfl⟩
    obtain ⟨t, rfl⟩ := ev
    subst en
    exact ⟨.int _, H, I.kept hk, ⟨_, rfl⟩, q1 _ hm.1 hm.2⟩
end
/-! ### d.setdefault(t, x), t a tuple of whole numbers or texts -/
def rSetT : V → List V → Hp → VK → Prop := fun x xs H Q => ∃ (a : Addr) (kvs : List (List L2.Key × V)) (k : List L2.Key) (b : Addr) (d : V), x = .ref a ∧ xs = [.ref b, d] ∧ H a = some (.dT kvs) ∧ H b = some (.tup (k.map kV)) ∧ kvs.length < sizeLine ∧
  (∀ v, valV kvs k = some v → Q v H) ∧ (valV kvs k = none → Q d (upd H a (.dT (putK kvs k d))))
section
variable {X : Cx}
theorem mt_setT (hu : X.A.units + 1 < cLine) : MtR X "dict.setdefault" rSetT := by
  intro pins s σ H x xs v us Q I rx rxs h
  obtain ⟨a, kvs, k, b, d, rfl, rfl, ha, hb, hl, q1, q2⟩ := h
  cases rx
  obtain ⟨u1, u2, rfl, r1, r2⟩ := vals2 rxs
  cases r1
  obtain ⟨z, hd, xs', rel, dd⟩ := dt_of I.hok ha
  have hz : xs'.length ≤ sizeLine := by rw [← Paired.length rel]; exact z
  have hl2 : (putK kvs k d).length ≤ sizeLine := by have := length_putK kvs k d; omega
  refine PySem.call_setdefault_heap (tupleKind_room_in1 hu) (key_of I.hok hb) hd dd (fun p hp => ?_) (fun hn h' dd' hs => ?_) hz
  · have r := rel.val k
    rw [hp] at r
    cases ev : valV kvs k with
    | none =>
      rw [ev] at r
      exact (show False from r).elim
    | some v0 =>
      rw [ev] at r
      exact ⟨v0, H, I.tok _, r, q1 v0 ev⟩
  · have r := rel.val k
    rw [hn] at r
    have e : valV kvs k = none := by
      cases ev : valV kvs k with
      | none => rfl
      | some v0 =>
        rw [ev] at r
        exact (show False from r).elim
    obtain ⟨q, es, ep, hq, h2, h3, h4, _, h5⟩ := dd'
    exact ⟨d, upd H a (.dT (putK kvs k d)), d_write (ob := .dT (putK kvs k d)) I (by rw [ha]; exact True.intro) hs ⟨q, hq⟩ ⟨hl2, hd, _, (rel.put k hb r2).keeps fun c ys ec => (by rw [upd_ne (ne_of ec ha (fun z => nomatch z))]; exact ec), q, es, ep, hq, h2, h3, h4, h5⟩, r2, q2 e⟩
end
/-! ### sorted of a dict whose keys are pairs of whole numbers -/
def pairAt (H : Hp) : Value → Int × Int
  | .ref b => match H b with
    | some (.tup [.int i, .int j]) => (i, j)
    | _ => (0, 0)
  | _ => (0, 0)
theorem pairAt_of {H : Hp} {b : Addr} {i j : Int} (h : H b = some (.tup [.int i, .int j])) : pairAt H (.ref b) = (i, j) := by
  show (match H b with | some (.tup [.int i, .int j]) => (i, j) | _ => (0, 0)) = (i, j)
  rw [h]
def unRef : Value → Addr
  | .ref b => b
  | _ => 0
section
variable {X : Cx}
theorem call_sortedDT (hc : X.calm = true) : CallR X (.builtin "sorted") (fun xs H Q => ∃ (d : Addr) (kvs : List (List Key × V)) (ps : List (Int × Int)), xs = [V.ref d] ∧ Rd H d (.dT kvs) ∧ kvs.map (·.1) = ps.map (fun p => [Sum.inl p.1, Sum.inl p.2]) ∧
    ∀ (p : Addr) (bs : List Addr), H p = none → (bs.map fun b => pairAt H (.ref b)).Perm ps → (bs.map fun b => pairAt H (.ref b)).Pairwise (fun a b => SrtO.lexB b a = false) → (∀ b ∈ bs, H b = some (.tup [.int (pairAt H (.ref b)).1, .int (pairAt H (.ref b)).2])) → Q (.ref p) (upd H p (.lst (bs.map V.ref)))) := by
  intro pins s σ H xs us Q I r h
  obtain ⟨d, kvs, ps, rfl, hd, hps, q⟩ := h
  obtain ⟨u, rfl, rx⟩ := r.one
  cases rx
  obtain ⟨z, hs, ks, pr, o, es, ep, ho, hx, hdt, he, hn⟩ := (show ObjOk X.prog X.w H s.heap d (.dT kvs) from hd.ok I.hok)
  have l1 : es.size = ks.length := size_of_entries he
  have l2 : kvs.length = ks.length := Paired.length pr
  have ik : IsKeys H kvs (ks.map fun x => x.2.1) := isKeys_of pr
  -- what stands at the keys
  have keys : ∀ (kvs : List (List Key × V)) (ps : List (Int × Int)) (bs : List Addr), kvs.map (·.1) = ps.map (fun p => [Sum.inl p.1, Sum.inl p.2]) → IsKeys H kvs bs → bs.map (fun b => pairAt H (.ref b)) = ps ∧ ∀ b ∈ bs, H b = some (.tup [.int (pairAt H (.ref b)).1, .int (pairAt H (.ref b)).2]) := by
    intro kvs ps bs e1 e2
    induction e2 generalizing ps with
    | nil =>
      cases ps with
      | nil => exact ⟨rfl, fun b h => by cases h⟩
      | cons p ps => cases e1
    | cons h t ih =>
      cases ps with
      | nil => cases e1
      | cons p ps =>
        rw [List.map_cons, List.map_cons] at e1
        obtain ⟨e3, e4⟩ := List.cons.inj e1
        obtain ⟨i1, i2⟩ := ih ps e4
        rw [e3] at h
        have h' : H _ = some (.tup [.int p.1, .int p.2]) := h
        have hp := pairAt_of h'
        refine ⟨?_, fun b hb => ?_⟩
        · rw [List.map_cons, i1, hp]
        · rcases List.mem_cons.mp hb with e | hb
          · rw [e, hp]
            exact h'
          · exact i2 b hb
  obtain ⟨kp1, kp2⟩ := keys kvs ps _ hps ik
  refine Calls.call_function_entry PyProof.Rows.kind_sorted PyProof.Rows.plain_sorted PyProof.Rows.entry_sorted (PyProof.Rows.args_sorted1 _) ?_
  unfold Builtin.«sorted»
  refine wpAny_bind (m := checkCount "sorted" 1 1 _) (wpAny_pure ?_)
  refine wpAny_bind (PySem.W.kdu_collect (A := X.A.in1) (kdl_raw hs hx hdt) (I.ok.hd hc) ho (by omega) fun h' tk acc hk it => ?_)
  have ea : acc.toList = ks.map fun x => Value.ref x.2.1 := by
    have hl : acc.toList.length = ks.length := by rw [Array.length_toList, it.1]; exact l1
    apply List.ext_getElem?
    intro j
    rw [List.getElem?_map]
    cases hj : acc.toList[j]? with
    | none =>
      have h1 := List.getElem?_eq_none_iff.mp hj
      rw [List.getElem?_eq_none (by omega)]
      all_goals rfl
    | some v =>
      obtain ⟨en, hen, hv⟩ := it.2 j v (by rw [← Array.getElem?_toList]; exact hj)
      have qe := entry_at he j
      rw [hen] at qe
      cases hb : ks[j]? with
      | none =>
        rw [hb] at qe
        exact nomatch (show some en = none from qe)
      | some b =>
        rw [hb] at qe
        have e2 : en = entryOfKey (tupleKind (mixKind X.prog X.w)) b := Option.some.inj qe
        rw [hv, e2]
        all_goals rfl
  have I1 : Inv X pins σ H { s with heap := h', toks := tk } := I.kept hk
  have hal : acc.toList.length ≤ sizeLine := by
    rw [ea, List.length_map]
    omega
  refine wpAny_bind (wpAny_newList ?_ hal)
  have hoL : (h'.push (seqObj "list" acc.toList.toArray 0)).get? h'.objs.size = some (seqObj "list" acc.toList.toArray 0) := Heap.get?_push_size _ rfl
  show wpAny _ _ _ _ _ { s with heap := h'.push (seqObj "list" acc.toList.toArray 0), toks := tk }
  have hp : ∀ v ∈ acc.toList, Srt.IsPair (h'.push (seqObj "list" acc.toList.toArray 0)) v (pairAt H v).1 (pairAt H v).2 := fun v hv => by
    rw [ea] at hv
    obtain ⟨x, hxm, rfl⟩ := List.mem_map.mp hv
    have ht := kp2 x.2.1 (List.mem_map.mpr ⟨x, hxm, rfl⟩)
    obtain ⟨_, its2, r2, o2, ho2, hc2, n2, hd2⟩ := I1.hok _ _ ht
    obtain ⟨u1, u2, rfl, ri, rj⟩ := vals2 r2
    obtain ⟨t1, rfl⟩ := ri
    obtain ⟨t2, rfl⟩ := rj
    exact ⟨x.2.1, o2, t1, t2, n2, rfl, Heap.get?_push_of_some _ ho2, hc2, hd2⟩
  refine wpAny_bind (wpAny_holding (wpAny_call_entry PyProof.Rows.slot_list_sort ⟨_, hoL, rfl⟩ PyProof.Rows.entry_list_sort
    (SrtO.list_sort_ord (s := { s with heap := h'.push (seqObj "list" acc.toList.toArray 0), toks := tk }) (SrtO.swo_lex (pairAt H)) hoL hal (fun h2 => SrtO.pairs_sortableO (by omega) hp fun o e => ?_) fun out h1 h2 => ⟨_, rfl, ?_⟩) (PyProof.Rows.args_list_sort _)))
  · have e' : some o = some (seqObj "list" acc.toList.toArray 0) := e.symm.trans hoL
    cases e'
    intro c
    exact absurd (Value.type.inj c) (by decide)
  · obtain ⟨e', he'⟩ := PyProof.Rows.sortedHeap_at (vs := acc.toList) (out := out.toArray) hoL
    obtain ⟨bs, rfl, hbs⟩ : ∃ bs : List Addr, out = bs.map Value.ref ∧ bs.Perm (ks.map fun x => x.2.1) := by
      have hperm := h2.perm
      rw [ea] at hperm
      have e9 : (ks.map fun x => Value.ref x.2.1) = (ks.map fun x => x.2.1).map Value.ref := by rw [List.map_map]; rfl
      rw [e9] at hperm
      refine ⟨out.map unRef, ?_, ?_⟩
      · rw [List.map_map]
        have e11 : out.map (Value.ref ∘ unRef) = out.map id := List.map_congr_left fun v hv => by
          obtain ⟨b, _, rfl⟩ := List.mem_map.mp (hperm.mem_iff.mp hv)
          rfl
        rw [e11, List.map_id]
      · have z := hperm.map unRef
        rw [List.map_map] at z
        have e10 : ∀ l : List Addr, l.map (unRef ∘ Value.ref) = l := fun l => by
          induction l with
          | nil => rfl
          | cons a l ih => rw [List.map_cons, ih]; rfl
        rw [e10] at z
        exact z
    have hlen : (bs.map V.ref).length ≤ sizeLine := by
      rw [List.length_map, hbs.length_eq, List.length_map]
      omega
    have hkeys : (bs.map fun b => pairAt H (.ref b)).Perm ps := by
      have z := hbs.map fun b => pairAt H (.ref b)
      rw [kp1] at z
      exact z
    have hsort : (bs.map fun b => pairAt H (.ref b)).Pairwise (fun a b => SrtO.lexB b a = false) := by
      rw [List.pairwise_map]
      exact List.pairwise_map.mp h1
    refine wpAny_pure ⟨_, rfl, .ref h'.objs.size, upd H h'.objs.size (.lst (bs.map V.ref)), I1.laid (t' := tk) (fun b u e => ?_) (Nat.le_refl _)
      (show ObjOk X.prog X.w _ _ _ (.lst (bs.map V.ref)) from ⟨hlen, bs.map Value.ref, e', vals_refs bs, he'⟩), rfl, q _ bs (I1.hok.fresh (Nat.le_refl _)) hkeys hsort fun b hb => kp2 b (hbs.mem_iff.mp hb)⟩
    have hb : b < h'.objs.size := Heap.lt_size e
    rw [PyProof.Rows.sortedHeap_old (Nat.ne_of_lt hb) (by rw [size_push']; exact Nat.lt_succ_of_lt hb)]
    exact Heap.get?_push_of_some _ e
end
/-! ### len(o) of an object with a __len__ of its own -/
section
variable {X : Cx}
def Cx.in1 (X : Cx) : Cx := { X with A := X.A.in1 }
theorem Ok.in1 (o : X.Ok) : (Cx.in1 X).Ok := ⟨o.mod, o.kind, o.glob, o.blt, o.above, o.inj, o.has, o.cab, o.hd, o.frames, o.stk, o.exf, o.bs, o.bsz, o.noex, o.exfs, o.funs, o.frf⟩
theorem Ok.out1 (o : (Cx.in1 X).Ok) : X.Ok := ⟨o.mod, o.kind, o.glob, o.blt, o.above, o.inj, o.has, o.cab, o.hd, o.frames, o.stk, o.exf, o.bs, o.bsz, o.noex, o.exfs, o.funs, o.frf⟩
theorem inv_in1 {pins : List (Addr × Obj)} {σ : L2.St} {H : Hp} {s : Shared} (I : Inv X pins σ H s) : Inv (Cx.in1 X) pins σ H s := ⟨Ok.in1 I.ok, I.os, I.bare, I.base, I.loc, I.cell, I.free, I.freeC, I.pin, I.hok, I.len⟩
theorem inv_out1 {pins : List (Addr × Obj)} {σ : L2.St} {H : Hp} {s : Shared} (I : Inv (Cx.in1 X) pins σ H s) : Inv X pins σ H s := ⟨Ok.out1 I.ok, I.os, I.bare, I.base, I.loc, I.cell, I.free, I.freeC, I.pin, I.hok, I.len⟩
def rLenM (C : Addr) (sp : Sp) (E : XK) : List V → Hp → VK → Prop := fun xs H Q => ∃ (a dx : Addr) (fs : List (Str × V)), xs = [.ref a] ∧ H a = some (.ins C dx fs) ∧ sp [.ref a] H (fun v H' => ∃ n : Nat, v = .int (n : Nat) ∧ n < 2 ^ 62 ∧ Q (.int (n : Nat)) H') E
theorem call_lenM {CX : CXT} {C f : Addr} {fd : FuncData} {k : Nat} {sp : Sp} {E : XK} (hm : Meth X.K C "__len__" f) (F : FnOk X.prog X.w X.K X.mg X.base CX k f fd ["self"] sp) (hr : Room (k + 1) X.A) (hb : L2.Binds X.K fd ["self"] []) (hx : Passes CX X E) : CallR X (.builtin "len") (rLenM C sp E) := by
  intro pins s σ H xs us Q I r h
  obtain ⟨a, dx, fs, rfl, ea, q⟩ := h
  rw [Vals.ref1 r]
  obtain ⟨mA, om, _⟩ := ins_get I.hok ea
  obtain ⟨od, io, _⟩ := om.look
  obtain ⟨m, fr⟩ := I.fr
  have hx' : Passes CX (Cx.in1 X) E := fun pins σ H s e s' I' h => hx pins σ H s e s' (inv_out1 I') h
  have z := run_fn (X := Cx.in1 X) (dvs := []) (ds := []) F hr.in1 hb .nil hx' (inv_in1 I) (.cons (show RelV (.ref a) (.ref a) from rfl) .nil) q
  refine PySem.W.len_K fr I.ok.mod.kin io hm.at_ hm.fn (thn z fun u s' h => ?_)
  obtain ⟨v, H', I', rv, n, rfl, hn, qn⟩ := h
  obtain ⟨t, rfl⟩ := rv
  exact ⟨by omega, .int _, H', (inv_out1 I').tok _, ⟨_, rfl⟩, qn⟩
end
section
variable {X : Cx} {K : PySem.W.Frag}
theorem pe_fldK {o : Expr} {ta : TE} {f : Str} {pos : Pos} (e : X.K = K) (ho : PE X o ta) (hb : attributeBase o f X.env (eval o X.env) = eval o X.env) : PE X (.Attribute o f pos) (tFld K ta f) := by subst e; exact pe_fld ho hb
theorem pi_listK {l tg : Expr} {tl : TE} (e : X.K = K) (hl : PE X l tl) : PI X tg l (iList K tl) := by subst e; exact pi_list hl
end
section
variable {X : Cx} {K : PySem.W.Frag}
theorem op_catTK (e : X.K = K) : OpR X (binaryOp .Add) (rCatT K) := by subst e; exact op_catT
end
/-! ### sorted of a dict whose keys are whole numbers, any number of them -/
section
variable {X : Cx}
theorem keys_ints {es : List Value} : ∀ {ks : List Int}, es.length = ks.length → (∀ (j : Nat) (v : Value), es[j]? = some v → ∃ y t, ks[j]? = some y ∧ v = .int y t) → PyProof.Rows.IntsAre es ks := fun {ks} hl h => by
  induction es generalizing ks with
  | nil =>
    cases ks with
    | nil => exact .nil
    | cons k ks => cases hl
  | cons e es ih =>
    cases ks with
    | nil => cases hl
    | cons k ks =>
      obtain ⟨y, t, h1, h2⟩ := h 0 e rfl
      cases Option.some.inj h1
      subst h2
      exact .cons _ _ (ih (Nat.succ.inj hl) fun j v hv => h (j + 1) v hv)
theorem call_sortedDIb (hc : X.calm = true) : CallR X (.builtin "sorted") (fun xs H Q => ∃ (d : Addr) (kvs : List (Key × V)) (ks : List Int), xs = [V.ref d] ∧ Rd H d (.dK kvs) ∧ kvs.map (·.1) = ks.map Sum.inl ∧ ks.length ≤ 100000 ∧
    ∀ (ys : List Int) (p : Addr), ys.Perm ks → ys.Pairwise (· ≤ ·) → H p = none → Q (.ref p) (upd H p (.lst (ys.map V.int)))) := by
  intro pins s σ H xs us Q I r h
  obtain ⟨d, kvs, ks, rfl, hd, hks, hlen, q⟩ := h
  obtain ⟨u, rfl, rx⟩ := r.one
  cases rx
  obtain ⟨z, lo, vs, rel, dd⟩ := dk_rd I.hok hd
  obtain ⟨ep, hat⟩ := dd.dictAt
  have hkeys : vs.map (·.1) = ks.map Sum.inl := rel.keys.symm.trans hks
  have l1 : vs.length = ks.length := by
    have y := congrArg List.length hkeys
    simpa using y
  have room : ks.length ≤ sizeLine := sizeLine_le (by omega)
  refine Calls.call_function_entry PyProof.Rows.kind_sorted PyProof.Rows.plain_sorted PyProof.Rows.entry_sorted (PyProof.Rows.args_sorted1 _) ?_
  unfold Builtin.«sorted»
  refine wpAny_bind (m := checkCount "sorted" 1 1 _) (wpAny_pure ?_)
  refine wpAny_bind (PySem.W.kdu_collect (A := X.A.in1) (PySem.W.kdl_dict (knd := mixKind X.prog X.w) (kvs := vs) (ep := ep) lo) (I.ok.hd hc) hat (by omega) fun h' tk acc hk it => ?_)
  have hal : acc.toList.length = ks.length := by rw [Array.length_toList, it.1, l1]
  have hI : PyProof.Rows.IntsAre acc.toList ks := keys_ints hal fun j v hv => by
    obtain ⟨k, x, e1, e2⟩ := it.2 j v (by rw [← Array.getElem?_toList]; exact hv)
    have e3 := congrArg (fun l : List Key => l[j]?) hkeys
    simp only [List.getElem?_map, e1] at e3
    cases e4 : ks[j]? with
    | none =>
      rw [e4] at e3
      cases e3
    | some y =>
      rw [e4] at e3
      have e5 : k = Sum.inl y := Option.some.inj e3
      subst e5
      rcases keyIs_shape (show keyIs (Sum.inl y) v = true from e2) with ⟨i, t, ek, ev⟩ | ⟨c, t, ek, _⟩
      · cases ek
        exact ⟨y, t, rfl, ev⟩
      · cases ek
  have I1 : Inv X pins σ H { s with heap := h', toks := tk } := I.kept hk
  have hroom : acc.toList.length ≤ sizeLine := by omega
  refine wpAny_bind (wpAny_newList ?_ hroom)
  have hoL : (h'.push (seqObj "list" acc.toList.toArray 0)).get? h'.objs.size = some (seqObj "list" acc.toList.toArray 0) := Heap.get?_push_size _ rfl
  show wpAny _ _ _ _ _ { s with heap := h'.push (seqObj "list" acc.toList.toArray 0), toks := tk }
  refine wpAny_bind (wpAny_holding (wpAny_call_entry PyProof.Rows.slot_list_sort ⟨_, hoL, rfl⟩ PyProof.Rows.entry_list_sort
    (SrtO.list_sort_ord (s := { s with heap := h'.push (seqObj "list" acc.toList.toArray 0), toks := tk }) SrtO.swo_int hoL hroom (fun h2 => SrtO.ints_sortable hI h2) fun out h1 h2 => ⟨_, rfl, ?_⟩) (PyProof.Rows.args_list_sort _)))
  obtain ⟨k1, k2, k3⟩ := SrtO.ints_out hI h1 h2
  obtain ⟨e', he'⟩ := PyProof.Rows.sortedHeap_at (vs := acc.toList) (out := out.toArray) hoL
  have hfin : ((out.map SrtO.iv).map V.int).length ≤ sizeLine := by
    rw [List.length_map, k2.length_eq]
    exact room
  refine wpAny_pure ⟨_, rfl, .ref h'.objs.size, upd H h'.objs.size (.lst ((out.map SrtO.iv).map V.int)), I1.laid (t' := tk) (fun b u e => ?_) (Nat.le_refl _)
    (show ObjOk X.prog X.w _ _ _ (.lst ((out.map SrtO.iv).map V.int)) from ⟨hfin, out, e', vals_of_ints k1, he'⟩), rfl, q _ _ k2 k3 (I1.hok.fresh (Nat.le_refl _))⟩
  have hb : b < h'.objs.size := Heap.lt_size e
  rw [PyProof.Rows.sortedHeap_old (Nat.ne_of_lt hb) (by rw [size_push']; exact Nat.lt_succ_of_lt hb)]
  exact Heap.get?_push_of_some _ e
end
/-! ### digits: the mathematics -/
/-- k is the level of d at n -/
def IsLev (b n d k : Nat) : Prop := n / b ^ (k + 1) = d / b ^ (k + 1) ∧ ∀ j, j < k → n / b ^ (j + 1) ≠ d / b ^ (j + 1)
abbrev Row3 := Nat × Nat × Nat
/-- the stations below level k -/
def tailOf (b d : Nat) : Nat → List Row3
  | 0 => []
  | k + 1 => if d / b ^ k % b ≠ 0 then (k, d / b ^ k % b, d / b ^ (k + 1) * b ^ (k + 1)) :: tailOf b d k else tailOf b d k
/-- the stations of a timer set at n, k its level -/
def rowsOf (b n d k : Nat) : List Row3 := (k, d / b ^ k % b, n) :: tailOf b d k
theorem div_succ (n b k : Nat) : n / b ^ (k + 1) = n / b ^ k / b := by
  rw [Nat.pow_succ, Nat.div_div_eq_div_mul]
theorem pow_pos' {b : Nat} (h : 2 ≤ b) (k : Nat) : 0 < b ^ k := Nat.pow_pos (by omega)
theorem IsLev.uniq {b n d k k' : Nat} (h : IsLev b n d k) (h' : IsLev b n d k') : k = k' := by
  rcases Nat.lt_trichotomy k k' with l | l | l
  · exact absurd h.1 (h'.2 k l)
  · exact l
  · exact absurd h'.1 (h.2 k' l)
theorem IsLev.ne {b n d k : Nat} (h : IsLev b n d k) (hnd : n < d) : n / b ^ k < d / b ^ k := by
  cases k with
  | zero =>
    rw [Nat.pow_zero, Nat.div_one, Nat.div_one]
    exact hnd
  | succ j =>
    have h1 := h.2 j (Nat.lt_succ_self j)
    have h2 : n / b ^ (j + 1) ≤ d / b ^ (j + 1) := Nat.div_le_div_right (Nat.le_of_lt hnd)
    omega
theorem IsLev.size {b n d k : Nat} (h : IsLev b n d k) (hb : 2 ≤ b) (hnd : n < d) : b ^ k ≤ d := by
  have h1 := h.ne hnd
  have h2 : 0 < d / b ^ k := Nat.lt_of_le_of_lt (Nat.zero_le _) h1
  exact (Nat.div_pos_iff.mp h2).2
theorem IsLev.digit {b n d k : Nat} (h : IsLev b n d k) (hnd : n < d) : n / b ^ k % b < d / b ^ k % b := by
  have h1 := h.ne hnd
  have h2 := h.1
  rw [div_succ, div_succ] at h2
  have e1 := Nat.div_add_mod (n / b ^ k) b
  have e2 := Nat.div_add_mod (d / b ^ k) b
  rw [h2] at e1
  omega
theorem pow_two_le {b : Nat} (hb : 2 ≤ b) (k : Nat) : 2 ^ k ≤ b ^ k := Nat.pow_le_pow_left hb k
theorem lev_small {b n d k t : Nat} (h : IsLev b n d k) (hb : 2 ≤ b) (hnd : n < d) (hd : d < 2 ^ t) : k < t := by
  have h1 := h.size hb hnd
  have h2 := pow_two_le hb k
  exact (Nat.pow_lt_pow_iff_right (by decide : 1 < 2)).mp (Nat.lt_of_le_of_lt (Nat.le_trans h2 h1) hd)
/-- cutting below: what two cuts beside one another differ by -/
theorem cut_step (b d k : Nat) : d / b ^ k * b ^ k = d / b ^ (k + 1) * b ^ (k + 1) + d / b ^ k % b * b ^ k := by
  rw [div_succ]
  have e := Nat.div_add_mod (d / b ^ k) b
  have e2 : b ^ (k + 1) = b * b ^ k := by rw [Nat.pow_succ, Nat.mul_comm]
  rw [e2, ← Nat.mul_assoc, ← Nat.add_mul, Nat.mul_comm (d / b ^ k / b) b, e]
theorem cut_le (b d k : Nat) : d / b ^ k * b ^ k ≤ d := Nat.div_mul_le_self d (b ^ k)
theorem cut_mono (b d : Nat) {j k : Nat} (h : j ≤ k) : d / b ^ k * b ^ k ≤ d / b ^ j * b ^ j := by
  induction k with
  | zero =>
    have e : j = 0 := by omega
    rw [e]
    exact Nat.le_refl _
  | succ k ih =>
    by_cases e : j = k + 1
    · rw [e]
      exact Nat.le_refl _
    · have h1 := ih (by omega)
      have h2 := cut_step b d k
      omega
theorem lt_cut {b n d k : Nat} (hb : 2 ≤ b) (h : n / b ^ k < d / b ^ k) : n < d / b ^ k * b ^ k := by
  have hp := pow_pos' hb k
  exact (Nat.div_lt_iff_lt_mul hp).mp h
theorem tail_len (b d : Nat) : ∀ k, (tailOf b d k).length ≤ k
  | 0 => Nat.le_refl _
  | k + 1 => by
    have ih := tail_len b d k
    unfold tailOf
    split
    · rw [List.length_cons]
      omega
    · omega
/-- a later tick that lies ahead of the next cut has the same level -/
theorem IsLev.later {b n d k t : Nat} (hb : 2 ≤ b) (h : IsLev b n d k) (hnd : n < d) (h1 : n ≤ t) (h2 : t < d / b ^ k * b ^ k) : IsLev b t d k := by
  have hp := pow_pos' hb k
  have hp1 := pow_pos' hb (k + 1)
  have htd : t < d := Nat.lt_of_lt_of_le h2 (cut_le b d k)
  refine ⟨?_, fun j hj => ?_⟩
  · have a1 : n / b ^ (k + 1) ≤ t / b ^ (k + 1) := Nat.div_le_div_right h1
    have a2 : t / b ^ (k + 1) ≤ d / b ^ (k + 1) := Nat.div_le_div_right (Nat.le_of_lt htd)
    have a3 := h.1
    omega
  · have a1 : t / b ^ k < d / b ^ k := (Nat.div_lt_iff_lt_mul hp).mpr h2
    intro e
    have e2 : k = (j + 1) + (k - (j + 1)) := by omega
    rw [e2, Nat.pow_add, ← Nat.div_div_eq_div_mul, ← Nat.div_div_eq_div_mul, e] at a1
    omega
/-! ### words of levels, sides -/
def lvV (b : Bool) : V := if b then .str "stack" else .str "queue"
def sdV (b : Bool) : V := if b then .str "front" else .str "back"
theorem lv_ne : ¬ (V.str "queue" = V.str "stack") := by decide
theorem lv_dec (b : Bool) : decide (lvV b = .str "stack") = b := by
  cases b
  · exact decide_eq_false lv_ne
  · exact decide_eq_true rfl
def wordAt (ws : List Bool) (k : Nat) : Bool := ws.getD (min k (ws.length - 1)) false
theorem word_get {ws : List Bool} (h : ws ≠ []) (k : Nat) : (ws.map lvV)[min k (ws.length - 1)]? = some (lvV (wordAt ws k)) := by
  have hl : min k (ws.length - 1) < ws.length := by
    have : 0 < ws.length := List.length_pos_iff.mpr h
    omega
  rw [List.getElem?_map, List.getElem?_eq_getElem hl]
  unfold wordAt
  rw [List.getD_eq_getElem?_getD, List.getElem?_eq_getElem hl]
  rfl
/-- whether an odd number of the rows, at levels from lo on, have the word stack -/
def frontOf (ws : List Bool) (lo : Nat) (rs : List Row3) : Bool := decide (rs.countP (fun r => decide (lo ≤ r.1) && wordAt ws r.1) % 2 = 1)
theorem odd_succ (c : Nat) : decide ((c + 1) % 2 = 1) = !decide (c % 2 = 1) := by
  by_cases h : c % 2 = 1
  · rw [decide_eq_true h, decide_eq_false (by omega)]
    rfl
  · rw [decide_eq_false h, decide_eq_true (by omega)]
    rfl
theorem front_snoc (ws : List Bool) (lo : Nat) (rs : List Row3) (r : Row3) : frontOf ws lo (rs ++ [r]) = if (decide (lo ≤ r.1) && wordAt ws r.1) = true then !frontOf ws lo rs else frontOf ws lo rs := by
  unfold frontOf
  rw [List.countP_append, List.countP_singleton]
  split
  · exact odd_succ _
  · rw [Nat.add_zero]
/-! ### the wheel as plain data -/
structure Tm where
  num : Nat
  due : Nat
  per : Option Nat
  since : Nat
def perV : Option Nat → V
  | none => .non
  | some k => .int (k : Nat)
def tmV (m : Tm) : List V := [.int (m.due : Nat), perV m.per, .int (m.since : Nat)]
open Classical in
noncomputable def sideT (b : Nat) (ws : List Bool) (n d lo : Nat) : Bool := if h : ∃ k, IsLev b n d k then frontOf ws lo (rowsOf b n d (Classical.choose h)) else false
theorem sideT_eq {b : Nat} {ws : List Bool} {n d lo k : Nat} (h : IsLev b n d k) : sideT b ws n d lo = frontOf ws lo (rowsOf b n d k) := by
  have e : ∃ k, IsLev b n d k := ⟨k, h⟩
  unfold sideT
  rw [dif_pos e, (Classical.choose_spec e).uniq h]
def insT (front : Bool) (n : Nat) (l : List Nat) : List Nat := if front then n :: l else l ++ [n]
noncomputable def orderAt (b : Nat) (ws : List Bool) (t : Nat) (ms : List Tm) : List Nat := ms.foldl (fun acc m => if m.due = t then insT (sideT b ws m.since m.due 0) m.num acc else acc) []
theorem order_snoc (b : Nat) (ws : List Bool) (t : Nat) (ms : List Tm) (m : Tm) : orderAt b ws t (ms ++ [m]) = if m.due = t then insT (sideT b ws m.since m.due 0) m.num (orderAt b ws t ms) else orderAt b ws t ms := by
  unfold orderAt
  rw [List.foldl_append]
  rfl
theorem insT_len (f : Bool) (n : Nat) (l : List Nat) : (insT f n l).length = l.length + 1 := by
  unfold insT
  split
  · rfl
  · rw [List.length_append]
    rfl
theorem insT_mem {f : Bool} {n x : Nat} {l : List Nat} : x ∈ insT f n l ↔ x = n ∨ x ∈ l := by
  unfold insT
  split
  · rw [List.mem_cons]
  · rw [List.mem_append, List.mem_singleton]
    exact Or.comm
theorem order_spec (b : Nat) (ws : List Bool) (t : Nat) (ms : List Tm) : ∀ n : Nat, (orderAt b ws t (ms.take n)).length = ((ms.take n).filter fun m => decide (m.due = t)).length ∧ ∀ x, x ∈ orderAt b ws t (ms.take n) ↔ ∃ m ∈ ms.take n, m.due = t ∧ m.num = x := by
  intro n
  induction n with
  | zero =>
    refine ⟨rfl, fun x => ?_⟩
    simp [orderAt]
  | succ n ih =>
    cases e : ms[n]? with
    | none =>
      have hl : ms.length ≤ n := List.getElem?_eq_none_iff.mp e
      rw [List.take_of_length_le (by omega)]
      rw [List.take_of_length_le hl] at ih
      exact ih
    | some m =>
      rw [List.take_add_one, e]
      show (orderAt b ws t (ms.take n ++ [m])).length = _ ∧ ∀ x, x ∈ orderAt b ws t (ms.take n ++ [m]) ↔ ∃ m' ∈ ms.take n ++ [m], _
      rw [order_snoc]
      rw [Option.toList_some, List.filter_append, List.length_append]
      by_cases h : m.due = t
      · rw [if_pos h, insT_len, ih.1]
        refine ⟨by simp [h], fun x => ?_⟩
        rw [insT_mem, ih.2 x]
        constructor
        · rintro (e | ⟨m', h1, h2⟩)
          · exact ⟨m, by simp, h, e.symm⟩
          · exact ⟨m', List.mem_append_left _ h1, h2⟩
        · rintro ⟨m', h1, h2, h3⟩
          rcases List.mem_append.mp h1 with h1 | h1
          · exact .inr ⟨m', h1, h2, h3⟩
          · rw [List.mem_singleton.mp h1] at h3
            exact .inl h3.symm
      · rw [if_neg h, ih.1]
        refine ⟨by simp [h], fun x => ?_⟩
        rw [ih.2 x]
        constructor
        · rintro ⟨m', h1, h2⟩
          exact ⟨m', List.mem_append_left _ h1, h2⟩
        · rintro ⟨m', h1, h2, h3⟩
          rcases List.mem_append.mp h1 with h1 | h1
          · exact ⟨m', h1, h2, h3⟩
          · rw [List.mem_singleton.mp h1] at h2
            exact absurd h2 h
theorem order_len (b : Nat) (ws : List Bool) (t : Nat) (ms : List Tm) : (orderAt b ws t ms).length = (ms.filter fun m => decide (m.due = t)).length := by
  have z := (order_spec b ws t ms ms.length).1
  rw [List.take_length] at z
  exact z
theorem order_mem {b : Nat} {ws : List Bool} {t : Nat} {ms : List Tm} {x : Nat} : x ∈ orderAt b ws t ms ↔ ∃ m ∈ ms, m.due = t ∧ m.num = x := by
  have z := (order_spec b ws t ms ms.length).2 x
  rw [List.take_length] at z
  exact z
def dropT (n : Nat) (ms : List Tm) : List Tm := ms.filter fun m => decide (m.num ≠ n)
/-- a timer fires: it goes, and comes back at the end if it has a period -/
def fireT (t : Nat) (ms : List Tm) (n : Nat) : List Tm := match ms.find? fun m => decide (m.num = n) with
  | none => ms
  | some m => match m.per with
    | none => dropT n ms
    | some k => dropT n ms ++ [⟨n, t + k, some k, t⟩]
def afterF (t : Nat) (ms : List Tm) (ns : List Nat) : List Tm := ns.foldl (fireT t) ms
def leastD (ms : List Tm) : Option Nat := (ms.map (·.due)).min?
theorem least_none {ms : List Tm} : leastD ms = none ↔ ms = [] := by
  unfold leastD
  rw [List.min?_eq_none_iff, List.map_eq_nil_iff]
theorem least_some {ms : List Tm} {v : Nat} : leastD ms = some v ↔ v ∈ ms.map (·.due) ∧ ∀ x ∈ ms.map (·.due), v ≤ x := by
  unfold leastD
  exact List.min?_eq_some_iff
structure WS where
  b : Nat
  ws : List Bool
  tick : Nat
  fol : Nat
  live : List Tm
/-- live timers as they may stand at a tick -/
structure TOk (tick fol : Nat) (m : Tm) : Prop where
  since : m.since ≤ tick
  due : tick < m.due
  big : m.due < 2 ^ 250
  num : m.num < fol
  per : ∀ k, m.per = some k → 1 ≤ k
structure WOk (W : WS) : Prop where
  b2 : 2 ≤ W.b
  b64 : W.b ≤ 64
  ne : W.ws ≠ []
  l60 : W.ws.length ≤ 60
  tms : ∀ m ∈ W.live, TOk W.tick W.fol m
  nd : (W.live.map (·.num)).Nodup
  few : W.live.length ≤ 1000
/-- what an advance to t lets fire, step by step -/
inductive AdvTo (b : Nat) (ws : List Bool) (t : Nat) : List Tm → List (Nat × List Nat) → List Tm → Prop where
  | done {ms : List Tm} (h : ∀ m ∈ ms, t < m.due) : AdvTo b ws t ms [] ms
  | step {ms ms' : List Tm} {at_ : Nat} {rest : List (Nat × List Nat)} (h : leastD ms = some at_) (hle : at_ ≤ t) (ok : ∀ m ∈ ms, m.since < m.due ∧ m.due < 2 ^ 250) (nd : (ms.map (·.num)).Nodup) (few : ms.length ≤ 1000)
    (r : AdvTo b ws t (afterF at_ ms (orderAt b ws at_ ms)) rest ms') : AdvTo b ws t ms ((at_, orderAt b ws at_ ms) :: rest) ms'
open Classical in
/-- the tick at which a timer leaves the list in which it stands at n -/
noncomputable def evT (b n d : Nat) : Nat := if h : ∃ k, IsLev b n d k then d / b ^ Classical.choose h * b ^ Classical.choose h else 0
theorem evT_eq {b n d k : Nat} (h : IsLev b n d k) : evT b n d = d / b ^ k * b ^ k := by
  have e : ∃ k, IsLev b n d k := ⟨k, h⟩
  unfold evT
  rw [dif_pos e, (Classical.choose_spec e).uniq h]
noncomputable def nextE (b n : Nat) (ms : List Tm) : Option Nat := (ms.map fun m => evT b n m.due).min?
def total (fs : List (Nat × List Nat)) : Nat := (fs.map fun f => f.2.length).sum
theorem order_pos {b : Nat} {ws : List Bool} {t : Nat} {ms : List Tm} (h : leastD ms = some t) : 0 < (orderAt b ws t ms).length := by
  obtain ⟨m, hm, e⟩ := List.mem_map.mp (least_some.mp h).1
  have z : m.num ∈ orderAt b ws t ms := order_mem.mpr ⟨m, hm, e, rfl⟩
  exact List.length_pos_of_mem z
theorem insT_nodup {f : Bool} {n : Nat} {l : List Nat} (h : l.Nodup) (hn : n ∉ l) : (insT f n l).Nodup := by
  unfold insT
  split
  · exact List.nodup_cons.mpr ⟨hn, h⟩
  · exact L2.nd_snoc h hn
theorem order_nodup {b : Nat} {ws : List Bool} {t : Nat} {ms : List Tm} (nd : (ms.map (·.num)).Nodup) : (orderAt b ws t ms).Nodup := by
  suffices H : ∀ n : Nat, (orderAt b ws t (ms.take n)).Nodup by
    have z := H ms.length
    rw [List.take_length] at z
    exact z
  intro n
  induction n with
  | zero => exact List.nodup_nil
  | succ n ih =>
    cases e : ms[n]? with
    | none =>
      have hl : ms.length ≤ n := List.getElem?_eq_none_iff.mp e
      rw [List.take_of_length_le (by omega)]
      rw [List.take_of_length_le hl] at ih
      exact ih
    | some m =>
      rw [List.take_add_one, e]
      show (orderAt b ws t (ms.take n ++ [m])).Nodup
      rw [order_snoc]
      split
      · refine insT_nodup ih fun hm => ?_
        obtain ⟨m', h1, _, h3⟩ := order_mem.mp hm
        obtain ⟨i, hi⟩ := List.getElem?_of_mem h1
        rw [List.getElem?_take] at hi
        split at hi
        · rename_i hlt
          have a1 : (ms.map (·.num))[i]? = some m.num := by rw [List.getElem?_map, hi, ← h3]; rfl
          have a2 : (ms.map (·.num))[n]? = some m.num := by rw [List.getElem?_map, e]; rfl
          have z := (List.getElem?_inj (List.getElem?_eq_some_iff.mp a1).1 nd).mp (a1.trans a2.symm)
          omega
        · cases hi
      · exact ih
/-! ### the lists of a wheel -/
abbrev Cell := (Nat × Nat) × List Nat
def keyC (p : Nat × Nat) : List Key := [Sum.inl (p.1 : Int), Sum.inl (p.2 : Int)]
theorem keyC_inj {p q : Nat × Nat} : keyC p = keyC q ↔ p = q := by
  constructor
  · intro h
    unfold keyC at h
    obtain ⟨h1, h2⟩ := List.cons.inj h
    have a := Int.ofNat.inj (Sum.inl.inj h1)
    have b := Int.ofNat.inj (Sum.inl.inj (List.cons.inj h2).1)
    exact Prod.ext a b
  · intro h
    rw [h]
def cellV : List Cell → Nat × Nat → List Nat
  | [], _ => []
  | c :: cs, p => if c.1 = p then c.2 else cellV cs p
def cellPut (rs : List Cell) (p : Nat × Nat) (ns : List Nat) : List Cell := if (rs.any fun c => decide (c.1 = p)) = true then rs.map (fun c => if c.1 = p then (c.1, ns) else c) else rs ++ [(p, ns)]
theorem cellV_map {p q : Nat × Nat} {ns : List Nat} : ∀ rs : List Cell, cellV (rs.map fun c => if c.1 = p then (c.1, ns) else c) q = if p = q ∧ (rs.any fun c => decide (c.1 = p)) = true then ns else cellV rs q
  | [] => by simp [cellV]
  | c :: cs => by
    have ih := cellV_map (p := p) (q := q) (ns := ns) cs
    rw [List.map_cons]
    by_cases h : c.1 = p
    · rw [if_pos h]
      by_cases h2 : p = q
      · have e : c.1 = q := h.trans h2
        rw [if_pos ⟨h2, by rw [List.any_cons, decide_eq_true h]; rfl⟩]
        show (if c.1 = q then ns else _) = ns
        rw [if_pos e]
      · have e : ¬ c.1 = q := fun z => h2 (h.symm.trans z)
        rw [if_neg (fun z => h2 z.1)]
        rw [if_neg (fun z => h2 z.1)] at ih
        show (if c.1 = q then ns else _) = if c.1 = q then c.2 else cellV cs q
        rw [if_neg e, if_neg e]
        exact ih
    · rw [if_neg h, List.any_cons, decide_eq_false h, Bool.false_or]
      show (if c.1 = q then c.2 else _) = _
      by_cases h2 : c.1 = q
      · have e : ¬ p = q := fun z => h (h2.trans z.symm)
        rw [if_pos h2, if_neg (fun z => e z.1)]
        show c.2 = if c.1 = q then c.2 else cellV cs q
        rw [if_pos h2]
      · rw [if_neg h2, ih]
        show _ = if _ then ns else (if c.1 = q then c.2 else cellV cs q)
        rw [if_neg h2]
theorem cellV_snoc {p q : Nat × Nat} {ns : List Nat} : ∀ rs : List Cell, (rs.any fun c => decide (c.1 = p)) = false → cellV (rs ++ [(p, ns)]) q = if p = q then ns else cellV rs q
  | [], _ => rfl
  | c :: cs, h => by
    rw [List.any_cons, Bool.or_eq_false_iff] at h
    have ih := cellV_snoc (q := q) (ns := ns) cs h.2
    have hc : ¬ c.1 = p := of_decide_eq_false h.1
    show (if c.1 = q then c.2 else cellV (cs ++ [(p, ns)]) q) = if p = q then ns else (if c.1 = q then c.2 else cellV cs q)
    rw [ih]
    by_cases h2 : p = q
    · rw [if_pos h2, if_pos h2, if_neg fun z => hc (z.trans h2.symm)]
    · rw [if_neg h2, if_neg h2]
theorem cellV_put {rs : List Cell} {p q : Nat × Nat} {ns : List Nat} : cellV (cellPut rs p ns) q = if p = q then ns else cellV rs q := by
  unfold cellPut
  by_cases h : (rs.any fun c => decide (c.1 = p)) = true
  · rw [if_pos h, cellV_map]
    by_cases h2 : p = q
    · rw [if_pos ⟨h2, h⟩, if_pos h2]
    · rw [if_neg (fun z => h2 z.1), if_neg h2]
  · rw [if_neg h]
    exact cellV_snoc rs (Bool.eq_false_iff.mpr h)
theorem cellPut_len (rs : List Cell) (p : Nat × Nat) (ns : List Nat) : (cellPut rs p ns).length ≤ rs.length + 1 := by
  unfold cellPut
  split
  · rw [List.length_map]
    omega
  · rw [List.length_append]
    exact Nat.le_refl _
theorem cellPut_keys {rs : List Cell} {p : Nat × Nat} {ns : List Nat} (nd : (rs.map (·.1)).Nodup) : ((cellPut rs p ns).map (·.1)).Nodup := by
  unfold cellPut
  by_cases h : (rs.any fun c => decide (c.1 = p)) = true
  · rw [if_pos h, List.map_map]
    have e : rs.map ((fun c : Cell => c.1) ∘ fun c => if c.1 = p then (c.1, ns) else c) = rs.map (·.1) := List.map_congr_left fun c _ => by
      show (if c.1 = p then (c.1, ns) else c).1 = c.1
      split <;> rfl
    rw [e]
    exact nd
  · rw [if_neg h, List.map_append]
    refine L2.nd_snoc nd fun hm => h ?_
    obtain ⟨c, hc, e⟩ := List.mem_map.mp hm
    exact List.any_eq_true.mpr ⟨c, hc, decide_eq_true e⟩
open Classical in
noncomputable def levT (b n d : Nat) : Nat := if h : ∃ k, IsLev b n d k then Classical.choose h else 0
theorem levT_eq {b n d k : Nat} (h : IsLev b n d k) : levT b n d = k := by
  have e : ∃ k, IsLev b n d k := ⟨k, h⟩
  unfold levT
  rw [dif_pos e]
  exact (Classical.choose_spec e).uniq h
noncomputable def placeT (b t d : Nat) : Nat × Nat := (levT b t d, d / b ^ levT b t d % b)
noncomputable def standStep (b : Nat) (ws : List Bool) (t : Nat) (rs : List Cell) (m : Tm) : List Cell :=
  if t < m.due then cellPut rs (placeT b t m.due) (insT (sideT b ws m.since m.due (levT b t m.due)) m.num (cellV rs (placeT b t m.due))) else rs
noncomputable def standD (b : Nat) (ws : List Bool) (t : Nat) (ms : List Tm) : List Cell := ms.foldl (standStep b ws t) []
theorem stand_snoc (b : Nat) (ws : List Bool) (t : Nat) (ms : List Tm) (m : Tm) : standD b ws t (ms ++ [m]) = standStep b ws t (standD b ws t ms) m := by
  unfold standD
  rw [List.foldl_append]
  rfl
theorem stand_bounds (b : Nat) (ws : List Bool) (t : Nat) (ms : List Tm) : ∀ n : Nat, n ≤ ms.length → (standD b ws t (ms.take n)).length ≤ n ∧ (∀ p, (cellV (standD b ws t (ms.take n)) p).length ≤ n) ∧ ((standD b ws t (ms.take n)).map (·.1)).Nodup := by
  intro n
  induction n with
  | zero => exact fun _ => ⟨Nat.le_refl _, fun p => Nat.le_refl _, List.nodup_nil⟩
  | succ n ih =>
    intro hn
    obtain ⟨h1, h2, h3⟩ := ih (by omega)
    have e : ms[n]? = some ms[n] := List.getElem?_eq_getElem (by omega)
    rw [List.take_add_one, e]
    show (standD b ws t (ms.take n ++ [ms[n]])).length ≤ _ ∧ (∀ p, (cellV (standD b ws t (ms.take n ++ [ms[n]])) p).length ≤ _) ∧ ((standD b ws t (ms.take n ++ [ms[n]])).map _).Nodup
    rw [stand_snoc]
    unfold standStep
    split
    · refine ⟨Nat.le_trans (cellPut_len _ _ _) (by omega), fun p => ?_, cellPut_keys h3⟩
      rw [cellV_put]
      split
      · rw [insT_len]
        have z := h2 (placeT b t (ms[n]).due)
        omega
      · have z := h2 p
        omega
    · exact ⟨by omega, fun p => by have z := h2 p; omega, h3⟩
/-- the cells of a dict on the heap -/
def CellsAt (H : Hp) : List (List Key × V) → List Cell → Prop
  | [], [] => True
  | kv :: kvs, c :: cs => kv.1 = keyC c.1 ∧ (∃ a, kv.2 = .ref a ∧ H a = some (.lst (c.2.map fun x => V.int (x : Nat)))) ∧ CellsAt H kvs cs
  | _, _ => False
theorem CellsAt.frame {H H' : Hp} (s : ∀ a xs, H a = some (.lst xs) → H' a = some (.lst xs)) : ∀ {kvs : List (List Key × V)} {rs : List Cell}, CellsAt H kvs rs → CellsAt H' kvs rs
  | [], [], _ => trivial
  | _ :: _, _ :: _, ⟨h1, ⟨a, h2, h3⟩, h4⟩ => ⟨h1, ⟨a, h2, s _ _ h3⟩, h4.frame s⟩
  | [], _ :: _, h => h.elim
  | _ :: _, [], h => h.elim
theorem CellsAt.len {H : Hp} : ∀ {kvs : List (List Key × V)} {rs : List Cell}, CellsAt H kvs rs → kvs.length = rs.length
  | [], [], _ => rfl
  | _ :: _, _ :: _, h => congrArg Nat.succ h.2.2.len
  | [], _ :: _, h => h.elim
  | _ :: _, [], h => h.elim
theorem CellsAt.keys {H : Hp} : ∀ {kvs : List (List Key × V)} {rs : List Cell}, CellsAt H kvs rs → kvs.map (·.1) = (rs.map fun c => ((c.1.1 : Int), (c.1.2 : Int))).map fun p => [Sum.inl p.1, Sum.inl p.2]
  | [], [], _ => rfl
  | kv :: kvs, c :: cs, h => by
    rw [List.map_cons, List.map_cons, List.map_cons, h.1, h.2.2.keys]
    rfl
  | [], _ :: _, h => h.elim
  | _ :: _, [], h => h.elim
theorem CellsAt.val {H : Hp} {p : Nat × Nat} : ∀ {kvs : List (List Key × V)} {rs : List Cell}, CellsAt H kvs rs → (valV kvs (keyC p) = none ∧ cellV rs p = []) ∨ ∃ a, valV kvs (keyC p) = some (.ref a) ∧ H a = some (.lst ((cellV rs p).map fun x => V.int (x : Nat)))
  | [], [], _ => .inl ⟨rfl, rfl⟩
  | kv :: kvs, c :: cs, h => by
    obtain ⟨h1, ⟨a, h2, h3⟩, h4⟩ := h
    by_cases e : c.1 = p
    · refine .inr ⟨a, ?_, ?_⟩
      · rw [valV_pos (h1.trans (keyC_inj.mpr e)), h2]
      · show H a = some (.lst ((if c.1 = p then c.2 else cellV cs p).map _))
        rw [if_pos e]
        exact h3
    · have e1 : ¬ kv.1 = keyC p := fun z => e (keyC_inj.mp (h1.symm.trans z))
      rw [valV_neg e1]
      show _ ∧ (if c.1 = p then c.2 else cellV cs p) = [] ∨ ∃ a, _ ∧ H a = some (.lst ((if c.1 = p then c.2 else cellV cs p).map _))
      rw [if_neg e]
      exact h4.val
  | [], _ :: _, h => h.elim
  | _ :: _, [], h => h.elim
theorem CellsAt.val_mem {H : Hp} {p : Nat × Nat} : ∀ {kvs : List (List Key × V)} {rs : List Cell}, CellsAt H kvs rs → p ∈ rs.map (·.1) → ∃ a, valV kvs (keyC p) = some (.ref a) ∧ H a = some (.lst ((cellV rs p).map fun x => V.int (x : Nat)))
  | [], [], _, h => by cases h
  | kv :: kvs, c :: cs, h, hm => by
    obtain ⟨h1, ⟨a, h2, h3⟩, h4⟩ := h
    by_cases e : c.1 = p
    · refine ⟨a, ?_, ?_⟩
      · rw [valV_pos (h1.trans (keyC_inj.mpr e)), h2]
      · show H a = some (.lst ((if c.1 = p then c.2 else cellV cs p).map _))
        rw [if_pos e]
        exact h3
    · have e1 : ¬ kv.1 = keyC p := fun z => e (keyC_inj.mp (h1.symm.trans z))
      rw [valV_neg e1]
      show ∃ a, _ ∧ H a = some (.lst ((if c.1 = p then c.2 else cellV cs p).map _))
      rw [if_neg e]
      refine h4.val_mem ?_
      rw [List.map_cons] at hm
      rcases List.mem_cons.mp hm with z | z
      · exact absurd z.symm e
      · exact z
  | [], _ :: _, h, _ => h.elim
  | _ :: _, [], h, _ => h.elim
theorem CellsAt.any {H : Hp} {p : Nat × Nat} : ∀ {kvs : List (List Key × V)} {rs : List Cell}, CellsAt H kvs rs → (kvs.any fun kv => decide (kv.1 = keyC p)) = rs.any fun c => decide (c.1 = p)
  | [], [], _ => rfl
  | kv :: kvs, c :: cs, h => by
    rw [List.any_cons, List.any_cons, h.2.2.any]
    have e : (decide (kv.1 = keyC p)) = decide (c.1 = p) := decide_eq_decide.mpr (by rw [h.1]; exact keyC_inj)
    rw [e]
  | [], _ :: _, h => h.elim
  | _ :: _, [], h => h.elim
theorem CellsAt.mapd {H : Hp} {p : Nat × Nat} {a : Addr} {ns : List Nat} (ha : H a = some (.lst (ns.map fun x => V.int (x : Nat)))) : ∀ {kvs : List (List Key × V)} {rs : List Cell}, CellsAt H kvs rs → CellsAt H (kvs.map fun kv => if kv.1 = keyC p then (kv.1, .ref a) else kv) (rs.map fun c => if c.1 = p then (c.1, ns) else c)
  | [], [], _ => trivial
  | kv :: kvs, c :: cs, h => by
    obtain ⟨h1, h2, h4⟩ := h
    rw [List.map_cons, List.map_cons]
    by_cases e : c.1 = p
    · rw [if_pos e, if_pos (h1.trans (keyC_inj.mpr e))]
      exact ⟨h1, ⟨a, rfl, ha⟩, h4.mapd ha⟩
    · rw [if_neg e, if_neg fun z => e (keyC_inj.mp (h1.symm.trans z))]
      exact ⟨h1, h2, h4.mapd ha⟩
  | [], _ :: _, h => h.elim
  | _ :: _, [], h => h.elim
theorem CellsAt.snoc {H : Hp} {p : Nat × Nat} {a : Addr} {ns : List Nat} (ha : H a = some (.lst (ns.map fun x => V.int (x : Nat)))) : ∀ {kvs : List (List Key × V)} {rs : List Cell}, CellsAt H kvs rs → CellsAt H (kvs ++ [(keyC p, .ref a)]) (rs ++ [(p, ns)])
  | [], [], _ => ⟨rfl, ⟨a, rfl, ha⟩, trivial⟩
  | _ :: _, _ :: _, h => ⟨h.1, h.2.1, h.2.2.snoc ha⟩
  | [], _ :: _, h => h.elim
  | _ :: _, [], h => h.elim
theorem CellsAt.put {H : Hp} {p : Nat × Nat} {a : Addr} {ns : List Nat} (ha : H a = some (.lst (ns.map fun x => V.int (x : Nat)))) {kvs : List (List Key × V)} {rs : List Cell} (h : CellsAt H kvs rs) : CellsAt H (putK kvs (keyC p) (.ref a)) (cellPut rs p ns) := by
  unfold putK cellPut
  rw [h.any]
  split
  · exact h.mapd ha
  · exact h.snoc ha
/-! ### levels and events of timers -/
theorem least_nat {p : Nat → Prop} : ∀ n : Nat, p n → ∃ k, p k ∧ ∀ j, j < k → ¬ p j
  | 0, h => ⟨0, h, fun j hj => absurd hj (Nat.not_lt_zero j)⟩
  | n + 1, h => by
    by_cases c : ∃ m, m ≤ n ∧ p m
    · obtain ⟨m, hm, hp⟩ := c
      exact Classical.byContradiction fun no => by
        have all : ∀ k, ∀ j, j < k → ¬ p j := fun k => by
          induction k with
          | zero => exact fun j hj => absurd hj (Nat.not_lt_zero j)
          | succ k ih =>
            intro j hj
            by_cases e : j = k
            · intro hp'
              exact no ⟨k, by rw [← e]; exact hp', ih⟩
            · exact ih j (by omega)
        exact all (m + 1) m (Nat.lt_succ_self m) hp
    · exact ⟨n + 1, h, fun j hj hp => c ⟨j, Nat.le_of_lt_succ hj, hp⟩⟩
theorem lev_exists {b n d : Nat} (hb : 2 ≤ b) (h : n < d) : ∃ k, IsLev b n d k := by
  have big : d < b ^ (d + 1) := Nat.lt_of_lt_of_le (Nat.lt_of_lt_of_le Nat.lt_two_pow_self (Nat.pow_le_pow_right (by decide) (Nat.le_succ d))) (pow_two_le hb (d + 1))
  obtain ⟨k, h1, h2⟩ := least_nat (p := fun k => n / b ^ (k + 1) = d / b ^ (k + 1)) d (by
    show n / b ^ (d + 1) = d / b ^ (d + 1)
    rw [Nat.div_eq_of_lt big, Nat.div_eq_of_lt (Nat.lt_trans h big)])
  exact ⟨k, h1, h2⟩
theorem levT_is {b n d : Nat} (hb : 2 ≤ b) (h : n < d) : IsLev b n d (levT b n d) := by
  obtain ⟨k, hk⟩ := lev_exists hb h
  rw [levT_eq hk]
  exact hk
theorem evT_is {b n d : Nat} (hb : 2 ≤ b) (h : n < d) : evT b n d = d / b ^ levT b n d * b ^ levT b n d := evT_eq (levT_is hb h)
theorem evT_le {b n d : Nat} (hb : 2 ≤ b) (h : n < d) : evT b n d ≤ d := by
  rw [evT_is hb h]
  exact cut_le b d _
theorem evT_gt {b n d : Nat} (hb : 2 ≤ b) (h : n < d) : n < evT b n d := by
  rw [evT_is hb h]
  have hk := levT_is hb h
  generalize levT b n d = k at hk ⊢
  exact (Nat.div_lt_iff_lt_mul (pow_pos' hb k)).mp (hk.ne h)
/-- ahead of its event a timer stands where it stood -/
theorem lev_stays {b n d t : Nat} (hb : 2 ≤ b) (h : n < d) (h1 : n ≤ t) (h2 : t < evT b n d) : t < d ∧ levT b t d = levT b n d := by
  refine ⟨Nat.lt_of_lt_of_le h2 (evT_le hb h), ?_⟩
  rw [evT_is hb h] at h2
  exact levT_eq ((levT_is hb h).later hb h h1 h2)
/-- at its event it stands at a lower level -/
theorem lev_drops {b n d : Nat} (hb : 2 ≤ b) (h : n < d) (h2 : evT b n d < d) : levT b (evT b n d) d < levT b n d := by
  have hk := levT_is hb h
  have hk' := levT_is hb h2
  have e := evT_is hb h
  generalize levT b n d = k at hk e ⊢
  generalize levT b (evT b n d) d = k' at hk' ⊢
  have same : evT b n d / b ^ k = d / b ^ k := by
    rw [e, Nat.mul_div_cancel _ (pow_pos' hb k)]
  refine Classical.byContradiction fun no => ?_
  by_cases c : k' = k
  · subst c
    have z := hk'.ne h2
    omega
  · cases k with
    | zero =>
      rw [Nat.pow_zero, Nat.div_one, Nat.div_one] at same
      omega
    | succ j => exact hk'.2 j (by omega) same
/-! ### the law's own wheel: lists built at two ends -/
def insM (w : Bool) (m : Tm) (l : List Tm) : List Tm := if w then m :: l else l ++ [m]
def deq (f : Tm → Bool) (l : List Tm) : List Tm := (l.filter f).reverse ++ l.filter fun m => !f m
theorem deq_snoc (f : Tm → Bool) (l : List Tm) (m : Tm) : deq f (l ++ [m]) = insM (f m) m (deq f l) := by
  unfold deq insM
  rw [List.filter_append, List.filter_append]
  cases h : f m with
  | true => simp [h]
  | false => simp [h]
theorem deq_filter (f p : Tm → Bool) (l : List Tm) : (deq f l).filter p = deq f (l.filter p) := by
  unfold deq
  rw [List.filter_append, List.filter_reverse, List.filter_filter, List.filter_filter, List.filter_filter, List.filter_filter]
  have e : ∀ q : Tm → Bool, (fun m => p m && q m) = fun m => q m && p m := fun q => funext fun m => Bool.and_comm _ _
  rw [e, e]
theorem deq_false (l : List Tm) : deq (fun _ => false) l = l := by
  show (l.filter fun _ => false).reverse ++ l.filter (fun _ => true) = l
  rw [List.filter_eq_nil_iff.mpr (fun _ _ => Bool.false_ne_true), List.filter_eq_self.mpr (fun _ _ => rfl)]
  rfl
theorem deq_true (l : List Tm) : deq (fun _ => true) l = l.reverse := by
  show (l.filter fun _ => true).reverse ++ l.filter (fun _ => false) = _
  rw [List.filter_eq_nil_iff.mpr (fun _ _ => Bool.false_ne_true), List.filter_eq_self.mpr (fun _ _ => rfl), List.append_nil]
theorem deq_congr {f g : Tm → Bool} {l : List Tm} (h : ∀ m ∈ l, f m = g m) : deq f l = deq g l := by
  unfold deq
  rw [List.filter_congr h, List.filter_congr (p := fun m => !f m) (q := fun m => !g m) fun m hm => by rw [h m hm]]
theorem deq_deq (w : Bool) (f : Tm → Bool) (l : List Tm) : deq (fun _ => w) (deq f l) = deq (fun m => Bool.xor (f m) w) l := by
  cases w with
  | false =>
    rw [deq_false]
    exact deq_congr fun m _ => (Bool.xor_false _).symm
  | true =>
    rw [deq_true]
    unfold deq
    rw [List.reverse_append, List.reverse_reverse]
    have e1 : l.filter (fun m => Bool.xor (f m) true) = l.filter fun m => !f m := List.filter_congr fun m _ => Bool.xor_true _
    have e2 : l.filter (fun m => !Bool.xor (f m) true) = l.filter f := List.filter_congr fun m _ => by rw [Bool.xor_true, Bool.not_not]
    rw [e1, e2]
theorem mem_deq {f : Tm → Bool} {l : List Tm} {m : Tm} : m ∈ deq f l ↔ m ∈ l := by
  unfold deq
  rw [List.mem_append, List.mem_reverse, List.mem_filter, List.mem_filter]
  cases h : f m <;> simp
theorem deq_perm (f : Tm → Bool) (l : List Tm) : (deq f l).Perm l := by
  unfold deq
  exact ((List.reverse_perm _).append_right _).trans (List.filter_append_perm f l)
theorem deq_len (f : Tm → Bool) (l : List Tm) : (deq f l).length = l.length := (deq_perm f l).length_eq
theorem ins_len (w : Bool) (m : Tm) (l : List Tm) : (insM w m l).length = l.length + 1 := by
  unfold insM
  split
  · rfl
  · rw [List.length_append]
    rfl
theorem ins_fold (w : Bool) (l : List Tm) : l.foldl (fun a m => insM w m a) [] = deq (fun _ => w) l := by
  suffices H : ∀ (r : List Tm), l.foldl (fun a m => insM w m a) (deq (fun _ => w) r) = deq (fun _ => w) (r ++ l) by
    have z := H []
    rw [List.nil_append] at z
    exact z
  induction l with
  | nil =>
    intro r
    rw [List.append_nil]
    rfl
  | cons m l ih =>
    intro r
    rw [List.foldl_cons, ← deq_snoc (fun _ => w), ih, List.append_assoc]
    rfl
theorem ins_deq (f : Tm → Bool) (w : Bool) (l : List Tm) (h : ∀ m ∈ l, f m = w) : ∀ r : List Tm, l.foldl (fun a m => insM w m a) (deq f r) = deq f (r ++ l) := by
  induction l with
  | nil =>
    intro r
    rw [List.append_nil]
    rfl
  | cons m l ih =>
    intro r
    rw [List.foldl_cons, ← h m (List.mem_cons_self ..), ← deq_snoc, h m (List.mem_cons_self ..), ih fun x hx => h x (List.mem_cons_of_mem _ hx)]
    rw [List.append_assoc]
    rfl
/-! ### sides, digit by digit -/
def cntS (ws : List Bool) (b d lo k : Nat) : Nat := (tailOf b d k).countP fun r => decide (lo ≤ r.1) && wordAt ws r.1
theorem cntS_succ (ws : List Bool) (b d lo k : Nat) : cntS ws b d lo (k + 1) = cntS ws b d lo k + if d / b ^ k % b ≠ 0 ∧ lo ≤ k ∧ wordAt ws k = true then 1 else 0 := by
  unfold cntS
  show (if d / b ^ k % b ≠ 0 then (k, d / b ^ k % b, d / b ^ (k + 1) * b ^ (k + 1)) :: tailOf b d k else tailOf b d k).countP _ = _
  by_cases h : d / b ^ k % b ≠ 0
  · rw [if_pos h, List.countP_cons]
    congr 1
    by_cases h1 : lo ≤ k
    · cases h2 : wordAt ws k with
      | true => rw [if_pos (by simp [h1, h2]), if_pos ⟨h, h1, rfl⟩]
      | false => rw [if_neg (by simp [h2]), if_neg (fun z => by cases z.2.2)]
    · rw [if_neg (by simp [h1]), if_neg (fun z => h1 z.2.1)]
  · rw [if_neg h, if_neg fun z => h z.1, Nat.add_zero]
theorem cntS_high {ws : List Bool} {b d lo : Nat} : ∀ k, k ≤ lo → cntS ws b d lo k = 0
  | 0, _ => rfl
  | k + 1, h => by
    rw [cntS_succ, cntS_high k (by omega), if_neg (fun z => by omega)]
theorem cntS_skip {ws : List Bool} {b d lo lo' : Nat} (h : lo ≤ lo') (h0 : ∀ i, lo ≤ i → i < lo' → d / b ^ i % b = 0) : ∀ k, cntS ws b d lo k = cntS ws b d lo' k
  | 0 => rfl
  | k + 1 => by
    rw [cntS_succ, cntS_succ, cntS_skip h h0 k]
    congr 1
    by_cases c : lo' ≤ k
    · by_cases e : d / b ^ k % b ≠ 0 ∧ wordAt ws k = true
      · rw [if_pos ⟨e.1, by omega, e.2⟩, if_pos ⟨e.1, c, e.2⟩]
      · rw [if_neg fun z => e ⟨z.1, z.2.2⟩, if_neg fun z => e ⟨z.1, z.2.2⟩]
    · rw [if_neg (c := d / b ^ k % b ≠ 0 ∧ lo' ≤ k ∧ wordAt ws k = true) fun z => c z.2.1]
      refine if_neg fun z => z.1 (h0 k z.2.1 (by omega))
theorem cntS_one {ws : List Bool} {b d lo : Nat} (h : d / b ^ lo % b ≠ 0) : ∀ k, lo < k → cntS ws b d lo k = cntS ws b d (lo + 1) k + if wordAt ws lo = true then 1 else 0
  | 0, hk => absurd hk (Nat.not_lt_zero _)
  | k + 1, hk => by
    rw [cntS_succ, cntS_succ]
    by_cases e : k = lo
    · subst e
      rw [cntS_high k (Nat.le_refl _), cntS_high k (Nat.le_succ _), if_neg (c := d / b ^ k % b ≠ 0 ∧ k + 1 ≤ k ∧ wordAt ws k = true) fun z => by omega]
      by_cases c : wordAt ws k = true
      · rw [if_pos ⟨h, Nat.le_refl _, c⟩, if_pos c]
      · rw [if_neg fun z => c z.2.2, if_neg c]
    · rw [cntS_one h k (by omega)]
      have e2 : (if d / b ^ k % b ≠ 0 ∧ lo ≤ k ∧ wordAt ws k = true then 1 else 0) = if d / b ^ k % b ≠ 0 ∧ lo + 1 ≤ k ∧ wordAt ws k = true then 1 else 0 := by
        by_cases c : d / b ^ k % b ≠ 0 ∧ wordAt ws k = true
        · rw [if_pos ⟨c.1, by omega, c.2⟩, if_pos ⟨c.1, by omega, c.2⟩]
        · rw [if_neg fun z => c ⟨z.1, z.2.2⟩, if_neg fun z => c ⟨z.1, z.2.2⟩]
      rw [e2]
      omega
theorem front_cntS (ws : List Bool) (b n d lo k : Nat) (h : lo ≤ k) : frontOf ws lo (rowsOf b n d k) = decide ((cntS ws b d lo k + if wordAt ws k = true then 1 else 0) % 2 = 1) := by
  unfold frontOf rowsOf cntS
  rw [List.countP_cons]
  cases h2 : wordAt ws k with
  | true => rw [if_pos (by simp [h, h2])]; rfl
  | false => rw [if_neg (by simp [h2])]; rfl
theorem side_cnt {b : Nat} {ws : List Bool} {n d lo : Nat} (hb : 2 ≤ b) (h : n < d) (hl : lo ≤ levT b n d) : sideT b ws n d lo = decide ((cntS ws b d lo (levT b n d) + if wordAt ws (levT b n d) = true then 1 else 0) % 2 = 1) := by
  rw [sideT_eq (levT_is hb h)]
  exact front_cntS ws b n d lo _ hl
theorem odd_add (c : Nat) (w : Bool) : decide ((c + if w = true then 1 else 0) % 2 = 1) = Bool.xor (decide (c % 2 = 1)) w := by
  cases w with
  | false =>
    rw [if_neg (by decide), Bool.xor_false]
    rfl
  | true =>
    rw [if_pos rfl, Bool.xor_true]
    exact odd_succ c
theorem side_new {b : Nat} {ws : List Bool} {n d : Nat} (hb : 2 ≤ b) (h : n < d) : sideT b ws n d (levT b n d) = wordAt ws (levT b n d) := by
  rw [side_cnt hb h (Nat.le_refl _), cntS_high _ (Nat.le_refl _), odd_add]
  cases wordAt ws (levT b n d) <;> rfl
theorem lev_mono {b s n d : Nat} (hb : 2 ≤ b) (h : n < d) (hs : s ≤ n) : levT b n d ≤ levT b s d := by
  have k1 := levT_is hb h
  have k2 := levT_is hb (Nat.lt_of_le_of_lt hs h)
  generalize levT b n d = k at k1 ⊢
  generalize levT b s d = k0 at k2 ⊢
  refine Nat.le_of_not_lt fun c => k1.2 k0 c ?_
  have a1 : s / b ^ (k0 + 1) ≤ n / b ^ (k0 + 1) := Nat.div_le_div_right hs
  have a2 : n / b ^ (k0 + 1) ≤ d / b ^ (k0 + 1) := Nat.div_le_div_right (Nat.le_of_lt h)
  have a3 := k2.1
  omega
/-- the digits of a multiple -/
theorem dig_mul {b q h i : Nat} (hb : 2 ≤ b) (hi : i < h) : q * b ^ h / b ^ i % b = 0 := by
  have e : b ^ h = b ^ (h - i - 1) * b * b ^ i := by
    rw [← Nat.pow_succ, ← Nat.pow_add]
    congr 1
    omega
  rw [e, ← Nat.mul_assoc, Nat.mul_div_cancel _ (pow_pos' hb i), ← Nat.mul_assoc, Nat.mul_mod_left]
/-- where a timer goes on, its side turns with the word there -/
theorem side_drop {b : Nat} {ws : List Bool} {s n d : Nat} (hb : 2 ≤ b) (h : n < d) (hs : s ≤ n) (he : evT b n d < d) :
    sideT b ws s d (levT b (evT b n d) d) = Bool.xor (sideT b ws s d (levT b n d)) (wordAt ws (levT b (evT b n d) d)) := by
  have hm := lev_mono hb h hs
  have hd := lev_drops hb h he
  have hk := levT_is hb h
  have hj := levT_is hb he
  have ee := evT_is hb h
  have hsd := Nat.lt_of_le_of_lt hs h
  have hdj : d / b ^ levT b (evT b n d) d % b ≠ 0 := by
    have := hj.digit he
    omega
  rw [side_cnt hb hsd (by omega), side_cnt hb hsd hm, cntS_one hdj _ (by omega)]
  have e2 : cntS ws b d (levT b (evT b n d) d + 1) (levT b s d) = cntS ws b d (levT b n d) (levT b s d) := by
    refine cntS_skip (by omega) (fun i h1 h2 => ?_) _
    have a1 : evT b n d / b ^ (levT b (evT b n d) d + 1) = d / b ^ (levT b (evT b n d) d + 1) := hj.1
    have a2 : evT b n d / b ^ i = d / b ^ i := by
      have e3 : i = (levT b (evT b n d) d + 1) + (i - (levT b (evT b n d) d + 1)) := by omega
      rw [e3, Nat.pow_add, ← Nat.div_div_eq_div_mul, ← Nat.div_div_eq_div_mul, a1]
    rw [← a2, ee]
    exact dig_mul hb h2
  rw [e2, Nat.add_right_comm, odd_add]
/-- where it fires, the side is the one at the last list -/
theorem side_last {b : Nat} {ws : List Bool} {s n d : Nat} (hb : 2 ≤ b) (h : n < d) (hs : s ≤ n) (he : evT b n d = d) : sideT b ws s d (levT b n d) = sideT b ws s d 0 := by
  have hm := lev_mono hb h hs
  have hsd := Nat.lt_of_le_of_lt hs h
  rw [side_cnt hb hsd hm, side_cnt hb hsd (Nat.zero_le _)]
  rw [cntS_skip (lo := 0) (lo' := levT b n d) (Nat.zero_le _) (fun i _ h2 => ?_) _]
  have ee := evT_is hb h
  rw [he] at ee
  rw [ee]
  have e4 : levT b n (d / b ^ levT b n d * b ^ levT b n d) = levT b n d := by rw [← ee]
  exact dig_mul hb h2
/-! ### the law's own wheel: cells -/
abbrev LCell := (Nat × Nat) × List Tm
def gv : List LCell → Nat × Nat → List Tm
  | [], _ => []
  | c :: cs, p => if c.1 = p then c.2 else gv cs p
def lput (cs : List LCell) (p : Nat × Nat) (l : List Tm) : List LCell := if p ∈ cs.map (·.1) then cs.map (fun c => if c.1 = p then (c.1, l) else c) else cs ++ [(p, l)]
def ldrop (cs : List LCell) (p : Nat × Nat) : List LCell := cs.filter fun c => decide (c.1 ≠ p)
theorem gv_none {p : Nat × Nat} : ∀ {cs : List LCell}, p ∉ cs.map (·.1) → gv cs p = []
  | [], _ => rfl
  | c :: cs, h => by
    rw [List.map_cons, List.mem_cons, not_or] at h
    show (if c.1 = p then c.2 else gv cs p) = []
    rw [if_neg fun z => h.1 z.symm]
    exact gv_none h.2
theorem gv_map {p q : Nat × Nat} {l : List Tm} : ∀ cs : List LCell, p ∈ cs.map (·.1) → gv (cs.map fun c => if c.1 = p then (c.1, l) else c) q = if p = q then l else gv cs q
  | [], h => by cases h
  | c :: cs, h => by
    rw [List.map_cons]
    by_cases e : c.1 = p
    · rw [if_pos e]
      by_cases e2 : p = q
      · rw [if_pos e2]
        show (if c.1 = q then l else _) = l
        rw [if_pos (e.trans e2)]
      · rw [if_neg e2]
        show (if c.1 = q then l else gv _ q) = if c.1 = q then c.2 else gv cs q
        rw [if_neg fun z => e2 (e.symm.trans z), if_neg fun z => e2 (e.symm.trans z)]
        by_cases hm : p ∈ cs.map (·.1)
        · rw [gv_map cs hm, if_neg e2]
        · have e3 : (cs.map fun c => if c.1 = p then (c.1, l) else c) = cs := by
            have z : ∀ c ∈ cs, (if c.1 = p then (c.1, l) else c) = c := fun c hc => if_neg fun y => hm (List.mem_map.mpr ⟨c, hc, y⟩)
            rw [List.map_congr_left (g := id) z, List.map_id]
          rw [e3]
    · rw [if_neg e]
      rw [List.map_cons, List.mem_cons] at h
      have hm := h.resolve_left fun z => e z.symm
      show (if c.1 = q then c.2 else gv _ q) = if p = q then l else (if c.1 = q then c.2 else gv cs q)
      rw [gv_map cs hm]
      by_cases e2 : c.1 = q
      · rw [if_pos e2, if_neg fun z => e (e2.trans z.symm), if_pos e2]
      · rw [if_neg e2, if_neg e2]
theorem gv_snoc {p q : Nat × Nat} {l : List Tm} : ∀ cs : List LCell, p ∉ cs.map (·.1) → gv (cs ++ [(p, l)]) q = if p = q then l else gv cs q
  | [], _ => rfl
  | c :: cs, h => by
    rw [List.map_cons, List.mem_cons, not_or] at h
    show (if c.1 = q then c.2 else gv (cs ++ [(p, l)]) q) = if p = q then l else (if c.1 = q then c.2 else gv cs q)
    rw [gv_snoc cs h.2]
    by_cases e : p = q
    · rw [if_pos e, if_pos e, if_neg fun z => h.1 (e.trans z.symm)]
    · rw [if_neg e, if_neg e]
theorem gv_put {cs : List LCell} {p q : Nat × Nat} {l : List Tm} : gv (lput cs p l) q = if p = q then l else gv cs q := by
  unfold lput
  split
  · rename_i h
    exact gv_map cs h
  · rename_i h
    exact gv_snoc cs h
theorem gv_drop {p q : Nat × Nat} : ∀ cs : List LCell, gv (ldrop cs p) q = if p = q then [] else gv cs q
  | [] => by
    show [] = if p = q then [] else []
    split <;> rfl
  | c :: cs => by
    have ih := gv_drop (p := p) (q := q) cs
    by_cases e : c.1 = p
    · have z : ldrop (c :: cs) p = ldrop cs p := List.filter_cons_of_neg (by simp [e])
      rw [z, ih]
      by_cases e2 : p = q
      · rw [if_pos e2, if_pos e2]
      · rw [if_neg e2, if_neg e2]
        show _ = if c.1 = q then c.2 else gv cs q
        rw [if_neg fun z => e2 (e.symm.trans z)]
    · have z : ldrop (c :: cs) p = c :: ldrop cs p := List.filter_cons_of_pos (by simp [e])
      rw [z]
      show (if c.1 = q then c.2 else gv (ldrop cs p) q) = if p = q then [] else (if c.1 = q then c.2 else gv cs q)
      rw [ih]
      by_cases e2 : p = q
      · rw [if_pos e2, if_pos e2, if_neg fun z => e (z.trans e2.symm)]
      · rw [if_neg e2, if_neg e2]
theorem lput_keys {cs : List LCell} {p : Nat × Nat} {l : List Tm} (nd : (cs.map (·.1)).Nodup) : ((lput cs p l).map (·.1)).Nodup := by
  unfold lput
  split
  · rw [List.map_map]
    have e : cs.map ((fun c : LCell => c.1) ∘ fun c => if c.1 = p then (c.1, l) else c) = cs.map (·.1) := List.map_congr_left fun c _ => by
      show (if c.1 = p then (c.1, l) else c).1 = c.1
      split <;> rfl
    rw [e]
    exact nd
  · rename_i h
    rw [List.map_append]
    exact L2.nd_snoc nd h
theorem lput_len (cs : List LCell) (p : Nat × Nat) (l : List Tm) : (lput cs p l).length ≤ cs.length + 1 := by
  unfold lput
  split
  · rw [List.length_map]
    omega
  · rw [List.length_append]
    exact Nat.le_refl _
theorem ldrop_keys {cs : List LCell} {p : Nat × Nat} (nd : (cs.map (·.1)).Nodup) : ((ldrop cs p).map (·.1)).Nodup := List.Nodup.sublist (List.Sublist.map _ List.filter_sublist) nd
theorem ldrop_len (cs : List LCell) (p : Nat × Nat) : (ldrop cs p).length ≤ cs.length := List.length_filter_le _ _
theorem gv_mem {cs : List LCell} (nd : (cs.map (·.1)).Nodup) {c : LCell} (h : c ∈ cs) : gv cs c.1 = c.2 := by
  induction cs with
  | nil => cases h
  | cons x cs ih =>
    rw [List.map_cons, List.nodup_cons] at nd
    show (if x.1 = c.1 then x.2 else gv cs c.1) = c.2
    rcases List.mem_cons.mp h with e | h
    · rw [e, if_pos rfl]
    · rw [if_neg fun z => nd.1 (List.mem_map.mpr ⟨c, h, z.symm⟩)]
      exact ih nd.2 h
/-- what the law's wheel does with one timer, and with all of a list -/
noncomputable def lplace (b : Nat) (ws : List Bool) (t : Nat) (cs : List LCell) (m : Tm) : List LCell := lput cs (placeT b t m.due) (insM (wordAt ws (placeT b t m.due).1) m (gv cs (placeT b t m.due)))
theorem gv_place {b : Nat} {ws : List Bool} {t : Nat} {cs : List LCell} {m : Tm} {p : Nat × Nat} : gv (lplace b ws t cs m) p = if placeT b t m.due = p then insM (wordAt ws p.1) m (gv cs p) else gv cs p := by
  unfold lplace
  rw [gv_put]
  split
  · rename_i e
    rw [e]
  · rfl
theorem gv_places {b : Nat} {ws : List Bool} {t : Nat} {p : Nat × Nat} : ∀ (l : List Tm) (cs : List LCell), gv (l.foldl (lplace b ws t) cs) p = (l.filter fun m => decide (placeT b t m.due = p)).foldl (fun a m => insM (wordAt ws p.1) m a) (gv cs p)
  | [], _ => rfl
  | m :: l, cs => by
    rw [List.foldl_cons, gv_places l, gv_place]
    by_cases e : placeT b t m.due = p
    · rw [if_pos e, List.filter_cons_of_pos (by simpa using e), List.foldl_cons]
    · rw [if_neg e, List.filter_cons_of_neg (by simpa using e)]
/-- the list p at the tick t, of the timers ms in the order in which they were set -/
noncomputable def stM (b : Nat) (ws : List Bool) (t : Nat) (ms : List Tm) (p : Nat × Nat) : List Tm := deq (fun m => sideT b ws m.since m.due p.1) (ms.filter fun m => decide (placeT b t m.due = p))
def againM (t : Nat) (m : Tm) : Option Tm := m.per.map fun k => ⟨m.num, t + k, some k, t⟩
structure IsZer (b e h : Nat) : Prop where
  low : e % b ^ h = 0
  dig : e / b ^ h % b ≠ 0
theorem zer_uniq {b e h h' : Nat} (z : IsZer b e h) (z' : IsZer b e h') : h = h' := by
  have main : ∀ {i j : Nat}, IsZer b e i → IsZer b e j → ¬ i < j := fun {i j} zi zj c => by
    refine zi.dig ?_
    have e1 : b ^ j = b ^ i * (b * b ^ (j - i - 1)) := by
      rw [← Nat.mul_assoc, ← Nat.pow_succ, ← Nat.pow_add]
      congr 1
      omega
    have e2 : b ^ j ∣ e := Nat.dvd_of_mod_eq_zero zj.low
    rw [e1] at e2
    obtain ⟨q, hq⟩ := e2
    have hp : 0 < b ^ i := by
      rcases Nat.eq_zero_or_pos (b ^ i) with c0 | c0
      · exfalso
        rw [c0, Nat.zero_mul, Nat.zero_mul] at hq
        refine zi.dig ?_
        rw [hq, Nat.zero_div, Nat.zero_mod]
      · exact c0
    rw [hq, Nat.mul_assoc, Nat.mul_div_cancel_left _ hp, Nat.mul_assoc, Nat.mul_mod_right]
  have a1 := main z z'
  have a2 := main z' z
  omega
/-- the key of the list that is emptied at e -/
def keyE (b e h : Nat) : Nat × Nat := (h, e / b ^ h % b)
noncomputable def lpass (b : Nat) (ws : List Bool) (e h : Nat) (cs : List LCell) : List LCell :=
  ((((gv cs (keyE b e h)).filter fun m => decide (m.due = e)).filterMap (againM e))).foldl (lplace b ws e) (((gv cs (keyE b e h)).filter fun m => decide (m.due ≠ e)).foldl (lplace b ws e) (ldrop cs (keyE b e h)))
section
variable {b e h n d : Nat}
theorem ev_key (hb : 2 ≤ b) (z : IsZer b e h) (hnd : n < d) (he : evT b n d = e) : placeT b n d = keyE b e h := by
  have hk := levT_is hb hnd
  have ee := evT_is hb hnd
  rw [he] at ee
  have hp := pow_pos' hb (levT b n d)
  have e1 : e / b ^ levT b n d = d / b ^ levT b n d := by
    rw [ee, Nat.mul_div_cancel _ hp]
  have dg := hk.digit hnd
  have z2 : IsZer b e (levT b n d) := ⟨by rw [ee]; exact Nat.mul_mod_left _ _, by rw [e1]; omega⟩
  unfold placeT keyE
  rw [zer_uniq z z2, e1]
theorem key_ev (hb : 2 ≤ b) (z : e % b ^ h = 0) (hnd : n < d) (hne : n < e) (hle : e ≤ evT b n d) (hk : placeT b n d = keyE b e h) : evT b n d = e := by
  have k1 : levT b n d = h := congrArg Prod.fst hk
  have k2 : d / b ^ levT b n d % b = e / b ^ h % b := congrArg Prod.snd hk
  have hl := levT_is hb hnd
  have ee := evT_is hb hnd
  have hed := Nat.le_trans hle (evT_le hb hnd)
  rw [k1] at k2 hl ee
  have a1 : n / b ^ (h + 1) ≤ e / b ^ (h + 1) := Nat.div_le_div_right (Nat.le_of_lt hne)
  have a2 : e / b ^ (h + 1) ≤ d / b ^ (h + 1) := Nat.div_le_div_right hed
  have a3 := hl.1
  have a4 : e / b ^ h / b = d / b ^ h / b := by
    rw [← div_succ, ← div_succ]
    omega
  have a5 := Nat.div_add_mod (e / b ^ h) b
  have a6 := Nat.div_add_mod (d / b ^ h) b
  have a7 : e / b ^ h = d / b ^ h := by
    rw [a4] at a5
    omega
  rw [ee, ← a7]
  exact Nat.div_mul_cancel (Nat.dvd_of_mod_eq_zero z)
theorem low_none (hb : 2 ≤ b) (z : e % b ^ h = 0) (hnd : n < d) (hne : n < e) (hle : e < evT b n d) : h ≤ levT b n d := by
  refine Nat.le_of_not_lt fun c => ?_
  obtain ⟨s1, s2⟩ := lev_stays hb hnd (Nat.le_of_lt hne) hle
  have k1 := levT_is hb hnd
  have k2 := levT_is hb s1
  rw [s2] at k2
  generalize levT b n d = j at c k1 k2
  have a1 : n / b ^ (j + 1) = e / b ^ (j + 1) := k1.1.trans k2.1.symm
  have hp := pow_pos' hb (j + 1)
  have dv : b ^ (j + 1) ∣ e := Nat.dvd_trans (Nat.pow_dvd_pow b (by omega)) (Nat.dvd_of_mod_eq_zero z)
  have a2 : e / b ^ (j + 1) * b ^ (j + 1) = e := Nat.div_mul_cancel dv
  have a3 : n / b ^ (j + 1) < e / b ^ (j + 1) := (Nat.div_lt_iff_lt_mul hp).mpr (by rw [a2]; exact hne)
  omega
theorem not_key (hb : 2 ≤ b) (hed : e < d) : placeT b e d ≠ keyE b e h := fun hk => by
  have k1 : levT b e d = h := congrArg Prod.fst hk
  have k2 : d / b ^ levT b e d % b = e / b ^ h % b := congrArg Prod.snd hk
  have dg := (levT_is hb hed).digit hed
  rw [k1] at k2 dg
  omega
end
/-- one tick at which a list may be emptied: the lists behind, and what fires -/
theorem lw_pass {b : Nat} {ws : List Bool} {t e h : Nat} {ms : List Tm} {cs : List LCell} (hb : 2 ≤ b) (z : IsZer b e h) (hte : t < e) (hms : ∀ m ∈ ms, m.since ≤ t ∧ t < m.due ∧ e ≤ evT b t m.due) (hcs : ∀ p, gv cs p = stM b ws t ms p) :
    (gv cs (keyE b e h)).filter (fun m => decide (m.due = e)) = deq (fun m => sideT b ws m.since m.due 0) (ms.filter fun m => decide (m.due = e)) ∧
    ∀ p, (∀ m ∈ ms, ∀ k, m.per = some k → 1 ≤ k) → gv (lpass b ws e h cs) p = stM b ws e (ms.filter (fun m => decide (m.due ≠ e)) ++ (deq (fun m => sideT b ws m.since m.due 0) (ms.filter fun m => decide (m.due = e))).filterMap (againM e)) p := by
  have ev : ∀ m ∈ ms, m.due = e → evT b t m.due = e := fun m hm hd => Nat.le_antisymm (by rw [← hd] at *; exact evT_le hb (hms m hm).2.1) (hms m hm).2.2
  -- who stands in the list that is emptied
  have hkey : ∀ m ∈ ms, placeT b t m.due = keyE b e h ↔ evT b t m.due = e := fun m hm => ⟨key_ev hb z.low (hms m hm).2.1 hte (hms m hm).2.2, ev_key hb z (hms m hm).2.1⟩
  have hF : (gv cs (keyE b e h)).filter (fun m => decide (m.due = e)) = deq (fun m => sideT b ws m.since m.due 0) (ms.filter fun m => decide (m.due = e)) := by
    rw [hcs]
    unfold stM
    rw [deq_filter, List.filter_filter]
    have e1 : ms.filter (fun m => decide (m.due = e) && decide (placeT b t m.due = keyE b e h)) = ms.filter fun m => decide (m.due = e) := List.filter_congr fun m hm => by
      by_cases c : m.due = e
      · rw [decide_eq_true c, decide_eq_true ((hkey m hm).mpr (ev m hm c))]
        rfl
      · rw [decide_eq_false c]
        rfl
    rw [e1]
    refine deq_congr fun m hm => ?_
    obtain ⟨hm, hd⟩ := List.mem_filter.mp hm
    have hd : m.due = e := of_decide_eq_true hd
    have hev := ev m hm hd
    have hk := (hkey m hm).mpr hev
    have k1 : levT b t m.due = h := congrArg Prod.fst hk
    show sideT b ws m.since m.due h = _
    rw [← k1]
    exact side_last hb (hms m hm).2.1 (hms m hm).1 (hev.trans hd.symm)
  refine ⟨hF, fun p hper => ?_⟩
  unfold lpass
  rw [gv_places, gv_places, gv_drop, hF]
  -- the timers that go on
  have hA : ((((gv cs (keyE b e h)).filter fun m => decide (m.due ≠ e)).filter fun m => decide (placeT b e m.due = p)).foldl (fun a m => insM (wordAt ws p.1) m a) (if keyE b e h = p then [] else gv cs p))
      = deq (fun m => sideT b ws m.since m.due p.1) ((ms.filter fun m => decide (m.due ≠ e)).filter fun m => decide (placeT b e m.due = p)) := by
    have hL : ((gv cs (keyE b e h)).filter fun m => decide (m.due ≠ e)).filter (fun m => decide (placeT b e m.due = p)) = deq (fun m => sideT b ws m.since m.due h) (ms.filter fun m => decide (placeT b t m.due = keyE b e h) && decide (m.due ≠ e) && decide (placeT b e m.due = p)) := by
      rw [hcs]
      unfold stM
      rw [deq_filter, deq_filter, List.filter_filter, List.filter_filter]
      congr 1
      exact List.filter_congr fun m _ => by
        cases decide (placeT b t m.due = keyE b e h) <;> cases decide (m.due ≠ e) <;> cases decide (placeT b e m.due = p) <;> rfl
    have lt_due : ∀ m ∈ ms, m.due ≠ e → e < m.due := fun m hm hd => by
      have := Nat.le_trans (hms m hm).2.2 (evT_le hb (hms m hm).2.1)
      omega
    have drops : ∀ m ∈ ms, m.due ≠ e → evT b t m.due = e → levT b e m.due < h := fun m hm hd hev => by
      have z1 := lev_drops hb (hms m hm).2.1 (by rw [hev]; exact lt_due m hm hd)
      have k1 : levT b t m.due = h := congrArg Prod.fst ((hkey m hm).mpr hev)
      rw [hev, k1] at z1
      exact z1
    have stays : ∀ m ∈ ms, evT b t m.due ≠ e → placeT b e m.due = placeT b t m.due ∧ h ≤ levT b t m.due := fun m hm hev => by
      have hlt : e < evT b t m.due := by
        have := (hms m hm).2.2
        omega
      refine ⟨?_, low_none hb z.low (hms m hm).2.1 hte hlt⟩
      unfold placeT
      rw [(lev_stays hb (hms m hm).2.1 (Nat.le_of_lt hte) hlt).2]
    rw [hL, List.filter_filter]
    by_cases c1 : keyE b e h = p
    · rw [if_pos c1]
      have n1 : ms.filter (fun m => decide (placeT b t m.due = keyE b e h) && decide (m.due ≠ e) && decide (placeT b e m.due = p)) = [] := List.filter_eq_nil_iff.mpr fun m hm x => by
        simp only [Bool.and_eq_true, decide_eq_true_eq] at x
        exact not_key hb (lt_due m hm x.1.2) (x.2.trans c1.symm)
      have n2 : ms.filter (fun m => decide (placeT b e m.due = p) && decide (m.due ≠ e)) = [] := List.filter_eq_nil_iff.mpr fun m hm x => by
        simp only [Bool.and_eq_true, decide_eq_true_eq] at x
        exact not_key hb (lt_due m hm x.2) (x.1.trans c1.symm)
      rw [n1, n2]
      rfl
    · rw [if_neg c1, hcs]
      by_cases c2 : p.1 < h
      · -- a lower list: it was empty, and takes what comes down
        have n1 : ms.filter (fun m => decide (placeT b t m.due = p)) = [] := List.filter_eq_nil_iff.mpr fun m hm x => by
          have x : placeT b t m.due = p := of_decide_eq_true x
          by_cases c3 : evT b t m.due = e
          · exact c1 (((hkey m hm).mpr c3).symm.trans x)
          · have y := (stays m hm c3).2
            have y2 : levT b t m.due = p.1 := congrArg Prod.fst x
            omega
        have n2 : stM b ws t ms p = [] := by
          unfold stM
          rw [n1]
          rfl
        rw [n2, ins_fold, deq_deq]
        have e1 : ms.filter (fun m => decide (placeT b t m.due = keyE b e h) && decide (m.due ≠ e) && decide (placeT b e m.due = p)) = ms.filter (fun m => decide (placeT b e m.due = p) && decide (m.due ≠ e)) := List.filter_congr fun m hm => by
          by_cases c4 : m.due ≠ e ∧ placeT b e m.due = p
          · have c3 : evT b t m.due = e := Classical.byContradiction fun no => by
              obtain ⟨y1, y2⟩ := stays m hm no
              have y3 : levT b e m.due = p.1 := congrArg Prod.fst c4.2
              have y4 : levT b e m.due = levT b t m.due := congrArg Prod.fst y1
              omega
            rw [decide_eq_true ((hkey m hm).mpr c3), decide_eq_true c4.1, decide_eq_true c4.2]
            rfl
          · by_cases c5 : m.due ≠ e
            · rw [decide_eq_false (fun x => c4 ⟨c5, x⟩), Bool.and_false, Bool.false_and]
            · rw [decide_eq_false c5, Bool.and_false, Bool.false_and, Bool.and_false]
        rw [e1]
        refine deq_congr fun m hm => ?_
        obtain ⟨hm, x⟩ := List.mem_filter.mp hm
        simp only [Bool.and_eq_true, decide_eq_true_eq] at x
        have c3 : evT b t m.due = e := Classical.byContradiction fun no => by
          obtain ⟨y1, y2⟩ := stays m hm no
          have y3 : levT b e m.due = p.1 := congrArg Prod.fst x.1
          have y4 : levT b e m.due = levT b t m.due := congrArg Prod.fst y1
          omega
        have k1 : levT b t m.due = h := congrArg Prod.fst ((hkey m hm).mpr c3)
        have k2 : levT b e m.due = p.1 := congrArg Prod.fst x.1
        have sd := side_drop (ws := ws) hb (hms m hm).2.1 (hms m hm).1 (by rw [c3]; exact lt_due m hm x.2)
        rw [c3, k1, k2] at sd
        exact sd.symm
      · -- another list: it stays
        have n1 : ms.filter (fun m => decide (placeT b t m.due = keyE b e h) && decide (m.due ≠ e) && decide (placeT b e m.due = p)) = [] := List.filter_eq_nil_iff.mpr fun m hm x => by
          simp only [Bool.and_eq_true, decide_eq_true_eq] at x
          have y := drops m hm x.1.2 ((hkey m hm).mp x.1.1)
          have y3 : levT b e m.due = p.1 := congrArg Prod.fst x.2
          omega
        rw [n1]
        show stM b ws t ms p = _
        unfold stM
        congr 1
        refine List.filter_congr fun m hm => ?_
        by_cases c3 : evT b t m.due = e
        · have x1 : ¬ placeT b t m.due = p := fun x => c1 (((hkey m hm).mpr c3).symm.trans x)
          rw [decide_eq_false x1]
          by_cases c5 : m.due ≠ e
          · have x2 : ¬ placeT b e m.due = p := fun x => by
              have y := drops m hm c5 c3
              have y3 : levT b e m.due = p.1 := congrArg Prod.fst x
              omega
            rw [decide_eq_false x2, Bool.false_and]
          · rw [decide_eq_false c5, Bool.and_false]
        · have c5 : m.due ≠ e := fun x => c3 (ev m hm x)
          rw [decide_eq_true c5, (stays m hm c3).1, Bool.and_true]
  rw [hA]
  have hB : ∀ m ∈ ((deq (fun m => sideT b ws m.since m.due 0) (ms.filter fun m => decide (m.due = e))).filterMap (againM e)).filter (fun m => decide (placeT b e m.due = p)), sideT b ws m.since m.due p.1 = wordAt ws p.1 := fun m hm => by
    obtain ⟨hm, x⟩ := List.mem_filter.mp hm
    have x : placeT b e m.due = p := of_decide_eq_true x
    obtain ⟨m0, h0, h1⟩ := List.mem_filterMap.mp hm
    have h0' := (List.mem_filter.mp (mem_deq.mp h0)).1
    unfold againM at h1
    cases ep : m0.per with
    | none =>
      rw [ep] at h1
      cases h1
    | some k =>
      rw [ep] at h1
      have h2 := (Option.some.inj h1).symm
      have hk := hper m0 h0' k ep
      subst h2
      have k2 : levT b e (e + k) = p.1 := congrArg Prod.fst x
      show sideT b ws e (e + k) p.1 = wordAt ws p.1
      rw [← k2]
      exact side_new hb (Nat.lt_add_of_pos_right hk)
  rw [ins_deq _ _ _ hB]
  unfold stM
  rw [List.filter_append]
/-- the order of firing, the lists, what is live behind it: as the program has them -/
theorem order_deq (b : Nat) (ws : List Bool) (t : Nat) (ms : List Tm) : orderAt b ws t ms = (deq (fun m => sideT b ws m.since m.due 0) (ms.filter fun m => decide (m.due = t))).map (·.num) := by
  suffices H : ∀ n : Nat, orderAt b ws t (ms.take n) = (deq (fun m => sideT b ws m.since m.due 0) ((ms.take n).filter fun m => decide (m.due = t))).map (·.num) by
    have z := H ms.length
    rw [List.take_length] at z
    exact z
  intro n
  induction n with
  | zero => rfl
  | succ n ih =>
    cases e : ms[n]? with
    | none =>
      have hl : ms.length ≤ n := List.getElem?_eq_none_iff.mp e
      rw [List.take_of_length_le (by omega)]
      rw [List.take_of_length_le hl] at ih
      exact ih
    | some m =>
      rw [List.take_add_one, e, Option.toList_some, order_snoc, List.filter_append]
      by_cases h : m.due = t
      · have e1 : [m].filter (fun m => decide (m.due = t)) = [m] := List.filter_cons_of_pos (by simpa using h)
        rw [if_pos h, e1, deq_snoc, ih]
        unfold insT insM
        cases sideT b ws m.since m.due 0 with
        | true => rfl
        | false =>
          show _ ++ [m.num] = List.map _ (_ ++ [m])
          rw [List.map_append]
          rfl
      · have e1 : [m].filter (fun m => decide (m.due = t)) = [] := List.filter_cons_of_neg (by simpa using h)
        rw [if_neg h, e1, List.append_nil, ih]
theorem cell_st {b : Nat} {ws : List Bool} {t : Nat} {ms : List Tm} {p : Nat × Nat} (hd : ∀ m ∈ ms, t < m.due) : cellV (standD b ws t ms) p = (stM b ws t ms p).map (·.num) := by
  suffices H : ∀ n : Nat, cellV (standD b ws t (ms.take n)) p = (stM b ws t (ms.take n) p).map (·.num) by
    have z := H ms.length
    rw [List.take_length] at z
    exact z
  intro n
  induction n with
  | zero => rfl
  | succ n ih =>
    cases e : ms[n]? with
    | none =>
      have hl : ms.length ≤ n := List.getElem?_eq_none_iff.mp e
      rw [List.take_of_length_le (by omega)]
      rw [List.take_of_length_le hl] at ih
      exact ih
    | some m =>
      rw [List.take_add_one, e, Option.toList_some, stand_snoc]
      unfold standStep
      rw [if_pos (hd m (List.mem_of_getElem? e)), cellV_put]
      unfold stM at ih ⊢
      rw [List.filter_append]
      by_cases h : placeT b t m.due = p
      · have e1 : [m].filter (fun m => decide (placeT b t m.due = p)) = [m] := List.filter_cons_of_pos (by simpa using h)
        rw [if_pos h, e1, deq_snoc, h, ih]
        have e2 : levT b t m.due = p.1 := congrArg Prod.fst h
        rw [e2]
        unfold insT insM
        cases sideT b ws m.since m.due p.1 with
        | true => rfl
        | false =>
          show _ ++ [m.num] = List.map _ (_ ++ [m])
          rw [List.map_append]
          rfl
      · have e1 : [m].filter (fun m => decide (placeT b t m.due = p)) = [] := List.filter_cons_of_neg (by simpa using h)
        rw [if_neg h, e1, List.append_nil, ih]
theorem find_one {ms : List Tm} {m : Tm} (nd : (ms.map (·.num)).Nodup) (h : m ∈ ms) : ms.find? (fun x => decide (x.num = m.num)) = some m := by
  induction ms with
  | nil => cases h
  | cons x ms ih =>
    rw [List.map_cons, List.nodup_cons] at nd
    rw [List.find?_cons]
    rcases List.mem_cons.mp h with e | h
    · rw [← e, decide_eq_true rfl]
    · have n : ¬ x.num = m.num := fun z => nd.1 (List.mem_map.mpr ⟨m, h, z.symm⟩)
      rw [decide_eq_false n]
      exact ih nd.2 h
/-- a new timer, or an old one set anew, at the end -/
theorem nodup_end {ms : List Tm} {m : Tm} (nd : (ms.map (·.num)).Nodup) (h : ∀ x ∈ ms, x.num ≠ m.num) : ((ms ++ [m]).map (·.num)).Nodup := by
  rw [List.map_append]
  refine L2.nd_snoc nd fun hm => ?_
  obtain ⟨x, hx, e⟩ := List.mem_map.mp hm
  exact h x hx e
/-- firing a list of timers, one after the other -/
theorem after_list {t : Nat} : ∀ (F ms : List Tm), (ms.map (·.num)).Nodup → (F.map (·.num)).Nodup → (∀ m ∈ F, m ∈ ms) → afterF t ms (F.map (·.num)) = ms.filter (fun m => decide (m.num ∉ F.map (·.num))) ++ F.filterMap (againM t)
  | [], ms, _, _, _ => by
    show ms = ms.filter _ ++ []
    rw [List.append_nil, List.filter_eq_self.mpr fun m _ => by simp]
  | m :: F, ms, nd, ndF, hF => by
    rw [List.map_cons, List.nodup_cons] at ndF
    have hm := hF m (List.mem_cons_self ..)
    have key : fireT t ms m.num = dropT m.num ms ++ (againM t m).toList := by
      unfold fireT
      rw [find_one nd hm]
      show (match m.per with | none => dropT m.num ms | some k => dropT m.num ms ++ [(⟨m.num, t + k, some k, t⟩ : Tm)]) = _
      unfold againM
      cases m.per with
      | none =>
        show dropT m.num ms = dropT m.num ms ++ []
        rw [List.append_nil]
      | some k => rfl
    show afterF t (fireT t ms m.num) (F.map (·.num)) = _
    have nd1 : ((fireT t ms m.num).map (·.num)).Nodup := by
      rw [key]
      have nd0 : ((dropT m.num ms).map (·.num)).Nodup := List.Nodup.sublist (List.Sublist.map _ List.filter_sublist) nd
      cases ea : againM t m with
      | none => simpa using nd0
      | some m' =>
        have en : m'.num = m.num := by
          unfold againM at ea
          cases ep : m.per with
          | none =>
            rw [ep] at ea
            cases ea
          | some k =>
            rw [ep] at ea
            rw [← Option.some.inj ea]
        refine nodup_end nd0 fun x hx => ?_
        rw [en]
        simpa using (List.mem_filter.mp hx).2
    have mem1 : ∀ x ∈ F, x ∈ fireT t ms m.num := fun x hx => by
      rw [key]
      refine List.mem_append_left _ (List.mem_filter.mpr ⟨hF x (List.mem_cons_of_mem _ hx), ?_⟩)
      have n : ¬ x.num = m.num := fun z => ndF.1 (List.mem_map.mpr ⟨x, hx, z⟩)
      simpa using n
    rw [after_list F _ nd1 ndF.2 mem1, key, List.filter_append]
    have e1 : ((againM t m).toList).filter (fun x => decide (x.num ∉ F.map (·.num))) = (againM t m).toList := List.filter_eq_self.mpr fun x hx => by
      cases ea : againM t m with
      | none =>
        rw [ea] at hx
        cases hx
      | some m' =>
        rw [ea] at hx
        have en : m'.num = m.num := by
          unfold againM at ea
          cases ep : m.per with
          | none =>
            rw [ep] at ea
            cases ea
          | some k =>
            rw [ep] at ea
            rw [← Option.some.inj ea]
        have ex : x = m' := List.mem_singleton.mp hx
        rw [ex, en]
        exact decide_eq_true ndF.1
    rw [e1]
    unfold dropT
    rw [List.filter_filter]
    have e2 : ms.filter (fun x => decide (x.num ∉ F.map (·.num)) && decide (x.num ≠ m.num)) = ms.filter fun x => decide (x.num ∉ (m :: F).map (·.num)) := List.filter_congr fun x _ => by
      rw [List.map_cons]
      by_cases c : x.num = m.num
      · have c1 : decide (x.num ≠ m.num) = false := decide_eq_false fun z => z c
        have c2 : decide (x.num ∉ m.num :: F.map (·.num)) = false := decide_eq_false fun z => z (by rw [c]; exact List.mem_cons_self ..)
        rw [c1, c2, Bool.and_false]
      · have c1 : decide (x.num ≠ m.num) = true := decide_eq_true c
        rw [c1, Bool.and_true]
        exact decide_eq_decide.mpr ⟨fun z y => (List.mem_cons.mp y).elim c z, fun z y => z (List.mem_cons_of_mem _ y)⟩
    rw [e2, List.append_assoc]
    congr 1
    cases ea : againM t m with
    | none => rw [List.filterMap_cons_none ea]; rfl
    | some m' => rw [List.filterMap_cons_some ea]; rfl
theorem after_due {b : Nat} {ws : List Bool} {t : Nat} {ms : List Tm} (nd : (ms.map (·.num)).Nodup) : afterF t ms (orderAt b ws t ms) = ms.filter (fun m => decide (m.due ≠ t)) ++ (deq (fun m => sideT b ws m.since m.due 0) (ms.filter fun m => decide (m.due = t))).filterMap (againM t) := by
  rw [order_deq, after_list _ ms nd]
  · congr 1
    refine List.filter_congr fun m hm => ?_
    by_cases c : m.due = t
    · have c1 : decide (m.due ≠ t) = false := decide_eq_false fun z => z c
      rw [c1]
      exact decide_eq_false fun z => z (List.mem_map.mpr ⟨m, mem_deq.mpr (List.mem_filter.mpr ⟨hm, decide_eq_true c⟩), rfl⟩)
    · have c1 : decide (m.due ≠ t) = true := decide_eq_true c
      rw [c1]
      refine decide_eq_true ?_
      intro z
      obtain ⟨x, hx, e⟩ := List.mem_map.mp z
      obtain ⟨h1, h2⟩ := List.mem_filter.mp (mem_deq.mp hx)
      have f1 := find_one nd h1
      have f2 := find_one nd hm
      rw [e, f2] at f1
      have e3 : m = x := Option.some.inj f1
      rw [e3] at c
      exact c (of_decide_eq_true h2)
  · rw [List.Perm.nodup_iff ((deq_perm _ _).map _)]
    exact List.Nodup.sublist (List.Sublist.map _ List.filter_sublist) nd
  · exact fun m hm => (List.mem_filter.mp (mem_deq.mp hm)).1
/-! ### timers that fire again -/
theorem again_of {t : Nat} {m m' : Tm} (h : againM t m = some m') : ∃ k, m.per = some k ∧ m' = ⟨m.num, t + k, some k, t⟩ := by
  unfold againM at h
  cases ep : m.per with
  | none =>
    rw [ep] at h
    cases h
  | some k =>
    rw [ep] at h
    exact ⟨k, rfl, (Option.some.inj h).symm⟩
theorem fireN_nodup {t n : Nat} {ms : List Tm} (nd : (ms.map (·.num)).Nodup) : ((fireT t ms n).map (·.num)).Nodup := by
  have nd0 : ((dropT n ms).map (·.num)).Nodup := List.Nodup.sublist (List.Sublist.map _ List.filter_sublist) nd
  unfold fireT
  split
  · exact nd
  · split
    · exact nd0
    · exact nodup_end nd0 fun x hx => by simpa using (List.mem_filter.mp hx).2
theorem nodup_le {α : Type} [DecidableEq α] : ∀ (l l' : List α), l.Nodup → (∀ x ∈ l, x ∈ l') → l.length ≤ l'.length
  | [], _, _, _ => Nat.zero_le _
  | a :: l, l', nd, h => by
    rw [List.nodup_cons] at nd
    have ha := h a (List.mem_cons_self ..)
    have ih := nodup_le l (l'.erase a) nd.2 fun x hx => (List.mem_erase_of_ne fun e => nd.1 (by rw [← e]; exact hx)).mpr (h x (List.mem_cons_of_mem _ hx))
    rw [List.length_erase_of_mem ha] at ih
    have := List.length_pos_of_mem ha
    rw [List.length_cons]
    omega
/-! ### timers taken out, and fired -/
def DuesOk (ms : List Tm) : Prop := ∀ m ∈ ms, m.since < m.due ∧ m.due < 2 ^ 250
theorem order_few (b : Nat) (ws : List Bool) (t : Nat) (ms : List Tm) : (orderAt b ws t ms).length ≤ ms.length := by
  rw [order_len]
  exact List.length_filter_le _ _
/-- the timers that fire stand in the list, each once -/
structure Firing (t : Nat) (ms : List Tm) (ns : List Nat) : Prop where
  nd : ns.Nodup
  mem : ∀ n ∈ ns, ∃ m ∈ ms, m.num = n
theorem drop_mem {n : Nat} {ms : List Tm} {m : Tm} (h : m ∈ ms) (hn : m.num ≠ n) : m ∈ dropT n ms := List.mem_filter.mpr ⟨h, by simpa using hn⟩
theorem drop_len_lt {n : Nat} {ms : List Tm} (h : ∃ m ∈ ms, m.num = n) : (dropT n ms).length < ms.length := by
  obtain ⟨m, hm, e⟩ := h
  unfold dropT
  exact List.length_filter_lt_length_iff_exists.mpr ⟨m, hm, by simp [e]⟩
theorem fire_some {t n : Nat} {ms : List Tm} {m : Tm} (h : ms.find? (fun x => decide (x.num = n)) = some m) : fireT t ms n = match m.per with
    | none => dropT n ms
    | some k => dropT n ms ++ [⟨n, t + k, some k, t⟩] := by
  unfold fireT
  rw [h]
  try rfl
theorem drop_nodup {n : Nat} {ms : List Tm} (nd : (ms.map (·.num)).Nodup) : ((dropT n ms).map (·.num)).Nodup := by
  unfold dropT
  exact nd.sublist (List.Sublist.map _ List.filter_sublist)
theorem drop_not {n : Nat} {ms : List Tm} : ∀ m ∈ dropT n ms, m.num ≠ n := fun m hm => by simpa using (List.mem_filter.mp hm).2
theorem fire_nodup {t n : Nat} {ms : List Tm} (nd : (ms.map (·.num)).Nodup) : ((fireT t ms n).map (·.num)).Nodup := by
  unfold fireT
  split
  · exact nd
  · split
    · exact drop_nodup nd
    · rw [List.map_append]
      refine nd_snoc (drop_nodup nd) fun h => ?_
      obtain ⟨m, hm, e⟩ := List.mem_map.mp h
      exact drop_not m hm e
theorem fire_num {t n x : Nat} {ms : List Tm} (hx : x ≠ n) (h : ∃ m ∈ ms, m.num = x) : ∃ m ∈ fireT t ms n, m.num = x := by
  obtain ⟨m, hm, e⟩ := h
  unfold fireT
  split
  · exact ⟨m, hm, e⟩
  · split
    · exact ⟨m, drop_mem hm (by omega), e⟩
    · exact ⟨m, List.mem_append_left _ (drop_mem hm (by omega)), e⟩
theorem fire_len {t n : Nat} {ms : List Tm} : (fireT t ms n).length ≤ ms.length := by
  unfold fireT
  split
  · exact Nat.le_refl _
  · rename_i m hf
    have hm := List.mem_of_find?_eq_some hf
    have e : m.num = n := by simpa using List.find?_some hf
    have z := drop_len_lt (n := n) ⟨m, hm, e⟩
    split
    · omega
    · rw [List.length_append]
      show (dropT n ms).length + 1 ≤ _
      omega
/-! ### advancing in parts -/
theorem AdvTo.trans {b : Nat} {ws : List Bool} {s t : Nat} (hst : s ≤ t) {ms ms' ms'' : List Tm} {f f' : List (Nat × List Nat)} (h : AdvTo b ws s ms f ms') (h' : AdvTo b ws t ms' f' ms'') : AdvTo b ws t ms (f ++ f') ms'' := by
  induction h with
  | done _ => exact h'
  | step h1 h2 ok nd few _ ih => exact .step h1 (Nat.le_trans h2 hst) ok nd few (ih h')
theorem AdvTo.uniq {b : Nat} {ws : List Bool} {t : Nat} {ms ms' ms'' : List Tm} {f f' : List (Nat × List Nat)} (h : AdvTo b ws t ms f ms') (h' : AdvTo b ws t ms f' ms'') : f = f' ∧ ms' = ms'' := by
  induction h generalizing f' with
  | done hd =>
    cases h' with
    | done _ => exact ⟨rfl, rfl⟩
    | step h1 h2 _ _ _ _ =>
      obtain ⟨m, hm, e⟩ := List.mem_map.mp (least_some.mp h1).1
      have z := hd m hm
      omega
  | step h1 h2 ok nd few r ih =>
    cases h' with
    | done hd =>
      obtain ⟨m, hm, e⟩ := List.mem_map.mp (least_some.mp h1).1
      have z := hd m hm
      omega
    | step k1 k2 _ _ _ r' =>
      have e := Option.some.inj (h1.symm.trans k1)
      subst e
      obtain ⟨e1, e2⟩ := ih r'
      exact ⟨by rw [e1], e2⟩
/-- advancing to the tick ahead of all due ticks changes nothing -/
theorem AdvTo.none_due {b : Nat} {ws : List Bool} {t : Nat} {ms ms' : List Tm} {f : List (Nat × List Nat)} (h : AdvTo b ws t ms f ms') (hd : ∀ m ∈ ms, t < m.due) : f = [] ∧ ms' = ms := by
  obtain ⟨e1, e2⟩ := h.uniq (.done hd)
  exact ⟨e1, e2⟩
/-- in two parts or in one -/
theorem AdvTo.parts {b : Nat} {ws : List Bool} {s t : Nat} (hst : s ≤ t) {ms ms1 ms2 ms3 : List Tm} {f1 f2 f3 : List (Nat × List Nat)} (h1 : AdvTo b ws s ms f1 ms1) (h2 : AdvTo b ws t ms1 f2 ms2) (h3 : AdvTo b ws t ms f3 ms3) : f3 = f1 ++ f2 ∧ ms3 = ms2 := h3.uniq (h1.trans hst h2)
/-! ### parts of a list put together again -/
theorem min_perm2 {l m : List Nat} (h : l.Perm m) : l.min? = m.min? := by
  cases e : m.min? with
  | none =>
    rw [List.min?_eq_none_iff] at e ⊢
    rw [e] at h
    exact h.eq_nil
  | some x =>
    rw [List.min?_eq_some_iff] at e ⊢
    exact ⟨h.mem_iff.mpr e.1, fun y hy => e.2 y (h.mem_iff.mp hy)⟩
theorem parts_perm {α β : Type} [DecidableEq β] (f : α → β) : ∀ (ks : List β) (l : List α), ks.Nodup → (∀ m ∈ l, f m ∈ ks) → (ks.flatMap fun p => l.filter fun m => decide (f m = p)).Perm l
  | [], [], _, _ => List.Perm.refl _
  | [], m :: _, _, h => by cases h m (List.mem_cons_self ..)
  | k :: ks, l, nd, h => by
    rw [List.nodup_cons] at nd
    rw [List.flatMap_cons]
    have ih := parts_perm f ks (l.filter fun m => !decide (f m = k)) nd.2 fun m hm => by
      obtain ⟨h1, h2⟩ := List.mem_filter.mp hm
      rcases List.mem_cons.mp (h m h1) with e | e
      · rw [decide_eq_true e] at h2
        cases h2
      · exact e
    have e : (ks.flatMap fun p => l.filter fun m => decide (f m = p)) = ks.flatMap fun p => (l.filter fun m => !decide (f m = k)).filter fun m => decide (f m = p) := by
      have z : ∀ (qs : List β), (∀ p ∈ qs, p ≠ k) → (qs.flatMap fun p => l.filter fun m => decide (f m = p)) = qs.flatMap fun p => (l.filter fun m => !decide (f m = k)).filter fun m => decide (f m = p) := by
        intro qs
        induction qs with
        | nil => exact fun _ => rfl
        | cons p qs ih =>
          intro hq
          rw [List.flatMap_cons, List.flatMap_cons, ih fun x hx => hq x (List.mem_cons_of_mem _ hx), List.filter_filter]
          congr 1
          refine List.filter_congr fun m _ => ?_
          have hp := hq p (List.mem_cons_self ..)
          by_cases c : f m = p
          · have c2 : ¬ f m = k := fun y => hp (c.symm.trans y)
            simp [c, hp]
          · simp [c]
      exact z ks fun p hp y => nd.1 (by rw [← y]; exact hp)
    rw [e]
    exact (List.Perm.append_left _ ih).trans (List.filter_append_perm _ _)
theorem flat_perm {α β : Type} {f g : α → List β} : ∀ (ks : List α), (∀ k ∈ ks, (f k).Perm (g k)) → (ks.flatMap f).Perm (ks.flatMap g)
  | [], _ => List.Perm.refl _
  | k :: ks, h => by
    rw [List.flatMap_cons, List.flatMap_cons]
    exact (h k (List.mem_cons_self ..)).append (flat_perm ks fun x hx => h x (List.mem_cons_of_mem _ hx))
/-! ### a wheel made anew from its lists -/
theorem cntS_split {ws : List Bool} {b d k : Nat} : ∀ L, k ≤ L → cntS ws b d 0 L = cntS ws b d k L + cntS ws b d 0 k
  | 0, h => by
    have e : k = 0 := by omega
    rw [e, cntS_high 0 (Nat.le_refl _)]
  | L + 1, h => by
    by_cases e : k = L + 1
    · rw [e, cntS_high (L + 1) (Nat.le_refl _), Nat.zero_add]
    · rw [cntS_succ, cntS_succ, cntS_split (k := k) L (by omega)]
      have e2 : (if d / b ^ L % b ≠ 0 ∧ 0 ≤ L ∧ wordAt ws L = true then 1 else 0) = if d / b ^ L % b ≠ 0 ∧ k ≤ L ∧ wordAt ws L = true then 1 else 0 := by
        by_cases c : d / b ^ L % b ≠ 0 ∧ wordAt ws L = true
        · rw [if_pos ⟨c.1, Nat.zero_le _, c.2⟩, if_pos ⟨c.1, by omega, c.2⟩]
        · rw [if_neg fun z => c ⟨z.1, z.2.2⟩, if_neg fun z => c ⟨z.1, z.2.2⟩]
      rw [e2]
      omega
/-- how often the stacks below a level turn a timer about -/
def turnB (ws : List Bool) (b d k : Nat) : Bool := decide (cntS ws b d 0 k % 2 = 1)
theorem side_turn {b : Nat} {ws : List Bool} {s t d : Nat} (hb : 2 ≤ b) (h : t < d) (hs : s ≤ t) : sideT b ws s d 0 = Bool.xor (sideT b ws s d (levT b t d)) (turnB ws b d (levT b t d)) := by
  have hsd : s < d := Nat.lt_of_le_of_lt hs h
  have hl := lev_mono hb h hs
  rw [side_cnt hb hsd (Nat.zero_le _), side_cnt hb hsd hl, cntS_split _ hl]
  unfold turnB
  generalize cntS ws b d (levT b t d) (levT b s d) = x
  generalize cntS ws b d 0 (levT b t d) = y
  generalize (if wordAt ws (levT b s d) = true then 1 else 0) = z
  by_cases c1 : (x + z) % 2 = 1 <;> by_cases c2 : y % 2 = 1
  · rw [decide_eq_true c1, decide_eq_true c2, decide_eq_false (by omega)]
    rfl
  · rw [decide_eq_true c1, decide_eq_false c2, decide_eq_true (by omega)]
    rfl
  · rw [decide_eq_false c1, decide_eq_true c2, decide_eq_true (by omega)]
    rfl
  · rw [decide_eq_false c1, decide_eq_false c2, decide_eq_false (by omega)]
    rfl
theorem deq_const (c : Bool) (l : List Tm) : deq (fun _ => c) l = if c then l.reverse else l := by
  cases c with
  | true => exact deq_true l
  | false => exact deq_false l
/-- the order of firing, by the list in which the timers stand -/
theorem order_list {b : Nat} {ws : List Bool} {t d : Nat} {ms : List Tm} (hb : 2 ≤ b) (h : t < d) (hs : ∀ m ∈ ms, m.since ≤ t) : orderAt b ws d ms = (deq (fun _ => turnB ws b d (levT b t d)) ((stM b ws t ms (placeT b t d)).filter fun m => decide (m.due = d))).map (·.num) := by
  rw [order_deq]
  congr 1
  unfold stM
  rw [deq_filter, List.filter_filter]
  have e1 : ms.filter (fun m => decide (m.due = d) && decide (placeT b t m.due = placeT b t d)) = ms.filter fun m => decide (m.due = d) := List.filter_congr fun m _ => by
    by_cases c : m.due = d
    · simp [c]
    · simp [c]
  rw [e1, deq_deq]
  refine deq_congr fun m hm => ?_
  obtain ⟨h1, h2⟩ := List.mem_filter.mp hm
  have h2' := of_decide_eq_true h2
  rw [h2']
  show sideT b ws m.since d 0 = Bool.xor (sideT b ws m.since d (placeT b t d).1) _
  exact side_turn hb h (hs m h1)
/-- timers told anew: other numbers, set now -/
def renT (by_ : Nat → Nat) (t : Nat) (m : Tm) : Tm := ⟨by_ m.num, m.due, none, t⟩
theorem deq_map (c : Bool) (g : Tm → Tm) (l : List Tm) : deq (fun _ => c) (l.map g) = (deq (fun _ => c) l).map g := by
  rw [deq_const, deq_const]
  cases c with
  | true =>
    show (l.map g).reverse = l.reverse.map g
    rw [List.map_reverse]
  | false => rfl
/-- the order in which the timers are told: list by list -/
noncomputable def toldT (b : Nat) (ws : List Bool) (t : Nat) (ms : List Tm) (ks : List (Nat × Nat)) : List Tm := ks.flatMap fun k => deq (fun _ => wordAt ws k.1) (stM b ws t ms k)
theorem told_part {b : Nat} {ws : List Bool} {t : Nat} {ms : List Tm} (p : Nat × Nat) : ∀ ks : List (Nat × Nat), ks.Nodup → (toldT b ws t ms ks).filter (fun m => decide (placeT b t m.due = p)) = if p ∈ ks then deq (fun _ => wordAt ws p.1) (stM b ws t ms p) else []
  | [], _ => rfl
  | k :: ks, nd => by
    rw [List.nodup_cons] at nd
    unfold toldT
    rw [List.flatMap_cons, List.filter_append]
    have ih := told_part (b := b) (ws := ws) (t := t) (ms := ms) p ks nd.2
    unfold toldT at ih
    rw [ih]
    have hk : ∀ m ∈ deq (fun _ => wordAt ws k.1) (stM b ws t ms k), placeT b t m.due = k := fun m hm => of_decide_eq_true (List.mem_filter.mp (mem_deq.mp (mem_deq.mp hm))).2
    by_cases c : k = p
    · subst c
      rw [List.filter_eq_self.mpr fun m hm => decide_eq_true (hk m hm), if_neg nd.1, if_pos (List.mem_cons_self ..), List.append_nil]
    · rw [List.filter_eq_nil_iff.mpr fun m hm => by
        rw [hk m hm]
        simpa using c, List.nil_append]
      by_cases c2 : p ∈ ks
      · rw [if_pos c2, if_pos (List.mem_cons_of_mem _ c2)]
      · rw [if_neg c2, if_neg fun z => (List.mem_cons.mp z).elim (fun e => c e.symm) c2]
theorem told_perm {b : Nat} {ws : List Bool} {t : Nat} {ms : List Tm} {ks : List (Nat × Nat)} (nd : ks.Nodup) (hk : ∀ m ∈ ms, placeT b t m.due ∈ ks) : (toldT b ws t ms ks).Perm ms := by
  unfold toldT
  refine (flat_perm ks fun k _ => ?_).trans (parts_perm (fun m : Tm => placeT b t m.due) ks ms nd hk)
  exact (deq_perm _ _).trans (deq_perm _ _)
/-- the lists of the wheel made anew -/
theorem told_lists {b : Nat} {ws : List Bool} {t : Nat} {ms : List Tm} {ks : List (Nat × Nat)} {by_ : Nat → Nat} (hb : 2 ≤ b) (nd : ks.Nodup) (hd : ∀ m ∈ ms, t < m.due) (hk : ∀ m ∈ ms, placeT b t m.due ∈ ks) (p : Nat × Nat) :
    stM b ws t ((toldT b ws t ms ks).map (renT by_ t)) p = (stM b ws t ms p).map (renT by_ t) := by
  have e1 : ((toldT b ws t ms ks).map (renT by_ t)).filter (fun m => decide (placeT b t m.due = p)) = ((toldT b ws t ms ks).filter fun m => decide (placeT b t m.due = p)).map (renT by_ t) := by
    rw [List.filter_map]
    rfl
  have e2 : stM b ws t ((toldT b ws t ms ks).map (renT by_ t)) p = deq (fun _ => wordAt ws p.1) (((toldT b ws t ms ks).filter fun m => decide (placeT b t m.due = p)).map (renT by_ t)) := by
    unfold stM
    rw [e1]
    refine deq_congr fun m hm => ?_
    obtain ⟨m0, hm0, rfl⟩ := List.mem_map.mp hm
    obtain ⟨h1, h2⟩ := List.mem_filter.mp hm0
    have h3 : placeT b t m0.due = p := of_decide_eq_true h2
    have h4 := hd m0 ((told_perm nd hk).mem_iff.mp h1)
    rw [← h3]
    exact side_new hb h4
  rw [e2, told_part p ks nd]
  by_cases c : p ∈ ks
  · rw [if_pos c, deq_map, deq_const, deq_const]
    cases wordAt ws p.1 with
    | true =>
      show ((stM b ws t ms p).reverse.reverse).map _ = _
      rw [List.reverse_reverse]
    | false => rfl
  · rw [if_neg c]
    have e3 : stM b ws t ms p = [] := by
      unfold stM
      rw [List.filter_eq_nil_iff.mpr fun m hm z => c (by rw [← of_decide_eq_true z]; exact hk m hm)]
      rfl
    rw [e3, deq_const]
    cases wordAt ws p.1 <;> rfl
/-- two wheels of which one is the other one told anew -/
structure Twin (b : Nat) (ws : List Bool) (by_ : Nat → Nat) (ms os : List Tm) : Prop where
  dues : (os.map (·.due)).Perm (ms.map (·.due))
  ord : ∀ d, orderAt b ws d os = (orderAt b ws d ms).map by_
  p1 : ∀ m ∈ ms, m.per = none
  p2 : ∀ m ∈ os, m.per = none
theorem twin_made {b : Nat} {ws : List Bool} {t : Nat} {ms : List Tm} {ks : List (Nat × Nat)} {by_ : Nat → Nat} (hb : 2 ≤ b) (nd : ks.Nodup) (hd : ∀ m ∈ ms, t < m.due ∧ m.since ≤ t ∧ m.per = none) (hk : ∀ m ∈ ms, placeT b t m.due ∈ ks) : Twin b ws by_ ms ((toldT b ws t ms ks).map (renT by_ t)) := by
  refine ⟨?_, fun d => ?_, fun m hm => (hd m hm).2.2, fun m hm => ?_⟩
  · rw [List.map_map]
    exact (told_perm nd hk).map _
  · by_cases h : t < d
    · rw [order_list hb h (fun m hm => (hd m hm).2.1), order_list (t := t) hb h (fun m hm => ?_), told_lists hb nd (fun m hm => (hd m hm).1) hk]
      · have e1 : ((stM b ws t ms (placeT b t d)).map (renT by_ t)).filter (fun m => decide (m.due = d)) = ((stM b ws t ms (placeT b t d)).filter fun m => decide (m.due = d)).map (renT by_ t) := by
          rw [List.filter_map]
          rfl
        rw [e1, deq_map, List.map_map, List.map_map]
        rfl
      · obtain ⟨m0, _, rfl⟩ := List.mem_map.mp hm
        exact Nat.le_refl _
    · have z : ∀ l : List Tm, (∀ m ∈ l, t < m.due) → orderAt b ws d l = [] := fun l hl => List.eq_nil_iff_forall_not_mem.mpr fun x hx => by
        obtain ⟨m, h1, h2, _⟩ := order_mem.mp hx
        have := hl m h1
        omega
      rw [z ms fun m hm => (hd m hm).1, z _ fun m hm => ?_]
      · rfl
      · obtain ⟨m0, h0, rfl⟩ := List.mem_map.mp hm
        exact (hd m0 ((told_perm nd hk).mem_iff.mp h0)).1
  · obtain ⟨m0, _, rfl⟩ := List.mem_map.mp hm
    rfl
theorem after_np {b : Nat} {ws : List Bool} {v : Nat} {ms : List Tm} (nd : (ms.map (·.num)).Nodup) (hp : ∀ m ∈ ms, m.per = none) : afterF v ms (orderAt b ws v ms) = ms.filter fun m => decide (m.due ≠ v) := by
  rw [after_due nd]
  have e : (deq (fun m => sideT b ws m.since m.due 0) (ms.filter fun m => decide (m.due = v))).filterMap (againM v) = [] := by
    rw [List.filterMap_eq_nil_iff]
    intro m hm
    unfold againM
    rw [hp m (List.mem_filter.mp (mem_deq.mp hm)).1]
    rfl
  rw [e, List.append_nil]
theorem order_ne {b : Nat} {ws : List Bool} {v d : Nat} {ms : List Tm} : orderAt b ws d (ms.filter fun m => decide (m.due ≠ v)) = if d = v then [] else orderAt b ws d ms := by
  rw [order_deq, order_deq, List.filter_filter]
  by_cases c : d = v
  · rw [if_pos c]
    have e : ms.filter (fun m => decide (m.due = d) && decide (m.due ≠ v)) = [] := List.filter_eq_nil_iff.mpr fun m _ => by
      simp [c]
    rw [e]
    rfl
  · rw [if_neg c]
    congr 2
    refine List.filter_congr fun m _ => ?_
    by_cases c2 : m.due = d
    · simp [c2, c]
    · simp [c2]
theorem Twin.cut {b : Nat} {ws : List Bool} {by_ : Nat → Nat} {ms os : List Tm} (T : Twin b ws by_ ms os) (v : Nat) : Twin b ws by_ (ms.filter fun m => decide (m.due ≠ v)) (os.filter fun m => decide (m.due ≠ v)) := by
  refine ⟨?_, fun d => ?_, fun m hm => T.p1 m (List.mem_filter.mp hm).1, fun m hm => T.p2 m (List.mem_filter.mp hm).1⟩
  · have e : ∀ l : List Tm, (l.filter fun m => decide (m.due ≠ v)).map (·.due) = (l.map (·.due)).filter fun x => decide (x ≠ v) := fun l => by
      rw [List.filter_map]
      rfl
    rw [e, e]
    exact T.dues.filter _
  · rw [order_ne, order_ne]
    by_cases c : d = v
    · rw [if_pos c, if_pos c]
      rfl
    · rw [if_neg c, if_neg c]
      exact T.ord d
theorem twin_adv {b : Nat} {ws : List Bool} {t : Nat} {by_ : Nat → Nat} {ms ms' os os' : List Tm} {f f' : List (Nat × List Nat)} (T : Twin b ws by_ ms os) (h : AdvTo b ws t ms f ms') (h' : AdvTo b ws t os f' os') : f' = f.map (fun r => (r.1, r.2.map by_)) ∧ Twin b ws by_ ms' os' := by
  have lst : ∀ {ms os : List Tm}, Twin b ws by_ ms os → leastD os = leastD ms := fun T => min_perm2 T.dues
  induction h generalizing os f' with
  | done hd =>
    cases h' with
    | done _ => exact ⟨rfl, T⟩
    | step h1 h2 _ _ _ _ =>
      rw [lst T] at h1
      obtain ⟨m, hm, e⟩ := List.mem_map.mp (least_some.mp h1).1
      have z := hd m hm
      omega
  | @step ms ms' at_ rest h1 h2 ok nd few r ih =>
    cases h' with
    | done hd =>
      rw [← lst T] at h1
      obtain ⟨m, hm, e⟩ := List.mem_map.mp (least_some.mp h1).1
      have z := hd m hm
      omega
    | step k1 k2 ok2 nd2 few2 r' =>
      rw [lst T] at k1
      have e := Option.some.inj (h1.symm.trans k1)
      subst e
      rw [after_np nd T.p1] at r ih
      rw [after_np nd2 T.p2] at r'
      obtain ⟨e1, e2⟩ := ih (T.cut at_) r'
      refine ⟨?_, e2⟩
      rw [e1, T.ord at_]
      rfl
def topS (i : Nat) : Stmt := PySem.Challenge.pw_timerdeque_k60_whole_in_parts_and_withou.main.body.getD i (.Pass ⟨0, 0, 0, 0⟩)
abbrev s__wall : Stmt := topS 0
abbrev N__wall : List Str := ["k"]
theorem sc__wall : FnScope N__wall ["k"] (defScope s__wall) := by
  refine ⟨rfl, rfl, rfl, ?_, rfl, ?_, ?_⟩ <;> decide +kernel
abbrev s_is_integer : Stmt := topS 12
abbrev N_is_integer : List Str := ["given"]
theorem sc_is_integer : FnScope N_is_integer ["given"] (defScope s_is_integer) := by
  refine ⟨rfl, rfl, rfl, ?_, rfl, ?_, ?_⟩ <;> decide +kernel
abbrev s_is_word : Stmt := topS 13
abbrev N_is_word : List Str := ["given"]
theorem sc_is_word : FnScope N_is_word ["given"] (defScope s_is_word) := by
  refine ⟨rfl, rfl, rfl, ?_, rfl, ?_, ?_⟩ <;> decide +kernel
abbrev s_is_base : Stmt := topS 14
abbrev N_is_base : List Str := ["given"]
theorem sc_is_base : FnScope N_is_base ["given"] (defScope s_is_base) := by
  refine ⟨rfl, rfl, rfl, ?_, rfl, ?_, ?_⟩ <;> decide +kernel
abbrev s_is_length : Stmt := topS 15
abbrev N_is_length : List Str := ["given"]
theorem sc_is_length : FnScope N_is_length ["given"] (defScope s_is_length) := by
  refine ⟨rfl, rfl, rfl, ?_, rfl, ?_, ?_⟩ <;> decide +kernel
abbrev s_are_levels : Stmt := topS 16
abbrev N_are_levels : List Str := ["given", "word"]
theorem sc_are_levels : FnScope N_are_levels ["given"] (defScope s_are_levels) := by
  refine ⟨rfl, rfl, rfl, ?_, rfl, ?_, ?_⟩ <;> decide +kernel
abbrev s_is_tick : Stmt := topS 17
abbrev N_is_tick : List Str := ["given", "least"]
theorem sc_is_tick : FnScope N_is_tick ["given", "least"] (defScope s_is_tick) := by
  refine ⟨rfl, rfl, rfl, ?_, rfl, ?_, ?_⟩ <;> decide +kernel
abbrev s_is_period : Stmt := topS 18
abbrev N_is_period : List Str := ["given"]
theorem sc_is_period : FnScope N_is_period ["given"] (defScope s_is_period) := by
  refine ⟨rfl, rfl, rfl, ?_, rfl, ?_, ?_⟩ <;> decide +kernel
abbrev s_check_base : Stmt := topS 19
abbrev N_check_base : List Str := ["base"]
theorem sc_check_base : FnScope N_check_base ["base"] (defScope s_check_base) := by
  refine ⟨rfl, rfl, rfl, ?_, rfl, ?_, ?_⟩ <;> decide +kernel
abbrev s_check_levels : Stmt := topS 20
abbrev N_check_levels : List Str := ["levels"]
theorem sc_check_levels : FnScope N_check_levels ["levels"] (defScope s_check_levels) := by
  refine ⟨rfl, rfl, rfl, ?_, rfl, ?_, ?_⟩ <;> decide +kernel
abbrev s_check_tick : Stmt := topS 21
abbrev N_check_tick : List Str := ["tick", "least"]
theorem sc_check_tick : FnScope N_check_tick ["tick", "least"] (defScope s_check_tick) := by
  refine ⟨rfl, rfl, rfl, ?_, rfl, ?_, ?_⟩ <;> decide +kernel
abbrev s_word_at : Stmt := topS 23
abbrev N_word_at : List Str := ["levels", "level"]
theorem sc_word_at : FnScope N_word_at ["levels", "level"] (defScope s_word_at) := by
  refine ⟨rfl, rfl, rfl, ?_, rfl, ?_, ?_⟩ <;> decide +kernel
abbrev s_level_and_size : Stmt := topS 24
abbrev N_level_and_size : List Str := ["base", "now", "due", "level", "size", "above_now", "above_due"]
theorem sc_level_and_size : FnScope N_level_and_size ["base", "now", "due"] (defScope s_level_and_size) := by
  refine ⟨rfl, rfl, rfl, ?_, rfl, ?_, ?_⟩ <;> decide +kernel
abbrev s_path : Stmt := topS 25
abbrev N_path : List Str := ["base", "now", "due", "level", "size", "rows", "tick", "digit"]
theorem sc_path : FnScope N_path ["base", "now", "due"] (defScope s_path) := by
  refine ⟨rfl, rfl, rfl, ?_, rfl, ?_, ?_⟩ <;> decide +kernel
abbrev s_goes_in_front : Stmt := topS 26
abbrev N_goes_in_front : List Str := ["base", "levels", "now", "due", "lowest", "front", "level", "digit", "tick"]
theorem sc_goes_in_front : FnScope N_goes_in_front ["base", "levels", "now", "due", "lowest"] (defScope s_goes_in_front) := by
  refine ⟨rfl, rfl, rfl, ?_, rfl, ?_, ?_⟩ <;> decide +kernel
abbrev s_with_timer : Stmt := topS 27
abbrev N_with_timer : List Str := ["numbers", "number", "front"]
theorem sc_with_timer : FnScope N_with_timer ["numbers", "number", "front"] (defScope s_with_timer) := by
  refine ⟨rfl, rfl, rfl, ?_, rfl, ?_, ?_⟩ <;> decide +kernel
abbrev s_firing_order : Stmt := topS 28
abbrev N_firing_order : List Str := ["base", "levels", "due", "settings", "numbers", "number", "now"]
theorem sc_firing_order : FnScope N_firing_order ["base", "levels", "due", "settings"] (defScope s_firing_order) := by
  refine ⟨rfl, rfl, rfl, ?_, rfl, ?_, ?_⟩ <;> decide +kernel
abbrev s_without_repeats : Stmt := topS 31
abbrev N_without_repeats : List Str := ["levels", "many"]
theorem sc_without_repeats : FnScope N_without_repeats ["levels"] (defScope s_without_repeats) := by
  refine ⟨rfl, rfl, rfl, ?_, rfl, ?_, ?_⟩ <;> decide +kernel
abbrev s_check_period : Stmt := topS 32
abbrev N_check_period : List Str := ["period"]
theorem sc_check_period : FnScope N_check_period ["period"] (defScope s_check_period) := by
  refine ⟨rfl, rfl, rfl, ?_, rfl, ?_, ?_⟩ <;> decide +kernel
abbrev s_order_of_firing : Stmt := topS 33
abbrev N_order_of_firing : List Str := ["base", "levels", "live", "tick", "settings", "number", "due", "period", "since"]
theorem sc_order_of_firing : FnScope N_order_of_firing ["base", "levels", "live", "tick"] (defScope s_order_of_firing) := by
  refine ⟨rfl, rfl, rfl, ?_, rfl, ?_, ?_⟩ <;> decide +kernel
abbrev s_standing : Stmt := topS 34
abbrev N_standing : List Str := ["base", "levels", "live", "tick", "rows", "number", "due", "period", "since", "level", "size", "place", "front", "digit"]
theorem sc_standing : FnScope N_standing ["base", "levels", "live", "tick"] (defScope s_standing) := by
  refine ⟨rfl, rfl, rfl, ?_, rfl, ?_, ?_⟩ <;> decide +kernel
abbrev s_least_due : Stmt := topS 35
abbrev N_least_due : List Str := ["live", "due", "period", "since"]
theorem sc_least_due : FnScope N_least_due ["live"] (defScope s_least_due) := by
  refine ⟨rfl, rfl, rfl, ?_, rfl, ?_, ?_⟩ <;> decide +kernel
abbrev s_after_firing : Stmt := topS 36
abbrev N_after_firing : List Str := ["live", "numbers", "tick", "left", "number", "due", "period", "since"]
theorem sc_after_firing : FnScope N_after_firing ["live", "numbers", "tick"] (defScope s_after_firing) := by
  refine ⟨rfl, rfl, rfl, ?_, rfl, ?_, ?_⟩ <;> decide +kernel
abbrev s__law_cell_at : Stmt := topS 39
abbrev N__law_cell_at : List Str := ["_law_script", "_law_k"]
theorem sc__law_cell_at : FnScope N__law_cell_at ["_law_script", "_law_k"] (defScope s__law_cell_at) := by
  refine ⟨rfl, rfl, rfl, ?_, rfl, ?_, ?_⟩ <;> decide +kernel
abbrev s__law_mixed : Stmt := topS 40
abbrev N__law_mixed : List Str := ["_law_cell", "_law_k", "_law_low"]
theorem sc__law_mixed : FnScope N__law_mixed ["_law_cell", "_law_k"] (defScope s__law_mixed) := by
  refine ⟨rfl, rfl, rfl, ?_, rfl, ?_, ?_⟩ <;> decide +kernel
abbrev s__law_source : Stmt := topS 41
abbrev N__law_source : List Str := ["_law_script", "_law_k", "_law_cell"]
theorem sc__law_source : FnScope N__law_source ["_law_script", "_law_k"] (defScope s__law_source) := by
  refine ⟨rfl, rfl, rfl, ?_, rfl, ?_, ?_⟩ <;> decide +kernel
abbrev s__law_next : Stmt := topS 42
abbrev N__law_next : List Str := ["_law_source_here", "_law_many", "_law_found"]
theorem sc__law_next : FnScope N__law_next ["_law_source_here", "_law_many"] (defScope s__law_next) := by
  refine ⟨rfl, rfl, rfl, ?_, rfl, ?_, ?_⟩ <;> decide +kernel
abbrev s__law_base : Stmt := topS 43
abbrev N__law_base : List Str := ["_law_source_here"]
theorem sc__law_base : FnScope N__law_base ["_law_source_here"] (defScope s__law_base) := by
  refine ⟨rfl, rfl, rfl, ?_, rfl, ?_, ?_⟩ <;> decide +kernel
abbrev s__law_levels : Stmt := topS 44
abbrev N__law_levels : List Str := ["_law_source_here", "_law_many", "_law_sort", "_law_found", "_law_at"]
theorem sc__law_levels : FnScope N__law_levels ["_law_source_here"] (defScope s__law_levels) := by
  refine ⟨rfl, rfl, rfl, ?_, rfl, ?_, ?_⟩ <;> decide +kernel
abbrev s__law_tick : Stmt := topS 45
abbrev N__law_tick : List Str := ["_law_source_here", "_law_base_here", "_law_sort", "_law_size", "_law_at"]
theorem sc__law_tick : FnScope N__law_tick ["_law_source_here", "_law_base_here"] (defScope s__law_tick) := by
  refine ⟨rfl, rfl, rfl, ?_, rfl, ?_, ?_⟩ <;> decide +kernel
abbrev s__law_turned : Stmt := topS 46
abbrev N__law_turned : List Str := ["_law_rows", "_law_by", "_law_row", "_law_number"]
theorem sc__law_turned : FnScope N__law_turned ["_law_rows", "_law_by"] (defScope s__law_turned) := by
  refine ⟨rfl, rfl, rfl, ?_, rfl, ?_, ?_⟩ <;> decide +kernel
abbrev s__law_extra : Stmt := topS 47
abbrev N__law_extra : List Str := ["_law_source_here", "_law_wheel", "_law_last", "_law_some", "_law_number", "_law_at"]
theorem sc__law_extra : FnScope N__law_extra ["_law_source_here", "_law_wheel", "_law_last"] (defScope s__law_extra) := by
  refine ⟨rfl, rfl, rfl, ?_, rfl, ?_, ?_⟩ <;> decide +kernel
abbrev s_law : Stmt := topS 48
abbrev N_law : List Str := ["_law_script", "_law_k", "_law_source_here", "_law_base_here", "_law_levels_here", "_law_now", "_law_handed", "_law_one", "_law_other", "_law_by", "_law_span", "_law_number", "_law_due", "_law_lap", "_law_last", "_law_told", "_law_part", "_law_step"]
theorem sc_law : FnScope N_law ["_law_script"] (defScope s_law) := by
  refine ⟨rfl, rfl, rfl, ?_, rfl, ?_, ?_⟩ <;> decide +kernel
abbrev s_Wheel___init__ : Stmt := inClass (topS 37) 0
abbrev N_Wheel___init__ : List Str := ["self", "base", "levels", "start"]
theorem sc_Wheel___init__ : FnScope N_Wheel___init__ ["self", "base", "levels", "start"] (defScope s_Wheel___init__) := by
  refine ⟨rfl, rfl, rfl, ?_, rfl, ?_, ?_⟩ <;> decide +kernel
abbrev s_Wheel___len__ : Stmt := inClass (topS 37) 1
abbrev N_Wheel___len__ : List Str := ["self"]
theorem sc_Wheel___len__ : FnScope N_Wheel___len__ ["self"] (defScope s_Wheel___len__) := by
  refine ⟨rfl, rfl, rfl, ?_, rfl, ?_, ?_⟩ <;> decide +kernel
abbrev s_Wheel___eq__ : Stmt := inClass (topS 37) 2
abbrev N_Wheel___eq__ : List Str := ["self", "other"]
theorem sc_Wheel___eq__ : FnScope N_Wheel___eq__ ["self", "other"] (defScope s_Wheel___eq__) := by
  refine ⟨rfl, rfl, rfl, ?_, rfl, ?_, ?_⟩ <;> decide +kernel
abbrev s_Wheel_check_timer : Stmt := inClass (topS 37) 3
abbrev N_Wheel_check_timer : List Str := ["self", "timer"]
theorem sc_Wheel_check_timer : FnScope N_Wheel_check_timer ["self", "timer"] (defScope s_Wheel_check_timer) := by
  refine ⟨rfl, rfl, rfl, ?_, rfl, ?_, ?_⟩ <;> decide +kernel
abbrev s_Wheel_now : Stmt := inClass (topS 37) 4
abbrev N_Wheel_now : List Str := ["self"]
theorem sc_Wheel_now : FnScope N_Wheel_now ["self"] (defScope s_Wheel_now) := by
  refine ⟨rfl, rfl, rfl, ?_, rfl, ?_, ?_⟩ <;> decide +kernel
abbrev s_Wheel_put : Stmt := inClass (topS 37) 5
abbrev N_Wheel_put : List Str := ["self", "due", "period", "number"]
theorem sc_Wheel_put : FnScope N_Wheel_put ["self", "due", "period"] (defScope s_Wheel_put) := by
  refine ⟨rfl, rfl, rfl, ?_, rfl, ?_, ?_⟩ <;> decide +kernel
abbrev s_Wheel_cancel : Stmt := inClass (topS 37) 6
abbrev N_Wheel_cancel : List Str := ["self", "timer"]
theorem sc_Wheel_cancel : FnScope N_Wheel_cancel ["self", "timer"] (defScope s_Wheel_cancel) := by
  refine ⟨rfl, rfl, rfl, ?_, rfl, ?_, ?_⟩ <;> decide +kernel
abbrev s_Wheel_reset : Stmt := inClass (topS 37) 7
abbrev N_Wheel_reset : List Str := ["self", "timer", "due", "before", "period", "since"]
theorem sc_Wheel_reset : FnScope N_Wheel_reset ["self", "timer", "due"] (defScope s_Wheel_reset) := by
  refine ⟨rfl, rfl, rfl, ?_, rfl, ?_, ?_⟩ <;> decide +kernel
abbrev s_Wheel_due : Stmt := inClass (topS 37) 8
abbrev N_Wheel_due : List Str := ["self", "timer"]
theorem sc_Wheel_due : FnScope N_Wheel_due ["self", "timer"] (defScope s_Wheel_due) := by
  refine ⟨rfl, rfl, rfl, ?_, rfl, ?_, ?_⟩ <;> decide +kernel
abbrev s_Wheel_timers : Stmt := inClass (topS 37) 9
abbrev N_Wheel_timers : List Str := ["self"]
theorem sc_Wheel_timers : FnScope N_Wheel_timers ["self"] (defScope s_Wheel_timers) := by
  refine ⟨rfl, rfl, rfl, ?_, rfl, ?_, ?_⟩ <;> decide +kernel
abbrev s_Wheel_advance : Stmt := inClass (topS 37) 10
abbrev N_Wheel_advance : List Str := ["self", "tick", "fired", "many", "live", "at", "numbers"]
theorem sc_Wheel_advance : FnScope N_Wheel_advance ["self", "tick"] (defScope s_Wheel_advance) := by
  refine ⟨rfl, rfl, rfl, ?_, rfl, ?_, ?_⟩ <;> decide +kernel
abbrev s_Wheel_lists : Stmt := inClass (topS 37) 11
abbrev N_Wheel_lists : List Str := ["self"]
theorem sc_Wheel_lists : FnScope N_Wheel_lists ["self"] (defScope s_Wheel_lists) := by
  refine ⟨rfl, rfl, rfl, ?_, rfl, ?_, ?_⟩ <;> decide +kernel
abbrev s_Wheel_firing : Stmt := inClass (topS 37) 12
abbrev N_Wheel_firing : List Str := ["self", "tick"]
theorem sc_Wheel_firing : FnScope N_Wheel_firing ["self", "tick"] (defScope s_Wheel_firing) := by
  refine ⟨rfl, rfl, rfl, ?_, rfl, ?_, ?_⟩ <;> decide +kernel
abbrev s_Wheel_lists_at : Stmt := inClass (topS 37) 13
abbrev N_Wheel_lists_at : List Str := ["self", "tick"]
theorem sc_Wheel_lists_at : FnScope N_Wheel_lists_at ["self", "tick"] (defScope s_Wheel_lists_at) := by
  refine ⟨rfl, rfl, rfl, ?_, rfl, ?_, ?_⟩ <;> decide +kernel
abbrev s_Wheel_restoring : Stmt := inClass (topS 37) 14
abbrev N_Wheel_restoring : List Str := ["self", "rows", "level", "digit", "numbers", "number"]
theorem sc_Wheel_restoring : FnScope N_Wheel_restoring ["self"] (defScope s_Wheel_restoring) := by
  refine ⟨rfl, rfl, rfl, ?_, rfl, ?_, ?_⟩ <;> decide +kernel
abbrev s_Wheel_snapshot : Stmt := inClass (topS 37) 15
abbrev N_Wheel_snapshot : List Str := ["self", "rows", "number", "due"]
theorem sc_Wheel_snapshot : FnScope N_Wheel_snapshot ["self"] (defScope s_Wheel_snapshot) := by
  refine ⟨rfl, rfl, rfl, ?_, rfl, ?_, ?_⟩ <;> decide +kernel
abbrev s_Wheel_next_event : Stmt := inClass (topS 37) 16
abbrev N_Wheel_next_event : List Str := ["self"]
theorem sc_Wheel_next_event : FnScope N_Wheel_next_event ["self"] (defScope s_Wheel_next_event) := by
  refine ⟨rfl, rfl, rfl, ?_, rfl, ?_, ?_⟩ <;> decide +kernel
abbrev s_Wheel_next_firing : Stmt := inClass (topS 37) 17
abbrev N_Wheel_next_firing : List Str := ["self"]
theorem sc_Wheel_next_firing : FnScope N_Wheel_next_firing ["self"] (defScope s_Wheel_next_firing) := by
  refine ⟨rfl, rfl, rfl, ?_, rfl, ?_, ?_⟩ <;> decide +kernel
abbrev s_Wheel_moves_until : Stmt := inClass (topS 37) 18
abbrev N_Wheel_moves_until : List Str := ["self", "tick"]
theorem sc_Wheel_moves_until : FnScope N_Wheel_moves_until ["self", "tick"] (defScope s_Wheel_moves_until) := by
  refine ⟨rfl, rfl, rfl, ?_, rfl, ?_, ?_⟩ <;> decide +kernel
/-- what the top leaves of built-in names -/
structure Tx (K : PySem.W.Frag) (mg : Str → Option Value) : Prop where
  b_isinstance : mg "isinstance" = none
  b_int : mg "int" = none
  b_bool : mg "bool" = none
  b_str : mg "str" = none
  b_all : mg "all" = none
  b_list : mg "list" = none
  b_len : mg "len" = none
  b_min : mg "min" = none
  b_sorted : mg "sorted" = none
  b_dict : mg "dict" = none
  b_range : mg "range" = none
  b_max : mg "max" = none
/-! ### the program: what an integer is, bases, ticks -/
def slotInt (σ : L2.St) (i : Nat) : Nat := match σ[i]? with
  | some (some (.int z)) => z.toNat
  | _ => 0
theorem cast_div (a b : Nat) : (a : Int) / (b : Int) = ((a / b : Nat) : Int) := rfl
theorem cast_mod (a b : Nat) : (a : Int) % (b : Int) = ((a % b : Nat) : Int) := rfl
theorem cast_mul (a b : Nat) : (a : Int) * (b : Int) = ((a * b : Nat) : Int) := (Int.natCast_mul a b).symm
theorem cast_add (a b : Nat) : (a : Int) + (b : Int) = ((a + b : Nat) : Int) := rfl
theorem natAbs_cast (a : Nat) : ((a : Nat) : Int).natAbs = a := rfl
theorem divp_s {i j : Int} (b : Nat) (hj : 0 < j) (hi : i.natAbs < 2 ^ b) (h : b ≤ 3000 := by decide) : CDivP i j := by
  refine divp_ok hj ?_
  have := PyProof.Rows.intBits_le hi
  omega
section
variable {P : Program} {w : World} {K : PySem.W.Frag} {mg : Str → Option Value} {base : Heap}
def spIsInt : Sp := fun vs H Q _ => ∃ n : Int, vs = [.int n] ∧ Q (.bl true) H
theorem ok_is_integer {f : Addr} {fd : FuncData} (F : Fun K "is_integer" "is_integer" s_is_integer f fd) (T : Tx K mg) : FnOk P w K mg base CX0 1 f fd ["given"] spIsInt := by
  refine F.ok sc_is_integer (fun vs H Q E h => ?_) (fun cdv A outer s H vs Q E hr h => ?_)
  · obtain ⟨n, rfl, _⟩ := h
    rfl
  · obtain ⟨n, rfl, q⟩ := h
    refine ⟨_, (pss_one (ps_ret (pe_and (pe_callB (isiK (K := K) rfl) (by rfl) T.b_isinstance (by decide +kernel) (pa_cons (pv 0) (pa_cons (pe_bltn (v := .ty "int") (u := .type "int") (by rfl) T.b_int (by decide +kernel) rfl) pa_nil))) (pe_one (pe_not (pe_callB (isiK (K := K) rfl) (by rfl) T.b_isinstance (by decide +kernel) (pa_cons (pv 0) (pa_cons (pe_bltn (v := .ty "bool") (u := .type "bool") (by rfl) T.b_bool (by decide +kernel) rfl) pa_nil)))))))), ?_⟩
    refine ⟨.int n, rfl, .int n, _, _, _, true, rfl, .ty "int", .base (.int n), kit_ty (by decide +kernel), true, rfl, iteT ?_⟩
    exact ⟨.int n, rfl, .int n, _, _, _, false, rfl, .ty "bool", .base (.int n), kit_ty (by decide +kernel), false, rfl, q⟩
end
/-! a tick, of an integer -/
section
variable {P : Program} {w : World} {K : PySem.W.Frag} {mg : Str → Option Value} {base : Heap}
def spIsTick : Sp := fun vs H Q _ => ∃ n l : Int, vs = [.int n, .int l] ∧ l ≤ n ∧ Q (.bl true) H
theorem ok_is_tick {f : Addr} {fd : FuncData} (F : FunD K "is_tick" "is_tick" (defArgs s_is_tick) (defBody s_is_tick) (defScope s_is_tick) [.int 0] [] f fd) (T : Tx K mg) (h1 : Has P w K mg base 1 "is_integer" ["given"] [] spIsInt) : FnOk P w K mg base CX0 2 f fd ["given", "least"] spIsTick := by
  obtain ⟨f_is_integer, fd_is_integer, ds_is_integer, G_is_integer, m_is_integer, k_is_integer, b_is_integer, v_is_integer⟩ := h1
  refine F.ok sc_is_tick (fun vs H Q E h => ?_) (fun cdv A outer s H vs Q E hr h => ?_)
  · obtain ⟨n, l, rfl, _⟩ := h
    rfl
  · obtain ⟨n, l, rfl, l1, q⟩ := h
    refine ⟨_, PSs.nox (pss_one (ps_ret (pe_and (pe_call G_is_integer hr (by rfl) m_is_integer k_is_integer b_is_integer v_is_integer pass0 (pa_cons (pv 0) pa_nil)) (pe_one (pe_cmpR op_ge (pv 0) (pv 1) (nomark _)))))), ?_⟩
    refine ⟨.int n, rfl, n, rfl, true, rfl, iteT ?_⟩
    refine ⟨.int n, rfl, .int l, rfl, n, l, rfl, rfl, ?_⟩
    have e : V.bl (decide (n ≥ l)) = V.bl true := dT l1
    show Q (V.bl (decide (n ≥ l))) H
    rw [e]
    exact q
end
/-! ### bases and ticks -/
section
variable {P : Program} {w : World} {K : PySem.W.Frag} {mg : Str → Option Value} {base : Heap}
def spIsBase : Sp := fun vs H Q _ => ∃ n : Int, vs = [.int n] ∧ 2 ≤ n ∧ n ≤ 64 ∧ Q (.bl true) H
theorem ok_is_base {f : Addr} {fd : FuncData} (F : Fun K "is_base" "is_base" s_is_base f fd) (h1 : Has P w K mg base 1 "is_integer" ["given"] [] spIsInt) : FnOk P w K mg base CX0 2 f fd ["given"] spIsBase := by
  obtain ⟨f_is_integer, fd_is_integer, ds_is_integer, G_is_integer, m_is_integer, k_is_integer, b_is_integer, v_is_integer⟩ := h1
  refine F.ok sc_is_base (fun vs H Q E h => ?_) (fun cdv A outer s H vs Q E hr h => ?_)
  · obtain ⟨n, rfl, _⟩ := h
    rfl
  · obtain ⟨n, rfl, l1, l2, q⟩ := h
    refine ⟨_, (pss_one (ps_ret (pe_and (pe_call G_is_integer hr (by rfl) m_is_integer k_is_integer b_is_integer v_is_integer pass0 (pa_cons (pv 0) pa_nil)) (pe_one (pe_chain op_le op_le pe_int (pv 0) pe_int))))), ?_⟩
    refine ⟨.int n, rfl, n, rfl, true, rfl, iteT ?_⟩
    refine ⟨.int n, rfl, 2, n, rfl, rfl, true, congrArg V.bl (decide_eq_true l1), iteT ?_⟩
    refine ⟨n, 64, rfl, rfl, ?_⟩
    have e : V.bl (decide (n ≤ 64)) = V.bl true := dT l2
    show Q (V.bl (decide (n ≤ 64))) H
    rw [e]
    exact q
def spCheckBase : Sp := fun vs H Q _ => ∃ n : Int, vs = [.int n] ∧ 2 ≤ n ∧ n ≤ 64 ∧ Q .non H
theorem ok_check_base {f : Addr} {fd : FuncData} (F : Fun K "check_base" "check_base" s_check_base f fd) (h1 : Has P w K mg base 2 "is_base" ["given"] [] spIsBase) : FnOk P w K mg base CX0 3 f fd ["base"] spCheckBase := by
  obtain ⟨f_is_base, fd_is_base, ds_is_base, G_is_base, m_is_base, k_is_base, b_is_base, v_is_base⟩ := h1
  refine F.ok sc_check_base (fun vs H Q E h => ?_) (fun cdv A outer s H vs Q E hr h => ?_)
  · obtain ⟨n, rfl, _⟩ := h
    rfl
  · obtain ⟨n, rfl, l1, l2, q⟩ := h
    refine ⟨_, (pss_one (ps_if (pt_not (pt_val (pe_call G_is_base hr (by rfl) m_is_base k_is_base b_is_base v_is_base pass0 (pa_cons (pv 0) pa_nil))))
        (pss_one ps_never)
        pss_nil)), ?_⟩
    exact ⟨.int n, rfl, n, rfl, l1, l2, true, rfl, iteF q⟩
def spCheckTick : Sp := fun vs H Q _ => ∃ n l : Int, vs = [.int n, .int l] ∧ l ≤ n ∧ Q .non H
theorem ok_check_tick {f : Addr} {fd : FuncData} (F : FunD K "check_tick" "check_tick" (defArgs s_check_tick) (defBody s_check_tick) (defScope s_check_tick) [.int 0] [] f fd) (h1 : Has P w K mg base 2 "is_tick" ["given", "least"] [] spIsTick) : FnOk P w K mg base CX0 3 f fd ["tick", "least"] spCheckTick := by
  obtain ⟨f_is_tick, fd_is_tick, ds_is_tick, G_is_tick, m_is_tick, k_is_tick, b_is_tick, v_is_tick⟩ := h1
  refine F.ok sc_check_tick (fun vs H Q E h => ?_) (fun cdv A outer s H vs Q E hr h => ?_)
  · obtain ⟨n, l, rfl, _⟩ := h
    rfl
  · obtain ⟨n, l, rfl, l1, q⟩ := h
    refine ⟨_, PSs.nox (pss_one (ps_if (pt_not (pt_val (pe_call G_is_tick hr (by rfl) m_is_tick k_is_tick b_is_tick v_is_tick pass0 (pa_cons (pv 0) (pa_cons (pv 1) pa_nil)))))
        (pss_one ps_never)
        pss_nil)), ?_⟩
    exact ⟨.int n, rfl, .int l, rfl, n, l, rfl, l1, true, rfl, iteF q⟩
end
/-! ### the program: level_and_size, path -/
section
variable {P : Program} {w : World} {K : PySem.W.Frag} {mg : Str → Option Value} {base : Heap}
/-! the level -/
def spLevel : Sp := fun vs H Q _ => ∃ b n d : Nat, vs = [.int b, .int n, .int d] ∧ 2 ≤ b ∧ b ≤ 64 ∧ n < d ∧ d < 2 ^ 250 ∧ ∀ k, IsLev b n d k → ∀ H' p, Same H H' → H p = none → H' p = some (.tup [.int (k : Nat), .int ((b ^ k : Nat) : Int)]) → Q (.ref p) H'
theorem ok_level_and_size {f : Addr} {fd : FuncData} (F : Fun K "level_and_size" "level_and_size" s_level_and_size f fd) : FnOk P w K mg base CX0 1 f fd ["base", "now", "due"] spLevel := by
  refine F.ok sc_level_and_size (fun vs H Q E h => ?_) (fun cdv A outer s H vs Q E hr h => ?_)
  · obtain ⟨b, n, d, rfl, _⟩ := h
    rfl
  · obtain ⟨b, n, d, rfl, hb, hb64, hnd, hd, q⟩ := h
    have cb : ∀ x : Nat, NDiv x b := fun x => ndiv 7 (by omega) (by omega)
    refine ⟨_, (pss_cons (ps_asg (pe_tup (pa_cons pe_int (pa_cons pe_int pa_nil))) (pg_tupK (K := K) (n := 2) rfl rfl (pgs_cons (pg_name (i := 3) sc_level_and_size.nd rfl (.inl rfl)) (pgs_cons (pg_name (i := 4) sc_level_and_size.nd rfl (.inl rfl)) pgs_nil))))
      (pss_cons (ps_par (i := 5) (j := 6) (by rfl) sc_level_and_size.nd rfl rfl (by decide) rfl rfl (pa_cons (pe_op op_divN (pv 1) (pv 0)) (pa_cons (pe_op op_divN (pv 2) (pv 0)) pa_nil)) (by rfl))
      (pss_cons (ps_while PassesOwn.never (pt_cmpR op_ne (pv 5) (pv 6) (nomark _))
        (pss_cons (ps_par (i := 5) (j := 6) (by rfl) sc_level_and_size.nd rfl rfl (by decide) rfl rfl (pa_cons (pe_op op_divN (pv 5) (pv 0)) (pa_cons (pe_op op_divN (pv 6) (pv 0)) pa_nil)) (by rfl))
        (pss_one (ps_par (i := 3) (j := 4) (by rfl) sc_level_and_size.nd rfl rfl (by decide) rfl rfl (pa_cons (pe_op op_addN (pv 3) pe_int) (pa_cons (pe_op op_mulN (pv 4) (pv 0)) pa_nil)) (by rfl)))))
      (pss_one (ps_ret (pe_tup (pa_cons (pv 3) (pa_cons (pv 4) pa_nil)))))))), ?_⟩
    refine ⟨by simp [sizeLine_eq], fun t hT => ⟨t, _, rfl, .inl (.inl upd_same), rfl, _, _, rfl, _, _, rfl, rfl, ?_⟩⟩
    refine ⟨_, rfl, _, rfl, _, _, rfl, rfl, cb _, _, rfl, _, rfl, _, _, rfl, rfl, cb _, _, _, rfl, ?_⟩
    refine while_by (fun σ H' => ∃ k : Nat, σ = [some (.int (b : Int)), some (.int (n : Int)), some (.int (d : Int)), some (.int (k : Int)), some (.int ((b ^ k : Nat) : Int)), some (.int ((n / b ^ (k + 1) : Nat) : Int)), some (.int ((d / b ^ (k + 1) : Nat) : Int))] ∧ Same H H' ∧ ∀ j, j < k → n / b ^ (j + 1) ≠ d / b ^ (j + 1))
      (fun σ _ => slotInt σ 6) ⟨0, ?_, same_upd hT, fun j hj => absurd hj (Nat.not_lt_zero j)⟩ ?_ ?_
    · rw [Nat.zero_add, Nat.pow_one]
      rfl
    · rintro σ H' ⟨k, rfl, sm, hk⟩
      by_cases hne : n / b ^ (k + 1) = d / b ^ (k + 1)
      · refine ⟨_, rfl, _, rfl, rfl, false, ?_, iteF ?_⟩
        · rw [hne, decide_eq_true rfl]
          rfl
        · refine ⟨_, rfl, _, rfl, by simp [sizeLine_eq], fun p hp => ?_⟩
          exact q k ⟨hne, hk⟩ _ p (sm.trans (same_upd hp)) (sm.free hp) upd_same
      · have h2 : n / b ^ (k + 1) ≤ d / b ^ (k + 1) := Nat.div_le_div_right (Nat.le_of_lt hnd)
        have hpos : 0 < d / b ^ (k + 1) := pos_of h2 hne
        refine ⟨_, rfl, _, rfl, rfl, true, ?_, iteT ?_⟩
        · rw [int_ne hne]
          rfl
        · refine ⟨_, rfl, _, rfl, _, _, rfl, rfl, cb _, _, rfl, _, rfl, _, _, rfl, rfl, cb _, _, _, rfl, ?_⟩
          refine ⟨_, rfl, k, 1, rfl, rfl, trivial, _, rfl, _, rfl, _, _, rfl, rfl, nmul_r (by omega), _, _, rfl, ?_⟩
          have hlt : d / b ^ (k + 1) / b < d / b ^ (k + 1) := Nat.div_lt_self hpos (by omega)
          refine ⟨⟨k + 1, ?_, sm, fun j hj => ?_⟩, ?_⟩
          · rw [div_succ n b (k + 1), div_succ d b (k + 1), Nat.pow_succ b k]
            rfl
          · by_cases e : j = k
            · rw [e]
              exact hne
            · exact hk j (by omega)
          · show (((d / b ^ (k + 1) / b : Nat) : Int)).toNat < (((d / b ^ (k + 1) : Nat) : Int)).toNat
            rw [Int.toNat_natCast, Int.toNat_natCast]
            exact hlt
    · rintro σ H' Q1 Q2 h ⟨x, hx, y, hy, hs, k, e, z⟩
      exact ⟨x, hx, y, hy, hs, k, e, h _ _ z⟩
/-! the stations -/
def rowV (r : Row3) : List V := [.int (r.1 : Nat), .int (r.2.1 : Nat), .int (r.2.2 : Nat)]
/-- at the places ts stand the rows rs, each a tuple of three -/
def RowsAt (H : Hp) : List Addr → List Row3 → Prop
  | [], [] => True
  | t :: ts, r :: rs => H t = some (.tup (rowV r)) ∧ RowsAt H ts rs
  | _, _ => False
theorem RowsAt.same {H H' : Hp} (s : Same H H') : ∀ {ts : List Addr} {rs : List Row3}, RowsAt H ts rs → RowsAt H' ts rs
  | [], [], h => h
  | _ :: _, _ :: _, h => ⟨s _ _ h.1, h.2.same s⟩
  | [], _ :: _, h => h
  | _ :: _, [], h => h
theorem RowsAt.app {H : Hp} {t : Addr} {r : Row3} : ∀ {ts : List Addr} {rs : List Row3}, RowsAt H ts rs → H t = some (.tup (rowV r)) → RowsAt H (ts ++ [t]) (rs ++ [r])
  | [], [], _, h => ⟨h, trivial⟩
  | _ :: _, _ :: _, h, h2 => ⟨h.1, h.2.app h2⟩
  | [], _ :: _, h, _ => h.elim
  | _ :: _, [], h, _ => h.elim
theorem RowsAt.len {H : Hp} : ∀ {ts : List Addr} {rs : List Row3}, RowsAt H ts rs → ts.length = rs.length
  | [], [], _ => rfl
  | _ :: _, _ :: _, h => congrArg Nat.succ h.2.len
  | [], _ :: _, h => h.elim
  | _ :: _, [], h => h.elim
theorem RowsAt.upd {H : Hp} {p : Addr} {xs : List V} {o : HO} (hp : H p = some (.lst xs)) : ∀ {ts : List Addr} {rs : List Row3}, RowsAt H ts rs → RowsAt (upd H p o) ts rs
  | [], [], h => h
  | t :: _, _ :: _, h => ⟨by rw [upd_ne (ne_of h.1 hp (by intro z; cases z))]; exact h.1, h.2.upd hp⟩
  | [], _ :: _, h => h
  | _ :: _, [], h => h
theorem RowsAt.get {H : Hp} : ∀ {ts : List Addr} {rs : List Row3} {i : Nat} {t : Addr}, RowsAt H ts rs → ts[i]? = some t → ∃ r, rs[i]? = some r ∧ H t = some (.tup (rowV r))
  | t :: _, r :: _, 0, _, h, e => ⟨r, rfl, by cases Option.some.inj e; exact h.1⟩
  | _ :: _, _ :: _, i + 1, _, h, e => h.2.get (i := i) e
  | [], _, _, _, _, e => by simp at e
  | _ :: _, [], _, _, h, _ => h.elim
def spPath : Sp := fun vs H Q _ => ∃ b n d : Nat, vs = [.int b, .int n, .int d] ∧ 2 ≤ b ∧ b ≤ 64 ∧ n < d ∧ d < 2 ^ 250 ∧ ∀ k, IsLev b n d k → ∀ H' p ts, Same H H' → H p = none → H' p = some (.lst (ts.map V.ref)) → RowsAt H' ts (rowsOf b n d k) → Q (.ref p) H'
theorem ok_path {f : Addr} {fd : FuncData} (F : Fun K "path" "path" s_path f fd) (h1 : Has P w K mg base 1 "level_and_size" ["base", "now", "due"] [] spLevel) : FnOk P w K mg base CX0 2 f fd ["base", "now", "due"] spPath := by
  obtain ⟨f_level_and_size, fd_level_and_size, ds_level_and_size, G_level_and_size, m_level_and_size, k_level_and_size, b_level_and_size, v_level_and_size⟩ := h1
  refine F.ok sc_path (fun vs H Q E h => ?_) (fun cdv A outer s H vs Q E hr h => ?_)
  · obtain ⟨b, n, d, rfl, _⟩ := h
    rfl
  · obtain ⟨b, n, d, rfl, hb, hb64, hnd, hd, q⟩ := h
    have cb : ∀ x : Nat, NDiv x b := fun x => ndiv 7 (by omega) (by omega)
    have hb0 : 0 < b := by omega
    refine ⟨_, (pss_cons (ps_asg (pe_call G_level_and_size hr (by rfl) m_level_and_size k_level_and_size b_level_and_size v_level_and_size pass0 (pa_cons (pv 0) (pa_cons (pv 1) (pa_cons (pv 2) pa_nil)))) (pg_tupK (K := K) (n := 2) rfl rfl (pgs_cons (pg_name (i := 3) sc_path.nd rfl (.inl rfl)) (pgs_cons (pg_name (i := 4) sc_path.nd rfl (.inl rfl)) pgs_nil))))
      (pss_cons (ps_set (i := 5) sc_path.nd rfl (.inl rfl) (pe_lst (pa_cons (pe_tup (pa_cons (pv 3) (pa_cons (pe_op op_remN (pe_op op_divN (pv 2) (pv 4)) (pv 0)) (pa_cons (pv 1) pa_nil)))) pa_nil)))
      (pss_cons (ps_while PassesOwn.never (pt_cmpR op_gt (pv 3) pe_int (nomark _))
        (pss_cons (ps_set (i := 6) sc_path.nd rfl (.inl rfl) (pe_op op_mulN (pe_op op_divN (pv 2) (pv 4)) (pv 4)))
        (pss_cons (ps_par (i := 3) (j := 4) (by rfl) sc_path.nd rfl rfl (by decide) rfl rfl (pa_cons (pe_op op_subN (pv 3) pe_int) (pa_cons (pe_op op_divN (pv 4) (pv 0)) pa_nil)) (by rfl))
        (pss_cons (ps_set (i := 7) sc_path.nd rfl (.inl rfl) (pe_op op_remN (pe_op op_divN (pv 2) (pv 4)) (pv 0)))
        (pss_one (ps_if (pt_cmpR op_ne (pv 7) pe_int (nomark _))
          (pss_one (ps_expr (pe_bm PySem.F.plainAttrs_list PySem.F.slot_list_append PySem.F.type_list_append mt_append (pv 5) (pa_cons (pe_tup (pa_cons (pv 3) (pa_cons (pv 7) (pa_cons (pv 6) pa_nil)))) pa_nil))))
          pss_nil))))))
      (pss_one (ps_ret (pv 5)))))), ?_⟩
    refine ⟨_, rfl, _, rfl, _, rfl, b, n, d, rfl, hb, hb64, hnd, hd, fun k hk H0 t0 s0 ht0 eT0 => ?_⟩
    have hkd : ∀ j, j ≤ k → b ^ j ≤ d := fun j hj => Nat.le_trans (Nat.pow_le_pow_right (by omega) hj) (hk.size hb hnd)
    have hk250 : k < 250 := lev_small hk hb hnd hd
    have cs : ∀ j, j ≤ k → ∀ x : Nat, NDiv x (b ^ j) := fun j hj x => ndiv 250 (pow_pos' hb j) (Nat.lt_of_le_of_lt (hkd j hj) hd)
    -- level, size = ..
    refine ⟨t0, _, rfl, .inl (.inl eT0), rfl, _, _, rfl, _, _, rfl, rfl, ?_⟩
    -- rows = [(level, due // size % base, now)]
    refine ⟨_, rfl, _, rfl, _, rfl, _, _, rfl, rfl, cs k (Nat.le_refl k) _, _, rfl, _, _, rfl, rfl, hb0, _, rfl, by simp [sizeLine_eq], fun t1 ht1 => ?_⟩
    have s1 := s0.trans (same_upd (o := .tup (rowV (k, d / b ^ k % b, n))) ht1)
    refine ⟨by simp [sizeLine_eq], fun p hp => ?_⟩
    have s2 := s1.trans (same_upd (o := .lst [.ref t1]) hp)
    have np1 : t1 ≠ p := fun e => by
      rw [← e, upd_same] at hp
      cases hp
    have hpH : H p = none := s1.free hp
    refine while_by (fun σ H' => ∃ (j : Nat) (ts : List Addr) (done : List Row3) (y6 y7 : Option V), σ = [some (.int (b : Int)), some (.int (n : Int)), some (.int (d : Int)), some (.int (j : Int)), some (.int ((b ^ j : Nat) : Int)), some (.ref p), y6, y7] ∧ j ≤ k ∧ ts.length + j ≤ k + 1 ∧ Same H H' ∧ H' p = some (.lst (ts.map V.ref)) ∧ RowsAt H' ts ((k, d / b ^ k % b, n) :: done) ∧ tailOf b d k = done ++ tailOf b d j)
      (fun σ _ => slotInt σ 3) ⟨k, [t1], [], none, none, rfl, Nat.le_refl k, by simp; omega, s2, upd_same, ⟨?_, trivial⟩, rfl⟩ ?_ ?_
    · rw [upd_ne np1, upd_same]
      rfl
    · rintro σ H' ⟨j, ts, done, y6, y7, rfl, hjk, hlen, sm, eL, R, et⟩
      cases j with
      | zero =>
        refine ⟨_, rfl, ((0 : Nat) : Int), 0, rfl, rfl, false, rfl, iteF ?_⟩
        refine ⟨_, rfl, q k hk H' p ts sm hpH eL ?_⟩
        have e : done = tailOf b d k := by
          rw [et]
          exact (List.append_nil done).symm
        rw [e] at R
        exact R
      | succ j =>
        have hj0 : (0 : Int) < ((j + 1 : Nat) : Int) := by omega
        refine ⟨_, rfl, _, _, rfl, rfl, true, congrArg V.bl (decide_eq_true hj0), iteT ?_⟩
        -- tick = due // size * size
        refine ⟨_, rfl, _, rfl, _, _, rfl, rfl, cs (j + 1) hjk _, _, rfl, _, _, rfl, rfl, nmul_w 250 250 (Nat.lt_of_le_of_lt (Nat.div_le_self d _) hd) (Nat.lt_of_le_of_lt (hkd (j + 1) hjk) hd), ?_⟩
        -- level, size = level - 1, size // base
        refine ⟨_, rfl, j + 1, 1, rfl, rfl, Nat.le_add_left 1 j, _, rfl, _, rfl, b ^ (j + 1), b, rfl, rfl, cb _, .int (j : Nat), .int ((b ^ j : Nat) : Int), ?_, ?_⟩
        · show [V.int ((j + 1 - 1 : Nat) : Int), V.int ((b ^ (j + 1) / b : Nat) : Int)] = _
          rw [Nat.pow_succ, Nat.mul_div_cancel _ hb0]
          rfl
        -- digit = due // size % base
        refine ⟨_, rfl, _, rfl, d, b ^ j, rfl, rfl, cs j (by omega) _, _, rfl, _, _, rfl, rfl, hb0, ?_⟩
        have lt : slotInt [some (.int (b : Int)), some (.int (n : Int)), some (.int (d : Int)), some (.int (j : Int)), some (.int ((b ^ j : Nat) : Int)), some (.ref p), some (.int ((d / b ^ (j + 1) * b ^ (j + 1) : Nat) : Int)), some (.int ((d / b ^ j % b : Nat) : Int))] 3 < ((j + 1 : Nat) : Int).toNat := by
          show ((j : Int)).toNat < _
          omega
        by_cases h0 : d / b ^ j % b = 0
        · refine ⟨_, rfl, rfl, false, nF (vE h0), iteF ?_⟩
          · refine ⟨⟨j, ts, done, _, _, rfl, by omega, by omega, sm, eL, R, ?_⟩, lt⟩
            rw [et]
            show done ++ tailOf b d (j + 1) = done ++ tailOf b d j
            have : tailOf b d (j + 1) = tailOf b d j := if_neg (fun z => z h0)
            rw [this]
        · refine ⟨_, rfl, rfl, true, nT (vN (b := 0) h0), iteT ?_⟩
          · -- rows.append((level, digit, tick))
            refine ⟨_, rfl, .inl ⟨rfl, _, .inl (.inl eL)⟩, _, rfl, _, rfl, _, rfl, by simp [sizeLine_eq], fun t2 ht2 => ?_⟩
            have s3 := same_upd (o := .tup (rowV (j, d / b ^ j % b, d / b ^ (j + 1) * b ^ (j + 1)))) ht2
            have npt : t2 ≠ p := fun e => by
              rw [e, eL] at ht2
              cases ht2
            have eL' := s3 _ _ eL
            refine ⟨p, _, _, rfl, rfl, eL', ?_, ?_⟩
            · rw [List.length_map]
              exact sizeLine_ge (by omega)
            · refine ⟨⟨j, ts ++ [t2], done ++ [(j, d / b ^ j % b, d / b ^ (j + 1) * b ^ (j + 1))], _, _, rfl, by omega, ?_, fun c o e => ?_, ?_, ?_, ?_⟩, lt⟩
              · rw [List.length_append, List.length_singleton]
                omega
              · rw [upd_ne (ne_of_none e hpH)]
                exact s3 _ _ (sm _ _ e)
              · rw [upd_same, List.map_append]
                rfl
              · refine RowsAt.upd eL' ?_
                exact RowsAt.app (r := (j, d / b ^ j % b, d / b ^ (j + 1) * b ^ (j + 1))) (rs := (k, d / b ^ k % b, n) :: done) (R.same s3) upd_same
              · rw [et, List.append_assoc]
                show done ++ tailOf b d (j + 1) = done ++ ((j, d / b ^ j % b, d / b ^ (j + 1) * b ^ (j + 1)) :: tailOf b d j)
                have : tailOf b d (j + 1) = (j, d / b ^ j % b, d / b ^ (j + 1) * b ^ (j + 1)) :: tailOf b d j := if_pos h0
                rw [this]
    · rintro σ H' Q1 Q2 h ⟨x, hx, i, j, e1, e2, k, e, z⟩
      exact ⟨x, hx, i, j, e1, e2, k, e, h _ _ z⟩
end
theorem RowsAt.item {H : Hp} {ts : List Addr} {rs : List Row3} (R : RowsAt H ts rs) {i : Nat} {x : V} (hx : (ts.map V.ref)[i]? = some x) : ∃ ti r, x = V.ref ti ∧ ts[i]? = some ti ∧ rs[i]? = some r ∧ H ti = some (.tup (rowV r)) := by
  rw [List.getElem?_map] at hx
  cases e : ts[i]? with
  | none =>
    rw [e] at hx
    cases hx
  | some ti =>
    rw [e] at hx
    obtain ⟨r, hr, er⟩ := R.get e
    exact ⟨ti, r, (Option.some.inj hx).symm, rfl, hr, er⟩
section
variable {P : Program} {w : World} {K : PySem.W.Frag} {mg : Str → Option Value} {base : Heap}
def spWordAt (K : PySem.W.Frag) : Sp := fun vs H Q _ => ∃ (q : Addr) (ws : List Bool) (k : Nat), vs = [.ref q, .int (k : Nat)] ∧ SqL K H q (ws.map lvV) ∧ ws ≠ [] ∧ Q (lvV (wordAt ws k)) H
theorem ok_word_at {f : Addr} {fd : FuncData} (F : Fun K "word_at" "word_at" s_word_at f fd) (T : Tx K mg) : FnOk P w K mg base CX0 1 f fd ["levels", "level"] (spWordAt K) := by
  refine F.ok sc_word_at (fun vs H Q E h => ?_) (fun cdv A outer s H vs Q E hr h => ?_)
  · obtain ⟨q, ws, k, rfl, _⟩ := h
    rfl
  · obtain ⟨q, ws, k, rfl, hL, hne, c⟩ := h
    have hp : 0 < ws.length := List.length_pos_iff.mpr hne
    have hpm : 1 ≤ (ws.map lvV).length := by
      rw [List.length_map]
      exact hp
    refine ⟨_, (pss_one (ps_ret (pe_ix (ix_listK (K := K) rfl) (pv 0) (pe_callB (call_min2 rfl) (by rfl) T.b_min (by decide +kernel) (pa_cons (pv 1) (pa_cons (pe_op op_subN (pe_callB (lenK (K := K) rfl) (by rfl) T.b_len PySem.boot_len (pa_cons (pv 0) pa_nil)) pe_int) pa_nil))) (fun _ _ => rfl)))), ?_⟩
    have g := word_get hne k
    refine ⟨.ref q, rfl, _, rfl, .ref q, rfl, q, _, rfl, .inl hL, (ws.map lvV).length, 1, rfl, rfl, hpm, k, _, rfl, q, _, ((min k (ws.length - 1) : Nat) : Int), _, rfl, congrArg V.int ?_, hL, atI_nat g, c⟩
    dsimp only
    rw [List.length_map]
    split <;> omega
def WordsAt (K : PySem.W.Frag) (mg : Str → Option Value) : Prop := ∃ a, mg "WORDS" = some (.ref a) ∧ ∀ H, SqT K H a [.str "stack", .str "queue"]
def MostAt (mg : Str → Option Value) : Prop := ∃ t, mg "MOST_LEVELS" = some (.int 60 t)
def spIsWord : Sp := fun vs H Q _ => ∃ b : Bool, vs = [lvV b] ∧ Q (.bl true) H
theorem ok_is_word {f : Addr} {fd : FuncData} (F : Fun K "is_word" "is_word" s_is_word f fd) (T : Tx K mg) (hW : WordsAt K mg) : FnOk P w K mg base CX0 1 f fd ["given"] spIsWord := by
  obtain ⟨a_WORDS, g_WORDS, sW⟩ := hW
  refine F.ok sc_is_word (fun vs H Q E h => ?_) (fun cdv A outer s H vs Q E hr h => ?_)
  · obtain ⟨b, rfl, _⟩ := h
    rfl
  · obtain ⟨b, rfl, c⟩ := h
    refine ⟨_, (pss_one (ps_ret (pe_and (pe_callB (isiK (K := K) rfl) (by rfl) T.b_isinstance (by decide +kernel) (pa_cons (pv 0) (pa_cons (pe_bltn (v := .ty "str") (u := .type "str") (by rfl) T.b_str (by decide +kernel) rfl) pa_nil))) (pe_one (pe_cmpR op_in_seq (pv 0) (pe_glob (v := .ref a_WORDS) rfl g_WORDS rfl) (by rfl)))))), ?_⟩
    obtain ⟨x, ex, hx⟩ : ∃ x : Str, lvV b = .str x ∧ (if false then !inV (V.str x) [.str "stack", .str "queue"] else inV (V.str x) [.str "stack", .str "queue"]) = true := by
      cases b
      · exact ⟨_, rfl, by decide⟩
      · exact ⟨_, rfl, by decide⟩
    rw [ex]
    refine ⟨.str x, rfl, _, _, _, _, true, rfl, .ty "str", .base (.str x), kit_ty (by decide +kernel), true, rfl, iteT ?_⟩
    refine ⟨.str x, rfl, a_WORDS, _, rfl, .inr (sW _), rfl, rfl, ?_⟩
    rw [hx]
    exact c
def spIsLength : Sp := fun vs H Q _ => ∃ n : Int, vs = [.int n] ∧ 1 ≤ n ∧ n ≤ 60 ∧ Q (.bl true) H
theorem ok_is_length {f : Addr} {fd : FuncData} (F : Fun K "is_length" "is_length" s_is_length f fd) (hM : MostAt mg) (h1 : Has P w K mg base 1 "is_integer" ["given"] [] spIsInt) : FnOk P w K mg base CX0 2 f fd ["given"] spIsLength := by
  obtain ⟨tM, g_MOST_LEVELS⟩ := hM
  obtain ⟨f_is_integer, fd_is_integer, ds_is_integer, G_is_integer, m_is_integer, k_is_integer, b_is_integer, v_is_integer⟩ := h1
  refine F.ok sc_is_length (fun vs H Q E h => ?_) (fun cdv A outer s H vs Q E hr h => ?_)
  · obtain ⟨n, rfl, _⟩ := h
    rfl
  · obtain ⟨n, rfl, l1, l2, q⟩ := h
    refine ⟨_, (pss_one (ps_ret (pe_and (pe_call G_is_integer hr (by rfl) m_is_integer k_is_integer b_is_integer v_is_integer pass0 (pa_cons (pv 0) pa_nil)) (pe_one (pe_chain op_le op_le pe_int (pv 0) (pe_glob (v := .int 60) rfl g_MOST_LEVELS ⟨_, rfl⟩)))))), ?_⟩
    refine ⟨.int n, rfl, n, rfl, true, rfl, iteT ?_⟩
    refine ⟨.int n, rfl, 1, n, rfl, rfl, true, congrArg V.bl (decide_eq_true l1), iteT ?_⟩
    refine ⟨n, 60, rfl, rfl, ?_⟩
    have e : V.bl (decide (n ≤ 60)) = V.bl true := dT l2
    show Q (V.bl (decide (n ≤ 60))) H
    rw [e]
    exact q
def spAreLevels (K : PySem.W.Frag) : Sp := fun vs H Q _ => ∃ (q : Addr) (ws : List Bool), vs = [.ref q] ∧ SqL K H q (ws.map lvV) ∧ ws ≠ [] ∧ ws.length ≤ 60 ∧ ∀ H', Same H H' → Q (.bl true) H'
theorem ok_are_levels {f : Addr} {fd : FuncData} (F : Fun K "are_levels" "are_levels" s_are_levels f fd) (T : Tx K mg) (h0 : Has P w K mg base 2 "is_length" ["given"] [] spIsLength) (h1 : Has P w K mg base 1 "is_word" ["given"] [] spIsWord) : FnOk P w K mg base CX0 3 f fd ["given"] (spAreLevels K) := by
  obtain ⟨f_is_length, fd_is_length, ds_is_length, G_is_length, m_is_length, k_is_length, b_is_length, v_is_length⟩ := h0
  obtain ⟨f_is_word, fd_is_word, ds_is_word, G_is_word, m_is_word, k_is_word, b_is_word, v_is_word⟩ := h1
  refine F.ok sc_are_levels (fun vs H Q E h => ?_) (fun cdv A outer s H vs Q E hr h => ?_)
  · obtain ⟨q, ws, rfl, _⟩ := h
    rfl
  · obtain ⟨q, ws, rfl, hL, hne, h60, c⟩ := h
    have hp : 0 < ws.length := List.length_pos_iff.mpr hne
    refine ⟨_, (pss_cons (ps_if (PW.pt (pw_or (pt_not (pt_val (pe_callB (isiK (K := K) rfl) (by rfl) T.b_isinstance (by decide +kernel) (pa_cons (pv 0) (pa_cons (pe_bltn (v := .ty "list") (u := .type "list") (by rfl) T.b_list (by decide +kernel) rfl) pa_nil))))) (pw_or1 (pt_not (pt_val (pe_call G_is_length hr (by rfl) m_is_length k_is_length b_is_length v_is_length pass0 (pa_cons (pe_callB (lenK (K := K) rfl) (by rfl) T.b_len PySem.boot_len (pa_cons (pv 0) pa_nil)) pa_nil)))))))
        (pss_one (ps_ret pe_bl))
        pss_nil)
      (pss_one (ps_ret (pe_callB (allK (K := K) rfl rfl) (by rfl) T.b_all (by decide +kernel) (pa_cons (pe_lc (own := [("word", 1)]) (g := gName 1) (tt := tYes) rfl sc_are_levels.nd (pi_list (pv 0)) (blkOk_by (own := [("word", 1)]) (N := N_are_levels) (sc := defScope s_are_levels) (by decide +kernel)) (fun _ _ _ _ _ => (pg_name (i := 1) sc_are_levels.nd rfl (.inl rfl))) (fun _ _ _ _ _ => pts_nil) (fun _ _ _ _ _ => (pe_call G_is_word (hr.mono (by decide)) (by rfl) m_is_word k_is_word b_is_word v_is_word pass0 (pa_cons (pv 1) pa_nil)))) pa_nil))))), ?_⟩
    refine ⟨.ref q, rfl, _, _, _, _, true, rfl, .ty "list", tyx_list hL, kit_ty (by decide +kernel), true, rfl, iteF ?_⟩
    refine ⟨.ref q, rfl, q, _, rfl, .inl hL, _, rfl, ?_, ?_, true, rfl, iteF ?_⟩
    · rw [List.length_map]
      omega
    · rw [List.length_map]
      omega
    refine ⟨.ref q, rfl, q, rfl, ⟨_, hL⟩, fun D hD => lc_list (K := K) (a := q) (xs := ws.map lvV) (fun i H' => Same H H' ∧ H' D = some (.lst ((List.replicate i true).map V.bl)))
      ⟨same_upd hD, upd_same⟩ (fun i H' _ ⟨sm, _⟩ => sm.seq hL) ?_ ?_⟩
    · rintro i x H' hx ⟨sm, eD⟩
      obtain ⟨b, rfl⟩ : ∃ b, x = lvV b := by
        rw [List.getElem?_map] at hx
        cases e : ws[i]? with
        | none =>
          rw [e] at hx
          cases hx
        | some b =>
          rw [e] at hx
          exact ⟨b, (Option.some.inj hx).symm⟩
      have hi : i < (ws.map lvV).length := (List.getElem?_eq_some_iff.mp hx).1
      rw [List.length_map] at hi
      refine ⟨rfl, yesT (iteT ?_)⟩
      refine ⟨_, rfl, b, rfl, _, eD, ?_, fun c o e => ?_, ?_⟩
      · rw [List.length_map, List.length_replicate]
        exact sizeLine_ge (by omega)
      · rw [upd_ne (ne_of_none e hD)]
        exact sm _ _ e
      · rw [upd_same, List.replicate_succ', List.map_append]
        rfl
    · rintro H1 ⟨s1, eD⟩
      refine ⟨D, _, rfl, SqL.of eD, ?_⟩
      have ea : (List.replicate (ws.map lvV).length true).all id = true := by
        rw [List.all_replicate]
        simp
      rw [ea]
      exact c H1 s1
def spCheckLevels (K : PySem.W.Frag) : Sp := fun vs H Q _ => ∃ (q : Addr) (ws : List Bool), vs = [.ref q] ∧ SqL K H q (ws.map lvV) ∧ ws ≠ [] ∧ ws.length ≤ 60 ∧ ∀ H', Same H H' → Q .non H'
theorem ok_check_levels {f : Addr} {fd : FuncData} (F : Fun K "check_levels" "check_levels" s_check_levels f fd) (h1 : Has P w K mg base 3 "are_levels" ["given"] [] (spAreLevels K)) : FnOk P w K mg base CX0 4 f fd ["levels"] (spCheckLevels K) := by
  obtain ⟨f_are_levels, fd_are_levels, ds_are_levels, G_are_levels, m_are_levels, k_are_levels, b_are_levels, v_are_levels⟩ := h1
  refine F.ok sc_check_levels (fun vs H Q E h => ?_) (fun cdv A outer s H vs Q E hr h => ?_)
  · obtain ⟨q, ws, rfl, _⟩ := h
    rfl
  · obtain ⟨q, ws, rfl, hL, hne, h60, c⟩ := h
    refine ⟨_, (pss_one (ps_if (pt_not (pt_val (pe_call G_are_levels hr (by rfl) m_are_levels k_are_levels b_are_levels v_are_levels pass0 (pa_cons (pv 0) pa_nil))))
        (pss_one ps_never)
        pss_nil)), ?_⟩
    exact ⟨_, rfl, q, ws, rfl, hL, hne, h60, fun H1 s1 => ⟨true, rfl, iteF (c H1 s1)⟩⟩
def spFront (K : PySem.W.Frag) : Sp := fun vs H Q _ => ∃ (b n d lo : Nat) (q : Addr) (ws : List Bool), vs = [.int (b : Nat), .ref q, .int (n : Nat), .int (d : Nat), .int (lo : Nat)] ∧ 2 ≤ b ∧ b ≤ 64 ∧ n < d ∧ d < 2 ^ 250 ∧ SqL K H q (ws.map lvV) ∧ ws ≠ [] ∧
  ∀ k, IsLev b n d k → ∀ H', Same H H' → Q (.bl (frontOf ws lo (rowsOf b n d k))) H'
theorem ok_goes_in_front {f : Addr} {fd : FuncData} (F : Fun K "goes_in_front" "goes_in_front" s_goes_in_front f fd) (h1 : Has P w K mg base 2 "path" ["base", "now", "due"] [] spPath) (h2 : Has P w K mg base 1 "word_at" ["levels", "level"] [] (spWordAt K)) :
    FnOk P w K mg base CX0 3 f fd ["base", "levels", "now", "due", "lowest"] (spFront K) := by
  obtain ⟨f_path, fd_path, ds_path, G_path, m_path, k_path, b_path, v_path⟩ := h1
  obtain ⟨f_word_at, fd_word_at, ds_word_at, G_word_at, m_word_at, k_word_at, b_word_at, v_word_at⟩ := h2
  refine F.ok sc_goes_in_front (fun vs H Q E h => ?_) (fun cdv A outer s H vs Q E hr h => ?_)
  · obtain ⟨b, n, d, lo, q, ws, rfl, _⟩ := h
    rfl
  · obtain ⟨b, n, d, lo, q, ws, rfl, hb, hb64, hnd, hd, hL, hne, c⟩ := h
    refine ⟨_, (pss_cons (ps_set (i := 5) sc_goes_in_front.nd rfl (.inl rfl) pe_bl)
      (pss_cons (ps_for PassesOwn.never rfl (pi_list (pe_call G_path hr (by rfl) m_path k_path b_path v_path pass0 (pa_cons (pv 0) (pa_cons (pv 2) (pa_cons (pv 3) pa_nil))))) (pg_tupK (K := K) (n := 3) rfl rfl (pgs_cons (pg_name (i := 6) sc_goes_in_front.nd rfl (.inl rfl)) (pgs_cons (pg_name (i := 7) sc_goes_in_front.nd rfl (.inl rfl)) (pgs_cons (pg_name (i := 8) sc_goes_in_front.nd rfl (.inl rfl)) pgs_nil))))
        (pss_one (ps_if (PW.pt (pw_and (pt_cmpR op_ge (pv 6) (pv 4) (nomark _)) (pw_and1 (pt_cmpR op_eq (pe_call G_word_at (hr.mono (by decide)) (by rfl) m_word_at k_word_at b_word_at v_word_at pass0 (pa_cons (pv 1) (pa_cons (pv 6) pa_nil))) pe_str (nomark _)))))
          (pss_one (ps_set (i := 5) sc_goes_in_front.nd rfl (.inl rfl) (pe_not (pv 5))))
          pss_nil)))
      (pss_one (ps_ret (pv 5))))), ?_⟩
    refine ⟨_, rfl, _, rfl, _, rfl, b, n, d, rfl, hb, hb64, hnd, hd, fun k hk H1 p ts s1 hp0 hp R => ?_⟩
    refine ⟨p, rfl, ⟨_, SqL.of hp⟩, for_list (K := K) (a := p) (xs := ts.map V.ref) (fun i σ H' => ∃ y6 y7 y8, σ = [some (.int (b : Nat)), some (.ref q), some (.int (n : Nat)), some (.int (d : Nat)), some (.int (lo : Nat)), some (.bl (frontOf ws lo ((rowsOf b n d k).take i))), y6, y7, y8] ∧ H' = H1)
      ⟨none, none, none, rfl, rfl⟩ (fun i σ H' _ ⟨_, _, _, _, e⟩ => by rw [e]; exact SqL.of hp) ?_ ?_⟩
    · rintro i x σ H' hx ⟨y6, y7, y8, rfl, rfl⟩
      obtain ⟨ti, r, rfl, hti, hr, er⟩ := R.item hx
      have hstep : frontOf ws lo ((rowsOf b n d k).take (i + 1)) = if (decide (lo ≤ r.1) && wordAt ws r.1) = true then !frontOf ws lo ((rowsOf b n d k).take i) else frontOf ws lo ((rowsOf b n d k).take i) := by
        rw [List.take_add_one, hr]
        exact front_snoc ws lo _ r
      refine ⟨ti, _, rfl, .inl (.inl er), rfl, _, _, rfl, _, _, rfl, _, _, rfl, rfl, ?_⟩
      have hL1 := s1.seq hL
      by_cases hlo : lo ≤ r.1
      · refine ⟨_, rfl, _, rfl, _, _, rfl, rfl, true, dT (by omega), iteT ?_⟩
        refine ⟨_, rfl, _, rfl, q, ws, r.1, rfl, hL1, hne, ?_, wordAt ws r.1, congrArg V.bl (lv_dec _), ?_⟩
        · cases wordAt ws r.1 <;> rfl
        cases hw : wordAt ws r.1 with
        | true =>
          refine iteT ⟨_, rfl, _, rfl, ⟨some (.int (r.1 : Nat)), some (.int (r.2.1 : Nat)), some (.int (r.2.2 : Nat)), ?_, rfl⟩⟩
          rw [hstep, hw, decide_eq_true hlo]
          rfl
        | false =>
          refine iteF ⟨some (.int (r.1 : Nat)), some (.int (r.2.1 : Nat)), some (.int (r.2.2 : Nat)), ?_, rfl⟩
          rw [hstep, hw, decide_eq_true hlo]
          rfl
      · refine ⟨_, rfl, _, rfl, _, _, rfl, rfl, false, dF (by omega), iteF (iteF ⟨some (.int (r.1 : Nat)), some (.int (r.2.1 : Nat)), some (.int (r.2.2 : Nat)), ?_, rfl⟩)⟩
        rw [hstep, decide_eq_false hlo]
        rfl
    · rintro σ H' ⟨y6, y7, y8, rfl, rfl⟩
      have e : (rowsOf b n d k).take (ts.map V.ref).length = rowsOf b n d k := by
        refine List.take_of_length_le ?_
        rw [List.length_map]
        exact Nat.le_of_eq R.len.symm
      rw [e]
      exact ⟨_, rfl, c k hk _ s1⟩
end
/-! ### the dict of live timers -/
def LiveK (H : Hp) : List (Key × V) → List Tm → Prop
  | [], [] => True
  | kv :: kvs, m :: ms => kv.1 = Sum.inl (m.num : Int) ∧ (∃ t, kv.2 = .ref t ∧ H t = some (.tup (tmV m))) ∧ LiveK H kvs ms
  | _, _ => False
theorem LiveK.frame {H H' : Hp} (s : ∀ t m, H t = some (.tup (tmV m)) → H' t = some (.tup (tmV m))) : ∀ {kvs : List (Key × V)} {ms : List Tm}, LiveK H kvs ms → LiveK H' kvs ms
  | [], [], _ => trivial
  | _ :: _, _ :: _, ⟨h1, ⟨t, h2, h3⟩, h4⟩ => ⟨h1, ⟨t, h2, s _ _ h3⟩, h4.frame s⟩
  | [], _ :: _, h => h.elim
  | _ :: _, [], h => h.elim
theorem LiveK.same {H H' : Hp} (s : Same H H') {kvs : List (Key × V)} {ms : List Tm} (h : LiveK H kvs ms) : LiveK H' kvs ms := h.frame fun _ _ e => s _ _ e
/-- a place that holds no tuple may change -/
theorem LiveK.upd {H : Hp} {l : Addr} {o o' : HO} (hl : H l = some o) (hn : ∀ xs, o ≠ .tup xs) {kvs : List (Key × V)} {ms : List Tm} (h : LiveK H kvs ms) : LiveK (upd H l o') kvs ms := h.frame fun t m e => by
  rw [upd_ne fun z => ?_]
  · exact e
  · rw [z, hl] at e
    exact hn _ (Option.some.inj e)
theorem LiveK.len {H : Hp} : ∀ {kvs : List (Key × V)} {ms : List Tm}, LiveK H kvs ms → kvs.length = ms.length
  | [], [], _ => rfl
  | _ :: _, _ :: _, h => congrArg Nat.succ h.2.2.len
  | [], _ :: _, h => h.elim
  | _ :: _, [], h => h.elim
theorem LiveK.keys {H : Hp} : ∀ {kvs : List (Key × V)} {ms : List Tm}, LiveK H kvs ms → kvs.map (·.1) = ms.map fun m => Sum.inl (m.num : Int)
  | [], [], _ => rfl
  | kv :: kvs, m :: ms, h => by
    rw [List.map_cons, List.map_cons, h.1, h.2.2.keys]
  | [], _ :: _, h => h.elim
  | _ :: _, [], h => h.elim
theorem LiveK.get {H : Hp} : ∀ {kvs : List (Key × V)} {ms : List Tm} {i : Nat} {k : Key} {v : V}, LiveK H kvs ms → kvs[i]? = some (k, v) → ∃ m t, ms[i]? = some m ∧ k = Sum.inl (m.num : Int) ∧ v = .ref t ∧ H t = some (.tup (tmV m))
  | kv :: _, m :: _, 0, k, v, ⟨h1, ⟨t, h2, h3⟩, _⟩, e => by
    cases Option.some.inj e
    exact ⟨m, t, rfl, h1, h2, h3⟩
  | _ :: _, _ :: _, i + 1, _, _, h, e => h.2.2.get (i := i) e
  | [], _, _, _, _, _, e => by simp at e
  | _ :: _, [], _, _, _, h, _ => h.elim
theorem LiveK.snoc {H : Hp} {k : Key} {t : Addr} {m : Tm} : ∀ {kvs : List (Key × V)} {ms : List Tm}, LiveK H kvs ms → k = Sum.inl (m.num : Int) → H t = some (.tup (tmV m)) → LiveK H (kvs ++ [(k, .ref t)]) (ms ++ [m])
  | [], [], _, h1, h2 => ⟨h1, ⟨t, rfl, h2⟩, trivial⟩
  | _ :: _, _ :: _, h, h1, h2 => ⟨h.1, h.2.1, h.2.2.snoc h1 h2⟩
  | [], _ :: _, h, _, _ => h.elim
  | _ :: _, [], h, _, _ => h.elim
theorem inl_num {a b : Nat} : (Sum.inl (a : Int) : Key) = Sum.inl (b : Int) ↔ a = b := ⟨fun e => Int.ofNat.inj (Sum.inl.inj e), fun e => by rw [e]⟩
theorem LiveK.drop {H : Hp} {n : Nat} : ∀ {kvs : List (Key × V)} {ms : List Tm}, LiveK H kvs ms → LiveK H (dropK kvs (Sum.inl (n : Int))) (dropT n ms)
  | [], [], _ => trivial
  | kv :: kvs, m :: ms, h => by
    by_cases e : m.num = n
    · have e1 : kv.1 = (Sum.inl (n : Int) : Key) := by rw [h.1, e]
      have e2 : dropT n (m :: ms) = dropT n ms := by
        unfold dropT
        rw [List.filter_cons, if_neg (by simp [e])]
      rw [dropK_pos e1, e2]
      exact h.2.2.drop
    · have e1 : ¬ kv.1 = (Sum.inl (n : Int) : Key) := by
        rw [h.1]
        exact fun z => e (inl_num.mp z)
      have e2 : dropT n (m :: ms) = m :: dropT n ms := by
        unfold dropT
        rw [List.filter_cons, if_pos (by simp [e])]
      rw [dropK_neg e1, e2]
      exact ⟨h.1, h.2.1, h.2.2.drop⟩
  | [], _ :: _, h => h.elim
  | _ :: _, [], h => h.elim
theorem LiveK.val {H : Hp} {n : Nat} : ∀ {kvs : List (Key × V)} {ms : List Tm}, LiveK H kvs ms → match ms.find? fun m => decide (m.num = n) with
    | none => valV kvs (Sum.inl (n : Int)) = none
    | some m => ∃ t, valV kvs (Sum.inl (n : Int)) = some (.ref t) ∧ H t = some (.tup (tmV m))
  | [], [], _ => rfl
  | kv :: kvs, m :: ms, h => by
    by_cases e : m.num = n
    · have e1 : kv.1 = (Sum.inl (n : Int) : Key) := by rw [h.1, e]
      rw [List.find?_cons_of_pos (by simpa using e), valV_pos e1]
      obtain ⟨t, h2, h3⟩ := h.2.1
      exact ⟨t, by rw [h2], h3⟩
    · have e1 : ¬ kv.1 = (Sum.inl (n : Int) : Key) := by
        rw [h.1]
        exact fun z => e (inl_num.mp z)
      rw [List.find?_cons_of_neg (by simpa using e), valV_neg e1]
      exact h.2.2.val
  | [], _ :: _, h => h.elim
  | _ :: _, [], h => h.elim
theorem find_of {ms : List Tm} {m : Tm} (nd : (ms.map (·.num)).Nodup) (h : m ∈ ms) : ms.find? (fun x => decide (x.num = m.num)) = some m := by
  induction ms with
  | nil => cases h
  | cons a r ih =>
    rw [List.map_cons, List.nodup_cons] at nd
    rcases List.mem_cons.mp h with e | h
    · rw [e]
      exact List.find?_cons_of_pos (by simp)
    · have hne : ¬ a.num = m.num := fun e => nd.1 (by rw [e]; exact List.mem_map_of_mem h)
      rw [List.find?_cons_of_neg (by simpa using hne)]
      exact ih nd.2 h
theorem LiveK.val_of {H : Hp} {kvs : List (Key × V)} {ms : List Tm} {m : Tm} (h : LiveK H kvs ms) (nd : (ms.map (·.num)).Nodup) (hm : m ∈ ms) : ∃ t, valV kvs (Sum.inl (m.num : Int)) = some (.ref t) ∧ H t = some (.tup (tmV m)) := by
  have z := h.val (n := m.num)
  rw [find_of nd hm] at z
  exact z
theorem LiveK.val_not {H : Hp} {kvs : List (Key × V)} {ms : List Tm} {n : Nat} (h : LiveK H kvs ms) (hn : ∀ m ∈ ms, m.num ≠ n) : valV kvs (Sum.inl (n : Int)) = none := by
  have z := h.val (n := n)
  rw [List.find?_eq_none.mpr (fun m hm => by simpa using hn m hm)] at z
  exact z
theorem unlock {H H1 : Hp} {l : Addr} {u : HO} {od : Obj} (h : H l = some u) (s : Same (upd H l (.frz od u)) H1) : Same H (upd H1 l u) := fun c o e => by
  by_cases z : c = l
  · rw [z] at e ⊢
    rw [upd_same]
    exact h.symm.trans e
  · rw [upd_ne z]
    exact s c o (by rw [upd_ne z]; exact e)
theorem lock_same {H : Hp} {l : Addr} {u : HO} {o' : HO} {c : Addr} {o : HO} (h : H l = some u) (e : H c = some o) (hn : u ≠ o) : upd H l o' c = some o := by
  rw [upd_ne fun z => hn (by rw [z, h] at e; exact Option.some.inj e)]
  exact e
theorem sq_lock {K : PySem.W.Frag} {H : Hp} {l q : Addr} {kvs : List (Key × V)} {o' : HO} {xs : List V} (h : H l = some (.dK kvs)) (hq : SqL K H q xs) : SqL K (upd H l o') q xs := by
  rcases hq with (e | ⟨o, e⟩) | e
  · exact .inl (.inl (lock_same h e (by intro z; cases z)))
  · exact .inl (.inr ⟨o, lock_same h e (by intro z; cases z)⟩)
  · exact .inr e
/-- a loop over d.items() -/
theorem for_items {d : Addr} {o : Obj} {kvs : List (Key × V)} {g : TG} {tb : TS} {D : Ends} {σ : L2.St} {H : Hp} (Pv : Nat → L2.St → Hp → Prop) (h0 : Pv 0 σ H) (hq : ∀ i σ H, Pv i σ H → H d = some (.frz o (.dK kvs)))
    (hs : ∀ (i : Nat) (k : Key) (v : V) (T : Addr) (σ : L2.St) (H : Hp), kvs[i]? = some (k, v) → Pv i σ H → H T = none → g (.ref T) σ (upd H T (.tup [kV k, v])) fun σ2 H2 => tb { D with nx := Pv (i + 1), ct := Pv (i + 1), bk := D.nx } σ2 H2) (hd : ∀ σ H, Pv kvs.length σ H → D.nx σ H) :
    ∃ W : Nat → Nat → L2.St → Hp → Prop, (∃ m, W 0 m σ H) ∧ ∀ i m σ H, W i m σ H →
      ((Iti d o kvs).stop i H ∧ D.nx σ H) ∨ ((Iti d o kvs).go i H ∧ ∃ N : L2.St → Hp → Prop, (∀ σ' H', N σ' H' → ∃ m', m' < m ∧ W (i + 1) m' σ' H') ∧ ∀ v H', (Iti d o kvs).yld i H v H' → g v σ H' fun σ2 H2 => tb { D with nx := N, ct := N, bk := D.nx } σ2 H2) := by
  refine ⟨fun i m σ H => m = kvs.length - i ∧ i ≤ kvs.length ∧ Pv i σ H, ⟨kvs.length, rfl, Nat.zero_le _, h0⟩, ?_⟩
  rintro i m σ H ⟨rfl, hi, p⟩
  have qx := hq i σ H p
  by_cases hlt : i < kvs.length
  · refine .inr ⟨⟨qx, hlt⟩, Pv (i + 1), fun σ' H' p' => ⟨kvs.length - (i + 1), by omega, rfl, hlt, p'⟩, fun x H' y => ?_⟩
    obtain ⟨T, k, v, e, rfl, nT, rfl⟩ := y
    exact hs i k v T σ H e p nT
  · have e : i = kvs.length := by omega
    subst e
    exact .inl ⟨⟨qx, Nat.le_refl _⟩, hd σ H p⟩
/-- a loop over d.values() -/
theorem for_values {d : Addr} {o : Obj} {kvs : List (Key × V)} {g : TG} {tb : TS} {D : Ends} {σ : L2.St} {H : Hp} (Pv : Nat → L2.St → Hp → Prop) (h0 : Pv 0 σ H) (hq : ∀ i σ H, Pv i σ H → H d = some (.frz o (.dK kvs)))
    (hs : ∀ (i : Nat) (k : Key) (v : V) (σ : L2.St) (H : Hp), kvs[i]? = some (k, v) → Pv i σ H → g v σ H fun σ2 H2 => tb { D with nx := Pv (i + 1), ct := Pv (i + 1), bk := D.nx } σ2 H2) (hd : ∀ σ H, Pv kvs.length σ H → D.nx σ H) :
    ∃ W : Nat → Nat → L2.St → Hp → Prop, (∃ m, W 0 m σ H) ∧ ∀ i m σ H, W i m σ H →
      ((Itd d o kvs).stop i H ∧ D.nx σ H) ∨ ((Itd d o kvs).go i H ∧ ∃ N : L2.St → Hp → Prop, (∀ σ' H', N σ' H' → ∃ m', m' < m ∧ W (i + 1) m' σ' H') ∧ ∀ v H', (Itd d o kvs).yld i H v H' → g v σ H' fun σ2 H2 => tb { D with nx := N, ct := N, bk := D.nx } σ2 H2) := by
  refine ⟨fun i m σ H => m = kvs.length - i ∧ i ≤ kvs.length ∧ Pv i σ H, ⟨kvs.length, rfl, Nat.zero_le _, h0⟩, ?_⟩
  rintro i m σ H ⟨rfl, hi, p⟩
  have qx := hq i σ H p
  by_cases hlt : i < kvs.length
  · refine .inr ⟨⟨qx, hlt⟩, Pv (i + 1), fun σ' H' p' => ⟨kvs.length - (i + 1), by omega, rfl, hlt, p'⟩, fun x H' y => ?_⟩
    obtain ⟨rfl, k, e⟩ := y
    exact hs i k x σ H' e p
  · have e : i = kvs.length := by omega
    subst e
    exact .inl ⟨⟨qx, Nat.le_refl _⟩, hd σ H p⟩
/-- a comprehension over d.values() -/
theorem lc_values {d : Addr} {o : Obj} {kvs : List (Key × V)} {g : TG} {tt : TT} {te : TE} {vs : List Nat} {σ : L2.St} {H1 : Hp} {D : Addr} {Qd : Hp → Prop} (Pv : Nat → Hp → Prop) (h0 : Pv 0 (upd H1 D (.lst []))) (hq : ∀ i H, Pv i H → H d = some (.frz o (.dK kvs)))
    (hs : ∀ i k x H, kvs[i]? = some (k, x) → Pv i H → g x (wipe σ vs) H fun σ2 H2 => wipe σ2 vs = wipe σ vs ∧ tt σ2 H2 fun b H3 =>
      if b = true then te σ2 H3 fun y H4 => ∃ acc, H4 D = some (.lst acc) ∧ acc.length < sizeLine ∧ Pv (i + 1) (upd H4 D (.lst (acc ++ [y]))) else Pv (i + 1) H3) (hd : ∀ H, Pv kvs.length H → Qd H) :
    ∃ W : Nat → Nat → Hp → Prop, (∃ m, W 0 m (upd H1 D (.lst []))) ∧ ∀ i m H, W i m H →
      ((Itd d o kvs).stop i H ∧ Qd H) ∨ ((Itd d o kvs).go i H ∧ ∃ Nx : Hp → Prop, (∀ H', Nx H' → ∃ m', m' < m ∧ W (i + 1) m' H') ∧ ∀ x H', (Itd d o kvs).yld i H x H' → g x (wipe σ vs) H' fun σ2 H2 => wipe σ2 vs = wipe σ vs ∧ tt σ2 H2 fun b H3 =>
        if b = true then te σ2 H3 fun y H4 => ∃ acc, H4 D = some (.lst acc) ∧ acc.length < sizeLine ∧ Nx (upd H4 D (.lst (acc ++ [y]))) else Nx H3) := by
  refine ⟨fun i m H => m = kvs.length - i ∧ i ≤ kvs.length ∧ Pv i H, ⟨kvs.length, rfl, Nat.zero_le _, h0⟩, ?_⟩
  rintro i m H ⟨rfl, hi, p⟩
  have qx := hq i H p
  by_cases hlt : i < kvs.length
  · refine .inr ⟨⟨qx, hlt⟩, Pv (i + 1), fun H' p' => ⟨kvs.length - (i + 1), by omega, rfl, hlt, p'⟩, fun x H' y => ?_⟩
    obtain ⟨rfl, k, e⟩ := y
    exact hs i k x H' e p
  · have e : i = kvs.length := by omega
    subst e
    exact .inl ⟨⟨qx, Nat.le_refl _⟩, hd H p⟩
section
variable {P : Program} {w : World} {K : PySem.W.Frag} {mg : Str → Option Value} {base : Heap}
def spLeast : Sp := fun vs H Q _ => ∃ (l : Addr) (kvs : List (Key × V)) (ms : List Tm), vs = [.ref l] ∧ H l = some (.dK kvs) ∧ LiveK H kvs ms ∧ ms.length ≤ 1000 ∧ ∀ H', Same H H' → Q (perV (leastD ms)) H'
theorem min_least {ms : List Tm} {Q : V → Prop} (q : Q (perV (leastD ms))) : (ms.map (fun m => (m.due : Int)) = [] → Q .non) ∧ ∀ v ∈ ms.map (fun m => (m.due : Int)), (∀ x ∈ ms.map (fun m => (m.due : Int)), v ≤ x) → Q (.int v) := by
  refine ⟨fun e => ?_, fun v hv hx => ?_⟩
  · rw [least_none.mpr (List.map_eq_nil_iff.mp e)] at q
    exact q
  · obtain ⟨m, hm, rfl⟩ := List.mem_map.mp hv
    have e : leastD ms = some m.due := least_some.mpr ⟨List.mem_map_of_mem hm, fun x h => by
      obtain ⟨m', hm', rfl⟩ := List.mem_map.mp h
      exact Int.ofNat_le.mp (hx _ (List.mem_map_of_mem hm'))⟩
    rw [e] at q
    exact q
theorem ok_least_due {f : Addr} {fd : FuncData} (F : Fun K "least_due" "least_due" s_least_due f fd) (T : Tx K mg) : FnOk P w K mg base CX0 1 f fd ["live"] spLeast := by
  refine F.ok sc_least_due (fun vs H Q E h => ?_) (fun cdv A outer s H vs Q E hr h => ?_)
  · obtain ⟨l, kvs, ms, rfl, _⟩ := h
    rfl
  · obtain ⟨l, kvs, ms, rfl, hl, L, few, q⟩ := h
    refine ⟨_, (pss_one (ps_ret (pe_callBK (minDef (K := K) rfl rfl hr.units) (by rfl) T.b_min (by decide +kernel) (pa_cons (pe_lock (pe_lc (own := [("due", 1), ("period", 2), ("since", 3)]) (g := _) (tt := tYes) rfl sc_least_due.nd (pi_values (pv 0)) (blkOk_by (own := [("due", 1), ("period", 2), ("since", 3)]) (N := N_least_due) (sc := defScope s_least_due) (by decide +kernel)) (fun _ _ _ _ _ => (pg_tupK (K := K) (n := 3) rfl rfl (pgs_cons (pg_name (i := 1) sc_least_due.nd rfl (.inl rfl)) (pgs_cons (pg_name (i := 2) sc_least_due.nd rfl (.inl rfl)) (pgs_cons (pg_name (i := 3) sc_least_due.nd rfl (.inl rfl)) pgs_nil))))) (fun _ _ _ _ _ => pts_nil) (fun _ _ _ _ _ => (pv 1)))) pa_nil) (pk_cons pe_non pk_nil)))), ?_⟩
    refine ⟨l, _, hl, trivial, fun od => ?_⟩
    refine ⟨_, rfl, l, od, kvs, rfl, upd_same, fun D hD => lc_values (d := l) (o := od) (kvs := kvs) (fun i H' => Same (upd H l (.frz od (.dK kvs))) H' ∧ H' D = some (.lst ((ms.take i).map fun m => V.int (m.due : Nat))))
      ⟨same_upd hD, upd_same⟩ (fun i H' ⟨sm, _⟩ => sm _ _ upd_same) ?_ ?_⟩
    · rintro i k x H' hx ⟨sm, eD⟩
      have L' := L.upd (o' := .frz od (.dK kvs)) hl (fun xs z => by cases z)
      obtain ⟨m, t, hm, rfl, rfl, ht⟩ := L'.get hx
      refine ⟨t, _, rfl, .inl (.inl (sm _ _ ht)), rfl, _, _, rfl, _, _, rfl, _, _, rfl, rfl, rfl, yesT (iteT ?_)⟩
      refine ⟨_, rfl, _, eD, ?_, fun c o e => ?_, ?_⟩
      · rw [List.length_map, List.length_take]
        exact sizeLine_ge (by omega)
      · rw [upd_ne (ne_of_none e hD)]
        exact sm _ _ e
      · rw [upd_same, List.take_add_one, hm, List.map_append]
        rfl
    · rintro H1 ⟨sm, eD⟩
      rw [L.len, List.take_length] at eD
      have nDl : D ≠ l := fun e => by
        rw [e, upd_same] at hD
        cases hD
      have s2 := unlock hl sm
      have eD2 : (upd H1 l (.dK kvs)) D = some (.lst ((ms.map fun m => (m.due : Int)).map V.int)) := by
        rw [upd_ne nDl, eD, List.map_map]
        rfl
      refine ⟨sm _ _ upd_same, D, ms.map fun m => (m.due : Int), rfl, rfl, SqL.of eD2, ?_⟩
      exact min_least (Q := fun v => Q v (upd H1 l (.dK kvs))) (q _ s2)
end
/-! ### what fires, what is left -/
section
variable {P : Program} {w : World} {K : PySem.W.Frag} {mg : Str → Option Value} {base : Heap}
def spWithTimer : Sp := fun vs H Q _ => ∃ (a : Addr) (xs : List Nat) (n : Nat) (f : Bool), vs = [.ref a, .int (n : Nat), .bl f] ∧ H a = some (.lst (xs.map fun x => V.int (x : Nat))) ∧ xs.length ≤ 1000 ∧ ∀ H' p, Same H H' → H p = none → H' p = some (.lst ((insT f n xs).map fun x => V.int (x : Nat))) → Q (.ref p) H'
theorem ok_with_timer {f : Addr} {fd : FuncData} (F : Fun K "with_timer" "with_timer" s_with_timer f fd) : FnOk P w K mg base CX0 1 f fd ["numbers", "number", "front"] spWithTimer := by
  refine F.ok sc_with_timer (fun vs H Q E h => ?_) (fun cdv A outer s H vs Q E hr h => ?_)
  · obtain ⟨a, xs, n, fr, rfl, _⟩ := h
    rfl
  · obtain ⟨a, xs, n, fr, rfl, ha, hl, q⟩ := h
    refine ⟨_, (pss_cons (ps_if (pt_val (pv 2))
        (pss_one (ps_ret (pe_op op_cat (pe_lst (pa_cons (pv 1) pa_nil)) (pv 0))))
        pss_nil)
      (pss_one (ps_ret (pe_op op_cat (pv 0) (pe_lst (pa_cons (pv 1) pa_nil)))))), ?_⟩
    refine ⟨_, rfl, fr, rfl, ?_⟩
    cases fr with
    | true =>
      refine iteT ⟨_, rfl, by simp [sizeLine_eq], fun p1 h1 => ?_⟩
      have s1 := same_upd (o := .lst [.int (n : Nat)]) h1
      refine ⟨_, rfl, p1, a, _, _, rfl, rfl, upd_same, s1 _ _ ha, ?_, fun p hp => ?_⟩
      · rw [List.length_map]
        exact sizeLine_le (by show 1 + xs.length ≤ 1000000; omega)
      · exact q _ p (s1.trans (same_upd hp)) (s1.free hp) upd_same
    | false =>
      refine iteF ⟨_, rfl, _, rfl, by simp [sizeLine_eq], fun p1 h1 => ?_⟩
      have s1 := same_upd (o := .lst [.int (n : Nat)]) h1
      refine ⟨a, p1, _, _, rfl, rfl, s1 _ _ ha, upd_same, ?_, fun p hp => ?_⟩
      · rw [List.length_map]
        exact sizeLine_le (by show xs.length + 1 ≤ 1000000; omega)
      · refine q _ p (s1.trans (same_upd hp)) (s1.free hp) ?_
        rw [upd_same]
        unfold insT
        rw [if_neg (by decide), List.map_append]
        rfl
end
/-- the order of timers that are set at these ticks and due at one tick -/
noncomputable def orderP (b : Nat) (ws : List Bool) (d : Nat) (ps : List (Nat × Nat)) : List Nat := ps.foldl (fun acc r => insT (sideT b ws r.2 d 0) r.1 acc) []
theorem orderP_snoc (b : Nat) (ws : List Bool) (d : Nat) (ps : List (Nat × Nat)) (r : Nat × Nat) : orderP b ws d (ps ++ [r]) = insT (sideT b ws r.2 d 0) r.1 (orderP b ws d ps) := by
  unfold orderP
  rw [List.foldl_append]
  rfl
theorem orderP_len (b : Nat) (ws : List Bool) (d : Nat) (ps : List (Nat × Nat)) : (orderP b ws d ps).length = ps.length := by
  have H : ∀ (ps : List (Nat × Nat)) (acc : List Nat), (ps.foldl (fun acc r => insT (sideT b ws r.2 d 0) r.1 acc) acc).length = acc.length + ps.length := by
    intro ps
    induction ps with
    | nil => intro acc; rfl
    | cons r ps ih =>
      intro acc
      rw [List.foldl_cons, ih, insT_len, List.length_cons]
      omega
  have z := H ps []
  rw [List.length_nil, Nat.zero_add] at z
  exact z
def setsOf (t : Nat) (ms : List Tm) : List (Nat × Nat) := (ms.filter fun m => decide (m.due = t)).map fun m => (m.num, m.since)
theorem order_P (b : Nat) (ws : List Bool) (t : Nat) (ms : List Tm) : orderAt b ws t ms = orderP b ws t (setsOf t ms) := by
  have H : ∀ (ms : List Tm) (acc : List Nat), ms.foldl (fun acc m => if m.due = t then insT (sideT b ws m.since m.due 0) m.num acc else acc) acc = (setsOf t ms).foldl (fun acc r => insT (sideT b ws r.2 t 0) r.1 acc) acc := by
    intro ms
    induction ms with
    | nil => intro acc; rfl
    | cons m ms ih =>
      intro acc
      rw [List.foldl_cons, ih]
      by_cases e : m.due = t
      · have z : setsOf t (m :: ms) = (m.num, m.since) :: setsOf t ms := by
          unfold setsOf
          rw [List.filter_cons_of_pos (by simpa using e)]
          rfl
        rw [z, List.foldl_cons, if_pos e, e]
      · have z : setsOf t (m :: ms) = setsOf t ms := by
          unfold setsOf
          rw [List.filter_cons_of_neg (by simpa using e)]
        rw [z, if_neg e]
  exact H ms []
/-- at the places ts stand tuples of a number and a tick -/
def PrAt (H : Hp) : List Addr → List (Nat × Nat) → Prop
  | [], [] => True
  | t :: ts, r :: rs => H t = some (.tup [.int (r.1 : Nat), .int (r.2 : Nat)]) ∧ PrAt H ts rs
  | _, _ => False
theorem PrAt.frame {H H' : Hp} : ∀ {ts : List Addr} {rs : List (Nat × Nat)}, PrAt H ts rs → (∀ t xs, H t = some (.tup xs) → H' t = some (.tup xs)) → PrAt H' ts rs
  | [], [], _, _ => trivial
  | _ :: _, _ :: _, h, s => ⟨s _ _ h.1, h.2.frame s⟩
  | [], _ :: _, h, _ => h.elim
  | _ :: _, [], h, _ => h.elim
theorem PrAt.app {H : Hp} {t : Addr} {r : Nat × Nat} : ∀ {ts : List Addr} {rs : List (Nat × Nat)}, PrAt H ts rs → H t = some (.tup [.int (r.1 : Nat), .int (r.2 : Nat)]) → PrAt H (ts ++ [t]) (rs ++ [r])
  | [], [], _, h => ⟨h, trivial⟩
  | _ :: _, _ :: _, h, h2 => ⟨h.1, h.2.app h2⟩
  | [], _ :: _, h, _ => h.elim
  | _ :: _, [], h, _ => h.elim
theorem PrAt.len {H : Hp} : ∀ {ts : List Addr} {rs : List (Nat × Nat)}, PrAt H ts rs → ts.length = rs.length
  | [], [], _ => rfl
  | _ :: _, _ :: _, h => congrArg Nat.succ h.2.len
  | [], _ :: _, h => h.elim
  | _ :: _, [], h => h.elim
theorem PrAt.item {H : Hp} : ∀ {ts : List Addr} {rs : List (Nat × Nat)} {i : Nat} {x : V}, PrAt H ts rs → (ts.map V.ref)[i]? = some x → ∃ t r, x = V.ref t ∧ rs[i]? = some r ∧ H t = some (.tup [.int (r.1 : Nat), .int (r.2 : Nat)])
  | t :: _, r :: _, 0, x, h, e => ⟨t, r, (Option.some.inj e).symm, rfl, h.1⟩
  | _ :: _, _ :: _, i + 1, _, h, e => h.2.item (i := i) e
  | [], _, _, _, _, e => by simp at e
  | _ :: _, [], _, _, h, _ => h.elim
/-- a list made over the items of a dict -/
theorem lc_items {d : Addr} {o : Obj} {kvs : List (Key × V)} {g : TG} {tt : TT} {te : TE} {ws : List Nat} {σ : L2.St} {G : Hp} {D : Addr} {Qd : Hp → Prop} (Pv : Nat → Hp → Prop) (start : Pv 0 (upd G D (.lst []))) (lock : ∀ i G, Pv i G → G d = some (.frz o (.dK kvs)))
    (step : ∀ (i : Nat) (k : Key) (v : V) (T : Addr) (G : Hp), kvs[i]? = some (k, v) → Pv i G → G T = none → g (.ref T) (wipe σ ws) (upd G T (.tup [kV k, v])) fun τ G2 => wipe τ ws = wipe σ ws ∧ tt τ G2 fun c G3 => if c = true then te τ G3 fun z G4 => ∃ ac, G4 D = some (.lst ac) ∧ ac.length < sizeLine ∧ Pv (i + 1) (upd G4 D (.lst (ac ++ [z]))) else Pv (i + 1) G3)
    (last : ∀ G, Pv kvs.length G → Qd G) : ∃ W : Nat → Nat → Hp → Prop, (∃ m, W 0 m (upd G D (.lst []))) ∧ ∀ i m G, W i m G → ((Iti d o kvs).stop i G ∧ Qd G) ∨
      ((Iti d o kvs).go i G ∧ ∃ N : Hp → Prop, (∀ G', N G' → ∃ m', m' < m ∧ W (i + 1) m' G') ∧ ∀ x G', (Iti d o kvs).yld i G x G' → g x (wipe σ ws) G' fun τ G2 => wipe τ ws = wipe σ ws ∧ tt τ G2 fun c G3 => if c = true then te τ G3 fun z G4 => ∃ ac, G4 D = some (.lst ac) ∧ ac.length < sizeLine ∧ N (upd G4 D (.lst (ac ++ [z]))) else N G3) := by
  refine ⟨fun i m G => (m = kvs.length - i ∧ i ≤ kvs.length) ∧ Pv i G, ⟨kvs.length, ⟨rfl, Nat.zero_le _⟩, start⟩, ?_⟩
  rintro i m G ⟨⟨rfl, le⟩, pv⟩
  have here := lock i G pv
  rcases Nat.lt_or_ge i kvs.length with lt | ge
  · refine .inr ⟨⟨here, lt⟩, Pv (i + 1), fun G' p' => ⟨kvs.length - (i + 1), by omega, ⟨rfl, lt⟩, p'⟩, fun x G' y => ?_⟩
    obtain ⟨T, k, v, e, rfl, nT, rfl⟩ := y
    exact step i k v T G e pv nT
  · have e : i = kvs.length := Nat.le_antisymm le ge
    rw [e] at pv ⊢
    exact .inl ⟨⟨here, Nat.le_refl _⟩, last G pv⟩
section
variable {P : Program} {w : World} {K : PySem.W.Frag} {mg : Str → Option Value} {base : Heap}
def spFiringOrder (K : PySem.W.Frag) : Sp := fun vs H Q _ => ∃ (b d : Nat) (q S : Addr) (ws : List Bool) (ts : List Addr) (ps : List (Nat × Nat)), vs = [.int (b : Nat), .ref q, .int (d : Nat), .ref S] ∧ 2 ≤ b ∧ b ≤ 64 ∧ SqL K H q (ws.map lvV) ∧ ws ≠ [] ∧ H S = some (.lst (ts.map V.ref)) ∧ PrAt H ts ps ∧ ps.length ≤ 1000 ∧ (∀ r ∈ ps, r.2 < d ∧ d < 2 ^ 250) ∧
  ∀ H' p, Same H H' → H p = none → H' p = some (.lst ((orderP b ws d ps).map fun x => V.int (x : Nat))) → Q (.ref p) H'
theorem ok_firing_order {f : Addr} {fd : FuncData} (F : Fun K "firing_order" "firing_order" s_firing_order f fd) (h1 : Has P w K mg base 1 "with_timer" ["numbers", "number", "front"] [] spWithTimer)
    (h2 : Has P w K mg base 3 "goes_in_front" ["base", "levels", "now", "due", "lowest"] [] (spFront K)) : FnOk P w K mg base CX0 4 f fd ["base", "levels", "due", "settings"] (spFiringOrder K) := by
  obtain ⟨f_with_timer, fd_with_timer, ds_with_timer, G_with_timer, m_with_timer, k_with_timer, b_with_timer, v_with_timer⟩ := h1
  obtain ⟨f_goes_in_front, fd_goes_in_front, ds_goes_in_front, G_goes_in_front, m_goes_in_front, k_goes_in_front, b_goes_in_front, v_goes_in_front⟩ := h2
  refine F.ok sc_firing_order (fun vs H Q E h => ?_) (fun cdv A outer s H vs Q E hr h => ?_)
  · obtain ⟨b, d, q, S, ws, ts, ps, rfl, _⟩ := h
    rfl
  · obtain ⟨b, d, q, S, ws, ts, ps, rfl, hb, hb64, hL, hne, hS, hP, few, ok, c⟩ := h
    refine ⟨_, (pss_cons (ps_set (i := 4) sc_firing_order.nd rfl (.inl rfl) (pe_lst pa_nil))
      (pss_cons (ps_for PassesOwn.never rfl (pi_list (pv 3)) (pg_tupK (K := K) (n := 2) rfl rfl (pgs_cons (pg_name (i := 5) sc_firing_order.nd rfl (.inl rfl)) (pgs_cons (pg_name (i := 6) sc_firing_order.nd rfl (.inl rfl)) pgs_nil)))
        (pss_one (ps_set (i := 4) sc_firing_order.nd rfl (.inl rfl) (pe_call G_with_timer (hr.mono (by decide)) (by rfl) m_with_timer k_with_timer b_with_timer v_with_timer pass0 (pa_cons (pv 4) (pa_cons (pv 5) (pa_cons (pe_call G_goes_in_front hr (by rfl) m_goes_in_front k_goes_in_front b_goes_in_front v_goes_in_front pass0 (pa_cons (pv 0) (pa_cons (pv 1) (pa_cons (pv 6) (pa_cons (pv 2) (pa_cons pe_int pa_nil)))))) pa_nil)))))))
      (pss_one (ps_ret (pv 4))))), ?_⟩
    refine ⟨by simp [sizeLine_eq], fun p0 hp0 => ?_⟩
    have s0 := same_upd (o := .lst []) hp0
    have e0 : (upd H p0 (.lst [])) p0 = some (.lst []) := upd_same
    generalize upd H p0 (.lst []) = H0 at s0 e0 ⊢
    have hS0 := s0 _ _ hS
    refine ⟨_, rfl, S, rfl, ⟨_, SqL.of hS0⟩, for_list (K := K) (a := S) (xs := ts.map V.ref) (fun i σ H' => ∃ (p : Addr) (y5 y6 : Option V), σ = [some (.int (b : Nat)), some (.ref q), some (.int (d : Nat)), some (.ref S), some (.ref p), y5, y6] ∧ Same H0 H' ∧ H p = none ∧ H' p = some (.lst ((orderP b ws d (ps.take i)).map fun x => V.int (x : Nat))))
      ⟨p0, none, none, rfl, Same.refl _, hp0, e0⟩ (fun i σ H' _ ⟨_, _, _, _, sm, _⟩ => SqL.of (sm _ _ hS0)) ?_ ?_⟩
    · rintro i x σ H' hx ⟨p, y5, y6, rfl, sm, hp, eP⟩
      have hP' := hP.frame (H' := H') (fun t xs e => sm _ _ (s0 _ _ e))
      obtain ⟨t, r, rfl, hr2, ht⟩ := hP'.item hx
      obtain ⟨hrd, hd⟩ := ok r (List.mem_of_getElem? hr2)
      refine ⟨t, _, rfl, .inl (.inl ht), rfl, _, _, rfl, _, _, rfl, rfl, ?_⟩
      have hfew : (orderP b ws d (ps.take i)).length ≤ 1000 := by
        rw [orderP_len, List.length_take]
        omega
      refine ⟨_, rfl, _, rfl, _, rfl, _, rfl, _, rfl, _, rfl, b, r.2, d, 0, q, ws, rfl, hb, hb64, hrd, hd, (s0.trans sm).seq hL, hne, fun k2 hk2 H2 s2 => ?_⟩
      have eP2 := s2 _ _ eP
      refine ⟨p, orderP b ws d (ps.take i), r.1, frontOf ws 0 (rowsOf b r.2 d k2), rfl, eP2, hfew, fun H3 p3 s3 hp3 eP3 => ?_⟩
      refine ⟨p3, _, _, rfl, (sm.trans s2).trans s3, ((s0.trans sm).trans s2).free hp3, ?_⟩
      rw [List.take_add_one, hr2]
      show _ = some (HO.lst ((orderP b ws d (ps.take i ++ [r])).map fun x => V.int (x : Nat)))
      rw [orderP_snoc, sideT_eq hk2]
      exact eP3
    · rintro σ H' ⟨p, y5, y6, rfl, sm, hp, eP⟩
      rw [List.length_map, hP.len, List.take_length] at eP
      exact ⟨_, rfl, c _ p (s0.trans sm) hp eP⟩
end
/-! ### what fires, what is left -/
section
variable {P : Program} {w : World} {K : PySem.W.Frag} {mg : Str → Option Value} {base : Heap}
def spOrder (K : PySem.W.Frag) : Sp := fun vs H Q _ => ∃ (b t : Nat) (q l : Addr) (ws : List Bool) (kvs : List (Key × V)) (ms : List Tm), vs = [.int (b : Nat), .ref q, .ref l, .int (t : Nat)] ∧ 2 ≤ b ∧ b ≤ 64 ∧ SqL K H q (ws.map lvV) ∧ ws ≠ [] ∧ H l = some (.dK kvs) ∧ LiveK H kvs ms ∧ ms.length ≤ 1000 ∧ DuesOk ms ∧
  ∀ H' p, Same H H' → H p = none → H' p = some (.lst ((orderAt b ws t ms).map fun x => V.int (x : Nat))) → Q (.ref p) H'
theorem ok_order {f : Addr} {fd : FuncData} (F : Fun K "order_of_firing" "order_of_firing" s_order_of_firing f fd) (h1 : Has P w K mg base 4 "firing_order" ["base", "levels", "due", "settings"] [] (spFiringOrder K)) :
    FnOk P w K mg base CX0 5 f fd ["base", "levels", "live", "tick"] (spOrder K) := by
  obtain ⟨f_firing_order, fd_firing_order, ds_firing_order, G_firing_order, m_firing_order, k_firing_order, b_firing_order, v_firing_order⟩ := h1
  refine F.ok sc_order_of_firing (fun vs H Q E h => ?_) (fun cdv A outer s H vs Q E hr h => ?_)
  · obtain ⟨b, t, q, l, ws, kvs, ms, rfl, _⟩ := h
    rfl
  · obtain ⟨b, t, q, l, ws, kvs, ms, rfl, hb, hb64, hL, hne, hl, L, few, ok, c⟩ := h
    refine ⟨_, (pss_cons (ps_lock (ps_setLc (i := 4) (own := [("number", 5), ("due", 6), ("period", 7), ("since", 8)]) (g := _)  rfl sc_order_of_firing.nd rfl rfl (sw_true rfl rfl rfl (by decide +kernel)) (pi_items (pv 2)) (blkOk_by (own := [("number", 5), ("due", 6), ("period", 7), ("since", 8)]) (N := N_order_of_firing) (sc := defScope s_order_of_firing) (by decide +kernel)) (fun _ _ _ _ _ => (pg_tupK (K := K) (n := 2) rfl rfl (pgs_cons (pg_name (i := 5) sc_order_of_firing.nd rfl (.inl rfl)) (pgs_cons (pg_tupK (K := K) (n := 3) rfl rfl (pgs_cons (pg_name (i := 6) sc_order_of_firing.nd rfl (.inl rfl)) (pgs_cons (pg_name (i := 7) sc_order_of_firing.nd rfl (.inl rfl)) (pgs_cons (pg_name (i := 8) sc_order_of_firing.nd rfl (.inl rfl)) pgs_nil)))) pgs_nil)))) (fun _ _ _ _ _ => (pts_one (pt_cmpR op_eq (pv 6) (pv 3) (nomark _)))) (fun _ _ _ _ _ => (pe_tup (pa_cons (pv 5) (pa_cons (pv 8) pa_nil))))))
      (pss_one (ps_ret (pe_call G_firing_order hr (by rfl) m_firing_order k_firing_order b_firing_order v_firing_order pass0 (pa_cons (pv 0) (pa_cons (pv 1) (pa_cons (pv 3) (pa_cons (pv 4) pa_nil)))))))), ?_⟩
    refine ⟨l, _, hl, trivial, fun od => ?_⟩
    refine ⟨_, rfl, l, od, kvs, rfl, upd_same, fun D hD => lc_items (d := l) (o := od) (kvs := kvs) (fun i H' => Same (upd H l (.frz od (.dK kvs))) H' ∧ ∃ ts : List Addr, H' D = some (.lst (ts.map V.ref)) ∧ PrAt H' ts (setsOf t (ms.take i)))
      ⟨same_upd hD, [], upd_same, trivial⟩ (fun i H' ⟨sm, _⟩ => sm _ _ upd_same) ?_ ?_⟩
    · rintro i k v U H' hx ⟨sm, ts, eD, hP⟩ hU
      have L' := L.upd (o' := .frz od (.dK kvs)) hl (fun xs z => by cases z)
      obtain ⟨m, tt, hm, rfl, rfl, ht⟩ := L'.get hx
      have sU := same_upd (o := .tup [.int (m.num : Nat), .ref tt]) hU
      have ht' := sU _ _ (sm _ _ ht)
      have eD' := sU _ _ eD
      have hP' := hP.frame (H' := upd H' U (.tup [.int (m.num : Nat), .ref tt])) (fun t xs e => sU _ _ e)
      have hstep : setsOf t (ms.take (i + 1)) = setsOf t (ms.take i) ++ if m.due = t then [(m.num, m.since)] else [] := by
        rw [List.take_add_one, hm]
        show setsOf t (ms.take i ++ [m]) = _
        unfold setsOf
        rw [List.filter_append, List.map_append]
        by_cases e : m.due = t
        · rw [if_pos e, List.filter_cons_of_pos (by simpa using e)]
          rfl
        · rw [if_neg e, List.filter_cons_of_neg (by simpa using e)]
          rfl
      have hts : ts.length ≤ 1000 := by
        rw [hP.len]
        unfold setsOf
        rw [List.length_map]
        have z := List.length_filter_le (fun m : Tm => decide (m.due = t)) (ms.take i)
        rw [List.length_take] at z
        omega
      refine ⟨U, _, rfl, .inl (.inl upd_same), rfl, _, _, rfl, _, _, rfl, tt, _, rfl, .inl (.inl ht'), rfl, _, _, rfl, _, _, rfl, _, _, rfl, rfl, rfl, rfl, ?_⟩
      have sm1 := sm.trans sU
      by_cases e : m.due = t
      · refine ⟨_, rfl, _, rfl, rfl, true, dT (vE e), iteT ⟨_, rfl, _, rfl, by simp [sizeLine_eq], fun t3 ht3 => ?_⟩⟩
        have s3 := same_upd (o := .tup [.int (m.num : Nat), .int (m.since : Nat)]) ht3
        have eD3 := s3 _ _ eD'
        have n3 : t3 ≠ D := fun z => by
          rw [z] at ht3
          exact absurd (eD'.symm.trans ht3) (by intro y; cases y)
        refine ⟨_, eD3, ?_, fun c o e' => ?_, ts ++ [t3], ?_, ?_⟩
        · rw [List.length_map]
          exact sizeLine_ge (by omega)
        · rw [upd_ne (ne_of_none e' hD)]
          exact s3 _ _ (sm1 _ _ e')
        · rw [upd_same, List.map_append]
          rfl
        · rw [hstep, if_pos e]
          refine PrAt.app (r := (m.num, m.since)) (hP'.frame fun t' xs e' => ?_) ?_
          · rw [upd_ne (ne_of (s3 _ _ e') eD3 (by intro z; cases z))]
            exact s3 _ _ e'
          · rw [upd_ne n3]
            exact upd_same
      · refine ⟨_, rfl, _, rfl, rfl, false, dF (vN e), iteF ⟨sm1, ts, eD', ?_⟩⟩
        rw [hstep, if_neg e, List.append_nil]
        exact hP'
    · rintro H1 ⟨sm, ts, eD, hP⟩
      rw [L.len, List.take_length] at hP
      have nDl : D ≠ l := fun e => by
        rw [e, upd_same] at hD
        cases hD
      have s2 := unlock hl sm
      have hDn : H D = none := by
        rw [upd_ne nDl] at hD
        exact hD
      refine ⟨sm _ _ upd_same, ?_⟩
      have hP2 := hP.frame (H' := upd H1 l (.dK kvs)) (fun t' xs e' => by
        rw [upd_ne (ne_of e' (sm _ _ upd_same) (by intro z; cases z))]
        exact e')
      have eD2 : (upd H1 l (.dK kvs)) D = some (.lst (ts.map V.ref)) := by
        rw [upd_ne nDl]
        exact eD
      generalize upd H1 l (.dK kvs) = H2 at s2 hP2 eD2 ⊢
      refine ⟨_, rfl, _, rfl, _, rfl, _, rfl, b, t, q, D, ws, ts, setsOf t ms, rfl, hb, hb64, s2.seq hL, hne, eD2, hP2, ?_, ?_, fun H3 p s3 hp eP => ?_⟩
      · unfold setsOf
        rw [List.length_map]
        exact Nat.le_trans (List.length_filter_le _ _) few
      · intro r hr
        obtain ⟨m, hm, rfl⟩ := List.mem_map.mp hr
        have z := List.mem_filter.mp hm
        have e : m.due = t := by simpa using z.2
        rw [← e]
        exact ok m z.1
      · rw [← order_P] at eP
        exact c H3 p (s2.trans s3) (s2.free hp) eP
end
section
variable {P : Program} {w : World} {K : PySem.W.Frag} {mg : Str → Option Value} {base : Heap}
def spAfter : Sp := fun vs H Q _ => ∃ (l a : Addr) (t : Nat) (ns : List Nat) (kvs : List (Key × V)) (ms : List Tm), vs = [.ref l, .ref a, .int (t : Nat)] ∧ H l = some (.dK kvs) ∧ LiveK H kvs ms ∧ ms.length ≤ 1000 ∧ (ms.map (·.num)).Nodup ∧ H a = some (.lst (ns.map fun x => V.int (x : Nat))) ∧ Firing t ms ns ∧
  ∀ H' p kvs', Same H H' → H p = none → H' p = some (.dK kvs') → LiveK H' kvs' (afterF t ms ns) → Q (.ref p) H'
theorem ok_after {f : Addr} {fd : FuncData} (F : Fun K "after_firing" "after_firing" s_after_firing f fd) (T : Tx K mg) : FnOk P w K mg base CX0 1 f fd ["live", "numbers", "tick"] spAfter := by
  refine F.ok sc_after_firing (fun vs H Q E h => ?_) (fun cdv A outer s H vs Q E hr h => ?_)
  · obtain ⟨l, a, t, ns, kvs, ms, rfl, _⟩ := h
    rfl
  · obtain ⟨l, a, t, ns, kvs, ms, rfl, hl, L, few, nd, ha, fr, c⟩ := h
    have hu := hu_of hr
    refine ⟨_, (pss_cons (ps_set (i := 3) sc_after_firing.nd rfl (.inl rfl) (pe_callTy call_dictD (by rfl) T.b_dict (by decide +kernel) (pa_cons (pv 0) pa_nil)))
      (pss_cons (ps_for PassesOwn.never rfl (pi_list (pv 1)) (pg_name (i := 4) sc_after_firing.nd rfl (.inl rfl))
        (pss_cons (ps_asg (pe_dpop1 (pv 3) (pv 4) ⟨by rfl, by rfl, by rfl, by rfl⟩) (pg_tupK (K := K) (n := 3) rfl rfl (pgs_cons (pg_name (i := 5) sc_after_firing.nd rfl (.inl rfl)) (pgs_cons (pg_name (i := 6) sc_after_firing.nd rfl (.inl rfl)) (pgs_cons (pg_name (i := 7) sc_after_firing.nd rfl (.inl rfl)) pgs_nil)))))
        (pss_one (ps_if (pt_cmpR op_notN (pv 6) pe_non (nomark _))
          (pss_one (ps_dput hu (pv 3) (pv 4) (pe_tup (pa_cons (pe_op op_add (pv 2) (pv 6)) (pa_cons (pv 6) (pa_cons (pv 2) pa_nil)))) rfl))
          pss_nil))))
      (pss_one (ps_ret (pv 3))))), ?_⟩
    refine ⟨_, rfl, l, kvs, rfl, .inl hl, fun p hp => ?_⟩
    have s0 := same_upd (o := .dK kvs) hp
    have npa : p ≠ a := fun e => by
      rw [e, ha] at hp
      cases hp
    refine ⟨_, rfl, a, rfl, ⟨_, SqL.of (s0 _ _ ha)⟩, for_list (K := K) (a := a) (xs := ns.map fun x => V.int (x : Nat)) (fun i σ H' => ∃ (y4 y5 y6 y7 : Option V) (kvs' : List (Key × V)), σ = [some (.ref l), some (.ref a), some (.int (t : Nat)), some (.ref p), y4, y5, y6, y7] ∧ Same H H' ∧ H' p = some (.dK kvs') ∧ LiveK H' kvs' (afterF t ms (ns.take i)) ∧ ((afterF t ms (ns.take i)).map (·.num)).Nodup ∧ (afterF t ms (ns.take i)).length ≤ 1000 ∧ ∀ (x : Nat), (∃ j, i ≤ j ∧ ns[j]? = some x) → ∃ m ∈ afterF t ms (ns.take i), m.num = x)
      ⟨none, none, none, none, kvs, rfl, s0, upd_same, L.same s0, nd, few, fun x ⟨j, _, hj⟩ => fr.mem x (List.mem_of_getElem? hj)⟩ (fun i σ H' _ ⟨_, _, _, _, _, _, sm, _⟩ => SqL.of (sm _ _ ha)) ?_ ?_⟩
    · rintro i x σ H' hx ⟨y4, y5, y6, y7, kvs', rfl, sm, eP, L', nd', few', hin⟩
      rw [List.getElem?_map] at hx
      obtain ⟨n, hn, rfl⟩ : ∃ n, ns[i]? = some n ∧ x = V.int (n : Nat) := by
        cases e : ns[i]? with
        | none =>
          rw [e] at hx
          cases hx
        | some n =>
          rw [e] at hx
          exact ⟨n, rfl, (Option.some.inj hx).symm⟩
      obtain ⟨m, hm, en⟩ := hin n ⟨i, Nat.le_refl i, hn⟩
      have hfind := find_of nd' hm
      rw [en] at hfind
      obtain ⟨tt, hv, ht⟩ := L'.val_of nd' hm
      rw [en] at hv
      have estep : afterF t ms (ns.take (i + 1)) = fireT t (afterF t ms (ns.take i)) n := by
        unfold afterF
        rw [List.take_add_one, hn, List.foldl_append]
        rfl
      generalize hms : afterF t ms (ns.take i) = ms1 at L' nd' few' hin hm hfind estep
      have hnext : ∀ (x : Nat), (∃ j, i + 1 ≤ j ∧ ns[j]? = some x) → ∃ m ∈ fireT t ms1 n, m.num = x := fun x ⟨j, hj, ej⟩ => by
        refine fire_num (fun e => ?_) (hin x ⟨j, by omega, ej⟩)
        rw [e] at ej
        have hjl : j < ns.length := (List.getElem?_eq_some_iff.mp ej).1
        have := (List.getElem?_inj (i := i) (j := j) (List.getElem?_eq_some_iff.mp hn).1 fr.nd).mp (hn.trans ej.symm)
        omega
      refine ⟨_, rfl, p, rfl, .inl ⟨_, .inl eP⟩, _, rfl, kvs', Sum.inl (n : Int), _, eP, rfl, hv, ?_⟩
      have Ld := (L'.drop (n := n)).upd (o' := .dK (dropK kvs' (Sum.inl (n : Int)))) eP (fun xs z => by cases z)
      have ntp : tt ≠ p := ne_of ht eP (by intro z; cases z)
      have ht2 : (upd H' p (.dK (dropK kvs' (Sum.inl (n : Int))))) tt = some (.tup (tmV m)) := by
        rw [upd_ne ntp]
        exact ht
      have sd : Same H (upd H' p (.dK (dropK kvs' (Sum.inl (n : Int))))) := fun b o e => by
        rw [upd_ne (ne_of_none e hp)]
        exact sm _ _ e
      refine ⟨tt, _, rfl, .inl (.inl ht2), rfl, _, _, rfl, _, _, rfl, _, _, rfl, rfl, ?_⟩
      cases hper : m.per with
      | none =>
        have ef : fireT t ms1 n = dropT n ms1 := by rw [fire_some hfind, hper]
        refine ⟨perV none, rfl, rfl, false, ?_, iteF ?_⟩
        · rfl
        · refine ⟨_, _, _, _, _, rfl, sd, upd_same, ?_, ?_, ?_, ?_⟩
          · rw [estep, ef]
            exact Ld
          · rw [estep]
            exact fire_nodup nd'
          · rw [estep]
            exact Nat.le_trans fire_len few'
          · rw [estep]
            exact hnext
      | some k =>
        have ef : fireT t ms1 n = dropT n ms1 ++ [⟨n, t + k, some k, t⟩] := by rw [fire_some hfind, hper]
        refine ⟨perV (some k), rfl, rfl, true, ?_, iteT ?_⟩
        · rfl
        · have hvn := Ld.val_not (n := n) (fun m' hm' => drop_not m' hm')
          have hlen : (dropK kvs' (Sum.inl (n : Int))).length < sizeLine := by
            have z := dropK_le kvs' (Sum.inl (n : Int) : Key)
            rw [L'.len] at z
            exact sizeLine_ge (by omega)
          refine ⟨_, rfl, .int (k : Nat), rfl, _, _, rfl, rfl, .int (k : Nat), rfl, _, rfl, by simp [sizeLine_eq], fun u hu0 => ?_⟩
          have su := same_upd (o := .tup [.int ((t : Int) + (k : Int)), .int (k : Nat), .int (t : Nat)]) hu0
          have nup : p ≠ u := fun e => by
            rw [← e, upd_same] at hu0
            cases hu0
          refine ⟨_, rfl, _, rfl, p, _, rfl, DPut.k (k := Sum.inl (n : Int)) (su _ _ upd_same) hlen, ?_⟩
          rw [putK_new _ hvn]
          refine ⟨_, _, _, _, _, rfl, fun b o e => ?_, upd_same, ?_, ?_, ?_, ?_⟩
          · rw [upd_ne (ne_of_none e hp)]
            exact su _ _ (sd _ _ e)
          · rw [estep, ef]
            refine LiveK.upd (su _ _ upd_same) (fun xs z => by cases z) ?_
            exact (Ld.same su).snoc (m := ⟨n, t + k, some k, t⟩) rfl upd_same
          · rw [estep]
            exact fire_nodup nd'
          · rw [estep]
            exact Nat.le_trans fire_len few'
          · rw [estep]
            exact hnext
    · rintro σ H' ⟨y4, y5, y6, y7, kvs', rfl, sm, eP, L', _⟩
      rw [List.length_map, List.take_length] at L'
      exact ⟨_, rfl, c H' p kvs' sm hp eP L'⟩
end
/-! ### a wheel in the heap -/
def wfl (b : Nat) (q : Addr) (t f : Nat) (l : Addr) : List (Str × V) := [("base", .int (b : Nat)), ("words", .ref q), ("tick", .int (t : Nat)), ("following", .int (f : Nat)), ("live", .ref l)]
theorem ne_bw : ¬ (("base" : Str) = "words") := by decide +kernel
theorem ne_bt : ¬ (("base" : Str) = "tick") := by decide +kernel
theorem ne_bf : ¬ (("base" : Str) = "following") := by decide +kernel
theorem ne_bl : ¬ (("base" : Str) = "live") := by decide +kernel
theorem ne_wt : ¬ (("words" : Str) = "tick") := by decide +kernel
theorem ne_wf : ¬ (("words" : Str) = "following") := by decide +kernel
theorem ne_wl : ¬ (("words" : Str) = "live") := by decide +kernel
theorem ne_tf : ¬ (("tick" : Str) = "following") := by decide +kernel
theorem ne_tl : ¬ (("tick" : Str) = "live") := by decide +kernel
theorem ne_fl : ¬ (("following" : Str) = "live") := by decide +kernel
theorem lk_hit {k : Str} {v : V} {r : List (Str × V)} : List.lookup k ((k, v) :: r) = some v := by simp [List.lookup]
theorem lk_miss {k g : Str} {v : V} {r : List (Str × V)} (h : ¬ g = k) : List.lookup k ((g, v) :: r) = List.lookup k r := by
  have e : (k == g) = false := by simpa using fun z : k = g => h z.symm
  rw [List.lookup, e]
theorem pt_hit {k : Str} {v x : V} {r : List (Str × V)} : putF k v ((k, x) :: r) = (k, v) :: r := if_pos rfl
theorem pt_miss {k g : Str} {v x : V} {r : List (Str × V)} (h : ¬ g = k) : putF k v ((g, x) :: r) = (g, x) :: putF k v r := if_neg h
theorem pt_nil {k : Str} {v : V} : putF k v [] = [(k, v)] := rfl
section
variable {b : Nat} {q : Addr} {t f : Nat} {l : Addr}
theorem wf_b : (wfl b q t f l).lookup ("base" : Str) = some (.int (b : Nat)) := lk_hit
theorem wf_w : (wfl b q t f l).lookup ("words" : Str) = some (.ref q) := (lk_miss ne_bw).trans lk_hit
theorem wf_t : (wfl b q t f l).lookup ("tick" : Str) = some (.int (t : Nat)) := (lk_miss ne_bt).trans ((lk_miss ne_wt).trans lk_hit)
theorem wf_f : (wfl b q t f l).lookup ("following" : Str) = some (.int (f : Nat)) := (lk_miss ne_bf).trans ((lk_miss ne_wf).trans ((lk_miss ne_tf).trans lk_hit))
theorem wf_l : (wfl b q t f l).lookup ("live" : Str) = some (.ref l) := (lk_miss ne_bl).trans ((lk_miss ne_wl).trans ((lk_miss ne_tl).trans ((lk_miss ne_fl).trans lk_hit)))
theorem wf_no {m : Str} (h1 : ¬ ("base" : Str) = m) (h2 : ¬ ("words" : Str) = m) (h3 : ¬ ("tick" : Str) = m) (h4 : ¬ ("following" : Str) = m) (h5 : ¬ ("live" : Str) = m) : (wfl b q t f l).lookup m = none :=
  (lk_miss h1).trans ((lk_miss h2).trans ((lk_miss h3).trans ((lk_miss h4).trans ((lk_miss h5).trans rfl))))
theorem wf_pt {t' : Nat} : putF "tick" (.int (t' : Nat)) (wfl b q t f l) = wfl b q t' f l := by
  unfold wfl
  rw [pt_miss ne_bt, pt_miss ne_wt, pt_hit]
theorem wf_pf {f' : Nat} : putF "following" (.int (f' : Nat)) (wfl b q t f l) = wfl b q t f' l := by
  unfold wfl
  rw [pt_miss ne_bf, pt_miss ne_wf, pt_miss ne_tf, pt_hit]
theorem wf_pl {l' : Addr} : putF "live" (.ref l') (wfl b q t f l) = wfl b q t f l' := by
  unfold wfl
  rw [pt_miss ne_bl, pt_miss ne_wl, pt_miss ne_tl, pt_miss ne_fl, pt_hit]
end
structure WheelAt (C : Addr) (H : Hp) (p q l : Addr) (W : WS) : Prop where
  ins : ∃ dx, H p = some (.ins C dx (wfl W.b q W.tick W.fol l))
  words : H q = some (.lst (W.ws.map lvV))
  live : ∃ kvs, H l = some (.dK kvs) ∧ LiveK H kvs W.live
/-- all but the wheel (its object p, its dict l) stands as it was; its dict is the old one or a new one -/
structure Wk (p l : Addr) (H H' : Hp) (l' : Addr) : Prop where
  keep : ∀ c o, c ≠ p → c ≠ l → H c = some o → H' c = some o
  new : l' = l ∨ H l' = none
theorem WheelAt.same {C : Addr} {H H' : Hp} {p q l : Addr} {W : WS} (s : Same H H') (w : WheelAt C H p q l W) : WheelAt C H' p q l W := by
  obtain ⟨dx, h⟩ := w.ins
  obtain ⟨kvs, h2, L⟩ := w.live
  exact ⟨⟨dx, s _ _ h⟩, s _ _ w.words, ⟨kvs, s _ _ h2, L.same s⟩⟩
theorem WheelAt.frame {C : Addr} {H H' : Hp} {p q l a : Addr} {W : WS} {xs : List V} (w : WheelAt C H p q l W) (ha : H a = some (.lst xs)) (hq : a ≠ q) (s : ∀ c o, c ≠ a → H c = some o → H' c = some o) : WheelAt C H' p q l W := by
  obtain ⟨dx, h⟩ := w.ins
  obtain ⟨kvs, h2, L⟩ := w.live
  refine ⟨⟨dx, s _ _ (ne_of h ha (by intro z; cases z)) h⟩, s _ _ (Ne.symm hq) w.words, ⟨kvs, s _ _ (ne_of h2 ha (by intro z; cases z)) h2, L.frame fun t m e => s _ _ (ne_of e ha (by intro z; cases z)) e⟩⟩
structure TxW (K : PySem.W.Frag) (mg : Str → Option Value) (C : Addr) : Prop where
  cl : Cls K C
  nB : NoAttr K C "base"
  nW : NoAttr K C "words"
  nT : NoAttr K C "tick"
  nF : NoAttr K C "following"
  nL : NoAttr K C "live"
  mgC : mg "Wheel" = some (.ref C)
section
variable {P : Program} {w : World} {K : PySem.W.Frag} {mg : Str → Option Value} {base : Heap}
/-- a method that keeps its promise -/
def HasM (P : Program) (w : World) (K : PySem.W.Frag) (mg : Str → Option Value) (base : Heap) (k : Nat) (C : Addr) (m : Str) (ps : List Str) (dvs : List V) (sp : Sp) : Prop :=
  ∃ (f : Addr) (fd : FuncData) (ds : List Value), FnOk P w K mg base CX0 k f fd ps sp ∧ Meth K C m f ∧ Binds K fd ps ds ∧ Vals dvs ds
end
/-! ### a period, of an integer -/
section
variable {P : Program} {w : World} {K : PySem.W.Frag} {mg : Str → Option Value} {base : Heap}
def spIsPeriod : Sp := fun vs H Q _ => ∃ n : Int, vs = [.int n] ∧ 1 ≤ n ∧ Q (.bl true) H
theorem ok_is_period {f : Addr} {fd : FuncData} (F : Fun K "is_period" "is_period" s_is_period f fd) (h1 : Has P w K mg base 1 "is_integer" ["given"] [] spIsInt) : FnOk P w K mg base CX0 2 f fd ["given"] spIsPeriod := by
  obtain ⟨f_is_integer, fd_is_integer, ds_is_integer, G_is_integer, m_is_integer, k_is_integer, b_is_integer, v_is_integer⟩ := h1
  refine F.ok sc_is_period (fun vs H Q E h => ?_) (fun cdv A outer s H vs Q E hr h => ?_)
  · obtain ⟨n, rfl, _⟩ := h
    rfl
  · obtain ⟨n, rfl, l1, q⟩ := h
    refine ⟨_, (pss_one (ps_ret (pe_and (pe_call G_is_integer hr (by rfl) m_is_integer k_is_integer b_is_integer v_is_integer pass0 (pa_cons (pv 0) pa_nil)) (pe_one (pe_cmpR op_ge (pv 0) pe_int (nomark _)))))), ?_⟩
    refine ⟨.int n, rfl, n, rfl, true, rfl, iteT ?_⟩
    refine ⟨.int n, rfl, n, 1, rfl, rfl, ?_⟩
    have e : V.bl (decide (n ≥ 1)) = V.bl true := dT l1
    show Q (V.bl (decide (n ≥ 1))) H
    rw [e]
    exact q
end
section
variable {P : Program} {w : World} {K : PySem.W.Frag} {mg : Str → Option Value} {base : Heap}
def trimN (ws : List Bool) : Nat → Nat
  | 0 => 0
  | n + 1 => if 1 ≤ n ∧ ws[n]? = ws[n - 1]? then trimN ws n else n + 1
def trimW (ws : List Bool) : List Bool := ws.take (trimN ws ws.length)
theorem trimN_le (ws : List Bool) : ∀ n, trimN ws n ≤ n
  | 0 => Nat.le_refl _
  | n + 1 => by
    unfold trimN
    split
    · exact Nat.le_succ_of_le (trimN_le ws n)
    · exact Nat.le_refl _
theorem trimN_pos (ws : List Bool) : ∀ n, 1 ≤ n → 1 ≤ trimN ws n
  | 0, h => h
  | n + 1, _ => by
    unfold trimN
    split
    · rename_i h
      exact trimN_pos ws n h.1
    · omega
theorem trim_ne {ws : List Bool} (h : ws ≠ []) : trimW ws ≠ [] := by
  have hp : 0 < ws.length := List.length_pos_iff.mpr h
  have z := trimN_pos ws ws.length hp
  intro e
  have e2 := congrArg List.length e
  unfold trimW at e2
  rw [List.length_take] at e2
  have e3 : ([] : List Bool).length = 0 := rfl
  omega
theorem trim_len (ws : List Bool) : (trimW ws).length ≤ ws.length := by
  unfold trimW
  rw [List.length_take]
  omega
def spRepeats (K : PySem.W.Frag) : Sp := fun vs H Q _ => ∃ (q : Addr) (ws : List Bool), vs = [.ref q] ∧ SqL K H q (ws.map lvV) ∧ ws ≠ [] ∧ ws.length ≤ 60 ∧ ∀ H' p, Same H H' → H p = none → H' p = some (.lst ((trimW ws).map lvV)) → Q (.ref p) H'
theorem lv_inj {a b : Bool} : lvV a = lvV b ↔ a = b := by
  cases a <;> cases b <;> decide
theorem ok_repeats {f : Addr} {fd : FuncData} (F : Fun K "without_repeats" "without_repeats" s_without_repeats f fd) (T : Tx K mg) : FnOk P w K mg base CX0 1 f fd ["levels"] (spRepeats K) := by
  refine F.ok sc_without_repeats (fun vs H Q E h => ?_) (fun cdv A outer s H vs Q E hr h => ?_)
  · obtain ⟨q, ws, rfl, _⟩ := h
    rfl
  · obtain ⟨q, ws, rfl, hL, hne, h60, c⟩ := h
    refine ⟨_, (pss_cons (ps_set (i := 1) sc_without_repeats.nd rfl (.inl rfl) (pe_callB (lenK (K := K) rfl) (by rfl) T.b_len PySem.boot_len (pa_cons (pv 0) pa_nil)))
      (pss_cons (ps_while PassesOwn.never (PW.pt (pw_and (pt_cmpR op_gt (pv 1) pe_int (nomark _)) (pw_and1 (pt_cmpR op_eq (pe_ix (ix_listK (K := K) rfl) (pv 0) (pe_op op_subN (pv 1) pe_int) (fun _ _ => rfl)) (pe_ix (ix_listK (K := K) rfl) (pv 0) (pe_op op_subN (pv 1) pe_int) (fun _ _ => rfl)) (nomark _)))))
        (pss_one (ps_aug (i := 1) sc_without_repeats.nd rfl (.inl rfl) pe_int ip_sub)))
      (pss_one (ps_ret (pe_slice (sl_listK (K := K) rfl) (pv 0) po_none (po_some (pv 1))))))), ?_⟩
    refine ⟨.ref q, rfl, q, _, rfl, .inl hL, ?_⟩
    refine while_by (fun σ H' => ∃ n : Nat, σ = [some (.ref q), some (.int (n : Nat))] ∧ H' = H ∧ 1 ≤ n ∧ n ≤ ws.length ∧ trimN ws ws.length = trimN ws n) (fun σ _ => slotInt σ 1) ⟨ws.length, by rw [List.length_map]; rfl, rfl, List.length_pos_iff.mpr hne, Nat.le_refl _, rfl⟩ ?_ ?_
    · rintro σ H' ⟨n, rfl, rfl, h1, hn, et⟩
      have fin : n = trimN ws n → tRet (tSl (rSlL K) (tVar 0) tNoPart (tPart (tVar 1))) { nx := fun _ H' => Q .non H', rt := Q } [some (.ref q), some (.int (n : Nat))] H' := fun e => by
        refine ⟨_, rfl, _, rfl, _, rfl, q, _, rfl, hL, fun p hp => ?_⟩
        refine c _ p (same_upd hp) hp ?_
        rw [upd_same]
        have ec : cutV (ws.map lvV) none (some ((n : Nat) : Int)) = (trimW ws).map lvV := by
          unfold trimW cutV
          rw [HT.sIx_none, HT.sIx_nat, List.drop_zero, Nat.sub_zero, List.length_map, Nat.min_eq_left hn, List.map_take, et, ← e]
        rw [ec]
      obtain ⟨n, rfl⟩ : ∃ n', n = n' + 1 := ⟨n - 1, by omega⟩
      by_cases h2 : 1 < n + 1
      · have g1 : (ws.map lvV)[n]? = some (lvV (ws[n]'(by omega))) := by
          rw [List.getElem?_map, List.getElem?_eq_getElem]
          rfl
        have g2 : (ws.map lvV)[n - 1]? = some (lvV (ws[n - 1]'(by omega))) := by
          rw [List.getElem?_map, List.getElem?_eq_getElem]
          rfl
        refine ⟨_, rfl, _, _, rfl, rfl, true, dT (by omega), iteT ?_⟩
        refine ⟨_, rfl, _, rfl, n + 1, 1, rfl, rfl, Nat.le_add_left 1 n, q, _, _, _, rfl, rfl, hL, atI_nat (j := n) g1, _, rfl, _, rfl, n + 1, 2, rfl, rfl, (by show 2 ≤ n + 1; omega), q, _, _, _, rfl, rfl, hL, atI_nat (j := n - 1) g2, ?_, ?_⟩
        · cases ws[n]'(by omega) <;> cases ws[n - 1]'(by omega) <;> rfl
        · by_cases e : ws[n]'(by omega) = ws[n - 1]'(by omega)
          · have et2 : trimN ws (n + 1) = trimN ws n := by
              rw [trimN, if_pos]
              refine ⟨by omega, ?_⟩
              rw [List.getElem?_eq_getElem (by omega : n < ws.length), List.getElem?_eq_getElem (by omega : n - 1 < ws.length), e]
            refine ⟨true, dT (lv_inj.mpr e), iteT ⟨_, rfl, _, _, rfl, rfl, ⟨n, ?_, rfl, by omega, by omega, by rw [et, et2]⟩, ?_⟩⟩
            · show [some (V.ref q), some (V.int (((n + 1 : Nat) : Int) - 1))] = _
              rw [show ((n + 1 : Nat) : Int) - 1 = (n : Int) by omega]
            · show (((n + 1 : Nat) : Int) - 1).toNat < (((n + 1 : Nat) : Int)).toNat
              omega
          · refine ⟨false, dF (fun z => e (lv_inj.mp z)), iteF ?_⟩
            refine fin ?_
            rw [trimN, if_neg]
            rintro ⟨_, z⟩
            rw [List.getElem?_eq_getElem (by omega : n < ws.length), List.getElem?_eq_getElem (by omega : n - 1 < ws.length)] at z
            exact e (Option.some.inj z)
      · refine ⟨_, rfl, _, _, rfl, rfl, false, dF (by omega), iteF (iteF ?_)⟩
        refine fin ?_
        rw [trimN, if_neg]
        rintro ⟨z, _⟩
        omega
    · rintro σ H' Q1 Q2 h ⟨x, hx, i, j, e1, e2, k, e, z⟩
      refine ⟨x, hx, i, j, e1, e2, k, e, ?_⟩
      cases k with
      | false => exact iteF (h _ _ (by rw [if_neg Bool.false_ne_true] at z; exact z))
      | true =>
        rw [if_pos rfl] at z
        refine iteT ?_
        obtain ⟨x1, hx1, x2, hx2, a1, b1, e3, e4, c1, p1, i1, j1, v1, e5, e6, hs1, g1, y1, hy1, y2, hy2, a2, b2, e7, e8, c2, p2, i2, j2, v2, e9, e10, hs2, g2, hsc, k', ek, zz⟩ := z
        exact ⟨x1, hx1, x2, hx2, a1, b1, e3, e4, c1, p1, i1, j1, v1, e5, e6, hs1, g1, y1, hy1, y2, hy2, a2, b2, e7, e8, c2, p2, i2, j2, v2, e9, e10, hs2, g2, hsc, k', ek, h _ _ zz⟩
def spCheckPeriod : Sp := fun vs H Q _ => ∃ o : Option Nat, vs = [perV o] ∧ (∀ k, o = some k → 1 ≤ k) ∧ Q .non H
theorem ok_check_period {f : Addr} {fd : FuncData} (F : Fun K "check_period" "check_period" s_check_period f fd) (h1 : Has P w K mg base 2 "is_period" ["given"] [] spIsPeriod) : FnOk P w K mg base CX0 3 f fd ["period"] spCheckPeriod := by
  obtain ⟨f_is_period, fd_is_period, ds_is_period, G_is_period, m_is_period, k_is_period, b_is_period, v_is_period⟩ := h1
  refine F.ok sc_check_period (fun vs H Q E h => ?_) (fun cdv A outer s H vs Q E hr h => ?_)
  · obtain ⟨o, rfl, _⟩ := h
    rfl
  · obtain ⟨o, rfl, hp, q⟩ := h
    refine ⟨_, (pss_one (ps_if (PW.pt (pw_and (pt_cmpR op_notN (pv 0) pe_non (nomark _)) (pw_and1 (pt_not (pt_val (pe_call G_is_period hr (by rfl) m_is_period k_is_period b_is_period v_is_period pass0 (pa_cons (pv 0) pa_nil)))))))
        (pss_one ps_never)
        pss_nil)), ?_⟩
    cases o with
    | none => exact ⟨_, rfl, rfl, false, rfl, iteF (iteF q)⟩
    | some k =>
      have hk := hp k rfl
      refine ⟨_, rfl, rfl, true, rfl, iteT ?_⟩
      exact ⟨.int (k : Nat), rfl, (k : Nat), rfl, by omega, true, rfl, iteF q⟩
def spInit (C : Addr) (K : PySem.W.Frag) : Sp := fun vs H Q _ => ∃ (p dx q0 : Addr) (b t : Nat) (ws : List Bool), vs = [.ref p, .int (b : Nat), .ref q0, .int (t : Nat)] ∧ H p = some (.ins C dx []) ∧ SqL K H q0 (ws.map lvV) ∧ 2 ≤ b ∧ b ≤ 64 ∧ ws ≠ [] ∧ ws.length ≤ 60 ∧
  ∀ H' q l, (∀ c o, c ≠ p → H c = some o → H' c = some o) → H q = none → H l = none → WheelAt C H' p q l ⟨b, trimW ws, t, 0, []⟩ → Q .non H'
theorem ok_init {f C : Addr} {fd : FuncData} (F : FunD K "__init__" "Wheel.__init__" (defArgs s_Wheel___init__) (defBody s_Wheel___init__) (defScope s_Wheel___init__) [] [("start", .int 0)] f fd) (TW : TxW K mg C) (h1 : Has P w K mg base 3 "check_base" ["base"] [] spCheckBase)
    (h2 : Has P w K mg base 3 "check_tick" ["tick", "least"] [.int 0] spCheckTick) (h4 : Has P w K mg base 4 "check_levels" ["levels"] [] (spCheckLevels K)) (h5 : Has P w K mg base 1 "without_repeats" ["levels"] [] (spRepeats K)) :
    FnOk P w K mg base CX0 5 f fd ["self", "base", "levels", "start"] (spInit C K) := by
  obtain ⟨f_check_base, fd_check_base, ds_check_base, G_check_base, m_check_base, k_check_base, b_check_base, v_check_base⟩ := h1
  obtain ⟨f_check_tick1, fd_check_tick1, ds_check_tick1, G_check_tick1, m_check_tick1, k_check_tick1, b_check_tick1, v_check_tick1⟩ := h2
  obtain ⟨f_check_levels, fd_check_levels, ds_check_levels, G_check_levels, m_check_levels, k_check_levels, b_check_levels, v_check_levels⟩ := h4
  obtain ⟨f_without_repeats, fd_without_repeats, ds_without_repeats, G_without_repeats, m_without_repeats, k_without_repeats, b_without_repeats, v_without_repeats⟩ := h5
  refine F.ok sc_Wheel___init__ (fun vs H Q E h => ?_) (fun cdv A outer s H vs Q E hr h => ?_)
  · obtain ⟨p, dx, q0, b, t, ws, rfl, _⟩ := h
    rfl
  · obtain ⟨p, dx, q0, b, t, ws, rfl, hp, hL, hb, hb64, hne, h60, c⟩ := h
    refine ⟨_, PSs.nox (pss_cons (ps_expr (pe_call G_check_base (hr.mono (by decide)) (by rfl) m_check_base k_check_base b_check_base v_check_base pass0 (pa_cons (pv 1) pa_nil)))
      (pss_cons (ps_expr (pe_call G_check_levels hr (by rfl) m_check_levels k_check_levels b_check_levels v_check_levels pass0 (pa_cons (pv 2) pa_nil)))
      (pss_cons (ps_expr (pe_call G_check_tick1 (hr.mono (by decide)) (by rfl) m_check_tick1 k_check_tick1 b_check_tick1 v_check_tick1 pass0 (pa_cons (pv 3) pa_nil)))
      (pss_cons (ps_fld (pv 0) (pv 1) rfl)
      (pss_cons (ps_fld (pv 0) (pe_call G_without_repeats (hr.mono (by decide)) (by rfl) m_without_repeats k_without_repeats b_without_repeats v_without_repeats pass0 (pa_cons (pv 2) pa_nil)) rfl)
      (pss_cons (ps_fld (pv 0) (pv 3) rfl)
      (pss_cons (ps_fld (pv 0) pe_int rfl)
      (pss_one (ps_fld (pv 0) pe_dnewK rfl))))))))), ?_⟩
    refine ⟨_, rfl, b, rfl, by omega, by omega, ?_⟩
    refine ⟨_, rfl, q0, ws, rfl, hL, hne, h60, fun H1 s1 => ?_⟩
    refine ⟨_, rfl, t, 0, rfl, by omega, ?_⟩
    have hp1 := s1 _ _ hp
    refine ⟨_, rfl, _, rfl, p, C, dx, [], rfl, hp1, TW.cl, TW.nB, by simp, ?_⟩
    have k2 : ∀ c o, c ≠ p → H c = some o → (upd H1 p (.ins C dx (putF "base" (.int (b : Nat)) []))) c = some o := fun c o n e => by
      rw [upd_ne n]
      exact s1 _ _ e
    have hL2 : SqL K (upd H1 p (.ins C dx (putF "base" (.int (b : Nat)) []))) q0 (ws.map lvV) := by
      rcases s1.seq hL with (e | ⟨o, e⟩) | e
      · exact .inl (.inl (by rw [upd_ne (ne_of e hp1 (by intro z; cases z))]; exact e))
      · exact .inl (.inr ⟨o, by rw [upd_ne (ne_of e hp1 (by intro z; cases z))]; exact e⟩)
      · exact .inr e
    refine ⟨_, rfl, q0, ws, rfl, hL2, hne, h60, fun H3 q s3 hq0 hq3 => ?_⟩
    have hp3 := s3 _ _ (upd_same (H := H1) (a := p))
    have nqp : q ≠ p := fun e => by
      rw [e, upd_same] at hq0
      cases hq0
    have k3 : ∀ c o, c ≠ p → H c = some o → H3 c = some o := fun c o n e => s3 _ _ (k2 c o n e)
    have hqn : H q = none := by
      cases e : H q with
      | none => rfl
      | some o =>
        rw [k2 q o nqp e] at hq0
        cases hq0
    refine ⟨_, rfl, p, C, dx, _, rfl, hp3, TW.cl, TW.nW, by rw [pt_nil]; simp, ?_⟩
    refine ⟨_, rfl, _, rfl, p, C, dx, _, rfl, upd_same, TW.cl, TW.nT, by rw [pt_nil, pt_miss ne_bw, pt_nil]; simp, ?_⟩
    refine ⟨_, rfl, p, C, dx, _, rfl, upd_same, TW.cl, TW.nF, by rw [pt_nil, pt_miss ne_bw, pt_nil, pt_miss ne_bt, pt_miss ne_wt, pt_nil]; simp, ?_⟩
    refine fun l hl => ⟨_, rfl, p, C, dx, putF "following" (.int 0) (putF "tick" (.int (t : Nat)) (putF "words" (.ref q) (putF "base" (.int (b : Nat)) []))), rfl, ?_, TW.cl, TW.nL, by rw [pt_nil, pt_miss ne_bw, pt_nil, pt_miss ne_bt, pt_miss ne_wt, pt_nil, pt_miss ne_bf, pt_miss ne_wf, pt_miss ne_tf, pt_nil]; simp, ?_⟩
    · have nlp : p ≠ l := fun e => by
        rw [← e, upd_same] at hl
        cases hl
      rw [upd_ne nlp, upd_same]
    have nlp : l ≠ p := fun e => by
      rw [e, upd_same] at hl
      cases hl
    rw [upd_ne nlp, upd_ne nlp, upd_ne nlp] at hl
    have nlq : l ≠ q := fun e => by
      rw [e, hq3] at hl
      cases hl
    have hln : H l = none := by
      cases e : H l with
      | none => rfl
      | some o =>
        rw [k3 l o nlp e] at hl
        cases hl
    refine c _ q l (fun c o n e => ?_) hqn hln ⟨⟨dx, ?_⟩, ?_, ⟨[], ?_, trivial⟩⟩
    · rw [upd_ne n, upd_ne (fun z => by rw [z, hln] at e; cases e), upd_ne n, upd_ne n, upd_ne n]
      exact k3 c o n e
    · rw [upd_same, pt_nil, pt_miss ne_bw, pt_nil, pt_miss ne_bt, pt_miss ne_wt, pt_nil, pt_miss ne_bf, pt_miss ne_wf, pt_miss ne_tf, pt_nil, pt_miss ne_bl, pt_miss ne_wl, pt_miss ne_tl, pt_miss ne_fl, pt_nil]
      rfl
    · rw [upd_ne nqp, upd_ne (Ne.symm nlq), upd_ne nqp, upd_ne nqp, upd_ne nqp]
      exact hq3
    · rw [upd_ne nlp, upd_same]
end
/-! ### words at the end that only repeat tell nothing -/
theorem trimN_same {ws : List Bool} : ∀ n, 1 ≤ n → n ≤ ws.length → (∀ i, n - 1 ≤ i → i < ws.length → ws[i]? = ws[n - 1]?) → ∀ i, trimN ws n - 1 ≤ i → i < ws.length → ws[i]? = ws[trimN ws n - 1]?
  | 0, h, _, _ => by omega
  | n + 1, _, hl, h => by
    intro i h1 h2
    unfold trimN at h1 ⊢
    split at h1
    · rename_i c
      rw [if_pos c]
      refine trimN_same n c.1 (by omega) (fun j j1 j2 => ?_) i h1 h2
      by_cases e : j = n - 1
      · rw [e]
      · have z := h j (by omega) j2
        rw [Nat.add_sub_cancel] at z
        rw [z]
        exact c.2
    · rename_i c
      rw [if_neg c]
      exact h i h1 h2
theorem trim_word {ws : List Bool} (hne : ws ≠ []) (k : Nat) : wordAt (trimW ws) k = wordAt ws k := by
  have hp : 0 < ws.length := List.length_pos_iff.mpr hne
  have m0 := trimN_pos ws ws.length hp
  have m1 := trimN_le ws ws.length
  have same := trimN_same (ws := ws) ws.length hp (Nat.le_refl _) fun i h1 h2 => by
    rw [show i = ws.length - 1 by omega]
  unfold wordAt trimW
  have e1 : (ws.take (trimN ws ws.length)).length = trimN ws ws.length := by
    rw [List.length_take]
    omega
  rw [e1]
  rw [List.getD_eq_getElem?_getD, List.getD_eq_getElem?_getD, List.getElem?_take, if_pos (by omega)]
  by_cases c : k ≤ trimN ws ws.length - 1
  · rw [Nat.min_eq_left c, Nat.min_eq_left (by omega)]
  · rw [Nat.min_eq_right (by omega), ← same (min k (ws.length - 1)) (by omega) (by omega)]
theorem trim_side {ws : List Bool} (hne : ws ≠ []) (b n d lo : Nat) : sideT b (trimW ws) n d lo = sideT b ws n d lo := by
  unfold sideT
  split
  · unfold frontOf
    congr 3
    congr 1
    funext r
    rw [trim_word hne]
  · rfl
section
variable {P : Program} {w : World} {K : PySem.W.Frag} {mg : Str → Option Value} {base : Heap}
theorem no_ct {b : Nat} {q : Addr} {t f : Nat} {l : Addr} : (wfl b q t f l).lookup ("check_timer" : Str) = none := wf_no (by decide +kernel) (by decide +kernel) (by decide +kernel) (by decide +kernel) (by decide +kernel)
def spCheckTimer (C : Addr) : Sp := fun vs H Q _ => ∃ (p q l : Addr) (W : WS) (n : Nat), vs = [.ref p, .int (n : Nat)] ∧ WheelAt C H p q l W ∧ (W.live.map (·.num)).Nodup ∧ (∃ m ∈ W.live, m.num = n) ∧ Q .non H
theorem ok_check_timer {f C : Addr} {fd : FuncData} (F : Fun K "check_timer" "Wheel.check_timer" s_Wheel_check_timer f fd) (TW : TxW K mg C) (h1 : Has P w K mg base 1 "is_integer" ["given"] [] spIsInt) : FnOk P w K mg base CX0 2 f fd ["self", "timer"] (spCheckTimer C) := by
  obtain ⟨f_is_integer, fd_is_integer, ds_is_integer, G_is_integer, m_is_integer, k_is_integer, b_is_integer, v_is_integer⟩ := h1
  refine F.ok sc_Wheel_check_timer (fun vs H Q E h => ?_) (fun cdv A outer s H vs Q E hr h => ?_)
  · obtain ⟨p, q, l, W, n, rfl, _⟩ := h
    rfl
  · obtain ⟨p, q, l, W, n, rfl, hw, nd, ⟨m, hm, en⟩, c⟩ := h
    have hu := hu_of hr
    obtain ⟨dx, hp⟩ := hw.ins
    obtain ⟨kvs, hl, L⟩ := hw.live
    obtain ⟨tt, hv, ht⟩ := L.val_of nd hm
    rw [en] at hv
    refine ⟨_, (pss_one (ps_if (PW.pt (pw_or (pt_not (pt_val (pe_call G_is_integer hr (by rfl) m_is_integer k_is_integer b_is_integer v_is_integer pass0 (pa_cons (pv 1) pa_nil)))) (pw_or1 (pt_cmp (pc_dnotin hu (pv 1) (pe_fld (pv 0) rfl))))))
        (pss_one ps_never)
        pss_nil)), ?_⟩
    refine ⟨_, rfl, (n : Nat), rfl, true, rfl, iteF ?_⟩
    refine ⟨_, rfl, _, rfl, p, C, dx, _, _, rfl, hp, TW.cl, TW.nL, wf_l, l, some (.ref tt), rfl, ?_, false, rfl, iteF c⟩
    rw [← hv]
    exact DGet.k (k := Sum.inl (n : Int)) hl
def spNow (C : Addr) : Sp := fun vs H Q _ => ∃ (p q l : Addr) (W : WS), vs = [.ref p] ∧ WheelAt C H p q l W ∧ Q (.int (W.tick : Nat)) H
theorem ok_now {f C : Addr} {fd : FuncData} (F : Fun K "now" "Wheel.now" s_Wheel_now f fd) (TW : TxW K mg C) : FnOk P w K mg base CX0 1 f fd ["self"] (spNow C) := by
  refine F.ok sc_Wheel_now (fun vs H Q E h => ?_) (fun cdv A outer s H vs Q E hr h => ?_)
  · obtain ⟨p, q, l, W, rfl, _⟩ := h
    rfl
  · obtain ⟨p, q, l, W, rfl, hw, c⟩ := h
    obtain ⟨dx, hp⟩ := hw.ins
    refine ⟨_, (pss_one (ps_ret (pe_fld (pv 0) rfl))), ?_⟩
    exact ⟨_, rfl, p, C, dx, _, _, rfl, hp, TW.cl, TW.nT, wf_t, c⟩
def spPut (C : Addr) : Sp := fun vs H Q _ => ∃ (p q l : Addr) (W : WS) (d : Nat) (o : Option Nat), vs = [.ref p, .int (d : Nat), perV o] ∧ WheelAt C H p q l W ∧ WOk W ∧ W.live.length < 1000 ∧ W.tick < d ∧ (∀ k, o = some k → 1 ≤ k) ∧
  ∀ H', Wk p l H H' l → WheelAt C H' p q l { W with fol := W.fol + 1, live := W.live ++ [⟨W.fol, d, o, W.tick⟩] } → Q (.int (W.fol : Nat)) H'
theorem ok_put {f C : Addr} {fd : FuncData} (F : FunD K "put" "Wheel.put" (defArgs s_Wheel_put) (defBody s_Wheel_put) (defScope s_Wheel_put) [] [("period", .non)] f fd) (TW : TxW K mg C) (h1 : Has P w K mg base 3 "check_tick" ["tick", "least"] [] spCheckTick)
    (h2 : Has P w K mg base 3 "check_period" ["period"] [] spCheckPeriod) : FnOk P w K mg base CX0 4 f fd ["self", "due", "period"] (spPut C) := by
  obtain ⟨f_check_tick, fd_check_tick, ds_check_tick, G_check_tick, m_check_tick, k_check_tick, b_check_tick, v_check_tick⟩ := h1
  obtain ⟨f_check_period, fd_check_period, ds_check_period, G_check_period, m_check_period, k_check_period, b_check_period, v_check_period⟩ := h2
  refine F.ok sc_Wheel_put (fun vs H Q E h => ?_) (fun cdv A outer s H vs Q E hr h => ?_)
  · obtain ⟨p, q, l, W, d, o, rfl, _⟩ := h
    rfl
  · obtain ⟨p, q, l, W, d, o, rfl, hw, ok, few, htd, hper, c⟩ := h
    have hu := hu_of hr
    obtain ⟨dx, hp⟩ := hw.ins
    obtain ⟨kvs, hl, L⟩ := hw.live
    refine ⟨_, PSs.nox (pss_cons (ps_expr (pe_call G_check_tick hr (by rfl) m_check_tick k_check_tick b_check_tick v_check_tick pass0 (pa_cons (pv 1) (pa_cons (pe_op op_add (pe_fld (pv 0) rfl) pe_int) pa_nil))))
      (pss_cons (ps_expr (pe_call G_check_period hr (by rfl) m_check_period k_check_period b_check_period v_check_period pass0 (pa_cons (pv 2) pa_nil)))
      (pss_cons (ps_set (i := 3) sc_Wheel_put.nd rfl (.inl rfl) (pe_fld (pv 0) rfl))
      (pss_cons (ps_fldaug (pv 0) pe_int in_add)
      (pss_cons (ps_dput hu (pe_fld (pv 0) rfl) (pv 3) (pe_tup (pa_cons (pv 1) (pa_cons (pv 2) (pa_cons (pe_fld (pv 0) rfl) pa_nil)))) rfl)
      (pss_one (ps_ret (pv 3)))))))), ?_⟩
    refine ⟨_, rfl, _, rfl, p, C, dx, _, _, rfl, hp, TW.cl, TW.nT, wf_t, _, 1, rfl, rfl, (d : Nat), _, rfl, by omega, ?_⟩
    refine ⟨_, rfl, o, rfl, hper, ?_⟩
    refine ⟨_, rfl, p, C, dx, _, _, rfl, hp, TW.cl, TW.nF, wf_f, ?_⟩
    refine ⟨_, rfl, p, C, dx, _, _, rfl, hp, TW.cl, TW.nF, wf_f, (W.fol : Nat), 1, rfl, rfl, dx, _, hp, by simp [wfl], ?_⟩
    have e1 : putF "following" (.int ((W.fol : Int) + 1)) (wfl W.b q W.tick W.fol l) = wfl W.b q W.tick (W.fol + 1) l := wf_pf (f' := W.fol + 1)
    have npl : l ≠ p := ne_of hl hp (by intro z; cases z)
    have hp2 : (upd H p (.ins C dx (putF "following" (.int ((W.fol : Int) + 1)) (wfl W.b q W.tick W.fol l)))) p = some (.ins C dx (wfl W.b q W.tick (W.fol + 1) l)) := by rw [upd_same, e1]
    refine ⟨_, rfl, _, rfl, _, rfl, p, C, dx, _, _, rfl, hp2, TW.cl, TW.nT, wf_t, by simp [sizeLine_eq], fun u hu0 => ?_⟩
    have nup : u ≠ p := fun e => by
      rw [e, upd_same] at hu0
      cases hu0
    rw [upd_ne nup] at hu0
    have nul : u ≠ l := fun e => by
      rw [e, hl] at hu0
      cases hu0
    generalize hH2 : upd (upd H p (.ins C dx (putF "following" (.int ((W.fol : Int) + 1)) (wfl W.b q W.tick W.fol l)))) u (.tup [.int (d : Nat), perV o, .int (W.tick : Nat)]) = H2
    have a1 : H2 p = some (.ins C dx (wfl W.b q W.tick (W.fol + 1) l)) := by rw [← hH2, upd_ne (Ne.symm nup)]; exact hp2
    have a2 : H2 u = some (.tup (tmV ⟨W.fol, d, o, W.tick⟩)) := by rw [← hH2, upd_same]; rfl
    have a3 : ∀ c o, c ≠ p → H c = some o → H2 c = some o := fun c o n e => by
      rw [← hH2, upd_ne (ne_of_none e hu0), upd_ne n]
      exact e
    have a4 := a3 _ _ npl hl
    have L2' : LiveK H2 kvs W.live := L.frame fun t m e => a3 _ _ (ne_of e hp (by intro z; cases z)) e
    have hvn := L2'.val_not (n := W.fol) fun m hm => Nat.ne_of_lt (ok.tms m hm).num
    refine ⟨_, rfl, p, C, dx, _, _, rfl, a1, TW.cl, TW.nL, wf_l, _, rfl, l, _, rfl, DPut.k (k := Sum.inl (W.fol : Int)) a4 (by rw [L.len]; exact sizeLine_ge (by omega)), ?_⟩
    rw [putK_new _ hvn]
    refine ⟨_, rfl, c _ ⟨fun c o n1 n2 e => ?_, .inl rfl⟩ ⟨⟨dx, ?_⟩, ?_, ⟨_, upd_same, ?_⟩⟩⟩
    · rw [upd_ne n2]
      exact a3 c o n1 e
    · rw [upd_ne (Ne.symm npl)]
      exact a1
    · rw [upd_ne (ne_of hw.words hl (by intro z; cases z))]
      exact a3 _ _ (ne_of hw.words hp (by intro z; cases z)) hw.words
    · exact LiveK.upd a4 (fun xs z => by cases z) (L2'.snoc (m := ⟨W.fol, d, o, W.tick⟩) rfl a2)
end
section
variable {P : Program} {w : World} {K : PySem.W.Frag} {mg : Str → Option Value} {base : Heap}
def spCancel (C : Addr) : Sp := fun vs H Q _ => ∃ (p q l : Addr) (W : WS) (n : Nat), vs = [.ref p, .int (n : Nat)] ∧ WheelAt C H p q l W ∧ (W.live.map (·.num)).Nodup ∧ (∃ m ∈ W.live, m.num = n) ∧
  ∀ H', Wk p l H H' l → WheelAt C H' p q l { W with live := dropT n W.live } → Q .non H'
theorem ok_cancel {f C : Addr} {fd : FuncData} (F : Fun K "cancel" "Wheel.cancel" s_Wheel_cancel f fd) (TW : TxW K mg C) (h1 : HasM P w K mg base 2 C "check_timer" ["self", "timer"] [] (spCheckTimer C)) : FnOk P w K mg base CX0 3 f fd ["self", "timer"] (spCancel C) := by
  obtain ⟨f_ct, fd_ct, ds_ct, G_Wheel_check_timer, M_Wheel_check_timer, b_Wheel_check_timer, v_Wheel_check_timer⟩ := h1
  have cl_Wheel := TW.cl
  refine F.ok sc_Wheel_cancel (fun vs H Q E h => ?_) (fun cdv A outer s H vs Q E hr h => ?_)
  · obtain ⟨p, q, l, W, n, rfl, _⟩ := h
    rfl
  · obtain ⟨p, q, l, W, n, rfl, hw, nd, hin, c⟩ := h
    obtain ⟨dx, hp⟩ := hw.ins
    obtain ⟨kvs, hl, L⟩ := hw.live
    refine ⟨_, (pss_cons (ps_expr (pe_meth (pv 0) cl_Wheel M_Wheel_check_timer G_Wheel_check_timer hr b_Wheel_check_timer v_Wheel_check_timer pass0 (pa_cons (pv 1) pa_nil)))
      (pss_one (ps_ddel (pe_fld (pv 0) rfl) (pv 1)))), ?_⟩
    refine ⟨_, rfl, p, dx, _, rfl, hp, no_ct, _, rfl, p, q, l, W, n, rfl, hw, nd, hin, ?_⟩
    obtain ⟨m, hm, en⟩ := hin
    obtain ⟨tt, hv, ht⟩ := L.val_of nd hm
    rw [en] at hv
    have npl : l ≠ p := ne_of hl hp (by intro z; cases z)
    refine ⟨_, rfl, p, C, dx, _, _, rfl, hp, TW.cl, TW.nL, wf_l, _, rfl, l, kvs, Sum.inl (n : Int), rfl, hl, rfl, by rw [hv]; rfl, ?_⟩
    refine c _ ⟨fun c o n1 n2 e => ?_, .inl rfl⟩ ⟨⟨dx, ?_⟩, ?_, ⟨_, upd_same, ?_⟩⟩
    · rw [upd_ne n2]
      exact e
    · rw [upd_ne (Ne.symm npl)]
      exact hp
    · rw [upd_ne (ne_of hw.words hl (by intro z; cases z))]
      exact hw.words
    · exact LiveK.upd hl (fun xs z => by cases z) L.drop
def spReset (C : Addr) : Sp := fun vs H Q _ => ∃ (p q l : Addr) (W : WS) (m : Tm) (d : Nat), vs = [.ref p, .int (m.num : Nat), .int (d : Nat)] ∧ WheelAt C H p q l W ∧ (W.live.map (·.num)).Nodup ∧ W.live.length ≤ 1000 ∧ m ∈ W.live ∧ W.tick < d ∧
  ∀ H', Wk p l H H' l → WheelAt C H' p q l { W with live := dropT m.num W.live ++ [⟨m.num, d, m.per, W.tick⟩] } → Q .non H'
theorem ok_reset {f C : Addr} {fd : FuncData} (F : Fun K "reset" "Wheel.reset" s_Wheel_reset f fd) (TW : TxW K mg C) (h1 : HasM P w K mg base 2 C "check_timer" ["self", "timer"] [] (spCheckTimer C)) (h2 : Has P w K mg base 3 "check_tick" ["tick", "least"] [] spCheckTick) :
    FnOk P w K mg base CX0 4 f fd ["self", "timer", "due"] (spReset C) := by
  obtain ⟨f_ct, fd_ct, ds_ct, G_Wheel_check_timer, M_Wheel_check_timer, b_Wheel_check_timer, v_Wheel_check_timer⟩ := h1
  obtain ⟨f_check_tick, fd_check_tick, ds_check_tick, G_check_tick, m_check_tick, k_check_tick, b_check_tick, v_check_tick⟩ := h2
  have cl_Wheel := TW.cl
  refine F.ok sc_Wheel_reset (fun vs H Q E h => ?_) (fun cdv A outer s H vs Q E hr h => ?_)
  · obtain ⟨p, q, l, W, m, d, rfl, _⟩ := h
    rfl
  · obtain ⟨p, q, l, W, m, d, rfl, hw, nd, few, hm, htd, c⟩ := h
    have hu := hu_of hr
    obtain ⟨dx, hp⟩ := hw.ins
    obtain ⟨kvs, hl, L⟩ := hw.live
    obtain ⟨tt, hv, ht⟩ := L.val_of nd hm
    have npl : l ≠ p := ne_of hl hp (by intro z; cases z)
    refine ⟨_, (pss_cons (ps_expr (pe_meth (pv 0) cl_Wheel M_Wheel_check_timer G_Wheel_check_timer (hr.mono (by decide)) b_Wheel_check_timer v_Wheel_check_timer pass0 (pa_cons (pv 1) pa_nil)))
      (pss_cons (ps_expr (pe_call G_check_tick hr (by rfl) m_check_tick k_check_tick b_check_tick v_check_tick pass0 (pa_cons (pv 2) (pa_cons (pe_op op_add (pe_fld (pv 0) rfl) pe_int) pa_nil))))
      (pss_cons (ps_asg (pe_dpop1 (pe_fld (pv 0) rfl) (pv 1) ⟨by rfl, by rfl, by rfl, by rfl⟩) (pg_tupK (K := K) (n := 3) rfl rfl (pgs_cons (pg_name (i := 3) sc_Wheel_reset.nd rfl (.inl rfl)) (pgs_cons (pg_name (i := 4) sc_Wheel_reset.nd rfl (.inl rfl)) (pgs_cons (pg_name (i := 5) sc_Wheel_reset.nd rfl (.inl rfl)) pgs_nil)))))
      (pss_one (ps_dput hu (pe_fld (pv 0) rfl) (pv 1) (pe_tup (pa_cons (pv 2) (pa_cons (pv 4) (pa_cons (pe_fld (pv 0) rfl) pa_nil)))) rfl))))), ?_⟩
    refine ⟨_, rfl, p, dx, _, rfl, hp, no_ct, _, rfl, p, q, l, W, m.num, rfl, hw, nd, ⟨m, hm, rfl⟩, ?_⟩
    refine ⟨_, rfl, _, rfl, p, C, dx, _, _, rfl, hp, TW.cl, TW.nT, wf_t, _, 1, rfl, rfl, (d : Nat), _, rfl, by omega, ?_⟩
    refine ⟨_, rfl, p, C, dx, _, _, rfl, hp, TW.cl, TW.nL, wf_l, l, rfl, .inl ⟨_, .inl hl⟩, _, rfl, kvs, Sum.inl (m.num : Int), _, hl, rfl, hv, ?_⟩
    have hl1 : (upd H l (.dK (dropK kvs (Sum.inl (m.num : Int))))) l = some (.dK (dropK kvs (Sum.inl (m.num : Int)))) := upd_same
    have hp1 : (upd H l (.dK (dropK kvs (Sum.inl (m.num : Int))))) p = some (.ins C dx (wfl W.b q W.tick W.fol l)) := by rw [upd_ne (Ne.symm npl)]; exact hp
    have ht1 : (upd H l (.dK (dropK kvs (Sum.inl (m.num : Int))))) tt = some (.tup (tmV m)) := by rw [upd_ne (ne_of ht hl (by intro z; cases z))]; exact ht
    have Ld := (L.drop (n := m.num)).upd (o' := .dK (dropK kvs (Sum.inl (m.num : Int)))) hl (fun xs z => by cases z)
    refine ⟨tt, _, rfl, .inl (.inl ht1), rfl, _, _, rfl, _, _, rfl, _, _, rfl, rfl, ?_⟩
    refine ⟨_, rfl, _, rfl, _, rfl, p, C, dx, _, _, rfl, hp1, TW.cl, TW.nT, wf_t, by simp [sizeLine_eq], fun u hu0 => ?_⟩
    have su := same_upd (o := .tup (tmV ⟨m.num, d, m.per, W.tick⟩)) hu0
    have hvn := Ld.val_not (n := m.num) (fun m' hm' => drop_not m' hm')
    have hlen : (dropK kvs (Sum.inl (m.num : Int))).length < sizeLine := by
      have z := dropK_le kvs (Sum.inl (m.num : Int) : Key)
      rw [L.len] at z
      exact sizeLine_ge (by omega)
    refine ⟨_, rfl, p, C, dx, _, _, rfl, su _ _ hp1, TW.cl, TW.nL, wf_l, _, rfl, l, _, rfl, DPut.k (k := Sum.inl (m.num : Int)) (su _ _ hl1) hlen, ?_⟩
    rw [putK_new _ hvn]
    refine c _ ⟨fun c o n1 n2 e => ?_, .inl rfl⟩ ⟨⟨dx, ?_⟩, ?_, ⟨_, upd_same, ?_⟩⟩
    · rw [upd_ne n2]
      exact su _ _ (by rw [upd_ne n2]; exact e)
    · rw [upd_ne (Ne.symm npl)]
      exact su _ _ hp1
    · have n := ne_of hw.words hl (by intro z; cases z)
      rw [upd_ne n]
      exact su _ _ (by rw [upd_ne n]; exact hw.words)
    · exact LiveK.upd (su _ _ hl1) (fun xs z => by cases z) ((Ld.same su).snoc (m := ⟨m.num, d, m.per, W.tick⟩) rfl upd_same)
end
section
variable {P : Program} {w : World} {K : PySem.W.Frag} {mg : Str → Option Value} {base : Heap}
def spDue (C : Addr) : Sp := fun vs H Q _ => ∃ (p q l : Addr) (W : WS) (m : Tm), vs = [.ref p, .int (m.num : Nat)] ∧ WheelAt C H p q l W ∧ (W.live.map (·.num)).Nodup ∧ m ∈ W.live ∧ Q (.int (m.due : Nat)) H
theorem ok_due {f C : Addr} {fd : FuncData} (F : Fun K "due" "Wheel.due" s_Wheel_due f fd) (TW : TxW K mg C) (h1 : HasM P w K mg base 2 C "check_timer" ["self", "timer"] [] (spCheckTimer C)) : FnOk P w K mg base CX0 3 f fd ["self", "timer"] (spDue C) := by
  obtain ⟨f_ct, fd_ct, ds_ct, G_Wheel_check_timer, M_Wheel_check_timer, b_Wheel_check_timer, v_Wheel_check_timer⟩ := h1
  have cl_Wheel := TW.cl
  refine F.ok sc_Wheel_due (fun vs H Q E h => ?_) (fun cdv A outer s H vs Q E hr h => ?_)
  · obtain ⟨p, q, l, W, m, rfl, _⟩ := h
    rfl
  · obtain ⟨p, q, l, W, m, rfl, hw, nd, hm, c⟩ := h
    have hu := hu_of hr
    obtain ⟨dx, hp⟩ := hw.ins
    obtain ⟨kvs, hl, L⟩ := hw.live
    obtain ⟨tt, hv, ht⟩ := L.val_of nd hm
    refine ⟨_, (pss_cons (ps_expr (pe_meth (pv 0) cl_Wheel M_Wheel_check_timer G_Wheel_check_timer hr b_Wheel_check_timer v_Wheel_check_timer pass0 (pa_cons (pv 1) pa_nil)))
      (pss_one (ps_ret (pe_ix (ix_tupK (K := K) rfl) (pe_dget hu (pe_fld (pv 0) rfl) (pv 1) (fun _ _ => rfl)) pe_int (fun _ _ => rfl))))), ?_⟩
    refine ⟨_, rfl, p, dx, _, rfl, hp, no_ct, _, rfl, p, q, l, W, m.num, rfl, hw, nd, ⟨m, hm, rfl⟩, ?_⟩
    refine ⟨_, rfl, p, C, dx, _, _, rfl, hp, TW.cl, TW.nL, wf_l, _, rfl, l, .ref tt, rfl, ?_, tt, _, 0, _, rfl, rfl, SqT.of ht, atI_nat (j := 0) rfl, c⟩
    rw [← hv]
    exact DGet.k (k := Sum.inl (m.num : Int)) hl
end
section
variable {P : Program} {w : World} {K : PySem.W.Frag} {mg : Str → Option Value} {base : Heap}
def spTimers (C : Addr) : Sp := fun vs H Q _ => ∃ (p q l : Addr) (W : WS), vs = [.ref p] ∧ WheelAt C H p q l W ∧ W.live.length ≤ 1000 ∧
  ∀ H' r (ns : List Nat), Same H H' → H r = none → H' r = some (.lst (ns.map fun x => V.int (x : Nat))) → ns.Perm (W.live.map (·.num)) → ns.Pairwise (· ≤ ·) → Q (.ref r) H'
theorem nats_of : ∀ {ys : List Int} {ns : List Nat}, (∀ y ∈ ys, 0 ≤ y) → (ys.map Int.toNat).map (fun n : Nat => (n : Int)) = ys
  | [], _, _ => rfl
  | y :: ys, _, h => by
    rw [List.map_cons, List.map_cons, nats_of (ns := []) fun z hz => h z (List.mem_cons_of_mem _ hz), Int.toNat_of_nonneg (h y (List.mem_cons_self ..))]
theorem ok_timers {f C : Addr} {fd : FuncData} (F : Fun K "timers" "Wheel.timers" s_Wheel_timers f fd) (T : Tx K mg) (TW : TxW K mg C) : FnOk P w K mg base CX0 1 f fd ["self"] (spTimers C) := by
  refine F.ok sc_Wheel_timers (fun vs H Q E h => ?_) (fun cdv A outer s H vs Q E hr h => ?_)
  · obtain ⟨p, q, l, W, rfl, _⟩ := h
    rfl
  · obtain ⟨p, q, l, W, rfl, hw, h64, c⟩ := h
    obtain ⟨dx, hp⟩ := hw.ins
    obtain ⟨kvs, hl, L⟩ := hw.live
    refine ⟨_, (pss_one (ps_ret (pe_callB (call_sortedDIb rfl) (by rfl) T.b_sorted (by decide +kernel) (pa_cons (pe_fld (pv 0) rfl) pa_nil)))), ?_⟩
    refine ⟨_, rfl, p, C, dx, _, _, rfl, hp, TW.cl, TW.nL, wf_l, l, kvs, W.live.map fun m => (m.num : Int), rfl, .inl hl, ?_, by rw [List.length_map]; omega, fun ys r hperm hsort hr0 => ?_⟩
    · rw [L.keys, List.map_map]
      rfl
    · have hnn : ∀ y ∈ ys, 0 ≤ y := fun y hy => by
        obtain ⟨m, _, e⟩ := List.mem_map.mp (hperm.mem_iff.mp hy)
        rw [← e]
        omega
      have e := nats_of (ns := []) hnn
      refine c _ r (ys.map Int.toNat) (same_upd hr0) hr0 ?_ ?_ ?_
      · rw [upd_same]
        have e2 : (ys.map Int.toNat).map (fun x : Nat => V.int (x : Nat)) = ys.map V.int := by
          have z := congrArg (List.map V.int) e
          rw [List.map_map] at z
          exact z
        rw [e2]
      · have z := hperm.map Int.toNat
        rw [List.map_map] at z
        have e3 : (W.live.map (Int.toNat ∘ fun m => (m.num : Int))) = W.live.map (·.num) := List.map_congr_left fun m _ => Int.toNat_natCast m.num
        rw [e3] at z
        exact z
      · rw [List.pairwise_map]
        exact hsort.imp fun h => Int.toNat_le_toNat h
end
section
variable {P : Program} {w : World} {K : PySem.W.Frag} {mg : Str → Option Value} {base : Heap}
def spLen (C : Addr) : Sp := fun vs H Q _ => ∃ (p q l : Addr) (W : WS), vs = [.ref p] ∧ WheelAt C H p q l W ∧ Q (.int (W.live.length : Nat)) H
theorem ok_len {f C : Addr} {fd : FuncData} (F : Fun K "__len__" "Wheel.__len__" s_Wheel___len__ f fd) (TW : TxW K mg C) (T : Tx K mg) : FnOk P w K mg base CX0 1 f fd ["self"] (spLen C) := by
  refine F.ok sc_Wheel___len__ (fun vs H Q E h => ?_) (fun cdv A outer s H vs Q E hr h => ?_)
  · obtain ⟨p, q, l, W, rfl, _⟩ := h
    rfl
  · obtain ⟨p, q, l, W, rfl, hw, c⟩ := h
    obtain ⟨dx, hp⟩ := hw.ins
    obtain ⟨kvs, hl, L⟩ := hw.live
    refine ⟨_, (pss_one (ps_ret (pe_callB call_lenD (by rfl) T.b_len PySem.boot_len (pa_cons (pe_fld (pv 0) rfl) pa_nil)))), ?_⟩
    refine ⟨_, rfl, p, C, dx, _, _, rfl, hp, TW.cl, TW.nL, wf_l, l, kvs, rfl, hl, ?_⟩
    rw [L.len]
    exact c
end
/-! ### what fired, in the heap -/
/-- the list of what fired: tuples of the tick and a list of numbers -/
def FiredAt (r : Addr) (H : Hp) : List Addr → List (Nat × List Nat) → Prop
  | [], [] => True
  | t :: ts, f :: fs => (∃ u, H t = some (.tup [.int (f.1 : Nat), .ref u]) ∧ u ≠ r ∧ H u = some (.lst (f.2.map fun x => V.int (x : Nat)))) ∧ FiredAt r H ts fs
  | _, _ => False
theorem FiredAt.frame {r : Addr} {H H' : Hp} (s : ∀ t a u, H t = some (.tup [a, .ref u]) → H' t = some (.tup [a, .ref u])) (s2 : ∀ u (xs : List Nat), u ≠ r → H u = some (.lst (xs.map fun x => V.int (x : Nat))) → H' u = some (.lst (xs.map fun x => V.int (x : Nat)))) : ∀ {ts : List Addr} {fs : List (Nat × List Nat)}, FiredAt r H ts fs → FiredAt r H' ts fs
  | [], [], _ => trivial
  | _ :: _, _ :: _, ⟨⟨u, h1, hn, h2⟩, h3⟩ => ⟨⟨u, s _ _ _ h1, hn, s2 _ _ hn h2⟩, h3.frame s s2⟩
  | [], _ :: _, h => h.elim
  | _ :: _, [], h => h.elim
theorem FiredAt.same {r : Addr} {H H' : Hp} (s : Same H H') {ts : List Addr} {fs : List (Nat × List Nat)} (h : FiredAt r H ts fs) : FiredAt r H' ts fs := h.frame (fun _ _ _ e => s _ _ e) fun _ _ _ e => s _ _ e
theorem FiredAt.app {r : Addr} {H : Hp} {t : Addr} {f : Nat × List Nat} : ∀ {ts : List Addr} {fs : List (Nat × List Nat)}, FiredAt r H ts fs → (∃ u, H t = some (.tup [.int (f.1 : Nat), .ref u]) ∧ u ≠ r ∧ H u = some (.lst (f.2.map fun x => V.int (x : Nat)))) → FiredAt r H (ts ++ [t]) (fs ++ [f])
  | [], [], _, h => ⟨h, trivial⟩
  | _ :: _, _ :: _, h, h2 => ⟨h.1, h.2.app h2⟩
  | [], _ :: _, h, _ => h.elim
  | _ :: _, [], h, _ => h.elim
theorem FiredAt.len {r : Addr} {H : Hp} : ∀ {ts : List Addr} {fs : List (Nat × List Nat)}, FiredAt r H ts fs → ts.length = fs.length
  | [], [], _ => rfl
  | _ :: _, _ :: _, h => congrArg Nat.succ h.2.len
  | [], _ :: _, h => h.elim
  | _ :: _, [], h => h.elim
/-! ### advance -/
/-- the lists of what fired are new ones -/
def FrT (H0 H : Hp) (ts : List Addr) : Prop := ∀ t ∈ ts, ∃ a u, H t = some (.tup [a, .ref u]) ∧ H0 u = none
theorem FrT.frame {H0 H H' : Hp} {ts : List Addr} (h : FrT H0 H ts) (k : ∀ t xs, H t = some (.tup xs) → H' t = some (.tup xs)) : FrT H0 H' ts := fun t ht => by
  obtain ⟨a, u, h1, h2⟩ := h t ht
  exact ⟨a, u, k _ _ h1, h2⟩
theorem FrT.app {H0 H : Hp} {ts : List Addr} {t u : Addr} {a : V} (h : FrT H0 H ts) (e : H t = some (.tup [a, .ref u])) (hu : H0 u = none) : FrT H0 H (ts ++ [t]) := fun x hx => by
  rcases List.mem_append.mp hx with z | z
  · exact h x z
  · rw [List.mem_singleton.mp z]
    exact ⟨a, u, e, hu⟩
section
variable {P : Program} {w : World} {K : PySem.W.Frag} {mg : Str → Option Value} {base : Heap}
def spAdvance (C : Addr) : Sp := fun vs H Q _ => ∃ (p q l : Addr) (W : WS) (t : Nat) (fired : List (Nat × List Nat)) (ms' : List Tm), vs = [.ref p, .int (t : Nat)] ∧ WheelAt C H p q l W ∧ 2 ≤ W.b ∧ W.b ≤ 64 ∧ W.ws ≠ [] ∧ W.live.length ≤ 1000 ∧ W.tick ≤ t ∧ AdvTo W.b W.ws t W.live fired ms' ∧ total fired ≤ 2000 ∧
  ∀ H' r l' ts, Wk p l H H' l' → H r = none → H' r = some (.lst (ts.map V.ref)) → FiredAt r H' ts fired → FrT H H' ts → WheelAt C H' p q l' { W with tick := t, live := ms' } → Q (.ref r) H'
theorem fire_tick (t : Nat) (ms : List Tm) (ns : List Nat) : (afterF t ms ns).length ≤ ms.length := by
  unfold afterF
  induction ns generalizing ms with
  | nil => exact Nat.le_refl _
  | cons n ns ih => exact Nat.le_trans (ih (fireT t ms n)) fire_len
theorem ok_advance {f C : Addr} {fd : FuncData} (F : Fun K "advance" "Wheel.advance" s_Wheel_advance f fd) (T : Tx K mg) (TW : TxW K mg C) (hM : ∃ t, mg "MOST_FIRINGS" = some (.int 2000 t)) (h1 : Has P w K mg base 3 "check_tick" ["tick", "least"] [] spCheckTick)
    (h2 : Has P w K mg base 1 "least_due" ["live"] [] spLeast) (h3 : Has P w K mg base 5 "order_of_firing" ["base", "levels", "live", "tick"] [] (spOrder K)) (h4 : Has P w K mg base 1 "after_firing" ["live", "numbers", "tick"] [] spAfter) :
    FnOk P w K mg base CX0 6 f fd ["self", "tick"] (spAdvance C) := by
  obtain ⟨f_check_tick, fd_check_tick, ds_check_tick, G_check_tick, m_check_tick, k_check_tick, b_check_tick, v_check_tick⟩ := h1
  obtain ⟨f_least_due, fd_least_due, ds_least_due, G_least_due, m_least_due, k_least_due, b_least_due, v_least_due⟩ := h2
  obtain ⟨f_order_of_firing, fd_order_of_firing, ds_order_of_firing, G_order_of_firing, m_order_of_firing, k_order_of_firing, b_order_of_firing, v_order_of_firing⟩ := h3
  obtain ⟨f_after_firing, fd_after_firing, ds_after_firing, G_after_firing, m_after_firing, k_after_firing, b_after_firing, v_after_firing⟩ := h4
  obtain ⟨tM, g_MOST_FIRINGS⟩ := hM
  refine F.ok sc_Wheel_advance (fun vs H Q E h => ?_) (fun cdv A outer s H vs Q E hr h => ?_)
  · obtain ⟨p, q, l, W, t, fired, ms', rfl, _⟩ := h
    rfl
  · obtain ⟨p, q, l, W, t, fired, ms', rfl, hw, hb, hb64, hne, few, htt, adv, tot, c⟩ := h
    obtain ⟨dx, hp⟩ := hw.ins
    obtain ⟨kvs, hl, L⟩ := hw.live
    refine ⟨_, (pss_cons (ps_expr (pe_call G_check_tick (hr.mono (by decide)) (by rfl) m_check_tick k_check_tick b_check_tick v_check_tick pass0 (pa_cons (pv 1) (pa_cons (pe_fld (pv 0) rfl) pa_nil))))
      (pss_cons (ps_set (i := 2) sc_Wheel_advance.nd rfl (.inl rfl) (pe_lst pa_nil))
      (pss_cons (ps_set (i := 3) sc_Wheel_advance.nd rfl (.inl rfl) pe_int)
      (pss_cons (ps_set (i := 4) sc_Wheel_advance.nd rfl (.inl rfl) (pe_fld (pv 0) rfl))
      (pss_cons (ps_set (i := 5) sc_Wheel_advance.nd rfl (.inl rfl) (pe_call G_least_due (hr.mono (by decide)) (by rfl) m_least_due k_least_due b_least_due v_least_due pass0 (pa_cons (pv 4) pa_nil)))
      (pss_cons (ps_while PassesOwn.never (PW.pt (pw_and (pt_cmpR op_notN (pv 5) pe_non (nomark _)) (pw_and1 (pt_cmpR op_le (pv 5) (pv 1) (nomark _)))))
        (pss_cons (ps_set (i := 6) sc_Wheel_advance.nd rfl (.inl rfl) (pe_call G_order_of_firing hr (by rfl) m_order_of_firing k_order_of_firing b_order_of_firing v_order_of_firing pass0 (pa_cons (pe_fld (pv 0) rfl) (pa_cons (pe_fld (pv 0) rfl) (pa_cons (pv 4) (pa_cons (pv 5) pa_nil))))))
        (pss_cons (ps_aug (i := 3) sc_Wheel_advance.nd rfl (.inl rfl) (pe_callB (lenK (K := K) rfl) (by rfl) T.b_len PySem.boot_len (pa_cons (pv 6) pa_nil)) ip_add)
        (pss_cons (ps_if (pt_cmpR op_gt (pv 3) (pe_glob (v := .int 2000) rfl g_MOST_FIRINGS ⟨_, rfl⟩) (nomark _))
          (pss_one ps_never)
          pss_nil)
        (pss_cons (ps_expr (pe_bm PySem.F.plainAttrs_list PySem.F.slot_list_append PySem.F.type_list_append mt_append (pv 2) (pa_cons (pe_tup (pa_cons (pv 5) (pa_cons (pv 6) pa_nil))) pa_nil)))
        (pss_cons (ps_set (i := 4) sc_Wheel_advance.nd rfl (.inl rfl) (pe_call G_after_firing (hr.mono (by decide)) (by rfl) m_after_firing k_after_firing b_after_firing v_after_firing pass0 (pa_cons (pv 4) (pa_cons (pv 6) (pa_cons (pv 5) pa_nil)))))
        (pss_one (ps_set (i := 5) sc_Wheel_advance.nd rfl (.inl rfl) (pe_call G_least_due (hr.mono (by decide)) (by rfl) m_least_due k_least_due b_least_due v_least_due pass0 (pa_cons (pv 4) pa_nil))))))))))
      (pss_cons (ps_fld (pv 0) (pv 4) rfl)
      (pss_cons (ps_fld (pv 0) (pv 1) rfl)
      (pss_one (ps_ret (pv 2))))))))))), ?_⟩
    refine ⟨_, rfl, _, rfl, p, C, dx, _, _, rfl, hp, TW.cl, TW.nT, wf_t, (t : Nat), _, rfl, by omega, ?_⟩
    refine ⟨by simp [sizeLine_eq], fun r hr0 => ?_⟩
    have s1 := same_upd (o := .lst []) hr0
    refine ⟨_, rfl, p, C, dx, _, _, rfl, s1 _ _ hp, TW.cl, TW.nL, wf_l, ?_⟩
    refine ⟨_, rfl, l, kvs, W.live, rfl, s1 _ _ hl, L.same s1, few, fun H2 s2 => ?_⟩
    have s12 := s1.trans s2
    refine while_by (fun σ H' => ∃ (lc : Addr) (kvc : List (Key × V)) (ms : List Tm) (rest done : List (Nat × List Nat)) (ts : List Addr) (many : Nat) (y6 : Option V), σ = [some (.ref p), some (.int (t : Nat)), some (.ref r), some (.int (many : Nat)), some (.ref lc), some (perV (leastD ms)), y6] ∧ Same H H' ∧ H' lc = some (.dK kvc) ∧ LiveK H' kvc ms ∧ ms.length ≤ 1000 ∧ AdvTo W.b W.ws t ms rest ms' ∧ many + total rest ≤ 2000 ∧ ts.length ≤ many ∧ fired = done ++ rest ∧ H' r = some (.lst (ts.map V.ref)) ∧ (FiredAt r H' ts done ∧ FrT H H' ts) ∧ (lc = l ∨ H lc = none))
      (fun σ _ => 3000 - slotInt σ 3) ⟨l, kvs, W.live, fired, [], [], 0, none, rfl, s12, s12 _ _ hl, L.same s12, few, adv, by omega, Nat.le_refl _, rfl, s2 _ _ upd_same, ⟨trivial, fun t ht => by cases ht⟩, .inl rfl⟩ ?_ ?_
    · rintro σ H' ⟨lc, kvc, ms, rest, done, ts, many, y6, rfl, sm, elc, Lc, fewc, advc, totc, htsm, efd, er, ⟨FA, FR⟩, hlc⟩
      have hp' := sm _ _ hp
      have hw' := sm _ _ hw.words
      -- the end of it
      have fin : rest = [] → ms = ms' → tSeq (sFld K (tVar 0) (tVar 4) "live") (tSeq (sFld K (tVar 0) (tVar 1) "tick") (tRet (tVar 2))) { nx := fun _ H' => Q .non H', rt := Q } [some (.ref p), some (.int (t : Nat)), some (.ref r), some (.int (many : Nat)), some (.ref lc), some (perV (leastD ms)), y6] H' := by
        rintro rfl rfl
        rw [List.append_nil] at efd
        have npr : p ≠ r := fun e => by
          rw [e, hr0] at hp
          cases hp
        have npl : lc ≠ p := ne_of elc hp' (by intro z; cases z)
        have nqp : q ≠ p := ne_of hw' hp' (by intro z; cases z)
        refine ⟨_, rfl, _, rfl, p, C, dx, _, rfl, hp', TW.cl, TW.nL, by simp [wfl], ?_⟩
        rw [wf_pl]
        refine ⟨_, rfl, _, rfl, p, C, dx, _, rfl, upd_same, TW.cl, TW.nT, by simp [wfl], ?_⟩
        rw [wf_pt]
        have k' : ∀ c o, c ≠ p → H' c = some o → (upd (upd H' p (.ins C dx (wfl W.b q W.tick W.fol lc))) p (.ins C dx (wfl W.b q t W.fol lc))) c = some o := fun c o n e => by
          rw [upd_ne n, upd_ne n]
          exact e
        refine ⟨_, rfl, c _ r lc ts ⟨fun c o n1 n2 e => k' c o n1 (sm _ _ e), hlc⟩ hr0 (k' _ _ (Ne.symm npr) er) ?_ (FR.frame fun t xs e => k' _ _ (ne_of e hp' (by intro z; cases z)) e) ⟨⟨dx, upd_same⟩, k' _ _ nqp hw', ⟨kvc, k' _ _ npl elc, ?_⟩⟩⟩
        · rw [efd]
          exact FA.frame (fun t a u e => k' _ _ (ne_of e hp' (by intro z; cases z)) e) fun u xs _ e => k' _ _ (ne_of e hp' (by intro z; cases z)) e
        · exact Lc.frame fun t m e => k' _ _ (ne_of e hp' (by intro z; cases z)) e
      cases advc with
      | done hdone =>
        cases hle : leastD ms' with
        | none => exact ⟨_, rfl, rfl, false, rfl, iteF (iteF (by rw [← hle]; exact fin rfl rfl))⟩
        | some v =>
          obtain ⟨m, hm, em⟩ := List.mem_map.mp (least_some.mp hle).1
          have hmt := hdone m hm
          have hvt : ¬ ((v : Int) ≤ (t : Int)) := by omega
          refine ⟨_, rfl, rfl, true, rfl, iteT ⟨_, rfl, _, rfl, (v : Nat), (t : Nat), rfl, rfl, false, dF hvt, iteF ?_⟩⟩
          rw [show perV (some v) = perV (leastD ms') from by rw [hle]]
          exact fin rfl rfl
      | @step _ _ at_ rest' hle hat okm ndm fewm radv =>
        rw [hle]
        have hat' : ((at_ : Int) ≤ (t : Int)) := by omega
        have etot : total ((at_, orderAt W.b W.ws at_ ms) :: rest') = (orderAt W.b W.ws at_ ms).length + total rest' := by
          unfold total
          rw [List.map_cons, List.sum_cons]
        rw [etot] at totc
        have hpos := order_pos (b := W.b) (ws := W.ws) hle
        refine ⟨_, rfl, rfl, true, rfl, iteT ⟨_, rfl, _, rfl, (at_ : Nat), (t : Nat), rfl, rfl, true, dT hat', iteT ?_⟩⟩
        refine ⟨_, rfl, p, C, dx, _, _, rfl, hp', TW.cl, TW.nB, wf_b, _, rfl, p, C, dx, _, _, rfl, hp', TW.cl, TW.nW, wf_w, _, rfl, _, rfl, W.b, at_, q, lc, W.ws, kvc, ms, rfl, hb, hb64, SqL.of hw', hne, elc, Lc, fewc, okm, fun H3 pn s3 hpn0 epn => ?_⟩
        refine ⟨_, rfl, _, rfl, pn, _, rfl, .inl (SqL.of epn), (many : Nat), ((orderAt W.b W.ws at_ ms).length : Nat), rfl, congrArg (fun k : Nat => V.int (k : Nat)) (List.length_map ..), ?_⟩
        refine ⟨_, rfl, _, _, rfl, rfl, false, dF (by show ¬ ((2000 : Int) < (many : Int) + ((orderAt W.b W.ws at_ ms).length : Nat)); omega), iteF ?_⟩
        have er3 := s3 _ _ er
        have nrp : r ≠ pn := fun e => by
          rw [← e, er] at hpn0
          cases hpn0
        refine ⟨_, rfl, .inl ⟨rfl, _, .inl (.inl er3)⟩, _, rfl, _, rfl, by simp [sizeLine_eq], fun u hu0 => ?_⟩
        have su := same_upd (o := .tup [perV (some at_), .ref pn]) hu0
        have eru := su _ _ er3
        refine ⟨r, _, _, rfl, rfl, eru, by rw [List.length_map]; exact sizeLine_ge (by omega), ?_⟩
        generalize hH4 : upd (upd H3 u (.tup [perV (some at_), .ref pn])) r (.lst (ts.map V.ref ++ [.ref u])) = H4
        have k4 : ∀ c o, c ≠ r → H3 c = some o → H4 c = some o := fun c o n e => by
          rw [← hH4, upd_ne n]
          exact su _ _ e
        have nur : u ≠ r := fun e => by
          rw [e, er3] at hu0
          cases hu0
        have eu4 : H4 u = some (.tup [.int (at_ : Nat), .ref pn]) := by
          rw [← hH4, upd_ne nur]
          exact upd_same
        have er4 : H4 r = some (.lst ((ts ++ [u]).map V.ref)) := by
          rw [← hH4, upd_same, List.map_append]
          rfl
        have epn4 := k4 _ _ (Ne.symm nrp) epn
        have sm4 : Same H H4 := fun c o e => k4 c o (ne_of_none e hr0) (s3 _ _ (sm _ _ e))
        have nlr : lc ≠ r := ne_of elc er (by intro z; cases z)
        have elc4 := k4 _ _ nlr (s3 _ _ elc)
        have Lc4 : LiveK H4 kvc ms := Lc.frame fun t m e => k4 _ _ (ne_of e er (by intro z; cases z)) (s3 _ _ e)
        have FA4 : FiredAt r H4 ts done := by
          exact FA.frame (fun t a u e => k4 _ _ (ne_of e er (by intro z; cases z)) (s3 _ _ e)) fun u xs hn e => k4 _ _ hn (s3 _ _ e)
        have FR4 : FrT H H4 ts := FR.frame fun t xs e => k4 _ _ (ne_of e er (by intro z; cases z)) (s3 _ _ e)
        refine ⟨_, rfl, _, rfl, _, rfl, lc, pn, at_, orderAt W.b W.ws at_ ms, kvc, ms, rfl, elc4, Lc4, fewc, ndm, epn4, ⟨order_nodup ndm, fun n hn => by
          obtain ⟨m, h1, _, h3⟩ := order_mem.mp hn
          exact ⟨m, h1, h3⟩⟩, fun H5 lc5 kvc5 s5 hlc5 elc5 Lc5 => ?_⟩
        have few5 : (afterF at_ ms (orderAt W.b W.ws at_ ms)).length ≤ 1000 := Nat.le_trans (fire_tick _ _ _) fewc
        refine ⟨_, rfl, lc5, kvc5, _, rfl, elc5, Lc5, few5, fun H6 s6 => ?_⟩
        have s56 := s5.trans s6
        refine ⟨⟨lc5, kvc5, afterF at_ ms (orderAt W.b W.ws at_ ms), rest', done ++ [(at_, orderAt W.b W.ws at_ ms)], ts ++ [u], (many + (orderAt W.b W.ws at_ ms).length), _, rfl, sm4.trans s56, s6 _ _ elc5, Lc5.same s6, few5, radv, by omega, ?_, by rw [efd, List.append_assoc]; rfl, s56 _ _ er4, ⟨(FA4.app ⟨pn, eu4, Ne.symm nrp, epn4⟩).same s56, (FR4.app eu4 (sm.free hpn0)).frame fun t xs e => s56 _ _ e⟩, .inr (sm4.free hlc5)⟩, ?_⟩
        · rw [List.length_append, List.length_singleton]
          omega
        · show 3000 - (((many + (orderAt W.b W.ws at_ ms).length) : Int)).toNat < 3000 - ((many : Int)).toNat
          omega
    · rintro σ H' Q1 Q2 h ⟨x, hx, e1, k, e, z⟩
      refine ⟨x, hx, e1, k, e, ?_⟩
      cases k with
      | false => exact iteF (h _ _ (by rw [if_neg Bool.false_ne_true] at z; exact z))
      | true =>
        rw [if_pos rfl] at z
        refine iteT ?_
        obtain ⟨x1, hx1, x2, hx2, i, j, e2, e3, k', e4, zz⟩ := z
        exact ⟨x1, hx1, x2, hx2, i, j, e2, e3, k', e4, h _ _ zz⟩
end
/-! ### o.m(e, .., k = v, ..) -/
def tMethK (C : Addr) (m : Str) (sp : Sp) (n mk : Nat) (gV : List V → List V → List V) (E : XK) (ta : TE) (t tk : TA) : TE := fun σ H Q => ta σ H fun x H1 => ∃ (a dx : Addr) (fs : List (Str × V)), x = .ref a ∧ H1 a = some (.ins C dx fs) ∧ fs.lookup m = none ∧
  t σ H1 fun vs H2 => tk σ H2 fun zs H3 => vs.length + 1 = n ∧ zs.length = mk ∧ sp (gV (.ref a :: vs) zs) H3 Q E
section
variable {X : Cx} {CX : CXT} {k n : Nat} {C f : Addr} {fd : FuncData} {ps ks : List Str} {m : Str} {sp : Sp} {E : XK} {g : List Value → List Value → List Value} {gV : List V → List V → List V} {o e : Expr} {es : List Expr} {kws : List Keyword} {ta : TE} {t tk : TA} {apos pos : Pos}
theorem pe_methK {pl : Sem Bool} (he : PE X o ta) (c : Cls X.K C) (hm : Meth X.K C m f) (F : FnOk X.prog X.w X.K X.mg X.base CX k f fd ps sp) (hr : Room k X.A) (hb : KBn X.K fd ps n ks g gV) (hx : Passes CX X E) (ha : PA X (e :: es) t) (hkw : PK X kws tk)
    (hall : (backToKw pos (keywordEach kws X.env)).all (·.1.isSome) = true := by rfl) (hks : (backToKw pos (keywordEach kws X.env)).filterMap (·.1) = ks := by rfl)
    (hst : starEach (e :: es) X.env = (false, eval e X.env) :: starEach es X.env := by rfl)
    (hpl : ((backTo pos (starEach (e :: es) X.env)).any (·.1) || (backToKw pos (keywordEach kws X.env)).any (·.1.isNone)) = false := by rfl)
    (ht : eval (.Call (.Attribute o m apos) (e :: es) kws pos) X.env = (do
      let ov ← eval o X.env
      standAt apos.atName
      let (f, first) ← holding [ov] (getMethod ov m pl)
      callWith pos f first (backTo pos (starEach (e :: es) X.env)) (backToKw pos (keywordEach kws X.env))) := by rfl) :
    PE X (.Call (.Attribute o m apos) (e :: es) kws pos) (tMethK C m sp n ks.length gV E ta t tk) := by
  refine ⟨fun pins s σ H Q I h => ?_⟩
  refine PySem.W.methodCall_KW (pl := pl) (thn (he.run pins s σ H _ I h) fun u s1 ⟨x, H1, I1, rx, a, dx, fs, ex, ea, l, q⟩ => ?_) ht
  subst ex
  obtain rfl : u = Value.ref a := rx
  refine getmeth_ok I1 ea c hm l ?_
  refine PySem.W.callWith_KW (first := [.ref a]) (h₀ := X.base) I.ok.mod.kin hm.kp hall (thn (ha.run pos pins s1 σ H1 _ I1 q) fun us s2 ⟨vs, H2, I2, r, q2⟩ => ?_) hpl hst
  refine thn (hkw.run pos pins s2 σ H2 _ I2 q2) fun ws s3 ⟨zs, H3, I3, rz, l1, l2, q3⟩ => ⟨I3.kIn, ?_⟩
  rw [hks]
  exact run_fnN (us := .ref a :: us) (vs := .ref a :: vs) F hr hb hx I3 (.cons rfl r) rz (by rw [List.length_cons]; exact l1) l2 q3
end
/-! ### put, with its period told by name -/
section
variable {b : Nat} {q : Addr} {t f : Nat} {l : Addr}
theorem nm_put : (wfl b q t f l).lookup ("put" : Str) = none := wf_no (by decide +kernel) (by decide +kernel) (by decide +kernel) (by decide +kernel) (by decide +kernel)
theorem nm_timers : (wfl b q t f l).lookup ("timers" : Str) = none := wf_no (by decide +kernel) (by decide +kernel) (by decide +kernel) (by decide +kernel) (by decide +kernel)
theorem nm_cancel : (wfl b q t f l).lookup ("cancel" : Str) = none := wf_no (by decide +kernel) (by decide +kernel) (by decide +kernel) (by decide +kernel) (by decide +kernel)
theorem nm_reset : (wfl b q t f l).lookup ("reset" : Str) = none := wf_no (by decide +kernel) (by decide +kernel) (by decide +kernel) (by decide +kernel) (by decide +kernel)
theorem nm_now : (wfl b q t f l).lookup ("now" : Str) = none := wf_no (by decide +kernel) (by decide +kernel) (by decide +kernel) (by decide +kernel) (by decide +kernel)
theorem nm_lists : (wfl b q t f l).lookup ("lists" : Str) = none := wf_no (by decide +kernel) (by decide +kernel) (by decide +kernel) (by decide +kernel) (by decide +kernel)
theorem nm_lists_at : (wfl b q t f l).lookup ("lists_at" : Str) = none := wf_no (by decide +kernel) (by decide +kernel) (by decide +kernel) (by decide +kernel) (by decide +kernel)
theorem nm_advance : (wfl b q t f l).lookup ("advance" : Str) = none := wf_no (by decide +kernel) (by decide +kernel) (by decide +kernel) (by decide +kernel) (by decide +kernel)
theorem nm_next_event : (wfl b q t f l).lookup ("next_event" : Str) = none := wf_no (by decide +kernel) (by decide +kernel) (by decide +kernel) (by decide +kernel) (by decide +kernel)
theorem nm_next_firing : (wfl b q t f l).lookup ("next_firing" : Str) = none := wf_no (by decide +kernel) (by decide +kernel) (by decide +kernel) (by decide +kernel) (by decide +kernel)
end
section
variable {P : Program} {w : World} {K : PySem.W.Frag} {mg : Str → Option Value} {base : Heap}
def HasPut (P : Program) (w : World) (K : PySem.W.Frag) (mg : Str → Option Value) (base : Heap) (k : Nat) (C : Addr) : Prop :=
  ∃ (f : Addr) (fd : FuncData) (ds : List Value), FnOk P w K mg base CX0 k f fd ["self", "due", "period"] (spPut C) ∧ Meth K C "put" f ∧ L2.Binds K fd ["self", "due", "period"] ds ∧ Vals [.non] ds ∧ KBn K fd ["self", "due", "period"] 2 [Str.ofString "period"] (fun us ws => us ++ ws) (fun vs zs => vs ++ zs)
def HasInit (P : Program) (w : World) (K : PySem.W.Frag) (mg : Str → Option Value) (base : Heap) (k : Nat) (C : Addr) : Prop :=
  ∃ (fi : Addr) (fdi : FuncData), Mk K C fi ∧ FnOk P w K mg base CX0 k fi fdi ["self", "base", "levels", "start"] (spInit C K) ∧ KBn K fdi ["self", "base", "levels", "start"] 3 [Str.ofString "start"] (fun us ws => us ++ ws) (fun vs zs => vs ++ zs)
end
theorem okw_put {W : WS} (h : WOk W) (hl : W.live.length < 1000) {d : Nat} {o : Option Nat} (h1 : W.tick < d) (h2 : d < 2 ^ 250) (ho : ∀ k, o = some k → 1 ≤ k) : WOk { W with fol := W.fol + 1, live := W.live ++ [⟨W.fol, d, o, W.tick⟩] } := by
  refine ⟨h.b2, h.b64, h.ne, h.l60, fun m hm => ?_, ?_, ?_⟩
  · rcases List.mem_append.mp hm with z | z
    · have y := h.tms m z
      exact ⟨y.since, y.due, y.big, Nat.lt_succ_of_lt y.num, y.per⟩
    · rw [List.mem_singleton.mp z]
      exact ⟨Nat.le_refl _, h1, h2, Nat.lt_succ_self _, ho⟩
  · rw [List.map_append]
    refine L2.nd_snoc h.nd fun hm => ?_
    obtain ⟨m, hm, e⟩ := List.mem_map.mp hm
    have := (h.tms m hm).num
    have e' : m.num = W.fol := e
    omega
  · show (W.live ++ [_]).length ≤ 1000
    rw [List.length_append]
    show W.live.length + 1 ≤ 1000
    omega
/-! ### what a changed wheel leaves as it stands -/
theorem Wk.pre {p l l' : Addr} {H H1 H' : Hp} (s : Same H H1) (k : Wk p l H1 H' l') : Wk p l H H' l' := ⟨fun c o n1 n2 e => k.keep c o n1 n2 (s _ _ e), k.new.imp id s.free⟩
theorem Wk.post {p l l' : Addr} {H H1 H' : Hp} (k : Wk p l H H1 l') (s : Same H1 H') : Wk p l H H' l' := ⟨fun c o n1 n2 e => s _ _ (k.keep c o n1 n2 e), k.new⟩
/-- what stands in a heap beside wheels: lists and tuples stay -/
theorem Wk.lst {C p q l l' : Addr} {H H' : Hp} {W : WS} (k : Wk p l H H' l') (w : WheelAt C H p q l W) {c : Addr} {xs : List V} (e : H c = some (.lst xs)) : H' c = some (.lst xs) := by
  obtain ⟨dx, hp⟩ := w.ins
  obtain ⟨kvs, hl, _⟩ := w.live
  exact k.keep _ _ (ne_of e hp (by intro z; cases z)) (ne_of e hl (by intro z; cases z)) e
theorem Wk.tup {C p q l l' : Addr} {H H' : Hp} {W : WS} (k : Wk p l H H' l') (w : WheelAt C H p q l W) {c : Addr} {xs : List V} (e : H c = some (.tup xs)) : H' c = some (.tup xs) := by
  obtain ⟨dx, hp⟩ := w.ins
  obtain ⟨kvs, hl, _⟩ := w.live
  exact k.keep _ _ (ne_of e hp (by intro z; cases z)) (ne_of e hl (by intro z; cases z)) e
/-- the rows that tell the lists: the rows in H, what they hold in H0 -/
def CRows (H0 H : Hp) : List Addr → List Cell → Prop
  | [], [] => True
  | t :: ts, c :: cs => (∃ a, H t = some (.tup [.int (c.1.1 : Nat), .int (c.1.2 : Nat), .ref a]) ∧ H0 a = some (.lst (c.2.map fun x => V.int (x : Nat)))) ∧ CRows H0 H ts cs
  | _, _ => False
theorem CRows.frame {H0 H0' H H' : Hp} (s0 : ∀ a xs, H0 a = some (.lst xs) → H0' a = some (.lst xs)) (s : ∀ t xs, H t = some (.tup xs) → H' t = some (.tup xs)) : ∀ {ts : List Addr} {cs : List Cell}, CRows H0 H ts cs → CRows H0' H' ts cs
  | [], [], _ => trivial
  | _ :: _, _ :: _, ⟨⟨a, h1, h2⟩, h3⟩ => ⟨⟨a, s _ _ h1, s0 _ _ h2⟩, h3.frame s0 s⟩
  | [], _ :: _, h => h.elim
  | _ :: _, [], h => h.elim
theorem CRows.snoc {H0 H : Hp} {t a : Addr} {c : Cell} (h1 : H t = some (.tup [.int (c.1.1 : Nat), .int (c.1.2 : Nat), .ref a])) (h2 : H0 a = some (.lst (c.2.map fun x => V.int (x : Nat)))) : ∀ {ts : List Addr} {cs : List Cell}, CRows H0 H ts cs → CRows H0 H (ts ++ [t]) (cs ++ [c])
  | [], [], _ => ⟨⟨a, h1, h2⟩, trivial⟩
  | _ :: _, _ :: _, h => ⟨h.1, h.2.snoc h1 h2⟩
  | [], _ :: _, h => h.elim
  | _ :: _, [], h => h.elim
/-- the lists that the rows hold are new ones -/
def FRows (Hb H : Hp) : List Addr → Prop
  | [] => True
  | t :: ts => (∃ (x y : V) (a : Addr), H t = some (.tup [x, y, .ref a]) ∧ Hb a = none) ∧ FRows Hb H ts
theorem FRows.frame {Hb H H' : Hp} (s : ∀ t xs, H t = some (.tup xs) → H' t = some (.tup xs)) : ∀ {ts : List Addr}, FRows Hb H ts → FRows Hb H' ts
  | [], _ => trivial
  | _ :: _, ⟨⟨x, y, a, h1, h2⟩, h3⟩ => ⟨⟨x, y, a, s _ _ h1, h2⟩, h3.frame s⟩
theorem FRows.snoc {Hb H : Hp} {t a : Addr} {x y : V} (h1 : H t = some (.tup [x, y, .ref a])) (h2 : Hb a = none) : ∀ {ts : List Addr}, FRows Hb H ts → FRows Hb H (ts ++ [t])
  | [], _ => ⟨⟨x, y, a, h1, h2⟩, trivial⟩
  | _ :: _, h => ⟨h.1, h.2.snoc h1 h2⟩
/-- the rows stand on where all but old things stay -/
theorem CRows.keepF {Hb H H' : Hp} (s0 : ∀ c o, Hb c = none → H c = some o → H' c = some o) (s : ∀ t xs, H t = some (.tup xs) → H' t = some (.tup xs)) : ∀ {ts : List Addr} {cs : List Cell}, CRows H H ts cs → FRows Hb H ts → CRows H' H' ts cs
  | [], [], _, _ => trivial
  | _ :: _, _ :: _, ⟨⟨a, h1, h2⟩, h3⟩, ⟨⟨x, y, a', h4, h5⟩, h6⟩ => by
    rw [h1] at h4
    have e := HO.tup.inj (Option.some.inj h4)
    have ea : a = a' := by
      injection e with _ e
      injection e with _ e
      injection e with e _
      exact V.ref.inj e
    subst ea
    exact ⟨⟨a, s _ _ h1, s0 _ _ h5 h2⟩, h3.keepF s0 s h6⟩
  | [], _ :: _, h, _ => h.elim
  | _ :: _, [], h, _ => h.elim
theorem mem_putK {κ : Type} [DecidableEq κ] {kvs : List (κ × V)} {k : κ} {v : V} {kv : κ × V} (h : kv ∈ putK kvs k v) : kv ∈ kvs ∨ kv.2 = v := by
  unfold putK at h
  split at h
  · obtain ⟨x, hx, e⟩ := List.mem_map.mp h
    by_cases c : x.1 = k
    · rw [if_pos c] at e
      exact .inr (by rw [← e])
    · rw [if_neg c] at e
      exact .inl (by rw [← e]; exact hx)
  · rcases List.mem_append.mp h with h | h
    · exact .inl h
    · rw [List.mem_singleton.mp h]
      exact .inr rfl
theorem valV_mem2 {κ : Type} [DecidableEq κ] {k : κ} {v : V} : ∀ {kvs : List (κ × V)}, valV kvs k = some v → ∃ kv ∈ kvs, kv.2 = v
  | [], h => by cases h
  | kv :: kvs, h => by
    by_cases c : kv.1 = k
    · rw [valV_pos c] at h
      exact ⟨kv, List.mem_cons_self .., Option.some.inj h⟩
    · rw [valV_neg c] at h
      obtain ⟨x, hx, e⟩ := valV_mem2 h
      exact ⟨x, List.mem_cons_of_mem _ hx, e⟩
/-- what tells the lists, and nothing else does -/
structure IsLists (b : Nat) (ws : List Bool) (t : Nat) (ms : List Tm) (cs : List Cell) : Prop where
  perm : (cs.map (·.1)).Perm ((standD b ws t ms).map (·.1))
  sorted : (cs.map fun c => ((c.1.1 : Int), (c.1.2 : Int))).Pairwise (fun a b => SrtO.lexB b a = false)
  val : ∀ c ∈ cs, c.2 = cellV (standD b ws t ms) c.1
section
variable {P : Program} {w : World} {K : PySem.W.Frag} {mg : Str → Option Value} {base : Heap}
def spStanding (K : PySem.W.Frag) : Sp := fun vs H Q _ => ∃ (b t : Nat) (q l : Addr) (ws : List Bool) (kvs : List (Key × V)) (ms : List Tm), vs = [.int (b : Nat), .ref q, .ref l, .int (t : Nat)] ∧ 2 ≤ b ∧ b ≤ 64 ∧ SqL K H q (ws.map lvV) ∧ ws ≠ [] ∧ H l = some (.dK kvs) ∧ LiveK H kvs ms ∧ ms.length ≤ 1000 ∧ DuesOk ms ∧
  ∀ H' p ts cs, Same H H' → H p = none → H' p = some (.lst (ts.map V.ref)) → CRows H' H' ts cs → FRows H H' ts → IsLists b ws t ms cs → Q (.ref p) H'
theorem ok_standing {f : Addr} {fd : FuncData} (F : Fun K "standing" "standing" s_standing f fd) (T : Tx K mg) (h0 : Has P w K mg base 1 "level_and_size" ["base", "now", "due"] [] spLevel) (h1 : Has P w K mg base 1 "with_timer" ["numbers", "number", "front"] [] spWithTimer)
    (h2 : Has P w K mg base 3 "goes_in_front" ["base", "levels", "now", "due", "lowest"] [] (spFront K)) : FnOk P w K mg base CX0 4 f fd ["base", "levels", "live", "tick"] (spStanding K) := by
  obtain ⟨f_level_and_size, fd_level_and_size, ds_level_and_size, G_level_and_size, m_level_and_size, k_level_and_size, b_level_and_size, v_level_and_size⟩ := h0
  obtain ⟨f_with_timer, fd_with_timer, ds_with_timer, G_with_timer, m_with_timer, k_with_timer, b_with_timer, v_with_timer⟩ := h1
  obtain ⟨f_goes_in_front, fd_goes_in_front, ds_goes_in_front, G_goes_in_front, m_goes_in_front, k_goes_in_front, b_goes_in_front, v_goes_in_front⟩ := h2
  refine F.ok sc_standing (fun vs H Q E h => ?_) (fun cdv A outer s H vs Q E hr h => ?_)
  · obtain ⟨b, t, q, l, ws, kvs, ms, rfl, _⟩ := h
    rfl
  · obtain ⟨b, t, q, l, ws, kvs, ms, rfl, hb, hb64, hL, hne, hl, L, few, ok, c⟩ := h
    have hu := hu_of hr
    have hb0 : 0 < b := by omega
    refine ⟨_, (pss_cons (ps_set (i := 4) sc_standing.nd rfl (.inr rfl) pe_dnewT)
      (pss_cons (ps_lock (ps_for PassesOwn.never rfl (pi_items (pv 2)) (pg_tupK (K := K) (n := 2) rfl rfl (pgs_cons (pg_name (i := 5) sc_standing.nd rfl (.inl rfl)) (pgs_cons (pg_tupK (K := K) (n := 3) rfl rfl (pgs_cons (pg_name (i := 6) sc_standing.nd rfl (.inl rfl)) (pgs_cons (pg_name (i := 7) sc_standing.nd rfl (.inl rfl)) (pgs_cons (pg_name (i := 8) sc_standing.nd rfl (.inl rfl)) pgs_nil)))) pgs_nil)))
        (pss_one (ps_if (pt_cmpR op_gt (pv 6) (pv 3) (nomark _))
          (pss_cons (ps_asg (pe_call G_level_and_size (hr.mono (by decide)) (by rfl) m_level_and_size k_level_and_size b_level_and_size v_level_and_size pass0 (pa_cons (pv 0) (pa_cons (pv 3) (pa_cons (pv 6) pa_nil)))) (pg_tupK (K := K) (n := 2) rfl rfl (pgs_cons (pg_name (i := 9) sc_standing.nd rfl (.inl rfl)) (pgs_cons (pg_name (i := 10) sc_standing.nd rfl (.inl rfl)) pgs_nil))))
          (pss_cons (ps_set (i := 11) sc_standing.nd rfl (.inl rfl) (pe_tup (pa_cons (pv 9) (pa_cons (pe_op op_remN (pe_op op_divN (pv 6) (pv 10)) (pv 0)) pa_nil))))
          (pss_cons (ps_set (i := 12) sc_standing.nd rfl (.inl rfl) (pe_call G_goes_in_front hr (by rfl) m_goes_in_front k_goes_in_front b_goes_in_front v_goes_in_front pass0 (pa_cons (pv 0) (pa_cons (pv 1) (pa_cons (pv 8) (pa_cons (pv 6) (pa_cons (pv 9) pa_nil)))))))
          (pss_one (ps_asg (pe_call G_with_timer (hr.mono (by decide)) (by rfl) m_with_timer k_with_timer b_with_timer v_with_timer pass0 (pa_cons (pe_dget2 hu (pv 4) (pv 11) (pe_lst pa_nil) ⟨by rfl, by rfl, by rfl, by rfl⟩) (pa_cons (pv 5) (pa_cons (pv 12) pa_nil)))) (pg_sub (pv 4) (pv 11) (set_dict hu)))))))
          pss_nil))))
      (pss_one (ps_ret (pe_lc (own := [("level", 9), ("digit", 13)]) (g := _) (tt := tYes) rfl sc_standing.nd (pi_list (pe_callB (call_sortedDT rfl) (by rfl) T.b_sorted (by decide +kernel) (pa_cons (pv 4) pa_nil))) (blkOk_by (own := [("level", 9), ("digit", 13)]) (N := N_standing) (sc := defScope s_standing) (by decide +kernel)) (fun _ _ _ _ _ => (pg_tupK (K := K) (n := 2) rfl rfl (pgs_cons (pg_name (i := 9) sc_standing.nd rfl (.inl rfl)) (pgs_cons (pg_name (i := 13) sc_standing.nd rfl (.inl rfl)) pgs_nil)))) (fun _ _ _ _ _ => pts_nil) (fun _ _ _ _ _ => (pe_tup (pa_cons (pv 9) (pa_cons (pv 13) (pa_cons (pe_dget hu (pv 4) (pe_tup (pa_cons (pv 9) (pa_cons (pv 13) pa_nil))) (fun _ _ => rfl)) pa_nil)))))))))), ?_⟩
    refine fun R hR0 => ?_
    have s0 := same_upd (o := .dT []) hR0
    have hl0 := s0 _ _ hl
    refine ⟨l, _, hl0, trivial, fun od => ?_⟩
    have nR : R ≠ l := fun e => by
      rw [e, hl] at hR0
      cases hR0
    refine ⟨_, rfl, l, od, kvs, rfl, upd_same, for_items (d := l) (o := od) (kvs := kvs) (fun i σ H' => ∃ (kvd : List (List Key × V)) (y5 y6 y7 y8 y9 y10 y11 y12 y13 : Option V), σ = [some (.int (b : Nat)), some (.ref q), some (.ref l), some (.int (t : Nat)), some (.ref R), y5, y6, y7, y8, y9, y10, y11, y12, y13] ∧ (∀ c o, c ≠ R → (upd (upd H R (.dT [])) l (.frz od (.dK kvs))) c = some o → H' c = some o) ∧ H' R = some (.dT kvd) ∧ CellsAt H' kvd (standD b ws t (ms.take i)) ∧ ∀ kv ∈ kvd, ∀ a, kv.2 = .ref a → H a = none)
      ⟨[], none, none, none, none, none, none, none, none, none, rfl, fun _ _ _ e => e, by rw [upd_ne nR, upd_same], trivial, fun kv h => by cases h⟩ (fun i σ H' ⟨_, _, _, _, _, _, _, _, _, _, _, kp, _, _, _⟩ => kp _ _ (Ne.symm nR) upd_same) ?_ ?_⟩
    · rintro i k v U σ H' hx ⟨kvd, y5, y6, y7, y8, y9, y10, y11, y12, y13, rfl, kp, eR, CA, fr⟩ hU
      have L' := (L.same s0).upd (o' := .frz od (.dK kvs)) hl0 (fun xs z => by cases z)
      obtain ⟨m, tt, hm, rfl, rfl, ht⟩ := L'.get hx
      have sU := same_upd (o := .tup [.int (m.num : Nat), .ref tt]) hU
      have ntR : tt ≠ R := fun e => by
        rw [e, upd_ne nR, upd_same] at ht
        cases ht
      have ht' := sU _ _ (kp _ _ ntR ht)
      have eRU := sU _ _ eR
      have CAU := CA.frame (H' := upd H' U (.tup [.int (m.num : Nat), .ref tt])) fun a xs e => sU _ _ e
      have okm := ok m (List.mem_of_getElem? hm)
      have hi : i < ms.length := (List.getElem?_eq_some_iff.mp hm).1
      obtain ⟨bd1, bd2, bd3⟩ := stand_bounds b ws t ms i (by omega)
      have hstep : standD b ws t (ms.take (i + 1)) = standStep b ws t (standD b ws t (ms.take i)) m := by
        rw [List.take_add_one, hm]
        exact stand_snoc b ws t _ m
      refine ⟨U, _, rfl, .inl (.inl upd_same), rfl, _, _, rfl, _, _, rfl, tt, _, rfl, .inl (.inl ht'), rfl, _, _, rfl, _, _, rfl, _, _, rfl, rfl, rfl, ?_⟩
      by_cases e : t < m.due
      · refine ⟨_, rfl, _, rfl, (m.due : Nat), (t : Nat), rfl, rfl, true, dT (Int.ofNat_lt.mpr e), iteT ?_⟩
        refine ⟨_, rfl, _, rfl, _, rfl, b, t, m.due, rfl, hb, hb64, e, okm.2, fun k hk H2 t0 s2 ht0 eT0 => ?_⟩
        refine ⟨t0, _, rfl, .inl (.inl eT0), rfl, _, _, rfl, _, _, rfl, rfl, ?_⟩
        have hsz : b ^ k < 2 ^ 250 := Nat.lt_of_le_of_lt (hk.size hb e) okm.2
        refine ⟨_, rfl, _, rfl, _, rfl, m.due, b ^ k, rfl, rfl, ndiv 250 (pow_pos' hb k) hsz, _, rfl, _, _, rfl, rfl, hb0, by simp [sizeLine_eq], fun pl hpl => ?_⟩
        have s3 := same_upd (o := .tup [.int (k : Nat), .int ((m.due / b ^ k % b : Nat) : Int)]) hpl
        have epl : (upd H2 pl (.tup [.int (k : Nat), .int ((m.due / b ^ k % b : Nat) : Int)])) pl = some (.tup ((keyC (placeT b t m.due)).map kV)) := by
          rw [upd_same]
          unfold placeT
          rw [levT_eq hk]
          rfl
        have s13 := (sU.trans s2).trans s3
        generalize upd H2 pl (.tup [.int (k : Nat), .int ((m.due / b ^ k % b : Nat) : Int)]) = H3 at s3 epl s13 ⊢
        have hq3 : SqL K H3 q (ws.map lvV) := by
          have hq0 := sq_lock (o' := .frz od (.dK kvs)) hl0 (s0.seq hL)
          rcases hq0 with (e1 | ⟨o1, e1⟩) | e1
          · exact .inl (.inl (s13 _ _ (kp _ _ (fun z => by rw [z, upd_ne nR, upd_same] at e1; cases e1) e1)))
          · exact .inl (.inr ⟨o1, s13 _ _ (kp _ _ (fun z => by rw [z, upd_ne nR, upd_same] at e1; cases e1) e1)⟩)
          · exact .inr e1
        refine ⟨_, rfl, _, rfl, _, rfl, _, rfl, _, rfl, b, m.since, m.due, k, q, ws, rfl, hb, hb64, okm.1, okm.2, hq3, hne, fun k2 hk2 H4 s4 => ?_⟩
        have s14 := s13.trans s4
        have eR4 := s14 _ _ eR
        have CA4 := CA.frame (H' := H4) fun a xs e => s14 _ _ e
        have epl4 := s4 _ _ epl
        refine ⟨_, rfl, R, rfl, .inr ⟨_, .inl eR4⟩, _, rfl, by simp [sizeLine_eq], fun el hel => ?_⟩
        have s5 := same_upd (o := .lst []) hel
        have eel : (upd H4 el (.lst [])) el = some (.lst []) := upd_same
        have s15 := s14.trans s5
        generalize upd H4 el (.lst []) = H5 at s5 s15 eel ⊢
        have eR5 := s15 _ _ eR
        have CA5 := CA.frame (H' := H5) fun a xs e => s15 _ _ e
        have epl5 := s5 _ _ epl4
        obtain ⟨a, ea, hla⟩ : ∃ a, (valV kvd (keyC (placeT b t m.due))).getD (.ref el) = .ref a ∧ H5 a = some (.lst ((cellV (standD b ws t (ms.take i)) (placeT b t m.due)).map fun x => V.int (x : Nat))) := by
          rcases CA5.val (p := placeT b t m.due) with ⟨z1, z2⟩ | ⟨a, z1, z2⟩
          · exact ⟨el, by rw [z1]; rfl, by rw [z2]; exact eel⟩
          · exact ⟨a, by rw [z1]; rfl, z2⟩
        refine ⟨_, DGet.t eR5 epl5, _, rfl, _, rfl, a, cellV (standD b ws t (ms.take i)) (placeT b t m.due), m.num, frontOf ws k (rowsOf b m.since m.due k2), by rw [ea]; rfl, hla, ?_, fun H6 a6 s6 ha6 ea6 => ?_⟩
        · have z := bd2 (placeT b t m.due)
          omega
        have s16 := s15.trans s6
        have eR6 := s16 _ _ eR
        have epl6 := s6 _ _ epl5
        have CA6 := CA.frame (H' := H6) fun a xs e => s16 _ _ e
        refine ⟨_, rfl, _, rfl, R, _, rfl, DPut.t eR6 epl6 ?_, ?_⟩
        · rw [CA6.len]
          exact sizeLine_ge (by omega)
        · refine ⟨_, _, _, _, _, _, _, _, _, _, rfl, fun c o n e => ?_, upd_same, ?_⟩
          · rw [upd_ne n]
            exact s16 _ _ (kp _ _ n e)
          · refine ⟨?_, fun kv hkv a' ea' => ?_⟩
            rotate_left
            · rcases mem_putK hkv with h | h
              · exact fr kv h a' ea'
              · rw [ea'] at h
                rw [V.ref.inj h]
                have hf := s15.free ha6
                cases eh : H a6 with
                | none => rfl
                | some o =>
                  exfalso
                  by_cases n : a6 = l
                  · have z := kp l _ (Ne.symm nR) upd_same
                    rw [← n, hf] at z
                    cases z
                  · have z := kp a6 o (ne_of_none eh hR0) (by rw [upd_ne n]; exact s0 _ _ eh)
                    rw [hf] at z
                    cases z
            have eput := CA6.put (p := placeT b t m.due) ea6
            have e2 : standD b ws t (ms.take (i + 1)) = cellPut (standD b ws t (ms.take i)) (placeT b t m.due) (insT (frontOf ws k (rowsOf b m.since m.due k2)) m.num (cellV (standD b ws t (ms.take i)) (placeT b t m.due))) := by
              rw [hstep]
              unfold standStep
              rw [if_pos e, levT_eq hk, sideT_eq hk2]
            rw [e2]
            exact eput.frame fun a xs e => by
              rw [upd_ne fun z => ?_]
              · exact e
              · rw [z, eR6] at e
                cases e
      · refine ⟨_, rfl, _, rfl, (m.due : Nat), (t : Nat), rfl, rfl, false, dF (fun z => e (Int.ofNat_lt.mp z)), iteF ?_⟩
        refine ⟨kvd, _, _, _, _, _, _, _, _, _, rfl, fun c o n e => sU _ _ (kp _ _ n e), eRU, ?_⟩
        rw [hstep]
        unfold standStep
        rw [if_neg e]
        exact ⟨CAU, fr⟩
    · rintro σ H' ⟨kvd, y5, y6, y7, y8, y9, y10, y11, y12, y13, rfl, kp, eR, CA, fr⟩
      rw [L.len, List.take_length] at CA
      refine ⟨kp _ _ (Ne.symm nR) upd_same, ?_⟩
      obtain ⟨bd1, bd2, bd3⟩ := stand_bounds b ws t ms ms.length (Nat.le_refl _)
      rw [List.take_length] at bd1 bd2 bd3
      have nRl : R ≠ l := nR
      have hlz := kp l _ (Ne.symm nR) upd_same
      have eR1 : (upd H' l (.dK kvs)) R = some (.dT kvd) := by
        rw [upd_ne nR]
        exact eR
      have CA1 := CA.frame (H' := upd H' l (.dK kvs)) fun a xs e => by
        rw [upd_ne fun z => ?_]
        · exact e
        · rw [z, hlz] at e
          cases e
      have sAll : Same H (upd H' l (.dK kvs)) := fun c o e => by
        by_cases n : c = l
        · rw [n] at e ⊢
          rw [upd_same]
          exact hl.symm.trans e
        · rw [upd_ne n]
          exact kp _ _ (ne_of_none e hR0) (by rw [upd_ne n]; exact s0 _ _ e)
      generalize upd H' l (.dK kvs) = H1 at eR1 CA1 sAll ⊢
      generalize hrs : standD b ws t ms = rs at CA1 bd1 bd2 bd3
      refine ⟨_, rfl, R, kvd, _, rfl, .inl eR1, CA1.keys, fun p bs hp0 hperm hsort hbs => ?_⟩
      obtain ⟨ks, eks, hks⟩ : ∃ ks : List (Nat × Nat), (bs.map fun x => pairAt H1 (.ref x)) = ks.map (fun k => ((k.1 : Int), (k.2 : Int))) ∧ ks.Perm (rs.map (·.1)) := by
        refine ⟨(bs.map fun x => pairAt H1 (.ref x)).map fun z => (z.1.toNat, z.2.toNat), ?_, ?_⟩
        · rw [List.map_map]
          have e1 : (bs.map fun x => pairAt H1 (.ref x)).map id = _ := List.map_congr_left (f := id) (g := (fun k : Nat × Nat => ((k.1 : Int), (k.2 : Int))) ∘ fun z : Int × Int => (z.1.toNat, z.2.toNat)) fun z hz => by
            obtain ⟨cc, _, rfl⟩ := List.mem_map.mp (hperm.mem_iff.mp hz)
            rfl
          rw [List.map_id] at e1
          exact e1
        · have z := hperm.map fun z : Int × Int => (z.1.toNat, z.2.toNat)
          have e1 : (rs.map fun c => ((c.1.1 : Int), (c.1.2 : Int))).map (fun z : Int × Int => (z.1.toNat, z.2.toNat)) = rs.map (·.1) := by
            rw [List.map_map]
            exact List.map_congr_left fun c _ => rfl
          rw [e1] at z
          exact z
      have hbl : bs.length = ks.length := by
        have z := congrArg List.length eks
        rw [List.length_map, List.length_map] at z
        exact z
      have hkl : ks.length ≤ 1000 := by
        have z := hks.length_eq
        rw [List.length_map] at z
        omega
      have s2 := same_upd (o := .lst (bs.map V.ref)) hp0
      have ep : (upd H1 p (.lst (bs.map V.ref))) p = some (.lst (bs.map V.ref)) := upd_same
      generalize upd H1 p (.lst (bs.map V.ref)) = H2 at s2 ep ⊢
      have eR2 := s2 _ _ eR1
      have CA2 := CA1.frame (H' := H2) fun a xs e => s2 _ _ e
      refine ⟨p, rfl, ⟨_, SqL.of ep⟩, fun D hD => lc_list (K := K) (a := p) (xs := bs.map V.ref) (fun i H3 => Same H2 H3 ∧ ∃ ts, H3 D = some (.lst (ts.map V.ref)) ∧ ts.length = (ks.take i).length ∧ CRows H2 H3 ts ((ks.take i).map fun k => (k, cellV rs k)) ∧ FRows H H3 ts)
        ⟨same_upd hD, [], upd_same, rfl, trivial, trivial⟩ (fun i H3 _ ⟨sm, _⟩ => SqL.of (sm _ _ ep)) ?_ ?_⟩
      · rintro i x H3 hx ⟨sm, ts, eD, hts, CR, FR⟩
        rw [List.getElem?_map] at hx
        obtain ⟨x0, hx0, rfl⟩ : ∃ x0, bs[i]? = some x0 ∧ x = V.ref x0 := by
          cases e : bs[i]? with
          | none =>
            rw [e] at hx
            cases hx
          | some y =>
            rw [e] at hx
            exact ⟨y, rfl, (Option.some.inj hx).symm⟩
        have hlt : i < ks.length := by
          have z := (List.getElem?_eq_some_iff.mp hx0).1
          omega
        have hk : ks[i]? = some ks[i] := List.getElem?_eq_getElem hlt
        generalize ks[i] = kk at hk
        have epa : pairAt H1 (.ref x0) = ((kk.1 : Int), (kk.2 : Int)) := by
          have z := congrArg (fun l : List (Int × Int) => l[i]?) eks
          simp only [List.getElem?_map, hx0, hk] at z
          exact Option.some.inj z
        have ex0 := hbs x0 (List.mem_of_getElem? hx0)
        rw [epa] at ex0
        have ex3 := sm _ _ (s2 _ _ ex0)
        refine ⟨x0, _, rfl, .inl (.inl ex3), rfl, _, _, rfl, _, _, rfl, rfl, rfl, yesT (iteT ?_)⟩
        refine ⟨_, rfl, _, rfl, _, rfl, _, rfl, _, rfl, by simp [sizeLine_eq], fun kt hkt => ?_⟩
        have s4 := same_upd (o := .tup [.int (kk.1 : Int), .int (kk.2 : Int)]) hkt
        have ekt : (upd H3 kt (.tup [.int (kk.1 : Int), .int (kk.2 : Int)])) kt = some (.tup ((keyC kk).map kV)) := upd_same
        have eD4 := s4 _ _ eD
        have eR4 := s4 _ _ (sm _ _ eR2)
        obtain ⟨a, ha1, ha2⟩ := CA2.val_mem (p := kk) (hks.mem_iff.mp (List.mem_of_getElem? hk))
        have g := DGet.t eR4 ekt
        rw [ha1] at g
        refine ⟨R, .ref a, rfl, g, by simp [sizeLine_eq], fun tr htr => ?_⟩
        have s5 := same_upd (o := .tup [.int (kk.1 : Int), .int (kk.2 : Int), .ref a]) htr
        have eD5 := s5 _ _ eD4
        have nDr : tr ≠ D := fun z => by
          rw [z, eD4] at htr
          cases htr
        refine ⟨_, eD5, ?_, fun c o e => ?_, ts ++ [tr], ?_, ?_, ?_, ?_⟩
        · rw [List.length_map, hts, List.length_take]
          exact sizeLine_ge (by omega)
        · rw [upd_ne (ne_of_none e hD)]
          exact s5 _ _ (s4 _ _ (sm _ _ e))
        · rw [upd_same, List.map_append]
          rfl
        · rw [List.take_add_one, hk, List.length_append, List.length_append, hts]
          rfl
        · rw [List.take_add_one, hk, List.map_append]
          have CR5 := CR.frame (H0' := H2) (H' := upd (upd H3 kt (.tup [.int (kk.1 : Int), .int (kk.2 : Int)])) tr (.tup [.int (kk.1 : Int), .int (kk.2 : Int), .ref a])) (fun _ _ e => e) fun _ _ e => s5 _ _ (s4 _ _ e)
          have CR6 := CR5.snoc (t := tr) (a := a) (c := (kk, cellV rs kk)) upd_same ha2
          exact CR6.frame (fun _ _ e => e) fun t xs e => by
            rw [upd_ne fun z => ?_]
            · exact e
            · rw [z, eD5] at e
              cases e
        · obtain ⟨kv, hkv, ekv⟩ := valV_mem2 ha1
          have FR5 := (FR.frame (H' := upd (upd H3 kt (.tup [.int (kk.1 : Int), .int (kk.2 : Int)])) tr (.tup [.int (kk.1 : Int), .int (kk.2 : Int), .ref a])) fun _ _ e => s5 _ _ (s4 _ _ e)).snoc (t := tr) upd_same (fr kv hkv a ekv)
          exact FR5.frame fun t xs e => by
            rw [upd_ne fun z => ?_]
            · exact e
            · rw [z, eD5] at e
              cases e
      · rintro H3 ⟨s3, ts, eD, hts, CR, FR⟩
        rw [List.length_map, hbl, List.take_length] at CR
        refine c H3 D ts (ks.map fun k => (k, cellV rs k)) (sAll.trans (s2.trans s3)) ((sAll.trans s2).free hD) eD (CR.frame (fun _ _ e => s3 _ _ e) fun _ _ e => e) FR ⟨?_, ?_, ?_⟩
        · rw [List.map_map, hrs]
          have e1 : ks.map ((fun c : Cell => c.1) ∘ fun k => (k, cellV rs k)) = ks.map id := List.map_congr_left fun k _ => rfl
          rw [e1, List.map_id]
          exact hks
        · rw [List.map_map]
          rw [eks] at hsort
          exact hsort
        · intro cc hcc
          obtain ⟨k, _, rfl⟩ := List.mem_map.mp hcc
          rw [hrs]
end
/-! ### data equal to itself -/
theorem neq_refl {d : PyData} (h : d.canLay0 = true) : V.bl (!PyData.eqv d d) = V.bl false := by
  rw [SeqAt.eqv_refl d h]
  rfl
theorem eq_refl {d : PyData} (h : d.canLay0 = true) : V.bl (PyData.eqv d d) = V.bl true := by
  rw [SeqAt.eqv_refl d h]
/-! ### rows as data, walks with numbers -/
def rowD (r : Row3) : PyData := .tuple [.int (r.1 : Nat), .int (r.2.1 : Nat), .int (r.2.2 : Nat)]
theorem rows_dp {K : PySem.W.Frag} {H : Hp} : ∀ {ts : List Addr} {rs : List Row3}, RowsAt H ts rs → DpAll K H (ts.map V.ref) (rs.map rowD)
  | [], [], _ => .nil
  | _ :: _, _ :: _, h => .cons (.tup (.inl (.inl h.1)) (.cons (.int _) (.cons (.int _) (.cons (.int _) .nil)))) (rows_dp h.2)
  | [], _ :: _, h => h.elim
  | _ :: _, [], h => h.elim
theorem rowD_lay (r : Row3) : (rowD r).canLay0 = true := rfl
theorem rows_lay : ∀ rs : List Row3, PyData.canLayAll0 (rs.map rowD) = true
  | [] => rfl
  | r :: rs => by
    show ((rowD r).canLay0 && PyData.canLayAll0 (rs.map rowD)) = true
    rw [rowD_lay, rows_lay rs]
    rfl
theorem rows_depth : ∀ rs : List Row3, PyData.depthAll (rs.map rowD) ≤ 1
  | [] => Nat.zero_le _
  | r :: rs => by
    have ih := rows_depth rs
    show max (rowD r).depth (PyData.depthAll (rs.map rowD)) ≤ 1
    have e : (rowD r).depth = 1 := rfl
    rw [e]
    omega
theorem rows_shaped (rs : List Row3) : SeqAt.shaped (.list (rs.map rowD)) = true := by
  have h1 : (PyData.list (rs.map rowD)).canLay0 = true := by
    show PyData.canLayAll0 (rs.map rowD) = true
    exact rows_lay rs
  have h2 : (PyData.list (rs.map rowD)).depth ≤ 64 := by
    show PyData.depthAll (rs.map rowD) + 1 ≤ 64
    have := rows_depth rs
    omega
  unfold SeqAt.shaped
  rw [h1, decide_eq_true h2]
  rfl
theorem dp_nats {K : PySem.W.Frag} {H : Hp} : ∀ ns : List Nat, DpAll K H (ns.map fun x => V.int (x : Nat)) (ns.map fun x => PyData.int (x : Nat))
  | [] => .nil
  | _ :: r => .cons (.int _) (dp_nats r)
theorem nats_lay : ∀ ns : List Nat, PyData.canLayAll0 (ns.map fun x => PyData.int (x : Nat)) = true
  | [] => rfl
  | _ :: r => by
    show (PyData.canLay0 _ && PyData.canLayAll0 (r.map fun x => PyData.int (x : Nat))) = true
    rw [nats_lay r]
    rfl
theorem nats_depth : ∀ ns : List Nat, PyData.depthAll (ns.map fun x => PyData.int (x : Nat)) = 0
  | [] => rfl
  | _ :: r => by
    show max (PyData.depth _) (PyData.depthAll (r.map fun x => PyData.int (x : Nat))) = 0
    rw [nats_depth r]
    rfl
theorem nats_shaped (ns : List Nat) : SeqAt.shaped (.list (ns.map fun x => PyData.int (x : Nat))) = true := by
  have h1 : (PyData.list (ns.map fun x => PyData.int (x : Nat))).canLay0 = true := by
    show PyData.canLayAll0 _ = true
    exact nats_lay ns
  have h2 : (PyData.list (ns.map fun x => PyData.int (x : Nat))).depth ≤ 64 := by
    show PyData.depthAll _ + 1 ≤ 64
    rw [nats_depth ns]
    decide
  unfold SeqAt.shaped
  rw [h1, decide_eq_true h2]
  rfl
theorem cut1 (xs : List V) : cutV xs (some 1) none = xs.drop 1 := by
  unfold cutV
  rw [show HT.sIx xs.length 0 (some 1) = min 1 xs.length from HT.sIx_nat xs.length 0 1, HT.sIx_none]
  cases xs with
  | nil => rfl
  | cons x r =>
    rw [show min 1 (x :: r).length = 1 by
      rw [List.length_cons]
      omega]
    show (List.take ((x :: r).length - 1) r) = r
    rw [List.length_cons, Nat.add_sub_cancel]
    exact List.take_length
theorem cutTo {xs : List V} {k : Nat} : cutV xs none (some (k : Int)) = xs.take k := by
  unfold cutV
  rw [HT.sIx_none, HT.sIx_nat, List.drop_zero, Nat.sub_zero]
  by_cases h : k ≤ xs.length
  · rw [Nat.min_eq_left h]
  · rw [Nat.min_eq_right (by omega), List.take_length, List.take_of_length_le (by omega)]
theorem cutFrom {xs : List V} {k : Nat} : cutV xs (some (k : Int)) none = xs.drop k := by
  unfold cutV
  rw [HT.sIx_none, HT.sIx_nat]
  by_cases h : k ≤ xs.length
  · rw [Nat.min_eq_left h]
    exact List.take_of_length_le (by rw [List.length_drop]; exact Nat.le_refl _)
  · rw [Nat.min_eq_right (by omega), List.drop_length, List.drop_of_length_le (by omega)]
    simp
theorem cutLast {xs : List V} (h : xs ≠ []) : cutV xs (some (-1)) none = [xs.getLast h] := by
  have hp : 0 < xs.length := List.length_pos_iff.mpr h
  have e : HT.sIx xs.length 0 (some (-1)) = xs.length - 1 := by
    show (if (-1 : Int) < 0 then ((-1 : Int) + (xs.length : Int)).toNat else min (-1 : Int).toNat xs.length) = _
    rw [if_pos (by decide)]
    omega
  unfold cutV
  rw [e, HT.sIx_none, List.drop_eq_getElem_cons (show xs.length - 1 < xs.length by omega), List.getLast_eq_getElem]
  rw [show xs.length - 1 + 1 = xs.length by omega, List.drop_length]
  rw [show xs.length - (xs.length - 1) = 1 by omega]
  rfl
theorem RowsAt.frame {H H' : Hp} : ∀ {ts : List Addr} {rs : List Row3}, RowsAt H ts rs → (∀ t r, H t = some (.tup (rowV r)) → H' t = some (.tup (rowV r))) → RowsAt H' ts rs
  | [], [], _, _ => trivial
  | _ :: _, _ :: _, h, s => ⟨s _ _ h.1, h.2.frame s⟩
  | [], _ :: _, h, _ => h.elim
  | _ :: _, [], h, _ => h.elim
/-- the tick behind the first station -/
theorem behind_first (b d : Nat) : ∀ k, ((tailOf b d k).map (fun r => r.2.2) ++ [d])[0]? = some (d / b ^ k * b ^ k)
  | 0 => by
    show some d = some (d / b ^ 0 * b ^ 0)
    rw [Nat.pow_zero, Nat.div_one, Nat.mul_one]
  | k + 1 => by
    have e := cut_step b d k
    unfold tailOf
    split
    · rfl
    · rename_i h
      have h0 : d / b ^ k % b = 0 := Classical.byContradiction h
      rw [h0, Nat.zero_mul, Nat.add_zero] at e
      rw [behind_first b d k, e]
/-- a loop over enumerate(a list) -/
theorem for_enum {K : PySem.W.Frag} {a : Addr} {xs : List V} {g : TG} {tb : TS} {D : Ends} {σ : L2.St} {H : Hp} (Pv : Nat → L2.St → Hp → Prop) (h0 : Pv 0 σ H) (hq : ∀ i σ H, Pv i σ H → SqL K H a xs)
    (hs : ∀ (i : Nat) (x : V) (T : Addr) (σ : L2.St) (H : Hp), xs[i]? = some x → Pv i σ H → H T = none → g (.ref T) σ (upd H T (.tup [.int (i : Nat), x])) fun σ2 H2 => tb { D with nx := Pv (i + 1), ct := Pv (i + 1), bk := D.nx } σ2 H2) (hd : ∀ σ H, Pv xs.length σ H → D.nx σ H) :
    ∃ W : Nat → Nat → L2.St → Hp → Prop, (∃ m, W 0 m σ H) ∧ ∀ i m σ H, W i m σ H →
      ((Ite K a).stop i H ∧ D.nx σ H) ∨ ((Ite K a).go i H ∧ ∃ N : L2.St → Hp → Prop, (∀ σ' H', N σ' H' → ∃ m', m' < m ∧ W (i + 1) m' σ' H') ∧ ∀ v H', (Ite K a).yld i H v H' → g v σ H' fun σ2 H2 => tb { D with nx := N, ct := N, bk := D.nx } σ2 H2) := by
  refine ⟨fun i m σ H => m = xs.length - i ∧ i ≤ xs.length ∧ Pv i σ H, ⟨xs.length, rfl, Nat.zero_le _, h0⟩, ?_⟩
  rintro i m σ H ⟨rfl, hi, p⟩
  have qx := hq i σ H p
  by_cases hlt : i < xs.length
  · have hx : xs[i]? = some xs[i] := List.getElem?_eq_getElem hlt
    refine .inr ⟨⟨xs, xs[i], qx, hx⟩, Pv (i + 1), fun σ' H' p' => ⟨xs.length - (i + 1), by omega, rfl, hlt, p'⟩, fun v H' y => ?_⟩
    obtain ⟨T, x, rfl, nT, rfl, f⟩ := y
    have ex : x = xs[i] := Option.some.inj ((f xs qx).symm.trans hx)
    subst ex
    exact hs i _ T σ H hx p nT
  · have e : i = xs.length := by omega
    subst e
    exact .inl ⟨⟨xs, qx, Nat.le_refl _⟩, hd σ H p⟩
/-- a loop over zip(a list, a list), of any two lengths -/
theorem for_zip2 {K : PySem.W.Frag} {a b : Addr} {xs ys : List V} {g : TG} {tb : TS} {D : Ends} {σ : L2.St} {H : Hp} (Pv : Nat → L2.St → Hp → Prop) (h0 : Pv 0 σ H) (hq : ∀ i σ H, Pv i σ H → SqL K H a xs ∧ SqL K H b ys)
    (hs : ∀ (i : Nat) (x y : V) (T : Addr) (σ : L2.St) (H : Hp), xs[i]? = some x → ys[i]? = some y → Pv i σ H → H T = none → g (.ref T) σ (upd H T (.tup [x, y])) fun σ2 H2 => tb { D with nx := Pv (i + 1), ct := Pv (i + 1), bk := D.nx } σ2 H2) (hd : ∀ i σ H, Pv i σ H → D.nx σ H) :
    ∃ W : Nat → Nat → L2.St → Hp → Prop, (∃ m, W 0 m σ H) ∧ ∀ i m σ H, W i m σ H →
      ((Itz K a b).stop i H ∧ D.nx σ H) ∨ ((Itz K a b).go i H ∧ ∃ N : L2.St → Hp → Prop, (∀ σ' H', N σ' H' → ∃ m', m' < m ∧ W (i + 1) m' σ' H') ∧ ∀ v H', (Itz K a b).yld i H v H' → g v σ H' fun σ2 H2 => tb { D with nx := N, ct := N, bk := D.nx } σ2 H2) := by
  refine ⟨fun i m σ H => m = xs.length - i ∧ i ≤ xs.length ∧ Pv i σ H, ⟨xs.length, rfl, Nat.zero_le _, h0⟩, ?_⟩
  rintro i m σ H ⟨rfl, hi, p⟩
  obtain ⟨qx, qy⟩ := hq i σ H p
  by_cases hlt : i < xs.length ∧ i < ys.length
  · have hx : xs[i]? = some xs[i] := List.getElem?_eq_getElem hlt.1
    have hy : ys[i]? = some ys[i] := List.getElem?_eq_getElem hlt.2
    refine .inr ⟨⟨xs, ys, _, _, qx, qy, hx, hy⟩, Pv (i + 1), fun σ' H' p' => ⟨xs.length - (i + 1), by omega, rfl, hlt.1, p'⟩, fun v H' e => ?_⟩
    obtain ⟨T, x, y, rfl, nT, rfl, f, f2⟩ := e
    have ex : x = xs[i] := Option.some.inj ((f xs qx).symm.trans hx)
    have ey : y = ys[i] := Option.some.inj ((f2 ys qy).symm.trans hy)
    subst ex
    subst ey
    exact hs i _ _ T σ H hx hy p nT
  · refine .inl ⟨⟨xs, ys, qx, qy, ?_⟩, hd i σ H p⟩
    by_cases h1 : i < xs.length
    · right
      by_cases h2 : i < ys.length
      · exact absurd ⟨h1, h2⟩ hlt
      · omega
    · left
      omega
/-- the last item of a list that has one -/
theorem atI_neg1 {xs : List V} {x : V} (h : xs[xs.length - 1]? = some x) : atI xs (-1) = some x := by
  have hne : xs ≠ [] := fun e => by
    rw [e] at h
    simp at h
  have e : xs = xs.dropLast ++ [xs.getLast hne] := (List.dropLast_concat_getLast hne).symm
  have ex : x = xs.getLast hne := by
    have z := List.getLast?_eq_getElem? (l := xs)
    rw [h, List.getLast?_eq_some_getLast hne] at z
    exact (Option.some.inj z).symm
  rw [e, ex]
  exact atI_last _ _
section
variable {P : Program} {w : World} {K : PySem.W.Frag} {mg : Str → Option Value} {base : Heap}
def spLists (C : Addr) : Sp := fun vs H Q _ => ∃ (p q l : Addr) (W : WS), vs = [.ref p] ∧ WheelAt C H p q l W ∧ WOk W ∧ ∀ H' r ts cs, Same H H' → H r = none → H' r = some (.lst (ts.map V.ref)) → CRows H' H' ts cs → FRows H H' ts → IsLists W.b W.ws W.tick W.live cs → Q (.ref r) H'
theorem ok_lists {f C : Addr} {fd : FuncData} (F : Fun K "lists" "Wheel.lists" s_Wheel_lists f fd) (TW : TxW K mg C) (h1 : Has P w K mg base 4 "standing" ["base", "levels", "live", "tick"] [] (spStanding K)) : FnOk P w K mg base CX0 5 f fd ["self"] (spLists C) := by
  obtain ⟨f_standing, fd_standing, ds_standing, G_standing, m_standing, k_standing, b_standing, v_standing⟩ := h1
  refine F.ok sc_Wheel_lists (fun vs H Q E h => ?_) (fun cdv A outer s H vs Q E hr h => ?_)
  · obtain ⟨p, q, l, W, rfl, _⟩ := h
    rfl
  · obtain ⟨p, q, l, W, rfl, hw, ok, c⟩ := h
    obtain ⟨dx, hp⟩ := hw.ins
    obtain ⟨kvs, hl, L⟩ := hw.live
    refine ⟨_, (pss_one (ps_ret (pe_call G_standing hr (by rfl) m_standing k_standing b_standing v_standing pass0 (pa_cons (pe_fld (pv 0) rfl) (pa_cons (pe_fld (pv 0) rfl) (pa_cons (pe_fld (pv 0) rfl) (pa_cons (pe_fld (pv 0) rfl) pa_nil))))))), ?_⟩
    refine ⟨_, rfl, p, C, dx, _, _, rfl, hp, TW.cl, TW.nB, wf_b, _, rfl, p, C, dx, _, _, rfl, hp, TW.cl, TW.nW, wf_w, _, rfl, p, C, dx, _, _, rfl, hp, TW.cl, TW.nL, wf_l, _, rfl, p, C, dx, _, _, rfl, hp, TW.cl, TW.nT, wf_t, ?_⟩
    exact ⟨W.b, W.tick, q, l, W.ws, kvs, W.live, rfl, ok.b2, ok.b64, SqL.of hw.words, ok.ne, hl, L, ok.few, fun m hm => ⟨Nat.lt_of_le_of_lt (ok.tms m hm).since (ok.tms m hm).due, (ok.tms m hm).big⟩, c⟩
end
/-- the lists are told in one way -/
theorem IsLists.uniq {b : Nat} {ws : List Bool} {t : Nat} {ms : List Tm} {cs cs' : List Cell} (h : IsLists b ws t ms cs) (h' : IsLists b ws t ms cs') : cs = cs' := by
  have cast : ∀ l : List Cell, (l.map fun c => ((c.1.1 : Int), (c.1.2 : Int))) = (l.map (·.1)).map fun k => ((k.1 : Int), (k.2 : Int)) := fun l => by
    rw [List.map_map]
    rfl
  have hk : cs.map (·.1) = cs'.map (·.1) := by
    have z1 := h.sorted
    have z2 := h'.sorted
    rw [cast, List.pairwise_map] at z1 z2
    refine List.Perm.eq_of_pairwise (fun a c _ _ h1 h2 => ?_) z1 z2 (h.perm.trans h'.perm.symm)
    rw [SrtO.lexB_no] at h1 h2
    dsimp only at h1 h2
    refine Prod.ext ?_ ?_ <;> omega
  have hall : ∀ (l l' : List Cell), l.map (·.1) = l'.map (·.1) → (∀ c ∈ l, c.2 = cellV (standD b ws t ms) c.1) → (∀ c ∈ l', c.2 = cellV (standD b ws t ms) c.1) → l = l' := by
    intro l
    induction l with
    | nil =>
      intro l' e _ _
      cases l' with
      | nil => rfl
      | cons c l' => cases e
    | cons c l ih =>
      intro l' e h1 h2
      cases l' with
      | nil => cases e
      | cons c' l' =>
        rw [List.map_cons, List.map_cons] at e
        obtain ⟨e1, e2⟩ := List.cons.inj e
        rw [ih l' e2 (fun x hx => h1 x (List.mem_cons_of_mem _ hx)) fun x hx => h2 x (List.mem_cons_of_mem _ hx)]
        have a1 := h1 c (List.mem_cons_self ..)
        have a2 := h2 c' (List.mem_cons_self ..)
        rw [← e1, ← a1] at a2
        rw [Prod.ext e1 a2.symm]
  exact hall cs cs' hk h.val h'.val
/-! ### the lists as data -/
def cellD (c : Cell) : PyData := .tuple [.int (c.1.1 : Nat), .int (c.1.2 : Nat), .list (c.2.map fun x => PyData.int (x : Nat))]
theorem cells_dp {K : PySem.W.Frag} {H0 H : Hp} (s : ∀ a xs, H0 a = some (.lst xs) → H a = some (.lst xs)) : ∀ {ts : List Addr} {cs : List Cell}, CRows H0 H ts cs → DpAll K H (ts.map V.ref) (cs.map cellD)
  | [], [], _ => .nil
  | _ :: _, _ :: _, ⟨⟨a, h1, h2⟩, h3⟩ => .cons (.tup (SqT.of h1) (.cons (.int _) (.cons (.int _) (.cons (.lst (SqL.of (s _ _ h2)) (dp_nats _)) .nil)))) (cells_dp s h3)
  | [], _ :: _, h => h.elim
  | _ :: _, [], h => h.elim
theorem cellD_lay (c : Cell) : (cellD c).canLay0 = true := by
  simp [cellD, PyData.canLay0, PyData.canLayAll0, nats_lay]
theorem cells_lay : ∀ cs : List Cell, PyData.canLayAll0 (cs.map cellD) = true
  | [] => rfl
  | c :: cs => by
    show ((cellD c).canLay0 && PyData.canLayAll0 (cs.map cellD)) = true
    rw [cellD_lay, cells_lay cs]
    rfl
theorem cellD_depth (c : Cell) : (cellD c).depth ≤ 2 := by
  have h : (PyData.list (c.2.map fun x => PyData.int (x : Nat))).depth = 1 := by
    show PyData.depthAll _ + 1 = 1
    rw [nats_depth c.2]
  show max (PyData.depth _) (max (PyData.depth _) (max (PyData.depth (PyData.list (c.2.map fun x => PyData.int (x : Nat)))) (PyData.depthAll []))) + 1 ≤ 2
  rw [h]
  exact Nat.le_refl 2
theorem cells_depth : ∀ cs : List Cell, PyData.depthAll (cs.map cellD) ≤ 2
  | [] => Nat.zero_le _
  | c :: cs => by
    have ih := cells_depth cs
    have h := cellD_depth c
    show max (cellD c).depth (PyData.depthAll (cs.map cellD)) ≤ 2
    omega
theorem cells_shaped (cs : List Cell) : SeqAt.shaped (.list (cs.map cellD)) = true := by
  have h1 : (PyData.list (cs.map cellD)).canLay0 = true := by
    show PyData.canLayAll0 (cs.map cellD) = true
    exact cells_lay cs
  have h2 : (PyData.list (cs.map cellD)).depth ≤ 64 := by
    show PyData.depthAll (cs.map cellD) + 1 ≤ 64
    have := cells_depth cs
    omega
  unfold SeqAt.shaped
  rw [h1, decide_eq_true h2]
  rfl
/-! ### which timer stands in which list -/
theorem cell_mem {b : Nat} {ws : List Bool} {t : Nat} {ms : List Tm} {p : Nat × Nat} {x : Nat} : x ∈ cellV (standD b ws t ms) p ↔ ∃ m ∈ ms, t < m.due ∧ placeT b t m.due = p ∧ m.num = x := by
  suffices H : ∀ n : Nat, x ∈ cellV (standD b ws t (ms.take n)) p ↔ ∃ m ∈ ms.take n, t < m.due ∧ placeT b t m.due = p ∧ m.num = x by
    have z := H ms.length
    rw [List.take_length] at z
    exact z
  intro n
  induction n with
  | zero =>
    constructor
    · intro h
      cases h
    · rintro ⟨m, h, _⟩
      cases h
  | succ n ih =>
    cases e : ms[n]? with
    | none =>
      have hl : ms.length ≤ n := List.getElem?_eq_none_iff.mp e
      rw [List.take_of_length_le (by omega)]
      rw [List.take_of_length_le hl] at ih
      exact ih
    | some m =>
      rw [List.take_add_one, e, Option.toList_some]
      rw [stand_snoc]
      unfold standStep
      have split_ex : (∃ m' ∈ ms.take n ++ [m], t < m'.due ∧ placeT b t m'.due = p ∧ m'.num = x) ↔ (∃ m' ∈ ms.take n, t < m'.due ∧ placeT b t m'.due = p ∧ m'.num = x) ∨ (t < m.due ∧ placeT b t m.due = p ∧ m.num = x) := by
        constructor
        · rintro ⟨m', h, r⟩
          rcases List.mem_append.mp h with h | h
          · exact .inl ⟨m', h, r⟩
          · rw [List.mem_singleton.mp h] at r
            exact .inr r
        · rintro (⟨m', h, r⟩ | r)
          · exact ⟨m', List.mem_append_left _ h, r⟩
          · exact ⟨m, by simp, r⟩
      rw [split_ex, ← ih]
      by_cases h : t < m.due
      · rw [if_pos h, cellV_put]
        by_cases h2 : placeT b t m.due = p
        · rw [if_pos h2, insT_mem, h2]
          constructor
          · rintro (z | z)
            · exact .inr ⟨h, rfl, z.symm⟩
            · exact .inl z
          · rintro (z | ⟨_, _, z⟩)
            · exact .inr z
            · exact .inl z.symm
        · rw [if_neg h2]
          exact ⟨.inl, fun z => z.elim id fun y => absurd y.2.1 h2⟩
      · rw [if_neg h]
        exact ⟨.inl, fun z => z.elim id fun y => absurd y.1 h⟩
/-- the lists at two ticks at which all timers stand at the same levels -/
theorem stand_same {b : Nat} {ws : List Bool} {s t : Nat} {ms : List Tm} (h : ∀ m ∈ ms, s < m.due ∧ t < m.due ∧ levT b s m.due = levT b t m.due) : standD b ws s ms = standD b ws t ms := by
  suffices H : ∀ n : Nat, standD b ws s (ms.take n) = standD b ws t (ms.take n) by
    have z := H ms.length
    rw [List.take_length] at z
    exact z
  intro n
  induction n with
  | zero => rfl
  | succ n ih =>
    cases e : ms[n]? with
    | none =>
      have hl : ms.length ≤ n := List.getElem?_eq_none_iff.mp e
      rw [List.take_of_length_le (by omega)]
      rw [List.take_of_length_le hl] at ih
      exact ih
    | some m =>
      rw [List.take_add_one, e, Option.toList_some, stand_snoc, stand_snoc, ih]
      obtain ⟨h1, h2, h3⟩ := h m (List.mem_of_getElem? e)
      unfold standStep
      rw [if_pos h1, if_pos h2]
      unfold placeT
      rw [h3]
theorem IsLists.same {b : Nat} {ws : List Bool} {s t : Nat} {ms : List Tm} {cs : List Cell} (e : standD b ws s ms = standD b ws t ms) (h : IsLists b ws s ms cs) : IsLists b ws t ms cs := ⟨by rw [← e]; exact h.perm, h.sorted, by rw [← e]; exact h.val⟩
/-- the timers of a told cell -/
theorem IsLists.mem {b : Nat} {ws : List Bool} {t : Nat} {ms : List Tm} {cs : List Cell} (h : IsLists b ws t ms cs) {c : Cell} (hc : c ∈ cs) {x : Nat} : x ∈ c.2 ↔ ∃ m ∈ ms, t < m.due ∧ placeT b t m.due = c.1 ∧ m.num = x := by
  rw [h.val c hc]
  exact cell_mem
/-! ### the rows that tell the lists, row by row -/
theorem crow_item {Hb H0 H : Hp} : ∀ {ts : List Addr} {cs : List Cell} {i : Nat} {x : V}, CRows H0 H ts cs → FRows Hb H ts → (ts.map V.ref)[i]? = some x → ∃ t c a, x = .ref t ∧ ts[i]? = some t ∧ cs[i]? = some c ∧ H t = some (.tup [.int (c.1.1 : Nat), .int (c.1.2 : Nat), .ref a]) ∧ H0 a = some (.lst (c.2.map fun x => V.int (x : Nat))) ∧ Hb a = none
  | t :: ts, c :: cs, 0, x, ⟨⟨a, h1, h2⟩, _⟩, ⟨⟨y1, y2, a', h4, h5⟩, _⟩, e => by
    rw [h1] at h4
    have z := HO.tup.inj (Option.some.inj h4)
    have ea : a = a' := by
      injection z with _ z
      injection z with _ z
      injection z with z _
      exact V.ref.inj z
    subst ea
    exact ⟨t, c, a, (Option.some.inj e).symm, rfl, rfl, h1, h2, h5⟩
  | t :: ts, c :: cs, i + 1, x, h, f, e => crow_item (i := i) h.2 f.2 e
  | [], [], _, _, _, _, e => by cases e
  | [], _ :: _, _, _, h, _, _ => h.elim
  | _ :: _, [], _, _, h, _, _ => h.elim
theorem CRows.len {H0 H : Hp} : ∀ {ts : List Addr} {cs : List Cell}, CRows H0 H ts cs → ts.length = cs.length
  | [], [], _ => rfl
  | _ :: _, _ :: _, h => congrArg Nat.succ h.2.len
  | [], _ :: _, h => h.elim
  | _ :: _, [], h => h.elim
/-- the keys of the lists: each once, and those of all timers -/
theorem IsLists.keys {b : Nat} {ws : List Bool} {t : Nat} {ms : List Tm} {cs : List Cell} (h : IsLists b ws t ms cs) (hd : ∀ m ∈ ms, t < m.due) : (cs.map (·.1)).Nodup ∧ ∀ m ∈ ms, placeT b t m.due ∈ cs.map (·.1) := by
  have nd := (stand_bounds b ws t ms ms.length (Nat.le_refl _)).2.2
  rw [List.take_length] at nd
  refine ⟨h.perm.nodup_iff.mpr nd, fun m hm => h.perm.mem_iff.mpr (Classical.byContradiction fun no => ?_)⟩
  have hin : m.num ∈ cellV (standD b ws t ms) (placeT b t m.due) := cell_mem.mpr ⟨m, hm, hd m hm, rfl, rfl⟩
  have nk : ∀ (rs : List Cell) (p : Nat × Nat), p ∉ rs.map (·.1) → cellV rs p = [] := by
    intro rs p
    induction rs with
    | nil => exact fun _ => rfl
    | cons c rs ih =>
      intro h
      rw [List.map_cons, List.mem_cons, not_or] at h
      show (if c.1 = p then c.2 else cellV rs p) = []
      rw [if_neg fun z => h.1 z.symm]
      exact ih h.2
  rw [nk _ _ no] at hin
  cases hin
theorem IsLists.at_ {b : Nat} {ws : List Bool} {t : Nat} {ms : List Tm} {cs : List Cell} (h : IsLists b ws t ms cs) (hd : ∀ m ∈ ms, t < m.due) {c : Cell} (hc : c ∈ cs) : c.2 = (stM b ws t ms c.1).map (·.num) := by
  rw [h.val c hc]
  exact cell_st hd
/-! ### restoring -/
theorem PrAt.cat {H : Hp} : ∀ {ts us : List Addr} {rs qs : List (Nat × Nat)}, PrAt H ts rs → PrAt H us qs → PrAt H (ts ++ us) (rs ++ qs)
  | [], _, [], _, _, h => h
  | _ :: _, _, _ :: _, _, ⟨h1, h2⟩, h => ⟨h1, h2.cat h⟩
  | [], _, _ :: _, _, h, _ => h.elim
  | _ :: _, _, [], _, h, _ => h.elim
section
variable {P : Program} {w : World} {K : PySem.W.Frag} {mg : Str → Option Value} {base : Heap}
def rowND (m : Tm) : Nat × Nat := (m.num, m.due)
def spRestoring (C : Addr) : Sp := fun vs H Q _ => ∃ (p q l : Addr) (W : WS), vs = [.ref p] ∧ WheelAt C H p q l W ∧ WOk W ∧ ∀ H' r ts cs, Same H H' → H r = none → H' r = some (.lst (ts.map V.ref)) → PrAt H' ts ((toldT W.b W.ws W.tick W.live (cs.map (·.1))).map rowND) → IsLists W.b W.ws W.tick W.live cs → Q (.ref r) H'
theorem told_take {b : Nat} {ws : List Bool} {t : Nat} {ms : List Tm} {cs : List Cell} {i : Nat} {c : Cell} (hc : cs[i]? = some c) : toldT b ws t ms ((cs.take (i + 1)).map (·.1)) = toldT b ws t ms ((cs.take i).map (·.1)) ++ deq (fun _ => wordAt ws c.1.1) (stM b ws t ms c.1) := by
  unfold toldT
  rw [List.take_add_one, hc, Option.toList_some, List.map_append, List.flatMap_append]
  show _ ++ ([c].map (·.1)).flatMap _ = _
  rw [List.map_cons, List.map_nil, List.flatMap_cons, List.flatMap_nil, List.append_nil]
theorem told_len {b : Nat} {ws : List Bool} {t : Nat} {ms : List Tm} {cs : List Cell} (h : IsLists b ws t ms cs) (hd : ∀ m ∈ ms, t < m.due) (i : Nat) : (toldT b ws t ms ((cs.take i).map (·.1))).length ≤ ms.length := by
  obtain ⟨k1, k2⟩ := h.keys hd
  rw [← (told_perm (b := b) (ws := ws) (t := t) (ms := ms) k1 k2).length_eq]
  have e : toldT b ws t ms (cs.map (·.1)) = toldT b ws t ms ((cs.take i).map (·.1)) ++ toldT b ws t ms ((cs.drop i).map (·.1)) := by
    unfold toldT
    rw [← List.flatMap_append, ← List.map_append, List.take_append_drop]
  rw [e, List.length_append]
  omega
theorem ok_restoring {f C : Addr} {fd : FuncData} (F : Fun K "restoring" "Wheel.restoring" s_Wheel_restoring f fd) (TW : TxW K mg C) (m1 : HasM P w K mg base 5 C "lists" ["self"] [] (spLists C)) (h1 : Has P w K mg base 1 "word_at" ["levels", "level"] [] (spWordAt K)) : FnOk P w K mg base CX0 6 f fd ["self"] (spRestoring C) := by
  have cl_Wheel := TW.cl
  obtain ⟨g1, gd1, gs1, G_Wheel_lists, M_Wheel_lists, b_Wheel_lists, v_Wheel_lists⟩ := m1
  obtain ⟨f_word_at, fd_word_at, ds_word_at, G_word_at, m_word_at, k_word_at, b_word_at, v_word_at⟩ := h1
  refine F.ok sc_Wheel_restoring (fun vs H Q E h => ?_) (fun cdv A outer s H vs Q E hr h => ?_)
  · obtain ⟨p, q, l, W, rfl, _⟩ := h
    rfl
  · obtain ⟨p, q, l, W, rfl, hw, ok, c⟩ := h
    have hu := hu_of hr
    refine ⟨_, (pss_cons (ps_set (i := 1) sc_Wheel_restoring.nd rfl (.inl rfl) (pe_lst pa_nil))
      (pss_cons (ps_for PassesOwn.never rfl (pi_list (pe_meth0 (pv 0) cl_Wheel M_Wheel_lists G_Wheel_lists hr b_Wheel_lists v_Wheel_lists pass0)) (pg_tupK (K := K) (n := 3) rfl rfl (pgs_cons (pg_name (i := 2) sc_Wheel_restoring.nd rfl (.inl rfl)) (pgs_cons (pg_name (i := 3) sc_Wheel_restoring.nd rfl (.inl rfl)) (pgs_cons (pg_name (i := 4) sc_Wheel_restoring.nd rfl (.inl rfl)) pgs_nil))))
        (pss_cons (ps_if (pt_cmpR op_eq (pe_call G_word_at (hr.mono (by decide)) (by rfl) m_word_at k_word_at b_word_at v_word_at pass0 (pa_cons (pe_fld (pv 0) rfl) (pa_cons (pv 2) pa_nil))) pe_str (nomark _))
          (pss_one (ps_set (i := 4) sc_Wheel_restoring.nd rfl (.inl rfl) (pe_revL (pv 4))))
          pss_nil)
        (pss_one (ps_expr (pe_bm PySem.F.plainAttrs_list PySem.F.slot_list_extend PySem.F.type_list_extend mt_extend (pv 1) (pa_cons (pe_lc (own := [("number", 5)]) (g := gName 5) (tt := tYes) rfl sc_Wheel_restoring.nd (pi_list (pv 4)) (blkOk_by (own := [("number", 5)]) (N := N_Wheel_restoring) (sc := defScope s_Wheel_restoring) (by decide +kernel)) (fun _ _ _ _ _ => (pg_name (i := 5) sc_Wheel_restoring.nd rfl (.inl rfl))) (fun _ _ _ _ _ => pts_nil) (fun _ _ _ _ _ => (pe_tup (pa_cons (pv 5) (pa_cons (pe_ix (ix_tupK (K := K) rfl) (pe_dget hu (pe_fldK (K := K) rfl (pv 0) rfl) (pv 5) (fun _ _ => rfl)) pe_int (fun _ _ => rfl)) pa_nil))))) pa_nil))))))
      (pss_one (ps_ret (pv 1))))), ?_⟩
    have hd : ∀ m ∈ W.live, W.tick < m.due := fun m hm => (ok.tms m hm).due
    refine ⟨by simp [sizeLine_eq], fun r0 hr00 => ?_⟩
    have s0 := same_upd (o := .lst []) hr00
    have er0 := upd_same (H := H) (a := r0) (o := .lst [])
    generalize upd H r0 (.lst []) = H0 at s0 er0 ⊢
    have hw0 := hw.same s0
    obtain ⟨dx, hp⟩ := hw0.ins
    refine ⟨_, rfl, p, dx, _, rfl, hp, nm_lists, p, q, l, W, rfl, hw0, ok, fun H1 R tsR cs s1 hR0 eR hC hF hI => ?_⟩
    have hw1 := hw0.same s1
    obtain ⟨dx1, hp1⟩ := hw1.ins
    obtain ⟨kvs, hl1, L1⟩ := hw1.live
    have er1 := s1 _ _ er0
    have nR : R ≠ r0 := fun e => by
      rw [e, er0] at hR0
      cases hR0
    have hlen := hC.len
    have hfewl := ok.few
    refine ⟨R, rfl, ⟨_, SqL.of eR⟩, for_list (K := K) (a := R) (xs := tsR.map V.ref) (fun i σ H' => ∃ (ts : List Addr) (y2 y3 y4 : Option V), σ = [some (.ref p), some (.ref r0), y2, y3, y4, none] ∧ (∀ c o, c ≠ r0 → H1 c = some o → H' c = some o) ∧ H' r0 = some (.lst (ts.map V.ref)) ∧ PrAt H' ts ((toldT W.b W.ws W.tick W.live ((cs.take i).map (·.1))).map rowND)) ⟨[], none, none, none, rfl, fun _ _ _ e => e, er1, trivial⟩ (fun i σ H' _ ⟨_, _, _, _, _, k, _⟩ => SqL.of (k _ _ nR eR)) ?_ ?_⟩
    · rintro i x σ H' hx ⟨ts, y2, y3, y4, rfl, kp, er, hP⟩
      obtain ⟨t, cc, a, rfl, ht, hc, et, ea, ha0⟩ := crow_item hC hF hx
      have na : a ≠ r0 := fun e => by
        rw [e, er0] at ha0
        cases ha0
      have ntu : ∀ {c : Addr} {xs : List V}, H1 c = some (.tup xs) → c ≠ r0 := fun {c xs} e z => by
        rw [z, er1] at e
        cases e
      have et' := kp _ _ (ntu et) et
      have ea' := kp _ _ na ea
      have npr : p ≠ r0 := fun z => by
        rw [z, er1] at hp1
        cases hp1
      have nlr : l ≠ r0 := fun z => by
        rw [z, er1] at hl1
        cases hl1
      have nqr : q ≠ r0 := fun z => by
        have y := hw0.words
        rw [z, er0] at y
        have y2 := congrArg (fun o : Option HO => match o with | some (.lst xs) => xs.length | _ => 0) y
        simp at y2
        exact ok.ne (List.eq_nil_of_length_eq_zero y2.symm)
      have hp' := kp _ _ npr hp1
      have hq' := kp _ _ nqr hw1.words
      have hl' := kp _ _ nlr hl1
      have hcm := List.mem_of_getElem? hc
      have e2 := hI.at_ hd hcm
      have hlt := told_len hI hd (i + 1)
      rw [told_take hc, List.length_append, deq_len] at hlt
      have hPl := hP.len
      rw [List.length_map] at hPl
      refine ⟨t, _, rfl, .inl (.inl et'), rfl, _, _, rfl, _, _, rfl, _, _, rfl, rfl, ?_⟩
      -- the numbers, perhaps turned
      apply cut_at (I := fun (b2 : Addr) (H2 : Hp) => Same H' H2 ∧ H2 b2 = some (.lst (((deq (fun _ => wordAt W.ws cc.1.1) (stM W.b W.ws W.tick W.live cc.1)).map (·.num)).map fun x => V.int (x : Nat))))
      · intro fin
        refine ⟨_, rfl, p, C, dx1, _, _, rfl, hp', TW.cl, TW.nW, wf_w, _, rfl, q, W.ws, cc.1.1, rfl, SqL.of hq', ok.ne, ?_⟩
        cases hb : wordAt W.ws cc.1.1 with
        | true =>
          refine ⟨rfl, true, rfl, iteT ?_⟩
          refine ⟨_, rfl, a, _, rfl, SqL.of ea', fun b2 hb2 => ?_⟩
          refine fin b2 _ ⟨same_upd hb2, ?_⟩
          rw [upd_same, hb, deq_const, e2]
          show some (HO.lst (((stM W.b W.ws W.tick W.live cc.1).map (·.num)).map fun x => V.int (x : Nat)).reverse) = some (HO.lst (((stM W.b W.ws W.tick W.live cc.1).reverse.map (·.num)).map fun x => V.int (x : Nat)))
          rw [← List.map_reverse, ← List.map_reverse]
        | false =>
          refine ⟨rfl, false, rfl, iteF ?_⟩
          refine fin a H' ⟨fun _ _ e => e, ?_⟩
          rw [hb, deq_const, if_neg Bool.false_ne_true, ← e2]
          exact ea'
      · rintro b2 H2 ⟨s2, eb2⟩
        have eN : (deq (fun _ => wordAt W.ws cc.1.1) (stM W.b W.ws W.tick W.live cc.1)).map rowND = (deq (fun _ => wordAt W.ws cc.1.1) (stM W.b W.ws W.tick W.live cc.1)).map fun m => (m.num, m.due) := rfl
        obtain ⟨ml, eml⟩ : ∃ ml, ml = deq (fun _ => wordAt W.ws cc.1.1) (stM W.b W.ws W.tick W.live cc.1) := ⟨_, rfl⟩
        have hml : ∀ m ∈ ml, m ∈ W.live := fun m hm => by
          rw [eml] at hm
          exact (List.mem_filter.mp (mem_deq.mp (mem_deq.mp hm))).1
        have hmll : ml.length = (stM W.b W.ws W.tick W.live cc.1).length := by
          rw [eml, deq_len]
        rw [← eml] at eb2
        have er2 := s2 _ _ er
        have hp2 := s2 _ _ hp'
        have hl2 := s2 _ _ hl'
        have hP2 := hP.frame (H' := H2) fun t xs e => s2 _ _ e
        have L2' : LiveK H2 kvs W.live := L1.frame fun t m e => s2 _ _ (kp _ _ (ntu e) e)
        refine ⟨_, rfl, .inl ⟨rfl, _, SqL.of er2⟩, _, rfl, b2, rfl, ⟨_, SqL.of eb2⟩, fun D hD => lc_list (K := K) (a := b2) (xs := (ml.map (·.num)).map fun x => V.int (x : Nat)) (fun j H3 => Same H2 H3 ∧ ∃ us : List Addr, H3 D = some (.lst (us.map V.ref)) ∧ PrAt H3 us ((ml.take j).map rowND)) ⟨same_upd hD, [], upd_same, trivial⟩ (fun j H3 _ ⟨sm, _⟩ => SqL.of (sm _ _ eb2)) ?_ ?_⟩
        · rintro j v H3 hv ⟨sm, us, eD, hU⟩
          rw [List.getElem?_map, List.getElem?_map] at hv
          obtain ⟨m, hm, rfl⟩ : ∃ m, ml[j]? = some m ∧ v = V.int (m.num : Nat) := by
            cases e : ml[j]? with
            | none =>
              rw [e] at hv
              cases hv
            | some m =>
              rw [e] at hv
              exact ⟨m, rfl, (Option.some.inj hv).symm⟩
          obtain ⟨tt, hval, htt⟩ := L2'.val_of ok.nd (hml m (List.mem_of_getElem? hm))
          have hjl : j < ml.length := (List.getElem?_eq_some_iff.mp hm).1
          have hUl := hU.len
          rw [List.length_map, List.length_take] at hUl
          have hl3 := sm _ _ hl2
          have g := DGet.k (k := Sum.inl ((m.num : Nat) : Int)) hl3
          rw [hval] at g
          refine ⟨rfl, yesT (iteT ?_)⟩
          refine ⟨_, rfl, _, rfl, p, C, dx1, _, _, rfl, sm _ _ hp2, TW.cl, TW.nL, wf_l, _, rfl, l, .ref tt, rfl, g, tt, _, 0, _, rfl, rfl, .inl (.inl (sm _ _ htt)), atI_nat (j := 0) rfl, by simp [sizeLine_eq], fun u hu0 => ?_⟩
          have su := same_upd (o := .tup [.int (m.num : Nat), .int (m.due : Nat)]) hu0
          have eDu := su _ _ eD
          refine ⟨_, eDu, ?_, fun c o e => ?_, us ++ [u], ?_, ?_⟩
          · rw [List.length_map]
            exact sizeLine_ge (by omega)
          · rw [upd_ne (ne_of_none e hD)]
            exact su _ _ (sm _ _ e)
          · rw [upd_same, List.map_append]
            rfl
          · rw [List.take_add_one, hm, Option.toList_some, List.map_append]
            have kt : ∀ t' xs, H3 t' = some (.tup xs) → (upd (upd H3 u (.tup [.int (m.num : Nat), .int (m.due : Nat)])) D (.lst (us.map V.ref ++ [.ref u]))) t' = some (.tup xs) := fun t' xs e => by
              rw [upd_ne (ne_of (su _ _ e) eDu (by intro z; cases z))]
              exact su _ _ e
            refine (hU.frame kt).app (r := rowND m) ?_
            rw [upd_ne (ne_of upd_same eDu (by intro z; cases z))]
            exact upd_same
        · rintro H3 ⟨s3, us, eD, hU⟩
          rw [List.length_map, List.length_map, List.take_length] at hU
          have hUl := hU.len
          rw [List.length_map] at hUl
          have er3 := s3 _ _ er2
          refine ⟨r0, D, _, _, rfl, rfl, er3, eD, ?_, ?_⟩
          · rw [List.length_map, List.length_map]
            exact sizeLine_le (by omega)
          · refine ⟨ts ++ us, _, _, _, rfl, fun c o n e => ?_, ?_, ?_⟩
            · rw [upd_ne n]
              exact s3 _ _ (s2 _ _ (kp _ _ n e))
            · rw [upd_same, List.map_append]
            · rw [told_take hc, List.map_append, ← eml]
              have kt : ∀ t' xs, H3 t' = some (.tup xs) → (upd H3 r0 (.lst (ts.map V.ref ++ us.map V.ref))) t' = some (.tup xs) := fun t' xs e => by
                rw [upd_ne (ne_of e er3 (by intro z; cases z))]
                exact e
              exact ((hP2.frame (H' := H3) fun t xs e => s3 _ _ e).frame kt).cat (hU.frame kt)
    · rintro σ H' ⟨ts, y2, y3, y4, rfl, kp, er, hP⟩
      rw [List.length_map, hlen, List.take_length] at hP
      exact ⟨_, rfl, c H' r0 ts cs (fun c o e => kp c o (ne_of_none e hr00) (s1 _ _ (s0 _ _ e))) hr00 er hP hI⟩
end
/-! ### the law's drawing of numbers -/
def SrcAt (H : Hp) (p : Addr) : Prop := ∃ a b c : Int, H p = some (.lst [.int a, .int b, .int c])
/-- all but the source p stands as it was; p is a source again -/
structure Stp (p : Addr) (H H' : Hp) : Prop where
  keep : ∀ q o, q ≠ p → H q = some o → H' q = some o
  src : SrcAt H' p
theorem Stp.refl {p : Addr} {H : Hp} (h : SrcAt H p) : Stp p H H := ⟨fun _ _ _ e => e, h⟩
theorem Stp.trans {p : Addr} {H H1 H2 : Hp} (a : Stp p H H1) (b : Stp p H1 H2) : Stp p H H2 := ⟨fun q o n e => b.keep q o n (a.keep q o n e), b.src⟩
theorem Stp.same {p : Addr} {H H1 H2 : Hp} (a : Stp p H H1) (b : Same H1 H2) : Stp p H H2 := by
  obtain ⟨x, y, z, e⟩ := a.src
  exact ⟨fun q o n e => b q o (a.keep q o n e), ⟨x, y, z, b _ _ e⟩⟩
theorem SrcAt.same {p : Addr} {H H' : Hp} (h : SrcAt H p) (s : Same H H') : SrcAt H' p := by
  obtain ⟨a, b, c, e⟩ := h
  exact ⟨a, b, c, s _ _ e⟩
theorem Stp.free {p q : Addr} {H H' : Hp} (a : Stp p H H') (hq : H' q = none) : H q = none := by
  cases e : H q with
  | none => rfl
  | some o =>
    by_cases z : q = p
    · obtain ⟨x, y, u, w⟩ := a.src
      rw [z, w] at hq
      cases hq
    · rw [a.keep q o z e] at hq
      cases hq
theorem SrcAt.ne {H : Hp} {p l : Addr} (h : SrcAt H p) (hl : H l = none) : l ≠ p := fun e => by
  obtain ⟨x, y, z, w⟩ := h
  rw [e, w] at hl
  cases hl
theorem SrcAt.stp_same {p : Addr} {H H' : Hp} (h : SrcAt H p) (s : Same H H') : Stp p H H' := (Stp.refl h).same s
theorem Stp.seqL {K : PySem.W.Frag} {p a : Addr} {xs : List V} {H H' : Hp} (s : Stp p H H') (n : a ≠ p) (h : SqL K H a xs) : SqL K H' a xs := by
  rcases h with (h | ⟨o, h⟩) | h
  · exact .inl (.inl (s.keep _ _ n h))
  · exact .inl (.inr ⟨o, s.keep _ _ n h⟩)
  · exact .inr h
section
variable {P : Program} {w : World} {K : PySem.W.Frag} {mg : Str → Option Value} {base : Heap}
def spCellAt (K : PySem.W.Frag) : Sp := fun vs H Q _ => ∃ (a : Addr) (ns : List Int) (k : Nat), vs = [.ref a, .int (k : Nat)] ∧ SqL K H a (ns.map V.int) ∧ ∀ v : Int, Q (.int v) H
theorem ok_cell_at {f : Addr} {fd : FuncData} (F : Fun K "_law_cell_at" "_law_cell_at" s__law_cell_at f fd) (T : Tx K mg) : FnOk P w K mg base CX0 1 f fd ["_law_script", "_law_k"] (spCellAt K) := by
  refine F.ok sc__law_cell_at (fun vs H Q E h => ?_) (fun cdv A outer s H vs Q E hr h => ?_)
  · obtain ⟨a, ns, k, rfl, _⟩ := h
    rfl
  · obtain ⟨a, ns, k, rfl, hS, q⟩ := h
    refine ⟨_, (pss_cons (ps_if (pt_cmpR op_lt (pv 1) (pe_callB (lenK (K := K) rfl) (by rfl) T.b_len PySem.boot_len (pa_cons (pv 0) pa_nil)) (nomark _))
        (pss_one (ps_ret (pe_ix (ix_listK (K := K) rfl) (pv 0) (pv 1) (fun _ _ => rfl))))
        pss_nil)
      (pss_one (ps_ret pe_int))), ?_⟩
    refine ⟨_, rfl, .ref a, rfl, a, ns.map V.int, rfl, .inl hS, _, _, rfl, rfl, _, rfl, ite2 (fun e => ?_) (fun e => ?_)⟩
    · have hk : k < ns.length := by
        have z := of_decide_eq_true e
        rw [List.length_map] at z
        omega
      have g : (ns.map V.int)[k]? = some (.int ns[k]) := by
        rw [List.getElem?_map, List.getElem?_eq_getElem hk]
        rfl
      exact ⟨.ref a, rfl, _, rfl, a, _, _, _, rfl, rfl, hS, atI_nat g, q _⟩
    · exact q 0
def spMixed : Sp := fun vs H Q _ => ∃ c k : Int, vs = [.int c, .int k] ∧ ∀ r : Int, 0 ≤ r → r < 2147483563 → Q (.int r) H
theorem ok_mixed {f : Addr} {fd : FuncData} (F : Fun K "_law_mixed" "_law_mixed" s__law_mixed f fd) : FnOk P w K mg base CX0 1 f fd ["_law_cell", "_law_k"] spMixed := by
  refine F.ok sc__law_mixed (fun vs H Q E h => ?_) (fun cdv A outer s H vs Q E hr h => ?_)
  · obtain ⟨c, k, rfl, _⟩ := h
    rfl
  · obtain ⟨c, k, rfl, q⟩ := h
    refine ⟨_, (pss_cons (ps_set (i := 2) sc__law_mixed.nd rfl (.inl rfl) (pe_op op_add (pe_op op_mod (pv 0) pe_int) (pe_op op_mulA (pe_op op_fdivW (pv 0) pe_int) pe_int)))
      (pss_cons (ps_set (i := 2) sc__law_mixed.nd rfl (.inl rfl) (pe_op op_mod (pe_op op_mulA (pe_op op_add (pe_op op_add (pv 2) (pe_op op_mulA pe_int (pv 1))) pe_int) pe_int) pe_int))
      (pss_cons (ps_set (i := 2) sc__law_mixed.nd rfl (.inl rfl) (pe_op op_mod (pe_op op_mulA (pv 2) (pe_op op_add (pe_op op_add (pe_op op_fdivW (pv 2) pe_int) pe_int) (pv 1))) pe_int))
      (pss_one (ps_ret (pe_op op_mod (pe_op op_mulA (pv 2) (pe_op op_add (pe_op op_fdivW (pv 2) pe_int) pe_int)) pe_int)))))), ?_⟩
    refine ⟨_, rfl, c, 2147483629, rfl, rfl, (by decide : (0 : Int) < 2147483629), _, rfl, c, 2147483629, rfl, rfl, div_s (by decide) (by decide), _, 30011, rfl, rfl, mul_r (by decide) (by decide), _, _, rfl, rfl, ?_⟩
    refine ⟨_, rfl, _, rfl, 69621, k, rfl, rfl, mul_l (by decide) (by decide), _, _, rfl, rfl, _, 1, rfl, rfl, _, 48271, rfl, rfl, mul_r (by decide) (by decide), _, 2147483629, rfl, rfl, (by decide : (0 : Int) < 2147483629), ?_⟩
    generalize hl : (c % 2147483629 + c / 2147483629 * 30011 + 69621 * k + 1) * 48271 = l0
    have b1 : 0 ≤ l0 % 2147483629 := Int.emod_nonneg _ (by decide)
    have b2 : l0 % 2147483629 < 2147483629 := Int.emod_lt_of_pos _ (by decide)
    refine ⟨_, rfl, _, rfl, l0 % 2147483629, 907, rfl, rfl, div_s (by decide) (by decide), _, 16831, rfl, rfl, _, rfl, _, k, rfl, rfl, l0 % 2147483629, _, rfl, rfl, mul_l (by omega) (by omega), _, 2147483587, rfl, rfl, (by decide : (0 : Int) < 2147483587), ?_⟩
    generalize (l0 % 2147483629) * (l0 % 2147483629 / 907 + 16831 + k) = l1
    have b3 : 0 ≤ l1 % 2147483587 := Int.emod_nonneg _ (by decide)
    have b4 : l1 % 2147483587 < 2147483587 := Int.emod_lt_of_pos _ (by decide)
    refine ⟨_, rfl, _, rfl, _, 1201, rfl, rfl, div_s (by decide) (by decide), _, 30011, rfl, rfl, _, _, rfl, rfl, mul_l (i := l1 % 2147483587) (by omega) (by omega), _, 2147483563, rfl, rfl, (by decide : (0 : Int) < 2147483563), ?_⟩
    exact q _ (Int.emod_nonneg _ (by decide)) (Int.emod_lt_of_pos _ (by decide))
def spSource (K : PySem.W.Frag) : Sp := fun vs H Q _ => ∃ (a : Addr) (ns : List Int) (k : Nat), vs = [.ref a, .int (k : Nat)] ∧ SqL K H a (ns.map V.int) ∧ ∀ H' p, Same H H' → H p = none → SrcAt H' p → Q (.ref p) H'
theorem ok_source {f : Addr} {fd : FuncData} (F : Fun K "_law_source" "_law_source" s__law_source f fd) (T : Tx K mg) (h1 : Has P w K mg base 1 "_law_cell_at" ["_law_script", "_law_k"] [] (spCellAt K))
    (h2 : Has P w K mg base 1 "_law_mixed" ["_law_cell", "_law_k"] [] spMixed) : FnOk P w K mg base CX0 2 f fd ["_law_script", "_law_k"] (spSource K) := by
  obtain ⟨f__law_cell_at, fd__law_cell_at, ds__law_cell_at, G__law_cell_at, m__law_cell_at, k__law_cell_at, b__law_cell_at, v__law_cell_at⟩ := h1
  obtain ⟨f__law_mixed, fd__law_mixed, ds__law_mixed, G__law_mixed, m__law_mixed, k__law_mixed, b__law_mixed, v__law_mixed⟩ := h2
  refine F.ok sc__law_source (fun vs H Q E h => ?_) (fun cdv A outer s H vs Q E hr h => ?_)
  · obtain ⟨a, ns, k, rfl, _⟩ := h
    rfl
  · obtain ⟨a, ns, k, rfl, hS, q⟩ := h
    refine ⟨_, (pss_cons (ps_if (pt_cmpR op_lt (pv 1) (pe_callB (lenK (K := K) rfl) (by rfl) T.b_len PySem.boot_len (pa_cons (pv 0) pa_nil)) (nomark _))
        (pss_one (ps_ret (pe_lst (pa_cons (pe_ix (ix_listK (K := K) rfl) (pv 0) (pv 1) (fun _ _ => rfl)) (pa_cons (pe_ix (ix_listK (K := K) rfl) (pv 0) (pv 1) (fun _ _ => rfl)) (pa_cons pe_int pa_nil))))))
        pss_nil)
      (pss_cons (ps_set (i := 2) sc__law_source.nd rfl (.inl rfl) (pe_call G__law_mixed hr (by rfl) m__law_mixed k__law_mixed b__law_mixed v__law_mixed pass0 (pa_cons (pe_call G__law_cell_at hr (by rfl) m__law_cell_at k__law_cell_at b__law_cell_at v__law_cell_at pass0 (pa_cons (pv 0) (pa_cons pe_int pa_nil))) (pa_cons (pe_op op_add pe_int (pv 1)) pa_nil))))
      (pss_one (ps_ret (pe_lst (pa_cons (pv 2) (pa_cons (pv 2) (pa_cons pe_int pa_nil)))))))), ?_⟩
    refine ⟨_, rfl, .ref a, rfl, a, ns.map V.int, rfl, .inl hS, _, _, rfl, rfl, _, rfl, ite2 (fun e => ?_) (fun e => ?_)⟩
    · have hk : k < ns.length := by
        have z := of_decide_eq_true e
        rw [List.length_map] at z
        omega
      have g : (ns.map V.int)[k]? = some (.int ns[k]) := by
        rw [List.getElem?_map, List.getElem?_eq_getElem hk]
        rfl
      refine ⟨.ref a, rfl, _, rfl, a, _, _, _, rfl, rfl, hS, atI_nat g, .ref a, rfl, _, rfl, a, _, _, _, rfl, rfl, hS, atI_nat g, by simp [sizeLine_eq], fun p hp => ?_⟩
      exact q _ p (same_upd hp) hp ⟨_, _, _, upd_same⟩
    · refine ⟨.ref a, rfl, a, ns, 0, rfl, hS, fun v => ⟨_, rfl, 1000, _, rfl, rfl, v, _, rfl, fun r _ _ => ?_⟩⟩
      refine ⟨_, rfl, _, rfl, by simp [sizeLine_eq], fun p hp => ?_⟩
      exact q _ p (same_upd hp) hp ⟨_, _, _, upd_same⟩
def spNext : Sp := fun vs H Q _ => ∃ (p : Addr) (m : Int), vs = [.ref p, .int m] ∧ 0 < m ∧ m < 2 ^ 300 ∧ SrcAt H p ∧ ∀ (r : Nat) H', (r : Int) < m → Stp p H H' → Q (.int (r : Nat)) H'
theorem ok_next {f : Addr} {fd : FuncData} (F : Fun K "_law_next" "_law_next" s__law_next f fd) (h2 : Has P w K mg base 1 "_law_mixed" ["_law_cell", "_law_k"] [] spMixed) : FnOk P w K mg base CX0 2 f fd ["_law_source_here", "_law_many"] spNext := by
  obtain ⟨f__law_mixed, fd__law_mixed, ds__law_mixed, G__law_mixed, m__law_mixed, k__law_mixed, b__law_mixed, v__law_mixed⟩ := h2
  refine F.ok sc__law_next (fun vs H Q E h => ?_) (fun cdv A outer s H vs Q E hr h => ?_)
  · obtain ⟨p, m, rfl, _⟩ := h
    rfl
  · obtain ⟨p, m, rfl, hm, hm2, ⟨a, b, c, hp⟩, q⟩ := h
    have fin : ∀ (x : Int) (H' : Hp), Stp p H H' → Q (.int (x % m)) H' := fun x H' s => by
      have h0 : 0 ≤ x % m := Int.emod_nonneg _ (by omega)
      have h1 : x % m < m := Int.emod_lt_of_pos _ hm
      have e : ((x % m).toNat : Int) = x % m := Int.toNat_of_nonneg h0
      have z := q (x % m).toNat H' (by omega) s
      rw [e] at z
      exact z
    have st : ∀ x y z : Int, Stp p H (upd H p (.lst [.int x, .int y, .int z])) := fun x y z => ⟨fun q o n e => by rw [upd_ne n]; exact e, ⟨x, y, z, upd_same⟩⟩
    refine ⟨_, (pss_cons (ps_if (pt_cmpR op_ge (pe_ix (ix_listK (K := K) rfl) (pv 0) pe_int (fun _ _ => rfl)) (pe_op op_pow pe_int pe_int) (nomark _))
        (pss_cons (ps_set (i := 2) sc__law_next.nd rfl (.inl rfl) (pe_op op_mod (pe_ix (ix_listK (K := K) rfl) (pv 0) pe_int (fun _ _ => rfl)) (pv 1)))
        (pss_cons (ps_asg (pe_op op_fdivW (pe_ix (ix_listK (K := K) rfl) (pv 0) pe_int (fun _ _ => rfl)) (pv 1)) (pg_sub (pv 0) pe_int set_list))
        (pss_one (ps_ret (pv 2)))))
        pss_nil)
      (pss_cons (ps_asg (pe_op op_add (pe_ix (ix_listK (K := K) rfl) (pv 0) pe_int (fun _ _ => rfl)) pe_int) (pg_sub (pv 0) pe_int set_list))
      (pss_one (ps_ret (pe_op op_mod (pe_call G__law_mixed hr (by rfl) m__law_mixed k__law_mixed b__law_mixed v__law_mixed pass0 (pa_cons (pe_ix (ix_listK (K := K) rfl) (pv 0) pe_int (fun _ _ => rfl)) (pa_cons (pe_ix (ix_listK (K := K) rfl) (pv 0) pe_int (fun _ _ => rfl)) pa_nil))) (pv 1)))))), ?_⟩
    refine ⟨.ref p, rfl, p, _, 0, .int a, rfl, rfl, SqL.of hp, atI_nat (j := 0) rfl, 10, 18, rfl, rfl, ⟨by decide, by decide, by decide⟩, a, _, rfl, rfl, _, rfl, ite2 (fun _ => ?_) (fun _ => ?_)⟩
    · refine ⟨.ref p, rfl, p, _, 0, .int a, rfl, rfl, SqL.of hp, atI_nat (j := 0) rfl, .int m, rfl, a, m, rfl, rfl, hm, ?_⟩
      refine ⟨.ref p, rfl, p, _, 0, .int a, rfl, rfl, SqL.of hp, atI_nat (j := 0) rfl, .int m, rfl, a, m, rfl, rfl, div_s hm hm2, ?_⟩
      refine ⟨.ref p, rfl, p, _, 0, 0, rfl, rfl, hp, rfl, ?_⟩
      exact ⟨_, rfl, fin a _ (st _ _ _)⟩
    · refine ⟨.ref p, rfl, p, _, 2, .int c, rfl, rfl, SqL.of hp, atI_nat (j := 2) rfl, c, 1, rfl, rfl, ?_⟩
      refine ⟨.ref p, rfl, p, _, 2, 2, rfl, rfl, hp, rfl, ?_⟩
      have h2 : (upd H p (.lst [.int a, .int b, .int (c + 1)])) p = some (.lst [.int a, .int b, .int (c + 1)]) := upd_same
      refine ⟨.ref p, rfl, p, _, 1, .int b, rfl, rfl, SqL.of h2, atI_nat (j := 1) rfl, .ref p, rfl, p, _, 2, .int (c + 1), rfl, rfl, SqL.of h2, atI_nat (j := 2) rfl, b, c + 1, rfl, fun r _ _ => ?_⟩
      exact ⟨.int m, rfl, r, m, rfl, rfl, hm, fin r _ (st _ _ _)⟩
end
/-! ### the law's bases -/
section
variable {P : Program} {w : World} {K : PySem.W.Frag} {mg : Str → Option Value} {base : Heap}
def spBase : Sp := fun vs H Q _ => ∃ (p : Addr), vs = [.ref p] ∧ SrcAt H p ∧ ∀ (b : Nat) H', 2 ≤ b → b ≤ 64 → Stp p H H' → Q (.int (b : Nat)) H'
theorem ok_base {f : Addr} {fd : FuncData} (F : Fun K "_law_base" "_law_base" s__law_base f fd) (h1 : Has P w K mg base 2 "_law_next" ["_law_source_here", "_law_many"] [] spNext) : FnOk P w K mg base CX0 3 f fd ["_law_source_here"] spBase := by
  obtain ⟨f__law_next, fd__law_next, ds__law_next, G__law_next, m__law_next, k__law_next, b__law_next, v__law_next⟩ := h1
  refine F.ok sc__law_base (fun vs H Q E h => ?_) (fun cdv A outer s H vs Q E hr h => ?_)
  · obtain ⟨p, rfl, _⟩ := h
    rfl
  · obtain ⟨p, rfl, hs, q⟩ := h
    refine ⟨_, (pss_one (ps_ret (pe_ix (ix_listK (K := K) rfl) (pe_lst (pa_cons pe_int (pa_cons pe_int (pa_cons pe_int (pa_cons pe_int (pa_cons pe_int (pa_cons pe_int (pa_cons pe_int (pa_cons pe_int (pa_cons pe_int pa_nil)))))))))) (pe_call G__law_next hr (by rfl) m__law_next k__law_next b__law_next v__law_next pass0 (pa_cons (pv 0) (pa_cons pe_int pa_nil))) (fun _ _ => rfl)))), ?_⟩
    refine ⟨by simp [sizeLine_eq], fun l hl => ?_⟩
    have s1 := same_upd (o := .lst [.int 2, .int 3, .int 4, .int 5, .int 7, .int 10, .int 16, .int 63, .int 64]) hl
    have nlp : l ≠ p := fun e => by
      obtain ⟨x, y, z, h⟩ := hs
      rw [e, h] at hl
      cases hl
    refine ⟨_, rfl, p, 9, rfl, by decide, by decide, hs.same s1, fun r H' hr9 st => ?_⟩
    have eL := st.keep _ _ nlp upd_same
    have hst : Stp p H H' := (hs.stp_same s1).trans st
    have hr : r < 9 := by omega
    have all : ∀ j : Nat, j < 9 → ∃ b : Nat, ([.int 2, .int 3, .int 4, .int 5, .int 7, .int 10, .int 16, .int 63, .int 64] : List V)[j]? = some (.int (b : Nat)) ∧ 2 ≤ b ∧ b ≤ 64 := by
      intro j hj
      match j, hj with
      | 0, _ => exact ⟨2, rfl, by decide, by decide⟩
      | 1, _ => exact ⟨3, rfl, by decide, by decide⟩
      | 2, _ => exact ⟨4, rfl, by decide, by decide⟩
      | 3, _ => exact ⟨5, rfl, by decide, by decide⟩
      | 4, _ => exact ⟨7, rfl, by decide, by decide⟩
      | 5, _ => exact ⟨10, rfl, by decide, by decide⟩
      | 6, _ => exact ⟨16, rfl, by decide, by decide⟩
      | 7, _ => exact ⟨63, rfl, by decide, by decide⟩
      | 8, _ => exact ⟨64, rfl, by decide, by decide⟩
      | j + 9, h => omega
    obtain ⟨b, eb, b2, b64⟩ := all r hr
    exact ⟨l, _, r, .int (b : Nat), rfl, rfl, SqL.of eL, atI_nat eb, q b H' b2 b64 hst⟩
end
/-! ### the law's ticks -/
theorem emod_le_self {a m : Int} (h : 0 ≤ a) (hm : 0 < m) : a % m ≤ a := by
  have e := Int.emod_add_mul_ediv a m
  have z : 0 ≤ m * (a / m) := Int.mul_nonneg (Int.le_of_lt hm) (Int.ediv_nonneg h (Int.le_of_lt hm))
  omega
theorem pow64_le {b j : Nat} (h : b ≤ 64) (hj : j ≤ 30) : b ^ j < 2 ^ 181 := by
  have h1 : b ^ j ≤ 64 ^ j := Nat.pow_le_pow_left h j
  have h2 : (64 : Nat) ^ j ≤ 64 ^ 30 := Nat.pow_le_pow_right (by decide) hj
  have h3 : (64 : Nat) ^ 30 < 2 ^ 181 := by decide
  omega
section
variable {P : Program} {w : World} {K : PySem.W.Frag} {mg : Str → Option Value} {base : Heap}
/-- a pick of a list of two, by a number less than 2 -/
theorem pick2 {x y : V} {r : Nat} (h : r < 2) : ([x, y] : List V)[r]? = some (if r = 0 then x else y) := by
  match r, h with
  | 0, _ => rfl
  | 1, _ => rfl
  | r + 2, h => omega
def spTick : Sp := fun vs H Q _ => ∃ (p : Addr) (b : Nat), vs = [.ref p, .int (b : Nat)] ∧ 2 ≤ b ∧ b ≤ 64 ∧ SrcAt H p ∧ ∀ (t : Nat) H', t < 2 ^ 190 → Stp p H H' → Q (.int (t : Nat)) H'
theorem ok_tick {f : Addr} {fd : FuncData} (F : Fun K "_law_tick" "_law_tick" s__law_tick f fd) (T : Tx K mg) (h1 : Has P w K mg base 2 "_law_next" ["_law_source_here", "_law_many"] [] spNext) : FnOk P w K mg base CX0 3 f fd ["_law_source_here", "_law_base_here"] spTick := by
  obtain ⟨f__law_next, fd__law_next, ds__law_next, G__law_next, m__law_next, k__law_next, b__law_next, v__law_next⟩ := h1
  refine F.ok sc__law_tick (fun vs H Q E h => ?_) (fun cdv A outer s H vs Q E hr h => ?_)
  · obtain ⟨p, b, rfl, _⟩ := h
    rfl
  · obtain ⟨p, b, rfl, hb2, hb64, hs, q⟩ := h
    have two : ∀ {H : Hp} {l : Addr} {o : HO}, SrcAt H p → H l = none → Stp p H (upd H l o) ∧ l ≠ p := fun {H l o} hs hl =>
      ⟨hs.stp_same (same_upd hl), fun e => by
        obtain ⟨x, y, z, h⟩ := hs
        rw [e, h] at hl
        cases hl⟩
    refine ⟨_, (pss_cons (ps_set (i := 2) sc__law_tick.nd rfl (.inl rfl) (pe_call G__law_next hr (by rfl) m__law_next k__law_next b__law_next v__law_next pass0 (pa_cons (pv 0) (pa_cons pe_int pa_nil))))
      (pss_cons (ps_if (pt_cmpR op_lt (pv 2) pe_int (nomark _))
        (pss_one (ps_ret (pe_call G__law_next hr (by rfl) m__law_next k__law_next b__law_next v__law_next pass0 (pa_cons (pv 0) (pa_cons (pe_ix (ix_listK (K := K) rfl) (pe_lst (pa_cons pe_int (pa_cons pe_int pa_nil))) (pv 2) (fun _ _ => rfl)) pa_nil)))))
        pss_nil)
      (pss_cons (ps_set (i := 3) sc__law_tick.nd rfl (.inl rfl) pe_int)
      (pss_cons (ps_for PassesOwn.never rfl (pi_range1 (by rfl) T.b_range (pa_cons (pe_call G__law_next hr (by rfl) m__law_next k__law_next b__law_next v__law_next pass0 (pa_cons (pv 0) (pa_cons (pe_ix (ix_listK (K := K) rfl) (pe_lst (pa_cons pe_int (pa_cons pe_int pa_nil))) (pe_call G__law_next hr (by rfl) m__law_next k__law_next b__law_next v__law_next pass0 (pa_cons (pv 0) (pa_cons pe_int pa_nil))) (fun _ _ => rfl)) pa_nil))) pa_nil)) (pg_name (i := 4) sc__law_tick.nd rfl (.inl rfl))
        (pss_one (ps_set (i := 3) sc__law_tick.nd rfl (.inl rfl) (pe_op op_mulA (pv 3) (pv 1)))))
      (pss_cons (ps_set (i := 3) sc__law_tick.nd rfl (.inl rfl) (pe_op op_mod (pv 3) (pe_op op_pow pe_int pe_int)))
      (pss_cons (ps_if (pt_cmpR op_eq (pv 2) pe_int (nomark _))
        (pss_one (ps_ret (pe_callB (call_max2 rfl) (by rfl) T.b_max (by decide +kernel) (pa_cons pe_int (pa_cons (pe_op op_sub (pe_op op_add (pv 3) (pe_call G__law_next hr (by rfl) m__law_next k__law_next b__law_next v__law_next pass0 (pa_cons (pv 0) (pa_cons pe_int pa_nil)))) pe_int) pa_nil)))))
        pss_nil)
      (pss_cons (ps_if (pt_cmpR op_eq (pv 2) pe_int (nomark _))
        (pss_one (ps_ret (pe_op op_add (pe_op op_mulA (pv 3) (pe_op op_add pe_int (pe_call G__law_next hr (by rfl) m__law_next k__law_next b__law_next v__law_next pass0 (pa_cons (pv 0) (pa_cons (pv 1) pa_nil))))) (pe_call G__law_next hr (by rfl) m__law_next k__law_next b__law_next v__law_next pass0 (pa_cons (pv 0) (pa_cons (pv 1) pa_nil))))))
        pss_nil)
      (pss_one (ps_ret (pe_op op_add (pe_op op_mulA (pe_call G__law_next hr (by rfl) m__law_next k__law_next b__law_next v__law_next pass0 (pa_cons (pv 0) (pa_cons (pe_op op_pow pe_int pe_int) pa_nil))) (pe_op op_pow pe_int pe_int)) (pe_call G__law_next hr (by rfl) m__law_next k__law_next b__law_next v__law_next pass0 (pa_cons (pv 0) (pa_cons (pe_op op_pow pe_int pe_int) pa_nil))))))))))))), ?_⟩
    -- sort = next(source, 5)
    refine ⟨_, rfl, p, 5, rfl, by decide, by decide, hs, fun r0 H1 hr0 s1 => ?_⟩
    refine ⟨_, rfl, _, 2, rfl, rfl, _, rfl, ite2 (fun e => ?_) (fun e0 => ?_)⟩
    · -- near ones
      have hr2 : r0 < 2 := by
        have z := of_decide_eq_true e
        omega
      refine ⟨_, rfl, by simp [sizeLine_eq], fun l hl => ?_⟩
      obtain ⟨s2, nl⟩ := two (o := .lst [.int 6, .int 400]) s1.src hl
      refine ⟨_, rfl, l, _, r0, _, rfl, rfl, SqL.of upd_same, atI_nat (pick2 hr2), p, if r0 = 0 then 6 else 400, ?_, ?_, ?_, s2.src, fun r H2 hr s3 => ?_⟩
      · show [V.ref p, if r0 = 0 then V.int 6 else V.int 400] = _
        split <;> rfl
      · split <;> decide
      · split <;> decide
      · refine q r H2 ?_ ((s1.trans s2).trans s3)
        have z : r < 400 := by
          split at hr <;> omega
        exact Nat.lt_trans z (by decide)
    · -- size = 1; for at in range(next(..)): size = size * base
      refine ⟨_, rfl, by simp [sizeLine_eq], fun l hl => ?_⟩
      obtain ⟨s2, nl⟩ := two (o := .lst [.int 4, .int 30]) s1.src hl
      refine ⟨_, rfl, p, 2, rfl, by decide, by decide, s2.src, fun r1 H2 hr1 s3 => ?_⟩
      have eL : H2 l = some (.lst [.int 4, .int 30]) := s3.keep _ _ nl upd_same
      refine ⟨l, _, r1, _, rfl, rfl, SqL.of eL, atI_nat (pick2 (by omega)), p, if r1 = 0 then 4 else 30, ?_, ?_, ?_, s3.src, fun r2 H3 hr2 s4 => ?_⟩
      · show [V.ref p, if r1 = 0 then V.int 4 else V.int 30] = _
        split <;> rfl
      · split <;> decide
      · split <;> decide
      have hr30 : r2 < 30 := by
        split at hr2 <;> omega
      have s14 := ((s1.trans s2).trans s3).trans s4
      refine ⟨_, rfl, by omega, by omega, for_range (Pv := fun i σ H' => H' = H3 ∧ ∃ y, σ = [some (.ref p), some (.int (b : Nat)), some (.int (r0 : Nat)), some (.int ((b ^ i : Nat) : Int)), y]) ⟨rfl, none, rfl⟩ ?_ ?_⟩
      · rintro i σ H' hi ⟨rfl, y, rfl⟩
        have hi30 : i < 30 := by omega
        have hb : b ^ i < 2 ^ 181 := pow64_le hb64 (by omega)
        refine ⟨_, rfl, _, rfl, _, _, rfl, rfl, mul_r (by omega) (by omega), ?_⟩
        refine ⟨rfl, some (.int (0 + (i : Int))), ?_⟩
        rw [Nat.pow_succ, Int.natCast_mul]
        rfl
      · rintro σ H' ⟨rfl, y, rfl⟩
        have h58 : (0 : Int) < (10 : Int) ^ (58 : Int).toNat := by decide
        refine ⟨_, rfl, 10, 58, rfl, rfl, ⟨by decide, by decide, by decide⟩, _, _, rfl, rfl, h58, ?_⟩
        generalize hz : (((b ^ ((r2 : Nat) : Int).toNat : Nat) : Int) % (10 : Int) ^ (58 : Int).toNat) = z
        have z0 : 0 ≤ z := by
          rw [← hz]
          exact Int.emod_nonneg _ (by decide)
        have z1 : z < 2 ^ 181 := by
          rw [← hz]
          refine Int.lt_of_le_of_lt (emod_le_self (by omega) (by decide)) ?_
          have := pow64_le (j := ((r2 : Nat) : Int).toNat) hb64 (by omega)
          omega
        -- sort == 2
        refine ⟨_, rfl, rfl, _, rfl, ite2 (fun _ => ?_) (fun _ => ?_)⟩
        · refine ⟨_, rfl, _, rfl, p, 3, rfl, by decide, by decide, s14.src, fun r3 H4 hr3 s5 => ?_⟩
          refine ⟨z, r3, congrArg V.int hz, rfl, _, 1, rfl, rfl, 0, _, rfl, ?_⟩
          have e3 : (if z + (r3 : Int) - 1 > 0 then z + (r3 : Int) - 1 else 0) = (((if z + (r3 : Int) - 1 > 0 then z + (r3 : Int) - 1 else 0).toNat : Nat) : Int) := by
            split <;> omega
          show Q (.int (if z + (r3 : Int) - 1 > 0 then z + (r3 : Int) - 1 else 0)) H4
          rw [e3]
          refine q _ H4 ?_ (s14.trans s5)
          split <;> omega
        · refine ⟨_, rfl, rfl, _, rfl, ite2 (fun _ => ?_) (fun _ => ?_)⟩
          · refine ⟨_, rfl, _, rfl, _, rfl, p, b, rfl, by omega, by omega, s14.src, fun r3 H4 hr3 s5 => ?_⟩
            refine ⟨1, r3, rfl, rfl, z, _, congrArg V.int hz, rfl, mul_r (by omega) (by omega), _, rfl, _, rfl, p, b, rfl, by omega, by omega, s5.src, fun r4 H5 hr4 s6 => ?_⟩
            refine ⟨_, _, rfl, rfl, ?_⟩
            have zr : z * (1 + (r3 : Int)) ≤ z * 65 := Int.mul_le_mul_of_nonneg_left (by omega) z0
            have zr0 : 0 ≤ z * (1 + (r3 : Int)) := Int.mul_nonneg z0 (by omega)
            have e3 : z * (1 + (r3 : Int)) + (r4 : Int) = (((z * (1 + (r3 : Int)) + (r4 : Int)).toNat : Nat) : Int) := by omega
            show Q (.int (z * (1 + (r3 : Int)) + (r4 : Int))) H5
            rw [e3]
            exact q _ H5 (by omega) ((s14.trans s5).trans s6)
          · refine ⟨_, rfl, 10, 9, rfl, rfl, ⟨by decide, by decide, by decide⟩, p, _, rfl, by decide, by decide, s14.src, fun r3 H4 hr3 s5 => ?_⟩
            have hr3' : r3 < 10 ^ 9 := by
              have q : (r3 : Int) < 10 ^ (9 : Int).toNat := hr3
              have e : (10 : Int) ^ (9 : Int).toNat = 1000000000 := by decide
              omega
            have e20 : (10 : Int) ^ (20 : Int).toNat = 100000000000000000000 := by decide
            refine ⟨10, 20, rfl, rfl, ⟨by decide, by decide, by decide⟩, _, _, rfl, rfl, mul_l (by omega) (by omega), _, rfl, 10, 6, rfl, rfl, ⟨by decide, by decide, by decide⟩, p, _, rfl, by decide, by decide, s5.src, fun r4 H5 hr4 s6 => ?_⟩
            have hr4' : r4 < 10 ^ 6 := by
              have q : (r4 : Int) < 10 ^ (6 : Int).toNat := hr4
              have e : (10 : Int) ^ (6 : Int).toNat = 1000000 := by decide
              omega
            refine ⟨_, _, rfl, rfl, ?_⟩
            show Q (.int ((r3 : Int) * (10 : Int) ^ (20 : Int).toNat + (r4 : Int))) H5
            rw [e20]
            have e3 : (r3 : Int) * 100000000000000000000 + (r4 : Int) = ((r3 * 100000000000000000000 + r4 : Nat) : Int) := by omega
            rw [e3]
            exact q _ H5 (by omega) ((s14.trans s5).trans s6)
end
section
variable {P : Program} {w : World} {K : PySem.W.Frag} {mg : Str → Option Value} {base : Heap}
theorem flat_rep {α : Type} (x : α) : ∀ n : Nat, (List.replicate n [x]).flatten = List.replicate n x
  | 0 => rfl
  | n + 1 => by
    rw [List.replicate_succ, List.flatten_cons, flat_rep x n, List.replicate_succ]
    rfl
theorem pick_lv {r : Nat} (h : r < 2) : ([.str "stack", .str "queue"] : List V)[r]? = some (lvV (decide (r = 0))) := by
  match r, h with
  | 0, _ => rfl
  | 1, _ => rfl
  | r + 2, h => omega
theorem pick_vl {r : Nat} (h : r < 2) : ([.str "queue", .str "stack"] : List V)[r]? = some (lvV (decide (r = 1))) := by
  match r, h with
  | 0, _ => rfl
  | 1, _ => rfl
  | r + 2, h => omega
def spLevels : Sp := fun vs H Q _ => ∃ (p : Addr), vs = [.ref p] ∧ SrcAt H p ∧ ∀ H' q (ws : List Bool), Stp p H H' → H q = none → H' q = some (.lst (ws.map lvV)) → ws ≠ [] → ws.length ≤ 60 → Q (.ref q) H'
theorem ok_levels {f : Addr} {fd : FuncData} (F : Fun K "_law_levels" "_law_levels" s__law_levels f fd) (T : Tx K mg) (h1 : Has P w K mg base 2 "_law_next" ["_law_source_here", "_law_many"] [] spNext) : FnOk P w K mg base CX0 3 f fd ["_law_source_here"] spLevels := by
  obtain ⟨f__law_next, fd__law_next, ds__law_next, G__law_next, m__law_next, k__law_next, b__law_next, v__law_next⟩ := h1
  refine F.ok sc__law_levels (fun vs H Q E h => ?_) (fun cdv A outer s H vs Q E hr h => ?_)
  · obtain ⟨p, rfl, _⟩ := h
    rfl
  · obtain ⟨p, rfl, hs, c⟩ := h
    refine ⟨_, (pss_cons (ps_set (i := 1) sc__law_levels.nd rfl (.inl rfl) (pe_ix (ix_listK (K := K) rfl) (pe_lst (pa_cons (pe_op op_add pe_int (pe_call G__law_next hr (by rfl) m__law_next k__law_next b__law_next v__law_next pass0 (pa_cons (pv 0) (pa_cons pe_int pa_nil)))) (pa_cons (pe_op op_add pe_int (pe_call G__law_next hr (by rfl) m__law_next k__law_next b__law_next v__law_next pass0 (pa_cons (pv 0) (pa_cons pe_int pa_nil)))) pa_nil))) (pe_callTy call_int1 (by rfl) T.b_int (by decide +kernel) (pa_cons (pe_cmpR op_eq (pe_call G__law_next hr (by rfl) m__law_next k__law_next b__law_next v__law_next pass0 (pa_cons (pv 0) (pa_cons pe_int pa_nil))) pe_int (nomark _)) pa_nil)) (fun _ _ => rfl)))
      (pss_cons (ps_set (i := 2) sc__law_levels.nd rfl (.inl rfl) (pe_call G__law_next hr (by rfl) m__law_next k__law_next b__law_next v__law_next pass0 (pa_cons (pv 0) (pa_cons pe_int pa_nil))))
      (pss_cons (ps_if (pt_cmpR op_lt (pv 2) pe_int (nomark _))
        (pss_one (ps_ret (pe_op op_rep (pe_lst (pa_cons (pe_ix (ix_listK (K := K) rfl) (pe_lst (pa_cons pe_str (pa_cons pe_str pa_nil))) (pv 2) (fun _ _ => rfl)) pa_nil)) (pv 1))))
        pss_nil)
      (pss_cons (ps_setLc (i := 3) (own := [("_law_at", 4)]) (g := gName 4) (tt := tYes) rfl sc__law_levels.nd rfl rfl (sw_true rfl rfl rfl (by decide +kernel)) (pi_range1 (by rfl) T.b_range (pa_cons (pv 1) pa_nil)) (blkOk_by (own := [("_law_at", 4)]) (N := N__law_levels) (sc := defScope s__law_levels) (by decide +kernel)) (fun _ _ _ _ _ => (pg_name (i := 4) sc__law_levels.nd rfl (.inl rfl))) (fun _ _ _ _ _ => pts_nil) (fun _ _ _ _ _ => (pe_ix (ix_listK (K := K) rfl) (pe_lst (pa_cons pe_str (pa_cons pe_str pa_nil))) (pe_call G__law_next hr (by rfl) m__law_next k__law_next b__law_next v__law_next pass0 (pa_cons (pv 0) (pa_cons pe_int pa_nil))) (fun _ _ => rfl))))
      (pss_cons (ps_if (pt_cmpR op_eq (pv 2) pe_int (nomark _))
        (pss_one (ps_setLc (i := 3) (own := [("_law_at", 4)]) (g := gName 4) (tt := tYes) rfl sc__law_levels.nd rfl rfl (sw_true rfl rfl rfl (by decide +kernel)) (pi_range1 (by rfl) T.b_range (pa_cons (pv 1) pa_nil)) (blkOk_by (own := [("_law_at", 4)]) (N := N__law_levels) (sc := defScope s__law_levels) (by decide +kernel)) (fun _ _ _ _ _ => (pg_name (i := 4) sc__law_levels.nd rfl (.inl rfl))) (fun _ _ _ _ _ => pts_nil) (fun _ _ _ _ _ => (pe_ix (ix_listK (K := K) rfl) (pe_lst (pa_cons pe_str (pa_cons pe_str pa_nil))) (pe_op op_mod (pv 4) pe_int) (fun _ _ => rfl)))))
        pss_nil)
      (pss_one (ps_ret (pv 3)))))))), ?_⟩
    -- many
    refine ⟨_, rfl, p, 6, rfl, by decide, by decide, hs, fun r1 H1 hr1 s1 => ⟨1, r1, rfl, rfl, _, rfl, p, 60, rfl, by decide, by decide, s1.src, fun r2 H2 hr2 s2 => ⟨1, r2, rfl, rfl, by simp [sizeLine_eq], fun l hl => ?_⟩⟩⟩
    have s3 : Stp p H2 (upd H2 l (.lst [.int (1 + (r1 : Int)), .int (1 + (r2 : Int))])) := s2.src.stp_same (same_upd hl)
    refine ⟨_, rfl, p, 5, rfl, by decide, by decide, s3.src, fun r3 H4 hr3 s4 => ⟨rfl, .inr ⟨_, rfl, ?_⟩⟩⟩
    have eL := s4.keep _ _ (s2.src.ne hl) upd_same
    obtain ⟨m, em, hm0, hm⟩ : ∃ m : Nat, ([.int (1 + (r1 : Int)), .int (1 + (r2 : Int))] : List V)[if decide (V.int (r3 : Nat) = V.int 4) = true then 1 else 0]? = some (.int (m : Nat)) ∧ 1 ≤ m ∧ m ≤ 60 := by
      split
      · exact ⟨1 + r2, rfl, by omega, by omega⟩
      · exact ⟨1 + r1, rfl, by omega, by omega⟩
    refine ⟨l, _, ((if decide (V.int (r3 : Nat) = V.int 4) = true then 1 else 0 : Nat) : Int), _, rfl, ?_, SqL.of eL, atI_nat em, ?_⟩
    · split <;> rfl
    have s04 := ((s1.trans s2).trans s3).trans s4
    -- sort
    refine ⟨_, rfl, p, 5, rfl, by decide, by decide, s4.src, fun r5 H5 hr5 s5 => ?_⟩
    have s05 := s04.trans s5
    refine ⟨_, rfl, _, 2, rfl, rfl, _, rfl, ite2 (fun e => ?_) (fun e0 => ?_)⟩
    · have hr2' : r5 < 2 := by
        have z := of_decide_eq_true e
        omega
      refine ⟨by simp [sizeLine_eq], fun l6 hl6 => ?_⟩
      refine ⟨_, rfl, l6, _, r5, _, rfl, rfl, SqL.of upd_same, atI_nat (pick_lv hr2'), by simp [sizeLine_eq], fun l7 hl7 => ?_⟩
      refine ⟨_, rfl, l7, (m : Nat), _, rfl, rfl, upd_same, by omega, by omega, ?_, fun q hq => ?_⟩
      · exact sizeLine_le (by show 1 * m ≤ 1000000; omega)
      · have s8 := ((s05.same (same_upd hl6)).same (same_upd hl7)).same (same_upd (o := .lst (List.replicate ((m : Nat) : Int).toNat [lvV (decide (r5 = 0))]).flatten) hq)
        refine c _ q (List.replicate m (decide (r5 = 0))) s8 ?_ ?_ ?_ ?_
        · exact ((s05.same (same_upd hl6)).same (same_upd hl7)).free hq
        · rw [upd_same, flat_rep, List.map_replicate]
          rfl
        · intro e
          have z := congrArg List.length e
          rw [List.length_replicate] at z
          exact absurd z (by show ¬ m = 0; omega)
        · rw [List.length_replicate]
          exact hm
    · -- drawn words
      refine ⟨_, rfl, m, rfl, by omega, by omega, fun D hD => lc_range (lo := 0) (n := ((m : Nat) : Int).toNat) (fun i H' => Stp p H5 H' ∧ ∃ ws : List Bool, ws.length = i ∧ H' D = some (.lst (ws.map lvV)))
        ⟨s5.src.stp_same (same_upd hD), [], rfl, upd_same⟩ ?_ ?_⟩
      · rintro i H' hi ⟨st, ws, hw, eD⟩
        have nDp : D ≠ p := s5.src.ne hD
        refine ⟨rfl, yesT (iteT ?_)⟩
        refine ⟨by simp [sizeLine_eq], fun l8 hl8 => ?_⟩
        have s8 : Stp p H' (upd H' l8 (.lst [.str "queue", .str "stack"])) := st.src.stp_same (same_upd hl8)
        refine ⟨_, rfl, p, 2, rfl, by decide, by decide, s8.src, fun r9 H9 hr9 s9 => ?_⟩
        have eL8 := s9.keep _ _ (st.src.ne hl8) upd_same
        have eD9 := s9.keep _ _ nDp (s8.keep _ _ nDp eD)
        refine ⟨l8, _, r9, _, rfl, rfl, SqL.of eL8, atI_nat (pick_vl (by omega)), _, eD9, ?_, ⟨fun b o n e => ?_, ?_⟩, ws ++ [decide (r9 = 1)], ?_, ?_⟩
        · rw [List.length_map, hw]
          exact sizeLine_ge (by omega)
        · rw [upd_ne (ne_of_none e hD)]
          exact s9.keep _ _ n (s8.keep _ _ n (st.keep _ _ n e))
        · obtain ⟨x, y, z, h⟩ := s9.src
          exact ⟨x, y, z, by rw [upd_ne nDp.symm]; exact h⟩
        · rw [List.length_append, hw]
          rfl
        · rw [upd_same, List.map_append]
          rfl
      rintro H6 ⟨s6, ws, hw, eD⟩
      have hw' : ws.length = m := by rw [hw]; exact Int.toNat_natCast m
      have s06 := s05.trans s6
      have last : ∀ H7 q (vs : List Bool), Stp p H H7 → H q = none → H7 q = some (.lst (vs.map lvV)) → vs.length = m → Q (.ref q) H7 := fun H7 q vs st hq eq hv =>
        c H7 q vs st hq eq (fun e => by
          rw [e] at hv
          exact absurd hv (by show ¬ 0 = m; omega)) (by omega)
      have hD0 : H D = none := s05.free hD
      refine ⟨_, rfl, rfl, _, rfl, ite2 (fun e => ?_) (fun e => ?_)⟩
      · refine ⟨_, rfl, m, rfl, by omega, by omega, fun D2 hD2 => lc_range (lo := 0) (n := ((m : Nat) : Int).toNat) (fun i H' => Same H6 H' ∧ ∃ ws : List Bool, ws.length = i ∧ H' D2 = some (.lst (ws.map lvV)))
          ⟨same_upd hD2, [], rfl, upd_same⟩ ?_ ?_⟩
        · rintro i H' hi ⟨st, ws2, hw2, eD2⟩
          refine ⟨rfl, yesT (iteT ?_)⟩
          refine ⟨by simp [sizeLine_eq], fun l8 hl8 => ?_⟩
          have s8 := same_upd (o := .lst [.str "queue", .str "stack"]) hl8
          have ei : (0 + (i : Int)) % 2 = ((i % 2 : Nat) : Int) := by omega
          refine ⟨_, rfl, _, 2, rfl, rfl, (by decide : (0 : Int) < 2), l8, _, ((i % 2 : Nat) : Int), _, rfl, congrArg V.int ei, SqL.of upd_same, atI_nat (pick_vl (Nat.mod_lt i (by decide))), _, s8 _ _ eD2, ?_, fun b o e => ?_, ws2 ++ [decide (i % 2 = 1)], ?_, ?_⟩
          · rw [List.length_map, hw2]
            exact sizeLine_ge (by omega)
          · rw [upd_ne (ne_of_none e hD2)]
            exact s8 _ _ (st _ _ e)
          · rw [List.length_append, hw2]
            rfl
          · rw [upd_same, List.map_append]
            rfl
        rintro H7 ⟨s7, ws2, hw2, eD2⟩
        refine ⟨_, rfl, last H7 D2 ws2 (s06.same s7) (s06.free hD2) eD2 ?_⟩
        rw [hw2]
        exact Int.toNat_natCast m
      · exact ⟨_, rfl, last H6 D ws s06 hD0 eD hw'⟩
end
/-! ### the law's loop over its numbers -/
theorem seq_new {K : PySem.W.Frag} {a p : Addr} {xs : List V} {H H1 H2 : Hp} (h : SqL K H a xs) (hp : H p = none) (s1 : Same H H1) (s2 : Stp p H1 H2) : SqL K H2 a xs := by
  rcases h with (h | ⟨o, h⟩) | h
  · exact .inl (.inl (s2.keep _ _ (ne_of_none h hp) (s1 _ _ h)))
  · exact .inl (.inr ⟨o, s2.keep _ _ (ne_of_none h hp) (s1 _ _ h)⟩)
  · exact .inr h
/-! ### two wheels in one heap -/
theorem WheelAt.draw {C : Addr} {H H' : Hp} {s p q l : Addr} {W : WS} (w : WheelAt C H p q l W) (hs : SrcAt H s) (hq : q ≠ s) (k : Stp s H H') : WheelAt C H' p q l W := by
  obtain ⟨x, y, z, h⟩ := hs
  exact w.frame h (Ne.symm hq) k.keep
/-- a wheel is changed, the other one stands as it stood -/
theorem WheelAt.other {C : Addr} {H H' : Hp} {p q l l' p2 q2 l2 : Addr} {W W2 : WS} (w2 : WheelAt C H p2 q2 l2 W2) (w : WheelAt C H p q l W) (k : Wk p l H H' l') (n1 : p2 ≠ p) (n2 : l2 ≠ l) : WheelAt C H' p2 q2 l2 W2 := by
  obtain ⟨dx, hp⟩ := w.ins
  obtain ⟨kvs, hl, _⟩ := w.live
  obtain ⟨dx2, hp2⟩ := w2.ins
  obtain ⟨kvs2, hl2, L2'⟩ := w2.live
  refine ⟨⟨dx2, k.keep _ _ n1 (ne_of hp2 hl (by intro z; cases z)) hp2⟩, k.keep _ _ (ne_of w2.words hp (by intro z; cases z)) (ne_of w2.words hl (by intro z; cases z)) w2.words, ⟨kvs2, k.keep _ _ (ne_of hl2 hp (by intro z; cases z)) n2 hl2, L2'.frame fun t m e => k.keep _ _ (ne_of e hp (by intro z; cases z)) (ne_of e hl (by intro z; cases z)) e⟩⟩
theorem FiredAt.wk {C p q l l' r : Addr} {H H' : Hp} {W : WS} (k : Wk p l H H' l') (w : WheelAt C H p q l W) {ts : List Addr} {fs : List (Nat × List Nat)} (h : FiredAt r H ts fs) : FiredAt r H' ts fs := h.frame (fun _ _ _ e => k.tup w e) fun _ _ _ e => k.lst w e
/-- the rows told in another list -/
theorem FiredAt.to {r N : Addr} {H : Hp} {o : HO} (hN : H N = none) : ∀ {ts : List Addr} {fs : List (Nat × List Nat)}, FiredAt r H ts fs → FiredAt N (upd H N o) ts fs
  | [], [], _ => trivial
  | _ :: _, _ :: _, ⟨⟨u, h1, _, h2⟩, h3⟩ => ⟨⟨u, same_upd hN _ _ h1, ne_of_none h2 hN, same_upd hN _ _ h2⟩, h3.to hN⟩
  | [], _ :: _, h => h.elim
  | _ :: _, [], h => h.elim
theorem FiredAt.cat {r : Addr} {H : Hp} : ∀ {ts us : List Addr} {fs gs : List (Nat × List Nat)}, FiredAt r H ts fs → FiredAt r H us gs → FiredAt r H (ts ++ us) (fs ++ gs)
  | [], _, [], _, _, h => h
  | _ :: _, _, _ :: _, _, ⟨h1, h2⟩, h => ⟨h1, h2.cat h⟩
  | [], _, _ :: _, _, h, _ => h.elim
  | _ :: _, _, [], _, h, _ => h.elim
theorem fired_item {r : Addr} {H : Hp} : ∀ {ts : List Addr} {fs : List (Nat × List Nat)} {i : Nat} {x : V}, FiredAt r H ts fs → (ts.map V.ref)[i]? = some x → ∃ t f u, x = .ref t ∧ fs[i]? = some f ∧ H t = some (.tup [.int (f.1 : Nat), .ref u])
  | t :: ts, f :: fs, 0, x, h, e => by
    obtain ⟨u, h1, _⟩ := h.1
    exact ⟨t, f, u, (Option.some.inj e).symm, rfl, h1⟩
  | t :: ts, f :: fs, i + 1, x, h, e => fired_item (i := i) h.2 e
  | [], [], _, _, _, e => by cases e
  | [], _ :: _, _, _, h, _ => h.elim
  | _ :: _, [], _, _, h, _ => h.elim
/-- two wheels of the law, what they stand in since H0 -/
structure Two (C : Addr) (H0 H : Hp) (s p q l p2 q2 l2 : Addr) (W W2 : WS) : Prop where
  keep : ∀ c o, c ≠ s → H0 c = some o → H c = some o
  src : SrcAt H s
  src0 : SrcAt H0 s
  p0 : H0 p = none
  q0 : H0 q = none
  l0 : H0 l = none
  p20 : H0 p2 = none
  q20 : H0 q2 = none
  l20 : H0 l2 = none
  np : p ≠ p2
  nl : l ≠ l2
  at1 : WheelAt C H p q l W
  at2 : WheelAt C H p2 q2 l2 W2
section
variable {C : Addr} {H0 H H' : Hp} {s p q l p2 q2 l2 : Addr} {W W2 : WS}
theorem Two.stp (T : Two C H0 H s p q l p2 q2 l2 W W2) : Stp s H0 H := ⟨T.keep, T.src⟩
theorem Two.same (T : Two C H0 H s p q l p2 q2 l2 W W2) (k : Same H H') : Two C H0 H' s p q l p2 q2 l2 W W2 :=
  ⟨fun c o n e => k _ _ (T.keep c o n e), T.src.same k, T.src0, T.p0, T.q0, T.l0, T.p20, T.q20, T.l20, T.np, T.nl, T.at1.same k, T.at2.same k⟩
theorem src_no {c : Addr} (h : SrcAt H0 s) (hc : H0 c = none) : c ≠ s := fun e => by
  obtain ⟨x, y, z, h⟩ := h
  rw [e, h] at hc
  cases hc
theorem Two.draw (T : Two C H0 H s p q l p2 q2 l2 W W2) (k : Stp s H H') : Two C H0 H' s p q l p2 q2 l2 W W2 :=
  ⟨fun c o n e => k.keep _ _ n (T.keep c o n e), k.src, T.src0, T.p0, T.q0, T.l0, T.p20, T.q20, T.l20, T.np, T.nl, T.at1.draw T.src (src_no T.src0 T.q0) k, T.at2.draw T.src (src_no T.src0 T.q20) k⟩
theorem Two.swap (T : Two C H0 H s p q l p2 q2 l2 W W2) : Two C H0 H s p2 q2 l2 p q l W2 W := ⟨T.keep, T.src, T.src0, T.p20, T.q20, T.l20, T.p0, T.q0, T.l0, Ne.symm T.np, Ne.symm T.nl, T.at2, T.at1⟩
/-- the first one is changed -/
theorem Two.go (T : Two C H0 H s p q l p2 q2 l2 W W2) {l' : Addr} {W' : WS} (k : Wk p l H H' l') (w : WheelAt C H' p q l' W') : Two C H0 H' s p q l' p2 q2 l2 W' W2 := by
  have free : ∀ {c : Addr}, H c = none → c ≠ s → H0 c = none := fun {c} hc hn => by
    cases e : H0 c with
    | none => rfl
    | some o =>
      rw [T.keep c o hn e] at hc
      cases hc
  refine ⟨fun c o n e => k.keep _ _ (ne_of_none e T.p0) (ne_of_none e T.l0) (T.keep c o n e), ?_, T.src0, T.p0, T.q0, ?_, T.p20, T.q20, T.l20, T.np, ?_, w, T.at2.other T.at1 k (Ne.symm T.np) (Ne.symm T.nl)⟩
  · obtain ⟨x, y, z, h⟩ := T.src
    exact ⟨x, y, z, k.lst T.at1 h⟩
  · rcases k.new with e | e
    · rw [e]
      exact T.l0
    · refine free e fun z => ?_
      obtain ⟨x, y, v, h⟩ := T.src
      rw [z, h] at e
      cases e
  · rcases k.new with e | e
    · rw [e]
      exact T.nl
    · intro z
      obtain ⟨kvs, h, _⟩ := T.at2.live
      rw [z, h] at e
      cases e
end
/-! ### the law's dict of due ticks -/
def prT (m : Tm) : Nat × Nat := (m.num, m.due)
def duP (xs : List (Nat × Nat)) : List (Key × V) := xs.map fun x => ((Sum.inl ((x.1 : Nat) : Int) : Key), V.int (x.2 : Nat))
theorem duP_keys (xs : List (Nat × Nat)) : (duP xs).map (·.1) = (xs.map fun x => ((x.1 : Nat) : Int)).map Sum.inl := by
  unfold duP
  rw [List.map_map, List.map_map]
  rfl
theorem duP_val {n e : Nat} : ∀ {xs : List (Nat × Nat)}, (xs.map (·.1)).Nodup → (n, e) ∈ xs → valV (duP xs) (Sum.inl ((n : Nat) : Int)) = some (.int (e : Nat))
  | [], _, h => by cases h
  | x :: xs, nd, h => by
    rw [List.map_cons, List.nodup_cons] at nd
    rcases List.mem_cons.mp h with rfl | h
    · exact valV_pos rfl
    · have hne : ¬ (Sum.inl ((x.1 : Nat) : Int) : Key) = Sum.inl ((n : Nat) : Int) := fun z => nd.1 (by
        rw [inl_num.mp z]
        exact List.mem_map.mpr ⟨_, h, rfl⟩)
      rw [show duP (x :: xs) = ((Sum.inl ((x.1 : Nat) : Int) : Key), V.int (x.2 : Nat)) :: duP xs from rfl, valV_neg hne]
      exact duP_val nd.2 h
theorem duP_drop {n : Nat} : ∀ xs : List (Nat × Nat), dropK (duP xs) (Sum.inl ((n : Nat) : Int)) = duP (xs.filter fun x => decide (x.1 ≠ n))
  | [] => rfl
  | x :: xs => by
    rw [show duP (x :: xs) = ((Sum.inl ((x.1 : Nat) : Int) : Key), V.int (x.2 : Nat)) :: duP xs from rfl]
    by_cases e : x.1 = n
    · rw [dropK_pos (show ((Sum.inl ((x.1 : Nat) : Int) : Key), V.int (x.2 : Nat)).1 = _ by rw [e]), duP_drop xs, List.filter_cons_of_neg (by simpa using e)]
    · rw [dropK_neg (show ¬ ((Sum.inl ((x.1 : Nat) : Int) : Key), V.int (x.2 : Nat)).1 = _ from fun z => e (inl_num.mp z)), duP_drop xs, List.filter_cons_of_pos (by simpa using e)]
      rfl
theorem duP_new {n e : Nat} {xs : List (Nat × Nat)} (h : n ∉ xs.map (·.1)) : putK (duP xs) (Sum.inl ((n : Nat) : Int)) (.int (e : Nat)) = duP (xs ++ [(n, e)]) := by
  have ha : ¬ ((duP xs).any fun kv => decide (kv.1 = Sum.inl ((n : Nat) : Int))) = true := fun z => by
    obtain ⟨kv, hkv, ek⟩ := List.any_eq_true.mp z
    obtain ⟨x, hx, rfl⟩ := List.mem_map.mp hkv
    exact h (List.mem_map.mpr ⟨x, hx, inl_num.mp (of_decide_eq_true ek)⟩)
  unfold putK
  rw [if_neg ha]
  unfold duP
  rw [List.map_append]
  rfl
theorem duP_old {n e : Nat} {xs : List (Nat × Nat)} (h : n ∈ xs.map (·.1)) : putK (duP xs) (Sum.inl ((n : Nat) : Int)) (.int (e : Nat)) = duP (xs.map fun x => if x.1 = n then (n, e) else x) := by
  have ha : ((duP xs).any fun kv => decide (kv.1 = Sum.inl ((n : Nat) : Int))) = true := by
    obtain ⟨x, hx, ek⟩ := List.mem_map.mp h
    exact List.any_eq_true.mpr ⟨_, List.mem_map.mpr ⟨x, hx, rfl⟩, decide_eq_true (by rw [ek])⟩
  unfold putK
  rw [if_pos ha]
  unfold duP
  rw [List.map_map, List.map_map]
  refine List.map_congr_left fun x _ => ?_
  show (if (Sum.inl ((x.1 : Nat) : Int) : Key) = Sum.inl ((n : Nat) : Int) then _ else _) = _
  by_cases e1 : x.1 = n
  · rw [if_pos (by rw [e1])]
    show _ = ((Sum.inl (((if x.1 = n then (n, e) else x).1 : Nat) : Int) : Key), V.int ((if x.1 = n then (n, e) else x).2 : Nat))
    rw [if_pos e1]
    show ((Sum.inl ((x.1 : Nat) : Int) : Key), V.int (e : Nat)) = (Sum.inl ((n : Nat) : Int), V.int (e : Nat))
    rw [e1]
  · rw [if_neg fun z => e1 (inl_num.mp z)]
    show _ = ((Sum.inl (((if x.1 = n then (n, e) else x).1 : Nat) : Int) : Key), V.int ((if x.1 = n then (n, e) else x).2 : Nat))
    rw [if_neg e1]
/-- the dict at d tells the due ticks of the timers -/
def DuAt (H : Hp) (d : Addr) (ms : List Tm) : Prop := ∃ xs, H d = some (.dK (duP xs)) ∧ xs.Perm (ms.map prT)
theorem DuAt.same {H H' : Hp} {d : Addr} {ms : List Tm} (h : DuAt H d ms) (s : Same H H') : DuAt H' d ms := by
  obtain ⟨xs, e, p⟩ := h
  exact ⟨xs, s _ _ e, p⟩
theorem prT_nums (ms : List Tm) : (ms.map prT).map (·.1) = ms.map (·.num) := by
  rw [List.map_map]
  rfl
theorem du_nd {xs : List (Nat × Nat)} {ms : List Tm} (p : xs.Perm (ms.map prT)) (nd : (ms.map (·.num)).Nodup) : (xs.map (·.1)).Nodup := by
  refine (p.map (·.1)).nodup_iff.mpr ?_
  rw [prT_nums]
  exact nd
theorem du_num {xs : List (Nat × Nat)} {ms : List Tm} (p : xs.Perm (ms.map prT)) {n : Nat} : n ∈ xs.map (·.1) ↔ n ∈ ms.map (·.num) := by
  rw [(p.map (·.1)).mem_iff, prT_nums]
theorem du_drop {xs : List (Nat × Nat)} {ms : List Tm} (p : xs.Perm (ms.map prT)) (n : Nat) : (xs.filter fun x => decide (x.1 ≠ n)).Perm ((dropT n ms).map prT) := by
  refine (p.filter _).trans ?_
  unfold dropT
  rw [List.filter_map]
  rfl
theorem du_add {xs : List (Nat × Nat)} {ms : List Tm} (p : xs.Perm (ms.map prT)) (m : Tm) : (xs ++ [(m.num, m.due)]).Perm ((ms ++ [m]).map prT) := by
  rw [List.map_append]
  exact p.append (List.Perm.refl _)
/-- another due tick, in its place -/
theorem du_set {n e : Nat} : ∀ {xs : List (Nat × Nat)}, (xs.map (·.1)).Nodup → n ∈ xs.map (·.1) → (xs.map fun x => if x.1 = n then (n, e) else x).Perm ((xs.filter fun x => decide (x.1 ≠ n)) ++ [(n, e)])
  | [], _, h => by cases h
  | x :: xs, nd, h => by
    rw [List.map_cons, List.nodup_cons] at nd
    rw [List.map_cons]
    by_cases c : x.1 = n
    · rw [if_pos c, List.filter_cons_of_neg (by simpa using c)]
      have hno : ∀ y ∈ xs, y.1 ≠ n := fun y hy z => nd.1 (by rw [c, ← z]; exact List.mem_map.mpr ⟨y, hy, rfl⟩)
      have e1 : xs.map (fun x => if x.1 = n then (n, e) else x) = xs := by
        have z : xs.map (fun x => if x.1 = n then (n, e) else x) = xs.map id := List.map_congr_left fun y hy => if_neg (hno y hy)
        rw [z, List.map_id]
      have e2 : xs.filter (fun x => decide (x.1 ≠ n)) = xs := List.filter_eq_self.mpr fun y hy => decide_eq_true (hno y hy)
      rw [e1, e2]
      exact (List.perm_append_singleton _ _).symm
    · rw [if_neg c, List.filter_cons_of_pos (by simpa using c)]
      rcases List.mem_cons.mp h with z | z
      · exact absurd z.symm c
      · exact (du_set nd.2 z).cons x
/-! ### the keys of the lists -/
theorem put_keys {rs : List Cell} {p q : Nat × Nat} {ns : List Nat} (h : q ∈ (cellPut rs p ns).map (·.1)) : q ∈ rs.map (·.1) ∨ q = p := by
  unfold cellPut at h
  split at h
  · left
    obtain ⟨c, hc, rfl⟩ := List.mem_map.mp h
    obtain ⟨c', hc', rfl⟩ := List.mem_map.mp hc
    refine List.mem_map.mpr ⟨c', hc', ?_⟩
    split <;> rfl
  · rw [List.map_append, List.mem_append] at h
    rcases h with h | h
    · exact .inl h
    · exact .inr (List.mem_singleton.mp h)
theorem stand_key {b : Nat} {ws : List Bool} {t : Nat} {p : Nat × Nat} : ∀ {ms : List Tm} {acc : List Cell}, p ∈ (ms.foldl (standStep b ws t) acc).map (·.1) → p ∈ acc.map (·.1) ∨ ∃ m ∈ ms, placeT b t m.due = p
  | [], _, h => .inl h
  | m :: ms, acc, h => by
    rw [List.foldl_cons] at h
    rcases stand_key h with h | ⟨x, hx, e⟩
    · unfold standStep at h
      split at h
      · rcases put_keys h with h | h
        · exact .inl h
        · exact .inr ⟨m, List.mem_cons_self .., h.symm⟩
      · exact .inl h
    · exact .inr ⟨x, List.mem_cons_of_mem _ hx, e⟩
theorem stand_keys {b : Nat} {ws : List Bool} {t : Nat} {ms : List Tm} (hd : ∀ m ∈ ms, t < m.due) {p : Nat × Nat} : p ∈ (standD b ws t ms).map (·.1) ↔ ∃ m ∈ ms, placeT b t m.due = p := by
  constructor
  · intro h
    rcases stand_key (acc := []) h with h | h
    · cases h
    · exact h
  · rintro ⟨m, hm, rfl⟩
    refine Classical.byContradiction fun no => ?_
    have hin : m.num ∈ cellV (standD b ws t ms) (placeT b t m.due) := cell_mem.mpr ⟨m, hm, hd m hm, rfl, rfl⟩
    have nk : ∀ (rs : List Cell) (p : Nat × Nat), p ∉ rs.map (·.1) → cellV rs p = [] := by
      intro rs p
      induction rs with
      | nil => exact fun _ => rfl
      | cons c rs ih =>
        intro h
        rw [List.map_cons, List.mem_cons, not_or] at h
        show (if c.1 = p then c.2 else cellV rs p) = []
        rw [if_neg fun z => h.1 z.symm]
        exact ih h.2
    rw [nk _ _ no] at hin
    cases hin
/-- two sorted lists of the same numbers -/
theorem sorted_two {ns : List Int} {ks : List Nat} {l : List Nat} (hp : ns.Perm (l.map fun x => ((x : Nat) : Int))) (hs : ns.Pairwise (· ≤ ·)) (kp : ks.Perm l) (ks_ : ks.Pairwise (· ≤ ·)) : ns = ks.map fun x => ((x : Nat) : Int) := by
  refine List.Perm.eq_of_pairwise (fun a c _ _ h1 h2 => Int.le_antisymm h1 h2) hs ?_ (hp.trans (kp.symm.map _))
  rw [List.pairwise_map]
  exact ks_.imp fun {a c} h => by omega
/-! ### advancing any wheel: that it ends, and how often something fires -/
/-- how often a timer fires up to t -/
def frN (t : Nat) (m : Tm) : Nat := if t < m.due then 0 else match m.per with
  | none => 1
  | some k => 1 + (t - m.due) / k
theorem again_at {t : Nat} {m m' : Tm} (h : againM t m = some m') : ∃ k, m.per = some k ∧ m' = ⟨m.num, t + k, some k, t⟩ := by
  unfold againM at h
  cases ep : m.per with
  | none =>
    rw [ep] at h
    cases h
  | some k =>
    rw [ep] at h
    exact ⟨k, rfl, (Option.some.inj h).symm⟩
def sumF (t : Nat) (ms : List Tm) : Nat := (ms.map (frN t)).sum
theorem sumF_app (t : Nat) (a c : List Tm) : sumF t (a ++ c) = sumF t a + sumF t c := by
  unfold sumF
  rw [List.map_append, List.sum_append]
theorem sumF_cons (t : Nat) (m : Tm) (c : List Tm) : sumF t (m :: c) = frN t m + sumF t c := by
  unfold sumF
  rw [List.map_cons, List.sum_cons]
theorem sumF_perm {t : Nat} {a c : List Tm} (h : a.Perm c) : sumF t a = sumF t c := by
  induction h with
  | nil => rfl
  | cons m _ ih => rw [sumF_cons, sumF_cons, ih]
  | swap m n l =>
    rw [sumF_cons, sumF_cons, sumF_cons, sumF_cons]
    omega
  | trans _ _ h1 h2 => exact h1.trans h2
theorem sumF_split (t : Nat) (p : Tm → Bool) : ∀ l : List Tm, sumF t (l.filter fun m => !p m) + sumF t (l.filter p) = sumF t l
  | [] => rfl
  | m :: l => by
    have ih := sumF_split t p l
    cases c : p m with
    | true =>
      rw [List.filter_cons_of_neg (by simp [c]), List.filter_cons_of_pos c, sumF_cons, sumF_cons]
      omega
    | false =>
      rw [List.filter_cons_of_pos (by simp [c]), List.filter_cons_of_neg (by simp [c]), sumF_cons, sumF_cons]
      omega
theorem sumF_none {t : Nat} : ∀ {l : List Tm}, (∀ m ∈ l, t < m.due) → sumF t l = 0
  | [], _ => rfl
  | m :: l, h => by
    rw [sumF_cons, sumF_none fun x hx => h x (List.mem_cons_of_mem _ hx)]
    unfold frN
    rw [if_pos (h m (List.mem_cons_self ..))]
/-- those that fire at v fire once less from there on -/
theorem sumF_again {L v : Nat} (hv : v ≤ L) : ∀ {l : List Tm}, (∀ m ∈ l, m.due = v ∧ ∀ k, m.per = some k → 1 ≤ k) → sumF L (l.filterMap (againM v)) + l.length = sumF L l
  | [], _ => rfl
  | m :: l, h => by
    have ih := sumF_again hv (l := l) fun x hx => h x (List.mem_cons_of_mem _ hx)
    obtain ⟨hd, hp⟩ := h m (List.mem_cons_self ..)
    rw [sumF_cons, List.length_cons]
    have e0 : frN L m = match m.per with
      | none => 1
      | some k => 1 + (L - m.due) / k := by
      unfold frN
      rw [if_neg (by omega)]
    cases ep : m.per with
    | none =>
      have e1 : againM v m = none := by
        unfold againM
        rw [ep]
        rfl
      rw [List.filterMap_cons_none e1, e0, ep]
      show _ = 1 + _
      omega
    | some k =>
      have e1 : againM v m = some ⟨m.num, v + k, some k, v⟩ := by
        unfold againM
        rw [ep]
        rfl
      have hk := hp k ep
      rw [List.filterMap_cons_some e1, sumF_cons, e0, ep, hd]
      have e2 : frN L ⟨m.num, v + k, some k, v⟩ = (L - v) / k := by
        show (if L < v + k then 0 else 1 + (L - (v + k)) / k) = _
        by_cases c : L < v + k
        · rw [if_pos c, Nat.div_eq_of_lt (by omega)]
        · rw [if_neg c]
          have e3 : L - v = (L - (v + k)) + k := by omega
          rw [e3, Nat.add_div_right _ (by omega)]
          omega
      rw [e2]
      show _ = 1 + (L - v) / k + _
      omega
/-- timers that may be advanced up to L -/
structure AdvT (L : Nat) (m : Tm) : Prop where
  since : m.since < m.due
  due : m.due < 2 ^ 240
  per : ∀ k, m.per = some k → 1 ≤ k ∧ L + k < 2 ^ 240
theorem after_mem {b : Nat} {ws : List Bool} {v : Nat} {ms : List Tm} (nd : (ms.map (·.num)).Nodup) {m : Tm} (hm : m ∈ afterF v ms (orderAt b ws v ms)) : (m ∈ ms ∧ m.due ≠ v) ∨ ∃ m0 ∈ ms, m0.due = v ∧ ∃ k, m0.per = some k ∧ m = ⟨m0.num, v + k, some k, v⟩ := by
  rw [after_due nd] at hm
  rcases List.mem_append.mp hm with z | z
  · obtain ⟨z1, z2⟩ := List.mem_filter.mp z
    exact .inl ⟨z1, of_decide_eq_true z2⟩
  · obtain ⟨m0, z1, z2⟩ := List.mem_filterMap.mp z
    obtain ⟨z3, z4⟩ := List.mem_filter.mp (mem_deq.mp z1)
    obtain ⟨k, k1, k2⟩ := again_at z2
    exact .inr ⟨m0, z3, of_decide_eq_true z4, k, k1, k2⟩
theorem after_nodup {b : Nat} {ws : List Bool} {v : Nat} {ms : List Tm} (nd : (ms.map (·.num)).Nodup) : ((afterF v ms (orderAt b ws v ms)).map (·.num)).Nodup := by
  unfold afterF
  have all : ∀ (ns : List Nat) (l : List Tm), (l.map (·.num)).Nodup → ((ns.foldl (fireT v) l).map (·.num)).Nodup := by
    intro ns
    induction ns with
    | nil => exact fun l nd => nd
    | cons n ns ih => exact fun l nd => ih _ (fire_nodup nd)
  exact all _ _ nd
theorem after_sum {b : Nat} {ws : List Bool} {L v : Nat} {ms : List Tm} (hv : v ≤ L) (nd : (ms.map (·.num)).Nodup) (hp : ∀ m ∈ ms, ∀ k, m.per = some k → 1 ≤ k) : sumF L (afterF v ms (orderAt b ws v ms)) + (orderAt b ws v ms).length = sumF L ms := by
  rw [after_due nd, sumF_app, order_deq, List.length_map, Nat.add_assoc]
  rw [sumF_again hv (fun m hm => ?_)]
  · rw [sumF_perm (deq_perm _ _), ← sumF_split L (fun m => decide (m.due = v)) ms]
    congr 2
    refine List.filter_congr fun m _ => ?_
    by_cases c : m.due = v <;> simp [c]
  · obtain ⟨z3, z4⟩ := List.mem_filter.mp (mem_deq.mp hm)
    exact ⟨of_decide_eq_true z4, hp m z3⟩
theorem adv_gen (b : Nat) (ws : List Bool) {L t : Nat} (htL : t ≤ L) : ∀ (n : Nat) (ms : List Tm), sumF L ms ≤ n → (∀ m ∈ ms, AdvT L m) → (ms.map (·.num)).Nodup → ms.length ≤ 1000 →
    ∃ fired ms', AdvTo b ws t ms fired ms' ∧ total fired + sumF L ms' = sumF L ms ∧ (∀ m ∈ ms', AdvT L m ∧ t < m.due ∧ (m ∈ ms ∨ m.since ≤ t) ∧ ∃ m0 ∈ ms, m0.num = m.num ∧ m0.per = m.per) ∧ (ms'.map (·.num)).Nodup ∧ ms'.length ≤ ms.length ∧ fired.length ≤ total fired := by
  intro n
  induction n with
  | zero =>
    intro ms hs ok nd few
    refine ⟨[], ms, .done fun m hm => ?_, (by show 0 + _ = _; omega), fun m hm => ⟨ok m hm, ?_, .inl hm, m, hm, rfl, rfl⟩, nd, Nat.le_refl _, Nat.le_refl _⟩
    all_goals
      refine Classical.byContradiction fun no => ?_
      have pos : 0 < frN L m := by
        unfold frN
        rw [if_neg (by omega)]
        split
        · exact Nat.one_pos
        · exact Nat.lt_of_lt_of_le Nat.one_pos (Nat.le_add_right 1 _)
      have z : frN L m ≤ sumF L ms := by
        obtain ⟨a, c, e⟩ := List.append_of_mem hm
        rw [e, sumF_app, sumF_cons]
        omega
      omega
  | succ n ih =>
    intro ms hs ok nd few
    by_cases hd : ∀ m ∈ ms, t < m.due
    · exact ⟨[], ms, .done hd, (by show 0 + _ = _; omega), fun m hm => ⟨ok m hm, hd m hm, .inl hm, m, hm, rfl, rfl⟩, nd, Nat.le_refl _, Nat.le_refl _⟩
    · cases hl : leastD ms with
      | none =>
        rw [least_none.mp hl] at hd
        exact absurd (fun m hm => by cases hm) hd
      | some v =>
        obtain ⟨hv1, hv2⟩ := least_some.mp hl
        have hvt : v ≤ t := by
          refine Classical.byContradiction fun no => hd fun m hm => ?_
          have := hv2 _ (List.mem_map.mpr ⟨m, hm, rfl⟩)
          omega
        have hpos := order_pos (b := b) (ws := ws) hl
        have hsum := after_sum (b := b) (ws := ws) (L := L) (Nat.le_trans hvt htL) nd fun m hm k hk => ((ok m hm).per k hk).1
        obtain ⟨fired, ms', a1, a2, a3, a4, a5, a6⟩ := ih (afterF v ms (orderAt b ws v ms)) (by omega) (fun m hm => by
          rcases after_mem nd hm with ⟨z, _⟩ | ⟨m0, z1, z2, k, z3, rfl⟩
          · exact ok m z
          · obtain ⟨k1, k2⟩ := (ok m0 z1).per k z3
            exact ⟨(by show v < v + k; omega), (by show v + k < _; omega), fun k' e => by cases e; exact ⟨k1, k2⟩⟩) (after_nodup nd) (Nat.le_trans (fire_tick _ _ _) few)
        have etot : total ((v, orderAt b ws v ms) :: fired) = (orderAt b ws v ms).length + total fired := by
          unfold total
          rw [List.map_cons, List.sum_cons]
        refine ⟨(v, orderAt b ws v ms) :: fired, ms', .step hl hvt (fun m hm => ⟨(ok m hm).since, Nat.lt_trans (ok m hm).due (by decide)⟩) nd few a1, ?_, fun m hm => ?_, a4, Nat.le_trans a5 (fire_tick _ _ _), ?_⟩
        · rw [etot]
          omega
        · obtain ⟨b1, b2, b3, m1, b4, b5, b6⟩ := a3 m hm
          have src : ∀ {x : Tm}, x ∈ afterF v ms (orderAt b ws v ms) → (x ∈ ms ∨ x.since ≤ t) ∧ ∃ m0 ∈ ms, m0.num = x.num ∧ m0.per = x.per := fun {x} hx => by
            rcases after_mem nd hx with ⟨z, _⟩ | ⟨m0, z1, z2, k, z3, rfl⟩
            · exact ⟨.inl z, x, z, rfl, rfl⟩
            · exact ⟨.inr hvt, m0, z1, rfl, z3⟩
          refine ⟨b1, b2, ?_, ?_⟩
          · rcases b3 with c | c
            · exact (src c).1
            · exact .inr c
          · obtain ⟨m2, c1, c2, c3⟩ := (src b4).2
            exact ⟨m2, c1, c2.trans b5, c3.trans b6⟩
        · rw [List.length_cons, etot]
          omega
/-- a wheel that may be advanced up to L -/
structure FarW (L : Nat) (W : WS) : Prop where
  ok : WOk W
  adv : ∀ m ∈ W.live, AdvT L m
theorem FarW.go {L t : Nat} {W : WS} (h : FarW L W) (h1 : W.tick ≤ t) (h2 : t ≤ L) : ∃ fired ms', AdvTo W.b W.ws t W.live fired ms' ∧ total fired + sumF L ms' = sumF L W.live ∧ FarW L { W with tick := t, live := ms' } ∧ fired.length ≤ total fired ∧ ms'.length ≤ W.live.length := by
  obtain ⟨fired, ms', a1, a2, a3, a4, a5, a6⟩ := adv_gen W.b W.ws h2 _ W.live (Nat.le_refl _) h.adv h.ok.nd h.ok.few
  refine ⟨fired, ms', a1, a2, ⟨⟨h.ok.b2, h.ok.b64, h.ok.ne, h.ok.l60, fun m hm => ?_, a4, Nat.le_trans a5 h.ok.few⟩, fun m hm => (a3 m hm).1⟩, a6, a5⟩
  obtain ⟨b1, b2, b3, m0, b4, b5, b6⟩ := a3 m hm
  refine ⟨?_, b2, Nat.lt_trans b1.due (by decide), ?_, fun k hk => (b1.per k hk).1⟩
  · rcases b3 with c | c
    · exact Nat.le_trans (h.ok.tms m c).since h1
    · exact c
  · rw [← b5]
    exact (h.ok.tms m0 b4).num
/-! ### timers with other numbers -/
def renG (g : Nat → Nat) (m : Tm) : Tm := ⟨g m.num, m.due, m.per, m.since⟩
theorem ren_num (g : Nat → Nat) (ms : List Tm) : (ms.map (renG g)).map (·.num) = (ms.map (·.num)).map g := by
  rw [List.map_map, List.map_map]
  rfl
theorem ren_due (g : Nat → Nat) (ms : List Tm) : (ms.map (renG g)).map (·.due) = ms.map (·.due) := by
  rw [List.map_map]
  rfl
theorem ren_deq {g : Nat → Nat} {f : Tm → Bool} (hf : ∀ m, f (renG g m) = f m) (l : List Tm) : deq f (l.map (renG g)) = (deq f l).map (renG g) := by
  unfold deq
  rw [List.filter_map, List.filter_map, List.map_append, List.map_reverse]
  have e1 : (f ∘ renG g) = f := funext hf
  have e2 : ((fun m => !f m) ∘ renG g) = fun m => !f m := funext fun m => by
    show (!f (renG g m)) = !f m
    rw [hf]
  rw [e1, e2]
theorem ren_order (b : Nat) (ws : List Bool) (t : Nat) (g : Nat → Nat) (ms : List Tm) : orderAt b ws t (ms.map (renG g)) = (orderAt b ws t ms).map g := by
  rw [order_deq, order_deq, List.filter_map]
  have e1 : ((fun m : Tm => decide (m.due = t)) ∘ renG g) = fun m => decide (m.due = t) := rfl
  rw [e1, ren_deq (fun m => rfl), ren_num]
theorem ren_st (b : Nat) (ws : List Bool) (t : Nat) (g : Nat → Nat) (ms : List Tm) (p : Nat × Nat) : stM b ws t (ms.map (renG g)) p = (stM b ws t ms p).map (renG g) := by
  unfold stM
  rw [List.filter_map]
  have e1 : ((fun m : Tm => decide (placeT b t m.due = p)) ∘ renG g) = fun m => decide (placeT b t m.due = p) := rfl
  rw [e1, ren_deq (fun m => rfl)]
theorem map_nd {g : Nat → Nat} : ∀ {l : List Nat}, l.Nodup → (∀ x ∈ l, ∀ y ∈ l, g x = g y → x = y) → (l.map g).Nodup
  | [], _, _ => List.nodup_nil
  | x :: l, nd, h => by
    rw [List.nodup_cons] at nd
    rw [List.map_cons, List.nodup_cons]
    refine ⟨fun hx => ?_, map_nd nd.2 fun a ha c hc => h a (List.mem_cons_of_mem _ ha) c (List.mem_cons_of_mem _ hc)⟩
    obtain ⟨y, hy, e⟩ := List.mem_map.mp hx
    have e2 := h y (List.mem_cons_of_mem _ hy) x (List.mem_cons_self ..) e
    rw [e2] at hy
    exact nd.1 hy
/-- numbers told apart -/
def InjN (g : Nat → Nat) (l : List Nat) : Prop := ∀ x ∈ l, ∀ y ∈ l, g x = g y → x = y
theorem ren_nd {g : Nat → Nat} {ms : List Tm} (nd : (ms.map (·.num)).Nodup) (h : InjN g (ms.map (·.num))) : ((ms.map (renG g)).map (·.num)).Nodup := by
  rw [ren_num]
  exact map_nd nd h
theorem ren_again (t : Nat) (g : Nat → Nat) (m : Tm) : againM t (renG g m) = (againM t m).map (renG g) := by
  unfold againM
  show Option.map (fun k => (⟨g m.num, t + k, some k, t⟩ : Tm)) m.per = _
  cases m.per <;> rfl
theorem ren_after {b : Nat} {ws : List Bool} {t : Nat} {g : Nat → Nat} {ms : List Tm} (nd : (ms.map (·.num)).Nodup) (h : InjN g (ms.map (·.num))) : afterF t (ms.map (renG g)) (orderAt b ws t (ms.map (renG g))) = (afterF t ms (orderAt b ws t ms)).map (renG g) := by
  rw [after_due (ren_nd nd h), after_due nd, List.map_append, List.filter_map, List.filter_map]
  have e1 : ((fun m : Tm => decide (m.due ≠ t)) ∘ renG g) = fun m => decide (m.due ≠ t) := rfl
  have e2 : ((fun m : Tm => decide (m.due = t)) ∘ renG g) = fun m => decide (m.due = t) := rfl
  rw [e1, e2, ren_deq (fun m => rfl), List.filterMap_map, List.map_filterMap]
  congr 2
  funext m
  exact ren_again t g m
theorem after_nums {t : Nat} {ns : List Nat} {ms : List Tm} : ∀ m ∈ afterF t ms ns, m.num ∈ ms.map (·.num) := by
  unfold afterF
  induction ns generalizing ms with
  | nil => exact fun m hm => List.mem_map.mpr ⟨m, hm, rfl⟩
  | cons n ns ih =>
    intro m hm
    rw [List.foldl_cons] at hm
    obtain ⟨x, hx, e⟩ := List.mem_map.mp (ih m hm)
    rw [← e]
    unfold fireT at hx
    split at hx
    · exact List.mem_map.mpr ⟨x, hx, rfl⟩
    · rename_i y hy
      have hy2 := List.mem_of_find?_eq_some hy
      have en : y.num = n := by simpa using List.find?_some hy
      split at hx
      · exact List.mem_map.mpr ⟨x, (List.mem_filter.mp hx).1, rfl⟩
      · rcases List.mem_append.mp hx with z | z
        · exact List.mem_map.mpr ⟨x, (List.mem_filter.mp z).1, rfl⟩
        · rw [List.mem_singleton.mp z]
          exact List.mem_map.mpr ⟨y, hy2, en⟩
def tfG (g : Nat → Nat) (f : Nat × List Nat) : Nat × List Nat := (f.1, f.2.map g)
def tcG (g : Nat → Nat) (c : Cell) : Cell := (c.1, c.2.map g)
/-- what an advance does to timers with other numbers -/
theorem ren_adv {b : Nat} {ws : List Bool} {t : Nat} {g : Nat → Nat} {ms ms' : List Tm} {f : List (Nat × List Nat)} (h : AdvTo b ws t ms f ms') (hg : InjN g (ms.map (·.num))) : AdvTo b ws t (ms.map (renG g)) (f.map (tfG g)) (ms'.map (renG g)) := by
  induction h with
  | done hd =>
    exact .done fun m hm => by
      obtain ⟨m0, h0, rfl⟩ := List.mem_map.mp hm
      exact hd m0 h0
  | @step ms ms' at_ rest h1 h2 ok nd few r ih =>
    have hl : leastD (ms.map (renG g)) = some at_ := by
      unfold leastD
      rw [ren_due]
      exact h1
    have ih2 := ih fun x hx y hy e => by
      obtain ⟨x0, hx0, rfl⟩ := List.mem_map.mp hx
      obtain ⟨y0, hy0, rfl⟩ := List.mem_map.mp hy
      exact hg _ (after_nums x0 hx0) _ (after_nums y0 hy0) e
    rw [← ren_after nd hg] at ih2
    have st := AdvTo.step (b := b) (ws := ws) hl h2 (fun m hm => by
      obtain ⟨m0, h0, rfl⟩ := List.mem_map.mp hm
      exact ok m0 h0) (ren_nd nd hg) (by rw [List.length_map]; exact few) ih2
    rw [ren_order] at st
    exact st
theorem adv_in {b : Nat} {ws : List Bool} {t : Nat} {ms ms' : List Tm} {f : List (Nat × List Nat)} (h : AdvTo b ws t ms f ms') : (∀ m ∈ ms', m.num ∈ ms.map (·.num)) ∧ ∀ r ∈ f, ∀ n ∈ r.2, n ∈ ms.map (·.num) := by
  induction h with
  | @done ms _ => exact ⟨fun m hm => List.mem_map.mpr ⟨m, hm, rfl⟩, fun r hr => by cases hr⟩
  | @step ms ms' at_ rest h1 h2 ok nd few r ih =>
    refine ⟨fun m hm => ?_, fun x hx n hn => ?_⟩
    · obtain ⟨x, hx, e⟩ := List.mem_map.mp (ih.1 m hm)
      rw [← e]
      exact after_nums x hx
    · rcases List.mem_cons.mp hx with rfl | hx
      · obtain ⟨m, hm, _, e⟩ := order_mem.mp hn
        exact List.mem_map.mpr ⟨m, hm, e⟩
      · obtain ⟨y, hy, e⟩ := List.mem_map.mp (ih.2 x hx n hn)
        rw [← e]
        exact after_nums y hy
/-- the lists, the numbers turned -/
theorem ren_lists {b : Nat} {ws : List Bool} {t : Nat} {g : Nat → Nat} {ms : List Tm} {cs : List Cell} (hd : ∀ m ∈ ms, t < m.due) (h : IsLists b ws t ms cs) : IsLists b ws t (ms.map (renG g)) (cs.map (tcG g)) := by
  have hd2 : ∀ m ∈ ms.map (renG g), t < m.due := fun m hm => by
    obtain ⟨m0, h0, rfl⟩ := List.mem_map.mp hm
    exact hd m0 h0
  obtain ⟨k1, _⟩ := h.keys hd
  have ek : (cs.map (tcG g)).map (·.1) = cs.map (·.1) := by
    rw [List.map_map]
    rfl
  refine ⟨?_, ?_, fun c hc => ?_⟩
  · rw [ek]
    have nd := (stand_bounds b ws t (ms.map (renG g)) _ (Nat.le_refl _)).2.2
    rw [List.take_length] at nd
    refine (List.perm_ext_iff_of_nodup k1 nd).mpr fun p => ?_
    rw [stand_keys hd2, h.perm.mem_iff, stand_keys hd]
    constructor
    · rintro ⟨m, hm, e⟩
      exact ⟨renG g m, List.mem_map.mpr ⟨m, hm, rfl⟩, e⟩
    · rintro ⟨m, hm, e⟩
      obtain ⟨m0, h0, rfl⟩ := List.mem_map.mp hm
      exact ⟨m0, h0, e⟩
  · rw [List.map_map]
    exact h.sorted
  · obtain ⟨c0, h0, rfl⟩ := List.mem_map.mp hc
    rw [cell_st hd2]
    show c0.2.map g = (stM b ws t (ms.map (renG g)) c0.1).map (·.num)
    rw [ren_st, h.at_ hd h0, ren_num]
theorem ren_told (b : Nat) (ws : List Bool) (t : Nat) (g : Nat → Nat) (ms : List Tm) (ks : List (Nat × Nat)) : toldT b ws t (ms.map (renG g)) ks = (toldT b ws t ms ks).map (renG g) := by
  unfold toldT
  rw [List.map_flatMap]
  congr 1
  funext k
  rw [ren_st, ren_deq (fun m => rfl)]
/-- the one's number of an other one's -/
def gX : List (Nat × Nat) → Nat → Nat
  | [], _ => 0
  | x :: xs, n => if x.1 = n then x.2 else gX xs n
theorem gx_mem : ∀ {xs : List (Nat × Nat)} {n : Nat}, n ∈ xs.map (·.1) → (n, gX xs n) ∈ xs
  | [], _, h => by cases h
  | x :: xs, n, h => by
    show (n, if x.1 = n then x.2 else gX xs n) ∈ _
    by_cases c : x.1 = n
    · rw [if_pos c, ← c]
      exact List.mem_cons_self ..
    · rw [if_neg c]
      rw [List.map_cons, List.mem_cons] at h
      exact List.mem_cons_of_mem _ (gx_mem (h.resolve_left fun z => c z.symm))
theorem gx_app {xs : List (Nat × Nat)} {y : Nat × Nat} {n : Nat} (h : n ∈ xs.map (·.1)) : gX (xs ++ [y]) n = gX xs n := by
  induction xs with
  | nil => cases h
  | cons x xs ih =>
    show (if x.1 = n then x.2 else gX (xs ++ [y]) n) = if x.1 = n then x.2 else gX xs n
    by_cases c : x.1 = n
    · rw [if_pos c, if_pos c]
    · rw [if_neg c, if_neg c]
      rw [List.map_cons, List.mem_cons] at h
      exact ih (h.resolve_left fun z => c z.symm)
theorem gx_last {xs : List (Nat × Nat)} {y : Nat × Nat} (h : y.1 ∉ xs.map (·.1)) : gX (xs ++ [y]) y.1 = y.2 := by
  induction xs with
  | nil =>
    show (if y.1 = y.1 then y.2 else _) = y.2
    rw [if_pos rfl]
  | cons x xs ih =>
    rw [List.map_cons, List.mem_cons, not_or] at h
    show (if x.1 = y.1 then x.2 else gX (xs ++ [y]) y.1) = y.2
    rw [if_neg (Ne.symm h.1)]
    exact ih h.2
theorem gx_inj {xs : List (Nat × Nat)} (nd : (xs.map (·.2)).Nodup) : InjN (gX xs) (xs.map (·.1)) := fun x hx y hy e => by
  have h1 := gx_mem hx
  have h2 := gx_mem hy
  rw [← e] at h2
  have key : ∀ {l : List (Nat × Nat)} {a c v : Nat}, (l.map (·.2)).Nodup → (a, v) ∈ l → (c, v) ∈ l → a = c := by
    intro l
    induction l with
    | nil => exact fun _ h => by cases h
    | cons z l ih =>
      intro a c v nd ha hc
      rw [List.map_cons, List.nodup_cons] at nd
      rcases List.mem_cons.mp ha with rfl | ha <;> rcases List.mem_cons.mp hc with hc | hc
      · exact (congrArg Prod.fst hc).symm
      · exact absurd (List.mem_map.mpr ⟨_, hc, rfl⟩) nd.1
      · exact absurd (List.mem_map.mpr ⟨(a, v), ha, show v = z.2 from congrArg Prod.snd hc⟩) nd.1
      · exact ih nd.2 ha hc
  exact key nd h1 h2
theorem adv_lens {b : Nat} {ws : List Bool} {t : Nat} {ms ms' : List Tm} {f : List (Nat × List Nat)} (h : AdvTo b ws t ms f ms') : f.length ≤ total f ∧ ∀ r ∈ f, r.2.length ≤ total f := by
  induction h with
  | done _ => exact ⟨Nat.le_refl _, fun r hr => by cases hr⟩
  | @step ms ms' at_ rest h1 h2 ok nd few r ih =>
    have e : total ((at_, orderAt b ws at_ ms) :: rest) = (orderAt b ws at_ ms).length + total rest := rfl
    have hp := order_pos (b := b) (ws := ws) h1
    rw [e]
    refine ⟨?_, fun r hr => ?_⟩
    · have := ih.1
      rw [List.length_cons]
      omega
    · rcases List.mem_cons.mp hr with rfl | hr
      · exact Nat.le_add_right _ _
      · have := ih.2 r hr
        omega
theorem lists_few {b : Nat} {ws : List Bool} {t : Nat} {ms : List Tm} {cs : List Cell} (h : IsLists b ws t ms cs) : cs.length ≤ ms.length := by
  have z := (stand_bounds b ws t ms ms.length (Nat.le_refl _)).1
  rw [List.take_length] at z
  have y := h.perm.length_eq
  rw [List.length_map, List.length_map] at y
  omega
/-! ### law k60: rows with their numbers turned -/
abbrev GRow := List V × List Nat
def GRows (H : Hp) : List Addr → List GRow → Prop
  | [], [] => True
  | t :: ts, r :: rs => (∃ u, H t = some (.tup (r.1 ++ [.ref u])) ∧ H u = some (.lst (r.2.map fun x => V.int (x : Nat)))) ∧ GRows H ts rs
  | _, _ => False
def GRowsN (D : Addr) (H : Hp) : List Addr → List GRow → Prop
  | [], [] => True
  | t :: ts, r :: rs => (∃ u, H t = some (.tup (r.1 ++ [.ref u])) ∧ u ≠ D ∧ H u = some (.lst (r.2.map fun x => V.int (x : Nat)))) ∧ GRowsN D H ts rs
  | _, _ => False
theorem GRows.frame {H H' : Hp} (s : Same H H') : ∀ {ts : List Addr} {rs : List GRow}, GRows H ts rs → GRows H' ts rs
  | [], [], _ => trivial
  | _ :: _, _ :: _, ⟨⟨u, h1, h2⟩, h3⟩ => ⟨⟨u, s _ _ h1, s _ _ h2⟩, h3.frame s⟩
  | [], _ :: _, h => h.elim
  | _ :: _, [], h => h.elim
theorem GRows.len {H : Hp} : ∀ {ts : List Addr} {rs : List GRow}, GRows H ts rs → ts.length = rs.length
  | [], [], _ => rfl
  | _ :: _, _ :: _, h => congrArg Nat.succ h.2.len
  | [], _ :: _, h => h.elim
  | _ :: _, [], h => h.elim
theorem GRows.item {H : Hp} : ∀ {ts : List Addr} {rs : List GRow} {i : Nat} {x : V}, GRows H ts rs → (ts.map V.ref)[i]? = some x → ∃ t r u, x = .ref t ∧ rs[i]? = some r ∧ H t = some (.tup (r.1 ++ [.ref u])) ∧ H u = some (.lst (r.2.map fun x => V.int (x : Nat)))
  | t :: ts, r :: rs, 0, x, h, e => by
    obtain ⟨u, h1, h2⟩ := h.1
    exact ⟨t, r, u, (Option.some.inj e).symm, rfl, h1, h2⟩
  | t :: ts, r :: rs, i + 1, x, h, e => h.2.item (i := i) e
  | [], [], _, _, _, e => by cases e
  | [], _ :: _, _, _, h, _ => h.elim
  | _ :: _, [], _, _, h, _ => h.elim
theorem GRowsN.frame {D : Addr} {H H' : Hp} (s1 : ∀ t xs, H t = some (.tup xs) → H' t = some (.tup xs)) (s2 : ∀ u xs, u ≠ D → H u = some (.lst xs) → H' u = some (.lst xs)) : ∀ {ts : List Addr} {rs : List GRow}, GRowsN D H ts rs → GRowsN D H' ts rs
  | [], [], _ => trivial
  | _ :: _, _ :: _, ⟨⟨u, h1, hn, h2⟩, h3⟩ => ⟨⟨u, s1 _ _ h1, hn, s2 _ _ hn h2⟩, h3.frame s1 s2⟩
  | [], _ :: _, h => h.elim
  | _ :: _, [], h => h.elim
theorem GRowsN.snoc {D t u : Addr} {H : Hp} {r : GRow} (h1 : H t = some (.tup (r.1 ++ [.ref u]))) (hn : u ≠ D) (h2 : H u = some (.lst (r.2.map fun x => V.int (x : Nat)))) : ∀ {ts : List Addr} {rs : List GRow}, GRowsN D H ts rs → GRowsN D H (ts ++ [t]) (rs ++ [r])
  | [], [], _ => ⟨⟨u, h1, hn, h2⟩, trivial⟩
  | _ :: _, _ :: _, h => ⟨h.1, h.2.snoc h1 hn h2⟩
  | [], _ :: _, h => h.elim
  | _ :: _, [], h => h.elim
theorem GRowsN.len {D : Addr} {H : Hp} : ∀ {ts : List Addr} {rs : List GRow}, GRowsN D H ts rs → ts.length = rs.length
  | [], [], _ => rfl
  | _ :: _, _ :: _, h => congrArg Nat.succ h.2.len
  | [], _ :: _, h => h.elim
  | _ :: _, [], h => h.elim
theorem FiredAt.grows {r : Addr} {H : Hp} : ∀ {ts : List Addr} {fs : List (Nat × List Nat)}, FiredAt r H ts fs → GRows H ts (fs.map fun f => ([V.int (f.1 : Nat)], f.2))
  | [], [], _ => trivial
  | _ :: _, _ :: _, ⟨⟨u, h1, _, h2⟩, h3⟩ => ⟨⟨u, h1, h2⟩, h3.grows⟩
  | [], _ :: _, h => h.elim
  | _ :: _, [], h => h.elim
theorem CRows.grows {H : Hp} : ∀ {ts : List Addr} {cs : List Cell}, CRows H H ts cs → GRows H ts (cs.map fun c => ([V.int (c.1.1 : Nat), V.int (c.1.2 : Nat)], c.2))
  | [], [], _ => trivial
  | _ :: _, _ :: _, ⟨⟨a, h1, h2⟩, h3⟩ => ⟨⟨a, h1, h2⟩, h3.grows⟩
  | [], _ :: _, h => h.elim
  | _ :: _, [], h => h.elim
def turnR (g : Nat → Nat) (r : GRow) : GRow := (r.1, r.2.map g)
theorem GRowsN.fired {D : Addr} {H : Hp} {g : Nat → Nat} : ∀ {ts : List Addr} {fs : List (Nat × List Nat)}, GRowsN D H ts ((fs.map fun f => (([V.int (f.1 : Nat)], f.2) : GRow)).map (turnR g)) → FiredAt D H ts (fs.map (tfG g))
  | [], [], _ => trivial
  | _ :: _, _ :: _, ⟨⟨u, h1, hn, h2⟩, h3⟩ => ⟨⟨u, h1, hn, h2⟩, h3.fired⟩
  | [], _ :: _, h => h.elim
  | _ :: _, [], h => h.elim
theorem GRowsN.cells {D : Addr} {H : Hp} {g : Nat → Nat} : ∀ {ts : List Addr} {cs : List Cell}, GRowsN D H ts ((cs.map fun c => (([V.int (c.1.1 : Nat), V.int (c.1.2 : Nat)], c.2) : GRow)).map (turnR g)) → CRows H H ts (cs.map (tcG g))
  | [], [], _ => trivial
  | _ :: _, _ :: _, ⟨⟨u, h1, _, h2⟩, h3⟩ => ⟨⟨u, h1, h2⟩, h3.cells⟩
  | [], _ :: _, h => h.elim
  | _ :: _, [], h => h.elim
theorem duP_gx {xs : List (Nat × Nat)} (nd : (xs.map (·.1)).Nodup) {n : Nat} (h : n ∈ xs.map (·.1)) : valV (duP xs) (Sum.inl ((n : Nat) : Int)) = some (.int (gX xs n : Nat)) := duP_val nd (gx_mem h)
theorem mapped_nat {ns : List Nat} {j : Nat} {v : V} (h : (ns.map fun x => V.int (x : Nat))[j]? = some v) : ∃ x : Nat, ns[j]? = some x ∧ v = V.int (x : Nat) := by
  rw [List.getElem?_map] at h
  cases e : ns[j]? with
  | none =>
    rw [e] at h
    cases h
  | some x =>
    rw [e] at h
    exact ⟨x, rfl, (Option.some.inj h).symm⟩
theorem cut_not (n : Nat) : ¬ (HT.sIx (n + 1) 0 none = 0 ∧ HT.sIx (n + 1) (n + 1) (some (((n + 1 - 1 : Nat)) : Int)) = n + 1) := by
  rintro ⟨_, h⟩
  rw [HT.sIx_nat] at h
  omega
theorem cut_head {xs : List V} {v : V} : cutV (xs ++ [v]) none (some ((((xs ++ [v]).length - 1 : Nat)) : Int)) = xs := by
  have e : (xs ++ [v]).length = xs.length + 1 := by
    rw [List.length_append]
    rfl
  unfold cutV
  rw [e]
  have e1 : HT.sIx (xs.length + 1) 0 none = 0 := rfl
  have e2 : HT.sIx (xs.length + 1) (xs.length + 1) (some (((xs.length + 1 - 1 : Nat)) : Int)) = xs.length := by
    rw [HT.sIx_nat]
    omega
  rw [e1, e2]
  simp
section
variable {P : Program} {w : World} {K : PySem.W.Frag} {mg : Str → Option Value} {base : Heap}
def spTurned : Sp := fun vs H Q _ => ∃ (r d : Addr) (ts : List Addr) (rs : List GRow) (xs : List (Nat × Nat)), vs = [.ref r, .ref d] ∧ H r = some (.lst (ts.map V.ref)) ∧ GRows H ts rs ∧ H d = some (.dK (duP xs)) ∧ (xs.map (·.1)).Nodup ∧ rs.length ≤ 5000 ∧ (∀ g ∈ rs, g.1 ≠ [] ∧ g.1.length ≤ 5 ∧ g.2.length ≤ 5000 ∧ ∀ n ∈ g.2, n ∈ xs.map (·.1)) ∧
  ∀ H' D us, Same H H' → H D = none → H' D = some (.lst (us.map V.ref)) → GRowsN D H' us (rs.map (turnR (gX xs))) → Q (.ref D) H'
theorem ok_turned60 {f : Addr} {fd : FuncData} (F : Fun K "_law_turned" "_law_turned" s__law_turned f fd) (T : Tx K mg) : FnOk P w K mg base CX0 1 f fd ["_law_rows", "_law_by"] spTurned := by
  refine F.ok sc__law_turned (fun vs H Q E h => ?_) (fun cdv A outer s H vs Q E hr h => ?_)
  · obtain ⟨r, d, ts, rs, xs, rfl, _⟩ := h
    rfl
  · obtain ⟨r, d, ts, rs, xs, rfl, eR, hG, eD, hnd, hrl, hg, c⟩ := h
    have hu := hu_of hr
    refine ⟨_, (pss_one (ps_ret (pe_lc (own := [("_law_row", 2)]) (g := gName 2) (tt := tYes) rfl sc__law_turned.nd (pi_list (pv 0)) (blkOk_by (own := [("_law_row", 2)]) (N := N__law_turned) (sc := defScope s__law_turned) (by decide +kernel)) (fun _ _ _ _ _ => (pg_name (i := 2) sc__law_turned.nd rfl (.inl rfl))) (fun _ _ _ _ _ => pts_nil) (fun _ _ _ _ _ => (pe_op (op_catTK (K := K) rfl) (pe_slice (sl_tupK (K := K) rfl) (pv 2) po_none (po_some (pe_op op_subN (pe_callB (lenK (K := K) rfl) (by rfl) T.b_len PySem.boot_len (pa_cons (pv 2) pa_nil)) pe_int))) (pe_tup (pa_cons (pe_lc (own := [("_law_number", 3)]) (g := gName 3) (tt := tYes) rfl sc__law_turned.nd (pi_listK (K := K) rfl (pe_ix (ix_tupK (K := K) rfl) (pv 2) (pe_un un_neg pe_int) (fun _ _ => rfl))) (blkOk_by (own := [("_law_number", 3)]) (N := N__law_turned) (sc := { kind := .function, names := [(".0", .local), ("_law_row", .local), ("len", .globalImplicit), ("_law_by", .cell)], isGenerator := false, isCoroutine := false }) (by decide +kernel)) (fun _ _ _ _ _ => (pg_name (i := 3) sc__law_turned.nd rfl (.inl rfl))) (fun _ _ _ _ _ => pts_nil) (fun _ _ _ _ _ => (pe_dget hu (pv 1) (pv 3) (fun _ _ => rfl)))) pa_nil))))))), ?_⟩
    have hGl := hG.len
    refine ⟨_, rfl, r, rfl, ⟨_, SqL.of eR⟩, fun L hL => lc_list (K := K) (a := r) (xs := ts.map V.ref) (fun i H' => Same H H' ∧ ∃ us : List Addr, H' L = some (.lst (us.map V.ref)) ∧ GRowsN L H' us ((rs.take i).map (turnR (gX xs)))) ⟨same_upd hL, [], upd_same, trivial⟩ (fun i H' _ ⟨sm, _⟩ => SqL.of (sm _ _ eR)) ?_ ?_⟩
    · rintro i v H1 hv ⟨sm, us, eL, hU⟩
      obtain ⟨t, g, u, rfl, hgi, ht, hu'⟩ := (hG.frame sm).item hv
      have hgm := hg g (List.mem_of_getElem? hgi)
      have hil := (List.getElem?_eq_some_iff.mp hgi).1
      have hUl := hU.len
      rw [List.length_map, List.length_take] at hUl
      have hlen : (g.1 ++ [V.ref u]).length = g.1.length + 1 := by
        rw [List.length_append]
        rfl
      refine ⟨rfl, yesT (iteT ?_)⟩
      refine ⟨_, rfl, .ref t, rfl, t, _, rfl, .inr (SqT.of ht), (g.1 ++ [V.ref u]).length, 1, rfl, rfl, (by show 1 ≤ (g.1 ++ [V.ref u]).length; omega), _, rfl, t, _, rfl, SqT.of ht, ?_, fun p hp => ?_⟩
      · rw [hlen]
        exact cut_not g.1.length
      rw [cut_head]
      have sp := same_upd (o := .tup g.1) hp
      have ep := upd_same (H := H1) (a := p) (o := .tup g.1)
      generalize upd H1 p (.tup g.1) = H2 at sp ep ⊢
      have ht2 := sp _ _ ht
      have hu2 := sp _ _ hu'
      have eD2 := sp _ _ (sm _ _ eD)
      refine ⟨.ref t, rfl, 1, rfl, t, _, -1, _, rfl, rfl, .inl (.inl ht2), atI_last _ _, u, rfl, ⟨_, SqL.of hu2⟩, fun M hM => lc_list (K := K) (a := u) (xs := g.2.map fun x => V.int (x : Nat)) (fun j H' => Same H2 H' ∧ H' M = some (.lst (((g.2.take j).map (gX xs)).map fun x => V.int (x : Nat)))) ⟨same_upd hM, upd_same⟩ (fun j H' _ ⟨sm, _⟩ => SqL.of (sm _ _ hu2)) ?_ ?_⟩
      · rintro j v H3 hv ⟨sm3, eM⟩
        obtain ⟨x, hx, rfl⟩ := mapped_nat hv
        have hjj := (List.getElem?_eq_some_iff.mp hx).1
        have gg := DGet.k (k := Sum.inl ((x : Nat) : Int)) (sm3 _ _ eD2)
        rw [duP_gx hnd (hgm.2.2.2 x (List.mem_of_getElem? hx))] at gg
        refine ⟨rfl, yesT (iteT ⟨_, rfl, _, rfl, d, .int (gX xs x : Nat), rfl, gg, _, eM, ?_, fun c o e => ?_, ?_⟩)⟩
        · rw [List.length_map, List.length_map, List.length_take]
          exact sizeLine_ge (by omega)
        · rw [upd_ne (ne_of_none e hM)]
          exact sm3 _ _ e
        · rw [upd_same, List.take_add_one, hx, Option.toList_some, List.map_append, List.map_append]
          rfl
      · rintro H3 ⟨sm3, eM⟩
        rw [List.length_map, List.take_length] at eM
        refine ⟨by simp [sizeLine_eq], fun v2 hv2 => ?_⟩
        have s4 := same_upd (o := .tup [.ref M]) hv2
        have e4 := upd_same (H := H3) (a := v2) (o := .tup [.ref M])
        generalize upd H3 v2 (.tup [.ref M]) = H4 at s4 e4 ⊢
        refine ⟨p, v2, g.1, [.ref M], rfl, rfl, SqT.of (s4 _ _ (sm3 _ _ ep)), SqT.of e4, hgm.1, ?_, (fun z => by cases z), fun _ w2 hw2 => ?_⟩
        · exact sizeLine_le (by show g.1.length + 1 ≤ _; omega)
        have s5 := same_upd (o := .tup (g.1 ++ [.ref M])) hw2
        have e5 := upd_same (H := H4) (a := w2) (o := .tup (g.1 ++ [.ref M]))
        generalize upd H4 w2 (.tup (g.1 ++ [.ref M])) = H5 at s5 e5 ⊢
        have s15 : Same H1 H5 := ((sp.trans sm3).trans s4).trans s5
        have eL5 := s15 _ _ eL
        have eM5 := s5 _ _ (s4 _ _ eM)
        have nML : M ≠ L := fun z => by
          rw [z, sp _ _ eL] at hM
          cases hM
        have hU5 := hU.frame (H' := H5) (fun t xs e => s15 _ _ e) fun u xs _ e => s15 _ _ e
        have kp : ∀ c o, c ≠ L → H5 c = some o → (upd H5 L (.lst (us.map V.ref ++ [.ref w2]))) c = some o := fun c o n e => by
          rw [upd_ne n]
          exact e
        refine ⟨_, eL5, ?_, fun c o e => ?_, us ++ [w2], ?_, ?_⟩
        · rw [List.length_map]
          exact sizeLine_ge (by omega)
        · rw [upd_ne (ne_of_none e hL)]
          exact s15 _ _ (sm _ _ e)
        · rw [upd_same, List.map_append]
          rfl
        · rw [List.take_add_one, hgi, Option.toList_some, List.map_append]
          exact (hU5.frame (fun t xs e => kp _ _ (ne_of e eL5 (by intro z; cases z)) e) fun u xs n e => kp _ _ n e).snoc (r := turnR (gX xs) g) (kp _ _ (ne_of e5 eL5 (by intro z; cases z)) e5) nML (kp _ _ nML eM5)
    · rintro H1 ⟨sm, us, eL, hU⟩
      rw [List.length_map, hGl, List.take_length] at hU
      exact c H1 L us sm hL eL hU
end
theorem okw_drop {W : WS} {n : Nat} (ok : WOk W) : WOk { W with live := dropT n W.live } := by
  refine ⟨ok.b2, ok.b64, ok.ne, ok.l60, fun m hm => ok.tms m (List.mem_filter.mp hm).1, drop_nodup ok.nd, Nat.le_trans (List.length_filter_le _ _) ok.few⟩
theorem okw_reset {W : WS} {m : Tm} {d : Nat} (ok : WOk W) (hm : m ∈ W.live) (h1 : W.tick < d) (h2 : d < 2 ^ 250) : WOk { W with live := dropT m.num W.live ++ [⟨m.num, d, m.per, W.tick⟩] } := by
  refine ⟨ok.b2, ok.b64, ok.ne, ok.l60, fun m' hm' => ?_, ?_, ?_⟩
  · rcases List.mem_append.mp hm' with hm' | hm'
    · exact ok.tms m' (List.mem_filter.mp hm').1
    · rw [List.mem_singleton.mp hm']
      exact ⟨Nat.le_refl _, h1, h2, (ok.tms m hm).num, (ok.tms m hm).per⟩
  · rw [List.map_append]
    refine L2.nd_snoc (drop_nodup ok.nd) fun h => ?_
    obtain ⟨m', hm', e⟩ := List.mem_map.mp h
    exact drop_not m' hm' e
  · rw [List.length_append]
    have z := drop_len_lt (n := m.num) ⟨m, hm, rfl⟩
    have y := ok.few
    show (dropT m.num W.live).length + 1 ≤ 1000
    omega
/-- a list of the law's own is changed -/
theorem Two.lst {C : Addr} {H0 H : Hp} {s p q l p2 q2 l2 D : Addr} {W W2 : WS} {xs ys : List V} (T : Two C H0 H s p q l p2 q2 l2 W W2) (hD : H D = some (.lst xs)) (h0 : H0 D = none) (nq : D ≠ q) (nq2 : D ≠ q2) : Two C H0 (upd H D (.lst ys)) s p q l p2 q2 l2 W W2 := by
  have kp : ∀ c o, c ≠ D → H c = some o → (upd H D (.lst ys)) c = some o := fun c o n e => by
    rw [upd_ne n]
    exact e
  refine ⟨fun c o n e => kp _ _ (ne_of_none e h0) (T.keep c o n e), ?_, T.src0, T.p0, T.q0, T.l0, T.p20, T.q20, T.l20, T.np, T.nl, T.at1.frame hD nq kp, T.at2.frame hD nq2 kp⟩
  obtain ⟨x, y, z, h⟩ := T.src
  exact ⟨x, y, z, kp _ _ (fun e => by
    obtain ⟨x, y, z, h'⟩ := T.src0
    rw [e, h0] at h'
    cases h') h⟩
/-! ### law k60: timers set and cancelled again leave no trace -/
theorem nm_reset0 {b : Nat} {q : Addr} {t f : Nat} {l : Addr} : (wfl b q t f l).lookup ("reset" : Str) = none := wf_no (by decide +kernel) (by decide +kernel) (by decide +kernel) (by decide +kernel) (by decide +kernel)
/-- all stays but the source and a wheel -/
def KpX (s p l : Addr) (H H' : Hp) : Prop := ∀ c o, c ≠ s → c ≠ p → c ≠ l → H c = some o → H' c = some o
theorem KpX.refl {s p l : Addr} {H : Hp} : KpX s p l H H := fun _ _ _ _ _ e => e
theorem KpX.trans {s p l : Addr} {H H1 H2 : Hp} (a : KpX s p l H H1) (b : KpX s p l H1 H2) : KpX s p l H H2 := fun c o n1 n2 n3 e => b c o n1 n2 n3 (a c o n1 n2 n3 e)
theorem KpX.same {s p l : Addr} {H H' : Hp} (k : Same H H') : KpX s p l H H' := fun _ _ _ _ _ e => k _ _ e
theorem KpX.stp {s p l : Addr} {H H' : Hp} (k : Stp s H H') : KpX s p l H H' := fun _ _ n _ _ e => k.keep _ _ n e
theorem KpX.wk {s p l l' : Addr} {H H' : Hp} (k : Wk p l H H' l') : KpX s p l H H' := fun _ _ _ n1 n2 e => k.keep _ _ n1 n2 e
theorem KpX.new {s p l D : Addr} {H H1 H2 : Hp} {o : HO} (k : KpX s p l H H1) (hD : H D = none) (e : H2 = upd H1 D o) : KpX s p l H H2 := fun c o n1 n2 n3 h => by
  rw [e, upd_ne (ne_of_none h hD)]
  exact k c o n1 n2 n3 h
theorem drop_tail {n : Nat} {a es : List Tm} (h : ∀ m ∈ a, m.num ≠ n) : dropT n (a ++ es) = a ++ dropT n es := by
  unfold dropT
  rw [List.filter_append]
  congr 1
  exact List.filter_eq_self.mpr fun m hm => decide_eq_true (h m hm)
theorem drop_nums {n : Nat} {es : List Tm} {N : List Nat} (hp : (es.map (·.num)).Perm (n :: N)) (nd : (n :: N).Nodup) : ((dropT n es).map (·.num)).Perm N := by
  have e1 : (dropT n es).map (·.num) = (es.map (·.num)).filter fun x => decide (x ≠ n) := by
    unfold dropT
    rw [List.filter_map]
    rfl
  have z := hp.filter fun x => decide (x ≠ n)
  rw [List.nodup_cons] at nd
  have e2 : (n :: N).filter (fun x => decide (x ≠ n)) = N := by
    rw [List.filter_cons_of_neg (by simp)]
    exact List.filter_eq_self.mpr fun x hx => decide_eq_true fun y => nd.1 (by rw [← y]; exact hx)
  rw [e2] at z
  rw [e1]
  exact z
structure ExSt (C : Addr) (H0 H H' : Hp) (s p q l p2 q2 l2 : Addr) (W1 W2 : WS) (k : Nat) (es : List Tm) : Prop where
  two : Two C H0 H' s p q l p2 q2 l2 W1 ⟨W2.b, W2.ws, W2.tick, W2.fol + k, W2.live ++ es⟩
  ok : WOk ⟨W2.b, W2.ws, W2.tick, W2.fol + k, W2.live ++ es⟩
  kp : KpX s p2 l2 H H'
section
variable {P : Program} {w : World} {K : PySem.W.Frag} {mg : Str → Option Value} {base : Heap}
def spExtra60 (C : Addr) : Sp := fun vs H Q _ => ∃ (H0 : Hp) (s p q l p2 q2 l2 : Addr) (W1 W2 : WS) (last : Nat), vs = [.ref s, .ref p2, .int (last : Nat)] ∧ Two C H0 H s p q l p2 q2 l2 W1 W2 ∧ WOk W2 ∧ W2.live.length ≤ 900 ∧ W2.tick ≤ last ∧ last < 2 ^ 240 ∧
  ∀ H' k, Two C H0 H' s p q l p2 q2 l2 W1 { W2 with fol := W2.fol + k } → WOk { W2 with fol := W2.fol + k } → KpX s p2 l2 H H' → Q .non H'
theorem ok_extra60 {f C : Addr} {fd : FuncData} (F : Fun K "_law_extra" "_law_extra" s__law_extra f fd) (T : Tx K mg) (TW : TxW K mg C) (hP : HasPut P w K mg base 4 C)
    (m2 : HasM P w K mg base 3 C "cancel" ["self", "timer"] [] (spCancel C)) (m3 : HasM P w K mg base 4 C "reset" ["self", "timer", "due"] [] (spReset C)) (h1 : Has P w K mg base 2 "_law_next" ["_law_source_here", "_law_many"] [] spNext) :
    FnOk P w K mg base CX0 5 f fd ["_law_source_here", "_law_wheel", "_law_last"] (spExtra60 C) := by
  have cl_Wheel := TW.cl
  obtain ⟨g0, gd0, gs0, G_Wheel_put, M_Wheel_put, b_Wheel_put, v_Wheel_put, bK_Wheel_put⟩ := hP
  obtain ⟨g2, gd2, gs2, G_Wheel_cancel, M_Wheel_cancel, b_Wheel_cancel, v_Wheel_cancel⟩ := m2
  obtain ⟨g3, gd3, gs3, G_Wheel_reset, M_Wheel_reset, b_Wheel_reset, v_Wheel_reset⟩ := m3
  obtain ⟨f__law_next, fd__law_next, ds__law_next, G__law_next, m__law_next, k__law_next, b__law_next, v__law_next⟩ := h1
  refine F.ok sc__law_extra (fun vs H Q E h => ?_) (fun cdv A outer s0 H vs Q E hr h => ?_)
  · obtain ⟨H0, s, p, q, l, p2, q2, l2, W1, W2, last, rfl, _⟩ := h
    rfl
  · obtain ⟨H0, s, p, q, l, p2, q2, l2, W1, W2, last, rfl, T0, ok0, few, hle, hbig, c⟩ := h
    refine ⟨_, (pss_cons (ps_setLc (i := 3) (own := [("_law_at", 5)]) (g := gName 5) (tt := tYes) rfl sc__law_extra.nd rfl rfl (sw_true rfl rfl rfl (by decide +kernel)) (pi_range1 (by rfl) T.b_range (pa_cons (pe_op op_addN pe_int (pe_call G__law_next (hr.mono (by decide)) (by rfl) m__law_next k__law_next b__law_next v__law_next pass0 (pa_cons (pv 0) (pa_cons pe_int pa_nil)))) pa_nil)) (blkOk_by (own := [("_law_at", 5)]) (N := N__law_extra) (sc := defScope s__law_extra) (by decide +kernel)) (fun _ _ _ _ _ => (pg_name (i := 5) sc__law_extra.nd rfl (.inl rfl))) (fun _ _ _ _ _ => pts_nil) (fun _ _ _ _ _ => (pe_meth (pv 1) cl_Wheel M_Wheel_put G_Wheel_put hr b_Wheel_put v_Wheel_put pass0 (pa_cons (pe_op op_addN (pe_op op_addN (pv 2) pe_int) (pe_call G__law_next (hr.mono (by decide)) (by rfl) m__law_next k__law_next b__law_next v__law_next pass0 (pa_cons (pv 0) (pa_cons pe_int pa_nil)))) pa_nil))))
      (pss_cons (ps_if (pt_cmpR op_eq (pe_call G__law_next (hr.mono (by decide)) (by rfl) m__law_next k__law_next b__law_next v__law_next pass0 (pa_cons (pv 0) (pa_cons pe_int pa_nil))) pe_int (nomark _))
        (pss_one (ps_expr (pe_meth (pv 1) cl_Wheel M_Wheel_reset G_Wheel_reset hr b_Wheel_reset v_Wheel_reset pass0 (pa_cons (pe_ix (ix_listK (K := K) rfl) (pv 3) pe_int (fun _ _ => rfl)) (pa_cons (pe_op op_addN (pe_op op_addN (pv 2) pe_int) (pe_call G__law_next (hr.mono (by decide)) (by rfl) m__law_next k__law_next b__law_next v__law_next pass0 (pa_cons (pv 0) (pa_cons pe_int pa_nil)))) pa_nil)))))
        pss_nil)
      (pss_one (ps_for PassesOwn.never rfl (pi_list (pe_revL (pv 3))) (pg_name (i := 4) sc__law_extra.nd rfl (.inl rfl))
        (pss_one (ps_expr (pe_meth (pv 1) cl_Wheel M_Wheel_cancel G_Wheel_cancel (hr.mono (by decide)) b_Wheel_cancel v_Wheel_cancel pass0 (pa_cons (pv 4) pa_nil)))))))), ?_⟩
    have X0 : ExSt C H0 H H s p q l p2 q2 l2 W1 W2 0 [] := ⟨by
      rw [Nat.add_zero, List.append_nil]
      exact T0, by
      rw [Nat.add_zero, List.append_nil]
      exact ok0, .refl⟩
    have hold : ∀ m ∈ W2.live, m.num < W2.fol := fun m hm => (ok0.tms m hm).num
    -- some are put
    refine ⟨_, rfl, s, 3, rfl, by decide, by decide, T0.src, fun r1 H1 hr1 s1 => ⟨1, r1, rfl, rfl, trivial, _, rfl, (by dsimp only; omega), (by dsimp only; omega), fun D hD => lc_range (lo := 0) (n := (((fun a b => a + b) 1 r1 : Nat) : Int).toNat) (fun i H' => ∃ es : List Tm, ExSt C H0 H H' s p q l p2 q2 l2 W1 W2 i es ∧ es.map (·.num) = (List.range i).map (fun x => W2.fol + x) ∧ H' D = some (.lst ((es.map (·.num)).map fun x => V.int (x : Nat)))) ?_ ?_ ?_⟩⟩
    · have X1 := X0.two.draw s1
      refine ⟨[], ⟨X1.same (same_upd hD), X0.ok, (KpX.stp s1).new (s1.free hD) rfl⟩, rfl, upd_same⟩
    · rintro i H2 hi ⟨es, X, hes, eD⟩
      have hi3 : i < 3 := by
        have z : i < (((1 + r1 : Nat) : Int)).toNat := hi
        omega
      have hel : es.length = i := by
        have z := congrArg List.length hes
        rw [List.length_map, List.length_map, List.length_range] at z
        exact z
      obtain ⟨dx, hp⟩ := X.two.at2.ins
      refine ⟨rfl, yesT (iteT ?_)⟩
      refine ⟨_, rfl, p2, dx, _, rfl, hp, nm_put, _, rfl, last, 1, rfl, rfl, trivial, _, rfl, s, 200, rfl, by decide, by decide, X.two.src, fun r3 H3 hr3 s3 => ⟨last + 1, r3, rfl, rfl, trivial, ?_⟩⟩
      have T3 := X.two.draw s3
      dsimp only
      obtain ⟨du, edu, hdu1, hdu2⟩ : ∃ d, d = last + 1 + r3 ∧ last < d ∧ d ≤ last + 201 := ⟨_, rfl, by omega, by omega⟩
      rw [← edu]
      have nD : D ≠ s := fun z => by
        obtain ⟨x, y, v, h⟩ := s1.src
        rw [← z, hD] at h
        cases h
      have eD3 := s3.keep _ _ nD eD
      refine ⟨p2, q2, l2, _, du, none, rfl, T3.at2, X.ok, (by show (W2.live ++ es).length < 1000; rw [List.length_append]; omega), (by show W2.tick < du; omega), (fun k e => by cases e), fun H4 k4 w4 => ?_⟩
      have T4 := (T3.swap.go k4 w4).swap
      have eD4 := k4.lst T3.at2 eD3
      have hDH : H D = none := s1.free hD
      have h0D : H0 D = none := T0.stp.free hDH
      have nDq : D ≠ q := fun z => by
        have y := T0.at1.words
        rw [← z, hDH] at y
        cases y
      have nDq2 : D ≠ q2 := fun z => by
        have y := T0.at2.words
        rw [← z, hDH] at y
        cases y
      have kp4 := (X.kp.trans (.stp s3)).trans (.wk k4)
      have ok4 := okw_put X.ok (by show (W2.live ++ es).length < 1000; rw [List.length_append]; omega) (d := du) (o := none) (by show W2.tick < du; omega) (by omega) (fun k e => by cases e)
      refine ⟨_, eD4, ?_, es ++ [⟨W2.fol + i, du, none, W2.tick⟩], ⟨?_, ?_, kp4.new hDH rfl⟩, ?_, ?_⟩
      · rw [List.length_map, List.length_map]
        exact sizeLine_ge (by omega)
      · have z := T4.lst (ys := ((es.map (·.num)).map fun x => V.int (x : Nat)) ++ [.int ((W2.fol + i : Nat) : Int)]) eD4 h0D nDq nDq2
        rw [← List.append_assoc]
        exact z
      · rw [← List.append_assoc]
        exact ok4
      · rw [List.map_append, hes, List.range_succ, List.map_append]
        rfl
      · rw [upd_same, List.map_append, List.map_append]
        rfl
    rintro H2 ⟨es, X2, hes, eD2⟩
    obtain ⟨k, ek⟩ : ∃ k, k = (((fun a b => a + b) 1 r1 : Nat) : Int).toNat := ⟨_, rfl⟩
    rw [← ek] at X2 hes
    have hk : k = 1 + r1 := by
      rw [ek]
      dsimp only
      omega
    have hel : es.length = k := by
      have z := congrArg List.length hes
      rw [List.length_map, List.length_map, List.length_range] at z
      exact z
    have hDH : H D = none := s1.free hD
    have nD : D ≠ s := fun z => by
      obtain ⟨x, y, v, h⟩ := T0.src
      rw [← z, hDH] at h
      cases h
    have hnew : ∀ x ∈ es.map (·.num), W2.fol ≤ x := fun x hx => by
      rw [hes] at hx
      obtain ⟨y, _, rfl⟩ := List.mem_map.mp hx
      exact Nat.le_add_right _ _
    have hndN : (es.map (·.num)).Nodup := by
      have z := X2.ok.nd
      have z2 : ((W2.live ++ es).map (·.num)).Nodup := z
      rw [List.map_append] at z2
      exact (List.nodup_append.mp z2).2.1
    refine ⟨_, rfl, s, 2, rfl, by decide, by decide, X2.two.src, fun r3 H3 hr3 s3 => ?_⟩
    have X3 : ExSt C H0 H H3 s p q l p2 q2 l2 W1 W2 k es := ⟨X2.two.draw s3, X2.ok, X2.kp.trans (.stp s3)⟩
    have eD3 := s3.keep _ _ nD eD2
    -- one may be reset
    apply cut_rest (I := fun H' => ∃ es' : List Tm, ExSt C H0 H H' s p q l p2 q2 l2 W1 W2 k es' ∧ (es'.map (·.num)).Perm (es.map (·.num)) ∧ H' D = some (.lst ((es.map (·.num)).map fun x => V.int (x : Nat))))
    · intro fin
      by_cases c1 : r3 = 0
      · refine ⟨rfl, true, dT (vE c1), iteT ?_⟩
        obtain ⟨dx, hp⟩ := X3.two.at2.ins
        obtain ⟨m, es1, ees⟩ : ∃ m es1, es = m :: es1 := by
          cases es with
          | nil =>
            rw [List.length_nil] at hel
            omega
          | cons m es1 => exact ⟨m, es1, rfl⟩
        have hmem : m ∈ W2.live ++ es := by
          rw [ees]
          exact List.mem_append_right _ (List.mem_cons_self ..)
        have e0 : ((es.map (·.num)).map fun x => V.int (x : Nat))[0]? = some (.int (m.num : Nat)) := by
          rw [ees]
          rfl
        refine ⟨_, rfl, p2, dx, _, rfl, hp, nm_reset0, .ref D, rfl, D, _, 0, _, rfl, rfl, SqL.of eD3, atI_nat (j := 0) e0, _, rfl, last, 5, rfl, rfl, trivial, _, rfl, s, 300, rfl, by decide, by decide, X3.two.src, fun r4 H4 hr4 s4 => ⟨last + 5, r4, rfl, rfl, trivial, ?_⟩⟩
        have T4 := X3.two.draw s4
        have eD4 := s4.keep _ _ nD eD3
        have hl1 : (W2.live ++ es).length ≤ 1000 := by
          rw [List.length_append]
          omega
        refine ⟨p2, q2, l2, _, m, _, rfl, T4.at2, X3.ok.nd, hl1, hmem, (by show W2.tick < last + 5 + r4; omega), fun H5 k5 w5 => ?_⟩
        have T5 := (T4.swap.go k5 w5).swap
        have eD5 := k5.lst T4.at2 eD4
        have ok5 := okw_reset X3.ok hmem (d := last + 5 + r4) (by show W2.tick < _; omega) (by omega)
        have hmn : ∀ x ∈ W2.live, x.num ≠ m.num := fun x hx z => by
          have h1 := hold x hx
          have h2 := hnew m.num (by rw [ees]; exact List.mem_cons_self ..)
          omega
        have ed : dropT m.num (W2.live ++ es) ++ [⟨m.num, last + 5 + r4, m.per, W2.tick⟩] = W2.live ++ (dropT m.num es ++ [⟨m.num, last + 5 + r4, m.per, W2.tick⟩]) := by
          rw [drop_tail hmn, List.append_assoc]
        have T6 : Two C H0 H5 s p q l p2 q2 l2 W1 ⟨W2.b, W2.ws, W2.tick, W2.fol + k, W2.live ++ (dropT m.num es ++ [⟨m.num, last + 5 + r4, m.per, W2.tick⟩])⟩ := by
          rw [← ed]
          exact T5
        have ok6 : WOk ⟨W2.b, W2.ws, W2.tick, W2.fol + k, W2.live ++ (dropT m.num es ++ [⟨m.num, last + 5 + r4, m.per, W2.tick⟩])⟩ := by
          rw [← ed]
          exact ok5
        refine fin H5 ⟨_, ⟨T6, ok6, (X3.kp.trans (.stp s4)).trans (.wk k5)⟩, ?_, eD5⟩
        have hp1 : (es.map (·.num)).Perm (m.num :: es1.map (·.num)) := by
          rw [ees]
          exact List.Perm.refl _
        have hp2 := drop_nums hp1 (hp1.nodup_iff.mp hndN)
        rw [List.map_append, ees]
        rw [ees] at hp2
        exact (hp2.append_right _).trans (List.perm_append_singleton _ _)
      · refine ⟨rfl, false, dF (vN c1), iteF ?_⟩
        exact fin H3 ⟨es, X3, List.Perm.refl _, eD3⟩
    · rintro H4 ⟨es4, X4, hp4, eD4⟩
      obtain ⟨N, eN⟩ : ∃ N, N = (es.map (·.num)).reverse := ⟨_, rfl⟩
      have hNn : N.Nodup := by
        rw [eN]
        exact (List.reverse_perm _).nodup_iff.mpr hndN
      have hpN : (es4.map (·.num)).Perm N := by
        rw [eN]
        exact hp4.trans (List.reverse_perm _).symm
      refine ⟨_, rfl, D, _, rfl, SqL.of eD4, fun B hB => ?_⟩
      have uB := same_upd (o := .lst ((es.map (·.num)).map fun x => V.int (x : Nat)).reverse) hB
      have eB : (upd H4 B (.lst ((es.map (·.num)).map fun x => V.int (x : Nat)).reverse)) B = some (.lst (N.map fun x => V.int (x : Nat))) := by
        rw [upd_same, eN, List.map_reverse]
      have X5 : ExSt C H0 H (upd H4 B (.lst ((es.map (·.num)).map fun x => V.int (x : Nat)).reverse)) s p q l p2 q2 l2 W1 W2 k es4 := ⟨X4.two.same uB, X4.ok, X4.kp.trans (.same uB)⟩
      generalize upd H4 B (.lst ((es.map (·.num)).map fun x => V.int (x : Nat)).reverse) = H5 at eB X5 ⊢
      refine ⟨B, rfl, ⟨_, SqL.of eB⟩, for_list (K := K) (a := B) (xs := N.map fun x => V.int (x : Nat)) (fun j σ H' => ∃ (y4 : Option V) (es' : List Tm), σ = [some (.ref s), some (.ref p2), some (.int (last : Nat)), some (.ref D), y4, none] ∧ ExSt C H0 H H' s p q l p2 q2 l2 W1 W2 k es' ∧ (es'.map (·.num)).Perm (N.drop j) ∧ H' B = some (.lst (N.map fun x => V.int (x : Nat)))) ⟨_, es4, rfl, X5, hpN, eB⟩ (fun j σ H' _ ⟨_, _, _, _, _, e⟩ => SqL.of e) ?_ ?_⟩
      · rintro j v σ H6 hv ⟨y4, es', rfl, X6, hp6, eB6⟩
        obtain ⟨n, hn, rfl⟩ := mapped_nat hv
        have hjl := (List.getElem?_eq_some_iff.mp hn).1
        have edrop : N.drop j = n :: N.drop (j + 1) := by
          rw [List.drop_eq_getElem_cons hjl, (List.getElem?_eq_some_iff.mp hn).2]
        rw [edrop] at hp6
        have hnd6 : (n :: N.drop (j + 1)).Nodup := by
          rw [← edrop]
          exact hNn.sublist (List.drop_sublist _ _)
        obtain ⟨m, hm, em⟩ := List.mem_map.mp (hp6.mem_iff.mpr (List.mem_cons_self ..))
        obtain ⟨dx, hp⟩ := X6.two.at2.ins
        refine ⟨_, rfl, p2, dx, _, rfl, hp, nm_cancel, _, rfl, p2, q2, l2, _, n, rfl, X6.two.at2, X6.ok.nd, ⟨m, List.mem_append_right _ hm, em⟩, fun H7 k7 w7 => ?_⟩
        have T7 := (X6.two.swap.go k7 w7).swap
        have ok7 := okw_drop (n := n) X6.ok
        have hmn : ∀ x ∈ W2.live, x.num ≠ n := fun x hx z => by
          have h1 := hold x hx
          have h2 := hnew n (by
            have y := List.mem_of_getElem? hn
            rw [eN] at y
            exact List.mem_reverse.mp y)
          omega
        have ed : dropT n (W2.live ++ es') = W2.live ++ dropT n es' := drop_tail hmn
        have T8 : Two C H0 H7 s p q l p2 q2 l2 W1 ⟨W2.b, W2.ws, W2.tick, W2.fol + k, W2.live ++ dropT n es'⟩ := by
          rw [← ed]
          exact T7
        have ok8 : WOk ⟨W2.b, W2.ws, W2.tick, W2.fol + k, W2.live ++ dropT n es'⟩ := by
          rw [← ed]
          exact ok7
        exact ⟨_, dropT n es', rfl, ⟨T8, ok8, X6.kp.trans (.wk k7)⟩, drop_nums hp6 hnd6, k7.lst X6.two.at2 eB6⟩
      · rintro σ H6 ⟨y4, es', rfl, X6, hp6, eB6⟩
        rw [List.length_map, List.drop_length] at hp6
        have e0 : es' = [] := by
          have z := hp6.length_eq
          rw [List.length_map] at z
          exact List.eq_nil_of_length_eq_zero z
        subst e0
        have T9 := X6.two
        have ok9 := X6.ok
        rw [List.append_nil] at T9 ok9
        exact c H6 k T9 ok9 X6.kp
end
/-! ### law k60: two wheels and the dict of numbers -/
theorem WheelAt.dict {C : Addr} {H : Hp} {p q l d : Addr} {W : WS} {kv kv' : List (Key × V)} (w : WheelAt C H p q l W) (e : H d = some (.dK kv)) (n : d ≠ l) : WheelAt C (upd H d (.dK kv')) p q l W := by
  have kp : ∀ c o, c ≠ d → H c = some o → (upd H d (.dK kv')) c = some o := fun c o n e => by
    rw [upd_ne n]
    exact e
  have kt : ∀ {c : Addr} {o : HO}, (∀ k, o ≠ .dK k) → H c = some o → (upd H d (.dK kv')) c = some o := fun {c o} h1 h2 => kp _ _ (fun z => by
    rw [z, e] at h2
    exact h1 _ (Option.some.inj h2).symm) h2
  obtain ⟨dx, hp⟩ := w.ins
  obtain ⟨kvs, hl, L⟩ := w.live
  exact ⟨⟨dx, kt (by intro _ z; cases z) hp⟩, kt (by intro _ z; cases z) w.words, ⟨kvs, kp _ _ (Ne.symm n) hl, L.frame fun t m e => kt (by intro _ z; cases z) e⟩⟩
theorem Two.dict {C : Addr} {H0 H : Hp} {s p q l p2 q2 l2 d : Addr} {W W2 : WS} {kv kv' : List (Key × V)} (T : Two C H0 H s p q l p2 q2 l2 W W2) (e : H d = some (.dK kv)) (h0 : H0 d = none) (n : d ≠ l) (n2 : d ≠ l2) : Two C H0 (upd H d (.dK kv')) s p q l p2 q2 l2 W W2 := by
  have kp : ∀ c o, c ≠ d → H c = some o → (upd H d (.dK kv')) c = some o := fun c o n e => by
    rw [upd_ne n]
    exact e
  refine ⟨fun c o n e => kp _ _ (ne_of_none e h0) (T.keep c o n e), ?_, T.src0, T.p0, T.q0, T.l0, T.p20, T.q20, T.l20, T.np, T.nl, T.at1.dict e n, T.at2.dict e n2⟩
  obtain ⟨x, y, z, h⟩ := T.src
  exact ⟨x, y, z, kp _ _ (fun y => by
    rw [y, e] at h
    cases h) h⟩
structure SetSt (C : Addr) (H0 H : Hp) (s p q l p2 q2 l2 d : Addr) (b n sp : Nat) (ws : List Bool) (i : Nat) (W1 W2 : WS) (xs : List (Nat × Nat)) : Prop where
  two : Two C H0 H s p q l p2 q2 l2 W1 W2
  eD : H d = some (.dK (duP xs))
  keys : xs.map (·.1) = W2.live.map (·.num)
  vals : xs.map (·.2) = List.range i
  ren : W1.live = W2.live.map (renG (gX xs))
  fol : W1.fol = i
  ok1 : WOk W1
  ok2 : WOk W2
  b1 : W1.b = b
  b2 : W2.b = b
  w1 : W1.ws = trimW ws
  w2 : W2.ws = trimW ws
  t1 : W1.tick = n
  t2 : W2.tick = n
  tm : ∀ m ∈ W2.live, n < m.due ∧ m.due ≤ n + sp ∧ ∀ k, m.per = some k → sp / 5 + 1 ≤ k ∧ k ≤ 2 * sp
section
variable {C : Addr} {H0 H H' : Hp} {s p q l p2 q2 l2 d : Addr} {b n sp i : Nat} {ws : List Bool} {W1 W2 : WS} {xs : List (Nat × Nat)}
theorem SetSt.same (S : SetSt C H0 H s p q l p2 q2 l2 d b n sp ws i W1 W2 xs) (k : Same H H') : SetSt C H0 H' s p q l p2 q2 l2 d b n sp ws i W1 W2 xs := ⟨S.two.same k, k _ _ S.eD, S.keys, S.vals, S.ren, S.fol, S.ok1, S.ok2, S.b1, S.b2, S.w1, S.w2, S.t1, S.t2, S.tm⟩
theorem SetSt.draw (S : SetSt C H0 H s p q l p2 q2 l2 d b n sp ws i W1 W2 xs) (k : Stp s H H') : SetSt C H0 H' s p q l p2 q2 l2 d b n sp ws i W1 W2 xs := ⟨S.two.draw k, k.keep _ _ (fun z => by
  obtain ⟨x, y, v, h⟩ := S.two.src
  have e := S.eD
  rw [z, h] at e
  cases e) S.eD, S.keys, S.vals, S.ren, S.fol, S.ok1, S.ok2, S.b1, S.b2, S.w1, S.w2, S.t1, S.t2, S.tm⟩
theorem SetSt.len (S : SetSt C H0 H s p q l p2 q2 l2 d b n sp ws i W1 W2 xs) : W2.live.length = i ∧ xs.length = i := by
  have h1 := congrArg List.length S.keys
  have h2 := congrArg List.length S.vals
  rw [List.length_map, List.length_map] at h1
  rw [List.length_map, List.length_range] at h2
  omega
theorem SetSt.nd (S : SetSt C H0 H s p q l p2 q2 l2 d b n sp ws i W1 W2 xs) : (xs.map (·.1)).Nodup := by
  rw [S.keys]
  exact S.ok2.nd
theorem SetSt.inj (S : SetSt C H0 H s p q l p2 q2 l2 d b n sp ws i W1 W2 xs) : InjN (gX xs) (W2.live.map (·.num)) := by
  rw [← S.keys]
  exact gx_inj (by rw [S.vals]; exact List.nodup_range)
/-- the next timer, in both -/
theorem SetSt.more (S : SetSt C H0 H s p q l p2 q2 l2 d b n sp ws i W1 W2 xs) {du : Nat} {o : Option Nat} (hi : i < 900) (hn : n < 2 ^ 191) (hsp : sp ≤ 10 ^ 30) (h1 : n < du) (h2 : du ≤ n + sp) (ho : ∀ k, o = some k → sp / 5 + 1 ≤ k ∧ k ≤ 2 * sp)
    (T : Two C H0 H' s p q l p2 q2 l2 { W1 with fol := W1.fol + 1, live := W1.live ++ [⟨W1.fol, du, o, W1.tick⟩] } { W2 with fol := W2.fol + 1, live := W2.live ++ [⟨W2.fol, du, o, W2.tick⟩] }) (e : H' d = some (.dK (duP (xs ++ [(W2.fol, W1.fol)])))) :
    SetSt C H0 H' s p q l p2 q2 l2 d b n sp ws (i + 1) { W1 with fol := W1.fol + 1, live := W1.live ++ [⟨W1.fol, du, o, W1.tick⟩] } { W2 with fol := W2.fol + 1, live := W2.live ++ [⟨W2.fol, du, o, W2.tick⟩] } (xs ++ [(W2.fol, W1.fol)]) := by
  have hl := S.len
  have hl1 : W1.live.length = i := by
    rw [S.ren, List.length_map]
    exact hl.1
  have hbig : du < 2 ^ 250 := by omega
  have hno : W2.fol ∉ xs.map (·.1) := fun z => by
    rw [S.keys] at z
    obtain ⟨m, hm, e⟩ := List.mem_map.mp z
    have := (S.ok2.tms m hm).num
    omega
  have hk1 : ∀ k, o = some k → 1 ≤ k := fun k hk => by
    have := (ho k hk).1
    omega
  refine ⟨T, e, ?_, ?_, ?_, congrArg (· + 1) S.fol, okw_put S.ok1 (by omega) (by rw [S.t1]; exact h1) hbig hk1, okw_put S.ok2 (by omega) (by rw [S.t2]; exact h1) hbig hk1, S.b1, S.b2, S.w1, S.w2, S.t1, S.t2, (fun m hm => ?_)⟩
  · rw [List.map_append, List.map_append, S.keys]
    rfl
  · rw [List.map_append, S.vals, List.range_succ, S.fol]
    rfl
  · show W1.live ++ [⟨W1.fol, du, o, W1.tick⟩] = (W2.live ++ [⟨W2.fol, du, o, W2.tick⟩] : List Tm).map (renG (gX (xs ++ [(W2.fol, W1.fol)])))
    rw [List.map_append, S.ren]
    congr 1
    · refine List.map_congr_left fun m hm => ?_
      unfold renG
      rw [gx_app (by rw [S.keys]; exact List.mem_map.mpr ⟨m, hm, rfl⟩)]
    · show [(⟨W1.fol, du, o, W1.tick⟩ : Tm)] = [(⟨gX (xs ++ [(W2.fol, W1.fol)]) W2.fol, du, o, W2.tick⟩ : Tm)]
      have z := gx_last (xs := xs) (y := (W2.fol, W1.fol)) hno
      rw [show gX (xs ++ [(W2.fol, W1.fol)]) W2.fol = W1.fol from z, S.t1, S.t2]
  · rcases List.mem_append.mp hm with z | z
    · exact S.tm m z
    · rw [List.mem_singleton.mp z]
      exact ⟨h1, h2, ho⟩
/-- how often the timers fire -/
theorem SetSt.sum (S : SetSt C H0 H s p q l p2 q2 l2 d b n sp ws i W1 W2 xs) {last : Nat} (h : last < n + 2 * sp) : sumF last W2.live ≤ 10 * i := by
  have key : ∀ ms : List Tm, (∀ m ∈ ms, n < m.due ∧ m.due ≤ n + sp ∧ ∀ k, m.per = some k → sp / 5 + 1 ≤ k ∧ k ≤ 2 * sp) → sumF last ms ≤ 10 * ms.length := by
    intro ms
    induction ms with
    | nil => exact fun _ => Nat.le_refl _
    | cons m ms ih =>
      intro hm
      have z := ih fun x hx => hm x (List.mem_cons_of_mem _ hx)
      obtain ⟨h1, h2, h3⟩ := hm m (List.mem_cons_self ..)
      rw [sumF_cons, List.length_cons]
      have y : frN last m ≤ 10 := by
        unfold frN
        split
        · omega
        · split
          · omega
          · rename_i k hk
            obtain ⟨k1, _⟩ := h3 k hk
            have d1 : (last - m.due) / k < 10 := (Nat.div_lt_iff_lt_mul (by omega)).mpr (by omega)
            omega
      omega
  have z := key W2.live S.tm
  rw [S.len.1] at z
  exact z
theorem SetSt.far (S : SetSt C H0 H s p q l p2 q2 l2 d b n sp ws i W1 W2 xs) {last : Nat} (hn : n < 2 ^ 191) (hsp : sp ≤ 10 ^ 30) (h : last < n + 2 * sp) : FarW last W2 ∧ FarW last W1 := by
  have h2 : ∀ m ∈ W2.live, AdvT last m := fun m hm => by
    obtain ⟨a1, a2, a3⟩ := S.tm m hm
    have o := S.ok2.tms m hm
    refine ⟨Nat.lt_of_le_of_lt o.since o.due, by omega, fun k hk => ?_⟩
    have := a3 k hk
    omega
  refine ⟨⟨S.ok2, h2⟩, ⟨S.ok1, fun m hm => ?_⟩⟩
  rw [S.ren] at hm
  obtain ⟨m0, h0, rfl⟩ := List.mem_map.mp hm
  have a := h2 m0 h0
  exact ⟨a.since, a.due, a.per⟩
end
theorem total_tf (g : Nat → Nat) (fs : List (Nat × List Nat)) : total (fs.map (tfG g)) = total fs := by
  unfold total
  rw [List.map_map]
  congr 1
  refine List.map_congr_left fun f _ => ?_
  show (f.2.map g).length = f.2.length
  rw [List.length_map]
theorem KpX.fired {C r s p q l : Addr} {W : WS} {H0 H H' : Hp} (hs0 : SrcAt H0 s) (hs : SrcAt H s) (w : WheelAt C H p q l W) (k : KpX s p l H H') : ∀ {ts : List Addr} {fs : List (Nat × List Nat)}, FiredAt r H ts fs → FrT H0 H ts → FiredAt r H' ts fs
  | [], [], _, _ => trivial
  | t :: _, _ :: _, ⟨⟨u, h1, h2, h3⟩, h4⟩, n => by
    obtain ⟨a, u', n1, n2⟩ := n t (List.mem_cons_self ..)
    rw [h1] at n1
    cases n1
    obtain ⟨dx, hp⟩ := w.ins
    obtain ⟨kvs, hl, _⟩ := w.live
    obtain ⟨x, y, v, h⟩ := hs
    obtain ⟨x0, y0, v0, h0⟩ := hs0
    have nts : t ≠ s := fun z => by
      rw [z, h] at h1
      cases h1
    have nus : u ≠ s := fun z => by
      rw [z, h0] at n2
      cases n2
    refine ⟨⟨u, k _ _ nts (ne_of h1 hp (by intro z; cases z)) (ne_of h1 hl (by intro z; cases z)) h1, h2, k _ _ nus (ne_of h3 hp (by intro z; cases z)) (ne_of h3 hl (by intro z; cases z)) h3⟩, KpX.fired ⟨x0, y0, v0, h0⟩ ⟨x, y, v, h⟩ w k h4 fun x hx => n x (List.mem_cons_of_mem _ hx)⟩
  | [], _ :: _, h, _ => h.elim
  | _ :: _, [], h, _ => h.elim
theorem KpX.frt {C s p q l : Addr} {W : WS} {H0 H H' : Hp} {ts : List Addr} (hs : SrcAt H s) (w : WheelAt C H p q l W) (k : KpX s p l H H') (h : FrT H0 H ts) : FrT H0 H' ts := h.frame fun t xs e => by
  obtain ⟨dx, hp⟩ := w.ins
  obtain ⟨kvs, hl, _⟩ := w.live
  obtain ⟨x, y, v, hs'⟩ := hs
  exact k _ _ (ne_of e hs' (by intro z; cases z)) (ne_of e hp (by intro z; cases z)) (ne_of e hl (by intro z; cases z)) e
/-- the other one goes on, what fires is gathered -/
structure RunB (C : Addr) (H0 H : Hp) (s p q l p2 q2 l2 d F : Addr) (W1 W2 : WS) (xs : List (Nat × Nat)) (last t fo : Nat) (ms : List Tm) (ts : List Addr) (fs : List (Nat × List Nat)) : Prop where
  two : Two C H0 H s p q l p2 q2 l2 W1 ⟨W2.b, W2.ws, t, fo, ms⟩
  adv : AdvTo W2.b W2.ws t W2.live fs ms
  le : t ≤ last
  far : FarW last ⟨W2.b, W2.ws, t, fo, ms⟩
  sum : total fs + sumF last ms = sumF last W2.live
  len : fs.length ≤ total fs
  few : ms.length ≤ 190
  at_ : H F = some (.lst (ts.map V.ref))
  fat : FiredAt F H ts fs
  frt : FrT H0 H ts
  nF : F ≠ s
  eD : H d = some (.dK (duP xs))
  nd2 : d ≠ l2
section
variable {C : Addr} {H0 H H' : Hp} {s p q l p2 q2 l2 d F : Addr} {W1 W2 : WS} {xs : List (Nat × Nat)} {last t fo : Nat} {ms : List Tm} {ts : List Addr} {fs : List (Nat × List Nat)}
theorem total_app2 (a c : List (Nat × List Nat)) : total (a ++ c) = total a + total c := by
  unfold total
  rw [List.map_append, List.sum_append]
theorem RunB.same (R : RunB C H0 H s p q l p2 q2 l2 d F W1 W2 xs last t fo ms ts fs) (k : Same H H') : RunB C H0 H' s p q l p2 q2 l2 d F W1 W2 xs last t fo ms ts fs := ⟨R.two.same k, R.adv, R.le, R.far, R.sum, R.len, R.few, k _ _ R.at_, R.fat.same k, R.frt.frame fun t xs e => k _ _ e, R.nF, k _ _ R.eD, R.nd2⟩
theorem RunB.extra (R : RunB C H0 H s p q l p2 q2 l2 d F W1 W2 xs last t fo ms ts fs) {k : Nat} (T : Two C H0 H' s p q l p2 q2 l2 W1 ⟨W2.b, W2.ws, t, fo + k, ms⟩) (ok : WOk ⟨W2.b, W2.ws, t, fo + k, ms⟩) (kp : KpX s p2 l2 H H') : RunB C H0 H' s p q l p2 q2 l2 d F W1 W2 xs last t (fo + k) ms ts fs := by
  obtain ⟨dx, hp⟩ := R.two.at2.ins
  obtain ⟨kvs, hl, _⟩ := R.two.at2.live
  obtain ⟨x, y, v, hs⟩ := R.two.src
  exact ⟨T, R.adv, R.le, ⟨ok, R.far.adv⟩, R.sum, R.len, R.few, kp _ _ R.nF (ne_of R.at_ hp (by intro z; cases z)) (ne_of R.at_ hl (by intro z; cases z)) R.at_, kp.fired R.two.src0 R.two.src R.two.at2 R.fat R.frt, kp.frt R.two.src R.two.at2 R.frt, R.nF, kp _ _ (ne_of R.eD hs (by intro z; cases z)) (ne_of R.eD hp (by intro z; cases z)) R.nd2 R.eD, R.nd2⟩
/-- a part of the way -/
theorem RunB.go (R : RunB C H0 H s p q l p2 q2 l2 d F W1 W2 xs last t fo ms ts fs) {r l' N : Addr} {t' : Nat} {us : List Addr} {gs : List (Nat × List Nat)} {ms' : List Tm} (htt : t ≤ t') (hle : t' ≤ last) (ha : AdvTo W2.b W2.ws t' ms gs ms') (hs : total gs + sumF last ms' = sumF last ms) (hl : gs.length ≤ total gs) (hf : FarW last ⟨W2.b, W2.ws, t', fo, ms'⟩) (hm : ms'.length ≤ ms.length)
    (k : Wk p2 l2 H H' l') (hr : H r = none) (er : H' r = some (.lst (us.map V.ref))) (fa : FiredAt r H' us gs) (fr : FrT H H' us) (w : WheelAt C H' p2 q2 l' ⟨W2.b, W2.ws, t', fo, ms'⟩) (hN : H' N = none) :
    RunB C H0 (upd H' N (.lst (ts.map V.ref ++ us.map V.ref))) s p q l p2 q2 l' d N W1 W2 xs last t' fo ms' (ts ++ us) (fs ++ gs) := by
  have kN := same_upd (o := .lst (ts.map V.ref ++ us.map V.ref)) hN
  have T := (R.two.swap.go k w).swap
  have few := R.few
  obtain ⟨dx, hp⟩ := R.two.at2.ins
  have eD := k.keep _ _ (ne_of R.eD hp (by intro z; cases z)) R.nd2 R.eD
  refine ⟨T.same kN, R.adv.trans htt ha, hle, hf, ?_, ?_, by omega, ?_, FiredAt.cat ((R.fat.wk k R.two.at2).to hN) (fa.to hN), fun x hx => ?_, T.src.ne hN, kN _ _ eD, ?_⟩
  · have h1 := R.sum
    rw [total_app2]
    omega
  · have h1 := R.len
    rw [total_app2, List.length_append]
    omega
  · rw [upd_same, List.map_append]
  · rcases List.mem_append.mp hx with z | z
    · obtain ⟨a, u, h1, h2⟩ := R.frt x z
      exact ⟨a, u, kN _ _ (k.tup R.two.at2 h1), h2⟩
    · obtain ⟨a, u, h1, h2⟩ := fr x z
      refine ⟨a, u, kN _ _ h1, ?_⟩
      cases e : H0 u with
      | none => rfl
      | some o =>
        by_cases eu : u = s
        · obtain ⟨x', y, v, h⟩ := R.two.src
          rw [eu, h] at h2
          cases h2
        · rw [R.two.keep u o eu e] at h2
          cases h2
  · rcases k.new with z | z
    · rw [z]
      exact R.nd2
    · exact ne_of_none R.eD z
end
theorem RunB.draw {C : Addr} {H0 H H' : Hp} {s p q l p2 q2 l2 d F : Addr} {W1 W2 : WS} {xs : List (Nat × Nat)} {last t fo : Nat} {ms : List Tm} {ts : List Addr} {fs : List (Nat × List Nat)} (R : RunB C H0 H s p q l p2 q2 l2 d F W1 W2 xs last t fo ms ts fs) (k : Stp s H H') : RunB C H0 H' s p q l p2 q2 l2 d F W1 W2 xs last t fo ms ts fs := by
  obtain ⟨x, y, v, hs⟩ := R.two.src
  exact ⟨R.two.draw k, R.adv, R.le, R.far, R.sum, R.len, R.few, k.keep _ _ R.nF R.at_, (KpX.stp (p := p2) (l := l2) k).fired R.two.src0 R.two.src R.two.at2 R.fat R.frt, (KpX.stp (p := p2) (l := l2) k).frt R.two.src R.two.at2 R.frt, R.nF, k.keep _ _ (ne_of R.eD hs (by intro z; cases z)) R.eD, R.nd2⟩
/-! ### what fired, as data -/
def firedD (f : Nat × List Nat) : PyData := .tuple [.int (f.1 : Nat), .list (f.2.map fun x => PyData.int (x : Nat))]
theorem fired_dp {K : PySem.W.Frag} {r : Addr} {H : Hp} : ∀ {ts : List Addr} {fs : List (Nat × List Nat)}, FiredAt r H ts fs → DpAll K H (ts.map V.ref) (fs.map firedD)
  | [], [], _ => .nil
  | _ :: _, _ :: _, ⟨⟨u, h1, _, h2⟩, h3⟩ => .cons (.tup (SqT.of h1) (.cons (.int _) (.cons (.lst (SqL.of h2) (dp_nats _)) .nil))) (fired_dp h3)
  | [], _ :: _, h => h.elim
  | _ :: _, [], h => h.elim
theorem firedD_lay (f : Nat × List Nat) : (firedD f).canLay0 = true := by
  simp [firedD, PyData.canLay0, PyData.canLayAll0, nats_lay]
theorem fired_lay : ∀ fs : List (Nat × List Nat), PyData.canLayAll0 (fs.map firedD) = true
  | [] => rfl
  | f :: fs => by
    show ((firedD f).canLay0 && PyData.canLayAll0 (fs.map firedD)) = true
    rw [firedD_lay, fired_lay fs]
    rfl
theorem firedD_depth (f : Nat × List Nat) : (firedD f).depth ≤ 2 := by
  have h : (PyData.list (f.2.map fun x => PyData.int (x : Nat))).depth = 1 := by
    show PyData.depthAll _ + 1 = 1
    rw [nats_depth f.2]
  show max (PyData.depth _) (max (PyData.depth (PyData.list (f.2.map fun x => PyData.int (x : Nat)))) (PyData.depthAll [])) + 1 ≤ 2
  rw [h]
  exact Nat.le_refl 2
theorem fired_depth : ∀ fs : List (Nat × List Nat), PyData.depthAll (fs.map firedD) ≤ 2
  | [] => by decide
  | f :: fs => by
    show max (firedD f).depth (PyData.depthAll (fs.map firedD)) ≤ 2
    have h1 := fired_depth fs
    have h2 := firedD_depth f
    omega
theorem fired_shaped (fs : List (Nat × List Nat)) : SeqAt.shaped (.list (fs.map firedD)) = true := by
  have h1 : (PyData.list (fs.map firedD)).canLay0 = true := by
    show PyData.canLayAll0 (fs.map firedD) = true
    exact fired_lay fs
  have h2 : (PyData.list (fs.map firedD)).depth ≤ 64 := by
    show PyData.depthAll (fs.map firedD) + 1 ≤ 64
    have := fired_depth fs
    omega
  unfold SeqAt.shaped
  rw [h1, decide_eq_true h2]
  rfl
/-! ### lists of pairs of numbers as data -/
def prD (r : Nat × Nat) : PyData := .tuple [.int (r.1 : Nat), .int (r.2 : Nat)]
theorem prs_dp {K : PySem.W.Frag} {H : Hp} : ∀ {ts : List Addr} {rs : List (Nat × Nat)}, PrAt H ts rs → DpAll K H (ts.map V.ref) (rs.map prD)
  | [], [], _ => .nil
  | _ :: _, _ :: _, h => .cons (.tup (SqT.of h.1) (.cons (.int _) (.cons (.int _) .nil))) (prs_dp h.2)
  | [], _ :: _, h => h.elim
  | _ :: _, [], h => h.elim
theorem prs_lay : ∀ rs : List (Nat × Nat), PyData.canLayAll0 (rs.map prD) = true
  | [] => rfl
  | r :: rs => by
    show ((prD r).canLay0 && PyData.canLayAll0 (rs.map prD)) = true
    rw [prs_lay rs]
    rfl
theorem prs_depth : ∀ rs : List (Nat × Nat), PyData.depthAll (rs.map prD) ≤ 1
  | [] => by decide
  | r :: rs => by
    show max (prD r).depth (PyData.depthAll (rs.map prD)) ≤ 1
    have h1 := prs_depth rs
    have h2 : (prD r).depth = 1 := rfl
    omega
theorem prs_shaped (rs : List (Nat × Nat)) : SeqAt.shaped (.list (rs.map prD)) = true := by
  have h1 : (PyData.list (rs.map prD)).canLay0 = true := by
    show PyData.canLayAll0 (rs.map prD) = true
    exact prs_lay rs
  have h2 : (PyData.list (rs.map prD)).depth ≤ 64 := by
    show PyData.depthAll (rs.map prD) + 1 ≤ 64
    have := prs_depth rs
    omega
  unfold SeqAt.shaped
  rw [h1, decide_eq_true h2]
  rfl
/-! ### law k60: in parts and without trace -/
theorem nm_restoring {b : Nat} {q : Addr} {t f : Nat} {l : Addr} : (wfl b q t f l).lookup ("restoring" : Str) = none := wf_no (by decide +kernel) (by decide +kernel) (by decide +kernel) (by decide +kernel) (by decide +kernel)
theorem Two.make {C : Addr} {H H1 H2 : Hp} {s p q l p2 q2 l2 : Addr} {W W2 : WS} (hs : SrcAt H s) (k1 : Same H H1) (hp : H p = none) (hq : H q = none) (hl : H l = none) (w1 : WheelAt C H1 p q l W) (k2 : Same H1 H2) (hp2 : H1 p2 = none) (hq2 : H1 q2 = none) (hl2 : H1 l2 = none) (w2 : WheelAt C H2 p2 q2 l2 W2) : Two C H H2 s p q l p2 q2 l2 W W2 := by
  obtain ⟨dxx, hpp⟩ := w1.ins
  obtain ⟨kvs, hll, _⟩ := w1.live
  refine ⟨fun c o _ e => k2 _ _ (k1 c o e), (hs.same k1).same k2, hs, hp, hq, hl, k1.free hp2, k1.free hq2, k1.free hl2, fun e => ?_, fun e => ?_, w1.same k2, w2⟩
  · rw [e, hp2] at hpp
    cases hpp
  · rw [e, hl2] at hll
    cases hll
section
variable {P : Program} {w : World} {K : PySem.W.Frag} {mg : Str → Option Value} {base : Heap}
def spLaw (K : PySem.W.Frag) : Sp := fun vs H Q _ => ∃ (a : Addr) (ns : List Int), vs = [.ref a] ∧ SqL K H a (ns.map V.int) ∧ ns.length ≤ 63 ∧ ∀ H', Q (.bl true) H'
theorem ok_law {f C : Addr} {fd : FuncData} (F : Fun K "law" "law" s_law f fd) (T : Tx K mg) (TW : TxW K mg C) (hI : ∃ (fi : Addr) (fdi : FuncData), Mk K C fi ∧ FnOk P w K mg base CX0 5 fi fdi ["self", "base", "levels", "start"] (spInit C K) ∧ KBn K fdi ["self", "base", "levels", "start"] 3 [Str.ofString "start"] (fun us ws => us ++ ws) (fun vs zs => vs ++ zs)) (hP : HasPut P w K mg base 4 C)
    (h1 : Has P w K mg base 2 "_law_source" ["_law_script", "_law_k"] [] (spSource K)) (h2 : Has P w K mg base 3 "_law_base" ["_law_source_here"] [] spBase) (h3 : Has P w K mg base 3 "_law_levels" ["_law_source_here"] [] spLevels)
    (h4 : Has P w K mg base 3 "_law_tick" ["_law_source_here", "_law_base_here"] [] spTick) (h5 : Has P w K mg base 2 "_law_next" ["_law_source_here", "_law_many"] [] spNext)
    (h6 : Has P w K mg base 5 "_law_extra" ["_law_source_here", "_law_wheel", "_law_last"] [] (spExtra60 C)) (h7 : Has P w K mg base 1 "_law_turned" ["_law_rows", "_law_by"] [] spTurned)
    (m1 : HasM P w K mg base 6 C "restoring" ["self"] [] (spRestoring C)) (m2 : HasM P w K mg base 6 C "advance" ["self", "tick"] [] (spAdvance C)) (m3 : HasM P w K mg base 5 C "lists" ["self"] [] (spLists C)) (m4 : HasM P w K mg base 1 C "timers" ["self"] [] (spTimers C)) (m5 : HasM P w K mg base 1 C "now" ["self"] [] (spNow C)) :
    FnOk P w K mg base CX0 7 f fd ["_law_script"] (spLaw K) := by
  have cl_Wheel := TW.cl
  obtain ⟨fi, fdi, M_Wheel, G_Wheel_init, b_Wheel_init⟩ := hI
  have c_Wheel := TW.mgC
  obtain ⟨g0, gd0, gs0, G_Wheel_put, M_Wheel_put, b_Wheel_put, v_Wheel_put, bK_Wheel_put⟩ := hP
  obtain ⟨f__law_source, fd__law_source, ds__law_source, G__law_source, m__law_source, k__law_source, b__law_source, v__law_source⟩ := h1
  obtain ⟨f__law_base, fd__law_base, ds__law_base, G__law_base, m__law_base, k__law_base, b__law_base, v__law_base⟩ := h2
  obtain ⟨f__law_levels, fd__law_levels, ds__law_levels, G__law_levels, m__law_levels, k__law_levels, b__law_levels, v__law_levels⟩ := h3
  obtain ⟨f__law_tick, fd__law_tick, ds__law_tick, G__law_tick, m__law_tick, k__law_tick, b__law_tick, v__law_tick⟩ := h4
  obtain ⟨f__law_next, fd__law_next, ds__law_next, G__law_next, m__law_next, k__law_next, b__law_next, v__law_next⟩ := h5
  obtain ⟨f__law_extra, fd__law_extra, ds__law_extra, G__law_extra, m__law_extra, k__law_extra, b__law_extra, v__law_extra⟩ := h6
  obtain ⟨f__law_turned, fd__law_turned, ds__law_turned, G__law_turned, m__law_turned, k__law_turned, b__law_turned, v__law_turned⟩ := h7
  obtain ⟨g1, gd1, gs1, G_Wheel_restoring, M_Wheel_restoring, b_Wheel_restoring, v_Wheel_restoring⟩ := m1
  obtain ⟨g2, gd2, gs2, G_Wheel_advance, M_Wheel_advance, b_Wheel_advance, v_Wheel_advance⟩ := m2
  obtain ⟨g3, gd3, gs3, G_Wheel_lists, M_Wheel_lists, b_Wheel_lists, v_Wheel_lists⟩ := m3
  obtain ⟨g4, gd4, gs4, G_Wheel_timers, M_Wheel_timers, b_Wheel_timers, v_Wheel_timers⟩ := m4
  obtain ⟨g5, gd5, gs5, G_Wheel_now, M_Wheel_now, b_Wheel_now, v_Wheel_now⟩ := m5
  refine F.ok sc_law (fun vs H Q E h => ?_) (fun cdv A outer s H vs Q E hr h => ?_)
  · obtain ⟨a, ns, rfl, _⟩ := h
    rfl
  · obtain ⟨a, ns, rfl, hS, hlen, fin⟩ := h
    have hu := hu_of hr
    refine ⟨_, (pss_cons (ps_for PassesOwn.never rfl (pi_range1 (by rfl) T.b_range (pa_cons (pe_callB (call_max2 rfl) (by rfl) T.b_max (by decide +kernel) (pa_cons pe_int (pa_cons (pe_callB (call_min2 rfl) (by rfl) T.b_min (by decide +kernel) (pa_cons pe_int (pa_cons (pe_callB (lenK (K := K) rfl) (by rfl) T.b_len PySem.boot_len (pa_cons (pv 0) pa_nil)) pa_nil))) pa_nil))) pa_nil)) (pg_name (i := 1) sc_law.nd rfl (.inl rfl))
        (pss_cons (ps_set (i := 2) sc_law.nd rfl (.inl rfl) (pe_call G__law_source (hr.mono (by decide)) (by rfl) m__law_source k__law_source b__law_source v__law_source pass0 (pa_cons (pv 0) (pa_cons (pv 1) pa_nil))))
        (pss_cons (ps_par (i := 3) (j := 4) (by rfl) sc_law.nd rfl rfl (by decide) rfl rfl (pa_cons (pe_call G__law_base (hr.mono (by decide)) (by rfl) m__law_base k__law_base b__law_base v__law_base pass0 (pa_cons (pv 2) pa_nil)) (pa_cons (pe_call G__law_levels (hr.mono (by decide)) (by rfl) m__law_levels k__law_levels b__law_levels v__law_levels pass0 (pa_cons (pv 2) pa_nil)) pa_nil)) (by rfl))
        (pss_cons (ps_set (i := 5) sc_law.nd rfl (.inl rfl) (pe_call G__law_tick (hr.mono (by decide)) (by rfl) m__law_tick k__law_tick b__law_tick v__law_tick pass0 (pa_cons (pv 2) (pa_cons (pv 3) pa_nil))))
        (pss_cons (ps_set (i := 6) sc_law.nd rfl (.inl rfl) (pe_callTy call_list_of (by rfl) T.b_list (by decide +kernel) (pa_cons (pv 4) pa_nil)))
        (pss_cons (ps_par (i := 7) (j := 8) (by rfl) sc_law.nd rfl rfl (by decide) rfl rfl (pa_cons (pe_makeK M_Wheel G_Wheel_init hr (by rfl) c_Wheel b_Wheel_init pass0 (pa_cons (pv 3) (pa_cons (pv 6) pa_nil)) (pk_cons (pv 5) pk_nil)) (pa_cons (pe_makeK M_Wheel G_Wheel_init hr (by rfl) c_Wheel b_Wheel_init pass0 (pa_cons (pv 3) (pa_cons (pv 4) pa_nil)) (pk_cons (pv 5) pk_nil)) pa_nil)) (by rfl))
        (pss_cons (ps_expr (pe_bm0 PySem.F.plainAttrs_list PySem.F.slot_list_reverse PySem.F.type_list_reverse mt_reverse (pv 6)))
        (pss_cons (ps_expr (pe_bm PySem.F.plainAttrs_list PySem.F.slot_list_append PySem.F.type_list_append mt_append (pv 6) (pa_cons pe_str pa_nil)))
        (pss_cons (ps_set (i := 9) sc_law.nd rfl (.inr rfl) pe_dnewK)
        (pss_cons (ps_set (i := 10) sc_law.nd rfl (.inl rfl) (pe_ix (ix_listK (K := K) rfl) (pe_lst (pa_cons pe_int (pa_cons pe_int (pa_cons (pe_op op_pow pe_int pe_int) pa_nil)))) (pe_call G__law_next (hr.mono (by decide)) (by rfl) m__law_next k__law_next b__law_next v__law_next pass0 (pa_cons (pv 2) (pa_cons pe_int pa_nil))) (fun _ _ => rfl)))
        (pss_cons (ps_for PassesOwn.never rfl (pi_range1 (by rfl) T.b_range (pa_cons (pe_ix (ix_listK (K := K) rfl) (pe_lst (pa_cons (pe_op op_addN pe_int (pe_call G__law_next (hr.mono (by decide)) (by rfl) m__law_next k__law_next b__law_next v__law_next pass0 (pa_cons (pv 2) (pa_cons pe_int pa_nil)))) (pa_cons pe_int pa_nil))) (pe_callTy call_int1 (by rfl) T.b_int (by decide +kernel) (pa_cons (pe_cmpR op_eq (pe_call G__law_next (hr.mono (by decide)) (by rfl) m__law_next k__law_next b__law_next v__law_next pass0 (pa_cons (pv 2) (pa_cons pe_int pa_nil))) pe_int (nomark _)) pa_nil)) (fun _ _ => rfl)) pa_nil)) (pg_name (i := 11) sc_law.nd rfl (.inl rfl))
          (pss_cons (ps_set (i := 12) sc_law.nd rfl (.inl rfl) (pe_op op_addN (pe_op op_addN (pv 5) pe_int) (pe_call G__law_next (hr.mono (by decide)) (by rfl) m__law_next k__law_next b__law_next v__law_next pass0 (pa_cons (pv 2) (pa_cons (pv 10) pa_nil)))))
          (pss_cons (ps_set (i := 13) sc_law.nd rfl (.inl rfl) (pe_ix (ix_listK (K := K) rfl) (pe_lst (pa_cons pe_non (pa_cons pe_non (pa_cons (pe_op op_addN (pe_op op_addN (pe_op op_divN (pv 10) pe_int) pe_int) (pe_call G__law_next (hr.mono (by decide)) (by rfl) m__law_next k__law_next b__law_next v__law_next pass0 (pa_cons (pv 2) (pa_cons (pv 10) pa_nil)))) pa_nil)))) (pe_call G__law_next (hr.mono (by decide)) (by rfl) m__law_next k__law_next b__law_next v__law_next pass0 (pa_cons (pv 2) (pa_cons pe_int pa_nil))) (fun _ _ => rfl)))
          (pss_cons (ps_expr (pe_call G__law_extra (hr.mono (by decide)) (by rfl) m__law_extra k__law_extra b__law_extra v__law_extra pass0 (pa_cons (pv 2) (pa_cons (pv 8) (pa_cons (pe_op op_addN (pv 5) (pv 10)) pa_nil)))))
          (pss_one (ps_dput hu (pv 9) (pe_methK (pv 8) cl_Wheel M_Wheel_put G_Wheel_put (hr.mono (by decide)) bK_Wheel_put pass0 (pa_cons (pv 12) pa_nil) (pk_cons (pv 13) pk_nil)) (pe_methK (pv 7) cl_Wheel M_Wheel_put G_Wheel_put (hr.mono (by decide)) bK_Wheel_put pass0 (pa_cons (pv 12) pa_nil) (pk_cons (pv 13) pk_nil)) rfl))))))
        (pss_cons (ps_set (i := 14) sc_law.nd rfl (.inl rfl) (pe_op op_addN (pe_op op_addN (pv 5) (pv 10)) (pe_call G__law_next (hr.mono (by decide)) (by rfl) m__law_next k__law_next b__law_next v__law_next pass0 (pa_cons (pv 2) (pa_cons (pv 10) pa_nil)))))
        (pss_cons (ps_set (i := 15) sc_law.nd rfl (.inl rfl) (pe_lst pa_nil))
        (pss_cons (ps_for PassesOwn.never rfl (pi_range1 (by rfl) T.b_range (pa_cons (pe_op op_addN pe_int (pe_call G__law_next (hr.mono (by decide)) (by rfl) m__law_next k__law_next b__law_next v__law_next pass0 (pa_cons (pv 2) (pa_cons pe_int pa_nil)))) pa_nil)) (pg_name (i := 16) sc_law.nd rfl (.inl rfl))
          (pss_cons (ps_set (i := 17) sc_law.nd rfl (.inl rfl) (pe_op op_addN (pe_meth0 (pv 8) cl_Wheel M_Wheel_now G_Wheel_now (hr.mono (by decide)) b_Wheel_now v_Wheel_now pass0) (pe_op op_divN (pe_op op_subN (pv 14) (pe_meth0 (pv 8) cl_Wheel M_Wheel_now G_Wheel_now (hr.mono (by decide)) b_Wheel_now v_Wheel_now pass0)) pe_int)))
          (pss_cons (ps_set (i := 15) sc_law.nd rfl (.inl rfl) (pe_op op_cat (pv 15) (pe_meth (pv 8) cl_Wheel M_Wheel_advance G_Wheel_advance hr b_Wheel_advance v_Wheel_advance pass0 (pa_cons (pv 17) pa_nil))))
          (pss_cons (ps_expr (pe_call G__law_extra (hr.mono (by decide)) (by rfl) m__law_extra k__law_extra b__law_extra v__law_extra pass0 (pa_cons (pv 2) (pa_cons (pv 8) (pa_cons (pv 14) pa_nil)))))
          (pss_one (ps_if (pt_cmpR op_ne (pe_meth0 (pv 7) cl_Wheel M_Wheel_now G_Wheel_now (hr.mono (by decide)) b_Wheel_now v_Wheel_now pass0) (pv 5) (nomark _))
            (pss_one (ps_ret pe_bl))
            pss_nil))))))
        (pss_cons (ps_set (i := 15) sc_law.nd rfl (.inl rfl) (pe_op op_cat (pv 15) (pe_meth (pv 8) cl_Wheel M_Wheel_advance G_Wheel_advance hr b_Wheel_advance v_Wheel_advance pass0 (pa_cons (pv 14) pa_nil))))
        (pss_cons (ps_if (PW.pt (pw_or (pt_cmpR (op_neK (K := K) rfl hr.units) (pe_call G__law_turned (hr.mono (by decide)) (by rfl) m__law_turned k__law_turned b__law_turned v__law_turned pass0 (pa_cons (pv 15) (pa_cons (pv 9) pa_nil))) (pe_meth (pv 7) cl_Wheel M_Wheel_advance G_Wheel_advance hr b_Wheel_advance v_Wheel_advance pass0 (pa_cons (pv 14) pa_nil)) (nomark _)) (pw_or1 (pt_cmpR (op_neK (K := K) rfl hr.units) (pe_call G__law_turned (hr.mono (by decide)) (by rfl) m__law_turned k__law_turned b__law_turned v__law_turned pass0 (pa_cons (pe_meth0 (pv 8) cl_Wheel M_Wheel_lists G_Wheel_lists (hr.mono (by decide)) b_Wheel_lists v_Wheel_lists pass0) (pa_cons (pv 9) pa_nil))) (pe_meth0 (pv 7) cl_Wheel M_Wheel_lists G_Wheel_lists (hr.mono (by decide)) b_Wheel_lists v_Wheel_lists pass0) (nomark _)))))
          (pss_one (ps_ret pe_bl))
          pss_nil)
        (pss_cons (ps_if (pt_cmpR (op_neK (K := K) rfl hr.units) (pe_lc (own := [("_law_number", 11), ("_law_due", 12)]) (g := _) (tt := tYes) rfl sc_law.nd (pi_list (pe_meth0 (pv 8) cl_Wheel M_Wheel_restoring G_Wheel_restoring hr b_Wheel_restoring v_Wheel_restoring pass0)) (blkOk_by (own := [("_law_number", 11), ("_law_due", 12)]) (N := N_law) (sc := defScope s_law) (by decide +kernel)) (fun _ _ _ _ _ => (pg_tupK (K := K) (n := 2) rfl rfl (pgs_cons (pg_name (i := 11) sc_law.nd rfl (.inl rfl)) (pgs_cons (pg_name (i := 12) sc_law.nd rfl (.inl rfl)) pgs_nil)))) (fun _ _ _ _ _ => pts_nil) (fun _ _ _ _ _ => (pe_tup (pa_cons (pe_dget hu (pv 9) (pv 11) (fun _ _ => rfl)) (pa_cons (pv 12) pa_nil))))) (pe_meth0 (pv 7) cl_Wheel M_Wheel_restoring G_Wheel_restoring hr b_Wheel_restoring v_Wheel_restoring pass0) (nomark _))
          (pss_one (ps_ret pe_bl))
          pss_nil)
        (pss_one (ps_if (pt_cmpR (op_neK (K := K) rfl hr.units) (pe_callB cr_sortedI (by rfl) T.b_sorted (by decide +kernel) (pa_cons (pe_lc (own := [("_law_number", 11)]) (g := gName 11) (tt := tYes) rfl sc_law.nd (pi_list (pe_meth0 (pv 8) cl_Wheel M_Wheel_timers G_Wheel_timers (hr.mono (by decide)) b_Wheel_timers v_Wheel_timers pass0)) (blkOk_by (own := [("_law_number", 11)]) (N := N_law) (sc := defScope s_law) (by decide +kernel)) (fun _ _ _ _ _ => (pg_name (i := 11) sc_law.nd rfl (.inl rfl))) (fun _ _ _ _ _ => pts_nil) (fun _ _ _ _ _ => (pe_dget hu (pv 9) (pv 11) (fun _ _ => rfl)))) pa_nil)) (pe_meth0 (pv 7) cl_Wheel M_Wheel_timers G_Wheel_timers (hr.mono (by decide)) b_Wheel_timers v_Wheel_timers pass0) (nomark _))
          (pss_one (ps_ret pe_bl))
          pss_nil)))))))))))))))))))
      (pss_one (ps_ret pe_bl))), ?_⟩
    refine ⟨.ref a, rfl, a, ns.map V.int, rfl, .inl hS, 5, _, rfl, 1, _, rfl, _, rfl, ?_, ?_, for_range (Pv := fun i σ H' => SqL K H' a (ns.map V.int) ∧ ∃ y1 y2 y3 y4 y5 y6 y7 y8 y9 y10 y11 y12 y13 y14 y15 y16 y17, σ = [some (.ref a), y1, y2, y3, y4, y5, y6, y7, y8, y9, y10, y11, y12, y13, y14, y15, y16, y17]) ⟨hS, none, none, none, none, none, none, none, none, none, none, none, none, none, none, none, none, none, rfl⟩ ?_ ?_⟩
    · split <;> split <;> omega
    · rw [List.length_map]
      split <;> split <;> omega
    · rintro i0 σ Hz hi ⟨hS, y1, y2, y3, y4, y5, y6, y7, y8, y9, y10, y11, y12, y13, y14, y15, y16, y17, rfl⟩
      refine ⟨_, rfl, _, rfl, a, ns, 0 + i0, rfl, hS, fun H1 ps s1 hp0 hsrc => ?_⟩
      refine ⟨_, rfl, ps, rfl, hsrc, fun b H2 hb hb64 s2 => ⟨_, rfl, ps, rfl, s2.src, fun H3 ql ws s3 hql0 hql hne h60 => ⟨_, _, rfl, ?_⟩⟩⟩
      refine ⟨_, rfl, _, rfl, ps, b, rfl, hb, hb64, s3.src, fun n H4 hn s4 => ?_⟩
      have nql : ql ≠ ps := s2.src.ne hql0
      have hql4 := s4.keep _ _ nql hql
      have s14 : Stp ps H1 H4 := (s2.trans s3).trans s4
      have hn191 : n < 2 ^ 191 := Nat.lt_trans hn (by decide)
      -- the levels, handed and changed afterwards
      refine ⟨_, rfl, ql, _, rfl, .inl (SqL.of hql4), fun hd hd0 => ?_⟩
      have u5 := same_upd (o := .lst (ws.map lvV)) hd0
      have ehd := upd_same (H := H4) (a := hd) (o := .lst (ws.map lvV))
      have hql5 := u5 _ _ hql4
      generalize upd H4 hd (.lst (ws.map lvV)) = H5 at u5 ehd hql5 ⊢
      refine ⟨_, rfl, _, rfl, _, rfl, rfl, rfl, fun p dx hpn hdx0 nex => ?_⟩
      have v0 : Same H5 (upd (upd H5 dx (.own p)) p (.ins C dx [])) := fun c o e => by
        rw [upd_ne (ne_of_none e hpn), upd_ne (ne_of_none e hdx0)]
        exact e
      refine ⟨p, dx, hd, b, n, ws, rfl, upd_same, SqL.of (v0 _ _ ehd), hb, hb64, hne, h60, fun H6 q l k6 hq6 hl6 hw6 => ⟨rfl, ?_⟩⟩
      have k6' : Same H5 H6 := fun c o e => k6 c o (ne_of_none e hpn) (v0 _ _ e)
      refine ⟨_, rfl, _, rfl, _, rfl, rfl, rfl, fun p2 dx2 hp2n hdx2 nex2 => ?_⟩
      have v1 : Same H6 (upd (upd H6 dx2 (.own p2)) p2 (.ins C dx2 [])) := fun c o e => by
        rw [upd_ne (ne_of_none e hp2n), upd_ne (ne_of_none e hdx2)]
        exact e
      refine ⟨p2, dx2, ql, b, n, ws, rfl, upd_same, SqL.of (v1 _ _ (k6' _ _ hql5)), hb, hb64, hne, h60, fun H7 q2 l2 k7 hq7 hl7 hw7 => ⟨rfl, ?_⟩⟩
      have k7' : Same H6 H7 := fun c o e => k7 c o (ne_of_none e hp2n) (v1 _ _ e)
      have hneT := trim_ne hne
      have h60T := Nat.le_trans (trim_len ws) h60
      have T7 : Two C H4 H7 ps p q l p2 q2 l2 ⟨b, trimW ws, n, 0, []⟩ ⟨b, trimW ws, n, 0, []⟩ := Two.make s4.src (u5.trans k6') (u5.free hpn) (u5.free (v0.free hq6)) (u5.free (v0.free hl6)) hw6 k7' hp2n (v1.free hq7) (v1.free hl7) hw7
      refine ⟨_, _, rfl, ?_⟩
      have ehd7 := k7' _ _ (k6' _ _ ehd)
      have nhq : hd ≠ q := ne_of_none ehd (v0.free hq6)
      have nhq2 : hd ≠ q2 := ne_of_none (k6' _ _ ehd) (v1.free hq7)
      refine ⟨_, rfl, .inl ⟨rfl, _, SqL.of ehd7⟩, hd, _, rfl, rfl, ehd7, ?_⟩
      have T8 := T7.lst (ys := (ws.map lvV).reverse) ehd7 hd0 nhq nhq2
      have ehd8 := upd_same (H := H7) (a := hd) (o := .lst (ws.map lvV).reverse)
      generalize upd H7 hd (.lst (ws.map lvV).reverse) = H8 at T8 ehd8 ⊢
      refine ⟨_, rfl, .inl ⟨rfl, _, SqL.of ehd8⟩, hd, _, _, rfl, rfl, ehd8, sizeLine_ge (by rw [List.length_reverse, List.length_map]; omega), ?_⟩
      have T9 := T8.lst (ys := (ws.map lvV).reverse ++ [.str "heap"]) ehd8 hd0 nhq nhq2
      generalize upd H8 hd (.lst ((ws.map lvV).reverse ++ [.str "heap"])) = H9 at T9 ⊢
      -- the numbers
      refine fun d hd00 => ?_
      have ud := same_upd (o := .dK []) hd00
      have ed := upd_same (H := H9) (a := d) (o := .dK [])
      have nd1 : d ≠ l := fun z => by
        obtain ⟨kvs, h, _⟩ := T9.at1.live
        rw [← z, hd00] at h
        cases h
      have nd2 : d ≠ l2 := fun z => by
        obtain ⟨kvs, h, _⟩ := T9.at2.live
        rw [← z, hd00] at h
        cases h
      have h0d : H4 d = none := T9.stp.free hd00
      have T10 := T9.same ud
      generalize upd H9 d (.dK []) = H10 at T10 ed ⊢
      -- the span
      refine ⟨10, 30, rfl, rfl, ⟨by decide, by decide, by decide⟩, by simp [sizeLine_eq], fun l11 hl11 => ?_⟩
      have u11 := same_upd (o := .lst [.int 60, .int 500, .int ((10 : Int) ^ (30 : Int).toNat)]) hl11
      have el11 := upd_same (H := H10) (a := l11) (o := .lst [.int 60, .int 500, .int ((10 : Int) ^ (30 : Int).toNat)])
      have T11 := T10.same u11
      have ed11 := u11 _ _ ed
      have nl11 : l11 ≠ ps := T10.src.ne hl11
      refine ⟨_, rfl, ps, 3, rfl, by decide, by decide, T11.src, fun r12 H12 hr12 s12 => ?_⟩
      obtain ⟨sp, hsp1, hsp2, esp⟩ : ∃ sp : Nat, 60 ≤ sp ∧ sp ≤ 10 ^ 30 ∧ ([.int 60, .int 500, .int ((10 : Int) ^ (30 : Int).toNat)] : List V)[r12]? = some (.int (sp : Nat)) := by
        have z : r12 = 0 ∨ r12 = 1 ∨ r12 = 2 := by omega
        rcases z with rfl | rfl | rfl
        · exact ⟨60, by decide, by decide, rfl⟩
        · exact ⟨500, by decide, by decide, rfl⟩
        · exact ⟨10 ^ 30, by decide, by decide, rfl⟩
      have hsp0 : 0 < sp := by omega
      have hsp3 : sp < 2 ^ 300 := Nat.lt_of_le_of_lt hsp2 (by decide)
      have hspI0 : (0 : Int) < ((sp : Nat) : Int) := by omega
      have hspI3 : ((sp : Nat) : Int) < 2 ^ 300 := by omega
      refine ⟨l11, _, r12, _, rfl, rfl, SqL.of (s12.keep _ _ nl11 el11), atI_nat esp, ?_⟩
      have nds : d ≠ ps := fun z => by
        obtain ⟨x, y, v, h⟩ := T10.src
        rw [z, h] at ed
        cases ed
      have S12 : SetSt C H4 H12 ps p q l p2 q2 l2 d b n sp ws 0 ⟨b, trimW ws, n, 0, []⟩ ⟨b, trimW ws, n, 0, []⟩ [] := ⟨T11.draw s12, s12.keep _ _ nds ed11, rfl, rfl, rfl, rfl, ⟨hb, hb64, hneT, h60T, (fun m h => by cases h), List.nodup_nil, Nat.zero_le _⟩, ⟨hb, hb64, hneT, h60T, (fun m h => by cases h), List.nodup_nil, Nat.zero_le _⟩, rfl, rfl, rfl, rfl, rfl, rfl, fun m h => by cases h⟩
      -- how many timers
      refine ⟨_, rfl, ps, 10, rfl, by decide, by decide, S12.two.src, fun r13 H13 hr13 s13 => ⟨1, r13, rfl, rfl, trivial, by simp [sizeLine_eq], fun l14 hl14 => ?_⟩⟩
      have S13 := S12.draw s13
      have u14 := same_upd (o := .lst [.int ((1 + r13 : Nat) : Int), .int 190]) hl14
      have S14 := S13.same u14
      have nl14 : l14 ≠ ps := S13.two.src.ne hl14
      have el14 := upd_same (H := H13) (a := l14) (o := .lst [.int ((1 + r13 : Nat) : Int), .int 190])
      refine ⟨_, rfl, ps, 12, rfl, by decide, by decide, S14.two.src, fun r15 H15 hr15 s15 => ⟨rfl, .inr ⟨_, rfl, ?_⟩⟩⟩
      have S15 := S14.draw s15
      have eL := s15.keep _ _ nl14 el14
      obtain ⟨many, em, hm0, hm⟩ : ∃ m : Nat, ([.int ((1 + r13 : Nat) : Int), .int 190] : List V)[if decide (V.int (r15 : Nat) = V.int 11) = true then 1 else 0]? = some (.int (m : Nat)) ∧ 1 ≤ m ∧ m ≤ 190 := by
        split
        · exact ⟨190, rfl, by omega, by omega⟩
        · exact ⟨1 + r13, rfl, by omega, by omega⟩
      refine ⟨l14, _, ((if decide (V.int (r15 : Nat) = V.int 11) = true then 1 else 0 : Nat) : Int), _, rfl, ?_, SqL.of eL, atI_nat em, many, rfl, by omega, by omega, for_range (Pv := fun i σ H' => ∃ (W1 W2 : WS) (xs : List (Nat × Nat)) (y11 y12 y13 : Option V), σ = [some (.ref a), some (.int (0 + (i0 : Int))), some (.ref ps), some (.int (b : Nat)), some (.ref ql), some (.int (n : Nat)), some (.ref hd), some (.ref p), some (.ref p2), some (.ref d), some (.int (sp : Nat)), y11, y12, y13, y14, y15, y16, y17] ∧ SetSt C H4 H' ps p q l p2 q2 l2 d b n sp ws i W1 W2 xs) ⟨_, _, _, _, _, _, rfl, S15⟩ ?_ ?_⟩
      · split <;> rfl
      · rintro i σ H16 hi16 ⟨W1, W2, xs, y11, y12, y13, rfl, S⟩
        have hi190 : i < 190 := by omega
        -- its due tick and its period
        refine ⟨_, rfl, n, 1, rfl, rfl, trivial, _, rfl, _, rfl, ps, sp, rfl, hspI0, hspI3, S.two.src, fun r17 H17 hr17 s17 => ⟨n + 1, r17, rfl, rfl, trivial, ?_⟩⟩
        have S17 := S.draw s17
        dsimp only
        obtain ⟨du, edu, hdu1, hdu2⟩ : ∃ du, du = n + 1 + r17 ∧ n < du ∧ du ≤ n + sp := ⟨_, rfl, by omega, by omega⟩
        rw [← edu]
        refine ⟨_, rfl, sp, 5, rfl, rfl, (by unfold NDiv; decide), sp / 5, 1, rfl, rfl, trivial, _, rfl, _, rfl, ps, sp, rfl, hspI0, hspI3, S17.two.src, fun r18 H18 hr18 s18 => ⟨sp / 5 + 1, r18, rfl, rfl, trivial, by simp [sizeLine_eq], fun l19 hl19 => ?_⟩⟩
        have S18 := S17.draw s18
        have u19 := same_upd (o := .lst [.non, .non, .int ((sp / 5 + 1 + r18 : Nat) : Int)]) hl19
        have S19 := S18.same u19
        have nl19 : l19 ≠ ps := S18.two.src.ne hl19
        have el19 := upd_same (H := H18) (a := l19) (o := .lst [.non, .non, .int ((sp / 5 + 1 + r18 : Nat) : Int)])
        refine ⟨_, rfl, ps, 3, rfl, by decide, by decide, S19.two.src, fun r20 H20 hr20 s20 => ?_⟩
        have S20 := S19.draw s20
        obtain ⟨o, eo, ho⟩ : ∃ o : Option Nat, ([.non, .non, .int ((sp / 5 + 1 + r18 : Nat) : Int)] : List V)[r20]? = some (perV o) ∧ ∀ k, o = some k → sp / 5 + 1 ≤ k ∧ k ≤ 2 * sp := by
          have z : r20 = 0 ∨ r20 = 1 ∨ r20 = 2 := by omega
          rcases z with rfl | rfl | rfl
          · exact ⟨none, rfl, fun k e => by cases e⟩
          · exact ⟨none, rfl, fun k e => by cases e⟩
          · exact ⟨some (sp / 5 + 1 + r18), rfl, fun k e => by cases e; omega⟩
        refine ⟨l19, _, r20, _, rfl, rfl, SqL.of (s20.keep _ _ nl19 el19), atI_nat eo, ?_⟩
        -- others, set and cancelled
        have hl20 := S20.len
        refine ⟨_, rfl, _, rfl, _, rfl, _, rfl, n, sp, rfl, rfl, trivial, H4, ps, p, q, l, p2, q2, l2, W1, W2, n + sp, rfl, S20.two, S20.ok2, by omega, by rw [S20.t2]; omega, by omega, fun H21 k21 T21 ok21 kp21 => ?_⟩
        have ed21 : H21 d = some (.dK (duP xs)) := by
          obtain ⟨dx, hp⟩ := S20.two.at2.ins
          obtain ⟨x, y, v, h⟩ := S20.two.src
          exact kp21 _ _ (ne_of S20.eD h (by intro z; cases z)) (ne_of S20.eD hp (by intro z; cases z)) nd2 S20.eD
        have S21 : SetSt C H4 H21 ps p q l p2 q2 l2 d b n sp ws i W1 { W2 with fol := W2.fol + k21 } xs := ⟨T21, ed21, S20.keys, S20.vals, S20.ren, S20.fol, S20.ok1, ok21, S20.b1, S20.b2, S20.w1, S20.w2, S20.t1, S20.t2, S20.tm⟩
        generalize hW2' : ({ W2 with fol := W2.fol + k21 } : WS) = W2' at S21 T21 ok21
        -- put in both
        have hl21 := S21.len
        have hk1 : ∀ k, o = some k → 1 ≤ k := fun k hk => by
          have := (ho k hk).1
          omega
        have l1 : W1.live.length = i := by
          rw [S21.ren, List.length_map]
          exact hl21.1
        obtain ⟨dx21, hp21⟩ := S21.two.at1.ins
        refine ⟨_, rfl, p, dx21, _, rfl, hp21, nm_put, _, rfl, _, rfl, rfl, rfl, p, q, l, W1, du, o, rfl, S21.two.at1, S21.ok1, by omega, by rw [S21.t1]; exact hdu1, hk1, fun H22 k22 w22 => ?_⟩
        have T22 := S21.two.go k22 w22
        have ed22 : H22 d = some (.dK (duP xs)) := k22.keep _ _ (ne_of S21.eD hp21 (by intro z; cases z)) nd1 S21.eD
        obtain ⟨dx22, hp22⟩ := T22.at2.ins
        refine ⟨_, rfl, _, rfl, p2, dx22, _, rfl, hp22, nm_put, _, rfl, _, rfl, rfl, rfl, p2, q2, l2, W2', du, o, rfl, T22.at2, S21.ok2, by omega, by rw [S21.t2]; exact hdu1, hk1, fun H23 k23 w23 => ?_⟩
        have T23 := (T22.swap.go k23 w23).swap
        have ed23 : H23 d = some (.dK (duP xs)) := k23.keep _ _ (ne_of ed22 hp22 (by intro z; cases z)) nd2 ed22
        have hno : W2'.fol ∉ xs.map (·.1) := fun z => by
          rw [S21.keys] at z
          obtain ⟨m, hm, e⟩ := List.mem_map.mp z
          have := (S21.ok2.tms m hm).num
          omega
        refine ⟨d, _, rfl, DPut.k (k := Sum.inl ((W2'.fol : Nat) : Int)) ed23 (sizeLine_ge (by unfold duP; rw [List.length_map]; omega)), ?_⟩
        rw [duP_new hno]
        have T24 := T23.dict (kv' := duP (xs ++ [(W2'.fol, W1.fol)])) ed23 h0d nd1 nd2
        exact ⟨_, _, _, _, _, _, rfl, S21.more (by omega) hn191 hsp2 hdu1 hdu2 ho T24 upd_same⟩
      · rintro σ H16 ⟨W1, W2, xs, y11, y12, y13, rfl, S⟩
        rw [Int.toNat_natCast] at S
        -- the last tick
        refine ⟨_, rfl, _, rfl, n, sp, rfl, rfl, trivial, _, rfl, _, rfl, ps, sp, rfl, hspI0, hspI3, S.two.src, fun r17 H17 hr17 s17 => ⟨n + sp, r17, rfl, rfl, trivial, ?_⟩⟩
        have S17 := S.draw s17
        dsimp only
        obtain ⟨last, elast, hla1, hla2⟩ : ∃ last, last = n + sp + r17 ∧ n < last ∧ last < n + 2 * sp := ⟨_, rfl, by omega, by omega⟩
        rw [← elast]
        have hlbig : last < 2 ^ 240 := by omega
        obtain ⟨far2, far1⟩ := S17.far hn191 hsp2 hla2
        have hsum := S17.sum hla2
        have hl17 := S17.len
        have hnd := S17.nd
        have hinj := S17.inj
        have hkeys := S17.keys
        -- what fires
        refine ⟨by simp [sizeLine_eq], fun F0 hF0 => ?_⟩
        have uF := same_upd (o := .lst []) hF0
        have eW : (⟨W2.b, W2.ws, n, W2.fol, W2.live⟩ : WS) = W2 := by rw [← S17.t2]
        have R0 : RunB C H4 (upd H17 F0 (.lst [])) ps p q l p2 q2 l2 d F0 W1 W2 xs last n W2.fol W2.live [] [] := by
          refine ⟨?_, .done fun m hm => (S17.tm m hm).1, by omega, ?_, by show 0 + _ = _; omega, Nat.le_refl _, by omega, upd_same, trivial, (fun t ht => by cases ht), S17.two.src.ne hF0, uF _ _ S17.eD, nd2⟩
          · rw [eW]
            exact S17.two.same uF
          · rw [eW]
            exact far2
        generalize upd H17 F0 (.lst []) = H18 at R0 ⊢
        refine ⟨_, rfl, ps, 5, rfl, by decide, by decide, R0.two.src, fun r19 H19 hr19 s19 => ⟨1, r19, rfl, rfl, trivial, _, rfl, (by dsimp only; omega), (by dsimp only; omega), for_range (Pv := fun i σ H' => ∃ (t : Nat) (l2 : Addr) (fo : Nat) (ms : List Tm) (Fa : Addr) (ts : List Addr) (fs : List (Nat × List Nat)) (y16 y17 : Option V), σ = [some (.ref a), some (.int (0 + (i0 : Int))), some (.ref ps), some (.int (b : Nat)), some (.ref ql), some (.int (n : Nat)), some (.ref hd), some (.ref p), some (.ref p2), some (.ref d), some (.int (sp : Nat)), y11, y12, y13, some (.int (last : Nat)), some (.ref Fa), y16, y17] ∧ RunB C H4 H' ps p q l p2 q2 l2 d Fa W1 W2 xs last t fo ms ts fs) ⟨n, l2, _, _, F0, [], [], _, _, rfl, R0.draw s19⟩ ?_ ?_⟩⟩
        · rintro i σ H20 hi20 ⟨t, l2, fo, ms, Fa, ts, fs, y16, y17, rfl, R⟩
          obtain ⟨dx, hp⟩ := R.two.at2.ins
          refine ⟨_, rfl, p2, dx, _, rfl, hp, nm_now, p2, q2, l2, _, rfl, R.two.at2, _, rfl, _, rfl, p2, dx, _, rfl, hp, nm_now, p2, q2, l2, _, rfl, R.two.at2, last, t, rfl, rfl, (by show t ≤ last; exact R.le), last - t, 3, rfl, rfl, (by unfold NDiv; decide), t, (last - t) / 3, rfl, rfl, trivial, ?_⟩
          dsimp only
          have hRle := R.le
          obtain ⟨t', et', ht1, ht2⟩ : ∃ t', t' = t + (last - t) / 3 ∧ t ≤ t' ∧ t' ≤ last := ⟨_, rfl, by omega, by omega⟩
          rw [← et']
          obtain ⟨gs, ms', a1, a2, a3, a4, a5⟩ := R.far.go (t := t') ht1 ht2
          have hok := R.far.ok
          have hRs := R.sum
          have hRl := R.len
          have hsz := R.fat.len
          have e3 : sumF last (⟨W2.b, W2.ws, t, fo, ms⟩ : WS).live = sumF last ms := rfl
          rw [e3] at a2
          refine ⟨_, rfl, _, rfl, p2, dx, _, rfl, hp, nm_advance, _, rfl, p2, q2, l2, _, t', gs, ms', rfl, R.two.at2, hok.b2, hok.b64, hok.ne, hok.few, ht1, a1, by omega, fun H21 r21 l21 us k21 hr21 er21 fa21 fr21 w21 => ?_⟩
          have hus := fa21.len
          refine ⟨Fa, r21, _, _, rfl, rfl, k21.lst R.two.at2 R.at_, er21, ?_, fun N hN => ?_⟩
          · rw [List.length_map, List.length_map]
            exact sizeLine_le (by omega)
          have R22 := R.go ht1 ht2 a1 a2 a4 a3 a5 k21 hr21 er21 fa21 fr21 w21 hN
          generalize upd H21 N (.lst (ts.map V.ref ++ us.map V.ref)) = H22 at R22 ⊢
          have few22 := R22.few
          refine ⟨_, rfl, _, rfl, _, rfl, H4, ps, p, q, l, p2, q2, l21, W1, _, last, rfl, R22.two, R22.far.ok, (by show ms'.length ≤ 900; omega), ht2, hlbig, fun H23 k23 T23 ok23 kp23 => ?_⟩
          have R23 := R22.extra T23 ok23 kp23
          obtain ⟨dx23, hp23⟩ := R23.two.at1.ins
          refine ⟨_, rfl, p, dx23, _, rfl, hp23, nm_now, p, q, l, W1, rfl, R23.two.at1, _, rfl, rfl, false, nF (by rw [S17.t1]), iteF ?_⟩
          exact ⟨t', l21, fo + k23, ms', N, ts ++ us, fs ++ gs, _, _, rfl, R23⟩
        · rintro σ H20 ⟨t, l2, fo, ms, Fa, ts, fs, y16, y17, rfl, R⟩
          obtain ⟨dx, hp⟩ := R.two.at2.ins
          obtain ⟨gs, ms', a1, a2, a3, a4, a5⟩ := R.far.go (t := last) R.le (Nat.le_refl _)
          have hok := R.far.ok
          have hRs := R.sum
          have hRl := R.len
          have hsz := R.fat.len
          have e3 : sumF last (⟨W2.b, W2.ws, t, fo, ms⟩ : WS).live = sumF last ms := rfl
          rw [e3] at a2
          refine ⟨_, rfl, _, rfl, p2, dx, _, rfl, hp, nm_advance, _, rfl, p2, q2, l2, _, last, gs, ms', rfl, R.two.at2, hok.b2, hok.b64, hok.ne, hok.few, R.le, a1, by omega, fun H21 r21 l21 us k21 hr21 er21 fa21 fr21 w21 => ?_⟩
          have hus := fa21.len
          refine ⟨Fa, r21, _, _, rfl, rfl, k21.lst R.two.at2 R.at_, er21, ?_, fun N hN => ?_⟩
          · rw [List.length_map, List.length_map]
            exact sizeLine_le (by omega)
          have R22 := R.go R.le (Nat.le_refl _) a1 a2 a4 a3 a5 k21 hr21 er21 fa21 fr21 w21 hN
          generalize upd H21 N (.lst (ts.map V.ref ++ us.map V.ref)) = H22 at R22 ⊢
          generalize ts ++ us = ts2 at R22
          generalize fs ++ gs = fs2 at R22
          have hs22 := R22.sum
          have hl22 := R22.len
          have hlens := adv_lens R22.adv
          have hin := adv_in R22.adv
          have htot : total fs2 ≤ 1900 := by omega
          -- the one at once, the numbers turned
          have e12 : W1.b = W2.b ∧ W1.ws = W2.ws := ⟨S17.b1.trans S17.b2.symm, S17.w1.trans S17.w2.symm⟩
          have adv1 : AdvTo W1.b W1.ws last W1.live (fs2.map (tfG (gX xs))) (ms'.map (renG (gX xs))) := by
            rw [e12.1, e12.2, S17.ren]
            exact ren_adv R22.adv hinj
          obtain ⟨fs1, ms1, c1, c2, c3, c4, c5⟩ := far1.go (t := last) (by rw [S17.t1]; omega) (Nat.le_refl _)
          obtain ⟨ec1, ec2⟩ := c1.uniq adv1
          subst ec1
          subst ec2
          have ok1' := c3.ok
          refine ⟨_, rfl, _, rfl, N, d, ts2, fs2.map (fun f => ([V.int (f.1 : Nat)], f.2)), xs, rfl, R22.at_, R22.fat.grows, R22.eD, hnd, (by rw [List.length_map]; omega), (fun g hg => ?_), fun H25 D25 us25 s25 hD25 eD25 hG25 => ?_⟩
          · obtain ⟨f, hf, rfl⟩ := List.mem_map.mp hg
            refine ⟨by simp, by show 1 ≤ 5; omega, ?_, fun x hx => ?_⟩
            · have := hlens.2 f hf
              show f.2.length ≤ 5000
              omega
            · rw [hkeys]
              exact hin.2 f hf x hx
          have R25 := R22.same s25
          have F25 := hG25.fired
          obtain ⟨dx25, hp25⟩ := R25.two.at1.ins
          refine ⟨_, rfl, p, dx25, _, rfl, hp25, nm_advance, _, rfl, p, q, l, W1, last, _, _, rfl, R25.two.at1, S17.ok1.b2, S17.ok1.b64, S17.ok1.ne, S17.ok1.few, (by rw [S17.t1]; omega), adv1, (by rw [total_tf]; omega), fun H26 r26 l26 us26 k26 hr26 er26 fa26 fr26 w26 => ?_⟩
          have T26 := R25.two.go k26 w26
          have eD26 := k26.lst R25.two.at1 eD25
          have F26 := F25.wk k26 R25.two.at1
          have ed26 : H26 d = some (.dK (duP xs)) := k26.keep _ _ (ne_of R25.eD hp25 (by intro z; cases z)) nd1 R25.eD
          refine ⟨.list ((fs2.map (tfG (gX xs))).map firedD), .list ((fs2.map (tfG (gX xs))).map firedD), .lst (SqL.of eD26) (fired_dp F26), .lst (SqL.of er26) (fired_dp fa26), fired_shaped _, fired_shaped _, false, neq_refl (d := .list ((fs2.map (tfG (gX xs))).map firedD)) (fired_lay _), iteF ?_⟩
          -- the lists
          have ok2' := R22.far.ok
          have hdue : ∀ m ∈ ms', last < m.due := fun m hm => (ok2'.tms m hm).due
          obtain ⟨dx26, hp26⟩ := T26.at2.ins
          refine ⟨_, rfl, p2, dx26, _, rfl, hp26, nm_lists, p2, q2, l21, _, rfl, T26.at2, ok2', fun H27 L27 ts27 cs s27 hL27 eL27 hC27 hF27 hI27 => ?_⟩
          have few22 := R22.few
          have hcsl := lists_few hI27
          have hcsl' : cs.length ≤ ms'.length := hcsl
          refine ⟨_, rfl, L27, d, ts27, cs.map (fun c => ([V.int (c.1.1 : Nat), V.int (c.1.2 : Nat)], c.2)), xs, rfl, eL27, hC27.grows, s27 _ _ ed26, hnd, (by rw [List.length_map]; omega), (fun g hg => ?_), fun H28 D28 us28 s28 hD28 eD28 hG28 => ?_⟩
          · obtain ⟨c, hc, rfl⟩ := List.mem_map.mp hg
            have hat := hI27.at_ hdue hc
            refine ⟨by simp, by show 2 ≤ 5; omega, ?_, fun x hx => ?_⟩
            · show c.2.length ≤ 5000
              rw [hat, List.length_map]
              unfold stM
              rw [deq_len]
              refine Nat.le_trans (List.length_filter_le _ _) ?_
              show ms'.length ≤ 5000
              omega
            · have hx' : x ∈ c.2 := hx
              rw [hat] at hx'
              obtain ⟨m, hm, e⟩ := List.mem_map.mp hx'
              rw [hkeys, ← e]
              exact hin.1 m (List.mem_filter.mp (mem_deq.mp hm)).1
          have T28 := T26.same (s27.trans s28)
          obtain ⟨dx28, hp28⟩ := T28.at1.ins
          refine ⟨_, rfl, p, dx28, _, rfl, hp28, nm_lists, p, q, l26, _, rfl, T28.at1, ok1', fun H29 L29 ts29 cs29 s29 hL29 eL29 hC29 hF29 hI29 => ?_⟩
          have hren := ren_lists (g := gX xs) hdue hI27
          have ecs : cs29 = cs.map (tcG (gX xs)) := by
            have z : IsLists W1.b W1.ws last (ms'.map (renG (gX xs))) cs29 := hI29
            rw [e12.1, e12.2] at z
            exact z.uniq hren
          subst ecs
          have hC28 := hG28.cells.frame (H0' := H29) (H' := H29) (fun a xs e => s29 _ _ e) fun t xs e => s29 _ _ e
          refine ⟨.list ((cs.map (tcG (gX xs))).map cellD), .list ((cs.map (tcG (gX xs))).map cellD), .lst (SqL.of (s29 _ _ eD28)) (cells_dp (fun _ _ e => e) hC28), .lst (SqL.of eL29) (cells_dp (fun _ _ e => e) hC29), cells_shaped _, cells_shaped _, false, neq_refl (d := .list ((cs.map (tcG (gX xs))).map cellD)) (cells_lay _), iteF ?_⟩
          -- restoring
          have T29 := T28.same s29
          have ed29 := s29 _ _ (s28 _ _ (s27 _ _ ed26))
          obtain ⟨dx29, hp29⟩ := T29.at2.ins
          refine ⟨_, rfl, p2, dx29, _, rfl, hp29, nm_restoring, p2, q2, l21, _, rfl, T29.at2, ok2', fun H30 L30 ts30 cs30 s30 hL30 eL30 hP30 hI30 => ?_⟩
          obtain ⟨td, etd⟩ : ∃ td, td = toldT W2.b W2.ws last ms' (cs30.map (·.1)) := ⟨_, rfl⟩
          obtain ⟨kn, kd⟩ := hI30.keys hdue
          have tdp : td.Perm ms' := by
            rw [etd]
            exact told_perm kn kd
          have hP30' : PrAt H30 ts30 (td.map rowND) := by
            rw [etd]
            exact hP30
          have hPl := hP30'.len
          rw [List.length_map] at hPl
          have tdl := tdp.length_eq
          have ed30 := s30 _ _ ed29
          refine ⟨L30, rfl, ⟨_, SqL.of eL30⟩, fun D31 hD31 => lc_list (K := K) (a := L30) (xs := ts30.map V.ref) (fun j H' => Same H30 H' ∧ ∃ us : List Addr, H' D31 = some (.lst (us.map V.ref)) ∧ PrAt H' us ((td.take j).map fun m => (gX xs m.num, m.due))) ⟨same_upd hD31, [], upd_same, trivial⟩ (fun j H' _ ⟨sm, _⟩ => SqL.of (sm _ _ eL30)) ?_ ?_⟩
          · rintro j v Hk hv ⟨sm, us, eD, hU⟩
            obtain ⟨t, r, rfl, hr', ht⟩ := (hP30'.frame (H' := Hk) fun t xs e => sm _ _ e).item hv
            obtain ⟨m, hm, rfl⟩ : ∃ m, td[j]? = some m ∧ r = rowND m := by
              rw [List.getElem?_map] at hr'
              cases e : td[j]? with
              | none =>
                rw [e] at hr'
                cases hr'
              | some m =>
                rw [e] at hr'
                exact ⟨m, rfl, (Option.some.inj hr').symm⟩
            have hjl := (List.getElem?_eq_some_iff.mp hm).1
            have hUl := hU.len
            rw [List.length_map, List.length_take] at hUl
            have gg := DGet.k (k := Sum.inl ((m.num : Nat) : Int)) (sm _ _ ed30)
            rw [duP_gx hnd (by rw [hkeys]; exact hin.1 m (tdp.mem_iff.mp (List.mem_of_getElem? hm)))] at gg
            refine ⟨t, _, rfl, .inl (.inl ht), rfl, _, _, rfl, _, _, rfl, rfl, rfl, yesT (iteT ?_)⟩
            refine ⟨_, rfl, _, rfl, d, .int (gX xs m.num : Nat), rfl, gg, _, rfl, by simp [sizeLine_eq], fun u hu0 => ?_⟩
            have su := same_upd (o := .tup [.int (gX xs m.num : Nat), .int (m.due : Nat)]) hu0
            have eu := upd_same (H := Hk) (a := u) (o := .tup [.int (gX xs m.num : Nat), .int (m.due : Nat)])
            have eDu := su _ _ eD
            refine ⟨_, eDu, ?_, fun c o e => ?_, us ++ [u], ?_, ?_⟩
            · rw [List.length_map]
              exact sizeLine_ge (by omega)
            · rw [upd_ne (ne_of_none e hD31)]
              exact su _ _ (sm _ _ e)
            · rw [upd_same, List.map_append]
              rfl
            · rw [List.take_add_one, hm, Option.toList_some, List.map_append]
              have kt : ∀ t' xs', (upd Hk u (.tup [.int (gX xs m.num : Nat), .int (m.due : Nat)])) t' = some (.tup xs') → (upd (upd Hk u (.tup [.int (gX xs m.num : Nat), .int (m.due : Nat)])) D31 (.lst (us.map V.ref ++ [.ref u]))) t' = some (.tup xs') := fun t' xs' e => by
                rw [upd_ne (ne_of e eDu (by intro z; cases z))]
                exact e
              exact ((hU.frame fun t xs e => su _ _ e).frame kt).app (r := (gX xs m.num, m.due)) (kt _ _ eu)
          rintro H31 ⟨s31, us31, eD31, hU31⟩
          rw [List.length_map, hPl, List.take_length] at hU31
          have T31 := T29.same (s30.trans s31)
          have ed31 := s31 _ _ ed30
          obtain ⟨dx31, hp31⟩ := T31.at1.ins
          refine ⟨_, rfl, p, dx31, _, rfl, hp31, nm_restoring, p, q, l26, _, rfl, T31.at1, ok1', fun H32 L32 ts32 cs32 s32 hL32 eL32 hP32 hI32 => ?_⟩
          have ecs2 : cs32 = cs30.map (tcG (gX xs)) := by
            have z : IsLists W1.b W1.ws last (ms'.map (renG (gX xs))) cs32 := hI32
            rw [e12.1, e12.2] at z
            exact z.uniq (ren_lists (g := gX xs) hdue hI30)
          have hP32' : PrAt H32 ts32 (td.map fun m => (gX xs m.num, m.due)) := by
            have z : PrAt H32 ts32 ((toldT W1.b W1.ws last (ms'.map (renG (gX xs))) (cs32.map (·.1))).map rowND) := hP32
            have ek : cs32.map (·.1) = cs30.map (·.1) := by
              rw [ecs2, List.map_map]
              rfl
            rw [ek, e12.1, e12.2, ren_told, ← etd, List.map_map] at z
            exact z
          have hU32 := hU31.frame (H' := H32) fun t xs e => s32 _ _ e
          refine ⟨.list ((td.map fun m => (gX xs m.num, m.due)).map prD), .list ((td.map fun m => (gX xs m.num, m.due)).map prD), .lst (SqL.of (s32 _ _ eD31)) (prs_dp hU32), .lst (SqL.of eL32) (prs_dp hP32'), prs_shaped _, prs_shaped _, false, neq_refl (d := .list ((td.map fun m => (gX xs m.num, m.due)).map prD)) (prs_lay _), iteF ?_⟩
          -- the timers
          have T32 := T31.same s32
          have ed32 := s32 _ _ ed31
          obtain ⟨dx32, hp32⟩ := T32.at2.ins
          refine ⟨_, rfl, p2, dx32, _, rfl, hp32, nm_timers, p2, q2, l21, _, rfl, T32.at2, (by show ms'.length ≤ 1000; omega), fun H33 r33 ks33 s33 hr33 er33 hperm33 hsort33 => ?_⟩
          have hks33 : ks33.Perm (ms'.map (·.num)) := hperm33
          have ed33 := s33 _ _ ed32
          have hk33 : ks33.length ≤ 190 := by
            rw [hks33.length_eq, List.length_map]
            omega
          refine ⟨r33, rfl, ⟨_, SqL.of er33⟩, fun D34 hD34 => lc_list (K := K) (a := r33) (xs := ks33.map fun x => V.int (x : Nat)) (fun j H' => Same H33 H' ∧ H' D34 = some (.lst (((ks33.take j).map (gX xs)).map fun x => V.int (x : Nat)))) ⟨same_upd hD34, upd_same⟩ (fun j H' _ ⟨sm, _⟩ => SqL.of (sm _ _ er33)) ?_ ?_⟩
          · rintro j v Hk hv ⟨sm, eD⟩
            obtain ⟨x, hx, rfl⟩ := mapped_nat hv
            have hjj := (List.getElem?_eq_some_iff.mp hx).1
            have gg := DGet.k (k := Sum.inl ((x : Nat) : Int)) (sm _ _ ed33)
            rw [duP_gx hnd (by
              rw [hkeys]
              obtain ⟨m, hm, e⟩ := List.mem_map.mp (hks33.mem_iff.mp (List.mem_of_getElem? hx))
              rw [← e]
              exact hin.1 m hm)] at gg
            refine ⟨rfl, yesT (iteT ⟨_, rfl, _, rfl, d, .int (gX xs x : Nat), rfl, gg, _, eD, ?_, fun c o e => ?_, ?_⟩)⟩
            · rw [List.length_map, List.length_map, List.length_take]
              exact sizeLine_ge (by omega)
            · rw [upd_ne (ne_of_none e hD34)]
              exact sm _ _ e
            · rw [upd_same, List.take_add_one, hx, Option.toList_some, List.map_append, List.map_append]
              rfl
          rintro H34 ⟨s34, eD34⟩
          rw [List.length_map, List.take_length] at eD34
          refine ⟨D34, (ks33.map (gX xs)).map fun x => ((x : Nat) : Int), rfl, ?_, fun ns' p35 hperm35 hsort35 hp35 => ?_⟩
          · rw [List.map_map]
            exact SqL.of eD34
          have s35 := same_upd (o := .lst (ns'.map V.int)) hp35
          have e35 := upd_same (H := H34) (a := p35) (o := .lst (ns'.map V.int))
          generalize upd H34 p35 (.lst (ns'.map V.int)) = H35 at s35 e35 ⊢
          have T35 := T32.same ((s33.trans s34).trans s35)
          obtain ⟨dx35, hp35'⟩ := T35.at1.ins
          refine ⟨_, rfl, p, dx35, _, rfl, hp35', nm_timers, p, q, l26, _, rfl, T35.at1, (by show (ms'.map (renG (gX xs))).length ≤ 1000; rw [List.length_map]; omega), fun H36 r36 ks36 s36 hr36 er36 hperm36 hsort36 => ?_⟩
          have hks36 : ks36.Perm (ks33.map (gX xs)) := by
            have z : ks36.Perm ((ms'.map (renG (gX xs))).map (·.num)) := hperm36
            rw [ren_num] at z
            exact z.trans (hks33.map _).symm
          have ens := sorted_two hperm35 hsort35 hks36 hsort36
          have e36 : H36 p35 = some (.lst (ks36.map fun x => V.int (x : Nat))) := by
            rw [s36 _ _ e35, ens, List.map_map]
            rfl
          refine ⟨.list (ks36.map fun y => PyData.int (y : Nat)), .list (ks36.map fun y => PyData.int (y : Nat)), .lst (SqL.of e36) (dp_nats _), .lst (SqL.of er36) (dp_nats _), nats_shaped _, nats_shaped _, false, neq_refl (d := .list (ks36.map fun y => PyData.int (y : Nat))) (nats_lay _), iteF ?_⟩
          have T36 := T35.same s36
          refine ⟨?_, _, _, _, _, _, _, _, _, _, _, _, _, _, _, _, _, _, rfl⟩
          exact seq_new hS hp0 s1 (s14.trans ⟨T36.keep, T36.src⟩)
    · rintro σ H' ⟨_, y1, y2, y3, y4, y5, y6, y7, y8, y9, y10, y11, y12, y13, y14, y15, y16, y17, rfl⟩
      exact fin H'
end
theorem all_mk {l : PySem.W.OpenLaw} {w : World} {K : PySem.W.Frag} {h : Heap} {mg : Str → Option Value} {fa : Addr} (X : K.In h) (G : h.Ns mainGlobals mg) (hfa : mg "law" = some (.ref fa))
    {f_WORDS : Addr} {od_WORDS : Option Addr} {tk0_WORDS tk1_WORDS : Tok} {tn_WORDS : Nat} {ts_WORDS : Array (Option Value)}
    {tk_MOST_LEVELS : Tok}
    {tk_MOST_FIRINGS : Tok}
    {f_wall f_is_integer f_is_word f_is_base f_is_length f_are_levels f_is_tick f_is_period f_check_base f_check_levels f_check_tick f_word_at f_level_and_size f_path f_goes_in_front f_with_timer f_firing_order f_without_repeats f_check_period f_order_of_firing f_standing f_least_due f_after_firing f_law_cell_at f_law_mixed f_law_source f_law_next f_law_base f_law_levels f_law_tick f_law_turned f_law_extra f_law : Addr}
    {od_wall an_wall od_is_integer an_is_integer od_is_word an_is_word od_is_base an_is_base od_is_length an_is_length od_are_levels an_are_levels od_is_tick an_is_tick od_is_period an_is_period od_check_base an_check_base od_check_levels an_check_levels od_check_tick an_check_tick od_word_at an_word_at od_level_and_size an_level_and_size od_path an_path od_goes_in_front an_goes_in_front od_with_timer an_with_timer od_firing_order an_firing_order od_without_repeats an_without_repeats od_check_period an_check_period od_order_of_firing an_order_of_firing od_standing an_standing od_least_due an_least_due od_after_firing an_after_firing od_law_cell_at an_law_cell_at od_law_mixed an_law_mixed od_law_source an_law_source od_law_next an_law_next od_law_base an_law_base od_law_levels an_law_levels od_law_tick an_law_tick od_law_turned an_law_turned od_law_extra an_law_extra od_law an_law : Option Addr}
    {sl_wall sl_is_integer sl_is_word sl_is_base sl_is_length sl_are_levels sl_is_tick sl_is_period sl_check_base sl_check_levels sl_check_tick sl_word_at sl_level_and_size sl_path sl_goes_in_front sl_with_timer sl_firing_order sl_without_repeats sl_check_period sl_order_of_firing sl_standing sl_least_due sl_after_firing sl_law_cell_at sl_law_mixed sl_law_source sl_law_next sl_law_base sl_law_levels sl_law_tick sl_law_turned sl_law_extra sl_law : Array (Option Value)}
    {oc_wall kV_wall dc_wall pm_wall cd_wall ct_wall oc_is_integer kV_is_integer dc_is_integer pm_is_integer cd_is_integer ct_is_integer oc_is_word kV_is_word dc_is_word pm_is_word cd_is_word ct_is_word oc_is_base kV_is_base dc_is_base pm_is_base cd_is_base ct_is_base oc_is_length kV_is_length dc_is_length pm_is_length cd_is_length ct_is_length oc_are_levels kV_are_levels dc_are_levels pm_are_levels cd_are_levels ct_are_levels oc_is_tick kV_is_tick dc_is_tick pm_is_tick cd_is_tick ct_is_tick oc_is_period kV_is_period dc_is_period pm_is_period cd_is_period ct_is_period oc_check_base kV_check_base dc_check_base pm_check_base cd_check_base ct_check_base oc_check_levels kV_check_levels dc_check_levels pm_check_levels cd_check_levels ct_check_levels oc_check_tick kV_check_tick dc_check_tick pm_check_tick cd_check_tick ct_check_tick oc_word_at kV_word_at dc_word_at pm_word_at cd_word_at ct_word_at oc_level_and_size kV_level_and_size dc_level_and_size pm_level_and_size cd_level_and_size ct_level_and_size oc_path kV_path dc_path pm_path cd_path ct_path oc_goes_in_front kV_goes_in_front dc_goes_in_front pm_goes_in_front cd_goes_in_front ct_goes_in_front oc_with_timer kV_with_timer dc_with_timer pm_with_timer cd_with_timer ct_with_timer oc_firing_order kV_firing_order dc_firing_order pm_firing_order cd_firing_order ct_firing_order oc_without_repeats kV_without_repeats dc_without_repeats pm_without_repeats cd_without_repeats ct_without_repeats oc_check_period kV_check_period dc_check_period pm_check_period cd_check_period ct_check_period oc_order_of_firing kV_order_of_firing dc_order_of_firing pm_order_of_firing cd_order_of_firing ct_order_of_firing oc_standing kV_standing dc_standing pm_standing cd_standing ct_standing oc_least_due kV_least_due dc_least_due pm_least_due cd_least_due ct_least_due oc_after_firing kV_after_firing dc_after_firing pm_after_firing cd_after_firing ct_after_firing oc_law_cell_at kV_law_cell_at dc_law_cell_at pm_law_cell_at cd_law_cell_at ct_law_cell_at oc_law_mixed kV_law_mixed dc_law_mixed pm_law_mixed cd_law_mixed ct_law_mixed oc_law_source kV_law_source dc_law_source pm_law_source cd_law_source ct_law_source oc_law_next kV_law_next dc_law_next pm_law_next cd_law_next ct_law_next oc_law_base kV_law_base dc_law_base pm_law_base cd_law_base ct_law_base oc_law_levels kV_law_levels dc_law_levels pm_law_levels cd_law_levels ct_law_levels oc_law_tick kV_law_tick dc_law_tick pm_law_tick cd_law_tick ct_law_tick oc_law_turned kV_law_turned dc_law_turned pm_law_turned cd_law_turned ct_law_turned oc_law_extra kV_law_extra dc_law_extra pm_law_extra cd_law_extra ct_law_extra oc_law kV_law dc_law pm_law cd_law ct_law : Value}
    {C_ : Addr}
    {f_m_init f_m_check_timer f_m_now f_m_put f_m_cancel f_m_reset f_m_timers f_m_advance f_m_lists f_m_restoring : Addr}
    {od_m_init an_m_init od_m_check_timer an_m_check_timer od_m_now an_m_now od_m_put an_m_put od_m_cancel an_m_cancel od_m_reset an_m_reset od_m_timers an_m_timers od_m_advance an_m_advance od_m_lists an_m_lists od_m_restoring an_m_restoring : Option Addr}
    {sl_m_init sl_m_check_timer sl_m_now sl_m_put sl_m_cancel sl_m_reset sl_m_timers sl_m_advance sl_m_lists sl_m_restoring : Array (Option Value)}
    {oc_m_init dc_m_init pm_m_init cd_m_init ct_m_init oc_m_check_timer dc_m_check_timer pm_m_check_timer cd_m_check_timer ct_m_check_timer kV_m_check_timer oc_m_now dc_m_now pm_m_now cd_m_now ct_m_now kV_m_now oc_m_put dc_m_put pm_m_put cd_m_put ct_m_put oc_m_cancel dc_m_cancel pm_m_cancel cd_m_cancel ct_m_cancel kV_m_cancel oc_m_reset dc_m_reset pm_m_reset cd_m_reset ct_m_reset kV_m_reset oc_m_timers dc_m_timers pm_m_timers cd_m_timers ct_m_timers kV_m_timers oc_m_advance dc_m_advance pm_m_advance cd_m_advance ct_m_advance kV_m_advance oc_m_lists dc_m_lists pm_m_lists cd_m_lists ct_m_lists kV_m_lists oc_m_restoring dc_m_restoring pm_m_restoring cd_m_restoring ct_m_restoring kV_m_restoring : Value}
    {kD_m_init : Addr} {kt_m_init : Tok}
    {kD_m_put : Addr}
    {dT_is_tick : Addr} {tc_is_tick : Value} {td_is_tick : Option Addr} {tt_is_tick : Tok} {tn_is_tick : Nat} {ts_is_tick : Array (Option Value)}
    {dT_check_tick : Addr} {tc_check_tick : Value} {td_check_tick : Option Addr} {tt_check_tick : Tok} {tn_check_tick : Nat} {ts_check_tick : Array (Option Value)}
    (a_wall : PySem.W.nsIn K mainGlobals "_wall" = some (some (.ref f_wall)))
    (l_wall : K.lookup f_wall = some ⟨oc_wall, od_wall, .func (PySem.W.fnOf "_wall" "_wall" (defArgs s__wall) (defBody s__wall) (defScope s__wall) .none kV_wall dc_wall pm_wall an_wall cd_wall ct_wall), sl_wall⟩)
    (c_wall : PySem.W.codeIn K cd_wall "_wall" = true) (k_wall : PySem.W.keepIn K (.ref f_wall) = true)
    (a_is_integer : PySem.W.nsIn K mainGlobals "is_integer" = some (some (.ref f_is_integer)))
    (l_is_integer : K.lookup f_is_integer = some ⟨oc_is_integer, od_is_integer, .func (PySem.W.fnOf "is_integer" "is_integer" (defArgs s_is_integer) (defBody s_is_integer) (defScope s_is_integer) .none kV_is_integer dc_is_integer pm_is_integer an_is_integer cd_is_integer ct_is_integer), sl_is_integer⟩)
    (c_is_integer : PySem.W.codeIn K cd_is_integer "is_integer" = true) (k_is_integer : PySem.W.keepIn K (.ref f_is_integer) = true)
    (a_is_word : PySem.W.nsIn K mainGlobals "is_word" = some (some (.ref f_is_word)))
    (l_is_word : K.lookup f_is_word = some ⟨oc_is_word, od_is_word, .func (PySem.W.fnOf "is_word" "is_word" (defArgs s_is_word) (defBody s_is_word) (defScope s_is_word) .none kV_is_word dc_is_word pm_is_word an_is_word cd_is_word ct_is_word), sl_is_word⟩)
    (c_is_word : PySem.W.codeIn K cd_is_word "is_word" = true) (k_is_word : PySem.W.keepIn K (.ref f_is_word) = true)
    (a_is_base : PySem.W.nsIn K mainGlobals "is_base" = some (some (.ref f_is_base)))
    (l_is_base : K.lookup f_is_base = some ⟨oc_is_base, od_is_base, .func (PySem.W.fnOf "is_base" "is_base" (defArgs s_is_base) (defBody s_is_base) (defScope s_is_base) .none kV_is_base dc_is_base pm_is_base an_is_base cd_is_base ct_is_base), sl_is_base⟩)
    (c_is_base : PySem.W.codeIn K cd_is_base "is_base" = true) (k_is_base : PySem.W.keepIn K (.ref f_is_base) = true)
    (a_is_length : PySem.W.nsIn K mainGlobals "is_length" = some (some (.ref f_is_length)))
    (l_is_length : K.lookup f_is_length = some ⟨oc_is_length, od_is_length, .func (PySem.W.fnOf "is_length" "is_length" (defArgs s_is_length) (defBody s_is_length) (defScope s_is_length) .none kV_is_length dc_is_length pm_is_length an_is_length cd_is_length ct_is_length), sl_is_length⟩)
    (c_is_length : PySem.W.codeIn K cd_is_length "is_length" = true) (k_is_length : PySem.W.keepIn K (.ref f_is_length) = true)
    (a_are_levels : PySem.W.nsIn K mainGlobals "are_levels" = some (some (.ref f_are_levels)))
    (l_are_levels : K.lookup f_are_levels = some ⟨oc_are_levels, od_are_levels, .func (PySem.W.fnOf "are_levels" "are_levels" (defArgs s_are_levels) (defBody s_are_levels) (defScope s_are_levels) .none kV_are_levels dc_are_levels pm_are_levels an_are_levels cd_are_levels ct_are_levels), sl_are_levels⟩)
    (c_are_levels : PySem.W.codeIn K cd_are_levels "are_levels" = true) (k_are_levels : PySem.W.keepIn K (.ref f_are_levels) = true)
    (a_is_tick : PySem.W.nsIn K mainGlobals "is_tick" = some (some (.ref f_is_tick)))
    (l_is_tick : K.lookup f_is_tick = some ⟨oc_is_tick, od_is_tick, .func (PySem.W.fnOf "is_tick" "is_tick" (defArgs s_is_tick) (defBody s_is_tick) (defScope s_is_tick) (.ref dT_is_tick) kV_is_tick dc_is_tick pm_is_tick an_is_tick cd_is_tick ct_is_tick), sl_is_tick⟩)
    (t_is_tick : K.lookup dT_is_tick = some ⟨tc_is_tick, td_is_tick, .seq #[.int 0 tt_is_tick] tn_is_tick, ts_is_tick⟩)
    (c_is_tick : PySem.W.codeIn K cd_is_tick "is_tick" = true) (k_is_tick : PySem.W.keepIn K (.ref f_is_tick) = true)
    (a_is_period : PySem.W.nsIn K mainGlobals "is_period" = some (some (.ref f_is_period)))
    (l_is_period : K.lookup f_is_period = some ⟨oc_is_period, od_is_period, .func (PySem.W.fnOf "is_period" "is_period" (defArgs s_is_period) (defBody s_is_period) (defScope s_is_period) .none kV_is_period dc_is_period pm_is_period an_is_period cd_is_period ct_is_period), sl_is_period⟩)
    (c_is_period : PySem.W.codeIn K cd_is_period "is_period" = true) (k_is_period : PySem.W.keepIn K (.ref f_is_period) = true)
    (a_check_base : PySem.W.nsIn K mainGlobals "check_base" = some (some (.ref f_check_base)))
    (l_check_base : K.lookup f_check_base = some ⟨oc_check_base, od_check_base, .func (PySem.W.fnOf "check_base" "check_base" (defArgs s_check_base) (defBody s_check_base) (defScope s_check_base) .none kV_check_base dc_check_base pm_check_base an_check_base cd_check_base ct_check_base), sl_check_base⟩)
    (c_check_base : PySem.W.codeIn K cd_check_base "check_base" = true) (k_check_base : PySem.W.keepIn K (.ref f_check_base) = true)
    (a_check_levels : PySem.W.nsIn K mainGlobals "check_levels" = some (some (.ref f_check_levels)))
    (l_check_levels : K.lookup f_check_levels = some ⟨oc_check_levels, od_check_levels, .func (PySem.W.fnOf "check_levels" "check_levels" (defArgs s_check_levels) (defBody s_check_levels) (defScope s_check_levels) .none kV_check_levels dc_check_levels pm_check_levels an_check_levels cd_check_levels ct_check_levels), sl_check_levels⟩)
    (c_check_levels : PySem.W.codeIn K cd_check_levels "check_levels" = true) (k_check_levels : PySem.W.keepIn K (.ref f_check_levels) = true)
    (a_check_tick : PySem.W.nsIn K mainGlobals "check_tick" = some (some (.ref f_check_tick)))
    (l_check_tick : K.lookup f_check_tick = some ⟨oc_check_tick, od_check_tick, .func (PySem.W.fnOf "check_tick" "check_tick" (defArgs s_check_tick) (defBody s_check_tick) (defScope s_check_tick) (.ref dT_check_tick) kV_check_tick dc_check_tick pm_check_tick an_check_tick cd_check_tick ct_check_tick), sl_check_tick⟩)
    (t_check_tick : K.lookup dT_check_tick = some ⟨tc_check_tick, td_check_tick, .seq #[.int 0 tt_check_tick] tn_check_tick, ts_check_tick⟩)
    (c_check_tick : PySem.W.codeIn K cd_check_tick "check_tick" = true) (k_check_tick : PySem.W.keepIn K (.ref f_check_tick) = true)
    (a_word_at : PySem.W.nsIn K mainGlobals "word_at" = some (some (.ref f_word_at)))
    (l_word_at : K.lookup f_word_at = some ⟨oc_word_at, od_word_at, .func (PySem.W.fnOf "word_at" "word_at" (defArgs s_word_at) (defBody s_word_at) (defScope s_word_at) .none kV_word_at dc_word_at pm_word_at an_word_at cd_word_at ct_word_at), sl_word_at⟩)
    (c_word_at : PySem.W.codeIn K cd_word_at "word_at" = true) (k_word_at : PySem.W.keepIn K (.ref f_word_at) = true)
    (a_level_and_size : PySem.W.nsIn K mainGlobals "level_and_size" = some (some (.ref f_level_and_size)))
    (l_level_and_size : K.lookup f_level_and_size = some ⟨oc_level_and_size, od_level_and_size, .func (PySem.W.fnOf "level_and_size" "level_and_size" (defArgs s_level_and_size) (defBody s_level_and_size) (defScope s_level_and_size) .none kV_level_and_size dc_level_and_size pm_level_and_size an_level_and_size cd_level_and_size ct_level_and_size), sl_level_and_size⟩)
    (c_level_and_size : PySem.W.codeIn K cd_level_and_size "level_and_size" = true) (k_level_and_size : PySem.W.keepIn K (.ref f_level_and_size) = true)
    (a_path : PySem.W.nsIn K mainGlobals "path" = some (some (.ref f_path)))
    (l_path : K.lookup f_path = some ⟨oc_path, od_path, .func (PySem.W.fnOf "path" "path" (defArgs s_path) (defBody s_path) (defScope s_path) .none kV_path dc_path pm_path an_path cd_path ct_path), sl_path⟩)
    (c_path : PySem.W.codeIn K cd_path "path" = true) (k_path : PySem.W.keepIn K (.ref f_path) = true)
    (a_goes_in_front : PySem.W.nsIn K mainGlobals "goes_in_front" = some (some (.ref f_goes_in_front)))
    (l_goes_in_front : K.lookup f_goes_in_front = some ⟨oc_goes_in_front, od_goes_in_front, .func (PySem.W.fnOf "goes_in_front" "goes_in_front" (defArgs s_goes_in_front) (defBody s_goes_in_front) (defScope s_goes_in_front) .none kV_goes_in_front dc_goes_in_front pm_goes_in_front an_goes_in_front cd_goes_in_front ct_goes_in_front), sl_goes_in_front⟩)
    (c_goes_in_front : PySem.W.codeIn K cd_goes_in_front "goes_in_front" = true) (k_goes_in_front : PySem.W.keepIn K (.ref f_goes_in_front) = true)
    (a_with_timer : PySem.W.nsIn K mainGlobals "with_timer" = some (some (.ref f_with_timer)))
    (l_with_timer : K.lookup f_with_timer = some ⟨oc_with_timer, od_with_timer, .func (PySem.W.fnOf "with_timer" "with_timer" (defArgs s_with_timer) (defBody s_with_timer) (defScope s_with_timer) .none kV_with_timer dc_with_timer pm_with_timer an_with_timer cd_with_timer ct_with_timer), sl_with_timer⟩)
    (c_with_timer : PySem.W.codeIn K cd_with_timer "with_timer" = true) (k_with_timer : PySem.W.keepIn K (.ref f_with_timer) = true)
    (a_firing_order : PySem.W.nsIn K mainGlobals "firing_order" = some (some (.ref f_firing_order)))
    (l_firing_order : K.lookup f_firing_order = some ⟨oc_firing_order, od_firing_order, .func (PySem.W.fnOf "firing_order" "firing_order" (defArgs s_firing_order) (defBody s_firing_order) (defScope s_firing_order) .none kV_firing_order dc_firing_order pm_firing_order an_firing_order cd_firing_order ct_firing_order), sl_firing_order⟩)
    (c_firing_order : PySem.W.codeIn K cd_firing_order "firing_order" = true) (k_firing_order : PySem.W.keepIn K (.ref f_firing_order) = true)
    (a_without_repeats : PySem.W.nsIn K mainGlobals "without_repeats" = some (some (.ref f_without_repeats)))
    (l_without_repeats : K.lookup f_without_repeats = some ⟨oc_without_repeats, od_without_repeats, .func (PySem.W.fnOf "without_repeats" "without_repeats" (defArgs s_without_repeats) (defBody s_without_repeats) (defScope s_without_repeats) .none kV_without_repeats dc_without_repeats pm_without_repeats an_without_repeats cd_without_repeats ct_without_repeats), sl_without_repeats⟩)
    (c_without_repeats : PySem.W.codeIn K cd_without_repeats "without_repeats" = true) (k_without_repeats : PySem.W.keepIn K (.ref f_without_repeats) = true)
    (a_check_period : PySem.W.nsIn K mainGlobals "check_period" = some (some (.ref f_check_period)))
    (l_check_period : K.lookup f_check_period = some ⟨oc_check_period, od_check_period, .func (PySem.W.fnOf "check_period" "check_period" (defArgs s_check_period) (defBody s_check_period) (defScope s_check_period) .none kV_check_period dc_check_period pm_check_period an_check_period cd_check_period ct_check_period), sl_check_period⟩)
    (c_check_period : PySem.W.codeIn K cd_check_period "check_period" = true) (k_check_period : PySem.W.keepIn K (.ref f_check_period) = true)
    (a_order_of_firing : PySem.W.nsIn K mainGlobals "order_of_firing" = some (some (.ref f_order_of_firing)))
    (l_order_of_firing : K.lookup f_order_of_firing = some ⟨oc_order_of_firing, od_order_of_firing, .func (PySem.W.fnOf "order_of_firing" "order_of_firing" (defArgs s_order_of_firing) (defBody s_order_of_firing) (defScope s_order_of_firing) .none kV_order_of_firing dc_order_of_firing pm_order_of_firing an_order_of_firing cd_order_of_firing ct_order_of_firing), sl_order_of_firing⟩)
    (c_order_of_firing : PySem.W.codeIn K cd_order_of_firing "order_of_firing" = true) (k_order_of_firing : PySem.W.keepIn K (.ref f_order_of_firing) = true)
    (a_standing : PySem.W.nsIn K mainGlobals "standing" = some (some (.ref f_standing)))
    (l_standing : K.lookup f_standing = some ⟨oc_standing, od_standing, .func (PySem.W.fnOf "standing" "standing" (defArgs s_standing) (defBody s_standing) (defScope s_standing) .none kV_standing dc_standing pm_standing an_standing cd_standing ct_standing), sl_standing⟩)
    (c_standing : PySem.W.codeIn K cd_standing "standing" = true) (k_standing : PySem.W.keepIn K (.ref f_standing) = true)
    (a_least_due : PySem.W.nsIn K mainGlobals "least_due" = some (some (.ref f_least_due)))
    (l_least_due : K.lookup f_least_due = some ⟨oc_least_due, od_least_due, .func (PySem.W.fnOf "least_due" "least_due" (defArgs s_least_due) (defBody s_least_due) (defScope s_least_due) .none kV_least_due dc_least_due pm_least_due an_least_due cd_least_due ct_least_due), sl_least_due⟩)
    (c_least_due : PySem.W.codeIn K cd_least_due "least_due" = true) (k_least_due : PySem.W.keepIn K (.ref f_least_due) = true)
    (a_after_firing : PySem.W.nsIn K mainGlobals "after_firing" = some (some (.ref f_after_firing)))
    (l_after_firing : K.lookup f_after_firing = some ⟨oc_after_firing, od_after_firing, .func (PySem.W.fnOf "after_firing" "after_firing" (defArgs s_after_firing) (defBody s_after_firing) (defScope s_after_firing) .none kV_after_firing dc_after_firing pm_after_firing an_after_firing cd_after_firing ct_after_firing), sl_after_firing⟩)
    (c_after_firing : PySem.W.codeIn K cd_after_firing "after_firing" = true) (k_after_firing : PySem.W.keepIn K (.ref f_after_firing) = true)
    (a_law_cell_at : PySem.W.nsIn K mainGlobals "_law_cell_at" = some (some (.ref f_law_cell_at)))
    (l_law_cell_at : K.lookup f_law_cell_at = some ⟨oc_law_cell_at, od_law_cell_at, .func (PySem.W.fnOf "_law_cell_at" "_law_cell_at" (defArgs s__law_cell_at) (defBody s__law_cell_at) (defScope s__law_cell_at) .none kV_law_cell_at dc_law_cell_at pm_law_cell_at an_law_cell_at cd_law_cell_at ct_law_cell_at), sl_law_cell_at⟩)
    (c_law_cell_at : PySem.W.codeIn K cd_law_cell_at "_law_cell_at" = true) (k_law_cell_at : PySem.W.keepIn K (.ref f_law_cell_at) = true)
    (a_law_mixed : PySem.W.nsIn K mainGlobals "_law_mixed" = some (some (.ref f_law_mixed)))
    (l_law_mixed : K.lookup f_law_mixed = some ⟨oc_law_mixed, od_law_mixed, .func (PySem.W.fnOf "_law_mixed" "_law_mixed" (defArgs s__law_mixed) (defBody s__law_mixed) (defScope s__law_mixed) .none kV_law_mixed dc_law_mixed pm_law_mixed an_law_mixed cd_law_mixed ct_law_mixed), sl_law_mixed⟩)
    (c_law_mixed : PySem.W.codeIn K cd_law_mixed "_law_mixed" = true) (k_law_mixed : PySem.W.keepIn K (.ref f_law_mixed) = true)
    (a_law_source : PySem.W.nsIn K mainGlobals "_law_source" = some (some (.ref f_law_source)))
    (l_law_source : K.lookup f_law_source = some ⟨oc_law_source, od_law_source, .func (PySem.W.fnOf "_law_source" "_law_source" (defArgs s__law_source) (defBody s__law_source) (defScope s__law_source) .none kV_law_source dc_law_source pm_law_source an_law_source cd_law_source ct_law_source), sl_law_source⟩)
    (c_law_source : PySem.W.codeIn K cd_law_source "_law_source" = true) (k_law_source : PySem.W.keepIn K (.ref f_law_source) = true)
    (a_law_next : PySem.W.nsIn K mainGlobals "_law_next" = some (some (.ref f_law_next)))
    (l_law_next : K.lookup f_law_next = some ⟨oc_law_next, od_law_next, .func (PySem.W.fnOf "_law_next" "_law_next" (defArgs s__law_next) (defBody s__law_next) (defScope s__law_next) .none kV_law_next dc_law_next pm_law_next an_law_next cd_law_next ct_law_next), sl_law_next⟩)
    (c_law_next : PySem.W.codeIn K cd_law_next "_law_next" = true) (k_law_next : PySem.W.keepIn K (.ref f_law_next) = true)
    (a_law_base : PySem.W.nsIn K mainGlobals "_law_base" = some (some (.ref f_law_base)))
    (l_law_base : K.lookup f_law_base = some ⟨oc_law_base, od_law_base, .func (PySem.W.fnOf "_law_base" "_law_base" (defArgs s__law_base) (defBody s__law_base) (defScope s__law_base) .none kV_law_base dc_law_base pm_law_base an_law_base cd_law_base ct_law_base), sl_law_base⟩)
    (c_law_base : PySem.W.codeIn K cd_law_base "_law_base" = true) (k_law_base : PySem.W.keepIn K (.ref f_law_base) = true)
    (a_law_levels : PySem.W.nsIn K mainGlobals "_law_levels" = some (some (.ref f_law_levels)))
    (l_law_levels : K.lookup f_law_levels = some ⟨oc_law_levels, od_law_levels, .func (PySem.W.fnOf "_law_levels" "_law_levels" (defArgs s__law_levels) (defBody s__law_levels) (defScope s__law_levels) .none kV_law_levels dc_law_levels pm_law_levels an_law_levels cd_law_levels ct_law_levels), sl_law_levels⟩)
    (c_law_levels : PySem.W.codeIn K cd_law_levels "_law_levels" = true) (k_law_levels : PySem.W.keepIn K (.ref f_law_levels) = true)
    (a_law_tick : PySem.W.nsIn K mainGlobals "_law_tick" = some (some (.ref f_law_tick)))
    (l_law_tick : K.lookup f_law_tick = some ⟨oc_law_tick, od_law_tick, .func (PySem.W.fnOf "_law_tick" "_law_tick" (defArgs s__law_tick) (defBody s__law_tick) (defScope s__law_tick) .none kV_law_tick dc_law_tick pm_law_tick an_law_tick cd_law_tick ct_law_tick), sl_law_tick⟩)
    (c_law_tick : PySem.W.codeIn K cd_law_tick "_law_tick" = true) (k_law_tick : PySem.W.keepIn K (.ref f_law_tick) = true)
    (a_law_turned : PySem.W.nsIn K mainGlobals "_law_turned" = some (some (.ref f_law_turned)))
    (l_law_turned : K.lookup f_law_turned = some ⟨oc_law_turned, od_law_turned, .func (PySem.W.fnOf "_law_turned" "_law_turned" (defArgs s__law_turned) (defBody s__law_turned) (defScope s__law_turned) .none kV_law_turned dc_law_turned pm_law_turned an_law_turned cd_law_turned ct_law_turned), sl_law_turned⟩)
    (c_law_turned : PySem.W.codeIn K cd_law_turned "_law_turned" = true) (k_law_turned : PySem.W.keepIn K (.ref f_law_turned) = true)
    (a_law_extra : PySem.W.nsIn K mainGlobals "_law_extra" = some (some (.ref f_law_extra)))
    (l_law_extra : K.lookup f_law_extra = some ⟨oc_law_extra, od_law_extra, .func (PySem.W.fnOf "_law_extra" "_law_extra" (defArgs s__law_extra) (defBody s__law_extra) (defScope s__law_extra) .none kV_law_extra dc_law_extra pm_law_extra an_law_extra cd_law_extra ct_law_extra), sl_law_extra⟩)
    (c_law_extra : PySem.W.codeIn K cd_law_extra "_law_extra" = true) (k_law_extra : PySem.W.keepIn K (.ref f_law_extra) = true)
    (a_law : PySem.W.nsIn K mainGlobals "law" = some (some (.ref f_law)))
    (l_law : K.lookup f_law = some ⟨oc_law, od_law, .func (PySem.W.fnOf "law" "law" (defArgs s_law) (defBody s_law) (defScope s_law) .none kV_law dc_law pm_law an_law cd_law ct_law), sl_law⟩)
    (c_law : PySem.W.codeIn K cd_law "law" = true) (k_law : PySem.W.keepIn K (.ref f_law) = true)
    (a_Wheel : PySem.W.nsIn K mainGlobals "Wheel" = some (some (.ref C_)))
    (a_m_init : PySem.W.findIn K (.ref C_) "__init__" = some (some (.ref f_m_init))) (i_m_init : PySem.W.isFn K (.ref f_m_init) = true)
    (l_m_init : K.lookup f_m_init = some ⟨oc_m_init, od_m_init, .func (PySem.W.fnOf "__init__" "Wheel.__init__" (defArgs s_Wheel___init__) (defBody s_Wheel___init__) (defScope s_Wheel___init__) .none (.ref kD_m_init) dc_m_init pm_m_init an_m_init cd_m_init ct_m_init), sl_m_init⟩)
    (c_m_init : PySem.W.codeIn K cd_m_init "Wheel.__init__" = true) (k_m_init : PySem.W.keepIn K (.ref f_m_init) = true)
    (d_m_init : PySem.W.nsIn K kD_m_init "start" = some (some (.int 0 kt_m_init)))
    (a_m_check_timer : PySem.W.findIn K (.ref C_) "check_timer" = some (some (.ref f_m_check_timer))) (i_m_check_timer : PySem.W.isFn K (.ref f_m_check_timer) = true)
    (l_m_check_timer : K.lookup f_m_check_timer = some ⟨oc_m_check_timer, od_m_check_timer, .func (PySem.W.fnOf "check_timer" "Wheel.check_timer" (defArgs s_Wheel_check_timer) (defBody s_Wheel_check_timer) (defScope s_Wheel_check_timer) .none kV_m_check_timer dc_m_check_timer pm_m_check_timer an_m_check_timer cd_m_check_timer ct_m_check_timer), sl_m_check_timer⟩)
    (c_m_check_timer : PySem.W.codeIn K cd_m_check_timer "Wheel.check_timer" = true) (k_m_check_timer : PySem.W.keepIn K (.ref f_m_check_timer) = true)
    (a_m_now : PySem.W.findIn K (.ref C_) "now" = some (some (.ref f_m_now))) (i_m_now : PySem.W.isFn K (.ref f_m_now) = true)
    (l_m_now : K.lookup f_m_now = some ⟨oc_m_now, od_m_now, .func (PySem.W.fnOf "now" "Wheel.now" (defArgs s_Wheel_now) (defBody s_Wheel_now) (defScope s_Wheel_now) .none kV_m_now dc_m_now pm_m_now an_m_now cd_m_now ct_m_now), sl_m_now⟩)
    (c_m_now : PySem.W.codeIn K cd_m_now "Wheel.now" = true) (k_m_now : PySem.W.keepIn K (.ref f_m_now) = true)
    (a_m_put : PySem.W.findIn K (.ref C_) "put" = some (some (.ref f_m_put))) (i_m_put : PySem.W.isFn K (.ref f_m_put) = true)
    (l_m_put : K.lookup f_m_put = some ⟨oc_m_put, od_m_put, .func (PySem.W.fnOf "put" "Wheel.put" (defArgs s_Wheel_put) (defBody s_Wheel_put) (defScope s_Wheel_put) .none (.ref kD_m_put) dc_m_put pm_m_put an_m_put cd_m_put ct_m_put), sl_m_put⟩)
    (c_m_put : PySem.W.codeIn K cd_m_put "Wheel.put" = true) (k_m_put : PySem.W.keepIn K (.ref f_m_put) = true)
    (d_m_put : PySem.W.nsIn K kD_m_put "period" = some (some .none))
    (a_m_cancel : PySem.W.findIn K (.ref C_) "cancel" = some (some (.ref f_m_cancel))) (i_m_cancel : PySem.W.isFn K (.ref f_m_cancel) = true)
    (l_m_cancel : K.lookup f_m_cancel = some ⟨oc_m_cancel, od_m_cancel, .func (PySem.W.fnOf "cancel" "Wheel.cancel" (defArgs s_Wheel_cancel) (defBody s_Wheel_cancel) (defScope s_Wheel_cancel) .none kV_m_cancel dc_m_cancel pm_m_cancel an_m_cancel cd_m_cancel ct_m_cancel), sl_m_cancel⟩)
    (c_m_cancel : PySem.W.codeIn K cd_m_cancel "Wheel.cancel" = true) (k_m_cancel : PySem.W.keepIn K (.ref f_m_cancel) = true)
    (a_m_reset : PySem.W.findIn K (.ref C_) "reset" = some (some (.ref f_m_reset))) (i_m_reset : PySem.W.isFn K (.ref f_m_reset) = true)
    (l_m_reset : K.lookup f_m_reset = some ⟨oc_m_reset, od_m_reset, .func (PySem.W.fnOf "reset" "Wheel.reset" (defArgs s_Wheel_reset) (defBody s_Wheel_reset) (defScope s_Wheel_reset) .none kV_m_reset dc_m_reset pm_m_reset an_m_reset cd_m_reset ct_m_reset), sl_m_reset⟩)
    (c_m_reset : PySem.W.codeIn K cd_m_reset "Wheel.reset" = true) (k_m_reset : PySem.W.keepIn K (.ref f_m_reset) = true)
    (a_m_timers : PySem.W.findIn K (.ref C_) "timers" = some (some (.ref f_m_timers))) (i_m_timers : PySem.W.isFn K (.ref f_m_timers) = true)
    (l_m_timers : K.lookup f_m_timers = some ⟨oc_m_timers, od_m_timers, .func (PySem.W.fnOf "timers" "Wheel.timers" (defArgs s_Wheel_timers) (defBody s_Wheel_timers) (defScope s_Wheel_timers) .none kV_m_timers dc_m_timers pm_m_timers an_m_timers cd_m_timers ct_m_timers), sl_m_timers⟩)
    (c_m_timers : PySem.W.codeIn K cd_m_timers "Wheel.timers" = true) (k_m_timers : PySem.W.keepIn K (.ref f_m_timers) = true)
    (a_m_advance : PySem.W.findIn K (.ref C_) "advance" = some (some (.ref f_m_advance))) (i_m_advance : PySem.W.isFn K (.ref f_m_advance) = true)
    (l_m_advance : K.lookup f_m_advance = some ⟨oc_m_advance, od_m_advance, .func (PySem.W.fnOf "advance" "Wheel.advance" (defArgs s_Wheel_advance) (defBody s_Wheel_advance) (defScope s_Wheel_advance) .none kV_m_advance dc_m_advance pm_m_advance an_m_advance cd_m_advance ct_m_advance), sl_m_advance⟩)
    (c_m_advance : PySem.W.codeIn K cd_m_advance "Wheel.advance" = true) (k_m_advance : PySem.W.keepIn K (.ref f_m_advance) = true)
    (a_m_lists : PySem.W.findIn K (.ref C_) "lists" = some (some (.ref f_m_lists))) (i_m_lists : PySem.W.isFn K (.ref f_m_lists) = true)
    (l_m_lists : K.lookup f_m_lists = some ⟨oc_m_lists, od_m_lists, .func (PySem.W.fnOf "lists" "Wheel.lists" (defArgs s_Wheel_lists) (defBody s_Wheel_lists) (defScope s_Wheel_lists) .none kV_m_lists dc_m_lists pm_m_lists an_m_lists cd_m_lists ct_m_lists), sl_m_lists⟩)
    (c_m_lists : PySem.W.codeIn K cd_m_lists "Wheel.lists" = true) (k_m_lists : PySem.W.keepIn K (.ref f_m_lists) = true)
    (a_m_restoring : PySem.W.findIn K (.ref C_) "restoring" = some (some (.ref f_m_restoring))) (i_m_restoring : PySem.W.isFn K (.ref f_m_restoring) = true)
    (l_m_restoring : K.lookup f_m_restoring = some ⟨oc_m_restoring, od_m_restoring, .func (PySem.W.fnOf "restoring" "Wheel.restoring" (defArgs s_Wheel_restoring) (defBody s_Wheel_restoring) (defScope s_Wheel_restoring) .none kV_m_restoring dc_m_restoring pm_m_restoring an_m_restoring cd_m_restoring ct_m_restoring), sl_m_restoring⟩)
    (c_m_restoring : PySem.W.codeIn K cd_m_restoring "Wheel.restoring" = true) (k_m_restoring : PySem.W.keepIn K (.ref f_m_restoring) = true)
    (pg : PySem.W.plainGet K C_ Str.empty = true)
    (hd : PySem.W.hasDictIn K C_ = true)
    (po : PySem.W.plainOver K C_ = true)
    (sa : PySem.W.findIn K (.ref C_) "__setattr__" = some (some (.builtin "object.__setattr__")))
    (mkC : PySem.W.makesIn K C_ = true)
    (kc : PySem.W.keepIn K (.ref C_) = true)
    (n_base : PySem.W.findIn K (.ref C_) "base" = some none)
    (n_words : PySem.W.findIn K (.ref C_) "words" = some none)
    (n_tick : PySem.W.findIn K (.ref C_) "tick" = some none)
    (n_following : PySem.W.findIn K (.ref C_) "following" = some none)
    (n_live : PySem.W.findIn K (.ref C_) "live" = some none)
    (z_isinstance : PySem.W.nsIn K mainGlobals "isinstance" = some none)
    (z_int : PySem.W.nsIn K mainGlobals "int" = some none)
    (z_bool : PySem.W.nsIn K mainGlobals "bool" = some none)
    (z_str : PySem.W.nsIn K mainGlobals "str" = some none)
    (z_all : PySem.W.nsIn K mainGlobals "all" = some none)
    (z_list : PySem.W.nsIn K mainGlobals "list" = some none)
    (z_len : PySem.W.nsIn K mainGlobals "len" = some none)
    (z_min : PySem.W.nsIn K mainGlobals "min" = some none)
    (z_sorted : PySem.W.nsIn K mainGlobals "sorted" = some none)
    (z_dict : PySem.W.nsIn K mainGlobals "dict" = some none)
    (z_range : PySem.W.nsIn K mainGlobals "range" = some none)
    (z_max : PySem.W.nsIn K mainGlobals "max" = some none)
    (a_WORDS : PySem.W.nsIn K mainGlobals "WORDS" = some (some (.ref f_WORDS)))
    (l_WORDS : K.lookup f_WORDS = some ⟨.type "tuple", od_WORDS, .seq #[.str "stack" tk0_WORDS, .str "queue" tk1_WORDS] tn_WORDS, ts_WORDS⟩)
    (a_MOST_LEVELS : PySem.W.nsIn K mainGlobals "MOST_LEVELS" = some (some (.int 60 tk_MOST_LEVELS)))
    (a_MOST_FIRINGS : PySem.W.nsIn K mainGlobals "MOST_FIRINGS" = some (some (.int 2000 tk_MOST_FIRINGS)))
    : ∃ fd : FuncData, (∀ (s : Shared) (v : Value), BindsTo s fd ⟨[v], []⟩ [("_law_script", v)]) ∧ ∀ base : Heap, K.In base → base.Ns mainGlobals mg → FnOk l.prog w K mg base CX0 7 fa fd ["_law_script"] (spLaw K) := by
  have e := hfa.symm.trans (PySem.W.mg_of X G a_law)
  cases e
  have T : Tx K mg := ⟨PySem.W.mg_none_of X G z_isinstance, PySem.W.mg_none_of X G z_int, PySem.W.mg_none_of X G z_bool, PySem.W.mg_none_of X G z_str, PySem.W.mg_none_of X G z_all, PySem.W.mg_none_of X G z_list, PySem.W.mg_none_of X G z_len, PySem.W.mg_none_of X G z_min, PySem.W.mg_none_of X G z_sorted, PySem.W.mg_none_of X G z_dict, PySem.W.mg_none_of X G z_range, PySem.W.mg_none_of X G z_max⟩
  have h_WORDS : ∃ a, mg "WORDS" = some (.ref a) ∧ ∀ H, SqT K H a [.str "stack", .str "queue"] := ⟨f_WORDS, PySem.W.mg_of X G a_WORDS, fun H => .inr ⟨_, _, _, l_WORDS, rfl, rfl, by simp [sizeLine_eq], .cons ⟨_, rfl⟩ (.cons ⟨_, rfl⟩ (.nil))⟩⟩
  have h_MOST_LEVELS : mg "MOST_LEVELS" = some (.int 60 tk_MOST_LEVELS) := PySem.W.mg_of X G a_MOST_LEVELS
  have h_MOST_FIRINGS : mg "MOST_FIRINGS" = some (.int 2000 tk_MOST_FIRINGS) := PySem.W.mg_of X G a_MOST_FIRINGS
  have D_wall : Df K mg "_wall" s__wall ["k"] := by
    have F := fun_mk (st := s__wall) l_wall c_wall k_wall
    exact ⟨_, _, F, PySem.W.mg_of X G a_wall, F.binds (ps := ["k"]) fun _ _ _ _ _ _ us hl => match us, hl with | [_], _ => rfl⟩
  have D_is_integer : Df K mg "is_integer" s_is_integer ["given"] := by
    have F := fun_mk (st := s_is_integer) l_is_integer c_is_integer k_is_integer
    exact ⟨_, _, F, PySem.W.mg_of X G a_is_integer, F.binds (ps := ["given"]) fun _ _ _ _ _ _ us hl => match us, hl with | [_], _ => rfl⟩
  have D_is_word : Df K mg "is_word" s_is_word ["given"] := by
    have F := fun_mk (st := s_is_word) l_is_word c_is_word k_is_word
    exact ⟨_, _, F, PySem.W.mg_of X G a_is_word, F.binds (ps := ["given"]) fun _ _ _ _ _ _ us hl => match us, hl with | [_], _ => rfl⟩
  have D_is_base : Df K mg "is_base" s_is_base ["given"] := by
    have F := fun_mk (st := s_is_base) l_is_base c_is_base k_is_base
    exact ⟨_, _, F, PySem.W.mg_of X G a_is_base, F.binds (ps := ["given"]) fun _ _ _ _ _ _ us hl => match us, hl with | [_], _ => rfl⟩
  have D_is_length : Df K mg "is_length" s_is_length ["given"] := by
    have F := fun_mk (st := s_is_length) l_is_length c_is_length k_is_length
    exact ⟨_, _, F, PySem.W.mg_of X G a_is_length, F.binds (ps := ["given"]) fun _ _ _ _ _ _ us hl => match us, hl with | [_], _ => rfl⟩
  have D_are_levels : Df K mg "are_levels" s_are_levels ["given"] := by
    have F := fun_mk (st := s_are_levels) l_are_levels c_are_levels k_are_levels
    exact ⟨_, _, F, PySem.W.mg_of X G a_are_levels, F.binds (ps := ["given"]) fun _ _ _ _ _ _ us hl => match us, hl with | [_], _ => rfl⟩
  have D_is_tick : Dd K mg "is_tick" s_is_tick ["given", "least"] (.int 0) := by
    have F : FunD K "is_tick" "is_tick" (defArgs s_is_tick) (defBody s_is_tick) (defScope s_is_tick) [(.int 0)] [] _ _ := ⟨⟨_, _, _, _, _, _, _, _, _, _, rfl, l_is_tick, c_is_tick, .inr ⟨by simp, dT_is_tick, _, [_], _, rfl, t_is_tick, rfl, .cons ⟨_, rfl⟩ .nil⟩, .inl rfl⟩, k_is_tick⟩
    exact ⟨_, _, F, PySem.W.mg_of X G a_is_tick,
      FunD.binds1 (ps := ["given", "least"]) F 1 0 (by simp) rfl fun _ _ _ _ _ _ _ us its hu hi => match us, its, hu, hi with | [_], [_], _, _ => ⟨_, rfl, rfl⟩,
      by obtain ⟨ds, r, b⟩ := FunD.binds1 (ps := ["given", "least"]) F 2 1 (by simp) rfl fun _ _ _ _ _ _ _ us its hu hi => match us, its, hu, hi with | [_, _], [_], _, _ => ⟨_, rfl, rfl⟩
         cases r
         exact b⟩
  have D_is_period : Df K mg "is_period" s_is_period ["given"] := by
    have F := fun_mk (st := s_is_period) l_is_period c_is_period k_is_period
    exact ⟨_, _, F, PySem.W.mg_of X G a_is_period, F.binds (ps := ["given"]) fun _ _ _ _ _ _ us hl => match us, hl with | [_], _ => rfl⟩
  have D_check_base : Df K mg "check_base" s_check_base ["base"] := by
    have F := fun_mk (st := s_check_base) l_check_base c_check_base k_check_base
    exact ⟨_, _, F, PySem.W.mg_of X G a_check_base, F.binds (ps := ["base"]) fun _ _ _ _ _ _ us hl => match us, hl with | [_], _ => rfl⟩
  have D_check_levels : Df K mg "check_levels" s_check_levels ["levels"] := by
    have F := fun_mk (st := s_check_levels) l_check_levels c_check_levels k_check_levels
    exact ⟨_, _, F, PySem.W.mg_of X G a_check_levels, F.binds (ps := ["levels"]) fun _ _ _ _ _ _ us hl => match us, hl with | [_], _ => rfl⟩
  have D_check_tick : Dd K mg "check_tick" s_check_tick ["tick", "least"] (.int 0) := by
    have F : FunD K "check_tick" "check_tick" (defArgs s_check_tick) (defBody s_check_tick) (defScope s_check_tick) [(.int 0)] [] _ _ := ⟨⟨_, _, _, _, _, _, _, _, _, _, rfl, l_check_tick, c_check_tick, .inr ⟨by simp, dT_check_tick, _, [_], _, rfl, t_check_tick, rfl, .cons ⟨_, rfl⟩ .nil⟩, .inl rfl⟩, k_check_tick⟩
    exact ⟨_, _, F, PySem.W.mg_of X G a_check_tick,
      FunD.binds1 (ps := ["tick", "least"]) F 1 0 (by simp) rfl fun _ _ _ _ _ _ _ us its hu hi => match us, its, hu, hi with | [_], [_], _, _ => ⟨_, rfl, rfl⟩,
      by obtain ⟨ds, r, b⟩ := FunD.binds1 (ps := ["tick", "least"]) F 2 1 (by simp) rfl fun _ _ _ _ _ _ _ us its hu hi => match us, its, hu, hi with | [_, _], [_], _, _ => ⟨_, rfl, rfl⟩
         cases r
         exact b⟩
  have D_word_at : Df K mg "word_at" s_word_at ["levels", "level"] := by
    have F := fun_mk (st := s_word_at) l_word_at c_word_at k_word_at
    exact ⟨_, _, F, PySem.W.mg_of X G a_word_at, F.binds (ps := ["levels", "level"]) fun _ _ _ _ _ _ us hl => match us, hl with | [_, _], _ => rfl⟩
  have D_level_and_size : Df K mg "level_and_size" s_level_and_size ["base", "now", "due"] := by
    have F := fun_mk (st := s_level_and_size) l_level_and_size c_level_and_size k_level_and_size
    exact ⟨_, _, F, PySem.W.mg_of X G a_level_and_size, F.binds (ps := ["base", "now", "due"]) fun _ _ _ _ _ _ us hl => match us, hl with | [_, _, _], _ => rfl⟩
  have D_path : Df K mg "path" s_path ["base", "now", "due"] := by
    have F := fun_mk (st := s_path) l_path c_path k_path
    exact ⟨_, _, F, PySem.W.mg_of X G a_path, F.binds (ps := ["base", "now", "due"]) fun _ _ _ _ _ _ us hl => match us, hl with | [_, _, _], _ => rfl⟩
  have D_goes_in_front : Df K mg "goes_in_front" s_goes_in_front ["base", "levels", "now", "due", "lowest"] := by
    have F := fun_mk (st := s_goes_in_front) l_goes_in_front c_goes_in_front k_goes_in_front
    exact ⟨_, _, F, PySem.W.mg_of X G a_goes_in_front, F.binds (ps := ["base", "levels", "now", "due", "lowest"]) fun _ _ _ _ _ _ us hl => match us, hl with | [_, _, _, _, _], _ => rfl⟩
  have D_with_timer : Df K mg "with_timer" s_with_timer ["numbers", "number", "front"] := by
    have F := fun_mk (st := s_with_timer) l_with_timer c_with_timer k_with_timer
    exact ⟨_, _, F, PySem.W.mg_of X G a_with_timer, F.binds (ps := ["numbers", "number", "front"]) fun _ _ _ _ _ _ us hl => match us, hl with | [_, _, _], _ => rfl⟩
  have D_firing_order : Df K mg "firing_order" s_firing_order ["base", "levels", "due", "settings"] := by
    have F := fun_mk (st := s_firing_order) l_firing_order c_firing_order k_firing_order
    exact ⟨_, _, F, PySem.W.mg_of X G a_firing_order, F.binds (ps := ["base", "levels", "due", "settings"]) fun _ _ _ _ _ _ us hl => match us, hl with | [_, _, _, _], _ => rfl⟩
  have D_without_repeats : Df K mg "without_repeats" s_without_repeats ["levels"] := by
    have F := fun_mk (st := s_without_repeats) l_without_repeats c_without_repeats k_without_repeats
    exact ⟨_, _, F, PySem.W.mg_of X G a_without_repeats, F.binds (ps := ["levels"]) fun _ _ _ _ _ _ us hl => match us, hl with | [_], _ => rfl⟩
  have D_check_period : Df K mg "check_period" s_check_period ["period"] := by
    have F := fun_mk (st := s_check_period) l_check_period c_check_period k_check_period
    exact ⟨_, _, F, PySem.W.mg_of X G a_check_period, F.binds (ps := ["period"]) fun _ _ _ _ _ _ us hl => match us, hl with | [_], _ => rfl⟩
  have D_order_of_firing : Df K mg "order_of_firing" s_order_of_firing ["base", "levels", "live", "tick"] := by
    have F := fun_mk (st := s_order_of_firing) l_order_of_firing c_order_of_firing k_order_of_firing
    exact ⟨_, _, F, PySem.W.mg_of X G a_order_of_firing, F.binds (ps := ["base", "levels", "live", "tick"]) fun _ _ _ _ _ _ us hl => match us, hl with | [_, _, _, _], _ => rfl⟩
  have D_standing : Df K mg "standing" s_standing ["base", "levels", "live", "tick"] := by
    have F := fun_mk (st := s_standing) l_standing c_standing k_standing
    exact ⟨_, _, F, PySem.W.mg_of X G a_standing, F.binds (ps := ["base", "levels", "live", "tick"]) fun _ _ _ _ _ _ us hl => match us, hl with | [_, _, _, _], _ => rfl⟩
  have D_least_due : Df K mg "least_due" s_least_due ["live"] := by
    have F := fun_mk (st := s_least_due) l_least_due c_least_due k_least_due
    exact ⟨_, _, F, PySem.W.mg_of X G a_least_due, F.binds (ps := ["live"]) fun _ _ _ _ _ _ us hl => match us, hl with | [_], _ => rfl⟩
  have D_after_firing : Df K mg "after_firing" s_after_firing ["live", "numbers", "tick"] := by
    have F := fun_mk (st := s_after_firing) l_after_firing c_after_firing k_after_firing
    exact ⟨_, _, F, PySem.W.mg_of X G a_after_firing, F.binds (ps := ["live", "numbers", "tick"]) fun _ _ _ _ _ _ us hl => match us, hl with | [_, _, _], _ => rfl⟩
  have D_law_cell_at : Df K mg "_law_cell_at" s__law_cell_at ["_law_script", "_law_k"] := by
    have F := fun_mk (st := s__law_cell_at) l_law_cell_at c_law_cell_at k_law_cell_at
    exact ⟨_, _, F, PySem.W.mg_of X G a_law_cell_at, F.binds (ps := ["_law_script", "_law_k"]) fun _ _ _ _ _ _ us hl => match us, hl with | [_, _], _ => rfl⟩
  have D_law_mixed : Df K mg "_law_mixed" s__law_mixed ["_law_cell", "_law_k"] := by
    have F := fun_mk (st := s__law_mixed) l_law_mixed c_law_mixed k_law_mixed
    exact ⟨_, _, F, PySem.W.mg_of X G a_law_mixed, F.binds (ps := ["_law_cell", "_law_k"]) fun _ _ _ _ _ _ us hl => match us, hl with | [_, _], _ => rfl⟩
  have D_law_source : Df K mg "_law_source" s__law_source ["_law_script", "_law_k"] := by
    have F := fun_mk (st := s__law_source) l_law_source c_law_source k_law_source
    exact ⟨_, _, F, PySem.W.mg_of X G a_law_source, F.binds (ps := ["_law_script", "_law_k"]) fun _ _ _ _ _ _ us hl => match us, hl with | [_, _], _ => rfl⟩
  have D_law_next : Df K mg "_law_next" s__law_next ["_law_source_here", "_law_many"] := by
    have F := fun_mk (st := s__law_next) l_law_next c_law_next k_law_next
    exact ⟨_, _, F, PySem.W.mg_of X G a_law_next, F.binds (ps := ["_law_source_here", "_law_many"]) fun _ _ _ _ _ _ us hl => match us, hl with | [_, _], _ => rfl⟩
  have D_law_base : Df K mg "_law_base" s__law_base ["_law_source_here"] := by
    have F := fun_mk (st := s__law_base) l_law_base c_law_base k_law_base
    exact ⟨_, _, F, PySem.W.mg_of X G a_law_base, F.binds (ps := ["_law_source_here"]) fun _ _ _ _ _ _ us hl => match us, hl with | [_], _ => rfl⟩
  have D_law_levels : Df K mg "_law_levels" s__law_levels ["_law_source_here"] := by
    have F := fun_mk (st := s__law_levels) l_law_levels c_law_levels k_law_levels
    exact ⟨_, _, F, PySem.W.mg_of X G a_law_levels, F.binds (ps := ["_law_source_here"]) fun _ _ _ _ _ _ us hl => match us, hl with | [_], _ => rfl⟩
  have D_law_tick : Df K mg "_law_tick" s__law_tick ["_law_source_here", "_law_base_here"] := by
    have F := fun_mk (st := s__law_tick) l_law_tick c_law_tick k_law_tick
    exact ⟨_, _, F, PySem.W.mg_of X G a_law_tick, F.binds (ps := ["_law_source_here", "_law_base_here"]) fun _ _ _ _ _ _ us hl => match us, hl with | [_, _], _ => rfl⟩
  have D_law_turned : Df K mg "_law_turned" s__law_turned ["_law_rows", "_law_by"] := by
    have F := fun_mk (st := s__law_turned) l_law_turned c_law_turned k_law_turned
    exact ⟨_, _, F, PySem.W.mg_of X G a_law_turned, F.binds (ps := ["_law_rows", "_law_by"]) fun _ _ _ _ _ _ us hl => match us, hl with | [_, _], _ => rfl⟩
  have D_law_extra : Df K mg "_law_extra" s__law_extra ["_law_source_here", "_law_wheel", "_law_last"] := by
    have F := fun_mk (st := s__law_extra) l_law_extra c_law_extra k_law_extra
    exact ⟨_, _, F, PySem.W.mg_of X G a_law_extra, F.binds (ps := ["_law_source_here", "_law_wheel", "_law_last"]) fun _ _ _ _ _ _ us hl => match us, hl with | [_, _, _], _ => rfl⟩
  have D_law : Df K mg "law" s_law ["_law_script"] := by
    have F := fun_mk (st := s_law) l_law c_law k_law
    exact ⟨_, _, F, PySem.W.mg_of X G a_law, F.binds (ps := ["_law_script"]) fun _ _ _ _ _ _ us hl => match us, hl with | [_], _ => rfl⟩
  have TW : TxW K mg C_ := ⟨⟨pg, hd, po, sa⟩, n_base, n_words, n_tick, n_following, n_live, PySem.W.mg_of X G a_Wheel⟩
  have F_m_init : FunD K "__init__" "Wheel.__init__" (defArgs s_Wheel___init__) (defBody s_Wheel___init__) (defScope s_Wheel___init__) [] [("start", .int 0)] _ _ := ⟨⟨_, _, _, _, _, _, _, _, _, _, rfl, l_m_init, c_m_init, .inl ⟨rfl, rfl⟩, .inr ⟨_, rfl, fun q hq => by rw [List.mem_singleton.mp hq]; exact ⟨_, d_m_init, ⟨_, rfl⟩⟩⟩⟩, k_m_init⟩
  obtain ⟨ds_m_init, V_m_init, B_m_init⟩ := FunD.binds0 (ps := ["self", "base", "levels", "start"]) F_m_init 3 (by simp) rfl fun _ _ _ _ _ _ us ks hl hk => match us, ks, hl, hk with | [_, _, _], [_], _, _ => ⟨_, _, _, _, _, _, rfl, rfl, rfl⟩
  have F_m_check_timer := fun_mk (st := s_Wheel_check_timer) l_m_check_timer c_m_check_timer k_m_check_timer
  have B_m_check_timer := F_m_check_timer.binds (ps := ["self", "timer"]) fun _ _ _ _ _ _ us hl => match us, hl with | [_, _], _ => rfl
  have F_m_now := fun_mk (st := s_Wheel_now) l_m_now c_m_now k_m_now
  have B_m_now := F_m_now.binds (ps := ["self"]) fun _ _ _ _ _ _ us hl => match us, hl with | [_], _ => rfl
  have F_m_put : FunD K "put" "Wheel.put" (defArgs s_Wheel_put) (defBody s_Wheel_put) (defScope s_Wheel_put) [] [("period", .non)] _ _ := ⟨⟨_, _, _, _, _, _, _, _, _, _, rfl, l_m_put, c_m_put, .inl ⟨rfl, rfl⟩, .inr ⟨_, rfl, fun q hq => by rw [List.mem_singleton.mp hq]; exact ⟨_, d_m_put, rfl⟩⟩⟩, k_m_put⟩
  obtain ⟨ds_m_put, V_m_put, B_m_put⟩ := FunD.binds0 (ps := ["self", "due", "period"]) F_m_put 2 (by simp) rfl fun _ _ _ _ _ _ us ks hl hk => match us, ks, hl, hk with | [_, _], [_], _, _ => ⟨_, _, _, _, _, _, rfl, rfl, rfl⟩
  have F_m_cancel := fun_mk (st := s_Wheel_cancel) l_m_cancel c_m_cancel k_m_cancel
  have B_m_cancel := F_m_cancel.binds (ps := ["self", "timer"]) fun _ _ _ _ _ _ us hl => match us, hl with | [_, _], _ => rfl
  have F_m_reset := fun_mk (st := s_Wheel_reset) l_m_reset c_m_reset k_m_reset
  have B_m_reset := F_m_reset.binds (ps := ["self", "timer", "due"]) fun _ _ _ _ _ _ us hl => match us, hl with | [_, _, _], _ => rfl
  have F_m_timers := fun_mk (st := s_Wheel_timers) l_m_timers c_m_timers k_m_timers
  have B_m_timers := F_m_timers.binds (ps := ["self"]) fun _ _ _ _ _ _ us hl => match us, hl with | [_], _ => rfl
  have F_m_advance := fun_mk (st := s_Wheel_advance) l_m_advance c_m_advance k_m_advance
  have B_m_advance := F_m_advance.binds (ps := ["self", "tick"]) fun _ _ _ _ _ _ us hl => match us, hl with | [_, _], _ => rfl
  have F_m_lists := fun_mk (st := s_Wheel_lists) l_m_lists c_m_lists k_m_lists
  have B_m_lists := F_m_lists.binds (ps := ["self"]) fun _ _ _ _ _ _ us hl => match us, hl with | [_], _ => rfl
  have F_m_restoring := fun_mk (st := s_Wheel_restoring) l_m_restoring c_m_restoring k_m_restoring
  have B_m_restoring := F_m_restoring.binds (ps := ["self"]) fun _ _ _ _ _ _ us hl => match us, hl with | [_], _ => rfl
  refine ⟨PySem.W.fnOf "law" "law" (defArgs s_law) (defBody s_law) (defScope s_law) .none kV_law dc_law pm_law an_law cd_law ct_law, fun s v => .of_eq rfl, fun base _ _ => ?_⟩
  have h_is_integer : Has l.prog w K mg base 1 "is_integer" ["given"] [] spIsInt := D_is_integer.has fun _ _ F => ok_is_integer F T
  have h2_is_tick : Has l.prog w K mg base 2 "is_tick" ["given", "least"] [.int 0] spIsTick ∧ Has l.prog w K mg base 2 "is_tick" ["given", "least"] [] spIsTick := D_is_tick.has fun _ _ F => ok_is_tick F T h_is_integer
  have h_is_base : Has l.prog w K mg base 2 "is_base" ["given"] [] spIsBase := D_is_base.has fun _ _ F => ok_is_base F h_is_integer
  have h_check_base : Has l.prog w K mg base 3 "check_base" ["base"] [] spCheckBase := D_check_base.has fun _ _ F => ok_check_base F h_is_base
  have h2_check_tick : Has l.prog w K mg base 3 "check_tick" ["tick", "least"] [.int 0] spCheckTick ∧ Has l.prog w K mg base 3 "check_tick" ["tick", "least"] [] spCheckTick := D_check_tick.has fun _ _ F => ok_check_tick F h2_is_tick.2
  have h_level_and_size : Has l.prog w K mg base 1 "level_and_size" ["base", "now", "due"] [] spLevel := D_level_and_size.has fun _ _ F => ok_level_and_size F 
  have h_path : Has l.prog w K mg base 2 "path" ["base", "now", "due"] [] spPath := D_path.has fun _ _ F => ok_path F h_level_and_size
  have h_word_at : Has l.prog w K mg base 1 "word_at" ["levels", "level"] [] (spWordAt K) := D_word_at.has fun _ _ F => ok_word_at F T
  have h_is_word : Has l.prog w K mg base 1 "is_word" ["given"] [] spIsWord := D_is_word.has fun _ _ F => ok_is_word F T h_WORDS
  have h_is_length : Has l.prog w K mg base 2 "is_length" ["given"] [] spIsLength := D_is_length.has fun _ _ F => ok_is_length F ⟨_, h_MOST_LEVELS⟩ h_is_integer
  have h_are_levels : Has l.prog w K mg base 3 "are_levels" ["given"] [] (spAreLevels K) := D_are_levels.has fun _ _ F => ok_are_levels F T h_is_length h_is_word
  have h_check_levels : Has l.prog w K mg base 4 "check_levels" ["levels"] [] (spCheckLevels K) := D_check_levels.has fun _ _ F => ok_check_levels F h_are_levels
  have h_goes_in_front : Has l.prog w K mg base 3 "goes_in_front" ["base", "levels", "now", "due", "lowest"] [] (spFront K) := D_goes_in_front.has fun _ _ F => ok_goes_in_front F h_path h_word_at
  have h_without_repeats : Has l.prog w K mg base 1 "without_repeats" ["levels"] [] (spRepeats K) := D_without_repeats.has fun _ _ F => ok_repeats F T
  have h_is_period : Has l.prog w K mg base 2 "is_period" ["given"] [] spIsPeriod := D_is_period.has fun _ _ F => ok_is_period F h_is_integer
  have h_check_period : Has l.prog w K mg base 3 "check_period" ["period"] [] spCheckPeriod := D_check_period.has fun _ _ F => ok_check_period F h_is_period
  have h_with_timer : Has l.prog w K mg base 1 "with_timer" ["numbers", "number", "front"] [] spWithTimer := D_with_timer.has fun _ _ F => ok_with_timer F 
  have h_firing_order : Has l.prog w K mg base 4 "firing_order" ["base", "levels", "due", "settings"] [] (spFiringOrder K) := D_firing_order.has fun _ _ F => ok_firing_order F h_with_timer h_goes_in_front
  have h_order_of_firing : Has l.prog w K mg base 5 "order_of_firing" ["base", "levels", "live", "tick"] [] (spOrder K) := D_order_of_firing.has fun _ _ F => ok_order F h_firing_order
  have h_least_due : Has l.prog w K mg base 1 "least_due" ["live"] [] spLeast := D_least_due.has fun _ _ F => ok_least_due F T
  have h_after_firing : Has l.prog w K mg base 1 "after_firing" ["live", "numbers", "tick"] [] spAfter := D_after_firing.has fun _ _ F => ok_after F T
  have h_standing : Has l.prog w K mg base 4 "standing" ["base", "levels", "live", "tick"] [] (spStanding K) := D_standing.has fun _ _ F => ok_standing F T h_level_and_size h_with_timer h_goes_in_front
  have M_init : ∃ (fi : Addr) (fdi : FuncData), Mk K C_ fi ∧ FnOk l.prog w K mg base CX0 5 fi fdi ["self", "base", "levels", "start"] (spInit C_ K) ∧ KBn K fdi ["self", "base", "levels", "start"] 3 [Str.ofString "start"] (fun us ws => us ++ ws) (fun vs zs => vs ++ zs) := by
    obtain ⟨mv, hb⟩ := FunD.kbinds0 (ps := ["self", "base", "levels", "start"]) F_m_init 3 [Str.ofString "start"] [] (fun us _ ws => us ++ ws) (by simp) (fun q hq => by cases hq) (fun h1 _ h3 => h1.append h3) fun _ _ _ _ _ _ us mv ws h1 h2 h3 => match us, mv, ws, h1, h2, h3 with | [_, _, _], [], [_], _, _, _ => rfl
    exact ⟨_, _, ⟨mkC, a_m_init, i_m_init, kc⟩, ok_init F_m_init TW h_check_base h2_check_tick.1 h_check_levels h_without_repeats, hb⟩
  have M_check_timer : HasM l.prog w K mg base 2 C_ "check_timer" ["self", "timer"] [] (spCheckTimer C_) := ⟨_, _, [], ok_check_timer F_m_check_timer TW h_is_integer, ⟨a_m_check_timer, i_m_check_timer, k_m_check_timer⟩, B_m_check_timer, .nil⟩
  have M_now : HasM l.prog w K mg base 1 C_ "now" ["self"] [] (spNow C_) := ⟨_, _, [], ok_now F_m_now TW, ⟨a_m_now, i_m_now, k_m_now⟩, B_m_now, .nil⟩
  obtain ⟨mv_put, hb_put⟩ := FunD.kbinds0 (ps := ["self", "due", "period"]) F_m_put 2 [Str.ofString "period"] [] (fun us _ ws => us ++ ws) (by simp) (fun q hq => by cases hq) (fun h1 _ h3 => h1.append h3) fun _ _ _ _ _ _ us mv ws h1 h2 h3 => match us, mv, ws, h1, h2, h3 with | [_, _], [], [_], _, _, _ => rfl
  have MK_put : HasPut l.prog w K mg base 4 C_ := ⟨_, _, ds_m_put, ok_put F_m_put TW h2_check_tick.2 h_check_period, ⟨a_m_put, i_m_put, k_m_put⟩, B_m_put, V_m_put, hb_put⟩
  have M_cancel : HasM l.prog w K mg base 3 C_ "cancel" ["self", "timer"] [] (spCancel C_) := ⟨_, _, [], ok_cancel F_m_cancel TW M_check_timer, ⟨a_m_cancel, i_m_cancel, k_m_cancel⟩, B_m_cancel, .nil⟩
  have M_reset : HasM l.prog w K mg base 4 C_ "reset" ["self", "timer", "due"] [] (spReset C_) := ⟨_, _, [], ok_reset F_m_reset TW M_check_timer h2_check_tick.2, ⟨a_m_reset, i_m_reset, k_m_reset⟩, B_m_reset, .nil⟩
  have M_timers : HasM l.prog w K mg base 1 C_ "timers" ["self"] [] (spTimers C_) := ⟨_, _, [], ok_timers F_m_timers T TW, ⟨a_m_timers, i_m_timers, k_m_timers⟩, B_m_timers, .nil⟩
  have M_advance : HasM l.prog w K mg base 6 C_ "advance" ["self", "tick"] [] (spAdvance C_) := ⟨_, _, [], ok_advance F_m_advance T TW ⟨_, h_MOST_FIRINGS⟩ h2_check_tick.2 h_least_due h_order_of_firing h_after_firing, ⟨a_m_advance, i_m_advance, k_m_advance⟩, B_m_advance, .nil⟩
  have M_lists : HasM l.prog w K mg base 5 C_ "lists" ["self"] [] (spLists C_) := ⟨_, _, [], ok_lists F_m_lists TW h_standing, ⟨a_m_lists, i_m_lists, k_m_lists⟩, B_m_lists, .nil⟩
  have M_restoring : HasM l.prog w K mg base 6 C_ "restoring" ["self"] [] (spRestoring C_) := ⟨_, _, [], ok_restoring F_m_restoring TW M_lists h_word_at, ⟨a_m_restoring, i_m_restoring, k_m_restoring⟩, B_m_restoring, .nil⟩
  have h_law_cell_at : Has l.prog w K mg base 1 "_law_cell_at" ["_law_script", "_law_k"] [] (spCellAt K) := D_law_cell_at.has fun _ _ F => ok_cell_at F T
  have h_law_mixed : Has l.prog w K mg base 1 "_law_mixed" ["_law_cell", "_law_k"] [] spMixed := D_law_mixed.has fun _ _ F => ok_mixed F 
  have h_law_source : Has l.prog w K mg base 2 "_law_source" ["_law_script", "_law_k"] [] (spSource K) := D_law_source.has fun _ _ F => ok_source F T h_law_cell_at h_law_mixed
  have h_law_next : Has l.prog w K mg base 2 "_law_next" ["_law_source_here", "_law_many"] [] spNext := D_law_next.has fun _ _ F => ok_next F h_law_mixed
  have h_law_base : Has l.prog w K mg base 3 "_law_base" ["_law_source_here"] [] spBase := D_law_base.has fun _ _ F => ok_base F h_law_next
  have h_law_tick : Has l.prog w K mg base 3 "_law_tick" ["_law_source_here", "_law_base_here"] [] spTick := D_law_tick.has fun _ _ F => ok_tick F T h_law_next
  have h_law_levels : Has l.prog w K mg base 3 "_law_levels" ["_law_source_here"] [] spLevels := D_law_levels.has fun _ _ F => ok_levels F T h_law_next
  have h_law_turned : Has l.prog w K mg base 1 "_law_turned" ["_law_rows", "_law_by"] [] spTurned := D_law_turned.has fun _ _ F => ok_turned60 F T
  have h_law_extra : Has l.prog w K mg base 5 "_law_extra" ["_law_source_here", "_law_wheel", "_law_last"] [] (spExtra60 C_) := D_law_extra.has fun _ _ F => ok_extra60 F T TW MK_put M_cancel M_reset h_law_next
  exact ok_law (fun_mk (st := s_law) l_law c_law k_law) T TW M_init MK_put h_law_source h_law_base h_law_levels h_law_tick h_law_next h_law_extra h_law_turned M_restoring M_advance M_lists M_timers M_now
end Td
open PySem PySem.W PyProof.Rows in
set_option maxRecDepth 100000 in
set_option maxHeartbeats 0 in
theorem PySem.Challenge.cw_timerdeque_k60_whole_in_parts_and_withou_holds : PySem.Challenge.rw_timerdeque_k60_whole_in_parts_and_withou.Holds := by
  w_on; o_law; k_head; (case hw => w_witness2)
  k_fill
  refine L2.walk_of (l := PySem.Challenge.rw_timerdeque_k60_whole_in_parts_and_withou) (n := 63) (k := 7) (x := "_law_script") (CX := fun _ => L2.CX0) (sp := fun w => Td.spLaw _) rfl (by decide) rfl ⟨rfl, by decide, by decide⟩ (fun w h Y => PySem.W.kIn_of Y) ?F (fun _ _ a ns hl _ hS => ⟨a, ns, rfl, hS, hl, fun _ => rfl⟩) (fun _ _ _ _ _ h => h)
  case F =>
    intro w mg fa h KX G hmg
    refine' Td.all_mk KX G hmg ?a_wall ?l_wall ?c_wall ?k_wall ?a_is_integer ?l_is_integer ?c_is_integer ?k_is_integer ?a_is_word ?l_is_word ?c_is_word ?k_is_word ?a_is_base ?l_is_base ?c_is_base ?k_is_base ?a_is_length ?l_is_length ?c_is_length ?k_is_length ?a_are_levels ?l_are_levels ?c_are_levels ?k_are_levels ?a_is_tick ?l_is_tick ?t_is_tick ?c_is_tick ?k_is_tick ?a_is_period ?l_is_period ?c_is_period ?k_is_period ?a_check_base ?l_check_base ?c_check_base ?k_check_base ?a_check_levels ?l_check_levels ?c_check_levels ?k_check_levels ?a_check_tick ?l_check_tick ?t_check_tick ?c_check_tick ?k_check_tick ?a_word_at ?l_word_at ?c_word_at ?k_word_at ?a_level_and_size ?l_level_and_size ?c_level_and_size ?k_level_and_size ?a_path ?l_path ?c_path ?k_path ?a_goes_in_front ?l_goes_in_front ?c_goes_in_front ?k_goes_in_front ?a_with_timer ?l_with_timer ?c_with_timer ?k_with_timer ?a_firing_order ?l_firing_order ?c_firing_order ?k_firing_order ?a_without_repeats ?l_without_repeats ?c_without_repeats ?k_without_repeats ?a_check_period ?l_check_period ?c_check_period ?k_check_period ?a_order_of_firing ?l_order_of_firing ?c_order_of_firing ?k_order_of_firing ?a_standing ?l_standing ?c_standing ?k_standing ?a_least_due ?l_least_due ?c_least_due ?k_least_due ?a_after_firing ?l_after_firing ?c_after_firing ?k_after_firing ?a_law_cell_at ?l_law_cell_at ?c_law_cell_at ?k_law_cell_at ?a_law_mixed ?l_law_mixed ?c_law_mixed ?k_law_mixed ?a_law_source ?l_law_source ?c_law_source ?k_law_source ?a_law_next ?l_law_next ?c_law_next ?k_law_next ?a_law_base ?l_law_base ?c_law_base ?k_law_base ?a_law_levels ?l_law_levels ?c_law_levels ?k_law_levels ?a_law_tick ?l_law_tick ?c_law_tick ?k_law_tick ?a_law_turned ?l_law_turned ?c_law_turned ?k_law_turned ?a_law_extra ?l_law_extra ?c_law_extra ?k_law_extra ?a_law ?l_law ?c_law ?k_law ?a_Wheel ?a_m_init ?i_m_init ?l_m_init ?c_m_init ?k_m_init ?d_m_init ?a_m_check_timer ?i_m_check_timer ?l_m_check_timer ?c_m_check_timer ?k_m_check_timer ?a_m_now ?i_m_now ?l_m_now ?c_m_now ?k_m_now ?a_m_put ?i_m_put ?l_m_put ?c_m_put ?k_m_put ?d_m_put ?a_m_cancel ?i_m_cancel ?l_m_cancel ?c_m_cancel ?k_m_cancel ?a_m_reset ?i_m_reset ?l_m_reset ?c_m_reset ?k_m_reset ?a_m_timers ?i_m_timers ?l_m_timers ?c_m_timers ?k_m_timers ?a_m_advance ?i_m_advance ?l_m_advance ?c_m_advance ?k_m_advance ?a_m_lists ?i_m_lists ?l_m_lists ?c_m_lists ?k_m_lists ?a_m_restoring ?i_m_restoring ?l_m_restoring ?c_m_restoring ?k_m_restoring ?pg ?hd ?po ?sa ?mkC ?kc ?n_base ?n_words ?n_tick ?n_following ?n_live ?z_isinstance ?z_int ?z_bool ?z_str ?z_all ?z_list ?z_len ?z_min ?z_sorted ?z_dict ?z_range ?z_max ?a_WORDS ?l_WORDS ?a_MOST_LEVELS ?a_MOST_FIRINGS
    (case a_wall => k_is)
    (case l_wall => k_is)
    (case c_wall => k_is)
    (case k_wall => k_is)
    (case a_is_integer => k_is)
    (case l_is_integer => k_is)
    (case c_is_integer => k_is)
    (case k_is_integer => k_is)
    (case a_is_word => k_is)
    (case l_is_word => k_is)
    (case c_is_word => k_is)
    (case k_is_word => k_is)
    (case a_is_base => k_is)
    (case l_is_base => k_is)
    (case c_is_base => k_is)
    (case k_is_base => k_is)
    (case a_is_length => k_is)
    (case l_is_length => k_is)
    (case c_is_length => k_is)
    (case k_is_length => k_is)
    (case a_are_levels => k_is)
    (case l_are_levels => k_is)
    (case c_are_levels => k_is)
    (case k_are_levels => k_is)
    (case a_is_tick => k_is)
    (case l_is_tick => k_is)
    (case t_is_tick => k_is)
    (case c_is_tick => k_is)
    (case k_is_tick => k_is)
    (case a_is_period => k_is)
    (case l_is_period => k_is)
    (case c_is_period => k_is)
    (case k_is_period => k_is)
    (case a_check_base => k_is)
    (case l_check_base => k_is)
    (case c_check_base => k_is)
    (case k_check_base => k_is)
    (case a_check_levels => k_is)
    (case l_check_levels => k_is)
    (case c_check_levels => k_is)
    (case k_check_levels => k_is)
    (case a_check_tick => k_is)
    (case l_check_tick => k_is)
    (case t_check_tick => k_is)
    (case c_check_tick => k_is)
    (case k_check_tick => k_is)
    (case a_word_at => k_is)
    (case l_word_at => k_is)
    (case c_word_at => k_is)
    (case k_word_at => k_is)
    (case a_level_and_size => k_is)
    (case l_level_and_size => k_is)
    (case c_level_and_size => k_is)
    (case k_level_and_size => k_is)
    (case a_path => k_is)
    (case l_path => k_is)
    (case c_path => k_is)
    (case k_path => k_is)
    (case a_goes_in_front => k_is)
    (case l_goes_in_front => k_is)
    (case c_goes_in_front => k_is)
    (case k_goes_in_front => k_is)
    (case a_with_timer => k_is)
    (case l_with_timer => k_is)
    (case c_with_timer => k_is)
    (case k_with_timer => k_is)
    (case a_firing_order => k_is)
    (case l_firing_order => k_is)
    (case c_firing_order => k_is)
    (case k_firing_order => k_is)
    (case a_without_repeats => k_is)
    (case l_without_repeats => k_is)
    (case c_without_repeats => k_is)
    (case k_without_repeats => k_is)
    (case a_check_period => k_is)
    (case l_check_period => k_is)
    (case c_check_period => k_is)
    (case k_check_period => k_is)
    (case a_order_of_firing => k_is)
    (case l_order_of_firing => k_is)
    (case c_order_of_firing => k_is)
    (case k_order_of_firing => k_is)
    (case a_standing => k_is)
    (case l_standing => k_is)
    (case c_standing => k_is)
    (case k_standing => k_is)
    (case a_least_due => k_is)
    (case l_least_due => k_is)
    (case c_least_due => k_is)
    (case k_least_due => k_is)
    (case a_after_firing => k_is)
    (case l_after_firing => k_is)
    (case c_after_firing => k_is)
    (case k_after_firing => k_is)
    (case a_law_cell_at => k_is)
    (case l_law_cell_at => k_is)
    (case c_law_cell_at => k_is)
    (case k_law_cell_at => k_is)
    (case a_law_mixed => k_is)
    (case l_law_mixed => k_is)
    (case c_law_mixed => k_is)
    (case k_law_mixed => k_is)
    (case a_law_source => k_is)
    (case l_law_source => k_is)
    (case c_law_source => k_is)
    (case k_law_source => k_is)
    (case a_law_next => k_is)
    (case l_law_next => k_is)
    (case c_law_next => k_is)
    (case k_law_next => k_is)
    (case a_law_base => k_is)
    (case l_law_base => k_is)
    (case c_law_base => k_is)
    (case k_law_base => k_is)
    (case a_law_levels => k_is)
    (case l_law_levels => k_is)
    (case c_law_levels => k_is)
    (case k_law_levels => k_is)
    (case a_law_tick => k_is)
    (case l_law_tick => k_is)
    (case c_law_tick => k_is)
    (case k_law_tick => k_is)
    (case a_law_turned => k_is)
    (case l_law_turned => k_is)
    (case c_law_turned => k_is)
    (case k_law_turned => k_is)
    (case a_law_extra => k_is)
    (case l_law_extra => k_is)
    (case c_law_extra => k_is)
    (case k_law_extra => k_is)
    (case a_law => k_is)
    (case l_law => k_is)
    (case c_law => k_is)
    (case k_law => k_is)
    (case a_Wheel => k_is)
    (case a_m_init => k_is)
    (case i_m_init => k_is)
    (case l_m_init => k_is)
    (case c_m_init => k_is)
    (case k_m_init => k_is)
    (case d_m_init => k_is)
    (case a_m_check_timer => k_is)
    (case i_m_check_timer => k_is)
    (case l_m_check_timer => k_is)
    (case c_m_check_timer => k_is)
    (case k_m_check_timer => k_is)
    (case a_m_now => k_is)
    (case i_m_now => k_is)
    (case l_m_now => k_is)
    (case c_m_now => k_is)
    (case k_m_now => k_is)
    (case a_m_put => k_is)
    (case i_m_put => k_is)
    (case l_m_put => k_is)
    (case c_m_put => k_is)
    (case k_m_put => k_is)
    (case d_m_put => k_is)
    (case a_m_cancel => k_is)
    (case i_m_cancel => k_is)
    (case l_m_cancel => k_is)
    (case c_m_cancel => k_is)
    (case k_m_cancel => k_is)
    (case a_m_reset => k_is)
    (case i_m_reset => k_is)
    (case l_m_reset => k_is)
    (case c_m_reset => k_is)
    (case k_m_reset => k_is)
    (case a_m_timers => k_is)
    (case i_m_timers => k_is)
    (case l_m_timers => k_is)
    (case c_m_timers => k_is)
    (case k_m_timers => k_is)
    (case a_m_advance => k_is)
    (case i_m_advance => k_is)
    (case l_m_advance => k_is)
    (case c_m_advance => k_is)
    (case k_m_advance => k_is)
    (case a_m_lists => k_is)
    (case i_m_lists => k_is)
    (case l_m_lists => k_is)
    (case c_m_lists => k_is)
    (case k_m_lists => k_is)
    (case a_m_restoring => k_is)
    (case i_m_restoring => k_is)
    (case l_m_restoring => k_is)
    (case c_m_restoring => k_is)
    (case k_m_restoring => k_is)
    (case pg => k_is)
    (case hd => k_is)
    (case po => k_is)
    (case sa => k_is)
    (case mkC => k_is)
    (case kc => k_is)
    (case n_base => k_is)
    (case n_words => k_is)
    (case n_tick => k_is)
    (case n_following => k_is)
    (case n_live => k_is)
    (case z_isinstance => k_is)
    (case z_int => k_is)
    (case z_bool => k_is)
    (case z_str => k_is)
    (case z_all => k_is)
    (case z_list => k_is)
    (case z_len => k_is)
    (case z_min => k_is)
    (case z_sorted => k_is)
    (case z_dict => k_is)
    (case z_range => k_is)
    (case z_max => k_is)
    (case a_WORDS => k_is)
    (case l_WORDS => k_is)
    (case a_MOST_LEVELS => k_is)
    (case a_MOST_FIRINGS => k_is)
