import PyProof.Rows.All
import Wide.All
import OpenK.AllK
import Wide.FinOn
import HandS.ForMost
import HandS.IsInst
import HandS.Wide
import HandS.WideBits
import HandS.Iter
import HandS.NoneIn
import PyProof.LongRange
import HandS.Defaults
import HandS.Zip
import HandS.Flow
import HandS.SortKw
import HandS.SortOrd
import KE.DatumOrd
import HandS.Conv
import HandS.More
import HandS.Small
import HandS.Exc
import HandS.ExcOwn
import HandS.ExcIs
import HandS.TryOnly
import HandS.WordsExc
import HandS.Lambda
import HandS.EndTab
import KE.KNestM
import PyProof.ReprRoads
import PyProof.Rows.RegFStrParts
import HandS.Style
import KE.SortData
import HandS.SortRule
import HandS.DictTup
import PyProof.DictMoreH
import HandS.MakeKwOnly
import HandS.WordsDict
import HandS.SortInts
import HandS.TupAny
import HandS.SetFor
import HandS.Strs
import HandS.Rev
import HandS.TupSets
import PySem.Challenge.RW_timerdeque_k31_plans_and_sightings_refus
set_option Elab.async false
set_option linter.all false
set_option maxRecDepth 100000
set_option maxHeartbeats 4000000
set_option exponentiation.threshold 10000
namespace Td
open PySem PySem.Spec PyProof.Rows L2
/-! ### small things: promises by name, heaps, numbers -/
section
variable {P : Program} {w : World} {K : PySem.W.Frag} {mg : Str → Option Value} {base : Heap}
/-- the module's name x holds a def that keeps the promise sp, its last parameters filled up by dvs -/
def Has (P : Program) (w : World) (K : PySem.W.Frag) (mg : Str → Option Value) (base : Heap) (k : Nat) (x : Str) (ps : List Str) (dvs : List V) (sp : Sp) : Prop :=
  ∃ (f : Addr) (fd : FuncData) (ds : List Value), FnOk P w K mg base CX0 k f fd ps sp ∧ mg x = some (.ref f) ∧ PySem.W.keepIn K (.ref f) = true ∧ Binds K fd ps ds ∧ Vals dvs ds
/-- what the top says of a def without defaults -/
def Df (K : PySem.W.Frag) (mg : Str → Option Value) (x : Str) (st : Stmt) (ps : List Str) : Prop :=
  ∃ (f : Addr) (fd : FuncData), Fun K x x st f fd ∧ mg x = some (.ref f) ∧ Binds K fd ps []
theorem Df.has {k : Nat} {x : Str} {st : Stmt} {ps : List Str} {sp : Sp} (D : Df K mg x st ps) (ok : ∀ f fd, Fun K x x st f fd → FnOk P w K mg base CX0 k f fd ps sp) : Has P w K mg base k x ps [] sp := by
  obtain ⟨f, fd, F, m, b⟩ := D
  exact ⟨f, fd, [], ok f fd F, m, F.kp, b, .nil⟩
/-- a def with one default, the last parameter's -/
def Dd (K : PySem.W.Frag) (mg : Str → Option Value) (x : Str) (st : Stmt) (ps : List Str) (d : V) : Prop :=
  ∃ (f : Addr) (fd : FuncData), FunD K x x (defArgs st) (defBody st) (defScope st) [d] [] f fd ∧ mg x = some (.ref f) ∧ (∃ ds, Vals [d] ds ∧ Binds K fd ps ds) ∧ Binds K fd ps []
theorem Dd.has {k : Nat} {x : Str} {st : Stmt} {ps : List Str} {d : V} {sp : Sp} (D : Dd K mg x st ps d) (ok : ∀ f fd, FunD K x x (defArgs st) (defBody st) (defScope st) [d] [] f fd → FnOk P w K mg base CX0 k f fd ps sp) :
    Has P w K mg base k x ps [d] sp ∧ Has P w K mg base k x ps [] sp := by
  obtain ⟨f, fd, F, m, ⟨ds, r, b⟩, b0⟩ := D
  exact ⟨⟨f, fd, ds, ok f fd F, m, F.kp, b, r⟩, ⟨f, fd, [], ok f fd F, m, F.kp, b0, .nil⟩⟩
end
section
variable {X : Cx}
/-- a product of which one side is small, or both are not too great -/
def CMulA (i j : Int) : Prop := IntMulOk i j
theorem op_mulA : OpR X (binaryOp .Mult) (rI CMulA fun i j => .int (i * j)) := opI fun _ _ _ _ _ _ _ hc q => mul_int q hc
end
/-! x *= e, ints -/
section
variable {X : Cx}
def ipC (C : Int → Int → Prop) (f : Int → Int → Int) : TIp := fun x y H Q => ∃ i j, x = .int i ∧ y = .int j ∧ C i j ∧ Q (.int (f i j)) H
theorem ip_mulA : PIp X .Mult (ipC CMulA fun i j => i * j) := by
  intro pins s σ H x y v u Q I r1 r2 h
  obtain ⟨i, j, rfl, rfl, hm, q⟩ := h
  obtain ⟨t, rfl⟩ := r1
  obtain ⟨t', rfl⟩ := r2
  exact imul_int ⟨.int _, H, I.tok _, ⟨_, rfl⟩, q⟩ hm
end
theorem mul_l {i j : Int} (h1 : -(2 ^ 64) < i) (h2 : i < 2 ^ 64) : CMulA i j := CMul.ok (.inl ⟨h1, h2⟩)
theorem mul_r {i j : Int} (h1 : -(2 ^ 64) < j) (h2 : j < 2 ^ 64) : CMulA i j := CMul.ok (.inr ⟨h1, h2⟩)
theorem mul_w {i j : Int} (a b : Nat) (ha : i.natAbs < 2 ^ a) (hb : j.natAbs < 2 ^ b) (h0 : 0 < a := by decide) (h1 : 0 < b := by decide) (h : a + b ≤ 1000000 := by decide) : CMulA i j := (wide_mul ha hb h0 h1 h).ok
theorem div_s {i j : Int} (h : 0 < j) (h2 : j < 2 ^ 300) : CDivW i j := wide_div (b := 300) h (by omega) (by decide) (by decide)
theorem div_b {i j : Int} (b : Nat) (h : 0 < j) (h2 : j < 2 ^ b) (h0 : 0 < b := by decide) (h9 : b ≤ 9000 := by decide) : CDivW i j := by
  refine wide_div (b := b) h ?_ h0 h9
  have e : ((2 ^ b : Nat) : Int) = (2 : Int) ^ b := by
    rw [Int.natCast_pow]
    rfl
  omega
theorem same_upd {H : Hp} {p : Addr} {o : HO} (h : H p = none) : Same H (upd H p o) := fun b x e => by
  rw [upd_ne (ne_of_none e h)]
  exact e
theorem sizeLine_ge {n : Nat} (h : n ≤ 1000000) : n < sizeLine := by
  rw [sizeLine_eq]
  omega
theorem sizeLine_le {n : Nat} (h : n ≤ 1000000) : n ≤ sizeLine := Nat.le_of_lt (sizeLine_ge h)
theorem pos_of {a c : Nat} (h : a ≤ c) (n : ¬ a = c) : 0 < c := by omega
/-! ### operators on numbers that are not negative -/
def rN (C : Nat → Nat → Prop) (g : Nat → Nat → Nat) : R2 := fun x y H Q => ∃ a b : Nat, x = .int (a : Nat) ∧ y = .int (b : Nat) ∧ C a b ∧ Q (.int ((g a b : Nat) : Int)) H
section
variable {X : Cx}
theorem opN {f : Value → Value → Sem Value} {C : Nat → Nat → Prop} {g : Nat → Nat → Nat} {CI : Int → Int → Prop} {gI : Int → Int → V} (h : OpR X f (rI CI gI)) (e : ∀ a b : Nat, C a b → CI (a : Nat) (b : Nat) ∧ gI (a : Nat) (b : Nat) = .int ((g a b : Nat) : Int)) : OpR X f (rN C g) := by
  intro pins s σ H x y v u Q I rx ry hq
  obtain ⟨a, b, ex, ey, hc, q⟩ := hq
  obtain ⟨h1, h2⟩ := e a b hc
  exact h pins s σ H x y v u Q I rx ry ⟨_, _, ex, ey, h1, by rw [h2]; exact q⟩
theorem opN0 {f : Value → Value → Sem Value} {C : Nat → Nat → Prop} {g : Nat → Nat → Nat} {gI : Int → Int → V} (h : OpR X f (rI0 gI)) (e : ∀ a b : Nat, C a b → gI (a : Nat) (b : Nat) = .int ((g a b : Nat) : Int)) : OpR X f (rN C g) := by
  intro pins s σ H x y v u Q I rx ry hq
  obtain ⟨a, b, ex, ey, hc, q⟩ := hq
  exact h pins s σ H x y v u Q I rx ry ⟨_, _, ex, ey, by rw [e a b hc]; exact q⟩
def NDiv (_ b : Nat) : Prop := 0 < b ∧ b < 2 ^ 9000
def NMod (_ b : Nat) : Prop := 0 < b
def NSub (a b : Nat) : Prop := b ≤ a
def NMul (a b : Nat) : Prop := IntMulOk (a : Int) (b : Int)
def NAny (_ _ : Nat) : Prop := True
theorem op_divN : OpR X (binaryOp .FloorDiv) (rN NDiv fun a b => a / b) := opN op_fdivW fun a b h => ⟨wide_div (b := 9000) (Int.natCast_pos.mpr h.1) h.2 (by decide) (Nat.le_refl _), rfl⟩
theorem op_remN : OpR X (binaryOp .Mod) (rN NMod fun a b => a % b) := opN op_mod fun a b h => ⟨Int.natCast_pos.mpr h, rfl⟩
theorem op_mulN : OpR X (binaryOp .Mult) (rN NMul fun a b => a * b) := opN op_mulA fun a b h => ⟨h, congrArg V.int (Int.natCast_mul a b).symm⟩
theorem op_addN : OpR X (binaryOp .Add) (rN NAny fun a b => a + b) := opN0 op_add fun _ _ _ => rfl
theorem op_subN : OpR X (binaryOp .Sub) (rN NSub fun a b => a - b) := opN0 op_sub fun a b h => congrArg V.int (Int.natCast_sub h).symm
end
theorem ndiv {a b : Nat} (t : Nat) (h : 0 < b) (h2 : b < 2 ^ t) (ht : t ≤ 9000 := by decide) : NDiv a b := ⟨h, Nat.lt_of_lt_of_le h2 (Nat.pow_le_pow_right (by decide) ht)⟩
theorem nmul_l {a b : Nat} (h : a < 2 ^ 64) : NMul a b := mul_l (by omega) (by omega)
theorem nmul_r {a b : Nat} (h : b < 2 ^ 64) : NMul a b := mul_r (by omega) (by omega)
theorem nmul_w {a b : Nat} (i j : Nat) (ha : a < 2 ^ i) (hb : b < 2 ^ j) (h0 : 0 < i := by decide) (h1 : 0 < j := by decide) (h : i + j ≤ 1000000 := by decide) : NMul a b := mul_w i j ha hb h0 h1 h
theorem int_ne {a b : Nat} (h : a ≠ b) : decide (V.int (a : Nat) = V.int (b : Nat)) = false := decide_eq_false fun e => h (Int.ofNat.inj (V.int.inj e))
theorem dT {p : Prop} [Decidable p] (h : p) : V.bl (decide p) = V.bl true := congrArg V.bl (decide_eq_true h)
theorem dF {p : Prop} [Decidable p] (h : ¬ p) : V.bl (decide p) = V.bl false := congrArg V.bl (decide_eq_false h)
theorem nT {p : Prop} [Decidable p] (h : ¬ p) : V.bl (!decide p) = V.bl true := congrArg V.bl (congrArg (!·) (decide_eq_false h))
theorem nF {p : Prop} [Decidable p] (h : p) : V.bl (!decide p) = V.bl false := congrArg V.bl (congrArg (!·) (decide_eq_true h))
theorem vN {a b : Nat} (h : a ≠ b) : ¬ V.int (a : Nat) = V.int (b : Nat) := fun e => h (Int.ofNat.inj (V.int.inj e))
theorem vE {a b : Nat} (h : a = b) : V.int (a : Nat) = V.int (b : Nat) := congrArg (fun c : Nat => V.int (c : Nat)) h
theorem vI {a b : Int} (h : a ≠ b) : ¬ V.int a = V.int b := fun e => h (V.int.inj e)
/-! ### rules with the written part named (within a comprehension's block) -/
section
variable {X : Cx} {K : PySem.W.Frag}
theorem ix_tupK (e : X.K = K) : IxR X (rIxT K) := by subst e; exact ix_tup
theorem ix_listK (e : X.K = K) : IxR X (rIxL K) := by subst e; exact ix_list
theorem sl_tupK (e : X.K = K) : SlR X (rSlT K) := by subst e; exact sl_tup
theorem sl_listK (e : X.K = K) : SlR X (rSlL K) := by subst e; exact sl_list
theorem op_eqK (e : X.K = K) (hu : X.A.units + 64 < cLine) : OpR X (compareOp .Eq) (rEqD K) := by subst e; exact op_eqD hu
theorem op_neK (e : X.K = K) (hu : X.A.units + 64 < cLine) : OpR X (compareOp .NotEq) (rNeD K) := by subst e; exact op_neD hu
theorem isiK (e : X.K = K) : CallR X (.builtin "isinstance") (rIsi K) := by subst e; exact call_isi
def rLenK (K : PySem.W.Frag) : List V → Hp → VK → Prop := fun xs H Q => ∃ p ys, xs = [.ref p] ∧ (SqL K H p ys ∨ SqT K H p ys) ∧ Q (.int ys.length) H
theorem lenK (e : X.K = K) : CallR X (.builtin "len") (rLenK K) := by subst e; exact call_len_seq
theorem allK (e : X.K = K) (hc : X.calm = true) : CallR X (.builtin "all") (rAll K) := by subst e; exact cr_all hc
theorem sumK (e : X.K = K) (hc : X.calm = true) : CallR X (.builtin "sum") (rSum K) := by subst e; exact cr_sum hc
theorem maxK (e : X.K = K) (hc : X.calm = true) : CallR X (.builtin "max") (rMax K) := by subst e; exact cr_max hc
theorem minK (e : X.K = K) (hc : X.calm = true) : CallR X (.builtin "min") (rMin K) := by subst e; exact cr_min hc
theorem anyK (e : X.K = K) (hc : X.calm = true) : CallR X (.builtin "any") (rAny K) := by subst e; exact cr_any hc
end
section
variable {X : Cx} {K : PySem.W.Frag}
theorem ix_ltK (e : X.K = K) : IxR X (fun x y H Q => rIxL K x y H Q ∨ rIxT K x y H Q) := by subst e; exact ix_list.or ix_tup
theorem pe_orTK {a b : Expr} {ta tb : TE} {rest : List Expr} {pos : Pos} (e : X.K = K) (ha : PE X a ta) (hb : PE X (.BoolOp .Or (b :: rest) pos) tb) : PE X (.BoolOp .Or (a :: b :: rest) pos) (tOrT K ta tb) := by subst e; exact pe_orT ha hb
end
theorem yesT {σ : L2.St} {H : Hp} {Q : Bool → Hp → Prop} (h : Q true H) : tYes σ H Q := h
section
variable {X : Cx} {K : PySem.W.Frag}
theorem pg_tupK {es : List Expr} {k : Nat} {t : TGs} {n : Nat} {pos : Pos} (e : X.K = K) (hc : X.calm = true) (h : PGs X es t)
    (hn : (assignEach es X.env).length = n := by rfl) (hst : (assignEach es X.env).findIdx? (·.1) = none := by rfl) : PG X (.Tuple es k pos) (gTup K n t) := by
  subst e
  exact pg_tup hc h hn hst
end
theorem tyx_list {K : PySem.W.Frag} {H : Hp} {a : Addr} {xs : List V} (h : SqL K H a xs) : TyX K H (.ref a) (.type "list") := by
  rcases h with (h | ⟨o, h⟩) | ⟨o, its, n, h, hc, _⟩
  · exact .base (.lst h)
  · exact .base (.frz h)
  · exact .kList h hc
/-- max and min of two numbers that are not negative -/
def rNN (g : Nat → Nat → Nat) : List V → Hp → VK → Prop := fun xs H Q => ∃ a b : Nat, xs = [.int (a : Nat), .int (b : Nat)] ∧ Q (.int ((g a b : Nat) : Int)) H
section
variable {X : Cx}
theorem max2N (hc : X.calm = true) : CallR X (.builtin "max") (rNN max) := by
  intro pins s σ H xs us Q I r h
  obtain ⟨a, b, rfl, q⟩ := h
  refine call_max2 hc pins s σ H _ us Q I r ⟨_, _, rfl, ?_⟩
  have e : (if (b : Int) > (a : Int) then (b : Int) else (a : Int)) = ((max a b : Nat) : Int) := by split <;> omega
  rw [e]
  exact q
theorem max0N (hc : X.calm = true) : CallR X (.builtin "max") (fun xs H Q => ∃ (z : Int) (n : Nat), xs = [.int 0, .int z] ∧ (if z > 0 then z else 0) = (n : Int) ∧ Q (.int (n : Nat)) H) := by
  intro pins s σ H xs us Q I r h
  obtain ⟨z, n, rfl, e, q⟩ := h
  refine call_max2 hc pins s σ H _ us Q I r ⟨0, z, rfl, ?_⟩
  rw [e]
  exact q
theorem min2N (hc : X.calm = true) : CallR X (.builtin "min") (rNN min) := by
  intro pins s σ H xs us Q I r h
  obtain ⟨a, b, rfl, q⟩ := h
  refine call_min2 hc pins s σ H _ us Q I r ⟨_, _, rfl, ?_⟩
  have e : (if (b : Int) < (a : Int) then (b : Int) else (a : Int)) = ((min a b : Nat) : Int) := by split <;> omega
  rw [e]
  exact q
end
/-- one rest behind several ways -/
theorem cut_at {α : Type} {I : α → Hp → Prop} {G : Prop} (R : α → Hp → Prop) (h1 : (∀ a H, I a H → R a H) → G) (h2 : ∀ a H, I a H → R a H) : G := h1 h2
theorem cut_rest {I : Hp → Prop} {G : Prop} (R : Hp → Prop) (h1 : (∀ H, I H → R H) → G) (h2 : ∀ H, I H → R H) : G := h1 h2
/-! ### range over numbers of any size -/
theorem turn_long {P : Program} {w : World} {K : PySem.W.Frag} {tg : Expr} (r : Addr) (lo c : Int) (n : Nat) :
    Turn P w K tg (Itc lo c n) [r] r (fun i hp => IsLongIter hp r (lo + (i : Nat) * c) ((n : Int) - (i : Nat)) c) where
  mem := List.mem_singleton.mpr rfl
  obj := fun _ _ here b hb => by
    cases List.mem_singleton.mp hb
    exact ⟨_, here, fun _ z => nomatch z⟩
  keep := fun _ _ _ here same => same r (List.mem_singleton.mpr rfl) _ here
  item := by
    intro Y y1 y2 y3 calm i pins s σ H E inv own here more
    subst y1; subst y2; subst y3
    have o := own r (List.mem_singleton.mpr rfl)
    refine (Walks.longrange (prog := Y.prog) (w := Y.w) (inv.ok.hd calm) r lo c n).item i s _ _ more here fun v h2 k hv next keep => ?_
    obtain ⟨t, rfl⟩ := hv
    have inv2 : Inv Y pins σ H { s with heap := h2, toks := k } := inv.turned (fun b ob hb e => keep b ob (fun z => hb (List.mem_singleton.mp z)) e) o.1 o.2.1 o.2.2.2.1 o.2.2.2.2.1 o.2.2.2.2.2
    have stay : ∀ b ∈ [r], H b = none := fun b hb => (own b hb).1
    exact ⟨_, rfl, go_of (s := { s with heap := h2, toks := k }) (n := "longrange_iterator") next rfl rfl (by decide) ⟨.int (lo + (i : Nat) * c), H, inv2, ⟨t, rfl⟩, ⟨rfl, rfl⟩, next, stay⟩⟩
  done := by
    intro Y y1 y2 y3 calm i pins s σ H E inv own here over
    subst y1; subst y2; subst y3
    have o := own r (List.mem_singleton.mpr rfl)
    have le : n ≤ i := over
    exact wpAny_pyNext_long_end (inv.ok.hd calm) here (by omega) fun h2 same => ⟨rfl, inv.turned (t' := s.toks) (fun b ob hb e => same b ob hb e) o.1 o.2.1 o.2.2.2.1 o.2.2.2.2.1 o.2.2.2.2.2⟩
  self := fun _ _ _ _ _ here h => wpAny_pyIter_longiter here h
/-- a range object just made, whatever its size -/
theorem range_wide {X : Cx} {tg : Expr} {pins : List (Addr × Obj)} {σ : L2.St} {H : Hp} {s : Shared} {R : It → Hp → Prop} {E : Value → Shared → Prop} {lo hi c : Int} {t u v : Tok} {tk n : Nat} (I : Inv X pins σ H s)
    (hn : Builtin.Range.rangeSize lo hi c = n) (q : R (Itc lo c n) H) :
    wpAny (model X.prog X.w) X.A (pyIter (.ref s.heap.objs.size)) (PIE X pins σ tg R) E { s with heap := s.heap.push { cls := .type "range", data := .fields #[.int lo t, .int hi u, .int c v] }, toks := tk } := by
  have made : Inv X pins σ H { s with heap := s.heap.push { cls := .type "range", data := .fields #[.int lo t, .int hi u, .int c v] }, toks := tk } := I.kept fun b ob e => Heap.get?_push_of_some _ e
  have e0 : lo + ((0 : Nat) : Int) * c = lo := by simp
  have e9 : (n : Int) - ((0 : Nat) : Int) = Builtin.Range.rangeSize lo hi c := by
    rw [hn]
    simp
  cases small : Builtin.Range.small lo hi c with
  | true =>
    refine wpAny_pyIter_range (IsRange.new ..) small (pi_one (tk := tk) made _ (turn_rangeC _ lo c n) ?_ q)
    show IsRangeIter _ _ (lo + ((0 : Nat) : Int) * c) ((n : Int) - ((0 : Nat) : Int)) c
    rw [e0, e9]
    exact Heap.get?_push_size _ rfl
  | false =>
    refine wpAny_pyIter_longrange (IsRange.new ..) small (pi_one (tk := tk) made _ (turn_long _ lo c n) ?_ q)
    show IsLongIter _ _ (lo + ((0 : Nat) : Int) * c) ((n : Int) - ((0 : Nat) : Int)) c
    rw [e0, e9]
    exact Heap.get?_push_size _ rfl
theorem itc_one (lo : Int) (n : Nat) : Itc lo 1 n = Itr lo n := by
  unfold Itc Itr
  congr 1
  funext i H x H'
  rw [Int.mul_one]
def iWide2 (ta : TA) : TI := fun σ H R => ta σ H fun vs H1 => ∃ i j : Int, vs = [.int i, .int j] ∧ R (Itr i (j - i).toNat) H1
def iWide3 (ta : TA) : TI := fun σ H R => ta σ H fun vs H1 => ∃ (i j c : Int) (n : Nat), vs = [.int i, .int j, .int c] ∧ CDivP (j - i) c ∧ Builtin.Range.rangeSize i j c = n ∧ R (Itc i c n) H1
section
variable {X : Cx} {tg : Expr}
theorem pi_wide2 {a b : Expr} {ta : TA} {p pos : Pos} (hg : Gl X "range") (hm : X.mg "range" = none) (ha : PA X [a, b] ta) (h2 : starEach [a, b] X.env = [(false, eval a X.env), (false, eval b X.env)] := by rfl) (h1 : starEach [b] X.env = [(false, eval b X.env)] := by rfl) :
    PI X tg (.Call (.Name "range" p) [a, b] [] pos) (iWide2 ta) := by
  refine ⟨fun pins s σ H R I h => Call_ (ld_blt I hg hm boot_range (PyProof.Rows.callWith_type1 (thn (ha.run pos pins s σ H _ I h) fun us s1 ⟨vs, H1, I1, r1, q1⟩ => ?_) (by rw [h2, h1]) (by rw [h1]; rfl)))⟩
  obtain ⟨i, j, rfl, q⟩ := q1
  obtain ⟨u1, u2, rfl, ⟨t, rfl⟩, ⟨t', rfl⟩⟩ := vals2 r1
  refine call_range_2 (range_wide (n := (j - i).toNat) I1 ?_ (by rw [itc_one]; exact q))
  rw [rangeSize_one]
  split <;> omega
theorem pi_wide3 {a b c : Expr} {ta : TA} {p pos : Pos} (hg : Gl X "range") (hm : X.mg "range" = none) (ha : PA X [a, b, c] ta)
    (h3 : starEach [a, b, c] X.env = (false, eval a X.env) :: starEach [b, c] X.env := by rfl) (hn : (backTo pos (starEach [b, c] X.env)).any (·.1) = false := by rfl) :
    PI X tg (.Call (.Name "range" p) [a, b, c] [] pos) (iWide3 ta) := by
  refine ⟨fun pins s σ H R I h => Call_ (ld_blt I hg hm boot_range (PyProof.Rows.callWith_type1 (thn (ha.run pos pins s σ H _ I h) fun us s1 ⟨vs, H1, I1, r1, q1⟩ => ?_) h3 hn))⟩
  obtain ⟨i, j, k, n, rfl, hk, hz, q⟩ := q1
  cases r1 with
  | cons ra rr =>
    obtain ⟨u2, u3, rfl, ⟨t', rfl⟩, ⟨t'', rfl⟩⟩ := vals2 rr
    obtain ⟨t, rfl⟩ := ra
    have k0 : k ≠ 0 := fun z => by
      have := hk.1
      omega
    exact call_range_3 k0 (range_wide (tk := s1.toks) I1 hz q) (.inl hk.2)
end
/-- a list made over a range with a step -/
theorem lc_step {lo c : Int} {n : Nat} {g : TG} {tt : TT} {te : TE} {ws : List Nat} {σ : L2.St} {G : Hp} {D : Addr} {Qd : Hp → Prop} (Pv : Nat → Hp → Prop) (start : Pv 0 (upd G D (.lst [])))
    (step : ∀ i G, i < n → Pv i G → g (.int (lo + (i : Nat) * c)) (wipe σ ws) G fun τ G2 => wipe τ ws = wipe σ ws ∧ tt τ G2 fun k G3 => if k = true then te τ G3 fun z G4 => ∃ ac, G4 D = some (.lst ac) ∧ ac.length < sizeLine ∧ Pv (i + 1) (upd G4 D (.lst (ac ++ [z]))) else Pv (i + 1) G3)
    (last : ∀ G, Pv n G → Qd G) : ∃ W : Nat → Nat → Hp → Prop, (∃ m, W 0 m (upd G D (.lst []))) ∧ ∀ i m G, W i m G → ((Itc lo c n).stop i G ∧ Qd G) ∨
      ((Itc lo c n).go i G ∧ ∃ N : Hp → Prop, (∀ G', N G' → ∃ m', m' < m ∧ W (i + 1) m' G') ∧ ∀ x G', (Itc lo c n).yld i G x G' → g x (wipe σ ws) G' fun τ G2 => wipe τ ws = wipe σ ws ∧ tt τ G2 fun k G3 => if k = true then te τ G3 fun z G4 => ∃ ac, G4 D = some (.lst ac) ∧ ac.length < sizeLine ∧ N (upd G4 D (.lst (ac ++ [z]))) else N G3) := by
  refine ⟨fun i m G => (m = n - i ∧ i ≤ n) ∧ Pv i G, ⟨n, ⟨rfl, Nat.zero_le _⟩, start⟩, ?_⟩
  rintro i m G ⟨⟨rfl, le⟩, pv⟩
  rcases Nat.lt_or_ge i n with lt | ge
  · exact .inr ⟨lt, Pv (i + 1), fun G' p' => ⟨n - (i + 1), by omega, ⟨rfl, lt⟩, p'⟩, fun x G' ⟨e1, e2⟩ => by
      rw [e1, e2]
      exact step i G lt pv⟩
  · have e : i = n := Nat.le_antisymm le ge
    rw [e] at pv ⊢
    exact .inl ⟨Nat.le_refl _, last G pv⟩
/-! ### sorted(xs, reverse=True) of pairs of whole numbers; enumerate in a comprehension -/
def pairV (H : Hp) : V → Int × Int
  | .ref b => match H b with
    | some (.tup [.int i, .int j]) => (i, j)
    | _ => (0, 0)
  | _ => (0, 0)
theorem pairV_of {H : Hp} {b : Addr} {i j : Int} (h : H b = some (.tup [.int i, .int j])) : pairV H (.ref b) = (i, j) := by
  show (match H b with | some (.tup [.int i, .int j]) => (i, j) | _ => (0, 0)) = (i, j)
  rw [h]
def rSortedPR (K : PySem.W.Frag) : List V → List V → Hp → VK → Prop := fun vs zs H Q => ∃ (a : Addr) (xs : List V) (k : V → Int × Int), vs = [V.ref a] ∧ zs = [.bl true] ∧ SqL K H a xs ∧ (∀ x ∈ xs, ∃ t, x = V.ref t ∧ H t = some (.tup [.int (k x).1, .int (k x).2])) ∧
  ∀ ys p, SrtO.Srtd (ltP k) ys → ys.Perm xs → H p = none → Q (.ref p) (upd H p (.lst ys.reverse))
section
variable {X : Cx}
theorem cr_sortedPR : CallRK X (.builtin "sorted") [Str.ofString "reverse"] (rSortedPR X.K) := by
  intro pins s σ H vs zs us ws Q I r rz h
  obtain ⟨a, xs, k, rfl, rfl, hs, hx, q⟩ := h
  obtain rfl := Vals.ref1 r
  obtain ⟨w1, rfl, e0⟩ := vals1 rz
  obtain rfl : w1 = Value.bool true := e0
  obtain ⟨its, rv, hl, hz⟩ := I.list hs
  obtain ⟨e1, e2⟩ := refs_back rv fun x m => by
    obtain ⟨t, e, _⟩ := hx x m
    exact ⟨t, e⟩
  have hp : ∀ v ∈ its, Srt.IsPair s.heap v (k (backV v)).1 (k (backV v)).2 := fun v hv => by
    obtain ⟨t, rfl⟩ := e2 v hv
    have hm : V.ref t ∈ xs := by rw [e1]; exact List.mem_map.mpr ⟨_, hv, rfl⟩
    obtain ⟨t', e, ht⟩ := hx _ hm
    cases e
    obtain ⟨_, its2, r2, o, ho, hc, n, hd⟩ := I.hok _ _ ht
    obtain ⟨u1, u2, rfl, ri, rj⟩ := vals2 r2
    obtain ⟨t1, rfl⟩ := ri
    obtain ⟨t2, rfl⟩ := rj
    exact ⟨t, o, t1, t2, n, rfl, ho, hc, hd⟩
  refine SrtR.sorted_ordK (b := true) (fun _ => rfl) (PyProof.Rows.args_sorted_rev _ _) (fun _ => PyProof.Rows.args_list_sort_rev _ _) (SrtO.swo_lex fun u => k (backV u)) hl.isList (by rw [← rv.length]; exact hz)
    (fun h2 h₁ a' ha' kp => SrtO.pairs_sortableO (by omega) (fun v hv => (hp v hv).keeps fun b o e c => (kp b o e).2) fun o e => ?_) fun out h1 h2 => ?_
  · have e' : some o = some (seqObj "list" its.toArray 0) := e.symm.trans ha'
    cases e'
    intro c
    exact absurd (Value.type.inj c) (by decide)
  · have h2p : out.Perm its := h2.perm.trans (List.reverse_perm _)
    have h3 : ∀ u ∈ out, ∃ a, u = Value.ref a := fun u hu => e2 u (h2p.mem_iff.mp hu)
    have hb : (out.map backV).Perm xs := by
      rw [e1]
      exact h2p.map backV
    obtain ⟨ep, he'⟩ := PyProof.Rows.sortedAll_at s.heap its out.toArray.reverse
    have hlen : (out.map backV).reverse.length ≤ sizeLine := by
      rw [List.length_reverse, hb.length_eq]
      exact hz
    have er : (out.map backV).reverse = out.reverse.map backV := by rw [List.map_reverse]
    have h4 : ∀ u ∈ out.reverse, ∃ a, u = Value.ref a := fun u hu => h3 u (List.mem_reverse.mp hu)
    have ea : out.reverse.toArray = out.toArray.reverse := by
      apply Array.ext'
      rw [Array.toList_reverse]
    exact ⟨.ref _, upd H (s.heap.objs.size + 1) (.lst (out.map backV).reverse), I.laid (t' := s.toks) (fun _ _ => PyProof.Rows.sortedAll_old) (Nat.le_succ _) ⟨hlen, out.reverse, ep, by rw [er]; exact vals_back h4, by rw [ea]; exact he'⟩, rfl, q _ _ (SrtO.srtd_map h1) hb (I.hok.fresh (Nat.le_succ _))⟩
end
theorem lc_enum {K : PySem.W.Frag} {a : Addr} {xs : List V} {g : TG} {tt : TT} {te : TE} {ws : List Nat} {σ : L2.St} {G : Hp} {D : Addr} {Qd : Hp → Prop} (Pv : Nat → Hp → Prop) (start : Pv 0 (upd G D (.lst []))) (lst : ∀ i G, i ≤ xs.length → Pv i G → SqL K G a xs)
    (step : ∀ (i : Nat) (x : V) (T : Addr) (G : Hp), xs[i]? = some x → Pv i G → G T = none → g (.ref T) (wipe σ ws) (upd G T (.tup [.int (i : Nat), x])) fun τ G2 => wipe τ ws = wipe σ ws ∧ tt τ G2 fun c G3 => if c = true then te τ G3 fun z G4 => ∃ ac, G4 D = some (.lst ac) ∧ ac.length < sizeLine ∧ Pv (i + 1) (upd G4 D (.lst (ac ++ [z]))) else Pv (i + 1) G3)
    (last : ∀ G, Pv xs.length G → Qd G) : ∃ W : Nat → Nat → Hp → Prop, (∃ m, W 0 m (upd G D (.lst []))) ∧ ∀ i m G, W i m G → ((Ite K a).stop i G ∧ Qd G) ∨
      ((Ite K a).go i G ∧ ∃ N : Hp → Prop, (∀ G', N G' → ∃ m', m' < m ∧ W (i + 1) m' G') ∧ ∀ x G', (Ite K a).yld i G x G' → g x (wipe σ ws) G' fun τ G2 => wipe τ ws = wipe σ ws ∧ tt τ G2 fun c G3 => if c = true then te τ G3 fun z G4 => ∃ ac, G4 D = some (.lst ac) ∧ ac.length < sizeLine ∧ N (upd G4 D (.lst (ac ++ [z]))) else N G3) := by
  refine ⟨fun i m G => (m = xs.length - i ∧ i ≤ xs.length) ∧ Pv i G, ⟨xs.length, ⟨rfl, Nat.zero_le _⟩, start⟩, ?_⟩
  rintro i m G ⟨⟨rfl, le⟩, pv⟩
  have here := lst i G le pv
  rcases Nat.lt_or_ge i xs.length with lt | ge
  · refine .inr ⟨⟨xs, _, here, List.getElem?_eq_getElem lt⟩, Pv (i + 1), fun G' p' => ⟨xs.length - (i + 1), by omega, ⟨rfl, lt⟩, p'⟩, fun v G' y => ?_⟩
    obtain ⟨T, x, rfl, nT, rfl, hx⟩ := y
    exact step i x T G (hx xs here) pv nT
  · have e : i = xs.length := Nat.le_antisymm le ge
    rw [e] at pv ⊢
    exact .inl ⟨⟨xs, here, Nat.le_refl _⟩, last G pv⟩
theorem inV_nat {x : Nat} : ∀ {ns : List Nat}, inV (.int (x : Nat)) (ns.map fun y => V.int (y : Nat)) = decide (x ∈ ns)
  | [] => rfl
  | y :: ns => by
    have ih := inV_nat (x := x) (ns := ns)
    show (eqV (.int (y : Nat)) (.int (x : Nat)) || inV (.int (x : Nat)) (ns.map fun y => V.int (y : Nat))) = _
    rw [ih]
    have e : eqV (.int (y : Nat)) (.int (x : Nat)) = decide (y = x) := by
      show decide ((y : Int) = (x : Int)) = _
      exact decide_eq_decide.mpr Int.ofNat_inj
    rw [e]
    by_cases c : y = x
    · have z : x ∈ y :: ns := by
        rw [c]
        exact List.mem_cons_self ..
      rw [decide_eq_true c, decide_eq_true z]
      rfl
    · rw [decide_eq_false c, Bool.false_or]
      exact decide_eq_decide.mpr ⟨fun h => List.mem_cons_of_mem _ h, fun h => (List.mem_cons.mp h).resolve_left fun z => c z.symm⟩
theorem flat_nats (ns : List Nat) : (ns.map fun y => V.int (y : Nat)).all flatV = true := by
  rw [List.all_eq_true]
  intro v hv
  obtain ⟨y, _, rfl⟩ := List.mem_map.mp hv
  rfl
/-! ### digits: the mathematics -/
/-- k is the level of d at n -/
def IsLev (b n d k : Nat) : Prop := n / b ^ (k + 1) = d / b ^ (k + 1) ∧ ∀ j, j < k → n / b ^ (j + 1) ≠ d / b ^ (j + 1)
abbrev Row3 := Nat × Nat × Nat
/-- the stations below level k -/
def tailOf (b d : Nat) : Nat → List Row3
  | 0 => []
  | k + 1 => if d / b ^ k % b ≠ 0 then (k, d / b ^ k % b, d / b ^ (k + 1) * b ^ (k + 1)) :: tailOf b d k else tailOf b d k
/-- the stations of a timer set at n, k its level -/
def rowsOf (b n d k : Nat) : List Row3 := (k, d / b ^ k % b, n) :: tailOf b d k
theorem div_succ (n b k : Nat) : n / b ^ (k + 1) = n / b ^ k / b := by
  rw [Nat.pow_succ, Nat.div_div_eq_div_mul]
theorem pow_pos' {b : Nat} (h : 2 ≤ b) (k : Nat) : 0 < b ^ k := Nat.pow_pos (by omega)
theorem IsLev.uniq {b n d k k' : Nat} (h : IsLev b n d k) (h' : IsLev b n d k') : k = k' := by
  rcases Nat.lt_trichotomy k k' with l | l | l
  · exact absurd h.1 (h'.2 k l)
  · exact l
  · exact absurd h'.1 (h.2 k' l)
theorem IsLev.ne {b n d k : Nat} (h : IsLev b n d k) (hnd : n < d) : n / b ^ k < d / b ^ k := by
  cases k with
  | zero =>
    rw [Nat.pow_zero, Nat.div_one, Nat.div_one]
    exact hnd
  | succ j =>
    have h1 := h.2 j (Nat.lt_succ_self j)
    have h2 : n / b ^ (j + 1) ≤ d / b ^ (j + 1) := Nat.div_le_div_right (Nat.le_of_lt hnd)
    omega
theorem IsLev.size {b n d k : Nat} (h : IsLev b n d k) (hb : 2 ≤ b) (hnd : n < d) : b ^ k ≤ d := by
  have h1 := h.ne hnd
  have h2 : 0 < d / b ^ k := Nat.lt_of_le_of_lt (Nat.zero_le _) h1
  exact (Nat.div_pos_iff.mp h2).2
theorem IsLev.digit {b n d k : Nat} (h : IsLev b n d k) (hnd : n < d) : n / b ^ k % b < d / b ^ k % b := by
  have h1 := h.ne hnd
  have h2 := h.1
  rw [div_succ, div_succ] at h2
  have e1 := Nat.div_add_mod (n / b ^ k) b
  have e2 := Nat.div_add_mod (d / b ^ k) b
  rw [h2] at e1
  omega
theorem pow_two_le {b : Nat} (hb : 2 ≤ b) (k : Nat) : 2 ^ k ≤ b ^ k := Nat.pow_le_pow_left hb k
theorem lev_small {b n d k t : Nat} (h : IsLev b n d k) (hb : 2 ≤ b) (hnd : n < d) (hd : d < 2 ^ t) : k < t := by
  have h1 := h.size hb hnd
  have h2 := pow_two_le hb k
  exact (Nat.pow_lt_pow_iff_right (by decide : 1 < 2)).mp (Nat.lt_of_le_of_lt (Nat.le_trans h2 h1) hd)
/-- cutting below: what two cuts beside one another differ by -/
theorem cut_step (b d k : Nat) : d / b ^ k * b ^ k = d / b ^ (k + 1) * b ^ (k + 1) + d / b ^ k % b * b ^ k := by
  rw [div_succ]
  have e := Nat.div_add_mod (d / b ^ k) b
  have e2 : b ^ (k + 1) = b * b ^ k := by rw [Nat.pow_succ, Nat.mul_comm]
  rw [e2, ← Nat.mul_assoc, ← Nat.add_mul, Nat.mul_comm (d / b ^ k / b) b, e]
theorem cut_le (b d k : Nat) : d / b ^ k * b ^ k ≤ d := Nat.div_mul_le_self d (b ^ k)
theorem cut_mono (b d : Nat) {j k : Nat} (h : j ≤ k) : d / b ^ k * b ^ k ≤ d / b ^ j * b ^ j := by
  induction k with
  | zero =>
    have e : j = 0 := by omega
    rw [e]
    exact Nat.le_refl _
  | succ k ih =>
    by_cases e : j = k + 1
    · rw [e]
      exact Nat.le_refl _
    · have h1 := ih (by omega)
      have h2 := cut_step b d k
      omega
theorem lt_cut {b n d k : Nat} (hb : 2 ≤ b) (h : n / b ^ k < d / b ^ k) : n < d / b ^ k * b ^ k := by
  have hp := pow_pos' hb k
  exact (Nat.div_lt_iff_lt_mul hp).mp h
theorem tail_len (b d : Nat) : ∀ k, (tailOf b d k).length ≤ k
  | 0 => Nat.le_refl _
  | k + 1 => by
    have ih := tail_len b d k
    unfold tailOf
    split
    · rw [List.length_cons]
      omega
    · omega
/-- a later tick that lies ahead of the next cut has the same level -/
theorem IsLev.later {b n d k t : Nat} (hb : 2 ≤ b) (h : IsLev b n d k) (hnd : n < d) (h1 : n ≤ t) (h2 : t < d / b ^ k * b ^ k) : IsLev b t d k := by
  have hp := pow_pos' hb k
  have hp1 := pow_pos' hb (k + 1)
  have htd : t < d := Nat.lt_of_lt_of_le h2 (cut_le b d k)
  refine ⟨?_, fun j hj => ?_⟩
  · have a1 : n / b ^ (k + 1) ≤ t / b ^ (k + 1) := Nat.div_le_div_right h1
    have a2 : t / b ^ (k + 1) ≤ d / b ^ (k + 1) := Nat.div_le_div_right (Nat.le_of_lt htd)
    have a3 := h.1
    omega
  · have a1 : t / b ^ k < d / b ^ k := (Nat.div_lt_iff_lt_mul hp).mpr h2
    intro e
    have e2 : k = (j + 1) + (k - (j + 1)) := by omega
    rw [e2, Nat.pow_add, ← Nat.div_div_eq_div_mul, ← Nat.div_div_eq_div_mul, e] at a1
    omega
/-! ### rules that the layer lacks: min(.., default=None), sorted of a dict with pairs of ints as its keys -/
theorem minOf_spec : ∀ (x : Int) (xs : List Int), PySem.W.minOf x xs ∈ x :: xs ∧ ∀ y ∈ x :: xs, PySem.W.minOf x xs ≤ y := by
  intro x xs
  unfold PySem.W.minOf
  induction xs generalizing x with
  | nil =>
    refine ⟨List.mem_cons_self .., fun y hy => ?_⟩
    rcases List.mem_cons.mp hy with e | hy
    · rw [e]
      exact Int.le_refl _
    · cases hy
  | cons z zs ih =>
    have e : (PySem.W.DatumOrd.lt z x = true) ↔ z < x := by
      show decide (z < x) = true ↔ z < x
      exact decide_eq_true_iff
    rw [List.foldl_cons]
    obtain ⟨h1, h2⟩ := ih (if PySem.W.DatumOrd.lt z x = true then z else x)
    refine ⟨?_, fun y hy => ?_⟩
    · rcases List.mem_cons.mp h1 with e1 | h1
      · rw [e1]
        split
        · exact List.mem_cons_of_mem _ (List.mem_cons_self ..)
        · exact List.mem_cons_self ..
      · exact List.mem_cons_of_mem _ (List.mem_cons_of_mem _ h1)
    · have h3 := h2 _ (List.mem_cons_self ..)
      rcases List.mem_cons.mp hy with e1 | hy
      · rw [e1]
        by_cases c : z < x
        · rw [if_pos (e.mpr c)] at h3 ⊢
          omega
        · rw [if_neg (fun q => c (e.mp q))] at h3 ⊢
          exact h3
      · rcases List.mem_cons.mp hy with e1 | hy
        · rw [e1]
          by_cases c : z < x
          · rw [if_pos (e.mpr c)] at h3 ⊢
            exact h3
          · rw [if_neg (fun q => c (e.mp q))] at h3 ⊢
            omega
        · exact h2 y (List.mem_cons_of_mem _ hy)
def rMinD (K : PySem.W.Frag) : List V → List V → Hp → VK → Prop := fun vs zs H Q => ∃ (a : Addr) (ns : List Int), vs = [V.ref a] ∧ zs = [.non] ∧ SqL K H a (ns.map V.int) ∧ (ns = [] → Q .non H) ∧ ∀ v ∈ ns, (∀ x ∈ ns, v ≤ x) → Q (.int v) H
section
variable {X : Cx} {K : PySem.W.Frag}
theorem minDef (e : X.K = K) (hc : X.calm = true) (hu : X.A.units + 64 < cLine) : CallRK X (.builtin "min") [Str.ofString "default"] (rMinD K) := by
  subst e
  intro pins s σ H vs zs us ws Q I r rz h
  obtain ⟨a, ns, rfl, rfl, hs, q0, q1⟩ := h
  obtain ⟨its, rv, hl, hz⟩ := I.list hs
  obtain ⟨w1, rfl, e1⟩ := vals1 rz
  obtain rfl : w1 = Value.none := e1
  rw [Vals.ref1 r]
  have hi := rv.ints
  refine PySem.W.min_list_datum_default (α := Int) (xs := ns) (I.ok.hd hc) hl.isList (PySem.W.HoldAll.of_ints hi) (by show X.A.units + 1 + 0 < cLine; omega) (fun en h' tk hk => ?_) (fun y ys i v h' tk en hv hh hk => ?_)
  · exact ⟨.non, H, I.kept hk, rfl, q0 en⟩
  · obtain ⟨as, hr⟩ := hh
    have hm := minOf_spec y ys
    have ev : ∃ t, v = Value.int (PySem.W.minOf y ys) t := by
      cases hr
      exact ⟨_, rfl⟩
    obtain ⟨t, rfl⟩ := ev
    subst en
    exact ⟨.int _, H, I.kept hk, ⟨_, rfl⟩, q1 _ hm.1 hm.2⟩
end
/-! ### exceptions: defs that may raise, any value as an argument -/
section
variable {P : Program} {w : World} {K : PySem.W.Frag} {mg : Str → Option Value} {base : Heap}
/-- as Has, for a def that may raise -/
def HasX (P : Program) (w : World) (K : PySem.W.Frag) (mg : Str → Option Value) (base : Heap) (k : Nat) (x : Str) (ps : List Str) (dvs : List V) (sp : Sp) : Prop :=
  ∃ (f : Addr) (fd : FuncData) (ds : List Value), FnOk P w K mg base (L2.CX P w) k f fd ps sp ∧ mg x = some (.ref f) ∧ PySem.W.keepIn K (.ref f) = true ∧ Binds K fd ps ds ∧ Vals dvs ds
def HasMX (P : Program) (w : World) (K : PySem.W.Frag) (mg : Str → Option Value) (base : Heap) (k : Nat) (C : Addr) (m : Str) (ps : List Str) (dvs : List V) (sp : Sp) : Prop :=
  ∃ (f : Addr) (fd : FuncData) (ds : List Value), FnOk P w K mg base (L2.CX P w) k f fd ps sp ∧ Meth K C m f ∧ Binds K fd ps ds ∧ Vals dvs ds
theorem Df.hasX {k : Nat} {x : Str} {st : Stmt} {ps : List Str} {sp : Sp} (D : Df K mg x st ps) (ok : ∀ f fd, Fun K x x st f fd → FnOk P w K mg base (L2.CX P w) k f fd ps sp) : HasX P w K mg base k x ps [] sp := by
  obtain ⟨f, fd, F, m, b⟩ := D
  exact ⟨f, fd, [], ok f fd F, m, F.kp, b, .nil⟩
theorem Dd.hasX {k : Nat} {x : Str} {st : Stmt} {ps : List Str} {d : V} {sp : Sp} (D : Dd K mg x st ps d) (ok : ∀ f fd, FunD K x x (defArgs st) (defBody st) (defScope st) [d] [] f fd → FnOk P w K mg base (L2.CX P w) k f fd ps sp) :
    HasX P w K mg base k x ps [d] sp ∧ HasX P w K mg base k x ps [] sp := by
  obtain ⟨f, fd, F, m, ⟨ds, r, b⟩, b0⟩ := D
  exact ⟨⟨f, fd, ds, ok f fd F, m, F.kp, b, r⟩, ⟨f, fd, [], ok f fd F, m, F.kp, b0, .nil⟩⟩
/-- what the top leaves of an error's class -/
structure EC (K : PySem.W.Frag) (mg : Str → Option Value) (x : Str) (C : Addr) : Prop where
  g : mg x = some (.ref C)
  x : PySem.W.excIn K C [.type "ValueError", .type "Exception", .type "BaseException", .type "object"] "ValueError.__new__" = true
  k : PySem.W.keepIn K (.ref C) = true
  b : PySem.W.subIn K (.ref C) (.type "BaseException") = some true
  t : PySem.W.typeIn K (.ref C) = some (.type "type")
/-- a class by its name alone -/
structure EG (mg : Str → Option Value) (x : Str) (C : Addr) : Prop where
  g : mg x = some (.ref C)
/-- of which types what is no integer may be -/
inductive NoIntT : Value → Prop where
  | non : NoIntT (.type "NoneType")
  | bool : NoIntT (.type "bool")
  | str : NoIntT (.type "str")
  | flt : NoIntT (.type "float")
  | byt : NoIntT (.type "bytes")
  | list : NoIntT (.type "list")
  | tup : NoIntT (.type "tuple")
  | dict : NoIntT (.type "dict")
  | set : NoIntT (.type "set")
/-- what is no integer: any value but an int, a bool too -/
def NoInt (K : PySem.W.Frag) (H : Hp) (x : V) : Prop := ∃ t, TyX K H x t ∧ NoIntT t
theorem NoIntT.kit {t : Value} (h : NoIntT t) : (∃ i b, PySem.W.kitOne K t (.type "int") = some i ∧ PySem.W.kitOne K t (.type "bool") = some b ∧ (i = true → b = true)) := by
  cases h <;> first
    | exact ⟨false, false, kit_ty (by decide +kernel), kit_ty (by decide +kernel), fun z => by cases z⟩
    | exact ⟨true, true, kit_ty (by decide +kernel), kit_ty (by decide +kernel), fun _ => rfl⟩
section
variable {H : Hp}
theorem NoInt.of_non : NoInt K H .non := ⟨_, .base .non, .non⟩
theorem NoInt.of_bl (b : Bool) : NoInt K H (.bl b) := ⟨_, .base (.bl b), .bool⟩
theorem NoInt.of_str (s : Str) : NoInt K H (.str s) := ⟨_, .base (.str s), .str⟩
theorem NoInt.of_lst {a : Addr} {xs : List V} (e : H a = some (.lst xs)) : NoInt K H (.ref a) := ⟨_, .base (.lst e), .list⟩
theorem NoInt.of_tup {a : Addr} {xs : List V} (e : H a = some (.tup xs)) : NoInt K H (.ref a) := ⟨_, .base (.tup e), .tup⟩
theorem NoInt.of_dK {a : Addr} {kvs : List (Key × V)} (e : H a = some (.dK kvs)) : NoInt K H (.ref a) := ⟨_, .base (.dK e), .dict⟩
end
end
section
variable {X : Cx} {K : PySem.W.Frag}
theorem op_notInK (e : X.K = K) : OpR X (compareOp .NotIn) (rIn K true) := by subst e; exact op_notIn_seq
end
/-- what an error was made of stands at a; isinstance(e, X) of it -/
def rIsEX (K : PySem.W.Frag) (cls : Value) (d : Option Addr) (a : Addr) : List V → Hp → VK → Prop := fun xs H Q => ∃ D, cls = .ref D ∧ d = none ∧ ExcC K D ∧ rIsE K D a xs H Q
theorem isiE {X : Cx} {a : Addr} {cls : Value} {d : Option Addr} {oe : Obj} {pn : List (Addr × Obj)} (hz : Zc cls d oe) (hf : ∃ vs, oe.data = .fields vs) : CallR (X.suite a ((a, oe) :: pn)) (.builtin "isinstance") (rIsEX X.K cls d a) := by
  intro pins s σ H xs us Q I r h
  obtain ⟨D, rfl, rfl, hC, h⟩ := h
  exact call_isE hC hz hf pins s σ H xs us Q I r h
section
variable {X : Cx} {CX : CXT} {k : Nat} {f C : Addr} {fd : FuncData} {ps : List Str} {sp : Sp} {E : L2.St → XK} {m : Str} {pos apos : Pos} {e o : Expr} {es : List Expr} {ta : TE} {t : TA}
/-- o.m(e, ..) that may raise, the wish told at the slots of the moment -/
def tMethS (C : Addr) (m : Str) (sp : Sp) (E : L2.St → XK) (ta : TE) (t : TA) : TE := fun σ H Q => ta σ H fun x H1 => ∃ a dx fs, x = .ref a ∧ H1 a = some (.ins C dx fs) ∧ fs.lookup m = none ∧
  t σ H1 fun vs H2 => sp (x :: vs) H2 Q (E σ)
theorem pe_methS {pl : Sem Bool} (he : PE X o ta) (c : Cls X.K C) (hm : Meth X.K C m f) (F : FnOk X.prog X.w X.K X.mg X.base CX k f fd ps sp) (hr : Room k X.A) (hb : Binds X.K fd ps []) (hx : ∀ σ, PassesAt CX X σ (E σ)) (ha : PA X (e :: es) t)
    (hst : starEach (e :: es) X.env = (false, eval e X.env) :: starEach es X.env := by rfl) (hpl : (backTo pos (starEach es X.env)).any (·.1) = false := by rfl)
    (ht : eval (.Call (.Attribute o m apos) (e :: es) [] pos) X.env = (do
      let ov ← eval o X.env
      standAt apos.atName
      let (f, first) ← holding [ov] (getMethod ov m pl)
      callWith pos f first (backTo pos (starEach (e :: es) X.env)) (backToKw pos (keywordEach [] X.env))) := by rfl) :
    PE X (.Call (.Attribute o m apos) (e :: es) [] pos) (tMethS C m sp E ta t) := by
  refine ⟨fun pins s σ H Q I h => ?_⟩
  refine PySem.W.methodCall_KW (pl := pl) (thn (he.run pins s σ H _ I h) fun u s1 ⟨x, H1, I1, rx, a, dx, fs, ex, ea, l, q⟩ => ?_) ht
  subst ex
  obtain rfl : u = Value.ref a := rx
  refine getmeth_ok I1 ea c hm l ?_
  refine PySem.W.callWith_K (first := [.ref a]) (h₀ := X.base) I.ok.mod.kin hm.kp (thn (ha.run pos pins s1 σ H1 _ I1 q) fun us s2 ⟨vs, H2, I2, r, q2⟩ => ⟨I2.kIn, ?_⟩) hst hpl
  exact run_fnS (us := .ref a :: us) (vs := .ref a :: vs) F hr hb (hx σ) I2 (.cons rfl r) q2
end
/-! ### lambdas: a def whose code object is told, tables of code objects -/
section
variable {P : Program} {w : World} {K : PySem.W.Frag} {mg : Str → Option Value} {base : Heap}
/-- the name that the lambdas of the def q bear -/
def lamQ (q : Str) : Str := (q ++ ".<locals>.") ++ "<lambda>"
/-- a def as it stands behind the top, its code object told -/
structure FunC (K : PySem.W.Frag) (x : Str) (st : Stmt) (f : Addr) (fd : FuncData) (cdv : Value) : Prop where
  at_ : ∃ (oc kV doc pm ct : Value) (od an : Option Addr) (osl : Array (Option Value)),
    fd = PySem.W.fnOf x x (defArgs st) (defBody st) (defScope st) .none kV doc pm an cdv ct ∧ K.lookup f = some ⟨oc, od, .func fd, osl⟩ ∧ PySem.W.codeIn K cdv x = true
  kp : PySem.W.keepIn K (.ref f) = true
theorem funC_mk {x : Str} {st : Stmt} {f : Addr} {oc : Value} {od an : Option Addr} {osl : Array (Option Value)} {kV doc pm cdv ct : Value} (l : K.lookup f = some ⟨oc, od, .func (PySem.W.fnOf x x (defArgs st) (defBody st) (defScope st) .none kV doc pm an cdv ct), osl⟩)
    (c : PySem.W.codeIn K cdv x = true) (k : PySem.W.keepIn K (.ref f) = true) : FunC K x st f (PySem.W.fnOf x x (defArgs st) (defBody st) (defScope st) .none kV doc pm an cdv ct) cdv := ⟨⟨oc, kV, doc, pm, ct, od, an, osl, rfl, l, c⟩, k⟩
theorem FunC.fn {x : Str} {st : Stmt} {f : Addr} {fd : FuncData} {cdv : Value} (F : FunC K x st f fd cdv) : Fun K x x st f fd := by
  obtain ⟨⟨oc, kV, doc, pm, ct, od, an, osl, e1, e2, e3⟩, kp⟩ := F
  exact ⟨⟨oc, od, kV, doc, pm, an, cdv, ct, osl, e1, e2, e3⟩, kp⟩
theorem FunC.ok {x : Str} {st : Stmt} {f : Addr} {fd : FuncData} {cdv : Value} {N ps : List Str} {k : Nat} {sp : Sp} (F : FunC K x st f fd cdv) (S : FnScope N ps (defScope st)) (len : ∀ vs H Q E, sp vs H Q E → vs.length = ps.length)
    (hb : ∀ (A : Around) (outer : List Env) (s : Shared) (H : Hp) (vs : List V) (Q : VK) (E : XK), Room k (A.deeper (envOfC x (defScope st) s.heap.objs.size f cdv)) → sp vs H Q E →
      ∃ t, PSs (cxOf CX0 P w K mg base N x (defScope st) f cdv A outer s H E).nox (defBody st) t ∧ t { nx := fun _ H' => Q .non H', rt := Q } (start N vs) H) : FnOk P w K mg base CX0 (k + 1) f fd ps sp := by
  obtain ⟨⟨oc, kV, doc, pm, ct, od, an, osl, e1, e2, e3⟩, kp⟩ := F
  subst e1
  refine fn_of e2 e3 S len fun A outer s H vs Q E hr' hs' => ?_
  obtain ⟨t, h1, h2⟩ := hb A outer s H vs Q E hr' hs'
  exact ⟨t, h1.nox, h2⟩
end
theorem extN_same {H H1 : Hp} (s : Same H H1) : LamX.ExtN H H1 := fun b o e _ => s b o e
theorem ExtN.seq {K : PySem.W.Frag} {H H1 : Hp} {a : Addr} {xs : List V} (e : LamX.ExtN H H1) (h : SqL K H a xs) : SqL K H1 a xs := by
  rcases h with (h | ⟨o, h⟩) | h
  · exact .inl (.inl (e _ _ h (fun ps z => by cases z)))
  · exact .inl (.inr ⟨o, e _ _ h (fun ps z => by cases z)⟩)
  · exact .inr h
theorem Tabs.same {T : List (Addr × Str)} {H H1 : Hp} (t : LamX.Tabs T H) (s : Same H H1) : LamX.Tabs T H1 := t.ext s
/-! ### the law's own body, where no repr is under way -/
section
variable {P : Program} {w : World} {K : PySem.W.Frag} {mg mb : Str → Option Value} {base : Heap}
/-- a promise of a def that is called where no repr is under way -/
structure FnG (P : Program) (w : World) (K : PySem.W.Frag) (mg : Str → Option Value) (base : Heap) (k : Nat) (f : Addr) (fd : FuncData) (ps : List Str) (sp : Sp) : Prop where
  go : ∀ (A : Around) (outer : List Env) (s : Shared) (H : Hp) (args : Args) (us : List Value) (vs : List V) (Q : VK), A.guards = some [] → Room k A → Env0 P w K mg base A outer s H → BindsTo s fd args (ps.zip us) → Vals vs us → sp vs H Q E0 →
    codeAny (model P w) A (.call (.ref f) args) (CR CX0 outer P w H s Q E0) s
theorem FunC.okG {x : Str} {st : Stmt} {f : Addr} {fd : FuncData} {cdv : Value} {N ps : List Str} {k : Nat} {sp : Sp} (F : FunC K x st f fd cdv) (S : FnScope N ps (defScope st)) (len : ∀ vs H Q E, sp vs H Q E → vs.length = ps.length)
    (hb : ∀ (A : Around) (outer : List Env) (s : Shared) (H : Hp) (vs : List V) (Q : VK), (A.deeper (envOfC x (defScope st) s.heap.objs.size f cdv)).guards = some [] → Room k (A.deeper (envOfC x (defScope st) s.heap.objs.size f cdv)) → sp vs H Q E0 →
      ∃ t, PSs (cxOf CX0 P w K mg base N x (defScope st) f cdv A outer s H E0).nox (defBody st) t ∧ t { nx := fun _ H' => Q .non H', rt := Q } (start N vs) H) : FnG P w K mg base (k + 1) f fd ps sp := by
  obtain ⟨⟨oc, kV, doc, pm, ct, od, an, osl, e1, e2, e3⟩, kp⟩ := F
  subst e1
  constructor
  intro A outer s H args us vs Q hg hr e0 hbi hv hsp
  refine LamX.run_ofS e2 e3 S hr e0 hbi hv (len _ _ _ _ hsp) fun hr2 => ?_
  obtain ⟨t, h1, h2⟩ := hb A outer s H vs Q hg hr2 hsp
  exact ⟨t, h1.nox, h2⟩
/-- the script alone, and only where it is none of the module's own objects -/
def scriptH (K : PySem.W.Frag) (a : Addr) (vs : List Value) (ns : List Int) : Hp := fun b => if b = a ∧ K.lookup a = none then some (.frz { cls := .type "list", data := .seq vs.toArray } (.lst (ns.map V.int))) else none
theorem scriptH_some {a b : Addr} {vs : List Value} {ns : List Int} {u : HO} (h : scriptH K a vs ns b = some u) : b = a ∧ K.lookup a = none ∧ u = .frz { cls := .type "list", data := .seq vs.toArray } (.lst (ns.map V.int)) := by
  unfold scriptH at h
  split at h
  · rename_i c
    exact ⟨c.1, c.2, (Option.some.inj h).symm⟩
  · cases h
theorem scriptH_none {a b : Addr} {vs : List Value} {ns : List Int} (h : ¬ (b = a ∧ K.lookup a = none)) : scriptH K a vs ns b = none := if_neg h
/-- the state at the law's call, and what it means that the law gives True -/
theorem law_start {s₁ : Shared} {a : Addr} {vs : List Value} {ns : List Int} (KX : K.In s₁.heap) (hns : s₁.heap.Ns mainGlobals mg) (hb : s₁.heap.Ns builtinsNs mb) (hbb : ∀ x : Str, x ≠ "__name__" → mb x = bootBuiltins x) (hlim : s₁.heap.NoLimit) (hg : s₁.gens = #[])
    (ha : s₁.heap.get? a = some { cls := .type "list", data := .seq vs.toArray }) (hi : IntsAre vs ns) (hl : ns.length ≤ sizeLine) :
    Env0 P w K mg (hidT s₁.heap (scriptH K a vs ns)) PySem.callerA [] s₁ (scriptH K a vs ns) ∧ SqL K (scriptH K a vs ns) a (ns.map V.int) ∧
      ∀ (u : Value) (s' : Shared), CE [] P w (scriptH K a vs ns) s₁ (fun v _ => v = .bl true) u s' → u = .bool true ∧ PySem.OldK s₁.heap s'.heap ∧ s'.os = s₁.os ∧ AllBare s'.gens := by
  have rv := vals_ints hi
  have hok : HOk P w (scriptH K a vs ns) s₁.heap := fun b u e => by
    obtain ⟨rfl, _, rfl⟩ := scriptH_some e
    exact ⟨ha, by rw [List.length_map]; exact hl, vs, _, rv, ha⟩
  have dictN : ∀ {b : Addr} {m : Str → Option Value}, s₁.heap.Ns b m → (hidT s₁.heap (scriptH K a vs ns)).Ns b m := fun {b m} h => by
    obtain ⟨o, es, ep, e, d, r⟩ := h
    refine ⟨o, es, ep, hidT_get e (scriptH_none fun z => ?_), d, r⟩
    rw [z.1, ha] at e
    cases e
    cases d
  have kin : K.In (hidT s₁.heap (scriptH K a vs ns)) := fun b o e => hidT_get (KX b o e) (scriptH_none fun z => by
    rw [z.1, z.2] at e
    cases e)
  obtain ⟨mc, l1, l2⟩ := hlim
  refine ⟨⟨rfl, ⟨kin, dictN hns, ⟨mb, dictN hb, hbb⟩, ⟨mc, dictN l1, l2⟩⟩, fun b o e => of_hidT e, Nat.le_of_eq (hidT_size _ _), trivial, (fun b z => by cases z), hok, .of_eq hg⟩, ?_, fun u s' h => ?_⟩
  · cases hk : K.lookup a with
    | none => exact .inl (.inr ⟨{ cls := .type "list", data := .seq vs.toArray }, if_pos ⟨rfl, hk⟩⟩)
    | some o =>
      have e := KX a o hk
      rw [ha] at e
      cases e
      exact .inr ⟨_, vs.toArray, _, hk, rfl, rfl, rfl, by rw [List.size_toArray, hi.length]; exact hl, by simpa using rv⟩
  · obtain ⟨v, H', e1, e2, un, ok2, r, q⟩ := h
    cases q
    refine ⟨r, PySem.OldK.of_keep fun b o e => ?_, e1, e2⟩
    by_cases c : b = a ∧ K.lookup a = none
    · obtain ⟨rfl, c2⟩ := c
      have z : scriptH K b vs ns b = some (.frz { cls := .type "list", data := .seq vs.toArray } (.lst (ns.map V.int))) := if_pos ⟨rfl, c2⟩
      rw [ha] at e
      cases e
      exact (ok2 _ _ (un.frzs _ _ _ z)).1
    · exact un.keep b o e (scriptH_none c) (fun z => by cases z) (fun z => by cases z)
end
/-- the end of a law whose body asks what is under way -/
theorem walk_guard {l : PySem.W.OpenLaw} {n k : Nat} {q : Program} {loose : List Str} {XP : (Str → Option Value) → Heap → Prop} {YP : World → Heap → Prop} {d : DefRec} {K : Params → PySem.W.Frag} {x : Str}
    (hn : l.most = some n) (hn2 : n ≤ sizeLine) (hdf : d.params.defaults = []) (hr : Room k PySem.callerA) (hY : ∀ (w : World) (h : Heap), YP w h → (K w.params).In h)
    (F : ∀ (w : World) (mg : Str → Option Value) (fa : Addr) (h : Heap), (K w.params).In h → h.Ns mainGlobals mg → mg d.name = some (.ref fa) → ∃ (fd : FuncData) (sp : Sp), (∀ (s : Shared) (u : Value), BindsTo s fd ⟨[u], []⟩ [(x, u)]) ∧
      (∀ (H : Hp) (a : Addr) (ns : List Int), ns.length ≤ n → SqL (K w.params) H a (ns.map V.int) → sp [.ref a] H (fun v _ => v = .bl true) E0) ∧ ∀ base : Heap, (K w.params).In base → base.Ns mainGlobals mg → FnG l.prog w (K w.params) mg base k fa fd [x] sp) :
    PySem.W.WalkO q loose XP YP l.row.toRowW d [] (fun f vs => PySem.call f vs) := by
  apply Att.attach_call hn hdf
  intro w s₀ s₁ mg mb fa o pm cd doc a vs ns G Y _ _ _ hmg hobj hints hlen hg
  obtain ⟨fd, sp, b1, b2, b3⟩ := F w mg fa s₁.heap (hY w _ Y) G.T.g hmg
  obtain ⟨e0, hS, fin⟩ := law_start (P := l.prog) (w := w) (hY w _ Y) G.T.g G.T.b G.T.builtins G.T.nolimit hg hobj hints (Nat.le_trans hlen hn2)
  refine codeAny_mono ((b3 _ e0.mod.kin e0.mod.glob).go PySem.callerA [] s₁ _ ⟨[.ref a], []⟩ [.ref a] [.ref a] (fun v _ => v = .bl true) rfl hr e0 (b1 s₁ (.ref a)) (.cons rfl .nil) (b2 _ a ns hlen hS)) fun r s' h => ?_
  match r, h with
  | .ok (.ret u), h =>
    obtain ⟨rfl, h2⟩ := fin u s' h
    exact ⟨rfl, h2⟩
section
variable {X : Cx}
/-- repr(x) of data, where no repr is under way -/
theorem call_reprG (hg : X.A.guards = some []) (hu : X.A.units + 64 < cLine) : CallR X (.builtin "repr") (fun xs H Q => ∃ (a : Addr) (d : PyData), xs = [.ref a] ∧ Dp X.K H (.ref a) d ∧ d.depth ≤ 50 ∧ d.showable = true ∧ d.hasDict = false ∧ d.shown.length ≤ sizeLine ∧ Q (.str d.shown) H) := by
  intro pins s σ H xs us Q I r h
  obtain ⟨a, d, rfl, hd, h1, h2, h3, h4, q⟩ := h
  rw [Vals.ref1 r]
  obtain ⟨as, rd⟩ := Dp.reads I d (.ref a) (.ref a) hd rfl
  exact PySem.repr_of_reads' rd h2 (fun z => by rw [h3] at z; cases z) hg (by omega) (fun b o e => e) (fun h' u tk hk => ⟨.str d.shown, H, I.kept hk, ⟨u, rfl⟩, q⟩) h4
end
/-! ### the end of a law that makes lambdas and asks what is under way -/
/-- the script and the tables of lambdas, none of them the module's own -/
def lawH (K : PySem.W.Frag) (a : Addr) (vs : List Value) (ns : List Int) (tbs : List Addr) : Hp := fun b => if b ∈ tbs then some (.tbl #[]) else scriptH K a vs ns b
theorem lawH_tab {K : PySem.W.Frag} {a b : Addr} {vs : List Value} {ns : List Int} {tbs : List Addr} (h : b ∈ tbs) : lawH K a vs ns tbs b = some (.tbl #[]) := by
  unfold lawH
  rw [if_pos h]
theorem lawH_not {K : PySem.W.Frag} {a b : Addr} {vs : List Value} {ns : List Int} {tbs : List Addr} (h : b ∉ tbs) : lawH K a vs ns tbs b = scriptH K a vs ns b := by
  unfold lawH
  rw [if_neg h]
section
variable {P : Program} {w : World} {K : PySem.W.Frag} {mg mb : Str → Option Value}
theorem law_startT {s₁ : Shared} {a : Addr} {vs : List Value} {ns : List Int} {tbs : List Addr} {cs : List (Addr × Addr)} (etbs : tbs = cs.map (·.2)) (KX : K.In s₁.heap) (hns : s₁.heap.Ns mainGlobals mg) (hb : s₁.heap.Ns builtinsNs mb) (hbb : ∀ x : Str, x ≠ "__name__" → mb x = bootBuiltins x) (hlim : s₁.heap.NoLimit) (hg : s₁.gens = #[])
    (hT : ∀ p ∈ cs, s₁.heap.get? p.2 = some { cls := .none, data := .fields #[] }) (nT : ∀ p ∈ cs, K.lookup p.2 = none) (CH : ∀ p ∈ cs, PySem.W.CodeHd s₁.heap p.1 p.2)
    (hbm : ∃ (bm : Addr) (ob : Obj), mg "__builtins__" = some (.ref bm) ∧ bm ≠ builtinsNs ∧ s₁.heap.get? bm = some ob ∧ ob.cls = .type "module" ∧ ob.dict = some builtinsNs ∧ ob.data = .plain)
    (ha : s₁.heap.get? a = some { cls := .type "list", data := .seq vs.toArray }) (hi : IntsAre vs ns) (hl : ns.length ≤ sizeLine) :
    Env0 P w K mg (hidT s₁.heap (lawH K a vs ns tbs)) PySem.callerA [] s₁ (lawH K a vs ns tbs) ∧ SqL K (lawH K a vs ns tbs) a (ns.map V.int) ∧ (∀ p ∈ cs, LamX.TabB (hidT s₁.heap (lawH K a vs ns tbs)) mg p.1 p.2) ∧
      ∀ (u : Value) (s' : Shared), CE [] P w (lawH K a vs ns tbs) s₁ (fun v _ => v = .bl true) u s' → u = .bool true ∧ PySem.OldK s₁.heap s'.heap ∧ s'.os = s₁.os ∧ AllBare s'.gens := by
  have rv := vals_ints hi
  have tabs : ∀ {b : Addr}, b ∈ tbs → ∃ c, (c, b) ∈ cs := fun {b} h => by
    rw [etbs] at h
    obtain ⟨⟨c, t⟩, hp, rfl⟩ := List.mem_map.mp h
    exact ⟨c, hp⟩
  have tobj : ∀ {b : Addr}, b ∈ tbs → s₁.heap.get? b = some { cls := .none, data := .fields #[] } := fun {b} h => by
    obtain ⟨c, hp⟩ := tabs h
    exact hT _ hp
  have aOut : a ∉ tbs := fun h => by
    have z := tobj h
    rw [ha] at z
    cases z
  -- what is no list and no table is hidden from the law
  have free : ∀ {b : Addr} {o : Obj}, s₁.heap.get? b = some o → o.cls ≠ .type "list" → o.cls ≠ .none → lawH K a vs ns tbs b = none := fun {b o} e h1 h2 => by
    by_cases c : b ∈ tbs
    · have z := tobj c
      rw [e] at z
      cases z
      exact absurd rfl h2
    · rw [lawH_not c]
      refine scriptH_none fun z => ?_
      rw [z.1, ha] at e
      cases e
      exact h1 rfl
  have dictN : ∀ {b : Addr} {m : Str → Option Value}, s₁.heap.Ns b m → (hidT s₁.heap (lawH K a vs ns tbs)).Ns b m := fun {b m} h => by
    obtain ⟨o, es, ep, e, d, r⟩ := h
    refine ⟨o, es, ep, hidT_get e ?_, d, r⟩
    by_cases c : b ∈ tbs
    · have z := tobj c
      rw [e] at z
      cases z
      cases d
    · rw [lawH_not c]
      refine scriptH_none fun z => ?_
      rw [z.1, ha] at e
      cases e
      cases d
  have kin : K.In (hidT s₁.heap (lawH K a vs ns tbs)) := fun b o e => hidT_get (KX b o e) (by
    by_cases c : b ∈ tbs
    · obtain ⟨c2, hp⟩ := tabs c
      have z := nT _ hp
      rw [e] at z
      cases z
    · rw [lawH_not c]
      refine scriptH_none fun z => ?_
      rw [z.1, z.2] at e
      cases e)
  have hok : HOk P w (lawH K a vs ns tbs) s₁.heap := fun b u e => by
    by_cases c : b ∈ tbs
    · rw [lawH_tab c] at e
      cases e
      exact tobj c
    · rw [lawH_not c] at e
      obtain ⟨rfl, _, rfl⟩ := scriptH_some e
      exact ⟨ha, by rw [List.length_map]; exact hl, vs, _, rv, ha⟩
  obtain ⟨mc, l1, l2⟩ := hlim
  refine ⟨⟨rfl, ⟨kin, dictN hns, ⟨mb, dictN hb, hbb⟩, ⟨mc, dictN l1, l2⟩⟩, fun b o e => of_hidT e, Nat.le_of_eq (hidT_size _ _), trivial, (fun b z => by cases z), hok, .of_eq hg⟩, ?_, fun p hp => ⟨?_, ?_, fun z => ?_⟩, fun u s' h => ?_⟩
  · cases hk : K.lookup a with
    | none =>
      refine .inl (.inr ⟨{ cls := .type "list", data := .seq vs.toArray }, ?_⟩)
      rw [lawH_not aOut]
      exact if_pos ⟨rfl, hk⟩
    | some o =>
      have e := KX a o hk
      rw [ha] at e
      cases e
      exact .inr ⟨_, vs.toArray, _, hk, rfl, rfl, rfl, by rw [List.size_toArray, hi.length]; exact hl, by simpa using rv⟩
  · have z := CH p hp
    unfold PySem.W.CodeHd at z ⊢
    obtain ⟨o, us, fi, x1, x2, x3, x4, x5, x6, g1, g2, rest⟩ := z
    refine ⟨o, us, fi, x1, x2, x3, x4, x5, x6, hidT_get g1 (free g1 ?_ ?_), g2, rest⟩
    · rw [g2]
      decide
    · rw [g2]
      intro z
      cases z
  · obtain ⟨bm, ob, g1, g2, g3, g4, g5, g6⟩ := hbm
    refine ⟨bm, ob, g1, g2, fun z => ?_, fun z => ?_, hidT_get g3 (free g3 ?_ ?_), g4, g5, g6⟩
    · obtain ⟨o, es, ep, e, d, _⟩ := hns
      rw [← z, g3] at e
      cases e
      rw [g6] at d
      cases d
    · have y := hT p hp
      rw [← z, g3] at y
      cases y
      cases g6
    · rw [g4]
      decide
    · rw [g4]
      intro z
      cases z
  · obtain ⟨o, es, ep, e, d, _⟩ := hns
    have y := hT p hp
    rw [← z, e] at y
    cases y
    cases d
  · obtain ⟨v, H', e1, e2, un, ok2, r, q⟩ := h
    cases q
    have keep : ∀ b o, b ∉ tbs → s₁.heap.get? b = some o → s'.heap.get? b = some o := fun b o n e => by
      by_cases c : b = a ∧ K.lookup a = none
      · obtain ⟨rfl, c2⟩ := c
        have z : lawH K b vs ns tbs b = some (.frz { cls := .type "list", data := .seq vs.toArray } (.lst (ns.map V.int))) := by
          rw [lawH_not n]
          exact if_pos ⟨rfl, c2⟩
        rw [ha] at e
        cases e
        exact (ok2 _ _ (un.frzs _ _ _ z)).1
      · refine un.keep b o e ?_ (fun z => by cases z) (fun z => by cases z)
        rw [lawH_not n]
        exact scriptH_none c
    have grown : ∀ {b : Addr}, b ∈ tbs → ∃ more : Array Value, s'.heap.get? b = some { cls := .none, data := .fields more } := fun {b} h => by
      obtain ⟨more, z⟩ := un.tbls b #[] (lawH_tab h)
      exact ⟨_, ok2 b _ z⟩
    refine ⟨r, ⟨fun b o e => ?_, fun b o e => ?_⟩, e1, e2⟩
    · by_cases c : b ∈ tbs
      · obtain ⟨more, hm⟩ := grown c
        obtain ⟨c2, hp⟩ := tabs c
        have y := tobj c
        rw [e] at y
        cases y
        exact .inr (.inl ⟨((CH _ hp).tab (hT _ hp)).isCodeTable, rfl, #[], more, rfl, by rw [hm, Array.empty_append]⟩)
      · exact .inl (keep b o c e)
    · by_cases c : b ∈ tbs
      · obtain ⟨more, hm⟩ := grown c
        exact ⟨_, hm⟩
      · exact ⟨o, keep b o c e⟩
end
/-- the end of such a law -/
theorem walk_guardT {l : PySem.W.OpenLaw} {n k : Nat} {q : Program} {loose : List Str} {XP : (Str → Option Value) → Heap → Prop} {YP : World → Heap → Prop} {d : DefRec} {K : Params → PySem.W.Frag} {x : Str}
    (hn : l.most = some n) (hn2 : n ≤ sizeLine) (hdf : d.params.defaults = []) (hr : Room k PySem.callerA) (hY : ∀ (w : World) (h : Heap), YP w h → (K w.params).In h)
    (F : ∀ (w : World) (mg : Str → Option Value) (fa : Addr) (h : Heap), YP w h → (K w.params).In h → h.Ns mainGlobals mg → mg d.name = some (.ref fa) → ∃ (fd : FuncData) (cs : List (Addr × Addr)) (sp : Sp), (∀ p ∈ cs, h.get? p.2 = some { cls := .none, data := .fields #[] }) ∧ (∀ p ∈ cs, (K w.params).lookup p.2 = none) ∧ (∀ p ∈ cs, PySem.W.CodeHd h p.1 p.2) ∧
      (∀ (s : Shared) (u : Value), BindsTo s fd ⟨[u], []⟩ [(x, u)]) ∧ (∀ (H : Hp) (a : Addr) (ns : List Int), ns.length ≤ n → (∀ p ∈ cs, H p.2 = some (.tbl #[])) → SqL (K w.params) H a (ns.map V.int) → sp [.ref a] H (fun v _ => v = .bl true) E0) ∧
      ∀ base : Heap, (K w.params).In base → base.Ns mainGlobals mg → (∀ p ∈ cs, LamX.TabB base mg p.1 p.2) → FnG l.prog w (K w.params) mg base k fa fd [x] sp) :
    PySem.W.WalkO q loose XP YP l.row.toRowW d [] (fun f vs => PySem.call f vs) := by
  apply Att.attach_call hn hdf
  intro w s₀ s₁ mg mb fa o pm cd doc a vs ns G Y _ _ _ hmg hobj hints hlen hg
  obtain ⟨fd, cs, sp, hT, nT, CH, b1, b2, b3⟩ := F w mg fa s₁.heap Y (hY w _ Y) G.T.g hmg
  obtain ⟨e0, hS, TB, fin⟩ := law_startT (P := l.prog) (w := w) (tbs := cs.map (·.2)) rfl (hY w _ Y) G.T.g G.T.b G.T.builtins G.T.nolimit hg hT nT CH G.T.bmain hobj hints (Nat.le_trans hlen hn2)
  refine codeAny_mono ((b3 _ e0.mod.kin e0.mod.glob TB).go PySem.callerA [] s₁ _ ⟨[.ref a], []⟩ [.ref a] [.ref a] (fun v _ => v = .bl true) rfl hr e0 (b1 s₁ (.ref a)) (.cons rfl .nil) (b2 _ a ns hlen (fun p hp => lawH_tab (List.mem_map.mpr ⟨p, hp, rfl⟩)) hS)) fun r s' h => ?_
  match r, h with
  | .ok (.ret u), h =>
    obtain ⟨rfl, h2⟩ := fin u s' h
    exact ⟨rfl, h2⟩
/-! ### repr of data in which empty dicts may stand -/
section
mutual
inductive DpE (K : PySem.W.Frag) (H : Hp) : V → PyData → Prop
  | flat {v : V} {d : PyData} : Dp K H v d → d.hasDict = false → DpE K H v d
  | dict0 {a : Addr} : H a = some (.dK []) → DpE K H (.ref a) (.dict [])
  | dict1 {a : Addr} {i j : Int} : H a = some (.dK [(.inl i, .int j)]) → DpE K H (.ref a) (.dict [(.int i, .int j)])
  | lst {a : Addr} {xs : List V} {ds : List PyData} : SqL K H a xs → DpEAll K H xs ds → DpE K H (.ref a) (.list ds)
  | tup {a : Addr} {xs : List V} {ds : List PyData} : SqT K H a xs → DpEAll K H xs ds → DpE K H (.ref a) (.tuple ds)
inductive DpEAll (K : PySem.W.Frag) (H : Hp) : List V → List PyData → Prop
  | nil : DpEAll K H [] []
  | cons {v : V} {vs : List V} {d : PyData} {ds : List PyData} : DpE K H v d → DpEAll K H vs ds → DpEAll K H (v :: vs) (d :: ds)
end
/-- a thing whose text is known -/
def Rp (P : Program) (w : World) (h : Heap) (u : Value) (d : PyData) : Prop := ∃ (as bs : List Addr), Reads h u d as ∧ ReadAtMost h d.depth bs ∧ ReprK P w bs h d.depth u d.shown
def RpAll (P : Program) (w : World) (h : Heap) (us : List Value) (ds : List PyData) : Prop := ∃ (as bs : List Addr), ReadsAll h us ds as ∧ ReadAtMost h (PyData.depthAll ds) bs ∧ ReprAllK P w bs h (PyData.depthAll ds) us (PyData.shownAll ds)
variable {X : Cx} {pins : List (Addr × Obj)} {σ : L2.St} {H : Hp} {s : Shared}
theorem rp_cons {P : Program} {w : World} {h : Heap} {u : Value} {us : List Value} {d : PyData} {ds : List PyData} : Rp P w h u d → RpAll P w h us ds → RpAll P w h (u :: us) (d :: ds) := by
  rintro ⟨as1, bs1, p1, p2, p3⟩ ⟨as2, bs2, q1, q2, q3⟩
  have l1 : d.depth ≤ PyData.depthAll (d :: ds) := by
    show d.depth ≤ max d.depth (PyData.depthAll ds)
    omega
  have l2 : PyData.depthAll ds ≤ PyData.depthAll (d :: ds) := by
    show PyData.depthAll ds ≤ max d.depth (PyData.depthAll ds)
    omega
  exact ⟨as1 ++ as2, bs1 ++ bs2, .cons p1 q1, (p2.mono l1).append (q2.mono l2), .cons ((p3.more fun b m => List.mem_append_left _ m).level_le l1) (q3.more_le (fun b m => List.mem_append_right _ m) l2)⟩
theorem size_lst {ds : List PyData} {z : Nat} (h : (PyData.list ds).shown.length ≤ z) : ∀ t ∈ PyData.shownAll ds, t.length ≤ z := fun t ht => by
  have y := listText_mem_le ht
  have e : (PyData.list ds).shown = listText (PyData.shownAll ds) := by simp only [PyData.shown]
  rw [e] at h
  omega
theorem size_tup {ds : List PyData} {z : Nat} (h : (PyData.tuple ds).shown.length ≤ z) : ∀ t ∈ PyData.shownAll ds, t.length ≤ z := fun t ht => by
  have y := tupleText_mem_le ht
  have e : (PyData.tuple ds).shown = tupleText (PyData.shownAll ds) := by simp only [PyData.shown]
  rw [e] at h
  omega
mutual
theorem DpE.rp (I : Inv X pins σ H s) : ∀ (d : PyData) (v : V) (u : Value), DpE X.K H v d → RelV v u → d.showable = true → d.shown.length ≤ sizeLine → Rp X.prog X.w s.heap u d
  | d, v, u, .flat hd hn, r, hs, hz => by
    obtain ⟨as, rd⟩ := Dp.reads I d v u hd r
    obtain ⟨bs, q1, q2⟩ := ReprK.of_reads (prog := X.prog) (w := X.w) rd hs (fun z => by rw [hn] at z; cases z) hz
    exact ⟨as, bs, rd, q1, q2⟩
  | _, _, u, .dict0 (a := a) ha, r, _, _ => by
    cases r
    obtain ⟨_, nsys, vs, kv, o, es, ep, g1, g2, g3, _, g4, _⟩ := dk_of I.hok ha
    cases kv
    have e0 : es = #[] := by
      cases es with
      | mk l =>
        cases l with
        | nil => rfl
        | cons x l => cases g4
    subst e0
    have rd : Reads s.heap (.ref a) (.dict []) _ := .dict g1 g2.1 g3 .nil .nil
    refine ⟨_, [a], rd, fun b m => ?_, ?_⟩
    · rw [List.mem_singleton.mp m]
      exact ⟨_, _, rd, Nat.le_refl _⟩
    · exact ReprK.dict (as := []) (ps := []) g1 g2.1 g3 nsys (by simp) .nil
  | _, _, u, .dict1 (a := a) (i := i) (j := j) ha, r, hs, hz => by
    cases r
    obtain ⟨_, nsys, vs, kv, o, es, ep, g1, g2, g3, _, g4, _⟩ := dk_of I.hok ha
    obtain ⟨v0, ev, t0, hv0⟩ : ∃ v0, vs = [(Sum.inl i, v0)] ∧ ∃ t, v0 = Value.int j t := by
      match vs, kv with
      | [(k0, v0)], .cons h _ =>
        have hk0 : (Sum.inl i : Key) = k0 := h.1
        have hv0 : RelV (.int j) v0 := h.2
        subst hk0
        exact ⟨v0, rfl, hv0⟩
    subst ev hv0
    obtain ⟨e, ee, hk, hval⟩ : ∃ e, es.toList = [e] ∧ keyIs (.inl i) e.key = true ∧ e.val = Value.int j t0 := by
      match es.toList, g4 with
      | [e], .cons h1 h2 .nil => exact ⟨e, rfl, h1, h2⟩
    have hkey : ∃ t, e.key = Value.int i t := by
      rcases keyIs_shape hk with ⟨i', t, h1, h2⟩ | ⟨x, t, h1, h2⟩
      · cases h1
        exact ⟨t, h2⟩
      · cases h1
    obtain ⟨t1, ek⟩ := hkey
    have rk : ReadsAll s.heap (es.toList.map (·.key)) ([(PyData.int i, PyData.int j)].map (·.1)) ([] ++ []) := by
      rw [ee]
      show ReadsAll s.heap [e.key] [.int i] _
      rw [ek]
      exact .cons (.int i t1) .nil
    have rvv : ReadsAll s.heap (es.toList.map (·.val)) ([(PyData.int i, PyData.int j)].map (·.2)) ([] ++ []) := by
      rw [ee]
      show ReadsAll s.heap [e.val] [.int j] _
      rw [hval]
      exact .cons (.int j t0) .nil
    have rd : Reads s.heap (.ref a) (.dict [(.int i, .int j)]) _ := .dict g1 g2.1 g3 rk rvv
    obtain ⟨bs, q1, q2⟩ := ReprK.of_reads (prog := X.prog) (w := X.w) rd hs (fun _ z => by
      have z : sysModules = a := by simpa using z
      rw [← z] at nsys
      simp at nsys) hz
    exact ⟨_, bs, rd, q1, q2⟩
  | _, _, u, .lst (a := a) (xs := xs) (ds := ds) hl ha, r, hs, hz => by
    cases r
    obtain ⟨us, rv, ⟨o, n, g1, g2, _, g3⟩, _⟩ := I.list hl
    obtain ⟨as, bs, p1, p2, p3⟩ := DpEAll.rp I ds xs us ha rv (by simpa only [PyData.showable] using hs) (size_lst hz)
    have rd : Reads s.heap (.ref a) (.list ds) _ := .list g1 g2 g3 p1
    have deep : PyData.depthAll ds < (PyData.list ds).depth := by
      simp only [PyData.depth]
      omega
    have out := not_mem_of_deeper rd deep p2
    refine ⟨_, a :: bs, rd, .cons rd (Nat.le_of_lt deep) p2, ?_⟩
    cases us with
    | nil =>
      cases p1
      exact ReprK.listEmpty g1 g2 g3
    | cons y ys =>
      have lens : (PyData.shownAll ds).length = (y :: ys).toArray.size := by
        rw [List.size_toArray]
        exact p3.length_eq
      exact ReprK.list g1 g2 g3 out lens fun i z e => p3.item i z (by rw [List.getElem?_toArray] at e; exact e)
  | _, _, u, .tup (a := a) (xs := xs) (ds := ds) hl ha, r, hs, hz => by
    cases r
    obtain ⟨us, rv, ⟨o, g1, g2, n, g3⟩, _⟩ := I.tuple hl
    obtain ⟨as, bs, p1, p2, p3⟩ := DpEAll.rp I ds xs us ha rv (by simpa only [PyData.showable] using hs) (size_tup hz)
    have rd : Reads s.heap (.ref a) (.tuple ds) _ := .tuple g1 g2 g3 p1
    have deep : PyData.depthAll ds < (PyData.tuple ds).depth := by
      simp only [PyData.depth]
      omega
    have out := not_mem_of_deeper rd deep p2
    exact ⟨_, a :: bs, rd, .cons rd (Nat.le_of_lt deep) p2, ReprK.tuple g1 g2 g3 out p3⟩
theorem DpEAll.rp (I : Inv X pins σ H s) : ∀ (ds : List PyData) (vs : List V) (us : List Value), DpEAll X.K H vs ds → Vals vs us → PyData.showableAll ds = true → (∀ t ∈ PyData.shownAll ds, t.length ≤ sizeLine) → RpAll X.prog X.w s.heap us ds
  | _, _, _, .nil, r, _, _ => by
    cases r
    exact ⟨[], [], .nil, (fun b m => by cases m), .nil⟩
  | _, _, _, .cons h1 h2, r, hs, hz => by
    cases r with
    | cons r1 r2 =>
      have both := hs
      simp only [PyData.showableAll, Bool.and_eq_true] at both
      have hz1 := hz
      simp only [PyData.shownAll] at hz1
      exact rp_cons (DpE.rp I _ _ _ h1 r1 both.1 (hz1 _ (List.mem_cons_self ..))) (DpEAll.rp I _ _ _ h2 r2 both.2 fun t m => hz1 t (List.mem_cons_of_mem _ m))
end
/-- repr(x) of a list that is not empty, where no repr is under way -/
theorem call_reprE (hg : X.A.guards = some []) (hu : X.A.units + 64 < cLine) : CallR X (.builtin "repr") (fun xs H Q => ∃ (a : Addr) (ys : List V) (ds : List PyData), xs = [.ref a] ∧ SqL X.K H a ys ∧ ys ≠ [] ∧ DpEAll X.K H ys ds ∧ (PyData.list ds).depth ≤ 50 ∧ (PyData.list ds).showable = true ∧ (PyData.list ds).shown.length ≤ sizeLine ∧ Q (.str (PyData.list ds).shown) H) := by
  intro pins s σ H xs us Q I r h
  obtain ⟨a, ys, ds, rfl, hl, hne, ha, h1, h2, h4, q⟩ := h
  rw [Vals.ref1 r]
  obtain ⟨us, rv, ⟨o, n, g1, g2, _, g3⟩, _⟩ := I.list hl
  obtain ⟨as, bs, p1, p2, p3⟩ := DpEAll.rp I ds ys us ha rv (by simpa only [PyData.showable] using h2) (size_lst h4)
  have rd : Reads s.heap (.ref a) (.list ds) _ := .list g1 g2 g3 p1
  have deep : PyData.depthAll ds < (PyData.list ds).depth := by
    simp only [PyData.depth]
    omega
  have out := not_mem_of_deeper rd deep p2
  have et : (PyData.list ds).shown = listText (PyData.shownAll ds) := by simp only [PyData.shown]
  rw [et] at q h4
  cases us with
  | nil =>
    cases rv
    exact absurd rfl hne
  | cons y zs =>
    have lens : (PyData.shownAll ds).length = (y :: zs).toArray.size := by
      rw [List.size_toArray]
      exact p3.length_eq
    refine call_repr_slot (by omega) ⟨o, g1, g2⟩ PySem.F.slot_list_repr.toG ?_
    exact call_list_reprK g1 g2 g3 out lens (fun i z e => p3.item i z (by rw [List.getElem?_toArray] at e; exact e)) hg (fun b _ => Clear.nil b) (by show X.A.units + 1 + (PyData.depthAll ds + 1) < cLine; omega) (fun b o e => e) (fun h' u tk hk => ⟨_, _, rfl, ⟨.str _, H, I.kept hk, ⟨u, rfl⟩, q⟩⟩) h4
end
/-! ### sorted(xs) of data that are alike: tuples, lists, numbers, texts -/
def rSortD (K : PySem.W.Frag) : List V → Hp → VK → Prop := fun vs H Q => ∃ (a : Addr) (bs : List (V × PyData)), vs = [V.ref a] ∧ SqL K H a (bs.map (·.1)) ∧ (∀ z ∈ bs, Dp K H z.1 z.2) ∧ PySem.W.AllAlike (bs.map (·.2)) ∧ PySem.W.Sortable (bs.map (·.2)) ∧ (∀ z ∈ bs, z.2.depth ≤ 50) ∧
  ∀ p, H p = none → Q (.ref p) (upd H p (.lst ((bs.mergeSort (PySem.W.dataLe false (·.2))).map (·.1))))
section
variable {X : Cx}
theorem each_vals : ∀ {bs : List (V × PyData)} {us : List Value}, Vals (bs.map (·.1)) us → PySem.W.EachIs (fun (v : Value) (z : V × PyData) => RelV z.1 v) us bs
  | [], _, r => by
    cases r
    exact .nil
  | z :: bs, _, r => by
    cases r with
    | cons h t => exact .cons h (each_vals t)
theorem vals_each : ∀ {bs : List (V × PyData)} {us : List Value}, PySem.W.EachIs (fun (v : Value) (z : V × PyData) => RelV z.1 v) us bs → Vals (bs.map (·.1)) us
  | _, _, .nil => .nil
  | _, _, .cons h t => .cons h (vals_each t)
theorem each_reads {pins : List (Addr × Obj)} {σ : L2.St} {H : Hp} {s : Shared} (I : Inv X pins σ H s) : ∀ {bs : List (V × PyData)} {us : List Value}, Vals (bs.map (·.1)) us → (∀ z ∈ bs, Dp X.K H z.1 z.2) → PySem.W.EachIs (fun (v : Value) (z : V × PyData) => ∃ as, Reads s.heap v z.2 as) us bs
  | [], _, r, _ => by
    cases r
    exact .nil
  | z :: bs, _, r, h => by
    cases r with
    | cons h1 t => exact .cons (Dp.reads I z.2 z.1 _ (h z List.mem_cons_self) h1) (each_reads I t fun y hy => h y (List.mem_cons_of_mem _ hy))
theorem cr_sortD (hu : X.A.units + 64 < cLine) : CallR X (.builtin "sorted") (rSortD X.K) := by
  intro pins s σ H xs us Q I r h
  obtain ⟨a, bs, rfl, hs, hd, hal, hk, hdep, q⟩ := h
  obtain rfl := Vals.ref1 r
  obtain ⟨its, rv, hl, hz⟩ := I.list hs
  refine PySem.W.sorted_data (bs := bs) (enc := fun z => z.2) (R := fun (v : Value) (z : V × PyData) => RelV z.1 v) hl.isList (each_vals rv) (each_reads I rv hd) hal hk (by rw [List.length_map] at hz; exact hz) (fun z hz' => by have := hdep z hz'; omega) fun out h1 h2 => ?_
  obtain ⟨ep, he'⟩ := PyProof.Rows.sortedAll_at s.heap its out.toArray
  have rv2 := vals_each h2
  have hlen : ((bs.mergeSort (PySem.W.dataLe false (·.2))).map (·.1)).length ≤ sizeLine := by
    rw [List.length_map, List.length_mergeSort]
    rw [List.length_map] at hz
    exact hz
  exact ⟨.ref _, upd H (s.heap.objs.size + 1) (.lst ((bs.mergeSort (PySem.W.dataLe false (·.2))).map (·.1))), I.laid (t' := s.toks) (fun _ _ => PyProof.Rows.sortedAll_old) (Nat.le_succ _) ⟨hlen, out, ep, rv2, he'⟩, rfl, q _ (I.hok.fresh (Nat.le_succ _))⟩
end
section
variable {X : Cx} {K : PySem.W.Frag}
theorem sortDK (e : X.K = K) (hu : X.A.units + 64 < cLine) : CallR X (.builtin "sorted") (rSortD K) := by subst e; exact cr_sortD hu
end
/-! ### len(set(xs)), xs any list of whole numbers -/
section
variable {ns : List Int}
theorem met_any : ∀ (i : Nat), i ≤ ns.length → ∀ x : Int, (PyProof.Rows.firstMet (fun i => ns.getD i 0) i).any (· == x) = (ns.take i).any (· == x)
  | 0, _, x => rfl
  | i + 1, h, x => by
    have hi : i < ns.length := h
    have e1 : ns[i]? = some (ns.getD i 0) := by
      rw [List.getD_eq_getElem?_getD, List.getElem?_eq_getElem hi]
      rfl
    have ih := met_any i (by omega)
    rw [PyProof.Rows.firstMet_succ, List.take_add_one, e1]
    unfold PyProof.Rows.step_dedup
    have last : ([ns.getD i 0] : List Int).any (· == x) = (ns.getD i 0 == x) := by
      rw [List.any_cons, List.any_nil, Bool.or_false]
    split
    · rename_i c
      rw [ih, List.any_append]
      rw [ih (ns.getD i 0)] at c
      show (ns.take i).any (· == x) = ((ns.take i).any (· == x) || ([ns.getD i 0] : List Int).any (· == x))
      rw [last]
      cases hx : (ns.getD i 0 == x) with
      | false => rw [Bool.or_false]
      | true =>
        rw [← beq_iff_eq.mp hx, c]
        rfl
    · rw [List.any_append, List.any_append, ih]
      rfl
theorem met_len : ∀ (i : Nat), i ≤ ns.length → (PyProof.Rows.firstMet (fun i => ns.getD i 0) i).length ≤ i ∧ ((ns.take i).Nodup → (PyProof.Rows.firstMet (fun i => ns.getD i 0) i).length = i) ∧ (¬ (ns.take i).Nodup → (PyProof.Rows.firstMet (fun i => ns.getD i 0) i).length < i)
  | 0, _ => ⟨Nat.le_refl _, fun _ => rfl, fun h => absurd (by rw [List.take_zero]; exact List.Pairwise.nil) h⟩
  | i + 1, h => by
    have hi : i < ns.length := h
    obtain ⟨h1, h2, h3⟩ := met_len i (by omega)
    have e1 : ns[i]? = some (ns.getD i 0) := by
      rw [List.getD_eq_getElem?_getD, List.getElem?_eq_getElem hi]
      rfl
    have ha := met_any (ns := ns) i (by omega) (ns.getD i 0)
    have ht : ns.take (i + 1) = ns.take i ++ [ns.getD i 0] := by
      rw [List.take_add_one, e1]
      rfl
    have hn : (ns.take i ++ [ns.getD i 0]).Nodup ↔ (ns.take i).Nodup ∧ ns.getD i 0 ∉ ns.take i := by
      rw [List.nodup_append]
      constructor
      · rintro ⟨a1, _, a3⟩
        exact ⟨a1, fun z => a3 _ z _ (List.mem_singleton.mpr rfl) rfl⟩
      · rintro ⟨a1, a2⟩
        refine ⟨a1, List.nodup_cons.mpr ⟨by simp, List.Pairwise.nil⟩, fun x hx y hy e => a2 ?_⟩
        rw [List.mem_singleton.mp hy] at e
        rw [← e]
        exact hx
    rw [PyProof.Rows.firstMet_succ, ht]
    unfold PyProof.Rows.step_dedup
    have hm : (ns.take i).any (· == ns.getD i 0) = true ↔ ns.getD i 0 ∈ ns.take i := by
      rw [List.any_eq_true]
      constructor
      · rintro ⟨y, hy, e⟩
        rw [← beq_iff_eq.mp e]
        exact hy
      · intro z
        exact ⟨_, z, beq_self_eq_true _⟩
    split
    · rename_i c
      rw [ha] at c
      have c2 := hm.mp c
      exact ⟨by omega, fun z => absurd c2 (hn.mp z).2, fun _ => by omega⟩
    · rename_i c
      rw [ha] at c
      have c2 : ns.getD i 0 ∉ ns.take i := fun z => c (hm.mpr z)
      rw [List.length_append, List.length_singleton]
      refine ⟨by omega, fun z => by rw [h2 (hn.mp z).1], fun z => ?_⟩
      have := h3 fun y => z (hn.mpr ⟨y, c2⟩)
      omega
end
def tLenSetN (K : PySem.W.Frag) (ta : TE) : TE := fun σ H Q => ta σ H fun x H1 => ∃ (l : Addr) (ns : List Int), x = .ref l ∧ SqL K H1 l (ns.map V.int) ∧ ns.length ≤ 4000 ∧ ∀ c : Nat, (ns.Nodup → c = ns.length) → (¬ ns.Nodup → c < ns.length) → Q (.int (c : Nat)) H1
theorem pe_lenSetN {X : Cx} {a : Expr} {ta : TE} {p p2 q pos : Pos} (hg : Gl X "len") (hm : X.mg "len" = none) (hg2 : Gl X "set") (hm2 : X.mg "set" = none) (ha : PE X a ta) (hc : X.calm = true := by rfl)
    (na : starEach [a] X.env = (false, eval a X.env) :: starEach [] X.env := by rfl) : PE X (.Call (.Name "len" p) [.Call (.Name "set" p2) [a] [] q] [] pos) (tLenSetN X.K ta) := by
  constructor
  intro pins s σ H Q I h
  refine Call_ (ld_blt I hg hm boot_len (PyProof.Rows.callWith_builtin1 (PyProof.Rows.args_cons (Call_ (ld_blt I hg2 hm2 boot_set ?_)) rfl) rfl rfl))
  refine PyProof.Rows.callWith_type1 (PyProof.Rows.args_cons (thn (ha.run pins s σ H _ I h) fun v s1 hv => PyProof.Rows.args_nil ?_) na) na rfl
  obtain ⟨x, H1, I1, r1, l, ns, e, hq, hl, q1⟩ := hv
  subst e
  cases r1
  obtain ⟨us, r, pl, _⟩ := I1.list hq
  have sz : us.toArray.size = ns.length := by
    have z := r.length
    rw [List.length_map] at z
    rw [List.size_toArray, ← z]
  refine call_set_list (ns := ns) (I1.ok.hd hc) pl.isList (by simpa using RZ.intsAre_vals r) (by unfold scanBound; omega) fun h2 tk hS keep => PyProof.Rows.args_nil ?_
  rw [sz] at hS
  obtain ⟨g1, g2, g3⟩ := met_len (ns := ns) ns.length (Nat.le_refl _)
  rw [List.take_length] at g2 g3
  obtain ⟨o, es, ep, t, a1, a2, a3, _, _, _, a4, a5⟩ := hS
  have I2 : Inv X pins σ H1 { s1 with heap := h2, toks := tk } := I1.kept fun b o' z => keep b o' (Heap.lt_size z) z
  exact call_len_set a1 a2 a3 a4 (by rw [a5]; omega) ⟨.int ((PyProof.Rows.firstMet (fun i => ns.getD i 0) ns.length).length : Nat), H1, I2.tok _, ⟨_, by rw [a5]⟩, q1 _ g2 g3⟩
/-! ### a method of a list inside a comprehension -/
section
variable {X : Cx} {K : PySem.W.Frag}
theorem mt_indexK (e : X.K = K) : MtR X "list.index" (rIndex K) := by subst e; exact mt_index
theorem op_in_seqK (e : X.K = K) : OpR X (compareOp .In) (rIn K false) := by subst e; exact op_in_seq
theorem pe_bmK {o e : Expr} {es : List Expr} {to : TE} {t : TA} {name : Str} {apos cpos : Pos} {T id : String} {r : V → List V → Hp → VK → Prop} (eK : X.K = K) (pa : PlainAttrs T) (slot : Slot T name id) (hty : typeOf (.builtin id) = pure (.type "method_descriptor")) (hm : MtR X id r) (ho : PE X o to) (ha : PA X (e :: es) t)
    (hbase : attributeBase o name X.env (eval o X.env) = eval o X.env := by rfl)
    (hfew : ((backTo cpos (starEach (e :: es) X.env)).all (fun x => !x.1) && (backToKw cpos (keywordEach [] X.env)).all (fun x => x.1.isSome)
      && decide ((e :: es).length + ([] : List Keyword).length + (if ([] : List Keyword).isEmpty then 0 else 1) < 30)) = true := by rfl)
    (hline : (apos.endLine == cpos.line) = true := by rfl) (hs : starEach (e :: es) X.env = (false, eval e X.env) :: starEach es X.env := by rfl) (hplain : (backTo cpos (starEach es X.env)).any (·.1) = false := by rfl) :
    PE X (.Call (.Attribute o name apos) (e :: es) [] cpos) (tBM K T r to t) := by
  subst eK
  exact pe_bm pa slot hty hm ho ha hbase hfew hline hs hplain
end
/-! ### set(xs), xs a list of whole numbers: a set whose members and number are known, that can be sorted -/
abbrev set0 (w : World) : Obj := { cls := .type "set", dict := none, data := .set #[] 0 (.fresh 0 0 (!w.params.followText "set-order")) }
def SetMade (w : World) (s : Shared) (ns : List Int) (s2 : Shared) : Prop := ∃ (h2 : Heap) (tk c : Nat), s2 = { s with heap := h2, toks := tk } ∧ SetR w h2 s.heap.objs.size (fun j => decide (j ∈ ns)) c ∧ c ≤ ns.length ∧ ∀ b o, s.heap.get? b = some o → h2.get? b = some o
section
variable {P : Program} {w : World} {A : Around} {E : Value → Shared → Prop} {s : Shared}
/-- the new set is filled from the list -/
theorem setL_init {l : Addr} {items : Array Value} {ns : List Int} (hh : A.handled = none) (hl : s.heap.IsList l items) (hi : IntsAre items.toList ns) (hb : ns.length + 1 < scanBound) :
    codeAny (model P w) A (.call (.builtin "set.__init__") ⟨[.ref s.heap.objs.size, .ref l], []⟩) (wants (fun r s2 => r = .none ∧ SetMade w s ns s2) E) { s with heap := s.heap.push (set0 w) } := by
  have size : items.size = ns.length := by
    have q := IntsAre.length hi
    simpa using q
  have here : (s.heap.push (set0 w)).get? s.heap.objs.size = some (set0 w) := Heap.get?_push_size _ rfl
  refine codeAny_call_builtin F.called_set.init.plain F.entry_set_init (check_set_init_1 ⟨_, here, rfl⟩ ?_)
  -- the list behind the new set
  obtain ⟨⟨lc, ld, ldata, lsl⟩, hol, hlc, m, hld⟩ := hl
  dsimp only at hlc hld
  subst hlc
  subst hld
  have old : ∀ {b : Addr} {o : Obj}, s.heap.get? b = some o → (s.heap.push (set0 w)).get? b = some o := fun h => Heap.get?_push_of_some _ h
  have hol2 := old hol
  have isl : (s.heap.push (set0 w)).IsList l items := ⟨_, hol2, rfl, m, rfl⟩
  have no1 := F.sub_list_set
  have no2 := F.sub_list_frozenset
  have no3 : (Value.type "list" == Value.type "dict") = false := by decide
  unfold Builtin.«set.__init__» noKeywords Builtin.Frozenset.updateFrom
  generalize hit : pyIter = it
  wp_walk
  subst hit
  refine wpAny_pyIter_list isl (wpAny_bind (wpAny_runValue ?_))
  have sz := Heap.size_push (h := s.heap) (o := set0 w)
  have lt := Heap.lt_size hol
  -- all its items
  have each : ∀ (i : Nat) (v : Value), items[i]? = some v → ∃ k t, ns[i]? = some k ∧ v = .int k t := fun i v hv => by
    have hil : i < ns.length := by
      rw [← size]
      exact (Array.getElem?_eq_some_iff.mp hv).1
    obtain ⟨t, ev⟩ := IntsAre.int_at hi i v (by rw [Array.getElem?_toList]; exact hv)
    have ed : ns.getD i 0 = ns[i] := by
      rw [List.getD_eq_getElem?_getD, List.getElem?_eq_getElem hil]
      rfl
    exact ⟨_, t, List.getElem?_eq_getElem hil, by rw [ev, ed]⟩
  have nli : l ≠ (s.heap.push (set0 w)).objs.size := by
    rw [sz]
    exact Nat.ne_of_lt (Nat.lt_succ_of_lt lt)
  have nst : s.heap.objs.size ∉ [(s.heap.push (set0 w)).objs.size, l] := fun z => by
    rcases List.mem_cons.mp z with z | z
    · rw [sz] at z
      exact Nat.ne_of_lt (Nat.lt_succ_self _) z
    · exact Nat.ne_of_gt lt (List.mem_singleton.mp z)
  refine set_update_ints ((Walks.list (show A.in1.in1.handled = none from hh) _ l nli items).toS) s.heap.objs.size nst ns size hb each (items.size - 0) 0 _ (by omega) (Nat.zero_le _) ?_ ?_ ?_
  · exact ⟨⟨_, Heap.get?_push_size _ rfl, rfl, rfl⟩, isl.push _⟩
  · exact ⟨0, Nat.le_refl 0, setR_new_at (Heap.get?_push_of_some _ here)⟩
  rintro ⟨h2, g2, d2, tk, os2⟩ c mv hc hR
  obtain rfl : g2 = s.gens := mv.gens
  obtain rfl : d2 = s.drawn := mv.drawn
  obtain rfl : os2 = s.os := mv.os
  show wpAny _ _ _ _ _ _
  refine wpAny_pure ?_
  show wpAny _ _ (ret Value.none) _ _ _
  refine wpAny_pure ⟨rfl, h2, tk, c, rfl, hR, by omega, fun b o e => mv.heap b o (fun z => ?_) (Heap.get?_push_of_some _ (old e))⟩
  have lb := Heap.lt_size e
  rcases List.mem_cons.mp z with z | z
  · exact Nat.ne_of_lt lb z
  · rw [List.mem_singleton, sz] at z
    exact Nat.ne_of_lt (Nat.lt_succ_of_lt lb) z
end
section
variable {P : Program} {w : World} {A : Around} {E : Value → Shared → Prop} {s : Shared}
/-- set(l) of a list of whole numbers -/
theorem setL {l : Addr} {items : Array Value} {ns : List Int} {Q : Value → Shared → Prop} (hh : A.handled = none) (hl : s.heap.IsList l items) (hi : IntsAre items.toList ns) (hb : ns.length + 1 < scanBound)
    (h : ∀ s2, SetMade w s ns s2 → Q (.ref s.heap.objs.size) s2) : wpAny (model P w) A (call (.type "set") [.ref l]) Q E s := by
  have ⟨c, tl, hmro⟩ := F.called_set.mro
  have ⟨hmade, hsub⟩ := And.intro F.called_set.made F.called_set.sub
  have ⟨h1, h2⟩ := And.intro F.called_set.notType F.called_set.canCreate
  have hct := F.typeCall_set_1 (.ref l)
  refine wpAny_call (codeAny_of_tree (show wpAny _ _ (callAny (.type "set") _) _ _ _ from wpAny_pure ⟨Code.quiet_builtin _ (by decide +kernel), codeAny_builtin F.entry_type_call ?_⟩))
  rw [Around.under_plain (weight_type_call_type "set" [.ref l] []) rfl]
  repeat (any_goals (first | assumption | wp_step))
  refine codeAny_mono (code_set_led1 (.ref l) (E := E) (Q₁ := fun v s1 => v = .ref s.heap.objs.size ∧ s1 = { s with heap := s.heap.push (set0 w) }) ⟨rfl, rfl⟩) ?_
  rintro (e | fl) s1 hr
  · exact hr
  cases fl
  case ret obj =>
    obtain ⟨rfl, rfl⟩ := hr
    have here : (s.heap.push (set0 w)).get? s.heap.objs.size = some (set0 w) := Heap.get?_push_size _ rfl
    have hT : Shared.TypeIs { s with heap := s.heap.push (set0 w) } (.ref s.heap.objs.size) "set" := ⟨_, here, rfl⟩
    have ⟨hli, hbi⟩ := And.intro F.called_set.init.lookup (F.called_set.init.bind (.ref s.heap.objs.size))
    repeat (any_goals (first | assumption | wp_step))
    refine codeAny_mono (setL_init (E := E) (by simp [hh]) hl hi hb) ?_
    rintro (e | fl) s2 hr
    · exact hr
    cases fl
    case ret r =>
      obtain ⟨rfl, hm⟩ := hr
      repeat (any_goals (first | assumption | wp_step))
      exact h s2 hm
    all_goals exact hr.elim
  all_goals exact hr.elim
end
section
variable {X : Cx}
/-- set(xs) -/
theorem call_setL (hc : X.calm = true) : CallR X (.type "set") (fun xs H Q => ∃ (a : Addr) (ns : List Int), xs = [V.ref a] ∧ SqL X.K H a (ns.map V.int) ∧ ns.length < 4000 ∧
    ∀ p c, H p = none → c ≤ ns.length → Q (.ref p) (upd H p (SetO X.w p (fun j => decide (j ∈ ns)) c))) := by
  intro pins s σ H xs us Q I r h
  obtain ⟨a, ns, rfl, ha, few, q⟩ := h
  rw [Vals.ref1 r]
  obtain ⟨its, rv, p1, _⟩ := I.list ha
  refine setL (items := its.toArray) (I.ok.hd hc) p1.isList (Vals.ints rv) (by unfold scanBound; omega) ?_
  rintro s2 ⟨h2, tk, c, rfl, R, le, old⟩
  exact ⟨.ref _, _, I.laid (t' := tk) (fun b u e => old b u e) (by omega) (setO_new R), rfl, q _ c (I.hok.fresh (Nat.le_refl _)) le⟩
end
/-! ### a table laid clean for few small hashes, whatever mask a copy may take -/
def visB (m : Nat) : Nat → Nat → Nat → Nat
  | 0, _, _ => 0
  | f + 1, i, b => 2 ^ i ||| visB m f (SetTable.leap m i b).1 (SetTable.leap m i b).2
def CopyMask (m : Nat) : Prop := m = 7 ∨ m = 15 ∨ m = 31 ∨ m = 63 ∨ m = 127
theorem vis_tab : ([7, 15, 31, 63, 127].all fun m => (List.range 64).all fun h => visB m (SetTable.turns m) (h % (m + 1)) h == 2 ^ (m + 1) - 1) = true := by decide +kernel
theorem vis_all {m h : Nat} (hm : CopyMask m) (hh : h < 64) : visB m (SetTable.turns m) (h % (m + 1)) h = 2 ^ (m + 1) - 1 := by
  have mem : m ∈ [7, 15, 31, 63, 127] := by
    rcases hm with rfl | rfl | rfl | rfl | rfl <;> decide
  exact beq_iff_eq.mp (List.all_eq_true.mp (List.all_eq_true.mp vis_tab m mem) h (List.mem_range.mpr hh))
/-- an empty slot on the way: the search ends at one -/
theorem free_vis {m j : Nat} {owner : Array (Option Nat)} (hj : oAt owner j = none) : ∀ f i b, (visB m f i b).testBit j = true → ∃ r, SetTable.layClean.free m owner f i b = some r ∧ oAt owner r = none
  | 0, i, b, h => by
    unfold visB at h
    simp at h
  | f + 1, i, b, h => by
    rw [free_succ]
    cases e : (List.range (SetTable.runEnd m i + 1 - i)).find? fun k => (oAt owner (i + k)).isNone with
    | some k =>
      have z := List.find?_some e
      exact ⟨i + k, rfl, Option.isNone_iff_eq_none.mp z⟩
    | none =>
      unfold visB at h
      rw [Nat.testBit_or, Nat.testBit_two_pow, Bool.or_eq_true] at h
      rcases h with h | h
      · have h := of_decide_eq_true h
        have z := List.find?_eq_none.mp e 0 (List.mem_range.mpr (by have := runEnd_ge m i; omega))
        rw [Nat.add_zero, h, hj] at z
        exact absurd rfl z
      · exact free_vis hj f _ _ h
/-- k slots are owned, by the numbers below k, each once -/
structure LayI (m k : Nat) (owner : Array (Option Nat)) : Prop where
  sz : owner.size = m + 1
  lt : ∀ j i, j ≤ m → oAt owner j = some i → i < k
  all : ∀ i, ∃ j, i < k → j ≤ m ∧ oAt owner j = some i
  inj : ∀ j j' i, j ≤ m → j' ≤ m → oAt owner j = some i → oAt owner j' = some i → j = j'
theorem LayI.zero (m : Nat) : LayI m 0 (Array.replicate (m + 1) none) := by
  have no : ∀ j i, j ≤ m → oAt (Array.replicate (m + 1) none) j ≠ some i := fun j i hj z => by
    rw [oAt_init hj] at z
    cases z
  exact ⟨by simp, fun j i hj z => absurd z (no j i hj), fun i => ⟨0, fun z => absurd z (Nat.not_lt_zero _)⟩, fun j _ i hj _ z => absurd z (no j i hj)⟩
/-- one is empty as long as not all are owned -/
theorem LayI.room {m k : Nat} {owner : Array (Option Nat)} (L : LayI m k owner) (h : k ≤ m) : ∃ j, j ≤ m ∧ oAt owner j = none := by
  have ⟨g, hg⟩ : ∃ g : Nat → Nat, ∀ i, i < k → g i ≤ m ∧ oAt owner (g i) = some i := ⟨fun i => Classical.choose (L.all i), fun i => Classical.choose_spec (L.all i)⟩
  have ⟨j, h1, h2⟩ := st_missing ((List.range k).map g) (m + 1) (by simp; omega)
  refine ⟨j, Nat.le_of_lt_succ h1, ?_⟩
  cases e : oAt owner j with
  | none => rfl
  | some i =>
    have hi := L.lt j i (Nat.le_of_lt_succ h1) e
    have e2 := L.inj j (g i) i (Nat.le_of_lt_succ h1) (hg i hi).1 e (hg i hi).2
    exact absurd (List.mem_map.mpr ⟨i, List.mem_range.mpr hi, e2.symm⟩) h2
theorem bits_small {h : Nat} (hh : h < 64) : SetTable.bits (h : Int) = h := by
  unfold SetTable.bits
  omega
theorem LayI.add {m k h : Nat} {owner : Array (Option Nat)} (hm : CopyMask m) (L : LayI m k owner) (hk : k ≤ m) (hh : h < 64) : ∃ owner', stepF m (some (owner, k)) (h : Int) = some (owner', k + 1) ∧ LayI m (k + 1) owner' := by
  obtain ⟨j, hj, ej⟩ := L.room hk
  have hb : (visB m (SetTable.turns m) (h % (m + 1)) h).testBit j = true := by
    rw [vis_all hm hh, Nat.testBit_two_pow_sub_one]
    exact decide_eq_true (Nat.lt_succ_of_le hj)
  obtain ⟨r, hr, er⟩ := free_vis ej _ _ _ hb
  have hrs : r < owner.size := by
    rcases Nat.lt_or_ge r owner.size with z | z
    · exact z
    · have : oAt owner r = some 0 := by
        show owner.getD r (some 0) = some 0
        simp [Array.getD, Nat.not_lt.mpr z]
      rw [this] at er
      cases er
  have hrm : r ≤ m := by
    have := L.sz
    omega
  have self := oAt_set_self (some k) hrs
  have other : ∀ {i : Nat}, i ≠ r → oAt (owner.setIfInBounds r (some k)) i = oAt owner i := fun h => oAt_set_ne _ h
  refine ⟨owner.setIfInBounds r (some k), stepF_some (by rw [bits_small hh]; exact hr), ⟨by rw [Array.size_setIfInBounds]; exact L.sz, fun x i hx e => ?_, fun i => ?_, fun x y i hx hy e1 e2 => ?_⟩⟩
  · by_cases c : x = r
    · rw [c, self] at e
      cases e
      exact Nat.lt_succ_self _
    · rw [other c] at e
      exact Nat.lt_succ_of_lt (L.lt x i hx e)
  · by_cases c : i = k
    · exact ⟨r, fun _ => ⟨hrm, by rw [self, c]⟩⟩
    · obtain ⟨x, hx⟩ := L.all i
      refine ⟨x, fun hi => ?_⟩
      have ⟨a1, a2⟩ := hx (by omega)
      exact ⟨a1, by rw [other (fun z => by rw [z, er] at a2; cases a2)]; exact a2⟩
  · have old : ∀ z, z ≤ m → z ≠ r → oAt (owner.setIfInBounds r (some k)) z = some i → oAt owner z = some i ∧ i < k := fun z hz c e => by
      rw [other c] at e
      exact ⟨e, L.lt z i hz e⟩
    have new : ∀ z, z = r → oAt (owner.setIfInBounds r (some k)) z = some i → i = k := fun z c e => by
      rw [c, self] at e
      exact (Option.some.inj e).symm
    by_cases cx : x = r <;> by_cases cy : y = r
    · rw [cx, cy]
    · have := new x cx e1
      have := (old y hy cy e2).2
      omega
    · have := new y cy e2
      have := (old x hx cx e1).2
      omega
    · exact L.inj x y i hx hy (old x hx cx e1).1 (old y hy cy e2).1
theorem LayI.run {m : Nat} (hm : CopyMask m) : ∀ (hs : List Int) (k : Nat) (owner : Array (Option Nat)), LayI m k owner → k + hs.length ≤ m + 1 → (∀ x ∈ hs, ∃ h : Nat, h < 64 ∧ x = (h : Int)) →
    ∃ owner', hs.foldl (stepF m) (some (owner, k)) = some (owner', k + hs.length) ∧ LayI m (k + hs.length) owner'
  | [], k, owner, L, _, _ => ⟨owner, rfl, L⟩
  | x :: hs, k, owner, L, hl, hx => by
    rw [List.length_cons] at hl
    obtain ⟨h, hh, rfl⟩ := hx x List.mem_cons_self
    obtain ⟨o1, e1, L1⟩ := L.add hm (by omega) hh
    obtain ⟨o2, e2, L2⟩ := LayI.run hm hs (k + 1) o1 L1 (by omega) fun y hy => hx y (List.mem_cons_of_mem _ hy)
    have en : k + (List.length ((h : Int) :: hs)) = k + 1 + hs.length := by rw [List.length_cons]; omega
    rw [en]
    exact ⟨o2, by rw [List.foldl_cons, e1]; exact e2, L2⟩
theorem LayI.perm {m n : Nat} {owner : Array (Option Nat)} (L : LayI m n owner) : ((liveOf m owner).map (·.2)).Perm (List.range n) := by
  refine (List.perm_ext_iff_of_nodup ?_ List.nodup_range).mpr fun i => ?_
  · have hp : (liveOf m owner).Pairwise fun a b => a.2 ≠ b.2 := by
      unfold liveOf
      rw [List.pairwise_filterMap]
      refine List.Pairwise.imp_of_mem ?_ (List.nodup_range (n := m + 1))
      intro a b ha hb hab x hx y hy z
      have ham := List.mem_range.mp ha
      have hbm := List.mem_range.mp hb
      obtain ⟨u, hu, rfl⟩ := Option.map_eq_some_iff.mp hx
      obtain ⟨v, hv, rfl⟩ := Option.map_eq_some_iff.mp hy
      rw [oAt_none (by rw [L.sz]; exact ham)] at hu
      rw [oAt_none (by rw [L.sz]; exact hbm)] at hv
      have z : u = v := z
      rw [z] at hu
      exact hab (L.inj a b v (Nat.le_of_lt_succ ham) (Nat.le_of_lt_succ hbm) hu hv)
    exact List.pairwise_map.mpr hp
  · rw [List.mem_range, List.mem_map]
    constructor
    · rintro ⟨⟨j, k⟩, hk, rfl⟩
      have := (mem_live L.sz).mp hk
      exact L.lt j k this.1 this.2
    · intro hi
      obtain ⟨j, hj⟩ := L.all i
      exact ⟨(j, i), (mem_live L.sz).mpr (hj hi), rfl⟩
theorem laid_few {m : Nat} (hm : CopyMask m) (fg mv : Nat) (ld pl : Bool) {hs : Array Int} (hn : hs.size ≤ m + 1) (hx : ∀ x ∈ hs.toList, ∃ h : Nat, h < 64 ∧ x = (h : Int)) :
    ∃ t' order, SetTable.laid m fg mv ld pl hs = some (t', order) ∧ order.toList.Perm (List.range hs.size) ∧ Ris t'.place.toList ∧ t'.place.size = hs.size ∧ t'.dummies = #[] ∧ t'.mask = m ∧ t'.led = ld := by
  obtain ⟨owner, e, L⟩ := LayI.run hm hs.toList 0 _ (LayI.zero m) (by rw [Nat.zero_add, Array.length_toList]; exact hn) hx
  rw [Nat.zero_add, Array.length_toList] at e L
  have hc : SetTable.layClean m hs = some owner := by
    rw [layClean_eq, e]
    rfl
  have hp := L.perm
  refine ⟨{ mask := m, place := ((liveOf m owner).map (·.1)).toArray, dummies := #[], finger := fg, led := ld, moves := mv, plain := pl }, ((liveOf m owner).map (·.2)).toArray, ?_, hp, ?_, ?_, rfl, rfl, rfl⟩
  · unfold SetTable.laid
    rw [hc]
    rfl
  · refine (ris_live (fun j => owner.getD j none) (List.range (m + 1)) ?_).1
    unfold Ris
    exact List.pairwise_lt_range
  · show ((liveOf m owner).map (·.1)).length = _
    rw [List.length_map, ← List.length_map (f := (·.2)), hp.length_eq, List.length_range]
/-- the entries, laid in another order -/
theorem relay_perm {α : Type} {es : Array α} {order : Array Nat} (hp : order.toList.Perm (List.range es.size)) : (order.filterMap (es[·]?)).toList.Perm es.toList := by
  rw [Array.toList_filterMap]
  have base : ∀ l : List α, (List.range l.length).filterMap (fun i => l[i]?) = l := fun l => by
    induction l with
    | nil => rfl
    | cons x l ih =>
      rw [List.length_cons, List.range_succ_eq_map, List.filterMap_cons]
      show x :: ((List.range l.length).map Nat.succ).filterMap (fun i => (x :: l)[i]?) = _
      rw [List.filterMap_map]
      exact congrArg (x :: ·) ih
  have z := hp.filterMap (fun i => es[i]?)
  have e : (List.range es.size).filterMap (fun i => es[i]?) = es.toList := by
    have := base es.toList
    rw [Array.length_toList] at this
    refine Eq.trans ?_ this
    exact congrArg (fun f => List.filterMap f _) (funext fun i => (Array.getElem?_toList).symm)
  rw [e] at z
  exact z
/-! ### a new set takes over the members of another one -/
/-- an empty set whose table is as good as new -/
structure Blank (w : World) (h : Heap) (a : Addr) (M : Nat) : Prop where
  at_ : ∃ o ep t, h.get? a = some o ∧ o.ExactSet ∧ o.data = .set #[] ep t ∧ t.place = #[] ∧ t.dummies = #[] ∧ t.mask = M ∧ t.led = !w.params.followText "set-order"
theorem blank_new {w : World} {h : Heap} {a : Addr} (e : h.get? a = some (set0 w)) : Blank w h a 7 := ⟨_, 0, _, e, ⟨rfl, rfl, rfl⟩, rfl, rfl, rfl, rfl, rfl⟩
theorem follow_or {w : World} {b : Bool} (h : w.params.followText "set-order" = true ∨ b = true) : w.params.followText "set-order" = true ∨ ((!w.params.followText "set-order") && b) = true := by
  cases e : w.params.followText "set-order" with
  | true => exact .inl rfl
  | false =>
    rw [e] at h
    rcases h with h | h
    · cases h
    · exact .inr (by rw [h]; rfl)
theorem size_copies : ((List.range 64).all fun n => n < 5 || [15, 31, 63, 127].any fun M => (SetTable.sizeAbove ((0 + n) * 2) == M + 1) && n ≤ M) = true := by decide +kernel
theorem size_copy {n : Nat} (h5 : 5 ≤ n) (h : n < 64) : ∃ M, CopyMask M ∧ SetTable.sizeAbove ((0 + n) * 2) = M + 1 ∧ n ≤ M := by
  have z := List.all_eq_true.mp size_copies n (List.mem_range.mpr h)
  rw [Bool.or_eq_true] at z
  rcases z with z | z
  · have := of_decide_eq_true z
    omega
  · obtain ⟨M, hM, e⟩ := List.any_eq_true.mp z
    rw [Bool.and_eq_true] at e
    refine ⟨M, ?_, beq_iff_eq.mp e.1, of_decide_eq_true e.2⟩
    simp at hM
    unfold CopyMask
    omega
theorem hash_small {k : Int} (h0 : 0 ≤ k) (h1 : k < 64) : hashInt k = k := by
  have key : ∀ j ∈ List.range 64, hashInt (j : Int) = (j : Int) := by decide +kernel
  have z := key k.toNat (List.mem_range.mpr (by omega))
  rw [Int.toNat_of_nonneg h0] at z
  exact z
section
variable {P : Program} {w : World} {A : Around} {E : Value → Shared → Prop} {s : Shared} {a b : Addr} {S : Int → Bool} {n M : Nat}
theorem Blank.room {Q : Unit → Shared → Prop} (B : Blank w s.heap a 7) (hn : n < 64) (hQ : ∀ h' M, CopyMask M → n ≤ M → Heap.SameBut a s.heap h' → Blank w h' a M → Q () { s with heap := h' }) : wpAny (model P w) A (setRoomFor a n) Q E s := by
  obtain ⟨o, ep, t, ho, hx, hd, hp, hdm, hm, hl⟩ := B.at_
  have hf : t.fits (#[] : Array (Int × Value)).size = true := by
    unfold SetTable.fits SetTable.fill
    rw [hp, hdm, hm]
    rfl
  have hfill : t.fill = 0 := by
    unfold SetTable.fill
    rw [hp, hdm]
    rfl
  unfold setRoomFor
  refine wpAny_bind (wpAny_setState_of ho hd hf ?_)
  dsimp only
  unfold SetTable.roomFor
  rw [hfill, hm, hp]
  by_cases c : (0 + n) * 5 ≥ 7 * 3
  · rw [if_pos c]
    dsimp only
    have ⟨M, hM, hsz, hnM⟩ := size_copy (n := n) (by omega) hn
    show wpAny _ _ (setRelay a ((0 + n) * 2)) _ _ _
    unfold setRelay
    refine wpAny_bind (wpAny_setState_of ho hd hf ?_)
    dsimp only
    rw [hsz]
    refine wp_if_neg (by rcases hM with rfl | rfl | rfl | rfl | rfl <;> decide) ?_
    obtain ⟨t', order, e, hpo, hr, hsz', hdm', hm', hl'⟩ := laid_few hM t.finger (t.movedTo M) t.led t.plain (hs := Array.map (fun x : Int × Value => x.1) #[]) (by simp) (fun x hx => by simp at hx)
    have er : t.relaid (Array.map (fun x : Int × Value => x.1) #[]) ((0 + n) * 2) = some (t', order) := by
      unfold SetTable.relaid
      rw [hsz]
      exact e
    have e0 : (Array.map (fun x : Int × Value => x.1) #[]).size = 0 := by simp
    rw [e0] at hpo hsz'
    have eo : order = #[] := by
      have z := hpo.length_eq
      rw [List.length_range] at z
      exact Array.eq_empty_of_size_eq_zero (by rw [← Array.length_toList, z])
    have e1 : order.filterMap ((#[] : Array (Int × Value))[·]?) = #[] := by
      rw [eo]
      simp
    have e2 : ¬ ((order.filterMap ((#[] : Array (Int × Value))[·]?)).size != (#[] : Array (Int × Value)).size) = true := by
      rw [e1]
      decide
    rw [er]
    refine wpAny_bind (wpAny_of_eq (a := (order.filterMap ((#[] : Array (Int × Value))[·]?), t')) (if_neg e2) ?_)
    rw [e1]
    dsimp only
    refine wpAny_storeSet_of ho hd (hQ _ M hM hnM (Heap.SameBut.update _ a _) ⟨_, ep + 1, t', store_at ho hd, hx, rfl, ?_, hdm', hm', by rw [hl', hl]⟩)
    exact Array.eq_empty_of_size_eq_zero hsz'
  · rw [if_neg c]
    exact wpAny_pure (hQ s.heap 7 (.inl rfl) (by omega) (Heap.SameBut.refl a s.heap) B)
theorem good_small {S : Int → Bool} {es : Array (Int × Value)} (g : ∀ e ∈ es.toList, GoodE e) (hm : ∀ k, S k = true ↔ k ∈ es.toList.map keyOf) (hS : ∀ k, S k = true → 0 ≤ k ∧ k < 64) : ∀ x ∈ (es.map (·.1)).toList, ∃ h : Nat, h < 64 ∧ x = (h : Int) := by
  intro x hx
  rw [Array.toList_map] at hx
  obtain ⟨e, he, rfl⟩ := List.mem_map.mp hx
  obtain ⟨k, tk, h1, h2⟩ := g e he
  have hk : keyOf e = k := by
    unfold keyOf
    rw [h1]
  have := hS k ((hm k).mpr (List.mem_map.mpr ⟨e, he, hk⟩))
  refine ⟨k.toNat, by omega, ?_⟩
  rw [h2, Int.toNat_of_nonneg this.1]
  exact hash_small this.1 this.2
theorem merge_new {each : Sem Unit} {Q : Unit → Shared → Prop} (B : Blank w s.heap a 7) (R : SetR w s.heap b S n) (hab : a ≠ b) (hn : n < 64) (hS : ∀ k, S k = true → 0 ≤ k ∧ k < 64)
    (hQ : ∀ h', Heap.SameBut a s.heap h' → SetR w h' a S n → Q () { s with heap := h' }) : wpAny (model P w) A (setMerge a b each) Q E s := by
  obtain ⟨o, es, ep, t, ho, hex, hd, g, nd, hm, hb, hf, hsz, hr, hl⟩ := R
  unfold setMerge
  refine wp_if_neg (by simpa using hab) ?_
  refine wpAny_bind (wpAny_setState_of ho hd hf ?_)
  dsimp only
  by_cases ce : es.isEmpty = true
  · refine wp_if_pos ce (wpAny_pure ?_)
    have e0 : es = #[] := Array.isEmpty_iff.mp ce
    subst e0
    obtain ⟨o1, ep1, t1, h1, h2, h3, h4, h5, h6, h7⟩ := B.at_
    refine hQ s.heap (Heap.SameBut.refl a s.heap) ⟨o1, #[], ep1, t1, h1, h2, h3, fun e he => by simp at he, by simp, hm, by decide, ?_, hsz, ?_, ?_⟩
    · unfold SetTable.fits SetTable.fill
      rw [h4, h5, h6]
      rfl
    · rw [h4]
      exact List.Pairwise.nil
    · rw [h7]
      cases w.params.followText "set-order"
      · exact .inr rfl
      · exact .inl rfl
  refine wp_if_neg ce ?_
  rw [hsz]
  refine wpAny_bind (B.room hn fun h1 M hM hnM sb B1 => ?_)
  obtain ⟨o1, ep1, t1, ho1, hx1, hd1, hp1, hdm1, hm1, hl1⟩ := B1.at_
  have hf1 : t1.fits (#[] : Array (Int × Value)).size = true := by
    unfold SetTable.fits SetTable.fill
    rw [hp1, hdm1]
    show (decide (_ = _) && decide (0 ≤ t1.mask)) = true
    simp
  have hfill : t1.fill = 0 := by
    unfold SetTable.fill
    rw [hp1, hdm1]
    rfl
  refine wpAny_bind (wpAny_setState_of ho1 hd1 hf1 ?_)
  dsimp only
  have hroad : t1.road t = if (t1.mask == t.mask && t.dummies.isEmpty) = true then .slotForSlot else .clean := by
    unfold SetTable.road
    rw [hfill]
    rfl
  rw [hroad]
  have hled := follow_or hl
  rw [← hl1] at hled
  have few : es.size ≤ sizeLine := fits_of_scanBound hb
  by_cases c : (t1.mask == t.mask && t.dummies.isEmpty) = true
  · rw [if_pos c]
    dsimp only
    have hq := hQ _ (sb.trans (Heap.SameBut.update _ a (Obj.putSet es { mask := t.mask, place := t.place, dummies := t.dummies, finger := t1.finger, led := t1.led && t.led, moves := t1.moves, plain := t1.plain && t.plain }))) ⟨_, es, ep1 + 1, _, store_at ho1 hd1, hx1, rfl, g, nd, hm, hb, hf, hsz, hr, hled⟩
    exact wpAny_storeSet_of ho1 hd1 hq few
  · rw [if_neg c]
    dsimp only
    obtain ⟨t', order, e, hpo, hr', hsz', hdm', hm', hl'⟩ := laid_few (m := t1.mask) (by rw [hm1]; exact hM) t1.finger t1.moves (t1.led && t.led) (t1.plain && t.plain) (hs := Array.map (fun x : Int × Value => x.1) es) (by rw [Array.size_map, hsz, hm1]; omega) (good_small g hm hS)
    rw [Array.size_map] at hpo hsz'
    have pm := relay_perm hpo
    obtain ⟨es', ees⟩ : ∃ es', es' = order.filterMap (es[·]?) := ⟨_, rfl⟩
    have e2 : ¬ ((order.filterMap (es[·]?)).size != es.size) = true := by
      have z := pm.length_eq
      rw [Array.length_toList, Array.length_toList] at z
      rw [z]
      simp
    rw [e]
    refine wpAny_bind (wpAny_of_eq (a := (order.filterMap (es[·]?), t')) (if_neg e2) ?_)
    rw [← ees] at pm ⊢
    have hs2 : es'.size = es.size := by
      have z := pm.length_eq
      rw [Array.length_toList, Array.length_toList] at z
      exact z
    dsimp only
    refine wpAny_storeSet_of ho1 hd1 (hQ _ (sb.trans (Heap.SameBut.update _ a _)) ⟨_, es', ep1 + 1, t', store_at ho1 hd1, hx1, rfl, fun x hx => g x (pm.mem_iff.mp hx), (pm.map keyOf).nodup_iff.mpr nd, fun k => (hm k).trans (pm.map keyOf).mem_iff.symm, by rw [hs2]; exact hb, ?_, by rw [hs2]; exact hsz, hr', ?_⟩) (by rw [hs2]; exact few)
    · unfold SetTable.fits SetTable.fill
      rw [hsz', hdm', hs2, hm', hm1, hsz]
      simp
      exact hnM
    · rw [hl']
      exact hled
end
/-! ### the entries of a set, in some order -/
/-- these are the entries -/
structure EntOf (S : Int → Bool) (l : List (Int × Value)) : Prop where
  good : ∀ e ∈ l, GoodE e
  nd : (l.map keyOf).Nodup
  mem : ∀ k, S k = true ↔ k ∈ l.map keyOf
theorem EntOf.perm {S : Int → Bool} {l l' : List (Int × Value)} (h : EntOf S l) (p : l'.Perm l) : EntOf S l' :=
  ⟨fun e he => h.good e (p.mem_iff.mp he), (p.map keyOf).nodup_iff.mpr h.nd, fun k => (h.mem k).trans (p.map keyOf).mem_iff.symm⟩
section
variable {P : Program} {w : World} {A : Around} {E : Value → Shared → Prop} {s : Shared} {a b : Addr} {S S2 : Int → Bool} {n n2 : Nat}
theorem quiet_sets {Q : Bool → Shared → Prop} (R : SetR w s.heap b S n) (Ra : SetR w s.heap a S2 n2) (h : Q true s) : wpAny (model P w) A (setsQuiet [b, a]) Q E s := by
  have hints : ∀ {c : Addr} {S : Int → Bool} {n : Nat}, SetR w s.heap c S n → ∃ es : Array (Int × Value), (∀ e ∈ es.toList, GoodE e) ∧ ∀ (A' : Around) (E' : Value → Shared → Prop) (Q' : Array (Int × Value) → Shared → Prop), Q' es s → wpAny (model P w) A' (setEntries c) Q' E' s := fun R => by
    obtain ⟨o, es, ep, t, ho, hex, hd, g, nd, hm, hb, hf, hsz, hr, hl⟩ := R
    refine ⟨es, g, fun A' E' Q' h => ?_⟩
    unfold setEntries
    exact wpAny_bind (wpAny_setState_of ho hd hf (wpAny_pure h))
  unfold setsQuiet
  dsimp only
  refine wpAny_bind (wpAny_forIn_list _ (fun l st s' => s' = s ∧ st = (none, ()) ∧ ∀ c ∈ l, c = b ∨ c = a) _ ?_ ?_ [b, a] _ ⟨rfl, rfl, fun c hc => by simpa using hc⟩)
  · rintro c rest st s1 ⟨rfl, rfl, hc⟩
    obtain ⟨es, g, hes⟩ : ∃ es : Array (Int × Value), (∀ e ∈ es.toList, GoodE e) ∧ ∀ (A' : Around) (E' : Value → Shared → Prop) (Q' : Array (Int × Value) → Shared → Prop), Q' es s1 → wpAny (model P w) A' (setEntries c) Q' E' s1 := by
      rcases hc c List.mem_cons_self with rfl | rfl
      · exact hints R
      · exact hints Ra
    refine wpAny_bind (hes _ _ _ ?_)
    rw [← Array.forIn_toList]
    refine wpAny_bind (wpAny_forIn_list _ (fun l st s' => s' = s1 ∧ st = (none, ()) ∧ ∀ e ∈ l, GoodE e) _ ?_ ?_ es.toList _ ⟨rfl, rfl, g⟩)
    · rintro ⟨hh, x⟩ rest2 st2 s2 ⟨rfl, rfl, hg⟩
      obtain ⟨k, tk, hx, _⟩ := hg _ List.mem_cons_self
      have hx : x = Value.int k tk := hx
      subst hx
      exact wpAny_pure ⟨rfl, rfl, fun e he => hg e (List.mem_cons_of_mem _ he)⟩
    · rintro st2 s2 ⟨rfl, rfl, _⟩
      exact wpAny_pure ⟨rfl, rfl, fun c2 h2 => hc c2 (List.mem_cons_of_mem _ h2)⟩
  · rintro st s1 ⟨rfl, rfl, _⟩
    exact wpAny_pure h
theorem walk_unseen {Q : Array (Int × Value) → Shared → Prop} (R : SetR w s.heap b S n) (Ra : SetR w s.heap a S2 n2) (hab : a ≠ b)
    (hQ : ∀ (arr : Array (Int × Value)) h' d, Heap.SameBut a s.heap h' → SetR w h' a S2 n2 → EntOf S arr.toList → arr.size = n → Q arr { s with heap := h', drawn := d }) : wpAny (model P w) A (setWalkUnseen b [a] (some a)) Q E s := by
  obtain ⟨o, es, ep, t, ho, hex, hd, g, nd, hm, hb, hf, hsz, hr, hl⟩ := id R
  have ent : EntOf S es.toList := ⟨g, nd, hm⟩
  have fin : ∀ (arr : Array (Int × Value)) d, arr.toList.Perm es.toList → Q arr { s with drawn := d } := fun arr d p => hQ arr s.heap d (Heap.SameBut.refl a s.heap) Ra (ent.perm p) (by
    have := p.length_eq
    rw [Array.length_toList, Array.length_toList] at this
    omega)
  have walk : ∀ (A' : Around) (E' : Value → Shared → Prop), wpAny (model P w) A' (setWalk b) Q E' s := fun A' E' => by
    unfold setWalk
    refine wpAny_bind (wpAny_setState_of ho hd hf ?_)
    dsimp only
    refine wpAny_bind (wpAny_byText ?_)
    by_cases c : w.params.followText "set-order" = true
    · refine wp_if_pos c (wpAny_bind (wpAny_askSetting (wpAny_pure ?_)))
      exact fin _ s.drawn (pick_perm _ es)
    · refine wp_if_neg c ?_
      have led : t.led = true := hl.resolve_left c
      split
      · exact wpAny_bind (drawOrder_at _ _ _ _ (Nat.le_of_eq Array.length_toList) fun ys d p => wpAny_pure (fin ys.toArray d p))
      · refine wpAny_bind (wpAny_of_eq (a := ()) (if_neg (c := (!t.led && decide (es.size > 1)) = true) (by rw [led]; exact Bool.false_ne_true)) ?_)
        exact wpAny_pure (fin es s.drawn (List.Perm.refl _))
  unfold setWalkUnseen
  refine wpAny_bind (wpAny_setState_of ho hd hf ?_)
  dsimp only
  refine wpAny_bind (wpAny_byText ?_)
  split
  · exact walk A E
  refine wpAny_bind (quiet_sets R Ra ?_)
  refine wp_if_neg (by decide) ?_
  refine wpAny_bind (wpAny_rule ?_)
  obtain ⟨o2, es2, ep2, t2, ho2, hex2, hd2, g2, nd2, hm2, hb2, hf2, hsz2, hr2, hl2⟩ := id Ra
  refine wpAny_bind (wpAny_setState_of ho2 hd2 hf2 ?_)
  dsimp only
  split
  · have hled : w.params.followText "set-order" = true ∨ (t2.led && t.led) = true := by
      rcases hl with z | z
      · exact .inl z
      · rcases hl2 with y | y
        · exact .inl y
        · exact .inr (by rw [z, y]; rfl)
    have hq := hQ es _ s.drawn (Heap.SameBut.update s.heap a (Obj.putSet es2 { mask := t2.mask, place := t2.place, dummies := t2.dummies, finger := t2.finger, led := t2.led && t.led, moves := t2.moves, plain := t2.plain && t.plain })) ⟨_, es2, ep2 + 1, _, store_at ho2 hd2, hex2, rfl, g2, nd2, hm2, hb2, hf2, hsz2, hr2, hled⟩ ent hsz
    exact wpAny_bind (wpAny_storeSet_of ho2 hd2 (wpAny_pure hq) (fits_of_scanBound hb2))
  · exact wpAny_pure (fin es s.drawn (List.Perm.refl _))
end
section
variable {P : Program} {w : World} {A : Around} {E : Value → Shared → Prop} {s : Shared} {a b : Addr} {S S2 : Int → Bool} {n n2 : Nat}
theorem erase_list {α : Type} (xs : Array α) (i : Nat) : (SetTable.eraseAt xs i).toList = xs.toList.eraseIdx i := by
  unfold SetTable.eraseAt
  rw [List.eraseIdx_eq_take_drop_succ]
  simp [Array.toList_extract]
  exact List.take_of_length_le (by simp)
theorem ris_erase {xs : Array Nat} (r : Ris xs.toList) (i : Nat) : Ris (SetTable.eraseAt xs i).toList := by
  rw [erase_list]
  exact List.Pairwise.sublist (List.eraseIdx_sublist _ _) r
theorem erase_size {α : Type} (xs : Array α) {i : Nat} (h : i < xs.size) : (SetTable.eraseAt xs i).size = xs.size - 1 := by
  rw [← Array.length_toList, erase_list, List.length_eraseIdx_of_lt (by rw [Array.length_toList]; exact h), Array.length_toList]
/-- one member is dropped, where it is one -/
theorem discard_one {k : Int} {tk : Tok} {Q : Bool → Shared → Prop} (R : SetR w s.heap a S n)
    (hQ : ∀ h', Heap.SameBut a s.heap h' → SetR w h' a (fun j => S j && !decide (j = k)) (if S k = true then n - 1 else n) → Q (S k) { s with heap := h' }) : wpAny (model P w) A (setDiscardHashed a (.int k tk) (hashInt k)) Q E s := by
  obtain ⟨o, es, ep, t, ho, hex, hd, g, nd, hm, hb, hf, hsz, hr, hl⟩ := id R
  have hkey : (intKind P w).is k (.int k tk) = true := intKind_is P w k tk
  have hel : ElemsOf (intKind P w) es.toList := good_elems g
  have hsc : (Value.int k tk).scannable = true := rfl
  unfold setDiscardHashed setFind
  refine wpAny_bind ?_
  rw [show (100000 : Nat) = 99999 + 1 from rfl]
  unfold setFindIn
  refine wpAny_bind (wpAny_setState_of ho hd hf ?_)
  dsimp only
  refine wp_if_pos (byScan_of hsc hb hel) (wpAny_bind (wpAny_rule (wpAny_bind (wpAny_setScan_of (knd := intKind P w) hkey ho hd hf hel ?_))))
  cases hfi : es.toList.findIdx? fun e => (intKind P w).is k e.2 with
  | none =>
    refine wpAny_pure (wpAny_pure ?_)
    have no : S k = false := by
      cases e : S k with
      | false => rfl
      | true =>
        obtain ⟨x, hx, q⟩ := (good_mem (P := P) (w := w) g k).mp ((hm k).mp e)
        rw [List.findIdx?_eq_none_iff.mp hfi x hx] at q
        cases q
    have z := hQ s.heap (Heap.SameBut.refl a s.heap) (by
      rw [no, if_neg Bool.false_ne_true]
      refine R.congr fun j => ?_
      by_cases c : j = k
      · rw [c, no]
        rfl
      · simp [c])
    rw [no] at z
    exact z
  | some j =>
    obtain ⟨hj, pj, _⟩ := List.findIdx?_eq_some_iff_getElem.mp hfi
    have kj : keyOf es.toList[j] = k := (good_is (g _ (List.getElem_mem hj)) k).mp pj
    have yes : S k = true := (hm k).mpr (List.mem_map.mpr ⟨_, List.getElem_mem hj, kj⟩)
    have hje : j < es.size := by rw [← Array.length_toList]; exact hj
    dsimp only
    rw [Nat.zero_add]
    refine wpAny_pure ?_
    dsimp only
    refine wpAny_bind (wpAny_setState_of ho hd hf ?_)
    dsimp only
    -- the table
    unfold SetTable.fits at hf
    rw [Bool.and_eq_true] at hf
    have hps : t.place.size = es.size := beq_iff_eq.mp hf.1
    have hfl : t.fill ≤ t.mask := of_decide_eq_true hf.2
    have hjp : j < t.place.size := by rw [hps]; exact hje
    have hdrop : t.drop j = { t with place := SetTable.eraseAt t.place j, dummies := SetTable.insertAt t.dummies (SetTable.below t.dummies t.place[j]) t.place[j] } := by
      unfold SetTable.drop
      rw [Array.getElem?_eq_getElem hjp]
    have hins : (SetTable.insertAt t.dummies (SetTable.below t.dummies t.place[j]) t.place[j]).size ≤ t.dummies.size + 1 := by
      unfold SetTable.insertAt
      simp
      omega
    have pe := erase_perm es.toList j _ (List.getElem?_eq_getElem hj)
    have pk := pe.map keyOf
    rw [List.map_cons, kj] at pk
    have nd2 := pk.nodup_iff.mpr nd
    rw [List.nodup_cons] at nd2
    have ez : (SetTable.eraseAt es j).size = n - 1 := by rw [erase_size es hje, hsz]
    refine wpAny_bind (wpAny_storeSet_of ho hd (wpAny_bind (wpAny_point (wpAny_pure ?_))) (by rw [ez]; exact Nat.le_trans (by omega) (fits_of_scanBound hb)))
    have z := hQ _ (Heap.SameBut.update s.heap a (Obj.putSet (SetTable.eraseAt es j) (t.drop j))) ⟨_, SetTable.eraseAt es j, ep + 1, t.drop j, store_at ho hd, hex, rfl, fun e he => ?_, ?_, fun i => ?_, by rw [ez]; omega, ?_, by rw [yes, if_pos rfl, ez], ?_, ?_⟩
    · rw [yes] at z
      exact z
    · rw [erase_list] at he
      exact g e (List.mem_of_mem_eraseIdx he)
    · rw [erase_list]
      exact nd2.2
    · rw [erase_list, Bool.and_eq_true, hm i, Bool.not_eq_true', decide_eq_false_iff_not, ← pk.mem_iff, List.mem_cons]
      constructor
      · rintro ⟨h1 | h1, h2⟩
        · exact absurd h1 h2
        · exact h1
      · exact fun h1 => ⟨.inr h1, fun z => nd2.1 (by rw [← z]; exact h1)⟩
    · rw [hdrop]
      unfold SetTable.fits SetTable.fill
      rw [Bool.and_eq_true]
      refine ⟨beq_iff_eq.mpr ?_, decide_eq_true ?_⟩
      · show (SetTable.eraseAt t.place j).size = _
        rw [erase_size _ hjp, erase_size _ hje, hps]
      · show (SetTable.eraseAt t.place j).size + _ ≤ t.mask
        rw [erase_size _ hjp]
        unfold SetTable.fill at hfl
        refine Nat.le_trans (Nat.add_le_add_left hins _) ?_
        omega
    · rw [hdrop]
      exact ris_erase hr j
    · rw [hdrop]
      exact hl
end
/-! ### the members of one of two sets alone: a ^ b -/
section
variable {P : Program} {w : World} {A : Around} {E : Value → Shared → Prop} {s : Shared} {a b : Addr} {S S2 : Int → Bool} {n n2 : Nat}
/-- each member of l turned about -/
def flipS (S : Int → Bool) (l : List Int) : Int → Bool := fun j => S j != decide (j ∈ l)
theorem any_set {Q : Bool → Shared → Prop} (hT : s.TypeIs (.ref b) "set") (h : Q true s) : wpAny (model P w) A (Builtin.Frozenset.isAnySet (.ref b)) Q E s := by
  unfold Builtin.Frozenset.isAnySet
  refine wpAny_bind (wpAny_isInstance hT F.sub_set_set ?_)
  exact wpAny_pure h
theorem flip_add {S : Int → Bool} {l : List Int} {k : Int} (hk : k ∉ l) (j : Int) : flipS S (l ++ [k]) j = (if j = k then !(flipS S l k) else flipS S l j) := by
  unfold flipS
  by_cases c : j = k
  · subst c
    rw [if_pos rfl, decide_eq_true (List.mem_append_right _ (List.mem_singleton.mpr rfl)), decide_eq_false hk]
    cases S j <;> rfl
  · rw [if_neg c]
    congr 2
    simp [c]
theorem xor_update {id : String} {Q : Unit → Shared → Prop} (R : SetR w s.heap b S n) (Ra : SetR w s.heap a S2 n2) (hab : a ≠ b) (hn : n + n2 + 1 < scanBound)
    (hQ : ∀ h' d tk m, Heap.SameBut a s.heap h' → SetR w h' a (fun j => S2 j != S j) m → m ≤ n + n2 → Q () { s with heap := h', drawn := d, toks := tk }) : wpAny (model P w) A (Builtin.Frozenset.symmetricDifferenceUpdate id a (.ref b)) Q E s := by
  have hT : s.TypeIs (.ref b) "set" := by
    obtain ⟨o, es, ep, t, ho, hex, _⟩ := R
    exact ⟨o, ho, hex.1⟩
  unfold Builtin.Frozenset.symmetricDifferenceUpdate
  refine wp_if_neg (by simpa using Ne.symm hab) ?_
  dsimp only
  refine wpAny_bind (wpAny_typeOf hT ?_)
  refine wp_if_neg (by decide) ?_
  refine wpAny_bind (any_set hT ?_)
  refine wp_if_pos rfl ?_
  refine wpAny_bind (wpAny_pure ?_)
  refine wpAny_bind (wpAny_pure ?_)
  have Rb := R
  obtain ⟨o, es, ep, t, ho, hex, hd, g, nd, hm, hb, hf, hsz, hr, hl⟩ := Rb
  have epoch : ∀ (s' : Shared) (A' : Around) (E' : Value → Shared → Prop) (Q' : Nat → Shared → Prop), Heap.SameBut a s.heap s'.heap → Q' ep s' → wpAny (model P w) A' (setEpoch b) Q' E' s' := fun s' A' E' Q' sb h => by
    unfold setEpoch
    exact wpAny_bind (wpAny_setState_of ((sb.2 b (Ne.symm hab)).trans ho) hd hf (wpAny_pure h))
  refine wpAny_bind (epoch s A E _ (Heap.SameBut.refl a s.heap) ?_)
  refine wpAny_holding (wpAny_bind (walk_unseen R Ra hab fun arr h1 d1 sb1 R1 ent hsz1 => ?_))
  rw [← Array.forIn_toList]
  refine wpAny_bind (wpAny_forIn_list _ (fun rest _ s' => ∃ done h' m, arr.toList = done ++ rest ∧ s' = { s with heap := h', drawn := d1 } ∧ Heap.SameBut a s.heap h' ∧ SetR w h' a (flipS S2 (done.map keyOf)) m ∧ m ≤ n2 + done.length) _ ?_ ?_ arr.toList _ ⟨[], h1, n2, rfl, rfl, sb1, R1.congr fun j => ?_, Nat.le_refl _⟩)
  · rintro ⟨hx, v⟩ rest u s' ⟨done, h', m, e, rfl, sb, Rx, hmx⟩
    obtain ⟨k, tk, hv, hh⟩ := ent.good (hx, v) (by rw [e]; simp)
    have hv : v = .int k tk := hv
    have hh : hx = hashInt k := hh
    subst hv hh
    have ekey : keyOf (hashInt k, Value.int k tk) = k := rfl
    have hk : k ∉ done.map keyOf := fun z => by
      have := ent.nd
      rw [e, List.map_append, List.map_cons, ekey] at this
      have y := (List.nodup_append.mp this).2.2 k z k (by simp)
      exact y rfl
    have hdl : done.length + 1 ≤ n := by
      have := congrArg List.length e
      rw [Array.length_toList, hsz1, List.length_append, List.length_cons] at this
      omega
    have unch : ∀ (h4 : Heap) (Q' : Unit → Shared → Prop), Heap.SameBut a s.heap h4 → Q' () { s with heap := h4, drawn := d1 } → wpAny (model P w) A (Builtin.Frozenset.unchanged id b ep) Q' E { s with heap := h4, drawn := d1 } := fun h4 Q' sb4 h => by
      unfold Builtin.Frozenset.unchanged
      refine wpAny_bind (epoch { s with heap := h4, drawn := d1 } _ _ _ sb4 ?_)
      exact wp_if_neg (by simp) (wpAny_pure h)
    have next : ∀ h4 m4, Heap.SameBut a s.heap h4 → SetR w h4 a (fun j => if j = k then !(flipS S2 (done.map keyOf) k) else flipS S2 (done.map keyOf) j) m4 → m4 ≤ m + 1 →
        ∃ done h' m, arr.toList = done ++ rest ∧ ({ s with heap := h4, drawn := d1 } : Shared) = { s with heap := h', drawn := d1 } ∧ Heap.SameBut a s.heap h' ∧ SetR w h' a (flipS S2 (done.map keyOf)) m ∧ m ≤ n2 + done.length := fun h4 m4 sb4 R4 hm4 => by
      refine ⟨done ++ [(hashInt k, Value.int k tk)], h4, m4, by rw [e]; simp, rfl, sb4, R4.congr fun j => ?_, by rw [List.length_append]; show m4 ≤ n2 + (done.length + 1); omega⟩
      rw [List.map_append]
      exact flip_add hk j
    refine wpAny_bind (wpAny_holding (wpAny_bind (discard_one (s := { s with heap := h', drawn := d1 }) Rx fun h2 sb2 R2 => ?_)))
    cases hc : flipS S2 (done.map keyOf) k with
    | true =>
      rw [hc, if_pos rfl] at R2
      refine wp_if_neg (by decide) (wpAny_pure (wpAny_bind (unch h2 _ (sb.trans sb2) (wpAny_pure (next h2 _ (sb.trans sb2) (R2.congr fun j => ?_) (by omega))))))
      by_cases c : j = k
      · rw [if_pos c, c, hc, decide_eq_true rfl]
        rfl
      · rw [if_neg c, decide_eq_false c]
        simp
    | false =>
      rw [hc, if_neg Bool.false_ne_true] at R2
      refine wp_if_pos rfl (wpAny_bind (setR_add_hashed (s := { s with heap := h2, drawn := d1 }) (k := k) (tk := tk) R2 (by omega) fun h3 sb3 R3 => wpAny_pure (wpAny_bind (unch h3 _ ((sb.trans sb2).trans sb3) (wpAny_pure (next h3 _ ((sb.trans sb2).trans sb3) (R3.congr fun j => ?_) ?_))))))
      · by_cases c : j = k
        · rw [if_pos c, c, hc, decide_eq_true rfl]
          simp
        · rw [if_neg c, decide_eq_false c]
          simp
      · split <;> omega
  · rintro u s' ⟨done, h', m, e, rfl, sb, Rx, hmx⟩
    rw [List.append_nil] at e
    refine wpAny_pure (hQ h' d1 s.toks m sb (Rx.congr fun j => ?_) ?_)
    · unfold flipS
      rw [← e]
      congr 1
      cases c : S j with
      | true => exact (decide_eq_true ((ent.mem j).mp c)).symm
      | false => exact (decide_eq_false fun z => by rw [(ent.mem j).mpr z] at c; cases c).symm
    · rw [← e, Array.length_toList, hsz1] at hmx
      omega
  · unfold flipS
    simp
end
theorem entry_set_xor : entryFor table "set.__xor__" = some Builtin.«frozenset.__xor__» := entryFor_alias (id' := "frozenset.__xor__") (by kernel_rfl) rfl (by decide +kernel) (by kernel_rfl)
section
variable {P : Program} {w : World} {A : Around} {E : Value → Shared → Prop} {s : Shared} {a b : Addr} {S S2 : Int → Bool} {n n2 : Nat}
theorem setR_type (R : SetR w s.heap b S n) : s.TypeIs (.ref b) "set" := by
  obtain ⟨o, es, ep, t, ho, hex, _⟩ := R
  exact ⟨o, ho, hex.1⟩
/-- a new set of the members of another one -/
theorem new_from {id : String} {Q : Value → Shared → Prop} (R : SetR w s.heap b S n) (hn : n < 64) (hS : ∀ k, S k = true → 0 ≤ k ∧ k < 64)
    (hQ : ∀ h', h'.objs.size = s.heap.objs.size + 1 → (∀ c o, s.heap.get? c = some o → h'.get? c = some o) → SetR w h' s.heap.objs.size S n → Q (.ref s.heap.objs.size) { s with heap := h' }) : wpAny (model P w) A (Builtin.Frozenset.newFrom id (.type "set") (.ref b)) Q E s := by
  unfold Builtin.Frozenset.newFrom newSet
  refine wpAny_bind (wpAny_bind (wpAny_byText ?_))
  dsimp only
  simp only [newObj]
  refine wpAny_bind (wpAny_alloc (wpAny_pure ?_))
  have here : (s.heap.push (set0 w)).get? s.heap.objs.size = some (set0 w) := Heap.get?_push_size _ rfl
  have old : ∀ c o, s.heap.get? c = some o → (s.heap.push (set0 w)).get? c = some o := fun c o h => Heap.get?_push_of_some _ h
  have Rn : SetR w (s.heap.push (set0 w)) b S n := R.at fun o h => old _ _ h
  have nb : s.heap.objs.size ≠ b := Nat.ne_of_gt R.lt
  refine wpAny_bind (wpAny_pure ?_)
  refine wpAny_bind (wpAny_holding ?_)
  unfold Builtin.Frozenset.updateFrom
  refine wpAny_bind (any_set (s := { s with heap := s.heap.push (set0 w) }) (setR_type (s := { s with heap := s.heap.push (set0 w) }) Rn) ?_)
  refine wp_if_pos rfl ?_
  refine wpAny_bind (wpAny_pure ?_)
  unfold Builtin.Frozenset.merge
  have Rc := Rn
  obtain ⟨o, es, ep, t, ho, hex, hd, g, nd, hm, hb, hf, hsz, hr, hl⟩ := Rc
  refine wpAny_bind ?_
  unfold setEpoch
  refine wpAny_bind (wpAny_setState_of (s := { s with heap := s.heap.push (set0 w) }) ho hd hf (wpAny_pure ?_))
  refine merge_new (s := { s with heap := s.heap.push (set0 w) }) (blank_new here) Rn nb hn hS fun h' sb R' => ?_
  refine wpAny_pure (hQ h' ?_ (fun c o e => ?_) R')
  · rw [sb.1, Heap.size_push]
  · rw [sb.2 c (Nat.ne_of_lt (Heap.lt_size e))]
    exact old _ _ e
theorem xor_sets {Q : Value → Shared → Prop} (R : SetR w s.heap b S n) (R2 : SetR w s.heap a S2 n2) (hn : n < 64) (hn2 : n2 < 64) (hS : ∀ k, S2 k = true → 0 ≤ k ∧ k < 64)
    (hQ : ∀ h' d tk m, (∀ c o, s.heap.get? c = some o → h'.get? c = some o) → SetR w h' s.heap.objs.size (fun j => S2 j != S j) m → m ≤ n + n2 → Q (.ref s.heap.objs.size) { s with heap := h', drawn := d, toks := tk }) :
    wpAny (model P w) A (binaryOp .BitXor (.ref b) (.ref a)) Q E s := by
  refine wpAny_binaryOp_same (setR_type R) (setR_type R2) F.fills_set_xor F.slot_set_xor (wpAny_call_entry F.slot_set_xor (setR_type R) entry_set_xor ?_ (F.args_set_xor_2 _ _))
  unfold Builtin.«frozenset.__xor__»
  refine wpAny_bind (wpAny_of_eq (a := (.ref b, .ref a)) rfl ?_)
  dsimp only
  simp only [Bool.false_eq_true, if_false]
  refine wpAny_bind (wpAny_bind (any_set (setR_type R) ?_))
  show wpAny _ _ (Builtin.Frozenset.isAnySet (.ref a)) _ _ _
  refine any_set (setR_type R2) ?_
  refine wp_if_neg (by decide) ?_
  refine wpAny_bind (wpAny_pure ?_)
  refine wpAny_bind (wpAny_bind ?_)
  unfold Builtin.Frozenset.baseOf
  refine wpAny_bind (wpAny_isInstance (setR_type R) F.sub_set_set (wpAny_pure ?_))
  simp only [if_true]
  refine wpAny_bind (new_from R2 hn2 hS fun h1 hsz1 old1 R1 => ?_)
  have nb : s.heap.objs.size ≠ b := Nat.ne_of_gt R.lt
  have Rb : SetR w h1 b S n := R.at fun o h => old1 _ _ h
  refine wpAny_bind (wpAny_pure ?_)
  refine wpAny_bind (wpAny_holding (xor_update (s := { s with heap := h1 }) Rb R1 nb (by unfold scanBound; omega) fun h2 d tk m sb2 R' hm => wpAny_pure ?_))
  refine wpAny_pure ⟨_, rfl, fun z => (nomatch z), hQ h2 d tk m (fun c o e => ?_) R' hm⟩
  rw [sb2.2 c (Nat.ne_of_lt (Heap.lt_size e))]
  exact old1 _ _ e
end
/-- a set of numbers below B has B members at most -/
theorem setR_few {w : World} {h : Heap} {a : Addr} {S : Int → Bool} {n B : Nat} (R : SetR w h a S n) (hS : ∀ k, S k = true → 0 ≤ k ∧ k < (B : Nat)) : n ≤ B := by
  obtain ⟨o, es, ep, t, ho, hex, hd, g, nd, hm, hb, hf, hsz, hr, hl⟩ := R
  have hk : ∀ k ∈ es.toList.map keyOf, 0 ≤ k ∧ k < (B : Nat) := fun k hk => hS k ((hm k).mpr hk)
  have nd2 : ((es.toList.map keyOf).map Int.toNat).Nodup := by
    refine List.pairwise_map.mpr (List.Pairwise.imp_of_mem ?_ nd)
    intro x y hx hy hne z
    have := hk x hx
    have := hk y hy
    exact hne (by omega)
  have z := nat_nodup_len _ (List.range B) nd2 fun x hx => by
    obtain ⟨k, hk', rfl⟩ := List.mem_map.mp hx
    have := hk k hk'
    exact List.mem_range.mpr (by omega)
  simpa [hsz] using z
def rXorSet (w : World) : R2 := fun x y H Q => ∃ (a b : Addr) (S S2 : Int → Bool) (n n2 B : Nat), x = .ref a ∧ y = .ref b ∧ H a = some (SetO w a S n) ∧ H b = some (SetO w b S2 n2) ∧ B < 64 ∧ (∀ k, S k = true → 0 ≤ k ∧ k < (B : Nat)) ∧ (∀ k, S2 k = true → 0 ≤ k ∧ k < (B : Nat)) ∧
  ∀ p m, H p = none → m ≤ B → Q (.ref p) (upd H p (SetO w p (fun j => S2 j != S j) m))
section
variable {X : Cx}
/-- x ^ y, sets of small numbers -/
theorem op_xorSet : OpR X (binaryOp .BitXor) (rXorSet X.w) := by
  intro pins s σ H x y v u Q I rx ry h
  obtain ⟨a, b, S, S2, n, n2, B, rfl, rfl, ha, hb, hB, hS, hS2, q⟩ := h
  cases rx
  cases ry
  have hn := setR_few (setO_get I ha) hS
  have hn2 := setR_few (setO_get I hb) hS2
  refine xor_sets (setO_get I ha) (setO_get I hb) (by omega) (by omega) (fun k hk => by have := hS2 k hk; omega) fun h' d tk m old R _ => ?_
  have le : m ≤ B := setR_few R fun k hk => by
    cases e : S k with
    | true => exact hS k e
    | false =>
      rw [e] at hk
      exact hS2 k (by simpa using hk)
  have fresh := I.hok.fresh (Nat.le_refl s.heap.objs.size)
  have J : Inv X pins σ (upd H s.heap.objs.size (SetO X.w s.heap.objs.size (fun j => S2 j != S j) m)) { s with heap := h', gens := s.gens, drawn := d, toks := tk } :=
    I.call (ch := []) (Un.laid old (Nat.le_refl _) fresh) (I.hok.laid old (Nat.le_refl _) (setO_new R)) I.bare (fun _ z => nomatch z)
  exact ⟨.ref _, _, J, rfl, q _ m fresh le⟩
end
/-! ### words of levels, sides -/
def lvV (b : Bool) : V := if b then .str "stack" else .str "queue"
def sdV (b : Bool) : V := if b then .str "front" else .str "back"
theorem lv_ne : ¬ (V.str "queue" = V.str "stack") := by decide
theorem lv_dec (b : Bool) : decide (lvV b = .str "stack") = b := by
  cases b
  · exact decide_eq_false lv_ne
  · exact decide_eq_true rfl
def wordAt (ws : List Bool) (k : Nat) : Bool := ws.getD (min k (ws.length - 1)) false
theorem word_get {ws : List Bool} (h : ws ≠ []) (k : Nat) : (ws.map lvV)[min k (ws.length - 1)]? = some (lvV (wordAt ws k)) := by
  have hl : min k (ws.length - 1) < ws.length := by
    have : 0 < ws.length := List.length_pos_iff.mpr h
    omega
  rw [List.getElem?_map, List.getElem?_eq_getElem hl]
  unfold wordAt
  rw [List.getD_eq_getElem?_getD, List.getElem?_eq_getElem hl]
  rfl
/-- whether an odd number of the rows, at levels from lo on, have the word stack -/
def frontOf (ws : List Bool) (lo : Nat) (rs : List Row3) : Bool := decide (rs.countP (fun r => decide (lo ≤ r.1) && wordAt ws r.1) % 2 = 1)
theorem odd_succ (c : Nat) : decide ((c + 1) % 2 = 1) = !decide (c % 2 = 1) := by
  by_cases h : c % 2 = 1
  · rw [decide_eq_true h, decide_eq_false (by omega)]
    rfl
  · rw [decide_eq_false h, decide_eq_true (by omega)]
    rfl
theorem front_snoc (ws : List Bool) (lo : Nat) (rs : List Row3) (r : Row3) : frontOf ws lo (rs ++ [r]) = if (decide (lo ≤ r.1) && wordAt ws r.1) = true then !frontOf ws lo rs else frontOf ws lo rs := by
  unfold frontOf
  rw [List.countP_append, List.countP_singleton]
  split
  · exact odd_succ _
  · rw [Nat.add_zero]
/-! ### sides by counting digits: the mathematics -/
/-- of the indexes below j, how many have a digit other than 0 of d and the word stack -/
def cntW (ws : List Bool) (b d : Nat) : Nat → Nat
  | 0 => 0
  | k + 1 => cntW ws b d k + if d / b ^ k % b ≠ 0 ∧ wordAt ws k = true then 1 else 0
theorem tail_cnt (ws : List Bool) (b d : Nat) : ∀ k, (tailOf b d k).countP (fun r => decide (0 ≤ r.1) && wordAt ws r.1) = cntW ws b d k
  | 0 => rfl
  | k + 1 => by
    have ih := tail_cnt ws b d k
    unfold tailOf cntW
    by_cases h : d / b ^ k % b ≠ 0
    · rw [if_pos h, List.countP_cons, ih, decide_eq_true (Nat.zero_le _), Bool.true_and]
      cases hw : wordAt ws k with
      | true => rw [if_pos rfl, if_pos (show d / b ^ k % b ≠ 0 ∧ true = true from ⟨h, rfl⟩)]
      | false => rw [if_neg (by simp), if_neg (by simp)]
    · rw [if_neg h, ih, if_neg (fun z => h z.1), Nat.add_zero]
theorem front_cnt {ws : List Bool} {b n d k : Nat} (h : IsLev b n d k) (hnd : n < d) : frontOf ws 0 (rowsOf b n d k) = decide (cntW ws b d (k + 1) % 2 = 1) := by
  have hd := h.digit hnd
  have h0 : d / b ^ k % b ≠ 0 := by omega
  unfold frontOf
  have e : (rowsOf b n d k).countP (fun r => decide (0 ≤ r.1) && wordAt ws r.1) = cntW ws b d (k + 1) := by
    unfold rowsOf cntW
    rw [List.countP_cons, tail_cnt, decide_eq_true (Nat.zero_le _), Bool.true_and]
    cases hw : wordAt ws k with
    | true => rw [if_pos rfl, if_pos (show d / b ^ k % b ≠ 0 ∧ true = true from ⟨h0, rfl⟩)]
    | false => rw [if_neg (by simp), if_neg (by simp)]
  rw [e]
/-- which of two periodic timers goes ahead, where both fire again -/
def IsAhead (b : Nat) (ws : List Bool) (p1 p2 d : Nat) (v : Bool) : Prop :=
  (p1 < p2 → ∀ k, IsLev b (d - p1) d k → v = frontOf ws 0 (rowsOf b (d - p1) d k)) ∧ (¬ p1 < p2 → ∀ k, IsLev b (d - p2) d k → v = !frontOf ws 0 (rowsOf b (d - p2) d k))
/-! ### levels compared -/
theorem lev_le {b n d k : Nat} (h : IsLev b n d k) (hnd : n < d) {j : Nat} (hj : j ≤ k) : n / b ^ j < d / b ^ j := by
  have h2 : n / b ^ j ≤ d / b ^ j := Nat.div_le_div_right (Nat.le_of_lt hnd)
  rcases Nat.eq_or_lt_of_le h2 with e | l
  · cases j with
    | zero =>
      rw [Nat.pow_zero, Nat.div_one, Nat.div_one] at e
      omega
    | succ i => exact absurd e (h.2 i (by omega))
  · exact l
theorem lev_gt {b n d k : Nat} (h : IsLev b n d k) {j : Nat} (hj : k < j) : n / b ^ j = d / b ^ j := by
  have e : j = (k + 1) + (j - (k + 1)) := by omega
  rw [e, Nat.pow_add, ← Nat.div_div_eq_div_mul, ← Nat.div_div_eq_div_mul, h.1]
theorem lev_any {b n d : Nat} (hb : 2 ≤ b) (hnd : n < d) : ∃ k, IsLev b n d k := by
  have H : ∀ t, n / b ^ t = d / b ^ t → ∃ k, IsLev b n d k := by
    intro t
    induction t with
    | zero =>
      intro e
      rw [Nat.pow_zero, Nat.div_one, Nat.div_one] at e
      omega
    | succ t ih =>
      intro e
      by_cases c : n / b ^ t = d / b ^ t
      · exact ih c
      · refine ⟨t, e, fun j hj z => c ?_⟩
        have e2 : t = (j + 1) + (t - (j + 1)) := by omega
        rw [e2, Nat.pow_add, ← Nat.div_div_eq_div_mul, ← Nat.div_div_eq_div_mul, z]
  have hl : d < b ^ d := Nat.lt_of_lt_of_le Nat.lt_two_pow_self (Nat.pow_le_pow_left hb d)
  refine H d ?_
  rw [Nat.div_eq_of_lt hl, Nat.div_eq_of_lt (by omega)]
/-! ### how often one timer goes first: the mathematics -/
/-- whether a timer set at n and due at d goes in front -/
noncomputable def frB (ws : List Bool) (b n d : Nat) : Bool := @decide (∃ k, IsLev b n d k ∧ frontOf ws 0 (rowsOf b n d k) = true) (Classical.propDecidable _)
theorem frB_eq {ws : List Bool} {b n d k : Nat} (hk : IsLev b n d k) : frB ws b n d = frontOf ws 0 (rowsOf b n d k) := by
  unfold frB
  cases h : frontOf ws 0 (rowsOf b n d k) with
  | true => exact @decide_eq_true _ (Classical.propDecidable _) ⟨k, hk, h⟩
  | false =>
    refine @decide_eq_false _ (Classical.propDecidable _) fun ⟨k', hk', h'⟩ => ?_
    rw [hk'.uniq hk, h] at h'
    cases h'
noncomputable def ahB (ws : List Bool) (b p q t : Nat) : Bool := if p < q then frB ws b (t - p) t else !frB ws b (t - q) t
theorem IsAhead.eq {b p q t : Nat} {ws : List Bool} {v : Bool} (h : IsAhead b ws p q t v) (hb : 2 ≤ b) (hp : 1 ≤ p) (hq : 1 ≤ q) (hpt : p ≤ t) (hqt : q ≤ t) : v = ahB ws b p q t := by
  unfold ahB
  by_cases c : p < q
  · obtain ⟨k, hk⟩ := lev_any (n := t - p) (d := t) hb (by omega)
    rw [if_pos c, h.1 c k hk, frB_eq hk]
  · obtain ⟨k, hk⟩ := lev_any (n := t - q) (d := t) hb (by omega)
    rw [if_neg c, h.2 c k hk, frB_eq hk]
theorem ahB_swap {ws : List Bool} {b p q t : Nat} (h : p ≠ q) : ahB ws b q p t = !ahB ws b p q t := by
  unfold ahB
  by_cases c : p < q
  · rw [if_pos c, if_neg (by omega)]
  · rw [if_neg c, if_pos (by omega), Bool.not_not]
def fireB (a p t : Nat) : Bool := decide (a < t ∧ (t - a) % p = 0)
theorem fire_ge {a p t : Nat} (hp : 1 ≤ p) : (a + p ≤ t ∧ (t - a) % p = 0) ↔ (a < t ∧ (t - a) % p = 0) := by
  constructor
  · rintro ⟨h1, h2⟩
    exact ⟨by omega, h2⟩
  · rintro ⟨h1, h2⟩
    have := Nat.le_of_dvd (by omega) (Nat.dvd_of_mod_eq_zero h2)
    exact ⟨by omega, h2⟩
def bothB (a p o q t : Nat) : Bool := fireB a p t && fireB o q t
theorem bothB_iff {a p o q t : Nat} : bothB a p o q t = true ↔ (a < t ∧ (t - a) % p = 0) ∧ (o < t ∧ (t - o) % q = 0) := by
  unfold bothB fireB
  rw [Bool.and_eq_true, decide_eq_true_iff, decide_eq_true_iff]
/-- how many of n numbers from lo on have a property -/
def cntP (P : Nat → Bool) (lo : Nat) : Nat → Nat
  | 0 => 0
  | n + 1 => cntP P lo n + if P (lo + n) = true then 1 else 0
theorem cntP_zero {P : Nat → Bool} {lo : Nat} : ∀ n, (∀ t, lo ≤ t → t < lo + n → P t = false) → cntP P lo n = 0
  | 0, _ => rfl
  | n + 1, h => by
    unfold cntP
    rw [cntP_zero n (fun t h1 h2 => h t h1 (by omega)), h (lo + n) (by omega) (by omega)]
    rfl
theorem cntP_add (P : Nat → Bool) (lo m : Nat) : ∀ n, cntP P lo (m + n) = cntP P lo m + cntP P (lo + m) n
  | 0 => rfl
  | n + 1 => by
    show cntP P lo (m + n) + (if P (lo + (m + n)) = true then 1 else 0) = cntP P lo m + (cntP P (lo + m) n + if P (lo + m + n) = true then 1 else 0)
    rw [cntP_add P lo m n, show lo + (m + n) = lo + m + n by omega]
    omega
theorem cntP_congr {P R : Nat → Bool} {lo : Nat} : ∀ n, (∀ t, lo ≤ t → t < lo + n → P t = R t) → cntP P lo n = cntP R lo n
  | 0, _ => rfl
  | n + 1, h => by
    unfold cntP
    rw [cntP_congr n (fun t h1 h2 => h t h1 (by omega)), h (lo + n) (by omega) (by omega)]
/-- of n numbers from m on, e apart -/
def cntW2 (P : Nat → Bool) (m e : Nat) : Nat → Nat
  | 0 => 0
  | n + 1 => cntW2 P m e n + if P (m + n * e) = true then 1 else 0
theorem cntW2_windows {P : Nat → Bool} {m e : Nat} (he : 1 ≤ e) (h : ∀ t, P t = true → m ≤ t → e ∣ t - m) : ∀ n, cntP P m (n * e) = cntW2 P m e n
  | 0 => by
    rw [Nat.zero_mul]
    rfl
  | n + 1 => by
    have ih := cntW2_windows he h n
    have e1 : (n + 1) * e = n * e + (1 + (e - 1)) := by
      rw [Nat.succ_mul]
      omega
    rw [e1, cntP_add, ih, cntP_add]
    have z : cntP P (m + n * e + 1) (e - 1) = 0 := by
      refine cntP_zero _ fun t h1 h2 => ?_
      cases hp : P t with
      | false => rfl
      | true =>
        obtain ⟨k, hk⟩ := h t hp (by omega)
        have a1 : n * e < e * k := by omega
        have a2 : e * k < (n + 1) * e := by
          rw [Nat.succ_mul]
          omega
        rw [Nat.mul_comm e k] at a1 a2
        have b1 := Nat.lt_of_mul_lt_mul_right a1
        have b2 := Nat.lt_of_mul_lt_mul_right a2
        omega
    rw [z]
    show cntW2 P m e n + (0 + (if P (m + n * e + 0) = true then 1 else 0) + 0) = cntW2 P m e n + if P (m + n * e) = true then 1 else 0
    rw [Nat.add_zero, Nat.add_zero, Nat.zero_add]
def meetM (f e x : Nat) : Nat := f + (x - f + (e - 1)) / e * e
def meetN (m e y : Nat) : Nat := (y - m + (e - 1)) / e
theorem up_ge {x e : Nat} (he : 1 ≤ e) : x ≤ (x + (e - 1)) / e * e := by
  have h1 := Nat.div_add_mod (x + (e - 1)) e
  have h2 := Nat.mod_lt (x + (e - 1)) (show 0 < e by omega)
  rw [Nat.mul_comm] at h1
  omega
theorem up_lt {x e k : Nat} (he : 1 ≤ e) (hk : k < (x + (e - 1)) / e) : k * e < x := by
  have h1 : (k + 1) * e ≤ x + (e - 1) := by
    have := (Nat.le_div_iff_mul_le (show 0 < e by omega)).mp hk
    exact this
  rw [Nat.succ_mul] at h1
  omega
theorem meetM_ge {f e x : Nat} (he : 1 ≤ e) : x ≤ meetM f e x := by
  unfold meetM
  have := up_ge (x := x - f) he
  omega
theorem meetM_le {f e x t : Nat} (he : 1 ≤ e) (h1 : x ≤ t) (h2 : f ≤ t) (h3 : e ∣ t - f) : meetM f e x ≤ t := by
  obtain ⟨k, hk⟩ := h3
  unfold meetM
  rcases Nat.lt_or_ge k ((x - f + (e - 1)) / e) with l | l
  · have := up_lt he l
    rw [Nat.mul_comm] at this
    omega
  · have z : (x - f + (e - 1)) / e * e ≤ k * e := Nat.mul_le_mul_right e l
    rw [Nat.mul_comm k e] at z
    omega
theorem meet_dvd {f e x t : Nat} (h1 : meetM f e x ≤ t) (h3 : e ∣ t - f) : e ∣ t - meetM f e x := by
  unfold meetM at h1 ⊢
  have z : t - (f + (x - f + (e - 1)) / e * e) = (t - f) - (x - f + (e - 1)) / e * e := by omega
  rw [z]
  exact Nat.dvd_sub h3 (Nat.dvd_mul_left e _)
theorem meetM_dvd {f e x k : Nat} : e ∣ meetM f e x + k * e - f := by
  unfold meetM
  have z : f + (x - f + (e - 1)) / e * e + k * e - f = (x - f + (e - 1)) / e * e + k * e := by omega
  rw [z]
  exact Nat.dvd_add (Nat.dvd_mul_left e _) (Nat.dvd_mul_left e _)
/-- a range counted by the ticks at which both fire -/
theorem cnt_range {P : Nat → Bool} {f e x y : Nat} (he : 1 ≤ e) (hxy : x ≤ y) (h : ∀ t, P t = true → f ≤ t ∧ e ∣ t - f) : cntP P x (y - x) = cntW2 P (meetM f e x) e (meetN (meetM f e x) e y) := by
  have hx := meetM_ge (f := f) (x := x) he
  have hle : ∀ t, P t = true → x ≤ t → meetM f e x ≤ t := fun t hp ht => meetM_le he ht (h t hp).1 (h t hp).2
  have hdv : ∀ t, P t = true → meetM f e x ≤ t → e ∣ t - meetM f e x := fun t hp ht => meet_dvd ht (h t hp).2
  rw [← cntW2_windows he hdv]
  have hge : ∀ k, k < meetN (meetM f e x) e y → meetM f e x + k * e < y := fun k hk => by
    have := up_lt he hk
    omega
  have hup : y ≤ meetM f e x + meetN (meetM f e x) e y * e := by
    have := up_ge (x := y - meetM f e x) he
    unfold meetN
    omega
  generalize meetM f e x = m at *
  generalize meetN m e y = n at *
  have e1 : cntP P x (m - x + n * e) = cntP P m (n * e) := by
    rw [cntP_add, cntP_zero (m - x), Nat.zero_add, show x + (m - x) = m by omega]
    intro t h1 h2
    cases hp : P t with
    | false => rfl
    | true =>
      have := hle t hp h1
      omega
  have e2 : cntP P x (m - x + n * e) = cntP P x (y - x) := by
    rw [show m - x + n * e = (y - x) + (m + n * e - y) by omega, cntP_add, cntP_zero (m + n * e - y), Nat.add_zero]
    intro t h1 h2
    cases hp : P t with
    | false => rfl
    | true =>
      have h3 := hle t hp (by omega)
      obtain ⟨k, hk⟩ := hdv t hp h3
      rw [Nat.mul_comm] at hk
      have h4 : k * e < n * e := by omega
      have h5 := hge k (Nat.lt_of_mul_lt_mul_right h4)
      omega
  rw [← e2, e1]
/-- the ticks of a progression that lie behind a tick -/
def tickL (m e M : Nat) : Nat → List Nat
  | 0 => []
  | n + 1 => tickL m e M n ++ if M < m + n * e then [m + n * e] else []
theorem tickL_len (m e M : Nat) : ∀ n, (tickL m e M n).length ≤ n
  | 0 => Nat.le_refl _
  | n + 1 => by
    have ih := tickL_len m e M n
    unfold tickL
    rw [List.length_append]
    split
    · rw [List.length_singleton]
      omega
    · rw [List.length_nil]
      omega
theorem tickL_cnt {P A : Nat → Bool} {m e M : Nat} : ∀ n, (∀ k, k < n → P (m + k * e) = (decide (M < m + k * e) && A (m + k * e))) → (tickL m e M n).countP A = cntW2 P m e n
  | 0, _ => rfl
  | n + 1, h => by
    have ih := tickL_cnt n (fun k hk => h k (by omega))
    unfold tickL cntW2
    rw [List.countP_append, ih, h n (by omega)]
    by_cases c : M < m + n * e
    · rw [if_pos c, decide_eq_true c, Bool.true_and, List.countP_singleton]
    · rw [if_neg c, decide_eq_false c, Bool.false_and, List.countP_nil]
      rfl
theorem tickL_mem {m e M t : Nat} : ∀ {n}, t ∈ tickL m e M n → ∃ k, k < n ∧ t = m + k * e ∧ M < t
  | 0, h => by cases h
  | n + 1, h => by
    rcases List.mem_append.mp h with h | h
    · obtain ⟨k, h1, h2⟩ := tickL_mem h
      exact ⟨k, by omega, h2⟩
    · by_cases c : M < m + n * e
      · rw [if_pos c] at h
        have := List.mem_singleton.mp h
        exact ⟨n, by omega, this, by omega⟩
      · rw [if_neg c] at h
        cases h
/-! ### two wheels told apart: the mathematics -/
theorem fr_at {ws : List Bool} {b n d k : Nat} (hk : IsLev b n d k) (hnd : n < d) : frB ws b n d = decide (cntW ws b d (k + 1) % 2 = 1) := by
  rw [frB_eq hk, front_cnt hk hnd]
/-- they go to unlike sides -/
def Dif (b1 : Nat) (w1 : List Bool) (b2 : Nat) (w2 : List Bool) (n d : Nat) : Prop := frB w1 b1 n d ≠ frB w2 b2 n d
theorem Dif.swap {b1 b2 n d : Nat} {w1 w2 : List Bool} (h : Dif b1 w1 b2 w2 n d) : Dif b2 w2 b1 w1 n d := fun z => h z.symm
theorem cntW_zero {ws : List Bool} {b d : Nat} : ∀ j, (∀ i, i < j → wordAt ws i = false ∨ d / b ^ i % b = 0) → cntW ws b d j = 0
  | 0, _ => rfl
  | j + 1, h => by
    unfold cntW
    rw [cntW_zero j (fun i hi => h i (by omega)), Nat.zero_add]
    refine if_neg fun z => ?_
    rcases h j (by omega) with e | e
    · rw [e] at z
      exact absurd z.2 (by decide)
    · exact z.1 e
/-- from an index on where a stack stands with queues below it -/
theorem cntW_first {ws : List Bool} {b d i : Nat} (hq : ∀ j, j < i → wordAt ws j = false) (hs : wordAt ws i = true) : cntW ws b d (i + 1) = if d / b ^ i % b ≠ 0 then 1 else 0 := by
  unfold cntW
  rw [cntW_zero i fun j hj => .inl (hq j hj), Nat.zero_add]
  by_cases c : d / b ^ i % b ≠ 0
  · rw [if_pos c, if_pos ⟨c, hs⟩]
  · rw [if_neg c, if_neg fun z => c z.1]
/-- queues alone below: behind -/
theorem fr_queues {ws : List Bool} {b n d i : Nat} (hb : 2 ≤ b) (hnd : n < d) (hd : d < b ^ i) (hq : ∀ j, j < i → wordAt ws j = false) : frB ws b n d = false := by
  obtain ⟨k, hk⟩ := lev_any (n := n) (d := d) hb hnd
  have h1 := hk.size hb hnd
  have hki : k < i := by
    rcases Nat.lt_or_ge k i with l | l
    · exact l
    · have := Nat.pow_le_pow_right (show 0 < b by omega) l
      omega
  rw [fr_at hk hnd, cntW_zero _ fun j hj => .inl (hq j (by omega))]
  rfl
theorem fr_noStack {ws : List Bool} {b n d : Nat} (hb : 2 ≤ b) (hnd : n < d) (hq : ∀ j, wordAt ws j = false) : frB ws b n d = false :=
  fr_queues (i := d) hb hnd (Nat.lt_of_lt_of_le Nat.lt_two_pow_self (Nat.pow_le_pow_left hb d)) fun j _ => hq j
/-- a power of the base, set ahead of all: one station -/
theorem lev_zero_pow {b i : Nat} (hb : 2 ≤ b) (m : Nat) (hm : 0 < m) (hmb : m < b) : IsLev b 0 (m * b ^ i) i := by
  have hp : 0 < b ^ i := pow_pos' hb i
  constructor
  · rw [Nat.zero_div, Nat.div_eq_of_lt]
    rw [Nat.pow_succ, Nat.mul_comm]
    exact Nat.mul_lt_mul_of_pos_left hmb hp
  · intro j hj
    rw [Nat.zero_div]
    have h1 : b ^ (j + 1) ≤ b ^ i := Nat.pow_le_pow_right (by omega) (by omega)
    have h2 : 0 < m * b ^ i / b ^ (j + 1) := Nat.div_pos (Nat.le_trans h1 (Nat.le_mul_of_pos_left _ hm)) (pow_pos' hb _)
    omega
theorem dig_pow {b i : Nat} (hb : 2 ≤ b) (m : Nat) (hmb : m < b) : m * b ^ i / b ^ i % b = m := by
  rw [Nat.mul_div_cancel _ (pow_pos' hb i), Nat.mod_eq_of_lt hmb]
theorem dig_pow_low {b i j : Nat} (hb : 2 ≤ b) (m : Nat) (hj : j < i) : m * b ^ i / b ^ j % b = 0 := by
  have e : m * b ^ i = m * b ^ (i - j) * b ^ j := by rw [Nat.mul_assoc, ← Nat.pow_add, show i - j + j = i by omega]
  rw [e, Nat.mul_div_cancel _ (pow_pos' hb j), show i - j = (i - j - 1) + 1 by omega, Nat.pow_succ, ← Nat.mul_assoc]
  exact Nat.mul_mod_left _ _
/-- the side of a number with one digit alone, set at 0 -/
theorem fr_one {ws : List Bool} {b i m : Nat} (hb : 2 ≤ b) (hm : 0 < m) (hmb : m < b) : frB ws b 0 (m * b ^ i) = wordAt ws i := by
  have hp := pow_pos' hb i
  have hpos : 0 < m * b ^ i := Nat.mul_pos hm hp
  rw [fr_at (lev_zero_pow hb m hm hmb) hpos]
  unfold cntW
  rw [cntW_zero i fun j hj => .inr (dig_pow_low hb m hj), dig_pow hb m hmb, Nat.zero_add]
  cases wordAt ws i with
  | true => rw [if_pos ⟨by omega, rfl⟩]; rfl
  | false => rw [if_neg fun z => absurd z.2 (by decide)]; rfl
/-! where both have the same base -/
theorem tell_same {b n d : Nat} {w1 w2 : List Bool} (hb : 2 ≤ b) (hnd : n < d) (h : Dif b w1 b w2 n d) : ∃ j, b ^ j ≤ d ∧ wordAt w1 j ≠ wordAt w2 j := by
  obtain ⟨k, hk⟩ := lev_any (n := n) (d := d) hb hnd
  have hs := hk.size hb hnd
  unfold Dif at h
  rw [fr_at hk hnd, fr_at hk hnd] at h
  have ne : cntW w1 b d (k + 1) ≠ cntW w2 b d (k + 1) := fun e => h (by rw [e])
  have key : ∀ m, cntW w1 b d m ≠ cntW w2 b d m → ∃ j, j < m ∧ wordAt w1 j ≠ wordAt w2 j := by
    intro m
    induction m with
    | zero => exact fun z => absurd rfl z
    | succ m ih =>
      intro z
      by_cases e : wordAt w1 m = wordAt w2 m
      · obtain ⟨j, hj, hw⟩ := ih fun y => z (by unfold cntW; rw [y, e])
        exact ⟨j, by omega, hw⟩
      · exact ⟨m, by omega, e⟩
  obtain ⟨j, hj, hw⟩ := key _ ne
  exact ⟨j, Nat.le_trans (Nat.pow_le_pow_right (by omega) (by omega)) hs, hw⟩
theorem dif_pow {b j : Nat} {w1 w2 : List Bool} (hb : 2 ≤ b) (h : wordAt w1 j ≠ wordAt w2 j) : Dif b w1 b w2 0 (b ^ j) := by
  have e1 := fr_one (ws := w1) (i := j) hb (show 0 < 1 by omega) (by omega)
  have e2 := fr_one (ws := w2) (i := j) hb (show 0 < 1 by omega) (by omega)
  rw [Nat.one_mul] at e1 e2
  unfold Dif
  rw [e1, e2]
  exact h
/-! where the bases differ -/
/-- the lowest stack stands at i -/
def LowS (ws : List Bool) (i : Nat) : Prop := wordAt ws i = true ∧ ∀ j, j < i → wordAt ws j = false
/-- with one digit alone above the queues -/
theorem fr_low {ws : List Bool} {b n d i : Nat} (hb : 2 ≤ b) (hnd : n < d) (hi : LowS ws i) (hd : d < b ^ (i + 1)) : frB ws b n d = decide (n / b ^ i ≠ d / b ^ i) := by
  obtain ⟨k, hk⟩ := lev_any (n := n) (d := d) hb hnd
  have hki : k ≤ i := by
    have h1 := hk.size hb hnd
    rcases Nat.lt_or_ge i k with l | l
    · have := Nat.pow_le_pow_right (show 0 < b by omega) (show i + 1 ≤ k from l)
      omega
    · exact l
  rw [fr_at hk hnd]
  by_cases c : n / b ^ i = d / b ^ i
  · have hlt : k < i := by
      rcases Nat.lt_or_ge k i with l | l
      · exact l
      · have e : k = i := by omega
        rw [e] at hk
        exact absurd c (Nat.ne_of_lt (hk.ne hnd))
    rw [cntW_zero _ fun j hj => .inl (hi.2 j (by omega)), decide_eq_false (show ¬ n / b ^ i ≠ d / b ^ i from fun z => z c)]
    rfl
  · have e : k = i := by
      rcases Nat.lt_or_ge k i with l | l
      · exfalso
        have h1 := hk.1
        have : n / b ^ i = d / b ^ i := by
          rw [show i = (k + 1) + (i - (k + 1)) by omega, Nat.pow_add, ← Nat.div_div_eq_div_mul, ← Nat.div_div_eq_div_mul, h1]
        exact c this
      · omega
    subst e
    have hdig := hk.digit hnd
    rw [cntW_first hi.2 hi.1, if_pos (by omega), decide_eq_true (show n / b ^ k ≠ d / b ^ k from c)]
    rfl
theorem tell_less {b1 b2 n d i1 i2 : Nat} {w1 w2 : List Bool} (h1 : 2 ≤ b1) (h2 : 2 ≤ b2) (l1 : LowS w1 i1) (l2 : LowS w2 i2) (e : b1 ^ i1 = b2 ^ i2) (hlt : b1 < b2) (hnd : n < d) (h : Dif b1 w1 b2 w2 n d) :
    (b1 * b1 ^ i1 ≤ d ∧ (wordAt w1 (i1 + 1) = false → Dif b1 w1 b2 w2 0 (b1 * b1 ^ i1)) ∧ (wordAt w1 (i1 + 1) = true → (b1 + 1) * b1 ^ i1 ≤ d ∧ ∃ n', n' < (b1 + 1) * b1 ^ i1 ∧ Dif b1 w1 b2 w2 n' ((b1 + 1) * b1 ^ i1))) := by
  have p1 := pow_pos' h1 i1
  have p2 := pow_pos' h2 i2
  have big : b1 * b1 ^ i1 ≤ d := by
    rcases Nat.lt_or_ge d (b1 * b1 ^ i1) with l | l
    · exfalso
      have a1 : d < b1 ^ (i1 + 1) := by rw [Nat.pow_succ, Nat.mul_comm]; exact l
      have a2 : d < b2 ^ (i2 + 1) := by
        rw [Nat.pow_succ, Nat.mul_comm, ← e]
        exact Nat.lt_of_lt_of_le l (Nat.mul_le_mul_right _ (Nat.le_of_lt hlt))
      apply h
      rw [fr_low h1 hnd l1 a1, fr_low h2 hnd l2 a2, e]
    · exact l
  refine ⟨big, fun hq => ?_, fun hs => ?_⟩
  · unfold Dif
    have e1 := fr_one (ws := w1) (i := i1 + 1) h1 (show 0 < 1 by omega) (by omega)
    rw [Nat.one_mul, Nat.pow_succ, Nat.mul_comm, hq] at e1
    have e2 := fr_one (ws := w2) (i := i2) h2 (show 0 < b1 by omega) hlt
    rw [← e, l2.1] at e2
    rw [e1, e2]
    decide
  · -- two stacks one above the other
    have lev1 : ∀ n d, n < d → d < (b1 + 1) * b1 ^ i1 → b1 * b1 ^ i1 ≤ d → frB w1 b1 n d = decide (n / b1 ^ i1 ≠ d / b1 ^ i1) := by
      intro n d hnd hd1 hd2
      obtain ⟨k, hk⟩ := lev_any (n := n) (d := d) h1 hnd
      have hq1 : d / b1 ^ i1 = b1 := by
        have a := (Nat.le_div_iff_mul_le p1).mpr hd2
        have b := (Nat.div_lt_iff_lt_mul p1).mpr hd1
        omega
      have d0 : d / b1 ^ i1 % b1 = 0 := by rw [hq1, Nat.mod_self]
      have hki : k ≤ i1 + 1 := by
        rcases Nat.lt_or_ge (i1 + 1) k with l | l
        · have a := hk.size h1 hnd
          have b := Nat.pow_le_pow_right (show 0 < b1 by omega) (show i1 + 2 ≤ k from l)
          have c : (b1 + 1) * b1 ^ i1 ≤ b1 ^ (i1 + 2) := by
            rw [Nat.pow_succ, Nat.pow_succ, Nat.mul_assoc, Nat.mul_comm (b1 ^ i1)]
            refine Nat.mul_le_mul_right _ ?_
            have z : 2 * b1 ≤ b1 * b1 := Nat.mul_le_mul_right b1 h1
            omega
          omega
        · exact l
      have hne := hk.digit hnd
      rw [fr_at hk hnd]
      by_cases c : n / b1 ^ i1 = d / b1 ^ i1
      · have hlt : k < i1 := by
          rcases Nat.lt_or_ge k i1 with l | l
          · exact l
          · exfalso
            have z := hk.ne hnd
            rw [show k = i1 + (k - i1) by omega, Nat.pow_add, ← Nat.div_div_eq_div_mul, ← Nat.div_div_eq_div_mul, c] at z
            exact Nat.lt_irrefl _ z
        rw [cntW_zero _ fun j hj => .inl (l1.2 j (by omega)), decide_eq_false (show ¬ n / b1 ^ i1 ≠ d / b1 ^ i1 from fun z => z c)]
        rfl
      · have ek : k = i1 + 1 := by
          rcases Nat.lt_or_ge k (i1 + 1) with l | l
          · exfalso
            rcases Nat.lt_or_ge k i1 with l2 | l2
            · have h3 := hk.1
              have : n / b1 ^ i1 = d / b1 ^ i1 := by
                rw [show i1 = (k + 1) + (i1 - (k + 1)) by omega, Nat.pow_add, ← Nat.div_div_eq_div_mul, ← Nat.div_div_eq_div_mul, h3]
              exact c this
            · have e3 : k = i1 := by omega
              rw [e3, d0] at hne
              omega
          · omega
        subst ek
        unfold cntW
        rw [cntW_first l1.2 l1.1, if_neg (fun z => z d0), Nat.zero_add, if_pos ⟨by omega, hs⟩, decide_eq_true (show n / b1 ^ i1 ≠ d / b1 ^ i1 from c)]
        rfl
    have big2 : (b1 + 1) * b1 ^ i1 ≤ d := by
      rcases Nat.lt_or_ge d ((b1 + 1) * b1 ^ i1) with l | l
      · exfalso
        have a2 : d < b2 ^ (i2 + 1) := by
          rw [Nat.pow_succ, Nat.mul_comm, ← e]
          exact Nat.lt_of_lt_of_le l (Nat.mul_le_mul_right _ hlt)
        apply h
        rw [lev1 n d hnd l big, fr_low h2 hnd l2 a2, e]
      · exact l
    refine ⟨big2, ?_⟩
    have pm : 0 < (b1 + 1) * b1 ^ i1 := Nat.mul_pos (by omega) p1
    -- the first wheel, from the beginning: two stations
    have top1 : IsLev b1 0 ((b1 + 1) * b1 ^ i1) (i1 + 1) := by
      constructor
      · rw [Nat.zero_div, Nat.div_eq_of_lt]
        rw [Nat.pow_succ, Nat.pow_succ, Nat.mul_assoc, Nat.mul_comm (b1 ^ i1)]
        refine Nat.mul_lt_mul_of_pos_right ?_ p1
        have z : 2 * b1 ≤ b1 * b1 := Nat.mul_le_mul_right b1 h1
        omega
      · intro j hj
        rw [Nat.zero_div]
        have a : b1 ^ (j + 1) ≤ b1 ^ (i1 + 1) := Nat.pow_le_pow_right (by omega) (by omega)
        have c : b1 ^ (i1 + 1) ≤ (b1 + 1) * b1 ^ i1 := by
          rw [Nat.pow_succ, Nat.mul_comm]
          exact Nat.mul_le_mul_right _ (by omega)
        have := Nat.div_pos (Nat.le_trans a c) (pow_pos' h1 (j + 1))
        omega
    have q1 : (b1 + 1) * b1 ^ i1 / b1 ^ i1 % b1 = 1 := by
      rw [Nat.mul_div_cancel _ p1, Nat.add_mod_left, Nat.mod_eq_of_lt (by omega)]
    have q2 : (b1 + 1) * b1 ^ i1 / b1 ^ (i1 + 1) % b1 = 1 := by
      rw [Nat.pow_succ, ← Nat.div_div_eq_div_mul, Nat.mul_div_cancel _ p1]
      have : (b1 + 1) / b1 = 1 := by
        rw [Nat.add_comm, Nat.add_div_right _ (by omega), Nat.div_eq_of_lt (by omega)]
      rw [this, Nat.mod_eq_of_lt (by omega)]
    have f1 : frB w1 b1 0 ((b1 + 1) * b1 ^ i1) = false := by
      rw [fr_at top1 pm]
      unfold cntW
      rw [cntW_first l1.2 l1.1, if_pos (by rw [q1]; decide), if_pos ⟨by rw [q2]; decide, hs⟩]
      rfl
    rcases Nat.lt_or_ge (b1 + 1) b2 with l | l
    · refine ⟨0, pm, ?_⟩
      have f2 := fr_one (ws := w2) (i := i2) h2 (show 0 < b1 + 1 by omega) l
      rw [← e, l2.1] at f2
      unfold Dif
      rw [f1, f2]
      decide
    · have eb : b2 = b1 + 1 := by omega
      have en : (b1 + 1) * b1 ^ i1 = 1 * b2 ^ (i2 + 1) := by rw [e, ← eb, Nat.one_mul, Nat.pow_succ, Nat.mul_comm]
      cases hw : wordAt w2 (i2 + 1) with
      | true =>
        refine ⟨0, pm, ?_⟩
        have f2 := fr_one (ws := w2) (i := i2 + 1) h2 (show 0 < 1 by omega) (by omega)
        rw [← en, hw] at f2
        unfold Dif
        rw [f1, f2]
        decide
      | false =>
        refine ⟨b1 * b1 ^ i1, Nat.mul_lt_mul_of_pos_right (by omega) p1, ?_⟩
        have hnd2 : b1 * b1 ^ i1 < (b1 + 1) * b1 ^ i1 := Nat.mul_lt_mul_of_pos_right (by omega) p1
        have lv : IsLev b1 (b1 * b1 ^ i1) ((b1 + 1) * b1 ^ i1) i1 := by
          constructor
          · rw [Nat.pow_succ, ← Nat.div_div_eq_div_mul, ← Nat.div_div_eq_div_mul, Nat.mul_div_cancel _ p1, Nat.mul_div_cancel _ p1, Nat.div_self (by omega), Nat.add_comm, Nat.add_div_right _ (by omega), Nat.div_eq_of_lt (by omega)]
          · intro j hj
            rw [show i1 = (i1 - (j + 1)) + (j + 1) by omega, Nat.pow_add, ← Nat.mul_assoc, ← Nat.mul_assoc, Nat.mul_div_cancel _ (pow_pos' h1 _), Nat.mul_div_cancel _ (pow_pos' h1 _)]
            have := Nat.mul_lt_mul_of_pos_right (show b1 < b1 + 1 by omega) (pow_pos' h1 (i1 - (j + 1)))
            omega
        have f3 : frB w1 b1 (b1 * b1 ^ i1) ((b1 + 1) * b1 ^ i1) = true := by
          rw [fr_at lv hnd2, cntW_first l1.2 l1.1, if_pos (by rw [q1]; decide)]
          rfl
        have f4 : frB w2 b2 (b1 * b1 ^ i1) ((b1 + 1) * b1 ^ i1) = false := by
          have e5 : b1 * b1 ^ i1 = b1 * b2 ^ i2 := by rw [e]
          have lv2 : IsLev b2 (b1 * b1 ^ i1) ((b1 + 1) * b1 ^ i1) (i2 + 1) := by
            constructor
            · rw [en, e5, Nat.one_mul, Nat.div_eq_of_lt, Nat.div_eq_of_lt]
              · exact Nat.pow_lt_pow_right (by omega) (by omega)
              · have a : b1 * b2 ^ i2 < b2 * b2 ^ i2 := Nat.mul_lt_mul_of_pos_right hlt p2
                have c : b2 * b2 ^ i2 ≤ b2 ^ (i2 + 1 + 1) := by
                  rw [Nat.mul_comm, ← Nat.pow_succ]
                  exact Nat.pow_le_pow_right (by omega) (by omega)
                omega
            · intro j hj
              have ee : b2 ^ (i2 + 1) = b2 ^ (i2 - j) * b2 ^ (j + 1) := by rw [← Nat.pow_add, show i2 - j + (j + 1) = i2 + 1 by omega]
              rw [en, e5, Nat.one_mul, ee, Nat.mul_div_cancel _ (pow_pos' h2 _)]
              have a : b1 * b2 ^ i2 < b2 ^ (i2 - j) * b2 ^ (j + 1) := by
                rw [← Nat.pow_add, show i2 - j + (j + 1) = i2 + 1 by omega, Nat.pow_succ, Nat.mul_comm (b2 ^ i2)]
                exact Nat.mul_lt_mul_of_pos_right hlt p2
              have := (Nat.div_lt_iff_lt_mul (pow_pos' h2 (j + 1))).mpr a
              omega
          rw [fr_at lv2 hnd2, en]
          unfold cntW
          rw [cntW_first l2.2 l2.1, if_neg (fun z => z (dig_pow_low h2 1 (by omega))), if_neg (fun z => by rw [hw] at z; exact absurd z.2 (by decide))]
          rfl
        unfold Dif
        rw [f3, f4]
        decide
/-! ### two wheels told apart: the dues and ticks that suffice -/
/-- the answer: the least due, and for it the least tick -/
def ToldP (b1 : Nat) (w1 : List Bool) (b2 : Nat) (w2 : List Bool) : Option (Nat × Nat) → Prop
  | none => ∀ n d, n < d → ¬ Dif b1 w1 b2 w2 n d
  | some (e, m) => m < e ∧ Dif b1 w1 b2 w2 m e ∧ ∀ n d, n < d → Dif b1 w1 b2 w2 n d → e < d ∨ (e = d ∧ m ≤ n)
def tolV : Option (Nat × Nat) → List V
  | none => [.str "alike"]
  | some (e, m) => [.str "apart", .int (e : Nat), .int (m : Nat)]
theorem ToldP.swap {b1 b2 : Nat} {w1 w2 : List Bool} {r : Option (Nat × Nat)} (h : ToldP b1 w1 b2 w2 r) : ToldP b2 w2 b1 w1 r := by
  match r, h with
  | none, h => exact fun n d hnd z => h n d hnd z.swap
  | some (e, m), ⟨h1, h2, h3⟩ => exact ⟨h1, h2.swap, fun n d hnd z => h3 n d hnd z.swap⟩
theorem ToldP.uniq {b1 b2 : Nat} {w1 w2 : List Bool} {r r' : Option (Nat × Nat)} (h : ToldP b1 w1 b2 w2 r) (h' : ToldP b1 w1 b2 w2 r') : r = r' := by
  match r, r', h, h' with
  | none, none, _, _ => rfl
  | none, some (e, m), h, ⟨h1, h2, _⟩ => exact absurd h2 (h _ _ h1)
  | some (e, m), none, ⟨h1, h2, _⟩, h => exact absurd h2 (h _ _ h1)
  | some (e, m), some (e', m'), ⟨h1, h2, h3⟩, ⟨h1', h2', h3'⟩ =>
    have a := h3 _ _ h1' h2'
    have b := h3' _ _ h1 h2
    have c : e = e' ∧ m = m' := by omega
    rw [c.1, c.2]
theorem ToldP.self {b : Nat} {w : List Bool} : ToldP b w b w none := fun _ _ _ h => h rfl
/-- the least tick for a due -/
def FstP (b1 : Nat) (w1 : List Bool) (b2 : Nat) (w2 : List Bool) (d : Nat) : Option Nat → Prop
  | none => ∀ n, n < d → ¬ Dif b1 w1 b2 w2 n d
  | some m => m < d ∧ Dif b1 w1 b2 w2 m d ∧ ∀ n, n < d → Dif b1 w1 b2 w2 n d → m ≤ n
def optV : Option Nat → V
  | none => .non
  | some m => .int (m : Nat)
/-! the ticks of the path from 0 -/
theorem IsLev.early {b n d k t : Nat} (hb : 2 ≤ b) (h : IsLev b n d k) (hnd : n < d) (h1 : d / b ^ (k + 1) * b ^ (k + 1) ≤ t) (h2 : t ≤ n) : IsLev b t d k := by
  have p := pow_pos' hb (k + 1)
  constructor
  · have a : d / b ^ (k + 1) ≤ t / b ^ (k + 1) := (Nat.le_div_iff_mul_le p).mpr h1
    have c : t / b ^ (k + 1) ≤ n / b ^ (k + 1) := Nat.div_le_div_right h2
    have e := h.1
    omega
  · intro j hj
    have a : t / b ^ (j + 1) ≤ n / b ^ (j + 1) := Nat.div_le_div_right h2
    have c : n / b ^ (j + 1) < d / b ^ (j + 1) := lev_le h hnd hj
    omega
def ticksOf (b d k : Nat) : List Nat := (rowsOf b 0 d k).map (·.2.2)
theorem tail_mem {b d j : Nat} (hd : d / b ^ j % b ≠ 0) : ∀ k, j < k → (j, d / b ^ j % b, d / b ^ (j + 1) * b ^ (j + 1)) ∈ tailOf b d k
  | k + 1, h => by
    unfold tailOf
    by_cases e : j = k
    · subst e
      rw [if_pos hd]
      exact List.mem_cons_self
    · have ih := tail_mem hd k (by omega)
      split
      · exact List.mem_cons_of_mem _ ih
      · exact ih
theorem tail_lt {b d : Nat} (hb : 2 ≤ b) : ∀ k, ∀ r ∈ tailOf b d k, r.2.2 < d
  | 0, r, h => by unfold tailOf at h; cases h
  | k + 1, r, h => by
    unfold tailOf at h
    have ih := tail_lt (d := d) hb k
    have key : d / b ^ k % b ≠ 0 → d / b ^ (k + 1) * b ^ (k + 1) < d := fun hd => by
      have a := cut_step b d k
      have c := cut_le b d k
      have p : 0 < d / b ^ k % b * b ^ k := Nat.mul_pos (by omega) (pow_pos' hb k)
      omega
    split at h
    · rename_i hd
      rcases List.mem_cons.mp h with e | e
      · rw [e]
        exact key hd
      · exact ih r e
    · exact ih r h
theorem ticks_lt {b d k t : Nat} (hb : 2 ≤ b) (hd : 0 < d) (h : t ∈ ticksOf b d k) : t < d := by
  obtain ⟨r, hr, e⟩ := List.mem_map.mp h
  rw [← e]
  rcases List.mem_cons.mp hr with z | z
  · rw [z]
    exact hd
  · exact tail_lt hb k r z
/-- the beginning of the block of a tick is among them -/
theorem ticks_block {b n d k k0 : Nat} (hb : 2 ≤ b) (hk : IsLev b n d k) (hk0 : IsLev b 0 d k0) (hnd : n < d) : d / b ^ (k + 1) * b ^ (k + 1) ∈ ticksOf b d k0 ∧ d / b ^ (k + 1) * b ^ (k + 1) ≤ n := by
  have le : d / b ^ (k + 1) * b ^ (k + 1) ≤ n := by
    rw [← hk.1]
    exact Nat.div_mul_le_self _ _
  refine ⟨?_, le⟩
  have z0 := hk0.1
  rw [Nat.zero_div] at z0
  rcases Nat.lt_or_ge k k0 with l | l
  · have hne := hk.digit hnd
    exact List.mem_map.mpr ⟨(k, d / b ^ k % b, d / b ^ (k + 1) * b ^ (k + 1)), List.mem_cons_of_mem _ (tail_mem (by omega) k0 l), rfl⟩
  · have z : d / b ^ (k + 1) = 0 := by
      rw [show k + 1 = (k0 + 1) + (k - k0) by omega, Nat.pow_add, ← Nat.div_div_eq_div_mul, ← z0, Nat.zero_div]
    rw [z, Nat.zero_mul]
    exact List.mem_cons_self
theorem ticks_tell {b1 b2 n d k1 k2 : Nat} {w1 w2 : List Bool} (h1 : 2 ≤ b1) (h2 : 2 ≤ b2) (hk1 : IsLev b1 0 d k1) (hk2 : IsLev b2 0 d k2) (hnd : n < d) (h : Dif b1 w1 b2 w2 n d) :
    ∃ t ∈ ticksOf b1 d k1 ++ ticksOf b2 d k2, t ≤ n ∧ Dif b1 w1 b2 w2 t d := by
  obtain ⟨j1, hj1⟩ := lev_any (n := n) (d := d) h1 hnd
  obtain ⟨j2, hj2⟩ := lev_any (n := n) (d := d) h2 hnd
  obtain ⟨m1, l1⟩ := ticks_block h1 hj1 hk1 hnd
  obtain ⟨m2, l2⟩ := ticks_block h2 hj2 hk2 hnd
  have go : ∀ t, d / b1 ^ (j1 + 1) * b1 ^ (j1 + 1) ≤ t → d / b2 ^ (j2 + 1) * b2 ^ (j2 + 1) ≤ t → t ≤ n → Dif b1 w1 b2 w2 t d := by
    intro t a c e
    have e1 := hj1.early h1 hnd a e
    have e2 := hj2.early h2 hnd c e
    unfold Dif at h ⊢
    rw [fr_at hj1 hnd, fr_at hj2 hnd] at h
    rw [fr_at e1 (by omega), fr_at e2 (by omega)]
    exact h
  rcases Nat.le_total (d / b1 ^ (j1 + 1) * b1 ^ (j1 + 1)) (d / b2 ^ (j2 + 1) * b2 ^ (j2 + 1)) with l | l
  · exact ⟨_, List.mem_append.mpr (.inr m2), l2, go _ l (Nat.le_refl _) l2⟩
  · exact ⟨_, List.mem_append.mpr (.inl m1), l1, go _ (Nat.le_refl _) l l1⟩
/-! the dues -/
/-- a due of the list, bounded by the first or the second wheel -/
def DueB (b1 l1 b2 l2 e : Nat) : Prop := e ≤ (b1 + 1) * b1 ^ (l1 - 1) ∨ e ≤ (b2 + 1) * b2 ^ (l2 - 1)
/-- what the first due that tells looks like -/
def DueF (b1 l1 b2 l2 e : Nat) : Prop := e ≤ b1 ^ (l1 - 1) ∨ e ≤ b2 ^ (l2 - 1) ∨ ∃ i1 i2, i1 < l1 ∧ i2 < l2 ∧ b1 ≠ b2 ∧ b1 ^ i1 = b2 ^ i2 ∧ e ≤ (min b1 b2 + 1) * b1 ^ i1
structure Tells (b1 : Nat) (w1 : List Bool) (b2 : Nat) (w2 : List Bool) (L : List Nat) : Prop where
  up : L.Pairwise (· ≤ ·)
  bd : ∀ e ∈ L, 1 ≤ e ∧ DueB b1 w1.length b2 w2.length e
  tell : ∀ n d, n < d → Dif b1 w1 b2 w2 n d → ∃ e ∈ L, e ≤ d ∧ DueF b1 w1.length b2 w2.length e ∧ ∃ n', n' < e ∧ Dif b1 w1 b2 w2 n' e
/-- the same base -/
theorem tells_same {b : Nat} {w1 w2 : List Bool} (hb : 2 ≤ b) (h1 : w1 ≠ []) (h2 : w2 ≠ []) : Tells b w1 b w2 ((List.range (max w1.length w2.length)).map (b ^ ·)) := by
  have p1 := List.length_pos_iff.mpr h1
  have p2 := List.length_pos_iff.mpr h2
  have mono : ∀ {i j : Nat}, i ≤ j → b ^ i ≤ b ^ j := fun h => Nat.pow_le_pow_right (by omega) h
  have each : ∀ {j : Nat}, j < max w1.length w2.length → b ^ j ≤ b ^ (w1.length - 1) ∨ b ^ j ≤ b ^ (w2.length - 1) := fun {j} hj => by
    rcases Nat.lt_or_ge j w1.length with l | l
    · exact .inl (mono (by omega))
    · exact .inr (mono (by omega))
  refine ⟨?_, fun e he => ?_, fun n d hnd h => ?_⟩
  · rw [List.pairwise_map]
    exact List.pairwise_lt_range.imp fun h => mono (Nat.le_of_lt h)
  · obtain ⟨j, hj, rfl⟩ := List.mem_map.mp he
    rw [List.mem_range] at hj
    refine ⟨pow_pos' hb j, ?_⟩
    have up : ∀ x, x ≤ (b + 1) * x := fun x => Nat.le_mul_of_pos_left _ (by omega)
    rcases each hj with z | z
    · exact .inl (Nat.le_trans z (up _))
    · exact .inr (Nat.le_trans z (up _))
  · obtain ⟨j, hj, hw⟩ := tell_same hb hnd h
    have hlt : min j (max w1.length w2.length - 1) < max w1.length w2.length := by omega
    have same : ∀ {w : List Bool}, w.length ≤ max w1.length w2.length → wordAt w (min j (max w1.length w2.length - 1)) = wordAt w j := fun {w} hl => by
      unfold wordAt
      rw [show min (min j (max w1.length w2.length - 1)) (w.length - 1) = min j (w.length - 1) by omega]
    refine ⟨_, List.mem_map.mpr ⟨_, List.mem_range.mpr hlt, rfl⟩, Nat.le_trans (mono (Nat.min_le_left _ _)) hj, ?_, 0, pow_pos' hb _, dif_pow hb ?_⟩
    · rcases each hlt with z | z
      · exact .inl z
      · exact .inr (.inl z)
    · rw [same (by omega), same (by omega)]
      exact hw
/-- where the lowest stack stands, if any -/
def LowO (ws : List Bool) : Option Nat → Prop
  | none => ∀ j, wordAt ws j = false
  | some i => i < ws.length ∧ LowS ws i
/-- an unlike side before the sizes differ is impossible, and at the less of them it is there -/
theorem tell_size {b1 b2 n d i : Nat} {w1 w2 : List Bool} {o : Option Nat} (h1 : 2 ≤ b1) (h2 : 2 ≤ b2) (l1 : LowS w1 i) (l2 : LowO w2 o) (hlt : ∀ j, o = some j → b1 ^ i < b2 ^ j) (hnd : n < d) (h : Dif b1 w1 b2 w2 n d) :
    b1 ^ i ≤ d ∧ Dif b1 w1 b2 w2 0 (b1 ^ i) := by
  have p := pow_pos' h1 i
  have f2 : ∀ n d, n < d → d ≤ b1 ^ i → frB w2 b2 n d = false := by
    intro n d hnd hd
    match o, l2, hlt with
    | none, l2, _ => exact fr_noStack h2 hnd l2
    | some j, l2, hlt => exact fr_queues h2 hnd (Nat.lt_of_le_of_lt hd (hlt j rfl)) l2.2.2
  constructor
  · rcases Nat.lt_or_ge d (b1 ^ i) with l | l
    · exfalso
      apply h
      rw [fr_queues h1 hnd l l1.2, f2 n d hnd (Nat.le_of_lt l)]
    · exact l
  · unfold Dif
    have e1 := fr_one (ws := w1) (i := i) h1 (show 0 < 1 by omega) (by omega)
    rw [Nat.one_mul, l1.1] at e1
    rw [e1, f2 0 _ p (Nat.le_refl _)]
    decide
/-- the list of the dues, from the less size and the less base -/
def duesOf (s l : Nat) : List Nat := [s, l * s, (l + 1) * s]
theorem dues_up {s l : Nat} (hl : 1 ≤ l) : (duesOf s l).Pairwise (· ≤ ·) := by
  have a : s ≤ l * s := Nat.le_mul_of_pos_left _ hl
  have c : l * s ≤ (l + 1) * s := Nat.mul_le_mul_right _ (by omega)
  refine List.pairwise_cons.mpr ⟨fun x hx => ?_, List.pairwise_cons.mpr ⟨fun x hx => ?_, List.pairwise_cons.mpr ⟨fun x hx => (by cases hx), List.Pairwise.nil⟩⟩⟩
  · rcases List.mem_cons.mp hx with e | e
    · rw [e]; exact a
    · rw [List.mem_singleton.mp e]; exact Nat.le_trans a c
  · rw [List.mem_singleton.mp hx]; exact c
theorem tells_none {b1 b2 : Nat} {w1 w2 : List Bool} (h1 : 2 ≤ b1) (h2 : 2 ≤ b2) (l1 : LowO w1 none) (l2 : LowO w2 none) : Tells b1 w1 b2 w2 [] :=
  ⟨List.Pairwise.nil, fun e he => (by cases he), fun n d hnd h => absurd ((fr_noStack h1 hnd l1).trans (fr_noStack h2 hnd l2).symm) h⟩
theorem dues_bd {b1 b2 i k s : Nat} (hb : 2 ≤ b1) (h2 : 2 ≤ b2) (hi : i < k) (hs : s = b1 ^ i) : ∀ e ∈ duesOf s (min b1 b2), 1 ≤ e ∧ e ≤ (b1 + 1) * b1 ^ (k - 1) := by
  intro e he
  have p : 1 ≤ s := by rw [hs]; exact pow_pos' hb i
  have m : s ≤ b1 ^ (k - 1) := by rw [hs]; exact Nat.pow_le_pow_right (by omega) (by omega)
  have hx : ∃ x, 1 ≤ x ∧ x ≤ b1 + 1 ∧ e = x * s := by
    rcases List.mem_cons.mp he with z | z
    · exact ⟨1, by omega, by omega, by rw [z, Nat.one_mul]⟩
    · rcases List.mem_cons.mp z with z | z
      · exact ⟨_, by omega, by omega, z⟩
      · exact ⟨_, by omega, by omega, List.mem_singleton.mp z⟩
  obtain ⟨x, x1, x2, rfl⟩ := hx
  exact ⟨Nat.mul_pos x1 p, Nat.mul_le_mul x2 m⟩
/-- the first wheel has the less size -/
theorem tells_less {b1 b2 i : Nat} {w1 w2 : List Bool} {o : Option Nat} (h1 : 2 ≤ b1) (h2 : 2 ≤ b2) (l1 : LowO w1 (some i)) (l2 : LowO w2 o) (hlt : ∀ j, o = some j → b1 ^ i < b2 ^ j) : Tells b1 w1 b2 w2 (duesOf (b1 ^ i) (min b1 b2)) := by
  refine ⟨dues_up (by omega), fun e he => ?_, fun n d hnd h => ?_⟩
  · have z := dues_bd h1 h2 l1.1 rfl e he
    exact ⟨z.1, .inl z.2⟩
  · obtain ⟨a, c⟩ := tell_size h1 h2 l1.2 l2 hlt hnd h
    refine ⟨_, List.mem_cons_self, a, .inl (Nat.pow_le_pow_right (by omega) (by have := l1.1; omega)), 0, pow_pos' h1 i, c⟩
theorem Tells.swap {b1 b2 : Nat} {w1 w2 : List Bool} {L : List Nat} (h : Tells b1 w1 b2 w2 L) : Tells b2 w2 b1 w1 L := by
  refine ⟨h.up, fun e he => ⟨(h.bd e he).1, (h.bd e he).2.symm⟩, fun n d hnd z => ?_⟩
  obtain ⟨e, he, hed, hf, n', hn', hz⟩ := h.tell n d hnd z.swap
  refine ⟨e, he, hed, ?_, n', hn', hz.swap⟩
  rcases hf with z | z | ⟨i1, i2, a, b, c, e2, f⟩
  · exact .inr (.inl z)
  · exact .inl z
  · refine .inr (.inr ⟨i2, i1, b, a, c.symm, e2.symm, ?_⟩)
    rw [← e2, Nat.min_comm]
    exact f
/-- both have the same size, and the first has the less base -/
theorem tells_equal {b1 b2 i1 i2 : Nat} {w1 w2 : List Bool} (h1 : 2 ≤ b1) (h2 : 2 ≤ b2) (l1 : LowO w1 (some i1)) (l2 : LowO w2 (some i2)) (e : b1 ^ i1 = b2 ^ i2) (hlt : b1 < b2) : Tells b1 w1 b2 w2 (duesOf (b1 ^ i1) (min b1 b2)) := by
  refine ⟨dues_up (by omega), fun x hx => ?_, fun n d hnd h => ?_⟩
  · have z := dues_bd h1 h2 l1.1 rfl x hx
    exact ⟨z.1, .inl z.2⟩
  · obtain ⟨big, q, s⟩ := tell_less h1 h2 l1.2 l2.2 e hlt hnd h
    have em : min b1 b2 = b1 := by omega
    rw [em]
    have p1 := pow_pos' h1 i1
    have le : b1 * b1 ^ i1 ≤ (b1 + 1) * b1 ^ i1 := Nat.mul_le_mul_right _ (by omega)
    cases hw : wordAt w1 (i1 + 1) with
    | false => exact ⟨b1 * b1 ^ i1, List.mem_cons_of_mem _ List.mem_cons_self, big, .inr (.inr ⟨i1, i2, l1.1, l2.1, by omega, e, by rw [em]; exact le⟩), 0, Nat.mul_pos (by omega) p1, q hw⟩
    | true =>
      obtain ⟨big2, n', hn', hz⟩ := s hw
      exact ⟨(b1 + 1) * b1 ^ i1, List.mem_cons_of_mem _ (List.mem_cons_of_mem _ List.mem_cons_self), big2, .inr (.inr ⟨i1, i2, l1.1, l2.1, by omega, e, by rw [em]; exact Nat.le_refl _⟩), n', hn', hz⟩
/-- all bases that differ, where a stack stands in one at least -/
def minO (b1 b2 : Nat) : Option Nat → Option Nat → Option Nat
  | none, none => none
  | some i, none => some (b1 ^ i)
  | none, some j => some (b2 ^ j)
  | some i, some j => some (min (b1 ^ i) (b2 ^ j))
theorem tells_ne {b1 b2 s : Nat} {w1 w2 : List Bool} {o1 o2 : Option Nat} (h1 : 2 ≤ b1) (h2 : 2 ≤ b2) (l1 : LowO w1 o1) (l2 : LowO w2 o2) (hne : b1 ≠ b2) (hs : minO b1 b2 o1 o2 = some s) : Tells b1 w1 b2 w2 (duesOf s (min b1 b2)) := by
  have right : ∀ {j : Nat} {o : Option Nat}, LowO w1 o → LowO w2 (some j) → (∀ i, o = some i → b2 ^ j < b1 ^ i) → Tells b1 w1 b2 w2 (duesOf (b2 ^ j) (min b1 b2)) := fun {j o} a c e => by
    have := (tells_less h2 h1 c a e).swap
    rw [Nat.min_comm] at this
    exact this
  match o1, o2, l1, l2, hs with
  | some i, none, l1, l2, hs =>
    cases hs
    exact tells_less h1 h2 l1 l2 fun j z => by cases z
  | none, some j, l1, l2, hs =>
    cases hs
    exact right l1 l2 fun j z => by cases z
  | some i, some j, l1, l2, hs =>
    have hs : min (b1 ^ i) (b2 ^ j) = s := Option.some.inj hs
    rcases Nat.lt_trichotomy (b1 ^ i) (b2 ^ j) with l | l | l
    · rw [show s = b1 ^ i by omega]
      exact tells_less h1 h2 l1 l2 fun x z => by cases z; exact l
    · rw [show s = b1 ^ i by omega]
      rcases Nat.lt_or_gt_of_ne hne with c | c
      · exact tells_equal h1 h2 l1 l2 l c
      · have := (tells_equal h2 h1 l2 l1 l.symm c).swap
        rw [Nat.min_comm, ← l] at this
        exact this
    · rw [show s = b2 ^ j by omega]
      exact right l1 l2 fun x z => by cases z; exact l
/-- one after another -/
theorem tells_done {b1 b2 : Nat} {w1 w2 : List Bool} {L : List Nat} (h : Tells b1 w1 b2 w2 L) (hno : ∀ e ∈ L, ∀ n, n < e → ¬ Dif b1 w1 b2 w2 n e) : ToldP b1 w1 b2 w2 none := fun n d hnd z => by
  obtain ⟨e, he, _, _, n', hn', hz⟩ := h.tell n d hnd z
  exact hno e he n' hn' hz
theorem tells_at {b1 b2 e m : Nat} {w1 w2 : List Bool} {L1 L2 : List Nat} (h : Tells b1 w1 b2 w2 (L1 ++ e :: L2)) (hno : ∀ e ∈ L1, ∀ n, n < e → ¬ Dif b1 w1 b2 w2 n e) (hm : FstP b1 w1 b2 w2 e (some m)) : ToldP b1 w1 b2 w2 (some (e, m)) := by
  refine ⟨hm.1, hm.2.1, fun n d hnd z => ?_⟩
  obtain ⟨e', he', hed, _, n', hn', hz⟩ := h.tell n d hnd z
  have hle : e ≤ e' := by
    rcases List.mem_append.mp he' with y | y
    · exact absurd hz (hno e' y n' hn')
    · rcases List.mem_cons.mp y with y | y
      · omega
      · exact (List.pairwise_cons.mp (List.pairwise_append.mp h.up).2.1).1 e' y
  rcases Nat.lt_or_ge e d with l | l
  · exact .inl l
  · have ed : e = d := by omega
    subst ed
    exact .inr ⟨rfl, hm.2.2 n hnd z⟩
/-- the least of sorted ticks where they differ is the least of all -/
theorem fst_at {b1 b2 d k1 k2 m : Nat} {w1 w2 : List Bool} {S S1 S2 : List Nat} (h1 : 2 ≤ b1) (h2 : 2 ≤ b2) (hd : 0 < d) (hk1 : IsLev b1 0 d k1) (hk2 : IsLev b2 0 d k2) (hS : ∀ t, t ∈ S ↔ t ∈ ticksOf b1 d k1 ++ ticksOf b2 d k2) (hup : S.Pairwise (· ≤ ·)) (e : S = S1 ++ m :: S2)
    (hno : ∀ t ∈ S1, ¬ Dif b1 w1 b2 w2 t d) (hm : Dif b1 w1 b2 w2 m d) : FstP b1 w1 b2 w2 d (some m) := by
  have hmem : m ∈ S := by rw [e]; exact List.mem_append.mpr (.inr List.mem_cons_self)
  refine ⟨?_, hm, fun n hnd z => ?_⟩
  · rcases List.mem_append.mp ((hS m).mp hmem) with y | y
    · exact ticks_lt h1 hd y
    · exact ticks_lt h2 hd y
  · obtain ⟨t, ht, htn, hz⟩ := ticks_tell h1 h2 hk1 hk2 hnd z
    have htS := (hS t).mpr ht
    rw [e] at htS hup
    rcases List.mem_append.mp htS with y | y
    · exact absurd hz (hno t y)
    · rcases List.mem_cons.mp y with y | y
      · omega
      · exact Nat.le_trans ((List.pairwise_cons.mp (List.pairwise_append.mp hup).2.1).1 t y) htn
theorem fst_none {b1 b2 d k1 k2 : Nat} {w1 w2 : List Bool} {S : List Nat} (h1 : 2 ≤ b1) (h2 : 2 ≤ b2) (hk1 : IsLev b1 0 d k1) (hk2 : IsLev b2 0 d k2) (hS : ∀ t, t ∈ S ↔ t ∈ ticksOf b1 d k1 ++ ticksOf b2 d k2)
    (hno : ∀ t ∈ S, ¬ Dif b1 w1 b2 w2 t d) : FstP b1 w1 b2 w2 d none := fun n hnd z => by
  obtain ⟨t, ht, _, hz⟩ := ticks_tell h1 h2 hk1 hk2 hnd z
  exact hno t ((hS t).mpr ht) hz
/-- small wheels are told apart up to 130 -/
theorem due_130 {b1 l1 b2 l2 e : Nat} (h1 : 2 ≤ b1) (h1' : b1 ≤ 5) (h2 : 2 ≤ b2) (h2' : b2 ≤ 5) (k1 : l1 ≤ 4) (k2 : l2 ≤ 4) (h : DueF b1 l1 b2 l2 e) : e ≤ 130 := by
  have pw : ∀ {b l : Nat}, 2 ≤ b → b ≤ 5 → l ≤ 4 → b ^ (l - 1) ≤ 125 := fun {b l} hb hb5 hl =>
    Nat.le_trans (Nat.pow_le_pow_right (by omega) (show l - 1 ≤ 3 by omega)) (Nat.le_trans (Nat.pow_le_pow_left hb5 3) (by decide))
  rcases h with z | z | ⟨i1, i2, a, c, hne, hp, hz⟩
  · have := pw h1 h1' k1; omega
  · have := pw h2 h2' k2; omega
  · have key : ∀ x1 : Fin 6, ∀ x2 : Fin 6, ∀ y1 : Fin 4, ∀ y2 : Fin 4, 2 ≤ x1.val → 2 ≤ x2.val → x1.val ≠ x2.val → x1.val ^ y1.val = x2.val ^ y2.val → (min x1.val x2.val + 1) * x1.val ^ y1.val ≤ 130 := by decide +kernel
    exact Nat.le_trans hz (key ⟨b1, by omega⟩ ⟨b2, by omega⟩ ⟨i1, by omega⟩ ⟨i2, by omega⟩ h1 h2 hne hp)
/-- what the search of the dues up to 130 finds -/
theorem told_130 {b1 b2 : Nat} {w1 w2 : List Bool} {L : List Nat} (h1 : 2 ≤ b1) (h1' : b1 ≤ 5) (h2 : 2 ≤ b2) (h2' : b2 ≤ 5) (k1 : w1.length ≤ 4) (k2 : w2.length ≤ 4) (T : Tells b1 w1 b2 w2 L) (h : ∀ d, d ≤ 130 → ∀ n, n < d → ¬ Dif b1 w1 b2 w2 n d) : ToldP b1 w1 b2 w2 none := fun n d hnd z => by
  obtain ⟨e, _, _, hf, n', hn', hz⟩ := T.tell n d hnd z
  exact h e (due_130 h1 h1' h2 h2' k1 k2 hf) n' hn' hz
/-! ### levels found by sightings: equations as lists of levels -/
def Asc (l : List Nat) : Prop := l.Pairwise (· < ·)
theorem asc_uniq : ∀ {l m : List Nat}, Asc l → Asc m → (∀ x, x ∈ l ↔ x ∈ m) → l = m
  | [], [], _, _, _ => rfl
  | [], y :: m, _, _, h => absurd ((h y).mpr List.mem_cons_self) (by simp)
  | x :: l, [], _, _, h => absurd ((h x).mp List.mem_cons_self) (by simp)
  | x :: l, y :: m, hl, hm, h => by
    have hl := List.pairwise_cons.mp hl
    have hm := List.pairwise_cons.mp hm
    have e : x = y := by
      rcases List.mem_cons.mp ((h x).mp List.mem_cons_self) with z | z
      · exact z
      · rcases List.mem_cons.mp ((h y).mpr List.mem_cons_self) with u | u
        · exact u.symm
        · have := hl.1 y u
          have := hm.1 x z
          omega
    subst e
    rw [asc_uniq hl.2 hm.2 fun z => ⟨fun hz => ?_, fun hz => ?_⟩]
    · rcases List.mem_cons.mp ((h z).mp (List.mem_cons_of_mem _ hz)) with u | u
      · have := hl.1 z hz
        omega
      · exact u
    · rcases List.mem_cons.mp ((h z).mpr (List.mem_cons_of_mem _ hz)) with u | u
      · have := hm.1 z hz
        omega
      · exact u
theorem Asc.few {l : List Nat} {B : Nat} (h : Asc l) (hb : ∀ x ∈ l, x < B) : l.length ≤ B := by
  have nd : l.Nodup := h.imp fun h => by omega
  have z := nat_nodup_len l (List.range B) nd fun x hx => List.mem_range.mpr (hb x hx)
  rw [List.length_range] at z
  exact z
/-- the last one is the greatest -/
theorem Asc.last {l : List Nat} (h : Asc l) {x : Nat} (hx : l.getLast? = some x) : x ∈ l ∧ ∀ y ∈ l, y ≤ x := by
  obtain ⟨m, rfl⟩ := List.getLast?_eq_some_iff.mp hx
  have hp := List.pairwise_append.mp h
  refine ⟨by simp, fun y hy => ?_⟩
  rcases List.mem_append.mp hy with z | z
  · exact Nat.le_of_lt (hp.2.2 y z x (by simp))
  · rw [List.mem_singleton.mp z]
    exact Nat.le_refl _
abbrev Eqn := List Nat × Bool
def eqLow (many : Nat) (rs : List Row3) : List Nat := ((rs.map (·.1)).filter fun l => decide (l < many - 1)).reverse
/-- the levels whose words tell the side -/
def eqLv (many : Nat) (rs : List Row3) : List Nat := eqLow many rs ++ if (rs.length - (eqLow many rs).length) % 2 = 1 then [many - 1] else []
theorem tail_levs (b d : Nat) : ∀ k, ((tailOf b d k).map (·.1)).Pairwise (· > ·) ∧ ∀ x ∈ (tailOf b d k).map (·.1), x < k
  | 0 => ⟨List.Pairwise.nil, fun x hx => by simp [tailOf] at hx⟩
  | k + 1 => by
    have ih := tail_levs b d k
    unfold tailOf
    split
    · rw [List.map_cons]
      refine ⟨List.pairwise_cons.mpr ⟨fun x hx => ih.2 x hx, ih.1⟩, fun x hx => ?_⟩
      rcases List.mem_cons.mp hx with z | z
      · rw [z]
        exact Nat.lt_succ_self k
      · exact Nat.lt_succ_of_lt (ih.2 x z)
    · exact ⟨ih.1, fun x hx => Nat.lt_succ_of_lt (ih.2 x hx)⟩
theorem rows_levs (b n d k : Nat) : ((rowsOf b n d k).map (·.1)).Pairwise (· > ·) := by
  unfold rowsOf
  rw [List.map_cons]
  exact List.pairwise_cons.mpr ⟨fun x hx => (tail_levs b d k).2 x hx, (tail_levs b d k).1⟩
theorem low_asc {many : Nat} {rs : List Row3} (h : (rs.map (·.1)).Pairwise (· > ·)) : Asc (eqLow many rs) ∧ ∀ x ∈ eqLow many rs, x < many - 1 := by
  unfold eqLow
  refine ⟨?_, fun x hx => ?_⟩
  · unfold Asc
    rw [List.pairwise_reverse]
    exact h.filter _
  · have := (List.mem_filter.mp (List.mem_reverse.mp hx)).2
    exact of_decide_eq_true this
theorem eq_asc {many : Nat} {rs : List Row3} (hm : 1 ≤ many) (h : (rs.map (·.1)).Pairwise (· > ·)) : Asc (eqLv many rs) ∧ ∀ x ∈ eqLv many rs, x < many := by
  have ⟨h1, h2⟩ := low_asc (many := many) h
  unfold eqLv
  split
  · refine ⟨List.pairwise_append.mpr ⟨h1, List.pairwise_singleton _ _, fun x hx y hy => ?_⟩, fun x hx => ?_⟩
    · rw [List.mem_singleton.mp hy]
      exact h2 x hx
    · rcases List.mem_append.mp hx with z | z
      · have := h2 x z
        omega
      · rw [List.mem_singleton.mp z]
        omega
  · rw [List.append_nil]
    exact ⟨h1, fun x hx => by have := h2 x hx; omega⟩
/-- the levels that only one of two has -/
def symL (l m : List Nat) : List Nat := (List.range 64).filter fun j => decide (j ∈ l) != decide (j ∈ m)
theorem sym_asc (l m : List Nat) : Asc (symL l m) := List.pairwise_lt_range.filter _
theorem sym_mem {l m : List Nat} (h1 : ∀ x ∈ l, x < 64) (h2 : ∀ x ∈ m, x < 64) (x : Nat) : x ∈ symL l m ↔ (decide (x ∈ l) != decide (x ∈ m)) = true := by
  unfold symL
  rw [List.mem_filter, List.mem_range]
  refine ⟨fun h => h.2, fun h => ⟨?_, h⟩⟩
  by_cases c : x ∈ l
  · exact h1 x c
  · by_cases c2 : x ∈ m
    · exact h2 x c2
    · rw [decide_eq_false c, decide_eq_false c2] at h
      cases h
/-- what is left of an equation, by the known ones -/
def red (kn : Nat → Option Eqn) : Nat → Eqn → Eqn
  | 0, e => e
  | f + 1, e => match e.1.getLast? with
    | none => e
    | some l => match kn l with
      | none => e
      | some g => red kn f (symL e.1 g.1, e.2 != g.2)
/-- the known equations: each by its highest level -/
def KnOk (many : Nat) (kn : Nat → Option Eqn) : Prop := ∀ l g, kn l = some g → Asc g.1 ∧ g.1.getLast? = some l ∧ l < many
theorem KnOk.lt {many : Nat} {kn : Nat → Option Eqn} (h : KnOk many kn) {l : Nat} {g : Eqn} (e : kn l = some g) : ∀ x ∈ g.1, x < many := fun x hx => by
  have ⟨h1, h2, h3⟩ := h l g e
  have := (h1.last h2).2 x hx
  omega
/-- a step of the reduction is below the level that it takes away -/
theorem sym_less {l m : List Nat} {x : Nat} (hl : Asc l) (hm : Asc m) (h1 : l.getLast? = some x) (h2 : m.getLast? = some x) (hx : x < 64) : ∀ y ∈ symL l m, y < x := fun y hy => by
  have a := hl.last h1
  have b := hm.last h2
  have z := (sym_mem (fun y hy => by have := a.2 y hy; omega) (fun y hy => by have := b.2 y hy; omega) y).mp hy
  have le : y ≤ x := by
    by_cases c : y ∈ l
    · exact a.2 y c
    · by_cases c2 : y ∈ m
      · exact b.2 y c2
      · rw [decide_eq_false c, decide_eq_false c2] at z
        cases z
  rcases Nat.lt_or_eq_of_le le with c | c
  · exact c
  · rw [c, decide_eq_true a.1, decide_eq_true b.1] at z
    cases z
theorem red_ok {many : Nat} {kn : Nat → Option Eqn} (hm : many ≤ 60) (h : KnOk many kn) : ∀ (f : Nat) (e : Eqn), Asc e.1 → (∀ x ∈ e.1, x < many) → (∀ x ∈ e.1, x < f) →
    Asc (red kn f e).1 ∧ (∀ x ∈ (red kn f e).1, x < many) ∧ ∀ l, (red kn f e).1.getLast? = some l → kn l = none
  | 0, e, h1, h2, h3 => by
    have e0 : e.1 = [] := List.eq_nil_iff_forall_not_mem.mpr fun x hx => Nat.not_lt_zero x (h3 x hx)
    refine ⟨h1, h2, fun l hl => ?_⟩
    have hl : e.1.getLast? = some l := hl
    rw [e0] at hl
    cases hl
  | f + 1, e, h1, h2, h3 => by
    unfold red
    cases c : e.1.getLast? with
    | none => exact ⟨h1, h2, fun l hl => by rw [c] at hl; cases hl⟩
    | some l =>
      dsimp only
      cases d : kn l with
      | none =>
        refine ⟨h1, h2, fun y hy => ?_⟩
        have hy : e.1.getLast? = some y := hy
        rw [c] at hy
        rw [← Option.some.inj hy]
        exact d
      | some g =>
        have ⟨g1, g2, g3⟩ := h l g d
        have less := sym_less h1 g1 c g2 (by omega)
        have hl := h3 l (h1.last c).1
        exact red_ok hm h f _ (sym_asc _ _) (fun x hx => by have := less x hx; omega) (fun x hx => by have := less x hx; omega)
theorem red_none {kn : Nat → Option Eqn} {e : Eqn} (h : e.1 = []) : ∀ f, red kn f e = e
  | 0 => rfl
  | f + 1 => by
    unfold red
    rw [h]
    rfl
theorem red_stop {kn : Nat → Option Eqn} {e : Eqn} {l : Nat} (h : e.1.getLast? = some l) (hk : kn l = none) : ∀ f, red kn f e = e
  | 0 => rfl
  | f + 1 => by
    unfold red
    rw [h]
    dsimp only
    rw [hk]
theorem red_step {kn : Nat → Option Eqn} {e g : Eqn} {l f : Nat} (h : e.1.getLast? = some l) (hk : kn l = some g) : red kn (f + 1) e = red kn f (symL e.1 g.1, e.2 != g.2) := by
  show (match e.1.getLast? with | none => e | some l => match kn l with | none => e | some g => red kn f (symL e.1 g.1, e.2 != g.2)) = _
  rw [h]
  dsimp only
  rw [hk]
/-! ### levels found by sightings: the least list and the number of lists -/
def wordF (ws : List Bool) (e : Eqn) : Bool := decide ((e.1.dropLast.filter fun l => ws.getD l false).length % 2 = 1) != e.2
def leastW (kn : Nat → Option Eqn) : Nat → List Bool × Nat
  | 0 => ([], 1)
  | n + 1 => match kn n with
    | some g => ((leastW kn n).1 ++ [wordF (leastW kn n).1 g], (leastW kn n).2)
    | none => ((leastW kn n).1 ++ [false], (leastW kn n).2 * 2)
theorem least_len (kn : Nat → Option Eqn) : ∀ n, (leastW kn n).1.length = n
  | 0 => rfl
  | n + 1 => by
    have ih := least_len kn n
    unfold leastW
    split <;> (rw [List.length_append, ih]; rfl)
theorem least_cnt (kn : Nat → Option Eqn) : ∀ n, (leastW kn n).2 ≤ 2 ^ n
  | 0 => Nat.le_refl _
  | n + 1 => by
    have ih := least_cnt kn n
    unfold leastW
    rw [Nat.pow_succ]
    split
    · show (leastW kn n).2 ≤ _
      omega
    · show (leastW kn n).2 * 2 ≤ _
      omega
/-- the equations one by one: the number of the first that can't be, or what is known -/
def runE : List Eqn → Nat → (Nat → Option Eqn) → Nat ⊕ (Nat → Option Eqn)
  | [], _, kn => .inr kn
  | e :: es, i, kn => match (red kn 64 e).1.getLast? with
    | some l => runE es (i + 1) (fun j => if j = l then some (red kn 64 e) else kn j)
    | none => if (red kn 64 e).2 = true then .inl (i + 1) else runE es (i + 1) kn
open Classical in
noncomputable def eqnOf (b many : Nat) (s : Nat × Nat × Bool) : Eqn := if h : ∃ k, IsLev b s.1 s.2.1 k then (eqLv many (rowsOf b s.1 s.2.1 (Classical.choose h)), s.2.2) else ([], s.2.2)
theorem eqnOf_eq {b many k : Nat} {s : Nat × Nat × Bool} (hk : IsLev b s.1 s.2.1 k) : eqnOf b many s = (eqLv many (rowsOf b s.1 s.2.1 k), s.2.2) := by
  have e : ∃ k, IsLev b s.1 s.2.1 k := ⟨k, hk⟩
  unfold eqnOf
  rw [dif_pos e, (Classical.choose_spec e).uniq hk]
theorem eqnOf_asc {b many : Nat} {s : Nat × Nat × Bool} (hm : 1 ≤ many) : Asc (eqnOf b many s).1 ∧ ∀ x ∈ (eqnOf b many s).1, x < many := by
  unfold eqnOf
  split
  · exact eq_asc hm (rows_levs _ _ _ _)
  · exact ⟨List.Pairwise.nil, fun x hx => nomatch hx⟩
noncomputable def seenR (b many : Nat) (ss : List (Nat × Nat × Bool)) : Nat ⊕ (List Bool × Nat) := match runE (ss.map (eqnOf b many)) 0 (fun _ => none) with
  | .inl k => .inl k
  | .inr kn => .inr (leastW kn many)
theorem seenR_inl {b many k : Nat} {ss : List (Nat × Nat × Bool)} (h : runE (ss.map (eqnOf b many)) 0 (fun _ => none) = .inl k) : seenR b many ss = .inl k := by
  unfold seenR
  rw [h]
theorem seenR_inr {b many : Nat} {ss : List (Nat × Nat × Bool)} {kn : Nat → Option Eqn} (h : runE (ss.map (eqnOf b many)) 0 (fun _ => none) = .inr kn) : seenR b many ss = .inr (leastW kn many) := by
  unfold seenR
  rw [h]
def topS (i : Nat) : Stmt := PySem.Challenge.pw_timerdeque_k31_plans_and_sightings_refus.main.body.getD i (.Pass ⟨0, 0, 0, 0⟩)
abbrev s_is_integer : Stmt := topS 13
abbrev N_is_integer : List Str := ["given"]
theorem sc_is_integer : FnScope N_is_integer ["given"] (defScope s_is_integer) := by
  refine ⟨rfl, rfl, rfl, ?_, rfl, ?_, ?_⟩ <;> decide +kernel
abbrev s_is_word : Stmt := topS 14
abbrev N_is_word : List Str := ["given"]
theorem sc_is_word : FnScope N_is_word ["given"] (defScope s_is_word) := by
  refine ⟨rfl, rfl, rfl, ?_, rfl, ?_, ?_⟩ <;> decide +kernel
abbrev s_is_base : Stmt := topS 15
abbrev N_is_base : List Str := ["given"]
theorem sc_is_base : FnScope N_is_base ["given"] (defScope s_is_base) := by
  refine ⟨rfl, rfl, rfl, ?_, rfl, ?_, ?_⟩ <;> decide +kernel
abbrev s_is_length : Stmt := topS 16
abbrev N_is_length : List Str := ["given"]
theorem sc_is_length : FnScope N_is_length ["given"] (defScope s_is_length) := by
  refine ⟨rfl, rfl, rfl, ?_, rfl, ?_, ?_⟩ <;> decide +kernel
abbrev s_are_levels : Stmt := topS 17
abbrev N_are_levels : List Str := ["given", "word"]
theorem sc_are_levels : FnScope N_are_levels ["given"] (defScope s_are_levels) := by
  refine ⟨rfl, rfl, rfl, ?_, rfl, ?_, ?_⟩ <;> decide +kernel
abbrev s_is_tick : Stmt := topS 18
abbrev N_is_tick : List Str := ["given", "least"]
theorem sc_is_tick : FnScope N_is_tick ["given", "least"] (defScope s_is_tick) := by
  refine ⟨rfl, rfl, rfl, ?_, rfl, ?_, ?_⟩ <;> decide +kernel
abbrev s_check_base : Stmt := topS 19
abbrev N_check_base : List Str := ["base"]
theorem sc_check_base : FnScope N_check_base ["base"] (defScope s_check_base) := by
  refine ⟨rfl, rfl, rfl, ?_, rfl, ?_, ?_⟩ <;> decide +kernel
abbrev s_check_levels : Stmt := topS 20
abbrev N_check_levels : List Str := ["levels"]
theorem sc_check_levels : FnScope N_check_levels ["levels"] (defScope s_check_levels) := by
  refine ⟨rfl, rfl, rfl, ?_, rfl, ?_, ?_⟩ <;> decide +kernel
abbrev s_check_tick : Stmt := topS 21
abbrev N_check_tick : List Str := ["tick", "least"]
theorem sc_check_tick : FnScope N_check_tick ["tick", "least"] (defScope s_check_tick) := by
  refine ⟨rfl, rfl, rfl, ?_, rfl, ?_, ?_⟩ <;> decide +kernel
abbrev s_word_at : Stmt := topS 23
abbrev N_word_at : List Str := ["levels", "level"]
theorem sc_word_at : FnScope N_word_at ["levels", "level"] (defScope s_word_at) := by
  refine ⟨rfl, rfl, rfl, ?_, rfl, ?_, ?_⟩ <;> decide +kernel
abbrev s_level_and_size : Stmt := topS 24
abbrev N_level_and_size : List Str := ["base", "now", "due", "level", "size", "above_now", "above_due"]
theorem sc_level_and_size : FnScope N_level_and_size ["base", "now", "due"] (defScope s_level_and_size) := by
  refine ⟨rfl, rfl, rfl, ?_, rfl, ?_, ?_⟩ <;> decide +kernel
abbrev s_path : Stmt := topS 25
abbrev N_path : List Str := ["base", "now", "due", "level", "size", "rows", "tick", "digit"]
theorem sc_path : FnScope N_path ["base", "now", "due"] (defScope s_path) := by
  refine ⟨rfl, rfl, rfl, ?_, rfl, ?_, ?_⟩ <;> decide +kernel
abbrev s_goes_in_front : Stmt := topS 26
abbrev N_goes_in_front : List Str := ["base", "levels", "now", "due", "lowest", "front", "level", "digit", "tick"]
theorem sc_goes_in_front : FnScope N_goes_in_front ["base", "levels", "now", "due", "lowest"] (defScope s_goes_in_front) := by
  refine ⟨rfl, rfl, rfl, ?_, rfl, ?_, ?_⟩ <;> decide +kernel
abbrev s_check_order : Stmt := topS 28
abbrev N_check_order : List Str := ["order", "number"]
theorem sc_check_order : FnScope N_check_order ["order"] (defScope s_check_order) := by
  refine ⟨rfl, rfl, rfl, ?_, rfl, ?_, ?_⟩ <;> decide +kernel
abbrev s_ticks_and_sides : Stmt := topS 29
abbrev N_ticks_and_sides : List Str := ["base", "levels", "start", "due", "rows", "front", "level", "digit", "tick"]
theorem sc_ticks_and_sides : FnScope N_ticks_and_sides ["base", "levels", "start", "due"] (defScope s_ticks_and_sides) := by
  refine ⟨rfl, rfl, rfl, ?_, rfl, ?_, ?_⟩ <;> decide +kernel
abbrev s_sides_wanted : Stmt := topS 30
abbrev N_sides_wanted : List Str := ["order", "wanted", "low", "high", "number", "place"]
theorem sc_sides_wanted : FnScope N_sides_wanted ["order"] (defScope s_sides_wanted) := by
  refine ⟨rfl, rfl, rfl, ?_, rfl, ?_, ?_⟩ <;> decide +kernel
abbrev s_set_ticks : Stmt := topS 31
abbrev N_set_ticks : List Str := ["base", "levels", "start", "due", "order", "rows", "ticks", "at", "front"]
theorem sc_set_ticks : FnScope N_set_ticks ["base", "levels", "start", "due", "order"] (defScope s_set_ticks) := by
  refine ⟨rfl, rfl, rfl, ?_, rfl, ?_, ?_⟩ <;> decide +kernel
abbrev s_size_of_lowest_stack : Stmt := topS 32
abbrev N_size_of_lowest_stack : List Str := ["base", "levels", "size", "word"]
theorem sc_size_of_lowest_stack : FnScope N_size_of_lowest_stack ["base", "levels"] (defScope s_size_of_lowest_stack) := by
  refine ⟨rfl, rfl, rfl, ?_, rfl, ?_, ?_⟩ <;> decide +kernel
abbrev s_powers : Stmt := topS 33
abbrev N_powers : List Str := ["base", "many", "sizes"]
theorem sc_powers : FnScope N_powers ["base", "many"] (defScope s_powers) := by
  refine ⟨rfl, rfl, rfl, ?_, rfl, ?_, ?_⟩ <;> decide +kernel
abbrev s_telling_dues : Stmt := topS 34
abbrev N_telling_dues : List Str := ["base", "levels", "other_base", "other_levels", "found", "size", "sizes", "least"]
theorem sc_telling_dues : FnScope N_telling_dues ["base", "levels", "other_base", "other_levels"] (defScope s_telling_dues) := by
  refine ⟨rfl, rfl, rfl, ?_, rfl, ?_, ?_⟩ <;> decide +kernel
abbrev s_first_difference : Stmt := topS 35
abbrev N_first_difference : List Str := ["base", "levels", "other_base", "other_levels", "due", "ticks", "now", "front", "level", "digit", "tick"]
theorem sc_first_difference : FnScope N_first_difference ["base", "levels", "other_base", "other_levels", "due"] (defScope s_first_difference) := by
  refine ⟨rfl, rfl, rfl, ?_, rfl, ?_, ?_⟩ <;> decide +kernel
abbrev s_told_apart : Stmt := topS 36
abbrev N_told_apart : List Str := ["base", "levels", "other_base", "other_levels", "due", "now"]
theorem sc_told_apart : FnScope N_told_apart ["base", "levels", "other_base", "other_levels"] (defScope s_told_apart) := by
  refine ⟨rfl, rfl, rfl, ?_, rfl, ?_, ?_⟩ <;> decide +kernel
abbrev s_is_sighting : Stmt := topS 39
abbrev N_is_sighting : List Str := ["given", "now", "due", "told"]
theorem sc_is_sighting : FnScope N_is_sighting ["given"] (defScope s_is_sighting) := by
  refine ⟨rfl, rfl, rfl, ?_, rfl, ?_, ?_⟩ <;> decide +kernel
abbrev s_check_many : Stmt := topS 40
abbrev N_check_many : List Str := ["many"]
theorem sc_check_many : FnScope N_check_many ["many"] (defScope s_check_many) := by
  refine ⟨rfl, rfl, rfl, ?_, rfl, ?_, ?_⟩ <;> decide +kernel
abbrev s_check_seen : Stmt := topS 41
abbrev N_check_seen : List Str := ["seen", "given"]
theorem sc_check_seen : FnScope N_check_seen ["seen"] (defScope s_check_seen) := by
  refine ⟨rfl, rfl, rfl, ?_, rfl, ?_, ?_⟩ <;> decide +kernel
abbrev s_equation : Stmt := topS 42
abbrev N_equation : List Str := ["base", "many", "sighting", "now", "due", "told", "rows", "levels", "level", "digit", "tick"]
theorem sc_equation : FnScope N_equation ["base", "many", "sighting"] (defScope s_equation) := by
  refine ⟨rfl, rfl, rfl, ?_, rfl, ?_, ?_⟩ <;> decide +kernel
abbrev s_reduced : Stmt := topS 43
abbrev N_reduced : List Str := ["levels", "odd", "known", "others", "other_odd"]
theorem sc_reduced : FnScope N_reduced ["levels", "odd", "known"] (defScope s_reduced) := by
  refine ⟨rfl, rfl, rfl, ?_, rfl, ?_, ?_⟩ <;> decide +kernel
abbrev s_word_that_follows : Stmt := topS 44
abbrev N_word_that_follows : List Str := ["words", "levels", "odd", "stacks", "level"]
theorem sc_word_that_follows : FnScope N_word_that_follows ["words", "levels", "odd"] (defScope s_word_that_follows) := by
  refine ⟨rfl, rfl, rfl, ?_, rfl, ?_, ?_⟩ <;> decide +kernel
abbrev s_least_and_count : Stmt := topS 45
abbrev N_least_and_count : List Str := ["many", "known", "words", "count", "level", "levels", "odd"]
theorem sc_least_and_count : FnScope N_least_and_count ["many", "known"] (defScope s_least_and_count) := by
  refine ⟨rfl, rfl, rfl, ?_, rfl, ?_, ?_⟩ <;> decide +kernel
abbrev s_levels_seen : Stmt := topS 46
abbrev N_levels_seen : List Str := ["base", "many", "seen", "known", "at", "sighting", "levels", "odd", "first", "count"]
theorem sc_levels_seen : FnScope N_levels_seen ["base", "many", "seen"] (defScope s_levels_seen) := by
  refine ⟨rfl, rfl, rfl, ?_, rfl, ?_, ?_⟩ <;> decide +kernel
abbrev s__law_cell_at : Stmt := topS 48
abbrev N__law_cell_at : List Str := ["_law_script", "_law_k"]
theorem sc__law_cell_at : FnScope N__law_cell_at ["_law_script", "_law_k"] (defScope s__law_cell_at) := by
  refine ⟨rfl, rfl, rfl, ?_, rfl, ?_, ?_⟩ <;> decide +kernel
abbrev s__law_mixed : Stmt := topS 49
abbrev N__law_mixed : List Str := ["_law_cell", "_law_k", "_law_low"]
theorem sc__law_mixed : FnScope N__law_mixed ["_law_cell", "_law_k"] (defScope s__law_mixed) := by
  refine ⟨rfl, rfl, rfl, ?_, rfl, ?_, ?_⟩ <;> decide +kernel
abbrev s__law_source : Stmt := topS 50
abbrev N__law_source : List Str := ["_law_script", "_law_k", "_law_cell"]
theorem sc__law_source : FnScope N__law_source ["_law_script", "_law_k"] (defScope s__law_source) := by
  refine ⟨rfl, rfl, rfl, ?_, rfl, ?_, ?_⟩ <;> decide +kernel
abbrev s__law_next : Stmt := topS 51
abbrev N__law_next : List Str := ["_law_source_here", "_law_most", "_law_found"]
theorem sc__law_next : FnScope N__law_next ["_law_source_here", "_law_most"] (defScope s__law_next) := by
  refine ⟨rfl, rfl, rfl, ?_, rfl, ?_, ?_⟩ <;> decide +kernel
abbrev s__law_base : Stmt := topS 52
abbrev N__law_base : List Str := ["_law_source_here"]
theorem sc__law_base : FnScope N__law_base ["_law_source_here"] (defScope s__law_base) := by
  refine ⟨rfl, rfl, rfl, ?_, rfl, ?_, ?_⟩ <;> decide +kernel
abbrev s__law_words_of : Stmt := topS 53
abbrev N__law_words_of : List Str := ["_law_source_here", "_law_at"]
theorem sc__law_words_of : FnScope N__law_words_of ["_law_source_here"] (defScope s__law_words_of) := by
  refine ⟨rfl, rfl, rfl, ?_, rfl, ?_, ?_⟩ <;> decide +kernel
abbrev s__law_word : Stmt := topS 54
abbrev N__law_word : List Str := ["_law_ask_here", "e", "_law_kinds"]
theorem sc__law_word : FnScope N__law_word ["_law_ask_here"] (defScope s__law_word) := by
  refine ⟨rfl, rfl, rfl, ?_, rfl, ?_, ?_⟩ <;> decide +kernel
abbrev s__law_bad_base : Stmt := topS 55
abbrev N__law_bad_base : List Str := ["_law_source_here"]
theorem sc__law_bad_base : FnScope N__law_bad_base ["_law_source_here"] (defScope s__law_bad_base) := by
  refine ⟨rfl, rfl, rfl, ?_, rfl, ?_, ?_⟩ <;> decide +kernel
abbrev s__law_bad_levels : Stmt := topS 56
abbrev N__law_bad_levels : List Str := ["_law_source_here", "_law_some"]
theorem sc__law_bad_levels : FnScope N__law_bad_levels ["_law_source_here"] (defScope s__law_bad_levels) := by
  refine ⟨rfl, rfl, rfl, ?_, rfl, ?_, ?_⟩ <;> decide +kernel
abbrev s__law_bad_tick : Stmt := topS 57
abbrev N__law_bad_tick : List Str := ["_law_source_here"]
theorem sc__law_bad_tick : FnScope N__law_bad_tick ["_law_source_here"] (defScope s__law_bad_tick) := by
  refine ⟨rfl, rfl, rfl, ?_, rfl, ?_, ?_⟩ <;> decide +kernel
abbrev s__law_bad_order : Stmt := topS 58
abbrev N__law_bad_order : List Str := ["_law_source_here", "_law_some"]
theorem sc__law_bad_order : FnScope N__law_bad_order ["_law_source_here"] (defScope s__law_bad_order) := by
  refine ⟨rfl, rfl, rfl, ?_, rfl, ?_, ?_⟩ <;> decide +kernel
abbrev s__law_bad_seen : Stmt := topS 59
abbrev N__law_bad_seen : List Str := ["_law_source_here", "_law_some", "_law_odd"]
theorem sc__law_bad_seen : FnScope N__law_bad_seen ["_law_source_here"] (defScope s__law_bad_seen) := by
  refine ⟨rfl, rfl, rfl, ?_, rfl, ?_, ?_⟩ <;> decide +kernel
abbrev s__law_ask : Stmt := topS 60
abbrev N__law_ask : List Str := ["_law_way", "_law_row"]
theorem sc__law_ask : FnScope N__law_ask ["_law_way", "_law_row"] (defScope s__law_ask) := by
  refine ⟨rfl, rfl, rfl, ?_, rfl, ?_, ?_⟩ <;> decide +kernel
abbrev s__law_spoilt : Stmt := topS 61
abbrev N__law_spoilt : List Str := ["_law_source_here", "_law_row", "_law_odd", "_law_names", "_law_found", "_law_bad", "_law_time", "_law_at"]
theorem sc__law_spoilt : FnScope N__law_spoilt ["_law_source_here", "_law_row", "_law_odd", "_law_names"] (defScope s__law_spoilt) := by
  refine ⟨rfl, rfl, rfl, ?_, rfl, ?_, ?_⟩ <;> decide +kernel
abbrev s__law_rows : Stmt := topS 62
abbrev N__law_rows : List Str := ["_law_source_here", "_law_radix", "_law_words", "_law_begin", "_law_wished", "_law_row", "_law_late", "_law_odd", "_law_found", "_law_few"]
theorem sc__law_rows : FnScope N__law_rows ["_law_source_here"] (defScope s__law_rows) := by
  refine ⟨rfl, rfl, rfl, ?_, rfl, ?_, ?_⟩ <;> decide +kernel
abbrev s_law : Stmt := topS 63
abbrev N_law : List Str := ["_law_script", "_law_k", "_law_rows_here", "_law_kept", "_law_at", "_law_wish", "_law_row", "_law_way"]
theorem sc_law : FnScope N_law ["_law_script"] (defScope s_law) := by
  refine ⟨rfl, rfl, rfl, ?_, rfl, ?_, ?_⟩ <;> decide +kernel
/-- what the top leaves of built-in names -/
structure Tx (K : PySem.W.Frag) (mg : Str → Option Value) : Prop where
  b_isinstance : mg "isinstance" = none
  b_int : mg "int" = none
  b_bool : mg "bool" = none
  b_str : mg "str" = none
  b_all : mg "all" = none
  b_list : mg "list" = none
  b_len : mg "len" = none
  b_min : mg "min" = none
  b_sorted : mg "sorted" = none
  b_range : mg "range" = none
  b_reversed : mg "reversed" = none
  b_max : mg "max" = none
  b_tuple : mg "tuple" = none
  b_set : mg "set" = none
  b_enumerate : mg "enumerate" = none
  b_ValueError : mg "ValueError" = none
  b_repr : mg "repr" = none
/-! ### the program: what an integer is, bases, ticks -/
def slotInt (σ : L2.St) (i : Nat) : Nat := match σ[i]? with
  | some (some (.int z)) => z.toNat
  | _ => 0
theorem cast_div (a b : Nat) : (a : Int) / (b : Int) = ((a / b : Nat) : Int) := rfl
theorem cast_mod (a b : Nat) : (a : Int) % (b : Int) = ((a % b : Nat) : Int) := rfl
theorem cast_mul (a b : Nat) : (a : Int) * (b : Int) = ((a * b : Nat) : Int) := (Int.natCast_mul a b).symm
theorem cast_add (a b : Nat) : (a : Int) + (b : Int) = ((a + b : Nat) : Int) := rfl
theorem natAbs_cast (a : Nat) : ((a : Nat) : Int).natAbs = a := rfl
theorem divp_s {i j : Int} (b : Nat) (hj : 0 < j) (hi : i.natAbs < 2 ^ b) (h : b ≤ 3000 := by decide) : CDivP i j := by
  refine divp_ok hj ?_
  have := PyProof.Rows.intBits_le hi
  omega
section
variable {P : Program} {w : World} {K : PySem.W.Frag} {mg : Str → Option Value} {base : Heap}
def spIsInt : Sp := fun vs H Q _ => ∃ n : Int, vs = [.int n] ∧ Q (.bl true) H
theorem ok_is_integer {f : Addr} {fd : FuncData} (F : Fun K "is_integer" "is_integer" s_is_integer f fd) (T : Tx K mg) : FnOk P w K mg base CX0 1 f fd ["given"] spIsInt := by
  refine F.ok sc_is_integer (fun vs H Q E h => ?_) (fun cdv A outer s H vs Q E hr h => ?_)
  · obtain ⟨n, rfl, _⟩ := h
    rfl
  · obtain ⟨n, rfl, q⟩ := h
    refine ⟨_, (pss_one (ps_ret (pe_and (pe_callB (isiK (K := K) rfl) (by rfl) T.b_isinstance (by decide +kernel) (pa_cons (pv 0) (pa_cons (pe_bltn (v := .ty "int") (u := .type "int") (by rfl) T.b_int (by decide +kernel) rfl) pa_nil))) (pe_one (pe_not (pe_callB (isiK (K := K) rfl) (by rfl) T.b_isinstance (by decide +kernel) (pa_cons (pv 0) (pa_cons (pe_bltn (v := .ty "bool") (u := .type "bool") (by rfl) T.b_bool (by decide +kernel) rfl) pa_nil)))))))), ?_⟩
    refine ⟨.int n, rfl, .int n, _, _, _, true, rfl, .ty "int", .base (.int n), kit_ty (by decide +kernel), true, rfl, iteT ?_⟩
    exact ⟨.int n, rfl, .int n, _, _, _, false, rfl, .ty "bool", .base (.int n), kit_ty (by decide +kernel), false, rfl, q⟩
end
/-! a tick, of an integer -/
section
variable {P : Program} {w : World} {K : PySem.W.Frag} {mg : Str → Option Value} {base : Heap}
def spIsTick : Sp := fun vs H Q _ => ∃ n l : Int, vs = [.int n, .int l] ∧ l ≤ n ∧ Q (.bl true) H
theorem ok_is_tick {f : Addr} {fd : FuncData} (F : FunD K "is_tick" "is_tick" (defArgs s_is_tick) (defBody s_is_tick) (defScope s_is_tick) [.int 0] [] f fd) (T : Tx K mg) (h1 : Has P w K mg base 1 "is_integer" ["given"] [] spIsInt) : FnOk P w K mg base CX0 2 f fd ["given", "least"] spIsTick := by
  obtain ⟨f_is_integer, fd_is_integer, ds_is_integer, G_is_integer, m_is_integer, k_is_integer, b_is_integer, v_is_integer⟩ := h1
  refine F.ok sc_is_tick (fun vs H Q E h => ?_) (fun cdv A outer s H vs Q E hr h => ?_)
  · obtain ⟨n, l, rfl, _⟩ := h
    rfl
  · obtain ⟨n, l, rfl, l1, q⟩ := h
    refine ⟨_, PSs.nox (pss_one (ps_ret (pe_and (pe_call G_is_integer hr (by rfl) m_is_integer k_is_integer b_is_integer v_is_integer pass0 (pa_cons (pv 0) pa_nil)) (pe_one (pe_cmpR op_ge (pv 0) (pv 1) (nomark _)))))), ?_⟩
    refine ⟨.int n, rfl, n, rfl, true, rfl, iteT ?_⟩
    refine ⟨.int n, rfl, .int l, rfl, n, l, rfl, rfl, ?_⟩
    have e : V.bl (decide (n ≥ l)) = V.bl true := dT l1
    show Q (V.bl (decide (n ≥ l))) H
    rw [e]
    exact q
end
/-! ### bases and ticks -/
section
variable {P : Program} {w : World} {K : PySem.W.Frag} {mg : Str → Option Value} {base : Heap}
def spIsBase : Sp := fun vs H Q _ => ∃ n : Int, vs = [.int n] ∧ 2 ≤ n ∧ n ≤ 64 ∧ Q (.bl true) H
theorem ok_is_base {f : Addr} {fd : FuncData} (F : Fun K "is_base" "is_base" s_is_base f fd) (h1 : Has P w K mg base 1 "is_integer" ["given"] [] spIsInt) : FnOk P w K mg base CX0 2 f fd ["given"] spIsBase := by
  obtain ⟨f_is_integer, fd_is_integer, ds_is_integer, G_is_integer, m_is_integer, k_is_integer, b_is_integer, v_is_integer⟩ := h1
  refine F.ok sc_is_base (fun vs H Q E h => ?_) (fun cdv A outer s H vs Q E hr h => ?_)
  · obtain ⟨n, rfl, _⟩ := h
    rfl
  · obtain ⟨n, rfl, l1, l2, q⟩ := h
    refine ⟨_, (pss_one (ps_ret (pe_and (pe_call G_is_integer hr (by rfl) m_is_integer k_is_integer b_is_integer v_is_integer pass0 (pa_cons (pv 0) pa_nil)) (pe_one (pe_chain op_le op_le pe_int (pv 0) pe_int))))), ?_⟩
    refine ⟨.int n, rfl, n, rfl, true, rfl, iteT ?_⟩
    refine ⟨.int n, rfl, 2, n, rfl, rfl, true, congrArg V.bl (decide_eq_true l1), iteT ?_⟩
    refine ⟨n, 64, rfl, rfl, ?_⟩
    have e : V.bl (decide (n ≤ 64)) = V.bl true := dT l2
    show Q (V.bl (decide (n ≤ 64))) H
    rw [e]
    exact q
def spCheckBase : Sp := fun vs H Q _ => ∃ n : Int, vs = [.int n] ∧ 2 ≤ n ∧ n ≤ 64 ∧ Q .non H
theorem ok_check_base {f : Addr} {fd : FuncData} (F : Fun K "check_base" "check_base" s_check_base f fd) (h1 : Has P w K mg base 2 "is_base" ["given"] [] spIsBase) : FnOk P w K mg base CX0 3 f fd ["base"] spCheckBase := by
  obtain ⟨f_is_base, fd_is_base, ds_is_base, G_is_base, m_is_base, k_is_base, b_is_base, v_is_base⟩ := h1
  refine F.ok sc_check_base (fun vs H Q E h => ?_) (fun cdv A outer s H vs Q E hr h => ?_)
  · obtain ⟨n, rfl, _⟩ := h
    rfl
  · obtain ⟨n, rfl, l1, l2, q⟩ := h
    refine ⟨_, (pss_one (ps_if (pt_not (pt_val (pe_call G_is_base hr (by rfl) m_is_base k_is_base b_is_base v_is_base pass0 (pa_cons (pv 0) pa_nil))))
        (pss_one ps_never)
        pss_nil)), ?_⟩
    exact ⟨.int n, rfl, n, rfl, l1, l2, true, rfl, iteF q⟩
def spCheckTick : Sp := fun vs H Q _ => ∃ n l : Int, vs = [.int n, .int l] ∧ l ≤ n ∧ Q .non H
theorem ok_check_tick {f : Addr} {fd : FuncData} (F : FunD K "check_tick" "check_tick" (defArgs s_check_tick) (defBody s_check_tick) (defScope s_check_tick) [.int 0] [] f fd) (h1 : Has P w K mg base 2 "is_tick" ["given", "least"] [] spIsTick) : FnOk P w K mg base CX0 3 f fd ["tick", "least"] spCheckTick := by
  obtain ⟨f_is_tick, fd_is_tick, ds_is_tick, G_is_tick, m_is_tick, k_is_tick, b_is_tick, v_is_tick⟩ := h1
  refine F.ok sc_check_tick (fun vs H Q E h => ?_) (fun cdv A outer s H vs Q E hr h => ?_)
  · obtain ⟨n, l, rfl, _⟩ := h
    rfl
  · obtain ⟨n, l, rfl, l1, q⟩ := h
    refine ⟨_, PSs.nox (pss_one (ps_if (pt_not (pt_val (pe_call G_is_tick hr (by rfl) m_is_tick k_is_tick b_is_tick v_is_tick pass0 (pa_cons (pv 0) (pa_cons (pv 1) pa_nil)))))
        (pss_one ps_never)
        pss_nil)), ?_⟩
    exact ⟨.int n, rfl, .int l, rfl, n, l, rfl, l1, true, rfl, iteF q⟩
end
/-! ### is_integer of any value; a tick that is none -/
section
variable {P : Program} {w : World} {K : PySem.W.Frag} {mg : Str → Option Value} {base : Heap}
def spIsIntX (K : PySem.W.Frag) : Sp := fun vs H Q _ => ∃ x : V, vs = [x] ∧ ((∃ n : Int, x = .int n ∧ Q (.bl true) H) ∨ (NoInt K H x ∧ Q (.bl false) H))
theorem okA_is_integer {f : Addr} {fd : FuncData} (F : Fun K "is_integer" "is_integer" s_is_integer f fd) (T : Tx K mg) : FnOk P w K mg base CX0 1 f fd ["given"] (spIsIntX K) := by
  refine F.ok sc_is_integer (fun vs H Q E h => ?_) (fun cdv A outer s H vs Q E hr h => ?_)
  · obtain ⟨x, rfl, _⟩ := h
    rfl
  · obtain ⟨x, rfl, hx⟩ := h
    refine ⟨_, (pss_one (ps_ret (pe_and (pe_callB (isiK (K := K) rfl) (by rfl) T.b_isinstance (by decide +kernel) (pa_cons (pv 0) (pa_cons (pe_bltn (v := .ty "int") (u := .type "int") (by rfl) T.b_int (by decide +kernel) rfl) pa_nil))) (pe_one (pe_not (pe_callB (isiK (K := K) rfl) (by rfl) T.b_isinstance (by decide +kernel) (pa_cons (pv 0) (pa_cons (pe_bltn (v := .ty "bool") (u := .type "bool") (by rfl) T.b_bool (by decide +kernel) rfl) pa_nil)))))))), ?_⟩
    rcases hx with ⟨n, rfl, q⟩ | ⟨⟨t, ht, hn⟩, q⟩
    · refine ⟨.int n, rfl, .int n, _, _, _, true, rfl, .ty "int", .base (.int n), kit_ty (by decide +kernel), true, rfl, iteT ?_⟩
      exact ⟨.int n, rfl, .int n, _, _, _, false, rfl, .ty "bool", .base (.int n), kit_ty (by decide +kernel), false, rfl, q⟩
    · obtain ⟨i, b, h1, h2, h3⟩ := hn.kit (K := K)
      cases i with
      | false => exact ⟨x, rfl, x, _, _, _, false, rfl, .ty "int", ht, h1, false, rfl, iteF q⟩
      | true =>
        refine ⟨x, rfl, x, _, _, _, true, rfl, .ty "int", ht, h1, true, rfl, iteT ?_⟩
        exact ⟨x, rfl, x, _, _, _, b, rfl, .ty "bool", ht, h2, b, rfl, by rw [h3 rfl]; exact q⟩
/-- what is no tick from l on -/
def BadTick (K : PySem.W.Frag) (H : Hp) (x : V) (l : Int) : Prop := NoInt K H x ∨ ∃ n : Int, x = .int n ∧ n < l
def spIsTickX (K : PySem.W.Frag) : Sp := fun vs H Q _ => ∃ (x : V) (l : Int), vs = [x, .int l] ∧ ((∃ n : Int, x = .int n ∧ l ≤ n ∧ Q (.bl true) H) ∨ (BadTick K H x l ∧ Q (.bl false) H))
theorem okA_is_tick {f : Addr} {fd : FuncData} (F : FunD K "is_tick" "is_tick" (defArgs s_is_tick) (defBody s_is_tick) (defScope s_is_tick) [.int 0] [] f fd) (h1 : Has P w K mg base 1 "is_integer" ["given"] [] (spIsIntX K)) : FnOk P w K mg base CX0 2 f fd ["given", "least"] (spIsTickX K) := by
  obtain ⟨f_is_integer, fd_is_integer, ds_is_integer, G_is_integer, m_is_integer, k_is_integer, b_is_integer, v_is_integer⟩ := h1
  refine F.ok sc_is_tick (fun vs H Q E h => ?_) (fun cdv A outer s H vs Q E hr h => ?_)
  · obtain ⟨x, l, rfl, _⟩ := h
    rfl
  · obtain ⟨x, l, rfl, hx⟩ := h
    refine ⟨_, PSs.nox (pss_one (ps_ret (pe_and (pe_call G_is_integer hr (by rfl) m_is_integer k_is_integer b_is_integer v_is_integer pass0 (pa_cons (pv 0) pa_nil)) (pe_one (pe_cmpR op_ge (pv 0) (pv 1) (nomark _)))))), ?_⟩
    have e1 : ∀ n : Int, l ≤ n → V.bl (decide (n ≥ l)) = V.bl true := fun n h => dT h
    have e2 : ∀ n : Int, n < l → V.bl (decide (n ≥ l)) = V.bl false := fun n h => dF (by omega)
    rcases hx with ⟨n, rfl, l1, q⟩ | ⟨hn | ⟨n, rfl, l1⟩, q⟩
    · refine ⟨.int n, rfl, .int n, rfl, .inl ⟨n, rfl, true, rfl, iteT ⟨.int n, rfl, .int l, rfl, n, l, rfl, rfl, ?_⟩⟩⟩
      show Q (V.bl (decide (n ≥ l))) H
      rw [e1 n l1]
      exact q
    · exact ⟨x, rfl, x, rfl, .inr ⟨hn, false, rfl, iteF q⟩⟩
    · refine ⟨.int n, rfl, .int n, rfl, .inl ⟨n, rfl, true, rfl, iteT ⟨.int n, rfl, .int l, rfl, n, l, rfl, rfl, ?_⟩⟩⟩
      show Q (V.bl (decide (n ≥ l))) H
      rw [e2 n l1]
      exact q
def spCheckTickX (K : PySem.W.Frag) (CN : Addr) : Sp := fun vs H Q E => ∃ (x : V) (l : Int), vs = [x, .int l] ∧ ((∃ n : Int, x = .int n ∧ l ≤ n ∧ Q .non H) ∨ (BadTick K H x l ∧ E (.ref CN) none H))
theorem okX_check_tick {f c_NoTick : Addr} {fd : FuncData} (F : FunD K "check_tick" "check_tick" (defArgs s_check_tick) (defBody s_check_tick) (defScope s_check_tick) [.int 0] [] f fd) (T : Tx K mg) (X_NoTick : EC K mg "NoTick" c_NoTick) (h1 : Has P w K mg base 2 "is_tick" ["given", "least"] [] (spIsTickX K)) : FnOk P w K mg base (L2.CX P w) 3 f fd ["tick", "least"] (spCheckTickX K c_NoTick) := by
  obtain ⟨f_is_tick, fd_is_tick, ds_is_tick, G_is_tick, m_is_tick, k_is_tick, b_is_tick, v_is_tick⟩ := h1
  refine F.ok sc_check_tick (fun vs H Q E h => ?_) (fun cdv A outer s H vs Q E hr h => ?_)
  · obtain ⟨x, l, rfl, _⟩ := h
    rfl
  · obtain ⟨x, l, rfl, hx⟩ := h
    refine ⟨_, (pss_one (ps_if (pt_not (pt_val (pe_call G_is_tick hr (by rfl) m_is_tick k_is_tick b_is_tick v_is_tick pass0 (pa_cons (pv 0) (pa_cons (pv 1) pa_nil)))))
        (pss_one (ps_raise rfl (takes_of rfl rfl rfl rfl) (pmk_own PySem.F.excBase_ValueError X_NoTick.x X_NoTick.g X_NoTick.k (raises_own X_NoTick.b X_NoTick.t) rfl)))
        pss_nil)), ?_⟩
    rcases hx with ⟨n, rfl, l1, q⟩ | ⟨hn, q⟩
    · exact ⟨.int n, rfl, .int l, rfl, .int n, l, rfl, .inl ⟨n, rfl, l1, true, rfl, iteF q⟩⟩
    · exact ⟨x, rfl, .int l, rfl, x, l, rfl, .inr ⟨hn, false, rfl, iteT q⟩⟩
end
/-! ### the program: level_and_size, path -/
section
variable {P : Program} {w : World} {K : PySem.W.Frag} {mg : Str → Option Value} {base : Heap}
/-! the level -/
def spLevel : Sp := fun vs H Q _ => ∃ b n d : Nat, vs = [.int b, .int n, .int d] ∧ 2 ≤ b ∧ b ≤ 64 ∧ n < d ∧ d < 2 ^ 250 ∧ ∀ k, IsLev b n d k → ∀ H' p, Same H H' → H p = none → H' p = some (.tup [.int (k : Nat), .int ((b ^ k : Nat) : Int)]) → Q (.ref p) H'
theorem ok_level_and_size {f : Addr} {fd : FuncData} (F : Fun K "level_and_size" "level_and_size" s_level_and_size f fd) : FnOk P w K mg base CX0 1 f fd ["base", "now", "due"] spLevel := by
  refine F.ok sc_level_and_size (fun vs H Q E h => ?_) (fun cdv A outer s H vs Q E hr h => ?_)
  · obtain ⟨b, n, d, rfl, _⟩ := h
    rfl
  · obtain ⟨b, n, d, rfl, hb, hb64, hnd, hd, q⟩ := h
    have cb : ∀ x : Nat, NDiv x b := fun x => ndiv 7 (by omega) (by omega)
    refine ⟨_, (pss_cons (ps_asg (pe_tup (pa_cons pe_int (pa_cons pe_int pa_nil))) (pg_tupK (K := K) (n := 2) rfl rfl (pgs_cons (pg_name (i := 3) sc_level_and_size.nd rfl (.inl rfl)) (pgs_cons (pg_name (i := 4) sc_level_and_size.nd rfl (.inl rfl)) pgs_nil))))
      (pss_cons (ps_par (i := 5) (j := 6) (by rfl) sc_level_and_size.nd rfl rfl (by decide) rfl rfl (pa_cons (pe_op op_divN (pv 1) (pv 0)) (pa_cons (pe_op op_divN (pv 2) (pv 0)) pa_nil)) (by rfl))
      (pss_cons (ps_while PassesOwn.never (pt_cmpR op_ne (pv 5) (pv 6) (nomark _))
        (pss_cons (ps_par (i := 5) (j := 6) (by rfl) sc_level_and_size.nd rfl rfl (by decide) rfl rfl (pa_cons (pe_op op_divN (pv 5) (pv 0)) (pa_cons (pe_op op_divN (pv 6) (pv 0)) pa_nil)) (by rfl))
        (pss_one (ps_par (i := 3) (j := 4) (by rfl) sc_level_and_size.nd rfl rfl (by decide) rfl rfl (pa_cons (pe_op op_addN (pv 3) pe_int) (pa_cons (pe_op op_mulN (pv 4) (pv 0)) pa_nil)) (by rfl)))))
      (pss_one (ps_ret (pe_tup (pa_cons (pv 3) (pa_cons (pv 4) pa_nil)))))))), ?_⟩
    refine ⟨by simp [sizeLine_eq], fun t hT => ⟨t, _, rfl, .inl (.inl upd_same), rfl, _, _, rfl, _, _, rfl, rfl, ?_⟩⟩
    refine ⟨_, rfl, _, rfl, _, _, rfl, rfl, cb _, _, rfl, _, rfl, _, _, rfl, rfl, cb _, _, _, rfl, ?_⟩
    refine while_by (fun σ H' => ∃ k : Nat, σ = [some (.int (b : Int)), some (.int (n : Int)), some (.int (d : Int)), some (.int (k : Int)), some (.int ((b ^ k : Nat) : Int)), some (.int ((n / b ^ (k + 1) : Nat) : Int)), some (.int ((d / b ^ (k + 1) : Nat) : Int))] ∧ Same H H' ∧ ∀ j, j < k → n / b ^ (j + 1) ≠ d / b ^ (j + 1))
      (fun σ _ => slotInt σ 6) ⟨0, ?_, same_upd hT, fun j hj => absurd hj (Nat.not_lt_zero j)⟩ ?_ ?_
    · rw [Nat.zero_add, Nat.pow_one]
      rfl
    · rintro σ H' ⟨k, rfl, sm, hk⟩
      by_cases hne : n / b ^ (k + 1) = d / b ^ (k + 1)
      · refine ⟨_, rfl, _, rfl, rfl, false, ?_, iteF ?_⟩
        · rw [hne, decide_eq_true rfl]
          rfl
        · refine ⟨_, rfl, _, rfl, by simp [sizeLine_eq], fun p hp => ?_⟩
          exact q k ⟨hne, hk⟩ _ p (sm.trans (same_upd hp)) (sm.free hp) upd_same
      · have h2 : n / b ^ (k + 1) ≤ d / b ^ (k + 1) := Nat.div_le_div_right (Nat.le_of_lt hnd)
        have hpos : 0 < d / b ^ (k + 1) := pos_of h2 hne
        refine ⟨_, rfl, _, rfl, rfl, true, ?_, iteT ?_⟩
        · rw [int_ne hne]
          rfl
        · refine ⟨_, rfl, _, rfl, _, _, rfl, rfl, cb _, _, rfl, _, rfl, _, _, rfl, rfl, cb _, _, _, rfl, ?_⟩
          refine ⟨_, rfl, k, 1, rfl, rfl, trivial, _, rfl, _, rfl, _, _, rfl, rfl, nmul_r (by omega), _, _, rfl, ?_⟩
          have hlt : d / b ^ (k + 1) / b < d / b ^ (k + 1) := Nat.div_lt_self hpos (by omega)
          refine ⟨⟨k + 1, ?_, sm, fun j hj => ?_⟩, ?_⟩
          · rw [div_succ n b (k + 1), div_succ d b (k + 1), Nat.pow_succ b k]
            rfl
          · by_cases e : j = k
            · rw [e]
              exact hne
            · exact hk j (by omega)
          · show (((d / b ^ (k + 1) / b : Nat) : Int)).toNat < (((d / b ^ (k + 1) : Nat) : Int)).toNat
            rw [Int.toNat_natCast, Int.toNat_natCast]
            exact hlt
    · rintro σ H' Q1 Q2 h ⟨x, hx, y, hy, hs, k, e, z⟩
      exact ⟨x, hx, y, hy, hs, k, e, h _ _ z⟩
/-! the stations -/
def rowV (r : Row3) : List V := [.int (r.1 : Nat), .int (r.2.1 : Nat), .int (r.2.2 : Nat)]
/-- at the places ts stand the rows rs, each a tuple of three -/
def RowsAt (H : Hp) : List Addr → List Row3 → Prop
  | [], [] => True
  | t :: ts, r :: rs => H t = some (.tup (rowV r)) ∧ RowsAt H ts rs
  | _, _ => False
theorem RowsAt.same {H H' : Hp} (s : Same H H') : ∀ {ts : List Addr} {rs : List Row3}, RowsAt H ts rs → RowsAt H' ts rs
  | [], [], h => h
  | _ :: _, _ :: _, h => ⟨s _ _ h.1, h.2.same s⟩
  | [], _ :: _, h => h
  | _ :: _, [], h => h
theorem RowsAt.app {H : Hp} {t : Addr} {r : Row3} : ∀ {ts : List Addr} {rs : List Row3}, RowsAt H ts rs → H t = some (.tup (rowV r)) → RowsAt H (ts ++ [t]) (rs ++ [r])
  | [], [], _, h => ⟨h, trivial⟩
  | _ :: _, _ :: _, h, h2 => ⟨h.1, h.2.app h2⟩
  | [], _ :: _, h, _ => h.elim
  | _ :: _, [], h, _ => h.elim
theorem RowsAt.len {H : Hp} : ∀ {ts : List Addr} {rs : List Row3}, RowsAt H ts rs → ts.length = rs.length
  | [], [], _ => rfl
  | _ :: _, _ :: _, h => congrArg Nat.succ h.2.len
  | [], _ :: _, h => h.elim
  | _ :: _, [], h => h.elim
theorem RowsAt.upd {H : Hp} {p : Addr} {xs : List V} {o : HO} (hp : H p = some (.lst xs)) : ∀ {ts : List Addr} {rs : List Row3}, RowsAt H ts rs → RowsAt (upd H p o) ts rs
  | [], [], h => h
  | t :: _, _ :: _, h => ⟨by rw [upd_ne (ne_of h.1 hp (by intro z; cases z))]; exact h.1, h.2.upd hp⟩
  | [], _ :: _, h => h
  | _ :: _, [], h => h
theorem RowsAt.get {H : Hp} : ∀ {ts : List Addr} {rs : List Row3} {i : Nat} {t : Addr}, RowsAt H ts rs → ts[i]? = some t → ∃ r, rs[i]? = some r ∧ H t = some (.tup (rowV r))
  | t :: _, r :: _, 0, _, h, e => ⟨r, rfl, by cases Option.some.inj e; exact h.1⟩
  | _ :: _, _ :: _, i + 1, _, h, e => h.2.get (i := i) e
  | [], _, _, _, _, e => by simp at e
  | _ :: _, [], _, _, h, _ => h.elim
def spPath : Sp := fun vs H Q _ => ∃ b n d : Nat, vs = [.int b, .int n, .int d] ∧ 2 ≤ b ∧ b ≤ 64 ∧ n < d ∧ d < 2 ^ 250 ∧ ∀ k, IsLev b n d k → ∀ H' p ts, Same H H' → H p = none → H' p = some (.lst (ts.map V.ref)) → RowsAt H' ts (rowsOf b n d k) → Q (.ref p) H'
theorem ok_path {f : Addr} {fd : FuncData} (F : Fun K "path" "path" s_path f fd) (h1 : Has P w K mg base 1 "level_and_size" ["base", "now", "due"] [] spLevel) : FnOk P w K mg base CX0 2 f fd ["base", "now", "due"] spPath := by
  obtain ⟨f_level_and_size, fd_level_and_size, ds_level_and_size, G_level_and_size, m_level_and_size, k_level_and_size, b_level_and_size, v_level_and_size⟩ := h1
  refine F.ok sc_path (fun vs H Q E h => ?_) (fun cdv A outer s H vs Q E hr h => ?_)
  · obtain ⟨b, n, d, rfl, _⟩ := h
    rfl
  · obtain ⟨b, n, d, rfl, hb, hb64, hnd, hd, q⟩ := h
    have cb : ∀ x : Nat, NDiv x b := fun x => ndiv 7 (by omega) (by omega)
    have hb0 : 0 < b := by omega
    refine ⟨_, (pss_cons (ps_asg (pe_call G_level_and_size hr (by rfl) m_level_and_size k_level_and_size b_level_and_size v_level_and_size pass0 (pa_cons (pv 0) (pa_cons (pv 1) (pa_cons (pv 2) pa_nil)))) (pg_tupK (K := K) (n := 2) rfl rfl (pgs_cons (pg_name (i := 3) sc_path.nd rfl (.inl rfl)) (pgs_cons (pg_name (i := 4) sc_path.nd rfl (.inl rfl)) pgs_nil))))
      (pss_cons (ps_set (i := 5) sc_path.nd rfl (.inl rfl) (pe_lst (pa_cons (pe_tup (pa_cons (pv 3) (pa_cons (pe_op op_remN (pe_op op_divN (pv 2) (pv 4)) (pv 0)) (pa_cons (pv 1) pa_nil)))) pa_nil)))
      (pss_cons (ps_while PassesOwn.never (pt_cmpR op_gt (pv 3) pe_int (nomark _))
        (pss_cons (ps_set (i := 6) sc_path.nd rfl (.inl rfl) (pe_op op_mulN (pe_op op_divN (pv 2) (pv 4)) (pv 4)))
        (pss_cons (ps_par (i := 3) (j := 4) (by rfl) sc_path.nd rfl rfl (by decide) rfl rfl (pa_cons (pe_op op_subN (pv 3) pe_int) (pa_cons (pe_op op_divN (pv 4) (pv 0)) pa_nil)) (by rfl))
        (pss_cons (ps_set (i := 7) sc_path.nd rfl (.inl rfl) (pe_op op_remN (pe_op op_divN (pv 2) (pv 4)) (pv 0)))
        (pss_one (ps_if (pt_cmpR op_ne (pv 7) pe_int (nomark _))
          (pss_one (ps_expr (pe_bm PySem.F.plainAttrs_list PySem.F.slot_list_append PySem.F.type_list_append mt_append (pv 5) (pa_cons (pe_tup (pa_cons (pv 3) (pa_cons (pv 7) (pa_cons (pv 6) pa_nil)))) pa_nil))))
          pss_nil))))))
      (pss_one (ps_ret (pv 5)))))), ?_⟩
    refine ⟨_, rfl, _, rfl, _, rfl, b, n, d, rfl, hb, hb64, hnd, hd, fun k hk H0 t0 s0 ht0 eT0 => ?_⟩
    have hkd : ∀ j, j ≤ k → b ^ j ≤ d := fun j hj => Nat.le_trans (Nat.pow_le_pow_right (by omega) hj) (hk.size hb hnd)
    have hk250 : k < 250 := lev_small hk hb hnd hd
    have cs : ∀ j, j ≤ k → ∀ x : Nat, NDiv x (b ^ j) := fun j hj x => ndiv 250 (pow_pos' hb j) (Nat.lt_of_le_of_lt (hkd j hj) hd)
    -- level, size = ..
    refine ⟨t0, _, rfl, .inl (.inl eT0), rfl, _, _, rfl, _, _, rfl, rfl, ?_⟩
    -- rows = [(level, due // size % base, now)]
    refine ⟨_, rfl, _, rfl, _, rfl, _, _, rfl, rfl, cs k (Nat.le_refl k) _, _, rfl, _, _, rfl, rfl, hb0, _, rfl, by simp [sizeLine_eq], fun t1 ht1 => ?_⟩
    have s1 := s0.trans (same_upd (o := .tup (rowV (k, d / b ^ k % b, n))) ht1)
    refine ⟨by simp [sizeLine_eq], fun p hp => ?_⟩
    have s2 := s1.trans (same_upd (o := .lst [.ref t1]) hp)
    have np1 : t1 ≠ p := fun e => by
      rw [← e, upd_same] at hp
      cases hp
    have hpH : H p = none := s1.free hp
    refine while_by (fun σ H' => ∃ (j : Nat) (ts : List Addr) (done : List Row3) (y6 y7 : Option V), σ = [some (.int (b : Int)), some (.int (n : Int)), some (.int (d : Int)), some (.int (j : Int)), some (.int ((b ^ j : Nat) : Int)), some (.ref p), y6, y7] ∧ j ≤ k ∧ ts.length + j ≤ k + 1 ∧ Same H H' ∧ H' p = some (.lst (ts.map V.ref)) ∧ RowsAt H' ts ((k, d / b ^ k % b, n) :: done) ∧ tailOf b d k = done ++ tailOf b d j)
      (fun σ _ => slotInt σ 3) ⟨k, [t1], [], none, none, rfl, Nat.le_refl k, by simp; omega, s2, upd_same, ⟨?_, trivial⟩, rfl⟩ ?_ ?_
    · rw [upd_ne np1, upd_same]
      rfl
    · rintro σ H' ⟨j, ts, done, y6, y7, rfl, hjk, hlen, sm, eL, R, et⟩
      cases j with
      | zero =>
        refine ⟨_, rfl, ((0 : Nat) : Int), 0, rfl, rfl, false, rfl, iteF ?_⟩
        refine ⟨_, rfl, q k hk H' p ts sm hpH eL ?_⟩
        have e : done = tailOf b d k := by
          rw [et]
          exact (List.append_nil done).symm
        rw [e] at R
        exact R
      | succ j =>
        have hj0 : (0 : Int) < ((j + 1 : Nat) : Int) := by omega
        refine ⟨_, rfl, _, _, rfl, rfl, true, congrArg V.bl (decide_eq_true hj0), iteT ?_⟩
        -- tick = due // size * size
        refine ⟨_, rfl, _, rfl, _, _, rfl, rfl, cs (j + 1) hjk _, _, rfl, _, _, rfl, rfl, nmul_w 250 250 (Nat.lt_of_le_of_lt (Nat.div_le_self d _) hd) (Nat.lt_of_le_of_lt (hkd (j + 1) hjk) hd), ?_⟩
        -- level, size = level - 1, size // base
        refine ⟨_, rfl, j + 1, 1, rfl, rfl, Nat.le_add_left 1 j, _, rfl, _, rfl, b ^ (j + 1), b, rfl, rfl, cb _, .int (j : Nat), .int ((b ^ j : Nat) : Int), ?_, ?_⟩
        · show [V.int ((j + 1 - 1 : Nat) : Int), V.int ((b ^ (j + 1) / b : Nat) : Int)] = _
          rw [Nat.pow_succ, Nat.mul_div_cancel _ hb0]
          rfl
        -- digit = due // size % base
        refine ⟨_, rfl, _, rfl, d, b ^ j, rfl, rfl, cs j (by omega) _, _, rfl, _, _, rfl, rfl, hb0, ?_⟩
        have lt : slotInt [some (.int (b : Int)), some (.int (n : Int)), some (.int (d : Int)), some (.int (j : Int)), some (.int ((b ^ j : Nat) : Int)), some (.ref p), some (.int ((d / b ^ (j + 1) * b ^ (j + 1) : Nat) : Int)), some (.int ((d / b ^ j % b : Nat) : Int))] 3 < ((j + 1 : Nat) : Int).toNat := by
          show ((j : Int)).toNat < _
          omega
        by_cases h0 : d / b ^ j % b = 0
        · refine ⟨_, rfl, rfl, false, nF (vE h0), iteF ?_⟩
          · refine ⟨⟨j, ts, done, _, _, rfl, by omega, by omega, sm, eL, R, ?_⟩, lt⟩
            rw [et]
            show done ++ tailOf b d (j + 1) = done ++ tailOf b d j
            have : tailOf b d (j + 1) = tailOf b d j := if_neg (fun z => z h0)
            rw [this]
        · refine ⟨_, rfl, rfl, true, nT (vN (b := 0) h0), iteT ?_⟩
          · -- rows.append((level, digit, tick))
            refine ⟨_, rfl, .inl ⟨rfl, _, .inl (.inl eL)⟩, _, rfl, _, rfl, _, rfl, by simp [sizeLine_eq], fun t2 ht2 => ?_⟩
            have s3 := same_upd (o := .tup (rowV (j, d / b ^ j % b, d / b ^ (j + 1) * b ^ (j + 1)))) ht2
            have npt : t2 ≠ p := fun e => by
              rw [e, eL] at ht2
              cases ht2
            have eL' := s3 _ _ eL
            refine ⟨p, _, _, rfl, rfl, eL', ?_, ?_⟩
            · rw [List.length_map]
              exact sizeLine_ge (by omega)
            · refine ⟨⟨j, ts ++ [t2], done ++ [(j, d / b ^ j % b, d / b ^ (j + 1) * b ^ (j + 1))], _, _, rfl, by omega, ?_, fun c o e => ?_, ?_, ?_, ?_⟩, lt⟩
              · rw [List.length_append, List.length_singleton]
                omega
              · rw [upd_ne (ne_of_none e hpH)]
                exact s3 _ _ (sm _ _ e)
              · rw [upd_same, List.map_append]
                rfl
              · refine RowsAt.upd eL' ?_
                exact RowsAt.app (r := (j, d / b ^ j % b, d / b ^ (j + 1) * b ^ (j + 1))) (rs := (k, d / b ^ k % b, n) :: done) (R.same s3) upd_same
              · rw [et, List.append_assoc]
                show done ++ tailOf b d (j + 1) = done ++ ((j, d / b ^ j % b, d / b ^ (j + 1) * b ^ (j + 1)) :: tailOf b d j)
                have : tailOf b d (j + 1) = (j, d / b ^ j % b, d / b ^ (j + 1) * b ^ (j + 1)) :: tailOf b d j := if_pos h0
                rw [this]
    · rintro σ H' Q1 Q2 h ⟨x, hx, i, j, e1, e2, k, e, z⟩
      exact ⟨x, hx, i, j, e1, e2, k, e, h _ _ z⟩
end
theorem RowsAt.item {H : Hp} {ts : List Addr} {rs : List Row3} (R : RowsAt H ts rs) {i : Nat} {x : V} (hx : (ts.map V.ref)[i]? = some x) : ∃ ti r, x = V.ref ti ∧ ts[i]? = some ti ∧ rs[i]? = some r ∧ H ti = some (.tup (rowV r)) := by
  rw [List.getElem?_map] at hx
  cases e : ts[i]? with
  | none =>
    rw [e] at hx
    cases hx
  | some ti =>
    rw [e] at hx
    obtain ⟨r, hr, er⟩ := R.get e
    exact ⟨ti, r, (Option.some.inj hx).symm, rfl, hr, er⟩
section
variable {P : Program} {w : World} {K : PySem.W.Frag} {mg : Str → Option Value} {base : Heap}
def spWordAt (K : PySem.W.Frag) : Sp := fun vs H Q _ => ∃ (q : Addr) (ws : List Bool) (k : Nat), vs = [.ref q, .int (k : Nat)] ∧ SqL K H q (ws.map lvV) ∧ ws ≠ [] ∧ Q (lvV (wordAt ws k)) H
theorem ok_word_at {f : Addr} {fd : FuncData} (F : Fun K "word_at" "word_at" s_word_at f fd) (T : Tx K mg) : FnOk P w K mg base CX0 1 f fd ["levels", "level"] (spWordAt K) := by
  refine F.ok sc_word_at (fun vs H Q E h => ?_) (fun cdv A outer s H vs Q E hr h => ?_)
  · obtain ⟨q, ws, k, rfl, _⟩ := h
    rfl
  · obtain ⟨q, ws, k, rfl, hL, hne, c⟩ := h
    have hp : 0 < ws.length := List.length_pos_iff.mpr hne
    have hpm : 1 ≤ (ws.map lvV).length := by
      rw [List.length_map]
      exact hp
    refine ⟨_, (pss_one (ps_ret (pe_ix (ix_listK (K := K) rfl) (pv 0) (pe_callB (call_min2 rfl) (by rfl) T.b_min (by decide +kernel) (pa_cons (pv 1) (pa_cons (pe_op op_subN (pe_callB (lenK (K := K) rfl) (by rfl) T.b_len PySem.boot_len (pa_cons (pv 0) pa_nil)) pe_int) pa_nil))) (fun _ _ => rfl)))), ?_⟩
    have g := word_get hne k
    refine ⟨.ref q, rfl, _, rfl, .ref q, rfl, q, _, rfl, .inl hL, (ws.map lvV).length, 1, rfl, rfl, hpm, k, _, rfl, q, _, ((min k (ws.length - 1) : Nat) : Int), _, rfl, congrArg V.int ?_, hL, atI_nat g, c⟩
    dsimp only
    rw [List.length_map]
    split <;> omega
def WordsAt (K : PySem.W.Frag) (mg : Str → Option Value) : Prop := ∃ a, mg "WORDS" = some (.ref a) ∧ ∀ H, SqT K H a [.str "stack", .str "queue"]
def MostAt (mg : Str → Option Value) : Prop := ∃ t, mg "MOST_LEVELS" = some (.int 60 t)
def spIsWord : Sp := fun vs H Q _ => ∃ b : Bool, vs = [lvV b] ∧ Q (.bl true) H
theorem ok_is_word {f : Addr} {fd : FuncData} (F : Fun K "is_word" "is_word" s_is_word f fd) (T : Tx K mg) (hW : WordsAt K mg) : FnOk P w K mg base CX0 1 f fd ["given"] spIsWord := by
  obtain ⟨a_WORDS, g_WORDS, sW⟩ := hW
  refine F.ok sc_is_word (fun vs H Q E h => ?_) (fun cdv A outer s H vs Q E hr h => ?_)
  · obtain ⟨b, rfl, _⟩ := h
    rfl
  · obtain ⟨b, rfl, c⟩ := h
    refine ⟨_, (pss_one (ps_ret (pe_and (pe_callB (isiK (K := K) rfl) (by rfl) T.b_isinstance (by decide +kernel) (pa_cons (pv 0) (pa_cons (pe_bltn (v := .ty "str") (u := .type "str") (by rfl) T.b_str (by decide +kernel) rfl) pa_nil))) (pe_one (pe_cmpR op_in_seq (pv 0) (pe_glob (v := .ref a_WORDS) rfl g_WORDS rfl) (by rfl)))))), ?_⟩
    obtain ⟨x, ex, hx⟩ : ∃ x : Str, lvV b = .str x ∧ (if false then !inV (V.str x) [.str "stack", .str "queue"] else inV (V.str x) [.str "stack", .str "queue"]) = true := by
      cases b
      · exact ⟨_, rfl, by decide⟩
      · exact ⟨_, rfl, by decide⟩
    rw [ex]
    refine ⟨.str x, rfl, _, _, _, _, true, rfl, .ty "str", .base (.str x), kit_ty (by decide +kernel), true, rfl, iteT ?_⟩
    refine ⟨.str x, rfl, a_WORDS, _, rfl, .inr (sW _), rfl, rfl, ?_⟩
    rw [hx]
    exact c
def spIsLength : Sp := fun vs H Q _ => ∃ n : Int, vs = [.int n] ∧ 1 ≤ n ∧ n ≤ 60 ∧ Q (.bl true) H
theorem ok_is_length {f : Addr} {fd : FuncData} (F : Fun K "is_length" "is_length" s_is_length f fd) (hM : MostAt mg) (h1 : Has P w K mg base 1 "is_integer" ["given"] [] spIsInt) : FnOk P w K mg base CX0 2 f fd ["given"] spIsLength := by
  obtain ⟨tM, g_MOST_LEVELS⟩ := hM
  obtain ⟨f_is_integer, fd_is_integer, ds_is_integer, G_is_integer, m_is_integer, k_is_integer, b_is_integer, v_is_integer⟩ := h1
  refine F.ok sc_is_length (fun vs H Q E h => ?_) (fun cdv A outer s H vs Q E hr h => ?_)
  · obtain ⟨n, rfl, _⟩ := h
    rfl
  · obtain ⟨n, rfl, l1, l2, q⟩ := h
    refine ⟨_, (pss_one (ps_ret (pe_and (pe_call G_is_integer hr (by rfl) m_is_integer k_is_integer b_is_integer v_is_integer pass0 (pa_cons (pv 0) pa_nil)) (pe_one (pe_chain op_le op_le pe_int (pv 0) (pe_glob (v := .int 60) rfl g_MOST_LEVELS ⟨_, rfl⟩)))))), ?_⟩
    refine ⟨.int n, rfl, n, rfl, true, rfl, iteT ?_⟩
    refine ⟨.int n, rfl, 1, n, rfl, rfl, true, congrArg V.bl (decide_eq_true l1), iteT ?_⟩
    refine ⟨n, 60, rfl, rfl, ?_⟩
    have e : V.bl (decide (n ≤ 60)) = V.bl true := dT l2
    show Q (V.bl (decide (n ≤ 60))) H
    rw [e]
    exact q
def spAreLevels (K : PySem.W.Frag) : Sp := fun vs H Q _ => ∃ (q : Addr) (ws : List Bool), vs = [.ref q] ∧ SqL K H q (ws.map lvV) ∧ ws ≠ [] ∧ ws.length ≤ 60 ∧ ∀ H', Same H H' → Q (.bl true) H'
theorem ok_are_levels {f : Addr} {fd : FuncData} (F : Fun K "are_levels" "are_levels" s_are_levels f fd) (T : Tx K mg) (h0 : Has P w K mg base 2 "is_length" ["given"] [] spIsLength) (h1 : Has P w K mg base 1 "is_word" ["given"] [] spIsWord) : FnOk P w K mg base CX0 3 f fd ["given"] (spAreLevels K) := by
  obtain ⟨f_is_length, fd_is_length, ds_is_length, G_is_length, m_is_length, k_is_length, b_is_length, v_is_length⟩ := h0
  obtain ⟨f_is_word, fd_is_word, ds_is_word, G_is_word, m_is_word, k_is_word, b_is_word, v_is_word⟩ := h1
  refine F.ok sc_are_levels (fun vs H Q E h => ?_) (fun cdv A outer s H vs Q E hr h => ?_)
  · obtain ⟨q, ws, rfl, _⟩ := h
    rfl
  · obtain ⟨q, ws, rfl, hL, hne, h60, c⟩ := h
    have hp : 0 < ws.length := List.length_pos_iff.mpr hne
    refine ⟨_, (pss_cons (ps_if (PW.pt (pw_or (pt_not (pt_val (pe_callB (isiK (K := K) rfl) (by rfl) T.b_isinstance (by decide +kernel) (pa_cons (pv 0) (pa_cons (pe_bltn (v := .ty "list") (u := .type "list") (by rfl) T.b_list (by decide +kernel) rfl) pa_nil))))) (pw_or1 (pt_not (pt_val (pe_call G_is_length hr (by rfl) m_is_length k_is_length b_is_length v_is_length pass0 (pa_cons (pe_callB (lenK (K := K) rfl) (by rfl) T.b_len PySem.boot_len (pa_cons (pv 0) pa_nil)) pa_nil)))))))
        (pss_one (ps_ret pe_bl))
        pss_nil)
      (pss_one (ps_ret (pe_callB (allK (K := K) rfl rfl) (by rfl) T.b_all (by decide +kernel) (pa_cons (pe_lc (own := [("word", 1)]) (g := gName 1) (tt := tYes) rfl sc_are_levels.nd (pi_list (pv 0)) (blkOk_by (own := [("word", 1)]) (N := N_are_levels) (sc := defScope s_are_levels) (by decide +kernel)) (fun _ _ _ _ _ => (pg_name (i := 1) sc_are_levels.nd rfl (.inl rfl))) (fun _ _ _ _ _ => pts_nil) (fun _ _ _ _ _ => (pe_call G_is_word (hr.mono (by decide)) (by rfl) m_is_word k_is_word b_is_word v_is_word pass0 (pa_cons (pv 1) pa_nil)))) pa_nil))))), ?_⟩
    refine ⟨.ref q, rfl, _, _, _, _, true, rfl, .ty "list", tyx_list hL, kit_ty (by decide +kernel), true, rfl, iteF ?_⟩
    refine ⟨.ref q, rfl, q, _, rfl, .inl hL, _, rfl, ?_, ?_, true, rfl, iteF ?_⟩
    · rw [List.length_map]
      omega
    · rw [List.length_map]
      omega
    refine ⟨.ref q, rfl, q, rfl, ⟨_, hL⟩, fun D hD => lc_list (K := K) (a := q) (xs := ws.map lvV) (fun i H' => Same H H' ∧ H' D = some (.lst ((List.replicate i true).map V.bl)))
      ⟨same_upd hD, upd_same⟩ (fun i H' _ ⟨sm, _⟩ => sm.seq hL) ?_ ?_⟩
    · rintro i x H' hx ⟨sm, eD⟩
      obtain ⟨b, rfl⟩ : ∃ b, x = lvV b := by
        rw [List.getElem?_map] at hx
        cases e : ws[i]? with
        | none =>
          rw [e] at hx
          cases hx
        | some b =>
          rw [e] at hx
          exact ⟨b, (Option.some.inj hx).symm⟩
      have hi : i < (ws.map lvV).length := (List.getElem?_eq_some_iff.mp hx).1
      rw [List.length_map] at hi
      refine ⟨rfl, yesT (iteT ?_)⟩
      refine ⟨_, rfl, b, rfl, _, eD, ?_, fun c o e => ?_, ?_⟩
      · rw [List.length_map, List.length_replicate]
        exact sizeLine_ge (by omega)
      · rw [upd_ne (ne_of_none e hD)]
        exact sm _ _ e
      · rw [upd_same, List.replicate_succ', List.map_append]
        rfl
    · rintro H1 ⟨s1, eD⟩
      refine ⟨D, _, rfl, SqL.of eD, ?_⟩
      have ea : (List.replicate (ws.map lvV).length true).all id = true := by
        rw [List.all_replicate]
        simp
      rw [ea]
      exact c H1 s1
def spCheckLevels (K : PySem.W.Frag) : Sp := fun vs H Q _ => ∃ (q : Addr) (ws : List Bool), vs = [.ref q] ∧ SqL K H q (ws.map lvV) ∧ ws ≠ [] ∧ ws.length ≤ 60 ∧ ∀ H', Same H H' → Q .non H'
theorem ok_check_levels {f : Addr} {fd : FuncData} (F : Fun K "check_levels" "check_levels" s_check_levels f fd) (h1 : Has P w K mg base 3 "are_levels" ["given"] [] (spAreLevels K)) : FnOk P w K mg base CX0 4 f fd ["levels"] (spCheckLevels K) := by
  obtain ⟨f_are_levels, fd_are_levels, ds_are_levels, G_are_levels, m_are_levels, k_are_levels, b_are_levels, v_are_levels⟩ := h1
  refine F.ok sc_check_levels (fun vs H Q E h => ?_) (fun cdv A outer s H vs Q E hr h => ?_)
  · obtain ⟨q, ws, rfl, _⟩ := h
    rfl
  · obtain ⟨q, ws, rfl, hL, hne, h60, c⟩ := h
    refine ⟨_, (pss_one (ps_if (pt_not (pt_val (pe_call G_are_levels hr (by rfl) m_are_levels k_are_levels b_are_levels v_are_levels pass0 (pa_cons (pv 0) pa_nil))))
        (pss_one ps_never)
        pss_nil)), ?_⟩
    exact ⟨_, rfl, q, ws, rfl, hL, hne, h60, fun H1 s1 => ⟨true, rfl, iteF (c H1 s1)⟩⟩
end
section
variable {P : Program} {w : World} {K : PySem.W.Frag} {mg : Str → Option Value} {base : Heap}
def spFront (K : PySem.W.Frag) : Sp := fun vs H Q _ => ∃ (b n d lo : Nat) (q : Addr) (ws : List Bool), vs = [.int (b : Nat), .ref q, .int (n : Nat), .int (d : Nat), .int (lo : Nat)] ∧ 2 ≤ b ∧ b ≤ 64 ∧ n < d ∧ d < 2 ^ 250 ∧ SqL K H q (ws.map lvV) ∧ ws ≠ [] ∧
  ∀ k, IsLev b n d k → ∀ H', Same H H' → Q (.bl (frontOf ws lo (rowsOf b n d k))) H'
theorem ok_goes_in_front {f : Addr} {fd : FuncData} (F : Fun K "goes_in_front" "goes_in_front" s_goes_in_front f fd) (h1 : Has P w K mg base 2 "path" ["base", "now", "due"] [] spPath) (h2 : Has P w K mg base 1 "word_at" ["levels", "level"] [] (spWordAt K)) :
    FnOk P w K mg base CX0 3 f fd ["base", "levels", "now", "due", "lowest"] (spFront K) := by
  obtain ⟨f_path, fd_path, ds_path, G_path, m_path, k_path, b_path, v_path⟩ := h1
  obtain ⟨f_word_at, fd_word_at, ds_word_at, G_word_at, m_word_at, k_word_at, b_word_at, v_word_at⟩ := h2
  refine F.ok sc_goes_in_front (fun vs H Q E h => ?_) (fun cdv A outer s H vs Q E hr h => ?_)
  · obtain ⟨b, n, d, lo, q, ws, rfl, _⟩ := h
    rfl
  · obtain ⟨b, n, d, lo, q, ws, rfl, hb, hb64, hnd, hd, hL, hne, c⟩ := h
    refine ⟨_, (pss_cons (ps_set (i := 5) sc_goes_in_front.nd rfl (.inl rfl) pe_bl)
      (pss_cons (ps_for PassesOwn.never rfl (pi_list (pe_call G_path hr (by rfl) m_path k_path b_path v_path pass0 (pa_cons (pv 0) (pa_cons (pv 2) (pa_cons (pv 3) pa_nil))))) (pg_tupK (K := K) (n := 3) rfl rfl (pgs_cons (pg_name (i := 6) sc_goes_in_front.nd rfl (.inl rfl)) (pgs_cons (pg_name (i := 7) sc_goes_in_front.nd rfl (.inl rfl)) (pgs_cons (pg_name (i := 8) sc_goes_in_front.nd rfl (.inl rfl)) pgs_nil))))
        (pss_one (ps_if (PW.pt (pw_and (pt_cmpR op_ge (pv 6) (pv 4) (nomark _)) (pw_and1 (pt_cmpR op_eq (pe_call G_word_at (hr.mono (by decide)) (by rfl) m_word_at k_word_at b_word_at v_word_at pass0 (pa_cons (pv 1) (pa_cons (pv 6) pa_nil))) pe_str (nomark _)))))
          (pss_one (ps_set (i := 5) sc_goes_in_front.nd rfl (.inl rfl) (pe_not (pv 5))))
          pss_nil)))
      (pss_one (ps_ret (pv 5))))), ?_⟩
    refine ⟨_, rfl, _, rfl, _, rfl, b, n, d, rfl, hb, hb64, hnd, hd, fun k hk H1 p ts s1 hp0 hp R => ?_⟩
    refine ⟨p, rfl, ⟨_, SqL.of hp⟩, for_list (K := K) (a := p) (xs := ts.map V.ref) (fun i σ H' => ∃ y6 y7 y8, σ = [some (.int (b : Nat)), some (.ref q), some (.int (n : Nat)), some (.int (d : Nat)), some (.int (lo : Nat)), some (.bl (frontOf ws lo ((rowsOf b n d k).take i))), y6, y7, y8] ∧ H' = H1)
      ⟨none, none, none, rfl, rfl⟩ (fun i σ H' _ ⟨_, _, _, _, e⟩ => by rw [e]; exact SqL.of hp) ?_ ?_⟩
    · rintro i x σ H' hx ⟨y6, y7, y8, rfl, rfl⟩
      obtain ⟨ti, r, rfl, hti, hr, er⟩ := R.item hx
      have hstep : frontOf ws lo ((rowsOf b n d k).take (i + 1)) = if (decide (lo ≤ r.1) && wordAt ws r.1) = true then !frontOf ws lo ((rowsOf b n d k).take i) else frontOf ws lo ((rowsOf b n d k).take i) := by
        rw [List.take_add_one, hr]
        exact front_snoc ws lo _ r
      refine ⟨ti, _, rfl, .inl (.inl er), rfl, _, _, rfl, _, _, rfl, _, _, rfl, rfl, ?_⟩
      have hL1 := s1.seq hL
      by_cases hlo : lo ≤ r.1
      · refine ⟨_, rfl, _, rfl, _, _, rfl, rfl, true, dT (by omega), iteT ?_⟩
        refine ⟨_, rfl, _, rfl, q, ws, r.1, rfl, hL1, hne, ?_, wordAt ws r.1, congrArg V.bl (lv_dec _), ?_⟩
        · cases wordAt ws r.1 <;> rfl
        cases hw : wordAt ws r.1 with
        | true =>
          refine iteT ⟨_, rfl, _, rfl, ⟨some (.int (r.1 : Nat)), some (.int (r.2.1 : Nat)), some (.int (r.2.2 : Nat)), ?_, rfl⟩⟩
          rw [hstep, hw, decide_eq_true hlo]
          rfl
        | false =>
          refine iteF ⟨some (.int (r.1 : Nat)), some (.int (r.2.1 : Nat)), some (.int (r.2.2 : Nat)), ?_, rfl⟩
          rw [hstep, hw, decide_eq_true hlo]
          rfl
      · refine ⟨_, rfl, _, rfl, _, _, rfl, rfl, false, dF (by omega), iteF (iteF ⟨some (.int (r.1 : Nat)), some (.int (r.2.1 : Nat)), some (.int (r.2.2 : Nat)), ?_, rfl⟩)⟩
        rw [hstep, decide_eq_false hlo]
        rfl
    · rintro σ H' ⟨y6, y7, y8, rfl, rfl⟩
      have e : (rowsOf b n d k).take (ts.map V.ref).length = rowsOf b n d k := by
        refine List.take_of_length_le ?_
        rw [List.length_map]
        exact Nat.le_of_eq R.len.symm
      rw [e]
      exact ⟨_, rfl, c k hk _ s1⟩
end
/-! ### the program: where the lowest stack stands; powers of a base -/
section
variable {P : Program} {w : World} {K : PySem.W.Frag} {mg : Str → Option Value} {base : Heap}
def spLow (K : PySem.W.Frag) : Sp := fun vs H Q _ => ∃ (b : Nat) (q : Addr) (ws : List Bool), vs = [.int (b : Nat), .ref q] ∧ 2 ≤ b ∧ b ≤ 64 ∧ ws.length ≤ 40 ∧ SqL K H q (ws.map lvV) ∧ ws ≠ [] ∧
  ∀ o, LowO ws o → Q (optV (o.map (b ^ ·))) H
theorem wordAt_get {ws : List Bool} {i : Nat} {x : Bool} (h : ws[i]? = some x) : wordAt ws i = x := by
  have hi := (List.getElem?_eq_some_iff.mp h).1
  unfold wordAt
  rw [show min i (ws.length - 1) = i by omega, List.getD_eq_getElem?_getD, h]
  rfl
theorem wordAt_past {ws : List Bool} {i : Nat} (h : ws.length ≤ i) (hne : ws ≠ []) : wordAt ws i = wordAt ws (ws.length - 1) := by
  have := List.length_pos_iff.mpr hne
  unfold wordAt
  rw [show min i (ws.length - 1) = ws.length - 1 by omega, show min (ws.length - 1) (ws.length - 1) = ws.length - 1 by omega]
theorem pow_lt_240 {b i : Nat} (hb : b ≤ 64) (hi : i ≤ 40) : b ^ i < 2 ^ 241 :=
  Nat.lt_of_le_of_lt (Nat.pow_le_pow_left hb i) (by
    rw [show (64 : Nat) = 2 ^ 6 from rfl, ← Nat.pow_mul]
    exact Nat.pow_lt_pow_right (by omega) (by omega))
theorem ok_size_of_lowest_stack {f : Addr} {fd : FuncData} (F : Fun K "size_of_lowest_stack" "size_of_lowest_stack" s_size_of_lowest_stack f fd) : FnOk P w K mg base CX0 1 f fd ["base", "levels"] (spLow K) := by
  refine F.ok sc_size_of_lowest_stack (fun vs H Q E h => ?_) (fun cdv A outer s H vs Q E hr h => ?_)
  · obtain ⟨b, q, ws, rfl, _⟩ := h
    rfl
  · obtain ⟨b, q, ws, rfl, hb, hb64, hl, hL, hne, c⟩ := h
    refine ⟨_, (pss_cons (ps_set (i := 2) sc_size_of_lowest_stack.nd rfl (.inl rfl) pe_int)
      (pss_cons (ps_for PassesOwn.never rfl (pi_list (pv 1)) (pg_name (i := 3) sc_size_of_lowest_stack.nd rfl (.inl rfl))
        (pss_cons (ps_if (pt_cmpR op_eq (pv 3) pe_str (nomark _))
          (pss_one (ps_ret (pv 2)))
          pss_nil)
        (pss_one (ps_aug (i := 2) sc_size_of_lowest_stack.nd rfl (.inl rfl) (pv 0) ip_mulA))))
      (pss_one (ps_ret pe_non)))), ?_⟩
    refine ⟨_, rfl, q, rfl, ⟨_, hL⟩, for_list (K := K) (a := q) (xs := ws.map lvV) (fun i σ H' => ∃ y, σ = [some (.int (b : Nat)), some (.ref q), some (.int ((b ^ i : Nat) : Int)), y] ∧ H' = H ∧ ∀ j, j < i → wordAt ws j = false)
      ⟨none, rfl, rfl, fun j hj => absurd hj (Nat.not_lt_zero j)⟩ (fun i σ H' _ ⟨_, _, e, _⟩ => by rw [e]; exact hL) ?_ ?_⟩
    · rintro i x σ H' hx ⟨y, rfl, rfl, hj⟩
      obtain ⟨v, hv, rfl⟩ : ∃ v, ws[i]? = some v ∧ lvV v = x := by
        rw [List.getElem?_map] at hx
        cases hw : ws[i]? with
        | none => rw [hw] at hx; cases hx
        | some v => rw [hw] at hx; exact ⟨v, rfl, Option.some.inj hx⟩
      have hwv := wordAt_get hv
      have hi := (List.getElem?_eq_some_iff.mp hv).1
      refine ⟨_, rfl, ?_, v, congrArg V.bl (lv_dec v), ?_⟩
      · cases v <;> rfl
      · cases v with
        | true => exact iteT ⟨_, rfl, c (some i) ⟨hi, hwv, hj⟩⟩
        | false =>
          refine iteF ⟨_, rfl, _, rfl, _, _, rfl, rfl, mul_r (by omega) (by omega), ⟨some (lvV false), ?_, rfl, fun j h => ?_⟩⟩
          · rw [Nat.pow_succ, Int.natCast_mul]
            rfl
          · by_cases e : j = i
            · rw [e]; exact hwv
            · exact hj j (by omega)
    · rintro σ H' ⟨y, rfl, rfl, hj⟩
      rw [List.length_map] at hj
      refine c none fun j => ?_
      have hp := List.length_pos_iff.mpr hne
      by_cases h : j < ws.length
      · exact hj j h
      · rw [wordAt_past (by omega) hne]
        exact hj _ (by omega)
def spPowers : Sp := fun vs H Q _ => ∃ b m : Nat, vs = [.int (b : Nat), .int (m : Nat)] ∧ 2 ≤ b ∧ b ≤ 64 ∧ 1 ≤ m ∧ m ≤ 40 ∧ ∀ H' q, Same H H' → H q = none → H' q = some (.lst (((List.range m).map (b ^ ·)).map fun n : Nat => V.int n)) → Q (.ref q) H'
theorem ok_powers {f : Addr} {fd : FuncData} (F : Fun K "powers" "powers" s_powers f fd) (T : Tx K mg) : FnOk P w K mg base CX0 1 f fd ["base", "many"] spPowers := by
  refine F.ok sc_powers (fun vs H Q E h => ?_) (fun cdv A outer s H vs Q E hr h => ?_)
  · obtain ⟨b, m, rfl, _⟩ := h
    rfl
  · obtain ⟨b, m, rfl, hb, hb64, hm, hm40, c⟩ := h
    refine ⟨_, (pss_cons (ps_set (i := 2) sc_powers.nd rfl (.inl rfl) (pe_lst (pa_cons pe_int pa_nil)))
      (pss_cons (ps_while PassesOwn.never (pt_cmpR op_lt (pe_callB (lenK (K := K) rfl) (by rfl) T.b_len PySem.boot_len (pa_cons (pv 2) pa_nil)) (pv 1) (nomark _))
        (pss_one (ps_expr (pe_bm PySem.F.plainAttrs_list PySem.F.slot_list_append PySem.F.type_list_append mt_append (pv 2) (pa_cons (pe_op op_mulN (pe_ix (ix_listK (K := K) rfl) (pv 2) (pe_un un_neg pe_int) (fun _ _ => rfl)) (pv 0)) pa_nil)))))
      (pss_one (ps_ret (pv 2))))), ?_⟩
    refine ⟨by simp [sizeLine_eq], fun q hq => ?_⟩
    refine while_by (fun σ H' => ∃ k : Nat, σ = [some (.int (b : Nat)), some (.int (m : Nat)), some (.ref q)] ∧ 1 ≤ k ∧ k ≤ m ∧ Same H H' ∧ H' q = some (.lst (((List.range k).map (b ^ ·)).map fun n : Nat => V.int n)))
      (fun _ H' => match H' q with | some (.lst xs) => m - xs.length | _ => 0) ⟨1, rfl, Nat.le_refl 1, hm, same_upd hq, upd_same⟩ ?_ ?_
    · rintro σ H' ⟨k, rfl, hk1, hkm, sm, eL⟩
      have len : (((List.range k).map (b ^ ·)).map fun n : Nat => V.int n).length = k := by rw [List.length_map, List.length_map, List.length_range]
      by_cases h : k < m
      · refine ⟨_, rfl, q, _, rfl, .inl (SqL.of eL), _, rfl, k, m, congrArg V.int (by rw [len]), rfl, true, dT (by omega), iteT ?_⟩
        obtain ⟨j, rfl⟩ : ∃ j, k = j + 1 := ⟨k - 1, by omega⟩
        have el : ((List.range (j + 1)).map (b ^ ·)).map (fun n : Nat => V.int n) = ((List.range j).map (b ^ ·)).map (fun n : Nat => V.int n) ++ [.int ((b ^ j : Nat) : Int)] := by
          rw [List.range_succ, List.map_append, List.map_append]
          rfl
        refine ⟨_, rfl, .inl ⟨rfl, _, .inl (.inl eL)⟩, _, rfl, _, rfl, q, _, -1, .int ((b ^ j : Nat) : Int), rfl, rfl, SqL.of eL, (by rw [el]; exact atI_last _ _), _, rfl, b ^ j, b, rfl, rfl, nmul_r (by omega), q, _, _, rfl, rfl, eL, by rw [len]; exact sizeLine_ge (by omega), ?_⟩
        have el2 : ((List.range (j + 1)).map (b ^ ·)).map (fun n : Nat => V.int n) ++ [.int ((b ^ j * b : Nat) : Int)] = ((List.range (j + 1 + 1)).map (b ^ ·)).map (fun n : Nat => V.int n) := by
          rw [List.range_succ (n := j + 1), List.map_append, List.map_append, ← Nat.pow_succ]
          rfl
        refine ⟨⟨j + 2, rfl, by omega, by omega, fun a o e => ?_, ?_⟩, ?_⟩
        · rw [upd_ne (ne_of_none e hq)]
          exact sm _ _ e
        · rw [upd_same, el2]
        · dsimp only
          rw [upd_same, eL]
          dsimp only
          rw [el2]
          simp only [List.length_map, List.length_range]
          omega
      · refine ⟨_, rfl, q, _, rfl, .inl (SqL.of eL), _, rfl, k, m, congrArg V.int (by rw [len]), rfl, false, dF (by omega), iteF ?_⟩
        have ek : k = m := by omega
        rw [ek] at eL
        exact ⟨_, rfl, c _ q sm hq eL⟩
    · rintro σ H' Q1 Q2 h ⟨x, hx, y, hy, hs, k, e, z1, i, j, e1, e2, v, e3, z⟩
      exact ⟨x, hx, y, hy, hs, k, e, z1, i, j, e1, e2, v, e3, h _ _ z⟩
end
/-! ### the program: the dues that tell -/
section
variable {P : Program} {w : World} {K : PySem.W.Frag} {mg : Str → Option Value} {base : Heap}
def spTelling (K : PySem.W.Frag) : Sp := fun vs H Q _ => ∃ (b1 b2 : Nat) (q1 q2 : Addr) (w1 w2 : List Bool), vs = [.int (b1 : Nat), .ref q1, .int (b2 : Nat), .ref q2] ∧ 2 ≤ b1 ∧ b1 ≤ 64 ∧ 2 ≤ b2 ∧ b2 ≤ 64 ∧ w1.length ≤ 40 ∧ w2.length ≤ 40 ∧ SqL K H q1 (w1.map lvV) ∧ SqL K H q2 (w2.map lvV) ∧ w1 ≠ [] ∧ w2 ≠ [] ∧
  ∀ L, Tells b1 w1 b2 w2 L → ∀ H' q, Same H H' → H q = none → H' q = some (.lst (L.map fun n : Nat => V.int n)) → Q (.ref q) H'
theorem ok_telling_dues {f : Addr} {fd : FuncData} (F : Fun K "telling_dues" "telling_dues" s_telling_dues f fd) (T : Tx K mg) (h1 : Has P w K mg base 1 "powers" ["base", "many"] [] spPowers) (h2 : Has P w K mg base 1 "size_of_lowest_stack" ["base", "levels"] [] (spLow K)) :
    FnOk P w K mg base CX0 2 f fd ["base", "levels", "other_base", "other_levels"] (spTelling K) := by
  obtain ⟨f_powers, fd_powers, ds_powers, G_powers, m_powers, k_powers, b_powers, v_powers⟩ := h1
  obtain ⟨f_size_of_lowest_stack, fd_size_of_lowest_stack, ds_size_of_lowest_stack, G_size_of_lowest_stack, m_size_of_lowest_stack, k_size_of_lowest_stack, b_size_of_lowest_stack, v_size_of_lowest_stack⟩ := h2
  refine F.ok sc_telling_dues (fun vs H Q E h => ?_) (fun cdv A outer s H vs Q E hr h => ?_)
  · obtain ⟨b1, b2, q1, q2, w1, w2, rfl, _⟩ := h
    rfl
  · obtain ⟨b1, b2, q1, q2, w1, w2, rfl, hb1, hb1', hb2, hb2', l1, l2, hL1, hL2, n1, n2, c⟩ := h
    refine ⟨_, (pss_cons (ps_if (pt_cmpR op_eq (pv 0) (pv 2) (nomark _))
        (pss_one (ps_ret (pe_call G_powers hr (by rfl) m_powers k_powers b_powers v_powers pass0 (pa_cons (pv 0) (pa_cons (pe_callB (max2N rfl) (by rfl) T.b_max (by decide +kernel) (pa_cons (pe_callB (lenK (K := K) rfl) (by rfl) T.b_len PySem.boot_len (pa_cons (pv 1) pa_nil)) (pa_cons (pe_callB (lenK (K := K) rfl) (by rfl) T.b_len PySem.boot_len (pa_cons (pv 3) pa_nil)) pa_nil))) pa_nil)))))
        pss_nil)
      (pss_cons (ps_set (i := 4) sc_telling_dues.nd rfl (.inl rfl) (pe_lst (pa_cons (pe_call G_size_of_lowest_stack hr (by rfl) m_size_of_lowest_stack k_size_of_lowest_stack b_size_of_lowest_stack v_size_of_lowest_stack pass0 (pa_cons (pv 0) (pa_cons (pv 1) pa_nil))) (pa_cons (pe_call G_size_of_lowest_stack hr (by rfl) m_size_of_lowest_stack k_size_of_lowest_stack b_size_of_lowest_stack v_size_of_lowest_stack pass0 (pa_cons (pv 2) (pa_cons (pv 3) pa_nil))) pa_nil))))
      (pss_cons (ps_setLc (i := 6) (own := [("size", 5)]) (g := gName 5)  rfl sc_telling_dues.nd rfl rfl (sw_true rfl rfl rfl (by decide +kernel)) (pi_list (pv 4)) (blkOk_by (own := [("size", 5)]) (N := N_telling_dues) (sc := defScope s_telling_dues) (by decide +kernel)) (fun _ _ _ _ _ => (pg_name (i := 5) sc_telling_dues.nd rfl (.inl rfl))) (fun _ _ _ _ _ => (pts_one (pt_cmpR op_notN (pv 5) pe_non (nomark _)))) (fun _ _ _ _ _ => (pv 5)))
      (pss_cons (ps_if (pt_cmpR op_eq (pe_callB (lenK (K := K) rfl) (by rfl) T.b_len PySem.boot_len (pa_cons (pv 6) pa_nil)) pe_int (nomark _))
        (pss_one (ps_ret (pe_lst pa_nil)))
        pss_nil)
      (pss_cons (ps_par (i := 5) (j := 7) (by rfl) sc_telling_dues.nd rfl rfl (by decide) rfl rfl (pa_cons (pe_callB (minK (K := K) rfl rfl) (by rfl) T.b_min (by decide +kernel) (pa_cons (pv 6) pa_nil)) (pa_cons (pe_callB (min2N rfl) (by rfl) T.b_min (by decide +kernel) (pa_cons (pv 0) (pa_cons (pv 2) pa_nil))) pa_nil)) (by rfl))
      (pss_one (ps_ret (pe_lst (pa_cons (pv 5) (pa_cons (pe_op op_mulN (pv 7) (pv 5)) (pa_cons (pe_op op_mulN (pe_op op_addN (pv 7) pe_int) (pv 5)) pa_nil))))))))))), ?_⟩
    have p1 := List.length_pos_iff.mpr n1
    have p2 := List.length_pos_iff.mpr n2
    by_cases eb : b1 = b2
    · subst eb
      refine ⟨_, rfl, _, rfl, rfl, true, dT rfl, iteT ?_⟩
      refine ⟨_, rfl, _, rfl, q1, _, rfl, .inl hL1, _, rfl, q2, _, rfl, .inl hL2, (w1.map lvV).length, (w2.map lvV).length, rfl, b1, max w1.length w2.length, ?_, hb1, hb1', by omega, by omega, fun H' q sm hq eq => c _ (tells_same hb1 n1 n2) H' q sm hq eq⟩
      rw [List.length_map, List.length_map]
      rfl
    · refine ⟨_, rfl, _, rfl, rfl, false, dF (vN eb), iteF ?_⟩
      refine ⟨_, rfl, _, rfl, b1, q1, w1, rfl, hb1, hb1', l1, hL1, n1, fun o1 ho1 => ?_⟩
      refine ⟨_, rfl, _, rfl, b2, q2, w2, rfl, hb2, hb2', l2, hL2, n2, fun o2 ho2 => ?_⟩
      refine ⟨by simp [sizeLine_eq], fun p hp => ?_⟩
      have sp := same_upd (o := .lst [optV (o1.map (b1 ^ ·)), optV (o2.map (b2 ^ ·))]) hp
      have ep : (upd H p (.lst [optV (o1.map (b1 ^ ·)), optV (o2.map (b2 ^ ·))])) p = some (.lst [optV (o1.map (b1 ^ ·)), optV (o2.map (b2 ^ ·))]) := upd_same
      generalize upd H p (.lst [optV (o1.map (b1 ^ ·)), optV (o2.map (b2 ^ ·))]) = Hp1 at sp ep ⊢
      generalize hS : [o1.map (b1 ^ ·), o2.map (b2 ^ ·)] = S
      have ep2 : Hp1 p = some (.lst (S.map optV)) := by rw [← hS]; exact ep
      have lS : S.length = 2 := by rw [← hS]; rfl
      refine ⟨_, rfl, p, rfl, ⟨_, SqL.of ep2⟩, fun D hD => lc_list (K := K) (a := p) (xs := S.map optV) (fun i H' => Same Hp1 H' ∧ H' D = some (.lst (((S.take i).filterMap id).map fun n : Nat => V.int n)))
        ⟨same_upd hD, upd_same⟩ (fun i H' _ ⟨sm, _⟩ => SqL.of (sm _ _ ep2)) ?_ ?_⟩
      · rintro i x H' hx ⟨sm, eD⟩
        obtain ⟨o, ho, rfl⟩ : ∃ o, S[i]? = some o ∧ optV o = x := by
          rw [List.getElem?_map] at hx
          cases hw : S[i]? with
          | none => rw [hw] at hx; cases hx
          | some v => rw [hw] at hx; exact ⟨v, rfl, Option.some.inj hx⟩
        have hi := (List.getElem?_eq_some_iff.mp ho).1
        cases o with
        | none =>
          refine ⟨rfl, _, rfl, rfl, false, rfl, iteF ⟨sm, ?_⟩⟩
          rw [List.take_add_one, ho, List.filterMap_append]
          simpa using eD
        | some n =>
          refine ⟨rfl, _, rfl, rfl, true, rfl, iteT ⟨_, rfl, _, eD, ?_, fun c o e => ?_, ?_⟩⟩
          · have := List.length_filterMap_le id (S.take i)
            rw [List.length_map]
            rw [List.length_take] at this
            exact sizeLine_ge (by omega)
          · rw [upd_ne (ne_of_none e hD)]
            exact sm _ _ e
          · rw [upd_same, List.take_add_one, ho, List.filterMap_append, List.map_append]
            rfl
      · rintro H2 ⟨sm, eD⟩
        rw [List.length_map, List.take_length] at eD
        have s0 := sp.trans sm
        cases hm : minO b1 b2 o1 o2 with
        | none =>
          have e1 : o1 = none := by cases o1 <;> cases o2 <;> first | rfl | cases hm
          have e2 : o2 = none := by cases o1 <;> cases o2 <;> first | rfl | cases hm
          subst e1 e2 hS
          refine ⟨_, rfl, D, _, rfl, .inl (SqL.of eD), rfl, true, rfl, iteT ?_⟩
          exact ⟨by simp [sizeLine_eq], fun q hq => c _ (tells_none hb1 hb2 ho1 ho2) _ q (s0.trans (same_upd hq)) (s0.free hq) upd_same⟩
        | some s =>
          have hT := tells_ne hb1 hb2 ho1 ho2 eb hm
          have pos : 0 < (S.filterMap id).length := by
            subst hS
            cases o1 <;> cases o2 <;> first | (simp; done) | cases hm
          have hmin : s ∈ S.filterMap id ∧ ∀ y ∈ S.filterMap id, s ≤ y := by
            subst hS
            cases o1 <;> cases o2 <;> simp [minO] at hm ⊢ <;> omega
          have eD2 : H2 D = some (.lst (((S.filterMap id).map fun n : Nat => (n : Int)).map V.int)) := by
            rw [eD, List.map_map]
            rfl
          refine ⟨_, rfl, D, _, rfl, .inl (SqL.of eD), rfl, false, dF ?_, iteF ?_⟩
          · rw [List.length_map]
            exact vI (by omega)
          refine ⟨_, rfl, D, (S.filterMap id).map fun n : Nat => (n : Int), rfl, SqL.of eD2, by rw [List.length_map]; exact pos, fun m hm1 hm2 => ?_⟩
          obtain ⟨s', hs', rfl⟩ := List.mem_map.mp hm1
          have es : s' = s := by
            have a := hm2 _ (List.mem_map.mpr ⟨s, hmin.1, rfl⟩)
            have b := hmin.2 s' hs'
            omega
          subst es
          refine ⟨_, rfl, _, rfl, b1, b2, rfl, _, _, rfl, ?_⟩
          refine ⟨_, rfl, _, rfl, _, rfl, min b1 b2, s', rfl, rfl, nmul_l (by omega), _, rfl, _, _, rfl, rfl, trivial, _, rfl, _, _, rfl, rfl, nmul_l (by show min b1 b2 + 1 < 2 ^ 64; omega), by simp [sizeLine_eq], fun q hq => ?_⟩
          exact c _ hT _ q (s0.trans (same_upd hq)) (s0.free hq) upd_same
end
/-! ### the program: the first tick at which they differ -/
theorem RowsAt.append {H : Hp} : ∀ {ts us : List Addr} {rs qs : List Row3}, RowsAt H ts rs → RowsAt H us qs → RowsAt H (ts ++ us) (rs ++ qs)
  | [], _, [], _, _, h => h
  | _ :: _, _, _ :: _, _, h, g => ⟨h.1, RowsAt.append h.2 g⟩
  | [], _, _ :: _, _, h, _ => h.elim
  | _ :: _, _, [], _, h, _ => h.elim
/-- numbers that are not negative, sorted -/
theorem sorted_nats {T : List Nat} {ns : List Int} (hp : ns.Perm (T.map fun n : Nat => (n : Int))) (hu : ns.Pairwise (· ≤ ·)) : ∃ S : List Nat, ns = S.map (fun n : Nat => (n : Int)) ∧ S.Perm T ∧ S.Pairwise (· ≤ ·) := by
  have e : ns = (ns.map Int.toNat).map (fun n : Nat => (n : Int)) := by
    rw [List.map_map]
    refine ((List.map_congr_left fun x hx => ?_).trans (List.map_id ns)).symm
    obtain ⟨n, _, rfl⟩ := List.mem_map.mp (hp.mem_iff.mp hx)
    rfl
  refine ⟨ns.map Int.toNat, e, ?_, ?_⟩
  · have := hp.map Int.toNat
    rw [List.map_map] at this
    have z : T.map (Int.toNat ∘ fun n : Nat => (n : Int)) = T := by
      refine (List.map_congr_left fun x _ => ?_).trans (List.map_id T)
      rfl
    rwa [z] at this
  · rw [List.pairwise_map]
    exact hu.imp fun {a b} h => by omega
section
variable {P : Program} {w : World} {K : PySem.W.Frag} {mg : Str → Option Value} {base : Heap}
def spFstD (K : PySem.W.Frag) : Sp := fun vs H Q _ => ∃ (b1 b2 d : Nat) (q1 q2 : Addr) (w1 w2 : List Bool), vs = [.int (b1 : Nat), .ref q1, .int (b2 : Nat), .ref q2, .int (d : Nat)] ∧ 2 ≤ b1 ∧ b1 ≤ 64 ∧ 2 ≤ b2 ∧ b2 ≤ 64 ∧ 1 ≤ d ∧ d < 2 ^ 250 ∧ SqL K H q1 (w1.map lvV) ∧ SqL K H q2 (w2.map lvV) ∧ w1 ≠ [] ∧ w2 ≠ [] ∧
  ∀ r, FstP b1 w1 b2 w2 d r → ∀ H', Same H H' → Q (optV r) H'
theorem ok_first_difference {f : Addr} {fd : FuncData} (F : Fun K "first_difference" "first_difference" s_first_difference f fd) (T : Tx K mg) (h1 : Has P w K mg base 2 "path" ["base", "now", "due"] [] spPath) (h2 : Has P w K mg base 3 "goes_in_front" ["base", "levels", "now", "due", "lowest"] [] (spFront K)) :
    FnOk P w K mg base CX0 4 f fd ["base", "levels", "other_base", "other_levels", "due"] (spFstD K) := by
  obtain ⟨f_path, fd_path, ds_path, G_path, m_path, k_path, b_path, v_path⟩ := h1
  obtain ⟨f_goes_in_front, fd_goes_in_front, ds_goes_in_front, G_goes_in_front, m_goes_in_front, k_goes_in_front, b_goes_in_front, v_goes_in_front⟩ := h2
  refine F.ok sc_first_difference (fun vs H Q E h => ?_) (fun cdv A outer s H vs Q E hr h => ?_)
  · obtain ⟨b1, b2, d, q1, q2, w1, w2, rfl, _⟩ := h
    rfl
  · obtain ⟨b1, b2, d, q1, q2, w1, w2, rfl, hb1, hb1', hb2, hb2', hd, hd', hL1, hL2, n1, n2, c⟩ := h
    refine ⟨_, (pss_cons (ps_setLc (i := 5) (own := [("level", 8), ("digit", 9), ("tick", 10)]) (g := _) (tt := tYes) rfl sc_first_difference.nd rfl rfl (sw_true rfl rfl rfl (by decide +kernel)) (pi_list (pe_op op_cat (pe_call G_path (hr.mono (by decide)) (by rfl) m_path k_path b_path v_path pass0 (pa_cons (pv 0) (pa_cons pe_int (pa_cons (pv 4) pa_nil)))) (pe_call G_path (hr.mono (by decide)) (by rfl) m_path k_path b_path v_path pass0 (pa_cons (pv 2) (pa_cons pe_int (pa_cons (pv 4) pa_nil)))))) (blkOk_by (own := [("level", 8), ("digit", 9), ("tick", 10)]) (N := N_first_difference) (sc := defScope s_first_difference) (by decide +kernel)) (fun _ _ _ _ _ => (pg_tupK (K := K) (n := 3) rfl rfl (pgs_cons (pg_name (i := 8) sc_first_difference.nd rfl (.inl rfl)) (pgs_cons (pg_name (i := 9) sc_first_difference.nd rfl (.inl rfl)) (pgs_cons (pg_name (i := 10) sc_first_difference.nd rfl (.inl rfl)) pgs_nil))))) (fun _ _ _ _ _ => pts_nil) (fun _ _ _ _ _ => (pv 10)))
      (pss_cons (ps_for PassesOwn.never rfl (pi_list (pe_callB cr_sortedI (by rfl) T.b_sorted (by decide +kernel) (pa_cons (pv 5) pa_nil))) (pg_name (i := 6) sc_first_difference.nd rfl (.inl rfl))
        (pss_cons (ps_set (i := 7) sc_first_difference.nd rfl (.inl rfl) (pe_call G_goes_in_front hr (by rfl) m_goes_in_front k_goes_in_front b_goes_in_front v_goes_in_front pass0 (pa_cons (pv 0) (pa_cons (pv 1) (pa_cons (pv 6) (pa_cons (pv 4) (pa_cons pe_int pa_nil)))))))
        (pss_one (ps_if (pt_cmpR op_ne (pv 7) (pe_call G_goes_in_front hr (by rfl) m_goes_in_front k_goes_in_front b_goes_in_front v_goes_in_front pass0 (pa_cons (pv 2) (pa_cons (pv 3) (pa_cons (pv 6) (pa_cons (pv 4) (pa_cons pe_int pa_nil)))))) (nomark _))
          (pss_one (ps_ret (pv 6)))
          pss_nil))))
      (pss_one (ps_ret pe_non)))), ?_⟩
    refine ⟨_, rfl, _, rfl, b1, 0, d, rfl, hb1, hb1', by omega, hd', fun k1 hk1 Ha p1 ts1 sa hp1 ep1 R1 => ?_⟩
    refine ⟨_, rfl, _, rfl, b2, 0, d, rfl, hb2, hb2', by omega, hd', fun k2 hk2 Hb p2 ts2 sb hp2 ep2 R2 => ?_⟩
    have hsm : ∀ {b k : Nat}, 2 ≤ b → IsLev b 0 d k → (rowsOf b 0 d k).length ≤ 251 := fun {b k} hb hk => by
      have a := tail_len b d k
      have z := lev_small hk hb (by omega) hd'
      show (tailOf b d k).length + 1 ≤ 251
      omega
    have r1 := hsm hb1 hk1
    have r2 := hsm hb2 hk2
    have lt1 : ts1.length = (rowsOf b1 0 d k1).length := R1.len
    have lt2 : ts2.length = (rowsOf b2 0 d k2).length := R2.len
    have R : RowsAt Hb (ts1 ++ ts2) (rowsOf b1 0 d k1 ++ rowsOf b2 0 d k2) := (R1.same sb).append R2
    refine ⟨p1, p2, _, _, rfl, rfl, sb _ _ ep1, ep2, sizeLine_le (by rw [List.length_map, List.length_map]; omega), fun p hp => ?_⟩
    have sp := same_upd (o := .lst (ts1.map V.ref ++ ts2.map V.ref)) hp
    have ep : (upd Hb p (.lst (ts1.map V.ref ++ ts2.map V.ref))) p = some (.lst ((ts1 ++ ts2).map V.ref)) := by rw [upd_same, List.map_append]
    generalize upd Hb p (.lst (ts1.map V.ref ++ ts2.map V.ref)) = Hp1 at sp ep ⊢
    replace R := R.same sp
    have lts : (ts1 ++ ts2).length ≤ 502 := by rw [List.length_append]; omega
    generalize hrs : rowsOf b1 0 d k1 ++ rowsOf b2 0 d k2 = rs at R
    have hT : rs.map (·.2.2) = ticksOf b1 d k1 ++ ticksOf b2 d k2 := by rw [← hrs, List.map_append]; rfl
    generalize ts1 ++ ts2 = ts at ep R lts
    refine ⟨p, rfl, ⟨_, SqL.of ep⟩, fun D hD => lc_list (K := K) (a := p) (xs := ts.map V.ref) (fun i H' => Same Hp1 H' ∧ H' D = some (.lst ((rs.take i).map fun r => V.int (r.2.2 : Nat))))
      ⟨same_upd hD, upd_same⟩ (fun i H' _ ⟨sm, _⟩ => SqL.of (sm _ _ ep)) ?_ ?_⟩
    · rintro i x H' hx ⟨sm, eD⟩
      obtain ⟨ti, r, rfl, hti, hr, er⟩ := R.item hx
      refine ⟨ti, _, rfl, .inl (.inl (sm _ _ er)), rfl, _, _, rfl, _, _, rfl, _, _, rfl, rfl, rfl, yesT (iteT ?_)⟩
      refine ⟨_, rfl, _, eD, ?_, fun c o e => ?_, ?_⟩
      · have := R.len
        have hi := (List.getElem?_eq_some_iff.mp hti).1
        rw [List.length_map, List.length_take]
        exact sizeLine_ge (by omega)
      · rw [upd_ne (ne_of_none e hD)]
        exact sm _ _ e
      · rw [upd_same, List.take_add_one, hr, List.map_append]
        rfl
    · rintro H2 ⟨sm, eD⟩
      have eD2 : H2 D = some (.lst (((rs.map (·.2.2)).map fun n : Nat => (n : Int)).map V.int)) := by
        rw [eD, List.length_map, R.len, List.take_length, List.map_map, List.map_map]
        rfl
      refine ⟨_, rfl, D, _, rfl, SqL.of eD2, fun ns' p3 pm up hp3 => ?_⟩
      obtain ⟨S, rfl, pS, uS⟩ := sorted_nats pm up
      have s3 := same_upd (o := .lst ((S.map fun n : Nat => (n : Int)).map V.int)) hp3
      have e3 : (upd H2 p3 (.lst ((S.map fun n : Nat => (n : Int)).map V.int))) p3 = some (.lst (S.map fun n : Nat => V.int n)) := by rw [upd_same, List.map_map]; rfl
      generalize upd H2 p3 (.lst ((S.map fun n : Nat => (n : Int)).map V.int)) = H3 at s3 e3 ⊢
      have sH : Same H H3 := (((sa.trans sb).trans sp).trans sm).trans s3
      have hmem : ∀ t, t ∈ S ↔ t ∈ ticksOf b1 d k1 ++ ticksOf b2 d k2 := fun t => by rw [← hT]; exact pS.mem_iff
      have hlt : ∀ t ∈ S, t < d := fun t ht => by
        rcases List.mem_append.mp ((hmem t).mp ht) with y | y
        · exact ticks_lt hb1 hd y
        · exact ticks_lt hb2 hd y
      refine ⟨p3, rfl, ⟨_, SqL.of e3⟩, for_list (K := K) (a := p3) (xs := S.map fun n : Nat => V.int n) (fun i σ H' => ∃ y6 y7 y8 y9 y10, σ = [some (.int (b1 : Nat)), some (.ref q1), some (.int (b2 : Nat)), some (.ref q2), some (.int (d : Nat)), some (.ref D), y6, y7, y8, y9, y10] ∧ Same H3 H' ∧ ∀ t ∈ S.take i, ¬ Dif b1 w1 b2 w2 t d)
        ⟨none, none, none, none, none, rfl, fun _ _ e => e, fun t ht => by cases ht⟩ (fun i σ H' _ ⟨_, _, _, _, _, _, sm, _⟩ => SqL.of (sm _ _ e3)) ?_ ?_⟩
      · rintro i x σ H' hx ⟨y6, y7, y8, y9, y10, rfl, s4, hno⟩
        obtain ⟨t, ht, rfl⟩ : ∃ t, S[i]? = some t ∧ V.int (t : Nat) = x := by
          rw [List.getElem?_map] at hx
          cases hw : S[i]? with
          | none => rw [hw] at hx; cases hx
          | some v => rw [hw] at hx; exact ⟨v, rfl, Option.some.inj hx⟩
        have htd := hlt t (List.mem_of_getElem? ht)
        obtain ⟨j1, hj1⟩ := lev_any (n := t) (d := d) hb1 htd
        obtain ⟨j2, hj2⟩ := lev_any (n := t) (d := d) hb2 htd
        have s04 := sH.trans s4
        refine ⟨_, rfl, _, rfl, _, rfl, _, rfl, b1, t, d, 0, q1, w1, rfl, hb1, hb1', htd, hd', s04.seq hL1, n1, fun k hk H5 s5 => ?_⟩
        rw [← frB_eq hk]
        refine ⟨_, rfl, _, rfl, _, rfl, _, rfl, _, rfl, b2, t, d, 0, q2, w2, rfl, hb2, hb2', htd, hd', (s04.trans s5).seq hL2, n2, fun k' hk' H6 s6 => ?_⟩
        rw [← frB_eq hk']
        have s06 := (s04.trans s5).trans s6
        by_cases e : frB w1 b1 t d = frB w2 b2 t d
        · refine ⟨rfl, false, nF (congrArg V.bl e), iteF ⟨_, _, _, _, _, rfl, (s4.trans s5).trans s6, fun t' ht' => ?_⟩⟩
          rw [List.take_add_one, ht] at ht'
          rcases List.mem_append.mp ht' with y | y
          · exact hno t' y
          · rw [List.mem_singleton.mp y]
            exact fun z => z e
        · refine ⟨rfl, true, nT (fun z => e (V.bl.inj z)), iteT ⟨_, rfl, c (some t) ?_ _ s06⟩⟩
          have el : S = S.take i ++ t :: S.drop (i + 1) := by
            have hi := (List.getElem?_eq_some_iff.mp ht)
            have z := List.drop_eq_getElem_cons hi.1
            rw [hi.2] at z
            rw [← z, List.take_append_drop]
          exact fst_at hb1 hb2 hd hk1 hk2 hmem uS el hno e
      · rintro σ H' ⟨y6, y7, y8, y9, y10, rfl, s4, hno⟩
        rw [List.length_map, List.take_length] at hno
        exact c none (fst_none hb1 hb2 hk1 hk2 hmem hno) _ (sH.trans s4)
end
/-! ### the program: two wheels told apart -/
section
variable {P : Program} {w : World} {K : PySem.W.Frag} {mg : Str → Option Value} {base : Heap}
theorem due_small {b1 l1 b2 l2 e : Nat} (h1 : b1 ≤ 64) (h2 : b2 ≤ 64) (k1 : l1 ≤ 40) (k2 : l2 ≤ 40) (h : DueB b1 l1 b2 l2 e) : e < 2 ^ 250 := by
  have key : ∀ {b l : Nat}, b ≤ 64 → l ≤ 40 → (b + 1) * b ^ (l - 1) < 2 ^ 250 := fun {b l} hb hl => by
    have a : b ^ (l - 1) < 2 ^ 241 := pow_lt_240 hb (by omega)
    have c : (b + 1) * b ^ (l - 1) ≤ 2 ^ 7 * 2 ^ 241 := Nat.mul_le_mul (by omega) (Nat.le_of_lt a)
    exact Nat.lt_of_le_of_lt c (by rw [← Nat.pow_add]; exact Nat.pow_lt_pow_right (by omega) (by omega))
  rcases h with z | z
  · exact Nat.lt_of_le_of_lt z (key h1 k1)
  · exact Nat.lt_of_le_of_lt z (key h2 k2)
def spTold (K : PySem.W.Frag) : Sp := fun vs H Q _ => ∃ (b1 b2 : Nat) (q1 q2 : Addr) (w1 w2 : List Bool), vs = [.int (b1 : Nat), .ref q1, .int (b2 : Nat), .ref q2] ∧ 2 ≤ b1 ∧ b1 ≤ 64 ∧ 2 ≤ b2 ∧ b2 ≤ 64 ∧ w1.length ≤ 40 ∧ w2.length ≤ 40 ∧ SqL K H q1 (w1.map lvV) ∧ SqL K H q2 (w2.map lvV) ∧ w1 ≠ [] ∧ w2 ≠ [] ∧
  ∀ r, ToldP b1 w1 b2 w2 r → ∀ H' u, Same H H' → H u = none → H' u = some (.tup (tolV r)) → Q (.ref u) H'
theorem ok_told_apart {f : Addr} {fd : FuncData} (F : Fun K "told_apart" "told_apart" s_told_apart f fd) (h1 : Has P w K mg base 3 "check_base" ["base"] [] spCheckBase) (h2 : Has P w K mg base 4 "check_levels" ["levels"] [] (spCheckLevels K))
    (h3 : Has P w K mg base 2 "telling_dues" ["base", "levels", "other_base", "other_levels"] [] (spTelling K)) (h4 : Has P w K mg base 4 "first_difference" ["base", "levels", "other_base", "other_levels", "due"] [] (spFstD K)) :
    FnOk P w K mg base CX0 5 f fd ["base", "levels", "other_base", "other_levels"] (spTold K) := by
  obtain ⟨f_check_base, fd_check_base, ds_check_base, G_check_base, m_check_base, k_check_base, b_check_base, v_check_base⟩ := h1
  obtain ⟨f_check_levels, fd_check_levels, ds_check_levels, G_check_levels, m_check_levels, k_check_levels, b_check_levels, v_check_levels⟩ := h2
  obtain ⟨f_telling_dues, fd_telling_dues, ds_telling_dues, G_telling_dues, m_telling_dues, k_telling_dues, b_telling_dues, v_telling_dues⟩ := h3
  obtain ⟨f_first_difference, fd_first_difference, ds_first_difference, G_first_difference, m_first_difference, k_first_difference, b_first_difference, v_first_difference⟩ := h4
  refine F.ok sc_told_apart (fun vs H Q E h => ?_) (fun cdv A outer s H vs Q E hr h => ?_)
  · obtain ⟨b1, b2, q1, q2, w1, w2, rfl, _⟩ := h
    rfl
  · obtain ⟨b1, b2, q1, q2, w1, w2, rfl, hb1, hb1', hb2, hb2', l1, l2, hL1, hL2, n1, n2, c⟩ := h
    refine ⟨_, (pss_cons (ps_expr (pe_call G_check_base (hr.mono (by decide)) (by rfl) m_check_base k_check_base b_check_base v_check_base pass0 (pa_cons (pv 0) pa_nil)))
      (pss_cons (ps_expr (pe_call G_check_levels hr (by rfl) m_check_levels k_check_levels b_check_levels v_check_levels pass0 (pa_cons (pv 1) pa_nil)))
      (pss_cons (ps_expr (pe_call G_check_base (hr.mono (by decide)) (by rfl) m_check_base k_check_base b_check_base v_check_base pass0 (pa_cons (pv 2) pa_nil)))
      (pss_cons (ps_expr (pe_call G_check_levels hr (by rfl) m_check_levels k_check_levels b_check_levels v_check_levels pass0 (pa_cons (pv 3) pa_nil)))
      (pss_cons (ps_for PassesOwn.never rfl (pi_list (pe_call G_telling_dues (hr.mono (by decide)) (by rfl) m_telling_dues k_telling_dues b_telling_dues v_telling_dues pass0 (pa_cons (pv 0) (pa_cons (pv 1) (pa_cons (pv 2) (pa_cons (pv 3) pa_nil)))))) (pg_name (i := 4) sc_told_apart.nd rfl (.inl rfl))
        (pss_cons (ps_set (i := 5) sc_told_apart.nd rfl (.inl rfl) (pe_call G_first_difference hr (by rfl) m_first_difference k_first_difference b_first_difference v_first_difference pass0 (pa_cons (pv 0) (pa_cons (pv 1) (pa_cons (pv 2) (pa_cons (pv 3) (pa_cons (pv 4) pa_nil)))))))
        (pss_one (ps_if (pt_cmpR op_notN (pv 5) pe_non (nomark _))
          (pss_one (ps_ret (pe_tup (pa_cons pe_str (pa_cons (pv 4) (pa_cons (pv 5) pa_nil))))))
          pss_nil))))
      (pss_one (ps_ret (pe_tup (pa_cons pe_str pa_nil))))))))), ?_⟩
    refine ⟨_, rfl, b1, rfl, by omega, by omega, ?_⟩
    refine ⟨_, rfl, q1, w1, rfl, hL1, n1, by omega, fun Ha sa => ?_⟩
    refine ⟨_, rfl, b2, rfl, by omega, by omega, ?_⟩
    refine ⟨_, rfl, q2, w2, rfl, sa.seq hL2, n2, by omega, fun Hb sb => ?_⟩
    have sab := sa.trans sb
    refine ⟨_, rfl, _, rfl, _, rfl, _, rfl, b1, b2, q1, q2, w1, w2, rfl, hb1, hb1', hb2, hb2', l1, l2, sab.seq hL1, sab.seq hL2, n1, n2, fun L hT Hc q sc hq eq => ?_⟩
    have sH := sab.trans sc
    refine ⟨q, rfl, ⟨_, SqL.of eq⟩, for_list (K := K) (a := q) (xs := L.map fun n : Nat => V.int n) (fun i σ H' => ∃ y4 y5, σ = [some (.int (b1 : Nat)), some (.ref q1), some (.int (b2 : Nat)), some (.ref q2), y4, y5] ∧ Same Hc H' ∧ ∀ e ∈ L.take i, ∀ n, n < e → ¬ Dif b1 w1 b2 w2 n e)
      ⟨none, none, rfl, fun _ _ e => e, fun t ht => by cases ht⟩ (fun i σ H' _ ⟨_, _, _, sm, _⟩ => SqL.of (sm _ _ eq)) ?_ ?_⟩
    · rintro i x σ H' hx ⟨y4, y5, rfl, sm, hno⟩
      obtain ⟨e, he, rfl⟩ : ∃ t, L[i]? = some t ∧ V.int (t : Nat) = x := by
        rw [List.getElem?_map] at hx
        cases hw : L[i]? with
        | none => rw [hw] at hx; cases hx
        | some v => rw [hw] at hx; exact ⟨v, rfl, Option.some.inj hx⟩
      obtain ⟨e1, eB⟩ := hT.bd e (List.mem_of_getElem? he)
      have s1 := sH.trans sm
      refine ⟨_, rfl, _, rfl, _, rfl, _, rfl, _, rfl, b1, b2, e, q1, q2, w1, w2, rfl, hb1, hb1', hb2, hb2', e1, due_small hb1' hb2' l1 l2 eB, s1.seq hL1, s1.seq hL2, n1, n2, fun r hr H5 s5 => ?_⟩
      cases r with
      | none =>
        refine ⟨_, rfl, rfl, false, rfl, iteF ⟨_, _, rfl, sm.trans s5, fun e' he' => ?_⟩⟩
        rw [List.take_add_one, he] at he'
        rcases List.mem_append.mp he' with y | y
        · exact hno e' y
        · rw [List.mem_singleton.mp y]
          exact hr
      | some m =>
        refine ⟨_, rfl, rfl, true, rfl, iteT ⟨_, rfl, _, rfl, by simp [sizeLine_eq], fun u hu => ?_⟩⟩
        have el : L = L.take i ++ e :: L.drop (i + 1) := by
          have hi := (List.getElem?_eq_some_iff.mp he)
          have z := List.drop_eq_getElem_cons hi.1
          rw [hi.2] at z
          rw [← z, List.take_append_drop]
        have hT2 := hT
        rw [el] at hT2
        exact c (some (e, m)) (tells_at hT2 hno hr) _ u ((s1.trans s5).trans (same_upd hu)) ((s1.trans s5).free hu) upd_same
    · rintro σ H' ⟨y4, y5, rfl, sm, hno⟩
      rw [List.length_map, List.take_length] at hno
      exact ⟨by simp [sizeLine_eq], fun u hu => c none (tells_done hT hno) _ u ((sH.trans sm).trans (same_upd hu)) ((sH.trans sm).free hu) upd_same⟩
end
/-! ### levels_seen: the equation of a sighting, reduced by the known ones -/
def sideV (f : Bool) : V := .str (if f then "front" else "back")
/-- an equation in the heap -/
def EqAt (H : Hp) (t q : Addr) (e : Eqn) : Prop := H t = some (.tup [.ref q, .bl e.2]) ∧ H q = some (.lst (e.1.map fun x => V.int (x : Nat)))
theorem EqAt.same {H H' : Hp} {t q : Addr} {e : Eqn} (s : Same H H') (h : EqAt H t q e) : EqAt H' t q e := ⟨s _ _ h.1, s _ _ h.2⟩
section
variable {P : Program} {w : World} {K : PySem.W.Frag} {mg : Str → Option Value} {base : Heap}
def spEquation : Sp := fun vs H Q _ => ∃ (b many n d : Nat) (t : Addr) (fr : Bool), vs = [.int (b : Nat), .int (many : Nat), .ref t] ∧ H t = some (.tup [.int (n : Nat), .int (d : Nat), sideV fr]) ∧ 2 ≤ b ∧ b ≤ 64 ∧ 1 ≤ many ∧ many ≤ 60 ∧ n < d ∧ d < 2 ^ 250 ∧
  ∀ k, IsLev b n d k → ∀ H' u q, Same H H' → H u = none → H q = none → EqAt H' u q (eqLv many (rowsOf b n d k), fr) → Q (.ref u) H'
theorem ok_equation {f : Addr} {fd : FuncData} (F : Fun K "equation" "equation" s_equation f fd) (T : Tx K mg) (h1 : Has P w K mg base 2 "path" ["base", "now", "due"] [] spPath) : FnOk P w K mg base CX0 3 f fd ["base", "many", "sighting"] spEquation := by
  obtain ⟨f_path, fd_path, ds_path, G_path, m_path, k_path, b_path, v_path⟩ := h1
  refine F.ok sc_equation (fun vs H Q E h => ?_) (fun cdv A outer s H vs Q E hr h => ?_)
  · obtain ⟨b, many, n, d, t, fr, rfl, _⟩ := h
    rfl
  · obtain ⟨b, many, n, d, t, fr, rfl, ht, hb, hb64, hm1, hm60, hnd, hd, c⟩ := h
    refine ⟨_, (pss_cons (ps_asg (pv 2) (pg_tupK (K := K) (n := 3) rfl rfl (pgs_cons (pg_name (i := 3) sc_equation.nd rfl (.inl rfl)) (pgs_cons (pg_name (i := 4) sc_equation.nd rfl (.inl rfl)) (pgs_cons (pg_name (i := 5) sc_equation.nd rfl (.inl rfl)) pgs_nil)))))
      (pss_cons (ps_set (i := 6) sc_equation.nd rfl (.inl rfl) (pe_call G_path hr (by rfl) m_path k_path b_path v_path pass0 (pa_cons (pv 0) (pa_cons (pv 3) (pa_cons (pv 4) pa_nil)))))
      (pss_cons (ps_set (i := 7) sc_equation.nd rfl (.inl rfl) (pe_callB cr_sortedI (by rfl) T.b_sorted (by decide +kernel) (pa_cons (pe_lc (own := [("level", 8), ("digit", 9), ("tick", 10)]) (g := _)  rfl sc_equation.nd (pi_list (pv 6)) (blkOk_by (own := [("level", 8), ("digit", 9), ("tick", 10)]) (N := N_equation) (sc := defScope s_equation) (by decide +kernel)) (fun _ _ _ _ _ => (pg_tupK (K := K) (n := 3) rfl rfl (pgs_cons (pg_name (i := 8) sc_equation.nd rfl (.inl rfl)) (pgs_cons (pg_name (i := 9) sc_equation.nd rfl (.inl rfl)) (pgs_cons (pg_name (i := 10) sc_equation.nd rfl (.inl rfl)) pgs_nil))))) (fun _ _ _ _ _ => (pts_one (pt_cmpR op_lt (pv 8) (pe_op op_subN (pv 1) pe_int) (nomark _)))) (fun _ _ _ _ _ => (pv 8))) pa_nil)))
      (pss_cons (ps_if (pt_cmpR op_eq (pe_op op_remN (pe_op op_subN (pe_callB (lenK (K := K) rfl) (by rfl) T.b_len PySem.boot_len (pa_cons (pv 6) pa_nil)) (pe_callB (lenK (K := K) rfl) (by rfl) T.b_len PySem.boot_len (pa_cons (pv 7) pa_nil))) pe_int) pe_int (nomark _))
        (pss_one (ps_expr (pe_bm PySem.F.plainAttrs_list PySem.F.slot_list_append PySem.F.type_list_append mt_append (pv 7) (pa_cons (pe_op op_subN (pv 1) pe_int) pa_nil))))
        pss_nil)
      (pss_one (ps_ret (pe_tup (pa_cons (pv 7) (pa_cons (pe_cmpR op_eq (pv 5) pe_str (nomark _)) pa_nil))))))))), ?_⟩
    refine ⟨_, rfl, t, _, rfl, .inl (.inl ht), rfl, _, _, rfl, _, _, rfl, _, _, rfl, rfl, ?_⟩
    refine ⟨_, rfl, _, rfl, _, rfl, b, n, d, rfl, hb, hb64, hnd, hd, fun k hk H1 p ts s1 hp0 hp R => ?_⟩
    obtain ⟨rs, hrs⟩ : ∃ rs, rs = rowsOf b n d k := ⟨_, rfl⟩
    rw [← hrs] at R
    have hlevs : (rs.map (·.1)).Pairwise (· > ·) := by rw [hrs]; exact rows_levs b n d k
    obtain ⟨pf, hpf⟩ : ∃ pf : Nat → Bool, pf = fun l => decide (l < many - 1) := ⟨_, rfl⟩
    have hlow : eqLow many rs = ((rs.map (·.1)).filter pf).reverse := by rw [hpf]; rfl
    have rlen : ts.length = rs.length := R.len
    have few : (rs.map (·.1)).length ≤ 300 := by
      rw [List.length_map, hrs]
      have h1 := lev_small hk hb hnd hd
      have h2 := tail_len b d k
      show (tailOf b d k).length + 1 ≤ 300
      omega
    refine ⟨_, rfl, p, rfl, ⟨_, SqL.of hp⟩, fun D hD => lc_list (K := K) (a := p) (xs := ts.map V.ref) (fun i H' => Same H1 H' ∧ H' D = some (.lst ((((rs.take i).map (·.1)).filter pf).map fun x => V.int (x : Nat))))
      ⟨same_upd hD, upd_same⟩ (fun i H' _ ⟨sm, _⟩ => SqL.of (sm _ _ hp)) ?_ ?_⟩
    · rintro i x H' hx ⟨sm, eD⟩
      obtain ⟨ti, r, rfl, hti, hr, er⟩ := R.item hx
      have hil : i < rs.length := (List.getElem?_eq_some_iff.mp hr).1
      have estep : (((rs.take (i + 1)).map (·.1)).filter pf) = (((rs.take i).map (·.1)).filter pf) ++ if pf r.1 = true then [r.1] else [] := by
        rw [List.take_add_one, hr, Option.toList_some, List.map_append, List.filter_append]
        congr 1
        show List.filter pf [r.1] = _
        cases c : pf r.1 <;> simp [c]
      refine ⟨ti, _, rfl, .inl (.inl (sm _ _ er)), rfl, _, _, rfl, _, _, rfl, _, _, rfl, rfl, ?_⟩
      have hpr : V.bl (decide (((r.1 : Nat) : Int) < ((many - 1 : Nat) : Int))) = V.bl (pf r.1) := by
        rw [hpf]
        congr 1
        exact decide_eq_decide.mpr (by omega)
      refine ⟨rfl, _, rfl, _, rfl, many, 1, rfl, rfl, hm1, ((r.1 : Nat) : Int), ((many - 1 : Nat) : Int), rfl, rfl, pf r.1, hpr, ?_⟩
      cases c : pf r.1 with
      | true =>
        refine iteT ⟨_, rfl, _, eD, ?_, fun c2 o e => ?_, ?_⟩
        · rw [List.length_map]
          refine sizeLine_ge (Nat.le_trans (List.length_filter_le _ _) ?_)
          rw [List.length_map, List.length_take]
          rw [List.length_map] at few
          omega
        · rw [upd_ne (ne_of_none e hD)]
          exact sm _ _ e
        · rw [upd_same, estep, c, if_pos rfl, List.map_append]
          rfl
      | false =>
        refine iteF ⟨sm, ?_⟩
        rw [estep, c, if_neg Bool.false_ne_true, List.append_nil]
        exact eD
    · rintro H2 ⟨s2, eD⟩
      rw [List.length_map, rlen, List.take_length] at eD
      have ef : ((rs.map (·.1)).filter pf).map (fun x => V.int (x : Nat)) = (((rs.map (·.1)).filter pf).map fun x : Nat => ((x : Nat) : Int)).map V.int := by
        rw [List.map_map]
        rfl
      rw [ef] at eD
      refine ⟨D, _, rfl, SqL.of eD, fun ns' L perm up hL => ?_⟩
      have el : ns' = (eqLow many rs).map fun x : Nat => ((x : Nat) : Int) := by
        have up2 : ((eqLow many rs).map fun x : Nat => ((x : Nat) : Int)).Pairwise (· ≤ ·) := List.pairwise_map.mpr ((low_asc hlevs).1.imp fun h => by omega)
        refine List.Perm.eq_of_pairwise (le := (· ≤ ·)) (fun a b _ _ h1 h2 => Int.le_antisymm h1 h2) up up2 (perm.trans ?_)
        rw [hlow]
        exact ((List.reverse_perm _).map _).symm
      have eml : ns'.map V.int = (eqLow many rs).map fun x => V.int (x : Nat) := by
        rw [el, List.map_map]
        rfl
      rw [eml]
      have sL := same_upd (o := .lst ((eqLow many rs).map fun x => V.int (x : Nat))) hL
      have eL := upd_same (H := H2) (a := L) (o := .lst ((eqLow many rs).map fun x => V.int (x : Nat)))
      have s13 := s2.trans sL
      have nL : H L = none := s1.free (s2.free hL)
      generalize upd H2 L (.lst ((eqLow many rs).map fun x => V.int (x : Nat))) = H3 at sL eL s13 ⊢
      have llen : (eqLow many rs).length ≤ rs.length := by
        unfold eqLow
        rw [List.length_reverse]
        refine Nat.le_trans (List.length_filter_le _ _) ?_
        rw [List.length_map]
        exact Nat.le_refl _
      have hside : V.bl (decide (sideV fr = V.str "front")) = V.bl fr := by cases fr <;> rfl
      have hsc : scal (sideV fr) (V.str "front") = true := by cases fr <;> rfl
      have fin : ∀ H4, Same H H4 → H4 L = some (.lst ((eqLv many rs).map fun x => V.int (x : Nat))) → ∀ u, H4 u = none → Q (.ref u) (upd H4 u (.tup [.ref L, .bl fr])) := fun H4 s4 e4 u hu => by
        have su := same_upd (o := .tup [.ref L, .bl fr]) hu
        rw [hrs] at e4
        exact c k hk _ u L (s4.trans su) (s4.free hu) nL ⟨upd_same, su _ _ e4⟩
      refine ⟨_, rfl, p, _, rfl, .inl (SqL.of (s13 _ _ hp)), _, rfl, L, _, rfl, .inl (SqL.of eL), (ts.map V.ref).length, ((eqLow many rs).map fun x => V.int (x : Nat)).length, rfl, rfl, ?_, (ts.map V.ref).length - ((eqLow many rs).map fun x => V.int (x : Nat)).length, 2, rfl, rfl, (by decide : 0 < 2), rfl, ?_⟩
      · rw [List.length_map, List.length_map, rlen]
        exact llen
      rw [List.length_map, List.length_map, rlen]
      by_cases odd : (rs.length - (eqLow many rs).length) % 2 = 1
      · refine ⟨true, dT (congrArg (fun x : Nat => V.int (x : Nat)) odd), iteT ?_⟩
        have ev : eqLv many rs = eqLow many rs ++ [many - 1] := by
          unfold eqLv
          rw [if_pos odd]
        refine ⟨_, rfl, .inl ⟨rfl, _, SqL.of eL⟩, _, rfl, many, 1, rfl, rfl, hm1, L, _, _, rfl, rfl, eL, ?_, ?_⟩
        · rw [List.length_map]
          rw [List.length_map] at few
          exact sizeLine_ge (by omega)
        have e4 : (upd H3 L (.lst (((eqLow many rs).map fun x => V.int (x : Nat)) ++ [V.int ((many - 1 : Nat) : Int)]))) L = some (.lst ((eqLv many rs).map fun x => V.int (x : Nat))) := by
          rw [upd_same, ev, List.map_append]
          rfl
        have s4 : Same H (upd H3 L (.lst (((eqLow many rs).map fun x => V.int (x : Nat)) ++ [V.int ((many - 1 : Nat) : Int)]))) := fun c2 o e => by
          rw [upd_ne (ne_of_none e nL)]
          exact s13 _ _ (s1 _ _ e)
        refine ⟨_, rfl, _, rfl, hsc, by simp [sizeLine_eq], fun u hu => ?_⟩
        rw [hside]
        exact fin _ s4 e4 u hu
      · refine ⟨false, dF (fun z => odd (Int.ofNat.inj (V.int.inj z))), iteF ?_⟩
        have ev : eqLv many rs = eqLow many rs := by
          unfold eqLv
          rw [if_neg odd, List.append_nil]
        refine ⟨_, rfl, _, rfl, hsc, by simp [sizeLine_eq], fun u hu => ?_⟩
        rw [hside]
        exact fin _ (s1.trans s13) (by rw [ev]; exact eL) u hu
/-- the known equations in the heap -/
def KnAt (H : Hp) (kvs : List (Key × V)) (kn : Nat → Option Eqn) : Prop := ∀ l : Nat, (kn l = none ∧ valV kvs (.inl ((l : Nat) : Int)) = none) ∨ ∃ g t q, kn l = some g ∧ valV kvs (.inl ((l : Nat) : Int)) = some (.ref t) ∧ EqAt H t q g
theorem KnAt.same {H H' : Hp} {kvs : List (Key × V)} {kn : Nat → Option Eqn} (s : Same H H') (h : KnAt H kvs kn) : KnAt H' kvs kn := fun l => (h l).imp id fun ⟨g, t, q, h1, h2, h3⟩ => ⟨g, t, q, h1, h2, h3.same s⟩
theorem last_map {l : List Nat} {x : Nat} (h : l.getLast? = some x) : atI (l.map fun x => V.int (x : Nat)) (-1) = some (.int (x : Nat)) := by
  obtain ⟨m, rfl⟩ := List.getLast?_eq_some_iff.mp h
  rw [List.map_append]
  exact atI_last _ _
theorem cast_mem {l : List Nat} {x : Nat} : ((x : Nat) : Int) ∈ (l.map fun y : Nat => ((y : Nat) : Int)) ↔ x ∈ l := by
  rw [List.mem_map]
  exact ⟨fun ⟨y, h, e⟩ => by rw [← Int.ofNat.inj e]; exact h, fun h => ⟨x, h, rfl⟩⟩
theorem sym_list {l m : List Nat} {ns : List Int} (hl : ∀ x ∈ l, x < 64) (hm : ∀ x ∈ m, x < 64) (up : ns.Pairwise (· < ·))
    (mem : ∀ k : Int, k ∈ ns ↔ (decide (k ∈ m.map fun y : Nat => ((y : Nat) : Int)) != decide (k ∈ l.map fun y : Nat => ((y : Nat) : Int))) = true) : ns = (symL l m).map fun y : Nat => ((y : Nat) : Int) := by
  have nat : ∀ y ∈ ns, ∃ x : Nat, y = ((x : Nat) : Int) := fun y hy => by
    have h := (mem y).mp hy
    by_cases c : y ∈ m.map fun y : Nat => ((y : Nat) : Int)
    · obtain ⟨x, _, e⟩ := List.mem_map.mp c
      exact ⟨x, e.symm⟩
    · by_cases c2 : y ∈ l.map fun y : Nat => ((y : Nat) : Int)
      · obtain ⟨x, _, e⟩ := List.mem_map.mp c2
        exact ⟨x, e.symm⟩
      · rw [decide_eq_false c, decide_eq_false c2] at h
        cases h
  obtain ⟨ds, rfl⟩ : ∃ ds : List Nat, ns = ds.map fun y : Nat => ((y : Nat) : Int) := by
    refine ⟨ns.map Int.toNat, ?_⟩
    rw [List.map_map]
    refine (List.map_id ns).symm.trans (List.map_congr_left fun y hy => ?_)
    obtain ⟨x, rfl⟩ := nat y hy
    rfl
  have asc : Asc ds := (List.pairwise_map.mp up).imp fun h => by omega
  rw [asc_uniq asc (sym_asc l m) fun x => ?_]
  rw [sym_mem hl hm x, ← cast_mem (l := ds), mem]
  have e1 : decide (((x : Nat) : Int) ∈ m.map fun y : Nat => ((y : Nat) : Int)) = decide (x ∈ m) := decide_eq_decide.mpr cast_mem
  have e2 : decide (((x : Nat) : Int) ∈ l.map fun y : Nat => ((y : Nat) : Int)) = decide (x ∈ l) := decide_eq_decide.mpr cast_mem
  rw [e1, e2]
  cases decide (x ∈ m) <;> cases decide (x ∈ l) <;> simp
theorem cast_map (l : List Nat) : (l.map fun x => V.int (x : Nat)) = (l.map fun y : Nat => ((y : Nat) : Int)).map V.int := by
  rw [List.map_map]
  rfl
def spReduced : Sp := fun vs H Q _ => ∃ (q D : Addr) (e : Eqn) (many : Nat) (kvs : List (Key × V)) (kn : Nat → Option Eqn), vs = [.ref q, .bl e.2, .ref D] ∧ H q = some (.lst (e.1.map fun x => V.int (x : Nat))) ∧ H D = some (.dK kvs) ∧ KnAt H kvs kn ∧ KnOk many kn ∧ many ≤ 60 ∧ Asc e.1 ∧ (∀ x ∈ e.1, x < many) ∧
  ∀ H' u q', Same H H' → H u = none → EqAt H' u q' (red kn 64 e) → Q (.ref u) H'
theorem ok_reduced {f : Addr} {fd : FuncData} (F : Fun K "reduced" "reduced" s_reduced f fd) (T : Tx K mg) : FnOk P w K mg base CX0 1 f fd ["levels", "odd", "known"] spReduced := by
  refine F.ok sc_reduced (fun vs H Q E h => ?_) (fun cdv A outer s H vs Q E hr h => ?_)
  · obtain ⟨q, D, e, many, kvs, kn, rfl, _⟩ := h
    rfl
  · obtain ⟨q, D, e, many, kvs, kn, rfl, hq, hD, hK, hOk, hm, ha, hl, c⟩ := h
    have hu := hu_of hr
    refine ⟨_, (pss_cons (ps_while PassesOwn.never (PW.pt (pw_and (pt_cmpR op_gt (pe_callB (lenK (K := K) rfl) (by rfl) T.b_len PySem.boot_len (pa_cons (pv 0) pa_nil)) pe_int (nomark _)) (pw_and1 (pt_cmp (pc_din hu (pe_ix (ix_listK (K := K) rfl) (pv 0) (pe_un un_neg pe_int) (fun _ _ => rfl)) (pv 2))))))
        (pss_cons (ps_asg (pe_dget hu (pv 2) (pe_ix (ix_listK (K := K) rfl) (pv 0) (pe_un un_neg pe_int) (fun _ _ => rfl)) (fun _ _ => rfl)) (pg_tupK (K := K) (n := 2) rfl rfl (pgs_cons (pg_name (i := 3) sc_reduced.nd rfl (.inl rfl)) (pgs_cons (pg_name (i := 4) sc_reduced.nd rfl (.inl rfl)) pgs_nil))))
        (pss_cons (ps_set (i := 0) sc_reduced.nd rfl (.inl rfl) (pe_callB (cr_sortedSet rfl) (by rfl) T.b_sorted (by decide +kernel) (pa_cons (pe_op op_xorSet (pe_callTy (call_setL rfl) (by rfl) T.b_set (by decide +kernel) (pa_cons (pv 0) pa_nil)) (pe_callTy (call_setL rfl) (by rfl) T.b_set (by decide +kernel) (pa_cons (pv 3) pa_nil))) pa_nil)))
        (pss_one (ps_set (i := 1) sc_reduced.nd rfl (.inl rfl) (pe_cmpR op_ne (pv 1) (pv 4) (nomark _)))))))
      (pss_one (ps_ret (pe_tup (pa_cons (pv 0) (pa_cons (pv 1) pa_nil)))))), ?_⟩
    refine ⟨fun m σ H' => ∃ (q' : Addr) (e' : Eqn) (y3 y4 : Option V), σ = [some (.ref q'), some (.bl e'.2), some (.ref D), y3, y4] ∧ Same H H' ∧ H' q' = some (.lst (e'.1.map fun x => V.int (x : Nat))) ∧ Asc e'.1 ∧ (∀ x ∈ e'.1, x < many) ∧ (∀ x ∈ e'.1, x < m) ∧ red kn m e' = red kn 64 e,
      ⟨64, q, e, none, none, rfl, Same.refl H, hq, ha, hl, fun x hx => by have := hl x hx; omega, rfl⟩, ?_⟩
    rintro m σ H' ⟨q', e', y3, y4, rfl, sm, hq', ha', hl', hlm, hred⟩
    have fin : ∀ u, red kn m e' = e' → H' u = none → Q (.ref u) (upd H' u (.tup [.ref q', .bl e'.2])) := fun u er hu => by
      rw [er] at hred
      refine c _ u q' (sm.trans (same_upd hu)) (sm.free hu) ?_
      rw [← hred]
      exact ⟨upd_same, same_upd hu _ _ hq'⟩
    have len60 : e'.1.length ≤ 60 := Nat.le_trans (ha'.few hl') hm
    refine ⟨_, rfl, q', _, rfl, .inl (SqL.of hq'), _, _, rfl, rfl, ?_⟩
    cases el : e'.1.getLast? with
    | none =>
      have e0 : e'.1 = [] := List.getLast?_eq_none_iff.mp el
      refine ⟨false, dF (by rw [e0]; decide), iteF (iteF ?_)⟩
      exact ⟨_, rfl, _, rfl, by simp [sizeLine_eq], fun u hu => fin u (red_none e0 m) hu⟩
    | some l =>
      have hlast := ha'.last el
      have hpos : 0 < e'.1.length := List.length_pos_of_mem hlast.1
      refine ⟨true, dT (by rw [List.length_map]; omega), iteT ?_⟩
      have ix := last_map el
      refine ⟨_, rfl, 1, rfl, q', _, -1, _, rfl, rfl, SqL.of hq', ix, _, rfl, D, _, rfl, DGet.k (k := Sum.inl ((l : Nat) : Int)) (sm _ _ hD), ?_⟩
      rcases hK l with ⟨kl, vl⟩ | ⟨g, t, qg, kl, vl, heq⟩
      · rw [vl]
        refine ⟨false, rfl, iteF ?_⟩
        exact ⟨_, rfl, _, rfl, by simp [sizeLine_eq], fun u hu => fin u (red_stop el kl m) hu⟩
      · rw [vl]
        have heq := heq.same sm
        have ⟨g1, g2, g3⟩ := hOk l g kl
        have glt := hOk.lt kl
        obtain ⟨m', rfl⟩ : ∃ m', m = m' + 1 := ⟨m - 1, by have := hlm l hlast.1; omega⟩
        refine ⟨true, rfl, iteT ⟨fun σ' H'' => ∃ (q' : Addr) (e' : Eqn) (y3 y4 : Option V), σ' = [some (.ref q'), some (.bl e'.2), some (.ref D), y3, y4] ∧ Same H H'' ∧ H'' q' = some (.lst (e'.1.map fun x => V.int (x : Nat))) ∧ Asc e'.1 ∧ (∀ x ∈ e'.1, x < many) ∧ (∀ x ∈ e'.1, x < m') ∧ red kn m' e' = red kn 64 e,
          fun σ' H'' h => ⟨m', Nat.lt_succ_self _, h⟩, ?_⟩⟩
        have dg := DGet.k (k := Sum.inl ((l : Nat) : Int)) (sm _ _ hD)
        rw [vl] at dg
        refine ⟨_, rfl, _, rfl, 1, rfl, q', _, -1, _, rfl, rfl, SqL.of hq', ix, D, .ref t, rfl, dg, t, _, rfl, .inl (.inl heq.1), rfl, _, _, rfl, _, _, rfl, rfl, ?_⟩
        have hq2 := hq'
        rw [cast_map] at hq2
        have hg2 := heq.2
        rw [cast_map] at hg2
        have glen : g.1.length ≤ 60 := Nat.le_trans (g1.few glt) hm
        refine ⟨_, rfl, q', _, rfl, SqL.of hq2, by rw [List.length_map]; omega, fun p c1 hp hc1 => ?_⟩
        have s1 := same_upd (o := SetO w p (fun j => decide (j ∈ e'.1.map fun y : Nat => ((y : Nat) : Int))) c1) hp
        have hg3 := s1 _ _ hg2
        refine ⟨_, rfl, qg, _, rfl, SqL.of hg3, by rw [List.length_map]; omega, fun p2 c2 hp2 hc2 => ?_⟩
        have s2 := same_upd (o := SetO w p2 (fun j => decide (j ∈ g.1.map fun y : Nat => ((y : Nat) : Int))) c2) hp2
        have inB : ∀ {l : List Nat}, (∀ x ∈ l, x < many) → ∀ k : Int, decide (k ∈ l.map fun y : Nat => ((y : Nat) : Int)) = true → 0 ≤ k ∧ k < (60 : Nat) := fun h k hk => by
          obtain ⟨x, hx, rfl⟩ := List.mem_map.mp (of_decide_eq_true hk)
          have := h x hx
          omega
        refine ⟨p, p2, _, _, c1, c2, 60, rfl, rfl, s2 _ _ upd_same, upd_same, by decide, inB hl', inB glt, fun p3 m3 hp3 hm3 => ?_⟩
        have s3 := same_upd (o := SetO w p3 (fun j => decide (j ∈ g.1.map fun y : Nat => ((y : Nat) : Int)) != decide (j ∈ e'.1.map fun y : Nat => ((y : Nat) : Int))) m3) hp3
        refine ⟨p3, _, m3, rfl, upd_same, by omega, fun ns3 p4 up mem _ hp4 => ?_⟩
        have en := sym_list (l := e'.1) (m := g.1) (fun x hx => by have := hl' x hx; omega) (fun x hx => by have := glt x hx; omega) up mem
        rw [en, ← cast_map]
        have s4 := same_upd (o := .lst ((symL e'.1 g.1).map fun x => V.int (x : Nat))) hp4
        have s14 := ((s1.trans s2).trans s3).trans s4
        refine ⟨_, rfl, _, rfl, rfl, ?_⟩
        have less := sym_less ha' g1 el g2 (by omega)
        have hbool : (!decide (V.bl e'.2 = V.bl g.2)) = (e'.2 != g.2) := by
          cases e'.2 <;> cases g.2 <;> rfl
        rw [hbool]
        refine ⟨p4, (symL e'.1 g.1, e'.2 != g.2), _, _, rfl, sm.trans s14, upd_same, sym_asc _ _, fun x hx => ?_, fun x hx => ?_, ?_⟩
        · have := less x hx
          have := hl' l hlast.1
          omega
        · have := less x hx
          have := hlm l hlast.1
          omega
        · rw [← hred, red_step el kl]
end
/-! ### levels_seen: the words that follow -/
theorem cut_init (xs : List V) : cutV xs none (some (-1)) = xs.dropLast := by
  unfold cutV
  have e : HT.sIx xs.length xs.length (some (-1)) = xs.length - 1 := by
    show (if (-1 : Int) < 0 then ((-1 : Int) + (xs.length : Int)).toNat else min (Int.toNat (-1)) xs.length) = _
    rw [if_pos (by decide)]
    omega
  rw [e, HT.sIx_none, List.drop_zero, Nat.sub_zero, List.dropLast_eq_take]
section
variable {P : Program} {w : World} {K : PySem.W.Frag} {mg : Str → Option Value} {base : Heap}
def spFollows (K : PySem.W.Frag) : Sp := fun vs H Q _ => ∃ (W q : Addr) (ws : List Bool) (e : Eqn), vs = [.ref W, .ref q, .bl e.2] ∧ SqL K H W (ws.map lvV) ∧ SqL K H q (e.1.map fun x => V.int (x : Nat)) ∧ (∀ x ∈ e.1.dropLast, x < ws.length) ∧ e.1.length ≤ 60 ∧ ∀ H', Same H H' → Q (lvV (wordF ws e)) H'
theorem ok_follows {f : Addr} {fd : FuncData} (F : Fun K "word_that_follows" "word_that_follows" s_word_that_follows f fd) (T : Tx K mg) : FnOk P w K mg base CX0 1 f fd ["words", "levels", "odd"] (spFollows K) := by
  refine F.ok sc_word_that_follows (fun vs H Q E h => ?_) (fun cdv A outer s H vs Q E hr h => ?_)
  · obtain ⟨W, q, ws, e, rfl, _⟩ := h
    rfl
  · obtain ⟨W, q, ws, e, rfl, hW, hq, hlt, h60, c⟩ := h
    refine ⟨_, (pss_cons (ps_setLc (i := 3) (own := [("level", 4)]) (g := gName 4)  rfl sc_word_that_follows.nd rfl rfl (sw_true rfl rfl rfl (by decide +kernel)) (pi_list (pe_slice (sl_listK (K := K) rfl) (pv 1) po_none (po_some (pe_un un_neg pe_int)))) (blkOk_by (own := [("level", 4)]) (N := N_word_that_follows) (sc := defScope s_word_that_follows) (by decide +kernel)) (fun _ _ _ _ _ => (pg_name (i := 4) sc_word_that_follows.nd rfl (.inl rfl))) (fun _ _ _ _ _ => (pts_one (pt_cmpR op_eq (pe_ix (ix_listK (K := K) rfl) (pv 0) (pv 4) (fun _ _ => rfl)) pe_str (nomark _)))) (fun _ _ _ _ _ => (pv 4)))
      (pss_cons (ps_if (pt_cmpR op_ne (pe_cmpR op_eq (pe_op op_mod (pe_callB (lenK (K := K) rfl) (by rfl) T.b_len PySem.boot_len (pa_cons (pv 3) pa_nil)) pe_int) pe_int (nomark _)) (pv 2) (nomark _))
        (pss_one (ps_ret pe_str))
        pss_nil)
      (pss_one (ps_ret pe_str)))), ?_⟩
    obtain ⟨pf, hpf⟩ : ∃ pf : Nat → Bool, pf = fun l => ws.getD l false := ⟨_, rfl⟩
    have dl : (e.1.map fun x => V.int (x : Nat)).dropLast = e.1.dropLast.map fun x => V.int (x : Nat) := by rw [List.map_dropLast]
    refine ⟨_, rfl, 1, rfl, -1, rfl, q, _, rfl, hq, fun L hL => ?_⟩
    rw [cut_init, dl]
    have sL := same_upd (o := .lst (e.1.dropLast.map fun x => V.int (x : Nat))) hL
    have eL := upd_same (H := H) (a := L) (o := .lst (e.1.dropLast.map fun x => V.int (x : Nat)))
    generalize upd H L (.lst (e.1.dropLast.map fun x => V.int (x : Nat))) = H1 at sL eL ⊢
    refine ⟨L, rfl, ⟨_, SqL.of eL⟩, fun D hD => lc_list (K := K) (a := L) (xs := e.1.dropLast.map fun x => V.int (x : Nat)) (fun i H' => Same H1 H' ∧ H' D = some (.lst (((e.1.dropLast.take i).filter pf).map fun x => V.int (x : Nat))))
      ⟨same_upd hD, upd_same⟩ (fun i H' _ ⟨sm, _⟩ => SqL.of (sm _ _ eL)) ?_ ?_⟩
    · rintro i x H' hx ⟨sm, eD⟩
      obtain ⟨l, hl, rfl⟩ : ∃ l, e.1.dropLast[i]? = some l ∧ x = V.int (l : Nat) := by
        rw [List.getElem?_map] at hx
        cases c : e.1.dropLast[i]? with
        | none => rw [c] at hx; cases hx
        | some l => rw [c] at hx; exact ⟨l, rfl, (Option.some.inj hx).symm⟩
      have hil := (List.getElem?_eq_some_iff.mp hl).1
      have hlw := hlt l (List.mem_of_getElem? hl)
      have gw : (ws.map lvV)[l]? = some (lvV (pf l)) := by
        rw [List.getElem?_map, List.getElem?_eq_getElem hlw, hpf]
        simp [List.getD_eq_getElem?_getD, List.getElem?_eq_getElem hlw]
      have estep : ((e.1.dropLast.take (i + 1)).filter pf) = ((e.1.dropLast.take i).filter pf) ++ if pf l = true then [l] else [] := by
        rw [List.take_add_one, hl, Option.toList_some, List.filter_append]
        congr 1
        cases c : pf l <;> simp [c]
      refine ⟨rfl, _, rfl, _, rfl, W, _, _, _, rfl, rfl, sm.seq (sL.seq hW), atI_nat gw, by cases pf l <;> rfl, pf l, congrArg V.bl (lv_dec _), ?_⟩
      cases c : pf l with
      | true =>
        refine iteT ⟨_, rfl, _, eD, ?_, fun c2 o e => ?_, ?_⟩
        · rw [List.length_map]
          refine sizeLine_ge (Nat.le_trans (List.length_filter_le _ _) ?_)
          rw [List.length_take, List.length_dropLast]
          omega
        · rw [upd_ne (ne_of_none e hD)]
          exact sm _ _ e
        · rw [upd_same, estep, c, if_pos rfl, List.map_append]
          rfl
      | false =>
        refine iteF ⟨sm, ?_⟩
        rw [estep, c, if_neg Bool.false_ne_true, List.append_nil]
        exact eD
    · rintro H2 ⟨s2, eD⟩
      rw [List.length_map, List.take_length] at eD
      obtain ⟨n, hn⟩ : ∃ n, n = (e.1.dropLast.filter pf).length := ⟨_, rfl⟩
      have hw : wordF ws e = (decide (n % 2 = 1) != e.2) := by
        unfold wordF
        rw [hn, hpf]
      have s02 := sL.trans s2
      have hpar : V.bl (decide (V.int ((n : Int) % 2) = V.int 1)) = V.bl (decide (n % 2 = 1)) := by
        congr 1
        exact decide_eq_decide.mpr ⟨fun h => by have := V.int.inj h; omega, fun h => congrArg V.int (by omega)⟩
      refine ⟨_, rfl, D, _, rfl, .inl (SqL.of eD), (n : Int), 2, by rw [List.length_map, hn], rfl, (by decide : (0 : Int) < 2), rfl, _, rfl, rfl, (decide (n % 2 = 1) != e.2), ?_, ?_⟩
      · show V.bl (!decide (V.bl (decide (V.int ((n : Int) % 2) = V.int 1)) = V.bl e.2)) = _
        rw [hpar]
        cases decide (n % 2 = 1) <;> cases e.2 <;> rfl
      · rw [← hw]
        have z := c H2 s02
        cases e4 : wordF ws e with
        | true =>
          rw [e4] at z
          exact iteT z
        | false =>
          rw [e4] at z
          exact iteF z
/-- fn: known equations, in the heap apart from one object -/
theorem KnAt.frame {H H' : Hp} {a : Addr} {kvs : List (Key × V)} {kn : Nat → Option Eqn} {o : HO} (ha : H a = some o) (h1 : ∀ xs, o = .tup xs → False) (h2 : ∀ ns : List Nat, o = .lst (ns.map fun x => V.int (x : Nat)) → False) (s : ∀ c u, c ≠ a → H c = some u → H' c = some u) (h : KnAt H kvs kn) : KnAt H' kvs kn := fun l =>
  (h l).imp id fun ⟨g, t, q, e1, e2, e3⟩ => ⟨g, t, q, e1, e2, s _ _ (fun z => by have e3 := e3.1; rw [z, ha] at e3; exact h1 _ (Option.some.inj e3)) e3.1, s _ _ (fun z => by have e3 := e3.2; rw [z, ha] at e3; exact h2 _ (Option.some.inj e3)) e3.2⟩
def spLeast : Sp := fun vs H Q _ => ∃ (D : Addr) (many : Nat) (kvs : List (Key × V)) (kn : Nat → Option Eqn), vs = [.int (many : Nat), .ref D] ∧ H D = some (.dK kvs) ∧ KnAt H kvs kn ∧ KnOk many kn ∧ many ≤ 60 ∧
  ∀ H' u q, Same H H' → H' u = some (.tup [.ref q, .int ((leastW kn many).2 : Nat)]) → H q = none → H' q = some (.lst ((leastW kn many).1.map lvV)) → Q (.ref u) H'
theorem ok_least {f : Addr} {fd : FuncData} (F : Fun K "least_and_count" "least_and_count" s_least_and_count f fd) (T : Tx K mg) (h1 : Has P w K mg base 1 "word_that_follows" ["words", "levels", "odd"] [] (spFollows K)) : FnOk P w K mg base CX0 2 f fd ["many", "known"] spLeast := by
  obtain ⟨f_word_that_follows, fd_word_that_follows, ds_word_that_follows, G_word_that_follows, m_word_that_follows, k_word_that_follows, b_word_that_follows, v_word_that_follows⟩ := h1
  refine F.ok sc_least_and_count (fun vs H Q E h => ?_) (fun cdv A outer s H vs Q E hr h => ?_)
  · obtain ⟨D, many, kvs, kn, rfl, _⟩ := h
    rfl
  · obtain ⟨D, many, kvs, kn, rfl, hD, hK, hOk, hm, c⟩ := h
    have hu := hu_of hr
    refine ⟨_, (pss_cons (ps_set (i := 2) sc_least_and_count.nd rfl (.inl rfl) (pe_lst pa_nil))
      (pss_cons (ps_set (i := 3) sc_least_and_count.nd rfl (.inl rfl) pe_int)
      (pss_cons (ps_for PassesOwn.never rfl (pi_range1 (by rfl) T.b_range (pa_cons (pv 0) pa_nil)) (pg_name (i := 4) sc_least_and_count.nd rfl (.inl rfl))
        (pss_one (ps_if (pt_cmp (pc_din hu (pv 4) (pv 1)))
          (pss_cons (ps_asg (pe_dget hu (pv 1) (pv 4) (fun _ _ => rfl)) (pg_tupK (K := K) (n := 2) rfl rfl (pgs_cons (pg_name (i := 5) sc_least_and_count.nd rfl (.inl rfl)) (pgs_cons (pg_name (i := 6) sc_least_and_count.nd rfl (.inl rfl)) pgs_nil))))
          (pss_one (ps_expr (pe_bm PySem.F.plainAttrs_list PySem.F.slot_list_append PySem.F.type_list_append mt_append (pv 2) (pa_cons (pe_call G_word_that_follows hr (by rfl) m_word_that_follows k_word_that_follows b_word_that_follows v_word_that_follows pass0 (pa_cons (pv 2) (pa_cons (pv 5) (pa_cons (pv 6) pa_nil)))) pa_nil)))))
          (pss_cons (ps_expr (pe_bm PySem.F.plainAttrs_list PySem.F.slot_list_append PySem.F.type_list_append mt_append (pv 2) (pa_cons pe_str pa_nil)))
          (pss_one (ps_aug (i := 3) sc_least_and_count.nd rfl (.inl rfl) pe_int ip_mulA))))))
      (pss_one (ps_ret (pe_tup (pa_cons (pv 2) (pa_cons (pv 3) pa_nil)))))))), ?_⟩
    refine ⟨by simp [sizeLine_eq], fun W hW => ?_⟩
    have sW := same_upd (o := .lst []) hW
    have eW := upd_same (H := H) (a := W) (o := .lst [])
    generalize upd H W (.lst []) = H0 at sW eW ⊢
    refine ⟨_, rfl, (many : Nat), rfl, by omega, by omega, for_range (lo := 0) (n := ((many : Nat) : Int).toNat) (Pv := fun i σ H' => ∃ (y4 y5 y6 : Option V), σ = [some (.int (many : Nat)), some (.ref D), some (.ref W), some (.int ((leastW kn i).2 : Nat)), y4, y5, y6] ∧ Same H H' ∧ H' W = some (.lst ((leastW kn i).1.map lvV)))
      ⟨none, none, none, rfl, sW, eW⟩ ?_ ?_⟩
    · rintro i σ H' hi ⟨y4, y5, y6, rfl, sm, eW'⟩
      rw [Int.toNat_natCast] at hi
      have ei : (0 : Int) + ((i : Nat) : Int) = ((i : Nat) : Int) := by omega
      rw [ei]
      have dg := DGet.k (k := Sum.inl ((i : Nat) : Int)) (sm _ _ hD)
      have llen := least_len kn i
      have lcnt := least_cnt kn i
      have few : ((leastW kn i).1.map lvV).length < sizeLine := by
        rw [List.length_map, llen]
        exact sizeLine_ge (by omega)
      have put : ∀ {o : HO} {G : Hp}, Same H G → Same H (upd G W o) := fun sg c2 o e => by
        rw [upd_ne (ne_of_none e hW)]
        exact sg _ _ e
      refine ⟨_, rfl, _, rfl, D, _, rfl, dg, ?_⟩
      rcases hK i with ⟨kl, vl⟩ | ⟨g, t, qg, kl, vl, heq⟩
      · rw [vl]
        refine ⟨false, rfl, iteF ?_⟩
        refine ⟨_, rfl, .inl ⟨rfl, _, SqL.of eW'⟩, W, _, _, rfl, rfl, eW', few, ?_⟩
        have el1 : (leastW kn (i + 1)).1 = (leastW kn i).1 ++ [false] := by
          rw [leastW, kl]
        have el2 : (leastW kn (i + 1)).2 = (leastW kn i).2 * 2 := by
          rw [leastW, kl]
        refine ⟨_, rfl, ((leastW kn i).2 : Nat), 2, rfl, rfl, mul_r (by decide) (by decide), ?_⟩
        refine ⟨some (.int (i : Nat)), y5, y6, ?_, put sm, ?_⟩
        · rw [el2, Int.natCast_mul]
          rfl
        · rw [upd_same, el1, List.map_append]
          rfl
      · rw [vl] at dg ⊢
        refine ⟨true, rfl, iteT ?_⟩
        have heq := heq.same sm
        have ⟨g1, g2, g3⟩ := hOk i g kl
        refine ⟨_, rfl, _, rfl, D, .ref t, rfl, dg, t, _, rfl, .inl (.inl heq.1), rfl, _, _, rfl, _, _, rfl, rfl, ?_⟩
        refine ⟨_, rfl, .inl ⟨rfl, _, SqL.of eW'⟩, _, rfl, _, rfl, _, rfl, W, qg, (leastW kn i).1, g, rfl, SqL.of eW', SqL.of heq.2, fun x hx => ?_, Nat.le_trans (g1.few (hOk.lt kl)) hm, fun H2 s2 => ?_⟩
        · rw [llen]
          obtain ⟨m, em⟩ := List.getLast?_eq_some_iff.mp g2
          rw [em, List.dropLast_concat] at hx
          rw [em] at g1
          exact (List.pairwise_append.mp g1).2.2 x hx i (by simp)
        · have el1 : (leastW kn (i + 1)).1 = (leastW kn i).1 ++ [wordF (leastW kn i).1 g] := by
            rw [leastW, kl]
          have el2 : (leastW kn (i + 1)).2 = (leastW kn i).2 := by
            rw [leastW, kl]
          refine ⟨W, _, _, rfl, rfl, s2 _ _ eW', few, ?_⟩
          refine ⟨some (.int (i : Nat)), some (.ref qg), some (.bl g.2), ?_, put (sm.trans s2), ?_⟩
          · rw [el2]
            rfl
          · rw [upd_same, el1, List.map_append]
            rfl
    · rintro σ H' ⟨y4, y5, y6, rfl, sm, eW'⟩
      rw [Int.toNat_natCast] at eW'
      exact ⟨_, rfl, _, rfl, by simp [sizeLine_eq], fun u hu => c _ u W (sm.trans (same_upd hu)) upd_same hW (same_upd hu _ _ eW')⟩
end
/-! ### bases and levels of any value -/
theorem tyOf_same {K : PySem.W.Frag} {H H' : Hp} (s : Same H H') {x : V} {t : Value} (h : TyOf K H x t) : TyOf K H' x t := by
  cases h with
  | non => exact .non
  | bl x => exact .bl x
  | int i => exact .int i
  | str x => exact .str x
  | flt x => exact .flt x
  | lst e => exact .lst (s _ _ e)
  | frz e => exact .frz (s _ _ e)
  | tup e => exact .tup (s _ _ e)
  | dK e => exact .dK (s _ _ e)
  | dT e => exact .dT (s _ _ e)
  | ins e cl ha hn htk hm => exact .ins (s _ _ e) cl ha hn htk hm
theorem tyX_same {K : PySem.W.Frag} {H H' : Hp} (s : Same H H') {x : V} {t : Value} (h : TyX K H x t) : TyX K H' x t := by
  cases h with
  | base h => exact .base (tyOf_same s h)
  | byt b => exact .byt b
  | set e => exact .set (s _ _ e)
  | kList e c => exact .kList e c
  | kTuple e c => exact .kTuple e c
  | kDict e c => exact .kDict e c
  | fTuple e => exact .fTuple (s _ _ e)
  | fDict e => exact .fDict (s _ _ e)
/-- x is of a built-in type, and of none that isinstance(x, c) would take -/
def NotA (K : PySem.W.Frag) (H : Hp) (c : String) (x : V) : Prop := ∃ a : String, TyX K H x (.type a) ∧ kitB a c = some false
theorem NotA.same {K : PySem.W.Frag} {H H' : Hp} {c : String} {x : V} (s : Same H H') (h : NotA K H c x) : NotA K H' c x := by
  obtain ⟨a, h1, h2⟩ := h
  exact ⟨a, tyX_same s h1, h2⟩
theorem NoInt.same {K : PySem.W.Frag} {H H' : Hp} {x : V} (s : Same H H') (h : NoInt K H x) : NoInt K H' x := by
  obtain ⟨t, h1, h2⟩ := h
  exact ⟨t, tyX_same s h1, h2⟩
theorem BadTick.same {K : PySem.W.Frag} {H H' : Hp} {x : V} {l : Int} (s : Same H H') (h : BadTick K H x l) : BadTick K H' x l := h.imp (·.same s) id
/-- whether x is one of the two words -/
def wordB (x : V) : Bool := inV x [.str "stack", .str "queue"]
/-- what is no word of levels -/
def NoWord (K : PySem.W.Frag) (H : Hp) (x : V) : Prop := NotA K H "str" x ∨ ∃ s : Str, x = .str s ∧ wordB x = false
theorem NoWord.same {K : PySem.W.Frag} {H H' : Hp} {x : V} (s : Same H H') (h : NoWord K H x) : NoWord K H' x := h.imp (·.same s) id
theorem word_lv (b : Bool) : wordB (lvV b) = true := by
  cases b <;> decide
theorem no_word {K : PySem.W.Frag} {H : Hp} {x : V} (h : NoWord K H x) : wordB x = false := by
  rcases h with ⟨a, h1, h2⟩ | ⟨s, _, h⟩
  · cases x with
    | str s =>
      cases h1 with
      | base h1 =>
        cases h1
        exact absurd h2 (by decide +kernel)
    | _ => rfl
  · exact h
/-- what is no base -/
def BadBase (K : PySem.W.Frag) (H : Hp) (x : V) : Prop := NoInt K H x ∨ ∃ n : Int, x = .int n ∧ (n < 2 ∨ 64 < n)
theorem BadBase.same {K : PySem.W.Frag} {H H' : Hp} {x : V} (s : Same H H') (h : BadBase K H x) : BadBase K H' x := h.imp (·.same s) id
/-- what are no levels -/
def BadLevels (K : PySem.W.Frag) (H : Hp) (x : V) : Prop := NotA K H "list" x ∨ ∃ (q : Addr) (xs : List V), x = .ref q ∧ SqL K H q xs ∧ (xs.length = 0 ∨ 60 < xs.length ∨ (xs.length ≤ 60 ∧ (∀ v ∈ xs, (∃ b, v = lvV b) ∨ NoWord K H v) ∧ ∃ v ∈ xs, NoWord K H v))
theorem BadLevels.same {K : PySem.W.Frag} {H H' : Hp} {x : V} (s : Same H H') (h : BadLevels K H x) : BadLevels K H' x := by
  rcases h with h | ⟨q, xs, e, hs, h⟩
  · exact .inl (h.same s)
  · refine .inr ⟨q, xs, e, s.seq hs, ?_⟩
    rcases h with h | h | ⟨h1, h2, v, hv, h3⟩
    · exact .inl h
    · exact .inr (.inl h)
    · exact .inr (.inr ⟨h1, fun v hv => (h2 v hv).imp id (·.same s), v, hv, h3.same s⟩)
section
variable {P : Program} {w : World} {K : PySem.W.Frag} {mg : Str → Option Value} {base : Heap}
def spIsWordX (K : PySem.W.Frag) : Sp := fun vs H Q _ => ∃ x : V, vs = [x] ∧ ((∃ b, x = lvV b ∧ Q (.bl true) H) ∨ (NoWord K H x ∧ Q (.bl false) H))
theorem okA_is_word {f : Addr} {fd : FuncData} (F : Fun K "is_word" "is_word" s_is_word f fd) (T : Tx K mg) (hW : WordsAt K mg) : FnOk P w K mg base CX0 1 f fd ["given"] (spIsWordX K) := by
  obtain ⟨a_WORDS, g_WORDS, sW⟩ := hW
  refine F.ok sc_is_word (fun vs H Q E h => ?_) (fun cdv A outer s H vs Q E hr h => ?_)
  · obtain ⟨x, rfl, _⟩ := h
    rfl
  · obtain ⟨x, rfl, hx⟩ := h
    refine ⟨_, (pss_one (ps_ret (pe_and (pe_callB (isiK (K := K) rfl) (by rfl) T.b_isinstance (by decide +kernel) (pa_cons (pv 0) (pa_cons (pe_bltn (v := .ty "str") (u := .type "str") (by rfl) T.b_str (by decide +kernel) rfl) pa_nil))) (pe_one (pe_cmpR op_in_seq (pv 0) (pe_glob (v := .ref a_WORDS) rfl g_WORDS rfl) (by rfl)))))), ?_⟩
    have word : ∀ (s : Str) (b : Bool), wordB (.str s) = b → Q (.bl b) H → ∃ (p : Addr) (xs : List V), V.ref a_WORDS = .ref p ∧ (SqL K H p xs ∨ SqT K H p xs) ∧ flatV (.str s) = true ∧ xs.all flatV = true ∧ Q (.bl (if false then !inV (.str s) xs else inV (.str s) xs)) H := fun s b e q => by
      refine ⟨a_WORDS, _, rfl, .inr (sW _), rfl, rfl, ?_⟩
      have e2 : (if false then !inV (V.str s) [.str "stack", .str "queue"] else inV (V.str s) [.str "stack", .str "queue"]) = b := e
      rw [e2]
      exact q
    rcases hx with ⟨b, rfl, q⟩ | ⟨⟨a, ht, hk⟩ | ⟨s, rfl, hs⟩, q⟩
    · obtain ⟨x, ex, hx⟩ : ∃ x : Str, lvV b = .str x ∧ wordB (.str x) = true := by
        cases b
        · exact ⟨_, rfl, by decide⟩
        · exact ⟨_, rfl, by decide⟩
      rw [ex]
      exact ⟨.str x, rfl, _, _, _, _, true, rfl, .ty "str", .base (.str x), kit_ty (by decide +kernel), true, rfl, iteT ⟨.str x, rfl, word x true hx q⟩⟩
    · exact ⟨x, rfl, x, _, _, _, false, rfl, .ty "str", ht, kit_ty hk, false, rfl, iteF q⟩
    · exact ⟨.str s, rfl, _, _, _, _, true, rfl, .ty "str", .base (.str s), kit_ty (by decide +kernel), true, rfl, iteT ⟨.str s, rfl, word s false hs q⟩⟩
def spIsBaseX (K : PySem.W.Frag) : Sp := fun vs H Q _ => ∃ x : V, vs = [x] ∧ ((∃ n : Int, x = .int n ∧ 2 ≤ n ∧ n ≤ 64 ∧ Q (.bl true) H) ∨ (BadBase K H x ∧ Q (.bl false) H))
theorem okA_is_base {f : Addr} {fd : FuncData} (F : Fun K "is_base" "is_base" s_is_base f fd) (h1 : Has P w K mg base 1 "is_integer" ["given"] [] (spIsIntX K)) : FnOk P w K mg base CX0 2 f fd ["given"] (spIsBaseX K) := by
  obtain ⟨f_is_integer, fd_is_integer, ds_is_integer, G_is_integer, m_is_integer, k_is_integer, b_is_integer, v_is_integer⟩ := h1
  refine F.ok sc_is_base (fun vs H Q E h => ?_) (fun cdv A outer s H vs Q E hr h => ?_)
  · obtain ⟨x, rfl, _⟩ := h
    rfl
  · obtain ⟨x, rfl, hx⟩ := h
    refine ⟨_, (pss_one (ps_ret (pe_and (pe_call G_is_integer hr (by rfl) m_is_integer k_is_integer b_is_integer v_is_integer pass0 (pa_cons (pv 0) pa_nil)) (pe_one (pe_chain op_le op_le pe_int (pv 0) pe_int))))), ?_⟩
    have e2 : ∀ (n : Int) (b : Bool), decide (n ≤ 64) = b → Q (.bl b) H → Q (V.bl (decide (n ≤ 64))) H := fun n b e q => by
      rw [e]
      exact q
    rcases hx with ⟨n, rfl, l1, l2, q⟩ | ⟨hn | ⟨n, rfl, hn⟩, q⟩
    · refine ⟨.int n, rfl, .int n, rfl, .inl ⟨n, rfl, true, rfl, iteT ?_⟩⟩
      refine ⟨.int n, rfl, 2, n, rfl, rfl, true, congrArg V.bl (decide_eq_true l1), iteT ?_⟩
      exact ⟨n, 64, rfl, rfl, e2 n true (decide_eq_true l2) q⟩
    · exact ⟨x, rfl, x, rfl, .inr ⟨hn, false, rfl, iteF q⟩⟩
    · refine ⟨.int n, rfl, .int n, rfl, .inl ⟨n, rfl, true, rfl, iteT ?_⟩⟩
      by_cases l1 : 2 ≤ n
      · refine ⟨.int n, rfl, 2, n, rfl, rfl, true, congrArg V.bl (decide_eq_true l1), iteT ?_⟩
        exact ⟨n, 64, rfl, rfl, e2 n false (decide_eq_false (by omega)) q⟩
      · exact ⟨.int n, rfl, 2, n, rfl, rfl, false, congrArg V.bl (decide_eq_false l1), iteF q⟩
def spCheckBaseX (K : PySem.W.Frag) (CN : Addr) : Sp := fun vs H Q E => ∃ x : V, vs = [x] ∧ ((∃ n : Int, x = .int n ∧ 2 ≤ n ∧ n ≤ 64 ∧ Q .non H) ∨ (BadBase K H x ∧ E (.ref CN) none H))
theorem okX_check_base {f c_NoBase : Addr} {fd : FuncData} (F : Fun K "check_base" "check_base" s_check_base f fd) (T : Tx K mg) (X_NoBase : EC K mg "NoBase" c_NoBase) (h1 : Has P w K mg base 2 "is_base" ["given"] [] (spIsBaseX K)) : FnOk P w K mg base (L2.CX P w) 3 f fd ["base"] (spCheckBaseX K c_NoBase) := by
  obtain ⟨f_is_base, fd_is_base, ds_is_base, G_is_base, m_is_base, k_is_base, b_is_base, v_is_base⟩ := h1
  refine F.okX sc_check_base (fun vs H Q E h => ?_) (fun cdv A outer s H vs Q E hr h => ?_)
  · obtain ⟨x, rfl, _⟩ := h
    rfl
  · obtain ⟨x, rfl, hx⟩ := h
    refine ⟨_, (pss_one (ps_if (pt_not (pt_val (pe_call G_is_base hr (by rfl) m_is_base k_is_base b_is_base v_is_base pass0 (pa_cons (pv 0) pa_nil))))
        (pss_one (ps_raise rfl (takes_of rfl rfl rfl rfl) (pmk_own PySem.F.excBase_ValueError X_NoBase.x X_NoBase.g X_NoBase.k (raises_own X_NoBase.b X_NoBase.t) rfl)))
        pss_nil)), ?_⟩
    rcases hx with ⟨n, rfl, l1, l2, q⟩ | ⟨hn, q⟩
    · exact ⟨.int n, rfl, .int n, rfl, .inl ⟨n, rfl, l1, l2, true, rfl, iteF q⟩⟩
    · exact ⟨x, rfl, x, rfl, .inr ⟨hn, false, rfl, iteT q⟩⟩
/-- what is no length of levels -/
def BadLength (K : PySem.W.Frag) (H : Hp) (x : V) : Prop := NoInt K H x ∨ ∃ n : Int, x = .int n ∧ (n < 1 ∨ 60 < n)
theorem BadLength.same {K : PySem.W.Frag} {H H' : Hp} {x : V} (s : Same H H') (h : BadLength K H x) : BadLength K H' x := h.imp (·.same s) id
def spIsLengthX (K : PySem.W.Frag) : Sp := fun vs H Q _ => ∃ x : V, vs = [x] ∧ ((∃ n : Int, x = .int n ∧ 1 ≤ n ∧ n ≤ 60 ∧ Q (.bl true) H) ∨ (BadLength K H x ∧ Q (.bl false) H))
theorem okA_is_length {f : Addr} {fd : FuncData} (F : Fun K "is_length" "is_length" s_is_length f fd) (hM : MostAt mg) (h1 : Has P w K mg base 1 "is_integer" ["given"] [] (spIsIntX K)) : FnOk P w K mg base CX0 2 f fd ["given"] (spIsLengthX K) := by
  obtain ⟨tM, g_MOST_LEVELS⟩ := hM
  obtain ⟨f_is_integer, fd_is_integer, ds_is_integer, G_is_integer, m_is_integer, k_is_integer, b_is_integer, v_is_integer⟩ := h1
  refine F.ok sc_is_length (fun vs H Q E h => ?_) (fun cdv A outer s H vs Q E hr h => ?_)
  · obtain ⟨x, rfl, _⟩ := h
    rfl
  · obtain ⟨x, rfl, hx⟩ := h
    refine ⟨_, (pss_one (ps_ret (pe_and (pe_call G_is_integer hr (by rfl) m_is_integer k_is_integer b_is_integer v_is_integer pass0 (pa_cons (pv 0) pa_nil)) (pe_one (pe_chain op_le op_le pe_int (pv 0) (pe_glob (v := .int 60) rfl g_MOST_LEVELS ⟨_, rfl⟩)))))), ?_⟩
    have e2 : ∀ (n : Int) (b : Bool), decide (n ≤ 60) = b → Q (.bl b) H → Q (V.bl (decide (n ≤ 60))) H := fun n b e q => by
      rw [e]
      exact q
    rcases hx with ⟨n, rfl, l1, l2, q⟩ | ⟨hn | ⟨n, rfl, hn⟩, q⟩
    · refine ⟨.int n, rfl, .int n, rfl, .inl ⟨n, rfl, true, rfl, iteT ?_⟩⟩
      refine ⟨.int n, rfl, 1, n, rfl, rfl, true, congrArg V.bl (decide_eq_true l1), iteT ?_⟩
      exact ⟨n, 60, rfl, rfl, e2 n true (decide_eq_true l2) q⟩
    · exact ⟨x, rfl, x, rfl, .inr ⟨hn, false, rfl, iteF q⟩⟩
    · refine ⟨.int n, rfl, .int n, rfl, .inl ⟨n, rfl, true, rfl, iteT ?_⟩⟩
      by_cases l1 : 1 ≤ n
      · refine ⟨.int n, rfl, 1, n, rfl, rfl, true, congrArg V.bl (decide_eq_true l1), iteT ?_⟩
        exact ⟨n, 60, rfl, rfl, e2 n false (decide_eq_false (by omega)) q⟩
      · exact ⟨.int n, rfl, 1, n, rfl, rfl, false, congrArg V.bl (decide_eq_false l1), iteF q⟩
def spAreLevelsX (K : PySem.W.Frag) : Sp := fun vs H Q _ => ∃ x : V, vs = [x] ∧ ((∃ (q : Addr) (ws : List Bool), x = .ref q ∧ SqL K H q (ws.map lvV) ∧ ws ≠ [] ∧ ws.length ≤ 60 ∧ ∀ H', Same H H' → Q (.bl true) H') ∨ (BadLevels K H x ∧ ∀ H', Same H H' → Q (.bl false) H'))
theorem okA_are_levels {f : Addr} {fd : FuncData} (F : Fun K "are_levels" "are_levels" s_are_levels f fd) (T : Tx K mg) (h0 : Has P w K mg base 2 "is_length" ["given"] [] (spIsLengthX K)) (h1 : Has P w K mg base 1 "is_word" ["given"] [] (spIsWordX K)) : FnOk P w K mg base CX0 3 f fd ["given"] (spAreLevelsX K) := by
  obtain ⟨f_is_length, fd_is_length, ds_is_length, G_is_length, m_is_length, k_is_length, b_is_length, v_is_length⟩ := h0
  obtain ⟨f_is_word, fd_is_word, ds_is_word, G_is_word, m_is_word, k_is_word, b_is_word, v_is_word⟩ := h1
  refine F.ok sc_are_levels (fun vs H Q E h => ?_) (fun cdv A outer s H vs Q E hr h => ?_)
  · obtain ⟨x, rfl, _⟩ := h
    rfl
  · obtain ⟨x, rfl, hx⟩ := h
    have hx2 : (NotA K H "list" x ∧ Q (.bl false) H) ∨ (∃ (q : Addr) (xs : List V), x = .ref q ∧ SqL K H q xs ∧ (xs.length = 0 ∨ 60 < xs.length) ∧ Q (.bl false) H) ∨
        (∃ (q : Addr) (xs : List V), x = .ref q ∧ SqL K H q xs ∧ 1 ≤ xs.length ∧ xs.length ≤ 60 ∧ (∀ v ∈ xs, (∃ b, v = lvV b) ∨ NoWord K H v) ∧ ∀ H', Same H H' → if xs.all wordB = true then Q (.bl true) H' else Q (.bl false) H') := by
      rcases hx with ⟨q, ws, rfl, hL, hne, h60, c⟩ | ⟨hn | ⟨q, xs, rfl, hL, hb | hb | ⟨h60, hw, v, hv, hno⟩⟩, c⟩
      · refine .inr (.inr ⟨q, _, rfl, hL, ?_, ?_, fun v hv => ?_, fun H' s1 => ?_⟩)
        · rw [List.length_map]
          exact List.length_pos_iff.mpr hne
        · rw [List.length_map]
          exact h60
        · obtain ⟨b, _, e⟩ := List.mem_map.mp hv
          exact .inl ⟨b, e.symm⟩
        · rw [if_pos (List.all_eq_true.mpr fun v hv => by obtain ⟨b, _, e⟩ := List.mem_map.mp hv; rw [← e]; exact word_lv b)]
          exact c H' s1
      · exact .inl ⟨hn, c H fun _ _ e => e⟩
      · exact .inr (.inl ⟨q, xs, rfl, hL, .inl hb, c H fun _ _ e => e⟩)
      · exact .inr (.inl ⟨q, xs, rfl, hL, .inr hb, c H fun _ _ e => e⟩)
      · refine .inr (.inr ⟨q, xs, rfl, hL, List.length_pos_of_mem hv, h60, hw, fun H' s1 => ?_⟩)
        rw [if_neg fun e => by
          have z := List.all_eq_true.mp e v hv
          rw [no_word hno] at z
          cases z]
        exact c H' s1
    clear hx
    refine ⟨_, (pss_cons (ps_if (PW.pt (pw_or (pt_not (pt_val (pe_callB (isiK (K := K) rfl) (by rfl) T.b_isinstance (by decide +kernel) (pa_cons (pv 0) (pa_cons (pe_bltn (v := .ty "list") (u := .type "list") (by rfl) T.b_list (by decide +kernel) rfl) pa_nil))))) (pw_or1 (pt_not (pt_val (pe_call G_is_length hr (by rfl) m_is_length k_is_length b_is_length v_is_length pass0 (pa_cons (pe_callB (lenK (K := K) rfl) (by rfl) T.b_len PySem.boot_len (pa_cons (pv 0) pa_nil)) pa_nil)))))))
        (pss_one (ps_ret pe_bl))
        pss_nil)
      (pss_one (ps_ret (pe_callB (allK (K := K) rfl rfl) (by rfl) T.b_all (by decide +kernel) (pa_cons (pe_lc (own := [("word", 1)]) (g := gName 1) (tt := tYes) rfl sc_are_levels.nd (pi_list (pv 0)) (blkOk_by (own := [("word", 1)]) (N := N_are_levels) (sc := defScope s_are_levels) (by decide +kernel)) (fun _ _ _ _ _ => (pg_name (i := 1) sc_are_levels.nd rfl (.inl rfl))) (fun _ _ _ _ _ => pts_nil) (fun _ _ _ _ _ => (pe_call G_is_word (hr.mono (by decide)) (by rfl) m_is_word k_is_word b_is_word v_is_word pass0 (pa_cons (pv 1) pa_nil)))) pa_nil))))), ?_⟩
    rcases hx2 with ⟨⟨a, ht, hk⟩, q⟩ | ⟨q, xs, rfl, hL, hb, c⟩ | ⟨q, xs, rfl, hL, h0, h60, hw, c⟩
    · exact ⟨x, rfl, _, _, _, _, false, rfl, .ty "list", ht, kit_ty hk, false, rfl, iteT q⟩
    · refine ⟨.ref q, rfl, _, _, _, _, true, rfl, .ty "list", tyx_list hL, kit_ty (by decide +kernel), true, rfl, iteF ?_⟩
      exact ⟨.ref q, rfl, q, _, rfl, .inl hL, _, rfl, .inr ⟨.inr ⟨_, rfl, by omega⟩, false, rfl, iteT c⟩⟩
    refine ⟨.ref q, rfl, _, _, _, _, true, rfl, .ty "list", tyx_list hL, kit_ty (by decide +kernel), true, rfl, iteF ?_⟩
    refine ⟨.ref q, rfl, q, _, rfl, .inl hL, _, rfl, .inl ⟨_, rfl, by omega, by omega, true, rfl, iteF ?_⟩⟩
    refine ⟨.ref q, rfl, q, rfl, ⟨_, hL⟩, fun D hD => lc_list (K := K) (a := q) (xs := xs) (fun i H' => Same H H' ∧ H' D = some (.lst (((xs.take i).map wordB).map V.bl)))
      ⟨same_upd hD, upd_same⟩ (fun i H' _ ⟨sm, _⟩ => sm.seq hL) ?_ ?_⟩
    · rintro i x H' hx ⟨sm, eD⟩
      have hi : i < xs.length := (List.getElem?_eq_some_iff.mp hx).1
      refine ⟨rfl, yesT (iteT ?_)⟩
      have fin : ∃ acc, H' D = some (.lst acc) ∧ acc.length < sizeLine ∧ (Same H (upd H' D (.lst (acc ++ [V.bl (wordB x)]))) ∧ (upd H' D (.lst (acc ++ [V.bl (wordB x)]))) D = some (.lst (((xs.take (i + 1)).map wordB).map V.bl))) := by
        refine ⟨_, eD, ?_, fun c o e => ?_, ?_⟩
        · rw [List.length_map, List.length_map, List.length_take]
          exact sizeLine_ge (by omega)
        · rw [upd_ne (ne_of_none e hD)]
          exact sm _ _ e
        · rw [upd_same, List.take_add_one, hx, List.map_append, List.map_append]
          rfl
      rcases hw x (List.mem_of_getElem? hx) with ⟨b, rfl⟩ | hno
      · rw [word_lv b] at fin
        exact ⟨_, rfl, _, rfl, .inl ⟨b, rfl, fin⟩⟩
      · rw [no_word hno] at fin
        exact ⟨_, rfl, _, rfl, .inr ⟨hno.same sm, fin⟩⟩
    · rintro H1 ⟨s1, eD⟩
      rw [List.take_length] at eD
      have c1 := c H1 s1
      refine ⟨D, _, rfl, SqL.of eD, ?_⟩
      have ea : (xs.map wordB).all id = xs.all wordB := by
        rw [List.all_map]
        rfl
      rw [ea]
      cases hb : xs.all wordB with
      | true =>
        rw [if_pos hb] at c1
        exact c1
      | false =>
        rw [if_neg (by rw [hb]; exact Bool.false_ne_true)] at c1
        exact c1
def spCheckLevelsX (K : PySem.W.Frag) (CN : Addr) : Sp := fun vs H Q E => ∃ x : V, vs = [x] ∧ ((∃ (q : Addr) (ws : List Bool), x = .ref q ∧ SqL K H q (ws.map lvV) ∧ ws ≠ [] ∧ ws.length ≤ 60 ∧ ∀ H', Same H H' → Q .non H') ∨ (BadLevels K H x ∧ ∀ H', Same H H' → E (.ref CN) none H'))
theorem okX_check_levels {f c_NoLevels : Addr} {fd : FuncData} (F : Fun K "check_levels" "check_levels" s_check_levels f fd) (T : Tx K mg) (X_NoLevels : EC K mg "NoLevels" c_NoLevels) (h1 : Has P w K mg base 3 "are_levels" ["given"] [] (spAreLevelsX K)) : FnOk P w K mg base (L2.CX P w) 4 f fd ["levels"] (spCheckLevelsX K c_NoLevels) := by
  obtain ⟨f_are_levels, fd_are_levels, ds_are_levels, G_are_levels, m_are_levels, k_are_levels, b_are_levels, v_are_levels⟩ := h1
  refine F.okX sc_check_levels (fun vs H Q E h => ?_) (fun cdv A outer s H vs Q E hr h => ?_)
  · obtain ⟨x, rfl, _⟩ := h
    rfl
  · obtain ⟨x, rfl, hx⟩ := h
    refine ⟨_, (pss_one (ps_if (pt_not (pt_val (pe_call G_are_levels hr (by rfl) m_are_levels k_are_levels b_are_levels v_are_levels pass0 (pa_cons (pv 0) pa_nil))))
        (pss_one (ps_raise rfl (takes_of rfl rfl rfl rfl) (pmk_own PySem.F.excBase_ValueError X_NoLevels.x X_NoLevels.g X_NoLevels.k (raises_own X_NoLevels.b X_NoLevels.t) rfl)))
        pss_nil)), ?_⟩
    rcases hx with ⟨q, ws, rfl, hL, hne, h60, c⟩ | ⟨hn, c⟩
    · exact ⟨_, rfl, _, rfl, .inl ⟨q, ws, rfl, hL, hne, h60, fun H1 s1 => ⟨true, rfl, iteF (c H1 s1)⟩⟩⟩
    · exact ⟨_, rfl, _, rfl, .inr ⟨hn, fun H1 s1 => ⟨false, rfl, iteT (c H1 s1)⟩⟩⟩
end
/-! ### f(k = v, ..): a def of one's own, called by the names of its parameters alone -/
def tCallK0 (m : Nat) (sp : Sp) (gV : List V → List V → List V) (E : XK) (tk : TA) : TE := fun σ H Q => tk σ H fun zs H1 => zs.length = m ∧ sp (gV [] zs) H1 Q E
section
variable {X : Cx} {CX : CXT} {k : Nat} {f : Addr} {fd : FuncData} {ps ks : List Str} {sp : Sp} {E : XK} {x : Str} {p pos : Pos} {kws : List Keyword} {tk : TA} {g : List Value → List Value → List Value} {gV : List V → List V → List V}
theorem pe_callK0 (F : FnOk X.prog X.w X.K X.mg X.base CX k f fd ps sp) (hr : Room k X.A) (hg : Gl X x) (hm : X.mg x = some (.ref f)) (hk : PySem.W.keepIn X.K (.ref f) = true) (hb : KBn X.K fd ps 0 ks g gV) (hx : Passes CX X E) (hkw : PK X kws tk)
    (hall : (backToKw pos (keywordEach kws X.env)).all (·.1.isSome) = true := by rfl) (hks : (backToKw pos (keywordEach kws X.env)).filterMap (·.1) = ks := by rfl) (hdb : (x == ("__debug__" : Str)) = false := by decide)
    (hpl : ((backTo pos (starEach [] X.env)).any (·.1) || (backToKw pos (keywordEach kws X.env)).any (·.1.isNone)) = false := by rfl) :
    PE X (.Call (.Name x p) [] kws pos) (tCallK0 ks.length sp gV E tk) := by
  refine ⟨fun pins s σ H Q I h => ?_⟩
  refine wpAny_Call_Name_kw (ld_glob I hg hm ?_ hdb)
  refine PySem.W.callWith_KW0 (h₀ := X.base) I.ok.mod.kin hk hall (thn (hkw.run pos pins s σ H _ I h) fun ws s1 ⟨zs, H1, I1, rz, l, q⟩ => ⟨I1.kIn, ?_⟩) hpl
  rw [hks]
  exact run_fnN (us := []) (vs := []) F hr hb hx I1 .nil rz rfl l q
end
section
variable {P : Program} {w : World} {K : PySem.W.Frag} {mg : Str → Option Value} {base : Heap}
/-- all parameters told by name, the last one first -/
theorem fun_kback {x qual : Str} {st : Stmt} {f : Addr} {fd : FuncData} {ps ks : List Str} (F : Fun K x qual st f fd)
    (h : ∀ (kV doc pm : Value) (an : Option Addr) (cdv ct : Value) (ws : List Value), ws.length = ks.length → bindArgs (PySem.W.fnOf x qual (defArgs st) (defBody st) (defScope st) .none kV doc pm an cdv ct) ⟨[], ks.zip ws⟩ = pure (ps.zip ws.reverse)) :
    KBn K fd ps 0 ks (fun _ ws => ws.reverse) (fun _ zs => zs.reverse) := by
  obtain ⟨oc, od, kV, doc, pm, an, cdv, ct, osl, rfl, lk, hcd⟩ := F.ex
  refine ⟨fun s us ws _ l1 l2 => ?_, fun _ r => r.reverse⟩
  obtain rfl : us = [] := List.length_eq_zero_iff.mp l1
  exact .of_eq (h kV doc pm an cdv ct ws l2)
/-- as HasX, for calls by position and by name -/
def HasXK (P : Program) (w : World) (K : PySem.W.Frag) (mg : Str → Option Value) (base : Heap) (k : Nat) (x : Str) (ps ks : List Str) (sp : Sp) : Prop :=
  ∃ (f : Addr) (fd : FuncData), FnOk P w K mg base (L2.CX P w) k f fd ps sp ∧ mg x = some (.ref f) ∧ PySem.W.keepIn K (.ref f) = true ∧ Binds K fd ps [] ∧ KBn K fd ps 0 ks (fun _ ws => ws.reverse) (fun _ zs => zs.reverse)
theorem Df.hasXK {k : Nat} {x : Str} {st : Stmt} {ps ks : List Str} {sp : Sp} (D : Df K mg x st ps) (ok : ∀ f fd, Fun K x x st f fd → FnOk P w K mg base (L2.CX P w) k f fd ps sp)
    (h : ∀ (kV doc pm : Value) (an : Option Addr) (cdv ct : Value) (ws : List Value), ws.length = ks.length → bindArgs (PySem.W.fnOf x x (defArgs st) (defBody st) (defScope st) .none kV doc pm an cdv ct) ⟨[], ks.zip ws⟩ = pure (ps.zip ws.reverse)) : HasXK P w K mg base k x ps ks sp := by
  obtain ⟨f, fd, F, m, b⟩ := D
  exact ⟨f, fd, ok f fd F, m, F.kp, b, fun_kback F h⟩
theorem HasXK.hasX {k : Nat} {x : Str} {ps ks : List Str} {sp : Sp} (h : HasXK P w K mg base k x ps ks sp) : HasX P w K mg base k x ps [] sp := by
  obtain ⟨f, fd, F, m, kp, b, _⟩ := h
  exact ⟨f, fd, [], F, m, kp, b, .nil⟩
/-- what raises nothing -/
theorem fnok_calm {k : Nat} {f : Addr} {fd : FuncData} {ps : List Str} {sp sp' : Sp} (F : FnOk P w K mg base (L2.CX P w) k f fd ps sp) (h : ∀ vs H Q E, sp' vs H Q E → sp vs H Q fun _ _ _ => False) : FnOk P w K mg base CX0 k f fd ps sp' := by
  refine ⟨fun vs H Q E q => F.len _ _ _ _ (h _ _ _ _ q), fun A outer s H args us vs Q E hr he hb hv q => codeAny_mono (F.run A outer s H args us vs Q _ hr he hb hv (h _ _ _ _ q)) fun r s' z => ?_⟩
  match r, z with
  | .ok (.ret u), z => exact z
  | .error e, z =>
    obtain ⟨_, _, _, _, _, _, _, _, _, _, _, _, z⟩ := z
    exact z.elim
theorem HasX.calm {k : Nat} {x : Str} {ps : List Str} {dvs : List V} {sp sp' : Sp} (h : HasX P w K mg base k x ps dvs sp) (hc : ∀ vs H Q E, sp' vs H Q E → sp vs H Q fun _ _ _ => False) : Has P w K mg base k x ps dvs sp' := by
  obtain ⟨f, fd, ds, F, r⟩ := h
  exact ⟨f, fd, ds, fnok_calm F hc, r⟩
end
/-! ### a promise that raises beside a calm one (also in prog_several_x) -/
section
variable {P : Program} {w : World} {K : PySem.W.Frag} {mg : Str → Option Value} {base : Heap}
/-- what raises nothing may stand where something may -/
theorem fnok_lift {k : Nat} {f : Addr} {fd : FuncData} {ps : List Str} {sp : Sp} (F : FnOk P w K mg base CX0 k f fd ps sp) : FnOk P w K mg base (L2.CX P w) k f fd ps sp := by
  refine ⟨F.len, fun A outer s H args us vs Q E hr he hb hv q => codeAny_mono (F.run A outer s H args us vs Q E hr he hb hv q) fun r s' z => ?_⟩
  match r, z with
  | .ok (.ret u), z => exact z
  | .error e, z => exact z.elim
theorem Has.lift {k : Nat} {x : Str} {ps : List Str} {dvs : List V} {sp : Sp} (h : Has P w K mg base k x ps dvs sp) : HasX P w K mg base k x ps dvs sp := by
  obtain ⟨f, fd, ds, F, r⟩ := h
  exact ⟨f, fd, ds, fnok_lift F, r⟩
def spOr (a b : Sp) : Sp := fun vs H Q E => a vs H Q E ∨ b vs H Q E
theorem fnok_or {CX : CXT} {k : Nat} {f : Addr} {fd : FuncData} {ps : List Str} {sp sp' : Sp} (F : FnOk P w K mg base CX k f fd ps sp) (G : FnOk P w K mg base CX k f fd ps sp') : FnOk P w K mg base CX k f fd ps (spOr sp sp') := by
  refine ⟨fun vs H Q E q => q.elim (F.len vs H Q E) (G.len vs H Q E), fun A outer s H args us vs Q E hr he hb hv q => ?_⟩
  rcases q with q | q
  · exact F.run A outer s H args us vs Q E hr he hb hv q
  · exact G.run A outer s H args us vs Q E hr he hb hv q
end
/-! ### levels_seen: what is a sighting, of any value -/
def sideB (x : V) : Bool := inV x [.str "front", .str "back"]
theorem side_of (f : Bool) : sideB (sideV f) = true := by
  cases f <;> decide
/-- a sighting -/
def SightAt (H : Hp) (v : V) (n d : Nat) (f : Bool) : Prop := ∃ t : Addr, v = .ref t ∧ H t = some (.tup [.int (n : Nat), .int (d : Nat), sideV f]) ∧ n < d
theorem SightAt.same {H H' : Hp} {v : V} {n d : Nat} {f : Bool} (s : Same H H') (h : SightAt H v n d f) : SightAt H' v n d f := by
  obtain ⟨t, e, h, l⟩ := h
  exact ⟨t, e, s _ _ h, l⟩
def NoSide (K : PySem.W.Frag) (H : Hp) (x : V) : Prop := NotA K H "str" x ∨ ∃ s : Str, x = .str s ∧ sideB x = false
theorem NoSide.same {K : PySem.W.Frag} {H H' : Hp} {x : V} (s : Same H H') (h : NoSide K H x) : NoSide K H' x := h.imp (·.same s) id
/-- what is none -/
def BadSight (K : PySem.W.Frag) (H : Hp) (v : V) : Prop := NotA K H "tuple" v ∨ ∃ (a : Addr) (xs : List V), v = .ref a ∧ H a = some (.tup xs) ∧ (xs.length ≠ 3 ∨ ∃ x y z, xs = [x, y, z] ∧ (BadTick K H x 0 ∨ ∃ n : Nat, x = .int (n : Nat) ∧ (BadTick K H y ((n : Int) + 1) ∨ ∃ d : Nat, y = .int (d : Nat) ∧ n < d ∧ NoSide K H z)))
theorem BadSight.same {K : PySem.W.Frag} {H H' : Hp} {v : V} (s : Same H H') (h : BadSight K H v) : BadSight K H' v := by
  rcases h with h | ⟨a, xs, e, h, h2⟩
  · exact .inl (h.same s)
  · exact .inr ⟨a, xs, e, s _ _ h, h2.imp id fun ⟨x, y, z, e2, h3⟩ => ⟨x, y, z, e2, h3.imp (·.same s) fun ⟨n, e3, h4⟩ => ⟨n, e3, h4.imp (·.same s) fun ⟨d, e4, l, h5⟩ => ⟨d, e4, l, h5.same s⟩⟩⟩⟩
/-- what is no list of sightings -/
def BadSeen (K : PySem.W.Frag) (H : Hp) (x : V) : Prop := NotA K H "list" x ∨ ∃ (S : Addr) (xs : List V), x = .ref S ∧ SqL K H S xs ∧ xs.length ≤ 100 ∧ (∀ v ∈ xs, (∃ n d f, SightAt H v n d f) ∨ BadSight K H v) ∧ ∃ v ∈ xs, BadSight K H v
theorem BadSeen.same {K : PySem.W.Frag} {H H' : Hp} {x : V} (s : Same H H') (h : BadSeen K H x) : BadSeen K H' x := by
  rcases h with h | ⟨S, xs, e, h1, l, h2, v, hv, h3⟩
  · exact .inl (h.same s)
  · exact .inr ⟨S, xs, e, s.seq h1, l, fun v hv => (h2 v hv).imp (fun ⟨n, d, f, z⟩ => ⟨n, d, f, z.same s⟩) (·.same s), v, hv, h3.same s⟩
def SidesAt (K : PySem.W.Frag) (mg : Str → Option Value) : Prop := ∃ a, mg "SIDES" = some (.ref a) ∧ ∀ H, SqT K H a [.str "front", .str "back"]
section
variable {P : Program} {w : World} {K : PySem.W.Frag} {mg : Str → Option Value} {base : Heap}
def spIsSighting (K : PySem.W.Frag) : Sp := fun vs H Q _ => ∃ x : V, vs = [x] ∧ (((∃ n d f, SightAt H x n d f) ∧ Q (.bl true) H) ∨ (BadSight K H x ∧ Q (.bl false) H))
theorem okA_is_sighting {f : Addr} {fd : FuncData} (F : Fun K "is_sighting" "is_sighting" s_is_sighting f fd) (T : Tx K mg) (hW : SidesAt K mg) (h1 : Has P w K mg base 2 "is_tick" ["given", "least"] [.int 0] (spIsTickX K)) (h2 : Has P w K mg base 2 "is_tick" ["given", "least"] [] (spIsTickX K)) : FnOk P w K mg base CX0 3 f fd ["given"] (spIsSighting K) := by
  obtain ⟨f_is_tick1, fd_is_tick1, ds_is_tick1, G_is_tick1, m_is_tick1, k_is_tick1, b_is_tick1, v_is_tick1⟩ := h1
  obtain ⟨f_is_tick, fd_is_tick, ds_is_tick, G_is_tick, m_is_tick, k_is_tick, b_is_tick, v_is_tick⟩ := h2
  obtain ⟨a_SIDES, g_SIDES, sW⟩ := hW
  refine F.ok sc_is_sighting (fun vs H Q E h => ?_) (fun cdv A outer s H vs Q E hr h => ?_)
  · obtain ⟨x, rfl, _⟩ := h
    rfl
  · obtain ⟨x, rfl, h⟩ := h
    refine ⟨_, (pss_cons (ps_if (PW.pt (pw_or (pt_not (pt_val (pe_callB (isiK (K := K) rfl) (by rfl) T.b_isinstance (by decide +kernel) (pa_cons (pv 0) (pa_cons (pe_bltn (v := .ty "tuple") (u := .type "tuple") (by rfl) T.b_tuple (by decide +kernel) rfl) pa_nil))))) (pw_or1 (pt_cmpR op_ne (pe_callB (lenK (K := K) rfl) (by rfl) T.b_len PySem.boot_len (pa_cons (pv 0) pa_nil)) pe_int (nomark _)))))
        (pss_one (ps_ret pe_bl))
        pss_nil)
      (pss_cons (ps_asg (pv 0) (pg_tupK (K := K) (n := 3) rfl rfl (pgs_cons (pg_name (i := 1) sc_is_sighting.nd rfl (.inl rfl)) (pgs_cons (pg_name (i := 2) sc_is_sighting.nd rfl (.inl rfl)) (pgs_cons (pg_name (i := 3) sc_is_sighting.nd rfl (.inl rfl)) pgs_nil)))))
      (pss_cons (ps_if (PW.pt (pw_or (pt_not (pt_val (pe_call G_is_tick1 hr (by rfl) m_is_tick1 k_is_tick1 b_is_tick1 v_is_tick1 pass0 (pa_cons (pv 1) pa_nil)))) (pw_or1 (pt_not (pt_val (pe_call G_is_tick hr (by rfl) m_is_tick k_is_tick b_is_tick v_is_tick pass0 (pa_cons (pv 2) (pa_cons (pe_op op_add (pv 1) pe_int) pa_nil))))))))
        (pss_one (ps_ret pe_bl))
        pss_nil)
      (pss_one (ps_ret (pe_and (pe_callB (isiK (K := K) rfl) (by rfl) T.b_isinstance (by decide +kernel) (pa_cons (pv 3) (pa_cons (pe_bltn (v := .ty "str") (u := .type "str") (by rfl) T.b_str (by decide +kernel) rfl) pa_nil))) (pe_one (pe_cmpR op_in_seq (pv 3) (pe_glob (v := .ref a_SIDES) rfl g_SIDES rfl) (by rfl))))))))), ?_⟩
    have side : ∀ (s : Str) (b : Bool), sideB (.str s) = b → Q (.bl b) H → ∃ (p : Addr) (xs : List V), V.ref a_SIDES = .ref p ∧ (SqL K H p xs ∨ SqT K H p xs) ∧ flatV (.str s) = true ∧ xs.all flatV = true ∧ Q (.bl (if false then !inV (.str s) xs else inV (.str s) xs)) H := fun s b e q => by
      refine ⟨a_SIDES, _, rfl, .inr (sW _), rfl, rfl, ?_⟩
      have e2 : (if false then !inV (V.str s) [.str "front", .str "back"] else inV (V.str s) [.str "front", .str "back"]) = b := e
      rw [e2]
      exact q
    rcases h with ⟨⟨n, d, f, t, rfl, ht, hnd⟩, q⟩ | ⟨⟨c, ht, hk⟩ | ⟨t, xs, rfl, ht, hb⟩, q⟩
    · refine ⟨.ref t, rfl, _, _, _, _, true, rfl, .ty "tuple", .base (.tup ht), kit_ty (by decide +kernel), true, rfl, iteF ?_⟩
      refine ⟨.ref t, rfl, t, _, rfl, .inr (.inl (.inl ht)), rfl, false, nF rfl, iteF ?_⟩
      refine ⟨.ref t, rfl, t, _, rfl, .inl (.inl ht), rfl, _, _, rfl, _, _, rfl, _, _, rfl, rfl, ?_⟩
      refine ⟨_, rfl, .int (n : Nat), 0, rfl, .inl ⟨(n : Nat), rfl, by omega, true, rfl, iteF ?_⟩⟩
      refine ⟨_, rfl, _, rfl, (n : Nat), 1, rfl, rfl, .int (d : Nat), (n : Int) + 1, rfl, .inl ⟨(d : Nat), rfl, by omega, true, rfl, iteF ?_⟩⟩
      obtain ⟨sx, ex, hx⟩ : ∃ x : Str, sideV f = .str x ∧ sideB (.str x) = true := by
        cases f
        · exact ⟨_, rfl, by decide⟩
        · exact ⟨_, rfl, by decide⟩
      rw [ex]
      exact ⟨.str sx, rfl, _, _, _, _, true, rfl, .ty "str", .base (.str sx), kit_ty (by decide +kernel), true, rfl, iteT ⟨.str sx, rfl, side sx true hx q⟩⟩
    · exact ⟨x, rfl, _, _, _, _, false, rfl, .ty "tuple", ht, kit_ty hk, false, rfl, iteT (iteT q)⟩
    · refine ⟨.ref t, rfl, _, _, _, _, true, rfl, .ty "tuple", .base (.tup ht), kit_ty (by decide +kernel), true, rfl, iteF ?_⟩
      rcases hb with hl | ⟨x, y, z, rfl, hb⟩
      · exact ⟨.ref t, rfl, t, _, rfl, .inr (.inl (.inl ht)), rfl, true, nT (vI fun e => hl (Int.ofNat.inj e)), iteT q⟩
      refine ⟨.ref t, rfl, t, _, rfl, .inr (.inl (.inl ht)), rfl, false, nF rfl, iteF ?_⟩
      refine ⟨.ref t, rfl, t, _, rfl, .inl (.inl ht), rfl, _, _, rfl, _, _, rfl, _, _, rfl, rfl, ?_⟩
      rcases hb with hb | ⟨n, rfl, hb⟩
      · exact ⟨x, rfl, x, 0, rfl, .inr ⟨hb, false, rfl, iteT (iteT q)⟩⟩
      refine ⟨_, rfl, .int (n : Nat), 0, rfl, .inl ⟨(n : Nat), rfl, by omega, true, rfl, iteF ?_⟩⟩
      rcases hb with hb | ⟨d, rfl, hnd, hb⟩
      · exact ⟨y, rfl, _, rfl, (n : Nat), 1, rfl, rfl, y, (n : Int) + 1, rfl, .inr ⟨hb, false, rfl, iteT q⟩⟩
      refine ⟨_, rfl, _, rfl, (n : Nat), 1, rfl, rfl, .int (d : Nat), (n : Int) + 1, rfl, .inl ⟨(d : Nat), rfl, by omega, true, rfl, iteF ?_⟩⟩
      rcases hb with ⟨a, ht, hk⟩ | ⟨s, rfl, hs⟩
      · exact ⟨z, rfl, z, _, _, _, false, rfl, .ty "str", ht, kit_ty hk, false, rfl, iteF q⟩
      · exact ⟨.str s, rfl, _, _, _, _, true, rfl, .ty "str", .base (.str s), kit_ty (by decide +kernel), true, rfl, iteT ⟨.str s, rfl, side s false hs q⟩⟩
def spCheckManyX (K : PySem.W.Frag) (CN : Addr) : Sp := fun vs H Q E => ∃ x : V, vs = [x] ∧ ((∃ n : Int, x = .int n ∧ 1 ≤ n ∧ n ≤ 60 ∧ Q .non H) ∨ (BadLength K H x ∧ E (.ref CN) none H))
theorem okX_check_many {f c_NoLevels : Addr} {fd : FuncData} (F : Fun K "check_many" "check_many" s_check_many f fd) (T : Tx K mg) (X_NoLevels : EC K mg "NoLevels" c_NoLevels) (h1 : Has P w K mg base 2 "is_length" ["given"] [] (spIsLengthX K)) : FnOk P w K mg base (L2.CX P w) 3 f fd ["many"] (spCheckManyX K c_NoLevels) := by
  obtain ⟨f_is_length, fd_is_length, ds_is_length, G_is_length, m_is_length, k_is_length, b_is_length, v_is_length⟩ := h1
  refine F.okX sc_check_many (fun vs H Q E h => ?_) (fun cdv A outer s H vs Q E hr h => ?_)
  · obtain ⟨x, rfl, _⟩ := h
    rfl
  · obtain ⟨x, rfl, h⟩ := h
    refine ⟨_, (pss_one (ps_if (pt_not (pt_val (pe_call G_is_length hr (by rfl) m_is_length k_is_length b_is_length v_is_length pass0 (pa_cons (pv 0) pa_nil))))
        (pss_one (ps_raise rfl (takes_of rfl rfl rfl rfl) (pmk_own PySem.F.excBase_ValueError X_NoLevels.x X_NoLevels.g X_NoLevels.k (raises_own X_NoLevels.b X_NoLevels.t) rfl)))
        pss_nil)), ?_⟩
    rcases h with ⟨n, rfl, l1, l2, q⟩ | ⟨h, q⟩
    · exact ⟨_, rfl, _, rfl, .inl ⟨n, rfl, l1, l2, true, rfl, iteF q⟩⟩
    · exact ⟨x, rfl, x, rfl, .inr ⟨h, false, rfl, iteT q⟩⟩
def spCheckSeenX (K : PySem.W.Frag) (CN : Addr) : Sp := fun vs H Q E => ∃ x : V, vs = [x] ∧ ((∃ (S : Addr) (xs : List V), x = .ref S ∧ SqL K H S xs ∧ xs.length ≤ 100 ∧ (∀ v ∈ xs, ∃ n d f, SightAt H v n d f) ∧ ∀ H', Same H H' → Q .non H') ∨ (BadSeen K H x ∧ ∀ H', Same H H' → E (.ref CN) none H'))
theorem okX_check_seen {f c_NoSighting : Addr} {fd : FuncData} (F : Fun K "check_seen" "check_seen" s_check_seen f fd) (T : Tx K mg) (X_NoSighting : EC K mg "NoSighting" c_NoSighting) (h1 : Has P w K mg base 3 "is_sighting" ["given"] [] (spIsSighting K)) : FnOk P w K mg base (L2.CX P w) 4 f fd ["seen"] (spCheckSeenX K c_NoSighting) := by
  obtain ⟨f_is_sighting, fd_is_sighting, ds_is_sighting, G_is_sighting, m_is_sighting, k_is_sighting, b_is_sighting, v_is_sighting⟩ := h1
  refine F.okX sc_check_seen (fun vs H Q E h => ?_) (fun cdv A outer s H vs Q E hr h => ?_)
  · obtain ⟨x, rfl, _⟩ := h
    rfl
  · obtain ⟨x, rfl, h⟩ := h
    refine ⟨_, (pss_one (ps_if (PW.pt (pw_or (pt_not (pt_val (pe_callB (isiK (K := K) rfl) (by rfl) T.b_isinstance (by decide +kernel) (pa_cons (pv 0) (pa_cons (pe_bltn (v := .ty "list") (u := .type "list") (by rfl) T.b_list (by decide +kernel) rfl) pa_nil))))) (pw_or1 (pt_not (pt_val (pe_callB (allK (K := K) rfl rfl) (by rfl) T.b_all (by decide +kernel) (pa_cons (pe_lc (own := [("given", 1)]) (g := gName 1) (tt := tYes) rfl sc_check_seen.nd (pi_list (pv 0)) (blkOk_by (own := [("given", 1)]) (N := N_check_seen) (sc := defScope s_check_seen) (by decide +kernel)) (fun _ _ _ _ _ => (pg_name (i := 1) sc_check_seen.nd rfl (.inl rfl))) (fun _ _ _ _ _ => pts_nil) (fun _ _ _ _ _ => (pe_call G_is_sighting hr (by rfl) m_is_sighting k_is_sighting b_is_sighting v_is_sighting pass0 (pa_cons (pv 1) pa_nil)))) pa_nil)))))))
        (pss_one (ps_raise rfl (takes_of rfl rfl rfl rfl) (pmk_own PySem.F.excBase_ValueError X_NoSighting.x X_NoSighting.g X_NoSighting.k (raises_own X_NoSighting.b X_NoSighting.t) rfl)))
        pss_nil)), ?_⟩
    have h2 : (NotA K H "list" x ∧ E (.ref c_NoSighting) none H) ∨ ∃ (S : Addr) (xs : List V) (bs : List Bool), x = .ref S ∧ SqL K H S xs ∧ xs.length ≤ 100 ∧ bs.length = xs.length ∧ (∀ (j : Nat) (v : V), xs[j]? = some v → (bs[j]? = some true ∧ ∃ n d f, SightAt H v n d f) ∨ (bs[j]? = some false ∧ BadSight K H v)) ∧
        ∀ H', Same H H' → if bs.all id = true then Q .non H' else E (.ref c_NoSighting) none H' := by
      rcases h with ⟨S, xs, rfl, hS, l, hg, c⟩ | ⟨hn | ⟨S, xs, rfl, hS, l, hg, v0, hv0, hb0⟩, c⟩
      · refine .inr ⟨S, xs, xs.map fun _ => true, rfl, hS, l, List.length_map .., fun j v hv => .inl ⟨by rw [List.getElem?_map, hv]; rfl, hg v (List.mem_of_getElem? hv)⟩, fun H' s1 => ?_⟩
        rw [if_pos (by simp)]
        exact c H' s1
      · exact .inl ⟨hn, c H fun _ _ e => e⟩
      · refine .inr ⟨S, xs, xs.map fun v => !(@decide (BadSight K H v) (Classical.propDecidable _)), rfl, hS, l, List.length_map .., fun j v hv => ?_, fun H' s1 => ?_⟩
        · rcases Classical.em (BadSight K H v) with hb | hb
          · exact .inr ⟨by rw [List.getElem?_map, hv]; simp [hb], hb⟩
          · exact .inl ⟨by rw [List.getElem?_map, hv]; simp [hb], (hg v (List.mem_of_getElem? hv)).resolve_right hb⟩
        · rw [if_neg fun e => by
            have z := List.all_eq_true.mp e false (List.mem_map.mpr ⟨v0, hv0, by simp [hb0]⟩)
            cases z]
          exact c H' s1
    clear h
    rcases h2 with ⟨⟨a, ht, hk⟩, q⟩ | ⟨S, xs, bs, rfl, hS, l, hbl, hv, c⟩
    · exact ⟨x, rfl, _, _, _, _, false, rfl, .ty "list", ht, kit_ty hk, false, rfl, iteT (iteT q)⟩
    refine ⟨.ref S, rfl, _, _, _, _, true, rfl, .ty "list", tyx_list hS, kit_ty (by decide +kernel), true, rfl, iteF ?_⟩
    refine ⟨.ref S, rfl, S, rfl, ⟨_, hS⟩, fun D hD => lc_list (K := K) (a := S) (xs := xs) (fun i H' => Same H H' ∧ H' D = some (.lst ((bs.take i).map V.bl)))
      ⟨same_upd hD, upd_same⟩ (fun i H' _ ⟨sm, _⟩ => sm.seq hS) ?_ ?_⟩
    · rintro i x H' hx ⟨sm, eD⟩
      have hi : i < xs.length := (List.getElem?_eq_some_iff.mp hx).1
      refine ⟨rfl, yesT (iteT ?_)⟩
      have fin : ∀ b, bs[i]? = some b → ∃ acc, H' D = some (.lst acc) ∧ acc.length < sizeLine ∧ (Same H (upd H' D (.lst (acc ++ [V.bl b]))) ∧ (upd H' D (.lst (acc ++ [V.bl b]))) D = some (.lst ((bs.take (i + 1)).map V.bl))) := fun b hb => by
        refine ⟨_, eD, ?_, fun c o e => ?_, ?_⟩
        · rw [List.length_map, List.length_take]
          exact sizeLine_ge (by omega)
        · rw [upd_ne (ne_of_none e hD)]
          exact sm _ _ e
        · rw [upd_same, List.take_add_one, hb, List.map_append]
          rfl
      rcases hv i x hx with ⟨hb, n, d, f, hs⟩ | ⟨hb, hs⟩
      · exact ⟨_, rfl, x, rfl, .inl ⟨⟨n, d, f, hs.same sm⟩, fin true hb⟩⟩
      · exact ⟨_, rfl, x, rfl, .inr ⟨hs.same sm, fin false hb⟩⟩
    · rintro H1 ⟨s1, eD⟩
      rw [← hbl, List.take_length] at eD
      have c1 := c H1 s1
      refine ⟨D, _, rfl, SqL.of eD, ?_⟩
      cases hb : bs.all id with
      | true =>
        rw [if_pos hb] at c1
        exact ⟨true, rfl, iteF c1⟩
      | false =>
        rw [if_neg (by rw [hb]; exact Bool.false_ne_true)] at c1
        exact ⟨false, rfl, iteT c1⟩
/-- the calm ones -/
def spCheckMany : Sp := fun vs H Q _ => ∃ n : Nat, vs = [.int (n : Nat)] ∧ 1 ≤ n ∧ n ≤ 60 ∧ Q .non H
theorem many_calm {c : Addr} : ∀ vs H Q E, spCheckMany vs H Q E → spCheckManyX K c vs H Q fun _ _ _ => False := by
  rintro vs H Q E ⟨n, rfl, h1, h2, q⟩
  exact ⟨_, rfl, .inl ⟨(n : Nat), rfl, by omega, by omega, q⟩⟩
def spCheckSeen (K : PySem.W.Frag) : Sp := fun vs H Q _ => ∃ (S : Addr) (xs : List V), vs = [.ref S] ∧ SqL K H S xs ∧ xs.length ≤ 100 ∧ (∀ v ∈ xs, ∃ n d f, SightAt H v n d f) ∧ ∀ H', Same H H' → Q .non H'
theorem seen_calm {c : Addr} : ∀ vs H Q E, spCheckSeen K vs H Q E → spCheckSeenX K c vs H Q fun _ _ _ => False := by
  rintro vs H Q E ⟨S, xs, rfl, h⟩
  exact ⟨_, rfl, .inl ⟨S, xs, rfl, h⟩⟩
end
/-! ### data equal to itself -/
theorem neq_refl {d : PyData} (h : d.canLay0 = true) : V.bl (!PyData.eqv d d) = V.bl false := by
  rw [SeqAt.eqv_refl d h]
  rfl
theorem eq_refl {d : PyData} (h : d.canLay0 = true) : V.bl (PyData.eqv d d) = V.bl true := by
  rw [SeqAt.eqv_refl d h]
/-! ### rows as data, walks with numbers -/
def rowD (r : Row3) : PyData := .tuple [.int (r.1 : Nat), .int (r.2.1 : Nat), .int (r.2.2 : Nat)]
theorem rows_dp {K : PySem.W.Frag} {H : Hp} : ∀ {ts : List Addr} {rs : List Row3}, RowsAt H ts rs → DpAll K H (ts.map V.ref) (rs.map rowD)
  | [], [], _ => .nil
  | _ :: _, _ :: _, h => .cons (.tup (.inl (.inl h.1)) (.cons (.int _) (.cons (.int _) (.cons (.int _) .nil)))) (rows_dp h.2)
  | [], _ :: _, h => h.elim
  | _ :: _, [], h => h.elim
theorem rowD_lay (r : Row3) : (rowD r).canLay0 = true := rfl
theorem rows_lay : ∀ rs : List Row3, PyData.canLayAll0 (rs.map rowD) = true
  | [] => rfl
  | r :: rs => by
    show ((rowD r).canLay0 && PyData.canLayAll0 (rs.map rowD)) = true
    rw [rowD_lay, rows_lay rs]
    rfl
theorem rows_depth : ∀ rs : List Row3, PyData.depthAll (rs.map rowD) ≤ 1
  | [] => Nat.zero_le _
  | r :: rs => by
    have ih := rows_depth rs
    show max (rowD r).depth (PyData.depthAll (rs.map rowD)) ≤ 1
    have e : (rowD r).depth = 1 := rfl
    rw [e]
    omega
theorem rows_shaped (rs : List Row3) : SeqAt.shaped (.list (rs.map rowD)) = true := by
  have h1 : (PyData.list (rs.map rowD)).canLay0 = true := by
    show PyData.canLayAll0 (rs.map rowD) = true
    exact rows_lay rs
  have h2 : (PyData.list (rs.map rowD)).depth ≤ 64 := by
    show PyData.depthAll (rs.map rowD) + 1 ≤ 64
    have := rows_depth rs
    omega
  unfold SeqAt.shaped
  rw [h1, decide_eq_true h2]
  rfl
theorem dp_nats {K : PySem.W.Frag} {H : Hp} : ∀ ns : List Nat, DpAll K H (ns.map fun x => V.int (x : Nat)) (ns.map fun x => PyData.int (x : Nat))
  | [] => .nil
  | _ :: r => .cons (.int _) (dp_nats r)
theorem nats_lay : ∀ ns : List Nat, PyData.canLayAll0 (ns.map fun x => PyData.int (x : Nat)) = true
  | [] => rfl
  | _ :: r => by
    show (PyData.canLay0 _ && PyData.canLayAll0 (r.map fun x => PyData.int (x : Nat))) = true
    rw [nats_lay r]
    rfl
theorem nats_depth : ∀ ns : List Nat, PyData.depthAll (ns.map fun x => PyData.int (x : Nat)) = 0
  | [] => rfl
  | _ :: r => by
    show max (PyData.depth _) (PyData.depthAll (r.map fun x => PyData.int (x : Nat))) = 0
    rw [nats_depth r]
    rfl
theorem nats_shaped (ns : List Nat) : SeqAt.shaped (.list (ns.map fun x => PyData.int (x : Nat))) = true := by
  have h1 : (PyData.list (ns.map fun x => PyData.int (x : Nat))).canLay0 = true := by
    show PyData.canLayAll0 _ = true
    exact nats_lay ns
  have h2 : (PyData.list (ns.map fun x => PyData.int (x : Nat))).depth ≤ 64 := by
    show PyData.depthAll _ + 1 ≤ 64
    rw [nats_depth ns]
    decide
  unfold SeqAt.shaped
  rw [h1, decide_eq_true h2]
  rfl
theorem cut1 (xs : List V) : cutV xs (some 1) none = xs.drop 1 := by
  unfold cutV
  rw [show HT.sIx xs.length 0 (some 1) = min 1 xs.length from HT.sIx_nat xs.length 0 1, HT.sIx_none]
  cases xs with
  | nil => rfl
  | cons x r =>
    rw [show min 1 (x :: r).length = 1 by
      rw [List.length_cons]
      omega]
    show (List.take ((x :: r).length - 1) r) = r
    rw [List.length_cons, Nat.add_sub_cancel]
    exact List.take_length
theorem cutTo {xs : List V} {k : Nat} : cutV xs none (some (k : Int)) = xs.take k := by
  unfold cutV
  rw [HT.sIx_none, HT.sIx_nat, List.drop_zero, Nat.sub_zero]
  by_cases h : k ≤ xs.length
  · rw [Nat.min_eq_left h]
  · rw [Nat.min_eq_right (by omega), List.take_length, List.take_of_length_le (by omega)]
theorem cutFrom {xs : List V} {k : Nat} : cutV xs (some (k : Int)) none = xs.drop k := by
  unfold cutV
  rw [HT.sIx_none, HT.sIx_nat]
  by_cases h : k ≤ xs.length
  · rw [Nat.min_eq_left h]
    exact List.take_of_length_le (by rw [List.length_drop]; exact Nat.le_refl _)
  · rw [Nat.min_eq_right (by omega), List.drop_length, List.drop_of_length_le (by omega)]
    simp
theorem cutLast {xs : List V} (h : xs ≠ []) : cutV xs (some (-1)) none = [xs.getLast h] := by
  have hp : 0 < xs.length := List.length_pos_iff.mpr h
  have e : HT.sIx xs.length 0 (some (-1)) = xs.length - 1 := by
    show (if (-1 : Int) < 0 then ((-1 : Int) + (xs.length : Int)).toNat else min (-1 : Int).toNat xs.length) = _
    rw [if_pos (by decide)]
    omega
  unfold cutV
  rw [e, HT.sIx_none, List.drop_eq_getElem_cons (show xs.length - 1 < xs.length by omega), List.getLast_eq_getElem]
  rw [show xs.length - 1 + 1 = xs.length by omega, List.drop_length]
  rw [show xs.length - (xs.length - 1) = 1 by omega]
  rfl
theorem RowsAt.frame {H H' : Hp} : ∀ {ts : List Addr} {rs : List Row3}, RowsAt H ts rs → (∀ t r, H t = some (.tup (rowV r)) → H' t = some (.tup (rowV r))) → RowsAt H' ts rs
  | [], [], _, _ => trivial
  | _ :: _, _ :: _, h, s => ⟨s _ _ h.1, h.2.frame s⟩
  | [], _ :: _, h, _ => h.elim
  | _ :: _, [], h, _ => h.elim
/-- the tick behind the first station -/
theorem behind_first (b d : Nat) : ∀ k, ((tailOf b d k).map (fun r => r.2.2) ++ [d])[0]? = some (d / b ^ k * b ^ k)
  | 0 => by
    show some d = some (d / b ^ 0 * b ^ 0)
    rw [Nat.pow_zero, Nat.div_one, Nat.mul_one]
  | k + 1 => by
    have e := cut_step b d k
    unfold tailOf
    split
    · rfl
    · rename_i h
      have h0 : d / b ^ k % b = 0 := Classical.byContradiction h
      rw [h0, Nat.zero_mul, Nat.add_zero] at e
      rw [behind_first b d k, e]
/-- a loop over enumerate(a list) -/
theorem for_enum {K : PySem.W.Frag} {a : Addr} {xs : List V} {g : TG} {tb : TS} {D : Ends} {σ : L2.St} {H : Hp} (Pv : Nat → L2.St → Hp → Prop) (h0 : Pv 0 σ H) (hq : ∀ i σ H, Pv i σ H → SqL K H a xs)
    (hs : ∀ (i : Nat) (x : V) (T : Addr) (σ : L2.St) (H : Hp), xs[i]? = some x → Pv i σ H → H T = none → g (.ref T) σ (upd H T (.tup [.int (i : Nat), x])) fun σ2 H2 => tb { D with nx := Pv (i + 1), ct := Pv (i + 1), bk := D.nx } σ2 H2) (hd : ∀ σ H, Pv xs.length σ H → D.nx σ H) :
    ∃ W : Nat → Nat → L2.St → Hp → Prop, (∃ m, W 0 m σ H) ∧ ∀ i m σ H, W i m σ H →
      ((Ite K a).stop i H ∧ D.nx σ H) ∨ ((Ite K a).go i H ∧ ∃ N : L2.St → Hp → Prop, (∀ σ' H', N σ' H' → ∃ m', m' < m ∧ W (i + 1) m' σ' H') ∧ ∀ v H', (Ite K a).yld i H v H' → g v σ H' fun σ2 H2 => tb { D with nx := N, ct := N, bk := D.nx } σ2 H2) := by
  refine ⟨fun i m σ H => m = xs.length - i ∧ i ≤ xs.length ∧ Pv i σ H, ⟨xs.length, rfl, Nat.zero_le _, h0⟩, ?_⟩
  rintro i m σ H ⟨rfl, hi, p⟩
  have qx := hq i σ H p
  by_cases hlt : i < xs.length
  · have hx : xs[i]? = some xs[i] := List.getElem?_eq_getElem hlt
    refine .inr ⟨⟨xs, xs[i], qx, hx⟩, Pv (i + 1), fun σ' H' p' => ⟨xs.length - (i + 1), by omega, rfl, hlt, p'⟩, fun v H' y => ?_⟩
    obtain ⟨T, x, rfl, nT, rfl, f⟩ := y
    have ex : x = xs[i] := Option.some.inj ((f xs qx).symm.trans hx)
    subst ex
    exact hs i _ T σ H hx p nT
  · have e : i = xs.length := by omega
    subst e
    exact .inl ⟨⟨xs, qx, Nat.le_refl _⟩, hd σ H p⟩
/-- a loop over zip(a list, a list), of any two lengths -/
theorem for_zip2 {K : PySem.W.Frag} {a b : Addr} {xs ys : List V} {g : TG} {tb : TS} {D : Ends} {σ : L2.St} {H : Hp} (Pv : Nat → L2.St → Hp → Prop) (h0 : Pv 0 σ H) (hq : ∀ i σ H, Pv i σ H → SqL K H a xs ∧ SqL K H b ys)
    (hs : ∀ (i : Nat) (x y : V) (T : Addr) (σ : L2.St) (H : Hp), xs[i]? = some x → ys[i]? = some y → Pv i σ H → H T = none → g (.ref T) σ (upd H T (.tup [x, y])) fun σ2 H2 => tb { D with nx := Pv (i + 1), ct := Pv (i + 1), bk := D.nx } σ2 H2) (hd : ∀ i σ H, Pv i σ H → D.nx σ H) :
    ∃ W : Nat → Nat → L2.St → Hp → Prop, (∃ m, W 0 m σ H) ∧ ∀ i m σ H, W i m σ H →
      ((Itz K a b).stop i H ∧ D.nx σ H) ∨ ((Itz K a b).go i H ∧ ∃ N : L2.St → Hp → Prop, (∀ σ' H', N σ' H' → ∃ m', m' < m ∧ W (i + 1) m' σ' H') ∧ ∀ v H', (Itz K a b).yld i H v H' → g v σ H' fun σ2 H2 => tb { D with nx := N, ct := N, bk := D.nx } σ2 H2) := by
  refine ⟨fun i m σ H => m = xs.length - i ∧ i ≤ xs.length ∧ Pv i σ H, ⟨xs.length, rfl, Nat.zero_le _, h0⟩, ?_⟩
  rintro i m σ H ⟨rfl, hi, p⟩
  obtain ⟨qx, qy⟩ := hq i σ H p
  by_cases hlt : i < xs.length ∧ i < ys.length
  · have hx : xs[i]? = some xs[i] := List.getElem?_eq_getElem hlt.1
    have hy : ys[i]? = some ys[i] := List.getElem?_eq_getElem hlt.2
    refine .inr ⟨⟨xs, ys, _, _, qx, qy, hx, hy⟩, Pv (i + 1), fun σ' H' p' => ⟨xs.length - (i + 1), by omega, rfl, hlt.1, p'⟩, fun v H' e => ?_⟩
    obtain ⟨T, x, y, rfl, nT, rfl, f, f2⟩ := e
    have ex : x = xs[i] := Option.some.inj ((f xs qx).symm.trans hx)
    have ey : y = ys[i] := Option.some.inj ((f2 ys qy).symm.trans hy)
    subst ex
    subst ey
    exact hs i _ _ T σ H hx hy p nT
  · refine .inl ⟨⟨xs, ys, qx, qy, ?_⟩, hd i σ H p⟩
    by_cases h1 : i < xs.length
    · right
      by_cases h2 : i < ys.length
      · exact absurd ⟨h1, h2⟩ hlt
      · omega
    · left
      omega
/-- the last item of a list that has one -/
theorem atI_neg1 {xs : List V} {x : V} (h : xs[xs.length - 1]? = some x) : atI xs (-1) = some x := by
  have hne : xs ≠ [] := fun e => by
    rw [e] at h
    simp at h
  have e : xs = xs.dropLast ++ [xs.getLast hne] := (List.dropLast_concat_getLast hne).symm
  have ex : x = xs.getLast hne := by
    have z := List.getLast?_eq_getElem? (l := xs)
    rw [h, List.getLast?_eq_some_getLast hne] at z
    exact (Option.some.inj z).symm
  rw [e, ex]
  exact atI_last _ _
/-! ### levels_seen -/
def SightsAt (H : Hp) (ts : List Addr) (ss : List (Nat × Nat × Bool)) : Prop := ts.length = ss.length ∧ ∀ (j : Nat) (t : Addr) (s : Nat × Nat × Bool), ts[j]? = some t → ss[j]? = some s → H t = some (.tup [.int (s.1 : Nat), .int (s.2.1 : Nat), sideV s.2.2]) ∧ s.1 < s.2.1
theorem SightsAt.same {H H' : Hp} {ts : List Addr} {ss : List (Nat × Nat × Bool)} (s : Same H H') (h : SightsAt H ts ss) : SightsAt H' ts ss := ⟨h.1, fun j t x h1 h2 => ⟨s _ _ (h.2 j t x h1 h2).1, (h.2 j t x h1 h2).2⟩⟩
/-- the answer -/
def SeenAt (H : Hp) (u : Addr) : Nat ⊕ (List Bool × Nat) → Prop
  | .inl k => H u = some (.tup [.str "none", .int (k : Nat)])
  | .inr r => ∃ q, H u = some (.tup [.str "levels", .ref q, .int (r.2 : Nat)]) ∧ H q = some (.lst (r.1.map lvV))
theorem SeenAt.same {H H' : Hp} {u : Addr} (s : Same H H') : ∀ {r : Nat ⊕ (List Bool × Nat)}, SeenAt H u r → SeenAt H' u r
  | .inl _, h => s _ _ h
  | .inr _, ⟨q, h1, h2⟩ => ⟨q, s _ _ h1, s _ _ h2⟩
theorem put_len (kvs : List (Key × V)) (k : Key) (v : V) : (putK kvs k v).length ≤ kvs.length + 1 := by
  unfold putK
  split
  · rw [List.length_map]
    omega
  · rw [List.length_append]
    exact Nat.le_refl _
theorem KnAt.put {H H' : Hp} {D u q : Addr} {kvs : List (Key × V)} {kn : Nat → Option Eqn} {e : Eqn} {l : Nat} (hD : H D = some (.dK kvs)) (h : KnAt H kvs kn) (s : ∀ c o, c ≠ D → H c = some o → H' c = some o) (he : EqAt H' u q e) :
    KnAt H' (putK kvs (.inl ((l : Nat) : Int)) (.ref u)) (fun j => if j = l then some e else kn j) := fun j => by
  rw [valV_put]
  by_cases c : j = l
  · subst c
    exact .inr ⟨e, u, q, if_pos rfl, if_pos rfl, he⟩
  · have c2 : (Sum.inl ((j : Nat) : Int) : Key) ≠ .inl ((l : Nat) : Int) := fun z => c (Int.ofNat.inj (Sum.inl.inj z))
    rw [if_neg c2]
    have z := h.frame (H' := H') hD (fun _ z => by cases z) (fun _ z => by cases z) s j
    dsimp only
    rw [if_neg c]
    exact z
section
variable {P : Program} {w : World} {K : PySem.W.Frag} {mg : Str → Option Value} {base : Heap}
def spSeen (K : PySem.W.Frag) : Sp := fun vs H Q _ => ∃ (b many : Nat) (S : Addr) (ts : List Addr) (ss : List (Nat × Nat × Bool)), vs = [.int (b : Nat), .int (many : Nat), .ref S] ∧ 2 ≤ b ∧ b ≤ 64 ∧ 1 ≤ many ∧ many ≤ 60 ∧ SqL K H S (ts.map V.ref) ∧ SightsAt H ts ss ∧ ss.length ≤ 100 ∧ (∀ s ∈ ss, s.2.1 < 2 ^ 250) ∧
  ∀ H' u, Same H H' → SeenAt H' u (seenR b many ss) → Q (.ref u) H'
theorem ok_seen {f : Addr} {fd : FuncData} (F : Fun K "levels_seen" "levels_seen" s_levels_seen f fd) (T : Tx K mg) (h1 : Has P w K mg base 3 "check_base" ["base"] [] spCheckBase) (h2 : Has P w K mg base 3 "check_many" ["many"] [] spCheckMany) (h3 : Has P w K mg base 4 "check_seen" ["seen"] [] (spCheckSeen K))
    (h4 : Has P w K mg base 3 "equation" ["base", "many", "sighting"] [] spEquation) (h5 : Has P w K mg base 1 "reduced" ["levels", "odd", "known"] [] spReduced) (h6 : Has P w K mg base 2 "least_and_count" ["many", "known"] [] spLeast) : FnOk P w K mg base CX0 5 f fd ["base", "many", "seen"] (spSeen K) := by
  obtain ⟨f_check_base, fd_check_base, ds_check_base, G_check_base, m_check_base, k_check_base, b_check_base, v_check_base⟩ := h1
  obtain ⟨f_check_many, fd_check_many, ds_check_many, G_check_many, m_check_many, k_check_many, b_check_many, v_check_many⟩ := h2
  obtain ⟨f_check_seen, fd_check_seen, ds_check_seen, G_check_seen, m_check_seen, k_check_seen, b_check_seen, v_check_seen⟩ := h3
  obtain ⟨f_equation, fd_equation, ds_equation, G_equation, m_equation, k_equation, b_equation, v_equation⟩ := h4
  obtain ⟨f_reduced, fd_reduced, ds_reduced, G_reduced, m_reduced, k_reduced, b_reduced, v_reduced⟩ := h5
  obtain ⟨f_least_and_count, fd_least_and_count, ds_least_and_count, G_least_and_count, m_least_and_count, k_least_and_count, b_least_and_count, v_least_and_count⟩ := h6
  refine F.ok sc_levels_seen (fun vs H Q E h => ?_) (fun cdv A outer s H vs Q E hr h => ?_)
  · obtain ⟨b, many, S, ts, ss, rfl, _⟩ := h
    rfl
  · obtain ⟨b, many, S, ts, ss, rfl, hb, hb64, hm1, hm60, hS, hss, h100, hbig, c⟩ := h
    have hu := hu_of hr
    refine ⟨_, (pss_cons (ps_expr (pe_call G_check_base (hr.mono (by decide)) (by rfl) m_check_base k_check_base b_check_base v_check_base pass0 (pa_cons (pv 0) pa_nil)))
      (pss_cons (ps_expr (pe_call G_check_many (hr.mono (by decide)) (by rfl) m_check_many k_check_many b_check_many v_check_many pass0 (pa_cons (pv 1) pa_nil)))
      (pss_cons (ps_expr (pe_call G_check_seen hr (by rfl) m_check_seen k_check_seen b_check_seen v_check_seen pass0 (pa_cons (pv 2) pa_nil)))
      (pss_cons (ps_set (i := 3) sc_levels_seen.nd rfl (.inl rfl) pe_dnewK)
      (pss_cons (ps_for PassesOwn.never rfl (pi_enum (by rfl) T.b_enumerate (pa_cons (pv 2) pa_nil)) (pg_tupK (K := K) (n := 2) rfl rfl (pgs_cons (pg_name (i := 4) sc_levels_seen.nd rfl (.inl rfl)) (pgs_cons (pg_name (i := 5) sc_levels_seen.nd rfl (.inl rfl)) pgs_nil)))
        (pss_cons (ps_asg (pe_call G_equation (hr.mono (by decide)) (by rfl) m_equation k_equation b_equation v_equation pass0 (pa_cons (pv 0) (pa_cons (pv 1) (pa_cons (pv 5) pa_nil)))) (pg_tupK (K := K) (n := 2) rfl rfl (pgs_cons (pg_name (i := 6) sc_levels_seen.nd rfl (.inl rfl)) (pgs_cons (pg_name (i := 7) sc_levels_seen.nd rfl (.inl rfl)) pgs_nil))))
        (pss_cons (ps_asg (pe_call G_reduced (hr.mono (by decide)) (by rfl) m_reduced k_reduced b_reduced v_reduced pass0 (pa_cons (pv 6) (pa_cons (pv 7) (pa_cons (pv 3) pa_nil)))) (pg_tupK (K := K) (n := 2) rfl rfl (pgs_cons (pg_name (i := 6) sc_levels_seen.nd rfl (.inl rfl)) (pgs_cons (pg_name (i := 7) sc_levels_seen.nd rfl (.inl rfl)) pgs_nil))))
        (pss_one (ps_if (pt_cmpR op_gt (pe_callB (lenK (K := K) rfl) (by rfl) T.b_len PySem.boot_len (pa_cons (pv 6) pa_nil)) pe_int (nomark _))
          (pss_one (ps_dput hu (pv 3) (pe_ix (ix_listK (K := K) rfl) (pv 6) (pe_un un_neg pe_int) (fun _ _ => rfl)) (pe_tup (pa_cons (pv 6) (pa_cons (pv 7) pa_nil))) rfl))
          (pss_one (ps_if (pt_val (pv 7))
            (pss_one (ps_ret (pe_tup (pa_cons pe_str (pa_cons (pe_op op_addN (pv 4) pe_int) pa_nil)))))
            pss_nil)))))))
      (pss_cons (ps_asg (pe_call G_least_and_count (hr.mono (by decide)) (by rfl) m_least_and_count k_least_and_count b_least_and_count v_least_and_count pass0 (pa_cons (pv 1) (pa_cons (pv 3) pa_nil))) (pg_tupK (K := K) (n := 2) rfl rfl (pgs_cons (pg_name (i := 8) sc_levels_seen.nd rfl (.inl rfl)) (pgs_cons (pg_name (i := 9) sc_levels_seen.nd rfl (.inl rfl)) pgs_nil))))
      (pss_one (ps_ret (pe_tup (pa_cons pe_str (pa_cons (pv 8) (pa_cons (pv 9) pa_nil)))))))))))), ?_⟩
    have hlen : (ts.map V.ref).length = ss.length := by rw [List.length_map]; exact hss.1
    have good : ∀ v ∈ ts.map V.ref, ∃ n d f, SightAt H v n d f := fun v hv => by
      obtain ⟨t, ht, rfl⟩ := List.mem_map.mp hv
      obtain ⟨j, hj, ej⟩ := List.getElem_of_mem ht
      have hj2 : j < ss.length := by rw [← hss.1]; exact hj
      have z := hss.2 j t ss[j] (by rw [List.getElem?_eq_getElem hj, ej]) (List.getElem?_eq_getElem hj2)
      exact ⟨_, _, _, t, rfl, z.1, z.2⟩
    refine ⟨_, rfl, b, rfl, by omega, by omega, ?_⟩
    refine ⟨_, rfl, many, rfl, hm1, hm60, ?_⟩
    refine ⟨_, rfl, S, _, rfl, hS, by omega, good, fun H0 s0 => ?_⟩
    refine fun D hD => ?_
    have sD := same_upd (o := .dK []) hD
    have eD := upd_same (H := H0) (a := D) (o := .dK [])
    have s01 := s0.trans sD
    have nD : H D = none := s0.free hD
    generalize upd H0 D (.dK []) = H1 at sD eD s01 ⊢
    obtain ⟨es, hes⟩ : ∃ es, es = ss.map (eqnOf b many) := ⟨_, rfl⟩
    have esl : es.length = ss.length := by rw [hes, List.length_map]
    obtain ⟨R, hR⟩ : ∃ R, R = runE es 0 fun _ => none := ⟨_, rfl⟩
    have hR2 : R = runE (ss.map (eqnOf b many)) 0 fun _ => none := by rw [hR, hes]
    refine ⟨_, rfl, S, _, rfl, s01.seq hS, for_enum (K := K) (a := S) (xs := ts.map V.ref) (fun i σ H' => ∃ (kvs : List (Key × V)) (kn : Nat → Option Eqn) (y4 y5 y6 y7 y8 y9 : Option V), σ = [some (.int (b : Nat)), some (.int (many : Nat)), some (.ref S), some (.ref D), y4, y5, y6, y7, y8, y9] ∧ Same H H' ∧ H' D = some (.dK kvs) ∧ KnAt H' kvs kn ∧ KnOk many kn ∧ kvs.length ≤ i ∧
        runE (es.drop i) i kn = R)
      ⟨[], fun _ => none, none, none, none, none, none, none, rfl, s01, eD, fun l => .inl ⟨rfl, rfl⟩, fun l g h => (by cases h), Nat.le_refl _, hR.symm⟩ (fun i σ H' ⟨_, _, _, _, _, _, _, _, _, sm, _⟩ => sm.seq hS) ?_ ?_⟩
    · rintro i x U σ H' hx ⟨kvs, kn, y4, y5, y6, y7, y8, y9, rfl, sm, hDk, hKn, hOk, hkl, hrun⟩ hU
      obtain ⟨t, ht, rfl⟩ : ∃ t, ts[i]? = some t ∧ x = V.ref t := by
        rw [List.getElem?_map] at hx
        cases e : ts[i]? with
        | none => rw [e] at hx; cases hx
        | some t => rw [e] at hx; exact ⟨t, rfl, (Option.some.inj hx).symm⟩
      have hit := (List.getElem?_eq_some_iff.mp ht).1
      have his : i < ss.length := by rw [← hss.1]; exact hit
      obtain ⟨s, hs⟩ : ∃ s, ss[i]? = some s := ⟨_, List.getElem?_eq_getElem his⟩
      obtain ⟨n, d, fr⟩ := s
      have ⟨hst, hnd⟩ := hss.2 i t _ ht hs
      have hd := hbig _ (List.mem_of_getElem? hs)
      have sU := same_upd (o := .tup [.int (i : Nat), .ref t]) hU
      have eU := upd_same (H := H') (a := U) (o := .tup [.int (i : Nat), .ref t])
      have sm := sm.trans sU
      have hDk := sU _ _ hDk
      have hKn := hKn.same sU
      generalize upd H' U (.tup [.int (i : Nat), .ref t]) = H2 at sU eU sm hDk hKn ⊢
      refine ⟨U, _, rfl, .inl (.inl eU), rfl, _, _, rfl, _, _, rfl, rfl, ?_⟩
      refine ⟨_, rfl, _, rfl, _, rfl, b, many, n, d, t, fr, rfl, sm _ _ hst, hb, hb64, hm1, hm60, hnd, hd, fun k hk H3 u q s3 hu0 hq0 he => ?_⟩
      refine ⟨u, _, rfl, .inl (.inl he.1), rfl, _, _, rfl, _, _, rfl, rfl, ?_⟩
      obtain ⟨e, hee⟩ : ∃ e, e = eqnOf b many (n, d, fr) := ⟨_, rfl⟩
      have he' : EqAt H3 u q e := by
        rw [hee, eqnOf_eq (s := (n, d, fr)) hk]
        exact he
      have ⟨ea, el⟩ := eqnOf_asc (b := b) (s := (n, d, fr)) hm1
      rw [← hee] at ea el
      have hdrop : es.drop i = e :: es.drop (i + 1) := by
        have hei : es[i]? = some e := by rw [hes, List.getElem?_map, hs, hee]; rfl
        rw [List.drop_eq_getElem_cons (List.getElem?_eq_some_iff.mp hei).1, (List.getElem?_eq_some_iff.mp hei).2]
      rw [hdrop] at hrun
      have hefr : e.2 = fr := by
        rw [hee, eqnOf_eq (s := (n, d, fr)) hk]
      refine ⟨_, rfl, _, rfl, _, rfl, q, D, e, many, kvs, kn, by rw [hefr]; rfl, he'.2, s3 _ _ hDk, hKn.same s3, hOk, hm60, ea, el, fun H4 u2 q2 s4 hu2 he2 => ?_⟩
      have ⟨ra, rl, rk⟩ := red_ok hm60 hOk 64 e ea el (fun x hx => by have := el x hx; omega)
      obtain ⟨r, hr'⟩ : ∃ r, r = red kn 64 e := ⟨_, rfl⟩
      unfold runE at hrun
      rw [← hr'] at he2 ra rl rk hrun
      refine ⟨u2, _, rfl, .inl (.inl he2.1), rfl, _, _, rfl, _, _, rfl, rfl, ?_⟩
      have sm4 := (sm.trans s3).trans s4
      have hDk4 := s4 _ _ (s3 _ _ hDk)
      have hKn4 := (hKn.same s3).same s4
      refine ⟨_, rfl, q2, _, rfl, .inl (SqL.of he2.2), _, _, rfl, rfl, ?_⟩
      cases hlast : r.1.getLast? with
      | some l =>
        rw [hlast] at hrun
        have hla := ra.last hlast
        have hpos : 0 < r.1.length := List.length_pos_of_mem hla.1
        refine ⟨true, dT (by rw [List.length_map]; omega), iteT ?_⟩
        refine ⟨_, rfl, _, rfl, by simp [sizeLine_eq], fun u3 hu3 => ?_⟩
        have s5 := same_upd (o := .tup [.ref q2, .bl r.2]) hu3
        have e5 := upd_same (H := H4) (a := u3) (o := .tup [.ref q2, .bl r.2])
        have sm5 := sm4.trans s5
        have hDk5 := s5 _ _ hDk4
        have hKn5 := hKn4.same s5
        have he5 : EqAt (upd H4 u3 (.tup [.ref q2, .bl r.2])) u3 q2 r := ⟨e5, s5 _ _ he2.2⟩
        generalize upd H4 u3 (.tup [.ref q2, .bl r.2]) = H5 at s5 e5 sm5 hDk5 hKn5 he5 ⊢
        have keep : ∀ c o, c ≠ D → H5 c = some o → (upd H5 D (.dK (putK kvs (.inl ((l : Nat) : Int)) (.ref u3)))) c = some o := fun c o n e => by
          rw [upd_ne n]
          exact e
        refine ⟨_, rfl, _, rfl, 1, rfl, q2, _, -1, _, rfl, rfl, SqL.of he5.2, last_map hlast, D, _, rfl, DPut.k (k := Sum.inl ((l : Nat) : Int)) hDk5 (Nat.lt_of_le_of_lt hkl (Nat.lt_of_lt_of_le his (by rw [sizeLine_eq]; omega))), ?_⟩
        refine ⟨_, fun j => if j = l then some r else kn j, _, _, _, _, y8, y9, rfl, fun c o e => ?_, upd_same, hKn5.put hDk5 keep ⟨keep _ _ (ne_of he5.1 hDk5 (fun z => by cases z)) he5.1, keep _ _ (ne_of he5.2 hDk5 (fun z => by cases z)) he5.2⟩, fun j g hg => ?_, ?_, hrun⟩
        · rw [upd_ne (ne_of_none e nD)]
          exact sm5 _ _ e
        · by_cases c : j = l
          · dsimp only at hg
            rw [if_pos c] at hg
            cases hg
            rw [c]
            exact ⟨ra, hlast, rl l hla.1⟩
          · dsimp only at hg
            rw [if_neg c] at hg
            exact hOk j g hg
        · have := put_len kvs (.inl ((l : Nat) : Int)) (.ref u3)
          omega
      | none =>
        rw [hlast] at hrun
        have e0 : r.1 = [] := List.getLast?_eq_none_iff.mp hlast
        refine ⟨false, dF (by rw [e0]; decide), iteF ?_⟩
        cases h2 : r.2 with
        | true =>
          rw [h2, if_pos rfl] at hrun
          refine ⟨_, rfl, true, rfl, iteT ⟨_, rfl, i, 1, rfl, rfl, trivial, by simp [sizeLine_eq], fun u3 hu3 => ?_⟩⟩
          refine c _ u3 (sm4.trans (same_upd hu3)) ?_
          rw [seenR_inl (hR2.symm.trans hrun.symm)]
          exact upd_same
        | false =>
          rw [h2, if_neg Bool.false_ne_true] at hrun
          refine ⟨_, rfl, false, rfl, iteF ?_⟩
          exact ⟨kvs, kn, _, _, _, _, y8, y9, rfl, sm4, hDk4, hKn4, hOk, Nat.le_succ_of_le hkl, hrun⟩
    · rintro σ H' ⟨kvs, kn, y4, y5, y6, y7, y8, y9, rfl, sm, hDk, hKn, hOk, hkl, hrun⟩
      rw [hlen, ← esl, List.drop_length] at hrun
      refine ⟨_, rfl, _, rfl, D, many, kvs, kn, rfl, hDk, hKn, hOk, hm60, fun H2 u q s2 eu hq0 eq => ?_⟩
      refine ⟨u, _, rfl, .inl (.inl eu), rfl, _, _, rfl, _, _, rfl, rfl, ?_⟩
      refine ⟨_, rfl, _, rfl, by simp [sizeLine_eq], fun u3 hu3 => ?_⟩
      have s3 := same_upd (o := .tup [.str "levels", .ref q, .int ((leastW kn many).2 : Nat)]) hu3
      refine c _ u3 ((sm.trans s2).trans s3) ?_
      rw [seenR_inr (hR2.symm.trans hrun.symm)]
      exact ⟨q, upd_same, s3 _ _ eq⟩
end
theorem nat_list {ns : List Int} (h : ∀ y ∈ ns, ∃ x : Nat, y = ((x : Nat) : Int)) : ∃ ds : List Nat, ns = ds.map fun x => ((x : Nat) : Int) := by
  refine ⟨ns.map Int.toNat, ?_⟩
  rw [List.map_map]
  have e := List.map_congr_left (f := id) (g := (fun x : Nat => ((x : Nat) : Int)) ∘ Int.toNat) (l := ns) fun y hy => by
    obtain ⟨x, rfl⟩ := h y hy
    rfl
  rw [List.map_id] at e
  exact e
/-! ### the wheel as plain data -/
structure Tm where
  num : Nat
  due : Nat
  per : Option Nat
  since : Nat
def perV : Option Nat → V
  | none => .non
  | some k => .int (k : Nat)
def tmV (m : Tm) : List V := [.int (m.due : Nat), perV m.per, .int (m.since : Nat)]
open Classical in
noncomputable def sideT (b : Nat) (ws : List Bool) (n d lo : Nat) : Bool := if h : ∃ k, IsLev b n d k then frontOf ws lo (rowsOf b n d (Classical.choose h)) else false
theorem sideT_eq {b : Nat} {ws : List Bool} {n d lo k : Nat} (h : IsLev b n d k) : sideT b ws n d lo = frontOf ws lo (rowsOf b n d k) := by
  have e : ∃ k, IsLev b n d k := ⟨k, h⟩
  unfold sideT
  rw [dif_pos e, (Classical.choose_spec e).uniq h]
def insT (front : Bool) (n : Nat) (l : List Nat) : List Nat := if front then n :: l else l ++ [n]
noncomputable def orderAt (b : Nat) (ws : List Bool) (t : Nat) (ms : List Tm) : List Nat := ms.foldl (fun acc m => if m.due = t then insT (sideT b ws m.since m.due 0) m.num acc else acc) []
theorem order_snoc (b : Nat) (ws : List Bool) (t : Nat) (ms : List Tm) (m : Tm) : orderAt b ws t (ms ++ [m]) = if m.due = t then insT (sideT b ws m.since m.due 0) m.num (orderAt b ws t ms) else orderAt b ws t ms := by
  unfold orderAt
  rw [List.foldl_append]
  rfl
theorem insT_len (f : Bool) (n : Nat) (l : List Nat) : (insT f n l).length = l.length + 1 := by
  unfold insT
  split
  · rfl
  · rw [List.length_append]
    rfl
theorem insT_mem {f : Bool} {n x : Nat} {l : List Nat} : x ∈ insT f n l ↔ x = n ∨ x ∈ l := by
  unfold insT
  split
  · rw [List.mem_cons]
  · rw [List.mem_append, List.mem_singleton]
    exact Or.comm
theorem order_spec (b : Nat) (ws : List Bool) (t : Nat) (ms : List Tm) : ∀ n : Nat, (orderAt b ws t (ms.take n)).length = ((ms.take n).filter fun m => decide (m.due = t)).length ∧ ∀ x, x ∈ orderAt b ws t (ms.take n) ↔ ∃ m ∈ ms.take n, m.due = t ∧ m.num = x := by
  intro n
  induction n with
  | zero =>
    refine ⟨rfl, fun x => ?_⟩
    simp [orderAt]
  | succ n ih =>
    cases e : ms[n]? with
    | none =>
      have hl : ms.length ≤ n := List.getElem?_eq_none_iff.mp e
      rw [List.take_of_length_le (by omega)]
      rw [List.take_of_length_le hl] at ih
      exact ih
    | some m =>
      rw [List.take_add_one, e]
      show (orderAt b ws t (ms.take n ++ [m])).length = _ ∧ ∀ x, x ∈ orderAt b ws t (ms.take n ++ [m]) ↔ ∃ m' ∈ ms.take n ++ [m], _
      rw [order_snoc]
      rw [Option.toList_some, List.filter_append, List.length_append]
      by_cases h : m.due = t
      · rw [if_pos h, insT_len, ih.1]
        refine ⟨by simp [h], fun x => ?_⟩
        rw [insT_mem, ih.2 x]
        constructor
        · rintro (e | ⟨m', h1, h2⟩)
          · exact ⟨m, by simp, h, e.symm⟩
          · exact ⟨m', List.mem_append_left _ h1, h2⟩
        · rintro ⟨m', h1, h2, h3⟩
          rcases List.mem_append.mp h1 with h1 | h1
          · exact .inr ⟨m', h1, h2, h3⟩
          · rw [List.mem_singleton.mp h1] at h3
            exact .inl h3.symm
      · rw [if_neg h, ih.1]
        refine ⟨by simp [h], fun x => ?_⟩
        rw [ih.2 x]
        constructor
        · rintro ⟨m', h1, h2⟩
          exact ⟨m', List.mem_append_left _ h1, h2⟩
        · rintro ⟨m', h1, h2, h3⟩
          rcases List.mem_append.mp h1 with h1 | h1
          · exact ⟨m', h1, h2, h3⟩
          · rw [List.mem_singleton.mp h1] at h2
            exact absurd h2 h
theorem order_len (b : Nat) (ws : List Bool) (t : Nat) (ms : List Tm) : (orderAt b ws t ms).length = (ms.filter fun m => decide (m.due = t)).length := by
  have z := (order_spec b ws t ms ms.length).1
  rw [List.take_length] at z
  exact z
theorem order_mem {b : Nat} {ws : List Bool} {t : Nat} {ms : List Tm} {x : Nat} : x ∈ orderAt b ws t ms ↔ ∃ m ∈ ms, m.due = t ∧ m.num = x := by
  have z := (order_spec b ws t ms ms.length).2 x
  rw [List.take_length] at z
  exact z
def dropT (n : Nat) (ms : List Tm) : List Tm := ms.filter fun m => decide (m.num ≠ n)
/-- a timer fires: it goes, and comes back at the end if it has a period -/
def fireT (t : Nat) (ms : List Tm) (n : Nat) : List Tm := match ms.find? fun m => decide (m.num = n) with
  | none => ms
  | some m => match m.per with
    | none => dropT n ms
    | some k => dropT n ms ++ [⟨n, t + k, some k, t⟩]
def afterF (t : Nat) (ms : List Tm) (ns : List Nat) : List Tm := ns.foldl (fireT t) ms
def leastD (ms : List Tm) : Option Nat := (ms.map (·.due)).min?
theorem least_none {ms : List Tm} : leastD ms = none ↔ ms = [] := by
  unfold leastD
  rw [List.min?_eq_none_iff, List.map_eq_nil_iff]
theorem least_some {ms : List Tm} {v : Nat} : leastD ms = some v ↔ v ∈ ms.map (·.due) ∧ ∀ x ∈ ms.map (·.due), v ≤ x := by
  unfold leastD
  exact List.min?_eq_some_iff
structure WS where
  b : Nat
  ws : List Bool
  tick : Nat
  fol : Nat
  live : List Tm
/-- live timers as they may stand at a tick -/
structure TOk (tick fol : Nat) (m : Tm) : Prop where
  since : m.since ≤ tick
  due : tick < m.due
  big : m.due < 2 ^ 250
  num : m.num < fol
  per : ∀ k, m.per = some k → 1 ≤ k
structure WOk (W : WS) : Prop where
  b2 : 2 ≤ W.b
  b64 : W.b ≤ 64
  ne : W.ws ≠ []
  l60 : W.ws.length ≤ 60
  tms : ∀ m ∈ W.live, TOk W.tick W.fol m
  nd : (W.live.map (·.num)).Nodup
  few : W.live.length ≤ 1000
/-- what an advance to t lets fire, step by step -/
inductive AdvTo (b : Nat) (ws : List Bool) (t : Nat) : List Tm → List (Nat × List Nat) → List Tm → Prop where
  | done {ms : List Tm} (h : ∀ m ∈ ms, t < m.due) : AdvTo b ws t ms [] ms
  | step {ms ms' : List Tm} {at_ : Nat} {rest : List (Nat × List Nat)} (h : leastD ms = some at_) (hle : at_ ≤ t) (ok : ∀ m ∈ ms, m.since < m.due ∧ m.due < 2 ^ 250) (nd : (ms.map (·.num)).Nodup) (few : ms.length ≤ 1000)
    (r : AdvTo b ws t (afterF at_ ms (orderAt b ws at_ ms)) rest ms') : AdvTo b ws t ms ((at_, orderAt b ws at_ ms) :: rest) ms'
open Classical in
/-- the tick at which a timer leaves the list in which it stands at n -/
noncomputable def evT (b n d : Nat) : Nat := if h : ∃ k, IsLev b n d k then d / b ^ Classical.choose h * b ^ Classical.choose h else 0
theorem evT_eq {b n d k : Nat} (h : IsLev b n d k) : evT b n d = d / b ^ k * b ^ k := by
  have e : ∃ k, IsLev b n d k := ⟨k, h⟩
  unfold evT
  rw [dif_pos e, (Classical.choose_spec e).uniq h]
noncomputable def nextE (b n : Nat) (ms : List Tm) : Option Nat := (ms.map fun m => evT b n m.due).min?
def total (fs : List (Nat × List Nat)) : Nat := (fs.map fun f => f.2.length).sum
theorem order_pos {b : Nat} {ws : List Bool} {t : Nat} {ms : List Tm} (h : leastD ms = some t) : 0 < (orderAt b ws t ms).length := by
  obtain ⟨m, hm, e⟩ := List.mem_map.mp (least_some.mp h).1
  have z : m.num ∈ orderAt b ws t ms := order_mem.mpr ⟨m, hm, e, rfl⟩
  exact List.length_pos_of_mem z
theorem insT_nodup {f : Bool} {n : Nat} {l : List Nat} (h : l.Nodup) (hn : n ∉ l) : (insT f n l).Nodup := by
  unfold insT
  split
  · exact List.nodup_cons.mpr ⟨hn, h⟩
  · exact L2.nd_snoc h hn
theorem order_nodup {b : Nat} {ws : List Bool} {t : Nat} {ms : List Tm} (nd : (ms.map (·.num)).Nodup) : (orderAt b ws t ms).Nodup := by
  suffices H : ∀ n : Nat, (orderAt b ws t (ms.take n)).Nodup by
    have z := H ms.length
    rw [List.take_length] at z
    exact z
  intro n
  induction n with
  | zero => exact List.nodup_nil
  | succ n ih =>
    cases e : ms[n]? with
    | none =>
      have hl : ms.length ≤ n := List.getElem?_eq_none_iff.mp e
      rw [List.take_of_length_le (by omega)]
      rw [List.take_of_length_le hl] at ih
      exact ih
    | some m =>
      rw [List.take_add_one, e]
      show (orderAt b ws t (ms.take n ++ [m])).Nodup
      rw [order_snoc]
      split
      · refine insT_nodup ih fun hm => ?_
        obtain ⟨m', h1, _, h3⟩ := order_mem.mp hm
        obtain ⟨i, hi⟩ := List.getElem?_of_mem h1
        rw [List.getElem?_take] at hi
        split at hi
        · rename_i hlt
          have a1 : (ms.map (·.num))[i]? = some m.num := by rw [List.getElem?_map, hi, ← h3]; rfl
          have a2 : (ms.map (·.num))[n]? = some m.num := by rw [List.getElem?_map, e]; rfl
          have z := (List.getElem?_inj (List.getElem?_eq_some_iff.mp a1).1 nd).mp (a1.trans a2.symm)
          omega
        · cases hi
      · exact ih
/-! ### set ticks in a given order: the mathematics -/
/-- ticks of stations, and the side from each on -/
def tsOf (ws : List Bool) : List Row3 → List (Nat × Bool)
  | [] => []
  | r :: rs => (r.2.2, frontOf ws 0 (r :: rs)) :: tsOf ws rs
theorem ts_len (ws : List Bool) : ∀ rs, (tsOf ws rs).length = rs.length
  | [] => rfl
  | _ :: rs => congrArg Nat.succ (ts_len ws rs)
/-- the ticks at which a side may turn, and what it is from each on -/
structure Turns (n d : Nat) (sd : Nat → Bool) (R : List (Nat × Bool)) : Prop where
  asc : (R.map (·.1)).Pairwise (· < ·)
  lt : ∀ r ∈ R, n ≤ r.1 ∧ r.1 < d
  own : ∀ r ∈ R, sd r.1 = r.2
  at_ : ∀ t, n ≤ t → t < d → ∃ (i : Nat) (r : Nat × Bool), R[i]? = some r ∧ r.1 ≤ t ∧ sd t = r.2 ∧ ∀ (j : Nat) (r' : Nat × Bool), R[j]? = some r' → r'.1 ≤ t → j ≤ i
theorem Turns.cons {n c d : Nat} {sd : Nat → Bool} {R : List (Nat × Bool)} {f : Bool} (T : Turns c d sd R) (h1 : n < c) (h2 : c ≤ d) (h : ∀ t, n ≤ t → t < c → sd t = f) : Turns n d sd ((n, f) :: R) := by
  refine ⟨?_, fun r hr => ?_, fun r hr => ?_, fun t h3 h4 => ?_⟩
  · refine List.pairwise_cons.mpr ⟨fun x hx => ?_, T.asc⟩
    obtain ⟨r, hr, rfl⟩ := List.mem_map.mp hx
    exact Nat.lt_of_lt_of_le h1 (T.lt r hr).1
  · rcases List.mem_cons.mp hr with e | hr
    · rw [e]
      exact ⟨Nat.le_refl _, by show n < d; omega⟩
    · have := T.lt r hr
      exact ⟨by omega, this.2⟩
  · rcases List.mem_cons.mp hr with e | hr
    · rw [e]
      exact h n (Nat.le_refl _) h1
    · exact T.own r hr
  · by_cases c1 : t < c
    · refine ⟨0, (n, f), rfl, h3, h t h3 c1, fun j r' hj hle => ?_⟩
      cases j with
      | zero => exact Nat.le_refl _
      | succ j =>
        have := (T.lt r' (List.mem_of_getElem? (show R[j]? = some r' from hj))).1
        omega
    · obtain ⟨i, r, a1, a2, a3, a4⟩ := T.at_ t (by omega) h4
      refine ⟨i + 1, r, a1, a2, a3, fun j r' hj hle => ?_⟩
      cases j with
      | zero => exact Nat.zero_le _
      | succ j => exact Nat.succ_le_succ (a4 j r' hj hle)
theorem front_tick (ws : List Bool) (k g t t' : Nat) (rs : List Row3) : frontOf ws 0 ((k, g, t) :: rs) = frontOf ws 0 ((k, g, t') :: rs) := by
  unfold frontOf
  rw [List.countP_cons, List.countP_cons]
theorem cut_level {b d t j : Nat} (hb : 2 ≤ b) (h1 : d / b ^ (j + 1) * b ^ (j + 1) ≤ t) (h2 : t < d / b ^ j * b ^ j) : IsLev b t d j := by
  have hp : ∀ i, 0 < b ^ i := fun i => pow_pos' hb i
  have htd : t ≤ d := Nat.le_of_lt (Nat.lt_of_lt_of_le h2 (Nat.div_mul_le_self _ _))
  refine ⟨Nat.le_antisymm (Nat.div_le_div_right htd) ((Nat.le_div_iff_mul_le (hp _)).mpr h1), fun i hi e => ?_⟩
  have h3 : t / b ^ j < d / b ^ j := (Nat.div_lt_iff_lt_mul (hp j)).mpr h2
  have e2 : b ^ j = b ^ (i + 1) * b ^ (j - (i + 1)) := by
    rw [← Nat.pow_add]
    congr 1
    omega
  rw [e2, ← Nat.div_div_eq_div_mul, ← Nat.div_div_eq_div_mul, e] at h3
  omega
theorem turns_tail {b d : Nat} (hb : 2 ≤ b) (ws : List Bool) : ∀ k, Turns (d / b ^ k * b ^ k) d (fun t => sideT b ws t d 0) (tsOf ws (tailOf b d k))
  | 0 => by
    refine ⟨List.Pairwise.nil, (fun r hr => by cases hr), (fun r hr => by cases hr), fun t h1 h2 => ?_⟩
    rw [Nat.pow_zero, Nat.div_one, Nat.mul_one] at h1
    omega
  | k + 1 => by
    have ih := turns_tail (d := d) hb ws k
    have e0 : d / b ^ k = d / b ^ (k + 1) * b + d / b ^ k % b := by
      rw [div_succ]
      have := Nat.div_add_mod (d / b ^ k) b
      rw [Nat.mul_comm] at this
      exact this.symm
    have e1 : d / b ^ k * b ^ k = d / b ^ (k + 1) * b ^ (k + 1) + d / b ^ k % b * b ^ k := by
      have z : d / b ^ (k + 1) * b ^ (k + 1) = d / b ^ (k + 1) * b * b ^ k := by
        rw [Nat.pow_succ, Nat.mul_assoc, Nat.mul_comm b]
      rw [z, ← Nat.add_mul, ← e0]
    unfold tailOf
    by_cases c : d / b ^ k % b ≠ 0
    · rw [if_pos c]
      refine ih.cons ?_ (Nat.div_mul_le_self _ _) fun t h1 h2 => ?_
      · have : 0 < d / b ^ k % b * b ^ k := Nat.mul_pos (Nat.pos_of_ne_zero c) (pow_pos' hb k)
        omega
      · show sideT b ws t d 0 = _
        rw [sideT_eq (cut_level hb h1 h2)]
        exact front_tick ..
    · rw [if_neg c]
      have e2 : d / b ^ (k + 1) * b ^ (k + 1) = d / b ^ k * b ^ k := by
        rw [show d / b ^ k % b = 0 by omega, Nat.zero_mul, Nat.add_zero] at e1
        exact e1.symm
      rw [e2]
      exact ih
theorem turns_rows {b n d k : Nat} (hb : 2 ≤ b) (ws : List Bool) (hk : IsLev b n d k) (hnd : n < d) : Turns n d (fun t => sideT b ws t d 0) (tsOf ws (rowsOf b n d k)) := by
  have h1 : n < d / b ^ k * b ^ k := (Nat.div_lt_iff_lt_mul (pow_pos' hb k)).mp (hk.ne hnd)
  refine (turns_tail hb ws k).cons h1 (Nat.div_mul_le_self _ _) fun t h2 h3 => ?_
  show sideT b ws t d 0 = _
  rw [sideT_eq (hk.later hb hnd h2 h3)]
  exact front_tick ..
/-- ticks told, one by one: the least one from there on with the side that is wanted; or that one has none -/
inductive Pl (R : List (Nat × Bool)) : Nat → List (Option Bool) → List Nat → Bool → Prop
  | nil {a : Nat} : Pl R a [] [] true
  | cons {a i x : Nat} {f : Bool} {w : Option Bool} {ws : List (Option Bool)} {xs : List Nat} {ok : Bool} (h : R[i]? = some (x, f)) (ha : a ≤ i) (hw : some f = w) (hno : ∀ j r, a ≤ j → j < i → R[j]? = some r → some r.2 ≠ w) (t : Pl R i ws xs ok) : Pl R a (w :: ws) (x :: xs) ok
  | stop {a : Nat} {w : Option Bool} {ws : List (Option Bool)} (h : ∀ j r, a ≤ j → R[j]? = some r → some r.2 ≠ w) : Pl R a (w :: ws) [] false
theorem Pl.len {R : List (Nat × Bool)} {a : Nat} {ws : List (Option Bool)} {xs : List Nat} (h : Pl R a ws xs true) : xs.length = ws.length := by
  generalize e : true = ok at h
  induction h with
  | nil => rfl
  | cons h ha hw hno t ih => exact congrArg Nat.succ (ih e)
  | stop h => cases e
theorem Pl.le {R : List (Nat × Bool)} {a : Nat} {ws : List (Option Bool)} {xs : List Nat} {ok : Bool} (h : Pl R a ws xs ok) : xs.length ≤ ws.length := by
  induction h with
  | nil => exact Nat.le_refl _
  | cons h ha hw hno t ih => exact Nat.succ_le_succ ih
  | stop h => exact Nat.zero_le _
theorem asc_le {R : List (Nat × Bool)} (ha : (R.map (·.1)).Pairwise (· < ·)) {i j : Nat} {x y : Nat × Bool} (hi : R[i]? = some x) (hj : R[j]? = some y) (h : i ≤ j) : x.1 ≤ y.1 := by
  by_cases c : i = j
  · subst c
    rw [hi] at hj
    cases hj
    exact Nat.le_refl _
  · have il := (List.getElem?_eq_some_iff.mp hi).1
    have jl := (List.getElem?_eq_some_iff.mp hj).1
    have z := List.pairwise_iff_getElem.mp ha i j (by rw [List.length_map]; exact il) (by rw [List.length_map]; exact jl) (by omega)
    rw [List.getElem_map, List.getElem_map, (List.getElem?_eq_some_iff.mp hi).2, (List.getElem?_eq_some_iff.mp hj).2] at z
    exact Nat.le_of_lt z
theorem Pl.rise {R : List (Nat × Bool)} (hR : (R.map (·.1)).Pairwise (· < ·)) {a : Nat} {ws : List (Option Bool)} {xs : List Nat} {ok : Bool} (h : Pl R a ws xs ok) : ∀ {x0 : Nat × Bool}, R[a]? = some x0 → (x0.1 :: xs).Pairwise (· ≤ ·) ∧ ∀ x ∈ xs, ∃ r ∈ R, r.1 = x := by
  induction h with
  | nil => exact fun _ => ⟨List.pairwise_singleton .., fun x hx => by cases hx⟩
  | @cons a i x f w ws xs ok h ha hw hno t ih =>
    intro x0 h0
    obtain ⟨z1, z2⟩ := ih h
    have z3 := asc_le hR h0 h ha
    refine ⟨List.pairwise_cons.mpr ⟨fun y hy => ?_, z1⟩, fun y hy => ?_⟩
    · rcases List.mem_cons.mp hy with e | hy
      · rw [e]
        exact z3
      · exact Nat.le_trans z3 ((List.pairwise_cons.mp z1).1 y hy)
    · rcases List.mem_cons.mp hy with e | hy
      · exact ⟨_, List.mem_of_getElem? h, e.symm⟩
      · exact z2 y hy
  | stop h => exact fun _ => ⟨List.pairwise_singleton .., fun x hx => by cases hx⟩
/-- each tick has the side that is wanted -/
theorem Pl.sides {n d : Nat} {sd : Nat → Bool} {R : List (Nat × Bool)} (T : Turns n d sd R) {a : Nat} {ws : List (Option Bool)} {xs : List Nat} {ok : Bool} (h : Pl R a ws xs ok) : ∀ (i x : Nat), xs[i]? = some x → ws[i]? = some (some (sd x)) := by
  induction h with
  | nil => exact fun i x hi => by simp at hi
  | @cons a i x f w ws xs ok h ha hw hno t ih =>
    intro j y hj
    cases j with
    | zero =>
      have e : x = y := Option.some.inj hj
      have o := T.own _ (List.mem_of_getElem? h)
      have o' : sd x = f := o
      rw [← e, o']
      exact congrArg some hw.symm
    | succ j => exact ih j y hj
  | stop h => exact fun i x hi => by simp at hi
/-- where one has none: those before it are told, and from the last tick on no side is the wanted one -/
theorem Pl.split {n d : Nat} {sd : Nat → Bool} {R : List (Nat × Bool)} (T : Turns n d sd R) {a : Nat} {ws : List (Option Bool)} {xs : List Nat} {ok : Bool} (h : Pl R a ws xs ok) (he : ok = false) : ∀ {x0 : Nat × Bool}, R[a]? = some x0 →
    ∃ w, ws[xs.length]? = some w ∧ Pl R a (ws.take xs.length) xs true ∧ ∃ y, (x0.1 :: xs)[xs.length]? = some y ∧ ∀ t, y ≤ t → t < d → some (sd t) ≠ w := by
  induction h with
  | nil => cases he
  | @cons a i x f w ws xs ok h ha hw hno t ih =>
    intro x0 h0
    obtain ⟨w1, a1, a2, y, a3, a4⟩ := ih he h
    exact ⟨w1, a1, .cons h ha hw hno a2, y, a3, a4⟩
  | @stop a w ws h =>
    intro x0 h0
    refine ⟨w, rfl, .nil, x0.1, rfl, fun t h1 h2 => ?_⟩
    have hn := (T.lt x0 (List.mem_of_getElem? h0)).1
    obtain ⟨i, r, b1, b2, b3, b4⟩ := T.at_ t (by omega) h2
    rw [b3]
    exact h i r (b4 a x0 h0 h1) b1
theorem snoc_ind {α : Type} {M : List α → Prop} (h0 : M []) (hs : ∀ (l : List α) (x : α), M l → M (l ++ [x])) (l : List α) : M l := by
  have h : ∀ l : List α, M l.reverse := fun l => by
    induction l with
    | nil => exact h0
    | cons a l ih =>
      rw [List.reverse_cons]
      exact hs _ _ ih
  have z := h l.reverse
  rwa [List.reverse_reverse] at z
/-- the order in which timers fire that are set one behind the other, by their sides -/
def ordOf (fs : List Bool) : List Nat := fs.zipIdx.foldl (fun acc z => insT z.1 z.2 acc) []
theorem ord_snoc (fs : List Bool) (f : Bool) : ordOf (fs ++ [f]) = insT f fs.length (ordOf fs) := by
  unfold ordOf
  rw [List.zipIdx_append, List.foldl_append]
  simp
open Classical in
/-- the side that an order asks for -/
noncomputable def wantAt (o : List Nat) (i : Nat) : Option Bool := if ∀ j, j < i → o.idxOf i < o.idxOf j then some true else if ∀ j, j < i → o.idxOf j < o.idxOf i then some false else none
noncomputable def wantOf (o : List Nat) : List (Option Bool) := (List.range (o.length - 1)).map fun i => wantAt o (i + 1)
def uptoN (o : List Nat) (i : Nat) : List Nat := o.filter fun x => decide (x < i)
theorem upto_split {pre post : List Nat} {i : Nat} (h1 : i ∉ pre) (h2 : i ∉ post) : uptoN (pre ++ i :: post) (i + 1) = uptoN pre i ++ i :: uptoN post i ∧ uptoN (pre ++ i :: post) i = uptoN pre i ++ uptoN post i := by
  unfold uptoN
  have e : ∀ l : List Nat, i ∉ l → l.filter (fun x => decide (x < i + 1)) = l.filter fun x => decide (x < i) := fun l hl => by
    refine List.filter_congr fun x hx => ?_
    have : x ≠ i := fun z => hl (z ▸ hx)
    by_cases c : x < i
    · rw [decide_eq_true c, decide_eq_true (by omega)]
    · rw [decide_eq_false c, decide_eq_false (by omega)]
  constructor
  · rw [List.filter_append, List.filter_cons_of_pos (by simp), e pre h1, e post h2]
  · rw [List.filter_append, List.filter_cons_of_neg (by simp)]
theorem idx_split {pre post : List Nat} {i : Nat} (h1 : i ∉ pre) : (pre ++ i :: post).idxOf i = pre.length := by
  rw [List.idxOf_append, if_neg h1, List.idxOf_cons_self, Nat.zero_add]
theorem idx_pre {pre post : List Nat} {j : Nat} (h : j ∈ pre) : (pre ++ post).idxOf j < pre.length := by
  rw [List.idxOf_append, if_pos h]
  exact List.idxOf_lt_length_of_mem h
theorem idx_post {pre post : List Nat} {i j : Nat} (h : j ∉ pre) (hi : i ≠ j) : pre.length < (pre ++ i :: post).idxOf j := by
  rw [List.idxOf_append, if_neg h, List.idxOf_cons]
  have : (i == j) = false := by simpa using hi
  rw [this, cond_false]
  omega
theorem want_iff {o : List Nat} (nd : o.Nodup) {i : Nat} (hm : ∀ j, j ≤ i → j ∈ o) (hi : 0 < i) (f : Bool) : wantAt o i = some f ↔ uptoN o (i + 1) = insT f i (uptoN o i) := by
  obtain ⟨pre, post, e⟩ := List.append_of_mem (hm i (Nat.le_refl _))
  have nd' := nd
  rw [e] at nd'
  obtain ⟨n1, n2, n3⟩ := List.nodup_append.mp nd'
  have h1 : i ∉ pre := fun z => n3 i z i (List.mem_cons_self ..) rfl
  have h2 : i ∉ post := (List.nodup_cons.mp n2).1
  obtain ⟨u1, u2⟩ := upto_split h1 h2
  have hw : ∀ j, j < i → j ∈ pre ∨ j ∈ post := fun j hj => by
    have z := hm j (Nat.le_of_lt hj)
    rw [e] at z
    rcases List.mem_append.mp z with z | z
    · exact .inl z
    · rcases List.mem_cons.mp z with z | z
      · omega
      · exact .inr z
  have hpp : ∀ j, j ∈ post → j ∉ pre := fun j hj z => n3 j z j (List.mem_cons_of_mem _ hj) rfl
  have A : (∀ j, j < i → o.idxOf i < o.idxOf j) ↔ uptoN pre i = [] := by
    rw [e]
    constructor
    · intro h
      unfold uptoN
      rw [List.filter_eq_nil_iff]
      intro x hx hlt
      have y := h x (of_decide_eq_true hlt)
      rw [idx_split h1] at y
      have := idx_pre (post := i :: post) hx
      omega
    · intro h j hj
      rw [idx_split h1]
      rcases hw j hj with z | z
      · have : j ∈ uptoN pre i := List.mem_filter.mpr ⟨z, decide_eq_true hj⟩
        rw [h] at this
        cases this
      · exact idx_post (hpp j z) (by omega)
  have B : (∀ j, j < i → o.idxOf j < o.idxOf i) ↔ uptoN post i = [] := by
    rw [e]
    constructor
    · intro h
      unfold uptoN
      rw [List.filter_eq_nil_iff]
      intro x hx hlt
      have hlt' := of_decide_eq_true hlt
      have y := h x hlt'
      rw [idx_split h1] at y
      have := idx_post (post := post) (hpp x hx) (show i ≠ x by omega)
      omega
    · intro h j hj
      rw [idx_split h1]
      rcases hw j hj with z | z
      · exact idx_pre z
      · have : j ∈ uptoN post i := List.mem_filter.mpr ⟨z, decide_eq_true hj⟩
        rw [h] at this
        cases this
  have ne : uptoN pre i ++ uptoN post i ≠ [] := by
    rcases hw 0 hi with z | z
    · exact fun y => by
        have : (0 : Nat) ∈ uptoN pre i := List.mem_filter.mpr ⟨z, decide_eq_true hi⟩
        rw [(List.append_eq_nil_iff.mp y).1] at this
        cases this
    · exact fun y => by
        have : (0 : Nat) ∈ uptoN post i := List.mem_filter.mpr ⟨z, decide_eq_true hi⟩
        rw [(List.append_eq_nil_iff.mp y).2] at this
        cases this
  have np : i ∉ uptoN pre i := fun z => h1 (List.mem_filter.mp z).1
  have nq : i ∉ uptoN post i := fun z => h2 (List.mem_filter.mp z).1
  have et : uptoN o (i + 1) = uptoN pre i ++ i :: uptoN post i := by rw [e]; exact u1
  have eu : uptoN o i = uptoN pre i ++ uptoN post i := by rw [e]; exact u2
  rw [et, eu]
  unfold wantAt
  cases f with
  | true =>
    have C : (uptoN pre i ++ i :: uptoN post i = insT true i (uptoN pre i ++ uptoN post i)) ↔ uptoN pre i = [] := by
      show _ = i :: _ ↔ _
      cases hp : uptoN pre i with
      | nil => simp
      | cons x xs =>
        rw [hp] at np
        have : x ≠ i := fun z => np (z ▸ List.mem_cons_self ..)
        simp [this]
    rw [C]
    by_cases c : ∀ j, j < i → o.idxOf i < o.idxOf j
    · rw [if_pos c]
      exact ⟨fun _ => A.mp c, fun _ => rfl⟩
    · rw [if_neg c]
      refine ⟨(fun h => ?_), fun h => absurd (A.mpr h) c⟩
      split at h <;> cases h
  | false =>
    have C : (uptoN pre i ++ i :: uptoN post i = insT false i (uptoN pre i ++ uptoN post i)) ↔ uptoN post i = [] := by
      show _ = _ ++ [i] ↔ _
      rw [List.append_assoc, List.append_cancel_left_eq]
      cases hp : uptoN post i with
      | nil => simp
      | cons x xs =>
        rw [hp] at nq
        have : x ≠ i := fun z => nq (z ▸ List.mem_cons_self ..)
        simp [Ne.symm this]
    rw [C]
    by_cases c : ∀ j, j < i → o.idxOf i < o.idxOf j
    · rw [if_pos c]
      refine ⟨(fun h => by cases h), fun h => absurd ?_ ne⟩
      rw [A.mp c, h]
      rfl
    · rw [if_neg c]
      by_cases c2 : ∀ j, j < i → o.idxOf j < o.idxOf i
      · rw [if_pos c2]
        exact ⟨fun _ => B.mp c2, fun _ => rfl⟩
      · rw [if_neg c2]
        exact ⟨(fun h => by cases h), fun h => absurd (B.mpr h) c2⟩
/-- an order: each number once -/
def IsOrd (o : List Nat) : Prop := o.Nodup ∧ ∀ x, x ∈ o ↔ x < o.length
theorem IsOrd.len {o : List Nat} (h : IsOrd o) {i : Nat} (hi : i ≤ o.length) : (uptoN o i).length = i := by
  have p : (uptoN o i).Perm (List.range i) := (List.perm_ext_iff_of_nodup (h.1.filter _) List.nodup_range).mpr fun x => by
    rw [List.mem_range]
    rw [List.mem_filter, h.2 x]
    simp
    omega
  rw [p.length_eq, List.length_range]
theorem IsOrd.upto {o : List Nat} (h : IsOrd o) {i : Nat} (hi : i ≤ o.length) : IsOrd (uptoN o i) := by
  refine ⟨h.1.filter _, fun x => ?_⟩
  rw [h.len hi]
  show x ∈ o.filter (fun x => decide (x < i)) ↔ _
  rw [List.mem_filter, h.2 x]
  simp
  omega
theorem upto_upto (o : List Nat) {i j : Nat} (h : i ≤ j) : uptoN (uptoN o j) i = uptoN o i := by
  unfold uptoN
  rw [List.filter_filter]
  refine List.filter_congr fun x _ => ?_
  by_cases c : x < i
  · rw [decide_eq_true c, decide_eq_true (show x < j by omega)]
    rfl
  · rw [decide_eq_false c]
    rfl
theorem upto_all {o : List Nat} (h : IsOrd o) : uptoN o o.length = o := List.filter_eq_self.mpr fun x hx => decide_eq_true ((h.2 x).mp hx)
theorem want_upto {o : List Nat} (h : IsOrd o) {i m : Nat} (hm : m ≤ o.length) (hi : 0 < i) (him : i < m) : wantAt (uptoN o m) i = wantAt o i := by
  have e : ∀ f, wantAt (uptoN o m) i = some f ↔ wantAt o i = some f := fun f => by
    rw [want_iff (h.upto hm).1 (fun j hj => ((h.upto hm).2 j).mpr (by rw [h.len hm]; omega)) hi f, want_iff h.1 (fun j hj => (h.2 j).mpr (by omega)) hi f, upto_upto o (by omega), upto_upto o (by omega)]
  cases hw : wantAt o i with
  | some f => exact (e f).mpr hw
  | none =>
    cases hw2 : wantAt (uptoN o m) i with
    | none => rfl
    | some f =>
      rw [(e f).mp hw2] at hw
      cases hw
theorem wantOf_len (o : List Nat) : (wantOf o).length = o.length - 1 := by
  unfold wantOf
  rw [List.length_map, List.length_range]
theorem wantOf_at {o : List Nat} {i : Nat} (h : i + 1 < o.length) : (wantOf o)[i]? = some (wantAt o (i + 1)) := by
  unfold wantOf
  rw [List.getElem?_map, List.getElem?_range (by omega)]
  rfl
theorem wantOf_upto {o : List Nat} (h : IsOrd o) {m : Nat} (hm : m + 1 ≤ o.length) : wantOf (uptoN o (m + 1)) = (wantOf o).take m := by
  refine List.ext_getElem? fun i => ?_
  by_cases c : i < m
  · rw [wantOf_at (by rw [h.len hm]; omega), List.getElem?_take, if_pos c, wantOf_at (by omega), want_upto h hm (by omega) (by omega)]
  · rw [List.getElem?_eq_none (by rw [wantOf_len, h.len hm]; omega), List.getElem?_eq_none (by rw [List.length_take]; omega)]
/-- sides as wanted lead to the order -/
theorem ord_right {o : List Nat} (h : IsOrd o) {f0 : Bool} {fs : List Bool} (hl : fs.length + 1 ≤ o.length) (hw : ∀ (i : Nat) (f : Bool), fs[i]? = some f → (wantOf o)[i]? = some (some f)) : ordOf (f0 :: fs) = uptoN o (fs.length + 1) := by
  induction fs using snoc_ind with
  | h0 =>
    have e1 := h.len (i := 1) (by simpa using hl)
    have e2 : ordOf [f0] = [0] := by
      unfold ordOf
      cases f0 <;> rfl
    rw [e2]
    match hu : uptoN o 1, e1 with
    | [x], _ =>
      have : x ∈ uptoN o 1 := by rw [hu]; exact List.mem_singleton.mpr rfl
      have := of_decide_eq_true (List.mem_filter.mp this).2
      have e3 : x = 0 := by omega
      rw [e3]
  | hs fs f ih =>
    rw [List.length_append] at hl
    have hl' : fs.length + 1 + 1 ≤ o.length := hl
    have ih' := ih (by omega) fun i g hg => hw i g (by rw [List.getElem?_append_left (List.getElem?_eq_some_iff.mp hg).1]; exact hg)
    have z := hw fs.length f (by rw [List.getElem?_append_right (Nat.le_refl _), Nat.sub_self]; rfl)
    rw [wantOf_at (by omega)] at z
    have y := (want_iff h.1 (fun j hj => (h.2 j).mpr (by omega)) (Nat.succ_pos _) f).mp (Option.some.inj z)
    rw [← List.cons_append, ord_snoc, List.length_cons, ih', List.length_append]
    exact y.symm
/-- a side that is not the wanted one leads elsewhere -/
theorem ord_wrong {o : List Nat} (h : IsOrd o) {f0 f : Bool} {fs : List Bool} (hl : fs.length + 1 < o.length) (hw : ∀ (i : Nat) (f : Bool), fs[i]? = some f → (wantOf o)[i]? = some (some f)) (hn : wantAt o (fs.length + 1) ≠ some f) : ordOf (f0 :: fs ++ [f]) ≠ uptoN o (fs.length + 2) := fun e => by
  rw [ord_snoc, List.length_cons, ord_right h (by omega) hw] at e
  exact hn ((want_iff h.1 (fun j hj => (h.2 j).mpr (by omega)) (Nat.succ_pos _) f).mpr e.symm)
theorem ord_len (fs : List Bool) : (ordOf fs).length = fs.length := by
  induction fs using snoc_ind with
  | h0 => rfl
  | hs fs f ih => rw [ord_snoc, insT_len, ih, List.length_append, List.length_singleton]
/-- who is the first of those up to one -/
theorem head_want {o : List Nat} (h : IsOrd o) {i : Nat} (hi : 0 < i) (hio : i < o.length) {f : Bool} (hw : wantAt o i = some f) : ∃ x xs, uptoN o (i + 1) = x :: xs ∧ (decide (x = i)) = f := by
  have y := (want_iff h.1 (fun j hj => (h.2 j).mpr (by omega)) hi f).mp hw
  rw [y]
  have hl := h.len (i := i) (Nat.le_of_lt hio)
  cases f with
  | true => exact ⟨i, _, rfl, decide_eq_true rfl⟩
  | false =>
    cases hu : uptoN o i with
    | nil =>
      rw [hu] at hl
      have : 0 = i := hl
      omega
    | cons x xs =>
      refine ⟨x, xs ++ [i], rfl, decide_eq_false fun z => ?_⟩
      have : x ∈ uptoN o i := by rw [hu]; exact List.mem_cons_self ..
      have := of_decide_eq_true (List.mem_filter.mp this).2
      omega
noncomputable def sdOf (b : Nat) (ws : List Bool) (d : Nat) (ts : List Nat) : List Bool := ts.map fun t => sideT b ws t d 0
/-! ### the program: when to set timers -/
def TsAt (H : Hp) (ts : List Addr) (rs : List (Nat × Bool)) : Prop := ts.length = rs.length ∧ ∀ (i : Nat) (t : Addr) (r : Nat × Bool), ts[i]? = some t → rs[i]? = some r → H t = some (.tup [.int (r.1 : Nat), .bl r.2])
theorem TsAt.same {H H' : Hp} {ts : List Addr} {rs : List (Nat × Bool)} (h : TsAt H ts rs) (s : Same H H') : TsAt H' ts rs := ⟨h.1, fun i t r h1 h2 => s _ _ (h.2 i t r h1 h2)⟩
theorem TsAt.upd {H : Hp} {p : Addr} {xs : List V} {o : HO} {ts : List Addr} {rs : List (Nat × Bool)} (h : TsAt H ts rs) (hp : H p = some (.lst xs)) : TsAt (upd H p o) ts rs := ⟨h.1, fun i t r h1 h2 => by
  have z := h.2 i t r h1 h2
  rw [upd_ne (ne_of z hp (by intro z; cases z))]
  exact z⟩
theorem TsAt.snoc {H : Hp} {t : Addr} {r : Nat × Bool} {ts : List Addr} {rs : List (Nat × Bool)} (h : TsAt H ts rs) (ht : H t = some (.tup [.int (r.1 : Nat), .bl r.2])) : TsAt H (ts ++ [t]) (rs ++ [r]) := by
  refine ⟨by rw [List.length_append, List.length_append, h.1]; rfl, fun i t' r' h1 h2 => ?_⟩
  by_cases c : i < ts.length
  · rw [List.getElem?_append_left c] at h1
    rw [List.getElem?_append_left (by rw [← h.1]; exact c)] at h2
    exact h.2 i t' r' h1 h2
  · rw [List.getElem?_append_right (by omega)] at h1
    rw [List.getElem?_append_right (by rw [← h.1]; omega), ← h.1] at h2
    have hi := (List.getElem?_eq_some_iff.mp h1).1
    have : i - ts.length = 0 := by
      have : i - ts.length < 1 := hi
      omega
    rw [this] at h1 h2
    cases Option.some.inj h1
    cases Option.some.inj h2
    exact ht
theorem TsAt.rev {H : Hp} {ts : List Addr} {rs : List (Nat × Bool)} (h : TsAt H ts rs) : TsAt H ts.reverse rs.reverse := by
  refine ⟨by rw [List.length_reverse, List.length_reverse, h.1], fun i t r h1 h2 => ?_⟩
  have hi := (List.getElem?_eq_some_iff.mp h1).1
  rw [List.length_reverse] at hi
  rw [List.getElem?_reverse hi] at h1
  rw [List.getElem?_reverse (by rw [← h.1]; exact hi), ← h.1] at h2
  exact h.2 _ t r h1 h2
theorem front_cons (ws : List Bool) (rs : List Row3) (r : Row3) : frontOf ws 0 (r :: rs) = if wordAt ws r.1 = true then !frontOf ws 0 rs else frontOf ws 0 rs := by
  unfold frontOf
  rw [List.countP_cons, decide_eq_true (Nat.zero_le _), Bool.true_and]
  cases h : wordAt ws r.1 with
  | true => rw [if_pos rfl, if_pos rfl, odd_succ]
  | false => rw [if_neg (by decide), if_neg (by decide), Nat.add_zero]
theorem ts_drop {ws : List Bool} {rs : List Row3} {j : Nat} {r : Row3} (h : rs[j]? = some r) : (tsOf ws (rs.drop j)) = (r.2.2, frontOf ws 0 (rs.drop j)) :: tsOf ws (rs.drop (j + 1)) ∧ frontOf ws 0 (rs.drop j) = if wordAt ws r.1 = true then !frontOf ws 0 (rs.drop (j + 1)) else frontOf ws 0 (rs.drop (j + 1)) := by
  obtain ⟨hj, e⟩ := List.getElem?_eq_some_iff.mp h
  have e1 : rs.drop j = r :: rs.drop (j + 1) := by
    rw [List.drop_eq_getElem_cons hj, e]
  rw [e1]
  exact ⟨rfl, front_cons ws _ r⟩
def wV : Option Bool → V
  | none => .non
  | some b => .bl b
theorem idx_at {o : List Nat} (h : IsOrd o) {i : Nat} (hi : i < o.length) : (o.map fun x => V.int (x : Nat))[o.idxOf i]? = some (.int (i : Nat)) ∧ ∀ (m : Nat) (z' : V), m < o.idxOf i → (o.map fun x => V.int (x : Nat))[m]? = some z' → eqV z' (.int (i : Nat)) = false := by
  have hm : i ∈ o := (h.2 i).mpr hi
  have hl := List.idxOf_lt_length_of_mem hm
  have e : o[o.idxOf i]? = some i := by
    rw [List.getElem?_eq_getElem hl, List.getElem_idxOf]
  refine ⟨by rw [List.getElem?_map, e]; rfl, fun m z' hlt hz => ?_⟩
  rw [List.getElem?_map] at hz
  cases ex : o[m]? with
  | none =>
    rw [ex] at hz
    cases hz
  | some x =>
    rw [ex] at hz
    cases hz
    have ne : x ≠ i := fun z => by
      rw [z] at ex
      have := (List.getElem?_inj (List.getElem?_eq_some_iff.mp ex).1 h.1).mp (ex.trans e.symm)
      omega
    show (((x : Nat) : Int) == ((i : Nat) : Int)) = false
    simp
    omega
theorem nats_flat (o : List Nat) : (o.map fun x => V.int (x : Nat)).all flatV = true := by
  rw [List.all_map]
  exact List.all_eq_true.mpr fun _ _ => rfl
section
variable {P : Program} {w : World} {K : PySem.W.Frag} {mg : Str → Option Value} {base : Heap}
def spCheckOrder (K : PySem.W.Frag) : Sp := fun vs H Q _ => ∃ (q : Addr) (o : List Nat), vs = [.ref q] ∧ SqL K H q (o.map fun x => V.int (x : Nat)) ∧ IsOrd o ∧ o ≠ [] ∧ o.length ≤ 60 ∧ ∀ H', Same H H' → Q .non H'
theorem ok_check_order {f : Addr} {fd : FuncData} (F : Fun K "check_order" "check_order" s_check_order f fd) (T : Tx K mg) (h1 : Has P w K mg base 1 "is_integer" ["given"] [] spIsInt) : FnOk P w K mg base CX0 2 f fd ["order"] (spCheckOrder K) := by
  obtain ⟨f_is_integer, fd_is_integer, ds_is_integer, G_is_integer, m_is_integer, k_is_integer, b_is_integer, v_is_integer⟩ := h1
  refine F.ok sc_check_order (fun vs H Q E h => ?_) (fun cdv A outer s H vs Q E hr h => ?_)
  · obtain ⟨q, o, rfl, _⟩ := h
    rfl
  · obtain ⟨q, o, rfl, hL, ho, hne, h60, c⟩ := h
    have hp : 0 < o.length := List.length_pos_iff.mpr hne
    refine ⟨_, (pss_cons (ps_if (PW.pt (pw_or (pt_not (pt_val (pe_callB (isiK (K := K) rfl) (by rfl) T.b_isinstance (by decide +kernel) (pa_cons (pv 0) (pa_cons (pe_bltn (v := .ty "list") (u := .type "list") (by rfl) T.b_list (by decide +kernel) rfl) pa_nil))))) (pw_or1 (pt_cmpR op_eq (pe_callB (lenK (K := K) rfl) (by rfl) T.b_len PySem.boot_len (pa_cons (pv 0) pa_nil)) pe_int (nomark _)))))
        (pss_one ps_never)
        pss_nil)
      (pss_one (ps_if (PW.pt (pw_or (pt_not (pt_val (pe_callB (allK (K := K) rfl rfl) (by rfl) T.b_all (by decide +kernel) (pa_cons (pe_lc (own := [("number", 1)]) (g := gName 1) (tt := tYes) rfl sc_check_order.nd (pi_list (pv 0)) (blkOk_by (own := [("number", 1)]) (N := N_check_order) (sc := defScope s_check_order) (by decide +kernel)) (fun _ _ _ _ _ => (pg_name (i := 1) sc_check_order.nd rfl (.inl rfl))) (fun _ _ _ _ _ => pts_nil) (fun _ _ _ _ _ => (pe_call G_is_integer hr (by rfl) m_is_integer k_is_integer b_is_integer v_is_integer pass0 (pa_cons (pv 1) pa_nil)))) pa_nil)))) (pw_or1 (pt_cmpR (op_neK (K := K) rfl hr.units) (pe_callB cr_sortedI (by rfl) T.b_sorted (by decide +kernel) (pa_cons (pv 0) pa_nil)) (pe_listRg rfl (by rfl) T.b_list (prg_1 (by rfl) T.b_range (pe_callB (lenK (K := K) rfl) (by rfl) T.b_len PySem.boot_len (pa_cons (pv 0) pa_nil)))) (nomark _)))))
        (pss_one ps_never)
        pss_nil))), ?_⟩
    refine ⟨.ref q, rfl, _, _, _, _, true, rfl, .ty "list", tyx_list hL, kit_ty (by decide +kernel), true, rfl, iteF ?_⟩
    refine ⟨_, rfl, q, _, rfl, .inl hL, rfl, false, dF (vN (b := 0) ?_), iteF ?_⟩
    · rw [List.length_map]
      omega
    refine ⟨.ref q, rfl, q, rfl, ⟨_, hL⟩, fun D hD => lc_list (K := K) (a := q) (xs := o.map fun x => V.int (x : Nat)) (fun i H' => Same H H' ∧ H' D = some (.lst ((List.replicate i true).map V.bl)))
      ⟨same_upd hD, upd_same⟩ (fun i H' _ ⟨sm, _⟩ => sm.seq hL) ?_ ?_⟩
    · rintro i x H' hx ⟨sm, eD⟩
      obtain ⟨b, rfl⟩ : ∃ b : Nat, x = .int (b : Nat) := by
        rw [List.getElem?_map] at hx
        cases e : o[i]? with
        | none =>
          rw [e] at hx
          cases hx
        | some b =>
          rw [e] at hx
          exact ⟨b, (Option.some.inj hx).symm⟩
      have hi : i < (o.map fun x => V.int (x : Nat)).length := (List.getElem?_eq_some_iff.mp hx).1
      rw [List.length_map] at hi
      refine ⟨rfl, yesT (iteT ?_)⟩
      refine ⟨_, rfl, _, rfl, _, eD, ?_, fun c o e => ?_, ?_⟩
      · rw [List.length_map, List.length_replicate]
        exact sizeLine_ge (by omega)
      · rw [upd_ne (ne_of_none e hD)]
        exact sm _ _ e
      · rw [upd_same, List.replicate_succ', List.map_append]
        rfl
    · rintro H1 ⟨s1, eD⟩
      refine ⟨D, _, rfl, SqL.of eD, ?_⟩
      have ea : (List.replicate (o.map fun x => V.int (x : Nat)).length true).all id = true := by
        rw [List.all_replicate]
        simp
      rw [ea]
      refine ⟨true, rfl, iteF ?_⟩
      have eo : (o.map fun x => V.int (x : Nat)) = (o.map fun x : Nat => (x : Int)).map V.int := by
        rw [List.map_map]
        rfl
      refine ⟨_, rfl, q, o.map fun x : Nat => (x : Int), rfl, eo ▸ s1.seq hL, fun ns' r hperm hsort hr => ?_⟩
      have s2 := s1.trans (same_upd (o := .lst (ns'.map V.int)) hr)
      have er := upd_same (H := H1) (a := r) (o := .lst (ns'.map V.int))
      generalize upd H1 r (.lst (ns'.map V.int)) = H2 at s2 er ⊢
      refine ⟨_, rfl, q, _, rfl, .inl (s2.seq hL), _, rfl, ⟨by decide, by decide, by omega, by rw [List.length_map]; omega, by rw [List.length_map]; omega⟩, fun u hu => ?_⟩
      have s3 := s2.trans (same_upd (o := .lst (rgV 0 ((o.map fun x => V.int (x : Nat)).length : Nat))) hu)
      have er3 := same_upd (o := .lst (rgV 0 ((o.map fun x => V.int (x : Nat)).length : Nat))) hu _ _ er
      have eu := upd_same (H := H2) (a := u) (o := .lst (rgV 0 ((o.map fun x => V.int (x : Nat)).length : Nat)))
      have e1 : ns' = (List.range o.length).map fun x : Nat => (x : Int) := by
        have p1 : ns'.Perm ((List.range o.length).map fun x : Nat => (x : Int)) := hperm.trans ((((List.perm_ext_iff_of_nodup ho.1 List.nodup_range).mpr fun x => by rw [List.mem_range]; exact ho.2 x)).map _)
        refine p1.eq_of_pairwise (le := (· ≤ ·)) (fun a b _ _ h1 h2 => Int.le_antisymm h1 h2) hsort ?_
        rw [List.pairwise_map]
        exact List.pairwise_lt_range.imp fun h => by omega
      have e2 : rgV 0 ((o.map fun x => V.int (x : Nat)).length : Nat) = (List.range o.length).map fun x => V.int (x : Nat) := by
        unfold rgV
        rw [List.length_map]
        have : (((o.length : Nat) : Int) - 0).toNat = o.length := by omega
        rw [this]
        refine List.map_congr_left fun x _ => ?_
        rw [Int.zero_add]
      rw [e2] at eu
      rw [e1, List.map_map] at er3
      have er4 : (upd H2 u (.lst (rgV 0 ((o.map fun x => V.int (x : Nat)).length : Nat)))) r = some (.lst ((List.range o.length).map fun x => V.int (x : Nat))) := er3
      refine ⟨.list ((List.range o.length).map fun y => PyData.int (y : Nat)), .list ((List.range o.length).map fun y => PyData.int (y : Nat)), .lst (SqL.of er4) (dp_nats _), .lst (SqL.of (by rw [e2]; exact eu)) (dp_nats _), nats_shaped _, nats_shaped _, false, neq_refl (d := .list ((List.range o.length).map fun y => PyData.int (y : Nat))) (nats_lay _), iteF ?_⟩
      exact c _ s3
def spTicksSides (K : PySem.W.Frag) : Sp := fun vs H Q _ => ∃ (b n d : Nat) (q : Addr) (ws : List Bool), vs = [.int (b : Nat), .ref q, .int (n : Nat), .int (d : Nat)] ∧ 2 ≤ b ∧ b ≤ 64 ∧ n < d ∧ d < 2 ^ 250 ∧ SqL K H q (ws.map lvV) ∧ ws ≠ [] ∧
  ∀ k, IsLev b n d k → ∀ H' N ts, Same H H' → H N = none → H' N = some (.lst (ts.map V.ref)) → TsAt H' ts (tsOf ws (rowsOf b n d k)) → Q (.ref N) H'
theorem ok_ticks_and_sides {f : Addr} {fd : FuncData} (F : Fun K "ticks_and_sides" "ticks_and_sides" s_ticks_and_sides f fd) (T : Tx K mg) (h1 : Has P w K mg base 2 "path" ["base", "now", "due"] [] spPath) (h2 : Has P w K mg base 1 "word_at" ["levels", "level"] [] (spWordAt K)) :
    FnOk P w K mg base CX0 3 f fd ["base", "levels", "start", "due"] (spTicksSides K) := by
  obtain ⟨f_path, fd_path, ds_path, G_path, m_path, k_path, b_path, v_path⟩ := h1
  obtain ⟨f_word_at, fd_word_at, ds_word_at, G_word_at, m_word_at, k_word_at, b_word_at, v_word_at⟩ := h2
  refine F.ok sc_ticks_and_sides (fun vs H Q E h => ?_) (fun cdv A outer s H vs Q E hr h => ?_)
  · obtain ⟨b, n, d, q, ws, rfl, _⟩ := h
    rfl
  · obtain ⟨b, n, d, q, ws, rfl, hb, hb64, hnd, hd, hL, hne, c⟩ := h
    refine ⟨_, (pss_cons (ps_set (i := 4) sc_ticks_and_sides.nd rfl (.inl rfl) (pe_lst pa_nil))
      (pss_cons (ps_set (i := 5) sc_ticks_and_sides.nd rfl (.inl rfl) pe_bl)
      (pss_cons (ps_for PassesOwn.never rfl (pi_reversed (by rfl) T.b_reversed (pa_cons (pe_call G_path hr (by rfl) m_path k_path b_path v_path pass0 (pa_cons (pv 0) (pa_cons (pv 2) (pa_cons (pv 3) pa_nil)))) pa_nil)) (pg_tupK (K := K) (n := 3) rfl rfl (pgs_cons (pg_name (i := 6) sc_ticks_and_sides.nd rfl (.inl rfl)) (pgs_cons (pg_name (i := 7) sc_ticks_and_sides.nd rfl (.inl rfl)) (pgs_cons (pg_name (i := 8) sc_ticks_and_sides.nd rfl (.inl rfl)) pgs_nil))))
        (pss_cons (ps_if (pt_cmpR op_eq (pe_call G_word_at (hr.mono (by decide)) (by rfl) m_word_at k_word_at b_word_at v_word_at pass0 (pa_cons (pv 1) (pa_cons (pv 6) pa_nil))) pe_str (nomark _))
          (pss_one (ps_set (i := 5) sc_ticks_and_sides.nd rfl (.inl rfl) (pe_not (pv 5))))
          pss_nil)
        (pss_one (ps_expr (pe_bm PySem.F.plainAttrs_list PySem.F.slot_list_append PySem.F.type_list_append mt_append (pv 4) (pa_cons (pe_tup (pa_cons (pv 8) (pa_cons (pv 5) pa_nil))) pa_nil))))))
      (pss_one (ps_ret (pe_revL (pv 4))))))), ?_⟩
    refine ⟨by simp [sizeLine_eq], fun N hN => ?_⟩
    have u0 := same_upd (o := .lst []) hN
    have eN0 := upd_same (H := H) (a := N) (o := .lst [])
    generalize upd H N (.lst []) = H0 at u0 eN0 ⊢
    refine ⟨_, rfl, _, rfl, _, rfl, b, n, d, rfl, hb, hb64, hnd, hd, fun k hk H1 p ts s1 hp0 hp R => ?_⟩
    have hlen := R.len
    have npN : p ≠ N := fun z => by
      rw [z, eN0] at hp0
      cases hp0
    refine ⟨p, ts.map V.ref, rfl, SqL.of hp, RT.for_Itv (K := K) (a := p) (xs := ts.map V.ref) (fun i σ H' => ∃ y6 y7 y8 us, σ = [some (.int (b : Nat)), some (.ref q), some (.int (n : Nat)), some (.int (d : Nat)), some (.ref N), some (.bl (frontOf ws 0 ((rowsOf b n d k).drop (ts.length - i)))), y6, y7, y8] ∧
        Same H H' ∧ H' p = some (.lst (ts.map V.ref)) ∧ RowsAt H' ts (rowsOf b n d k) ∧ H' N = some (.lst (us.map V.ref)) ∧ TsAt H' us (tsOf ws ((rowsOf b n d k).drop (ts.length - i))).reverse)
      ⟨none, none, none, [], ?_, u0.trans s1, hp, R, s1 _ _ eN0, ?_⟩ (fun i σ H' ⟨_, _, _, _, _, _, e, _⟩ => SqL.of e) ?_ ?_⟩
    · have : (rowsOf b n d k).drop (ts.length - 0) = [] := List.drop_of_length_le (by omega)
      rw [this]
      rfl
    · have : (rowsOf b n d k).drop (ts.length - 0) = [] := List.drop_of_length_le (by omega)
      rw [this]
      exact ⟨rfl, fun i t r h1 _ => by simp at h1⟩
    · rintro i x σ H' hi hx ⟨y6, y7, y8, us, rfl, sm, hp', R', eN, TS⟩
      rw [List.length_map] at hi hx
      obtain ⟨ti, r, rfl, hti, hr, er⟩ := R'.item hx
      have ej : ts.length - i = ts.length - 1 - i + 1 := by omega
      have ej2 : ts.length - (i + 1) = ts.length - 1 - i := by omega
      obtain ⟨z1, z2⟩ := ts_drop (ws := ws) hr
      rw [ej] at TS ⊢
      have hus : us.length ≤ 252 := by
        have a1 := TS.1
        rw [List.length_reverse, ts_len, List.length_drop] at a1
        have a2 := lev_small hk hb hnd hd
        have a3 := tail_len b d k
        have a4 : (rowsOf b n d k).length ≤ 251 := by
          show (tailOf b d k).length + 1 ≤ 251
          omega
        omega
      refine ⟨ti, _, rfl, .inl (.inl er), rfl, _, _, rfl, _, _, rfl, _, _, rfl, rfl, ?_⟩
      refine ⟨_, rfl, _, rfl, q, ws, r.1, rfl, sm.seq hL, hne, ?_, wordAt ws r.1, congrArg V.bl (lv_dec _), ?_⟩
      · cases wordAt ws r.1 <;> rfl
      have go : ∀ fr : Bool, fr = frontOf ws 0 ((rowsOf b n d k).drop (ts.length - 1 - i)) → ∀ t2, H' t2 = none → ∃ us', (upd (upd H' t2 (.tup [.int (r.2.2 : Nat), .bl fr])) N (.lst (us'.map V.ref))) = (upd (upd H' t2 (.tup [.int (r.2.2 : Nat), .bl fr])) N (.lst (us.map V.ref ++ [.ref t2]))) ∧ Same H (upd (upd H' t2 (.tup [.int (r.2.2 : Nat), .bl fr])) N (.lst (us'.map V.ref))) ∧
          (upd (upd H' t2 (.tup [.int (r.2.2 : Nat), .bl fr])) N (.lst (us'.map V.ref))) p = some (.lst (ts.map V.ref)) ∧ RowsAt (upd (upd H' t2 (.tup [.int (r.2.2 : Nat), .bl fr])) N (.lst (us'.map V.ref))) ts (rowsOf b n d k) ∧ TsAt (upd (upd H' t2 (.tup [.int (r.2.2 : Nat), .bl fr])) N (.lst (us'.map V.ref))) us' (tsOf ws ((rowsOf b n d k).drop (ts.length - 1 - i))).reverse := by
        intro fr efr t2 ht2
        have u2 := same_upd (o := .tup [.int (r.2.2 : Nat), .bl fr]) ht2
        have e2 := upd_same (H := H') (a := t2) (o := .tup [.int (r.2.2 : Nat), .bl fr])
        have eN2 := u2 _ _ eN
        have hp2 := u2 _ _ hp'
        have R2 := R'.same u2
        have TS2 := TS.same u2
        have sm2 := sm.trans u2
        generalize upd H' t2 (.tup [.int (r.2.2 : Nat), .bl fr]) = H2 at *
        refine ⟨us ++ [t2], by rw [List.map_append]; rfl, fun c o e => ?_, ?_, R2.upd eN2, ?_⟩
        · rw [upd_ne (ne_of_none e hN)]
          exact sm2 _ _ e
        · rw [upd_ne npN]
          exact hp2
        · rw [z1, List.reverse_cons, ← efr]
          exact (TS2.snoc e2).upd eN2
      cases hw : wordAt ws r.1 with
      | true =>
        rw [hw, if_pos rfl] at z2
        refine iteT ⟨_, rfl, _, rfl, _, rfl, .inl ⟨rfl, _, SqL.of eN⟩, _, rfl, _, rfl, by simp [sizeLine_eq], fun t2 ht2 => ?_⟩
        obtain ⟨us', w1, w2, w3, w4, w5⟩ := go _ z2.symm t2 ht2
        refine ⟨N, _, _, rfl, rfl, same_upd ht2 _ _ eN, ?_, ?_⟩
        · rw [List.length_map]
          exact sizeLine_ge (by omega)
        rw [← w1]
        refine ⟨some (.int (r.1 : Nat)), some (.int (r.2.1 : Nat)), some (.int (r.2.2 : Nat)), us', ?_, w2, w3, w4, upd_same, ?_⟩
        · rw [ej2, z2]
          rfl
        · rw [ej2]
          exact w5
      | false =>
        rw [hw, if_neg (by decide)] at z2
        refine iteF ⟨_, rfl, .inl ⟨rfl, _, SqL.of eN⟩, _, rfl, _, rfl, by simp [sizeLine_eq], fun t2 ht2 => ?_⟩
        obtain ⟨us', w1, w2, w3, w4, w5⟩ := go _ z2.symm t2 ht2
        refine ⟨N, _, _, rfl, rfl, same_upd ht2 _ _ eN, ?_, ?_⟩
        · rw [List.length_map]
          exact sizeLine_ge (by omega)
        rw [← w1]
        refine ⟨some (.int (r.1 : Nat)), some (.int (r.2.1 : Nat)), some (.int (r.2.2 : Nat)), us', ?_, w2, w3, w4, upd_same, ?_⟩
        · rw [ej2, z2]
          rfl
        · rw [ej2]
          exact w5
    · rintro σ H' ⟨y6, y7, y8, us, rfl, sm, hp', R', eN, TS⟩
      rw [List.length_map, Nat.sub_self, List.drop_zero] at TS
      refine ⟨_, rfl, N, _, rfl, SqL.of eN, fun M hM => ?_⟩
      have u3 := same_upd (o := .lst (us.map V.ref).reverse) hM
      have e3 := upd_same (H := H') (a := M) (o := .lst (us.map V.ref).reverse)
      have TS3 := (TS.same u3).rev
      rw [List.reverse_reverse] at TS3
      refine c k hk _ M us.reverse (sm.trans u3) (sm.free hM) ?_ TS3
      rw [List.map_reverse]
      exact e3
def spSidesWanted (K : PySem.W.Frag) : Sp := fun vs H Q _ => ∃ (q : Addr) (o : List Nat), vs = [.ref q] ∧ SqL K H q (o.map fun x => V.int (x : Nat)) ∧ IsOrd o ∧ o ≠ [] ∧ o.length ≤ 60 ∧ ∀ H' N, Same H H' → H N = none → H' N = some (.lst ((wantOf o).map wV)) → Q (.ref N) H'
theorem ok_sides_wanted {f : Addr} {fd : FuncData} (F : Fun K "sides_wanted" "sides_wanted" s_sides_wanted f fd) (T : Tx K mg) : FnOk P w K mg base CX0 1 f fd ["order"] (spSidesWanted K) := by
  refine F.ok sc_sides_wanted (fun vs H Q E h => ?_) (fun cdv A outer s H vs Q E hr h => ?_)
  · obtain ⟨q, o, rfl, _⟩ := h
    rfl
  · obtain ⟨q, o, rfl, hL, ho, hne, h60, c⟩ := h
    have hp : 0 < o.length := List.length_pos_iff.mpr hne
    refine ⟨_, (pss_cons (ps_set (i := 1) sc_sides_wanted.nd rfl (.inl rfl) (pe_lst pa_nil))
      (pss_cons (ps_asg2 (pe_bm PySem.F.plainAttrs_list PySem.F.slot_list_index PySem.F.type_list_index mt_index (pv 0) (pa_cons pe_int pa_nil)) (pg_name (i := 2) sc_sides_wanted.nd rfl (.inl rfl)) (pg_name (i := 3) sc_sides_wanted.nd rfl (.inl rfl)))
      (pss_cons (ps_for PassesOwn.never rfl (pi_range2 (by rfl) T.b_range (pa_cons pe_int (pa_cons (pe_callB (lenK (K := K) rfl) (by rfl) T.b_len PySem.boot_len (pa_cons (pv 0) pa_nil)) pa_nil))) (pg_name (i := 4) sc_sides_wanted.nd rfl (.inl rfl))
        (pss_cons (ps_set (i := 5) sc_sides_wanted.nd rfl (.inl rfl) (pe_bm PySem.F.plainAttrs_list PySem.F.slot_list_index PySem.F.type_list_index mt_index (pv 0) (pa_cons (pv 4) pa_nil)))
        (pss_cons (ps_if (pt_cmpR op_lt (pv 5) (pv 2) (nomark _))
          (pss_one (ps_expr (pe_bm PySem.F.plainAttrs_list PySem.F.slot_list_append PySem.F.type_list_append mt_append (pv 1) (pa_cons pe_bl pa_nil))))
          (pss_one (ps_if (pt_cmpR op_gt (pv 5) (pv 3) (nomark _))
            (pss_one (ps_expr (pe_bm PySem.F.plainAttrs_list PySem.F.slot_list_append PySem.F.type_list_append mt_append (pv 1) (pa_cons pe_bl pa_nil))))
            (pss_one (ps_expr (pe_bm PySem.F.plainAttrs_list PySem.F.slot_list_append PySem.F.type_list_append mt_append (pv 1) (pa_cons pe_non pa_nil)))))))
        (pss_one (ps_par (i := 2) (j := 3) (by rfl) sc_sides_wanted.nd rfl rfl (by decide) rfl rfl (pa_cons (pe_callB (min2N rfl) (by rfl) T.b_min (by decide +kernel) (pa_cons (pv 2) (pa_cons (pv 5) pa_nil))) (pa_cons (pe_callB (max2N rfl) (by rfl) T.b_max (by decide +kernel) (pa_cons (pv 3) (pa_cons (pv 5) pa_nil))) pa_nil)) (by rfl))))))
      (pss_one (ps_ret (pv 1)))))), ?_⟩
    refine ⟨by simp [sizeLine_eq], fun N hN => ?_⟩
    have u0 := same_upd (o := .lst []) hN
    have eN0 := upd_same (H := H) (a := N) (o := .lst [])
    generalize upd H N (.lst []) = H0 at u0 eN0 ⊢
    obtain ⟨i1, i2⟩ := idx_at ho hp
    refine ⟨_, rfl, .inl ⟨rfl, _, u0.seq hL⟩, q, _, _, _, _, rfl, rfl, u0.seq hL, rfl, nats_flat o, i1, by simp [eqV], i2, ?_⟩
    refine ⟨_, rfl, q, _, rfl, .inl (u0.seq hL), 1, _, rfl, ⟨by decide, by decide, by omega, by rw [List.length_map]; omega⟩, for_range (Pv := fun i σ H' => ∃ (lo hi : Nat) (y4 y5 : Option V), σ = [some (.ref q), some (.ref N), some (.int (lo : Nat)), some (.int (hi : Nat)), y4, y5] ∧ Same H H' ∧ H' N = some (.lst (((wantOf o).take i).map wV)) ∧
        (∀ j, j < i + 1 → lo ≤ o.idxOf j) ∧ (∃ j, j < i + 1 ∧ o.idxOf j = lo) ∧ (∀ j, j < i + 1 → o.idxOf j ≤ hi) ∧ (∃ j, j < i + 1 ∧ o.idxOf j = hi)) ?_ (fun i σ H' hi hI => ?_) (fun σ H' hI => ?_)⟩
    · refine ⟨_, _, none, none, rfl, u0, eN0, fun j hj => ?_, ⟨0, by omega, rfl⟩, fun j hj => ?_, ⟨0, by omega, rfl⟩⟩
      all_goals
        have : j = 0 := by omega
        subst this
        exact Nat.le_refl _
    · obtain ⟨lo, hi', y4, y5, rfl, sm, eN, l1, l2, l3, l4⟩ := hI
      rw [List.length_map] at hi
      have hio : i + 1 < o.length := by omega
      have ei : V.int (1 + (i : Nat)) = .int ((i + 1 : Nat) : Int) := congrArg V.int (by omega)
      obtain ⟨j1, j2⟩ := idx_at ho hio
      have ew := wantOf_at hio
      have ewl : (wantOf o).take (i + 1) = (wantOf o).take i ++ [wantAt o (i + 1)] := by
        rw [List.take_add_one, ew]
        rfl
      have hlen : (((wantOf o).take i).map wV).length ≤ 60 := by
        rw [List.length_map, List.length_take, wantOf_len]
        omega
      refine ⟨_, rfl, .inl ⟨rfl, _, sm.seq hL⟩, _, rfl, q, _, _, _, _, rfl, by rw [ei], sm.seq hL, rfl, nats_flat o, j1, by simp [eqV], j2, ?_⟩
      have ndj : ∀ j, j < i + 1 → o.idxOf j ≠ o.idxOf (i + 1) := fun j hj e => by
        have a1 := (idx_at ho (show j < o.length by omega)).1
        rw [e, j1] at a1
        have := Int.ofNat.inj (V.int.inj (Option.some.inj a1))
        omega
      -- what is kept
      have keep : ∀ (v : V) , v = wV (wantAt o (i + 1)) → ∀ y4, ∃ (lo2 hi2 : Nat) (z4 z5 : Option V), ([some (.ref q), some (.ref N), some (.int ((min lo (o.idxOf (i + 1)) : Nat) : Int)), some (.int ((max hi' (o.idxOf (i + 1)) : Nat) : Int)), y4, some (.int (o.idxOf (i + 1) : Nat))] : List (Option V)) = [some (.ref q), some (.ref N), some (.int (lo2 : Nat)), some (.int (hi2 : Nat)), z4, z5] ∧ Same H (upd H' N (.lst (((wantOf o).take i).map wV ++ [v]))) ∧ (upd H' N (.lst (((wantOf o).take i).map wV ++ [v]))) N = some (.lst (((wantOf o).take (i + 1)).map wV)) ∧
          (∀ j, j < i + 1 + 1 → lo2 ≤ o.idxOf j) ∧ (∃ j, j < i + 1 + 1 ∧ o.idxOf j = lo2) ∧ (∀ j, j < i + 1 + 1 → o.idxOf j ≤ hi2) ∧ (∃ j, j < i + 1 + 1 ∧ o.idxOf j = hi2) := by
        intro v ev y4
        refine ⟨_, _, _, _, rfl, fun c o e => ?_, ?_, fun j hj => ?_, ?_, fun j hj => ?_, ?_⟩
        · rw [upd_ne (ne_of_none e hN)]
          exact sm _ _ e
        · rw [upd_same, ewl, List.map_append, ev]
          rfl
        · by_cases c : j < i + 1
          · have := l1 j c
            omega
          · have : j = i + 1 := by omega
            subst this
            exact Nat.min_le_right ..
        · obtain ⟨j, hj, e⟩ := l2
          by_cases c : lo ≤ o.idxOf (i + 1)
          · exact ⟨j, by omega, by rw [e]; omega⟩
          · exact ⟨i + 1, by omega, by omega⟩
        · by_cases c : j < i + 1
          · have := l3 j c
            omega
          · have : j = i + 1 := by omega
            subst this
            exact Nat.le_max_right ..
        · obtain ⟨j, hj, e⟩ := l4
          by_cases c : o.idxOf (i + 1) ≤ hi'
          · exact ⟨j, by omega, by rw [e]; omega⟩
          · exact ⟨i + 1, by omega, by omega⟩
      have W1 : (∀ j, j < i + 1 → o.idxOf (i + 1) < o.idxOf j) ↔ o.idxOf (i + 1) < lo := by
        constructor
        · intro h
          obtain ⟨j, hj, e⟩ := l2
          rw [← e]
          exact h j hj
        · intro h j hj
          exact Nat.lt_of_lt_of_le h (l1 j hj)
      have W2 : (∀ j, j < i + 1 → o.idxOf j < o.idxOf (i + 1)) ↔ hi' < o.idxOf (i + 1) := by
        constructor
        · intro h
          obtain ⟨j, hj, e⟩ := l4
          rw [← e]
          exact h j hj
        · intro h j hj
          exact Nat.lt_of_le_of_lt (l3 j hj) h
      have hwa : wantAt o (i + 1) = if o.idxOf (i + 1) < lo then some true else if hi' < o.idxOf (i + 1) then some false else none := by
        unfold wantAt
        by_cases c1 : o.idxOf (i + 1) < lo
        · rw [if_pos (W1.mpr c1), if_pos c1]
        · rw [if_neg (fun z => c1 (W1.mp z)), if_neg c1]
          by_cases c2 : hi' < o.idxOf (i + 1)
          · rw [if_pos (W2.mpr c2), if_pos c2]
          · rw [if_neg (fun z => c2 (W2.mp z)), if_neg c2]
      rw [ei]
      by_cases c1 : o.idxOf (i + 1) < lo
      · rw [if_pos c1] at hwa
        refine ⟨_, rfl, _, rfl, _, _, rfl, rfl, true, dT (by omega), iteT ?_⟩
        refine ⟨_, rfl, .inl ⟨rfl, _, SqL.of eN⟩, N, _, _, rfl, rfl, eN, sizeLine_ge (by omega), ?_⟩
        exact ⟨_, rfl, _, rfl, _, _, rfl, _, rfl, _, rfl, _, _, rfl, _, _, rfl, keep _ (by rw [hwa]; rfl) _⟩
      · rw [if_neg c1] at hwa
        refine ⟨_, rfl, _, rfl, _, _, rfl, rfl, false, dF (by omega), iteF ?_⟩
        by_cases c2 : hi' < o.idxOf (i + 1)
        · rw [if_pos c2] at hwa
          refine ⟨_, rfl, _, rfl, _, _, rfl, rfl, true, dT (by omega), iteT ?_⟩
          refine ⟨_, rfl, .inl ⟨rfl, _, SqL.of eN⟩, N, _, _, rfl, rfl, eN, sizeLine_ge (by omega), ?_⟩
          exact ⟨_, rfl, _, rfl, _, _, rfl, _, rfl, _, rfl, _, _, rfl, _, _, rfl, keep _ (by rw [hwa]; rfl) _⟩
        · rw [if_neg c2] at hwa
          refine ⟨_, rfl, _, rfl, _, _, rfl, rfl, false, dF (by omega), iteF ?_⟩
          refine ⟨_, rfl, .inl ⟨rfl, _, SqL.of eN⟩, N, _, _, rfl, rfl, eN, sizeLine_ge (by omega), ?_⟩
          exact ⟨_, rfl, _, rfl, _, _, rfl, _, rfl, _, rfl, _, _, rfl, _, _, rfl, keep _ (by rw [hwa]; rfl) _⟩
    · obtain ⟨lo, hi', y4, y5, rfl, sm, eN, _⟩ := hI
      rw [List.length_map] at eN
      refine ⟨_, rfl, ?_⟩
      refine c H' N sm hN ?_
      have : (wantOf o).take ((((o.length : Nat) : Int) - 1).toNat) = wantOf o := List.take_of_length_le (by rw [wantOf_len]; omega)
      rw [this] at eN
      exact eN
end
theorem lev_exists {b n d : Nat} (hb : 2 ≤ b) (h : n < d) : ∃ k, IsLev b n d k := lev_any hb h
/-! ### the program: set_ticks -/
theorem Pl.step {R : List (Nat × Bool)} {a : Nat} {w : Option Bool} {ws : List (Option Bool)} {W : List (Option Bool)} {done : List Nat} (K : ∀ xs ok, Pl R a (w :: ws) xs ok → Pl R 0 W (done ++ xs) ok) {i x : Nat} {f : Bool} (h : R[i]? = some (x, f)) (ha : a ≤ i) (hw : some f = w) (hno : ∀ j r, a ≤ j → j < i → R[j]? = some r → some r.2 ≠ w) :
    ∀ xs ok, Pl R i ws xs ok → Pl R 0 W ((done ++ [x]) ++ xs) ok := fun xs ok p => by
  have z := K (x :: xs) ok (.cons h ha hw hno p)
  rw [List.append_assoc]
  exact z
theorem Pl.uniq {R : List (Nat × Bool)} {a : Nat} {ws : List (Option Bool)} {xs : List Nat} {ok : Bool} (h : Pl R a ws xs ok) : ∀ {xs' : List Nat} {ok' : Bool}, Pl R a ws xs' ok' → xs = xs' ∧ ok = ok' := by
  induction h with
  | nil =>
    intro xs' ok' h'
    cases h'
    exact ⟨rfl, rfl⟩
  | @cons a i x f w ws xs ok h ha hw hno t ih =>
    intro xs' ok' h'
    cases h' with
    | @cons _ i' x' f' _ _ xs' _ h1 ha1 hw1 hno1 t1 =>
      have e : i = i' := by
        rcases Nat.lt_trichotomy i i' with c | c | c
        · exact absurd hw (hno1 i _ ha c h)
        · exact c
        · exact absurd hw1 (hno i' _ ha1 c h1)
      subst e
      rw [h] at h1
      cases h1
      obtain ⟨e1, e2⟩ := ih t1
      exact ⟨by rw [e1], e2⟩
    | stop h1 => exact absurd hw (h1 i _ ha h)
  | @stop a w ws h =>
    intro xs' ok' h'
    cases h' with
    | cons h1 ha1 hw1 hno1 t1 => exact absurd hw1 (h _ _ ha1 h1)
    | stop h1 => exact ⟨rfl, rfl⟩
/-- what is told -/
def ToldAt (H : Hp) (p : Addr) (n : Nat) (xs : List Nat) : Bool → Prop
  | true => ∃ L, H p = some (.tup [.str "ticks", .ref L]) ∧ H L = some (.lst ((n :: xs).map fun x => V.int (x : Nat)))
  | false => H p = some (.tup [.str "never", .int ((xs.length + 1 : Nat) : Int)])
section
variable {P : Program} {w : World} {K : PySem.W.Frag} {mg : Str → Option Value} {base : Heap}
def spSetTicks (K : PySem.W.Frag) : Sp := fun vs H Q _ => ∃ (b n d : Nat) (q O : Addr) (ws : List Bool) (o : List Nat), vs = [.int (b : Nat), .ref q, .int (n : Nat), .int (d : Nat), .ref O] ∧ 2 ≤ b ∧ b ≤ 64 ∧ n < d ∧ d < 2 ^ 250 ∧ SqL K H q (ws.map lvV) ∧ ws ≠ [] ∧ ws.length ≤ 60 ∧
  SqL K H O (o.map fun x => V.int (x : Nat)) ∧ IsOrd o ∧ o ≠ [] ∧ o.length ≤ 60 ∧ ∀ k, IsLev b n d k → ∀ xs ok, Pl (tsOf ws (rowsOf b n d k)) 0 (wantOf o) xs ok → ∀ H' p, Same H H' → H p = none → ToldAt H' p n xs ok → (∀ L, H' p = some (.tup [.str "ticks", .ref L]) → H L = none) → Q (.ref p) H'
theorem ok_set_ticks {f : Addr} {fd : FuncData} (F : Fun K "set_ticks" "set_ticks" s_set_ticks f fd) (T : Tx K mg) (h1 : Has P w K mg base 3 "check_base" ["base"] [] spCheckBase)
    (h2 : Has P w K mg base 3 "check_tick" ["tick", "least"] [.int 0] spCheckTick) (h3 : Has P w K mg base 3 "check_tick" ["tick", "least"] [] spCheckTick) (h4 : Has P w K mg base 4 "check_levels" ["levels"] [] (spCheckLevels K))
    (h5 : Has P w K mg base 2 "check_order" ["order"] [] (spCheckOrder K)) (h6 : Has P w K mg base 3 "ticks_and_sides" ["base", "levels", "start", "due"] [] (spTicksSides K)) (h7 : Has P w K mg base 1 "sides_wanted" ["order"] [] (spSidesWanted K)) :
    FnOk P w K mg base CX0 5 f fd ["base", "levels", "start", "due", "order"] (spSetTicks K) := by
  obtain ⟨f_check_base, fd_check_base, ds_check_base, G_check_base, m_check_base, k_check_base, b_check_base, v_check_base⟩ := h1
  obtain ⟨f_check_tick1, fd_check_tick1, ds_check_tick1, G_check_tick1, m_check_tick1, k_check_tick1, b_check_tick1, v_check_tick1⟩ := h2
  obtain ⟨f_check_tick, fd_check_tick, ds_check_tick, G_check_tick, m_check_tick, k_check_tick, b_check_tick, v_check_tick⟩ := h3
  obtain ⟨f_check_levels, fd_check_levels, ds_check_levels, G_check_levels, m_check_levels, k_check_levels, b_check_levels, v_check_levels⟩ := h4
  obtain ⟨f_check_order, fd_check_order, ds_check_order, G_check_order, m_check_order, k_check_order, b_check_order, v_check_order⟩ := h5
  obtain ⟨f_ticks_and_sides, fd_ticks_and_sides, ds_ticks_and_sides, G_ticks_and_sides, m_ticks_and_sides, k_ticks_and_sides, b_ticks_and_sides, v_ticks_and_sides⟩ := h6
  obtain ⟨f_sides_wanted, fd_sides_wanted, ds_sides_wanted, G_sides_wanted, m_sides_wanted, k_sides_wanted, b_sides_wanted, v_sides_wanted⟩ := h7
  refine F.ok sc_set_ticks (fun vs H Q E h => ?_) (fun cdv A outer s H vs Q E hr h => ?_)
  · obtain ⟨b, n, d, q, O, ws, o, rfl, _⟩ := h
    rfl
  · obtain ⟨b, n, d, q, O, ws, o, rfl, hb, hb64, hnd, hd, hL, hne, h60, hO, ho, hone, ho60, c⟩ := h
    refine ⟨_, (pss_cons (ps_expr (pe_call G_check_base (hr.mono (by decide)) (by rfl) m_check_base k_check_base b_check_base v_check_base pass0 (pa_cons (pv 0) pa_nil)))
      (pss_cons (ps_expr (pe_call G_check_levels hr (by rfl) m_check_levels k_check_levels b_check_levels v_check_levels pass0 (pa_cons (pv 1) pa_nil)))
      (pss_cons (ps_expr (pe_call G_check_tick1 (hr.mono (by decide)) (by rfl) m_check_tick1 k_check_tick1 b_check_tick1 v_check_tick1 pass0 (pa_cons (pv 2) pa_nil)))
      (pss_cons (ps_expr (pe_call G_check_tick (hr.mono (by decide)) (by rfl) m_check_tick k_check_tick b_check_tick v_check_tick pass0 (pa_cons (pv 3) (pa_cons (pe_op op_addN (pv 2) pe_int) pa_nil))))
      (pss_cons (ps_expr (pe_call G_check_order (hr.mono (by decide)) (by rfl) m_check_order k_check_order b_check_order v_check_order pass0 (pa_cons (pv 4) pa_nil)))
      (pss_cons (ps_set (i := 5) sc_set_ticks.nd rfl (.inl rfl) (pe_call G_ticks_and_sides (hr.mono (by decide)) (by rfl) m_ticks_and_sides k_ticks_and_sides b_ticks_and_sides v_ticks_and_sides pass0 (pa_cons (pv 0) (pa_cons (pv 1) (pa_cons (pv 2) (pa_cons (pv 3) pa_nil))))))
      (pss_cons (ps_set (i := 6) sc_set_ticks.nd rfl (.inl rfl) (pe_lst (pa_cons (pv 2) pa_nil)))
      (pss_cons (ps_set (i := 7) sc_set_ticks.nd rfl (.inl rfl) pe_int)
      (pss_cons (ps_for PassesOwn.never rfl (pi_list (pe_call G_sides_wanted (hr.mono (by decide)) (by rfl) m_sides_wanted k_sides_wanted b_sides_wanted v_sides_wanted pass0 (pa_cons (pv 4) pa_nil))) (pg_name (i := 8) sc_set_ticks.nd rfl (.inl rfl))
        (pss_cons (ps_while PassesOwn.never (PW.pt (pw_and (pt_cmpR op_lt (pv 7) (pe_callB (lenK (K := K) rfl) (by rfl) T.b_len PySem.boot_len (pa_cons (pv 5) pa_nil)) (nomark _)) (pw_and1 (pt_cmpR op_ne (pe_ix (ix_tupK (K := K) rfl) (pe_ix (ix_listK (K := K) rfl) (pv 5) (pv 7) (fun _ _ => rfl)) pe_int (fun _ _ => rfl)) (pv 8) (nomark _)))))
          (pss_one (ps_aug (i := 7) sc_set_ticks.nd rfl (.inl rfl) pe_int ip_add)))
        (pss_cons (ps_if (pt_cmpR op_eq (pv 7) (pe_callB (lenK (K := K) rfl) (by rfl) T.b_len PySem.boot_len (pa_cons (pv 5) pa_nil)) (nomark _))
          (pss_one (ps_ret (pe_tup (pa_cons pe_str (pa_cons (pe_callB (lenK (K := K) rfl) (by rfl) T.b_len PySem.boot_len (pa_cons (pv 6) pa_nil)) pa_nil)))))
          pss_nil)
        (pss_one (ps_expr (pe_bm PySem.F.plainAttrs_list PySem.F.slot_list_append PySem.F.type_list_append mt_append (pv 6) (pa_cons (pe_ix (ix_tupK (K := K) rfl) (pe_ix (ix_listK (K := K) rfl) (pv 5) (pv 7) (fun _ _ => rfl)) pe_int (fun _ _ => rfl)) pa_nil)))))))
      (pss_one (ps_ret (pe_tup (pa_cons pe_str (pa_cons (pv 6) pa_nil)))))))))))))), ?_⟩
    refine ⟨_, rfl, b, rfl, by omega, by omega, ?_⟩
    refine ⟨_, rfl, q, ws, rfl, hL, hne, h60, fun H1 s1 => ?_⟩
    refine ⟨_, rfl, n, 0, rfl, by omega, ?_⟩
    refine ⟨_, rfl, _, rfl, n, 1, rfl, rfl, trivial, d, _, rfl, by show ((n + 1 : Nat) : Int) ≤ _; omega, ?_⟩
    refine ⟨_, rfl, O, o, rfl, s1.seq hO, ho, hone, ho60, fun H2 s2 => ?_⟩
    have s2 := s1.trans s2
    obtain ⟨k, hk⟩ := lev_exists hb hnd
    refine ⟨_, rfl, _, rfl, _, rfl, _, rfl, b, n, d, q, ws, rfl, hb, hb64, hnd, hd, s2.seq hL, hne, fun k' hk' H3 R ts s3 hR0 eR TS => ?_⟩
    have ek := hk'.uniq hk
    subst ek
    have s3' := s2.trans s3
    have c := c k' hk
    have hlenR : (tsOf ws (rowsOf b n d k')).length ≤ 252 := by
      rw [ts_len]
      have a2 := lev_small hk hb hnd hd
      have a3 := tail_len b d k'
      show (tailOf b d k').length + 1 ≤ 252
      omega
    have hpos : 0 < (tsOf ws (rowsOf b n d k')).length := by
      rw [ts_len]
      exact Nat.succ_pos _
    generalize tsOf ws (rowsOf b n d k') = RS at TS c hlenR hpos
    have hts := TS.1
    refine ⟨_, rfl, by simp [sizeLine_eq], fun L hL0 => ?_⟩
    have u4 := same_upd (o := .lst [.int (n : Nat)]) hL0
    have eL := upd_same (H := H3) (a := L) (o := .lst [.int (n : Nat)])
    have s4 := s3'.trans u4
    have eR4 := u4 _ _ eR
    have TS4 := TS.same u4
    have hLH : H L = none := s3'.free hL0
    have nLR : L ≠ R := fun z => by
      rw [z, eR] at hL0
      cases hL0
    generalize upd H3 L (.lst [.int (n : Nat)]) = H4 at u4 eL s4 eR4 TS4 ⊢
    refine ⟨_, rfl, O, o, rfl, s4.seq hO, ho, hone, ho60, fun H5 N s5 hN0 eN => ?_⟩
    have hlw : (wantOf o).length ≤ 60 := by
      rw [wantOf_len]
      omega
    have nNL : N ≠ L := fun z => by
      rw [z, eL] at hN0
      cases hN0
    refine ⟨N, rfl, ⟨_, SqL.of eN⟩, for_list (K := K) (a := N) (xs := (wantOf o).map wV) (fun i σ H' => ∃ (a : Nat) (done : List Nat) (y8 : Option V), σ = [some (.int (b : Nat)), some (.ref q), some (.int (n : Nat)), some (.int (d : Nat)), some (.ref O), some (.ref R), some (.ref L), some (.int (a : Nat)), y8] ∧
        Same H H' ∧ H' R = some (.lst (ts.map V.ref)) ∧ TsAt H' ts RS ∧ H' L = some (.lst ((n :: done).map fun x => V.int (x : Nat))) ∧ H' N = some (.lst ((wantOf o).map wV)) ∧ a < RS.length ∧ done.length ≤ i ∧ ∀ xs ok, Pl RS a ((wantOf o).drop i) xs ok → Pl RS 0 (wantOf o) (done ++ xs) ok)
      ⟨0, [], none, rfl, s4.trans s5, s5 _ _ eR4, TS4.same s5, s5 _ _ eL, eN, hpos, Nat.le_refl _, fun xs ok h => h⟩ (fun i σ H' _ ⟨_, _, _, _, _, _, _, _, e, _⟩ => SqL.of e) ?_ ?_⟩
    · rintro i x σ H' hx ⟨a, done, y8, rfl, sm, eR, TS, eL, eN, ha, hdl, KP⟩
      have hi : i < ((wantOf o).map wV).length := (List.getElem?_eq_some_iff.mp hx).1
      rw [List.length_map] at hi
      rw [List.getElem?_map] at hx
      obtain ⟨wi, hwi⟩ : ∃ wi, (wantOf o)[i]? = some wi := ⟨_, List.getElem?_eq_getElem hi⟩
      rw [hwi] at hx
      have hx := Option.some.inj hx
      subst hx
      have ed : (wantOf o).drop i = wi :: (wantOf o).drop (i + 1) := by
        rw [List.drop_eq_getElem_cons hi]
        congr 1
        exact (List.getElem?_eq_some_iff.mp hwi).2
      rw [ed] at KP
      refine while_by (fun σ H'' => ∃ at_ : Nat, σ = [some (.int (b : Nat)), some (.ref q), some (.int (n : Nat)), some (.int (d : Nat)), some (.ref O), some (.ref R), some (.ref L), some (.int (at_ : Nat)), some (wV wi)] ∧ H'' = H' ∧ a ≤ at_ ∧ at_ ≤ RS.length ∧ ∀ j r, a ≤ j → j < at_ → RS[j]? = some r → some r.2 ≠ wi)
        (fun σ _ => RS.length - slotInt σ 7) ⟨a, rfl, rfl, Nat.le_refl _, Nat.le_of_lt ha, fun j r h1 h2 => by omega⟩ ?_ ?_
      · rintro σ H'' ⟨at_, rfl, rfl, h1, h2, hno⟩
        by_cases c1 : at_ < RS.length
        · refine ⟨_, rfl, _, rfl, R, _, rfl, .inl (SqL.of eR), _, _, rfl, rfl, true, dT (by rw [List.length_map, hts]; omega), iteT ?_⟩
          have hat : at_ < ts.length := by omega
          obtain ⟨t, ht⟩ : ∃ t, ts[at_]? = some t := ⟨_, List.getElem?_eq_getElem hat⟩
          obtain ⟨r, hr⟩ : ∃ r, RS[at_]? = some r := ⟨_, List.getElem?_eq_getElem c1⟩
          have et := TS.2 at_ t r ht hr
          have g1 : (ts.map V.ref)[at_]? = some (.ref t) := by
            rw [List.getElem?_map, ht]
            rfl
          refine ⟨_, rfl, _, rfl, R, _, _, _, rfl, rfl, SqL.of eR, atI_nat g1, t, _, 1, _, rfl, rfl, SqT.of et, atI_nat (j := 1) rfl, _, rfl, ?_, ?_⟩
          · cases wi <;> rfl
          by_cases c2 : some r.2 = wi
          · refine ⟨false, ?_, iteF ?_⟩
            · rw [← c2]
              exact nF rfl
            refine ⟨_, rfl, _, rfl, R, _, rfl, .inl (SqL.of eR), rfl, false, dF (vN ?_), iteF ?_⟩
            · rw [List.length_map, hts]
              omega
            refine ⟨_, rfl, .inl ⟨rfl, _, SqL.of eL⟩, _, rfl, _, rfl, R, _, _, _, rfl, rfl, SqL.of eR, atI_nat g1, t, _, 0, _, rfl, rfl, SqT.of et, atI_nat (j := 0) rfl, L, _, _, rfl, rfl, eL, ?_, ?_⟩
            · rw [List.length_map, List.length_cons]
              exact sizeLine_ge (by omega)
            refine ⟨at_, done ++ [r.1], _, rfl, fun c o e => ?_, ?_, TS.upd eL, ?_, ?_, c1, ?_, Pl.step KP hr h1 c2 hno⟩
            · rw [upd_ne (ne_of_none e hLH)]
              exact sm _ _ e
            · rw [upd_ne (Ne.symm nLR)]
              exact eR
            · rw [upd_same, ← List.cons_append, List.map_append]
              rfl
            · rw [upd_ne nNL]
              exact eN
            · rw [List.length_append, List.length_singleton]
              omega
          · refine ⟨true, ?_, iteT ⟨_, rfl, _, _, rfl, rfl, ⟨at_ + 1, rfl, rfl, by omega, c1, fun j r' h3 h4 h5 => ?_⟩, ?_⟩⟩
            · refine nT fun z => c2 ?_
              cases wi with
              | none => cases z
              | some v =>
                have : V.bl r.2 = V.bl v := z
                cases this
                rfl
            · by_cases e : j = at_
              · subst e
                rw [hr] at h5
                cases h5
                exact c2
              · exact hno j r' h3 (by omega) h5
            · show RS.length - (((at_ + 1 : Nat) : Int)).toNat < RS.length - ((at_ : Nat) : Int).toNat
              omega
        · have e : at_ = RS.length := by omega
          refine ⟨_, rfl, _, rfl, R, _, rfl, .inl (SqL.of eR), _, _, rfl, rfl, false, dF (by rw [List.length_map, hts]; omega), iteF (iteF ?_)⟩
          refine ⟨_, rfl, _, rfl, R, _, rfl, .inl (SqL.of eR), rfl, true, dT (vE ?_), iteT ?_⟩
          · rw [List.length_map, hts]
            exact e
          refine ⟨_, rfl, L, _, rfl, .inl (SqL.of eL), by simp [sizeLine_eq], fun p hp => ?_⟩
          have u6 := same_upd (o := .tup [.str "never", .int ((((n :: done).map fun x => V.int (x : Nat)).length : Nat) : Int)]) hp
          have e6 := upd_same (H := H'') (a := p) (o := .tup [.str "never", .int ((((n :: done).map fun x => V.int (x : Nat)).length : Nat) : Int)])
          have P0 := KP [] false (.stop fun j r h3 h4 => hno j r h3 (by have := (List.getElem?_eq_some_iff.mp h4).1; omega) h4)
          rw [List.append_nil] at P0
          refine c done false P0 _ p (sm.trans u6) (sm.free hp) ?_ fun L' hL' => ?_
          · show _ = some (HO.tup [.str "never", .int ((done.length + 1 : Nat) : Int)])
            rw [e6, List.length_map]
            rfl
          · rw [e6] at hL'
            cases hL'
      · rintro σ H' Q1 Q2 h ⟨x, hx, x2, hx2, R', xs', e1, e2, i, j, e3, e4, k, e, z⟩
        refine ⟨x, hx, x2, hx2, R', xs', e1, e2, i, j, e3, e4, k, e, ?_⟩
        cases k with
        | false => exact iteF (h _ _ (by rw [if_neg Bool.false_ne_true] at z; exact z))
        | true =>
          rw [if_pos rfl] at z
          refine iteT ?_
          obtain ⟨a1, b1, a2, b2, q1, l1, i1, v1, e5, e6, hs1, g1, q2, l2, i2, v2, e7, e8, hs2, g2, y1, hy1, hsc, k', ek, zz⟩ := z
          exact ⟨a1, b1, a2, b2, q1, l1, i1, v1, e5, e6, hs1, g1, q2, l2, i2, v2, e7, e8, hs2, g2, y1, hy1, hsc, k', ek, h _ _ zz⟩
    · rintro σ H' ⟨a, done, y8, rfl, sm, eR, TS, eL, eN, ha, hdl, KP⟩
      rw [List.length_map, List.drop_length] at KP
      refine ⟨_, rfl, by simp [sizeLine_eq], fun p hp => ?_⟩
      have u6 := same_upd (o := .tup [.str "ticks", .ref L]) hp
      have e6 := upd_same (H := H') (a := p) (o := .tup [.str "ticks", .ref L])
      have P0 := KP [] true .nil
      rw [List.append_nil] at P0
      refine c done true P0 _ p (sm.trans u6) (sm.free hp) ⟨L, e6, u6 _ _ eL⟩ fun L' hL' => ?_
      rw [e6] at hL'
      cases hL'
      exact hLH
end
/-! ### plans and sightings of any value: set_ticks, told_apart, levels_seen may raise -/
def castL (l : List Nat) : List Int := l.map fun x : Nat => ((x : Nat) : Int)
/-- what is no list of all numbers once -/
def BadOrder (K : PySem.W.Frag) (H : Hp) (x : V) : Prop := NotA K H "list" x ∨ ∃ (O : Addr) (xs : List V), x = .ref O ∧ SqL K H O xs ∧ xs.length ≤ 100 ∧ (xs = [] ∨ (xs ≠ [] ∧ (∀ v ∈ xs, (∃ n : Int, v = .int n) ∨ NoInt K H v) ∧ ∃ v ∈ xs, NoInt K H v) ∨
  ∃ ns : List Int, xs = ns.map V.int ∧ ns ≠ [] ∧ ¬ ns.Perm (castL (List.range ns.length)))
theorem BadOrder.same {K : PySem.W.Frag} {H H' : Hp} {x : V} (s : Same H H') (h : BadOrder K H x) : BadOrder K H' x := by
  rcases h with h | ⟨O, xs, e, h1, l, h2⟩
  · exact .inl (h.same s)
  · refine .inr ⟨O, xs, e, s.seq h1, l, h2.imp id fun h2 => h2.imp (fun ⟨h3, h4, v, hv, h5⟩ => ⟨h3, fun v hv => (h4 v hv).imp id (·.same s), v, hv, h5.same s⟩) id⟩
theorem ints_lay : ∀ ns : List Int, PyData.canLayAll0 (ns.map PyData.int) = true
  | [] => rfl
  | n :: ns => by
    show ((PyData.int n).canLay0 && PyData.canLayAll0 (ns.map PyData.int)) = true
    rw [ints_lay ns]
    simp [PyData.canLay0]
theorem ints_depth : ∀ ns : List Int, PyData.depthAll (ns.map PyData.int) = 0
  | [] => rfl
  | n :: ns => by
    show max (PyData.int n).depth (PyData.depthAll (ns.map PyData.int)) = 0
    rw [ints_depth ns]
    rfl
theorem ints_shaped (ns : List Int) : SeqAt.shaped (.list (ns.map PyData.int)) = true := by
  have h1 : (PyData.list (ns.map PyData.int)).canLay0 = true := ints_lay ns
  have h2 : (PyData.list (ns.map PyData.int)).depth ≤ 64 := by
    show PyData.depthAll (ns.map PyData.int) + 1 ≤ 64
    rw [ints_depth ns]
    decide
  unfold SeqAt.shaped
  rw [h1, decide_eq_true h2]
  rfl
theorem ints_dp {K : PySem.W.Frag} {H : Hp} : ∀ ns : List Int, DpAll K H (ns.map V.int) (ns.map PyData.int)
  | [] => .nil
  | _ :: r => .cons (.int _) (ints_dp r)
theorem eqvA_ints : ∀ {ns ms : List Int}, PyData.eqvAll (ns.map PyData.int) (ms.map PyData.int) = true → ns = ms
  | [], [], _ => rfl
  | [], _ :: _, h => by cases h
  | _ :: _, [], h => by cases h
  | n :: ns, m :: ms, h => by
    have h' : (PyData.eqv (.int n) (.int m) && PyData.eqvAll (ns.map PyData.int) (ms.map PyData.int)) = true := h
    rw [Bool.and_eq_true] at h'
    have e : n = m := by simpa [PyData.eqv] using h'.1
    rw [eqvA_ints h'.2, e]
theorem ints_differ {l m : List Int} (h : l ≠ m) : V.bl (!PyData.eqv (.list (l.map PyData.int)) (.list (m.map PyData.int))) = V.bl true := by
  cases e : PyData.eqv (.list (l.map PyData.int)) (.list (m.map PyData.int)) with
  | false => rfl
  | true => exact absurd (eqvA_ints (show PyData.eqvAll (l.map PyData.int) (m.map PyData.int) = true from e)) h
theorem rg_cast (n : Nat) : rgV 0 ((n : Nat) : Int) = (castL (List.range n)).map V.int := by
  unfold rgV castL
  rw [List.map_map]
  have : (((n : Nat) : Int) - 0).toNat = n := by omega
  rw [this]
  refine List.map_congr_left fun x _ => ?_
  rw [Int.zero_add]
  rfl
section
variable {P : Program} {w : World} {K : PySem.W.Frag} {mg : Str → Option Value} {base : Heap}
def spOrderX (K : PySem.W.Frag) (CN : Addr) : Sp := fun vs H _ E => ∃ x : V, vs = [x] ∧ BadOrder K H x ∧ ∀ H', Same H H' → E (.ref CN) none H'
theorem okX_check_order {f c_NoOrder : Addr} {fd : FuncData} (F : Fun K "check_order" "check_order" s_check_order f fd) (T : Tx K mg) (X_NoOrder : EC K mg "NoOrder" c_NoOrder) (h1 : Has P w K mg base 1 "is_integer" ["given"] [] (spIsIntX K)) : FnOk P w K mg base (L2.CX P w) 2 f fd ["order"] (spOrderX K c_NoOrder) := by
  obtain ⟨f_is_integer, fd_is_integer, ds_is_integer, G_is_integer, m_is_integer, k_is_integer, b_is_integer, v_is_integer⟩ := h1
  refine F.okX sc_check_order (fun vs H Q E h => ?_) (fun cdv A outer s H vs Q E hr h => ?_)
  · obtain ⟨x, rfl, _⟩ := h
    rfl
  · obtain ⟨x, rfl, h, c⟩ := h
    refine ⟨_, (pss_cons (ps_if (PW.pt (pw_or (pt_not (pt_val (pe_callB (isiK (K := K) rfl) (by rfl) T.b_isinstance (by decide +kernel) (pa_cons (pv 0) (pa_cons (pe_bltn (v := .ty "list") (u := .type "list") (by rfl) T.b_list (by decide +kernel) rfl) pa_nil))))) (pw_or1 (pt_cmpR op_eq (pe_callB (lenK (K := K) rfl) (by rfl) T.b_len PySem.boot_len (pa_cons (pv 0) pa_nil)) pe_int (nomark _)))))
        (pss_one (ps_raise rfl (takes_of rfl rfl rfl rfl) (pmk_own PySem.F.excBase_ValueError X_NoOrder.x X_NoOrder.g X_NoOrder.k (raises_own X_NoOrder.b X_NoOrder.t) rfl)))
        pss_nil)
      (pss_one (ps_if (PW.pt (pw_or (pt_not (pt_val (pe_callB (allK (K := K) rfl rfl) (by rfl) T.b_all (by decide +kernel) (pa_cons (pe_lc (own := [("number", 1)]) (g := gName 1) (tt := tYes) rfl sc_check_order.nd (pi_list (pv 0)) (blkOk_by (own := [("number", 1)]) (N := N_check_order) (sc := defScope s_check_order) (by decide +kernel)) (fun _ _ _ _ _ => (pg_name (i := 1) sc_check_order.nd rfl (.inl rfl))) (fun _ _ _ _ _ => pts_nil) (fun _ _ _ _ _ => (pe_call G_is_integer hr (by rfl) m_is_integer k_is_integer b_is_integer v_is_integer pass0 (pa_cons (pv 1) pa_nil)))) pa_nil)))) (pw_or1 (pt_cmpR (op_neK (K := K) rfl hr.units) (pe_callB cr_sortedI (by rfl) T.b_sorted (by decide +kernel) (pa_cons (pv 0) pa_nil)) (pe_listRg rfl (by rfl) T.b_list (prg_1 (by rfl) T.b_range (pe_callB (lenK (K := K) rfl) (by rfl) T.b_len PySem.boot_len (pa_cons (pv 0) pa_nil)))) (nomark _)))))
        (pss_one (ps_raise rfl (takes_of rfl rfl rfl rfl) (pmk_own PySem.F.excBase_ValueError X_NoOrder.x X_NoOrder.g X_NoOrder.k (raises_own X_NoOrder.b X_NoOrder.t) rfl)))
        pss_nil))), ?_⟩
    rcases h with ⟨a, ht, hk⟩ | ⟨O, xs, rfl, hO, l, h⟩
    · exact ⟨x, rfl, _, _, _, _, false, rfl, .ty "list", ht, kit_ty hk, false, rfl, iteT (iteT (c H fun _ _ e => e))⟩
    refine ⟨.ref O, rfl, _, _, _, _, true, rfl, .ty "list", tyx_list hO, kit_ty (by decide +kernel), true, rfl, iteF ?_⟩
    rcases h with rfl | h
    · exact ⟨.ref O, rfl, O, _, rfl, .inl hO, rfl, true, dT rfl, iteT (c H fun _ _ e => e)⟩
    have hne : xs ≠ [] := by
      rcases h with ⟨h, _⟩ | ⟨ns, rfl, hn, _⟩
      · exact h
      · simpa using hn
    have hpos := List.length_pos_iff.mpr hne
    refine ⟨.ref O, rfl, O, _, rfl, .inl hO, rfl, false, dF (vN (b := 0) (by omega)), iteF ?_⟩
    -- which are integers
    obtain ⟨bs, hbl, hbs, hall⟩ : ∃ bs : List Bool, bs.length = xs.length ∧ (∀ (j : Nat) (v : V), xs[j]? = some v → (bs[j]? = some true ∧ ∃ n : Int, v = .int n) ∨ (bs[j]? = some false ∧ NoInt K H v)) ∧ (bs.all id = true → ∃ ns : List Int, xs = ns.map V.int ∧ ¬ ns.Perm (castL (List.range ns.length))) := by
      rcases h with ⟨_, hg, v0, hv0, hb0⟩ | ⟨ns, rfl, _, hp⟩
      · refine ⟨xs.map fun v => !(@decide (NoInt K H v) (Classical.propDecidable _)), List.length_map .., fun j v hv => ?_, fun e => ?_⟩
        · rcases Classical.em (NoInt K H v) with hb | hb
          · exact .inr ⟨by rw [List.getElem?_map, hv]; simp [hb], hb⟩
          · exact .inl ⟨by rw [List.getElem?_map, hv]; simp [hb], (hg v (List.mem_of_getElem? hv)).resolve_right hb⟩
        · have z := List.all_eq_true.mp e false (List.mem_map.mpr ⟨v0, hv0, by simp [hb0]⟩)
          cases z
      · refine ⟨(ns.map V.int).map fun _ => true, List.length_map .., fun j v hv => .inl ⟨by rw [List.getElem?_map, hv]; rfl, ?_⟩, fun _ => ⟨ns, rfl, hp⟩⟩
        obtain ⟨n, _, e⟩ := List.mem_map.mp (List.mem_of_getElem? hv)
        exact ⟨n, e.symm⟩
    clear h
    refine ⟨.ref O, rfl, O, rfl, ⟨_, hO⟩, fun D hD => lc_list (K := K) (a := O) (xs := xs) (fun i H' => Same H H' ∧ H' D = some (.lst ((bs.take i).map V.bl)))
      ⟨same_upd hD, upd_same⟩ (fun i H' _ ⟨sm, _⟩ => sm.seq hO) ?_ ?_⟩
    · rintro i x H' hx ⟨sm, eD⟩
      have hi : i < xs.length := (List.getElem?_eq_some_iff.mp hx).1
      refine ⟨rfl, yesT (iteT ?_)⟩
      have fin : ∀ b, bs[i]? = some b → ∃ acc, H' D = some (.lst acc) ∧ acc.length < sizeLine ∧ (Same H (upd H' D (.lst (acc ++ [V.bl b]))) ∧ (upd H' D (.lst (acc ++ [V.bl b]))) D = some (.lst ((bs.take (i + 1)).map V.bl))) := fun b hb => by
        refine ⟨_, eD, ?_, fun c o e => ?_, ?_⟩
        · rw [List.length_map, List.length_take]
          exact sizeLine_ge (by omega)
        · rw [upd_ne (ne_of_none e hD)]
          exact sm _ _ e
        · rw [upd_same, List.take_add_one, hb, List.map_append]
          rfl
      rcases hbs i x hx with ⟨hb, n, rfl⟩ | ⟨hb, hs⟩
      · exact ⟨_, rfl, _, rfl, .inl ⟨n, rfl, fin true hb⟩⟩
      · exact ⟨_, rfl, x, rfl, .inr ⟨hs.same sm, fin false hb⟩⟩
    · rintro H1 ⟨s1, eD⟩
      rw [← hbl, List.take_length] at eD
      refine ⟨D, _, rfl, SqL.of eD, ?_⟩
      cases hb : bs.all id with
      | false => exact ⟨false, rfl, iteT (iteT (c H1 s1))⟩
      | true =>
        obtain ⟨ns, rfl, hp⟩ := hall hb
        refine ⟨true, rfl, iteF ?_⟩
        refine ⟨_, rfl, O, ns, rfl, s1.seq hO, fun ns' r hperm hsort hr => ?_⟩
        have s2 := s1.trans (same_upd (o := .lst (ns'.map V.int)) hr)
        have er := upd_same (H := H1) (a := r) (o := .lst (ns'.map V.int))
        generalize upd H1 r (.lst (ns'.map V.int)) = H2 at s2 er ⊢
        refine ⟨_, rfl, O, _, rfl, .inl (s2.seq hO), _, rfl, ⟨by decide, by decide, by omega, by omega, by omega⟩, fun u hu => ?_⟩
        have s3 := s2.trans (same_upd (o := .lst (rgV 0 (((ns.map V.int).length : Nat) : Int))) hu)
        have er3 := same_upd (o := .lst (rgV 0 (((ns.map V.int).length : Nat) : Int))) hu _ _ er
        have eu := upd_same (H := H2) (a := u) (o := .lst (rgV 0 (((ns.map V.int).length : Nat) : Int)))
        have erg : rgV 0 (((ns.map V.int).length : Nat) : Int) = (castL (List.range ns.length)).map V.int := by
          rw [List.length_map]
          exact rg_cast _
        rw [erg] at eu
        have hne2 : ns' ≠ castL (List.range ns.length) := fun z => hp (by rw [← z]; exact hperm.symm)
        exact ⟨_, _, .lst (SqL.of er3) (ints_dp ns'), .lst (SqL.of (by rw [erg]; exact eu)) (ints_dp _), ints_shaped _, ints_shaped _, true, ints_differ hne2, iteT (c _ s3)⟩
end
/-! ### set_ticks, told_apart, levels_seen with bad arguments: the first one is told -/
def GoodB (x : V) : Prop := ∃ b : Nat, x = .int (b : Nat) ∧ 2 ≤ b ∧ b ≤ 64
def GoodL (K : PySem.W.Frag) (H : Hp) (x : V) : Prop := ∃ (q : Addr) (ws : List Bool), x = .ref q ∧ SqL K H q (ws.map lvV) ∧ ws ≠ [] ∧ ws.length ≤ 60
theorem GoodL.same {K : PySem.W.Frag} {H H' : Hp} {x : V} (s : Same H H') (h : GoodL K H x) : GoodL K H' x := by
  obtain ⟨q, ws, e, h1, h2⟩ := h
  exact ⟨q, ws, e, s.seq h1, h2⟩
/-- 0 a base, 1 levels, 2 a tick, 3 an order, 4 sightings -/
def errOf5 (cB cL cT cO cS : Addr) : Nat → Addr
  | 0 => cB
  | 1 => cL
  | 2 => cT
  | 3 => cO
  | _ => cS
def SetBad (K : PySem.W.Frag) (H : Hp) (x0 x1 x2 x3 x4 : V) (e : Nat) : Prop := (e = 0 ∧ BadBase K H x0) ∨ (GoodB x0 ∧ ((e = 1 ∧ BadLevels K H x1) ∨ (GoodL K H x1 ∧ ((e = 2 ∧ BadTick K H x2 0) ∨ ∃ n : Nat, x2 = .int (n : Nat) ∧ ((e = 2 ∧ BadTick K H x3 ((n : Int) + 1)) ∨ ∃ d : Nat, x3 = .int (d : Nat) ∧ n < d ∧ e = 3 ∧ BadOrder K H x4)))))
theorem SetBad.same {K : PySem.W.Frag} {H H' : Hp} {x0 x1 x2 x3 x4 : V} {e : Nat} (s : Same H H') (h : SetBad K H x0 x1 x2 x3 x4 e) : SetBad K H' x0 x1 x2 x3 x4 e :=
  h.imp (fun z => ⟨z.1, z.2.same s⟩) fun ⟨g0, h⟩ => ⟨g0, h.imp (fun z => ⟨z.1, z.2.same s⟩) fun ⟨g1, h⟩ => ⟨g1.same s, h.imp (fun z => ⟨z.1, z.2.same s⟩) fun ⟨n, e2, h⟩ => ⟨n, e2, h.imp (fun z => ⟨z.1, z.2.same s⟩) fun ⟨d, e3, l, z⟩ => ⟨d, e3, l, z.1, z.2.same s⟩⟩⟩⟩
def ToldBad (K : PySem.W.Frag) (H : Hp) (x0 x1 x2 x3 : V) (e : Nat) : Prop := (e = 0 ∧ BadBase K H x0) ∨ (GoodB x0 ∧ ((e = 1 ∧ BadLevels K H x1) ∨ (GoodL K H x1 ∧ ((e = 0 ∧ BadBase K H x2) ∨ (GoodB x2 ∧ e = 1 ∧ BadLevels K H x3)))))
theorem ToldBad.same {K : PySem.W.Frag} {H H' : Hp} {x0 x1 x2 x3 : V} {e : Nat} (s : Same H H') (h : ToldBad K H x0 x1 x2 x3 e) : ToldBad K H' x0 x1 x2 x3 e :=
  h.imp (fun z => ⟨z.1, z.2.same s⟩) fun ⟨g0, h⟩ => ⟨g0, h.imp (fun z => ⟨z.1, z.2.same s⟩) fun ⟨g1, h⟩ => ⟨g1.same s, h.imp (fun z => ⟨z.1, z.2.same s⟩) fun ⟨g2, z⟩ => ⟨g2, z.1, z.2.same s⟩⟩⟩
def SeenBad (K : PySem.W.Frag) (H : Hp) (x0 x1 x2 : V) (e : Nat) : Prop := (e = 0 ∧ BadBase K H x0) ∨ (GoodB x0 ∧ ((e = 1 ∧ BadLength K H x1) ∨ ∃ n : Nat, x1 = .int (n : Nat) ∧ 1 ≤ n ∧ n ≤ 60 ∧ e = 4 ∧ BadSeen K H x2))
theorem SeenBad.same {K : PySem.W.Frag} {H H' : Hp} {x0 x1 x2 : V} {e : Nat} (s : Same H H') (h : SeenBad K H x0 x1 x2 e) : SeenBad K H' x0 x1 x2 e :=
  h.imp (fun z => ⟨z.1, z.2.same s⟩) fun ⟨g0, h⟩ => ⟨g0, h.imp (fun z => ⟨z.1, z.2.same s⟩) fun ⟨n, e2, l1, l2, z⟩ => ⟨n, e2, l1, l2, z.1, z.2.same s⟩⟩
section
variable {P : Program} {w : World} {K : PySem.W.Frag} {mg : Str → Option Value} {base : Heap}
def spSetBad (K : PySem.W.Frag) (cB cL cT cO cS : Addr) : Sp := fun vs H _ E => ∃ x0 x1 x2 x3 x4 : V, vs = [x0, x1, x2, x3, x4] ∧ ∃ e, SetBad K H x0 x1 x2 x3 x4 e ∧ ∀ H', Same H H' → E (.ref (errOf5 cB cL cT cO cS e)) none H'
theorem okX_set_bad {f cB cL cT cO cS : Addr} {fd : FuncData} (F : Fun K "set_ticks" "set_ticks" s_set_ticks f fd) (T : Tx K mg) (h1 : HasX P w K mg base 3 "check_base" ["base"] [] (spCheckBaseX K cB)) (h2 : HasX P w K mg base 4 "check_levels" ["levels"] [] (spCheckLevelsX K cL))
    (h3 : HasX P w K mg base 3 "check_tick" ["tick", "least"] [.int 0] (spCheckTickX K cT)) (h4 : HasX P w K mg base 3 "check_tick" ["tick", "least"] [] (spCheckTickX K cT)) (h5 : HasX P w K mg base 2 "check_order" ["order"] [] (spOrderX K cO))
    (h6 : Has P w K mg base 3 "ticks_and_sides" ["base", "levels", "start", "due"] [] (spTicksSides K)) (h7 : Has P w K mg base 1 "sides_wanted" ["order"] [] (spSidesWanted K)) :
    FnOk P w K mg base (L2.CX P w) 5 f fd ["base", "levels", "start", "due", "order"] (spSetBad K cB cL cT cO cS) := by
  obtain ⟨f_check_base, fd_check_base, ds_check_base, G_check_base, m_check_base, k_check_base, b_check_base, v_check_base⟩ := h1
  obtain ⟨f_check_levels, fd_check_levels, ds_check_levels, G_check_levels, m_check_levels, k_check_levels, b_check_levels, v_check_levels⟩ := h2
  obtain ⟨f_check_tick1, fd_check_tick1, ds_check_tick1, G_check_tick1, m_check_tick1, k_check_tick1, b_check_tick1, v_check_tick1⟩ := h3
  obtain ⟨f_check_tick, fd_check_tick, ds_check_tick, G_check_tick, m_check_tick, k_check_tick, b_check_tick, v_check_tick⟩ := h4
  obtain ⟨f_check_order, fd_check_order, ds_check_order, G_check_order, m_check_order, k_check_order, b_check_order, v_check_order⟩ := h5
  obtain ⟨f_ticks_and_sides, fd_ticks_and_sides, ds_ticks_and_sides, G_ticks_and_sides, m_ticks_and_sides, k_ticks_and_sides, b_ticks_and_sides, v_ticks_and_sides⟩ := h6
  obtain ⟨f_sides_wanted, fd_sides_wanted, ds_sides_wanted, G_sides_wanted, m_sides_wanted, k_sides_wanted, b_sides_wanted, v_sides_wanted⟩ := h7
  refine F.okX sc_set_ticks (fun vs H Q E h => ?_) (fun cdv A outer s H vs Q E hr h => ?_)
  · obtain ⟨x0, x1, x2, x3, x4, rfl, _⟩ := h
    rfl
  · obtain ⟨x0, x1, x2, x3, x4, rfl, e, h, c⟩ := h
    refine ⟨_, (pss_cons (ps_expr (pe_call G_check_base (hr.mono (by decide)) (by rfl) m_check_base k_check_base b_check_base v_check_base (passes_call (takes_of rfl rfl rfl rfl) (fun _ _ _ _ h => h)) (pa_cons (pv 0) pa_nil)))
      (pss_cons (ps_expr (pe_call G_check_levels hr (by rfl) m_check_levels k_check_levels b_check_levels v_check_levels (passes_call (takes_of rfl rfl rfl rfl) (fun _ _ _ _ h => h)) (pa_cons (pv 1) pa_nil)))
      (pss_cons (ps_expr (pe_call G_check_tick1 (hr.mono (by decide)) (by rfl) m_check_tick1 k_check_tick1 b_check_tick1 v_check_tick1 (passes_call (takes_of rfl rfl rfl rfl) (fun _ _ _ _ h => h)) (pa_cons (pv 2) pa_nil)))
      (pss_cons (ps_expr (pe_call G_check_tick (hr.mono (by decide)) (by rfl) m_check_tick k_check_tick b_check_tick v_check_tick (passes_call (takes_of rfl rfl rfl rfl) (fun _ _ _ _ h => h)) (pa_cons (pv 3) (pa_cons (pe_op op_addN (pv 2) pe_int) pa_nil))))
      (pss_cons (ps_expr (pe_call G_check_order (hr.mono (by decide)) (by rfl) m_check_order k_check_order b_check_order v_check_order (passes_call (takes_of rfl rfl rfl rfl) (fun _ _ _ _ h => h)) (pa_cons (pv 4) pa_nil)))
      (pss_cons (ps_set (i := 5) sc_set_ticks.nd rfl (.inl rfl) (pe_call G_ticks_and_sides (hr.mono (by decide)) (by rfl) m_ticks_and_sides k_ticks_and_sides b_ticks_and_sides v_ticks_and_sides pass0 (pa_cons (pv 0) (pa_cons (pv 1) (pa_cons (pv 2) (pa_cons (pv 3) pa_nil))))))
      (pss_cons (ps_set (i := 6) sc_set_ticks.nd rfl (.inl rfl) (pe_lst (pa_cons (pv 2) pa_nil)))
      (pss_cons (ps_set (i := 7) sc_set_ticks.nd rfl (.inl rfl) pe_int)
      (pss_cons (ps_for (passes_of rfl) rfl (pi_list (pe_call G_sides_wanted (hr.mono (by decide)) (by rfl) m_sides_wanted k_sides_wanted b_sides_wanted v_sides_wanted pass0 (pa_cons (pv 4) pa_nil))) (pg_name (i := 8) sc_set_ticks.nd rfl (.inl rfl))
        (pss_cons (ps_while (passes_of rfl) (PW.pt (pw_and (pt_cmpR op_lt (pv 7) (pe_callB (lenK (K := K) rfl) (by rfl) T.b_len PySem.boot_len (pa_cons (pv 5) pa_nil)) (nomark _)) (pw_and1 (pt_cmpR op_ne (pe_ix (ix_tupK (K := K) rfl) (pe_ix (ix_listK (K := K) rfl) (pv 5) (pv 7) (fun _ _ => rfl)) pe_int (fun _ _ => rfl)) (pv 8) (nomark _)))))
          (pss_one (ps_aug (i := 7) sc_set_ticks.nd rfl (.inl rfl) pe_int ip_add)))
        (pss_cons (ps_if (pt_cmpR op_eq (pv 7) (pe_callB (lenK (K := K) rfl) (by rfl) T.b_len PySem.boot_len (pa_cons (pv 5) pa_nil)) (nomark _))
          (pss_one (ps_ret (pe_tup (pa_cons pe_str (pa_cons (pe_callB (lenK (K := K) rfl) (by rfl) T.b_len PySem.boot_len (pa_cons (pv 6) pa_nil)) pa_nil)))))
          pss_nil)
        (pss_one (ps_expr (pe_bm PySem.F.plainAttrs_list PySem.F.slot_list_append PySem.F.type_list_append mt_append (pv 6) (pa_cons (pe_ix (ix_tupK (K := K) rfl) (pe_ix (ix_listK (K := K) rfl) (pv 5) (pv 7) (fun _ _ => rfl)) pe_int (fun _ _ => rfl)) pa_nil)))))))
      (pss_one (ps_ret (pe_tup (pa_cons pe_str (pa_cons (pv 6) pa_nil)))))))))))))), ?_⟩
    rcases h with ⟨rfl, hb⟩ | ⟨⟨b, rfl, b2, b64⟩, h⟩
    · exact ⟨x0, rfl, x0, rfl, .inr ⟨hb, c _ fun _ _ e => e⟩⟩
    refine ⟨_, rfl, _, rfl, .inl ⟨(b : Nat), rfl, by omega, by omega, ?_⟩⟩
    rcases h with ⟨rfl, hb⟩ | ⟨⟨q, ws, rfl, hL, hne, h60⟩, h⟩
    · exact ⟨x1, rfl, x1, rfl, .inr ⟨hb, fun H1 s1 => c H1 s1⟩⟩
    refine ⟨_, rfl, _, rfl, .inl ⟨q, ws, rfl, hL, hne, h60, fun H1 s1 => ?_⟩⟩
    rcases h with ⟨rfl, hb⟩ | ⟨n, rfl, h⟩
    · exact ⟨x2, rfl, x2, 0, rfl, .inr ⟨hb.same s1, c H1 s1⟩⟩
    refine ⟨_, rfl, _, 0, rfl, .inl ⟨(n : Nat), rfl, by omega, ?_⟩⟩
    have e1 : ((n + 1 : Nat) : Int) = (n : Int) + 1 := by omega
    rcases h with ⟨rfl, hb⟩ | ⟨d, rfl, hnd, rfl, hb⟩
    · refine ⟨x3, rfl, _, rfl, n, 1, rfl, rfl, trivial, x3, ((n + 1 : Nat) : Int), rfl, .inr ⟨?_, c H1 s1⟩⟩
      rw [e1]
      exact hb.same s1
    refine ⟨_, rfl, _, rfl, n, 1, rfl, rfl, trivial, .int (d : Nat), ((n + 1 : Nat) : Int), rfl, .inl ⟨(d : Nat), rfl, by omega, ?_⟩⟩
    exact ⟨x4, rfl, x4, rfl, hb.same s1, fun H2 s2 => c H2 (s1.trans s2)⟩
def spToldBad (K : PySem.W.Frag) (cB cL cT cO cS : Addr) : Sp := fun vs H _ E => ∃ x0 x1 x2 x3 : V, vs = [x0, x1, x2, x3] ∧ ∃ e, ToldBad K H x0 x1 x2 x3 e ∧ ∀ H', Same H H' → E (.ref (errOf5 cB cL cT cO cS e)) none H'
theorem okX_told_bad {f cB cL cT cO cS : Addr} {fd : FuncData} (F : Fun K "told_apart" "told_apart" s_told_apart f fd) (h1 : HasX P w K mg base 3 "check_base" ["base"] [] (spCheckBaseX K cB)) (h2 : HasX P w K mg base 4 "check_levels" ["levels"] [] (spCheckLevelsX K cL))
    (h3 : Has P w K mg base 2 "telling_dues" ["base", "levels", "other_base", "other_levels"] [] (spTelling K)) (h4 : Has P w K mg base 4 "first_difference" ["base", "levels", "other_base", "other_levels", "due"] [] (spFstD K)) :
    FnOk P w K mg base (L2.CX P w) 5 f fd ["base", "levels", "other_base", "other_levels"] (spToldBad K cB cL cT cO cS) := by
  obtain ⟨f_check_base, fd_check_base, ds_check_base, G_check_base, m_check_base, k_check_base, b_check_base, v_check_base⟩ := h1
  obtain ⟨f_check_levels, fd_check_levels, ds_check_levels, G_check_levels, m_check_levels, k_check_levels, b_check_levels, v_check_levels⟩ := h2
  obtain ⟨f_telling_dues, fd_telling_dues, ds_telling_dues, G_telling_dues, m_telling_dues, k_telling_dues, b_telling_dues, v_telling_dues⟩ := h3
  obtain ⟨f_first_difference, fd_first_difference, ds_first_difference, G_first_difference, m_first_difference, k_first_difference, b_first_difference, v_first_difference⟩ := h4
  refine F.okX sc_told_apart (fun vs H Q E h => ?_) (fun cdv A outer s H vs Q E hr h => ?_)
  · obtain ⟨x0, x1, x2, x3, rfl, _⟩ := h
    rfl
  · obtain ⟨x0, x1, x2, x3, rfl, e, h, c⟩ := h
    refine ⟨_, (pss_cons (ps_expr (pe_call G_check_base (hr.mono (by decide)) (by rfl) m_check_base k_check_base b_check_base v_check_base (passes_call (takes_of rfl rfl rfl rfl) (fun _ _ _ _ h => h)) (pa_cons (pv 0) pa_nil)))
      (pss_cons (ps_expr (pe_call G_check_levels hr (by rfl) m_check_levels k_check_levels b_check_levels v_check_levels (passes_call (takes_of rfl rfl rfl rfl) (fun _ _ _ _ h => h)) (pa_cons (pv 1) pa_nil)))
      (pss_cons (ps_expr (pe_call G_check_base (hr.mono (by decide)) (by rfl) m_check_base k_check_base b_check_base v_check_base (passes_call (takes_of rfl rfl rfl rfl) (fun _ _ _ _ h => h)) (pa_cons (pv 2) pa_nil)))
      (pss_cons (ps_expr (pe_call G_check_levels hr (by rfl) m_check_levels k_check_levels b_check_levels v_check_levels (passes_call (takes_of rfl rfl rfl rfl) (fun _ _ _ _ h => h)) (pa_cons (pv 3) pa_nil)))
      (pss_cons (ps_for (passes_of rfl) rfl (pi_list (pe_call G_telling_dues (hr.mono (by decide)) (by rfl) m_telling_dues k_telling_dues b_telling_dues v_telling_dues pass0 (pa_cons (pv 0) (pa_cons (pv 1) (pa_cons (pv 2) (pa_cons (pv 3) pa_nil)))))) (pg_name (i := 4) sc_told_apart.nd rfl (.inl rfl))
        (pss_cons (ps_set (i := 5) sc_told_apart.nd rfl (.inl rfl) (pe_call G_first_difference hr (by rfl) m_first_difference k_first_difference b_first_difference v_first_difference pass0 (pa_cons (pv 0) (pa_cons (pv 1) (pa_cons (pv 2) (pa_cons (pv 3) (pa_cons (pv 4) pa_nil)))))))
        (pss_one (ps_if (pt_cmpR op_notN (pv 5) pe_non (nomark _))
          (pss_one (ps_ret (pe_tup (pa_cons pe_str (pa_cons (pv 4) (pa_cons (pv 5) pa_nil))))))
          pss_nil))))
      (pss_one (ps_ret (pe_tup (pa_cons pe_str pa_nil))))))))), ?_⟩
    rcases h with ⟨rfl, hb⟩ | ⟨⟨b, rfl, b2, b64⟩, h⟩
    · exact ⟨x0, rfl, x0, rfl, .inr ⟨hb, c _ fun _ _ e => e⟩⟩
    refine ⟨_, rfl, _, rfl, .inl ⟨(b : Nat), rfl, by omega, by omega, ?_⟩⟩
    rcases h with ⟨rfl, hb⟩ | ⟨⟨q, ws, rfl, hL, hne, h60⟩, h⟩
    · exact ⟨x1, rfl, x1, rfl, .inr ⟨hb, fun H1 s1 => c H1 s1⟩⟩
    refine ⟨_, rfl, _, rfl, .inl ⟨q, ws, rfl, hL, hne, h60, fun H1 s1 => ?_⟩⟩
    rcases h with ⟨rfl, hb⟩ | ⟨⟨b', rfl, b2', b64'⟩, rfl, hb⟩
    · exact ⟨x2, rfl, x2, rfl, .inr ⟨hb.same s1, c H1 s1⟩⟩
    refine ⟨_, rfl, _, rfl, .inl ⟨(b' : Nat), rfl, by omega, by omega, ?_⟩⟩
    exact ⟨x3, rfl, x3, rfl, .inr ⟨hb.same s1, fun H2 s2 => c H2 (s1.trans s2)⟩⟩
def spSeenBad (K : PySem.W.Frag) (cB cL cT cO cS : Addr) : Sp := fun vs H _ E => ∃ x0 x1 x2 : V, vs = [x0, x1, x2] ∧ ∃ e, SeenBad K H x0 x1 x2 e ∧ ∀ H', Same H H' → E (.ref (errOf5 cB cL cT cO cS e)) none H'
theorem okX_seen_bad {f cB cL cT cO cS : Addr} {fd : FuncData} (F : Fun K "levels_seen" "levels_seen" s_levels_seen f fd) (T : Tx K mg) (h1 : HasX P w K mg base 3 "check_base" ["base"] [] (spCheckBaseX K cB)) (h2 : HasX P w K mg base 3 "check_many" ["many"] [] (spCheckManyX K cL)) (h3 : HasX P w K mg base 4 "check_seen" ["seen"] [] (spCheckSeenX K cS))
    (h4 : Has P w K mg base 3 "equation" ["base", "many", "sighting"] [] spEquation) (h5 : Has P w K mg base 1 "reduced" ["levels", "odd", "known"] [] spReduced) (h6 : Has P w K mg base 2 "least_and_count" ["many", "known"] [] spLeast) :
    FnOk P w K mg base (L2.CX P w) 5 f fd ["base", "many", "seen"] (spSeenBad K cB cL cT cO cS) := by
  obtain ⟨f_check_base, fd_check_base, ds_check_base, G_check_base, m_check_base, k_check_base, b_check_base, v_check_base⟩ := h1
  obtain ⟨f_check_many, fd_check_many, ds_check_many, G_check_many, m_check_many, k_check_many, b_check_many, v_check_many⟩ := h2
  obtain ⟨f_check_seen, fd_check_seen, ds_check_seen, G_check_seen, m_check_seen, k_check_seen, b_check_seen, v_check_seen⟩ := h3
  obtain ⟨f_equation, fd_equation, ds_equation, G_equation, m_equation, k_equation, b_equation, v_equation⟩ := h4
  obtain ⟨f_reduced, fd_reduced, ds_reduced, G_reduced, m_reduced, k_reduced, b_reduced, v_reduced⟩ := h5
  obtain ⟨f_least_and_count, fd_least_and_count, ds_least_and_count, G_least_and_count, m_least_and_count, k_least_and_count, b_least_and_count, v_least_and_count⟩ := h6
  refine F.okX sc_levels_seen (fun vs H Q E h => ?_) (fun cdv A outer s H vs Q E hr h => ?_)
  · obtain ⟨x0, x1, x2, rfl, _⟩ := h
    rfl
  · obtain ⟨x0, x1, x2, rfl, e, h, c⟩ := h
    have hu := hu_of hr
    refine ⟨_, (pss_cons (ps_expr (pe_call G_check_base (hr.mono (by decide)) (by rfl) m_check_base k_check_base b_check_base v_check_base (passes_call (takes_of rfl rfl rfl rfl) (fun _ _ _ _ h => h)) (pa_cons (pv 0) pa_nil)))
      (pss_cons (ps_expr (pe_call G_check_many (hr.mono (by decide)) (by rfl) m_check_many k_check_many b_check_many v_check_many (passes_call (takes_of rfl rfl rfl rfl) (fun _ _ _ _ h => h)) (pa_cons (pv 1) pa_nil)))
      (pss_cons (ps_expr (pe_call G_check_seen hr (by rfl) m_check_seen k_check_seen b_check_seen v_check_seen (passes_call (takes_of rfl rfl rfl rfl) (fun _ _ _ _ h => h)) (pa_cons (pv 2) pa_nil)))
      (pss_cons (ps_set (i := 3) sc_levels_seen.nd rfl (.inl rfl) pe_dnewK)
      (pss_cons (ps_for (passes_of rfl) rfl (pi_enum (by rfl) T.b_enumerate (pa_cons (pv 2) pa_nil)) (pg_tupK (K := K) (n := 2) rfl rfl (pgs_cons (pg_name (i := 4) sc_levels_seen.nd rfl (.inl rfl)) (pgs_cons (pg_name (i := 5) sc_levels_seen.nd rfl (.inl rfl)) pgs_nil)))
        (pss_cons (ps_asg (pe_call G_equation (hr.mono (by decide)) (by rfl) m_equation k_equation b_equation v_equation pass0 (pa_cons (pv 0) (pa_cons (pv 1) (pa_cons (pv 5) pa_nil)))) (pg_tupK (K := K) (n := 2) rfl rfl (pgs_cons (pg_name (i := 6) sc_levels_seen.nd rfl (.inl rfl)) (pgs_cons (pg_name (i := 7) sc_levels_seen.nd rfl (.inl rfl)) pgs_nil))))
        (pss_cons (ps_asg (pe_call G_reduced (hr.mono (by decide)) (by rfl) m_reduced k_reduced b_reduced v_reduced pass0 (pa_cons (pv 6) (pa_cons (pv 7) (pa_cons (pv 3) pa_nil)))) (pg_tupK (K := K) (n := 2) rfl rfl (pgs_cons (pg_name (i := 6) sc_levels_seen.nd rfl (.inl rfl)) (pgs_cons (pg_name (i := 7) sc_levels_seen.nd rfl (.inl rfl)) pgs_nil))))
        (pss_one (ps_if (pt_cmpR op_gt (pe_callB (lenK (K := K) rfl) (by rfl) T.b_len PySem.boot_len (pa_cons (pv 6) pa_nil)) pe_int (nomark _))
          (pss_one (ps_dput hu (pv 3) (pe_ix (ix_listK (K := K) rfl) (pv 6) (pe_un un_neg pe_int) (fun _ _ => rfl)) (pe_tup (pa_cons (pv 6) (pa_cons (pv 7) pa_nil))) rfl))
          (pss_one (ps_if (pt_val (pv 7))
            (pss_one (ps_ret (pe_tup (pa_cons pe_str (pa_cons (pe_op op_addN (pv 4) pe_int) pa_nil)))))
            pss_nil)))))))
      (pss_cons (ps_asg (pe_call G_least_and_count (hr.mono (by decide)) (by rfl) m_least_and_count k_least_and_count b_least_and_count v_least_and_count pass0 (pa_cons (pv 1) (pa_cons (pv 3) pa_nil))) (pg_tupK (K := K) (n := 2) rfl rfl (pgs_cons (pg_name (i := 8) sc_levels_seen.nd rfl (.inl rfl)) (pgs_cons (pg_name (i := 9) sc_levels_seen.nd rfl (.inl rfl)) pgs_nil))))
      (pss_one (ps_ret (pe_tup (pa_cons pe_str (pa_cons (pv 8) (pa_cons (pv 9) pa_nil)))))))))))), ?_⟩
    rcases h with ⟨rfl, hb⟩ | ⟨⟨b, rfl, b2, b64⟩, h⟩
    · exact ⟨x0, rfl, x0, rfl, .inr ⟨hb, c _ fun _ _ e => e⟩⟩
    refine ⟨_, rfl, _, rfl, .inl ⟨(b : Nat), rfl, by omega, by omega, ?_⟩⟩
    rcases h with ⟨rfl, hb⟩ | ⟨n, rfl, n1, n60, rfl, hb⟩
    · exact ⟨x1, rfl, x1, rfl, .inr ⟨hb, c _ fun _ _ e => e⟩⟩
    refine ⟨_, rfl, _, rfl, .inl ⟨(n : Nat), rfl, by omega, by omega, ?_⟩⟩
    exact ⟨x2, rfl, x2, rfl, .inr ⟨hb, fun H1 s1 => c H1 s1⟩⟩
end
/-! ### levels as data -/
def lvD (b : Bool) : PyData := if b then .str "stack" else .str "queue"
theorem lvs_dp {K : PySem.W.Frag} {H : Hp} : ∀ ws : List Bool, DpAll K H (ws.map lvV) (ws.map lvD)
  | [] => .nil
  | true :: r => .cons (.str _) (lvs_dp r)
  | false :: r => .cons (.str _) (lvs_dp r)
theorem lvs_lay : ∀ ws : List Bool, PyData.canLayAll0 (ws.map lvD) = true
  | [] => rfl
  | b :: r => by
    show ((lvD b).canLay0 && PyData.canLayAll0 (r.map lvD)) = true
    rw [lvs_lay r]
    cases b <;> decide +kernel
theorem lvs_depth : ∀ ws : List Bool, PyData.depthAll (ws.map lvD) = 0
  | [] => rfl
  | b :: r => by
    show max (lvD b).depth (PyData.depthAll (r.map lvD)) = 0
    rw [lvs_depth r]
    cases b <;> rfl
theorem lvs_shaped (ws : List Bool) : SeqAt.shaped (.list (ws.map lvD)) = true := by
  have h1 : (PyData.list (ws.map lvD)).canLay0 = true := by
    show PyData.canLayAll0 _ = true
    exact lvs_lay ws
  have h2 : (PyData.list (ws.map lvD)).depth ≤ 64 := by
    show PyData.depthAll _ + 1 ≤ 64
    rw [lvs_depth ws]
    decide
  unfold SeqAt.shaped
  rw [h1, decide_eq_true h2]
  rfl
/-! ### the answers of told_apart, as data -/
def tolD : Option (Nat × Nat) → PyData
  | none => .tuple [.str "alike"]
  | some (e, m) => .tuple [.str "apart", .int (e : Nat), .int (m : Nat)]
theorem tol_dp {K : PySem.W.Frag} {H : Hp} {p : Addr} : ∀ {r : Option (Nat × Nat)}, H p = some (.tup (tolV r)) → Dp K H (.ref p) (tolD r)
  | none, h => .tup (SqT.of h) (.cons (.str _) .nil)
  | some (_, _), h => .tup (SqT.of h) (.cons (.str _) (.cons (.int _) (.cons (.int _) .nil)))
theorem tol_lay : ∀ r, (tolD r).canLay0 = true
  | none => by decide +kernel
  | some (e, m) => by
    simp [tolD, PyData.canLay0, PyData.canLayAll0]
    decide +kernel
theorem tol_shaped (r : Option (Nat × Nat)) : SeqAt.shaped (tolD r) = true := by
  have h2 : (tolD r).depth ≤ 64 := by
    match r with
    | none => decide
    | some (e, m) =>
      show max 0 (max 0 (max 0 0)) + 1 ≤ 64
      decide
  unfold SeqAt.shaped
  rw [tol_lay, decide_eq_true h2]
  rfl
/-! ### law k31: a call by position or by name -/
/-- what set_ticks tells -/
def setD (n : Nat) (xs : List Nat) : Bool → PyData
  | true => .tuple [.str "ticks", .list ((n :: xs).map fun x => PyData.int (x : Nat))]
  | false => .tuple [.str "never", .int ((xs.length + 1 : Nat) : Int)]
theorem set_dp {K : PySem.W.Frag} {H : Hp} {p : Addr} {n : Nat} {xs : List Nat} : ∀ {ok : Bool}, ToldAt H p n xs ok → Dp K H (.ref p) (setD n xs ok)
  | true, ⟨L, h1, h2⟩ => .tup (SqT.of h1) (.cons (.str _) (.cons (.lst (SqL.of h2) (dp_nats _)) .nil))
  | false, h => .tup (SqT.of h) (.cons (.str _) (.cons (.int _) .nil))
/-- what levels_seen tells -/
def seenD : Nat ⊕ (List Bool × Nat) → PyData
  | .inl k => .tuple [.str "none", .int (k : Nat)]
  | .inr r => .tuple [.str "levels", .list (r.1.map lvD), .int (r.2 : Nat)]
theorem seen_dp {K : PySem.W.Frag} {H : Hp} {p : Addr} : ∀ {r : Nat ⊕ (List Bool × Nat)}, SeenAt H p r → Dp K H (.ref p) (seenD r)
  | .inl _, h => .tup (SqT.of h) (.cons (.str _) (.cons (.int _) .nil))
  | .inr _, ⟨q, h1, h2⟩ => .tup (SqT.of h1) (.cons (.str _) (.cons (.lst (SqL.of h2) (lvs_dp _)) (.cons (.int _) .nil)))
/-- data that can be compared -/
def AnsOk (D : PyData) : Prop := SeqAt.shaped D = true ∧ D.canLay0 = true
theorem ans_of {D : PyData} (h1 : D.canLay0 = true) (h2 : D.depth ≤ 64) : AnsOk D := by
  refine ⟨?_, h1⟩
  unfold SeqAt.shaped
  rw [h1, decide_eq_true h2]
  rfl
theorem set_ok (n : Nat) (xs : List Nat) (ok : Bool) : AnsOk (setD n xs ok) := by
  cases ok
  · refine ans_of ?_ ?_
    · simp [setD, PyData.canLay0, PyData.canLayAll0]
      decide +kernel
    · show max 0 (max 0 0) + 1 ≤ 64
      decide
  · refine ans_of ?_ ?_
    · show ((PyData.str "ticks").canLay0 && (PyData.canLayAll0 ((n :: xs).map fun x => PyData.int (x : Nat)) && true)) = true
      rw [nats_lay]
      decide +kernel
    · show max 0 (max (PyData.depthAll ((n :: xs).map fun x => PyData.int (x : Nat)) + 1) 0) + 1 ≤ 64
      rw [nats_depth]
      decide
theorem lvs_lay31 : ∀ ws : List Bool, PyData.canLayAll0 (ws.map lvD) = true
  | [] => rfl
  | b :: ws => by
    show ((lvD b).canLay0 && PyData.canLayAll0 (ws.map lvD)) = true
    rw [lvs_lay31 ws]
    cases b <;> decide +kernel
theorem lvs_depth31 : ∀ ws : List Bool, PyData.depthAll (ws.map lvD) = 0
  | [] => rfl
  | b :: ws => by
    show max (lvD b).depth (PyData.depthAll (ws.map lvD)) = 0
    rw [lvs_depth31 ws]
    cases b <;> rfl
theorem seen_ok : ∀ r, AnsOk (seenD r)
  | .inl k => by
    refine ans_of ?_ ?_
    · simp [seenD, PyData.canLay0, PyData.canLayAll0]
      decide +kernel
    · show max 0 (max 0 0) + 1 ≤ 64
      decide
  | .inr r => by
    refine ans_of ?_ ?_
    · show ((PyData.str "levels").canLay0 && (PyData.canLayAll0 (r.1.map lvD) && ((PyData.int (r.2 : Nat)).canLay0 && true))) = true
      rw [lvs_lay31]
      simp [PyData.canLay0]
      decide +kernel
    · show max 0 (max (PyData.depthAll (r.1.map lvD) + 1) (max 0 0)) + 1 ≤ 64
      rw [lvs_depth31]
      decide
theorem tol_ok (r : Option (Nat × Nat)) : AnsOk (tolD r) := ⟨tol_shaped r, tol_lay r⟩
def SetIs (K : PySem.W.Frag) (H : Hp) (x0 x1 x2 x3 x4 : V) (D : PyData) : Prop := ∃ (b n d k : Nat) (q O : Addr) (ws : List Bool) (o xs : List Nat) (ok : Bool), x0 = .int (b : Nat) ∧ x1 = .ref q ∧ x2 = .int (n : Nat) ∧ x3 = .int (d : Nat) ∧ x4 = .ref O ∧ 2 ≤ b ∧ b ≤ 64 ∧ n < d ∧ d < 2 ^ 250 ∧ SqL K H q (ws.map lvV) ∧ ws ≠ [] ∧ ws.length ≤ 60 ∧
  SqL K H O (o.map fun x => V.int (x : Nat)) ∧ IsOrd o ∧ o ≠ [] ∧ o.length ≤ 60 ∧ IsLev b n d k ∧ Pl (tsOf ws (rowsOf b n d k)) 0 (wantOf o) xs ok ∧ D = setD n xs ok
def ToldIs (K : PySem.W.Frag) (H : Hp) (x0 x1 x2 x3 : V) (D : PyData) : Prop := ∃ (b1 b2 : Nat) (q1 q2 : Addr) (w1 w2 : List Bool) (r : Option (Nat × Nat)), x0 = .int (b1 : Nat) ∧ x1 = .ref q1 ∧ x2 = .int (b2 : Nat) ∧ x3 = .ref q2 ∧ 2 ≤ b1 ∧ b1 ≤ 64 ∧ 2 ≤ b2 ∧ b2 ≤ 64 ∧ w1.length ≤ 40 ∧ w2.length ≤ 40 ∧ SqL K H q1 (w1.map lvV) ∧ SqL K H q2 (w2.map lvV) ∧ w1 ≠ [] ∧ w2 ≠ [] ∧ ToldP b1 w1 b2 w2 r ∧ D = tolD r
def SeenIs (K : PySem.W.Frag) (H : Hp) (x0 x1 x2 : V) (D : PyData) : Prop := ∃ (b many : Nat) (S : Addr) (ts : List Addr) (ss : List (Nat × Nat × Bool)), x0 = .int (b : Nat) ∧ x1 = .int (many : Nat) ∧ x2 = .ref S ∧ 2 ≤ b ∧ b ≤ 64 ∧ 1 ≤ many ∧ many ≤ 60 ∧ SqL K H S (ts.map V.ref) ∧ SightsAt H ts ss ∧ ss.length ≤ 100 ∧ (∀ s ∈ ss, s.2.1 < 2 ^ 250) ∧ D = seenD (seenR b many ss)
theorem SetIs.same {K : PySem.W.Frag} {H H' : Hp} {x0 x1 x2 x3 x4 : V} {D : PyData} (s : Same H H') (h : SetIs K H x0 x1 x2 x3 x4 D) : SetIs K H' x0 x1 x2 x3 x4 D := by
  obtain ⟨b, n, d, k, q, O, ws, o, xs, ok, e0, e1, e2, e3, e4, h1, h2, h3, h4, h5, h6, h7, h8, h9⟩ := h
  exact ⟨b, n, d, k, q, O, ws, o, xs, ok, e0, e1, e2, e3, e4, h1, h2, h3, h4, s.seq h5, h6, h7, s.seq h8, h9⟩
theorem ToldIs.same {K : PySem.W.Frag} {H H' : Hp} {x0 x1 x2 x3 : V} {D : PyData} (s : Same H H') (h : ToldIs K H x0 x1 x2 x3 D) : ToldIs K H' x0 x1 x2 x3 D := by
  obtain ⟨b1, b2, q1, q2, w1, w2, r, e0, e1, e2, e3, h1, h2, h3, h4, h5, h6, h7, h8, h9⟩ := h
  exact ⟨b1, b2, q1, q2, w1, w2, r, e0, e1, e2, e3, h1, h2, h3, h4, h5, h6, s.seq h7, s.seq h8, h9⟩
theorem SeenIs.same {K : PySem.W.Frag} {H H' : Hp} {x0 x1 x2 : V} {D : PyData} (s : Same H H') (h : SeenIs K H x0 x1 x2 D) : SeenIs K H' x0 x1 x2 D := by
  obtain ⟨b, many, S, ts, ss, e0, e1, e2, h1, h2, h3, h4, h5, h6, h7⟩ := h
  exact ⟨b, many, S, ts, ss, e0, e1, e2, h1, h2, h3, h4, s.seq h5, h6.same s, h7⟩
def Bad31 (K : PySem.W.Frag) (H : Hp) (i : Nat) (xs : List V) (e : Nat) : Prop := (i = 0 ∧ ∃ x0 x1 x2 x3 x4, xs = [x0, x1, x2, x3, x4] ∧ SetBad K H x0 x1 x2 x3 x4 e) ∨ (i = 1 ∧ ∃ x0 x1 x2 x3, xs = [x0, x1, x2, x3] ∧ ToldBad K H x0 x1 x2 x3 e) ∨ (i = 2 ∧ ∃ x0 x1 x2, xs = [x0, x1, x2] ∧ SeenBad K H x0 x1 x2 e)
def Is31 (K : PySem.W.Frag) (H : Hp) (i : Nat) (xs : List V) (D : PyData) : Prop := (i = 0 ∧ ∃ x0 x1 x2 x3 x4, xs = [x0, x1, x2, x3, x4] ∧ SetIs K H x0 x1 x2 x3 x4 D) ∨ (i = 1 ∧ ∃ x0 x1 x2 x3, xs = [x0, x1, x2, x3] ∧ ToldIs K H x0 x1 x2 x3 D) ∨ (i = 2 ∧ ∃ x0 x1 x2, xs = [x0, x1, x2] ∧ SeenIs K H x0 x1 x2 D)
theorem Bad31.same {K : PySem.W.Frag} {H H' : Hp} {i : Nat} {xs : List V} {e : Nat} (s : Same H H') (h : Bad31 K H i xs e) : Bad31 K H' i xs e := by
  rcases h with ⟨e1, x0, x1, x2, x3, x4, e2, h⟩ | ⟨e1, x0, x1, x2, x3, e2, h⟩ | ⟨e1, x0, x1, x2, e2, h⟩
  · exact .inl ⟨e1, x0, x1, x2, x3, x4, e2, h.same s⟩
  · exact .inr (.inl ⟨e1, x0, x1, x2, x3, e2, h.same s⟩)
  · exact .inr (.inr ⟨e1, x0, x1, x2, e2, h.same s⟩)
theorem Is31.same {K : PySem.W.Frag} {H H' : Hp} {i : Nat} {xs : List V} {D : PyData} (s : Same H H') (h : Is31 K H i xs D) : Is31 K H' i xs D := by
  rcases h with ⟨e1, x0, x1, x2, x3, x4, e2, h⟩ | ⟨e1, x0, x1, x2, x3, e2, h⟩ | ⟨e1, x0, x1, x2, e2, h⟩
  · exact .inl ⟨e1, x0, x1, x2, x3, x4, e2, h.same s⟩
  · exact .inr (.inl ⟨e1, x0, x1, x2, x3, e2, h.same s⟩)
  · exact .inr (.inr ⟨e1, x0, x1, x2, e2, h.same s⟩)
theorem Is31.ok {K : PySem.W.Frag} {H : Hp} {i : Nat} {xs : List V} {D : PyData} (h : Is31 K H i xs D) : AnsOk D := by
  rcases h with ⟨_, x0, x1, x2, x3, x4, _, h⟩ | ⟨_, x0, x1, x2, x3, _, h⟩ | ⟨_, x0, x1, x2, _, h⟩
  · obtain ⟨_, _, _, _, _, _, _, _, _, _, _, _, _, _, _, _, _, _, _, _, _, _, _, _, _, _, _, _, rfl⟩ := h
    exact set_ok _ _ _
  · obtain ⟨_, _, _, _, _, _, _, _, _, _, _, _, _, _, _, _, _, _, _, _, _, _, rfl⟩ := h
    exact tol_ok _
  · obtain ⟨_, _, _, _, _, _, _, _, _, _, _, _, _, _, _, _, rfl⟩ := h
    exact seen_ok _
section
variable {P : Program} {w : World} {K : PySem.W.Frag} {mg : Str → Option Value} {base : Heap}
def spAsk31 (K : PySem.W.Frag) (cB cL cT cO cS : Addr) : Sp := fun vs H Q E => ∃ (way i : Nat) (r : Addr) (xs : List V), vs = [.int (way : Nat), .ref r] ∧ way / 2 = i ∧ SqL K H r xs ∧
  ((∃ e, Bad31 K H i xs e ∧ ∀ H', Same H H' → E (.ref (errOf5 cB cL cT cO cS e)) none H') ∨ ∃ D, Is31 K H i xs D ∧ ∀ H' v, Same H H' → Dp K H' v D → Q v H')
theorem okX_ask31 {f cB cL cT cO cS : Addr} {fd : FuncData} (F : Fun K "_law_ask" "_law_ask" s__law_ask f fd) (h1 : HasXK P w K mg base 5 "set_ticks" ["base", "levels", "start", "due", "order"] ["order", "due", "start", "levels", "base"] (spOr (spSetBad K cB cL cT cO cS) (spSetTicks K)))
    (h2 : HasXK P w K mg base 5 "told_apart" ["base", "levels", "other_base", "other_levels"] ["other_levels", "other_base", "levels", "base"] (spOr (spToldBad K cB cL cT cO cS) (spTold K)))
    (h3 : HasXK P w K mg base 5 "levels_seen" ["base", "many", "seen"] ["seen", "many", "base"] (spOr (spSeenBad K cB cL cT cO cS) (spSeen K))) : FnOk P w K mg base (L2.CX P w) 6 f fd ["_law_way", "_law_row"] (spAsk31 K cB cL cT cO cS) := by
  obtain ⟨f_set_ticks, fd_set_ticks, G_set_ticks, m_set_ticks, k_set_ticks, b_set_ticks, bK_set_ticks⟩ := h1
  obtain ⟨f_told_apart, fd_told_apart, G_told_apart, m_told_apart, k_told_apart, b_told_apart, bK_told_apart⟩ := h2
  obtain ⟨f_levels_seen, fd_levels_seen, G_levels_seen, m_levels_seen, k_levels_seen, b_levels_seen, bK_levels_seen⟩ := h3
  have v_set_ticks : Vals [] [] := .nil
  have v_told_apart : Vals [] [] := .nil
  have v_levels_seen : Vals [] [] := .nil
  refine F.okX sc__law_ask (fun vs H Q E h => ?_) (fun cdv A outer s H vs Q E hr h => ?_)
  · obtain ⟨way, i, r, xs, rfl, _⟩ := h
    rfl
  · obtain ⟨way, i, r, xs, rfl, hw, hS, h⟩ := h
    refine ⟨_, (pss_cons (ps_if (pt_cmpR op_eq (pv 0) pe_int (nomark _))
        (pss_one (ps_ret (pe_call G_set_ticks hr (by rfl) m_set_ticks k_set_ticks b_set_ticks v_set_ticks (passes_call (takes_of rfl rfl rfl rfl) (fun _ _ _ _ h => h)) (pa_cons (pe_ix (ix_listK (K := K) rfl) (pv 1) pe_int (fun _ _ => rfl)) (pa_cons (pe_ix (ix_listK (K := K) rfl) (pv 1) pe_int (fun _ _ => rfl)) (pa_cons (pe_ix (ix_listK (K := K) rfl) (pv 1) pe_int (fun _ _ => rfl)) (pa_cons (pe_ix (ix_listK (K := K) rfl) (pv 1) pe_int (fun _ _ => rfl)) (pa_cons (pe_ix (ix_listK (K := K) rfl) (pv 1) pe_int (fun _ _ => rfl)) pa_nil))))))))
        pss_nil)
      (pss_cons (ps_if (pt_cmpR op_eq (pv 0) pe_int (nomark _))
        (pss_one (ps_ret (pe_callK0 G_set_ticks hr (by rfl) m_set_ticks k_set_ticks bK_set_ticks (passes_call (takes_of rfl rfl rfl rfl) (fun _ _ _ _ h => h)) (pk_cons (pe_ix (ix_listK (K := K) rfl) (pv 1) pe_int (fun _ _ => rfl)) (pk_cons (pe_ix (ix_listK (K := K) rfl) (pv 1) pe_int (fun _ _ => rfl)) (pk_cons (pe_ix (ix_listK (K := K) rfl) (pv 1) pe_int (fun _ _ => rfl)) (pk_cons (pe_ix (ix_listK (K := K) rfl) (pv 1) pe_int (fun _ _ => rfl)) (pk_cons (pe_ix (ix_listK (K := K) rfl) (pv 1) pe_int (fun _ _ => rfl)) pk_nil))))))))
        pss_nil)
      (pss_cons (ps_if (pt_cmpR op_eq (pv 0) pe_int (nomark _))
        (pss_one (ps_ret (pe_call G_told_apart hr (by rfl) m_told_apart k_told_apart b_told_apart v_told_apart (passes_call (takes_of rfl rfl rfl rfl) (fun _ _ _ _ h => h)) (pa_cons (pe_ix (ix_listK (K := K) rfl) (pv 1) pe_int (fun _ _ => rfl)) (pa_cons (pe_ix (ix_listK (K := K) rfl) (pv 1) pe_int (fun _ _ => rfl)) (pa_cons (pe_ix (ix_listK (K := K) rfl) (pv 1) pe_int (fun _ _ => rfl)) (pa_cons (pe_ix (ix_listK (K := K) rfl) (pv 1) pe_int (fun _ _ => rfl)) pa_nil)))))))
        pss_nil)
      (pss_cons (ps_if (pt_cmpR op_eq (pv 0) pe_int (nomark _))
        (pss_one (ps_ret (pe_callK0 G_told_apart hr (by rfl) m_told_apart k_told_apart bK_told_apart (passes_call (takes_of rfl rfl rfl rfl) (fun _ _ _ _ h => h)) (pk_cons (pe_ix (ix_listK (K := K) rfl) (pv 1) pe_int (fun _ _ => rfl)) (pk_cons (pe_ix (ix_listK (K := K) rfl) (pv 1) pe_int (fun _ _ => rfl)) (pk_cons (pe_ix (ix_listK (K := K) rfl) (pv 1) pe_int (fun _ _ => rfl)) (pk_cons (pe_ix (ix_listK (K := K) rfl) (pv 1) pe_int (fun _ _ => rfl)) pk_nil)))))))
        pss_nil)
      (pss_cons (ps_if (pt_cmpR op_eq (pv 0) pe_int (nomark _))
        (pss_one (ps_ret (pe_call G_levels_seen hr (by rfl) m_levels_seen k_levels_seen b_levels_seen v_levels_seen (passes_call (takes_of rfl rfl rfl rfl) (fun _ _ _ _ h => h)) (pa_cons (pe_ix (ix_listK (K := K) rfl) (pv 1) pe_int (fun _ _ => rfl)) (pa_cons (pe_ix (ix_listK (K := K) rfl) (pv 1) pe_int (fun _ _ => rfl)) (pa_cons (pe_ix (ix_listK (K := K) rfl) (pv 1) pe_int (fun _ _ => rfl)) pa_nil))))))
        pss_nil)
      (pss_one (ps_ret (pe_callK0 G_levels_seen hr (by rfl) m_levels_seen k_levels_seen bK_levels_seen (passes_call (takes_of rfl rfl rfl rfl) (fun _ _ _ _ h => h)) (pk_cons (pe_ix (ix_listK (K := K) rfl) (pv 1) pe_int (fun _ _ => rfl)) (pk_cons (pe_ix (ix_listK (K := K) rfl) (pv 1) pe_int (fun _ _ => rfl)) (pk_cons (pe_ix (ix_listK (K := K) rfl) (pv 1) pe_int (fun _ _ => rfl)) pk_nil))))))))))), ?_⟩
    have h' : (i = 0 ∧ ∃ x0 x1 x2 x3 x4, xs = [x0, x1, x2, x3, x4] ∧ spOr (spSetBad K cB cL cT cO cS) (spSetTicks K) [x0, x1, x2, x3, x4] H Q E) ∨ (i = 1 ∧ ∃ x0 x1 x2 x3, xs = [x0, x1, x2, x3] ∧ spOr (spToldBad K cB cL cT cO cS) (spTold K) [x0, x1, x2, x3] H Q E) ∨ (i = 2 ∧ ∃ x0 x1 x2, xs = [x0, x1, x2] ∧ spOr (spSeenBad K cB cL cT cO cS) (spSeen K) [x0, x1, x2] H Q E) := by
      rcases h with ⟨e, hb, c⟩ | ⟨D, hb, c⟩
      · rcases hb with ⟨ei, x0, x1, x2, x3, x4, e2, hb⟩ | ⟨ei, x0, x1, x2, x3, e2, hb⟩ | ⟨ei, x0, x1, x2, e2, hb⟩
        · exact .inl ⟨ei, x0, x1, x2, x3, x4, e2, .inl ⟨x0, x1, x2, x3, x4, rfl, e, hb, c⟩⟩
        · exact .inr (.inl ⟨ei, x0, x1, x2, x3, e2, .inl ⟨x0, x1, x2, x3, rfl, e, hb, c⟩⟩)
        · exact .inr (.inr ⟨ei, x0, x1, x2, e2, .inl ⟨x0, x1, x2, rfl, e, hb, c⟩⟩)
      · rcases hb with ⟨ei, x0, x1, x2, x3, x4, e2, hb⟩ | ⟨ei, x0, x1, x2, x3, e2, hb⟩ | ⟨ei, x0, x1, x2, e2, hb⟩
        · obtain ⟨b, n, d, k, q, O, ws, o, ys, ok, rfl, rfl, rfl, rfl, rfl, g1, g2, g3, g4, g5, g6, g7, g8, g9, g10, g11, g12, g13, rfl⟩ := hb
          refine .inl ⟨ei, _, _, _, _, _, e2, .inr ⟨b, n, d, q, O, ws, o, rfl, g1, g2, g3, g4, g5, g6, g7, g8, g9, g10, g11, fun k' hk' ys' ok' hp' H' p s1 _ hT _ => c H' _ s1 ?_⟩⟩
          have ek := hk'.uniq g12
          subst ek
          obtain ⟨rfl, rfl⟩ := hp'.uniq g13
          exact set_dp hT
        · obtain ⟨b1, b2, q1, q2, w1, w2, r', rfl, rfl, rfl, rfl, g1, g2, g3, g4, g5, g6, g7, g8, g9, g10, g11, rfl⟩ := hb
          refine .inr (.inl ⟨ei, _, _, _, _, e2, .inr ⟨b1, b2, q1, q2, w1, w2, rfl, g1, g2, g3, g4, g5, g6, g7, g8, g9, g10, fun r2 hr2 H' u s1 _ hT => c H' _ s1 ?_⟩⟩)
          obtain rfl := hr2.uniq g11
          exact tol_dp hT
        · obtain ⟨b, many, S, ts, ss, rfl, rfl, rfl, g1, g2, g3, g4, g5, g6, g7, g8, rfl⟩ := hb
          exact .inr (.inr ⟨ei, _, _, _, e2, .inr ⟨b, many, S, ts, ss, rfl, g1, g2, g3, g4, g5, g6, g7, g8, fun H' u s1 hT => c H' _ s1 (seen_dp hT)⟩⟩)
    clear h
    rcases h' with ⟨rfl, x0, x1, x2, x3, x4, rfl, h⟩ | ⟨rfl, x0, x1, x2, x3, rfl, h⟩ | ⟨rfl, x0, x1, x2, rfl, h⟩
    · rcases (show way = 0 ∨ way = 1 by omega) with rfl | rfl
      · refine ⟨_, rfl, rfl, true, dT rfl, iteT ?_⟩
        exact ⟨.ref r, rfl, r, _, 0, _, rfl, rfl, hS, atI_nat (j := 0) rfl, .ref r, rfl, r, _, 1, _, rfl, rfl, hS, atI_nat (j := 1) rfl, .ref r, rfl, r, _, 2, _, rfl, rfl, hS, atI_nat (j := 2) rfl, .ref r, rfl, r, _, 3, _, rfl, rfl, hS, atI_nat (j := 3) rfl, .ref r, rfl, r, _, 4, _, rfl, rfl, hS, atI_nat (j := 4) rfl, h⟩
      · refine ⟨_, rfl, rfl, false, dF (vN (by decide)), iteF ⟨_, rfl, rfl, true, dT rfl, iteT ?_⟩⟩
        exact ⟨.ref r, rfl, r, _, 4, _, rfl, rfl, hS, atI_nat (j := 4) rfl, .ref r, rfl, r, _, 3, _, rfl, rfl, hS, atI_nat (j := 3) rfl, .ref r, rfl, r, _, 2, _, rfl, rfl, hS, atI_nat (j := 2) rfl, .ref r, rfl, r, _, 1, _, rfl, rfl, hS, atI_nat (j := 1) rfl, .ref r, rfl, r, _, 0, _, rfl, rfl, hS, atI_nat (j := 0) rfl, rfl, h⟩
    · rcases (show way = 2 ∨ way = 3 by omega) with rfl | rfl
      · refine ⟨_, rfl, rfl, false, dF (vN (by decide)), iteF ⟨_, rfl, rfl, false, dF (vN (by decide)), iteF ⟨_, rfl, rfl, true, dT rfl, iteT ?_⟩⟩⟩
        exact ⟨.ref r, rfl, r, _, 0, _, rfl, rfl, hS, atI_nat (j := 0) rfl, .ref r, rfl, r, _, 1, _, rfl, rfl, hS, atI_nat (j := 1) rfl, .ref r, rfl, r, _, 2, _, rfl, rfl, hS, atI_nat (j := 2) rfl, .ref r, rfl, r, _, 3, _, rfl, rfl, hS, atI_nat (j := 3) rfl, h⟩
      · refine ⟨_, rfl, rfl, false, dF (vN (by decide)), iteF ⟨_, rfl, rfl, false, dF (vN (by decide)), iteF ⟨_, rfl, rfl, false, dF (vN (by decide)), iteF ⟨_, rfl, rfl, true, dT rfl, iteT ?_⟩⟩⟩⟩
        exact ⟨.ref r, rfl, r, _, 3, _, rfl, rfl, hS, atI_nat (j := 3) rfl, .ref r, rfl, r, _, 2, _, rfl, rfl, hS, atI_nat (j := 2) rfl, .ref r, rfl, r, _, 1, _, rfl, rfl, hS, atI_nat (j := 1) rfl, .ref r, rfl, r, _, 0, _, rfl, rfl, hS, atI_nat (j := 0) rfl, rfl, h⟩
    · rcases (show way = 4 ∨ way = 5 by omega) with rfl | rfl
      · refine ⟨_, rfl, rfl, false, dF (vN (by decide)), iteF ⟨_, rfl, rfl, false, dF (vN (by decide)), iteF ⟨_, rfl, rfl, false, dF (vN (by decide)), iteF ⟨_, rfl, rfl, false, dF (vN (by decide)), iteF ⟨_, rfl, rfl, true, dT rfl, iteT ?_⟩⟩⟩⟩⟩
        exact ⟨.ref r, rfl, r, _, 0, _, rfl, rfl, hS, atI_nat (j := 0) rfl, .ref r, rfl, r, _, 1, _, rfl, rfl, hS, atI_nat (j := 1) rfl, .ref r, rfl, r, _, 2, _, rfl, rfl, hS, atI_nat (j := 2) rfl, h⟩
      · refine ⟨_, rfl, rfl, false, dF (vN (by decide)), iteF ⟨_, rfl, rfl, false, dF (vN (by decide)), iteF ⟨_, rfl, rfl, false, dF (vN (by decide)), iteF ⟨_, rfl, rfl, false, dF (vN (by decide)), iteF ⟨_, rfl, rfl, false, dF (vN (by decide)), iteF ?_⟩⟩⟩⟩⟩
        exact ⟨.ref r, rfl, r, _, 2, _, rfl, rfl, hS, atI_nat (j := 2) rfl, .ref r, rfl, r, _, 1, _, rfl, rfl, hS, atI_nat (j := 1) rfl, .ref r, rfl, r, _, 0, _, rfl, rfl, hS, atI_nat (j := 0) rfl, rfl, h⟩
/-- a calm one -/
def spAsk31C (K : PySem.W.Frag) : Sp := fun vs H Q _ => ∃ (way i : Nat) (r : Addr) (xs : List V), vs = [.int (way : Nat), .ref r] ∧ way / 2 = i ∧ SqL K H r xs ∧ ∃ D, Is31 K H i xs D ∧ ∀ H' v, Same H H' → Dp K H' v D → Q v H'
theorem ask31_calm {cB cL cT cO cS : Addr} : ∀ vs H Q E, spAsk31C K vs H Q E → spAsk31 K cB cL cT cO cS vs H Q fun _ _ _ => False := by
  rintro vs H Q E ⟨way, i, r, xs, e, hw, hS, h⟩
  exact ⟨way, i, r, xs, e, hw, hS, .inr h⟩
end
/-! ### data stay -/
mutual
theorem dp_same {K : PySem.W.Frag} {H H' : Hp} (s : Same H H') : ∀ {v : V} {d : PyData}, Dp K H v d → Dp K H' v d
  | _, _, .int i => .int i
  | _, _, .str x => .str x
  | _, _, .bl b => .bl b
  | _, _, .non => .non
  | _, _, .lst h t => .lst (s.seq h) (dps_same s t)
  | _, _, .tup h t => .tup (h.elim (fun h => .inl (h.elim (fun h => .inl (s _ _ h)) fun ⟨o, h⟩ => .inr ⟨o, s _ _ h⟩)) .inr) (dps_same s t)
theorem dps_same {K : PySem.W.Frag} {H H' : Hp} (s : Same H H') : ∀ {vs : List V} {ds : List PyData}, DpAll K H vs ds → DpAll K H' vs ds
  | _, _, .nil => .nil
  | _, _, .cons h t => .cons (dp_same s h) (dps_same s t)
end
/-! ### small data of any kind, empty dicts too: what repr shows of them -/
mutual
theorem DpE.same {K : PySem.W.Frag} {H H' : Hp} (s : Same H H') : ∀ {v : V} {d : PyData}, DpE K H v d → DpE K H' v d
  | _, _, .flat h n => .flat (dp_same s h) n
  | _, _, .dict0 h => .dict0 (s _ _ h)
  | _, _, .dict1 h => .dict1 (s _ _ h)
  | _, _, .lst h t => .lst (s.seq h) (DpEAll.same s t)
  | _, _, .tup h t => .tup (h.elim (fun h => .inl (h.elim (fun h => .inl (s _ _ h)) fun ⟨o, h⟩ => .inr ⟨o, s _ _ h⟩)) .inr) (DpEAll.same s t)
theorem DpEAll.same {K : PySem.W.Frag} {H H' : Hp} (s : Same H H') : ∀ {vs : List V} {ds : List PyData}, DpEAll K H vs ds → DpEAll K H' vs ds
  | _, _, .nil => .nil
  | _, _, .cons h t => .cons (DpE.same s h) (DpEAll.same s t)
end
/-- what is small -/
def tinyB (d : PyData) : Bool := decide (d.depth ≤ 4) && d.showable && d.leavesShort 40 && decide (d.weight ≤ 3000)
def Odd (K : PySem.W.Frag) (H : Hp) (v : V) : Prop := ∃ d, tinyB d = true ∧ DpE K H v d
theorem Odd.same {K : PySem.W.Frag} {H H' : Hp} {v : V} (s : Same H H') (h : Odd K H v) : Odd K H' v := by
  obtain ⟨d, t, h⟩ := h
  exact ⟨d, t, h.same s⟩
theorem odd_flat {K : PySem.W.Frag} {H : Hp} {v : V} (d : PyData) (t : tinyB d = true) (n : d.hasDict = false) (h : Dp K H v d) : Odd K H v := ⟨d, t, .flat h n⟩
theorem odd_non {K : PySem.W.Frag} {H : Hp} : Odd K H .non := odd_flat .none (by decide +kernel) rfl .non
theorem odd_bl {K : PySem.W.Frag} {H : Hp} (b : Bool) : Odd K H (.bl b) := odd_flat (.bool b) (by cases b <;> decide +kernel) rfl (.bl b)
theorem odd_dict {K : PySem.W.Frag} {H : Hp} {a : Addr} (h : H a = some (.dK [])) : Odd K H (.ref a) := ⟨.dict [], by decide +kernel, .dict0 h⟩
theorem odd_dict1 {K : PySem.W.Frag} {H : Hp} {a : Addr} (h : H a = some (.dK [(.inl 0, .int 1)])) : Odd K H (.ref a) := ⟨.dict [(.int 0, .int 1)], by decide +kernel, .dict1 h⟩
theorem shown_int40 {i : Int} (h : i.natAbs < 10 ^ 38) : (PyData.shown (.int i)).length ≤ 40 := by
  have := int_text_length_le10 (a := i) (k := 38) (by decide) h
  have e : (PyData.shown (.int i)).length = (toString i).length := by
    show (Str.ofString (toString i)).length = _
    exact PySem.ofString_length _
  omega
theorem tiny_int {i : Int} (h : i.natAbs < 10 ^ 38) : tinyB (.int i) = true := by
  have h1 : i.natAbs.log2 < 200 := by
    by_cases z : i.natAbs = 0
    · rw [z]
      decide
    · exact (Nat.log2_lt z).mpr (Nat.lt_trans h (by decide))
  have e1 : (PyData.int i).showable = true := by
    show decide (i.natAbs.log2 < 1920) = true
    exact decide_eq_true (by omega)
  have e2 : (PyData.int i).leavesShort 40 = true := by
    show decide ((PyData.shown (.int i)).length ≤ 40) = true
    exact decide_eq_true (shown_int40 h)
  have e3 : (PyData.int i).weight ≤ 3000 := by
    show (if i == 0 then 0 else i.natAbs.log2 + 1) ≤ 3000
    split <;> omega
  unfold tinyB
  rw [e1, e2, decide_eq_true e3]
  rfl
theorem odd_int {K : PySem.W.Frag} {H : Hp} {i : Int} (h : i.natAbs < 10 ^ 38) : Odd K H (.int i) := odd_flat _ (tiny_int h) rfl (.int i)
theorem tiny_pair {i j : Int} (h1 : i.natAbs < 10 ^ 38) (h2 : j.natAbs < 10 ^ 38) : tinyB (.tuple [.int i, .int j]) = true := by
  have a := tiny_int h1
  have b := tiny_int h2
  unfold tinyB at a b ⊢
  simp only [Bool.and_eq_true, decide_eq_true_eq] at a b
  obtain ⟨⟨⟨_, a1⟩, a2⟩, _⟩ := a
  obtain ⟨⟨⟨_, b1⟩, b2⟩, _⟩ := b
  have w : ∀ {k : Int}, k.natAbs < 10 ^ 38 → (PyData.int k).weight ≤ 200 := fun {k} h => by
    show (if k == 0 then 0 else k.natAbs.log2 + 1) ≤ 200
    split
    · omega
    · rename_i z
      have z2 : k.natAbs ≠ 0 := fun e => by
        rw [Int.natAbs_eq_zero.mp e] at z
        exact z rfl
      have := (Nat.log2_lt z2).mpr (Nat.lt_trans h (by decide : 10 ^ 38 < 2 ^ 150))
      omega
  have w1 := w h1
  have w2 := w h2
  have e1 : (PyData.tuple [.int i, .int j]).showable = true := by
    show ((PyData.int i).showable && ((PyData.int j).showable && true)) = true
    rw [a1, b1]
    rfl
  have e2 : (PyData.tuple [.int i, .int j]).leavesShort 40 = true := by
    show ((PyData.int i).leavesShort 40 && ((PyData.int j).leavesShort 40 && true)) = true
    rw [a2, b2]
    rfl
  have e3 : (PyData.tuple [.int i, .int j]).weight ≤ 3000 := by
    show (PyData.int i).weight + 1 + ((PyData.int j).weight + 1 + 0) ≤ 3000
    omega
  rw [e1, e2, decide_eq_true e3]
  rfl
theorem odd_pair {K : PySem.W.Frag} {H : Hp} {t : Addr} {i j : Int} (e : H t = some (.tup [.int i, .int j])) (h1 : i.natAbs < 10 ^ 38) (h2 : j.natAbs < 10 ^ 38) : Odd K H (.ref t) :=
  odd_flat _ (tiny_pair h1 h2) rfl (.tup (SqT.of e) (.cons (.int i) (.cons (.int j) .nil)))
theorem lvs_tiny : ∀ ws : List Bool, PyData.showableAll (ws.map lvD) = true ∧ PyData.leavesShortAll 40 (ws.map lvD) = true ∧ PyData.weightAll (ws.map lvD) ≤ 6 * ws.length ∧ PyData.hasDictAll (ws.map lvD) = false
  | [] => ⟨rfl, rfl, Nat.le_refl _, rfl⟩
  | b :: r => by
    obtain ⟨h1, h2, h3, h4⟩ := lvs_tiny r
    have z : (lvD b).showable = true ∧ (lvD b).leavesShort 40 = true ∧ (lvD b).weight = 5 ∧ (lvD b).hasDict = false := by cases b <;> exact ⟨rfl, by decide +kernel, by decide +kernel, rfl⟩
    obtain ⟨z1, z2, z3, z4⟩ := z
    refine ⟨?_, ?_, ?_, ?_⟩
    · show ((lvD b).showable && PyData.showableAll (r.map lvD)) = true
      rw [z1, h1]
      rfl
    · show ((lvD b).leavesShort 40 && PyData.leavesShortAll 40 (r.map lvD)) = true
      rw [z2, h2]
      rfl
    · show (lvD b).weight + 1 + PyData.weightAll (r.map lvD) ≤ 6 * (r.length + 1)
      omega
    · show ((lvD b).hasDict || PyData.hasDictAll (r.map lvD)) = false
      rw [z4, h4]
      rfl
theorem odd_levels {K : PySem.W.Frag} {H : Hp} {q : Addr} {ws : List Bool} (h : SqL K H q (ws.map lvV)) (l : ws.length ≤ 100) : Odd K H (.ref q) := by
  obtain ⟨h1, h2, h3, h4⟩ := lvs_tiny ws
  refine odd_flat (.list (ws.map lvD)) ?_ h4 (.lst h (lvs_dp ws))
  unfold tinyB
  have e0 : (PyData.list (ws.map lvD)).depth ≤ 4 := by
    show PyData.depthAll _ + 1 ≤ 4
    rw [lvs_depth ws]
    decide
  have e1 : (PyData.list (ws.map lvD)).showable = true := h1
  have e2 : (PyData.list (ws.map lvD)).leavesShort 40 = true := h2
  have e3 : (PyData.list (ws.map lvD)).weight ≤ 3000 := by
    show PyData.weightAll _ ≤ 3000
    omega
  rw [decide_eq_true e0, e1, e2, decide_eq_true e3]
  rfl
/-- a list of few small data -/
theorem odd_row {K : PySem.W.Frag} {H : Hp} : ∀ {xs : List V}, (∀ x ∈ xs, Odd K H x) → ∃ ds, DpEAll K H xs ds ∧ PyData.depthAll ds ≤ 4 ∧ PyData.showableAll ds = true ∧ PyData.leavesShortAll 40 ds = true ∧ PyData.weightAll ds ≤ 3001 * xs.length
  | [], _ => ⟨[], .nil, Nat.zero_le _, rfl, rfl, Nat.zero_le _⟩
  | x :: xs, h => by
    obtain ⟨ds, a1, a2, a3, a4, a5⟩ := odd_row (xs := xs) fun y hy => h y (List.mem_cons_of_mem _ hy)
    obtain ⟨d, t, hd⟩ := h x List.mem_cons_self
    unfold tinyB at t
    simp only [Bool.and_eq_true, decide_eq_true_eq] at t
    obtain ⟨⟨⟨t1, t2⟩, t3⟩, t4⟩ := t
    refine ⟨d :: ds, .cons hd a1, ?_, ?_, ?_, ?_⟩
    · show max d.depth (PyData.depthAll ds) ≤ 4
      omega
    · show (d.showable && PyData.showableAll ds) = true
      rw [t2, a3]
      rfl
    · show (d.leavesShort 40 && PyData.leavesShortAll 40 ds) = true
      rw [t3, a4]
      rfl
    · show d.weight + 1 + PyData.weightAll ds ≤ 3001 * (xs.length + 1)
      omega
/-- all that repr wants to know -/
theorem repr_row {K : PySem.W.Frag} {H : Hp} {a : Addr} {xs : List V} (hS : SqL K H a xs) (ne : xs ≠ []) (h : ∀ x ∈ xs, Odd K H x) (l : xs.length ≤ 20) :
    ∃ ds : List PyData, (PyData.list ds).shown.length ≤ sizeLine ∧ ∀ H', Same H H' → ∃ (a' : Addr) (ys : List V) (ds' : List PyData), V.ref a = .ref a' ∧ SqL K H' a' ys ∧ ys ≠ [] ∧ DpEAll K H' ys ds' ∧ (PyData.list ds').depth ≤ 50 ∧ (PyData.list ds').showable = true ∧ (PyData.list ds').shown.length ≤ sizeLine ∧ ds' = ds := by
  obtain ⟨ds, a1, a2, a3, a4, a5⟩ := odd_row h
  have e1 : (PyData.list ds).depth ≤ 50 := by
    show PyData.depthAll ds + 1 ≤ 50
    omega
  have e2 : (PyData.list ds).shown.length ≤ sizeLine := by
    have z := PyData.shown_le 40 (by decide) (.list ds) a4
    have w : (PyData.list ds).weight = PyData.weightAll ds := rfl
    rw [sizeLine_eq]
    omega
  exact ⟨ds, e2, fun H' s => ⟨a, xs, ds, rfl, s.seq hS, ne, a1.same s, e1, a3, e2, rfl⟩⟩
/-! ### data where tables of lambdas grow -/
theorem tyOf_ext {K : PySem.W.Frag} {H H' : Hp} (s : LamX.ExtN H H') {x : V} {t : Value} (h : TyOf K H x t) : TyOf K H' x t := by
  cases h with
  | non => exact .non
  | bl x => exact .bl x
  | int i => exact .int i
  | str x => exact .str x
  | flt x => exact .flt x
  | lst e => exact .lst ((s _ _ e (fun _ z => by cases z)))
  | frz e => exact .frz ((s _ _ e (fun _ z => by cases z)))
  | tup e => exact .tup ((s _ _ e (fun _ z => by cases z)))
  | dK e => exact .dK ((s _ _ e (fun _ z => by cases z)))
  | dT e => exact .dT ((s _ _ e (fun _ z => by cases z)))
  | ins e cl ha hn htk hm => exact .ins ((s _ _ e (fun _ z => by cases z))) cl ha hn htk hm
theorem tyX_ext {K : PySem.W.Frag} {H H' : Hp} (s : LamX.ExtN H H') {x : V} {t : Value} (h : TyX K H x t) : TyX K H' x t := by
  cases h with
  | base h => exact .base (tyOf_ext s h)
  | byt b => exact .byt b
  | set e => exact .set ((s _ _ e (fun _ z => by cases z)))
  | kList e c => exact .kList e c
  | kTuple e c => exact .kTuple e c
  | kDict e c => exact .kDict e c
  | fTuple e => exact .fTuple ((s _ _ e (fun _ z => by cases z)))
  | fDict e => exact .fDict ((s _ _ e (fun _ z => by cases z)))
theorem NotA.ext {K : PySem.W.Frag} {H H' : Hp} {c : String} {x : V} (s : LamX.ExtN H H') (h : NotA K H c x) : NotA K H' c x := by
  obtain ⟨a, h1, h2⟩ := h
  exact ⟨a, tyX_ext s h1, h2⟩
theorem NoInt.ext {K : PySem.W.Frag} {H H' : Hp} {x : V} (s : LamX.ExtN H H') (h : NoInt K H x) : NoInt K H' x := by
  obtain ⟨t, h1, h2⟩ := h
  exact ⟨t, tyX_ext s h1, h2⟩
theorem BadTick.ext {K : PySem.W.Frag} {H H' : Hp} {x : V} {l : Int} (s : LamX.ExtN H H') (h : BadTick K H x l) : BadTick K H' x l := h.imp (·.ext s) id
theorem NoWord.ext {K : PySem.W.Frag} {H H' : Hp} {x : V} (s : LamX.ExtN H H') (h : NoWord K H x) : NoWord K H' x := h.imp (·.ext s) id
theorem BadBase.ext {K : PySem.W.Frag} {H H' : Hp} {x : V} (s : LamX.ExtN H H') (h : BadBase K H x) : BadBase K H' x := h.imp (·.ext s) id
theorem BadLevels.ext {K : PySem.W.Frag} {H H' : Hp} {x : V} (s : LamX.ExtN H H') (h : BadLevels K H x) : BadLevels K H' x := by
  rcases h with h | ⟨q, xs, e, hs, h⟩
  · exact .inl (h.ext s)
  · refine .inr ⟨q, xs, e, (ExtN.seq s hs), ?_⟩
    rcases h with h | h | ⟨h1, h2, v, hv, h3⟩
    · exact .inl h
    · exact .inr (.inl h)
    · exact .inr (.inr ⟨h1, fun v hv => (h2 v hv).imp id (·.ext s), v, hv, h3.ext s⟩)
theorem BadLength.ext {K : PySem.W.Frag} {H H' : Hp} {x : V} (s : LamX.ExtN H H') (h : BadLength K H x) : BadLength K H' x := h.imp (·.ext s) id
mutual
theorem dp_ext {K : PySem.W.Frag} {H H' : Hp} (s : LamX.ExtN H H') : ∀ {v : V} {d : PyData}, Dp K H v d → Dp K H' v d
  | _, _, .int i => .int i
  | _, _, .str x => .str x
  | _, _, .bl b => .bl b
  | _, _, .non => .non
  | _, _, .lst h t => .lst ((ExtN.seq s h)) (dps_ext s t)
  | _, _, .tup h t => .tup (h.elim (fun h => .inl (h.elim (fun h => .inl ((s _ _ h (fun _ z => by cases z)))) fun ⟨o, h⟩ => .inr ⟨o, (s _ _ h (fun _ z => by cases z))⟩)) .inr) (dps_ext s t)
theorem dps_ext {K : PySem.W.Frag} {H H' : Hp} (s : LamX.ExtN H H') : ∀ {vs : List V} {ds : List PyData}, DpAll K H vs ds → DpAll K H' vs ds
  | _, _, .nil => .nil
  | _, _, .cons h t => .cons (dp_ext s h) (dps_ext s t)
end
mutual
theorem DpE.ext {K : PySem.W.Frag} {H H' : Hp} (s : LamX.ExtN H H') : ∀ {v : V} {d : PyData}, DpE K H v d → DpE K H' v d
  | _, _, .flat h n => .flat (dp_ext s h) n
  | _, _, .dict0 h => .dict0 ((s _ _ h (fun _ z => by cases z)))
  | _, _, .dict1 h => .dict1 ((s _ _ h (fun _ z => by cases z)))
  | _, _, .lst h t => .lst ((ExtN.seq s h)) (DpEAll.ext s t)
  | _, _, .tup h t => .tup (h.elim (fun h => .inl (h.elim (fun h => .inl ((s _ _ h (fun _ z => by cases z)))) fun ⟨o, h⟩ => .inr ⟨o, (s _ _ h (fun _ z => by cases z))⟩)) .inr) (DpEAll.ext s t)
theorem DpEAll.ext {K : PySem.W.Frag} {H H' : Hp} (s : LamX.ExtN H H') : ∀ {vs : List V} {ds : List PyData}, DpEAll K H vs ds → DpEAll K H' vs ds
  | _, _, .nil => .nil
  | _, _, .cons h t => .cons (DpE.ext s h) (DpEAll.ext s t)
end
theorem Odd.ext {K : PySem.W.Frag} {H H' : Hp} {v : V} (s : LamX.ExtN H H') (h : Odd K H v) : Odd K H' v := by
  obtain ⟨d, t, h⟩ := h
  exact ⟨d, t, h.ext s⟩
/-! ### data where tables of lambdas grow -/
theorem SightAt.ext {H H' : Hp} {v : V} {n d : Nat} {f : Bool} (s : LamX.ExtN H H') (h : SightAt H v n d f) : SightAt H' v n d f := by
  obtain ⟨t, e, h, l⟩ := h
  exact ⟨t, e, (s _ _ h (fun _ z => by cases z)), l⟩
theorem NoSide.ext {K : PySem.W.Frag} {H H' : Hp} {x : V} (s : LamX.ExtN H H') (h : NoSide K H x) : NoSide K H' x := h.imp (·.ext s) id
theorem BadSight.ext {K : PySem.W.Frag} {H H' : Hp} {v : V} (s : LamX.ExtN H H') (h : BadSight K H v) : BadSight K H' v := by
  rcases h with h | ⟨a, xs, e, h, h2⟩
  · exact .inl (h.ext s)
  · exact .inr ⟨a, xs, e, (s _ _ h (fun _ z => by cases z)), h2.imp id fun ⟨x, y, z, e2, h3⟩ => ⟨x, y, z, e2, h3.imp (·.ext s) fun ⟨n, e3, h4⟩ => ⟨n, e3, h4.imp (·.ext s) fun ⟨d, e4, l, h5⟩ => ⟨d, e4, l, h5.ext s⟩⟩⟩⟩
theorem BadSeen.ext {K : PySem.W.Frag} {H H' : Hp} {x : V} (s : LamX.ExtN H H') (h : BadSeen K H x) : BadSeen K H' x := by
  rcases h with h | ⟨S, xs, e, h1, l, h2, v, hv, h3⟩
  · exact .inl (h.ext s)
  · exact .inr ⟨S, xs, e, (ExtN.seq s h1), l, fun v hv => (h2 v hv).imp (fun ⟨n, d, f, z⟩ => ⟨n, d, f, z.ext s⟩) (·.ext s), v, hv, h3.ext s⟩
theorem BadOrder.ext {K : PySem.W.Frag} {H H' : Hp} {x : V} (s : LamX.ExtN H H') (h : BadOrder K H x) : BadOrder K H' x := by
  rcases h with h | ⟨O, xs, e, h1, l, h2⟩
  · exact .inl (h.ext s)
  · refine .inr ⟨O, xs, e, (ExtN.seq s h1), l, h2.imp id fun h2 => h2.imp (fun ⟨h3, h4, v, hv, h5⟩ => ⟨h3, fun v hv => (h4 v hv).imp id (·.ext s), v, hv, h5.ext s⟩) id⟩
theorem GoodL.ext {K : PySem.W.Frag} {H H' : Hp} {x : V} (s : LamX.ExtN H H') (h : GoodL K H x) : GoodL K H' x := by
  obtain ⟨q, ws, e, h1, h2⟩ := h
  exact ⟨q, ws, e, (ExtN.seq s h1), h2⟩
theorem SetBad.ext {K : PySem.W.Frag} {H H' : Hp} {x0 x1 x2 x3 x4 : V} {e : Nat} (s : LamX.ExtN H H') (h : SetBad K H x0 x1 x2 x3 x4 e) : SetBad K H' x0 x1 x2 x3 x4 e :=
  h.imp (fun z => ⟨z.1, z.2.ext s⟩) fun ⟨g0, h⟩ => ⟨g0, h.imp (fun z => ⟨z.1, z.2.ext s⟩) fun ⟨g1, h⟩ => ⟨g1.ext s, h.imp (fun z => ⟨z.1, z.2.ext s⟩) fun ⟨n, e2, h⟩ => ⟨n, e2, h.imp (fun z => ⟨z.1, z.2.ext s⟩) fun ⟨d, e3, l, z⟩ => ⟨d, e3, l, z.1, z.2.ext s⟩⟩⟩⟩
theorem ToldBad.ext {K : PySem.W.Frag} {H H' : Hp} {x0 x1 x2 x3 : V} {e : Nat} (s : LamX.ExtN H H') (h : ToldBad K H x0 x1 x2 x3 e) : ToldBad K H' x0 x1 x2 x3 e :=
  h.imp (fun z => ⟨z.1, z.2.ext s⟩) fun ⟨g0, h⟩ => ⟨g0, h.imp (fun z => ⟨z.1, z.2.ext s⟩) fun ⟨g1, h⟩ => ⟨g1.ext s, h.imp (fun z => ⟨z.1, z.2.ext s⟩) fun ⟨g2, z⟩ => ⟨g2, z.1, z.2.ext s⟩⟩⟩
theorem SeenBad.ext {K : PySem.W.Frag} {H H' : Hp} {x0 x1 x2 : V} {e : Nat} (s : LamX.ExtN H H') (h : SeenBad K H x0 x1 x2 e) : SeenBad K H' x0 x1 x2 e :=
  h.imp (fun z => ⟨z.1, z.2.ext s⟩) fun ⟨g0, h⟩ => ⟨g0, h.imp (fun z => ⟨z.1, z.2.ext s⟩) fun ⟨n, e2, l1, l2, z⟩ => ⟨n, e2, l1, l2, z.1, z.2.ext s⟩⟩
theorem SightsAt.ext {H H' : Hp} {ts : List Addr} {ss : List (Nat × Nat × Bool)} (s : LamX.ExtN H H') (h : SightsAt H ts ss) : SightsAt H' ts ss := ⟨h.1, fun j t x h1 h2 => ⟨(s _ _ (h.2 j t x h1 h2).1 (fun _ z => by cases z)), (h.2 j t x h1 h2).2⟩⟩
theorem SetIs.ext {K : PySem.W.Frag} {H H' : Hp} {x0 x1 x2 x3 x4 : V} {D : PyData} (s : LamX.ExtN H H') (h : SetIs K H x0 x1 x2 x3 x4 D) : SetIs K H' x0 x1 x2 x3 x4 D := by
  obtain ⟨b, n, d, k, q, O, ws, o, xs, ok, e0, e1, e2, e3, e4, h1, h2, h3, h4, h5, h6, h7, h8, h9⟩ := h
  exact ⟨b, n, d, k, q, O, ws, o, xs, ok, e0, e1, e2, e3, e4, h1, h2, h3, h4, (ExtN.seq s h5), h6, h7, (ExtN.seq s h8), h9⟩
theorem ToldIs.ext {K : PySem.W.Frag} {H H' : Hp} {x0 x1 x2 x3 : V} {D : PyData} (s : LamX.ExtN H H') (h : ToldIs K H x0 x1 x2 x3 D) : ToldIs K H' x0 x1 x2 x3 D := by
  obtain ⟨b1, b2, q1, q2, w1, w2, r, e0, e1, e2, e3, h1, h2, h3, h4, h5, h6, h7, h8, h9⟩ := h
  exact ⟨b1, b2, q1, q2, w1, w2, r, e0, e1, e2, e3, h1, h2, h3, h4, h5, h6, (ExtN.seq s h7), (ExtN.seq s h8), h9⟩
theorem SeenIs.ext {K : PySem.W.Frag} {H H' : Hp} {x0 x1 x2 : V} {D : PyData} (s : LamX.ExtN H H') (h : SeenIs K H x0 x1 x2 D) : SeenIs K H' x0 x1 x2 D := by
  obtain ⟨b, many, S, ts, ss, e0, e1, e2, h1, h2, h3, h4, h5, h6, h7⟩ := h
  exact ⟨b, many, S, ts, ss, e0, e1, e2, h1, h2, h3, h4, (ExtN.seq s h5), h6.ext s, h7⟩
theorem Bad31.ext {K : PySem.W.Frag} {H H' : Hp} {i : Nat} {xs : List V} {e : Nat} (s : LamX.ExtN H H') (h : Bad31 K H i xs e) : Bad31 K H' i xs e := by
  rcases h with ⟨e1, x0, x1, x2, x3, x4, e2, h⟩ | ⟨e1, x0, x1, x2, x3, e2, h⟩ | ⟨e1, x0, x1, x2, e2, h⟩
  · exact .inl ⟨e1, x0, x1, x2, x3, x4, e2, h.ext s⟩
  · exact .inr (.inl ⟨e1, x0, x1, x2, x3, e2, h.ext s⟩)
  · exact .inr (.inr ⟨e1, x0, x1, x2, e2, h.ext s⟩)
theorem Is31.ext {K : PySem.W.Frag} {H H' : Hp} {i : Nat} {xs : List V} {D : PyData} (s : LamX.ExtN H H') (h : Is31 K H i xs D) : Is31 K H' i xs D := by
  rcases h with ⟨e1, x0, x1, x2, x3, x4, e2, h⟩ | ⟨e1, x0, x1, x2, x3, e2, h⟩ | ⟨e1, x0, x1, x2, e2, h⟩
  · exact .inl ⟨e1, x0, x1, x2, x3, x4, e2, h.ext s⟩
  · exact .inr (.inl ⟨e1, x0, x1, x2, x3, e2, h.ext s⟩)
  · exact .inr (.inr ⟨e1, x0, x1, x2, e2, h.ext s⟩)
/-! ### data of some depth and weight -/
def OddW (K : PySem.W.Frag) (H : Hp) (n m : Nat) (v : V) : Prop := ∃ d, d.depth ≤ n ∧ d.showable = true ∧ d.leavesShort 40 = true ∧ d.weight ≤ m ∧ DpE K H v d
theorem Odd.w {K : PySem.W.Frag} {H : Hp} {v : V} (h : Odd K H v) : OddW K H 4 3000 v := by
  obtain ⟨d, t, h⟩ := h
  unfold tinyB at t
  simp only [Bool.and_eq_true, decide_eq_true_eq] at t
  obtain ⟨⟨⟨t1, t2⟩, t3⟩, t4⟩ := t
  exact ⟨d, t1, t2, t3, t4, h⟩
theorem OddW.mono {K : PySem.W.Frag} {H : Hp} {n m n' m' : Nat} {v : V} (h : OddW K H n m v) (h1 : n ≤ n') (h2 : m ≤ m') : OddW K H n' m' v := by
  obtain ⟨d, t1, t2, t3, t4, h⟩ := h
  exact ⟨d, by omega, t2, t3, by omega, h⟩
theorem oddw_str {K : PySem.W.Frag} {H : Hp} (s : Str) (h1 : (PyData.str s).leavesShort 40 = true) (h2 : (PyData.str s).weight ≤ 20) : OddW K H 0 20 (.str s) := ⟨.str s, Nat.le_refl _, rfl, h1, h2, .flat (.str s) rfl⟩
theorem oddw_all {K : PySem.W.Frag} {H : Hp} {n m : Nat} : ∀ {xs : List V}, (∀ x ∈ xs, OddW K H n m x) → ∃ ds, DpEAll K H xs ds ∧ PyData.depthAll ds ≤ n ∧ PyData.showableAll ds = true ∧ PyData.leavesShortAll 40 ds = true ∧ PyData.weightAll ds ≤ (m + 1) * xs.length
  | [], _ => ⟨[], .nil, Nat.zero_le _, rfl, rfl, Nat.zero_le _⟩
  | x :: xs, h => by
    obtain ⟨ds, a1, a2, a3, a4, a5⟩ := oddw_all (xs := xs) fun y hy => h y (List.mem_cons_of_mem _ hy)
    obtain ⟨d, t1, t2, t3, t4, hd⟩ := h x List.mem_cons_self
    refine ⟨d :: ds, .cons hd a1, ?_, ?_, ?_, ?_⟩
    · show max d.depth (PyData.depthAll ds) ≤ n
      omega
    · show (d.showable && PyData.showableAll ds) = true
      rw [t2, a3]
      rfl
    · show (d.leavesShort 40 && PyData.leavesShortAll 40 ds) = true
      rw [t3, a4]
      rfl
    · show d.weight + 1 + PyData.weightAll ds ≤ (m + 1) * (xs.length + 1)
      rw [Nat.mul_succ]
      omega
theorem oddw_lst {K : PySem.W.Frag} {H : Hp} {n m k : Nat} {a : Addr} {xs : List V} (hS : SqL K H a xs) (h : ∀ x ∈ xs, OddW K H n m x) (hk : (m + 1) * xs.length ≤ k) : OddW K H (n + 1) k (.ref a) := by
  obtain ⟨ds, a1, a2, a3, a4, a5⟩ := oddw_all h
  refine ⟨.list ds, ?_, a3, a4, Nat.le_trans a5 hk, .lst hS a1⟩
  show PyData.depthAll ds + 1 ≤ n + 1
  omega
theorem oddw_tup {K : PySem.W.Frag} {H : Hp} {n m k : Nat} {a : Addr} {xs : List V} (hS : SqT K H a xs) (h : ∀ x ∈ xs, OddW K H n m x) (hk : (m + 1) * xs.length ≤ k) : OddW K H (n + 1) k (.ref a) := by
  obtain ⟨ds, a1, a2, a3, a4, a5⟩ := oddw_all h
  refine ⟨.tuple ds, ?_, a3, a4, Nat.le_trans a5 hk, .tup hS a1⟩
  show PyData.depthAll ds + 1 ≤ n + 1
  omega
/-- what repr wants to know of such a list, tables grown or not -/
theorem repr_w {K : PySem.W.Frag} {H : Hp} {a : Addr} {xs : List V} {n m : Nat} (hS : SqL K H a xs) (h : ∀ x ∈ xs, OddW K H n m x) (hn : n ≤ 40) (hm : (m + 1) * xs.length ≤ 390000) :
    ∃ ds : List PyData, (PyData.list ds).depth ≤ 50 ∧ (PyData.list ds).showable = true ∧ (PyData.list ds).shown.length ≤ sizeLine ∧ ∀ H', LamX.ExtN H H' → SqL K H' a xs ∧ DpEAll K H' xs ds := by
  obtain ⟨ds, a1, a2, a3, a4, a5⟩ := oddw_all h
  have e1 : (PyData.list ds).depth ≤ 50 := by
    show PyData.depthAll ds + 1 ≤ 50
    omega
  have e2 : (PyData.list ds).shown.length ≤ sizeLine := by
    have z := PyData.shown_le 40 (by decide) (.list ds) a4
    have w : (PyData.list ds).weight = PyData.weightAll ds := rfl
    rw [sizeLine_eq]
    omega
  exact ⟨ds, e1, a3, e2, fun H' s => ⟨ExtN.seq s hS, a1.ext s⟩⟩
/-! ### the law's drawing of numbers -/
def SrcAt (H : Hp) (p : Addr) : Prop := ∃ a b c : Int, H p = some (.lst [.int a, .int b, .int c])
/-- all but the source p stands as it was; p is a source again -/
structure Stp (p : Addr) (H H' : Hp) : Prop where
  keep : ∀ q o, q ≠ p → H q = some o → H' q = some o
  src : SrcAt H' p
theorem Stp.refl {p : Addr} {H : Hp} (h : SrcAt H p) : Stp p H H := ⟨fun _ _ _ e => e, h⟩
theorem Stp.trans {p : Addr} {H H1 H2 : Hp} (a : Stp p H H1) (b : Stp p H1 H2) : Stp p H H2 := ⟨fun q o n e => b.keep q o n (a.keep q o n e), b.src⟩
theorem Stp.same {p : Addr} {H H1 H2 : Hp} (a : Stp p H H1) (b : Same H1 H2) : Stp p H H2 := by
  obtain ⟨x, y, z, e⟩ := a.src
  exact ⟨fun q o n e => b q o (a.keep q o n e), ⟨x, y, z, b _ _ e⟩⟩
theorem SrcAt.same {p : Addr} {H H' : Hp} (h : SrcAt H p) (s : Same H H') : SrcAt H' p := by
  obtain ⟨a, b, c, e⟩ := h
  exact ⟨a, b, c, s _ _ e⟩
theorem Stp.free {p q : Addr} {H H' : Hp} (a : Stp p H H') (hq : H' q = none) : H q = none := by
  cases e : H q with
  | none => rfl
  | some o =>
    by_cases z : q = p
    · obtain ⟨x, y, u, w⟩ := a.src
      rw [z, w] at hq
      cases hq
    · rw [a.keep q o z e] at hq
      cases hq
theorem SrcAt.ne {H : Hp} {p l : Addr} (h : SrcAt H p) (hl : H l = none) : l ≠ p := fun e => by
  obtain ⟨x, y, z, w⟩ := h
  rw [e, w] at hl
  cases hl
theorem SrcAt.stp_same {p : Addr} {H H' : Hp} (h : SrcAt H p) (s : Same H H') : Stp p H H' := (Stp.refl h).same s
theorem Stp.seqL {K : PySem.W.Frag} {p a : Addr} {xs : List V} {H H' : Hp} (s : Stp p H H') (n : a ≠ p) (h : SqL K H a xs) : SqL K H' a xs := by
  rcases h with (h | ⟨o, h⟩) | h
  · exact .inl (.inl (s.keep _ _ n h))
  · exact .inl (.inr ⟨o, s.keep _ _ n h⟩)
  · exact .inr h
section
variable {P : Program} {w : World} {K : PySem.W.Frag} {mg : Str → Option Value} {base : Heap}
def spCellAt (K : PySem.W.Frag) : Sp := fun vs H Q _ => ∃ (a : Addr) (ns : List Int) (k : Nat), vs = [.ref a, .int (k : Nat)] ∧ SqL K H a (ns.map V.int) ∧ ∀ v : Int, Q (.int v) H
theorem ok_cell_at {f : Addr} {fd : FuncData} (F : Fun K "_law_cell_at" "_law_cell_at" s__law_cell_at f fd) (T : Tx K mg) : FnOk P w K mg base CX0 1 f fd ["_law_script", "_law_k"] (spCellAt K) := by
  refine F.ok sc__law_cell_at (fun vs H Q E h => ?_) (fun cdv A outer s H vs Q E hr h => ?_)
  · obtain ⟨a, ns, k, rfl, _⟩ := h
    rfl
  · obtain ⟨a, ns, k, rfl, hS, q⟩ := h
    refine ⟨_, (pss_cons (ps_if (pt_cmpR op_lt (pv 1) (pe_callB (lenK (K := K) rfl) (by rfl) T.b_len PySem.boot_len (pa_cons (pv 0) pa_nil)) (nomark _))
        (pss_one (ps_ret (pe_ix (ix_listK (K := K) rfl) (pv 0) (pv 1) (fun _ _ => rfl))))
        pss_nil)
      (pss_one (ps_ret pe_int))), ?_⟩
    refine ⟨_, rfl, .ref a, rfl, a, ns.map V.int, rfl, .inl hS, _, _, rfl, rfl, _, rfl, ite2 (fun e => ?_) (fun e => ?_)⟩
    · have hk : k < ns.length := by
        have z := of_decide_eq_true e
        rw [List.length_map] at z
        omega
      have g : (ns.map V.int)[k]? = some (.int ns[k]) := by
        rw [List.getElem?_map, List.getElem?_eq_getElem hk]
        rfl
      exact ⟨.ref a, rfl, _, rfl, a, _, _, _, rfl, rfl, hS, atI_nat g, q _⟩
    · exact q 0
def spMixed : Sp := fun vs H Q _ => ∃ c k : Int, vs = [.int c, .int k] ∧ ∀ r : Int, 0 ≤ r → r < 2147483563 → Q (.int r) H
theorem ok_mixed {f : Addr} {fd : FuncData} (F : Fun K "_law_mixed" "_law_mixed" s__law_mixed f fd)  : FnOk P w K mg base CX0 1 f fd ["_law_cell", "_law_k"] spMixed := by
  refine F.ok sc__law_mixed (fun vs H Q E h => ?_) (fun cdv A outer s H vs Q E hr h => ?_)
  · obtain ⟨c, k, rfl, _⟩ := h
    rfl
  · obtain ⟨c, k, rfl, q⟩ := h
    refine ⟨_, (pss_cons (ps_set (i := 2) sc__law_mixed.nd rfl (.inl rfl) (pe_op op_add (pe_op op_mod (pv 0) pe_int) (pe_op op_mulA (pe_op op_fdivW (pv 0) pe_int) pe_int)))
      (pss_cons (ps_set (i := 2) sc__law_mixed.nd rfl (.inl rfl) (pe_op op_mod (pe_op op_mulA (pe_op op_add (pe_op op_add (pv 2) (pe_op op_mulA pe_int (pv 1))) pe_int) pe_int) pe_int))
      (pss_cons (ps_set (i := 2) sc__law_mixed.nd rfl (.inl rfl) (pe_op op_mod (pe_op op_mulA (pv 2) (pe_op op_add (pe_op op_add (pe_op op_fdivW (pv 2) pe_int) pe_int) (pv 1))) pe_int))
      (pss_one (ps_ret (pe_op op_mod (pe_op op_mulA (pv 2) (pe_op op_add (pe_op op_fdivW (pv 2) pe_int) pe_int)) pe_int)))))), ?_⟩
    refine ⟨_, rfl, c, 2147483629, rfl, rfl, (by decide : (0 : Int) < 2147483629), _, rfl, c, 2147483629, rfl, rfl, div_s (by decide) (by decide), _, 30011, rfl, rfl, mul_r (by decide) (by decide), _, _, rfl, rfl, ?_⟩
    refine ⟨_, rfl, _, rfl, 69621, k, rfl, rfl, mul_l (by decide) (by decide), _, _, rfl, rfl, _, 1, rfl, rfl, _, 48271, rfl, rfl, mul_r (by decide) (by decide), _, 2147483629, rfl, rfl, (by decide : (0 : Int) < 2147483629), ?_⟩
    generalize hl : (c % 2147483629 + c / 2147483629 * 30011 + 69621 * k + 1) * 48271 = l0
    have b1 : 0 ≤ l0 % 2147483629 := Int.emod_nonneg _ (by decide)
    have b2 : l0 % 2147483629 < 2147483629 := Int.emod_lt_of_pos _ (by decide)
    refine ⟨_, rfl, _, rfl, l0 % 2147483629, 907, rfl, rfl, div_s (by decide) (by decide), _, 16831, rfl, rfl, _, rfl, _, k, rfl, rfl, l0 % 2147483629, _, rfl, rfl, mul_l (by omega) (by omega), _, 2147483587, rfl, rfl, (by decide : (0 : Int) < 2147483587), ?_⟩
    generalize (l0 % 2147483629) * (l0 % 2147483629 / 907 + 16831 + k) = l1
    have b3 : 0 ≤ l1 % 2147483587 := Int.emod_nonneg _ (by decide)
    have b4 : l1 % 2147483587 < 2147483587 := Int.emod_lt_of_pos _ (by decide)
    refine ⟨_, rfl, _, rfl, _, 1201, rfl, rfl, div_s (by decide) (by decide), _, 30011, rfl, rfl, _, _, rfl, rfl, mul_l (i := l1 % 2147483587) (by omega) (by omega), _, 2147483563, rfl, rfl, (by decide : (0 : Int) < 2147483563), ?_⟩
    exact q _ (Int.emod_nonneg _ (by decide)) (Int.emod_lt_of_pos _ (by decide))
def spSource (K : PySem.W.Frag) : Sp := fun vs H Q _ => ∃ (a : Addr) (ns : List Int) (k : Nat), vs = [.ref a, .int (k : Nat)] ∧ SqL K H a (ns.map V.int) ∧ ∀ H' p, Same H H' → H p = none → SrcAt H' p → Q (.ref p) H'
theorem ok_source {f : Addr} {fd : FuncData} (F : Fun K "_law_source" "_law_source" s__law_source f fd) (T : Tx K mg) (h1 : Has P w K mg base 1 "_law_cell_at" ["_law_script", "_law_k"] [] (spCellAt K))
    (h2 : Has P w K mg base 1 "_law_mixed" ["_law_cell", "_law_k"] [] spMixed) : FnOk P w K mg base CX0 2 f fd ["_law_script", "_law_k"] (spSource K) := by
  obtain ⟨f__law_cell_at, fd__law_cell_at, ds__law_cell_at, G__law_cell_at, m__law_cell_at, k__law_cell_at, b__law_cell_at, v__law_cell_at⟩ := h1
  obtain ⟨f__law_mixed, fd__law_mixed, ds__law_mixed, G__law_mixed, m__law_mixed, k__law_mixed, b__law_mixed, v__law_mixed⟩ := h2
  refine F.ok sc__law_source (fun vs H Q E h => ?_) (fun cdv A outer s H vs Q E hr h => ?_)
  · obtain ⟨a, ns, k, rfl, _⟩ := h
    rfl
  · obtain ⟨a, ns, k, rfl, hS, q⟩ := h
    refine ⟨_, (pss_cons (ps_if (pt_cmpR op_lt (pv 1) (pe_callB (lenK (K := K) rfl) (by rfl) T.b_len PySem.boot_len (pa_cons (pv 0) pa_nil)) (nomark _))
        (pss_one (ps_ret (pe_lst (pa_cons (pe_ix (ix_listK (K := K) rfl) (pv 0) (pv 1) (fun _ _ => rfl)) (pa_cons (pe_ix (ix_listK (K := K) rfl) (pv 0) (pv 1) (fun _ _ => rfl)) (pa_cons pe_int pa_nil))))))
        pss_nil)
      (pss_cons (ps_set (i := 2) sc__law_source.nd rfl (.inl rfl) (pe_call G__law_mixed hr (by rfl) m__law_mixed k__law_mixed b__law_mixed v__law_mixed pass0 (pa_cons (pe_call G__law_cell_at hr (by rfl) m__law_cell_at k__law_cell_at b__law_cell_at v__law_cell_at pass0 (pa_cons (pv 0) (pa_cons pe_int pa_nil))) (pa_cons (pe_op op_add pe_int (pv 1)) pa_nil))))
      (pss_one (ps_ret (pe_lst (pa_cons (pv 2) (pa_cons (pv 2) (pa_cons pe_int pa_nil)))))))), ?_⟩
    refine ⟨_, rfl, .ref a, rfl, a, ns.map V.int, rfl, .inl hS, _, _, rfl, rfl, _, rfl, ite2 (fun e => ?_) (fun e => ?_)⟩
    · have hk : k < ns.length := by
        have z := of_decide_eq_true e
        rw [List.length_map] at z
        omega
      have g : (ns.map V.int)[k]? = some (.int ns[k]) := by
        rw [List.getElem?_map, List.getElem?_eq_getElem hk]
        rfl
      refine ⟨.ref a, rfl, _, rfl, a, _, _, _, rfl, rfl, hS, atI_nat g, .ref a, rfl, _, rfl, a, _, _, _, rfl, rfl, hS, atI_nat g, by simp [sizeLine_eq], fun p hp => ?_⟩
      exact q _ p (same_upd hp) hp ⟨_, _, _, upd_same⟩
    · refine ⟨.ref a, rfl, a, ns, 0, rfl, hS, fun v => ⟨_, rfl, 1000, _, rfl, rfl, v, _, rfl, fun r _ _ => ?_⟩⟩
      refine ⟨_, rfl, _, rfl, by simp [sizeLine_eq], fun p hp => ?_⟩
      exact q _ p (same_upd hp) hp ⟨_, _, _, upd_same⟩
def spNext : Sp := fun vs H Q _ => ∃ (p : Addr) (m : Int), vs = [.ref p, .int m] ∧ 0 < m ∧ m < 2 ^ 300 ∧ SrcAt H p ∧ ∀ (r : Nat) H', (r : Int) < m → Stp p H H' → Q (.int (r : Nat)) H'
theorem ok_next {f : Addr} {fd : FuncData} (F : Fun K "_law_next" "_law_next" s__law_next f fd)  (h2 : Has P w K mg base 1 "_law_mixed" ["_law_cell", "_law_k"] [] spMixed) : FnOk P w K mg base CX0 2 f fd ["_law_source_here", "_law_most"] spNext := by
  obtain ⟨f__law_mixed, fd__law_mixed, ds__law_mixed, G__law_mixed, m__law_mixed, k__law_mixed, b__law_mixed, v__law_mixed⟩ := h2
  refine F.ok sc__law_next (fun vs H Q E h => ?_) (fun cdv A outer s H vs Q E hr h => ?_)
  · obtain ⟨p, m, rfl, _⟩ := h
    rfl
  · obtain ⟨p, m, rfl, hm, hm2, ⟨a, b, c, hp⟩, q⟩ := h
    have fin : ∀ (x : Int) (H' : Hp), Stp p H H' → Q (.int (x % m)) H' := fun x H' s => by
      have h0 : 0 ≤ x % m := Int.emod_nonneg _ (by omega)
      have h1 : x % m < m := Int.emod_lt_of_pos _ hm
      have e : ((x % m).toNat : Int) = x % m := Int.toNat_of_nonneg h0
      have z := q (x % m).toNat H' (by omega) s
      rw [e] at z
      exact z
    have st : ∀ x y z : Int, Stp p H (upd H p (.lst [.int x, .int y, .int z])) := fun x y z => ⟨fun q o n e => by rw [upd_ne n]; exact e, ⟨x, y, z, upd_same⟩⟩
    refine ⟨_, (pss_cons (ps_if (pt_cmpR op_ge (pe_ix (ix_listK (K := K) rfl) (pv 0) pe_int (fun _ _ => rfl)) (pe_op op_pow pe_int pe_int) (nomark _))
        (pss_cons (ps_set (i := 2) sc__law_next.nd rfl (.inl rfl) (pe_op op_mod (pe_ix (ix_listK (K := K) rfl) (pv 0) pe_int (fun _ _ => rfl)) (pv 1)))
        (pss_cons (ps_asg (pe_op op_fdivW (pe_ix (ix_listK (K := K) rfl) (pv 0) pe_int (fun _ _ => rfl)) (pv 1)) (pg_sub (pv 0) pe_int set_list))
        (pss_one (ps_ret (pv 2)))))
        pss_nil)
      (pss_cons (ps_asg (pe_op op_add (pe_ix (ix_listK (K := K) rfl) (pv 0) pe_int (fun _ _ => rfl)) pe_int) (pg_sub (pv 0) pe_int set_list))
      (pss_one (ps_ret (pe_op op_mod (pe_call G__law_mixed hr (by rfl) m__law_mixed k__law_mixed b__law_mixed v__law_mixed pass0 (pa_cons (pe_ix (ix_listK (K := K) rfl) (pv 0) pe_int (fun _ _ => rfl)) (pa_cons (pe_ix (ix_listK (K := K) rfl) (pv 0) pe_int (fun _ _ => rfl)) pa_nil))) (pv 1)))))), ?_⟩
    refine ⟨.ref p, rfl, p, _, 0, .int a, rfl, rfl, SqL.of hp, atI_nat (j := 0) rfl, 10, 18, rfl, rfl, ⟨by decide, by decide, by decide⟩, a, _, rfl, rfl, _, rfl, ite2 (fun _ => ?_) (fun _ => ?_)⟩
    · refine ⟨.ref p, rfl, p, _, 0, .int a, rfl, rfl, SqL.of hp, atI_nat (j := 0) rfl, .int m, rfl, a, m, rfl, rfl, hm, ?_⟩
      refine ⟨.ref p, rfl, p, _, 0, .int a, rfl, rfl, SqL.of hp, atI_nat (j := 0) rfl, .int m, rfl, a, m, rfl, rfl, div_s hm hm2, ?_⟩
      refine ⟨.ref p, rfl, p, _, 0, 0, rfl, rfl, hp, rfl, ?_⟩
      exact ⟨_, rfl, fin a _ (st _ _ _)⟩
    · refine ⟨.ref p, rfl, p, _, 2, .int c, rfl, rfl, SqL.of hp, atI_nat (j := 2) rfl, c, 1, rfl, rfl, ?_⟩
      refine ⟨.ref p, rfl, p, _, 2, 2, rfl, rfl, hp, rfl, ?_⟩
      have h2 : (upd H p (.lst [.int a, .int b, .int (c + 1)])) p = some (.lst [.int a, .int b, .int (c + 1)]) := upd_same
      refine ⟨.ref p, rfl, p, _, 1, .int b, rfl, rfl, SqL.of h2, atI_nat (j := 1) rfl, .ref p, rfl, p, _, 2, .int (c + 1), rfl, rfl, SqL.of h2, atI_nat (j := 2) rfl, b, c + 1, rfl, fun r _ _ => ?_⟩
      exact ⟨.int m, rfl, r, m, rfl, rfl, hm, fin r _ (st _ _ _)⟩
end
/-! ### the law's bases -/
section
variable {P : Program} {w : World} {K : PySem.W.Frag} {mg : Str → Option Value} {base : Heap}
def spBase : Sp := fun vs H Q _ => ∃ (p : Addr), vs = [.ref p] ∧ SrcAt H p ∧ ∀ (b : Nat) H', 2 ≤ b → b ≤ 64 → Stp p H H' → Q (.int (b : Nat)) H'
theorem ok_base {f : Addr} {fd : FuncData} (F : Fun K "_law_base" "_law_base" s__law_base f fd) (h1 : Has P w K mg base 2 "_law_next" ["_law_source_here", "_law_most"] [] spNext) : FnOk P w K mg base CX0 3 f fd ["_law_source_here"] spBase := by
  obtain ⟨f__law_next, fd__law_next, ds__law_next, G__law_next, m__law_next, k__law_next, b__law_next, v__law_next⟩ := h1
  refine F.ok sc__law_base (fun vs H Q E h => ?_) (fun cdv A outer s H vs Q E hr h => ?_)
  · obtain ⟨p, rfl, _⟩ := h
    rfl
  · obtain ⟨p, rfl, hs, q⟩ := h
    refine ⟨_, (pss_one (ps_ret (pe_ix (ix_listK (K := K) rfl) (pe_lst (pa_cons pe_int (pa_cons pe_int (pa_cons pe_int (pa_cons pe_int (pa_cons pe_int (pa_cons pe_int (pa_cons pe_int (pa_cons pe_int (pa_cons pe_int pa_nil)))))))))) (pe_call G__law_next hr (by rfl) m__law_next k__law_next b__law_next v__law_next pass0 (pa_cons (pv 0) (pa_cons pe_int pa_nil))) (fun _ _ => rfl)))), ?_⟩
    refine ⟨by simp [sizeLine_eq], fun l hl => ?_⟩
    have s1 := same_upd (o := .lst [.int 2, .int 3, .int 4, .int 5, .int 7, .int 10, .int 16, .int 63, .int 64]) hl
    have nlp : l ≠ p := fun e => by
      obtain ⟨x, y, z, h⟩ := hs
      rw [e, h] at hl
      cases hl
    refine ⟨_, rfl, p, 9, rfl, by decide, by decide, hs.same s1, fun r H' hr9 st => ?_⟩
    have eL := st.keep _ _ nlp upd_same
    have hst : Stp p H H' := (hs.stp_same s1).trans st
    have hr : r < 9 := by omega
    have all : ∀ j : Nat, j < 9 → ∃ b : Nat, ([.int 2, .int 3, .int 4, .int 5, .int 7, .int 10, .int 16, .int 63, .int 64] : List V)[j]? = some (.int (b : Nat)) ∧ 2 ≤ b ∧ b ≤ 64 := by
      intro j hj
      match j, hj with
      | 0, _ => exact ⟨2, rfl, by decide, by decide⟩
      | 1, _ => exact ⟨3, rfl, by decide, by decide⟩
      | 2, _ => exact ⟨4, rfl, by decide, by decide⟩
      | 3, _ => exact ⟨5, rfl, by decide, by decide⟩
      | 4, _ => exact ⟨7, rfl, by decide, by decide⟩
      | 5, _ => exact ⟨10, rfl, by decide, by decide⟩
      | 6, _ => exact ⟨16, rfl, by decide, by decide⟩
      | 7, _ => exact ⟨63, rfl, by decide, by decide⟩
      | 8, _ => exact ⟨64, rfl, by decide, by decide⟩
      | j + 9, h => omega
    obtain ⟨b, eb, b2, b64⟩ := all r hr
    exact ⟨l, _, r, .int (b : Nat), rfl, rfl, SqL.of eL, atI_nat eb, q b H' b2 b64 hst⟩
end
/-! ### laws k31: bad values, drawn from lists of them -/
theorem nota_non {K : PySem.W.Frag} {H : Hp} {c : String} (h : kitB "NoneType" c = some false) : NotA K H c .non := ⟨_, .base .non, h⟩
/-- what is new in H' stays -/
def KeepsNew (H H' H'' : Hp) : Prop := ∀ c o, H c = none → H' c = some o → H'' c = some o
theorem src_some {H : Hp} {ps : Addr} (h : SrcAt H ps) : H ps ≠ none := by
  obtain ⟨a, b, c, e⟩ := h
  rw [e]
  exact fun z => nomatch z
theorem pick24 {K : PySem.W.Frag} {H H1 : Hp} {ps L : Addr} {xs : List V} {Pr : Hp → V → Prop} {Q : VK} (hsrc : SrcAt H ps) (s1 : Same H H1) (eL : H1 L = some (.lst xs)) (fL : H L = none) (hb : ∀ H'', KeepsNew H H1 H'' → ∀ x ∈ xs, Pr H'' x ∧ Odd K H'' x)
    (c : ∀ H' x, Stp ps H H' → (∀ H'', KeepsNew H H' H'' → Pr H'' x ∧ Odd K H'' x) → Q x H') (r : Nat) (H2 : Hp) (hr : r < xs.length) (s2 : Stp ps H1 H2) : ∃ v, H2 L = some (.lst xs) ∧ xs[r]? = some v ∧ Q v H2 := by
  have nps : ∀ {p : Addr}, H p = none → p ≠ ps := fun h e => src_some hsrc (e ▸ h)
  exact ⟨xs[r], s2.keep _ _ (nps fL) eL, List.getElem?_eq_getElem hr, c H2 _ ((hsrc.stp_same s1).trans s2) fun H'' k => hb H'' (fun p o h1 h2 => k p o h1 (s2.keep _ _ (nps h1) h2)) _ (List.getElem_mem hr)⟩
theorem upd_twice31 {H : Hp} {q : Addr} {a b : HO} : upd (upd H q a) q b = upd H q b := by
  funext c
  unfold upd
  split <;> rfl
theorem merge_one31 : mergeK [] [((.inl 0 : Key), V.int 1)] = [(.inl 0, .int 1)] := rfl
section
variable {P : Program} {w : World} {K : PySem.W.Frag} {mg : Str → Option Value} {base : Heap}
def spBad24 (K : PySem.W.Frag) (Pr : Hp → V → Prop) : Sp := fun vs H Q _ => ∃ ps : Addr, vs = [.ref ps] ∧ SrcAt H ps ∧ ∀ H' x, Stp ps H H' → (∀ H'', KeepsNew H H' H'' → Pr H'' x ∧ Odd K H'' x) → Q x H'
def spBadSeen (K : PySem.W.Frag) : Sp := fun vs H Q _ => ∃ ps : Addr, vs = [.ref ps] ∧ SrcAt H ps ∧ ∀ H' x, Stp ps H H' → (∀ H'', KeepsNew H H' H'' → BadSeen K H'' x ∧ OddW K H'' 6 7000 x) → Q x H'
theorem ok_bad_base {f : Addr} {fd : FuncData} (F : Fun K "_law_bad_base" "_law_bad_base" s__law_bad_base f fd) (h1 : Has P w K mg base 2 "_law_next" ["_law_source_here", "_law_most"] [] spNext) : FnOk P w K mg base CX0 3 f fd ["_law_source_here"] (spBad24 K fun H x => BadBase K H x) := by
  obtain ⟨f__law_next, fd__law_next, ds__law_next, G__law_next, m__law_next, k__law_next, b__law_next, v__law_next⟩ := h1
  refine F.ok sc__law_bad_base (fun vs H Q E h => ?_) (fun cdv A outer s H vs Q E hr h => ?_)
  · obtain ⟨ps, rfl, _⟩ := h
    rfl
  · obtain ⟨ps, rfl, hsrc, c⟩ := h
    refine ⟨_, (pss_one (ps_ret (pe_ix (ix_listK (K := K) rfl) (pe_lst (pa_cons pe_int (pa_cons pe_int (pa_cons (pe_un un_neg pe_int) (pa_cons pe_int (pa_cons (pe_op op_pow pe_int pe_int) (pa_cons pe_bl (pa_cons pe_non (pa_cons pe_str (pa_cons (pe_lst (pa_cons pe_int pa_nil)) (pa_cons pe_dnewK (pa_cons (pe_tup (pa_cons pe_int pa_nil)) pa_nil)))))))))))) (pe_call G__law_next hr (by rfl) m__law_next k__law_next b__law_next v__law_next pass0 (pa_cons (pv 0) (pa_cons pe_int pa_nil))) (fun _ _ => rfl)))), ?_⟩
    refine ⟨2, rfl, ?_⟩
    refine ⟨10, 30, rfl, rfl, ⟨by decide, by decide, by decide⟩, ?_⟩
    refine ⟨by simp [sizeLine_eq], fun q1 hq1 => ?_⟩
    have sq1 := same_upd (o := .lst [.int 10]) hq1
    have eq1 : (upd H q1 (.lst [.int 10])) q1 = some (.lst [.int 10]) := upd_same
    generalize upd H q1 (.lst [.int 10]) = H_1 at sq1 eq1 ⊢
    refine fun q2 hq2 => ?_
    have sq2 := same_upd (o := .dK []) hq2
    have eq2 : (upd H_1 q2 (.dK [])) q2 = some (.dK []) := upd_same
    generalize upd H_1 q2 (.dK []) = H_2 at sq2 eq2 ⊢
    refine ⟨by simp [sizeLine_eq], fun q3 hq3 => ?_⟩
    have sq3 := same_upd (o := .tup [.int 2]) hq3
    have eq3 : (upd H_2 q3 (.tup [.int 2])) q3 = some (.tup [.int 2]) := upd_same
    generalize upd H_2 q3 (.tup [.int 2]) = H_3 at sq3 eq3 ⊢
    have t3 : Same H_3 H_3 := fun _ _ e => e
    have t2 := sq3.trans t3
    have t1 := sq2.trans t2
    have c1 := sq1
    have c2 := c1.trans sq2
    have c3 := c2.trans sq3
    refine ⟨by simp [sizeLine_eq], fun L hL => ?_⟩
    have sL : Same H_3 (upd H_3 L (.lst [.int 1, .int 0, .int (-2), .int 65, .int (10 ^ (30 : Int).toNat), .bl true, .non, .str "10", .ref q1, .ref q2, .ref q3])) := same_upd hL
    have eL : (upd H_3 L (.lst [.int 1, .int 0, .int (-2), .int 65, .int (10 ^ (30 : Int).toNat), .bl true, .non, .str "10", .ref q1, .ref q2, .ref q3])) L = some (.lst [.int 1, .int 0, .int (-2), .int 65, .int (10 ^ (30 : Int).toNat), .bl true, .non, .str "10", .ref q1, .ref q2, .ref q3]) := upd_same
    have fL := c3.free hL
    generalize upd H_3 L (.lst [.int 1, .int 0, .int (-2), .int 65, .int (10 ^ (30 : Int).toNat), .bl true, .non, .str "10", .ref q1, .ref q2, .ref q3]) = HL at sL eL ⊢
    have s0 := c3.trans sL
    have hb : ∀ H'', KeepsNew H HL H'' → ∀ x ∈ ([.int 1, .int 0, .int (-2), .int 65, .int (10 ^ (30 : Int).toNat), .bl true, .non, .str "10", .ref q1, .ref q2, .ref q3] : List V), (fun H x => BadBase K H x) H'' x ∧ Odd K H'' x := fun H'' k => by
      have g1 := k _ _ hq1 (sL _ _ (t1 _ _ eq1))
      have g2 := k _ _ (c1.free hq2) (sL _ _ (t2 _ _ eq2))
      have g3 := k _ _ (c2.free hq3) (sL _ _ (t3 _ _ eq3))
      clear k c
      exact (List.forall_mem_cons.mpr ⟨⟨.inr ⟨_, rfl, .inl (by decide)⟩, ⟨.int 1, by decide +kernel, .flat (.int _) rfl⟩⟩, (List.forall_mem_cons.mpr ⟨⟨.inr ⟨_, rfl, .inl (by decide)⟩, ⟨.int 0, by decide +kernel, .flat (.int _) rfl⟩⟩, (List.forall_mem_cons.mpr ⟨⟨.inr ⟨_, rfl, .inl (by decide)⟩, ⟨.int (-2), by decide +kernel, .flat (.int _) rfl⟩⟩, (List.forall_mem_cons.mpr ⟨⟨.inr ⟨_, rfl, .inr (by decide)⟩, ⟨.int 65, by decide +kernel, .flat (.int _) rfl⟩⟩, (List.forall_mem_cons.mpr ⟨⟨.inr ⟨_, rfl, .inr (by decide)⟩, ⟨.int (10 ^ (30 : Int).toNat), by decide +kernel, .flat (.int _) rfl⟩⟩, (List.forall_mem_cons.mpr ⟨⟨.inl (.of_bl _), ⟨.bool true, by decide +kernel, .flat (.bl _) rfl⟩⟩, (List.forall_mem_cons.mpr ⟨⟨.inl .of_non, ⟨.none, by decide +kernel, .flat .non rfl⟩⟩, (List.forall_mem_cons.mpr ⟨⟨.inl (.of_str _), ⟨.str "10", by decide +kernel, .flat (.str _) rfl⟩⟩, (List.forall_mem_cons.mpr ⟨⟨.inl (.of_lst g1), ⟨.list [.int 10], by decide +kernel, .lst (SqL.of g1) (.cons (.flat (.int _) rfl) .nil)⟩⟩, (List.forall_mem_cons.mpr ⟨⟨.inl (.of_dK g2), ⟨.dict [], by decide +kernel, .dict0 g2⟩⟩, (List.forall_mem_cons.mpr ⟨⟨.inl (.of_tup g3), ⟨.tuple [.int 2], by decide +kernel, .tup (SqT.of g3) (.cons (.flat (.int _) rfl) .nil)⟩⟩, (fun _ hh => nomatch hh)⟩)⟩)⟩)⟩)⟩)⟩)⟩)⟩)⟩)⟩)⟩)
    refine ⟨_, rfl, ps, 11, rfl, by decide, by decide, (hsrc.stp_same s0).src, fun r H2 hr s2 => ?_⟩
    obtain ⟨v, eL2, hx, q⟩ := pick24 (K := K) (Pr := fun H x => BadBase K H x) hsrc s0 eL fL hb c r H2 (by simp; omega) s2
    exact ⟨L, _, r, _, rfl, rfl, SqL.of eL2, atI_nat hx, q⟩
theorem ok_bad_levels {f : Addr} {fd : FuncData} (F : Fun K "_law_bad_levels" "_law_bad_levels" s__law_bad_levels f fd) (h1 : Has P w K mg base 2 "_law_next" ["_law_source_here", "_law_most"] [] spNext) : FnOk P w K mg base CX0 3 f fd ["_law_source_here"] (spBad24 K fun H x => BadLevels K H x) := by
  obtain ⟨f__law_next, fd__law_next, ds__law_next, G__law_next, m__law_next, k__law_next, b__law_next, v__law_next⟩ := h1
  refine F.ok sc__law_bad_levels (fun vs H Q E h => ?_) (fun cdv A outer s H vs Q E hr h => ?_)
  · obtain ⟨ps, rfl, _⟩ := h
    rfl
  · obtain ⟨ps, rfl, hsrc, c⟩ := h
    refine ⟨_, (pss_cons (ps_set (i := 1) sc__law_bad_levels.nd rfl (.inl rfl) (pe_lst (pa_cons (pe_lst pa_nil) (pa_cons (pe_tup (pa_cons pe_str pa_nil)) (pa_cons pe_str (pa_cons pe_non (pa_cons pe_dnewK (pa_cons pe_int (pa_cons (pe_op op_rep (pe_lst (pa_cons pe_str pa_nil)) pe_int) (pa_cons (pe_lst (pa_cons pe_str pa_nil)) (pa_cons (pe_lst (pa_cons pe_str (pa_cons pe_non pa_nil))) (pa_cons (pe_lst (pa_cons (pe_lst (pa_cons pe_str pa_nil)) pa_nil)) (pa_cons (pe_lst (pa_cons pe_str pa_nil)) pa_nil)))))))))))))
      (pss_one (ps_ret (pe_ix (ix_listK (K := K) rfl) (pe_op op_cat (pv 1) (pe_lst (pa_cons (pe_lst (pa_cons pe_str (pa_cons pe_bl pa_nil))) (pa_cons (pe_lst (pa_cons pe_str (pa_cons pe_dnewK pa_nil))) (pa_cons (pe_lst (pa_cons pe_str (pa_cons pe_str (pa_cons pe_str pa_nil)))) pa_nil))))) (pe_call G__law_next hr (by rfl) m__law_next k__law_next b__law_next v__law_next pass0 (pa_cons (pv 0) (pa_cons pe_int pa_nil))) (fun _ _ => rfl))))), ?_⟩
    refine ⟨by simp [sizeLine_eq], fun q1 hq1 => ?_⟩
    have sq1 := same_upd (o := .lst []) hq1
    have eq1 : (upd H q1 (.lst [])) q1 = some (.lst []) := upd_same
    generalize upd H q1 (.lst []) = H_1 at sq1 eq1 ⊢
    refine ⟨by simp [sizeLine_eq], fun q2 hq2 => ?_⟩
    have sq2 := same_upd (o := .tup [.str "stack"]) hq2
    have eq2 : (upd H_1 q2 (.tup [.str "stack"])) q2 = some (.tup [.str "stack"]) := upd_same
    generalize upd H_1 q2 (.tup [.str "stack"]) = H_2 at sq2 eq2 ⊢
    refine fun q3 hq3 => ?_
    have sq3 := same_upd (o := .dK []) hq3
    have eq3 : (upd H_2 q3 (.dK [])) q3 = some (.dK []) := upd_same
    generalize upd H_2 q3 (.dK []) = H_3 at sq3 eq3 ⊢
    refine ⟨by simp [sizeLine_eq], fun q4 hq4 => ?_⟩
    have sq4 := same_upd (o := .lst [.str "stack"]) hq4
    have eq4 : (upd H_3 q4 (.lst [.str "stack"])) q4 = some (.lst [.str "stack"]) := upd_same
    generalize upd H_3 q4 (.lst [.str "stack"]) = H_4 at sq4 eq4 ⊢
    refine ⟨q4, 61, _, rfl, rfl, eq4, by decide, by decide, by simp [sizeLine_eq], fun q5 hq5 => ?_⟩
    have sq5 := same_upd (o := .lst (List.replicate (61 : Int).toNat [V.str "stack"]).flatten) hq5
    have eq5 : (upd H_4 q5 (.lst (List.replicate (61 : Int).toNat [V.str "stack"]).flatten)) q5 = some (.lst (List.replicate (61 : Int).toNat [V.str "stack"]).flatten) := upd_same
    generalize upd H_4 q5 (.lst (List.replicate (61 : Int).toNat [V.str "stack"]).flatten) = H_5 at sq5 eq5 ⊢
    refine ⟨by simp [sizeLine_eq], fun q6 hq6 => ?_⟩
    have sq6 := same_upd (o := .lst [.str "heap"]) hq6
    have eq6 : (upd H_5 q6 (.lst [.str "heap"])) q6 = some (.lst [.str "heap"]) := upd_same
    generalize upd H_5 q6 (.lst [.str "heap"]) = H_6 at sq6 eq6 ⊢
    refine ⟨by simp [sizeLine_eq], fun q7 hq7 => ?_⟩
    have sq7 := same_upd (o := .lst [.str "stack", .non]) hq7
    have eq7 : (upd H_6 q7 (.lst [.str "stack", .non])) q7 = some (.lst [.str "stack", .non]) := upd_same
    generalize upd H_6 q7 (.lst [.str "stack", .non]) = H_7 at sq7 eq7 ⊢
    refine ⟨by simp [sizeLine_eq], fun q8 hq8 => ?_⟩
    have sq8 := same_upd (o := .lst [.str "stack"]) hq8
    have eq8 : (upd H_7 q8 (.lst [.str "stack"])) q8 = some (.lst [.str "stack"]) := upd_same
    generalize upd H_7 q8 (.lst [.str "stack"]) = H_8 at sq8 eq8 ⊢
    refine ⟨by simp [sizeLine_eq], fun q9 hq9 => ?_⟩
    have sq9 := same_upd (o := .lst [.ref q8]) hq9
    have eq9 : (upd H_8 q9 (.lst [.ref q8])) q9 = some (.lst [.ref q8]) := upd_same
    generalize upd H_8 q9 (.lst [.ref q8]) = H_9 at sq9 eq9 ⊢
    refine ⟨by simp [sizeLine_eq], fun q10 hq10 => ?_⟩
    have sq10 := same_upd (o := .lst [.str "Queue"]) hq10
    have eq10 : (upd H_9 q10 (.lst [.str "Queue"])) q10 = some (.lst [.str "Queue"]) := upd_same
    generalize upd H_9 q10 (.lst [.str "Queue"]) = H_10 at sq10 eq10 ⊢
    refine ⟨by simp [sizeLine_eq], fun q11 hq11 => ?_⟩
    have sq11 := same_upd (o := .lst [.ref q1, .ref q2, .str "stack", .non, .ref q3, .int 7, .ref q5, .ref q6, .ref q7, .ref q9, .ref q10]) hq11
    have eq11 : (upd H_10 q11 (.lst [.ref q1, .ref q2, .str "stack", .non, .ref q3, .int 7, .ref q5, .ref q6, .ref q7, .ref q9, .ref q10])) q11 = some (.lst [.ref q1, .ref q2, .str "stack", .non, .ref q3, .int 7, .ref q5, .ref q6, .ref q7, .ref q9, .ref q10]) := upd_same
    generalize upd H_10 q11 (.lst [.ref q1, .ref q2, .str "stack", .non, .ref q3, .int 7, .ref q5, .ref q6, .ref q7, .ref q9, .ref q10]) = H_11 at sq11 eq11 ⊢
    refine ⟨_, rfl, ?_⟩
    refine ⟨by simp [sizeLine_eq], fun q12 hq12 => ?_⟩
    have sq12 := same_upd (o := .lst [.str "stack", .bl true]) hq12
    have eq12 : (upd H_11 q12 (.lst [.str "stack", .bl true])) q12 = some (.lst [.str "stack", .bl true]) := upd_same
    generalize upd H_11 q12 (.lst [.str "stack", .bl true]) = H_12 at sq12 eq12 ⊢
    refine fun q13 hq13 => ?_
    have sq13 := same_upd (o := .dK []) hq13
    have eq13 : (upd H_12 q13 (.dK [])) q13 = some (.dK []) := upd_same
    generalize upd H_12 q13 (.dK []) = H_13 at sq13 eq13 ⊢
    refine ⟨by simp [sizeLine_eq], fun q14 hq14 => ?_⟩
    have sq14 := same_upd (o := .lst [.str "queue", .ref q13]) hq14
    have eq14 : (upd H_13 q14 (.lst [.str "queue", .ref q13])) q14 = some (.lst [.str "queue", .ref q13]) := upd_same
    generalize upd H_13 q14 (.lst [.str "queue", .ref q13]) = H_14 at sq14 eq14 ⊢
    refine ⟨by simp [sizeLine_eq], fun q15 hq15 => ?_⟩
    have sq15 := same_upd (o := .lst [.str "stack", .str "queue", .str "stack "]) hq15
    have eq15 : (upd H_14 q15 (.lst [.str "stack", .str "queue", .str "stack "])) q15 = some (.lst [.str "stack", .str "queue", .str "stack "]) := upd_same
    generalize upd H_14 q15 (.lst [.str "stack", .str "queue", .str "stack "]) = H_15 at sq15 eq15 ⊢
    refine ⟨by simp [sizeLine_eq], fun q16 hq16 => ?_⟩
    have sq16 := same_upd (o := .lst [.ref q12, .ref q14, .ref q15]) hq16
    have eq16 : (upd H_15 q16 (.lst [.ref q12, .ref q14, .ref q15])) q16 = some (.lst [.ref q12, .ref q14, .ref q15]) := upd_same
    generalize upd H_15 q16 (.lst [.ref q12, .ref q14, .ref q15]) = H_16 at sq16 eq16 ⊢
    have t16 : Same H_16 H_16 := fun _ _ e => e
    have t15 := sq16.trans t16
    have t14 := sq15.trans t15
    have t13 := sq14.trans t14
    have t12 := sq13.trans t13
    have t11 := sq12.trans t12
    have t10 := sq11.trans t11
    have t9 := sq10.trans t10
    have t8 := sq9.trans t9
    have t7 := sq8.trans t8
    have t6 := sq7.trans t7
    have t5 := sq6.trans t6
    have t4 := sq5.trans t5
    have t3 := sq4.trans t4
    have t2 := sq3.trans t3
    have t1 := sq2.trans t2
    have c1 := sq1
    have c2 := c1.trans sq2
    have c3 := c2.trans sq3
    have c4 := c3.trans sq4
    have c5 := c4.trans sq5
    have c6 := c5.trans sq6
    have c7 := c6.trans sq7
    have c8 := c7.trans sq8
    have c9 := c8.trans sq9
    have c10 := c9.trans sq10
    have c11 := c10.trans sq11
    have c12 := c11.trans sq12
    have c13 := c12.trans sq13
    have c14 := c13.trans sq14
    have c15 := c14.trans sq15
    have c16 := c15.trans sq16
    refine ⟨q11, q16, _, _, rfl, rfl, t11 _ _ eq11, eq16, by simp [sizeLine_eq], fun L hL => ?_⟩
    have sL : Same H_16 (upd H_16 L (.lst ([.ref q1, .ref q2, .str "stack", .non, .ref q3, .int 7, .ref q5, .ref q6, .ref q7, .ref q9, .ref q10] ++ [.ref q12, .ref q14, .ref q15]))) := same_upd hL
    have eL : (upd H_16 L (.lst ([.ref q1, .ref q2, .str "stack", .non, .ref q3, .int 7, .ref q5, .ref q6, .ref q7, .ref q9, .ref q10] ++ [.ref q12, .ref q14, .ref q15]))) L = some (.lst ([.ref q1, .ref q2, .str "stack", .non, .ref q3, .int 7, .ref q5, .ref q6, .ref q7, .ref q9, .ref q10] ++ [.ref q12, .ref q14, .ref q15])) := upd_same
    have fL := c16.free hL
    generalize upd H_16 L (.lst ([.ref q1, .ref q2, .str "stack", .non, .ref q3, .int 7, .ref q5, .ref q6, .ref q7, .ref q9, .ref q10] ++ [.ref q12, .ref q14, .ref q15])) = HL at sL eL ⊢
    have s0 := c16.trans sL
    have hb : ∀ H'', KeepsNew H HL H'' → ∀ x ∈ ([.ref q1, .ref q2, .str "stack", .non, .ref q3, .int 7, .ref q5, .ref q6, .ref q7, .ref q9, .ref q10] ++ [.ref q12, .ref q14, .ref q15] : List V), (fun H x => BadLevels K H x) H'' x ∧ Odd K H'' x := fun H'' k => by
      have g1 := k _ _ hq1 (sL _ _ (t1 _ _ eq1))
      have g2 := k _ _ (c1.free hq2) (sL _ _ (t2 _ _ eq2))
      have g3 := k _ _ (c2.free hq3) (sL _ _ (t3 _ _ eq3))
      have g4 := k _ _ (c3.free hq4) (sL _ _ (t4 _ _ eq4))
      have g5 := k _ _ (c4.free hq5) (sL _ _ (t5 _ _ eq5))
      have g6 := k _ _ (c5.free hq6) (sL _ _ (t6 _ _ eq6))
      have g7 := k _ _ (c6.free hq7) (sL _ _ (t7 _ _ eq7))
      have g8 := k _ _ (c7.free hq8) (sL _ _ (t8 _ _ eq8))
      have g9 := k _ _ (c8.free hq9) (sL _ _ (t9 _ _ eq9))
      have g10 := k _ _ (c9.free hq10) (sL _ _ (t10 _ _ eq10))
      have g11 := k _ _ (c10.free hq11) (sL _ _ (t11 _ _ eq11))
      have g12 := k _ _ (c11.free hq12) (sL _ _ (t12 _ _ eq12))
      have g13 := k _ _ (c12.free hq13) (sL _ _ (t13 _ _ eq13))
      have g14 := k _ _ (c13.free hq14) (sL _ _ (t14 _ _ eq14))
      have g15 := k _ _ (c14.free hq15) (sL _ _ (t15 _ _ eq15))
      have g16 := k _ _ (c15.free hq16) (sL _ _ (t16 _ _ eq16))
      clear k c
      exact (List.forall_mem_cons.mpr ⟨⟨.inr ⟨_, _, rfl, SqL.of g1, .inl rfl⟩, ⟨.list [], by decide +kernel, .lst (SqL.of g1) .nil⟩⟩, (List.forall_mem_cons.mpr ⟨⟨.inl ⟨_, .base (.tup g2), by decide +kernel⟩, ⟨.tuple [.str "stack"], by decide +kernel, .tup (SqT.of g2) (.cons (.flat (.str _) rfl) .nil)⟩⟩, (List.forall_mem_cons.mpr ⟨⟨.inl ⟨_, .base (.str _), by decide +kernel⟩, ⟨.str "stack", by decide +kernel, .flat (.str _) rfl⟩⟩, (List.forall_mem_cons.mpr ⟨⟨.inl ⟨_, .base .non, by decide +kernel⟩, ⟨.none, by decide +kernel, .flat .non rfl⟩⟩, (List.forall_mem_cons.mpr ⟨⟨.inl ⟨_, .base (.dK g3), by decide +kernel⟩, ⟨.dict [], by decide +kernel, .dict0 g3⟩⟩, (List.forall_mem_cons.mpr ⟨⟨.inl ⟨_, .base (.int _), by decide +kernel⟩, ⟨.int 7, by decide +kernel, .flat (.int _) rfl⟩⟩, (List.forall_mem_cons.mpr ⟨⟨.inr ⟨_, _, rfl, SqL.of g5, .inr (.inl (by decide))⟩, odd_levels (ws := List.replicate 61 true) (SqL.of (g5.trans rfl)) (by decide)⟩, (List.forall_mem_cons.mpr ⟨⟨.inr ⟨_, _, rfl, SqL.of g6, .inr (.inr ⟨by simp, (List.forall_mem_cons.mpr ⟨.inr (.inr ⟨_, rfl, by decide⟩), (fun _ hh => nomatch hh)⟩), .str "heap", by simp, (.inr ⟨_, rfl, by decide⟩)⟩)⟩, ⟨.list [.str "heap"], by decide +kernel, .lst (SqL.of g6) (.cons (.flat (.str _) rfl) .nil)⟩⟩, (List.forall_mem_cons.mpr ⟨⟨.inr ⟨_, _, rfl, SqL.of g7, .inr (.inr ⟨by simp, (List.forall_mem_cons.mpr ⟨.inl ⟨true, rfl⟩, (List.forall_mem_cons.mpr ⟨.inr (.inl ⟨_, .base .non, by decide +kernel⟩), (fun _ hh => nomatch hh)⟩)⟩), .non, by simp, (.inl ⟨_, .base .non, by decide +kernel⟩)⟩)⟩, ⟨.list [.str "stack", .none], by decide +kernel, .lst (SqL.of g7) (.cons (.flat (.str _) rfl) (.cons (.flat .non rfl) .nil))⟩⟩, (List.forall_mem_cons.mpr ⟨⟨.inr ⟨_, _, rfl, SqL.of g9, .inr (.inr ⟨by simp, (List.forall_mem_cons.mpr ⟨.inr (.inl ⟨_, .base (.lst g8), by decide +kernel⟩), (fun _ hh => nomatch hh)⟩), .ref q8, by simp, (.inl ⟨_, .base (.lst g8), by decide +kernel⟩)⟩)⟩, ⟨.list [.list [.str "stack"]], by decide +kernel, .lst (SqL.of g9) (.cons (.lst (SqL.of g8) (.cons (.flat (.str _) rfl) .nil)) .nil)⟩⟩, (List.forall_mem_cons.mpr ⟨⟨.inr ⟨_, _, rfl, SqL.of g10, .inr (.inr ⟨by simp, (List.forall_mem_cons.mpr ⟨.inr (.inr ⟨_, rfl, by decide⟩), (fun _ hh => nomatch hh)⟩), .str "Queue", by simp, (.inr ⟨_, rfl, by decide⟩)⟩)⟩, ⟨.list [.str "Queue"], by decide +kernel, .lst (SqL.of g10) (.cons (.flat (.str _) rfl) .nil)⟩⟩, (List.forall_mem_cons.mpr ⟨⟨.inr ⟨_, _, rfl, SqL.of g12, .inr (.inr ⟨by simp, (List.forall_mem_cons.mpr ⟨.inl ⟨true, rfl⟩, (List.forall_mem_cons.mpr ⟨.inr (.inl ⟨_, .base (.bl _), by decide +kernel⟩), (fun _ hh => nomatch hh)⟩)⟩), .bl true, by simp, (.inl ⟨_, .base (.bl _), by decide +kernel⟩)⟩)⟩, ⟨.list [.str "stack", .bool true], by decide +kernel, .lst (SqL.of g12) (.cons (.flat (.str _) rfl) (.cons (.flat (.bl _) rfl) .nil))⟩⟩, (List.forall_mem_cons.mpr ⟨⟨.inr ⟨_, _, rfl, SqL.of g14, .inr (.inr ⟨by simp, (List.forall_mem_cons.mpr ⟨.inl ⟨false, rfl⟩, (List.forall_mem_cons.mpr ⟨.inr (.inl ⟨_, .base (.dK g13), by decide +kernel⟩), (fun _ hh => nomatch hh)⟩)⟩), .ref q13, by simp, (.inl ⟨_, .base (.dK g13), by decide +kernel⟩)⟩)⟩, ⟨.list [.str "queue", .dict []], by decide +kernel, .lst (SqL.of g14) (.cons (.flat (.str _) rfl) (.cons (.dict0 g13) .nil))⟩⟩, (List.forall_mem_cons.mpr ⟨⟨.inr ⟨_, _, rfl, SqL.of g15, .inr (.inr ⟨by simp, (List.forall_mem_cons.mpr ⟨.inl ⟨true, rfl⟩, (List.forall_mem_cons.mpr ⟨.inl ⟨false, rfl⟩, (List.forall_mem_cons.mpr ⟨.inr (.inr ⟨_, rfl, by decide⟩), (fun _ hh => nomatch hh)⟩)⟩)⟩), .str "stack ", by simp, (.inr ⟨_, rfl, by decide⟩)⟩)⟩, ⟨.list [.str "stack", .str "queue", .str "stack "], by decide +kernel, .lst (SqL.of g15) (.cons (.flat (.str _) rfl) (.cons (.flat (.str _) rfl) (.cons (.flat (.str _) rfl) .nil)))⟩⟩, (fun _ hh => nomatch hh)⟩)⟩)⟩)⟩)⟩)⟩)⟩)⟩)⟩)⟩)⟩)⟩)⟩)⟩)
    refine ⟨_, rfl, ps, 14, rfl, by decide, by decide, (hsrc.stp_same s0).src, fun r H2 hr s2 => ?_⟩
    obtain ⟨v, eL2, hx, q⟩ := pick24 (K := K) (Pr := fun H x => BadLevels K H x) hsrc s0 eL fL hb c r H2 (by simp; omega) s2
    exact ⟨L, _, r, _, rfl, rfl, SqL.of eL2, atI_nat hx, q⟩
theorem ok_bad_tick {f : Addr} {fd : FuncData} (F : Fun K "_law_bad_tick" "_law_bad_tick" s__law_bad_tick f fd) (h1 : Has P w K mg base 2 "_law_next" ["_law_source_here", "_law_most"] [] spNext) : FnOk P w K mg base CX0 3 f fd ["_law_source_here"] (spBad24 K fun H x => BadTick K H x 0) := by
  obtain ⟨f__law_next, fd__law_next, ds__law_next, G__law_next, m__law_next, k__law_next, b__law_next, v__law_next⟩ := h1
  refine F.ok sc__law_bad_tick (fun vs H Q E h => ?_) (fun cdv A outer s H vs Q E hr h => ?_)
  · obtain ⟨ps, rfl, _⟩ := h
    rfl
  · obtain ⟨ps, rfl, hsrc, c⟩ := h
    refine ⟨_, (pss_one (ps_ret (pe_ix (ix_listK (K := K) rfl) (pe_lst (pa_cons (pe_un un_neg pe_int) (pa_cons (pe_op op_sub pe_int (pe_op op_pow pe_int pe_int)) (pa_cons pe_bl (pa_cons pe_bl (pa_cons pe_non (pa_cons pe_str (pa_cons (pe_lst (pa_cons pe_int pa_nil)) (pa_cons pe_dnewK (pa_cons (pe_tup (pa_cons pe_int pa_nil)) pa_nil)))))))))) (pe_call G__law_next hr (by rfl) m__law_next k__law_next b__law_next v__law_next pass0 (pa_cons (pv 0) (pa_cons pe_int pa_nil))) (fun _ _ => rfl)))), ?_⟩
    refine ⟨1, rfl, ?_⟩
    refine ⟨10, 20, rfl, rfl, ⟨by decide, by decide, by decide⟩, ?_⟩
    refine ⟨0, _, rfl, rfl, ?_⟩
    refine ⟨by simp [sizeLine_eq], fun q1 hq1 => ?_⟩
    have sq1 := same_upd (o := .lst [.int 12]) hq1
    have eq1 : (upd H q1 (.lst [.int 12])) q1 = some (.lst [.int 12]) := upd_same
    generalize upd H q1 (.lst [.int 12]) = H_1 at sq1 eq1 ⊢
    refine fun q2 hq2 => ?_
    have sq2 := same_upd (o := .dK []) hq2
    have eq2 : (upd H_1 q2 (.dK [])) q2 = some (.dK []) := upd_same
    generalize upd H_1 q2 (.dK []) = H_2 at sq2 eq2 ⊢
    refine ⟨by simp [sizeLine_eq], fun q3 hq3 => ?_⟩
    have sq3 := same_upd (o := .tup [.int 3]) hq3
    have eq3 : (upd H_2 q3 (.tup [.int 3])) q3 = some (.tup [.int 3]) := upd_same
    generalize upd H_2 q3 (.tup [.int 3]) = H_3 at sq3 eq3 ⊢
    have t3 : Same H_3 H_3 := fun _ _ e => e
    have t2 := sq3.trans t3
    have t1 := sq2.trans t2
    have c1 := sq1
    have c2 := c1.trans sq2
    have c3 := c2.trans sq3
    refine ⟨by simp [sizeLine_eq], fun L hL => ?_⟩
    have sL : Same H_3 (upd H_3 L (.lst [.int (-1), .int (0 - 10 ^ (20 : Int).toNat), .bl true, .bl false, .non, .str "12", .ref q1, .ref q2, .ref q3])) := same_upd hL
    have eL : (upd H_3 L (.lst [.int (-1), .int (0 - 10 ^ (20 : Int).toNat), .bl true, .bl false, .non, .str "12", .ref q1, .ref q2, .ref q3])) L = some (.lst [.int (-1), .int (0 - 10 ^ (20 : Int).toNat), .bl true, .bl false, .non, .str "12", .ref q1, .ref q2, .ref q3]) := upd_same
    have fL := c3.free hL
    generalize upd H_3 L (.lst [.int (-1), .int (0 - 10 ^ (20 : Int).toNat), .bl true, .bl false, .non, .str "12", .ref q1, .ref q2, .ref q3]) = HL at sL eL ⊢
    have s0 := c3.trans sL
    have hb : ∀ H'', KeepsNew H HL H'' → ∀ x ∈ ([.int (-1), .int (0 - 10 ^ (20 : Int).toNat), .bl true, .bl false, .non, .str "12", .ref q1, .ref q2, .ref q3] : List V), (fun H x => BadTick K H x 0) H'' x ∧ Odd K H'' x := fun H'' k => by
      have g1 := k _ _ hq1 (sL _ _ (t1 _ _ eq1))
      have g2 := k _ _ (c1.free hq2) (sL _ _ (t2 _ _ eq2))
      have g3 := k _ _ (c2.free hq3) (sL _ _ (t3 _ _ eq3))
      clear k c
      exact (List.forall_mem_cons.mpr ⟨⟨.inr ⟨_, rfl, by decide⟩, ⟨.int (-1), by decide +kernel, .flat (.int _) rfl⟩⟩, (List.forall_mem_cons.mpr ⟨⟨.inr ⟨_, rfl, by decide⟩, ⟨.int (0 - 10 ^ (20 : Int).toNat), by decide +kernel, .flat (.int _) rfl⟩⟩, (List.forall_mem_cons.mpr ⟨⟨.inl (.of_bl _), ⟨.bool true, by decide +kernel, .flat (.bl _) rfl⟩⟩, (List.forall_mem_cons.mpr ⟨⟨.inl (.of_bl _), ⟨.bool false, by decide +kernel, .flat (.bl _) rfl⟩⟩, (List.forall_mem_cons.mpr ⟨⟨.inl .of_non, ⟨.none, by decide +kernel, .flat .non rfl⟩⟩, (List.forall_mem_cons.mpr ⟨⟨.inl (.of_str _), ⟨.str "12", by decide +kernel, .flat (.str _) rfl⟩⟩, (List.forall_mem_cons.mpr ⟨⟨.inl (.of_lst g1), ⟨.list [.int 12], by decide +kernel, .lst (SqL.of g1) (.cons (.flat (.int _) rfl) .nil)⟩⟩, (List.forall_mem_cons.mpr ⟨⟨.inl (.of_dK g2), ⟨.dict [], by decide +kernel, .dict0 g2⟩⟩, (List.forall_mem_cons.mpr ⟨⟨.inl (.of_tup g3), ⟨.tuple [.int 3], by decide +kernel, .tup (SqT.of g3) (.cons (.flat (.int _) rfl) .nil)⟩⟩, (fun _ hh => nomatch hh)⟩)⟩)⟩)⟩)⟩)⟩)⟩)⟩)⟩)
    refine ⟨_, rfl, ps, 9, rfl, by decide, by decide, (hsrc.stp_same s0).src, fun r H2 hr s2 => ?_⟩
    obtain ⟨v, eL2, hx, q⟩ := pick24 (K := K) (Pr := fun H x => BadTick K H x 0) hsrc s0 eL fL hb c r H2 (by simp; omega) s2
    exact ⟨L, _, r, _, rfl, rfl, SqL.of eL2, atI_nat hx, q⟩
theorem ok_bad_order {f : Addr} {fd : FuncData} (F : Fun K "_law_bad_order" "_law_bad_order" s__law_bad_order f fd) (h1 : Has P w K mg base 2 "_law_next" ["_law_source_here", "_law_most"] [] spNext) : FnOk P w K mg base CX0 3 f fd ["_law_source_here"] (spBad24 K fun H x => BadOrder K H x) := by
  obtain ⟨f__law_next, fd__law_next, ds__law_next, G__law_next, m__law_next, k__law_next, b__law_next, v__law_next⟩ := h1
  refine F.ok sc__law_bad_order (fun vs H Q E h => ?_) (fun cdv A outer s H vs Q E hr h => ?_)
  · obtain ⟨ps, rfl, _⟩ := h
    rfl
  · obtain ⟨ps, rfl, hsrc, c⟩ := h
    refine ⟨_, (pss_cons (ps_set (i := 1) sc__law_bad_order.nd rfl (.inl rfl) (pe_lst (pa_cons (pe_lst pa_nil) (pa_cons (pe_lst (pa_cons pe_int pa_nil)) (pa_cons (pe_lst (pa_cons pe_int (pa_cons pe_int pa_nil))) (pa_cons (pe_lst (pa_cons pe_int (pa_cons pe_int pa_nil))) (pa_cons (pe_lst (pa_cons pe_int (pa_cons pe_int (pa_cons pe_int pa_nil)))) (pa_cons (pe_lst (pa_cons pe_bl (pa_cons pe_int pa_nil))) (pa_cons (pe_lst (pa_cons pe_int (pa_cons pe_bl pa_nil))) (pa_cons (pe_tup (pa_cons pe_int (pa_cons pe_int pa_nil))) (pa_cons pe_non (pa_cons pe_dnewK (pa_cons pe_str (pa_cons pe_int (pa_cons (pe_lst (pa_cons pe_int (pa_cons pe_str pa_nil))) (pa_cons (pe_lst (pa_cons (pe_lst (pa_cons pe_int pa_nil)) pa_nil)) pa_nil))))))))))))))))
      (pss_one (ps_ret (pe_ix (ix_listK (K := K) rfl) (pe_op op_cat (pv 1) (pe_lst (pa_cons (pe_lst (pa_cons pe_int (pa_cons pe_non pa_nil))) (pa_cons (pe_lst (pa_cons (pe_un un_neg pe_int) (pa_cons pe_int pa_nil))) (pa_cons (pe_lst (pa_cons pe_int (pa_cons pe_int (pa_cons pe_int pa_nil)))) (pa_cons (pe_disp (pps_cons pe_int pe_int pps_nil) rfl rfl (by simp) (by decide)) pa_nil)))))) (pe_call G__law_next hr (by rfl) m__law_next k__law_next b__law_next v__law_next pass0 (pa_cons (pv 0) (pa_cons pe_int pa_nil))) (fun _ _ => rfl))))), ?_⟩
    refine ⟨by simp [sizeLine_eq], fun q1 hq1 => ?_⟩
    have sq1 := same_upd (o := .lst []) hq1
    have eq1 : (upd H q1 (.lst [])) q1 = some (.lst []) := upd_same
    generalize upd H q1 (.lst []) = H_1 at sq1 eq1 ⊢
    refine ⟨by simp [sizeLine_eq], fun q2 hq2 => ?_⟩
    have sq2 := same_upd (o := .lst [.int 1]) hq2
    have eq2 : (upd H_1 q2 (.lst [.int 1])) q2 = some (.lst [.int 1]) := upd_same
    generalize upd H_1 q2 (.lst [.int 1]) = H_2 at sq2 eq2 ⊢
    refine ⟨by simp [sizeLine_eq], fun q3 hq3 => ?_⟩
    have sq3 := same_upd (o := .lst [.int 0, .int 0]) hq3
    have eq3 : (upd H_2 q3 (.lst [.int 0, .int 0])) q3 = some (.lst [.int 0, .int 0]) := upd_same
    generalize upd H_2 q3 (.lst [.int 0, .int 0]) = H_3 at sq3 eq3 ⊢
    refine ⟨by simp [sizeLine_eq], fun q4 hq4 => ?_⟩
    have sq4 := same_upd (o := .lst [.int 0, .int 2]) hq4
    have eq4 : (upd H_3 q4 (.lst [.int 0, .int 2])) q4 = some (.lst [.int 0, .int 2]) := upd_same
    generalize upd H_3 q4 (.lst [.int 0, .int 2]) = H_4 at sq4 eq4 ⊢
    refine ⟨by simp [sizeLine_eq], fun q5 hq5 => ?_⟩
    have sq5 := same_upd (o := .lst [.int 0, .int 1, .int 1]) hq5
    have eq5 : (upd H_4 q5 (.lst [.int 0, .int 1, .int 1])) q5 = some (.lst [.int 0, .int 1, .int 1]) := upd_same
    generalize upd H_4 q5 (.lst [.int 0, .int 1, .int 1]) = H_5 at sq5 eq5 ⊢
    refine ⟨by simp [sizeLine_eq], fun q6 hq6 => ?_⟩
    have sq6 := same_upd (o := .lst [.bl true, .int 0]) hq6
    have eq6 : (upd H_5 q6 (.lst [.bl true, .int 0])) q6 = some (.lst [.bl true, .int 0]) := upd_same
    generalize upd H_5 q6 (.lst [.bl true, .int 0]) = H_6 at sq6 eq6 ⊢
    refine ⟨by simp [sizeLine_eq], fun q7 hq7 => ?_⟩
    have sq7 := same_upd (o := .lst [.int 0, .bl true]) hq7
    have eq7 : (upd H_6 q7 (.lst [.int 0, .bl true])) q7 = some (.lst [.int 0, .bl true]) := upd_same
    generalize upd H_6 q7 (.lst [.int 0, .bl true]) = H_7 at sq7 eq7 ⊢
    refine ⟨by simp [sizeLine_eq], fun q8 hq8 => ?_⟩
    have sq8 := same_upd (o := .tup [.int 0, .int 1]) hq8
    have eq8 : (upd H_7 q8 (.tup [.int 0, .int 1])) q8 = some (.tup [.int 0, .int 1]) := upd_same
    generalize upd H_7 q8 (.tup [.int 0, .int 1]) = H_8 at sq8 eq8 ⊢
    refine fun q9 hq9 => ?_
    have sq9 := same_upd (o := .dK []) hq9
    have eq9 : (upd H_8 q9 (.dK [])) q9 = some (.dK []) := upd_same
    generalize upd H_8 q9 (.dK []) = H_9 at sq9 eq9 ⊢
    refine ⟨by simp [sizeLine_eq], fun q10 hq10 => ?_⟩
    have sq10 := same_upd (o := .lst [.int 0, .str "1"]) hq10
    have eq10 : (upd H_9 q10 (.lst [.int 0, .str "1"])) q10 = some (.lst [.int 0, .str "1"]) := upd_same
    generalize upd H_9 q10 (.lst [.int 0, .str "1"]) = H_10 at sq10 eq10 ⊢
    refine ⟨by simp [sizeLine_eq], fun q11 hq11 => ?_⟩
    have sq11 := same_upd (o := .lst [.int 0]) hq11
    have eq11 : (upd H_10 q11 (.lst [.int 0])) q11 = some (.lst [.int 0]) := upd_same
    generalize upd H_10 q11 (.lst [.int 0]) = H_11 at sq11 eq11 ⊢
    refine ⟨by simp [sizeLine_eq], fun q12 hq12 => ?_⟩
    have sq12 := same_upd (o := .lst [.ref q11]) hq12
    have eq12 : (upd H_11 q12 (.lst [.ref q11])) q12 = some (.lst [.ref q11]) := upd_same
    generalize upd H_11 q12 (.lst [.ref q11]) = H_12 at sq12 eq12 ⊢
    refine ⟨by simp [sizeLine_eq], fun q13 hq13 => ?_⟩
    have sq13 := same_upd (o := .lst [.ref q1, .ref q2, .ref q3, .ref q4, .ref q5, .ref q6, .ref q7, .ref q8, .non, .ref q9, .str "01", .int 7, .ref q10, .ref q12]) hq13
    have eq13 : (upd H_12 q13 (.lst [.ref q1, .ref q2, .ref q3, .ref q4, .ref q5, .ref q6, .ref q7, .ref q8, .non, .ref q9, .str "01", .int 7, .ref q10, .ref q12])) q13 = some (.lst [.ref q1, .ref q2, .ref q3, .ref q4, .ref q5, .ref q6, .ref q7, .ref q8, .non, .ref q9, .str "01", .int 7, .ref q10, .ref q12]) := upd_same
    generalize upd H_12 q13 (.lst [.ref q1, .ref q2, .ref q3, .ref q4, .ref q5, .ref q6, .ref q7, .ref q8, .non, .ref q9, .str "01", .int 7, .ref q10, .ref q12]) = H_13 at sq13 eq13 ⊢
    refine ⟨_, rfl, ?_⟩
    refine ⟨by simp [sizeLine_eq], fun q14 hq14 => ?_⟩
    have sq14 := same_upd (o := .lst [.int 0, .non]) hq14
    have eq14 : (upd H_13 q14 (.lst [.int 0, .non])) q14 = some (.lst [.int 0, .non]) := upd_same
    generalize upd H_13 q14 (.lst [.int 0, .non]) = H_14 at sq14 eq14 ⊢
    refine ⟨1, rfl, ?_⟩
    refine ⟨by simp [sizeLine_eq], fun q15 hq15 => ?_⟩
    have sq15 := same_upd (o := .lst [.int (-1), .int 0]) hq15
    have eq15 : (upd H_14 q15 (.lst [.int (-1), .int 0])) q15 = some (.lst [.int (-1), .int 0]) := upd_same
    generalize upd H_14 q15 (.lst [.int (-1), .int 0]) = H_15 at sq15 eq15 ⊢
    refine ⟨by simp [sizeLine_eq], fun q16 hq16 => ?_⟩
    have sq16 := same_upd (o := .lst [.int 0, .int 1, .int 3]) hq16
    have eq16 : (upd H_15 q16 (.lst [.int 0, .int 1, .int 3])) q16 = some (.lst [.int 0, .int 1, .int 3]) := upd_same
    generalize upd H_15 q16 (.lst [.int 0, .int 1, .int 3]) = H_16 at sq16 eq16 ⊢
    refine fun q17 hq17 => ⟨upd_same, [(.inl 0, .int 1)], rfl, by decide, ?_⟩
    rw [upd_twice31, merge_one31]
    have sq17 := same_upd (o := .dK [(.inl 0, .int 1)]) hq17
    have eq17 : (upd H_16 q17 (.dK [(.inl 0, .int 1)])) q17 = some (.dK [(.inl 0, .int 1)]) := upd_same
    generalize upd H_16 q17 (.dK [(.inl 0, .int 1)]) = H_17 at sq17 eq17 ⊢
    refine ⟨by simp [sizeLine_eq], fun q18 hq18 => ?_⟩
    have sq18 := same_upd (o := .lst [.ref q14, .ref q15, .ref q16, .ref q17]) hq18
    have eq18 : (upd H_17 q18 (.lst [.ref q14, .ref q15, .ref q16, .ref q17])) q18 = some (.lst [.ref q14, .ref q15, .ref q16, .ref q17]) := upd_same
    generalize upd H_17 q18 (.lst [.ref q14, .ref q15, .ref q16, .ref q17]) = H_18 at sq18 eq18 ⊢
    have t18 : Same H_18 H_18 := fun _ _ e => e
    have t17 := sq18.trans t18
    have t16 := sq17.trans t17
    have t15 := sq16.trans t16
    have t14 := sq15.trans t15
    have t13 := sq14.trans t14
    have t12 := sq13.trans t13
    have t11 := sq12.trans t12
    have t10 := sq11.trans t11
    have t9 := sq10.trans t10
    have t8 := sq9.trans t9
    have t7 := sq8.trans t8
    have t6 := sq7.trans t7
    have t5 := sq6.trans t6
    have t4 := sq5.trans t5
    have t3 := sq4.trans t4
    have t2 := sq3.trans t3
    have t1 := sq2.trans t2
    have c1 := sq1
    have c2 := c1.trans sq2
    have c3 := c2.trans sq3
    have c4 := c3.trans sq4
    have c5 := c4.trans sq5
    have c6 := c5.trans sq6
    have c7 := c6.trans sq7
    have c8 := c7.trans sq8
    have c9 := c8.trans sq9
    have c10 := c9.trans sq10
    have c11 := c10.trans sq11
    have c12 := c11.trans sq12
    have c13 := c12.trans sq13
    have c14 := c13.trans sq14
    have c15 := c14.trans sq15
    have c16 := c15.trans sq16
    have c17 := c16.trans sq17
    have c18 := c17.trans sq18
    refine ⟨q13, q18, _, _, rfl, rfl, t13 _ _ eq13, eq18, by simp [sizeLine_eq], fun L hL => ?_⟩
    have sL : Same H_18 (upd H_18 L (.lst ([.ref q1, .ref q2, .ref q3, .ref q4, .ref q5, .ref q6, .ref q7, .ref q8, .non, .ref q9, .str "01", .int 7, .ref q10, .ref q12] ++ [.ref q14, .ref q15, .ref q16, .ref q17]))) := same_upd hL
    have eL : (upd H_18 L (.lst ([.ref q1, .ref q2, .ref q3, .ref q4, .ref q5, .ref q6, .ref q7, .ref q8, .non, .ref q9, .str "01", .int 7, .ref q10, .ref q12] ++ [.ref q14, .ref q15, .ref q16, .ref q17]))) L = some (.lst ([.ref q1, .ref q2, .ref q3, .ref q4, .ref q5, .ref q6, .ref q7, .ref q8, .non, .ref q9, .str "01", .int 7, .ref q10, .ref q12] ++ [.ref q14, .ref q15, .ref q16, .ref q17])) := upd_same
    have fL := c18.free hL
    generalize upd H_18 L (.lst ([.ref q1, .ref q2, .ref q3, .ref q4, .ref q5, .ref q6, .ref q7, .ref q8, .non, .ref q9, .str "01", .int 7, .ref q10, .ref q12] ++ [.ref q14, .ref q15, .ref q16, .ref q17])) = HL at sL eL ⊢
    have s0 := c18.trans sL
    have hb : ∀ H'', KeepsNew H HL H'' → ∀ x ∈ ([.ref q1, .ref q2, .ref q3, .ref q4, .ref q5, .ref q6, .ref q7, .ref q8, .non, .ref q9, .str "01", .int 7, .ref q10, .ref q12] ++ [.ref q14, .ref q15, .ref q16, .ref q17] : List V), (fun H x => BadOrder K H x) H'' x ∧ Odd K H'' x := fun H'' k => by
      have g1 := k _ _ hq1 (sL _ _ (t1 _ _ eq1))
      have g2 := k _ _ (c1.free hq2) (sL _ _ (t2 _ _ eq2))
      have g3 := k _ _ (c2.free hq3) (sL _ _ (t3 _ _ eq3))
      have g4 := k _ _ (c3.free hq4) (sL _ _ (t4 _ _ eq4))
      have g5 := k _ _ (c4.free hq5) (sL _ _ (t5 _ _ eq5))
      have g6 := k _ _ (c5.free hq6) (sL _ _ (t6 _ _ eq6))
      have g7 := k _ _ (c6.free hq7) (sL _ _ (t7 _ _ eq7))
      have g8 := k _ _ (c7.free hq8) (sL _ _ (t8 _ _ eq8))
      have g9 := k _ _ (c8.free hq9) (sL _ _ (t9 _ _ eq9))
      have g10 := k _ _ (c9.free hq10) (sL _ _ (t10 _ _ eq10))
      have g11 := k _ _ (c10.free hq11) (sL _ _ (t11 _ _ eq11))
      have g12 := k _ _ (c11.free hq12) (sL _ _ (t12 _ _ eq12))
      have g13 := k _ _ (c12.free hq13) (sL _ _ (t13 _ _ eq13))
      have g14 := k _ _ (c13.free hq14) (sL _ _ (t14 _ _ eq14))
      have g15 := k _ _ (c14.free hq15) (sL _ _ (t15 _ _ eq15))
      have g16 := k _ _ (c15.free hq16) (sL _ _ (t16 _ _ eq16))
      have g17 := k _ _ (c16.free hq17) (sL _ _ (t17 _ _ eq17))
      have g18 := k _ _ (c17.free hq18) (sL _ _ (t18 _ _ eq18))
      clear k c
      exact (List.forall_mem_cons.mpr ⟨⟨.inr ⟨_, _, rfl, SqL.of g1, by simp, .inl rfl⟩, ⟨.list [], by decide +kernel, .lst (SqL.of g1) .nil⟩⟩, (List.forall_mem_cons.mpr ⟨⟨.inr ⟨_, _, rfl, SqL.of g2, by simp, .inr (.inr ⟨[1], rfl, by simp, by decide⟩)⟩, ⟨.list [.int 1], by decide +kernel, .lst (SqL.of g2) (.cons (.flat (.int _) rfl) .nil)⟩⟩, (List.forall_mem_cons.mpr ⟨⟨.inr ⟨_, _, rfl, SqL.of g3, by simp, .inr (.inr ⟨[0, 0], rfl, by simp, by decide⟩)⟩, ⟨.list [.int 0, .int 0], by decide +kernel, .lst (SqL.of g3) (.cons (.flat (.int _) rfl) (.cons (.flat (.int _) rfl) .nil))⟩⟩, (List.forall_mem_cons.mpr ⟨⟨.inr ⟨_, _, rfl, SqL.of g4, by simp, .inr (.inr ⟨[0, 2], rfl, by simp, by decide⟩)⟩, ⟨.list [.int 0, .int 2], by decide +kernel, .lst (SqL.of g4) (.cons (.flat (.int _) rfl) (.cons (.flat (.int _) rfl) .nil))⟩⟩, (List.forall_mem_cons.mpr ⟨⟨.inr ⟨_, _, rfl, SqL.of g5, by simp, .inr (.inr ⟨[0, 1, 1], rfl, by simp, by decide⟩)⟩, ⟨.list [.int 0, .int 1, .int 1], by decide +kernel, .lst (SqL.of g5) (.cons (.flat (.int _) rfl) (.cons (.flat (.int _) rfl) (.cons (.flat (.int _) rfl) .nil)))⟩⟩, (List.forall_mem_cons.mpr ⟨⟨.inr ⟨_, _, rfl, SqL.of g6, by simp, .inr (.inl ⟨by simp, (List.forall_mem_cons.mpr ⟨.inr (.of_bl _), (List.forall_mem_cons.mpr ⟨.inl ⟨_, rfl⟩, (fun _ hh => nomatch hh)⟩)⟩), .bl true, by simp, (.of_bl _)⟩)⟩, ⟨.list [.bool true, .int 0], by decide +kernel, .lst (SqL.of g6) (.cons (.flat (.bl _) rfl) (.cons (.flat (.int _) rfl) .nil))⟩⟩, (List.forall_mem_cons.mpr ⟨⟨.inr ⟨_, _, rfl, SqL.of g7, by simp, .inr (.inl ⟨by simp, (List.forall_mem_cons.mpr ⟨.inl ⟨_, rfl⟩, (List.forall_mem_cons.mpr ⟨.inr (.of_bl _), (fun _ hh => nomatch hh)⟩)⟩), .bl true, by simp, (.of_bl _)⟩)⟩, ⟨.list [.int 0, .bool true], by decide +kernel, .lst (SqL.of g7) (.cons (.flat (.int _) rfl) (.cons (.flat (.bl _) rfl) .nil))⟩⟩, (List.forall_mem_cons.mpr ⟨⟨.inl ⟨_, .base (.tup g8), by decide +kernel⟩, ⟨.tuple [.int 0, .int 1], by decide +kernel, .tup (SqT.of g8) (.cons (.flat (.int _) rfl) (.cons (.flat (.int _) rfl) .nil))⟩⟩, (List.forall_mem_cons.mpr ⟨⟨.inl ⟨_, .base .non, by decide +kernel⟩, ⟨.none, by decide +kernel, .flat .non rfl⟩⟩, (List.forall_mem_cons.mpr ⟨⟨.inl ⟨_, .base (.dK g9), by decide +kernel⟩, ⟨.dict [], by decide +kernel, .dict0 g9⟩⟩, (List.forall_mem_cons.mpr ⟨⟨.inl ⟨_, .base (.str _), by decide +kernel⟩, ⟨.str "01", by decide +kernel, .flat (.str _) rfl⟩⟩, (List.forall_mem_cons.mpr ⟨⟨.inl ⟨_, .base (.int _), by decide +kernel⟩, ⟨.int 7, by decide +kernel, .flat (.int _) rfl⟩⟩, (List.forall_mem_cons.mpr ⟨⟨.inr ⟨_, _, rfl, SqL.of g10, by simp, .inr (.inl ⟨by simp, (List.forall_mem_cons.mpr ⟨.inl ⟨_, rfl⟩, (List.forall_mem_cons.mpr ⟨.inr (.of_str _), (fun _ hh => nomatch hh)⟩)⟩), .str "1", by simp, (.of_str _)⟩)⟩, ⟨.list [.int 0, .str "1"], by decide +kernel, .lst (SqL.of g10) (.cons (.flat (.int _) rfl) (.cons (.flat (.str _) rfl) .nil))⟩⟩, (List.forall_mem_cons.mpr ⟨⟨.inr ⟨_, _, rfl, SqL.of g12, by simp, .inr (.inl ⟨by simp, (List.forall_mem_cons.mpr ⟨.inr (.of_lst g11), (fun _ hh => nomatch hh)⟩), .ref q11, by simp, (.of_lst g11)⟩)⟩, ⟨.list [.list [.int 0]], by decide +kernel, .lst (SqL.of g12) (.cons (.lst (SqL.of g11) (.cons (.flat (.int _) rfl) .nil)) .nil)⟩⟩, (List.forall_mem_cons.mpr ⟨⟨.inr ⟨_, _, rfl, SqL.of g14, by simp, .inr (.inl ⟨by simp, (List.forall_mem_cons.mpr ⟨.inl ⟨_, rfl⟩, (List.forall_mem_cons.mpr ⟨.inr .of_non, (fun _ hh => nomatch hh)⟩)⟩), .non, by simp, .of_non⟩)⟩, ⟨.list [.int 0, .none], by decide +kernel, .lst (SqL.of g14) (.cons (.flat (.int _) rfl) (.cons (.flat .non rfl) .nil))⟩⟩, (List.forall_mem_cons.mpr ⟨⟨.inr ⟨_, _, rfl, SqL.of g15, by simp, .inr (.inr ⟨[-1, 0], rfl, by simp, by decide⟩)⟩, ⟨.list [.int (-1), .int 0], by decide +kernel, .lst (SqL.of g15) (.cons (.flat (.int _) rfl) (.cons (.flat (.int _) rfl) .nil))⟩⟩, (List.forall_mem_cons.mpr ⟨⟨.inr ⟨_, _, rfl, SqL.of g16, by simp, .inr (.inr ⟨[0, 1, 3], rfl, by simp, by decide⟩)⟩, ⟨.list [.int 0, .int 1, .int 3], by decide +kernel, .lst (SqL.of g16) (.cons (.flat (.int _) rfl) (.cons (.flat (.int _) rfl) (.cons (.flat (.int _) rfl) .nil)))⟩⟩, (List.forall_mem_cons.mpr ⟨⟨.inl ⟨_, .base (.dK g17), by decide +kernel⟩, ⟨.dict [(.int 0, .int 1)], by decide +kernel, .dict1 g17⟩⟩, (fun _ hh => nomatch hh)⟩)⟩)⟩)⟩)⟩)⟩)⟩)⟩)⟩)⟩)⟩)⟩)⟩)⟩)⟩)⟩)⟩)⟩)
    refine ⟨_, rfl, ps, 18, rfl, by decide, by decide, (hsrc.stp_same s0).src, fun r H2 hr s2 => ?_⟩
    obtain ⟨v, eL2, hx, q⟩ := pick24 (K := K) (Pr := fun H x => BadOrder K H x) hsrc s0 eL fL hb c r H2 (by simp; omega) s2
    exact ⟨L, _, r, _, rfl, rfl, SqL.of eL2, atI_nat hx, q⟩
end
/-! ### law k31: bad sightings -/
section
variable {P : Program} {w : World} {K : PySem.W.Frag} {mg : Str → Option Value} {base : Heap}
theorem ok_bad_seen {f : Addr} {fd : FuncData} (F : Fun K "_law_bad_seen" "_law_bad_seen" s__law_bad_seen f fd) (h1 : Has P w K mg base 2 "_law_next" ["_law_source_here", "_law_most"] [] spNext) : FnOk P w K mg base CX0 3 f fd ["_law_source_here"] (spBadSeen K) := by
  obtain ⟨f__law_next, fd__law_next, ds__law_next, G__law_next, m__law_next, k__law_next, b__law_next, v__law_next⟩ := h1
  refine F.ok sc__law_bad_seen (fun vs H Q E h => ?_) (fun cdv A outer s H vs Q E hr h => ?_)
  · obtain ⟨ps, rfl, _⟩ := h
    rfl
  · obtain ⟨ps, rfl, hsrc, c⟩ := h
    refine ⟨_, (pss_cons (ps_set (i := 1) sc__law_bad_seen.nd rfl (.inl rfl) (pe_lst (pa_cons (pe_tup (pa_cons pe_int (pa_cons pe_int (pa_cons pe_str pa_nil)))) (pa_cons (pe_tup (pa_cons pe_int (pa_cons pe_int (pa_cons pe_str pa_nil)))) (pa_cons (pe_tup (pa_cons (pe_un un_neg pe_int) (pa_cons pe_int (pa_cons pe_str pa_nil)))) (pa_cons (pe_tup (pa_cons pe_int (pa_cons pe_int pa_nil))) (pa_cons (pe_tup (pa_cons pe_int (pa_cons pe_int (pa_cons pe_str (pa_cons pe_int pa_nil))))) (pa_cons (pe_lst (pa_cons pe_int (pa_cons pe_int (pa_cons pe_str pa_nil)))) (pa_cons (pe_tup (pa_cons pe_int (pa_cons pe_int (pa_cons pe_str pa_nil)))) pa_nil)))))))))
      (pss_cons (ps_set (i := 1) sc__law_bad_seen.nd rfl (.inl rfl) (pe_op op_cat (pv 1) (pe_lst (pa_cons (pe_tup (pa_cons pe_bl (pa_cons pe_int (pa_cons pe_str pa_nil)))) (pa_cons (pe_tup (pa_cons pe_int (pa_cons pe_bl (pa_cons pe_str pa_nil)))) (pa_cons (pe_tup (pa_cons pe_str (pa_cons pe_int (pa_cons pe_str pa_nil)))) (pa_cons (pe_tup (pa_cons pe_int (pa_cons pe_non (pa_cons pe_str pa_nil)))) (pa_cons (pe_tup (pa_cons pe_int (pa_cons pe_int (pa_cons pe_non pa_nil)))) (pa_cons pe_non (pa_cons pe_int pa_nil))))))))))
      (pss_cons (ps_set (i := 2) sc__law_bad_seen.nd rfl (.inl rfl) (pe_ix (ix_listK (K := K) rfl) (pe_op op_cat (pv 1) (pe_lst (pa_cons (pe_tup (pa_cons pe_int (pa_cons pe_int (pa_cons (pe_lst (pa_cons pe_str pa_nil)) pa_nil)))) (pa_cons (pe_tup (pa_cons pe_dnewK (pa_cons pe_int (pa_cons pe_str pa_nil)))) (pa_cons (pe_tup (pa_cons pe_int (pa_cons (pe_lst (pa_cons pe_int pa_nil)) (pa_cons pe_str pa_nil)))) (pa_cons pe_str (pa_cons pe_dnewK pa_nil))))))) (pe_call G__law_next hr (by rfl) m__law_next k__law_next b__law_next v__law_next pass0 (pa_cons (pv 0) (pa_cons pe_int pa_nil))) (fun _ _ => rfl)))
      (pss_one (ps_ret (pe_ix (ix_listK (K := K) rfl) (pe_lst (pa_cons (pe_lst (pa_cons (pv 2) pa_nil)) (pa_cons (pe_lst (pa_cons (pe_tup (pa_cons pe_int (pa_cons pe_int (pa_cons pe_str pa_nil)))) (pa_cons (pv 2) pa_nil))) (pa_cons (pe_tup (pa_cons (pv 2) pa_nil)) (pa_cons pe_non (pa_cons pe_dnewK (pa_cons pe_str (pa_cons pe_int pa_nil)))))))) (pe_call G__law_next hr (by rfl) m__law_next k__law_next b__law_next v__law_next pass0 (pa_cons (pv 0) (pa_cons pe_int pa_nil))) (fun _ _ => rfl))))))), ?_⟩
    refine ⟨by simp [sizeLine_eq], fun q1 hq1 => ?_⟩
    have sq1 := same_upd (o := .tup [.int 5, .int 5, .str "back"]) hq1
    have eq1 : (upd H q1 (.tup [.int 5, .int 5, .str "back"])) q1 = some (.tup [.int 5, .int 5, .str "back"]) := upd_same
    generalize upd H q1 (.tup [.int 5, .int 5, .str "back"]) = H_1 at sq1 eq1 ⊢
    refine ⟨by simp [sizeLine_eq], fun q2 hq2 => ?_⟩
    have sq2 := same_upd (o := .tup [.int 6, .int 5, .str "back"]) hq2
    have eq2 : (upd H_1 q2 (.tup [.int 6, .int 5, .str "back"])) q2 = some (.tup [.int 6, .int 5, .str "back"]) := upd_same
    generalize upd H_1 q2 (.tup [.int 6, .int 5, .str "back"]) = H_2 at sq2 eq2 ⊢
    refine ⟨1, rfl, ?_⟩
    refine ⟨by simp [sizeLine_eq], fun q3 hq3 => ?_⟩
    have sq3 := same_upd (o := .tup [.int (-1), .int 5, .str "back"]) hq3
    have eq3 : (upd H_2 q3 (.tup [.int (-1), .int 5, .str "back"])) q3 = some (.tup [.int (-1), .int 5, .str "back"]) := upd_same
    generalize upd H_2 q3 (.tup [.int (-1), .int 5, .str "back"]) = H_3 at sq3 eq3 ⊢
    refine ⟨by simp [sizeLine_eq], fun q4 hq4 => ?_⟩
    have sq4 := same_upd (o := .tup [.int 0, .int 5]) hq4
    have eq4 : (upd H_3 q4 (.tup [.int 0, .int 5])) q4 = some (.tup [.int 0, .int 5]) := upd_same
    generalize upd H_3 q4 (.tup [.int 0, .int 5]) = H_4 at sq4 eq4 ⊢
    refine ⟨by simp [sizeLine_eq], fun q5 hq5 => ?_⟩
    have sq5 := same_upd (o := .tup [.int 0, .int 5, .str "back", .int 1]) hq5
    have eq5 : (upd H_4 q5 (.tup [.int 0, .int 5, .str "back", .int 1])) q5 = some (.tup [.int 0, .int 5, .str "back", .int 1]) := upd_same
    generalize upd H_4 q5 (.tup [.int 0, .int 5, .str "back", .int 1]) = H_5 at sq5 eq5 ⊢
    refine ⟨by simp [sizeLine_eq], fun q6 hq6 => ?_⟩
    have sq6 := same_upd (o := .lst [.int 0, .int 5, .str "back"]) hq6
    have eq6 : (upd H_5 q6 (.lst [.int 0, .int 5, .str "back"])) q6 = some (.lst [.int 0, .int 5, .str "back"]) := upd_same
    generalize upd H_5 q6 (.lst [.int 0, .int 5, .str "back"]) = H_6 at sq6 eq6 ⊢
    refine ⟨by simp [sizeLine_eq], fun q7 hq7 => ?_⟩
    have sq7 := same_upd (o := .tup [.int 0, .int 5, .str "left"]) hq7
    have eq7 : (upd H_6 q7 (.tup [.int 0, .int 5, .str "left"])) q7 = some (.tup [.int 0, .int 5, .str "left"]) := upd_same
    generalize upd H_6 q7 (.tup [.int 0, .int 5, .str "left"]) = H_7 at sq7 eq7 ⊢
    refine ⟨by simp [sizeLine_eq], fun q8 hq8 => ?_⟩
    have sq8 := same_upd (o := .lst [.ref q1, .ref q2, .ref q3, .ref q4, .ref q5, .ref q6, .ref q7]) hq8
    have eq8 : (upd H_7 q8 (.lst [.ref q1, .ref q2, .ref q3, .ref q4, .ref q5, .ref q6, .ref q7])) q8 = some (.lst [.ref q1, .ref q2, .ref q3, .ref q4, .ref q5, .ref q6, .ref q7]) := upd_same
    generalize upd H_7 q8 (.lst [.ref q1, .ref q2, .ref q3, .ref q4, .ref q5, .ref q6, .ref q7]) = H_8 at sq8 eq8 ⊢
    refine ⟨_, rfl, ?_⟩
    refine ⟨by simp [sizeLine_eq], fun q9 hq9 => ?_⟩
    have sq9 := same_upd (o := .tup [.bl true, .int 5, .str "back"]) hq9
    have eq9 : (upd H_8 q9 (.tup [.bl true, .int 5, .str "back"])) q9 = some (.tup [.bl true, .int 5, .str "back"]) := upd_same
    generalize upd H_8 q9 (.tup [.bl true, .int 5, .str "back"]) = H_9 at sq9 eq9 ⊢
    refine ⟨by simp [sizeLine_eq], fun q10 hq10 => ?_⟩
    have sq10 := same_upd (o := .tup [.int 0, .bl true, .str "back"]) hq10
    have eq10 : (upd H_9 q10 (.tup [.int 0, .bl true, .str "back"])) q10 = some (.tup [.int 0, .bl true, .str "back"]) := upd_same
    generalize upd H_9 q10 (.tup [.int 0, .bl true, .str "back"]) = H_10 at sq10 eq10 ⊢
    refine ⟨by simp [sizeLine_eq], fun q11 hq11 => ?_⟩
    have sq11 := same_upd (o := .tup [.str "0", .int 5, .str "back"]) hq11
    have eq11 : (upd H_10 q11 (.tup [.str "0", .int 5, .str "back"])) q11 = some (.tup [.str "0", .int 5, .str "back"]) := upd_same
    generalize upd H_10 q11 (.tup [.str "0", .int 5, .str "back"]) = H_11 at sq11 eq11 ⊢
    refine ⟨by simp [sizeLine_eq], fun q12 hq12 => ?_⟩
    have sq12 := same_upd (o := .tup [.int 0, .non, .str "back"]) hq12
    have eq12 : (upd H_11 q12 (.tup [.int 0, .non, .str "back"])) q12 = some (.tup [.int 0, .non, .str "back"]) := upd_same
    generalize upd H_11 q12 (.tup [.int 0, .non, .str "back"]) = H_12 at sq12 eq12 ⊢
    refine ⟨by simp [sizeLine_eq], fun q13 hq13 => ?_⟩
    have sq13 := same_upd (o := .tup [.int 0, .int 5, .non]) hq13
    have eq13 : (upd H_12 q13 (.tup [.int 0, .int 5, .non])) q13 = some (.tup [.int 0, .int 5, .non]) := upd_same
    generalize upd H_12 q13 (.tup [.int 0, .int 5, .non]) = H_13 at sq13 eq13 ⊢
    refine ⟨by simp [sizeLine_eq], fun q14 hq14 => ?_⟩
    have sq14 := same_upd (o := .lst [.ref q9, .ref q10, .ref q11, .ref q12, .ref q13, .non, .int 7]) hq14
    have eq14 : (upd H_13 q14 (.lst [.ref q9, .ref q10, .ref q11, .ref q12, .ref q13, .non, .int 7])) q14 = some (.lst [.ref q9, .ref q10, .ref q11, .ref q12, .ref q13, .non, .int 7]) := upd_same
    generalize upd H_13 q14 (.lst [.ref q9, .ref q10, .ref q11, .ref q12, .ref q13, .non, .int 7]) = H_14 at sq14 eq14 ⊢
    refine ⟨q8, q14, _, _, rfl, rfl, (sq14 _ _ (sq13 _ _ (sq12 _ _ (sq11 _ _ (sq10 _ _ (sq9 _ _ eq8)))))), eq14, by simp [sizeLine_eq], fun q15 hq15 => ?_⟩
    have sq15 := same_upd (o := .lst ([.ref q1, .ref q2, .ref q3, .ref q4, .ref q5, .ref q6, .ref q7] ++ [.ref q9, .ref q10, .ref q11, .ref q12, .ref q13, .non, .int 7])) hq15
    have eq15 : (upd H_14 q15 (.lst ([.ref q1, .ref q2, .ref q3, .ref q4, .ref q5, .ref q6, .ref q7] ++ [.ref q9, .ref q10, .ref q11, .ref q12, .ref q13, .non, .int 7]))) q15 = some (.lst ([.ref q1, .ref q2, .ref q3, .ref q4, .ref q5, .ref q6, .ref q7] ++ [.ref q9, .ref q10, .ref q11, .ref q12, .ref q13, .non, .int 7])) := upd_same
    generalize upd H_14 q15 (.lst ([.ref q1, .ref q2, .ref q3, .ref q4, .ref q5, .ref q6, .ref q7] ++ [.ref q9, .ref q10, .ref q11, .ref q12, .ref q13, .non, .int 7])) = H_15 at sq15 eq15 ⊢
    refine ⟨_, rfl, ?_⟩
    refine ⟨by simp [sizeLine_eq], fun q16 hq16 => ?_⟩
    have sq16 := same_upd (o := .lst [.str "back"]) hq16
    have eq16 : (upd H_15 q16 (.lst [.str "back"])) q16 = some (.lst [.str "back"]) := upd_same
    generalize upd H_15 q16 (.lst [.str "back"]) = H_16 at sq16 eq16 ⊢
    refine ⟨by simp [sizeLine_eq], fun q17 hq17 => ?_⟩
    have sq17 := same_upd (o := .tup [.int 0, .int 5, .ref q16]) hq17
    have eq17 : (upd H_16 q17 (.tup [.int 0, .int 5, .ref q16])) q17 = some (.tup [.int 0, .int 5, .ref q16]) := upd_same
    generalize upd H_16 q17 (.tup [.int 0, .int 5, .ref q16]) = H_17 at sq17 eq17 ⊢
    refine fun q18 hq18 => ?_
    have sq18 := same_upd (o := .dK []) hq18
    have eq18 : (upd H_17 q18 (.dK [])) q18 = some (.dK []) := upd_same
    generalize upd H_17 q18 (.dK []) = H_18 at sq18 eq18 ⊢
    refine ⟨by simp [sizeLine_eq], fun q19 hq19 => ?_⟩
    have sq19 := same_upd (o := .tup [.ref q18, .int 5, .str "back"]) hq19
    have eq19 : (upd H_18 q19 (.tup [.ref q18, .int 5, .str "back"])) q19 = some (.tup [.ref q18, .int 5, .str "back"]) := upd_same
    generalize upd H_18 q19 (.tup [.ref q18, .int 5, .str "back"]) = H_19 at sq19 eq19 ⊢
    refine ⟨by simp [sizeLine_eq], fun q20 hq20 => ?_⟩
    have sq20 := same_upd (o := .lst [.int 5]) hq20
    have eq20 : (upd H_19 q20 (.lst [.int 5])) q20 = some (.lst [.int 5]) := upd_same
    generalize upd H_19 q20 (.lst [.int 5]) = H_20 at sq20 eq20 ⊢
    refine ⟨by simp [sizeLine_eq], fun q21 hq21 => ?_⟩
    have sq21 := same_upd (o := .tup [.int 0, .ref q20, .str "back"]) hq21
    have eq21 : (upd H_20 q21 (.tup [.int 0, .ref q20, .str "back"])) q21 = some (.tup [.int 0, .ref q20, .str "back"]) := upd_same
    generalize upd H_20 q21 (.tup [.int 0, .ref q20, .str "back"]) = H_21 at sq21 eq21 ⊢
    refine fun q22 hq22 => ?_
    have sq22 := same_upd (o := .dK []) hq22
    have eq22 : (upd H_21 q22 (.dK [])) q22 = some (.dK []) := upd_same
    generalize upd H_21 q22 (.dK []) = H_22 at sq22 eq22 ⊢
    refine ⟨by simp [sizeLine_eq], fun q23 hq23 => ?_⟩
    have sq23 := same_upd (o := .lst [.ref q17, .ref q19, .ref q21, .str "back", .ref q22]) hq23
    have eq23 : (upd H_22 q23 (.lst [.ref q17, .ref q19, .ref q21, .str "back", .ref q22])) q23 = some (.lst [.ref q17, .ref q19, .ref q21, .str "back", .ref q22]) := upd_same
    generalize upd H_22 q23 (.lst [.ref q17, .ref q19, .ref q21, .str "back", .ref q22]) = H_23 at sq23 eq23 ⊢
    have t23 : Same H_23 H_23 := fun _ _ e => e
    have t22 := sq23.trans t23
    have t21 := sq22.trans t22
    have t20 := sq21.trans t21
    have t19 := sq20.trans t20
    have t18 := sq19.trans t19
    have t17 := sq18.trans t18
    have t16 := sq17.trans t17
    have t15 := sq16.trans t16
    have t14 := sq15.trans t15
    have t13 := sq14.trans t14
    have t12 := sq13.trans t13
    have t11 := sq12.trans t12
    have t10 := sq11.trans t11
    have t9 := sq10.trans t10
    have t8 := sq9.trans t9
    have t7 := sq8.trans t8
    have t6 := sq7.trans t7
    have t5 := sq6.trans t6
    have t4 := sq5.trans t5
    have t3 := sq4.trans t4
    have t2 := sq3.trans t3
    have t1 := sq2.trans t2
    have c1 := sq1
    have c2 := c1.trans sq2
    have c3 := c2.trans sq3
    have c4 := c3.trans sq4
    have c5 := c4.trans sq5
    have c6 := c5.trans sq6
    have c7 := c6.trans sq7
    have c8 := c7.trans sq8
    have c9 := c8.trans sq9
    have c10 := c9.trans sq10
    have c11 := c10.trans sq11
    have c12 := c11.trans sq12
    have c13 := c12.trans sq13
    have c14 := c13.trans sq14
    have c15 := c14.trans sq15
    have c16 := c15.trans sq16
    have c17 := c16.trans sq17
    have c18 := c17.trans sq18
    have c19 := c18.trans sq19
    have c20 := c19.trans sq20
    have c21 := c20.trans sq21
    have c22 := c21.trans sq22
    have c23 := c22.trans sq23
    refine ⟨q15, q23, _, _, rfl, rfl, t15 _ _ eq15, eq23, by simp [sizeLine_eq], fun L hL => ?_⟩
    have sL : Same H_23 (upd H_23 L (.lst (([.ref q1, .ref q2, .ref q3, .ref q4, .ref q5, .ref q6, .ref q7] ++ [.ref q9, .ref q10, .ref q11, .ref q12, .ref q13, .non, .int 7]) ++ [.ref q17, .ref q19, .ref q21, .str "back", .ref q22]))) := same_upd hL
    have eL : (upd H_23 L (.lst (([.ref q1, .ref q2, .ref q3, .ref q4, .ref q5, .ref q6, .ref q7] ++ [.ref q9, .ref q10, .ref q11, .ref q12, .ref q13, .non, .int 7]) ++ [.ref q17, .ref q19, .ref q21, .str "back", .ref q22]))) L = some (.lst (([.ref q1, .ref q2, .ref q3, .ref q4, .ref q5, .ref q6, .ref q7] ++ [.ref q9, .ref q10, .ref q11, .ref q12, .ref q13, .non, .int 7]) ++ [.ref q17, .ref q19, .ref q21, .str "back", .ref q22])) := upd_same
    have fL := c23.free hL
    generalize upd H_23 L (.lst (([.ref q1, .ref q2, .ref q3, .ref q4, .ref q5, .ref q6, .ref q7] ++ [.ref q9, .ref q10, .ref q11, .ref q12, .ref q13, .non, .int 7]) ++ [.ref q17, .ref q19, .ref q21, .str "back", .ref q22])) = HL at sL eL ⊢
    have s0 := c23.trans sL
    have hb : ∀ H'', KeepsNew H HL H'' → ∀ x ∈ (([.ref q1, .ref q2, .ref q3, .ref q4, .ref q5, .ref q6, .ref q7] ++ [.ref q9, .ref q10, .ref q11, .ref q12, .ref q13, .non, .int 7]) ++ [.ref q17, .ref q19, .ref q21, .str "back", .ref q22] : List V), (fun H x => BadSight K H x) H'' x ∧ Odd K H'' x := fun H'' k => by
      have g1 := k _ _ hq1 (sL _ _ (t1 _ _ eq1))
      have g2 := k _ _ (c1.free hq2) (sL _ _ (t2 _ _ eq2))
      have g3 := k _ _ (c2.free hq3) (sL _ _ (t3 _ _ eq3))
      have g4 := k _ _ (c3.free hq4) (sL _ _ (t4 _ _ eq4))
      have g5 := k _ _ (c4.free hq5) (sL _ _ (t5 _ _ eq5))
      have g6 := k _ _ (c5.free hq6) (sL _ _ (t6 _ _ eq6))
      have g7 := k _ _ (c6.free hq7) (sL _ _ (t7 _ _ eq7))
      have g8 := k _ _ (c7.free hq8) (sL _ _ (t8 _ _ eq8))
      have g9 := k _ _ (c8.free hq9) (sL _ _ (t9 _ _ eq9))
      have g10 := k _ _ (c9.free hq10) (sL _ _ (t10 _ _ eq10))
      have g11 := k _ _ (c10.free hq11) (sL _ _ (t11 _ _ eq11))
      have g12 := k _ _ (c11.free hq12) (sL _ _ (t12 _ _ eq12))
      have g13 := k _ _ (c12.free hq13) (sL _ _ (t13 _ _ eq13))
      have g14 := k _ _ (c13.free hq14) (sL _ _ (t14 _ _ eq14))
      have g15 := k _ _ (c14.free hq15) (sL _ _ (t15 _ _ eq15))
      have g16 := k _ _ (c15.free hq16) (sL _ _ (t16 _ _ eq16))
      have g17 := k _ _ (c16.free hq17) (sL _ _ (t17 _ _ eq17))
      have g18 := k _ _ (c17.free hq18) (sL _ _ (t18 _ _ eq18))
      have g19 := k _ _ (c18.free hq19) (sL _ _ (t19 _ _ eq19))
      have g20 := k _ _ (c19.free hq20) (sL _ _ (t20 _ _ eq20))
      have g21 := k _ _ (c20.free hq21) (sL _ _ (t21 _ _ eq21))
      have g22 := k _ _ (c21.free hq22) (sL _ _ (t22 _ _ eq22))
      have g23 := k _ _ (c22.free hq23) (sL _ _ (t23 _ _ eq23))
      clear k c
      exact (List.forall_mem_cons.mpr ⟨⟨.inr ⟨_, _, rfl, g1, .inr ⟨_, _, _, rfl, .inr ⟨5, rfl, .inl (.inr ⟨_, rfl, by decide⟩)⟩⟩⟩, ⟨.tuple [.int 5, .int 5, .str "back"], by decide +kernel, .tup (SqT.of g1) (.cons (.flat (.int _) rfl) (.cons (.flat (.int _) rfl) (.cons (.flat (.str _) rfl) .nil)))⟩⟩, (List.forall_mem_cons.mpr ⟨⟨.inr ⟨_, _, rfl, g2, .inr ⟨_, _, _, rfl, .inr ⟨6, rfl, .inl (.inr ⟨_, rfl, by decide⟩)⟩⟩⟩, ⟨.tuple [.int 6, .int 5, .str "back"], by decide +kernel, .tup (SqT.of g2) (.cons (.flat (.int _) rfl) (.cons (.flat (.int _) rfl) (.cons (.flat (.str _) rfl) .nil)))⟩⟩, (List.forall_mem_cons.mpr ⟨⟨.inr ⟨_, _, rfl, g3, .inr ⟨_, _, _, rfl, .inl (.inr ⟨_, rfl, by decide⟩)⟩⟩, ⟨.tuple [.int (-1), .int 5, .str "back"], by decide +kernel, .tup (SqT.of g3) (.cons (.flat (.int _) rfl) (.cons (.flat (.int _) rfl) (.cons (.flat (.str _) rfl) .nil)))⟩⟩, (List.forall_mem_cons.mpr ⟨⟨.inr ⟨_, _, rfl, g4, .inl (by simp)⟩, ⟨.tuple [.int 0, .int 5], by decide +kernel, .tup (SqT.of g4) (.cons (.flat (.int _) rfl) (.cons (.flat (.int _) rfl) .nil))⟩⟩, (List.forall_mem_cons.mpr ⟨⟨.inr ⟨_, _, rfl, g5, .inl (by simp)⟩, ⟨.tuple [.int 0, .int 5, .str "back", .int 1], by decide +kernel, .tup (SqT.of g5) (.cons (.flat (.int _) rfl) (.cons (.flat (.int _) rfl) (.cons (.flat (.str _) rfl) (.cons (.flat (.int _) rfl) .nil))))⟩⟩, (List.forall_mem_cons.mpr ⟨⟨.inl ⟨_, .base (.lst g6), by decide +kernel⟩, ⟨.list [.int 0, .int 5, .str "back"], by decide +kernel, .lst (SqL.of g6) (.cons (.flat (.int _) rfl) (.cons (.flat (.int _) rfl) (.cons (.flat (.str _) rfl) .nil)))⟩⟩, (List.forall_mem_cons.mpr ⟨⟨.inr ⟨_, _, rfl, g7, .inr ⟨_, _, _, rfl, .inr ⟨0, rfl, .inr ⟨5, rfl, by decide, (.inr ⟨_, rfl, by decide⟩)⟩⟩⟩⟩, ⟨.tuple [.int 0, .int 5, .str "left"], by decide +kernel, .tup (SqT.of g7) (.cons (.flat (.int _) rfl) (.cons (.flat (.int _) rfl) (.cons (.flat (.str _) rfl) .nil)))⟩⟩, (List.forall_mem_cons.mpr ⟨⟨.inr ⟨_, _, rfl, g9, .inr ⟨_, _, _, rfl, .inl (.inl (.of_bl _))⟩⟩, ⟨.tuple [.bool true, .int 5, .str "back"], by decide +kernel, .tup (SqT.of g9) (.cons (.flat (.bl _) rfl) (.cons (.flat (.int _) rfl) (.cons (.flat (.str _) rfl) .nil)))⟩⟩, (List.forall_mem_cons.mpr ⟨⟨.inr ⟨_, _, rfl, g10, .inr ⟨_, _, _, rfl, .inr ⟨0, rfl, .inl (.inl (.of_bl _))⟩⟩⟩, ⟨.tuple [.int 0, .bool true, .str "back"], by decide +kernel, .tup (SqT.of g10) (.cons (.flat (.int _) rfl) (.cons (.flat (.bl _) rfl) (.cons (.flat (.str _) rfl) .nil)))⟩⟩, (List.forall_mem_cons.mpr ⟨⟨.inr ⟨_, _, rfl, g11, .inr ⟨_, _, _, rfl, .inl (.inl (.of_str _))⟩⟩, ⟨.tuple [.str "0", .int 5, .str "back"], by decide +kernel, .tup (SqT.of g11) (.cons (.flat (.str _) rfl) (.cons (.flat (.int _) rfl) (.cons (.flat (.str _) rfl) .nil)))⟩⟩, (List.forall_mem_cons.mpr ⟨⟨.inr ⟨_, _, rfl, g12, .inr ⟨_, _, _, rfl, .inr ⟨0, rfl, .inl (.inl .of_non)⟩⟩⟩, ⟨.tuple [.int 0, .none, .str "back"], by decide +kernel, .tup (SqT.of g12) (.cons (.flat (.int _) rfl) (.cons (.flat .non rfl) (.cons (.flat (.str _) rfl) .nil)))⟩⟩, (List.forall_mem_cons.mpr ⟨⟨.inr ⟨_, _, rfl, g13, .inr ⟨_, _, _, rfl, .inr ⟨0, rfl, .inr ⟨5, rfl, by decide, (.inl ⟨_, .base .non, by decide +kernel⟩)⟩⟩⟩⟩, ⟨.tuple [.int 0, .int 5, .none], by decide +kernel, .tup (SqT.of g13) (.cons (.flat (.int _) rfl) (.cons (.flat (.int _) rfl) (.cons (.flat .non rfl) .nil)))⟩⟩, (List.forall_mem_cons.mpr ⟨⟨.inl ⟨_, .base .non, by decide +kernel⟩, ⟨.none, by decide +kernel, .flat .non rfl⟩⟩, (List.forall_mem_cons.mpr ⟨⟨.inl ⟨_, .base (.int _), by decide +kernel⟩, ⟨.int 7, by decide +kernel, .flat (.int _) rfl⟩⟩, (List.forall_mem_cons.mpr ⟨⟨.inr ⟨_, _, rfl, g17, .inr ⟨_, _, _, rfl, .inr ⟨0, rfl, .inr ⟨5, rfl, by decide, (.inl ⟨_, .base (.lst g16), by decide +kernel⟩)⟩⟩⟩⟩, ⟨.tuple [.int 0, .int 5, .list [.str "back"]], by decide +kernel, .tup (SqT.of g17) (.cons (.flat (.int _) rfl) (.cons (.flat (.int _) rfl) (.cons (.lst (SqL.of g16) (.cons (.flat (.str _) rfl) .nil)) .nil)))⟩⟩, (List.forall_mem_cons.mpr ⟨⟨.inr ⟨_, _, rfl, g19, .inr ⟨_, _, _, rfl, .inl (.inl (.of_dK g18))⟩⟩, ⟨.tuple [.dict [], .int 5, .str "back"], by decide +kernel, .tup (SqT.of g19) (.cons (.dict0 g18) (.cons (.flat (.int _) rfl) (.cons (.flat (.str _) rfl) .nil)))⟩⟩, (List.forall_mem_cons.mpr ⟨⟨.inr ⟨_, _, rfl, g21, .inr ⟨_, _, _, rfl, .inr ⟨0, rfl, .inl (.inl (.of_lst g20))⟩⟩⟩, ⟨.tuple [.int 0, .list [.int 5], .str "back"], by decide +kernel, .tup (SqT.of g21) (.cons (.flat (.int _) rfl) (.cons (.lst (SqL.of g20) (.cons (.flat (.int _) rfl) .nil)) (.cons (.flat (.str _) rfl) .nil)))⟩⟩, (List.forall_mem_cons.mpr ⟨⟨.inl ⟨_, .base (.str _), by decide +kernel⟩, ⟨.str "back", by decide +kernel, .flat (.str _) rfl⟩⟩, (List.forall_mem_cons.mpr ⟨⟨.inl ⟨_, .base (.dK g22), by decide +kernel⟩, ⟨.dict [], by decide +kernel, .dict0 g22⟩⟩, (fun _ hh => nomatch hh)⟩)⟩)⟩)⟩)⟩)⟩)⟩)⟩)⟩)⟩)⟩)⟩)⟩)⟩)⟩)⟩)⟩)⟩)⟩)
    refine ⟨_, rfl, ps, 19, rfl, by decide, by decide, (hsrc.stp_same s0).src, fun r H2 hr s2 => ?_⟩
    obtain ⟨v, eL2, hx, st, hv⟩ := pick24 (K := K) (Pr := fun H x => BadSight K H x) (Q := fun x H' => Stp ps H H' ∧ ∀ H'', KeepsNew H H' H'' → BadSight K H'' x ∧ Odd K H'' x) hsrc s0 eL fL hb (fun _ _ a b => ⟨a, b⟩) r H2 (by simp; omega) s2
    refine ⟨L, _, r, v, rfl, rfl, SqL.of eL2, atI_nat hx, ?_⟩
    have nps : ∀ {p : Addr}, H p = none → p ≠ ps := fun h e => src_some hsrc (e ▸ h)
    clear hb
    refine ⟨_, rfl, ?_⟩
    refine ⟨by simp [sizeLine_eq], fun qA hqA => ?_⟩
    have sA := same_upd (o := .lst [v]) hqA
    have eA : (upd H2 qA (.lst [v])) qA = some (.lst [v]) := upd_same
    generalize upd H2 qA (.lst [v]) = HA at sA eA ⊢
    refine ⟨by simp [sizeLine_eq], fun qB hqB => ?_⟩
    have sB := same_upd (o := .tup [.int 0, .int 5, .str "back"]) hqB
    have eB : (upd HA qB (.tup [.int 0, .int 5, .str "back"])) qB = some (.tup [.int 0, .int 5, .str "back"]) := upd_same
    generalize upd HA qB (.tup [.int 0, .int 5, .str "back"]) = HB at sB eB ⊢
    refine ⟨_, rfl, ?_⟩
    refine ⟨by simp [sizeLine_eq], fun qC hqC => ?_⟩
    have sC := same_upd (o := .lst [.ref qB, v]) hqC
    have eC : (upd HB qC (.lst [.ref qB, v])) qC = some (.lst [.ref qB, v]) := upd_same
    generalize upd HB qC (.lst [.ref qB, v]) = HC at sC eC ⊢
    refine ⟨_, rfl, ?_⟩
    refine ⟨by simp [sizeLine_eq], fun qD hqD => ?_⟩
    have sD := same_upd (o := .tup [v]) hqD
    have eD : (upd HC qD (.tup [v])) qD = some (.tup [v]) := upd_same
    generalize upd HC qD (.tup [v]) = HD at sD eD ⊢
    refine fun qE hqE => ?_
    have sE := same_upd (o := .dK []) hqE
    have eE : (upd HD qE (.dK [])) qE = some (.dK []) := upd_same
    generalize upd HD qE (.dK []) = HE at sE eE ⊢
    refine ⟨by simp [sizeLine_eq], fun qZ hqZ => ?_⟩
    have sZ := same_upd (o := .lst [.ref qA, .ref qC, .ref qD, .non, .ref qE, .str "back", .int 7]) hqZ
    have eZ : (upd HE qZ (.lst [.ref qA, .ref qC, .ref qD, .non, .ref qE, .str "back", .int 7])) qZ = some (.lst [.ref qA, .ref qC, .ref qD, .non, .ref qE, .str "back", .int 7]) := upd_same
    generalize upd HE qZ (.lst [.ref qA, .ref qC, .ref qD, .non, .ref qE, .str "back", .int 7]) = HZ at sZ eZ ⊢
    have kZ : Same HZ HZ := fun _ _ e => e
    have kE := sZ.trans kZ
    have kD := sE.trans kE
    have kC := sD.trans kD
    have kB := sC.trans kC
    have kA := sB.trans kB
    have k2 := sA.trans kA
    refine ⟨_, rfl, ps, 7, rfl, by decide, by decide, st.src.same k2, fun r3 H3 hr3 s3 => ?_⟩
    have fA := st.free hqA
    have fB := st.free (sA.free hqB)
    have fC := st.free (sA.free (sB.free hqC))
    have fD := st.free (sA.free (sB.free (sC.free hqD)))
    have fE := st.free (sA.free (sB.free (sC.free (sD.free hqE))))
    have fZ := st.free (sA.free (sB.free (sC.free (sD.free (sE.free hqZ)))))
    have all : ∀ H'', KeepsNew H H3 H'' → ∀ x ∈ ([.ref qA, .ref qC, .ref qD, .non, .ref qE, .str "back", .int 7] : List V), BadSeen K H'' x ∧ OddW K H'' 6 7000 x := fun H'' k => by
      have gA := k _ _ fA (s3.keep _ _ (nps fA) (kA _ _ eA))
      have gB := k _ _ fB (s3.keep _ _ (nps fB) (kB _ _ eB))
      have gC := k _ _ fC (s3.keep _ _ (nps fC) (kC _ _ eC))
      have gD := k _ _ fD (s3.keep _ _ (nps fD) (kD _ _ eD))
      have gE := k _ _ fE (s3.keep _ _ (nps fE) (kE _ _ eE))
      obtain ⟨hb, ho⟩ := hv H'' fun c o h1 h2 => k c o h1 (s3.keep _ _ (nps h1) (k2 _ _ h2))
      have go : SightAt H'' (.ref qB) 0 5 false := ⟨qB, rfl, gB, by decide⟩
      have oB : Odd K H'' (.ref qB) := ⟨.tuple [.int 0, .int 5, .str "back"], by decide +kernel, .tup (SqT.of gB) (.cons (.flat (.int _) rfl) (.cons (.flat (.int _) rfl) (.cons (.flat (.str _) rfl) .nil)))⟩
      intro x hx
      simp only [List.mem_cons, List.not_mem_nil, or_false] at hx
      rcases hx with rfl | rfl | rfl | rfl | rfl | rfl | rfl
      · refine ⟨.inr ⟨qA, [v], rfl, SqL.of gA, by simp, fun y hy => .inr ?_, v, by simp, hb⟩, (oddw_lst (n := 4) (m := 3000) (k := 3001) (SqL.of gA) (fun y hy => ?_) (by simp)).mono (by decide) (by decide)⟩
        · rw [List.mem_singleton.mp hy]
          exact hb
        · rw [List.mem_singleton.mp hy]
          exact ho.w
      · refine ⟨.inr ⟨qC, [.ref qB, v], rfl, SqL.of gC, by simp, fun y hy => ?_, v, by simp, hb⟩, (oddw_lst (n := 4) (m := 3000) (k := 6002) (SqL.of gC) (fun y hy => ?_) (by simp)).mono (by decide) (by decide)⟩
        · rcases List.mem_cons.mp hy with rfl | hy
          · exact .inl ⟨0, 5, false, go⟩
          · rw [List.mem_singleton.mp hy]
            exact .inr hb
        · rcases List.mem_cons.mp hy with rfl | hy
          · exact oB.w
          · rw [List.mem_singleton.mp hy]
            exact ho.w
      · refine ⟨.inl ⟨_, .base (.tup gD), by decide +kernel⟩, (oddw_tup (n := 4) (m := 3000) (k := 3001) (SqT.of gD) (fun y hy => ?_) (by simp)).mono (by decide) (by decide)⟩
        rw [List.mem_singleton.mp hy]
        exact ho.w
      · exact ⟨.inl ⟨_, .base .non, by decide +kernel⟩, odd_non.w.mono (by decide) (by decide)⟩
      · exact ⟨.inl ⟨_, .base (.dK gE), by decide +kernel⟩, (odd_dict gE).w.mono (by decide) (by decide)⟩
      · exact ⟨.inl ⟨_, .base (.str _), by decide +kernel⟩, (show Odd K H'' (.str "back") from ⟨.str "back", by decide +kernel, .flat (.str _) rfl⟩).w.mono (by decide) (by decide)⟩
      · exact ⟨.inl ⟨_, .base (.int _), by decide +kernel⟩, (odd_int (i := 7) (by decide)).w.mono (by decide) (by decide)⟩
    have hr7 : r3 < 7 := by omega
    obtain ⟨x, hx⟩ : ∃ x, ([.ref qA, .ref qC, .ref qD, .non, .ref qE, .str "back", .int 7] : List V)[r3]? = some x := ⟨_, List.getElem?_eq_getElem hr7⟩
    exact ⟨qZ, _, r3, x, rfl, rfl, SqL.of (s3.keep _ _ (nps fZ) eZ), atI_nat hx, c H3 x ((st.same k2).trans s3) fun H'' k => all H'' k x (List.mem_of_getElem? hx)⟩
end
/-! ### laws k31, k34: a row with none to two things put otherwise -/
theorem ixn24 {n k : Nat} (h : k < n) : ixN n (k : Int) = some k := by
  unfold ixN
  have h1 : (0 : Int) ≤ (k : Int) := Int.natCast_nonneg k
  simp [h1, h]
def mixL : List Bool → List V → List V → List V
  | b :: bs, o :: os, x :: xs => (if b then o else x) :: mixL bs os xs
  | _, _, _ => []
/-- the word of the first thing that is marked -/
def firstW : List Bool → List Str → Str
  | true :: _, w :: _ => w
  | false :: bs, _ :: ws => firstW bs ws
  | _, _ => "told"
theorem mix_len : ∀ {n : Nat} {bs : List Bool} {os xs : List V}, bs.length = n → os.length = n → xs.length = n → (mixL bs os xs).length = n
  | 0, [], [], [], _, _, _ => rfl
  | n + 1, b :: bs, o :: os, x :: xs, h1, h2, h3 => congrArg Nat.succ (mix_len (n := n) (Nat.succ.inj h1) (Nat.succ.inj h2) (Nat.succ.inj h3))
theorem mix_set : ∀ {n i : Nat} {bs : List Bool} {os xs : List V} {o : V}, bs.length = n → os.length = n → xs.length = n → os[i]? = some o → (mixL bs os xs).set i o = mixL (bs.set i true) os xs
  | n + 1, 0, b :: bs, o :: os, x :: xs, _, _, _, _, h => by
    cases h
    rfl
  | n + 1, i + 1, b :: bs, o :: os, x :: xs, _, h1, h2, h3, h => congrArg ((if b then o else x) :: ·) (mix_set (n := n) (Nat.succ.inj h1) (Nat.succ.inj h2) (Nat.succ.inj h3) h)
  | 0, i, [], [], [], _, _, _, _, h => by cases h
theorem mix_none : ∀ {os xs : List V}, os.length = xs.length → mixL (List.replicate xs.length false) os xs = xs
  | [], [], _ => rfl
  | o :: os, x :: xs, h => congrArg (x :: ·) (mix_none (Nat.succ.inj h))
theorem first_of : ∀ {bs : List Bool} {ns : List Str} {i : Nat} {w : Str}, bs[i]? = some true → ns[i]? = some w → (∀ j, j < i → bs[j]? = some false) → bs.length = ns.length → firstW bs ns = w
  | b :: bs, n :: ns, 0, w, h1, h2, _, _ => by
    cases h1
    cases h2
    rfl
  | b :: bs, n :: ns, i + 1, w, h1, h2, h3, hl => by
    have z := h3 0 (Nat.zero_lt_succ i)
    cases z
    exact first_of (bs := bs) (ns := ns) (i := i) h1 h2 (fun j hj => h3 (j + 1) (Nat.succ_lt_succ hj)) (Nat.succ.inj hl)
  | [], _, _, _, h1, _, _, _ => by cases h1
  | _ :: _, [], _, _, _, h2, _, _ => by cases h2
theorem first_none : ∀ {bs : List Bool} {ns : List Str}, (∀ j, j < bs.length → bs[j]? = some false) → firstW bs ns = "told"
  | [], _, _ => rfl
  | b :: bs, [], h => by
    have z := h 0 (Nat.zero_lt_succ _)
    cases z
    rfl
  | b :: bs, n :: ns, h => by
    have z := h 0 (Nat.zero_lt_succ _)
    cases z
    exact first_none (bs := bs) (ns := ns) fun j hj => h (j + 1) (Nat.succ_lt_succ hj)
/-- two rows of a number and a word, the lesser one first -/
theorem ms_two {α : Type} {le : α → α → Bool} (x y : α) : [x, y].mergeSort le = if le x y = true then [x, y] else [y, x] := by
  simp [List.mergeSort, List.MergeSort.Internal.splitInTwo, List.merge]
def rowW (l : Nat) (w : Str) : PyData := .tuple [.int (l : Nat), .str w]
theorem row_le {a b : Nat} {u v : Str} (h : a < b) : PySem.W.dataLt (rowW a u) (rowW b v) = true ∧ PySem.W.dataLt (rowW b v) (rowW a u) = false := by
  unfold rowW
  rw [PySem.W.dataLt_pair rfl rfl, PySem.W.dataLt_pair rfl rfl]
  have e1 : PyData.eqv (.int (a : Nat)) (.int (b : Nat)) = false := by
    show decide (((a : Nat) : Int) = ((b : Nat) : Int)) = false
    exact decide_eq_false (by omega)
  have e2 : PyData.eqv (.int (b : Nat)) (.int (a : Nat)) = false := by
    show decide (((b : Nat) : Int) = ((a : Nat) : Int)) = false
    exact decide_eq_false (by omega)
  rw [e1, e2, if_neg Bool.false_ne_true, if_neg Bool.false_ne_true, PySem.W.dataLt_int, PySem.W.dataLt_int]
  exact ⟨decide_eq_true (by omega), decide_eq_false (by omega)⟩
/-- the rows as data, and the least of them -/
theorem spoilt_rows {K : PySem.W.Frag} {L : List Nat} {ts : List Addr} {nms : List Str} {H : Hp} (ht : ts.length = L.length) (h2 : L.length ≤ 2) (hts : ∀ (j : Nat) (t : Addr), ts[j]? = some t → ∃ (l : Nat) (w : Str), L[j]? = some l ∧ nms[l]? = some w ∧ H t = some (.tup [.int (l : Nat), .str w])) :
    ∃ zs : List (V × PyData), zs.map (·.1) = ts.map V.ref ∧ (∀ z ∈ zs, Dp K H z.1 z.2) ∧ PySem.W.AllAlike (zs.map (·.2)) ∧ PySem.W.Sortable (zs.map (·.2)) ∧ (∀ z ∈ zs, z.2.depth ≤ 50) ∧
      ((L = [] ∧ zs.mergeSort (PySem.W.dataLe false (·.2)) = []) ∨ ∃ (t : Addr) (l : Nat) (w : Str) (r : List V), (zs.mergeSort (PySem.W.dataLe false (·.2))).map (·.1) = .ref t :: r ∧ r.length ≤ 1 ∧ H t = some (.tup [.int (l : Nat), .str w]) ∧ l ∈ L ∧ nms[l]? = some w ∧ ∀ j ∈ L, l ≤ j) := by
  have al : ∀ a b u v, PySem.W.alike (rowW a u) (rowW b v) = true := fun a b u v => rfl
  have dep : ∀ a u, (rowW a u).depth ≤ 50 := fun a u => by
    show max 0 (max 0 0) + 1 ≤ 50
    decide
  match L, ts, ht, h2, hts with
  | [], [], _, _, _ => exact ⟨[], rfl, fun z hz => (nomatch hz), fun z hz => (nomatch hz), .inl fun z hz => (nomatch hz), fun z hz => (nomatch hz), .inl ⟨rfl, by simp⟩⟩
  | [a], [t], _, _, hts =>
    obtain ⟨l, u, g1, g2, g3⟩ := hts 0 t rfl
    cases g1
    refine ⟨[(.ref t, rowW a u)], rfl, fun z hz => ?_, fun x hx y hy => ?_, .inl fun z hz => ?_, fun z hz => ?_, .inr ⟨t, a, u, [], by simp, by decide, g3, by simp, g2, fun j hj => by rw [List.mem_singleton.mp hj]; exact Nat.le_refl _⟩⟩
    · rw [List.mem_singleton.mp hz]
      exact .tup (SqT.of g3) (.cons (.int _) (.cons (.str _) .nil))
    · rw [List.mem_singleton.mp hx, List.mem_singleton.mp hy]
      exact al _ _ _ _
    · rw [List.mem_singleton.mp hz]
      exact ⟨_, _, rfl⟩
    · rw [List.mem_singleton.mp hz]
      exact dep _ _
  | [a, b], [t, s], _, _, hts =>
    obtain ⟨l, u, g1, g2, g3⟩ := hts 0 t rfl
    cases g1
    obtain ⟨l, v, k1, k2, k3⟩ := hts 1 s rfl
    cases k1
    refine ⟨[(.ref t, rowW a u), (.ref s, rowW b v)], rfl, fun z hz => ?_, fun x hx y hy => ?_, .inl fun z hz => ?_, fun z hz => ?_, .inr ?_⟩
    · rcases List.mem_cons.mp hz with rfl | hz
      · exact .tup (SqT.of g3) (.cons (.int _) (.cons (.str _) .nil))
      · rw [List.mem_singleton.mp hz]
        exact .tup (SqT.of k3) (.cons (.int _) (.cons (.str _) .nil))
    · have e : ∀ x ∈ [rowW a u, rowW b v], ∃ l w, x = rowW l w := fun x hx => by
        rcases List.mem_cons.mp hx with rfl | hx
        · exact ⟨_, _, rfl⟩
        · rw [List.mem_singleton.mp hx]
          exact ⟨_, _, rfl⟩
      obtain ⟨_, _, rfl⟩ := e x hx
      obtain ⟨_, _, rfl⟩ := e y hy
      exact al _ _ _ _
    · rcases List.mem_cons.mp hz with rfl | hz
      · exact ⟨_, _, rfl⟩
      · rw [List.mem_singleton.mp hz]
        exact ⟨_, _, rfl⟩
    · rcases List.mem_cons.mp hz with rfl | hz
      · exact dep _ _
      · rw [List.mem_singleton.mp hz]
        exact dep _ _
    · rw [ms_two]
      have de : PySem.W.dataLe false (fun z : V × PyData => z.2) (.ref t, rowW a u) (.ref s, rowW b v) = !PySem.W.dataLt (rowW b v) (rowW a u) := rfl
      rw [de]
      by_cases lt : b < a
      · rw [(row_le (u := v) (v := u) lt).1]
        exact ⟨s, b, v, [.ref t], rfl, by simp, k3, by simp, k2, fun j hj => by
          rcases List.mem_cons.mp hj with rfl | hj
          · omega
          · rw [List.mem_singleton.mp hj]
            exact Nat.le_refl _⟩
      · have key : ∃ x, (!PySem.W.dataLt (rowW b v) (rowW a u)) = x := ⟨_, rfl⟩
        obtain ⟨x, hx⟩ := key
        rw [hx]
        cases x with
        | true =>
          exact ⟨t, a, u, [.ref s], rfl, by simp, g3, by simp, g2, fun j hj => by
            rcases List.mem_cons.mp hj with rfl | hj
            · exact Nat.le_refl _
            · rw [List.mem_singleton.mp hj]
              omega⟩
        | false =>
          refine ⟨s, b, v, [.ref t], rfl, by simp, k3, by simp, k2, fun j hj => ?_⟩
          have e : a = b := by
            by_cases c : a < b
            · rw [(row_le (u := u) (v := v) c).2] at hx
              cases hx
            · omega
          rcases List.mem_cons.mp hj with rfl | hj
          · omega
          · rw [List.mem_singleton.mp hj]
            exact Nat.le_refl _
section
variable {P : Program} {w : World} {K : PySem.W.Frag} {mg : Str → Option Value} {base : Heap}
def spSpoilt (K : PySem.W.Frag) : Sp := fun vs H Q _ => ∃ (ps R O N : Addr) (xs os : List V) (nms : List Str), vs = [.ref ps, .ref R, .ref O, .ref N] ∧ SrcAt H ps ∧ SqL K H R xs ∧ SqL K H O os ∧ SqL K H N (nms.map V.str) ∧ os.length = xs.length ∧ nms.length = xs.length ∧ 1 ≤ xs.length ∧ xs.length ≤ 9 ∧ R ≠ ps ∧ O ≠ ps ∧ N ≠ ps ∧
  ∀ H' T F (bs : List Bool), Stp ps H H' → H T = none → H F = none → H' T = some (.tup [.ref F, .str (firstW bs nms)]) → H' F = some (.lst (mixL bs os xs)) → bs.length = xs.length → Q (.ref T) H'
theorem ok_spoilt {f : Addr} {fd : FuncData} (F : Fun K "_law_spoilt" "_law_spoilt" s__law_spoilt f fd) (T : Tx K mg) (h1 : Has P w K mg base 2 "_law_next" ["_law_source_here", "_law_most"] [] spNext) : FnOk P w K mg base CX0 3 f fd ["_law_source_here", "_law_row", "_law_odd", "_law_names"] (spSpoilt K) := by
  obtain ⟨f__law_next, fd__law_next, ds__law_next, G__law_next, m__law_next, k__law_next, b__law_next, v__law_next⟩ := h1
  refine F.ok sc__law_spoilt (fun vs H Q E h => ?_) (fun cdv A outer s H vs Q E hr h => ?_)
  · obtain ⟨ps, R, O, N, xs, os, nms, rfl, _⟩ := h
    rfl
  · obtain ⟨ps, R, O, N, xs, os, nms, rfl, hsrc, hR, hO, hN, lo, ln, l1, l9, nR, nO, nN, c⟩ := h
    refine ⟨_, (pss_cons (ps_set (i := 4) sc__law_spoilt.nd rfl (.inl rfl) (pe_callTy call_list_of (by rfl) T.b_list (by decide +kernel) (pa_cons (pv 1) pa_nil)))
      (pss_cons (ps_set (i := 5) sc__law_spoilt.nd rfl (.inl rfl) (pe_lst pa_nil))
      (pss_cons (ps_for PassesOwn.never rfl (pi_range1 (by rfl) T.b_range (pa_cons (pe_call G__law_next hr (by rfl) m__law_next k__law_next b__law_next v__law_next pass0 (pa_cons (pv 0) (pa_cons pe_int pa_nil))) pa_nil)) (pg_name (i := 6) sc__law_spoilt.nd rfl (.inl rfl))
        (pss_cons (ps_set (i := 7) sc__law_spoilt.nd rfl (.inl rfl) (pe_call G__law_next hr (by rfl) m__law_next k__law_next b__law_next v__law_next pass0 (pa_cons (pv 0) (pa_cons (pe_callB (lenK (K := K) rfl) (by rfl) T.b_len PySem.boot_len (pa_cons (pv 1) pa_nil)) pa_nil))))
        (pss_cons (ps_asg (pe_ix (ix_listK (K := K) rfl) (pv 2) (pv 7) (fun _ _ => rfl)) (pg_sub (pv 4) (pv 7) set_list))
        (pss_one (ps_expr (pe_bm PySem.F.plainAttrs_list PySem.F.slot_list_append PySem.F.type_list_append mt_append (pv 5) (pa_cons (pv 7) pa_nil)))))))
      (pss_one (ps_ret (pe_tup (pa_cons (pv 4) (pa_cons (pe_ix (ix_tupK (K := K) rfl) (pe_ix (ix_listK (K := K) rfl) (pe_op op_cat (pe_callB (sortDK (K := K) rfl hr.units) (by rfl) T.b_sorted (by decide +kernel) (pa_cons (pe_lc (own := [("_law_at", 7)]) (g := gName 7) (tt := tYes) rfl sc__law_spoilt.nd (pi_list (pv 5)) (blkOk_by (own := [("_law_at", 7)]) (N := N__law_spoilt) (sc := defScope s__law_spoilt) (by decide +kernel)) (fun _ _ _ _ _ => (pg_name (i := 7) sc__law_spoilt.nd rfl (.inl rfl))) (fun _ _ _ _ _ => pts_nil) (fun _ _ _ _ _ => (pe_tup (pa_cons (pv 7) (pa_cons (pe_ix (ix_listK (K := K) rfl) (pv 3) (pv 7) (fun _ _ => rfl)) pa_nil))))) pa_nil)) (pe_lst (pa_cons (pe_tup (pa_cons pe_int (pa_cons pe_str pa_nil))) pa_nil))) pe_int (fun _ _ => rfl)) pe_int (fun _ _ => rfl)) pa_nil)))))))), ?_⟩
    refine ⟨.ref R, rfl, R, xs, rfl, .inl hR, fun F hF => ?_⟩
    have sF := same_upd (o := .lst xs) hF
    have eF : (upd H F (.lst xs)) F = some (.lst xs) := upd_same
    generalize upd H F (.lst xs) = H1 at sF eF ⊢
    refine ⟨by simp [sizeLine_eq], fun B hB => ?_⟩
    have sB := same_upd (o := .lst []) hB
    have eB : (upd H1 B (.lst [])) B = some (.lst []) := upd_same
    generalize upd H1 B (.lst []) = H2 at sB eB ⊢
    have s02 := sF.trans sB
    have fB : H B = none := sF.free hB
    have nF : F ≠ ps := hsrc.ne hF
    have nB : B ≠ ps := hsrc.ne fB
    have nBF : B ≠ F := fun z => by
      rw [z, eF] at hB
      cases hB
    have st2 := hsrc.stp_same s02
    refine ⟨_, rfl, ps, 3, rfl, by decide, by decide, st2.src, fun r H3 hr3 s3 => ⟨(r : Nat), rfl, by omega, by omega, for_range (Pv := fun i σ H' => Stp ps H H' ∧ ∃ (L : List Nat) (bs : List Bool) (y6 y7 : Option V), L.length = i ∧ (∀ j ∈ L, j < xs.length) ∧ bs.length = xs.length ∧ (∀ j, j < xs.length → bs[j]? = some (decide (j ∈ L))) ∧ H' F = some (.lst (mixL bs os xs)) ∧ H' B = some (.lst (L.map fun j => V.int (j : Nat))) ∧ σ = [some (.ref ps), some (.ref R), some (.ref O), some (.ref N), some (.ref F), some (.ref B), y6, y7])
      ⟨st2.trans s3, [], List.replicate xs.length false, none, none, rfl, fun j hj => (nomatch hj), List.length_replicate, fun j hj => ?_, ?_, s3.keep _ _ nB eB, rfl⟩ ?_ ?_⟩⟩
    · rw [List.getElem?_replicate, if_pos hj]
      rfl
    · rw [mix_none lo]
      exact s3.keep _ _ nF (sB _ _ eF)
    · rintro i σ H' hi ⟨st, L, bs, y6, y7, hL, hLn, lb, hbs, eF', eB', rfl⟩
      refine ⟨_, rfl, .ref R, rfl, R, xs, rfl, .inl (st.seqL nR hR), ps, ((xs.length : Nat) : Int), rfl, by omega, by omega, st.src, fun at_ H4 hat s4 => ?_⟩
      have at9 : at_ < xs.length := by omega
      have st4 := st.trans s4
      have ho : os[at_]? = some os[at_] := List.getElem?_eq_getElem (by omega)
      have eF4 := s4.keep _ _ nF eF'
      have eB4 := s4.keep _ _ nB eB'
      refine ⟨.ref O, rfl, .int (at_ : Nat), rfl, O, os, (at_ : Nat), os[at_], rfl, rfl, st4.seqL nO hO, atI_nat ho, .ref F, rfl, .int (at_ : Nat), rfl, F, _, (at_ : Nat), at_, rfl, rfl, eF4, ixn24 (by rw [mix_len lb lo rfl]; exact at9), ?_⟩
      have eB5 : (upd H4 F (.lst ((mixL bs os xs).set at_ os[at_]))) B = some (.lst (L.map fun j => V.int (j : Nat))) := by
        rw [upd_ne nBF]
        exact eB4
      have nFB : F ≠ B := fun z => nBF z.symm
      refine ⟨.ref B, rfl, .inl ⟨rfl, _, SqL.of eB5⟩, .int (at_ : Nat), rfl, B, _, _, rfl, rfl, eB5, ?_, ⟨fun b o n e => ?_, ?_⟩, L ++ [at_], bs.set at_ true, _, _, ?_, fun j hj => ?_, ?_, fun j hj => ?_, ?_, ?_, rfl⟩
      · rw [List.length_map]
        exact sizeLine_ge (by omega)
      · rw [upd_ne (ne_of_none e fB), upd_ne (ne_of_none e hF)]
        exact st4.keep _ _ n e
      · obtain ⟨x, y, u, h⟩ := s4.src
        exact ⟨x, y, u, by rw [upd_ne nB.symm, upd_ne nF.symm]; exact h⟩
      · rw [List.length_append, hL]
        rfl
      · rcases List.mem_append.mp hj with hj | hj
        · exact hLn j hj
        · rw [List.mem_singleton.mp hj]
          exact at9
      · rw [List.length_set]
        exact lb
      · by_cases e : at_ = j
        · subst e
          rw [List.getElem?_set_self (by omega), decide_eq_true (List.mem_append.mpr (.inr (List.mem_singleton.mpr rfl)))]
        · rw [List.getElem?_set_ne e, hbs j hj]
          congr 1
          by_cases m : j ∈ L
          · rw [decide_eq_true m, decide_eq_true (List.mem_append.mpr (.inl m))]
          · rw [decide_eq_false m, decide_eq_false fun z => by
              rcases List.mem_append.mp z with z | z
              · exact m z
              · exact e (List.mem_singleton.mp z).symm]
      · rw [upd_ne nFB, upd_same, mix_set lb lo rfl ho]
      · rw [upd_same, List.map_append]
        rfl
    · rintro σ H' ⟨st, L, bs, y6, y7, hL, hLn, lb, hbs, eF', eB', rfl⟩
      have hL2 : L.length ≤ 2 := by omega
      have hN' := st.seqL nN hN
      -- the rows of what is marked
      refine ⟨.ref F, rfl, ?_⟩
      refine ⟨_, rfl, B, rfl, ⟨_, SqL.of eB'⟩, fun D hD => lc_list (K := K) (a := B) (xs := L.map fun j => V.int (j : Nat)) (fun i G => Same H' G ∧ ∃ (ts : List Addr), ts.length = i ∧ G D = some (.lst (ts.map V.ref)) ∧ ∀ (j : Nat) (t : Addr), ts[j]? = some t → ∃ (l : Nat) (w : Str), L[j]? = some l ∧ nms[l]? = some w ∧ G t = some (.tup [.int (l : Nat), .str w]))
        ⟨same_upd hD, [], rfl, upd_same, fun j t h => by simp at h⟩ (fun i G _ ⟨sm, _⟩ => SqL.of (sm _ _ eB')) ?_ ?_⟩
      · rintro i x G hx ⟨sm, ts, ht, eD, hts⟩
        obtain ⟨l, hl, rfl⟩ : ∃ l, L[i]? = some l ∧ x = .int (l : Nat) := by
          rw [List.getElem?_map] at hx
          obtain ⟨y, h1, h2⟩ := Option.map_eq_some_iff.mp hx
          exact ⟨y, h1, h2.symm⟩
        have hln := hLn l (List.mem_of_getElem? hl)
        have hw : nms[l]? = some nms[l] := List.getElem?_eq_getElem (by omega)
        refine ⟨rfl, yesT (iteT ⟨.int (l : Nat), rfl, .ref N, rfl, .int (l : Nat), rfl, N, _, (l : Nat), .str nms[l], rfl, rfl, sm.seq hN', atI_nat (by rw [List.getElem?_map, hw]; rfl), by simp [sizeLine_eq], fun t htn => ?_⟩)⟩
        have s3 := same_upd (o := .tup [.int (l : Nat), .str nms[l]]) htn
        have et : (upd G t (.tup [.int (l : Nat), .str nms[l]])) t = some (.tup [.int (l : Nat), .str nms[l]]) := upd_same
        generalize upd G t (.tup [.int (l : Nat), .str nms[l]]) = G3 at s3 et ⊢
        have eD3 := s3 _ _ eD
        have ntD : ∀ {b : Addr} {ys : List V}, G3 b = some (.tup ys) → b ≠ D := fun e z => by
          rw [z, eD3] at e
          cases e
        refine ⟨_, eD3, ?_, fun b o e => ?_, ts ++ [t], ?_, ?_, fun j u hu => ?_⟩
        · rw [List.length_map, ht]
          have := (List.getElem?_eq_some_iff.mp hl).1
          exact sizeLine_ge (by omega)
        · rw [upd_ne (ne_of_none e hD)]
          exact s3 _ _ (sm _ _ e)
        · rw [List.length_append, ht]
          rfl
        · rw [upd_same, List.map_append]
          rfl
        · by_cases hj : j < ts.length
          · rw [List.getElem?_append_left hj] at hu
            obtain ⟨l', w', g1, g2, g3⟩ := hts j u hu
            refine ⟨l', w', g1, g2, ?_⟩
            have z := s3 _ _ g3
            rw [upd_ne (ntD z)]
            exact z
          · have hj2 : j = ts.length := by
              have z := (List.getElem?_eq_some_iff.mp hu).1
              rw [List.length_append] at z
              simp at z
              omega
            subst hj2
            rw [List.getElem?_append_right (Nat.le_refl _), Nat.sub_self] at hu
            cases hu
            refine ⟨l, nms[l], by rw [ht]; exact hl, hw, ?_⟩
            rw [upd_ne (ntD et)]
            exact et
      rintro G ⟨sm, ts, ht, eD, hts⟩
      rw [List.length_map] at ht
      -- sorted: the least of them first
      obtain ⟨zs, z1, z2, z3⟩ := spoilt_rows (K := K) (L := L) (ts := ts) (nms := nms) (H := G) ht hL2 hts
      refine ⟨D, zs, rfl, by rw [z1]; exact SqL.of eD, z2, z3.1, z3.2.1, z3.2.2.1, fun S hS => ?_⟩
      have z4 := z3.2.2.2
      have zlen : (zs.mergeSort (PySem.W.dataLe false (·.2))).length ≤ 2 := by
        rw [List.length_mergeSort]
        have := congrArg List.length z1
        rw [List.length_map, List.length_map] at this
        omega
      generalize zs.mergeSort (PySem.W.dataLe false (·.2)) = sz at z4 zlen ⊢
      have sS := same_upd (o := .lst (sz.map (·.1))) hS
      have eS : (upd G S (.lst (sz.map (·.1)))) S = some (.lst (sz.map (·.1))) := upd_same
      generalize upd G S (.lst (sz.map (·.1))) = G1 at sS eS ⊢
      refine ⟨by simp [sizeLine_eq], fun t9 ht9 => ?_⟩
      have s9 := same_upd (o := .tup [.int 9, .str "told"]) ht9
      have e9 : (upd G1 t9 (.tup [.int 9, .str "told"])) t9 = some (.tup [.int 9, .str "told"]) := upd_same
      generalize upd G1 t9 (.tup [.int 9, .str "told"]) = G2 at s9 e9 ⊢
      refine ⟨by simp [sizeLine_eq], fun l hl => ?_⟩
      have sl := same_upd (o := .lst [.ref t9]) hl
      have el : (upd G2 l (.lst [.ref t9])) l = some (.lst [.ref t9]) := upd_same
      generalize upd G2 l (.lst [.ref t9]) = G3 at sl el ⊢
      refine ⟨S, l, _, _, rfl, rfl, sl _ _ (s9 _ _ eS), el, ?_, fun M hM => ?_⟩
      · rw [List.length_map]
        exact sizeLine_le (by show _ + 1 ≤ 1000000; omega)
      have sM := same_upd (o := .lst (sz.map (·.1) ++ [.ref t9])) hM
      have eM : (upd G3 M (.lst (sz.map (·.1) ++ [.ref t9]))) M = some (.lst (sz.map (·.1) ++ [.ref t9])) := upd_same
      generalize upd G3 M (.lst (sz.map (·.1) ++ [.ref t9])) = G4 at sM eM ⊢
      have s14 := ((sS.trans s9).trans sl).trans sM
      have st' := st.same (sm.trans s14)
      have eF4 := (sm.trans s14) _ _ eF'
      have fin : ∀ (TT : Addr) (wd : Str), G4 TT = none → wd = firstW bs nms → Q (.ref TT) (upd G4 TT (.tup [.ref F, .str wd])) := fun TT wd hT hw => by
        refine c _ TT F bs (st'.same (same_upd hT)) (st'.free hT) hF (by rw [upd_same, hw]) (same_upd hT _ _ eF4) lb
      rcases z4 with ⟨rfl, rfl⟩ | ⟨t, l0, w0, r, ez, hr, et, hl0, hw0, hmin⟩
      · refine ⟨M, _, 0, _, rfl, rfl, SqL.of eM, atI_nat (j := 0) rfl, t9, _, 1, _, rfl, rfl, .inl (.inl (sM _ _ (sl _ _ e9))), atI_nat (j := 1) rfl, by simp [sizeLine_eq], fun TT hTT => fin TT _ hTT (first_none fun j hj => ?_).symm⟩
        rw [hbs j (by omega)]
        rfl
      · rw [ez] at eM
        refine ⟨M, _, 0, _, rfl, rfl, SqL.of eM, atI_nat (j := 0) rfl, t, _, 1, _, rfl, rfl, .inl (.inl (s14 _ _ et)), atI_nat (j := 1) rfl, by simp [sizeLine_eq], fun TT hTT => fin TT _ hTT (first_of (i := l0) ?_ hw0 (fun j hj => ?_) (by rw [lb, ln])).symm⟩
        · rw [hbs l0 (hLn l0 hl0), decide_eq_true hl0]
        · rw [hbs j (by have := hLn l0 hl0; omega), decide_eq_false fun z => by have := hmin j z; omega]
end
/-! ### law k31: levels drawn; the verdicts -/
theorem pick31 {r : Nat} (h : r < 2) : ([.str "queue", .str "stack"] : List V)[r]? = some (lvV (decide (r = 1))) := by
  match r, h with
  | 0, _ => rfl
  | 1, _ => rfl
  | r + 2, h => omega
section
variable {P : Program} {w : World} {K : PySem.W.Frag} {mg : Str → Option Value} {base : Heap}
def spWords31 : Sp := fun vs H Q _ => ∃ (p : Addr), vs = [.ref p] ∧ SrcAt H p ∧ ∀ H' q (ws : List Bool), Stp p H H' → H q = none → H' q = some (.lst (ws.map lvV)) → ws ≠ [] → ws.length ≤ 9 → Q (.ref q) H'
theorem ok_words31 {f : Addr} {fd : FuncData} (F : Fun K "_law_words_of" "_law_words_of" s__law_words_of f fd) (T : Tx K mg) (h1 : Has P w K mg base 2 "_law_next" ["_law_source_here", "_law_most"] [] spNext) : FnOk P w K mg base CX0 3 f fd ["_law_source_here"] spWords31 := by
  obtain ⟨f__law_next, fd__law_next, ds__law_next, G__law_next, m__law_next, k__law_next, b__law_next, v__law_next⟩ := h1
  refine F.ok sc__law_words_of (fun vs H Q E h => ?_) (fun cdv A outer s H vs Q E hr h => ?_)
  · obtain ⟨p, rfl, _⟩ := h
    rfl
  · obtain ⟨p, rfl, hs, c⟩ := h
    refine ⟨_, (pss_one (ps_ret (pe_lc (own := [("_law_at", 1)]) (g := gName 1) (tt := tYes) rfl sc__law_words_of.nd (pi_range1 (by rfl) T.b_range (pa_cons (pe_op op_add pe_int (pe_call G__law_next hr (by rfl) m__law_next k__law_next b__law_next v__law_next pass0 (pa_cons (pv 0) (pa_cons pe_int pa_nil)))) pa_nil)) (blkOk_by (own := [("_law_at", 1)]) (N := N__law_words_of) (sc := defScope s__law_words_of) (by decide +kernel)) (fun _ _ _ _ _ => (pg_name (i := 1) sc__law_words_of.nd rfl (.inl rfl))) (fun _ _ _ _ _ => pts_nil) (fun _ _ _ _ _ => (pe_ix (ix_listK (K := K) rfl) (pe_lst (pa_cons pe_str (pa_cons pe_str pa_nil))) (pe_call G__law_next hr (by rfl) m__law_next k__law_next b__law_next v__law_next pass0 (pa_cons (pv 0) (pa_cons pe_int pa_nil))) (fun _ _ => rfl)))))), ?_⟩
    refine ⟨_, rfl, p, 9, rfl, by decide, by decide, hs, fun r H1 hr1 s1 => ⟨1, r, rfl, rfl, 1 + (r : Int), rfl, by omega, by omega, fun D hD => lc_range (lo := 0) (n := (1 + (r : Int)).toNat) (fun i H' => Stp p H1 H' ∧ ∃ ws : List Bool, ws.length = i ∧ H' D = some (.lst (ws.map lvV)))
      ⟨s1.src.stp_same (same_upd hD), [], rfl, upd_same⟩ ?_ ?_⟩⟩
    · rintro i H' hi ⟨st, ws, hw, eD⟩
      have hi : i < 9 := by omega
      have nDp : D ≠ p := s1.src.ne hD
      refine ⟨rfl, yesT (iteT ?_)⟩
      refine ⟨by simp [sizeLine_eq], fun l8 hl8 => ?_⟩
      have s8 : Stp p H' (upd H' l8 (.lst [.str "queue", .str "stack"])) := st.src.stp_same (same_upd hl8)
      refine ⟨_, rfl, p, 2, rfl, by decide, by decide, s8.src, fun r9 H9 hr9 s9 => ?_⟩
      have eL8 := s9.keep _ _ (st.src.ne hl8) upd_same
      have eD9 := s9.keep _ _ nDp (s8.keep _ _ nDp eD)
      refine ⟨l8, _, r9, _, rfl, rfl, SqL.of eL8, atI_nat (pick31 (by omega)), _, eD9, ?_, ⟨fun b o n e => ?_, ?_⟩, ws ++ [decide (r9 = 1)], ?_, ?_⟩
      · rw [List.length_map, hw]
        exact sizeLine_ge (by omega)
      · rw [upd_ne (ne_of_none e hD)]
        exact s9.keep _ _ n (s8.keep _ _ n (st.keep _ _ n e))
      · obtain ⟨x, y, z, h⟩ := s9.src
        exact ⟨x, y, z, by rw [upd_ne nDp.symm]; exact h⟩
      · rw [List.length_append, hw]
        rfl
      · rw [upd_same, List.map_append]
        rfl
    · rintro H6 ⟨s6, ws, hw, eD⟩
      have hw' : ws.length = 1 + r := by rw [hw]; omega
      refine c H6 D ws (s1.trans s6) (s1.free hD) eD (fun e => ?_) (by omega)
      rw [e] at hw'
      exact absurd hw' (by show ¬ 0 = 1 + r; omega)
end
def errW5 : Nat → Str
  | 0 => "base"
  | 1 => "levels"
  | 2 => "tick"
  | 3 => "order"
  | _ => "sighting"
/-- what is due of a row -/
def Item31 (K : PySem.W.Frag) (H : Hp) (i : Nat) (xs : List V) (w : Str) : Prop := (∃ e, e < 5 ∧ Bad31 K H i xs e ∧ w = errW5 e) ∨ (w = "told" ∧ ∃ D, Is31 K H i xs D)
theorem Item31.ext {K : PySem.W.Frag} {H H' : Hp} {i : Nat} {xs : List V} {w : Str} (s : LamX.ExtN H H') (h : Item31 K H i xs w) : Item31 K H' i xs w :=
  h.imp (fun ⟨e, he, hb, hw⟩ => ⟨e, he, hb.ext s, hw⟩) fun ⟨hw, D, hD⟩ => ⟨hw, D, hD.ext s⟩
theorem badtick_up {K : PySem.W.Frag} {H : Hp} {x : V} {n : Int} (hn : 0 ≤ n) (h : BadTick K H x 0) : BadTick K H x n := by
  rcases h with h | ⟨m, e, h⟩
  · exact .inl h
  · exact .inr ⟨m, e, by omega⟩
theorem pl_any (R : List (Nat × Bool)) : ∀ (ws : List (Option Bool)) (a : Nat), ∃ xs ok, Pl R a ws xs ok
  | [], a => ⟨[], true, .nil⟩
  | w :: ws, a => by
    rcases Classical.em (∃ i x f, R[i]? = some (x, f) ∧ a ≤ i ∧ some f = w) with h | h
    · obtain ⟨i0, h0⟩ := h
      obtain ⟨i, hle, ⟨x, f, h1, h2, h3⟩, hmin⟩ := st_least (p := fun i => ∃ x f, R[i]? = some (x, f) ∧ a ≤ i ∧ some f = w) i0 h0
      obtain ⟨xs, ok, hp⟩ := pl_any R ws i
      exact ⟨x :: xs, ok, .cons h1 h2 h3 (fun j r hj hji hr e => hmin j hji ⟨r.1, r.2, hr, hj, e⟩) hp⟩
    · exact ⟨[], false, .stop fun i r hi hr e => h ⟨i, r.1, r.2, hr, hi, e⟩⟩
theorem told_any (b1 : Nat) (w1 : List Bool) (b2 : Nat) (w2 : List Bool) : ∃ r, ToldP b1 w1 b2 w2 r := by
  rcases Classical.em (∃ d n, n < d ∧ Dif b1 w1 b2 w2 n d) with ⟨d0, h0⟩ | h
  · obtain ⟨d, _, hd, hdm⟩ := st_least (p := fun d => ∃ n, n < d ∧ Dif b1 w1 b2 w2 n d) d0 h0
    obtain ⟨n0, h1⟩ := hd
    obtain ⟨n, _, ⟨hn, hdif⟩, hnm⟩ := st_least (p := fun n => n < d ∧ Dif b1 w1 b2 w2 n d) n0 h1
    refine ⟨some (d, n), hn, hdif, fun m e hme hx => ?_⟩
    rcases Nat.lt_trichotomy e d with c | c | c
    · exact absurd ⟨m, hme, hx⟩ (hdm e c)
    · subst c
      refine .inr ⟨rfl, ?_⟩
      rcases Nat.lt_or_ge m n with u | u
      · exact absurd ⟨hme, hx⟩ (hnm m u)
      · exact u
    · exact .inl c
  · exact ⟨none, fun n d hnd hx => h ⟨d, n, hnd, hx⟩⟩
theorem verd_set {K : PySem.W.Frag} {H : Hp} {b n d : Nat} {ql O : Addr} {ws : List Bool} {o : List Nat} {o0 o1 o2 o3 o4 : V} {bs : List Bool} (hb2 : 2 ≤ b) (hb64 : b ≤ 64) (hL : SqL K H ql (ws.map lvV)) (hne : ws ≠ []) (h60 : ws.length ≤ 60) (hnd : n < d) (hd : d < 2 ^ 250)
    (hO : SqL K H O (o.map fun x => V.int (x : Nat))) (ho : IsOrd o) (one : o ≠ []) (o60 : o.length ≤ 60) (q0 : BadBase K H o0) (q1 : BadLevels K H o1) (q2 : BadTick K H o2 0) (q3 : BadTick K H o3 ((n : Int) + 1)) (q4 : BadOrder K H o4) (lb : bs.length = 5) :
    Item31 K H 0 (mixL bs [o0, o1, o2, o3, o4] [.int (b : Nat), .ref ql, .int (n : Nat), .int (d : Nat), .ref O]) (firstW bs ["base", "levels", "tick", "tick", "order"]) := by
  have gb : GoodB (V.int (b : Nat)) := ⟨b, rfl, hb2, hb64⟩
  have gl : GoodL K H (V.ref ql) := ⟨ql, ws, rfl, hL, hne, h60⟩
  match bs, lb with
  | [true, b1, b2, b3, b4], _ => exact .inl ⟨0, by decide, .inl ⟨rfl, _, _, _, _, _, rfl, .inl ⟨rfl, q0⟩⟩, rfl⟩
  | [false, true, b2, b3, b4], _ => exact .inl ⟨1, by decide, .inl ⟨rfl, _, _, _, _, _, rfl, .inr ⟨gb, .inl ⟨rfl, q1⟩⟩⟩, rfl⟩
  | [false, false, true, b3, b4], _ => exact .inl ⟨2, by decide, .inl ⟨rfl, _, _, _, _, _, rfl, .inr ⟨gb, .inr ⟨gl, .inl ⟨rfl, q2⟩⟩⟩⟩, rfl⟩
  | [false, false, false, true, b4], _ => exact .inl ⟨2, by decide, .inl ⟨rfl, _, _, _, _, _, rfl, .inr ⟨gb, .inr ⟨gl, .inr ⟨n, rfl, .inl ⟨rfl, q3⟩⟩⟩⟩⟩, rfl⟩
  | [false, false, false, false, true], _ => exact .inl ⟨3, by decide, .inl ⟨rfl, _, _, _, _, _, rfl, .inr ⟨gb, .inr ⟨gl, .inr ⟨n, rfl, .inr ⟨d, rfl, hnd, rfl, q4⟩⟩⟩⟩⟩, rfl⟩
  | [false, false, false, false, false], _ =>
    obtain ⟨k, hk⟩ := lev_any hb2 hnd
    obtain ⟨xs, ok, hp⟩ := pl_any (tsOf ws (rowsOf b n d k)) (wantOf o) 0
    exact .inr ⟨rfl, _, .inl ⟨rfl, _, _, _, _, _, rfl, b, n, d, k, ql, O, ws, o, xs, ok, rfl, rfl, rfl, rfl, rfl, hb2, hb64, hnd, hd, hL, hne, h60, hO, ho, one, o60, hk, hp, rfl⟩⟩
theorem verd_told {K : PySem.W.Frag} {H : Hp} {b1 b2 : Nat} {l1 l2 : Addr} {w1 w2 : List Bool} {o0 o1 o2 o3 : V} {bs : List Bool} (hb2 : 2 ≤ b1) (hb64 : b1 ≤ 64) (hc2 : 2 ≤ b2) (hc64 : b2 ≤ 64) (hL1 : SqL K H l1 (w1.map lvV)) (n1 : w1 ≠ []) (k1 : w1.length ≤ 40) (hL2 : SqL K H l2 (w2.map lvV)) (n2 : w2 ≠ []) (k2 : w2.length ≤ 40)
    (q0 : BadBase K H o0) (q1 : BadLevels K H o1) (q2 : BadBase K H o2) (q3 : BadLevels K H o3) (lb : bs.length = 4) :
    Item31 K H 1 (mixL bs [o0, o1, o2, o3] [.int (b1 : Nat), .ref l1, .int (b2 : Nat), .ref l2]) (firstW bs ["base", "levels", "base", "levels"]) := by
  have gb : GoodB (V.int (b1 : Nat)) := ⟨b1, rfl, hb2, hb64⟩
  have gl : GoodL K H (V.ref l1) := ⟨l1, w1, rfl, hL1, n1, by omega⟩
  have gb2 : GoodB (V.int (b2 : Nat)) := ⟨b2, rfl, hc2, hc64⟩
  match bs, lb with
  | [true, _, _, _], _ => exact .inl ⟨0, by decide, .inr (.inl ⟨rfl, _, _, _, _, rfl, .inl ⟨rfl, q0⟩⟩), rfl⟩
  | [false, true, _, _], _ => exact .inl ⟨1, by decide, .inr (.inl ⟨rfl, _, _, _, _, rfl, .inr ⟨gb, .inl ⟨rfl, q1⟩⟩⟩), rfl⟩
  | [false, false, true, _], _ => exact .inl ⟨0, by decide, .inr (.inl ⟨rfl, _, _, _, _, rfl, .inr ⟨gb, .inr ⟨gl, .inl ⟨rfl, q2⟩⟩⟩⟩), rfl⟩
  | [false, false, false, true], _ => exact .inl ⟨1, by decide, .inr (.inl ⟨rfl, _, _, _, _, rfl, .inr ⟨gb, .inr ⟨gl, .inr ⟨gb2, rfl, q3⟩⟩⟩⟩), rfl⟩
  | [false, false, false, false], _ =>
    obtain ⟨r, hr⟩ := told_any b1 w1 b2 w2
    exact .inr ⟨rfl, _, .inr (.inl ⟨rfl, _, _, _, _, rfl, b1, b2, l1, l2, w1, w2, r, rfl, rfl, rfl, rfl, hb2, hb64, hc2, hc64, k1, k2, hL1, hL2, n1, n2, hr, rfl⟩)⟩
theorem verd_seen {K : PySem.W.Frag} {H : Hp} {b many : Nat} {S : Addr} {ts : List Addr} {ss : List (Nat × Nat × Bool)} {o0 o1 o2 : V} {bs : List Bool} (hb2 : 2 ≤ b) (hb64 : b ≤ 64) (hm1 : 1 ≤ many) (hm60 : many ≤ 60) (hS : SqL K H S (ts.map V.ref)) (hss : SightsAt H ts ss) (l : ss.length ≤ 100) (hbig : ∀ s ∈ ss, s.2.1 < 2 ^ 250)
    (q0 : BadBase K H o0) (q1 : BadLength K H o1) (q2 : BadSeen K H o2) (lb : bs.length = 3) : Item31 K H 2 (mixL bs [o0, o1, o2] [.int (b : Nat), .int (many : Nat), .ref S]) (firstW bs ["base", "levels", "sighting"]) := by
  have gb : GoodB (V.int (b : Nat)) := ⟨b, rfl, hb2, hb64⟩
  match bs, lb with
  | [true, _, _], _ => exact .inl ⟨0, by decide, .inr (.inr ⟨rfl, _, _, _, rfl, .inl ⟨rfl, q0⟩⟩), rfl⟩
  | [false, true, _], _ => exact .inl ⟨1, by decide, .inr (.inr ⟨rfl, _, _, _, rfl, .inr ⟨gb, .inl ⟨rfl, q1⟩⟩⟩), rfl⟩
  | [false, false, true], _ => exact .inl ⟨4, by decide, .inr (.inr ⟨rfl, _, _, _, rfl, .inr ⟨gb, .inr ⟨many, rfl, hm1, hm60, rfl, q2⟩⟩⟩), rfl⟩
  | [false, false, false], _ => exact .inr ⟨rfl, _, .inr (.inr ⟨rfl, _, _, _, rfl, b, many, S, ts, ss, rfl, rfl, rfl, hb2, hb64, hm1, hm60, hS, hss, l, hbig, rfl⟩)⟩
/-! ### law k31: the arguments of the three functions -/
def Rows31At (K : PySem.W.Frag) (H : Hp) (M : Addr) : Prop := ∃ (Ts Fs : List Addr) (wds : List Str) (xss : List (List V)), H M = some (.lst (Ts.map V.ref)) ∧ Ts.length = 3 ∧ ∀ (i : Nat) (T : Addr), Ts[i]? = some T → ∃ (F : Addr) (w : Str) (xs : List V), H T = some (.tup [.ref F, .str w]) ∧ H F = some (.lst xs) ∧ Item31 K H i xs w ∧ xs.length ≤ 5 ∧ ∀ x ∈ xs, OddW K H 6 7000 x
theorem mix_all31 {Pr : V → Prop} : ∀ {bs : List Bool} {os xs : List V}, (∀ o ∈ os, Pr o) → (∀ x ∈ xs, Pr x) → ∀ y ∈ mixL bs os xs, Pr y
  | b :: bs, o :: os, x :: xs, h1, h2, y, hy => by
    rcases List.mem_cons.mp hy with rfl | hy
    · cases b with
      | true => exact h1 o List.mem_cons_self
      | false => exact h2 x List.mem_cons_self
    · exact mix_all31 (bs := bs) (fun o h => h1 o (List.mem_cons_of_mem _ h)) (fun x h => h2 x (List.mem_cons_of_mem _ h)) y hy
  | [], _, _, _, _, y, hy => by cases hy
  | _ :: _, [], _, _, _, y, hy => by cases hy
  | _ :: _, _ :: _, [], _, _, y, hy => by cases hy
theorem ord31 {o : List Nat} (h : ((decide o.Nodup && ((List.range 10).all fun x => decide (x ∈ o) == decide (x < o.length))) && decide (o.length ≤ 10)) && (o.all fun x => decide (x < 10)) = true) : IsOrd o := by
  simp only [Bool.and_eq_true, decide_eq_true_eq] at h
  obtain ⟨⟨⟨h1, h2⟩, h3⟩, h4⟩ := h
  refine ⟨h1, fun x => ?_⟩
  by_cases c : x < 10
  · have z := beq_iff_eq.mp (List.all_eq_true.mp h2 x (List.mem_range.mpr c))
    exact ⟨fun hx => of_decide_eq_true (z ▸ decide_eq_true hx), fun hx => of_decide_eq_true (z.symm ▸ decide_eq_true hx)⟩
  · exact ⟨fun hx => absurd (of_decide_eq_true (List.all_eq_true.mp h4 x hx)) c, fun hx => by omega⟩
theorem mix_len31 : ∀ {bs : List Bool} {os xs : List V} {n : Nat}, bs.length = n → n ≤ 5 → (mixL bs os xs).length ≤ 5 := by
  have key : ∀ (bs : List Bool) (os xs : List V), (mixL bs os xs).length ≤ bs.length := by
    intro bs
    induction bs with
    | nil => exact fun os xs => Nat.le_refl _
    | cons b bs ih =>
      intro os xs
      cases os with
      | nil => exact Nat.zero_le _
      | cons o os =>
        cases xs with
        | nil => exact Nat.zero_le _
        | cons x xs => exact Nat.succ_le_succ (ih os xs)
  intro bs os xs n h l
  have := key bs os xs
  omega
theorem cut31 {r : Nat} {a c : Addr} (h : r < 3) : cutV [V.ref a, .ref c] none (some ((r : Nat) : Int)) = ([a, c].take r).map V.ref := by
  match r, h with
  | 0, _ => rfl
  | 1, _ => rfl
  | 2, _ => rfl
  | r + 3, h => omega
section
variable {P : Program} {w : World} {K : PySem.W.Frag} {mg : Str → Option Value} {base : Heap}
def spRows31 (K : PySem.W.Frag) : Sp := fun vs H Q _ => ∃ ps : Addr, vs = [.ref ps] ∧ SrcAt H ps ∧ ∀ H' M, Stp ps H H' → Rows31At K H' M → Q (.ref M) H'
set_option maxHeartbeats 40000000 in
theorem ok_rows31 {f : Addr} {fd : FuncData} (F : Fun K "_law_rows" "_law_rows" s__law_rows f fd) (T : Tx K mg) (h2 : Has P w K mg base 2 "_law_next" ["_law_source_here", "_law_most"] [] spNext) (h3 : Has P w K mg base 3 "_law_base" ["_law_source_here"] [] spBase) (h4 : Has P w K mg base 3 "_law_words_of" ["_law_source_here"] [] spWords31)
    (h5 : Has P w K mg base 3 "_law_bad_tick" ["_law_source_here"] [] (spBad24 K fun H x => BadTick K H x 0)) (h6 : Has P w K mg base 3 "_law_bad_base" ["_law_source_here"] [] (spBad24 K fun H x => BadBase K H x)) (h7 : Has P w K mg base 3 "_law_bad_levels" ["_law_source_here"] [] (spBad24 K fun H x => BadLevels K H x))
    (h8 : Has P w K mg base 3 "_law_bad_order" ["_law_source_here"] [] (spBad24 K fun H x => BadOrder K H x)) (h9 : Has P w K mg base 3 "_law_bad_seen" ["_law_source_here"] [] (spBadSeen K)) (h10 : Has P w K mg base 3 "_law_spoilt" ["_law_source_here", "_law_row", "_law_odd", "_law_names"] [] (spSpoilt K)) :
    FnOk P w K mg base CX0 4 f fd ["_law_source_here"] (spRows31 K) := by
  obtain ⟨f__law_next, fd__law_next, ds__law_next, G__law_next, m__law_next, k__law_next, b__law_next, v__law_next⟩ := h2
  obtain ⟨f__law_base, fd__law_base, ds__law_base, G__law_base, m__law_base, k__law_base, b__law_base, v__law_base⟩ := h3
  obtain ⟨f__law_words_of, fd__law_words_of, ds__law_words_of, G__law_words_of, m__law_words_of, k__law_words_of, b__law_words_of, v__law_words_of⟩ := h4
  obtain ⟨f__law_bad_tick, fd__law_bad_tick, ds__law_bad_tick, G__law_bad_tick, m__law_bad_tick, k__law_bad_tick, b__law_bad_tick, v__law_bad_tick⟩ := h5
  obtain ⟨f__law_bad_base, fd__law_bad_base, ds__law_bad_base, G__law_bad_base, m__law_bad_base, k__law_bad_base, b__law_bad_base, v__law_bad_base⟩ := h6
  obtain ⟨f__law_bad_levels, fd__law_bad_levels, ds__law_bad_levels, G__law_bad_levels, m__law_bad_levels, k__law_bad_levels, b__law_bad_levels, v__law_bad_levels⟩ := h7
  obtain ⟨f__law_bad_order, fd__law_bad_order, ds__law_bad_order, G__law_bad_order, m__law_bad_order, k__law_bad_order, b__law_bad_order, v__law_bad_order⟩ := h8
  obtain ⟨f__law_bad_seen, fd__law_bad_seen, ds__law_bad_seen, G__law_bad_seen, m__law_bad_seen, k__law_bad_seen, b__law_bad_seen, v__law_bad_seen⟩ := h9
  obtain ⟨f__law_spoilt, fd__law_spoilt, ds__law_spoilt, G__law_spoilt, m__law_spoilt, k__law_spoilt, b__law_spoilt, v__law_spoilt⟩ := h10
  refine F.ok sc__law_rows (fun vs H Q E h => ?_) (fun cdv A outer s H vs Q E hr h => ?_)
  · obtain ⟨ps, rfl, _⟩ := h
    rfl
  · obtain ⟨ps, rfl, hsrc, c⟩ := h
    refine ⟨_, (pss_cons (ps_par (i := 1) (j := 2) (by rfl) sc__law_rows.nd rfl rfl (by decide) rfl rfl (pa_cons (pe_call G__law_base hr (by rfl) m__law_base k__law_base b__law_base v__law_base pass0 (pa_cons (pv 0) pa_nil)) (pa_cons (pe_call G__law_words_of hr (by rfl) m__law_words_of k__law_words_of b__law_words_of v__law_words_of pass0 (pa_cons (pv 0) pa_nil)) pa_nil)) (by rfl))
      (pss_cons (ps_set (i := 3) sc__law_rows.nd rfl (.inl rfl) (pe_call G__law_next (hr.mono (by decide)) (by rfl) m__law_next k__law_next b__law_next v__law_next pass0 (pa_cons (pv 0) (pa_cons pe_int pa_nil))))
      (pss_cons (ps_set (i := 4) sc__law_rows.nd rfl (.inl rfl) (pe_ix (ix_listK (K := K) rfl) (pe_lst (pa_cons (pe_lst (pa_cons pe_int pa_nil)) (pa_cons (pe_lst (pa_cons pe_int (pa_cons pe_int pa_nil))) (pa_cons (pe_lst (pa_cons pe_int (pa_cons pe_int (pa_cons pe_int pa_nil)))) (pa_cons (pe_lst (pa_cons pe_int (pa_cons pe_int (pa_cons pe_int pa_nil)))) pa_nil))))) (pe_call G__law_next (hr.mono (by decide)) (by rfl) m__law_next k__law_next b__law_next v__law_next pass0 (pa_cons (pv 0) (pa_cons pe_int pa_nil))) (fun _ _ => rfl)))
      (pss_cons (ps_set (i := 5) sc__law_rows.nd rfl (.inl rfl) (pe_lst (pa_cons (pv 1) (pa_cons (pv 2) (pa_cons (pv 3) (pa_cons (pe_op op_addN (pe_op op_addN (pv 3) pe_int) (pe_call G__law_next (hr.mono (by decide)) (by rfl) m__law_next k__law_next b__law_next v__law_next pass0 (pa_cons (pv 0) (pa_cons pe_int pa_nil)))) (pa_cons (pv 4) pa_nil)))))))
      (pss_cons (ps_set (i := 6) sc__law_rows.nd rfl (.inl rfl) (pe_ix (ix_listK (K := K) rfl) (pe_lst (pa_cons (pv 3) (pa_cons pe_int (pa_cons (pe_call G__law_bad_tick hr (by rfl) m__law_bad_tick k__law_bad_tick b__law_bad_tick v__law_bad_tick pass0 (pa_cons (pv 0) pa_nil)) pa_nil)))) (pe_call G__law_next (hr.mono (by decide)) (by rfl) m__law_next k__law_next b__law_next v__law_next pass0 (pa_cons (pv 0) (pa_cons pe_int pa_nil))) (fun _ _ => rfl)))
      (pss_cons (ps_set (i := 7) sc__law_rows.nd rfl (.inl rfl) (pe_lst (pa_cons (pe_call G__law_bad_base hr (by rfl) m__law_bad_base k__law_bad_base b__law_bad_base v__law_bad_base pass0 (pa_cons (pv 0) pa_nil)) (pa_cons (pe_call G__law_bad_levels hr (by rfl) m__law_bad_levels k__law_bad_levels b__law_bad_levels v__law_bad_levels pass0 (pa_cons (pv 0) pa_nil)) (pa_cons (pe_call G__law_bad_tick hr (by rfl) m__law_bad_tick k__law_bad_tick b__law_bad_tick v__law_bad_tick pass0 (pa_cons (pv 0) pa_nil)) (pa_cons (pv 6) (pa_cons (pe_call G__law_bad_order hr (by rfl) m__law_bad_order k__law_bad_order b__law_bad_order v__law_bad_order pass0 (pa_cons (pv 0) pa_nil)) pa_nil)))))))
      (pss_cons (ps_set (i := 8) sc__law_rows.nd rfl (.inl rfl) (pe_lst (pa_cons (pe_call G__law_spoilt hr (by rfl) m__law_spoilt k__law_spoilt b__law_spoilt v__law_spoilt pass0 (pa_cons (pv 0) (pa_cons (pv 5) (pa_cons (pv 7) (pa_cons (pe_lst (pa_cons pe_str (pa_cons pe_str (pa_cons pe_str (pa_cons pe_str (pa_cons pe_str pa_nil)))))) pa_nil))))) pa_nil)))
      (pss_cons (ps_set (i := 5) sc__law_rows.nd rfl (.inl rfl) (pe_lst (pa_cons (pv 1) (pa_cons (pv 2) (pa_cons (pe_call G__law_base hr (by rfl) m__law_base k__law_base b__law_base v__law_base pass0 (pa_cons (pv 0) pa_nil)) (pa_cons (pe_call G__law_words_of hr (by rfl) m__law_words_of k__law_words_of b__law_words_of v__law_words_of pass0 (pa_cons (pv 0) pa_nil)) pa_nil))))))
      (pss_cons (ps_set (i := 7) sc__law_rows.nd rfl (.inl rfl) (pe_lst (pa_cons (pe_call G__law_bad_base hr (by rfl) m__law_bad_base k__law_bad_base b__law_bad_base v__law_bad_base pass0 (pa_cons (pv 0) pa_nil)) (pa_cons (pe_call G__law_bad_levels hr (by rfl) m__law_bad_levels k__law_bad_levels b__law_bad_levels v__law_bad_levels pass0 (pa_cons (pv 0) pa_nil)) (pa_cons (pe_call G__law_bad_base hr (by rfl) m__law_bad_base k__law_bad_base b__law_bad_base v__law_bad_base pass0 (pa_cons (pv 0) pa_nil)) (pa_cons (pe_call G__law_bad_levels hr (by rfl) m__law_bad_levels k__law_bad_levels b__law_bad_levels v__law_bad_levels pass0 (pa_cons (pv 0) pa_nil)) pa_nil))))))
      (pss_cons (ps_expr (pe_bm PySem.F.plainAttrs_list PySem.F.slot_list_append PySem.F.type_list_append mt_append (pv 8) (pa_cons (pe_call G__law_spoilt hr (by rfl) m__law_spoilt k__law_spoilt b__law_spoilt v__law_spoilt pass0 (pa_cons (pv 0) (pa_cons (pv 5) (pa_cons (pv 7) (pa_cons (pe_lst (pa_cons pe_str (pa_cons pe_str (pa_cons pe_str (pa_cons pe_str pa_nil))))) pa_nil))))) pa_nil)))
      (pss_cons (ps_set (i := 5) sc__law_rows.nd rfl (.inl rfl) (pe_lst (pa_cons (pv 1) (pa_cons (pe_op op_addN pe_int (pe_call G__law_next (hr.mono (by decide)) (by rfl) m__law_next k__law_next b__law_next v__law_next pass0 (pa_cons (pv 0) (pa_cons pe_int pa_nil)))) (pa_cons (pe_slice (sl_listK (K := K) rfl) (pe_lst (pa_cons (pe_tup (pa_cons pe_int (pa_cons pe_int (pa_cons pe_str pa_nil)))) (pa_cons (pe_tup (pa_cons pe_int (pa_cons pe_int (pa_cons pe_str pa_nil)))) pa_nil))) po_none (po_some (pe_call G__law_next (hr.mono (by decide)) (by rfl) m__law_next k__law_next b__law_next v__law_next pass0 (pa_cons (pv 0) (pa_cons pe_int pa_nil))))) pa_nil)))))
      (pss_cons (ps_set (i := 9) sc__law_rows.nd rfl (.inl rfl) (pe_ix (ix_listK (K := K) rfl) (pe_lst (pa_cons pe_int (pa_cons pe_int (pa_cons (pe_un un_neg pe_int) (pa_cons pe_bl (pa_cons pe_non (pa_cons pe_str (pa_cons (pe_lst (pa_cons pe_int pa_nil)) (pa_cons pe_dnewK (pa_cons (pe_op op_pow pe_int pe_int) pa_nil)))))))))) (pe_call G__law_next (hr.mono (by decide)) (by rfl) m__law_next k__law_next b__law_next v__law_next pass0 (pa_cons (pv 0) (pa_cons pe_int pa_nil))) (fun _ _ => rfl)))
      (pss_cons (ps_set (i := 7) sc__law_rows.nd rfl (.inl rfl) (pe_lst (pa_cons (pe_call G__law_bad_base hr (by rfl) m__law_bad_base k__law_bad_base b__law_bad_base v__law_bad_base pass0 (pa_cons (pv 0) pa_nil)) (pa_cons (pv 9) (pa_cons (pe_call G__law_bad_seen hr (by rfl) m__law_bad_seen k__law_bad_seen b__law_bad_seen v__law_bad_seen pass0 (pa_cons (pv 0) pa_nil)) pa_nil)))))
      (pss_one (ps_ret (pe_op op_cat (pv 8) (pe_lst (pa_cons (pe_call G__law_spoilt hr (by rfl) m__law_spoilt k__law_spoilt b__law_spoilt v__law_spoilt pass0 (pa_cons (pv 0) (pa_cons (pv 5) (pa_cons (pv 7) (pa_cons (pe_lst (pa_cons pe_str (pa_cons pe_str (pa_cons pe_str pa_nil)))) pa_nil))))) pa_nil)))))))))))))))))), ?_⟩
    refine ⟨_, rfl, ps, rfl, hsrc, fun b H1 hb2 hb64 s1 => ⟨_, rfl, ps, rfl, s1.src, fun H2 ql ws s2 hql0 hql hne h9 => ⟨_, _, rfl, ?_⟩⟩⟩
    have c1 := s1.src
    have nql : ql ≠ ps := c1.ne hql0
    have c2 := s2.src
    refine ⟨_, rfl, ps, 400, rfl, by decide, by decide, c2, fun n H3 hn s3 => ?_⟩
    have c3 := s3.src
    refine ⟨by simp [sizeLine_eq], fun qA hqA => ?_⟩
    have sA := same_upd (o := .lst [.int 0]) hqA
    have eA : (upd H3 qA (.lst [.int 0])) qA = some (.lst [.int 0]) := upd_same
    generalize upd H3 qA (.lst [.int 0]) = HA at sA eA ⊢
    have nA := c3.ne hqA
    have cA := c3.same sA
    refine ⟨by simp [sizeLine_eq], fun qB hqB => ?_⟩
    have sB := same_upd (o := .lst [.int 1, .int 0]) hqB
    have eB : (upd HA qB (.lst [.int 1, .int 0])) qB = some (.lst [.int 1, .int 0]) := upd_same
    generalize upd HA qB (.lst [.int 1, .int 0]) = HB at sB eB ⊢
    have nB := cA.ne hqB
    have cB := cA.same sB
    refine ⟨by simp [sizeLine_eq], fun qC hqC => ?_⟩
    have sC := same_upd (o := .lst [.int 0, .int 1, .int 2]) hqC
    have eC : (upd HB qC (.lst [.int 0, .int 1, .int 2])) qC = some (.lst [.int 0, .int 1, .int 2]) := upd_same
    generalize upd HB qC (.lst [.int 0, .int 1, .int 2]) = HC at sC eC ⊢
    have nC := cB.ne hqC
    have cC := cB.same sC
    refine ⟨by simp [sizeLine_eq], fun qD hqD => ?_⟩
    have sD := same_upd (o := .lst [.int 2, .int 0, .int 1]) hqD
    have eD : (upd HC qD (.lst [.int 2, .int 0, .int 1])) qD = some (.lst [.int 2, .int 0, .int 1]) := upd_same
    generalize upd HC qD (.lst [.int 2, .int 0, .int 1]) = HD at sD eD ⊢
    have nD := cC.ne hqD
    have cD := cC.same sD
    refine ⟨by simp [sizeLine_eq], fun qZ hqZ => ?_⟩
    have sZ := same_upd (o := .lst [.ref qA, .ref qB, .ref qC, .ref qD]) hqZ
    have eZ : (upd HD qZ (.lst [.ref qA, .ref qB, .ref qC, .ref qD])) qZ = some (.lst [.ref qA, .ref qB, .ref qC, .ref qD]) := upd_same
    generalize upd HD qZ (.lst [.ref qA, .ref qB, .ref qC, .ref qD]) = HZ at sZ eZ ⊢
    have nZ := cD.ne hqZ
    have cZ := cD.same sZ
    refine ⟨_, rfl, ps, 4, rfl, by decide, by decide, cZ, fun r4 H4 hr4 s4 => ?_⟩
    have c4 := s4.src
    obtain ⟨W, hW⟩ : ∃ W, ([.ref qA, .ref qB, .ref qC, .ref qD] : List V)[r4]? = some (.ref W) ∧ ((W = qA ∧ r4 = 0) ∨ (W = qB ∧ r4 = 1) ∨ (W = qC ∧ r4 = 2) ∨ (W = qD ∧ r4 = 3)) := by
      match r4, (show r4 < 4 by omega) with
      | 0, _ => exact ⟨qA, rfl, .inl ⟨rfl, rfl⟩⟩
      | 1, _ => exact ⟨qB, rfl, .inr (.inl ⟨rfl, rfl⟩)⟩
      | 2, _ => exact ⟨qC, rfl, .inr (.inr (.inl ⟨rfl, rfl⟩))⟩
      | 3, _ => exact ⟨qD, rfl, .inr (.inr (.inr ⟨rfl, rfl⟩))⟩
      | r + 4, h => omega
    refine ⟨qZ, _, r4, .ref W, rfl, rfl, SqL.of (s4.keep _ _ nZ eZ), atI_nat hW.1, ?_⟩
    refine ⟨_, rfl, _, rfl, _, rfl, _, rfl, n, 1, rfl, rfl, trivial, _, rfl, ps, 900, rfl, by decide, by decide, c4, fun r5 H5 hr5 s5 => ⟨n + 1, r5, rfl, rfl, trivial, _, rfl, ?_⟩⟩
    have c5 := s5.src
    refine ⟨by simp [sizeLine_eq], fun qR hqR => ?_⟩
    have sR := same_upd (o := .lst [.int (b : Nat), .ref ql, .int (n : Nat), .int ((n + 1 + r5 : Nat) : Int), .ref W]) hqR
    have eR : (upd H5 qR (.lst [.int (b : Nat), .ref ql, .int (n : Nat), .int ((n + 1 + r5 : Nat) : Int), .ref W])) qR = some (.lst [.int (b : Nat), .ref ql, .int (n : Nat), .int ((n + 1 + r5 : Nat) : Int), .ref W]) := upd_same
    generalize upd H5 qR (.lst [.int (b : Nat), .ref ql, .int (n : Nat), .int ((n + 1 + r5 : Nat) : Int), .ref W]) = HR at sR eR ⊢
    have nR := c5.ne hqR
    have cR := c5.same sR
    refine ⟨_, rfl, _, rfl, ps, rfl, cR, fun H6 t6 s6 hx6 => ?_⟩
    have c6 := s6.src
    refine ⟨by simp [sizeLine_eq], fun qLL hqLL => ?_⟩
    have sLL := same_upd (o := .lst [.int (n : Nat), .int 0, t6]) hqLL
    have eLL : (upd H6 qLL (.lst [.int (n : Nat), .int 0, t6])) qLL = some (.lst [.int (n : Nat), .int 0, t6]) := upd_same
    generalize upd H6 qLL (.lst [.int (n : Nat), .int 0, t6]) = HLL at sLL eLL ⊢
    have nLL := c6.ne hqLL
    have cLL := c6.same sLL
    refine ⟨_, rfl, ps, 3, rfl, by decide, by decide, cLL, fun r7 H7 hr7 s7 => ?_⟩
    have c7 := s7.src
    obtain ⟨o3, hl3, hl4⟩ : ∃ o3, ([.int (n : Nat), .int 0, t6] : List V)[r7]? = some o3 ∧ (o3 = .int (n : Nat) ∨ o3 = .int 0 ∨ o3 = t6) := by
      match r7, (show r7 < 3 by omega) with
      | 0, _ => exact ⟨_, rfl, .inl rfl⟩
      | 1, _ => exact ⟨_, rfl, .inr (.inl rfl)⟩
      | 2, _ => exact ⟨_, rfl, .inr (.inr rfl)⟩
      | r + 3, h => omega
    refine ⟨qLL, _, r7, o3, rfl, rfl, SqL.of (s7.keep _ _ nLL eLL), atI_nat hl3, ?_⟩
    refine ⟨_, rfl, ps, rfl, c7, fun H8 o0 s8 hx8 => ⟨_, rfl, ps, rfl, s8.src, fun H9 o1 s9 hx9 => ⟨_, rfl, ps, rfl, s9.src, fun H10 o2 s10 hx10 => ⟨_, rfl, _, rfl, ps, rfl, s10.src, fun H11 o4 s11 hx11 => ?_⟩⟩⟩⟩
    have c8 := s8.src
    have c9 := s9.src
    have c10 := s10.src
    have c11 := s11.src
    refine ⟨by simp [sizeLine_eq], fun qO hqO => ?_⟩
    have sO := same_upd (o := .lst [o0, o1, o2, o3, o4]) hqO
    have eO : (upd H11 qO (.lst [o0, o1, o2, o3, o4])) qO = some (.lst [o0, o1, o2, o3, o4]) := upd_same
    generalize upd H11 qO (.lst [o0, o1, o2, o3, o4]) = HO at sO eO ⊢
    have nO := c11.ne hqO
    have cO := c11.same sO
    refine ⟨_, rfl, _, rfl, _, rfl, ?_⟩
    refine ⟨by simp [sizeLine_eq], fun qNN hqNN => ?_⟩
    have sNN := same_upd (o := .lst [.str "base", .str "levels", .str "tick", .str "tick", .str "order"]) hqNN
    have eNN : (upd HO qNN (.lst [.str "base", .str "levels", .str "tick", .str "tick", .str "order"])) qNN = some (.lst [.str "base", .str "levels", .str "tick", .str "tick", .str "order"]) := upd_same
    generalize upd HO qNN (.lst [.str "base", .str "levels", .str "tick", .str "tick", .str "order"]) = HNN at sNN eNN ⊢
    have nNN := cO.ne hqNN
    have cNN := cO.same sNN
    refine ⟨ps, qR, qO, qNN, _, _, ["base", "levels", "tick", "tick", "order"], rfl, cNN, SqL.of (((((((((((Stp.refl cR).trans s6).same sLL).trans s7).trans s8).trans s9).trans s10).trans s11).same sO).same sNN).keep _ _ nR eR), SqL.of (sNN _ _ eO), SqL.of eNN, rfl, rfl, by simp, by simp, nR, nO, nNN, fun H12 T0 F0 bs0 s12 hT0 hF0 eT0 eF0 lb0 => ?_⟩
    have c12 := s12.src
    refine ⟨by simp [sizeLine_eq], fun qFD hqFD => ?_⟩
    have sFD := same_upd (o := .lst [.ref T0]) hqFD
    have eFD : (upd H12 qFD (.lst [.ref T0])) qFD = some (.lst [.ref T0]) := upd_same
    generalize upd H12 qFD (.lst [.ref T0]) = HFD at sFD eFD ⊢
    have nFD := c12.ne hqFD
    have cFD := c12.same sFD
    refine ⟨_, rfl, _, rfl, _, rfl, ps, rfl, cFD, fun b2 H13 hb22 hb264 s13 => ⟨_, rfl, ps, rfl, s13.src, fun H14 ql2 ws2 s14 hql20 hql2 hne2 h92 => ?_⟩⟩
    have c13 := s13.src
    have c14 := s14.src
    have nql2 : ql2 ≠ ps := c13.ne hql20
    refine ⟨by simp [sizeLine_eq], fun qRB hqRB => ?_⟩
    have sRB := same_upd (o := .lst [.int (b : Nat), .ref ql, .int (b2 : Nat), .ref ql2]) hqRB
    have eRB : (upd H14 qRB (.lst [.int (b : Nat), .ref ql, .int (b2 : Nat), .ref ql2])) qRB = some (.lst [.int (b : Nat), .ref ql, .int (b2 : Nat), .ref ql2]) := upd_same
    generalize upd H14 qRB (.lst [.int (b : Nat), .ref ql, .int (b2 : Nat), .ref ql2]) = HRB at sRB eRB ⊢
    have nRB := c14.ne hqRB
    have cRB := c14.same sRB
    refine ⟨_, rfl, ps, rfl, cRB, fun H15 p0 s15 hx15 => ⟨_, rfl, ps, rfl, s15.src, fun H16 p1 s16 hx16 => ⟨_, rfl, ps, rfl, s16.src, fun H17 p2 s17 hx17 => ⟨_, rfl, ps, rfl, s17.src, fun H18 p3 s18 hx18 => ?_⟩⟩⟩⟩
    have c15 := s15.src
    have c16 := s16.src
    have c17 := s17.src
    have c18 := s18.src
    refine ⟨by simp [sizeLine_eq], fun qOB hqOB => ?_⟩
    have sOB := same_upd (o := .lst [p0, p1, p2, p3]) hqOB
    have eOB : (upd H18 qOB (.lst [p0, p1, p2, p3])) qOB = some (.lst [p0, p1, p2, p3]) := upd_same
    generalize upd H18 qOB (.lst [p0, p1, p2, p3]) = HOB at sOB eOB ⊢
    have nOB := c18.ne hqOB
    have cOB := c18.same sOB
    have eFDo := (((((((((Stp.refl cFD).trans s13).trans s14).same sRB).trans s15).trans s16).trans s17).trans s18).same sOB).keep _ _ nFD eFD
    refine ⟨_, rfl, .inl ⟨rfl, _, SqL.of eFDo⟩, _, rfl, _, rfl, _, rfl, ?_⟩
    refine ⟨by simp [sizeLine_eq], fun qNB hqNB => ?_⟩
    have sNB := same_upd (o := .lst [.str "base", .str "levels", .str "base", .str "levels"]) hqNB
    have eNB : (upd HOB qNB (.lst [.str "base", .str "levels", .str "base", .str "levels"])) qNB = some (.lst [.str "base", .str "levels", .str "base", .str "levels"]) := upd_same
    generalize upd HOB qNB (.lst [.str "base", .str "levels", .str "base", .str "levels"]) = HNB at sNB eNB ⊢
    have nNB := cOB.ne hqNB
    have cNB := cOB.same sNB
    refine ⟨ps, qRB, qOB, qNB, _, _, ["base", "levels", "base", "levels"], rfl, cNB, SqL.of ((((((((Stp.refl cRB).trans s15).trans s16).trans s17).trans s18).same sOB).same sNB).keep _ _ nRB eRB), SqL.of (sNB _ _ eOB), SqL.of eNB, rfl, rfl, by simp, by simp, nRB, nOB, nNB, fun H19 T1 F1 bs1 s19 hT1 hF1 eT1 eF1 lb1 => ?_⟩
    have c19 := s19.src
    have eFD9 := s19.keep _ _ nFD (sNB _ _ eFDo)
    refine ⟨qFD, _, _, rfl, rfl, eFD9, by simp [sizeLine_eq], ?_⟩
    have kp : ∀ c o, c ≠ qFD → H19 c = some o → (upd H19 qFD (.lst ([.ref T0] ++ [.ref T1]))) c = some o := fun c o n e => by
      rw [upd_ne n]
      exact e
    have c20 : SrcAt (upd H19 qFD (.lst ([.ref T0] ++ [.ref T1]))) ps := by
      obtain ⟨x, y, z, e⟩ := c19
      exact ⟨x, y, z, kp _ _ (Ne.symm nFD) e⟩
    have eFD2 := upd_same (H := H19) (a := qFD) (o := .lst ([.ref T0] ++ [.ref T1]))
    generalize upd H19 qFD (.lst ([.ref T0] ++ [.ref T1])) = H20 at kp c20 eFD2 ⊢
    refine ⟨_, rfl, _, rfl, ps, 60, rfl, by decide, by decide, c20, fun r21 H21 hr21 s21 => ⟨1, r21, rfl, rfl, trivial, ?_⟩⟩
    have c21 := s21.src
    refine ⟨by simp [sizeLine_eq], fun qPA hqPA => ?_⟩
    have sPA := same_upd (o := .tup [.int 3, .int 40, .str "front"]) hqPA
    have ePA : (upd H21 qPA (.tup [.int 3, .int 40, .str "front"])) qPA = some (.tup [.int 3, .int 40, .str "front"]) := upd_same
    generalize upd H21 qPA (.tup [.int 3, .int 40, .str "front"]) = HPA at sPA ePA ⊢
    have nPA := c21.ne hqPA
    have cPA := c21.same sPA
    refine ⟨by simp [sizeLine_eq], fun qPB hqPB => ?_⟩
    have sPB := same_upd (o := .tup [.int 0, .int 5, .str "back"]) hqPB
    have ePB : (upd HPA qPB (.tup [.int 0, .int 5, .str "back"])) qPB = some (.tup [.int 0, .int 5, .str "back"]) := upd_same
    generalize upd HPA qPB (.tup [.int 0, .int 5, .str "back"]) = HPB at sPB ePB ⊢
    have nPB := cPA.ne hqPB
    have cPB := cPA.same sPB
    refine ⟨by simp [sizeLine_eq], fun qPL hqPL => ?_⟩
    have sPL := same_upd (o := .lst [.ref qPA, .ref qPB]) hqPL
    have ePL : (upd HPB qPL (.lst [.ref qPA, .ref qPB])) qPL = some (.lst [.ref qPA, .ref qPB]) := upd_same
    generalize upd HPB qPL (.lst [.ref qPA, .ref qPB]) = HPL at sPL ePL ⊢
    have nPL := cPB.ne hqPL
    have cPL := cPB.same sPL
    refine ⟨_, rfl, ps, 3, rfl, by decide, by decide, cPL, fun r22 H22 hr22 s22 => ⟨((r22 : Nat) : Int), rfl, qPL, _, rfl, SqL.of (s22.keep _ _ nPL ePL), fun S hS => ?_⟩⟩
    have c22 := s22.src
    have hr22 : r22 < 3 := by omega
    rw [cut31 hr22]
    have sSS := same_upd (o := .lst (([qPA, qPB].take r22).map V.ref)) hS
    have eSS := upd_same (H := H22) (a := S) (o := .lst (([qPA, qPB].take r22).map V.ref))
    generalize upd H22 S (.lst (([qPA, qPB].take r22).map V.ref)) = HSS at sSS eSS ⊢
    have cSS := c22.same sSS
    have nSS := c22.ne hS
    refine ⟨by simp [sizeLine_eq], fun qRC hqRC => ?_⟩
    have sRC := same_upd (o := .lst [.int (b : Nat), .int ((1 + r21 : Nat) : Int), .ref S]) hqRC
    have eRC : (upd HSS qRC (.lst [.int (b : Nat), .int ((1 + r21 : Nat) : Int), .ref S])) qRC = some (.lst [.int (b : Nat), .int ((1 + r21 : Nat) : Int), .ref S]) := upd_same
    generalize upd HSS qRC (.lst [.int (b : Nat), .int ((1 + r21 : Nat) : Int), .ref S]) = HRC at sRC eRC ⊢
    have nRC := cSS.ne hqRC
    have cRC := cSS.same sRC
    refine ⟨1, rfl, ?_⟩
    refine ⟨by simp [sizeLine_eq], fun qX1 hqX1 => ?_⟩
    have sX1 := same_upd (o := .lst [.int 2]) hqX1
    have eX1 : (upd HRC qX1 (.lst [.int 2])) qX1 = some (.lst [.int 2]) := upd_same
    generalize upd HRC qX1 (.lst [.int 2]) = HX1 at sX1 eX1 ⊢
    have nX1 := cRC.ne hqX1
    have cX1 := cRC.same sX1
    refine fun qX2 hqX2 => ?_
    have sX2 := same_upd (o := .dK []) hqX2
    have eX2 : (upd HX1 qX2 (.dK [])) qX2 = some (.dK []) := upd_same
    generalize upd HX1 qX2 (.dK []) = HX2 at sX2 eX2 ⊢
    have nX2 := cX1.ne hqX2
    have cX2 := cX1.same sX2
    refine ⟨10, 20, rfl, rfl, ⟨by decide, by decide, by decide⟩, ?_⟩
    refine ⟨by simp [sizeLine_eq], fun qFL hqFL => ?_⟩
    have sFL := same_upd (o := .lst [.int 0, .int 61, .int (-1), .bl true, .non, .str "2", .ref qX1, .ref qX2, .int (10 ^ (20 : Int).toNat)]) hqFL
    have eFL : (upd HX2 qFL (.lst [.int 0, .int 61, .int (-1), .bl true, .non, .str "2", .ref qX1, .ref qX2, .int (10 ^ (20 : Int).toNat)])) qFL = some (.lst [.int 0, .int 61, .int (-1), .bl true, .non, .str "2", .ref qX1, .ref qX2, .int (10 ^ (20 : Int).toNat)]) := upd_same
    generalize upd HX2 qFL (.lst [.int 0, .int 61, .int (-1), .bl true, .non, .str "2", .ref qX1, .ref qX2, .int (10 ^ (20 : Int).toNat)]) = HFL at sFL eFL ⊢
    have nFL := cX2.ne hqFL
    have cFL := cX2.same sFL
    refine ⟨_, rfl, ps, 9, rfl, by decide, by decide, cFL, fun r23 H23 hr23 s23 => ?_⟩
    have c23 := s23.src
    obtain ⟨fw, hfw⟩ : ∃ x, ([.int 0, .int 61, .int (-1), .bl true, .non, .str "2", .ref qX1, .ref qX2, .int (10 ^ (20 : Int).toNat)] : List V)[r23]? = some x := ⟨_, List.getElem?_eq_getElem (by simp; omega)⟩
    refine ⟨qFL, _, r23, fw, rfl, rfl, SqL.of (s23.keep _ _ nFL eFL), atI_nat hfw, ?_⟩
    refine ⟨_, rfl, ps, rfl, c23, fun H24 g0 s24 hx24 => ⟨_, rfl, _, rfl, ps, rfl, s24.src, fun H25 g2 s25 hx25 => ?_⟩⟩
    have c24 := s24.src
    have c25 := s25.src
    refine ⟨by simp [sizeLine_eq], fun qOC hqOC => ?_⟩
    have sOC := same_upd (o := .lst [g0, fw, g2]) hqOC
    have eOC : (upd H25 qOC (.lst [g0, fw, g2])) qOC = some (.lst [g0, fw, g2]) := upd_same
    generalize upd H25 qOC (.lst [g0, fw, g2]) = HOC at sOC eOC ⊢
    have nOC := c25.ne hqOC
    have cOC := c25.same sOC
    refine ⟨_, rfl, _, rfl, _, rfl, _, rfl, ?_⟩
    refine ⟨by simp [sizeLine_eq], fun qNC hqNC => ?_⟩
    have sNC := same_upd (o := .lst [.str "base", .str "levels", .str "sighting"]) hqNC
    have eNC : (upd HOC qNC (.lst [.str "base", .str "levels", .str "sighting"])) qNC = some (.lst [.str "base", .str "levels", .str "sighting"]) := upd_same
    generalize upd HOC qNC (.lst [.str "base", .str "levels", .str "sighting"]) = HNC at sNC eNC ⊢
    have nNC := cOC.ne hqNC
    have cNC := cOC.same sNC
    refine ⟨ps, qRC, qOC, qNC, _, _, ["base", "levels", "sighting"], rfl, cNC, SqL.of ((((((((((Stp.refl cRC).same sX1).same sX2).same sFL).trans s23).trans s24).trans s25).same sOC).same sNC).keep _ _ nRC eRC), SqL.of (sNC _ _ eOC), SqL.of eNC, rfl, rfl, by simp, by simp, nRC, nOC, nNC, fun H26 T2 F2 bs2 s26 hT2 hF2 eT2 eF2 lb2 => ?_⟩
    have c26 := s26.src
    refine ⟨by simp [sizeLine_eq], fun qY hqY => ?_⟩
    have sY := same_upd (o := .lst [.ref T2]) hqY
    have eY : (upd H26 qY (.lst [.ref T2])) qY = some (.lst [.ref T2]) := upd_same
    generalize upd H26 qY (.lst [.ref T2]) = HY at sY eY ⊢
    have nY := c26.ne hqY
    have cY := c26.same sY
    refine ⟨qFD, qY, _, _, rfl, rfl, ((((((((((((((((((Stp.refl c20).trans s21).same sPA).same sPB).same sPL).trans s22).same sSS).same sRC).same sX1).same sX2).same sFL).trans s23).trans s24).trans s25).same sOC).same sNC).trans s26).same sY).keep _ _ nFD eFD2, eY, by simp [sizeLine_eq], fun M hM => ?_⟩
    have sF := same_upd (o := .lst ([.ref T0] ++ [.ref T1] ++ [.ref T2])) hM
    have eF := upd_same (H := HY) (a := M) (o := .lst ([.ref T0] ++ [.ref T1] ++ [.ref T2]))
    generalize upd HY M (.lst ([.ref T0] ++ [.ref T1] ++ [.ref T2])) = HF at sF eF ⊢
    have late : ∀ c o, c ≠ ps → H20 c = some o → HF c = some o := fun c o n e => (((((((((((((((((((Stp.refl c20).trans s21).same sPA).same sPB).same sPL).trans s22).same sSS).same sRC).same sX1).same sX2).same sFL).trans s23).trans s24).trans s25).same sOC).same sNC).trans s26).same sY).same sF).keep c o n e
    have k19 : ∀ c o, c ≠ ps → c ≠ qFD → H19 c = some o → HF c = some o := fun c o n1 n2 e => late c o n1 (kp c o n2 e)
    have kFD : ∀ c o, c ≠ ps → c ≠ qFD → HFD c = some o → HF c = some o := fun c o n1 n2 e => k19 c o n1 n2 ((((((((((((Stp.refl cFD).trans s13).trans s14).same sRB).trans s15).trans s16).trans s17).trans s18).same sOB).same sNB).trans s19).keep c o n1 e)
    have k12 : ∀ c o, c ≠ ps → H12 c = some o → HF c = some o := fun c o n e => kFD c o n (ne_of_none e hqFD) (sFD _ _ e)
    have st12 : Stp ps H H12 := (s1.trans ((((((((((((((((((((((Stp.refl c1).trans s2).trans s3).same sA).same sB).same sC).same sD).same sZ).trans s4).trans s5).same sR).trans s6).same sLL).trans s7).trans s8).trans s9).trans s10).trans s11).same sO).same sNN).trans s12)))
    have gql := (k12 _ _ nql (((((((((((((((((((((Stp.refl c2).trans s3).same sA).same sB).same sC).same sD).same sZ).trans s4).trans s5).same sR).trans s6).same sLL).trans s7).trans s8).trans s9).trans s10).trans s11).same sO).same sNN).trans s12).keep _ _ nql hql))
    have gA := (k12 _ _ nA (((((((((((((((((((Stp.refl cA).same sB).same sC).same sD).same sZ).trans s4).trans s5).same sR).trans s6).same sLL).trans s7).trans s8).trans s9).trans s10).trans s11).same sO).same sNN).trans s12).keep _ _ nA eA))
    have gB := (k12 _ _ nB ((((((((((((((((((Stp.refl cB).same sC).same sD).same sZ).trans s4).trans s5).same sR).trans s6).same sLL).trans s7).trans s8).trans s9).trans s10).trans s11).same sO).same sNN).trans s12).keep _ _ nB eB))
    have gC := (k12 _ _ nC (((((((((((((((((Stp.refl cC).same sD).same sZ).trans s4).trans s5).same sR).trans s6).same sLL).trans s7).trans s8).trans s9).trans s10).trans s11).same sO).same sNN).trans s12).keep _ _ nC eC))
    have gD := (k12 _ _ nD ((((((((((((((((Stp.refl cD).same sZ).trans s4).trans s5).same sR).trans s6).same sLL).trans s7).trans s8).trans s9).trans s10).trans s11).same sO).same sNN).trans s12).keep _ _ nD eD))
    have gS := (((((((((((((Stp.refl cSS).same sRC).same sX1).same sX2).same sFL).trans s23).trans s24).trans s25).same sOC).same sNC).trans s26).same sY).same sF).keep _ _ nSS eSS
    have gPA := (((((((((((((((((Stp.refl cPA).same sPB).same sPL).trans s22).same sSS).same sRC).same sX1).same sX2).same sFL).trans s23).trans s24).trans s25).same sOC).same sNC).trans s26).same sY).same sF).keep _ _ nPA ePA
    have gPB := ((((((((((((((((Stp.refl cPB).same sPL).trans s22).same sSS).same sRC).same sX1).same sX2).same sFL).trans s23).trans s24).trans s25).same sOC).same sNC).trans s26).same sY).same sF).keep _ _ nPB ePB
    have gX1 := (((((((((((Stp.refl cX1).same sX2).same sFL).trans s23).trans s24).trans s25).same sOC).same sNC).trans s26).same sY).same sF).keep _ _ nX1 eX1
    have gX2 := ((((((((((Stp.refl cX2).same sFL).trans s23).trans s24).trans s25).same sOC).same sNC).trans s26).same sY).same sF).keep _ _ nX2 eX2
    have gT0 := k12 _ _ (cNN.ne hT0) eT0
    have gF0 := k12 _ _ (cNN.ne hF0) eF0
    have gT1 := k19 _ _ (cNB.ne hT1) (Ne.symm (ne_of_none (sNB _ _ eFDo) hT1)) eT1
    have gF1 := k19 _ _ (cNB.ne hF1) (Ne.symm (ne_of_none (sNB _ _ eFDo) hF1)) eF1
    have gT2 := (((Stp.refl c26).same sY).same sF).keep _ _ (cNC.ne hT2) eT2
    have gF2 := (((Stp.refl c26).same sY).same sF).keep _ _ (cNC.ne hF2) eF2
    have gql2 := k19 _ _ nql2 (Ne.symm (ne_of_none (s13.keep _ _ nFD eFD) hql20)) ((((((((((Stp.refl c14).same sRB).trans s15).trans s16).trans s17).trans s18).same sOB).same sNB).trans s19).keep _ _ nql2 hql2)
    have ⟨bt6, wt6⟩ := hx6 HF (fun cc o h1 h2 => k12 cc o (cR.ne h1) (((((((((((Stp.refl c6).same sLL).trans s7).trans s8).trans s9).trans s10).trans s11).same sO).same sNN).trans s12).keep _ _ (cR.ne h1) h2))
    have ⟨bo0, wo0⟩ := hx8 HF (fun cc o h1 h2 => k12 cc o (c7.ne h1) ((((((((Stp.refl c8).trans s9).trans s10).trans s11).same sO).same sNN).trans s12).keep _ _ (c7.ne h1) h2))
    have ⟨bo1, wo1⟩ := hx9 HF (fun cc o h1 h2 => k12 cc o (c8.ne h1) (((((((Stp.refl c9).trans s10).trans s11).same sO).same sNN).trans s12).keep _ _ (c8.ne h1) h2))
    have ⟨bo2, wo2⟩ := hx10 HF (fun cc o h1 h2 => k12 cc o (c9.ne h1) ((((((Stp.refl c10).trans s11).same sO).same sNN).trans s12).keep _ _ (c9.ne h1) h2))
    have ⟨bo4, wo4⟩ := hx11 HF (fun cc o h1 h2 => k12 cc o (c10.ne h1) (((((Stp.refl c11).same sO).same sNN).trans s12).keep _ _ (c10.ne h1) h2))
    have ⟨bp0, wp0⟩ := hx15 HF (fun cc o h1 h2 => k19 cc o (cRB.ne h1) (Ne.symm (ne_of_none (((((Stp.refl cFD).trans s13).trans s14).same sRB).keep _ _ nFD eFD) h1)) ((((((((Stp.refl c15).trans s16).trans s17).trans s18).same sOB).same sNB).trans s19).keep _ _ (cRB.ne h1) h2))
    have ⟨bp1, wp1⟩ := hx16 HF (fun cc o h1 h2 => k19 cc o (c15.ne h1) (Ne.symm (ne_of_none ((((((Stp.refl cFD).trans s13).trans s14).same sRB).trans s15).keep _ _ nFD eFD) h1)) (((((((Stp.refl c16).trans s17).trans s18).same sOB).same sNB).trans s19).keep _ _ (c15.ne h1) h2))
    have ⟨bp2, wp2⟩ := hx17 HF (fun cc o h1 h2 => k19 cc o (c16.ne h1) (Ne.symm (ne_of_none (((((((Stp.refl cFD).trans s13).trans s14).same sRB).trans s15).trans s16).keep _ _ nFD eFD) h1)) ((((((Stp.refl c17).trans s18).same sOB).same sNB).trans s19).keep _ _ (c16.ne h1) h2))
    have ⟨bp3, wp3⟩ := hx18 HF (fun cc o h1 h2 => k19 cc o (c17.ne h1) (Ne.symm (ne_of_none ((((((((Stp.refl cFD).trans s13).trans s14).same sRB).trans s15).trans s16).trans s17).keep _ _ nFD eFD) h1)) (((((Stp.refl c18).same sOB).same sNB).trans s19).keep _ _ (c17.ne h1) h2))
    have ⟨bg0, wg0⟩ := hx24 HF (fun cc o h1 h2 => (((((((Stp.refl c24).trans s25).same sOC).same sNC).trans s26).same sY).same sF).keep _ _ (c23.ne h1) h2)
    have ⟨bg2, wg2⟩ := hx25 HF (fun cc o h1 h2 => ((((((Stp.refl c25).same sOC).same sNC).trans s26).same sY).same sF).keep _ _ (c24.ne h1) h2)
    have cF := (((((((((((((((((((Stp.refl c20).trans s21).same sPA).same sPB).same sPL).trans s22).same sSS).same sRC).same sX1).same sX2).same sFL).trans s23).trans s24).trans s25).same sOC).same sNC).trans s26).same sY).same sF).src
    have endF : Stp ps H HF := ⟨fun cc o n e => k12 cc o n (st12.keep cc o n e), cF⟩
    clear late k19 kFD k12 st12 kp hx6 hx8 hx9 hx10 hx11 hx15 hx16 hx17 hx18 hx24 hx25
    have ow : ∀ {x : V}, Odd K HF x → OddW K HF 6 7000 x := fun h => h.w.mono (by decide) (by decide)
    have oint : ∀ {i : Int}, i.natAbs < 10 ^ 30 → OddW K HF 6 7000 (.int i) := fun h => ow (odd_int (Nat.lt_trans h (by decide)))
    have oql : OddW K HF 6 7000 (.ref ql) := ow (odd_levels (SqL.of gql) (by omega))
    have oql2 : OddW K HF 6 7000 (.ref ql2) := ow (odd_levels (SqL.of gql2) (by omega))
    obtain ⟨o, hO, ho, one, o60, oW⟩ : ∃ o : List Nat, SqL K HF W (o.map fun x => V.int (x : Nat)) ∧ IsOrd o ∧ o ≠ [] ∧ o.length ≤ 60 ∧ OddW K HF 6 7000 (.ref W) := by
      rcases hW.2 with ⟨rfl, _⟩ | ⟨rfl, _⟩ | ⟨rfl, _⟩ | ⟨rfl, _⟩
      · exact ⟨[0], SqL.of gA, ord31 (by decide), by simp, by decide, ow ⟨.list [.int 0], by decide +kernel, .lst (SqL.of gA) (.cons (.flat (.int _) rfl) .nil)⟩⟩
      · exact ⟨[1, 0], SqL.of gB, ord31 (by decide), by simp, by decide, ow ⟨.list [.int 1, .int 0], by decide +kernel, .lst (SqL.of gB) (.cons (.flat (.int _) rfl) (.cons (.flat (.int _) rfl) .nil))⟩⟩
      · exact ⟨[0, 1, 2], SqL.of gC, ord31 (by decide), by simp, by decide, ow ⟨.list [.int 0, .int 1, .int 2], by decide +kernel, .lst (SqL.of gC) (.cons (.flat (.int _) rfl) (.cons (.flat (.int _) rfl) (.cons (.flat (.int _) rfl) .nil)))⟩⟩
      · exact ⟨[2, 0, 1], SqL.of gD, ord31 (by decide), by simp, by decide, ow ⟨.list [.int 2, .int 0, .int 1], by decide +kernel, .lst (SqL.of gD) (.cons (.flat (.int _) rfl) (.cons (.flat (.int _) rfl) (.cons (.flat (.int _) rfl) .nil)))⟩⟩
    have hSS : SightsAt HF ([qPA, qPB].take r22) ([(3, 40, true), (0, 5, false)].take r22) ∧ ([(3, 40, true), (0, 5, false)].take r22 : List (Nat × Nat × Bool)).length ≤ 2 ∧ (∀ s ∈ ([(3, 40, true), (0, 5, false)].take r22 : List (Nat × Nat × Bool)), s.2.1 < 2 ^ 250) ∧ OddW K HF 6 7000 (.ref S) := by
      have oA : DpE K HF (.ref qPA) (.tuple [.int 3, .int 40, .str "front"]) := .tup (SqT.of gPA) (.cons (.flat (.int _) rfl) (.cons (.flat (.int _) rfl) (.cons (.flat (.str _) rfl) .nil)))
      have oB : DpE K HF (.ref qPB) (.tuple [.int 0, .int 5, .str "back"]) := .tup (SqT.of gPB) (.cons (.flat (.int _) rfl) (.cons (.flat (.int _) rfl) (.cons (.flat (.str _) rfl) .nil)))
      clear hl3 hfw
      match r22, hr22, gS with
      | 0, _, gS => exact ⟨⟨rfl, fun j t s h => by simp at h⟩, by decide, by simp, ow ⟨.list [], by decide +kernel, .lst (SqL.of gS) .nil⟩⟩
      | 1, _, gS =>
        refine ⟨⟨rfl, fun j t s h1 h2 => ?_⟩, by decide, by simp, ow ⟨.list [.tuple [.int 3, .int 40, .str "front"]], by decide +kernel, .lst (SqL.of gS) (.cons oA .nil)⟩⟩
        match j, h1, h2 with
        | 0, h1, h2 =>
          cases h1
          cases h2
          exact ⟨gPA, by decide⟩
        | j + 1, h1, _ => simp at h1
      | 2, _, gS =>
        refine ⟨⟨rfl, fun j t s h1 h2 => ?_⟩, by decide, by simp, ow ⟨.list [.tuple [.int 3, .int 40, .str "front"], .tuple [.int 0, .int 5, .str "back"]], by decide +kernel, .lst (SqL.of gS) (.cons oA (.cons oB .nil))⟩⟩
        match j, h1, h2 with
        | 0, h1, h2 =>
          cases h1
          cases h2
          exact ⟨gPA, by decide⟩
        | 1, h1, h2 =>
          cases h1
          cases h2
          exact ⟨gPB, by decide⟩
        | j + 2, h1, _ => simp at h1
      | r + 3, h, _ => omega
    obtain ⟨bfw, ofw⟩ : BadLength K HF fw ∧ OddW K HF 6 7000 fw := by
      have hm := List.mem_of_getElem? hfw
      simp only [List.mem_cons, List.not_mem_nil, or_false] at hm
      rcases hm with rfl | rfl | rfl | rfl | rfl | rfl | rfl | rfl | rfl
      · exact ⟨.inr ⟨_, rfl, .inl (by decide)⟩, oint (by decide)⟩
      · exact ⟨.inr ⟨_, rfl, .inr (by decide)⟩, oint (by decide)⟩
      · exact ⟨.inr ⟨_, rfl, .inl (by decide)⟩, oint (by decide)⟩
      · exact ⟨.inl (.of_bl _), ow (odd_bl _)⟩
      · exact ⟨.inl .of_non, ow odd_non⟩
      · exact ⟨.inl (.of_str _), ow ⟨.str "2", by decide +kernel, .flat (.str _) rfl⟩⟩
      · exact ⟨.inl (.of_lst gX1), ow ⟨.list [.int 2], by decide +kernel, .lst (SqL.of gX1) (.cons (.flat (.int _) rfl) .nil)⟩⟩
      · exact ⟨.inl (.of_dK gX2), ow (odd_dict gX2)⟩
      · exact ⟨.inr ⟨_, rfl, .inr (by decide)⟩, oint (by decide)⟩
    have b3 : BadTick K HF o3 ((n : Int) + 1) ∧ OddW K HF 6 7000 o3 := by
      rcases hl4 with rfl | rfl | rfl
      · exact ⟨.inr ⟨_, rfl, by omega⟩, oint (by simp; omega)⟩
      · exact ⟨.inr ⟨_, rfl, by omega⟩, oint (by decide)⟩
      · exact ⟨badtick_up (by omega) bt6, ow wt6⟩
    have i0 := verd_set (b := b) (n := n) (d := n + 1 + r5) (o := o) (bs := bs0) hb2 hb64 (SqL.of gql) hne (by omega) (by omega) (Nat.lt_trans (show n + 1 + r5 < 4096 by omega) (by decide)) hO ho one o60 bo0 bo1 bo2 b3.1 bo4 lb0
    have i1 := verd_told (b1 := b) (b2 := b2) (bs := bs1) hb2 hb64 hb22 hb264 (SqL.of gql) hne (by omega) (SqL.of gql2) hne2 (by omega) bp0 bp1 bp2 bp3 lb1
    have i2 := verd_seen (b := b) (many := 1 + r21) (bs := bs2) hb2 hb64 (by omega) (by omega) (SqL.of gS) hSS.1 (by omega) hSS.2.2.1 bg0 bfw bg2 lb2
    have mem : ∀ {Pr : V → Prop} {l : List V}, (∀ x ∈ l, Pr x) → ∀ x ∈ l, Pr x := fun h => h
    have a0 : ∀ y ∈ mixL bs0 [o0, o1, o2, o3, o4] [.int (b : Nat), .ref ql, .int (n : Nat), .int ((n + 1 + r5 : Nat) : Int), .ref W], OddW K HF 6 7000 y := mix_all31 (by simp only [List.forall_mem_cons]; exact ⟨ow wo0, ow wo1, ow wo2, b3.2, ow wo4, fun _ h => nomatch h⟩) (by simp only [List.forall_mem_cons]; exact ⟨oint (by simp; omega), oql, oint (by simp; omega), oint (by simp; omega), oW, fun _ h => nomatch h⟩)
    have a1 : ∀ y ∈ mixL bs1 [p0, p1, p2, p3] [.int (b : Nat), .ref ql, .int (b2 : Nat), .ref ql2], OddW K HF 6 7000 y := mix_all31 (by simp only [List.forall_mem_cons]; exact ⟨ow wp0, ow wp1, ow wp2, ow wp3, fun _ h => nomatch h⟩) (by simp only [List.forall_mem_cons]; exact ⟨oint (by simp; omega), oql, oint (by simp; omega), oql2, fun _ h => nomatch h⟩)
    have a2 : ∀ y ∈ mixL bs2 [g0, fw, g2] [.int (b : Nat), .int ((1 + r21 : Nat) : Int), .ref S], OddW K HF 6 7000 y := mix_all31 (by simp only [List.forall_mem_cons]; exact ⟨ow wg0, ofw, wg2, fun _ h => nomatch h⟩) (by simp only [List.forall_mem_cons]; exact ⟨oint (by simp; omega), oint (by simp; omega), hSS.2.2.2, fun _ h => nomatch h⟩)
    refine c HF M endF ⟨[T0, T1, T2], [F0, F1, F2], [], [], eF, rfl, fun i T hT => ?_⟩
    match i, hT with
    | 0, hT =>
      cases hT
      exact ⟨F0, _, _, gT0, gF0, i0, mix_len31 lb0 (by simp), a0⟩
    | 1, hT =>
      cases hT
      exact ⟨F1, _, _, gT1, gF1, i1, mix_len31 lb1 (by simp), a1⟩
    | 2, hT =>
      cases hT
      exact ⟨F2, _, _, gT2, gF2, i2, mix_len31 lb2 (by simp), a2⟩
    | i + 3, hT => simp at hT
end
/-! ### xs.count(y), xs of flat items -/
theorem count_eqU {y : V} : ∀ {ys : List V} {its : List Value}, Vals ys its → ys.all flatV = true → its.countP (eqU y) = ys.countP (fun z => eqV z y)
  | _, _, .nil, _ => rfl
  | z :: ys, u :: its, .cons r rs, f => by
    rw [List.all_cons, Bool.and_eq_true] at f
    rw [List.countP_cons, List.countP_cons, count_eqU rs f.2, eqU_of r f.1]
def rCntF (K : PySem.W.Frag) : V → List V → Hp → VK → Prop := fun x xs H Q => ∃ (p : Addr) (ys : List V) (y : V), x = .ref p ∧ xs = [y] ∧ SqL K H p ys ∧ flatV y = true ∧ ys.all flatV = true ∧ Q (.int (ys.countP (fun z => eqV z y) : Nat)) H
section
variable {X : Cx} {K : PySem.W.Frag}
theorem mt_lcountF (e : X.K = K) : MtR X "list.count" (rCntF K) := by
  subst e
  intro pins s σ H x xs v us Q I rx rxs h
  obtain ⟨p, ys, y, rfl, rfl, hs, fy, fys, q⟩ := h
  cases rx
  cases rxs with
  | cons ry rt =>
    rename_i uy ut
    cases rt
    obtain ⟨its, rv, ⟨⟨cls, dd, data, sl⟩, n, ho, hc, hdn, hd⟩, hlen⟩ := I.list hs
    simp only at hc hd
    subst hc hd
    refine call_meets PySem.F.slot_list_count ⟨_, ho, rfl⟩ PySem.F.entry_list_count (PySem.F.args_list_count_2 _ _)
      (SeqAt.list_countAt p its.toArray n dd sl uy (eqU y)) ⟨ho, fun u' hu' => mem_eqAt ry fy rv fys u' (by simpa using hu'), ?_⟩
    have ec : its.toArray.toList.countP (eqU y) = ys.countP (fun z => eqV z y) := count_eqU rv fys
    refine ⟨.int (ys.countP (fun z => eqV z y) : Nat), H, I.tok _, ⟨s.toks, ?_⟩, q⟩
    show Value.int ((its.toArray.toList.countP (eqU y) : Nat) : Int) s.toks = Value.int ((ys.countP (fun z => eqV z y) : Nat) : Int) s.toks
    rw [ec]
theorem mt_indexK8 (e : X.K = K) : MtR X "list.index" (rIndex K) := by subst e; exact mt_index
end
/-! ### the word for what a call does: one class of errors of eight -/
def trySuite : List Stmt → List Stmt
  | .Try _ [.ExceptHandler _ _ b _] _ _ _ :: _ => b
  | _ => []
/-- an error of the class N is one of the j-th of the classes cs, and of no other -/
structure Kind8 (K : PySem.W.Frag) (N : Addr) (cs : List Addr) (j : Nat) : Prop where
  ec : ExcC K N
  ve : PySem.W.kitOne K (.ref N) (.type "ValueError") = some true
  lt : j < 8
  at_ : ∀ i c, cs[i]? = some c → PySem.W.kitOne K (.ref N) (.ref c) = some (decide (i = j))
def marks8 (j : Nat) : List V := ([.bl (decide (0 = j)), .bl (decide (1 = j)), .bl (decide (2 = j)), .bl (decide (3 = j))] ++ [.bl (decide (4 = j)), .bl (decide (5 = j)), .bl (decide (6 = j))]) ++ [.bl (decide (7 = j))]
theorem marks_count {j : Nat} (h : j < 8) : (marks8 j).countP (fun z => eqV z (.bl true)) = 1 := by
  have z : j = 0 ∨ j = 1 ∨ j = 2 ∨ j = 3 ∨ j = 4 ∨ j = 5 ∨ j = 6 ∨ j = 7 := by omega
  rcases z with rfl | rfl | rfl | rfl | rfl | rfl | rfl | rfl <;> rfl
theorem marks_at {j : Nat} (h : j < 8) : (marks8 j)[j]? = some (.bl true) := by
  have z : j = 0 ∨ j = 1 ∨ j = 2 ∨ j = 3 ∨ j = 4 ∨ j = 5 ∨ j = 6 ∨ j = 7 := by omega
  rcases z with rfl | rfl | rfl | rfl | rfl | rfl | rfl | rfl <;> rfl
theorem marks_no {j : Nat} (h : j < 8) (m : Nat) (z' : V) (hm : m < j) (hz : (marks8 j)[m]? = some z') : eqV z' (.bl true) = false := by
  have e : (marks8 j)[m]? = some (.bl (decide (m = j))) := by
    have z : m = 0 ∨ m = 1 ∨ m = 2 ∨ m = 3 ∨ m = 4 ∨ m = 5 ∨ m = 6 := by omega
    rcases z with rfl | rfl | rfl | rfl | rfl | rfl | rfl <;> rfl
  rw [e, decide_eq_false (by omega)] at hz
  cases hz
  rfl
theorem marks_flat (j : Nat) : (marks8 j).all flatV = true := rfl
theorem pss_imp {X : Cx} {st : List Stmt} {t' : TS} (h : ∃ t, PSs X st t ∧ ∀ D σ H, t' D σ H → t D σ H) : PSs X st t' := by
  obtain ⟨t, hp, hi⟩ := h
  exact ⟨fun pins s σ H D I q => hp.run pins s σ H D I (hi D σ H q)⟩
/-! ### laws k24, k34, k36: the word for what a call does -/
def words24 : List V := [.str "base", .str "levels", .str "tick", .str "period", .str "timer", .str "order", .str "sighting", .str "many"]
section
variable {P : Program} {w : World} {K : PySem.W.Frag} {mg : Str → Option Value} {base : Heap}
/-- what the suite wants: e is an error of the class N, the j-th -/
def tWord8 (K : PySem.W.Frag) (cs : List Addr) (a : Addr) (cls : Value) (d : Option Addr) : TS := fun D σ H => ∃ (N : Addr) (j : Nat) (x : Str) (v0 v2 : Option V), cls = .ref N ∧ d = none ∧ σ = [v0, some (.ref a), v2] ∧ Kind8 K N cs j ∧ words24[j]? = some (.str x) ∧ ∀ H', Same H H' → D.rt (.str x) H'
theorem word_suite {f c_NoBase c_NoLevels c_NoTick c_NoOrder c_NoPeriod c_NoSighting c_NoTimer c_TooMany a : Addr} {cdv cls : Value} {A : Around} {outer : List Env} {s : Shared} {H : Hp} {E : XK} {d : Option Addr} {oe : Obj} {pn : List (Addr × Obj)} (T : Tx K mg)
    (X_NoBase : EG mg "NoBase" c_NoBase) (X_NoLevels : EG mg "NoLevels" c_NoLevels) (X_NoTick : EG mg "NoTick" c_NoTick) (X_NoOrder : EG mg "NoOrder" c_NoOrder) (X_NoPeriod : EG mg "NoPeriod" c_NoPeriod) (X_NoSighting : EG mg "NoSighting" c_NoSighting) (X_NoTimer : EG mg "NoTimer" c_NoTimer) (X_TooMany : EG mg "TooMany" c_TooMany)
    (hz : Zc cls d oe) (hf : ∃ vs, oe.data = .fields vs) : PSs ((cxOf CX0 P w K mg base N__law_word (Str.ofString "_law_word") (defScope s__law_word) f cdv A outer s H E).nox.suite a ((a, oe) :: pn)) (trySuite (defBody s__law_word)) (tWord8 K [c_NoBase, c_NoLevels, c_NoTick, c_NoPeriod, c_NoTimer, c_NoOrder, c_NoSighting, c_TooMany] a cls d) := by
  refine pss_imp ⟨_, (pss_cons (ps_set (i := 2) sc__law_word.nd rfl (.inl rfl) (pe_lst (pa_cons (pe_callB (isiE hz hf) (by rfl) T.b_isinstance (by decide +kernel) (pa_cons (pv 1) (pa_cons (pe_glob (v := .ref c_NoBase) rfl X_NoBase.g rfl) pa_nil))) (pa_cons (pe_callB (isiE hz hf) (by rfl) T.b_isinstance (by decide +kernel) (pa_cons (pv 1) (pa_cons (pe_glob (v := .ref c_NoLevels) rfl X_NoLevels.g rfl) pa_nil))) (pa_cons (pe_callB (isiE hz hf) (by rfl) T.b_isinstance (by decide +kernel) (pa_cons (pv 1) (pa_cons (pe_glob (v := .ref c_NoTick) rfl X_NoTick.g rfl) pa_nil))) (pa_cons (pe_callB (isiE hz hf) (by rfl) T.b_isinstance (by decide +kernel) (pa_cons (pv 1) (pa_cons (pe_glob (v := .ref c_NoPeriod) rfl X_NoPeriod.g rfl) pa_nil))) pa_nil))))))
      (pss_cons (ps_set (i := 2) sc__law_word.nd rfl (.inl rfl) (pe_op op_cat (pv 2) (pe_lst (pa_cons (pe_callB (isiE hz hf) (by rfl) T.b_isinstance (by decide +kernel) (pa_cons (pv 1) (pa_cons (pe_glob (v := .ref c_NoTimer) rfl X_NoTimer.g rfl) pa_nil))) (pa_cons (pe_callB (isiE hz hf) (by rfl) T.b_isinstance (by decide +kernel) (pa_cons (pv 1) (pa_cons (pe_glob (v := .ref c_NoOrder) rfl X_NoOrder.g rfl) pa_nil))) (pa_cons (pe_callB (isiE hz hf) (by rfl) T.b_isinstance (by decide +kernel) (pa_cons (pv 1) (pa_cons (pe_glob (v := .ref c_NoSighting) rfl X_NoSighting.g rfl) pa_nil))) pa_nil))))))
      (pss_cons (ps_expr (pe_bm PySem.F.plainAttrs_list PySem.F.slot_list_append PySem.F.type_list_append mt_append (pv 2) (pa_cons (pe_callB (isiE hz hf) (by rfl) T.b_isinstance (by decide +kernel) (pa_cons (pv 1) (pa_cons (pe_glob (v := .ref c_TooMany) rfl X_TooMany.g rfl) pa_nil))) pa_nil)))
      (pss_cons (ps_if (PW.pt (pw_or (pt_cmpR op_ne (pe_bm PySem.F.plainAttrs_list PySem.F.slot_list_count PySem.F.type_list_count (mt_lcountF (K := K) rfl) (pv 2) (pa_cons pe_bl pa_nil)) pe_int (nomark _)) (pw_or1 (pt_not (pt_val (pe_callB (isiE hz hf) (by rfl) T.b_isinstance (by decide +kernel) (pa_cons (pv 1) (pa_cons (pe_bltn (v := .ty "ValueError") (u := .type "ValueError") (by rfl) T.b_ValueError (by decide +kernel) rfl) pa_nil))))))))
        (pss_one (ps_ret pe_str))
        pss_nil)
      (pss_one (ps_ret (pe_ix (ix_listK (K := K) rfl) (pe_lst (pa_cons pe_str (pa_cons pe_str (pa_cons pe_str (pa_cons pe_str (pa_cons pe_str (pa_cons pe_str (pa_cons pe_str (pa_cons pe_str pa_nil))))))))) (pe_bm PySem.F.plainAttrs_list PySem.F.slot_list_index PySem.F.type_list_index (mt_indexK (K := K) rfl) (pv 2) (pa_cons pe_bl pa_nil)) (fun _ _ => rfl)))))))), fun D σ H' h => ?_⟩
  obtain ⟨N, j, x, v0, v2, rfl, rfl, rfl, ⟨hC, ve, hj, at_⟩, hx, c⟩ := h
  have n0 := at_ 0 _ rfl
  have n1 := at_ 1 _ rfl
  have n2 := at_ 2 _ rfl
  have n3 := at_ 3 _ rfl
  have n4 := at_ 4 _ rfl
  have n5 := at_ 5 _ rfl
  have n6 := at_ 6 _ rfl
  have n7 := at_ 7 _ rfl
  refine ⟨_, rfl, N, rfl, rfl, hC, _, _, _, rfl, fun _ h => h, n0, _, rfl, N, rfl, rfl, hC, _, _, _, rfl, fun _ h => h, n1, _, rfl, N, rfl, rfl, hC, _, _, _, rfl, fun _ h => h, n2, _, rfl, N, rfl, rfl, hC, _, _, _, rfl, fun _ h => h, n3, by simp [sizeLine_eq], fun m1 hm1 => ?_⟩
  refine ⟨_, rfl, _, rfl, N, rfl, rfl, hC, _, _, _, rfl, fun _ h => h, n4, _, rfl, N, rfl, rfl, hC, _, _, _, rfl, fun _ h => h, n5, _, rfl, N, rfl, rfl, hC, _, _, _, rfl, fun _ h => h, n6, by simp [sizeLine_eq], fun m2 hm2 => ?_⟩
  have s1 := same_upd (o := .lst [.bl (decide (0 = j)), .bl (decide (1 = j)), .bl (decide (2 = j)), .bl (decide (3 = j))]) hm1
  have s2 := s1.trans (same_upd (o := .lst [.bl (decide (4 = j)), .bl (decide (5 = j)), .bl (decide (6 = j))]) hm2)
  refine ⟨m1, m2, _, _, rfl, rfl, (same_upd hm2) _ _ upd_same, upd_same, by simp [sizeLine_eq], fun m3 hm3 => ?_⟩
  generalize hH3 : upd (upd H' m1 _) m2 _ = H3 at s2 hm3 ⊢
  clear hH3
  refine ⟨_, rfl, .inl ⟨rfl, _, .inl (.inl upd_same)⟩, _, rfl, N, rfl, rfl, hC, _, _, _, rfl, fun _ h => h, n7, m3, _, _, rfl, rfl, upd_same, by simp [sizeLine_eq], ?_⟩
  have s4 : Same H' (upd (upd H3 m3 (.lst ([.bl (decide (0 = j)), .bl (decide (1 = j)), .bl (decide (2 = j)), .bl (decide (3 = j))] ++ [.bl (decide (4 = j)), .bl (decide (5 = j)), .bl (decide (6 = j))]))) m3 (.lst (([.bl (decide (0 = j)), .bl (decide (1 = j)), .bl (decide (2 = j)), .bl (decide (3 = j))] ++ [.bl (decide (4 = j)), .bl (decide (5 = j)), .bl (decide (6 = j))]) ++ [.bl (decide (7 = j))]))) := fun p o e => by
    rw [upd_ne (ne_of_none (s2 _ _ e) hm3), upd_ne (ne_of_none (s2 _ _ e) hm3)]
    exact s2 _ _ e
  have e4 : (upd (upd H3 m3 (.lst ([.bl (decide (0 = j)), .bl (decide (1 = j)), .bl (decide (2 = j)), .bl (decide (3 = j))] ++ [.bl (decide (4 = j)), .bl (decide (5 = j)), .bl (decide (6 = j))]))) m3 (.lst (([.bl (decide (0 = j)), .bl (decide (1 = j)), .bl (decide (2 = j)), .bl (decide (3 = j))] ++ [.bl (decide (4 = j)), .bl (decide (5 = j)), .bl (decide (6 = j))]) ++ [.bl (decide (7 = j))]))) m3 = some (.lst (marks8 j)) := upd_same
  generalize upd (upd H3 m3 (.lst ([.bl (decide (0 = j)), .bl (decide (1 = j)), .bl (decide (2 = j)), .bl (decide (3 = j))] ++ [.bl (decide (4 = j)), .bl (decide (5 = j)), .bl (decide (6 = j))]))) m3 (.lst (([.bl (decide (0 = j)), .bl (decide (1 = j)), .bl (decide (2 = j)), .bl (decide (3 = j))] ++ [.bl (decide (4 = j)), .bl (decide (5 = j)), .bl (decide (6 = j))]) ++ [.bl (decide (7 = j))])) = H4 at s4 e4 ⊢
  refine ⟨_, rfl, .inl ⟨rfl, _, SqL.of e4⟩, m3, _, _, rfl, rfl, SqL.of e4, rfl, marks_flat j, rfl, false, nF (congrArg (fun z : Nat => V.int (z : Nat)) (marks_count hj)), iteF ?_⟩
  refine ⟨_, rfl, N, rfl, rfl, hC, .ty "ValueError", .type "ValueError", true, rfl, fun _ h => h, ve, true, rfl, iteF ?_⟩
  refine ⟨by simp [sizeLine_eq], fun m6 hm6 => ?_⟩
  have s6 := same_upd (o := .lst words24) hm6
  refine ⟨_, rfl, .inl ⟨rfl, _, SqL.of (s6 _ _ e4)⟩, m3, _, _, j, _, rfl, rfl, SqL.of (s6 _ _ e4), rfl, marks_flat j, marks_at hj, rfl, marks_no hj, ?_⟩
  exact ⟨m6, words24, j, _, rfl, rfl, SqL.of upd_same, atI_nat hx, c _ (s4.trans s6)⟩
end
/-! ### the word for what a lambda does -/
section
variable {X : Cx}
theorem takes_len {W : WX} (tk : Takes X W) : Takes X (fun cls d σ H => σ.length = X.N.length → W cls d σ H) := fun u s' x => by
  obtain ⟨a, B, sI, pins, σ, H, cls, d, e, J, nb, up, sky, na, os, ag, hw⟩ := x
  exact tk u s' ⟨a, B, sI, pins, σ, H, cls, d, e, J, nb, up, sky, na, os, ag, hw J.len⟩
/-- told, or the word of the error's class -/
def TTw (K : PySem.W.Frag) (cs : List Addr) (CT : Addr) : (XK → Hp → VK → Prop) → Hp → VK → Prop := fun tl H Q =>
  tl (fun cls d H' => ∃ (N : Addr) (j : Nat) (x : Str), cls = .ref N ∧ d = none ∧ PySem.W.exmOne K (.ref N) (.ref CT) = some true ∧ Kind8 K N cs j ∧ words24[j]? = some (.str x) ∧ ∀ H'', Same H' H'' → Q (.str x) H'') H fun _ H' => Q (.str "told") H'
theorem word_gives {g CT c_NoBase c_NoLevels c_NoTick c_NoOrder c_NoPeriod c_NoSighting c_NoTimer c_TooMany : Addr} {cdg : Value} {q : Str} (T : Tx X.K X.mg) (XT : EG X.mg "TimerError" CT)
    (X_NoBase : EG X.mg "NoBase" c_NoBase) (X_NoLevels : EG X.mg "NoLevels" c_NoLevels) (X_NoTick : EG X.mg "NoTick" c_NoTick) (X_NoOrder : EG X.mg "NoOrder" c_NoOrder) (X_NoPeriod : EG X.mg "NoPeriod" c_NoPeriod) (X_NoSighting : EG X.mg "NoSighting" c_NoSighting) (X_NoTimer : EG X.mg "NoTimer" c_NoTimer) (X_TooMany : EG X.mg "TooMany" c_TooMany) :
    LamX.GivesTo X N__law_word "_law_word" (defScope s__law_word) g cdg (defBody s__law_word) "_law_ask_here" q (TTw X.K [c_NoBase, c_NoLevels, c_NoTick, c_NoPeriod, c_NoTimer, c_NoOrder, c_NoSighting, c_TooMany] CT) := by
  intro f c' s H Q tl act hc h
  refine ⟨_, pss_cons (ps_try_as (X := (cxOf C8.CX0 X.prog X.w X.K X.mg X.base N__law_word "_law_word" (defScope s__law_word) g cdg X.A X.stack s H C8.E0).nox) (i := 1)
    (tb := fun W D σ H => ∃ Ech : XK, (∀ cls d σ' H', Ech cls d H' → σ'.length = N__law_word.length → W cls d σ' H') ∧ σ[0]? = some (some (.ref f)) ∧ H c' = some (LamX.CodeO c' q) ∧ tl Ech H fun _ H1 => D.nx σ H1)
    rfl rfl sc__law_word.nd rfl rfl ⟨rfl, by decide, .inl XT.g⟩ takes0 (fun W pn xe tk _ => ?_) (fun a oe cls d pn hz hf => word_suite T X_NoBase X_NoLevels X_NoTick X_NoOrder X_NoPeriod X_NoSighting X_NoTimer X_TooMany hz hf)) (pss_one (ps_ret pe_str)), ?_⟩
  · refine ⟨fun pins s' σ H' D I h' => ?_⟩
    obtain ⟨Ech, hW, h1, h2, h3⟩ := h'
    exact (pss_one (ps_expr (act _ pn xe Ech _ _ (takes_len tk) hW))).run pins s' σ H' D I ⟨h1, h2, h3⟩
  · refine ⟨_, fun cls d σ' H' hE hl => ?_, rfl, hc, h⟩
    obtain ⟨N, j, x, rfl, rfl, hx, kd, hw, q⟩ := hE
    refine ⟨true, hx, fun _ a _ => ?_, fun z => nomatch z⟩
    obtain ⟨v0, v1, v2, rfl⟩ : ∃ v0 v1 v2, σ' = [v0, v1, v2] := by
      match σ', hl with
      | [v0, v1, v2], _ => exact ⟨v0, v1, v2, rfl⟩
    exact ⟨N, j, x, v0, v2, rfl, rfl, rfl, kd, hw, q⟩
end
/-! ### law k31: the law itself -/
theorem errW5_ne {e : Nat} : errW5 e ≠ ("told" : Str) := by
  match e with
  | 0 => decide
  | 1 => decide
  | 2 => decide
  | 3 => decide
  | e + 4 => exact (by decide : ("sighting" : Str) ≠ "told")
/-- the words that may be due -/
def Word31 (w : Str) : Prop := w = "told" ∨ ∃ e, e < 5 ∧ w = errW5 e
theorem Item31.word {K : PySem.W.Frag} {H : Hp} {i : Nat} {xs : List V} {w : Str} (h : Item31 K H i xs w) : Word31 w := h.elim (fun ⟨e, he, _, hw⟩ => .inr ⟨e, he, hw⟩) fun z => .inl z.1
theorem Word31.all {Pr : Str → Prop} {w : Str} (h : Word31 w) (h0 : Pr "told") (h1 : Pr "base") (h2 : Pr "levels") (h3 : Pr "tick") (h4 : Pr "order") (h5 : Pr "sighting") : Pr w := by
  rcases h with rfl | ⟨e, he, rfl⟩
  · exact h0
  · match e, he with
    | 0, _ => exact h1
    | 1, _ => exact h2
    | 2, _ => exact h3
    | 3, _ => exact h4
    | 4, _ => exact h5
    | e + 5, z => omega
theorem Word31.odd {K : PySem.W.Frag} {H : Hp} {w : Str} (h : Word31 w) : OddW K H 0 20 (.str w) :=
  h.all (Pr := fun w => OddW K H 0 20 (.str w)) (oddw_str _ (by decide +kernel) (by decide +kernel)) (oddw_str _ (by decide +kernel) (by decide +kernel)) (oddw_str _ (by decide +kernel) (by decide +kernel)) (oddw_str _ (by decide +kernel) (by decide +kernel)) (oddw_str _ (by decide +kernel) (by decide +kernel)) (oddw_str _ (by decide +kernel) (by decide +kernel))
theorem Word31.two {w : Str} (h : Word31 w) : SeqAt.shaped (.list [.str w, .str w]) = true ∧ (PyData.list [.str w, .str w]).canLay0 = true :=
  h.all (Pr := fun w => SeqAt.shaped (.list [.str w, .str w]) = true ∧ (PyData.list [.str w, .str w]).canLay0 = true) ⟨by decide +kernel, by decide +kernel⟩ ⟨by decide +kernel, by decide +kernel⟩ ⟨by decide +kernel, by decide +kernel⟩ ⟨by decide +kernel, by decide +kernel⟩ ⟨by decide +kernel, by decide +kernel⟩ ⟨by decide +kernel, by decide +kernel⟩
theorem tabs_put {T : List (Addr × Str)} {q : Addr} {H : Hp} {xs : List V} {o : HO} (t : LamX.Tabs T H) (e : H q = some (.lst xs)) : LamX.Tabs T (upd H q o) := fun x hx => by
  have nn : ∀ {b : Addr} {u : HO}, H b = some u → u ≠ .lst xs → b ≠ q := fun h1 h2 z => by
    rw [z, e] at h1
    exact h2 (Option.some.inj h1).symm
  obtain ⟨tb, e0, h1, h2⟩ := t x hx
  refine ⟨tb, by rw [upd_ne (nn e0 (by intro z; cases z))]; exact e0, h1, fun pos cv hc => ?_⟩
  obtain ⟨c', e1, e2⟩ := h2 pos cv hc
  exact ⟨c', e1, by rw [upd_ne (nn e2 (by intro z; unfold LamX.CodeO at z; cases z))]; exact e2⟩
section
variable {X : Cx} {K : PySem.W.Frag}
/-- as word_gives, inside a comprehension -/
theorem word_givesK {g CT c_NoBase c_NoLevels c_NoTick c_NoOrder c_NoPeriod c_NoSighting c_NoTimer c_TooMany : Addr} {cdg : Value} {q : Str} (e : X.K = K) (T : Tx X.K X.mg) (XT : EG X.mg "TimerError" CT)
    (X_NoBase : EG X.mg "NoBase" c_NoBase) (X_NoLevels : EG X.mg "NoLevels" c_NoLevels) (X_NoTick : EG X.mg "NoTick" c_NoTick) (X_NoOrder : EG X.mg "NoOrder" c_NoOrder) (X_NoPeriod : EG X.mg "NoPeriod" c_NoPeriod) (X_NoSighting : EG X.mg "NoSighting" c_NoSighting) (X_NoTimer : EG X.mg "NoTimer" c_NoTimer) (X_TooMany : EG X.mg "TooMany" c_TooMany) :
    LamX.GivesTo X N__law_word "_law_word" (defScope s__law_word) g cdg (defBody s__law_word) "_law_ask_here" q (TTw K [c_NoBase, c_NoLevels, c_NoTick, c_NoPeriod, c_NoTimer, c_NoOrder, c_NoSighting, c_TooMany] CT) := by
  subst e
  exact word_gives T XT X_NoBase X_NoLevels X_NoTick X_NoOrder X_NoPeriod X_NoSighting X_NoTimer X_TooMany
end
section
variable {P : Program} {w : World} {K : PySem.W.Frag} {mg : Str → Option Value} {base : Heap}
def spLaw (K : PySem.W.Frag) (lamT : List (Addr × Str)) : Sp := fun vs H Q _ => ∃ (a : Addr) (ns : List Int), vs = [.ref a] ∧ SqL K H a (ns.map V.int) ∧ ns.length ≤ 63 ∧ LamX.Tabs lamT H ∧ ∀ H', Q (.bl true) H'
set_option maxHeartbeats 40000000 in
theorem ok_law {f fW cB Pt c_TimerError c_NoBase c_NoLevels c_NoTick c_NoOrder c_NoPeriod c_NoSighting c_NoTimer c_TooMany : Addr} {fd fdW : FuncData} {cdW : Value} {lamT : List (Addr × Str)} (F : FunC K "law" s_law f fd (.ref cB)) (T : Tx K mg)
    (FW : FunC K "_law_word" s__law_word fW fdW cdW) (m__law_word : mg "_law_word" = some (.ref fW)) (b__law_word : Binds K fdW ["_law_ask_here"] []) (TB : LamX.TabB base mg cB Pt) (hmT : (Pt, lamQ "law") ∈ lamT) (hu : ∀ p ∈ lamT, p.1 = Pt → p.2 = lamQ "law")
    (XG_TimerError : EG mg "TimerError" c_TimerError) (XG_NoBase : EG mg "NoBase" c_NoBase) (XG_NoLevels : EG mg "NoLevels" c_NoLevels) (XG_NoTick : EG mg "NoTick" c_NoTick) (XG_NoOrder : EG mg "NoOrder" c_NoOrder) (XG_NoPeriod : EG mg "NoPeriod" c_NoPeriod) (XG_NoSighting : EG mg "NoSighting" c_NoSighting) (XG_NoTimer : EG mg "NoTimer" c_NoTimer) (XG_TooMany : EG mg "TooMany" c_TooMany)
    (te : ∀ e, e < 5 → PySem.W.exmOne K (.ref (errOf5 c_NoBase c_NoLevels c_NoTick c_NoOrder c_NoSighting e)) (.ref c_TimerError) = some true)
    (kd : ∀ e, e < 5 → ∃ j, Kind8 K (errOf5 c_NoBase c_NoLevels c_NoTick c_NoOrder c_NoSighting e) [c_NoBase, c_NoLevels, c_NoTick, c_NoPeriod, c_NoTimer, c_NoOrder, c_NoSighting, c_TooMany] j ∧ words24[j]? = some (.str (errW5 e)))
    (h1 : Has P w K mg base 2 "_law_source" ["_law_script", "_law_k"] [] (spSource K)) (h2 : Has P w K mg base 4 "_law_rows" ["_law_source_here"] [] (spRows31 K))
    (h11 : Has P w K mg base 6 "_law_ask" ["_law_way", "_law_row"] [] (spAsk31C K)) (h12 : HasX P w K mg base 6 "_law_ask" ["_law_way", "_law_row"] [] (spAsk31 K c_NoBase c_NoLevels c_NoTick c_NoOrder c_NoSighting)) :
    FnG P w K mg base 9 f fd ["_law_script"] (spLaw K lamT) := by
  obtain ⟨⟨oc, kV, doc, pm, ct, od, an, osl, e1, lk__law_word, hc__law_word⟩, kp__law_word⟩ := FW
  subst e1
  obtain ⟨f__law_source, fd__law_source, ds__law_source, G__law_source, m__law_source, k__law_source, b__law_source, v__law_source⟩ := h1
  obtain ⟨f__law_rows, fd__law_rows, ds__law_rows, G__law_rows, m__law_rows, k__law_rows, b__law_rows, v__law_rows⟩ := h2
  obtain ⟨f__law_ask, fd__law_ask, ds__law_ask, G__law_ask, m__law_ask, k__law_ask, b__law_ask, v__law_ask⟩ := h11
  obtain ⟨f__law_askX, fd__law_askX, ds__law_askX, G__law_askX, m__law_askX, k__law_askX, b__law_askX, v__law_askX⟩ := h12
  refine F.okG sc_law (fun vs H Q E h => ?_) (fun A outer s H vs Q hgA hr h => ?_)
  · obtain ⟨a, ns, rfl, _⟩ := h
    rfl
  · obtain ⟨a, ns, rfl, hS, hlen, hT, fin⟩ := h
    refine ⟨_, (pss_cons (ps_for PassesOwn.never rfl (pi_range1 (by rfl) T.b_range (pa_cons (pe_callB (max2N rfl) (by rfl) T.b_max (by decide +kernel) (pa_cons pe_int (pa_cons (pe_callB (min2N rfl) (by rfl) T.b_min (by decide +kernel) (pa_cons pe_int (pa_cons (pe_callB (lenK (K := K) rfl) (by rfl) T.b_len PySem.boot_len (pa_cons (pv 0) pa_nil)) pa_nil))) pa_nil))) pa_nil)) (pg_name (i := 1) sc_law.nd rfl (.inl rfl))
        (pss_cons (ps_set (i := 2) sc_law.nd rfl (.inl rfl) (pe_call G__law_rows (hr.mono (by decide)) (by rfl) m__law_rows k__law_rows b__law_rows v__law_rows pass0 (pa_cons (pe_call G__law_source (hr.mono (by decide)) (by rfl) m__law_source k__law_source b__law_source v__law_source pass0 (pa_cons (pv 0) (pa_cons (pv 1) pa_nil))) pa_nil)))
        (pss_cons (ps_set (i := 3) sc_law.nd rfl (.inl rfl) (pe_callB (call_reprE hgA hr.units) (by rfl) T.b_repr (by decide +kernel) (pa_cons (pv 2) pa_nil)))
        (pss_cons (ps_for PassesOwn.never rfl (pi_enum (by rfl) T.b_enumerate (pa_cons (pv 2) pa_nil)) (pg_tupK (K := K) (n := 2) rfl rfl (pgs_cons (pg_name (i := 4) sc_law.nd rfl (.inl rfl)) (pgs_cons (pg_tupK (K := K) (n := 2) rfl rfl (pgs_cons (pg_name (i := 6) sc_law.nd rfl (.inr rfl)) (pgs_cons (pg_name (i := 5) sc_law.nd rfl (.inl rfl)) pgs_nil))) pgs_nil)))
          (pss_cons (ps_if (pt_cmpR (op_neK (K := K) rfl hr.units) (pe_lc (own := [("_law_way", 7)]) (g := gName 7) (tt := tYes) rfl sc_law.nd (pi_tup (pe_tup (pa_cons (pe_op op_mulN pe_int (pv 4)) (pa_cons (pe_op op_addN (pe_op op_mulN pe_int (pv 4)) pe_int) pa_nil)))) (blkOk_by (own := [("_law_way", 7)]) (N := N_law) (sc := defScope s_law) (by decide +kernel)) (fun _ _ _ _ _ => (pg_name (i := 7) sc_law.nd rfl (.inr rfl))) (fun _ _ _ _ _ => pts_nil) (fun _ _ _ _ _ => (LamX.pe_lamcall (k := 6) (T := lamT) rfl m__law_word kp__law_word lk__law_word hc__law_word b__law_word sc__law_word rfl (Or.inl (by decide +kernel)) (word_givesK (K := K) rfl T XG_TimerError XG_NoBase XG_NoLevels XG_NoTick XG_NoOrder XG_NoPeriod XG_NoSighting XG_NoTimer XG_TooMany) TB rfl hmT hu hr (LamX.lamS_by (show LamX.lamSB ({ kind := .function, names := [(".0", .local), ("_law_way", .cell), ("_law_word", .globalImplicit), ("_law_row", .cell)], isGenerator := false, isCoroutine := false } : Scope) _ = true by decide +kernel)) rfl (fun _ _ _ _ _ => rfl) (fun _ _ _ _ _ _ _ hr2 => (pe_call G__law_askX hr2 (by rfl) m__law_askX k__law_askX b__law_askX v__law_askX (passes_call (takes_of rfl rfl rfl rfl) (fun _ _ _ _ h => h)) (pa_cons (pv 7) (pa_cons (pv 6) pa_nil))))))) (pe_lst (pa_cons (pv 5) (pa_cons (pv 5) pa_nil))) (nomark _))
            (pss_one (ps_ret pe_bl))
            pss_nil)
          (pss_one (ps_if (PW.pt (pw_and (pt_cmpR op_eq (pv 5) pe_str (nomark _)) (pw_and1 (pt_cmpR (op_neK (K := K) rfl hr.units) (pe_call G__law_ask (hr.mono (by decide)) (by rfl) m__law_ask k__law_ask b__law_ask v__law_ask pass0 (pa_cons (pe_op op_mulN pe_int (pv 4)) (pa_cons (pv 6) pa_nil))) (pe_call G__law_ask (hr.mono (by decide)) (by rfl) m__law_ask k__law_ask b__law_ask v__law_ask pass0 (pa_cons (pe_op op_addN (pe_op op_mulN pe_int (pv 4)) pe_int) (pa_cons (pv 6) pa_nil))) (nomark _)))))
            (pss_one (ps_ret pe_bl))
            pss_nil))))
        (pss_one (ps_if (pt_cmpR op_ne (pe_callB (call_reprE hgA hr.units) (by rfl) T.b_repr (by decide +kernel) (pa_cons (pv 2) pa_nil)) (pv 3) (nomark _))
          (pss_one (ps_ret pe_bl))
          pss_nil))))))
      (pss_one (ps_ret pe_bl))), ?_⟩
    refine ⟨.ref a, rfl, a, ns.map V.int, rfl, .inl hS, 10, _, rfl, 1, _, rfl, _, rfl, ?_, ?_, for_range (Pv := fun i σ H' => SqL K H' a (ns.map V.int) ∧ LamX.Tabs lamT H' ∧ ∃ y1 y2 y3 y4 y5 y6 y7, σ = [some (.ref a), y1, y2, y3, y4, y5, y6, y7]) ⟨hS, hT, none, none, none, none, none, none, none, rfl⟩ ?_ ?_⟩
    · omega
    · rw [List.length_map]
      omega
    · rintro i0 σ H0 hi ⟨hS, hT, y1, y2, y3, y4, y5, y6, y7, rfl⟩
      refine ⟨.ref a, rfl, _, rfl, a, ns, 0 + i0, rfl, hS, fun H1 p s1 hp0 hsrc => ⟨p, rfl, hsrc, fun H2 M s2 hrows => ?_⟩⟩
      obtain ⟨Ts, _, _, _, eM, lT, items⟩ := hrows
      have s02 : Same H0 H2 := fun b o e => s2.keep b o (ne_of_none e hp0) (s1 b o e)
      have oTs : ∀ x ∈ Ts.map V.ref, OddW K H2 8 70020 x := fun x hx => by
        obtain ⟨T, hT, rfl⟩ := List.mem_map.mp hx
        obtain ⟨j, hj, ej⟩ := List.getElem_of_mem hT
        obtain ⟨F, w, xs, g1, g2, g3, g4, g5⟩ := items j T (by rw [List.getElem?_eq_getElem hj, ej])
        refine oddw_tup (m := 35006) (SqT.of g1) (fun y hy => ?_) (by simp)
        rcases List.mem_cons.mp hy with rfl | hy
        · exact oddw_lst (m := 7000) (SqL.of g2) g5 (by omega)
        · rw [List.mem_singleton.mp hy]
          exact g3.word.odd.mono (by decide) (by decide)
      have lM : (Ts.map V.ref).length = 3 := by rw [List.length_map, lT]
      obtain ⟨ds, d1, d2, d3, dE⟩ := repr_w (n := 8) (m := 70020) (SqL.of (K := K) eM) oTs (by decide) (by rw [lM]; decide)
      have hne : Ts.map V.ref ≠ [] := fun z => by rw [z] at lM; cases lM
      refine ⟨.ref M, rfl, M, _, ds, rfl, SqL.of eM, hne, (dE H2 (.refl _)).2, d1, d2, d3, ?_⟩
      have hT2 := hT.ext s02
      refine ⟨.ref M, rfl, M, _, rfl, SqL.of eM, for_enum (K := K) (a := M) (xs := Ts.map V.ref) (fun i σ H' => LamX.ExtN H2 H' ∧ LamX.Tabs lamT H' ∧ ∃ y1 y4 y5 y6 y7, σ = [some (.ref a), y1, some (.ref M), some (.str (PyData.list ds).shown), y4, y5, y6, y7])
        ⟨.refl _, hT2, _, _, _, _, _, rfl⟩ (fun i σ H' ⟨z, _⟩ => ExtN.seq z (SqL.of eM)) ?_ ?_⟩
      · rintro i v U σ H3 hv ⟨x23, tb3, z1, z4, z5, z6, z7, rfl⟩ hU
        obtain ⟨Ti, Fi, wi, xi, rfl, eTi, eFi, item, hi3⟩ : ∃ (Ti Fi : Addr) (wi : Str) (xi : List V), v = .ref Ti ∧ H2 Ti = some (.tup [.ref Fi, .str wi]) ∧ H2 Fi = some (.lst xi) ∧ Item31 K H2 i xi wi ∧ i < 3 := by
          rw [List.getElem?_map] at hv
          obtain ⟨T, hT, e⟩ := Option.map_eq_some_iff.mp hv
          obtain ⟨F, w, xs, g1, g2, g3, g4, g5⟩ := items i T hT
          exact ⟨T, F, w, xs, e.symm, g1, g2, g3, by rw [← lT]; exact (List.getElem?_eq_some_iff.mp hT).1⟩
        have sU := same_upd (o := .tup [.int (i : Nat), .ref Ti]) hU
        have eU : (upd H3 U (.tup [.int (i : Nat), .ref Ti])) U = some (.tup [.int (i : Nat), .ref Ti]) := upd_same
        generalize upd H3 U (.tup [.int (i : Nat), .ref Ti]) = H4 at sU eU ⊢
        have x24 := x23.trans (extN_same sU)
        have tb4 := tb3.ext sU
        have eT4 := x24 _ _ eTi (fun _ z => by cases z)
        refine ⟨U, _, rfl, .inl (.inl eU), rfl, _, _, rfl, _, _, rfl, Ti, _, rfl, .inl (.inl eT4), rfl, _, _, rfl, _, _, rfl, rfl, rfl, ?_⟩
        have hword := item.word
        -- the two calls
        refine ⟨.int (i : Nat), rfl, 2, i, rfl, rfl, nmul_l (by decide), .int (i : Nat), rfl, 2, i, rfl, rfl, nmul_l (by decide), 2 * i, 1, rfl, rfl, trivial, by simp [sizeLine_eq], fun W hW => ?_⟩
        have sW := same_upd (o := .tup [.int ((2 * i : Nat) : Int), .int ((2 * i + 1 : Nat) : Int)]) hW
        have eW : (upd H4 W (.tup [.int ((2 * i : Nat) : Int), .int ((2 * i + 1 : Nat) : Int)])) W = some (.tup [.int ((2 * i : Nat) : Int), .int ((2 * i + 1 : Nat) : Int)]) := upd_same
        generalize upd H4 W (.tup [.int ((2 * i : Nat) : Int), .int ((2 * i + 1 : Nat) : Int)]) = H5 at sW eW ⊢
        have x25 := x24.trans (extN_same sW)
        have tb5 := tb4.ext sW
        refine ⟨W, rfl, ⟨_, SqT.of eW⟩, fun G hG => lc_tup (K := K) (a := W) (xs := [.int ((2 * i : Nat) : Int), .int ((2 * i + 1 : Nat) : Int)]) (fun j H' => LamX.ExtN H5 H' ∧ LamX.Tabs lamT H' ∧ H' G = some (.lst ((List.replicate j wi).map V.str)))
          ⟨extN_same (same_upd hG), tb5.ext (same_upd hG), upd_same⟩ (fun j H' _ ⟨z, _⟩ => SqT.of (z _ _ eW (fun _ z => by cases z))) ?_ ?_⟩
        · rintro j x H' hx ⟨xt, tb, eG⟩
          obtain ⟨way, rfl, hway, hj⟩ : ∃ way : Nat, x = .int (way : Nat) ∧ way = 2 * i + j ∧ j < 2 := by
            match j, hx with
            | 0, hx => exact ⟨2 * i, (Option.some.inj hx).symm, rfl, by decide⟩
            | 1, hx => exact ⟨2 * i + 1, (Option.some.inj hx).symm, rfl, by decide⟩
            | j + 2, hx => cases hx
          refine ⟨rfl, yesT (iteT ⟨tb, fun Ha xa tba => ?_⟩)⟩
          have xall := (x25.trans xt).trans xa
          have eGa := xa _ _ eG (fun _ z => by cases z)
          have eFa := xall _ _ eFi (fun _ z => by cases z)
          have itm := item.ext xall
          have app : ∀ (Hn : Hp) (wd : Str), Same Ha Hn → wi = wd → ∃ acc, Hn G = some (.lst acc) ∧ acc.length < sizeLine ∧ (LamX.ExtN H5 (upd Hn G (.lst (acc ++ [.str wd]))) ∧ LamX.Tabs lamT (upd Hn G (.lst (acc ++ [.str wd]))) ∧ (upd Hn G (.lst (acc ++ [.str wd]))) G = some (.lst ((List.replicate (j + 1) wi).map V.str))) := fun Hn wd sn hwd => by
            refine ⟨_, sn _ _ eGa, ?_, fun c o e n => ?_, tabs_put (tba.ext sn) (sn _ _ eGa), ?_⟩
            · rw [List.length_map, List.length_replicate]
              exact sizeLine_ge (by omega)
            · rw [upd_ne (ne_of_none e hG)]
              exact sn _ _ (xa _ _ (xt _ _ e n) n)
            · rw [upd_same, List.replicate_succ', List.map_append, hwd]
              rfl
          refine ⟨.int (way : Nat), rfl, .ref Fi, rfl, way, i, Fi, xi, rfl, by omega, SqL.of eFa, ?_⟩
          rcases itm with ⟨e, he, hb, hwe⟩ | ⟨hwt, D, hD⟩
          · obtain ⟨j', hk, hj'⟩ := kd e he
            exact .inl ⟨e, hb, fun Hb sb => ⟨_, j', _, rfl, rfl, te e he, hk, hj', fun Hc sc => app Hc _ (sb.trans sc) hwe⟩⟩
          · exact .inr ⟨D, hD, fun Hb v sb _ => app Hb _ sb hwt⟩
        rintro H6 ⟨x56, tb6, eG⟩
        refine ⟨.str wi, rfl, .str wi, rfl, by simp [sizeLine_eq], fun L hL => ?_⟩
        have sL := same_upd (o := .lst [.str wi, .str wi]) hL
        have eL : (upd H6 L (.lst [.str wi, .str wi])) L = some (.lst [.str wi, .str wi]) := upd_same
        generalize upd H6 L (.lst [.str wi, .str wi]) = H7 at sL eL ⊢
        have dp : ∀ {b : Addr}, H7 b = some (.lst [.str wi, .str wi]) → Dp K H7 (.ref b) (.list [.str wi, .str wi]) := fun e => .lst (SqL.of e) (.cons (.str _) (.cons (.str _) .nil))
        refine ⟨_, _, dp (sL _ _ eG), dp eL, hword.two.1, hword.two.1, false, neq_refl hword.two.2, iteF ?_⟩
        have x27 := (x25.trans x56).trans (extN_same sL)
        have tb7 := tb6.ext sL
        clear dp eL eG
        -- told, the same by name
        have itm := item.ext x27
        have eF7 := x27 _ _ eFi (fun _ z => by cases z)
        rcases itm with ⟨e, he, hb, hwe⟩ | ⟨hwt, D, hD⟩
        · exact ⟨.str wi, rfl, rfl, false, dF (fun z => errW5_ne (hwe.symm.trans (V.str.inj z))), iteF (iteF ⟨x27, tb7, _, _, _, _, _, rfl⟩)⟩
        · have hok := hD.ok
          refine ⟨.str wi, rfl, rfl, true, dT (congrArg V.str hwt), iteT ?_⟩
          refine ⟨.int (i : Nat), rfl, 2, i, rfl, rfl, nmul_l (by decide), .ref Fi, rfl, 2 * i, i, Fi, _, rfl, by omega, SqL.of eF7, D, hD, fun H8 v8 s8 d8 => ?_⟩
          refine ⟨.int (i : Nat), rfl, 2, i, rfl, rfl, nmul_l (by decide), 2 * i, 1, rfl, rfl, trivial, .ref Fi, rfl, 2 * i + 1, i, Fi, _, rfl, by omega, SqL.of (s8 _ _ eF7), D, hD.same s8, fun H9 v9 s9 d9 => ?_⟩
          refine ⟨_, _, dp_same s9 d8, d9, hok.1, hok.1, false, neq_refl hok.2, iteF ?_⟩
          exact ⟨(x27.trans (extN_same s8)).trans (extN_same s9), (tb7.ext s8).ext s9, _, _, _, _, _, rfl⟩
      · rintro σ H3 ⟨x23, tb3, z1, z4, z5, z6, z7, rfl⟩
        refine ⟨.ref M, rfl, M, _, ds, rfl, (dE H3 x23).1, hne, (dE H3 x23).2, d1, d2, d3, _, rfl, rfl, false, nF rfl, iteF ?_⟩
        exact ⟨ExtN.seq ((extN_same s02).trans x23) hS, tb3, _, _, _, _, _, _, _, rfl⟩
    · rintro σ H' ⟨hS, hT, y1, y2, y3, y4, y5, y6, y7, rfl⟩
      exact fin H'
end
/-! ### classes of errors, told apart -/
section
variable {K : PySem.W.Frag}
theorem cls_ok {O : Addr} (hd : PySem.W.hasDictIn K O = true) (ht : PySem.W.typeIn K (.ref O) = some (.type "type")) : ((PySem.W.clsIn K O).isSome && PySem.W.typeIn K (.ref O) == some (.type "type")) = true := by
  obtain ⟨cd, hc, _⟩ := PySem.W.any_some hd
  rw [hc, ht] <;> rfl
/-- an error of one class is none of another -/
theorem kit_no {N O : Addr} (hN : PySem.W.subIn K (.ref N) (.ref N) = some true) (hd : PySem.W.hasDictIn K O = true) (ht : PySem.W.typeIn K (.ref O) = some (.type "type")) (h : PySem.W.subIn K (.ref N) (.ref O) = some false) : PySem.W.kitOne K (.ref N) (.ref O) = some false := by
  have ne : ¬ (Value.ref N == Value.ref O) = true := fun q => by
    have e : N = O := Value.ref.inj (beq_iff_eq.mp q)
    subst e
    rw [hN] at h
    cases h
  have e2 := cls_ok hd ht
  unfold PySem.W.kitOne
  rw [if_neg ne]
  show (if ((PySem.W.clsIn K O).isSome && PySem.W.typeIn K (.ref O) == some (.type "type")) = true then PySem.W.subIn K (.ref N) (.ref O) else none) = some false
  rw [if_pos e2]
  exact h
end
section
variable {K : PySem.W.Frag}
theorem kit_self (N : Addr) : PySem.W.kitOne K (.ref N) (.ref N) = some true := by
  unfold PySem.W.kitOne
  rw [if_pos (beq_self_eq_true _)]
theorem kit_ve {N : Addr} (h : PySem.W.subIn K (.ref N) (.type "ValueError") = some true) : PySem.W.kitOne K (.ref N) (.type "ValueError") = some true := by
  have ne : ¬ (Value.ref N == Value.type "ValueError") = true := fun q => by
    have e : Value.ref N = Value.type "ValueError" := beq_iff_eq.mp q
    cases e
  unfold PySem.W.kitOne
  rw [if_neg ne]
  show (if PySem.W.kitMeta "ValueError" = true then PySem.W.subIn K (.ref N) (.type "ValueError") else none) = some true
  rw [if_pos (by decide +kernel)]
  exact h
end
/-- an error of the j-th class of eight -/
theorem kind8_of {K : PySem.W.Frag} {N c0 c1 c2 c3 c4 c5 c6 c7 : Addr} (j : Nat) (ec : ExcC K N) (ve : PySem.W.subIn K (.ref N) (.type "ValueError") = some true) (lt : j < 8)
    (h : ∀ i c, [c0, c1, c2, c3, c4, c5, c6, c7][i]? = some c → (i = j → c = N) ∧ (i ≠ j → PySem.W.kitOne K (.ref N) (.ref c) = some false)) : Kind8 K N [c0, c1, c2, c3, c4, c5, c6, c7] j := ⟨ec, kit_ve ve, lt, fun i c hc => by
  obtain ⟨h1, h2⟩ := h i c hc
  by_cases e : i = j
  · rw [h1 e, decide_eq_true e]
    exact kit_self N
  · rw [decide_eq_false e]
    exact h2 e⟩
theorem eight_at {c0 c1 c2 c3 c4 c5 c6 c7 : Addr} {Pr : Nat → Addr → Prop} (h0 : Pr 0 c0) (h1 : Pr 1 c1) (h2 : Pr 2 c2) (h3 : Pr 3 c3) (h4 : Pr 4 c4) (h5 : Pr 5 c5) (h6 : Pr 6 c6) (h7 : Pr 7 c7) : ∀ i c, [c0, c1, c2, c3, c4, c5, c6, c7][i]? = some c → Pr i c := fun i c hc => by
  match i, hc with
  | 0, hc => cases hc; exact h0
  | 1, hc => cases hc; exact h1
  | 2, hc => cases hc; exact h2
  | 3, hc => cases hc; exact h3
  | 4, hc => cases hc; exact h4
  | 5, hc => cases hc; exact h5
  | 6, hc => cases hc; exact h6
  | 7, hc => cases hc; exact h7
  | i + 8, hc => cases hc
theorem all_mk {l : PySem.W.OpenLaw} {w : World} {K : PySem.W.Frag} {h : Heap} {mg : Str → Option Value} {fa : Addr} {ts : List Addr} (X : K.In h) (G : h.Ns mainGlobals mg) (hfa : mg "law" = some (.ref fa)) (hT8 : ∀ Pt ∈ ts, h.get? Pt = some (PySem.W.tabObj #[]))
    {f_WORDS : Addr} {od_WORDS : Option Addr} {tk0_WORDS tk1_WORDS : Tok} {tn_WORDS : Nat} {ts_WORDS : Array (Option Value)}
    {tk_MOST_LEVELS : Tok}
    {f_SIDES : Addr} {od_SIDES : Option Addr} {tk0_SIDES tk1_SIDES : Tok} {tn_SIDES : Nat} {ts_SIDES : Array (Option Value)}
    {f_is_integer f_is_word f_is_base f_is_length f_are_levels f_is_tick f_check_base f_check_levels f_check_tick f_word_at f_level_and_size f_path f_goes_in_front f_check_order f_ticks_and_sides f_sides_wanted f_set_ticks f_size_of_lowest_stack f_powers f_telling_dues f_first_difference f_told_apart f_is_sighting f_check_many f_check_seen f_equation f_reduced f_word_that_follows f_least_and_count f_levels_seen f_law_cell_at f_law_mixed f_law_source f_law_next f_law_base f_law_words_of f_law_word f_law_bad_base f_law_bad_levels f_law_bad_tick f_law_bad_order f_law_bad_seen f_law_ask f_law_spoilt f_law_rows f_law : Addr}
    {od_is_integer an_is_integer od_is_word an_is_word od_is_base an_is_base od_is_length an_is_length od_are_levels an_are_levels od_is_tick an_is_tick od_check_base an_check_base od_check_levels an_check_levels od_check_tick an_check_tick od_word_at an_word_at od_level_and_size an_level_and_size od_path an_path od_goes_in_front an_goes_in_front od_check_order an_check_order od_ticks_and_sides an_ticks_and_sides od_sides_wanted an_sides_wanted od_set_ticks an_set_ticks od_size_of_lowest_stack an_size_of_lowest_stack od_powers an_powers od_telling_dues an_telling_dues od_first_difference an_first_difference od_told_apart an_told_apart od_is_sighting an_is_sighting od_check_many an_check_many od_check_seen an_check_seen od_equation an_equation od_reduced an_reduced od_word_that_follows an_word_that_follows od_least_and_count an_least_and_count od_levels_seen an_levels_seen od_law_cell_at an_law_cell_at od_law_mixed an_law_mixed od_law_source an_law_source od_law_next an_law_next od_law_base an_law_base od_law_words_of an_law_words_of od_law_word an_law_word od_law_bad_base an_law_bad_base od_law_bad_levels an_law_bad_levels od_law_bad_tick an_law_bad_tick od_law_bad_order an_law_bad_order od_law_bad_seen an_law_bad_seen od_law_ask an_law_ask od_law_spoilt an_law_spoilt od_law_rows an_law_rows od_law an_law : Option Addr}
    {sl_is_integer sl_is_word sl_is_base sl_is_length sl_are_levels sl_is_tick sl_check_base sl_check_levels sl_check_tick sl_word_at sl_level_and_size sl_path sl_goes_in_front sl_check_order sl_ticks_and_sides sl_sides_wanted sl_set_ticks sl_size_of_lowest_stack sl_powers sl_telling_dues sl_first_difference sl_told_apart sl_is_sighting sl_check_many sl_check_seen sl_equation sl_reduced sl_word_that_follows sl_least_and_count sl_levels_seen sl_law_cell_at sl_law_mixed sl_law_source sl_law_next sl_law_base sl_law_words_of sl_law_word sl_law_bad_base sl_law_bad_levels sl_law_bad_tick sl_law_bad_order sl_law_bad_seen sl_law_ask sl_law_spoilt sl_law_rows sl_law : Array (Option Value)}
    {oc_is_integer kV_is_integer dc_is_integer pm_is_integer cd_is_integer ct_is_integer oc_is_word kV_is_word dc_is_word pm_is_word cd_is_word ct_is_word oc_is_base kV_is_base dc_is_base pm_is_base cd_is_base ct_is_base oc_is_length kV_is_length dc_is_length pm_is_length cd_is_length ct_is_length oc_are_levels kV_are_levels dc_are_levels pm_are_levels cd_are_levels ct_are_levels oc_is_tick kV_is_tick dc_is_tick pm_is_tick cd_is_tick ct_is_tick oc_check_base kV_check_base dc_check_base pm_check_base cd_check_base ct_check_base oc_check_levels kV_check_levels dc_check_levels pm_check_levels cd_check_levels ct_check_levels oc_check_tick kV_check_tick dc_check_tick pm_check_tick cd_check_tick ct_check_tick oc_word_at kV_word_at dc_word_at pm_word_at cd_word_at ct_word_at oc_level_and_size kV_level_and_size dc_level_and_size pm_level_and_size cd_level_and_size ct_level_and_size oc_path kV_path dc_path pm_path cd_path ct_path oc_goes_in_front kV_goes_in_front dc_goes_in_front pm_goes_in_front cd_goes_in_front ct_goes_in_front oc_check_order kV_check_order dc_check_order pm_check_order cd_check_order ct_check_order oc_ticks_and_sides kV_ticks_and_sides dc_ticks_and_sides pm_ticks_and_sides cd_ticks_and_sides ct_ticks_and_sides oc_sides_wanted kV_sides_wanted dc_sides_wanted pm_sides_wanted cd_sides_wanted ct_sides_wanted oc_set_ticks kV_set_ticks dc_set_ticks pm_set_ticks cd_set_ticks ct_set_ticks oc_size_of_lowest_stack kV_size_of_lowest_stack dc_size_of_lowest_stack pm_size_of_lowest_stack cd_size_of_lowest_stack ct_size_of_lowest_stack oc_powers kV_powers dc_powers pm_powers cd_powers ct_powers oc_telling_dues kV_telling_dues dc_telling_dues pm_telling_dues cd_telling_dues ct_telling_dues oc_first_difference kV_first_difference dc_first_difference pm_first_difference cd_first_difference ct_first_difference oc_told_apart kV_told_apart dc_told_apart pm_told_apart cd_told_apart ct_told_apart oc_is_sighting kV_is_sighting dc_is_sighting pm_is_sighting cd_is_sighting ct_is_sighting oc_check_many kV_check_many dc_check_many pm_check_many cd_check_many ct_check_many oc_check_seen kV_check_seen dc_check_seen pm_check_seen cd_check_seen ct_check_seen oc_equation kV_equation dc_equation pm_equation cd_equation ct_equation oc_reduced kV_reduced dc_reduced pm_reduced cd_reduced ct_reduced oc_word_that_follows kV_word_that_follows dc_word_that_follows pm_word_that_follows cd_word_that_follows ct_word_that_follows oc_least_and_count kV_least_and_count dc_least_and_count pm_least_and_count cd_least_and_count ct_least_and_count oc_levels_seen kV_levels_seen dc_levels_seen pm_levels_seen cd_levels_seen ct_levels_seen oc_law_cell_at kV_law_cell_at dc_law_cell_at pm_law_cell_at cd_law_cell_at ct_law_cell_at oc_law_mixed kV_law_mixed dc_law_mixed pm_law_mixed cd_law_mixed ct_law_mixed oc_law_source kV_law_source dc_law_source pm_law_source cd_law_source ct_law_source oc_law_next kV_law_next dc_law_next pm_law_next cd_law_next ct_law_next oc_law_base kV_law_base dc_law_base pm_law_base cd_law_base ct_law_base oc_law_words_of kV_law_words_of dc_law_words_of pm_law_words_of cd_law_words_of ct_law_words_of oc_law_word kV_law_word dc_law_word pm_law_word cd_law_word ct_law_word oc_law_bad_base kV_law_bad_base dc_law_bad_base pm_law_bad_base cd_law_bad_base ct_law_bad_base oc_law_bad_levels kV_law_bad_levels dc_law_bad_levels pm_law_bad_levels cd_law_bad_levels ct_law_bad_levels oc_law_bad_tick kV_law_bad_tick dc_law_bad_tick pm_law_bad_tick cd_law_bad_tick ct_law_bad_tick oc_law_bad_order kV_law_bad_order dc_law_bad_order pm_law_bad_order cd_law_bad_order ct_law_bad_order oc_law_bad_seen kV_law_bad_seen dc_law_bad_seen pm_law_bad_seen cd_law_bad_seen ct_law_bad_seen oc_law_ask kV_law_ask dc_law_ask pm_law_ask cd_law_ask ct_law_ask oc_law_spoilt kV_law_spoilt dc_law_spoilt pm_law_spoilt cd_law_spoilt ct_law_spoilt oc_law_rows kV_law_rows dc_law_rows pm_law_rows cd_law_rows ct_law_rows oc_law kV_law dc_law pm_law ct_law : Value}
    {c_NoBase c_NoLevels c_NoTick c_NoOrder c_NoSighting c_TimerError c_NoPeriod c_NoTimer c_TooMany : Addr}
    {dT_is_tick : Addr} {tc_is_tick : Value} {td_is_tick : Option Addr} {tt_is_tick : Tok} {tn_is_tick : Nat} {ts_is_tick : Array (Option Value)}
    {dT_check_tick : Addr} {tc_check_tick : Value} {td_check_tick : Option Addr} {tt_check_tick : Tok} {tn_check_tick : Nat} {ts_check_tick : Array (Option Value)}
    {cc_law P_law : Addr} {dd_law : Option Addr} {vs_law : Array Value} {sv_law : Array (Option Value)}
    (a_is_integer : PySem.W.nsIn K mainGlobals "is_integer" = some (some (.ref f_is_integer)))
    (l_is_integer : K.lookup f_is_integer = some ⟨oc_is_integer, od_is_integer, .func (PySem.W.fnOf "is_integer" "is_integer" (defArgs s_is_integer) (defBody s_is_integer) (defScope s_is_integer) .none kV_is_integer dc_is_integer pm_is_integer an_is_integer cd_is_integer ct_is_integer), sl_is_integer⟩)
    (c_is_integer : PySem.W.codeIn K cd_is_integer "is_integer" = true) (k_is_integer : PySem.W.keepIn K (.ref f_is_integer) = true)
    (a_is_word : PySem.W.nsIn K mainGlobals "is_word" = some (some (.ref f_is_word)))
    (l_is_word : K.lookup f_is_word = some ⟨oc_is_word, od_is_word, .func (PySem.W.fnOf "is_word" "is_word" (defArgs s_is_word) (defBody s_is_word) (defScope s_is_word) .none kV_is_word dc_is_word pm_is_word an_is_word cd_is_word ct_is_word), sl_is_word⟩)
    (c_is_word : PySem.W.codeIn K cd_is_word "is_word" = true) (k_is_word : PySem.W.keepIn K (.ref f_is_word) = true)
    (a_is_base : PySem.W.nsIn K mainGlobals "is_base" = some (some (.ref f_is_base)))
    (l_is_base : K.lookup f_is_base = some ⟨oc_is_base, od_is_base, .func (PySem.W.fnOf "is_base" "is_base" (defArgs s_is_base) (defBody s_is_base) (defScope s_is_base) .none kV_is_base dc_is_base pm_is_base an_is_base cd_is_base ct_is_base), sl_is_base⟩)
    (c_is_base : PySem.W.codeIn K cd_is_base "is_base" = true) (k_is_base : PySem.W.keepIn K (.ref f_is_base) = true)
    (a_is_length : PySem.W.nsIn K mainGlobals "is_length" = some (some (.ref f_is_length)))
    (l_is_length : K.lookup f_is_length = some ⟨oc_is_length, od_is_length, .func (PySem.W.fnOf "is_length" "is_length" (defArgs s_is_length) (defBody s_is_length) (defScope s_is_length) .none kV_is_length dc_is_length pm_is_length an_is_length cd_is_length ct_is_length), sl_is_length⟩)
    (c_is_length : PySem.W.codeIn K cd_is_length "is_length" = true) (k_is_length : PySem.W.keepIn K (.ref f_is_length) = true)
    (a_are_levels : PySem.W.nsIn K mainGlobals "are_levels" = some (some (.ref f_are_levels)))
    (l_are_levels : K.lookup f_are_levels = some ⟨oc_are_levels, od_are_levels, .func (PySem.W.fnOf "are_levels" "are_levels" (defArgs s_are_levels) (defBody s_are_levels) (defScope s_are_levels) .none kV_are_levels dc_are_levels pm_are_levels an_are_levels cd_are_levels ct_are_levels), sl_are_levels⟩)
    (c_are_levels : PySem.W.codeIn K cd_are_levels "are_levels" = true) (k_are_levels : PySem.W.keepIn K (.ref f_are_levels) = true)
    (a_is_tick : PySem.W.nsIn K mainGlobals "is_tick" = some (some (.ref f_is_tick)))
    (l_is_tick : K.lookup f_is_tick = some ⟨oc_is_tick, od_is_tick, .func (PySem.W.fnOf "is_tick" "is_tick" (defArgs s_is_tick) (defBody s_is_tick) (defScope s_is_tick) (.ref dT_is_tick) kV_is_tick dc_is_tick pm_is_tick an_is_tick cd_is_tick ct_is_tick), sl_is_tick⟩)
    (t_is_tick : K.lookup dT_is_tick = some ⟨tc_is_tick, td_is_tick, .seq #[.int 0 tt_is_tick] tn_is_tick, ts_is_tick⟩)
    (c_is_tick : PySem.W.codeIn K cd_is_tick "is_tick" = true) (k_is_tick : PySem.W.keepIn K (.ref f_is_tick) = true)
    (a_check_base : PySem.W.nsIn K mainGlobals "check_base" = some (some (.ref f_check_base)))
    (l_check_base : K.lookup f_check_base = some ⟨oc_check_base, od_check_base, .func (PySem.W.fnOf "check_base" "check_base" (defArgs s_check_base) (defBody s_check_base) (defScope s_check_base) .none kV_check_base dc_check_base pm_check_base an_check_base cd_check_base ct_check_base), sl_check_base⟩)
    (c_check_base : PySem.W.codeIn K cd_check_base "check_base" = true) (k_check_base : PySem.W.keepIn K (.ref f_check_base) = true)
    (a_check_levels : PySem.W.nsIn K mainGlobals "check_levels" = some (some (.ref f_check_levels)))
    (l_check_levels : K.lookup f_check_levels = some ⟨oc_check_levels, od_check_levels, .func (PySem.W.fnOf "check_levels" "check_levels" (defArgs s_check_levels) (defBody s_check_levels) (defScope s_check_levels) .none kV_check_levels dc_check_levels pm_check_levels an_check_levels cd_check_levels ct_check_levels), sl_check_levels⟩)
    (c_check_levels : PySem.W.codeIn K cd_check_levels "check_levels" = true) (k_check_levels : PySem.W.keepIn K (.ref f_check_levels) = true)
    (a_check_tick : PySem.W.nsIn K mainGlobals "check_tick" = some (some (.ref f_check_tick)))
    (l_check_tick : K.lookup f_check_tick = some ⟨oc_check_tick, od_check_tick, .func (PySem.W.fnOf "check_tick" "check_tick" (defArgs s_check_tick) (defBody s_check_tick) (defScope s_check_tick) (.ref dT_check_tick) kV_check_tick dc_check_tick pm_check_tick an_check_tick cd_check_tick ct_check_tick), sl_check_tick⟩)
    (t_check_tick : K.lookup dT_check_tick = some ⟨tc_check_tick, td_check_tick, .seq #[.int 0 tt_check_tick] tn_check_tick, ts_check_tick⟩)
    (c_check_tick : PySem.W.codeIn K cd_check_tick "check_tick" = true) (k_check_tick : PySem.W.keepIn K (.ref f_check_tick) = true)
    (a_word_at : PySem.W.nsIn K mainGlobals "word_at" = some (some (.ref f_word_at)))
    (l_word_at : K.lookup f_word_at = some ⟨oc_word_at, od_word_at, .func (PySem.W.fnOf "word_at" "word_at" (defArgs s_word_at) (defBody s_word_at) (defScope s_word_at) .none kV_word_at dc_word_at pm_word_at an_word_at cd_word_at ct_word_at), sl_word_at⟩)
    (c_word_at : PySem.W.codeIn K cd_word_at "word_at" = true) (k_word_at : PySem.W.keepIn K (.ref f_word_at) = true)
    (a_level_and_size : PySem.W.nsIn K mainGlobals "level_and_size" = some (some (.ref f_level_and_size)))
    (l_level_and_size : K.lookup f_level_and_size = some ⟨oc_level_and_size, od_level_and_size, .func (PySem.W.fnOf "level_and_size" "level_and_size" (defArgs s_level_and_size) (defBody s_level_and_size) (defScope s_level_and_size) .none kV_level_and_size dc_level_and_size pm_level_and_size an_level_and_size cd_level_and_size ct_level_and_size), sl_level_and_size⟩)
    (c_level_and_size : PySem.W.codeIn K cd_level_and_size "level_and_size" = true) (k_level_and_size : PySem.W.keepIn K (.ref f_level_and_size) = true)
    (a_path : PySem.W.nsIn K mainGlobals "path" = some (some (.ref f_path)))
    (l_path : K.lookup f_path = some ⟨oc_path, od_path, .func (PySem.W.fnOf "path" "path" (defArgs s_path) (defBody s_path) (defScope s_path) .none kV_path dc_path pm_path an_path cd_path ct_path), sl_path⟩)
    (c_path : PySem.W.codeIn K cd_path "path" = true) (k_path : PySem.W.keepIn K (.ref f_path) = true)
    (a_goes_in_front : PySem.W.nsIn K mainGlobals "goes_in_front" = some (some (.ref f_goes_in_front)))
    (l_goes_in_front : K.lookup f_goes_in_front = some ⟨oc_goes_in_front, od_goes_in_front, .func (PySem.W.fnOf "goes_in_front" "goes_in_front" (defArgs s_goes_in_front) (defBody s_goes_in_front) (defScope s_goes_in_front) .none kV_goes_in_front dc_goes_in_front pm_goes_in_front an_goes_in_front cd_goes_in_front ct_goes_in_front), sl_goes_in_front⟩)
    (c_goes_in_front : PySem.W.codeIn K cd_goes_in_front "goes_in_front" = true) (k_goes_in_front : PySem.W.keepIn K (.ref f_goes_in_front) = true)
    (a_check_order : PySem.W.nsIn K mainGlobals "check_order" = some (some (.ref f_check_order)))
    (l_check_order : K.lookup f_check_order = some ⟨oc_check_order, od_check_order, .func (PySem.W.fnOf "check_order" "check_order" (defArgs s_check_order) (defBody s_check_order) (defScope s_check_order) .none kV_check_order dc_check_order pm_check_order an_check_order cd_check_order ct_check_order), sl_check_order⟩)
    (c_check_order : PySem.W.codeIn K cd_check_order "check_order" = true) (k_check_order : PySem.W.keepIn K (.ref f_check_order) = true)
    (a_ticks_and_sides : PySem.W.nsIn K mainGlobals "ticks_and_sides" = some (some (.ref f_ticks_and_sides)))
    (l_ticks_and_sides : K.lookup f_ticks_and_sides = some ⟨oc_ticks_and_sides, od_ticks_and_sides, .func (PySem.W.fnOf "ticks_and_sides" "ticks_and_sides" (defArgs s_ticks_and_sides) (defBody s_ticks_and_sides) (defScope s_ticks_and_sides) .none kV_ticks_and_sides dc_ticks_and_sides pm_ticks_and_sides an_ticks_and_sides cd_ticks_and_sides ct_ticks_and_sides), sl_ticks_and_sides⟩)
    (c_ticks_and_sides : PySem.W.codeIn K cd_ticks_and_sides "ticks_and_sides" = true) (k_ticks_and_sides : PySem.W.keepIn K (.ref f_ticks_and_sides) = true)
    (a_sides_wanted : PySem.W.nsIn K mainGlobals "sides_wanted" = some (some (.ref f_sides_wanted)))
    (l_sides_wanted : K.lookup f_sides_wanted = some ⟨oc_sides_wanted, od_sides_wanted, .func (PySem.W.fnOf "sides_wanted" "sides_wanted" (defArgs s_sides_wanted) (defBody s_sides_wanted) (defScope s_sides_wanted) .none kV_sides_wanted dc_sides_wanted pm_sides_wanted an_sides_wanted cd_sides_wanted ct_sides_wanted), sl_sides_wanted⟩)
    (c_sides_wanted : PySem.W.codeIn K cd_sides_wanted "sides_wanted" = true) (k_sides_wanted : PySem.W.keepIn K (.ref f_sides_wanted) = true)
    (a_set_ticks : PySem.W.nsIn K mainGlobals "set_ticks" = some (some (.ref f_set_ticks)))
    (l_set_ticks : K.lookup f_set_ticks = some ⟨oc_set_ticks, od_set_ticks, .func (PySem.W.fnOf "set_ticks" "set_ticks" (defArgs s_set_ticks) (defBody s_set_ticks) (defScope s_set_ticks) .none kV_set_ticks dc_set_ticks pm_set_ticks an_set_ticks cd_set_ticks ct_set_ticks), sl_set_ticks⟩)
    (c_set_ticks : PySem.W.codeIn K cd_set_ticks "set_ticks" = true) (k_set_ticks : PySem.W.keepIn K (.ref f_set_ticks) = true)
    (a_size_of_lowest_stack : PySem.W.nsIn K mainGlobals "size_of_lowest_stack" = some (some (.ref f_size_of_lowest_stack)))
    (l_size_of_lowest_stack : K.lookup f_size_of_lowest_stack = some ⟨oc_size_of_lowest_stack, od_size_of_lowest_stack, .func (PySem.W.fnOf "size_of_lowest_stack" "size_of_lowest_stack" (defArgs s_size_of_lowest_stack) (defBody s_size_of_lowest_stack) (defScope s_size_of_lowest_stack) .none kV_size_of_lowest_stack dc_size_of_lowest_stack pm_size_of_lowest_stack an_size_of_lowest_stack cd_size_of_lowest_stack ct_size_of_lowest_stack), sl_size_of_lowest_stack⟩)
    (c_size_of_lowest_stack : PySem.W.codeIn K cd_size_of_lowest_stack "size_of_lowest_stack" = true) (k_size_of_lowest_stack : PySem.W.keepIn K (.ref f_size_of_lowest_stack) = true)
    (a_powers : PySem.W.nsIn K mainGlobals "powers" = some (some (.ref f_powers)))
    (l_powers : K.lookup f_powers = some ⟨oc_powers, od_powers, .func (PySem.W.fnOf "powers" "powers" (defArgs s_powers) (defBody s_powers) (defScope s_powers) .none kV_powers dc_powers pm_powers an_powers cd_powers ct_powers), sl_powers⟩)
    (c_powers : PySem.W.codeIn K cd_powers "powers" = true) (k_powers : PySem.W.keepIn K (.ref f_powers) = true)
    (a_telling_dues : PySem.W.nsIn K mainGlobals "telling_dues" = some (some (.ref f_telling_dues)))
    (l_telling_dues : K.lookup f_telling_dues = some ⟨oc_telling_dues, od_telling_dues, .func (PySem.W.fnOf "telling_dues" "telling_dues" (defArgs s_telling_dues) (defBody s_telling_dues) (defScope s_telling_dues) .none kV_telling_dues dc_telling_dues pm_telling_dues an_telling_dues cd_telling_dues ct_telling_dues), sl_telling_dues⟩)
    (c_telling_dues : PySem.W.codeIn K cd_telling_dues "telling_dues" = true) (k_telling_dues : PySem.W.keepIn K (.ref f_telling_dues) = true)
    (a_first_difference : PySem.W.nsIn K mainGlobals "first_difference" = some (some (.ref f_first_difference)))
    (l_first_difference : K.lookup f_first_difference = some ⟨oc_first_difference, od_first_difference, .func (PySem.W.fnOf "first_difference" "first_difference" (defArgs s_first_difference) (defBody s_first_difference) (defScope s_first_difference) .none kV_first_difference dc_first_difference pm_first_difference an_first_difference cd_first_difference ct_first_difference), sl_first_difference⟩)
    (c_first_difference : PySem.W.codeIn K cd_first_difference "first_difference" = true) (k_first_difference : PySem.W.keepIn K (.ref f_first_difference) = true)
    (a_told_apart : PySem.W.nsIn K mainGlobals "told_apart" = some (some (.ref f_told_apart)))
    (l_told_apart : K.lookup f_told_apart = some ⟨oc_told_apart, od_told_apart, .func (PySem.W.fnOf "told_apart" "told_apart" (defArgs s_told_apart) (defBody s_told_apart) (defScope s_told_apart) .none kV_told_apart dc_told_apart pm_told_apart an_told_apart cd_told_apart ct_told_apart), sl_told_apart⟩)
    (c_told_apart : PySem.W.codeIn K cd_told_apart "told_apart" = true) (k_told_apart : PySem.W.keepIn K (.ref f_told_apart) = true)
    (a_is_sighting : PySem.W.nsIn K mainGlobals "is_sighting" = some (some (.ref f_is_sighting)))
    (l_is_sighting : K.lookup f_is_sighting = some ⟨oc_is_sighting, od_is_sighting, .func (PySem.W.fnOf "is_sighting" "is_sighting" (defArgs s_is_sighting) (defBody s_is_sighting) (defScope s_is_sighting) .none kV_is_sighting dc_is_sighting pm_is_sighting an_is_sighting cd_is_sighting ct_is_sighting), sl_is_sighting⟩)
    (c_is_sighting : PySem.W.codeIn K cd_is_sighting "is_sighting" = true) (k_is_sighting : PySem.W.keepIn K (.ref f_is_sighting) = true)
    (a_check_many : PySem.W.nsIn K mainGlobals "check_many" = some (some (.ref f_check_many)))
    (l_check_many : K.lookup f_check_many = some ⟨oc_check_many, od_check_many, .func (PySem.W.fnOf "check_many" "check_many" (defArgs s_check_many) (defBody s_check_many) (defScope s_check_many) .none kV_check_many dc_check_many pm_check_many an_check_many cd_check_many ct_check_many), sl_check_many⟩)
    (c_check_many : PySem.W.codeIn K cd_check_many "check_many" = true) (k_check_many : PySem.W.keepIn K (.ref f_check_many) = true)
    (a_check_seen : PySem.W.nsIn K mainGlobals "check_seen" = some (some (.ref f_check_seen)))
    (l_check_seen : K.lookup f_check_seen = some ⟨oc_check_seen, od_check_seen, .func (PySem.W.fnOf "check_seen" "check_seen" (defArgs s_check_seen) (defBody s_check_seen) (defScope s_check_seen) .none kV_check_seen dc_check_seen pm_check_seen an_check_seen cd_check_seen ct_check_seen), sl_check_seen⟩)
    (c_check_seen : PySem.W.codeIn K cd_check_seen "check_seen" = true) (k_check_seen : PySem.W.keepIn K (.ref f_check_seen) = true)
    (a_equation : PySem.W.nsIn K mainGlobals "equation" = some (some (.ref f_equation)))
    (l_equation : K.lookup f_equation = some ⟨oc_equation, od_equation, .func (PySem.W.fnOf "equation" "equation" (defArgs s_equation) (defBody s_equation) (defScope s_equation) .none kV_equation dc_equation pm_equation an_equation cd_equation ct_equation), sl_equation⟩)
    (c_equation : PySem.W.codeIn K cd_equation "equation" = true) (k_equation : PySem.W.keepIn K (.ref f_equation) = true)
    (a_reduced : PySem.W.nsIn K mainGlobals "reduced" = some (some (.ref f_reduced)))
    (l_reduced : K.lookup f_reduced = some ⟨oc_reduced, od_reduced, .func (PySem.W.fnOf "reduced" "reduced" (defArgs s_reduced) (defBody s_reduced) (defScope s_reduced) .none kV_reduced dc_reduced pm_reduced an_reduced cd_reduced ct_reduced), sl_reduced⟩)
    (c_reduced : PySem.W.codeIn K cd_reduced "reduced" = true) (k_reduced : PySem.W.keepIn K (.ref f_reduced) = true)
    (a_word_that_follows : PySem.W.nsIn K mainGlobals "word_that_follows" = some (some (.ref f_word_that_follows)))
    (l_word_that_follows : K.lookup f_word_that_follows = some ⟨oc_word_that_follows, od_word_that_follows, .func (PySem.W.fnOf "word_that_follows" "word_that_follows" (defArgs s_word_that_follows) (defBody s_word_that_follows) (defScope s_word_that_follows) .none kV_word_that_follows dc_word_that_follows pm_word_that_follows an_word_that_follows cd_word_that_follows ct_word_that_follows), sl_word_that_follows⟩)
    (c_word_that_follows : PySem.W.codeIn K cd_word_that_follows "word_that_follows" = true) (k_word_that_follows : PySem.W.keepIn K (.ref f_word_that_follows) = true)
    (a_least_and_count : PySem.W.nsIn K mainGlobals "least_and_count" = some (some (.ref f_least_and_count)))
    (l_least_and_count : K.lookup f_least_and_count = some ⟨oc_least_and_count, od_least_and_count, .func (PySem.W.fnOf "least_and_count" "least_and_count" (defArgs s_least_and_count) (defBody s_least_and_count) (defScope s_least_and_count) .none kV_least_and_count dc_least_and_count pm_least_and_count an_least_and_count cd_least_and_count ct_least_and_count), sl_least_and_count⟩)
    (c_least_and_count : PySem.W.codeIn K cd_least_and_count "least_and_count" = true) (k_least_and_count : PySem.W.keepIn K (.ref f_least_and_count) = true)
    (a_levels_seen : PySem.W.nsIn K mainGlobals "levels_seen" = some (some (.ref f_levels_seen)))
    (l_levels_seen : K.lookup f_levels_seen = some ⟨oc_levels_seen, od_levels_seen, .func (PySem.W.fnOf "levels_seen" "levels_seen" (defArgs s_levels_seen) (defBody s_levels_seen) (defScope s_levels_seen) .none kV_levels_seen dc_levels_seen pm_levels_seen an_levels_seen cd_levels_seen ct_levels_seen), sl_levels_seen⟩)
    (c_levels_seen : PySem.W.codeIn K cd_levels_seen "levels_seen" = true) (k_levels_seen : PySem.W.keepIn K (.ref f_levels_seen) = true)
    (a_law_cell_at : PySem.W.nsIn K mainGlobals "_law_cell_at" = some (some (.ref f_law_cell_at)))
    (l_law_cell_at : K.lookup f_law_cell_at = some ⟨oc_law_cell_at, od_law_cell_at, .func (PySem.W.fnOf "_law_cell_at" "_law_cell_at" (defArgs s__law_cell_at) (defBody s__law_cell_at) (defScope s__law_cell_at) .none kV_law_cell_at dc_law_cell_at pm_law_cell_at an_law_cell_at cd_law_cell_at ct_law_cell_at), sl_law_cell_at⟩)
    (c_law_cell_at : PySem.W.codeIn K cd_law_cell_at "_law_cell_at" = true) (k_law_cell_at : PySem.W.keepIn K (.ref f_law_cell_at) = true)
    (a_law_mixed : PySem.W.nsIn K mainGlobals "_law_mixed" = some (some (.ref f_law_mixed)))
    (l_law_mixed : K.lookup f_law_mixed = some ⟨oc_law_mixed, od_law_mixed, .func (PySem.W.fnOf "_law_mixed" "_law_mixed" (defArgs s__law_mixed) (defBody s__law_mixed) (defScope s__law_mixed) .none kV_law_mixed dc_law_mixed pm_law_mixed an_law_mixed cd_law_mixed ct_law_mixed), sl_law_mixed⟩)
    (c_law_mixed : PySem.W.codeIn K cd_law_mixed "_law_mixed" = true) (k_law_mixed : PySem.W.keepIn K (.ref f_law_mixed) = true)
    (a_law_source : PySem.W.nsIn K mainGlobals "_law_source" = some (some (.ref f_law_source)))
    (l_law_source : K.lookup f_law_source = some ⟨oc_law_source, od_law_source, .func (PySem.W.fnOf "_law_source" "_law_source" (defArgs s__law_source) (defBody s__law_source) (defScope s__law_source) .none kV_law_source dc_law_source pm_law_source an_law_source cd_law_source ct_law_source), sl_law_source⟩)
    (c_law_source : PySem.W.codeIn K cd_law_source "_law_source" = true) (k_law_source : PySem.W.keepIn K (.ref f_law_source) = true)
    (a_law_next : PySem.W.nsIn K mainGlobals "_law_next" = some (some (.ref f_law_next)))
    (l_law_next : K.lookup f_law_next = some ⟨oc_law_next, od_law_next, .func (PySem.W.fnOf "_law_next" "_law_next" (defArgs s__law_next) (defBody s__law_next) (defScope s__law_next) .none kV_law_next dc_law_next pm_law_next an_law_next cd_law_next ct_law_next), sl_law_next⟩)
    (c_law_next : PySem.W.codeIn K cd_law_next "_law_next" = true) (k_law_next : PySem.W.keepIn K (.ref f_law_next) = true)
    (a_law_base : PySem.W.nsIn K mainGlobals "_law_base" = some (some (.ref f_law_base)))
    (l_law_base : K.lookup f_law_base = some ⟨oc_law_base, od_law_base, .func (PySem.W.fnOf "_law_base" "_law_base" (defArgs s__law_base) (defBody s__law_base) (defScope s__law_base) .none kV_law_base dc_law_base pm_law_base an_law_base cd_law_base ct_law_base), sl_law_base⟩)
    (c_law_base : PySem.W.codeIn K cd_law_base "_law_base" = true) (k_law_base : PySem.W.keepIn K (.ref f_law_base) = true)
    (a_law_words_of : PySem.W.nsIn K mainGlobals "_law_words_of" = some (some (.ref f_law_words_of)))
    (l_law_words_of : K.lookup f_law_words_of = some ⟨oc_law_words_of, od_law_words_of, .func (PySem.W.fnOf "_law_words_of" "_law_words_of" (defArgs s__law_words_of) (defBody s__law_words_of) (defScope s__law_words_of) .none kV_law_words_of dc_law_words_of pm_law_words_of an_law_words_of cd_law_words_of ct_law_words_of), sl_law_words_of⟩)
    (c_law_words_of : PySem.W.codeIn K cd_law_words_of "_law_words_of" = true) (k_law_words_of : PySem.W.keepIn K (.ref f_law_words_of) = true)
    (a_law_word : PySem.W.nsIn K mainGlobals "_law_word" = some (some (.ref f_law_word)))
    (l_law_word : K.lookup f_law_word = some ⟨oc_law_word, od_law_word, .func (PySem.W.fnOf "_law_word" "_law_word" (defArgs s__law_word) (defBody s__law_word) (defScope s__law_word) .none kV_law_word dc_law_word pm_law_word an_law_word cd_law_word ct_law_word), sl_law_word⟩)
    (c_law_word : PySem.W.codeIn K cd_law_word "_law_word" = true) (k_law_word : PySem.W.keepIn K (.ref f_law_word) = true)
    (a_law_bad_base : PySem.W.nsIn K mainGlobals "_law_bad_base" = some (some (.ref f_law_bad_base)))
    (l_law_bad_base : K.lookup f_law_bad_base = some ⟨oc_law_bad_base, od_law_bad_base, .func (PySem.W.fnOf "_law_bad_base" "_law_bad_base" (defArgs s__law_bad_base) (defBody s__law_bad_base) (defScope s__law_bad_base) .none kV_law_bad_base dc_law_bad_base pm_law_bad_base an_law_bad_base cd_law_bad_base ct_law_bad_base), sl_law_bad_base⟩)
    (c_law_bad_base : PySem.W.codeIn K cd_law_bad_base "_law_bad_base" = true) (k_law_bad_base : PySem.W.keepIn K (.ref f_law_bad_base) = true)
    (a_law_bad_levels : PySem.W.nsIn K mainGlobals "_law_bad_levels" = some (some (.ref f_law_bad_levels)))
    (l_law_bad_levels : K.lookup f_law_bad_levels = some ⟨oc_law_bad_levels, od_law_bad_levels, .func (PySem.W.fnOf "_law_bad_levels" "_law_bad_levels" (defArgs s__law_bad_levels) (defBody s__law_bad_levels) (defScope s__law_bad_levels) .none kV_law_bad_levels dc_law_bad_levels pm_law_bad_levels an_law_bad_levels cd_law_bad_levels ct_law_bad_levels), sl_law_bad_levels⟩)
    (c_law_bad_levels : PySem.W.codeIn K cd_law_bad_levels "_law_bad_levels" = true) (k_law_bad_levels : PySem.W.keepIn K (.ref f_law_bad_levels) = true)
    (a_law_bad_tick : PySem.W.nsIn K mainGlobals "_law_bad_tick" = some (some (.ref f_law_bad_tick)))
    (l_law_bad_tick : K.lookup f_law_bad_tick = some ⟨oc_law_bad_tick, od_law_bad_tick, .func (PySem.W.fnOf "_law_bad_tick" "_law_bad_tick" (defArgs s__law_bad_tick) (defBody s__law_bad_tick) (defScope s__law_bad_tick) .none kV_law_bad_tick dc_law_bad_tick pm_law_bad_tick an_law_bad_tick cd_law_bad_tick ct_law_bad_tick), sl_law_bad_tick⟩)
    (c_law_bad_tick : PySem.W.codeIn K cd_law_bad_tick "_law_bad_tick" = true) (k_law_bad_tick : PySem.W.keepIn K (.ref f_law_bad_tick) = true)
    (a_law_bad_order : PySem.W.nsIn K mainGlobals "_law_bad_order" = some (some (.ref f_law_bad_order)))
    (l_law_bad_order : K.lookup f_law_bad_order = some ⟨oc_law_bad_order, od_law_bad_order, .func (PySem.W.fnOf "_law_bad_order" "_law_bad_order" (defArgs s__law_bad_order) (defBody s__law_bad_order) (defScope s__law_bad_order) .none kV_law_bad_order dc_law_bad_order pm_law_bad_order an_law_bad_order cd_law_bad_order ct_law_bad_order), sl_law_bad_order⟩)
    (c_law_bad_order : PySem.W.codeIn K cd_law_bad_order "_law_bad_order" = true) (k_law_bad_order : PySem.W.keepIn K (.ref f_law_bad_order) = true)
    (a_law_bad_seen : PySem.W.nsIn K mainGlobals "_law_bad_seen" = some (some (.ref f_law_bad_seen)))
    (l_law_bad_seen : K.lookup f_law_bad_seen = some ⟨oc_law_bad_seen, od_law_bad_seen, .func (PySem.W.fnOf "_law_bad_seen" "_law_bad_seen" (defArgs s__law_bad_seen) (defBody s__law_bad_seen) (defScope s__law_bad_seen) .none kV_law_bad_seen dc_law_bad_seen pm_law_bad_seen an_law_bad_seen cd_law_bad_seen ct_law_bad_seen), sl_law_bad_seen⟩)
    (c_law_bad_seen : PySem.W.codeIn K cd_law_bad_seen "_law_bad_seen" = true) (k_law_bad_seen : PySem.W.keepIn K (.ref f_law_bad_seen) = true)
    (a_law_ask : PySem.W.nsIn K mainGlobals "_law_ask" = some (some (.ref f_law_ask)))
    (l_law_ask : K.lookup f_law_ask = some ⟨oc_law_ask, od_law_ask, .func (PySem.W.fnOf "_law_ask" "_law_ask" (defArgs s__law_ask) (defBody s__law_ask) (defScope s__law_ask) .none kV_law_ask dc_law_ask pm_law_ask an_law_ask cd_law_ask ct_law_ask), sl_law_ask⟩)
    (c_law_ask : PySem.W.codeIn K cd_law_ask "_law_ask" = true) (k_law_ask : PySem.W.keepIn K (.ref f_law_ask) = true)
    (a_law_spoilt : PySem.W.nsIn K mainGlobals "_law_spoilt" = some (some (.ref f_law_spoilt)))
    (l_law_spoilt : K.lookup f_law_spoilt = some ⟨oc_law_spoilt, od_law_spoilt, .func (PySem.W.fnOf "_law_spoilt" "_law_spoilt" (defArgs s__law_spoilt) (defBody s__law_spoilt) (defScope s__law_spoilt) .none kV_law_spoilt dc_law_spoilt pm_law_spoilt an_law_spoilt cd_law_spoilt ct_law_spoilt), sl_law_spoilt⟩)
    (c_law_spoilt : PySem.W.codeIn K cd_law_spoilt "_law_spoilt" = true) (k_law_spoilt : PySem.W.keepIn K (.ref f_law_spoilt) = true)
    (a_law_rows : PySem.W.nsIn K mainGlobals "_law_rows" = some (some (.ref f_law_rows)))
    (l_law_rows : K.lookup f_law_rows = some ⟨oc_law_rows, od_law_rows, .func (PySem.W.fnOf "_law_rows" "_law_rows" (defArgs s__law_rows) (defBody s__law_rows) (defScope s__law_rows) .none kV_law_rows dc_law_rows pm_law_rows an_law_rows cd_law_rows ct_law_rows), sl_law_rows⟩)
    (c_law_rows : PySem.W.codeIn K cd_law_rows "_law_rows" = true) (k_law_rows : PySem.W.keepIn K (.ref f_law_rows) = true)
    (a_law : PySem.W.nsIn K mainGlobals "law" = some (some (.ref f_law)))
    (l_law : K.lookup f_law = some ⟨oc_law, od_law, .func (PySem.W.fnOf "law" "law" (defArgs s_law) (defBody s_law) (defScope s_law) .none kV_law dc_law pm_law an_law (.ref cc_law) ct_law), sl_law⟩)
    (c_law : PySem.W.codeIn K (.ref cc_law) "law" = true) (k_law : PySem.W.keepIn K (.ref f_law) = true)
    (lc_law : K.lookup cc_law = some ⟨.type "code", dd_law, .fields vs_law, sv_law⟩)
    (lp_law : vs_law[11]? = some (.ref P_law))
    (ch_law : PySem.W.codeHdIn K cc_law P_law = true)
    (nt_law : K.lookup P_law = none)
    (tm_law : P_law ∈ ts)
    (a_NoBase : PySem.W.nsIn K mainGlobals "NoBase" = some (some (.ref c_NoBase)))
    (a_NoLevels : PySem.W.nsIn K mainGlobals "NoLevels" = some (some (.ref c_NoLevels)))
    (a_NoTick : PySem.W.nsIn K mainGlobals "NoTick" = some (some (.ref c_NoTick)))
    (a_NoOrder : PySem.W.nsIn K mainGlobals "NoOrder" = some (some (.ref c_NoOrder)))
    (a_NoSighting : PySem.W.nsIn K mainGlobals "NoSighting" = some (some (.ref c_NoSighting)))
    (a_TimerError : PySem.W.nsIn K mainGlobals "TimerError" = some (some (.ref c_TimerError)))
    (a_NoPeriod : PySem.W.nsIn K mainGlobals "NoPeriod" = some (some (.ref c_NoPeriod)))
    (a_NoTimer : PySem.W.nsIn K mainGlobals "NoTimer" = some (some (.ref c_NoTimer)))
    (a_TooMany : PySem.W.nsIn K mainGlobals "TooMany" = some (some (.ref c_TooMany)))
    (x_NoBase : PySem.W.excIn K c_NoBase [.type "ValueError", .type "Exception", .type "BaseException", .type "object"] "ValueError.__new__" = true)
    (kp_NoBase : PySem.W.keepIn K (.ref c_NoBase) = true)
    (bx_NoBase : PySem.W.subIn K (.ref c_NoBase) (.type "BaseException") = some true)
    (tx_NoBase : PySem.W.typeIn K (.ref c_NoBase) = some (.type "type"))
    (ga_NoBase : PySem.W.findIn K (.ref c_NoBase) "__getattribute__" = some (some (.builtin "BaseException.__getattribute__")))
    (gg_NoBase : PySem.W.findIn K (.ref c_NoBase) "__getattr__" = some none)
    (hx_NoBase : PySem.W.hasDictIn K c_NoBase = true)
    (cc_NoBase : PySem.W.findIn K (.ref c_NoBase) "__class__" = some (some (.builtin "object.__class__")))
    (mo_NoBase : PySem.W.mroIn K c_NoBase (.type "object") = some true)
    (ss_NoBase : PySem.W.subIn K (.ref c_NoBase) (.ref c_NoBase) = some true)
    (x_NoLevels : PySem.W.excIn K c_NoLevels [.type "ValueError", .type "Exception", .type "BaseException", .type "object"] "ValueError.__new__" = true)
    (kp_NoLevels : PySem.W.keepIn K (.ref c_NoLevels) = true)
    (bx_NoLevels : PySem.W.subIn K (.ref c_NoLevels) (.type "BaseException") = some true)
    (tx_NoLevels : PySem.W.typeIn K (.ref c_NoLevels) = some (.type "type"))
    (ga_NoLevels : PySem.W.findIn K (.ref c_NoLevels) "__getattribute__" = some (some (.builtin "BaseException.__getattribute__")))
    (gg_NoLevels : PySem.W.findIn K (.ref c_NoLevels) "__getattr__" = some none)
    (hx_NoLevels : PySem.W.hasDictIn K c_NoLevels = true)
    (cc_NoLevels : PySem.W.findIn K (.ref c_NoLevels) "__class__" = some (some (.builtin "object.__class__")))
    (mo_NoLevels : PySem.W.mroIn K c_NoLevels (.type "object") = some true)
    (ss_NoLevels : PySem.W.subIn K (.ref c_NoLevels) (.ref c_NoLevels) = some true)
    (x_NoTick : PySem.W.excIn K c_NoTick [.type "ValueError", .type "Exception", .type "BaseException", .type "object"] "ValueError.__new__" = true)
    (kp_NoTick : PySem.W.keepIn K (.ref c_NoTick) = true)
    (bx_NoTick : PySem.W.subIn K (.ref c_NoTick) (.type "BaseException") = some true)
    (tx_NoTick : PySem.W.typeIn K (.ref c_NoTick) = some (.type "type"))
    (ga_NoTick : PySem.W.findIn K (.ref c_NoTick) "__getattribute__" = some (some (.builtin "BaseException.__getattribute__")))
    (gg_NoTick : PySem.W.findIn K (.ref c_NoTick) "__getattr__" = some none)
    (hx_NoTick : PySem.W.hasDictIn K c_NoTick = true)
    (cc_NoTick : PySem.W.findIn K (.ref c_NoTick) "__class__" = some (some (.builtin "object.__class__")))
    (mo_NoTick : PySem.W.mroIn K c_NoTick (.type "object") = some true)
    (ss_NoTick : PySem.W.subIn K (.ref c_NoTick) (.ref c_NoTick) = some true)
    (x_NoOrder : PySem.W.excIn K c_NoOrder [.type "ValueError", .type "Exception", .type "BaseException", .type "object"] "ValueError.__new__" = true)
    (kp_NoOrder : PySem.W.keepIn K (.ref c_NoOrder) = true)
    (bx_NoOrder : PySem.W.subIn K (.ref c_NoOrder) (.type "BaseException") = some true)
    (tx_NoOrder : PySem.W.typeIn K (.ref c_NoOrder) = some (.type "type"))
    (ga_NoOrder : PySem.W.findIn K (.ref c_NoOrder) "__getattribute__" = some (some (.builtin "BaseException.__getattribute__")))
    (gg_NoOrder : PySem.W.findIn K (.ref c_NoOrder) "__getattr__" = some none)
    (hx_NoOrder : PySem.W.hasDictIn K c_NoOrder = true)
    (cc_NoOrder : PySem.W.findIn K (.ref c_NoOrder) "__class__" = some (some (.builtin "object.__class__")))
    (mo_NoOrder : PySem.W.mroIn K c_NoOrder (.type "object") = some true)
    (ss_NoOrder : PySem.W.subIn K (.ref c_NoOrder) (.ref c_NoOrder) = some true)
    (x_NoSighting : PySem.W.excIn K c_NoSighting [.type "ValueError", .type "Exception", .type "BaseException", .type "object"] "ValueError.__new__" = true)
    (kp_NoSighting : PySem.W.keepIn K (.ref c_NoSighting) = true)
    (bx_NoSighting : PySem.W.subIn K (.ref c_NoSighting) (.type "BaseException") = some true)
    (tx_NoSighting : PySem.W.typeIn K (.ref c_NoSighting) = some (.type "type"))
    (ga_NoSighting : PySem.W.findIn K (.ref c_NoSighting) "__getattribute__" = some (some (.builtin "BaseException.__getattribute__")))
    (gg_NoSighting : PySem.W.findIn K (.ref c_NoSighting) "__getattr__" = some none)
    (hx_NoSighting : PySem.W.hasDictIn K c_NoSighting = true)
    (cc_NoSighting : PySem.W.findIn K (.ref c_NoSighting) "__class__" = some (some (.builtin "object.__class__")))
    (mo_NoSighting : PySem.W.mroIn K c_NoSighting (.type "object") = some true)
    (ss_NoSighting : PySem.W.subIn K (.ref c_NoSighting) (.ref c_NoSighting) = some true)
    (sp_get : PySem.W.specialIn K (.builtin "object.__class__") "__get__" = some (some (.builtin "getset_descriptor.__get__")))
    (tk_cls : PySem.W.takesIn K (.builtin "object.__class__") = some true)
    (bx_TimerError : PySem.W.subIn K (.ref c_TimerError) (.type "BaseException") = some true)
    (ve_NoBase : PySem.W.subIn K (.ref c_NoBase) (.type "ValueError") = some true)
    (ss_NoBase_NoLevels : PySem.W.subIn K (.ref c_NoBase) (.ref c_NoLevels) = some false)
    (ss_NoBase_NoTick : PySem.W.subIn K (.ref c_NoBase) (.ref c_NoTick) = some false)
    (ss_NoBase_NoOrder : PySem.W.subIn K (.ref c_NoBase) (.ref c_NoOrder) = some false)
    (ss_NoBase_NoSighting : PySem.W.subIn K (.ref c_NoBase) (.ref c_NoSighting) = some false)
    (ve_NoLevels : PySem.W.subIn K (.ref c_NoLevels) (.type "ValueError") = some true)
    (ss_NoLevels_NoBase : PySem.W.subIn K (.ref c_NoLevels) (.ref c_NoBase) = some false)
    (ss_NoLevels_NoTick : PySem.W.subIn K (.ref c_NoLevels) (.ref c_NoTick) = some false)
    (ss_NoLevels_NoOrder : PySem.W.subIn K (.ref c_NoLevels) (.ref c_NoOrder) = some false)
    (ss_NoLevels_NoSighting : PySem.W.subIn K (.ref c_NoLevels) (.ref c_NoSighting) = some false)
    (ve_NoTick : PySem.W.subIn K (.ref c_NoTick) (.type "ValueError") = some true)
    (ss_NoTick_NoBase : PySem.W.subIn K (.ref c_NoTick) (.ref c_NoBase) = some false)
    (ss_NoTick_NoLevels : PySem.W.subIn K (.ref c_NoTick) (.ref c_NoLevels) = some false)
    (ss_NoTick_NoOrder : PySem.W.subIn K (.ref c_NoTick) (.ref c_NoOrder) = some false)
    (ss_NoTick_NoSighting : PySem.W.subIn K (.ref c_NoTick) (.ref c_NoSighting) = some false)
    (ve_NoOrder : PySem.W.subIn K (.ref c_NoOrder) (.type "ValueError") = some true)
    (ss_NoOrder_NoBase : PySem.W.subIn K (.ref c_NoOrder) (.ref c_NoBase) = some false)
    (ss_NoOrder_NoLevels : PySem.W.subIn K (.ref c_NoOrder) (.ref c_NoLevels) = some false)
    (ss_NoOrder_NoTick : PySem.W.subIn K (.ref c_NoOrder) (.ref c_NoTick) = some false)
    (ss_NoOrder_NoSighting : PySem.W.subIn K (.ref c_NoOrder) (.ref c_NoSighting) = some false)
    (ve_NoSighting : PySem.W.subIn K (.ref c_NoSighting) (.type "ValueError") = some true)
    (ss_NoSighting_NoBase : PySem.W.subIn K (.ref c_NoSighting) (.ref c_NoBase) = some false)
    (ss_NoSighting_NoLevels : PySem.W.subIn K (.ref c_NoSighting) (.ref c_NoLevels) = some false)
    (ss_NoSighting_NoTick : PySem.W.subIn K (.ref c_NoSighting) (.ref c_NoTick) = some false)
    (ss_NoSighting_NoOrder : PySem.W.subIn K (.ref c_NoSighting) (.ref c_NoOrder) = some false)
    (hx_TimerError : PySem.W.hasDictIn K c_TimerError = true)
    (tx_TimerError : PySem.W.typeIn K (.ref c_TimerError) = some (.type "type"))
    (ss_NoBase_TimerError : PySem.W.subIn K (.ref c_NoBase) (.ref c_TimerError) = some true)
    (ss_NoLevels_TimerError : PySem.W.subIn K (.ref c_NoLevels) (.ref c_TimerError) = some true)
    (ss_NoTick_TimerError : PySem.W.subIn K (.ref c_NoTick) (.ref c_TimerError) = some true)
    (ss_NoOrder_TimerError : PySem.W.subIn K (.ref c_NoOrder) (.ref c_TimerError) = some true)
    (ss_NoSighting_TimerError : PySem.W.subIn K (.ref c_NoSighting) (.ref c_TimerError) = some true)
    (hx_NoPeriod : PySem.W.hasDictIn K c_NoPeriod = true)
    (tx_NoPeriod : PySem.W.typeIn K (.ref c_NoPeriod) = some (.type "type"))
    (ss_NoBase_NoPeriod : PySem.W.subIn K (.ref c_NoBase) (.ref c_NoPeriod) = some false)
    (ss_NoLevels_NoPeriod : PySem.W.subIn K (.ref c_NoLevels) (.ref c_NoPeriod) = some false)
    (ss_NoTick_NoPeriod : PySem.W.subIn K (.ref c_NoTick) (.ref c_NoPeriod) = some false)
    (ss_NoOrder_NoPeriod : PySem.W.subIn K (.ref c_NoOrder) (.ref c_NoPeriod) = some false)
    (ss_NoSighting_NoPeriod : PySem.W.subIn K (.ref c_NoSighting) (.ref c_NoPeriod) = some false)
    (hx_NoTimer : PySem.W.hasDictIn K c_NoTimer = true)
    (tx_NoTimer : PySem.W.typeIn K (.ref c_NoTimer) = some (.type "type"))
    (ss_NoBase_NoTimer : PySem.W.subIn K (.ref c_NoBase) (.ref c_NoTimer) = some false)
    (ss_NoLevels_NoTimer : PySem.W.subIn K (.ref c_NoLevels) (.ref c_NoTimer) = some false)
    (ss_NoTick_NoTimer : PySem.W.subIn K (.ref c_NoTick) (.ref c_NoTimer) = some false)
    (ss_NoOrder_NoTimer : PySem.W.subIn K (.ref c_NoOrder) (.ref c_NoTimer) = some false)
    (ss_NoSighting_NoTimer : PySem.W.subIn K (.ref c_NoSighting) (.ref c_NoTimer) = some false)
    (hx_TooMany : PySem.W.hasDictIn K c_TooMany = true)
    (tx_TooMany : PySem.W.typeIn K (.ref c_TooMany) = some (.type "type"))
    (ss_NoBase_TooMany : PySem.W.subIn K (.ref c_NoBase) (.ref c_TooMany) = some false)
    (ss_NoLevels_TooMany : PySem.W.subIn K (.ref c_NoLevels) (.ref c_TooMany) = some false)
    (ss_NoTick_TooMany : PySem.W.subIn K (.ref c_NoTick) (.ref c_TooMany) = some false)
    (ss_NoOrder_TooMany : PySem.W.subIn K (.ref c_NoOrder) (.ref c_TooMany) = some false)
    (ss_NoSighting_TooMany : PySem.W.subIn K (.ref c_NoSighting) (.ref c_TooMany) = some false)
    (z_isinstance : PySem.W.nsIn K mainGlobals "isinstance" = some none)
    (z_int : PySem.W.nsIn K mainGlobals "int" = some none)
    (z_bool : PySem.W.nsIn K mainGlobals "bool" = some none)
    (z_str : PySem.W.nsIn K mainGlobals "str" = some none)
    (z_all : PySem.W.nsIn K mainGlobals "all" = some none)
    (z_list : PySem.W.nsIn K mainGlobals "list" = some none)
    (z_len : PySem.W.nsIn K mainGlobals "len" = some none)
    (z_min : PySem.W.nsIn K mainGlobals "min" = some none)
    (z_sorted : PySem.W.nsIn K mainGlobals "sorted" = some none)
    (z_range : PySem.W.nsIn K mainGlobals "range" = some none)
    (z_reversed : PySem.W.nsIn K mainGlobals "reversed" = some none)
    (z_max : PySem.W.nsIn K mainGlobals "max" = some none)
    (z_tuple : PySem.W.nsIn K mainGlobals "tuple" = some none)
    (z_set : PySem.W.nsIn K mainGlobals "set" = some none)
    (z_enumerate : PySem.W.nsIn K mainGlobals "enumerate" = some none)
    (z_ValueError : PySem.W.nsIn K mainGlobals "ValueError" = some none)
    (z_repr : PySem.W.nsIn K mainGlobals "repr" = some none)
    (a_WORDS : PySem.W.nsIn K mainGlobals "WORDS" = some (some (.ref f_WORDS)))
    (l_WORDS : K.lookup f_WORDS = some ⟨.type "tuple", od_WORDS, .seq #[.str "stack" tk0_WORDS, .str "queue" tk1_WORDS] tn_WORDS, ts_WORDS⟩)
    (a_MOST_LEVELS : PySem.W.nsIn K mainGlobals "MOST_LEVELS" = some (some (.int 60 tk_MOST_LEVELS)))
    (a_SIDES : PySem.W.nsIn K mainGlobals "SIDES" = some (some (.ref f_SIDES)))
    (l_SIDES : K.lookup f_SIDES = some ⟨.type "tuple", od_SIDES, .seq #[.str "front" tk0_SIDES, .str "back" tk1_SIDES] tn_SIDES, ts_SIDES⟩)
    : ∃ (fd : FuncData) (cs : List (Addr × Addr)) (sp : Sp), (∀ p ∈ cs, h.get? p.2 = some { cls := .none, data := .fields #[] }) ∧ (∀ p ∈ cs, K.lookup p.2 = none) ∧ (∀ p ∈ cs, PySem.W.CodeHd h p.1 p.2) ∧ (∀ (s : Shared) (u : Value), BindsTo s fd ⟨[u], []⟩ [("_law_script", u)]) ∧ (∀ (H : Hp) (a : Addr) (ns : List Int), ns.length ≤ 63 → (∀ p ∈ cs, H p.2 = some (.tbl #[])) → SqL K H a (ns.map V.int) → sp [.ref a] H (fun v _ => v = .bl true) E0) ∧ ∀ base : Heap, K.In base → base.Ns mainGlobals mg → (∀ p ∈ cs, LamX.TabB base mg p.1 p.2) → FnG l.prog w K mg base 9 fa fd ["_law_script"] sp := by
  have e := hfa.symm.trans (PySem.W.mg_of X G a_law)
  cases e
  have T : Tx K mg := ⟨PySem.W.mg_none_of X G z_isinstance, PySem.W.mg_none_of X G z_int, PySem.W.mg_none_of X G z_bool, PySem.W.mg_none_of X G z_str, PySem.W.mg_none_of X G z_all, PySem.W.mg_none_of X G z_list, PySem.W.mg_none_of X G z_len, PySem.W.mg_none_of X G z_min, PySem.W.mg_none_of X G z_sorted, PySem.W.mg_none_of X G z_range, PySem.W.mg_none_of X G z_reversed, PySem.W.mg_none_of X G z_max, PySem.W.mg_none_of X G z_tuple, PySem.W.mg_none_of X G z_set, PySem.W.mg_none_of X G z_enumerate, PySem.W.mg_none_of X G z_ValueError, PySem.W.mg_none_of X G z_repr⟩
  have h_WORDS : ∃ a, mg "WORDS" = some (.ref a) ∧ ∀ H, SqT K H a [.str "stack", .str "queue"] := ⟨f_WORDS, PySem.W.mg_of X G a_WORDS, fun H => .inr ⟨_, _, _, l_WORDS, rfl, rfl, by simp [sizeLine_eq], .cons ⟨_, rfl⟩ (.cons ⟨_, rfl⟩ (.nil))⟩⟩
  have h_MOST_LEVELS : mg "MOST_LEVELS" = some (.int 60 tk_MOST_LEVELS) := PySem.W.mg_of X G a_MOST_LEVELS
  have h_SIDES : ∃ a, mg "SIDES" = some (.ref a) ∧ ∀ H, SqT K H a [.str "front", .str "back"] := ⟨f_SIDES, PySem.W.mg_of X G a_SIDES, fun H => .inr ⟨_, _, _, l_SIDES, rfl, rfl, by simp [sizeLine_eq], .cons ⟨_, rfl⟩ (.cons ⟨_, rfl⟩ (.nil))⟩⟩
  have D_is_integer : Df K mg "is_integer" s_is_integer ["given"] := by
    have F := fun_mk (st := s_is_integer) l_is_integer c_is_integer k_is_integer
    exact ⟨_, _, F, PySem.W.mg_of X G a_is_integer, F.binds (ps := ["given"]) fun _ _ _ _ _ _ us hl => match us, hl with | [_], _ => rfl⟩
  have D_is_word : Df K mg "is_word" s_is_word ["given"] := by
    have F := fun_mk (st := s_is_word) l_is_word c_is_word k_is_word
    exact ⟨_, _, F, PySem.W.mg_of X G a_is_word, F.binds (ps := ["given"]) fun _ _ _ _ _ _ us hl => match us, hl with | [_], _ => rfl⟩
  have D_is_base : Df K mg "is_base" s_is_base ["given"] := by
    have F := fun_mk (st := s_is_base) l_is_base c_is_base k_is_base
    exact ⟨_, _, F, PySem.W.mg_of X G a_is_base, F.binds (ps := ["given"]) fun _ _ _ _ _ _ us hl => match us, hl with | [_], _ => rfl⟩
  have D_is_length : Df K mg "is_length" s_is_length ["given"] := by
    have F := fun_mk (st := s_is_length) l_is_length c_is_length k_is_length
    exact ⟨_, _, F, PySem.W.mg_of X G a_is_length, F.binds (ps := ["given"]) fun _ _ _ _ _ _ us hl => match us, hl with | [_], _ => rfl⟩
  have D_are_levels : Df K mg "are_levels" s_are_levels ["given"] := by
    have F := fun_mk (st := s_are_levels) l_are_levels c_are_levels k_are_levels
    exact ⟨_, _, F, PySem.W.mg_of X G a_are_levels, F.binds (ps := ["given"]) fun _ _ _ _ _ _ us hl => match us, hl with | [_], _ => rfl⟩
  have D_is_tick : Dd K mg "is_tick" s_is_tick ["given", "least"] (.int 0) := by
    have F : FunD K "is_tick" "is_tick" (defArgs s_is_tick) (defBody s_is_tick) (defScope s_is_tick) [(.int 0)] [] _ _ := ⟨⟨_, _, _, _, _, _, _, _, _, _, rfl, l_is_tick, c_is_tick, .inr ⟨by simp, dT_is_tick, _, [_], _, rfl, t_is_tick, rfl, .cons ⟨_, rfl⟩ .nil⟩, .inl rfl⟩, k_is_tick⟩
    exact ⟨_, _, F, PySem.W.mg_of X G a_is_tick,
      FunD.binds1 (ps := ["given", "least"]) F 1 0 (by simp) rfl fun _ _ _ _ _ _ _ us its hu hi => match us, its, hu, hi with | [_], [_], _, _ => ⟨_, rfl, rfl⟩,
      by obtain ⟨ds, r, b⟩ := FunD.binds1 (ps := ["given", "least"]) F 2 1 (by simp) rfl fun _ _ _ _ _ _ _ us its hu hi => match us, its, hu, hi with | [_, _], [_], _, _ => ⟨_, rfl, rfl⟩
         cases r
         exact b⟩
  have D_check_base : Df K mg "check_base" s_check_base ["base"] := by
    have F := fun_mk (st := s_check_base) l_check_base c_check_base k_check_base
    exact ⟨_, _, F, PySem.W.mg_of X G a_check_base, F.binds (ps := ["base"]) fun _ _ _ _ _ _ us hl => match us, hl with | [_], _ => rfl⟩
  have D_check_levels : Df K mg "check_levels" s_check_levels ["levels"] := by
    have F := fun_mk (st := s_check_levels) l_check_levels c_check_levels k_check_levels
    exact ⟨_, _, F, PySem.W.mg_of X G a_check_levels, F.binds (ps := ["levels"]) fun _ _ _ _ _ _ us hl => match us, hl with | [_], _ => rfl⟩
  have D_check_tick : Dd K mg "check_tick" s_check_tick ["tick", "least"] (.int 0) := by
    have F : FunD K "check_tick" "check_tick" (defArgs s_check_tick) (defBody s_check_tick) (defScope s_check_tick) [(.int 0)] [] _ _ := ⟨⟨_, _, _, _, _, _, _, _, _, _, rfl, l_check_tick, c_check_tick, .inr ⟨by simp, dT_check_tick, _, [_], _, rfl, t_check_tick, rfl, .cons ⟨_, rfl⟩ .nil⟩, .inl rfl⟩, k_check_tick⟩
    exact ⟨_, _, F, PySem.W.mg_of X G a_check_tick,
      FunD.binds1 (ps := ["tick", "least"]) F 1 0 (by simp) rfl fun _ _ _ _ _ _ _ us its hu hi => match us, its, hu, hi with | [_], [_], _, _ => ⟨_, rfl, rfl⟩,
      by obtain ⟨ds, r, b⟩ := FunD.binds1 (ps := ["tick", "least"]) F 2 1 (by simp) rfl fun _ _ _ _ _ _ _ us its hu hi => match us, its, hu, hi with | [_, _], [_], _, _ => ⟨_, rfl, rfl⟩
         cases r
         exact b⟩
  have D_word_at : Df K mg "word_at" s_word_at ["levels", "level"] := by
    have F := fun_mk (st := s_word_at) l_word_at c_word_at k_word_at
    exact ⟨_, _, F, PySem.W.mg_of X G a_word_at, F.binds (ps := ["levels", "level"]) fun _ _ _ _ _ _ us hl => match us, hl with | [_, _], _ => rfl⟩
  have D_level_and_size : Df K mg "level_and_size" s_level_and_size ["base", "now", "due"] := by
    have F := fun_mk (st := s_level_and_size) l_level_and_size c_level_and_size k_level_and_size
    exact ⟨_, _, F, PySem.W.mg_of X G a_level_and_size, F.binds (ps := ["base", "now", "due"]) fun _ _ _ _ _ _ us hl => match us, hl with | [_, _, _], _ => rfl⟩
  have D_path : Df K mg "path" s_path ["base", "now", "due"] := by
    have F := fun_mk (st := s_path) l_path c_path k_path
    exact ⟨_, _, F, PySem.W.mg_of X G a_path, F.binds (ps := ["base", "now", "due"]) fun _ _ _ _ _ _ us hl => match us, hl with | [_, _, _], _ => rfl⟩
  have D_goes_in_front : Df K mg "goes_in_front" s_goes_in_front ["base", "levels", "now", "due", "lowest"] := by
    have F := fun_mk (st := s_goes_in_front) l_goes_in_front c_goes_in_front k_goes_in_front
    exact ⟨_, _, F, PySem.W.mg_of X G a_goes_in_front, F.binds (ps := ["base", "levels", "now", "due", "lowest"]) fun _ _ _ _ _ _ us hl => match us, hl with | [_, _, _, _, _], _ => rfl⟩
  have D_check_order : Df K mg "check_order" s_check_order ["order"] := by
    have F := fun_mk (st := s_check_order) l_check_order c_check_order k_check_order
    exact ⟨_, _, F, PySem.W.mg_of X G a_check_order, F.binds (ps := ["order"]) fun _ _ _ _ _ _ us hl => match us, hl with | [_], _ => rfl⟩
  have D_ticks_and_sides : Df K mg "ticks_and_sides" s_ticks_and_sides ["base", "levels", "start", "due"] := by
    have F := fun_mk (st := s_ticks_and_sides) l_ticks_and_sides c_ticks_and_sides k_ticks_and_sides
    exact ⟨_, _, F, PySem.W.mg_of X G a_ticks_and_sides, F.binds (ps := ["base", "levels", "start", "due"]) fun _ _ _ _ _ _ us hl => match us, hl with | [_, _, _, _], _ => rfl⟩
  have D_sides_wanted : Df K mg "sides_wanted" s_sides_wanted ["order"] := by
    have F := fun_mk (st := s_sides_wanted) l_sides_wanted c_sides_wanted k_sides_wanted
    exact ⟨_, _, F, PySem.W.mg_of X G a_sides_wanted, F.binds (ps := ["order"]) fun _ _ _ _ _ _ us hl => match us, hl with | [_], _ => rfl⟩
  have D_set_ticks : Df K mg "set_ticks" s_set_ticks ["base", "levels", "start", "due", "order"] := by
    have F := fun_mk (st := s_set_ticks) l_set_ticks c_set_ticks k_set_ticks
    exact ⟨_, _, F, PySem.W.mg_of X G a_set_ticks, F.binds (ps := ["base", "levels", "start", "due", "order"]) fun _ _ _ _ _ _ us hl => match us, hl with | [_, _, _, _, _], _ => rfl⟩
  have D_size_of_lowest_stack : Df K mg "size_of_lowest_stack" s_size_of_lowest_stack ["base", "levels"] := by
    have F := fun_mk (st := s_size_of_lowest_stack) l_size_of_lowest_stack c_size_of_lowest_stack k_size_of_lowest_stack
    exact ⟨_, _, F, PySem.W.mg_of X G a_size_of_lowest_stack, F.binds (ps := ["base", "levels"]) fun _ _ _ _ _ _ us hl => match us, hl with | [_, _], _ => rfl⟩
  have D_powers : Df K mg "powers" s_powers ["base", "many"] := by
    have F := fun_mk (st := s_powers) l_powers c_powers k_powers
    exact ⟨_, _, F, PySem.W.mg_of X G a_powers, F.binds (ps := ["base", "many"]) fun _ _ _ _ _ _ us hl => match us, hl with | [_, _], _ => rfl⟩
  have D_telling_dues : Df K mg "telling_dues" s_telling_dues ["base", "levels", "other_base", "other_levels"] := by
    have F := fun_mk (st := s_telling_dues) l_telling_dues c_telling_dues k_telling_dues
    exact ⟨_, _, F, PySem.W.mg_of X G a_telling_dues, F.binds (ps := ["base", "levels", "other_base", "other_levels"]) fun _ _ _ _ _ _ us hl => match us, hl with | [_, _, _, _], _ => rfl⟩
  have D_first_difference : Df K mg "first_difference" s_first_difference ["base", "levels", "other_base", "other_levels", "due"] := by
    have F := fun_mk (st := s_first_difference) l_first_difference c_first_difference k_first_difference
    exact ⟨_, _, F, PySem.W.mg_of X G a_first_difference, F.binds (ps := ["base", "levels", "other_base", "other_levels", "due"]) fun _ _ _ _ _ _ us hl => match us, hl with | [_, _, _, _, _], _ => rfl⟩
  have D_told_apart : Df K mg "told_apart" s_told_apart ["base", "levels", "other_base", "other_levels"] := by
    have F := fun_mk (st := s_told_apart) l_told_apart c_told_apart k_told_apart
    exact ⟨_, _, F, PySem.W.mg_of X G a_told_apart, F.binds (ps := ["base", "levels", "other_base", "other_levels"]) fun _ _ _ _ _ _ us hl => match us, hl with | [_, _, _, _], _ => rfl⟩
  have D_is_sighting : Df K mg "is_sighting" s_is_sighting ["given"] := by
    have F := fun_mk (st := s_is_sighting) l_is_sighting c_is_sighting k_is_sighting
    exact ⟨_, _, F, PySem.W.mg_of X G a_is_sighting, F.binds (ps := ["given"]) fun _ _ _ _ _ _ us hl => match us, hl with | [_], _ => rfl⟩
  have D_check_many : Df K mg "check_many" s_check_many ["many"] := by
    have F := fun_mk (st := s_check_many) l_check_many c_check_many k_check_many
    exact ⟨_, _, F, PySem.W.mg_of X G a_check_many, F.binds (ps := ["many"]) fun _ _ _ _ _ _ us hl => match us, hl with | [_], _ => rfl⟩
  have D_check_seen : Df K mg "check_seen" s_check_seen ["seen"] := by
    have F := fun_mk (st := s_check_seen) l_check_seen c_check_seen k_check_seen
    exact ⟨_, _, F, PySem.W.mg_of X G a_check_seen, F.binds (ps := ["seen"]) fun _ _ _ _ _ _ us hl => match us, hl with | [_], _ => rfl⟩
  have D_equation : Df K mg "equation" s_equation ["base", "many", "sighting"] := by
    have F := fun_mk (st := s_equation) l_equation c_equation k_equation
    exact ⟨_, _, F, PySem.W.mg_of X G a_equation, F.binds (ps := ["base", "many", "sighting"]) fun _ _ _ _ _ _ us hl => match us, hl with | [_, _, _], _ => rfl⟩
  have D_reduced : Df K mg "reduced" s_reduced ["levels", "odd", "known"] := by
    have F := fun_mk (st := s_reduced) l_reduced c_reduced k_reduced
    exact ⟨_, _, F, PySem.W.mg_of X G a_reduced, F.binds (ps := ["levels", "odd", "known"]) fun _ _ _ _ _ _ us hl => match us, hl with | [_, _, _], _ => rfl⟩
  have D_word_that_follows : Df K mg "word_that_follows" s_word_that_follows ["words", "levels", "odd"] := by
    have F := fun_mk (st := s_word_that_follows) l_word_that_follows c_word_that_follows k_word_that_follows
    exact ⟨_, _, F, PySem.W.mg_of X G a_word_that_follows, F.binds (ps := ["words", "levels", "odd"]) fun _ _ _ _ _ _ us hl => match us, hl with | [_, _, _], _ => rfl⟩
  have D_least_and_count : Df K mg "least_and_count" s_least_and_count ["many", "known"] := by
    have F := fun_mk (st := s_least_and_count) l_least_and_count c_least_and_count k_least_and_count
    exact ⟨_, _, F, PySem.W.mg_of X G a_least_and_count, F.binds (ps := ["many", "known"]) fun _ _ _ _ _ _ us hl => match us, hl with | [_, _], _ => rfl⟩
  have D_levels_seen : Df K mg "levels_seen" s_levels_seen ["base", "many", "seen"] := by
    have F := fun_mk (st := s_levels_seen) l_levels_seen c_levels_seen k_levels_seen
    exact ⟨_, _, F, PySem.W.mg_of X G a_levels_seen, F.binds (ps := ["base", "many", "seen"]) fun _ _ _ _ _ _ us hl => match us, hl with | [_, _, _], _ => rfl⟩
  have D_law_cell_at : Df K mg "_law_cell_at" s__law_cell_at ["_law_script", "_law_k"] := by
    have F := fun_mk (st := s__law_cell_at) l_law_cell_at c_law_cell_at k_law_cell_at
    exact ⟨_, _, F, PySem.W.mg_of X G a_law_cell_at, F.binds (ps := ["_law_script", "_law_k"]) fun _ _ _ _ _ _ us hl => match us, hl with | [_, _], _ => rfl⟩
  have D_law_mixed : Df K mg "_law_mixed" s__law_mixed ["_law_cell", "_law_k"] := by
    have F := fun_mk (st := s__law_mixed) l_law_mixed c_law_mixed k_law_mixed
    exact ⟨_, _, F, PySem.W.mg_of X G a_law_mixed, F.binds (ps := ["_law_cell", "_law_k"]) fun _ _ _ _ _ _ us hl => match us, hl with | [_, _], _ => rfl⟩
  have D_law_source : Df K mg "_law_source" s__law_source ["_law_script", "_law_k"] := by
    have F := fun_mk (st := s__law_source) l_law_source c_law_source k_law_source
    exact ⟨_, _, F, PySem.W.mg_of X G a_law_source, F.binds (ps := ["_law_script", "_law_k"]) fun _ _ _ _ _ _ us hl => match us, hl with | [_, _], _ => rfl⟩
  have D_law_next : Df K mg "_law_next" s__law_next ["_law_source_here", "_law_most"] := by
    have F := fun_mk (st := s__law_next) l_law_next c_law_next k_law_next
    exact ⟨_, _, F, PySem.W.mg_of X G a_law_next, F.binds (ps := ["_law_source_here", "_law_most"]) fun _ _ _ _ _ _ us hl => match us, hl with | [_, _], _ => rfl⟩
  have D_law_base : Df K mg "_law_base" s__law_base ["_law_source_here"] := by
    have F := fun_mk (st := s__law_base) l_law_base c_law_base k_law_base
    exact ⟨_, _, F, PySem.W.mg_of X G a_law_base, F.binds (ps := ["_law_source_here"]) fun _ _ _ _ _ _ us hl => match us, hl with | [_], _ => rfl⟩
  have D_law_words_of : Df K mg "_law_words_of" s__law_words_of ["_law_source_here"] := by
    have F := fun_mk (st := s__law_words_of) l_law_words_of c_law_words_of k_law_words_of
    exact ⟨_, _, F, PySem.W.mg_of X G a_law_words_of, F.binds (ps := ["_law_source_here"]) fun _ _ _ _ _ _ us hl => match us, hl with | [_], _ => rfl⟩
  have FC_law_word := funC_mk (st := s__law_word) l_law_word c_law_word k_law_word
  have mgC_law_word := PySem.W.mg_of X G a_law_word
  have bC_law_word := FC_law_word.fn.binds (ps := ["_law_ask_here"]) fun _ _ _ _ _ _ us hl => match us, hl with | [_], _ => rfl
  have D_law_bad_base : Df K mg "_law_bad_base" s__law_bad_base ["_law_source_here"] := by
    have F := fun_mk (st := s__law_bad_base) l_law_bad_base c_law_bad_base k_law_bad_base
    exact ⟨_, _, F, PySem.W.mg_of X G a_law_bad_base, F.binds (ps := ["_law_source_here"]) fun _ _ _ _ _ _ us hl => match us, hl with | [_], _ => rfl⟩
  have D_law_bad_levels : Df K mg "_law_bad_levels" s__law_bad_levels ["_law_source_here"] := by
    have F := fun_mk (st := s__law_bad_levels) l_law_bad_levels c_law_bad_levels k_law_bad_levels
    exact ⟨_, _, F, PySem.W.mg_of X G a_law_bad_levels, F.binds (ps := ["_law_source_here"]) fun _ _ _ _ _ _ us hl => match us, hl with | [_], _ => rfl⟩
  have D_law_bad_tick : Df K mg "_law_bad_tick" s__law_bad_tick ["_law_source_here"] := by
    have F := fun_mk (st := s__law_bad_tick) l_law_bad_tick c_law_bad_tick k_law_bad_tick
    exact ⟨_, _, F, PySem.W.mg_of X G a_law_bad_tick, F.binds (ps := ["_law_source_here"]) fun _ _ _ _ _ _ us hl => match us, hl with | [_], _ => rfl⟩
  have D_law_bad_order : Df K mg "_law_bad_order" s__law_bad_order ["_law_source_here"] := by
    have F := fun_mk (st := s__law_bad_order) l_law_bad_order c_law_bad_order k_law_bad_order
    exact ⟨_, _, F, PySem.W.mg_of X G a_law_bad_order, F.binds (ps := ["_law_source_here"]) fun _ _ _ _ _ _ us hl => match us, hl with | [_], _ => rfl⟩
  have D_law_bad_seen : Df K mg "_law_bad_seen" s__law_bad_seen ["_law_source_here"] := by
    have F := fun_mk (st := s__law_bad_seen) l_law_bad_seen c_law_bad_seen k_law_bad_seen
    exact ⟨_, _, F, PySem.W.mg_of X G a_law_bad_seen, F.binds (ps := ["_law_source_here"]) fun _ _ _ _ _ _ us hl => match us, hl with | [_], _ => rfl⟩
  have D_law_ask : Df K mg "_law_ask" s__law_ask ["_law_way", "_law_row"] := by
    have F := fun_mk (st := s__law_ask) l_law_ask c_law_ask k_law_ask
    exact ⟨_, _, F, PySem.W.mg_of X G a_law_ask, F.binds (ps := ["_law_way", "_law_row"]) fun _ _ _ _ _ _ us hl => match us, hl with | [_, _], _ => rfl⟩
  have D_law_spoilt : Df K mg "_law_spoilt" s__law_spoilt ["_law_source_here", "_law_row", "_law_odd", "_law_names"] := by
    have F := fun_mk (st := s__law_spoilt) l_law_spoilt c_law_spoilt k_law_spoilt
    exact ⟨_, _, F, PySem.W.mg_of X G a_law_spoilt, F.binds (ps := ["_law_source_here", "_law_row", "_law_odd", "_law_names"]) fun _ _ _ _ _ _ us hl => match us, hl with | [_, _, _, _], _ => rfl⟩
  have D_law_rows : Df K mg "_law_rows" s__law_rows ["_law_source_here"] := by
    have F := fun_mk (st := s__law_rows) l_law_rows c_law_rows k_law_rows
    exact ⟨_, _, F, PySem.W.mg_of X G a_law_rows, F.binds (ps := ["_law_source_here"]) fun _ _ _ _ _ _ us hl => match us, hl with | [_], _ => rfl⟩
  have FC_law := funC_mk (st := s_law) l_law c_law k_law
  have mgC_law := PySem.W.mg_of X G a_law
  have bC_law := FC_law.fn.binds (ps := ["_law_script"]) fun _ _ _ _ _ _ us hl => match us, hl with | [_], _ => rfl
  have X_NoBase : EC K mg "NoBase" c_NoBase := ⟨PySem.W.mg_of X G a_NoBase, x_NoBase, kp_NoBase, bx_NoBase, tx_NoBase⟩
  have EX_NoBase : ExcC K c_NoBase := ⟨ga_NoBase, gg_NoBase, bx_NoBase, hx_NoBase, cc_NoBase, sp_get, tk_cls, mo_NoBase⟩
  have X_NoLevels : EC K mg "NoLevels" c_NoLevels := ⟨PySem.W.mg_of X G a_NoLevels, x_NoLevels, kp_NoLevels, bx_NoLevels, tx_NoLevels⟩
  have EX_NoLevels : ExcC K c_NoLevels := ⟨ga_NoLevels, gg_NoLevels, bx_NoLevels, hx_NoLevels, cc_NoLevels, sp_get, tk_cls, mo_NoLevels⟩
  have X_NoTick : EC K mg "NoTick" c_NoTick := ⟨PySem.W.mg_of X G a_NoTick, x_NoTick, kp_NoTick, bx_NoTick, tx_NoTick⟩
  have EX_NoTick : ExcC K c_NoTick := ⟨ga_NoTick, gg_NoTick, bx_NoTick, hx_NoTick, cc_NoTick, sp_get, tk_cls, mo_NoTick⟩
  have X_NoOrder : EC K mg "NoOrder" c_NoOrder := ⟨PySem.W.mg_of X G a_NoOrder, x_NoOrder, kp_NoOrder, bx_NoOrder, tx_NoOrder⟩
  have EX_NoOrder : ExcC K c_NoOrder := ⟨ga_NoOrder, gg_NoOrder, bx_NoOrder, hx_NoOrder, cc_NoOrder, sp_get, tk_cls, mo_NoOrder⟩
  have X_NoSighting : EC K mg "NoSighting" c_NoSighting := ⟨PySem.W.mg_of X G a_NoSighting, x_NoSighting, kp_NoSighting, bx_NoSighting, tx_NoSighting⟩
  have EX_NoSighting : ExcC K c_NoSighting := ⟨ga_NoSighting, gg_NoSighting, bx_NoSighting, hx_NoSighting, cc_NoSighting, sp_get, tk_cls, mo_NoSighting⟩
  have XG_TimerError : EG mg "TimerError" c_TimerError := ⟨PySem.W.mg_of X G a_TimerError⟩
  have XG_NoPeriod : EG mg "NoPeriod" c_NoPeriod := ⟨PySem.W.mg_of X G a_NoPeriod⟩
  have XG_NoTimer : EG mg "NoTimer" c_NoTimer := ⟨PySem.W.mg_of X G a_NoTimer⟩
  have XG_TooMany : EG mg "TooMany" c_TooMany := ⟨PySem.W.mg_of X G a_TooMany⟩
  refine ⟨PySem.W.fnOf "law" "law" (defArgs s_law) (defBody s_law) (defScope s_law) .none kV_law dc_law pm_law an_law (.ref cc_law) ct_law, [(cc_law, P_law)], spLaw K [(P_law, lamQ "law")], (List.forall_mem_cons.mpr ⟨hT8 _ tm_law, (fun _ hh => nomatch hh)⟩), (List.forall_mem_cons.mpr ⟨nt_law, (fun _ hh => nomatch hh)⟩), (List.forall_mem_cons.mpr ⟨PySem.W.codeHd_of_K X ch_law, (fun _ hh => nomatch hh)⟩), fun s v => .of_eq rfl, fun H a ns h1 h3 h4 => ⟨a, ns, rfl, h4, h1, (List.forall_mem_cons.mpr ⟨LamX.TabS.nil (h3 (cc_law, P_law) (by simp)), (fun _ hh => nomatch hh)⟩), fun _ => rfl⟩, fun base hKb hNb hTB => ?_⟩
  have TB_law := hTB (cc_law, P_law) (by simp)
  have h_is_integer : Has l.prog w K mg base 1 "is_integer" ["given"] [] spIsInt := D_is_integer.has fun _ _ F => ok_is_integer F T
  have h2_is_tick : Has l.prog w K mg base 2 "is_tick" ["given", "least"] [.int 0] spIsTick ∧ Has l.prog w K mg base 2 "is_tick" ["given", "least"] [] spIsTick := D_is_tick.has fun _ _ F => ok_is_tick F T h_is_integer
  have h_is_base : Has l.prog w K mg base 2 "is_base" ["given"] [] spIsBase := D_is_base.has fun _ _ F => ok_is_base F h_is_integer
  have h_check_base : Has l.prog w K mg base 3 "check_base" ["base"] [] spCheckBase := D_check_base.has fun _ _ F => ok_check_base F h_is_base
  have h2_check_tick : Has l.prog w K mg base 3 "check_tick" ["tick", "least"] [.int 0] spCheckTick ∧ Has l.prog w K mg base 3 "check_tick" ["tick", "least"] [] spCheckTick := D_check_tick.has fun _ _ F => ok_check_tick F h2_is_tick.2
  have h_level_and_size : Has l.prog w K mg base 1 "level_and_size" ["base", "now", "due"] [] spLevel := D_level_and_size.has fun _ _ F => ok_level_and_size F 
  have h_path : Has l.prog w K mg base 2 "path" ["base", "now", "due"] [] spPath := D_path.has fun _ _ F => ok_path F h_level_and_size
  have h_word_at : Has l.prog w K mg base 1 "word_at" ["levels", "level"] [] (spWordAt K) := D_word_at.has fun _ _ F => ok_word_at F T
  have h_is_word : Has l.prog w K mg base 1 "is_word" ["given"] [] spIsWord := D_is_word.has fun _ _ F => ok_is_word F T h_WORDS
  have h_is_length : Has l.prog w K mg base 2 "is_length" ["given"] [] spIsLength := D_is_length.has fun _ _ F => ok_is_length F ⟨_, h_MOST_LEVELS⟩ h_is_integer
  have h_are_levels : Has l.prog w K mg base 3 "are_levels" ["given"] [] (spAreLevels K) := D_are_levels.has fun _ _ F => ok_are_levels F T h_is_length h_is_word
  have h_check_levels : Has l.prog w K mg base 4 "check_levels" ["levels"] [] (spCheckLevels K) := D_check_levels.has fun _ _ F => ok_check_levels F h_are_levels
  have h_goes_in_front : Has l.prog w K mg base 3 "goes_in_front" ["base", "levels", "now", "due", "lowest"] [] (spFront K) := D_goes_in_front.has fun _ _ F => ok_goes_in_front F h_path h_word_at
  have h_size_of_lowest_stack : Has l.prog w K mg base 1 "size_of_lowest_stack" ["base", "levels"] [] (spLow K) := D_size_of_lowest_stack.has fun _ _ F => ok_size_of_lowest_stack F 
  have h_powers : Has l.prog w K mg base 1 "powers" ["base", "many"] [] spPowers := D_powers.has fun _ _ F => ok_powers F T
  have h_telling_dues : Has l.prog w K mg base 2 "telling_dues" ["base", "levels", "other_base", "other_levels"] [] (spTelling K) := D_telling_dues.has fun _ _ F => ok_telling_dues F T h_powers h_size_of_lowest_stack
  have h_first_difference : Has l.prog w K mg base 4 "first_difference" ["base", "levels", "other_base", "other_levels", "due"] [] (spFstD K) := D_first_difference.has fun _ _ F => ok_first_difference F T h_path h_goes_in_front
  have h_check_order : Has l.prog w K mg base 2 "check_order" ["order"] [] (spCheckOrder K) := D_check_order.has fun _ _ F => ok_check_order F T h_is_integer
  have h_ticks_and_sides : Has l.prog w K mg base 3 "ticks_and_sides" ["base", "levels", "start", "due"] [] (spTicksSides K) := D_ticks_and_sides.has fun _ _ F => ok_ticks_and_sides F T h_path h_word_at
  have h_sides_wanted : Has l.prog w K mg base 1 "sides_wanted" ["order"] [] (spSidesWanted K) := D_sides_wanted.has fun _ _ F => ok_sides_wanted F T
  have hA_is_integer := D_is_integer.has (P := l.prog) (w := w) (base := base) (k := 1) (sp := spIsIntX K) fun _ _ F => okA_is_integer F T
  have hA_is_tick := D_is_tick.has (P := l.prog) (w := w) (base := base) (k := 2) (sp := spIsTickX K) fun _ _ F => okA_is_tick F hA_is_integer
  have hX_check_tick := D_check_tick.hasX (P := l.prog) (w := w) (base := base) (k := 3) (sp := spCheckTickX K c_NoTick) fun _ _ F => okX_check_tick F T X_NoTick hA_is_tick.2
  have hA_is_base := D_is_base.has (P := l.prog) (w := w) (base := base) (k := 2) (sp := spIsBaseX K) fun _ _ F => okA_is_base F hA_is_integer
  have hX_check_base := D_check_base.hasX (P := l.prog) (w := w) (base := base) (k := 3) (sp := spCheckBaseX K c_NoBase) fun _ _ F => okX_check_base F T X_NoBase hA_is_base
  have hA_is_word := D_is_word.has (P := l.prog) (w := w) (base := base) (k := 1) (sp := spIsWordX K) fun _ _ F => okA_is_word F T h_WORDS
  have hA_is_length := D_is_length.has (P := l.prog) (w := w) (base := base) (k := 2) (sp := spIsLengthX K) fun _ _ F => okA_is_length F ⟨_, h_MOST_LEVELS⟩ hA_is_integer
  have hA_are_levels := D_are_levels.has (P := l.prog) (w := w) (base := base) (k := 3) (sp := spAreLevelsX K) fun _ _ F => okA_are_levels F T hA_is_length hA_is_word
  have hX_check_levels := D_check_levels.hasX (P := l.prog) (w := w) (base := base) (k := 4) (sp := spCheckLevelsX K c_NoLevels) fun _ _ F => okX_check_levels F T X_NoLevels hA_are_levels
  have hX_check_order := D_check_order.hasX (P := l.prog) (w := w) (base := base) (k := 2) (sp := spOrderX K c_NoOrder) fun _ _ F => okX_check_order F T X_NoOrder hA_is_integer
  have hX_check_many := D_check_many.hasX (P := l.prog) (w := w) (base := base) (k := 3) (sp := spCheckManyX K c_NoLevels) fun _ _ F => okX_check_many F T X_NoLevels hA_is_length
  have hA_is_sighting := D_is_sighting.has (P := l.prog) (w := w) (base := base) (k := 3) (sp := spIsSighting K) fun _ _ F => okA_is_sighting F T h_SIDES hA_is_tick.1 hA_is_tick.2
  have hX_check_seen := D_check_seen.hasX (P := l.prog) (w := w) (base := base) (k := 4) (sp := spCheckSeenX K c_NoSighting) fun _ _ F => okX_check_seen F T X_NoSighting hA_is_sighting
  have h_check_many : Has l.prog w K mg base 3 "check_many" ["many"] [] spCheckMany := hX_check_many.calm many_calm
  have h_check_seen : Has l.prog w K mg base 4 "check_seen" ["seen"] [] (spCheckSeen K) := hX_check_seen.calm seen_calm
  have h_equation : Has l.prog w K mg base 3 "equation" ["base", "many", "sighting"] [] spEquation := D_equation.has fun _ _ F => ok_equation F T h_path
  have h_reduced : Has l.prog w K mg base 1 "reduced" ["levels", "odd", "known"] [] spReduced := D_reduced.has fun _ _ F => ok_reduced F T
  have h_word_that_follows : Has l.prog w K mg base 1 "word_that_follows" ["words", "levels", "odd"] [] (spFollows K) := D_word_that_follows.has fun _ _ F => ok_follows F T
  have h_least_and_count : Has l.prog w K mg base 2 "least_and_count" ["many", "known"] [] spLeast := D_least_and_count.has fun _ _ F => ok_least F T h_word_that_follows
  have hK_set_ticks := D_set_ticks.hasXK (P := l.prog) (w := w) (base := base) (k := 5) (ks := ["order", "due", "start", "levels", "base"]) (sp := spOr (spSetBad K c_NoBase c_NoLevels c_NoTick c_NoOrder c_NoSighting) (spSetTicks K)) (fun _ _ F => fnok_or (okX_set_bad F T hX_check_base hX_check_levels hX_check_tick.1 hX_check_tick.2 hX_check_order h_ticks_and_sides h_sides_wanted) (fnok_lift (ok_set_ticks F T h_check_base h2_check_tick.1 h2_check_tick.2 h_check_levels h_check_order h_ticks_and_sides h_sides_wanted))) (fun _ _ _ _ _ _ ws hl => match ws, hl with | [_, _, _, _, _], _ => rfl)
  have hK_told_apart := D_told_apart.hasXK (P := l.prog) (w := w) (base := base) (k := 5) (ks := ["other_levels", "other_base", "levels", "base"]) (sp := spOr (spToldBad K c_NoBase c_NoLevels c_NoTick c_NoOrder c_NoSighting) (spTold K)) (fun _ _ F => fnok_or (okX_told_bad F hX_check_base hX_check_levels h_telling_dues h_first_difference) (fnok_lift (ok_told_apart F h_check_base h_check_levels h_telling_dues h_first_difference))) (fun _ _ _ _ _ _ ws hl => match ws, hl with | [_, _, _, _], _ => rfl)
  have hK_levels_seen := D_levels_seen.hasXK (P := l.prog) (w := w) (base := base) (k := 5) (ks := ["seen", "many", "base"]) (sp := spOr (spSeenBad K c_NoBase c_NoLevels c_NoTick c_NoOrder c_NoSighting) (spSeen K)) (fun _ _ F => fnok_or (okX_seen_bad F T hX_check_base hX_check_many hX_check_seen h_equation h_reduced h_least_and_count) (fnok_lift (ok_seen F T h_check_base h_check_many h_check_seen h_equation h_reduced h_least_and_count))) (fun _ _ _ _ _ _ ws hl => match ws, hl with | [_, _, _], _ => rfl)
  have kd_NoBase : Kind8 K c_NoBase [c_NoBase, c_NoLevels, c_NoTick, c_NoPeriod, c_NoTimer, c_NoOrder, c_NoSighting, c_TooMany] 0 := kind8_of 0 EX_NoBase ve_NoBase (by decide) (eight_at ⟨fun _ => rfl, fun z => absurd rfl z⟩ ⟨fun z => absurd z (by decide), fun _ => kit_no ss_NoBase hx_NoLevels tx_NoLevels ss_NoBase_NoLevels⟩ ⟨fun z => absurd z (by decide), fun _ => kit_no ss_NoBase hx_NoTick tx_NoTick ss_NoBase_NoTick⟩ ⟨fun z => absurd z (by decide), fun _ => kit_no ss_NoBase hx_NoPeriod tx_NoPeriod ss_NoBase_NoPeriod⟩ ⟨fun z => absurd z (by decide), fun _ => kit_no ss_NoBase hx_NoTimer tx_NoTimer ss_NoBase_NoTimer⟩ ⟨fun z => absurd z (by decide), fun _ => kit_no ss_NoBase hx_NoOrder tx_NoOrder ss_NoBase_NoOrder⟩ ⟨fun z => absurd z (by decide), fun _ => kit_no ss_NoBase hx_NoSighting tx_NoSighting ss_NoBase_NoSighting⟩ ⟨fun z => absurd z (by decide), fun _ => kit_no ss_NoBase hx_TooMany tx_TooMany ss_NoBase_TooMany⟩)
  have te_NoBase := PySem.W.exm_ref bx_TimerError hx_TimerError tx_TimerError ss_NoBase_TimerError
  have kd_NoLevels : Kind8 K c_NoLevels [c_NoBase, c_NoLevels, c_NoTick, c_NoPeriod, c_NoTimer, c_NoOrder, c_NoSighting, c_TooMany] 1 := kind8_of 1 EX_NoLevels ve_NoLevels (by decide) (eight_at ⟨fun z => absurd z (by decide), fun _ => kit_no ss_NoLevels hx_NoBase tx_NoBase ss_NoLevels_NoBase⟩ ⟨fun _ => rfl, fun z => absurd rfl z⟩ ⟨fun z => absurd z (by decide), fun _ => kit_no ss_NoLevels hx_NoTick tx_NoTick ss_NoLevels_NoTick⟩ ⟨fun z => absurd z (by decide), fun _ => kit_no ss_NoLevels hx_NoPeriod tx_NoPeriod ss_NoLevels_NoPeriod⟩ ⟨fun z => absurd z (by decide), fun _ => kit_no ss_NoLevels hx_NoTimer tx_NoTimer ss_NoLevels_NoTimer⟩ ⟨fun z => absurd z (by decide), fun _ => kit_no ss_NoLevels hx_NoOrder tx_NoOrder ss_NoLevels_NoOrder⟩ ⟨fun z => absurd z (by decide), fun _ => kit_no ss_NoLevels hx_NoSighting tx_NoSighting ss_NoLevels_NoSighting⟩ ⟨fun z => absurd z (by decide), fun _ => kit_no ss_NoLevels hx_TooMany tx_TooMany ss_NoLevels_TooMany⟩)
  have te_NoLevels := PySem.W.exm_ref bx_TimerError hx_TimerError tx_TimerError ss_NoLevels_TimerError
  have kd_NoTick : Kind8 K c_NoTick [c_NoBase, c_NoLevels, c_NoTick, c_NoPeriod, c_NoTimer, c_NoOrder, c_NoSighting, c_TooMany] 2 := kind8_of 2 EX_NoTick ve_NoTick (by decide) (eight_at ⟨fun z => absurd z (by decide), fun _ => kit_no ss_NoTick hx_NoBase tx_NoBase ss_NoTick_NoBase⟩ ⟨fun z => absurd z (by decide), fun _ => kit_no ss_NoTick hx_NoLevels tx_NoLevels ss_NoTick_NoLevels⟩ ⟨fun _ => rfl, fun z => absurd rfl z⟩ ⟨fun z => absurd z (by decide), fun _ => kit_no ss_NoTick hx_NoPeriod tx_NoPeriod ss_NoTick_NoPeriod⟩ ⟨fun z => absurd z (by decide), fun _ => kit_no ss_NoTick hx_NoTimer tx_NoTimer ss_NoTick_NoTimer⟩ ⟨fun z => absurd z (by decide), fun _ => kit_no ss_NoTick hx_NoOrder tx_NoOrder ss_NoTick_NoOrder⟩ ⟨fun z => absurd z (by decide), fun _ => kit_no ss_NoTick hx_NoSighting tx_NoSighting ss_NoTick_NoSighting⟩ ⟨fun z => absurd z (by decide), fun _ => kit_no ss_NoTick hx_TooMany tx_TooMany ss_NoTick_TooMany⟩)
  have te_NoTick := PySem.W.exm_ref bx_TimerError hx_TimerError tx_TimerError ss_NoTick_TimerError
  have kd_NoOrder : Kind8 K c_NoOrder [c_NoBase, c_NoLevels, c_NoTick, c_NoPeriod, c_NoTimer, c_NoOrder, c_NoSighting, c_TooMany] 5 := kind8_of 5 EX_NoOrder ve_NoOrder (by decide) (eight_at ⟨fun z => absurd z (by decide), fun _ => kit_no ss_NoOrder hx_NoBase tx_NoBase ss_NoOrder_NoBase⟩ ⟨fun z => absurd z (by decide), fun _ => kit_no ss_NoOrder hx_NoLevels tx_NoLevels ss_NoOrder_NoLevels⟩ ⟨fun z => absurd z (by decide), fun _ => kit_no ss_NoOrder hx_NoTick tx_NoTick ss_NoOrder_NoTick⟩ ⟨fun z => absurd z (by decide), fun _ => kit_no ss_NoOrder hx_NoPeriod tx_NoPeriod ss_NoOrder_NoPeriod⟩ ⟨fun z => absurd z (by decide), fun _ => kit_no ss_NoOrder hx_NoTimer tx_NoTimer ss_NoOrder_NoTimer⟩ ⟨fun _ => rfl, fun z => absurd rfl z⟩ ⟨fun z => absurd z (by decide), fun _ => kit_no ss_NoOrder hx_NoSighting tx_NoSighting ss_NoOrder_NoSighting⟩ ⟨fun z => absurd z (by decide), fun _ => kit_no ss_NoOrder hx_TooMany tx_TooMany ss_NoOrder_TooMany⟩)
  have te_NoOrder := PySem.W.exm_ref bx_TimerError hx_TimerError tx_TimerError ss_NoOrder_TimerError
  have kd_NoSighting : Kind8 K c_NoSighting [c_NoBase, c_NoLevels, c_NoTick, c_NoPeriod, c_NoTimer, c_NoOrder, c_NoSighting, c_TooMany] 6 := kind8_of 6 EX_NoSighting ve_NoSighting (by decide) (eight_at ⟨fun z => absurd z (by decide), fun _ => kit_no ss_NoSighting hx_NoBase tx_NoBase ss_NoSighting_NoBase⟩ ⟨fun z => absurd z (by decide), fun _ => kit_no ss_NoSighting hx_NoLevels tx_NoLevels ss_NoSighting_NoLevels⟩ ⟨fun z => absurd z (by decide), fun _ => kit_no ss_NoSighting hx_NoTick tx_NoTick ss_NoSighting_NoTick⟩ ⟨fun z => absurd z (by decide), fun _ => kit_no ss_NoSighting hx_NoPeriod tx_NoPeriod ss_NoSighting_NoPeriod⟩ ⟨fun z => absurd z (by decide), fun _ => kit_no ss_NoSighting hx_NoTimer tx_NoTimer ss_NoSighting_NoTimer⟩ ⟨fun z => absurd z (by decide), fun _ => kit_no ss_NoSighting hx_NoOrder tx_NoOrder ss_NoSighting_NoOrder⟩ ⟨fun _ => rfl, fun z => absurd rfl z⟩ ⟨fun z => absurd z (by decide), fun _ => kit_no ss_NoSighting hx_TooMany tx_TooMany ss_NoSighting_TooMany⟩)
  have te_NoSighting := PySem.W.exm_ref bx_TimerError hx_TimerError tx_TimerError ss_NoSighting_TimerError
  have h_law_cell_at : Has l.prog w K mg base 1 "_law_cell_at" ["_law_script", "_law_k"] [] (spCellAt K) := D_law_cell_at.has fun _ _ F => ok_cell_at F T
  have h_law_mixed : Has l.prog w K mg base 1 "_law_mixed" ["_law_cell", "_law_k"] [] spMixed := D_law_mixed.has fun _ _ F => ok_mixed F 
  have h_law_source : Has l.prog w K mg base 2 "_law_source" ["_law_script", "_law_k"] [] (spSource K) := D_law_source.has fun _ _ F => ok_source F T h_law_cell_at h_law_mixed
  have h_law_next : Has l.prog w K mg base 2 "_law_next" ["_law_source_here", "_law_most"] [] spNext := D_law_next.has fun _ _ F => ok_next F  h_law_mixed
  have h_law_base : Has l.prog w K mg base 3 "_law_base" ["_law_source_here"] [] spBase := D_law_base.has fun _ _ F => ok_base F h_law_next
  have h_law_words_of : Has l.prog w K mg base 3 "_law_words_of" ["_law_source_here"] [] spWords31 := D_law_words_of.has fun _ _ F => ok_words31 F T h_law_next
  have h_law_bad_base : Has l.prog w K mg base 3 "_law_bad_base" ["_law_source_here"] [] (spBad24 K fun H x => BadBase K H x) := D_law_bad_base.has fun _ _ F => ok_bad_base F h_law_next
  have h_law_bad_levels : Has l.prog w K mg base 3 "_law_bad_levels" ["_law_source_here"] [] (spBad24 K fun H x => BadLevels K H x) := D_law_bad_levels.has fun _ _ F => ok_bad_levels F h_law_next
  have h_law_bad_tick : Has l.prog w K mg base 3 "_law_bad_tick" ["_law_source_here"] [] (spBad24 K fun H x => BadTick K H x 0) := D_law_bad_tick.has fun _ _ F => ok_bad_tick F h_law_next
  have h_law_bad_order : Has l.prog w K mg base 3 "_law_bad_order" ["_law_source_here"] [] (spBad24 K fun H x => BadOrder K H x) := D_law_bad_order.has fun _ _ F => ok_bad_order F h_law_next
  have h_law_bad_seen : Has l.prog w K mg base 3 "_law_bad_seen" ["_law_source_here"] [] (spBadSeen K) := D_law_bad_seen.has fun _ _ F => ok_bad_seen F h_law_next
  have h_law_spoilt : Has l.prog w K mg base 3 "_law_spoilt" ["_law_source_here", "_law_row", "_law_odd", "_law_names"] [] (spSpoilt K) := D_law_spoilt.has fun _ _ F => ok_spoilt F T h_law_next
  have h_law_rows : Has l.prog w K mg base 4 "_law_rows" ["_law_source_here"] [] (spRows31 K) := D_law_rows.has fun _ _ F => ok_rows31 F T h_law_next h_law_base h_law_words_of h_law_bad_tick h_law_bad_base h_law_bad_levels h_law_bad_order h_law_bad_seen h_law_spoilt
  have hX_law_ask := D_law_ask.hasX (P := l.prog) (w := w) (base := base) (k := 6) (sp := spAsk31 K c_NoBase c_NoLevels c_NoTick c_NoOrder c_NoSighting) fun _ _ F => okX_ask31 F hK_set_ticks hK_told_apart hK_levels_seen
  have h_law_ask : Has l.prog w K mg base 6 "_law_ask" ["_law_way", "_law_row"] [] (spAsk31C K) := hX_law_ask.calm ask31_calm
  exact ok_law FC_law T FC_law_word mgC_law_word bC_law_word TB_law (by simp) (fun p hp _ => congrArg Prod.snd (List.mem_singleton.mp hp)) XG_TimerError ⟨X_NoBase.g⟩ ⟨X_NoLevels.g⟩ ⟨X_NoTick.g⟩ ⟨X_NoOrder.g⟩ XG_NoPeriod ⟨X_NoSighting.g⟩ XG_NoTimer XG_TooMany (fun e he => match e, he with | 0, _ => te_NoBase | 1, _ => te_NoLevels | 2, _ => te_NoTick | 3, _ => te_NoOrder | 4, _ => te_NoSighting | e + 5, h => absurd h (by omega)) (fun e he => match e, he with | 0, _ => ⟨_, kd_NoBase, rfl⟩ | 1, _ => ⟨_, kd_NoLevels, rfl⟩ | 2, _ => ⟨_, kd_NoTick, rfl⟩ | 3, _ => ⟨_, kd_NoOrder, rfl⟩ | 4, _ => ⟨_, kd_NoSighting, rfl⟩ | e + 5, h => absurd h (by omega)) h_law_source h_law_rows h_law_ask hX_law_ask
end Td
open PySem PySem.W PyProof.Rows in
set_option maxRecDepth 100000 in
set_option maxHeartbeats 0 in
theorem PySem.Challenge.cw_timerdeque_k31_plans_and_sightings_refus_holds : PySem.Challenge.rw_timerdeque_k31_plans_and_sightings_refus.Holds := by
  w_on; o_law; k_head; (case hw => w_witness2)
  k_fill
  refine Td.walk_guardT (l := PySem.Challenge.rw_timerdeque_k31_plans_and_sightings_refus) (n := 63) (k := 9) (x := "_law_script") rfl (by decide) rfl ⟨rfl, by decide, by decide⟩ (fun w h Y => PySem.W.km_in_of Y) ?F
  case F =>
    intro w mg fa h Y KX G hmg
    refine' Td.all_mk KX G hmg ?hT8 ?a_is_integer ?l_is_integer ?c_is_integer ?k_is_integer ?a_is_word ?l_is_word ?c_is_word ?k_is_word ?a_is_base ?l_is_base ?c_is_base ?k_is_base ?a_is_length ?l_is_length ?c_is_length ?k_is_length ?a_are_levels ?l_are_levels ?c_are_levels ?k_are_levels ?a_is_tick ?l_is_tick ?t_is_tick ?c_is_tick ?k_is_tick ?a_check_base ?l_check_base ?c_check_base ?k_check_base ?a_check_levels ?l_check_levels ?c_check_levels ?k_check_levels ?a_check_tick ?l_check_tick ?t_check_tick ?c_check_tick ?k_check_tick ?a_word_at ?l_word_at ?c_word_at ?k_word_at ?a_level_and_size ?l_level_and_size ?c_level_and_size ?k_level_and_size ?a_path ?l_path ?c_path ?k_path ?a_goes_in_front ?l_goes_in_front ?c_goes_in_front ?k_goes_in_front ?a_check_order ?l_check_order ?c_check_order ?k_check_order ?a_ticks_and_sides ?l_ticks_and_sides ?c_ticks_and_sides ?k_ticks_and_sides ?a_sides_wanted ?l_sides_wanted ?c_sides_wanted ?k_sides_wanted ?a_set_ticks ?l_set_ticks ?c_set_ticks ?k_set_ticks ?a_size_of_lowest_stack ?l_size_of_lowest_stack ?c_size_of_lowest_stack ?k_size_of_lowest_stack ?a_powers ?l_powers ?c_powers ?k_powers ?a_telling_dues ?l_telling_dues ?c_telling_dues ?k_telling_dues ?a_first_difference ?l_first_difference ?c_first_difference ?k_first_difference ?a_told_apart ?l_told_apart ?c_told_apart ?k_told_apart ?a_is_sighting ?l_is_sighting ?c_is_sighting ?k_is_sighting ?a_check_many ?l_check_many ?c_check_many ?k_check_many ?a_check_seen ?l_check_seen ?c_check_seen ?k_check_seen ?a_equation ?l_equation ?c_equation ?k_equation ?a_reduced ?l_reduced ?c_reduced ?k_reduced ?a_word_that_follows ?l_word_that_follows ?c_word_that_follows ?k_word_that_follows ?a_least_and_count ?l_least_and_count ?c_least_and_count ?k_least_and_count ?a_levels_seen ?l_levels_seen ?c_levels_seen ?k_levels_seen ?a_law_cell_at ?l_law_cell_at ?c_law_cell_at ?k_law_cell_at ?a_law_mixed ?l_law_mixed ?c_law_mixed ?k_law_mixed ?a_law_source ?l_law_source ?c_law_source ?k_law_source ?a_law_next ?l_law_next ?c_law_next ?k_law_next ?a_law_base ?l_law_base ?c_law_base ?k_law_base ?a_law_words_of ?l_law_words_of ?c_law_words_of ?k_law_words_of ?a_law_word ?l_law_word ?c_law_word ?k_law_word ?a_law_bad_base ?l_law_bad_base ?c_law_bad_base ?k_law_bad_base ?a_law_bad_levels ?l_law_bad_levels ?c_law_bad_levels ?k_law_bad_levels ?a_law_bad_tick ?l_law_bad_tick ?c_law_bad_tick ?k_law_bad_tick ?a_law_bad_order ?l_law_bad_order ?c_law_bad_order ?k_law_bad_order ?a_law_bad_seen ?l_law_bad_seen ?c_law_bad_seen ?k_law_bad_seen ?a_law_ask ?l_law_ask ?c_law_ask ?k_law_ask ?a_law_spoilt ?l_law_spoilt ?c_law_spoilt ?k_law_spoilt ?a_law_rows ?l_law_rows ?c_law_rows ?k_law_rows ?a_law ?l_law ?c_law ?k_law ?lc_law ?lp_law ?ch_law ?nt_law ?tm_law ?a_NoBase ?a_NoLevels ?a_NoTick ?a_NoOrder ?a_NoSighting ?a_TimerError ?a_NoPeriod ?a_NoTimer ?a_TooMany ?x_NoBase ?kp_NoBase ?bx_NoBase ?tx_NoBase ?ga_NoBase ?gg_NoBase ?hx_NoBase ?cc_NoBase ?mo_NoBase ?ss_NoBase ?x_NoLevels ?kp_NoLevels ?bx_NoLevels ?tx_NoLevels ?ga_NoLevels ?gg_NoLevels ?hx_NoLevels ?cc_NoLevels ?mo_NoLevels ?ss_NoLevels ?x_NoTick ?kp_NoTick ?bx_NoTick ?tx_NoTick ?ga_NoTick ?gg_NoTick ?hx_NoTick ?cc_NoTick ?mo_NoTick ?ss_NoTick ?x_NoOrder ?kp_NoOrder ?bx_NoOrder ?tx_NoOrder ?ga_NoOrder ?gg_NoOrder ?hx_NoOrder ?cc_NoOrder ?mo_NoOrder ?ss_NoOrder ?x_NoSighting ?kp_NoSighting ?bx_NoSighting ?tx_NoSighting ?ga_NoSighting ?gg_NoSighting ?hx_NoSighting ?cc_NoSighting ?mo_NoSighting ?ss_NoSighting ?sp_get ?tk_cls ?bx_TimerError ?ve_NoBase ?ss_NoBase_NoLevels ?ss_NoBase_NoTick ?ss_NoBase_NoOrder ?ss_NoBase_NoSighting ?ve_NoLevels ?ss_NoLevels_NoBase ?ss_NoLevels_NoTick ?ss_NoLevels_NoOrder ?ss_NoLevels_NoSighting ?ve_NoTick ?ss_NoTick_NoBase ?ss_NoTick_NoLevels ?ss_NoTick_NoOrder ?ss_NoTick_NoSighting ?ve_NoOrder ?ss_NoOrder_NoBase ?ss_NoOrder_NoLevels ?ss_NoOrder_NoTick ?ss_NoOrder_NoSighting ?ve_NoSighting ?ss_NoSighting_NoBase ?ss_NoSighting_NoLevels ?ss_NoSighting_NoTick ?ss_NoSighting_NoOrder ?hx_TimerError ?tx_TimerError ?ss_NoBase_TimerError ?ss_NoLevels_TimerError ?ss_NoTick_TimerError ?ss_NoOrder_TimerError ?ss_NoSighting_TimerError ?hx_NoPeriod ?tx_NoPeriod ?ss_NoBase_NoPeriod ?ss_NoLevels_NoPeriod ?ss_NoTick_NoPeriod ?ss_NoOrder_NoPeriod ?ss_NoSighting_NoPeriod ?hx_NoTimer ?tx_NoTimer ?ss_NoBase_NoTimer ?ss_NoLevels_NoTimer ?ss_NoTick_NoTimer ?ss_NoOrder_NoTimer ?ss_NoSighting_NoTimer ?hx_TooMany ?tx_TooMany ?ss_NoBase_TooMany ?ss_NoLevels_TooMany ?ss_NoTick_TooMany ?ss_NoOrder_TooMany ?ss_NoSighting_TooMany ?z_isinstance ?z_int ?z_bool ?z_str ?z_all ?z_list ?z_len ?z_min ?z_sorted ?z_range ?z_reversed ?z_max ?z_tuple ?z_set ?z_enumerate ?z_ValueError ?z_repr ?a_WORDS ?l_WORDS ?a_MOST_LEVELS ?a_SIDES ?l_SIDES
    (case hT8 => exact PySem.W.km_tabs_of Y)
    (case a_is_integer => k_is)
    (case l_is_integer => k_is)
    (case c_is_integer => k_is)
    (case k_is_integer => k_is)
    (case a_is_word => k_is)
    (case l_is_word => k_is)
    (case c_is_word => k_is)
    (case k_is_word => k_is)
    (case a_is_base => k_is)
    (case l_is_base => k_is)
    (case c_is_base => k_is)
    (case k_is_base => k_is)
    (case a_is_length => k_is)
    (case l_is_length => k_is)
    (case c_is_length => k_is)
    (case k_is_length => k_is)
    (case a_are_levels => k_is)
    (case l_are_levels => k_is)
    (case c_are_levels => k_is)
    (case k_are_levels => k_is)
    (case a_is_tick => k_is)
    (case l_is_tick => k_is)
    (case t_is_tick => k_is)
    (case c_is_tick => k_is)
    (case k_is_tick => k_is)
    (case a_check_base => k_is)
    (case l_check_base => k_is)
    (case c_check_base => k_is)
    (case k_check_base => k_is)
    (case a_check_levels => k_is)
    (case l_check_levels => k_is)
    (case c_check_levels => k_is)
    (case k_check_levels => k_is)
    (case a_check_tick => k_is)
    (case l_check_tick => k_is)
    (case t_check_tick => k_is)
    (case c_check_tick => k_is)
    (case k_check_tick => k_is)
    (case a_word_at => k_is)
    (case l_word_at => k_is)
    (case c_word_at => k_is)
    (case k_word_at => k_is)
    (case a_level_and_size => k_is)
    (case l_level_and_size => k_is)
    (case c_level_and_size => k_is)
    (case k_level_and_size => k_is)
    (case a_path => k_is)
    (case l_path => k_is)
    (case c_path => k_is)
    (case k_path => k_is)
    (case a_goes_in_front => k_is)
    (case l_goes_in_front => k_is)
    (case c_goes_in_front => k_is)
    (case k_goes_in_front => k_is)
    (case a_check_order => k_is)
    (case l_check_order => k_is)
    (case c_check_order => k_is)
    (case k_check_order => k_is)
    (case a_ticks_and_sides => k_is)
    (case l_ticks_and_sides => k_is)
    (case c_ticks_and_sides => k_is)
    (case k_ticks_and_sides => k_is)
    (case a_sides_wanted => k_is)
    (case l_sides_wanted => k_is)
    (case c_sides_wanted => k_is)
    (case k_sides_wanted => k_is)
    (case a_set_ticks => k_is)
    (case l_set_ticks => k_is)
    (case c_set_ticks => k_is)
    (case k_set_ticks => k_is)
    (case a_size_of_lowest_stack => k_is)
    (case l_size_of_lowest_stack => k_is)
    (case c_size_of_lowest_stack => k_is)
    (case k_size_of_lowest_stack => k_is)
    (case a_powers => k_is)
    (case l_powers => k_is)
    (case c_powers => k_is)
    (case k_powers => k_is)
    (case a_telling_dues => k_is)
    (case l_telling_dues => k_is)
    (case c_telling_dues => k_is)
    (case k_telling_dues => k_is)
    (case a_first_difference => k_is)
    (case l_first_difference => k_is)
    (case c_first_difference => k_is)
    (case k_first_difference => k_is)
    (case a_told_apart => k_is)
    (case l_told_apart => k_is)
    (case c_told_apart => k_is)
    (case k_told_apart => k_is)
    (case a_is_sighting => k_is)
    (case l_is_sighting => k_is)
    (case c_is_sighting => k_is)
    (case k_is_sighting => k_is)
    (case a_check_many => k_is)
    (case l_check_many => k_is)
    (case c_check_many => k_is)
    (case k_check_many => k_is)
    (case a_check_seen => k_is)
    (case l_check_seen => k_is)
    (case c_check_seen => k_is)
    (case k_check_seen => k_is)
    (case a_equation => k_is)
    (case l_equation => k_is)
    (case c_equation => k_is)
    (case k_equation => k_is)
    (case a_reduced => k_is)
    (case l_reduced => k_is)
    (case c_reduced => k_is)
    (case k_reduced => k_is)
    (case a_word_that_follows => k_is)
    (case l_word_that_follows => k_is)
    (case c_word_that_follows => k_is)
    (case k_word_that_follows => k_is)
    (case a_least_and_count => k_is)
    (case l_least_and_count => k_is)
    (case c_least_and_count => k_is)
    (case k_least_and_count => k_is)
    (case a_levels_seen => k_is)
    (case l_levels_seen => k_is)
    (case c_levels_seen => k_is)
    (case k_levels_seen => k_is)
    (case a_law_cell_at => k_is)
    (case l_law_cell_at => k_is)
    (case c_law_cell_at => k_is)
    (case k_law_cell_at => k_is)
    (case a_law_mixed => k_is)
    (case l_law_mixed => k_is)
    (case c_law_mixed => k_is)
    (case k_law_mixed => k_is)
    (case a_law_source => k_is)
    (case l_law_source => k_is)
    (case c_law_source => k_is)
    (case k_law_source => k_is)
    (case a_law_next => k_is)
    (case l_law_next => k_is)
    (case c_law_next => k_is)
    (case k_law_next => k_is)
    (case a_law_base => k_is)
    (case l_law_base => k_is)
    (case c_law_base => k_is)
    (case k_law_base => k_is)
    (case a_law_words_of => k_is)
    (case l_law_words_of => k_is)
    (case c_law_words_of => k_is)
    (case k_law_words_of => k_is)
    (case a_law_word => k_is)
    (case l_law_word => k_is)
    (case c_law_word => k_is)
    (case k_law_word => k_is)
    (case a_law_bad_base => k_is)
    (case l_law_bad_base => k_is)
    (case c_law_bad_base => k_is)
    (case k_law_bad_base => k_is)
    (case a_law_bad_levels => k_is)
    (case l_law_bad_levels => k_is)
    (case c_law_bad_levels => k_is)
    (case k_law_bad_levels => k_is)
    (case a_law_bad_tick => k_is)
    (case l_law_bad_tick => k_is)
    (case c_law_bad_tick => k_is)
    (case k_law_bad_tick => k_is)
    (case a_law_bad_order => k_is)
    (case l_law_bad_order => k_is)
    (case c_law_bad_order => k_is)
    (case k_law_bad_order => k_is)
    (case a_law_bad_seen => k_is)
    (case l_law_bad_seen => k_is)
    (case c_law_bad_seen => k_is)
    (case k_law_bad_seen => k_is)
    (case a_law_ask => k_is)
    (case l_law_ask => k_is)
    (case c_law_ask => k_is)
    (case k_law_ask => k_is)
    (case a_law_spoilt => k_is)
    (case l_law_spoilt => k_is)
    (case c_law_spoilt => k_is)
    (case k_law_spoilt => k_is)
    (case a_law_rows => k_is)
    (case l_law_rows => k_is)
    (case c_law_rows => k_is)
    (case k_law_rows => k_is)
    (case a_law => k_is)
    (case l_law => k_is)
    (case c_law => k_is)
    (case k_law => k_is)
    (case lc_law => k_is)
    (case lp_law => rfl)
    (case ch_law => rfl)
    (case nt_law => rfl)
    (case tm_law => simp)
    (case a_NoBase => k_is)
    (case a_NoLevels => k_is)
    (case a_NoTick => k_is)
    (case a_NoOrder => k_is)
    (case a_NoSighting => k_is)
    (case a_TimerError => k_is)
    (case a_NoPeriod => k_is)
    (case a_NoTimer => k_is)
    (case a_TooMany => k_is)
    (case x_NoBase => k_exc)
    (case kp_NoBase => k_is)
    (case bx_NoBase => k_is)
    (case tx_NoBase => k_is)
    (case ga_NoBase => k_is)
    (case gg_NoBase => k_is)
    (case hx_NoBase => k_is)
    (case cc_NoBase => k_is)
    (case mo_NoBase => k_is)
    (case ss_NoBase => k_is)
    (case x_NoLevels => k_exc)
    (case kp_NoLevels => k_is)
    (case bx_NoLevels => k_is)
    (case tx_NoLevels => k_is)
    (case ga_NoLevels => k_is)
    (case gg_NoLevels => k_is)
    (case hx_NoLevels => k_is)
    (case cc_NoLevels => k_is)
    (case mo_NoLevels => k_is)
    (case ss_NoLevels => k_is)
    (case x_NoTick => k_exc)
    (case kp_NoTick => k_is)
    (case bx_NoTick => k_is)
    (case tx_NoTick => k_is)
    (case ga_NoTick => k_is)
    (case gg_NoTick => k_is)
    (case hx_NoTick => k_is)
    (case cc_NoTick => k_is)
    (case mo_NoTick => k_is)
    (case ss_NoTick => k_is)
    (case x_NoOrder => k_exc)
    (case kp_NoOrder => k_is)
    (case bx_NoOrder => k_is)
    (case tx_NoOrder => k_is)
    (case ga_NoOrder => k_is)
    (case gg_NoOrder => k_is)
    (case hx_NoOrder => k_is)
    (case cc_NoOrder => k_is)
    (case mo_NoOrder => k_is)
    (case ss_NoOrder => k_is)
    (case x_NoSighting => k_exc)
    (case kp_NoSighting => k_is)
    (case bx_NoSighting => k_is)
    (case tx_NoSighting => k_is)
    (case ga_NoSighting => k_is)
    (case gg_NoSighting => k_is)
    (case hx_NoSighting => k_is)
    (case cc_NoSighting => k_is)
    (case mo_NoSighting => k_is)
    (case ss_NoSighting => k_is)
    (case sp_get => k_is)
    (case tk_cls => k_is)
    (case bx_TimerError => k_is)
    (case ve_NoBase => k_is)
    (case ss_NoBase_NoLevels => k_is)
    (case ss_NoBase_NoTick => k_is)
    (case ss_NoBase_NoOrder => k_is)
    (case ss_NoBase_NoSighting => k_is)
    (case ve_NoLevels => k_is)
    (case ss_NoLevels_NoBase => k_is)
    (case ss_NoLevels_NoTick => k_is)
    (case ss_NoLevels_NoOrder => k_is)
    (case ss_NoLevels_NoSighting => k_is)
    (case ve_NoTick => k_is)
    (case ss_NoTick_NoBase => k_is)
    (case ss_NoTick_NoLevels => k_is)
    (case ss_NoTick_NoOrder => k_is)
    (case ss_NoTick_NoSighting => k_is)
    (case ve_NoOrder => k_is)
    (case ss_NoOrder_NoBase => k_is)
    (case ss_NoOrder_NoLevels => k_is)
    (case ss_NoOrder_NoTick => k_is)
    (case ss_NoOrder_NoSighting => k_is)
    (case ve_NoSighting => k_is)
    (case ss_NoSighting_NoBase => k_is)
    (case ss_NoSighting_NoLevels => k_is)
    (case ss_NoSighting_NoTick => k_is)
    (case ss_NoSighting_NoOrder => k_is)
    (case hx_TimerError => k_is)
    (case tx_TimerError => k_is)
    (case ss_NoBase_TimerError => k_is)
    (case ss_NoLevels_TimerError => k_is)
    (case ss_NoTick_TimerError => k_is)
    (case ss_NoOrder_TimerError => k_is)
    (case ss_NoSighting_TimerError => k_is)
    (case hx_NoPeriod => k_is)
    (case tx_NoPeriod => k_is)
    (case ss_NoBase_NoPeriod => k_is)
    (case ss_NoLevels_NoPeriod => k_is)
    (case ss_NoTick_NoPeriod => k_is)
    (case ss_NoOrder_NoPeriod => k_is)
    (case ss_NoSighting_NoPeriod => k_is)
    (case hx_NoTimer => k_is)
    (case tx_NoTimer => k_is)
    (case ss_NoBase_NoTimer => k_is)
    (case ss_NoLevels_NoTimer => k_is)
    (case ss_NoTick_NoTimer => k_is)
    (case ss_NoOrder_NoTimer => k_is)
    (case ss_NoSighting_NoTimer => k_is)
    (case hx_TooMany => k_is)
    (case tx_TooMany => k_is)
    (case ss_NoBase_TooMany => k_is)
    (case ss_NoLevels_TooMany => k_is)
    (case ss_NoTick_TooMany => k_is)
    (case ss_NoOrder_TooMany => k_is)
    (case ss_NoSighting_TooMany => k_is)
    (case z_isinstance => k_is)
    (case z_int => k_is)
    (case z_bool => k_is)
    (case z_str => k_is)
    (case z_all => k_is)
    (case z_list => k_is)
    (case z_len => k_is)
    (case z_min => k_is)
    (case z_sorted => k_is)
    (case z_range => k_is)
    (case z_reversed => k_is)
    (case z_max => k_is)
    (case z_tuple => k_is)
    (case z_set => k_is)
    (case z_enumerate => k_is)
    (case z_ValueError => k_is)
    (case z_repr => k_is)
    (case a_WORDS => k_is)
    (case l_WORDS => k_is)
    (case a_MOST_LEVELS => k_is)
    (case a_SIDES => k_is)
    (case l_SIDES => k_is)
