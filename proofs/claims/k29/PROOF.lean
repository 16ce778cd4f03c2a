import PyProof.Rows.All
import Wide.All
import OpenK.AllK
import Wide.FinOn
import HandS.ForMost
import HandS.IsInst
import HandS.Wide
import HandS.WideBits
import HandS.Iter
import HandS.NoneIn
import PyProof.LongRange
import HandS.Defaults
import HandS.Zip
import HandS.Flow
import HandS.SortKw
import HandS.SortOrd
import KE.DatumOrd
import HandS.Conv
import HandS.More
import HandS.Small
import HandS.Exc
import HandS.ExcOwn
import HandS.ExcIs
import HandS.TryOnly
import HandS.WordsExc
import HandS.Lambda
import HandS.EndTab
import PyProof.ReprRoads
import PyProof.Rows.RegFStrParts
import HandS.DictTup
import PyProof.DictMoreH
import HandS.MakeKwOnly
import HandS.Style
import HandS.WordsDict
import HandS.SortInts
import HandS.TupAny
import KE.SortData
import KE.SortKeyHeap
import KE.KSortKey
import KE.KNestM
import PySem.Challenge.RW_timerdeque_k29_whole_wheels_shown_apart
set_option Elab.async false
set_option linter.all false
set_option maxRecDepth 100000
set_option maxHeartbeats 4000000
set_option exponentiation.threshold 10000
namespace Td
open PySem PySem.Spec PyProof.Rows L2
/-! ### small things: promises by name, heaps, numbers -/
section
variable {P : Program} {w : World} {K : PySem.W.Frag} {mg : Str → Option Value} {base : Heap}
/-- the module's name x holds a def that keeps the promise sp, its last parameters filled up by dvs -/
def Has (P : Program) (w : World) (K : PySem.W.Frag) (mg : Str → Option Value) (base : Heap) (k : Nat) (x : Str) (ps : List Str) (dvs : List V) (sp : Sp) : Prop :=
  ∃ (f : Addr) (fd : FuncData) (ds : List Value), FnOk P w K mg base CX0 k f fd ps sp ∧ mg x = some (.ref f) ∧ PySem.W.keepIn K (.ref f) = true ∧ Binds K fd ps ds ∧ Vals dvs ds
/-- what the top says of a def without defaults -/
def Df (K : PySem.W.Frag) (mg : Str → Option Value) (x : Str) (st : Stmt) (ps : List Str) : Prop :=
  ∃ (f : Addr) (fd : FuncData), Fun K x x st f fd ∧ mg x = some (.ref f) ∧ Binds K fd ps []
theorem Df.has {k : Nat} {x : Str} {st : Stmt} {ps : List Str} {sp : Sp} (D : Df K mg x st ps) (ok : ∀ f fd, Fun K x x st f fd → FnOk P w K mg base CX0 k f fd ps sp) : Has P w K mg base k x ps [] sp := by
  obtain ⟨f, fd, F, m, b⟩ := D
  exact ⟨f, fd, [], ok f fd F, m, F.kp, b, .nil⟩
/-- a def with one default, the last parameter's -/
def Dd (K : PySem.W.Frag) (mg : Str → Option Value) (x : Str) (st : Stmt) (ps : List Str) (d : V) : Prop :=
  ∃ (f : Addr) (fd : FuncData), FunD K x x (defArgs st) (defBody st) (defScope st) [d] [] f fd ∧ mg x = some (.ref f) ∧ (∃ ds, Vals [d] ds ∧ Binds K fd ps ds) ∧ Binds K fd ps []
theorem Dd.has {k : Nat} {x : Str} {st : Stmt} {ps : List Str} {d : V} {sp : Sp} (D : Dd K mg x st ps d) (ok : ∀ f fd, FunD K x x (defArgs st) (defBody st) (defScope st) [d] [] f fd → FnOk P w K mg base CX0 k f fd ps sp) :
    Has P w K mg base k x ps [d] sp ∧ Has P w K mg base k x ps [] sp := by
  obtain ⟨f, fd, F, m, ⟨ds, r, b⟩, b0⟩ := D
  exact ⟨⟨f, fd, ds, ok f fd F, m, F.kp, b, r⟩, ⟨f, fd, [], ok f fd F, m, F.kp, b0, .nil⟩⟩
end
section
variable {X : Cx}
/-- a product of which one side is small, or both are not too great -/
def CMulA (i j : Int) : Prop := IntMulOk i j
theorem op_mulA : OpR X (binaryOp .Mult) (rI CMulA fun i j => .int (i * j)) := opI fun _ _ _ _ _ _ _ hc q => mul_int q hc
end
/-! x *= e, ints -/
section
variable {X : Cx}
def ipC (C : Int → Int → Prop) (f : Int → Int → Int) : TIp := fun x y H Q => ∃ i j, x = .int i ∧ y = .int j ∧ C i j ∧ Q (.int (f i j)) H
theorem ip_mulA : PIp X .Mult (ipC CMulA fun i j => i * j) := by
  intro pins s σ H x y v u Q I r1 r2 h
  obtain ⟨i, j, rfl, rfl, hm, q⟩ := h
  obtain ⟨t, rfl⟩ := r1
  obtain ⟨t', rfl⟩ := r2
  exact imul_int ⟨.int _, H, I.tok _, ⟨_, rfl⟩, q⟩ hm
end
theorem mul_l {i j : Int} (h1 : -(2 ^ 64) < i) (h2 : i < 2 ^ 64) : CMulA i j := CMul.ok (.inl ⟨h1, h2⟩)
theorem mul_r {i j : Int} (h1 : -(2 ^ 64) < j) (h2 : j < 2 ^ 64) : CMulA i j := CMul.ok (.inr ⟨h1, h2⟩)
theorem mul_w {i j : Int} (a b : Nat) (ha : i.natAbs < 2 ^ a) (hb : j.natAbs < 2 ^ b) (h0 : 0 < a := by decide) (h1 : 0 < b := by decide) (h : a + b ≤ 1000000 := by decide) : CMulA i j := (wide_mul ha hb h0 h1 h).ok
theorem div_s {i j : Int} (h : 0 < j) (h2 : j < 2 ^ 300) : CDivW i j := wide_div (b := 300) h (by omega) (by decide) (by decide)
theorem div_b {i j : Int} (b : Nat) (h : 0 < j) (h2 : j < 2 ^ b) (h0 : 0 < b := by decide) (h9 : b ≤ 9000 := by decide) : CDivW i j := by
  refine wide_div (b := b) h ?_ h0 h9
  have e : ((2 ^ b : Nat) : Int) = (2 : Int) ^ b := by
    rw [Int.natCast_pow]
    rfl
  omega
theorem same_upd {H : Hp} {p : Addr} {o : HO} (h : H p = none) : Same H (upd H p o) := fun b x e => by
  rw [upd_ne (ne_of_none e h)]
  exact e
theorem sizeLine_ge {n : Nat} (h : n ≤ 1000000) : n < sizeLine := by
  rw [sizeLine_eq]
  omega
theorem sizeLine_le {n : Nat} (h : n ≤ 1000000) : n ≤ sizeLine := Nat.le_of_lt (sizeLine_ge h)
theorem pos_of {a c : Nat} (h : a ≤ c) (n : ¬ a = c) : 0 < c := by omega
/-! ### operators on numbers that are not negative -/
def rN (C : Nat → Nat → Prop) (g : Nat → Nat → Nat) : R2 := fun x y H Q => ∃ a b : Nat, x = .int (a : Nat) ∧ y = .int (b : Nat) ∧ C a b ∧ Q (.int ((g a b : Nat) : Int)) H
section
variable {X : Cx}
theorem opN {f : Value → Value → Sem Value} {C : Nat → Nat → Prop} {g : Nat → Nat → Nat} {CI : Int → Int → Prop} {gI : Int → Int → V} (h : OpR X f (rI CI gI)) (e : ∀ a b : Nat, C a b → CI (a : Nat) (b : Nat) ∧ gI (a : Nat) (b : Nat) = .int ((g a b : Nat) : Int)) : OpR X f (rN C g) := by
  intro pins s σ H x y v u Q I rx ry hq
  obtain ⟨a, b, ex, ey, hc, q⟩ := hq
  obtain ⟨h1, h2⟩ := e a b hc
  exact h pins s σ H x y v u Q I rx ry ⟨_, _, ex, ey, h1, by rw [h2]; exact q⟩
theorem opN0 {f : Value → Value → Sem Value} {C : Nat → Nat → Prop} {g : Nat → Nat → Nat} {gI : Int → Int → V} (h : OpR X f (rI0 gI)) (e : ∀ a b : Nat, C a b → gI (a : Nat) (b : Nat) = .int ((g a b : Nat) : Int)) : OpR X f (rN C g) := by
  intro pins s σ H x y v u Q I rx ry hq
  obtain ⟨a, b, ex, ey, hc, q⟩ := hq
  exact h pins s σ H x y v u Q I rx ry ⟨_, _, ex, ey, by rw [e a b hc]; exact q⟩
def NDiv (_ b : Nat) : Prop := 0 < b ∧ b < 2 ^ 9000
def NMod (_ b : Nat) : Prop := 0 < b
def NSub (a b : Nat) : Prop := b ≤ a
def NMul (a b : Nat) : Prop := IntMulOk (a : Int) (b : Int)
def NAny (_ _ : Nat) : Prop := True
theorem op_divN : OpR X (binaryOp .FloorDiv) (rN NDiv fun a b => a / b) := opN op_fdivW fun a b h => ⟨wide_div (b := 9000) (Int.natCast_pos.mpr h.1) h.2 (by decide) (Nat.le_refl _), rfl⟩
theorem op_remN : OpR X (binaryOp .Mod) (rN NMod fun a b => a % b) := opN op_mod fun a b h => ⟨Int.natCast_pos.mpr h, rfl⟩
theorem op_mulN : OpR X (binaryOp .Mult) (rN NMul fun a b => a * b) := opN op_mulA fun a b h => ⟨h, congrArg V.int (Int.natCast_mul a b).symm⟩
theorem op_addN : OpR X (binaryOp .Add) (rN NAny fun a b => a + b) := opN0 op_add fun _ _ _ => rfl
theorem op_subN : OpR X (binaryOp .Sub) (rN NSub fun a b => a - b) := opN0 op_sub fun a b h => congrArg V.int (Int.natCast_sub h).symm
end
theorem ndiv {a b : Nat} (t : Nat) (h : 0 < b) (h2 : b < 2 ^ t) (ht : t ≤ 9000 := by decide) : NDiv a b := ⟨h, Nat.lt_of_lt_of_le h2 (Nat.pow_le_pow_right (by decide) ht)⟩
theorem nmul_l {a b : Nat} (h : a < 2 ^ 64) : NMul a b := mul_l (by omega) (by omega)
theorem nmul_r {a b : Nat} (h : b < 2 ^ 64) : NMul a b := mul_r (by omega) (by omega)
theorem nmul_w {a b : Nat} (i j : Nat) (ha : a < 2 ^ i) (hb : b < 2 ^ j) (h0 : 0 < i := by decide) (h1 : 0 < j := by decide) (h : i + j ≤ 1000000 := by decide) : NMul a b := mul_w i j ha hb h0 h1 h
theorem int_ne {a b : Nat} (h : a ≠ b) : decide (V.int (a : Nat) = V.int (b : Nat)) = false := decide_eq_false fun e => h (Int.ofNat.inj (V.int.inj e))
theorem dT {p : Prop} [Decidable p] (h : p) : V.bl (decide p) = V.bl true := congrArg V.bl (decide_eq_true h)
theorem dF {p : Prop} [Decidable p] (h : ¬ p) : V.bl (decide p) = V.bl false := congrArg V.bl (decide_eq_false h)
theorem nT {p : Prop} [Decidable p] (h : ¬ p) : V.bl (!decide p) = V.bl true := congrArg V.bl (congrArg (!·) (decide_eq_false h))
theorem nF {p : Prop} [Decidable p] (h : p) : V.bl (!decide p) = V.bl false := congrArg V.bl (congrArg (!·) (decide_eq_true h))
theorem vN {a b : Nat} (h : a ≠ b) : ¬ V.int (a : Nat) = V.int (b : Nat) := fun e => h (Int.ofNat.inj (V.int.inj e))
theorem vE {a b : Nat} (h : a = b) : V.int (a : Nat) = V.int (b : Nat) := congrArg (fun c : Nat => V.int (c : Nat)) h
theorem vI {a b : Int} (h : a ≠ b) : ¬ V.int a = V.int b := fun e => h (V.int.inj e)
/-! ### rules with the written part named (within a comprehension's block) -/
section
variable {X : Cx} {K : PySem.W.Frag}
theorem ix_tupK (e : X.K = K) : IxR X (rIxT K) := by subst e; exact ix_tup
theorem ix_listK (e : X.K = K) : IxR X (rIxL K) := by subst e; exact ix_list
theorem sl_tupK (e : X.K = K) : SlR X (rSlT K) := by subst e; exact sl_tup
theorem sl_listK (e : X.K = K) : SlR X (rSlL K) := by subst e; exact sl_list
theorem op_eqK (e : X.K = K) (hu : X.A.units + 64 < cLine) : OpR X (compareOp .Eq) (rEqD K) := by subst e; exact op_eqD hu
theorem op_neK (e : X.K = K) (hu : X.A.units + 64 < cLine) : OpR X (compareOp .NotEq) (rNeD K) := by subst e; exact op_neD hu
theorem isiK (e : X.K = K) : CallR X (.builtin "isinstance") (rIsi K) := by subst e; exact call_isi
def rLenK (K : PySem.W.Frag) : List V → Hp → VK → Prop := fun xs H Q => ∃ p ys, xs = [.ref p] ∧ (SqL K H p ys ∨ SqT K H p ys) ∧ Q (.int ys.length) H
theorem lenK (e : X.K = K) : CallR X (.builtin "len") (rLenK K) := by subst e; exact call_len_seq
theorem allK (e : X.K = K) (hc : X.calm = true) : CallR X (.builtin "all") (rAll K) := by subst e; exact cr_all hc
theorem sumK (e : X.K = K) (hc : X.calm = true) : CallR X (.builtin "sum") (rSum K) := by subst e; exact cr_sum hc
theorem maxK (e : X.K = K) (hc : X.calm = true) : CallR X (.builtin "max") (rMax K) := by subst e; exact cr_max hc
theorem minK (e : X.K = K) (hc : X.calm = true) : CallR X (.builtin "min") (rMin K) := by subst e; exact cr_min hc
theorem anyK (e : X.K = K) (hc : X.calm = true) : CallR X (.builtin "any") (rAny K) := by subst e; exact cr_any hc
end
section
variable {X : Cx} {K : PySem.W.Frag}
theorem ix_ltK (e : X.K = K) : IxR X (fun x y H Q => rIxL K x y H Q ∨ rIxT K x y H Q) := by subst e; exact ix_list.or ix_tup
theorem pe_orTK {a b : Expr} {ta tb : TE} {rest : List Expr} {pos : Pos} (e : X.K = K) (ha : PE X a ta) (hb : PE X (.BoolOp .Or (b :: rest) pos) tb) : PE X (.BoolOp .Or (a :: b :: rest) pos) (tOrT K ta tb) := by subst e; exact pe_orT ha hb
end
theorem yesT {σ : L2.St} {H : Hp} {Q : Bool → Hp → Prop} (h : Q true H) : tYes σ H Q := h
section
variable {X : Cx} {K : PySem.W.Frag}
theorem pg_tupK {es : List Expr} {k : Nat} {t : TGs} {n : Nat} {pos : Pos} (e : X.K = K) (hc : X.calm = true) (h : PGs X es t)
    (hn : (assignEach es X.env).length = n := by rfl) (hst : (assignEach es X.env).findIdx? (·.1) = none := by rfl) : PG X (.Tuple es k pos) (gTup K n t) := by
  subst e
  exact pg_tup hc h hn hst
end
theorem tyx_list {K : PySem.W.Frag} {H : Hp} {a : Addr} {xs : List V} (h : SqL K H a xs) : TyX K H (.ref a) (.type "list") := by
  rcases h with (h | ⟨o, h⟩) | ⟨o, its, n, h, hc, _⟩
  · exact .base (.lst h)
  · exact .base (.frz h)
  · exact .kList h hc
/-- max and min of two numbers that are not negative -/
def rNN (g : Nat → Nat → Nat) : List V → Hp → VK → Prop := fun xs H Q => ∃ a b : Nat, xs = [.int (a : Nat), .int (b : Nat)] ∧ Q (.int ((g a b : Nat) : Int)) H
section
variable {X : Cx}
theorem max2N (hc : X.calm = true) : CallR X (.builtin "max") (rNN max) := by
  intro pins s σ H xs us Q I r h
  obtain ⟨a, b, rfl, q⟩ := h
  refine call_max2 hc pins s σ H _ us Q I r ⟨_, _, rfl, ?_⟩
  have e : (if (b : Int) > (a : Int) then (b : Int) else (a : Int)) = ((max a b : Nat) : Int) := by split <;> omega
  rw [e]
  exact q
theorem max0N (hc : X.calm = true) : CallR X (.builtin "max") (fun xs H Q => ∃ (z : Int) (n : Nat), xs = [.int 0, .int z] ∧ (if z > 0 then z else 0) = (n : Int) ∧ Q (.int (n : Nat)) H) := by
  intro pins s σ H xs us Q I r h
  obtain ⟨z, n, rfl, e, q⟩ := h
  refine call_max2 hc pins s σ H _ us Q I r ⟨0, z, rfl, ?_⟩
  rw [e]
  exact q
theorem min2N (hc : X.calm = true) : CallR X (.builtin "min") (rNN min) := by
  intro pins s σ H xs us Q I r h
  obtain ⟨a, b, rfl, q⟩ := h
  refine call_min2 hc pins s σ H _ us Q I r ⟨_, _, rfl, ?_⟩
  have e : (if (b : Int) < (a : Int) then (b : Int) else (a : Int)) = ((min a b : Nat) : Int) := by split <;> omega
  rw [e]
  exact q
end
/-- one rest behind several ways -/
theorem cut_at {α : Type} {I : α → Hp → Prop} {G : Prop} (R : α → Hp → Prop) (h1 : (∀ a H, I a H → R a H) → G) (h2 : ∀ a H, I a H → R a H) : G := h1 h2
theorem cut_rest {I : Hp → Prop} {G : Prop} (R : Hp → Prop) (h1 : (∀ H, I H → R H) → G) (h2 : ∀ H, I H → R H) : G := h1 h2
/-! ### range over numbers of any size -/
theorem turn_long {P : Program} {w : World} {K : PySem.W.Frag} {tg : Expr} (r : Addr) (lo c : Int) (n : Nat) :
    Turn P w K tg (Itc lo c n) [r] r (fun i hp => IsLongIter hp r (lo + (i : Nat) * c) ((n : Int) - (i : Nat)) c) where
  mem := List.mem_singleton.mpr rfl
  obj := fun _ _ here b hb => by
    cases List.mem_singleton.mp hb
    exact ⟨_, here, fun _ z => nomatch z⟩
  keep := fun _ _ _ here same => same r (List.mem_singleton.mpr rfl) _ here
  item := by
    intro Y y1 y2 y3 calm i pins s σ H E inv own here more
    subst y1; subst y2; subst y3
    have o := own r (List.mem_singleton.mpr rfl)
    refine (Walks.longrange (prog := Y.prog) (w := Y.w) (inv.ok.hd calm) r lo c n).item i s _ _ more here fun v h2 k hv next keep => ?_
    obtain ⟨t, rfl⟩ := hv
    have inv2 : Inv Y pins σ H { s with heap := h2, toks := k } := inv.turned (fun b ob hb e => keep b ob (fun z => hb (List.mem_singleton.mp z)) e) o.1 o.2.1 o.2.2.2.1 o.2.2.2.2.1 o.2.2.2.2.2
    have stay : ∀ b ∈ [r], H b = none := fun b hb => (own b hb).1
    exact ⟨_, rfl, go_of (s := { s with heap := h2, toks := k }) (n := "longrange_iterator") next rfl rfl (by decide) ⟨.int (lo + (i : Nat) * c), H, inv2, ⟨t, rfl⟩, ⟨rfl, rfl⟩, next, stay⟩⟩
  done := by
    intro Y y1 y2 y3 calm i pins s σ H E inv own here over
    subst y1; subst y2; subst y3
    have o := own r (List.mem_singleton.mpr rfl)
    have le : n ≤ i := over
    exact wpAny_pyNext_long_end (inv.ok.hd calm) here (by omega) fun h2 same => ⟨rfl, inv.turned (t' := s.toks) (fun b ob hb e => same b ob hb e) o.1 o.2.1 o.2.2.2.1 o.2.2.2.2.1 o.2.2.2.2.2⟩
  self := fun _ _ _ _ _ here h => wpAny_pyIter_longiter here h
/-- a range object just made, whatever its size -/
theorem range_wide {X : Cx} {tg : Expr} {pins : List (Addr × Obj)} {σ : L2.St} {H : Hp} {s : Shared} {R : It → Hp → Prop} {E : Value → Shared → Prop} {lo hi c : Int} {t u v : Tok} {tk n : Nat} (I : Inv X pins σ H s)
    (hn : Builtin.Range.rangeSize lo hi c = n) (q : R (Itc lo c n) H) :
    wpAny (model X.prog X.w) X.A (pyIter (.ref s.heap.objs.size)) (PIE X pins σ tg R) E { s with heap := s.heap.push { cls := .type "range", data := .fields #[.int lo t, .int hi u, .int c v] }, toks := tk } := by
  have made : Inv X pins σ H { s with heap := s.heap.push { cls := .type "range", data := .fields #[.int lo t, .int hi u, .int c v] }, toks := tk } := I.kept fun b ob e => Heap.get?_push_of_some _ e
  have e0 : lo + ((0 : Nat) : Int) * c = lo := by simp
  have e9 : (n : Int) - ((0 : Nat) : Int) = Builtin.Range.rangeSize lo hi c := by
    rw [hn]
    simp
  cases small : Builtin.Range.small lo hi c with
  | true =>
    refine wpAny_pyIter_range (IsRange.new ..) small (pi_one (tk := tk) made _ (turn_rangeC _ lo c n) ?_ q)
    show IsRangeIter _ _ (lo + ((0 : Nat) : Int) * c) ((n : Int) - ((0 : Nat) : Int)) c
    rw [e0, e9]
    exact Heap.get?_push_size _ rfl
  | false =>
    refine wpAny_pyIter_longrange (IsRange.new ..) small (pi_one (tk := tk) made _ (turn_long _ lo c n) ?_ q)
    show IsLongIter _ _ (lo + ((0 : Nat) : Int) * c) ((n : Int) - ((0 : Nat) : Int)) c
    rw [e0, e9]
    exact Heap.get?_push_size _ rfl
theorem itc_one (lo : Int) (n : Nat) : Itc lo 1 n = Itr lo n := by
  unfold Itc Itr
  congr 1
  funext i H x H'
  rw [Int.mul_one]
def iWide2 (ta : TA) : TI := fun σ H R => ta σ H fun vs H1 => ∃ i j : Int, vs = [.int i, .int j] ∧ R (Itr i (j - i).toNat) H1
def iWide3 (ta : TA) : TI := fun σ H R => ta σ H fun vs H1 => ∃ (i j c : Int) (n : Nat), vs = [.int i, .int j, .int c] ∧ CDivP (j - i) c ∧ Builtin.Range.rangeSize i j c = n ∧ R (Itc i c n) H1
section
variable {X : Cx} {tg : Expr}
theorem pi_wide2 {a b : Expr} {ta : TA} {p pos : Pos} (hg : Gl X "range") (hm : X.mg "range" = none) (ha : PA X [a, b] ta) (h2 : starEach [a, b] X.env = [(false, eval a X.env), (false, eval b X.env)] := by rfl) (h1 : starEach [b] X.env = [(false, eval b X.env)] := by rfl) :
    PI X tg (.Call (.Name "range" p) [a, b] [] pos) (iWide2 ta) := by
  refine ⟨fun pins s σ H R I h => Call_ (ld_blt I hg hm boot_range (PyProof.Rows.callWith_type1 (thn (ha.run pos pins s σ H _ I h) fun us s1 ⟨vs, H1, I1, r1, q1⟩ => ?_) (by rw [h2, h1]) (by rw [h1]; rfl)))⟩
  obtain ⟨i, j, rfl, q⟩ := q1
  obtain ⟨u1, u2, rfl, ⟨t, rfl⟩, ⟨t', rfl⟩⟩ := vals2 r1
  refine call_range_2 (range_wide (n := (j - i).toNat) I1 ?_ (by rw [itc_one]; exact q))
  rw [rangeSize_one]
  split <;> omega
theorem pi_wide3 {a b c : Expr} {ta : TA} {p pos : Pos} (hg : Gl X "range") (hm : X.mg "range" = none) (ha : PA X [a, b, c] ta)
    (h3 : starEach [a, b, c] X.env = (false, eval a X.env) :: starEach [b, c] X.env := by rfl) (hn : (backTo pos (starEach [b, c] X.env)).any (·.1) = false := by rfl) :
    PI X tg (.Call (.Name "range" p) [a, b, c] [] pos) (iWide3 ta) := by
  refine ⟨fun pins s σ H R I h => Call_ (ld_blt I hg hm boot_range (PyProof.Rows.callWith_type1 (thn (ha.run pos pins s σ H _ I h) fun us s1 ⟨vs, H1, I1, r1, q1⟩ => ?_) h3 hn))⟩
  obtain ⟨i, j, k, n, rfl, hk, hz, q⟩ := q1
  cases r1 with
  | cons ra rr =>
    obtain ⟨u2, u3, rfl, ⟨t', rfl⟩, ⟨t'', rfl⟩⟩ := vals2 rr
    obtain ⟨t, rfl⟩ := ra
    have k0 : k ≠ 0 := fun z => by
      have := hk.1
      omega
    exact call_range_3 k0 (range_wide (tk := s1.toks) I1 hz q) (.inl hk.2)
end
/-- a list made over a range with a step -/
theorem lc_step {lo c : Int} {n : Nat} {g : TG} {tt : TT} {te : TE} {ws : List Nat} {σ : L2.St} {G : Hp} {D : Addr} {Qd : Hp → Prop} (Pv : Nat → Hp → Prop) (start : Pv 0 (upd G D (.lst [])))
    (step : ∀ i G, i < n → Pv i G → g (.int (lo + (i : Nat) * c)) (wipe σ ws) G fun τ G2 => wipe τ ws = wipe σ ws ∧ tt τ G2 fun k G3 => if k = true then te τ G3 fun z G4 => ∃ ac, G4 D = some (.lst ac) ∧ ac.length < sizeLine ∧ Pv (i + 1) (upd G4 D (.lst (ac ++ [z]))) else Pv (i + 1) G3)
    (last : ∀ G, Pv n G → Qd G) : ∃ W : Nat → Nat → Hp → Prop, (∃ m, W 0 m (upd G D (.lst []))) ∧ ∀ i m G, W i m G → ((Itc lo c n).stop i G ∧ Qd G) ∨
      ((Itc lo c n).go i G ∧ ∃ N : Hp → Prop, (∀ G', N G' → ∃ m', m' < m ∧ W (i + 1) m' G') ∧ ∀ x G', (Itc lo c n).yld i G x G' → g x (wipe σ ws) G' fun τ G2 => wipe τ ws = wipe σ ws ∧ tt τ G2 fun k G3 => if k = true then te τ G3 fun z G4 => ∃ ac, G4 D = some (.lst ac) ∧ ac.length < sizeLine ∧ N (upd G4 D (.lst (ac ++ [z]))) else N G3) := by
  refine ⟨fun i m G => (m = n - i ∧ i ≤ n) ∧ Pv i G, ⟨n, ⟨rfl, Nat.zero_le _⟩, start⟩, ?_⟩
  rintro i m G ⟨⟨rfl, le⟩, pv⟩
  rcases Nat.lt_or_ge i n with lt | ge
  · exact .inr ⟨lt, Pv (i + 1), fun G' p' => ⟨n - (i + 1), by omega, ⟨rfl, lt⟩, p'⟩, fun x G' ⟨e1, e2⟩ => by
      rw [e1, e2]
      exact step i G lt pv⟩
  · have e : i = n := Nat.le_antisymm le ge
    rw [e] at pv ⊢
    exact .inl ⟨Nat.le_refl _, last G pv⟩
/-! ### digits: the mathematics -/
/-- k is the level of d at n -/
def IsLev (b n d k : Nat) : Prop := n / b ^ (k + 1) = d / b ^ (k + 1) ∧ ∀ j, j < k → n / b ^ (j + 1) ≠ d / b ^ (j + 1)
abbrev Row3 := Nat × Nat × Nat
/-- the stations below level k -/
def tailOf (b d : Nat) : Nat → List Row3
  | 0 => []
  | k + 1 => if d / b ^ k % b ≠ 0 then (k, d / b ^ k % b, d / b ^ (k + 1) * b ^ (k + 1)) :: tailOf b d k else tailOf b d k
/-- the stations of a timer set at n, k its level -/
def rowsOf (b n d k : Nat) : List Row3 := (k, d / b ^ k % b, n) :: tailOf b d k
theorem div_succ (n b k : Nat) : n / b ^ (k + 1) = n / b ^ k / b := by
  rw [Nat.pow_succ, Nat.div_div_eq_div_mul]
theorem pow_pos' {b : Nat} (h : 2 ≤ b) (k : Nat) : 0 < b ^ k := Nat.pow_pos (by omega)
theorem IsLev.uniq {b n d k k' : Nat} (h : IsLev b n d k) (h' : IsLev b n d k') : k = k' := by
  rcases Nat.lt_trichotomy k k' with l | l | l
  · exact absurd h.1 (h'.2 k l)
  · exact l
  · exact absurd h'.1 (h.2 k' l)
theorem IsLev.ne {b n d k : Nat} (h : IsLev b n d k) (hnd : n < d) : n / b ^ k < d / b ^ k := by
  cases k with
  | zero =>
    rw [Nat.pow_zero, Nat.div_one, Nat.div_one]
    exact hnd
  | succ j =>
    have h1 := h.2 j (Nat.lt_succ_self j)
    have h2 : n / b ^ (j + 1) ≤ d / b ^ (j + 1) := Nat.div_le_div_right (Nat.le_of_lt hnd)
    omega
theorem IsLev.size {b n d k : Nat} (h : IsLev b n d k) (hb : 2 ≤ b) (hnd : n < d) : b ^ k ≤ d := by
  have h1 := h.ne hnd
  have h2 : 0 < d / b ^ k := Nat.lt_of_le_of_lt (Nat.zero_le _) h1
  exact (Nat.div_pos_iff.mp h2).2
theorem IsLev.digit {b n d k : Nat} (h : IsLev b n d k) (hnd : n < d) : n / b ^ k % b < d / b ^ k % b := by
  have h1 := h.ne hnd
  have h2 := h.1
  rw [div_succ, div_succ] at h2
  have e1 := Nat.div_add_mod (n / b ^ k) b
  have e2 := Nat.div_add_mod (d / b ^ k) b
  rw [h2] at e1
  omega
theorem pow_two_le {b : Nat} (hb : 2 ≤ b) (k : Nat) : 2 ^ k ≤ b ^ k := Nat.pow_le_pow_left hb k
theorem lev_small {b n d k t : Nat} (h : IsLev b n d k) (hb : 2 ≤ b) (hnd : n < d) (hd : d < 2 ^ t) : k < t := by
  have h1 := h.size hb hnd
  have h2 := pow_two_le hb k
  exact (Nat.pow_lt_pow_iff_right (by decide : 1 < 2)).mp (Nat.lt_of_le_of_lt (Nat.le_trans h2 h1) hd)
/-- cutting below: what two cuts beside one another differ by -/
theorem cut_step (b d k : Nat) : d / b ^ k * b ^ k = d / b ^ (k + 1) * b ^ (k + 1) + d / b ^ k % b * b ^ k := by
  rw [div_succ]
  have e := Nat.div_add_mod (d / b ^ k) b
  have e2 : b ^ (k + 1) = b * b ^ k := by rw [Nat.pow_succ, Nat.mul_comm]
  rw [e2, ← Nat.mul_assoc, ← Nat.add_mul, Nat.mul_comm (d / b ^ k / b) b, e]
theorem cut_le (b d k : Nat) : d / b ^ k * b ^ k ≤ d := Nat.div_mul_le_self d (b ^ k)
theorem cut_mono (b d : Nat) {j k : Nat} (h : j ≤ k) : d / b ^ k * b ^ k ≤ d / b ^ j * b ^ j := by
  induction k with
  | zero =>
    have e : j = 0 := by omega
    rw [e]
    exact Nat.le_refl _
  | succ k ih =>
    by_cases e : j = k + 1
    · rw [e]
      exact Nat.le_refl _
    · have h1 := ih (by omega)
      have h2 := cut_step b d k
      omega
theorem lt_cut {b n d k : Nat} (hb : 2 ≤ b) (h : n / b ^ k < d / b ^ k) : n < d / b ^ k * b ^ k := by
  have hp := pow_pos' hb k
  exact (Nat.div_lt_iff_lt_mul hp).mp h
theorem tail_len (b d : Nat) : ∀ k, (tailOf b d k).length ≤ k
  | 0 => Nat.le_refl _
  | k + 1 => by
    have ih := tail_len b d k
    unfold tailOf
    split
    · rw [List.length_cons]
      omega
    · omega
/-- a later tick that lies ahead of the next cut has the same level -/
theorem IsLev.later {b n d k t : Nat} (hb : 2 ≤ b) (h : IsLev b n d k) (hnd : n < d) (h1 : n ≤ t) (h2 : t < d / b ^ k * b ^ k) : IsLev b t d k := by
  have hp := pow_pos' hb k
  have hp1 := pow_pos' hb (k + 1)
  have htd : t < d := Nat.lt_of_lt_of_le h2 (cut_le b d k)
  refine ⟨?_, fun j hj => ?_⟩
  · have a1 : n / b ^ (k + 1) ≤ t / b ^ (k + 1) := Nat.div_le_div_right h1
    have a2 : t / b ^ (k + 1) ≤ d / b ^ (k + 1) := Nat.div_le_div_right (Nat.le_of_lt htd)
    have a3 := h.1
    omega
  · have a1 : t / b ^ k < d / b ^ k := (Nat.div_lt_iff_lt_mul hp).mpr h2
    intro e
    have e2 : k = (j + 1) + (k - (j + 1)) := by omega
    rw [e2, Nat.pow_add, ← Nat.div_div_eq_div_mul, ← Nat.div_div_eq_div_mul, e] at a1
    omega
/-! ### rules that the layer lacks: min(.., default=None), sorted of a dict with pairs of ints as its keys -/
theorem minOf_spec : ∀ (x : Int) (xs : List Int), PySem.W.minOf x xs ∈ x :: xs ∧ ∀ y ∈ x :: xs, PySem.W.minOf x xs ≤ y := by
  intro x xs
  unfold PySem.W.minOf
  induction xs generalizing x with
  | nil =>
    refine ⟨List.mem_cons_self .., fun y hy => ?_⟩
    rcases List.mem_cons.mp hy with e | hy
    · rw [e]
      exact Int.le_refl _
    · cases hy
  | cons z zs ih =>
    have e : (PySem.W.DatumOrd.lt z x = true) ↔ z < x := by
      show decide (z < x) = true ↔ z < x
      exact decide_eq_true_iff
    rw [List.foldl_cons]
    obtain ⟨h1, h2⟩ := ih (if PySem.W.DatumOrd.lt z x = true then z else x)
    refine ⟨?_, fun y hy => ?_⟩
    · rcases List.mem_cons.mp h1 with e1 | h1
      · rw [e1]
        split
        · exact List.mem_cons_of_mem _ (List.mem_cons_self ..)
        · exact List.mem_cons_self ..
      · exact List.mem_cons_of_mem _ (List.mem_cons_of_mem _ h1)
    · have h3 := h2 _ (List.mem_cons_self ..)
      rcases List.mem_cons.mp hy with e1 | hy
      · rw [e1]
        by_cases c : z < x
        · rw [if_pos (e.mpr c)] at h3 ⊢
          omega
        · rw [if_neg (fun q => c (e.mp q))] at h3 ⊢
          exact h3
      · rcases List.mem_cons.mp hy with e1 | hy
        · rw [e1]
          by_cases c : z < x
          · rw [if_pos (e.mpr c)] at h3 ⊢
            exact h3
          · rw [if_neg (fun q => c (e.mp q))] at h3 ⊢
            omega
        · exact h2 y (List.mem_cons_of_mem _ hy)
def rMinD (K : PySem.W.Frag) : List V → List V → Hp → VK → Prop := fun vs zs H Q => ∃ (a : Addr) (ns : List Int), vs = [V.ref a] ∧ zs = [.non] ∧ SqL K H a (ns.map V.int) ∧ (ns = [] → Q .non H) ∧ ∀ v ∈ ns, (∀ x ∈ ns, v ≤ x) → Q (.int v) H
section
variable {X : Cx} {K : PySem.W.Frag}
theorem minDef (e : X.K = K) (hc : X.calm = true) (hu : X.A.units + 64 < cLine) : CallRK X (.builtin "min") [Str.ofString "default"] (rMinD K) := by
  subst e
  intro pins s σ H vs zs us ws Q I r rz h
  obtain ⟨a, ns, rfl, rfl, hs, q0, q1⟩ := h
  obtain ⟨its, rv, hl, hz⟩ := I.list hs
  obtain ⟨w1, rfl, e1⟩ := vals1 rz
  obtain rfl : w1 = Value.none := e1
  rw [Vals.ref1 r]
  have hi := rv.ints
  refine PySem.W.min_list_datum_default (α := Int) (xs := ns) (I.ok.hd hc) hl.isList (PySem.W.HoldAll.of_ints hi) (by show X.A.units + 1 + 0 < cLine; omega) (fun en h' tk hk => ?_) (fun y ys i v h' tk en hv hh hk => ?_)
  · exact ⟨.non, H, I.kept hk, rfl, q0 en⟩
  · obtain ⟨as, hr⟩ := hh
    have hm := minOf_spec y ys
    have ev : ∃ t, v = Value.int (PySem.W.minOf y ys) t := by
      cases hr
      exact ⟨_, rfl⟩
    obtain ⟨t, rfl⟩ := ev
    subst en
    exact ⟨.int _, H, I.kept hk, ⟨_, rfl⟩, q1 _ hm.1 hm.2⟩
end
/-! ### lambdas: a def whose code object is told, tables of code objects -/
section
variable {P : Program} {w : World} {K : PySem.W.Frag} {mg : Str → Option Value} {base : Heap}
/-- the name that the lambdas of the def q bear -/
def lamQ (q : Str) : Str := (q ++ ".<locals>.") ++ "<lambda>"
/-- a def as it stands behind the top, its code object told -/
structure FunC (K : PySem.W.Frag) (x : Str) (st : Stmt) (f : Addr) (fd : FuncData) (cdv : Value) : Prop where
  at_ : ∃ (oc kV doc pm ct : Value) (od an : Option Addr) (osl : Array (Option Value)),
    fd = PySem.W.fnOf x x (defArgs st) (defBody st) (defScope st) .none kV doc pm an cdv ct ∧ K.lookup f = some ⟨oc, od, .func fd, osl⟩ ∧ PySem.W.codeIn K cdv x = true
  kp : PySem.W.keepIn K (.ref f) = true
theorem funC_mk {x : Str} {st : Stmt} {f : Addr} {oc : Value} {od an : Option Addr} {osl : Array (Option Value)} {kV doc pm cdv ct : Value} (l : K.lookup f = some ⟨oc, od, .func (PySem.W.fnOf x x (defArgs st) (defBody st) (defScope st) .none kV doc pm an cdv ct), osl⟩)
    (c : PySem.W.codeIn K cdv x = true) (k : PySem.W.keepIn K (.ref f) = true) : FunC K x st f (PySem.W.fnOf x x (defArgs st) (defBody st) (defScope st) .none kV doc pm an cdv ct) cdv := ⟨⟨oc, kV, doc, pm, ct, od, an, osl, rfl, l, c⟩, k⟩
theorem FunC.fn {x : Str} {st : Stmt} {f : Addr} {fd : FuncData} {cdv : Value} (F : FunC K x st f fd cdv) : Fun K x x st f fd := by
  obtain ⟨⟨oc, kV, doc, pm, ct, od, an, osl, e1, e2, e3⟩, kp⟩ := F
  exact ⟨⟨oc, od, kV, doc, pm, an, cdv, ct, osl, e1, e2, e3⟩, kp⟩
theorem FunC.ok {x : Str} {st : Stmt} {f : Addr} {fd : FuncData} {cdv : Value} {N ps : List Str} {k : Nat} {sp : Sp} (F : FunC K x st f fd cdv) (S : FnScope N ps (defScope st)) (len : ∀ vs H Q E, sp vs H Q E → vs.length = ps.length)
    (hb : ∀ (A : Around) (outer : List Env) (s : Shared) (H : Hp) (vs : List V) (Q : VK) (E : XK), Room k (A.deeper (envOfC x (defScope st) s.heap.objs.size f cdv)) → sp vs H Q E →
      ∃ t, PSs (cxOf CX0 P w K mg base N x (defScope st) f cdv A outer s H E).nox (defBody st) t ∧ t { nx := fun _ H' => Q .non H', rt := Q } (start N vs) H) : FnOk P w K mg base CX0 (k + 1) f fd ps sp := by
  obtain ⟨⟨oc, kV, doc, pm, ct, od, an, osl, e1, e2, e3⟩, kp⟩ := F
  subst e1
  refine fn_of e2 e3 S len fun A outer s H vs Q E hr' hs' => ?_
  obtain ⟨t, h1, h2⟩ := hb A outer s H vs Q E hr' hs'
  exact ⟨t, h1.nox, h2⟩
end
theorem extN_same {H H1 : Hp} (s : Same H H1) : LamX.ExtN H H1 := fun b o e _ => s b o e
theorem ExtN.seq {K : PySem.W.Frag} {H H1 : Hp} {a : Addr} {xs : List V} (e : LamX.ExtN H H1) (h : SqL K H a xs) : SqL K H1 a xs := by
  rcases h with (h | ⟨o, h⟩) | h
  · exact .inl (.inl (e _ _ h (fun ps z => by cases z)))
  · exact .inl (.inr ⟨o, e _ _ h (fun ps z => by cases z)⟩)
  · exact .inr h
theorem Tabs.same {T : List (Addr × Str)} {H H1 : Hp} (t : LamX.Tabs T H) (s : Same H H1) : LamX.Tabs T H1 := t.ext s
/-! ### sorted(xs) of data that are alike: tuples, lists, numbers, texts -/
def rSortD (K : PySem.W.Frag) : List V → Hp → VK → Prop := fun vs H Q => ∃ (a : Addr) (bs : List (V × PyData)), vs = [V.ref a] ∧ SqL K H a (bs.map (·.1)) ∧ (∀ z ∈ bs, Dp K H z.1 z.2) ∧ PySem.W.AllAlike (bs.map (·.2)) ∧ PySem.W.Sortable (bs.map (·.2)) ∧ (∀ z ∈ bs, z.2.depth ≤ 50) ∧
  ∀ p, H p = none → Q (.ref p) (upd H p (.lst ((bs.mergeSort (PySem.W.dataLe false (·.2))).map (·.1))))
section
variable {X : Cx}
theorem each_vals : ∀ {bs : List (V × PyData)} {us : List Value}, Vals (bs.map (·.1)) us → PySem.W.EachIs (fun (v : Value) (z : V × PyData) => RelV z.1 v) us bs
  | [], _, r => by
    cases r
    exact .nil
  | z :: bs, _, r => by
    cases r with
    | cons h t => exact .cons h (each_vals t)
theorem vals_each : ∀ {bs : List (V × PyData)} {us : List Value}, PySem.W.EachIs (fun (v : Value) (z : V × PyData) => RelV z.1 v) us bs → Vals (bs.map (·.1)) us
  | _, _, .nil => .nil
  | _, _, .cons h t => .cons h (vals_each t)
theorem each_reads {pins : List (Addr × Obj)} {σ : L2.St} {H : Hp} {s : Shared} (I : Inv X pins σ H s) : ∀ {bs : List (V × PyData)} {us : List Value}, Vals (bs.map (·.1)) us → (∀ z ∈ bs, Dp X.K H z.1 z.2) → PySem.W.EachIs (fun (v : Value) (z : V × PyData) => ∃ as, Reads s.heap v z.2 as) us bs
  | [], _, r, _ => by
    cases r
    exact .nil
  | z :: bs, _, r, h => by
    cases r with
    | cons h1 t => exact .cons (Dp.reads I z.2 z.1 _ (h z List.mem_cons_self) h1) (each_reads I t fun y hy => h y (List.mem_cons_of_mem _ hy))
theorem cr_sortD (hu : X.A.units + 64 < cLine) : CallR X (.builtin "sorted") (rSortD X.K) := by
  intro pins s σ H xs us Q I r h
  obtain ⟨a, bs, rfl, hs, hd, hal, hk, hdep, q⟩ := h
  obtain rfl := Vals.ref1 r
  obtain ⟨its, rv, hl, hz⟩ := I.list hs
  refine PySem.W.sorted_data (bs := bs) (enc := fun z => z.2) (R := fun (v : Value) (z : V × PyData) => RelV z.1 v) hl.isList (each_vals rv) (each_reads I rv hd) hal hk (by rw [List.length_map] at hz; exact hz) (fun z hz' => by have := hdep z hz'; omega) fun out h1 h2 => ?_
  obtain ⟨ep, he'⟩ := PyProof.Rows.sortedAll_at s.heap its out.toArray
  have rv2 := vals_each h2
  have hlen : ((bs.mergeSort (PySem.W.dataLe false (·.2))).map (·.1)).length ≤ sizeLine := by
    rw [List.length_map, List.length_mergeSort]
    rw [List.length_map] at hz
    exact hz
  exact ⟨.ref _, upd H (s.heap.objs.size + 1) (.lst ((bs.mergeSort (PySem.W.dataLe false (·.2))).map (·.1))), I.laid (t' := s.toks) (fun _ _ => PyProof.Rows.sortedAll_old) (Nat.le_succ _) ⟨hlen, out, ep, rv2, he'⟩, rfl, q _ (I.hok.fresh (Nat.le_succ _))⟩
end
section
variable {X : Cx} {K : PySem.W.Frag}
theorem sortDK (e : X.K = K) (hu : X.A.units + 64 < cLine) : CallR X (.builtin "sorted") (rSortD K) := by subst e; exact cr_sortD hu
end
/-! ### sorted(xs, key=lambda x: x[0]): tuples that begin with a whole number -/
namespace LamS0
open LamX
/-- the lambda's call at a tuple: its first item -/
theorem turn0 {prog : Program} {w : World} {A : Around} {s : Shared} {f c' : Addr} {q : Str} {a : Str} {params : Arguments} {scope : Scope} {cl : List (Str × Addr)} {pm ctv : Value} {v : Value} {t : Addr} {its : Array Value} {n : Int} {p1 p2 p3 : Pos} {j : Nat}
    (hf : s.heap.get? f = some (PySem.W.kla_obj "<lambda>" q params (.Subscript (.Name a p1) (.Constant (.int 0) j p2) p3) scope cl pm c' ctv)) (hcr : s.heap.CodeRec (.ref c') q) (hno : s.heap.NoLimit) (hroom : A.depth < recursionLimit)
    (hbind : bindArgs (PySem.W.kla_fn "<lambda>" q params (.Subscript (.Name a p1) (.Constant (.int 0) j p2) p3) scope cl pm (.ref c') ctv) ⟨[v], []⟩ = pure [(a, v)])
    (hk : scope.kind = .function) (hco : scope.isCoroutine = false) (hgen : scope.isGenerator = false) (hcell : ∀ y ∈ scope.names, y.2 ≠ .cell) (hloc : scope.names.lookup a = some .local)
    (hv : v = .ref t) (ht : IsTup s.heap t its) (h0 : ∃ u, its[0]? = some (.int n u)) (hd : (a == ("__debug__" : Str)) = false) :
    wpAny (model prog w) A (call (.ref f) [v]) (PySem.W.KeyPure (.int n) s) (fun _ _ => False) s := by
  refine wpAny_call (codeAny_mono (R := fun r s' => match r with | .ok (.ret v) => PySem.W.KeyPure (.int n) s v s' | _ => False) ?_ fun r s' hr => ?_)
  · refine PySem.W.kla_callFunE hroom hf rfl hco hgen rfl hcr ?_
    rw [hbind]
    refine wpAny_pure (wpAny_newFunctionEnv hcell (fun y hy => by rw [List.mem_singleton.mp hy]; exact hloc) (fun h₁ hns hsb => ⟨hno.fresh _ hsb, ?_⟩) hk)
    have kp : ∀ b o, s.heap.get? b = some o → h₁.get? b = some o := fun b o e => hsb.extBut b o (Nat.ne_of_lt (Heap.lt_size e)) (Heap.get?_push_of_some _ e)
    refine PySem.W.kla_codeExpr ?_
    refine Subscript_ (wpAny_Name (wpAny_loadName_local (v := v) hk hloc hns (by simp [List.lookup]) ?_) hd)
    refine wpAny_Constant_int ?_
    subst hv
    obtain ⟨u, hu⟩ := h0
    have hlt : 0 < its.size := by
      rcases Nat.eq_zero_or_pos its.size with z | z
      · rw [Array.getElem?_eq_none (by omega)] at hu
        cases hu
      · exact z
    have ht1 : IsTup h₁ t its := ht.keeps kp
    refine subscriptTail_builtinR (x := .int n u) ht1.typeIs slot_tuple_getitem.lookup (getItem_tuple (j := 0) ht1 (by decide) (by decide) ?_ hu ⟨rfl, ?_⟩)
    · simp [seqIndex?, hlt]
    · exact ⟨h₁, _, rfl, kp, Reads.int n u⟩
  · cases r with
    | error e => exact hr
    | ok fl =>
      cases fl with
      | ret u => exact hr
      | next => exact hr
      | brk => exact hr
      | cont => exact hr
theorem each_vals2 {β : Type} : ∀ {bs : List (V × β)} {us : List Value}, Vals (bs.map (·.1)) us → PySem.W.EachIs (fun (v : Value) (z : V × β) => RelV z.1 v) us bs
  | [], _, r => by
    cases r
    exact .nil
  | z :: bs, _, r => by
    cases r with
    | cons h t => exact .cons h (each_vals2 t)
theorem vals_each2 {β : Type} : ∀ {bs : List (V × β)} {us : List Value}, PySem.W.EachIs (fun (v : Value) (z : V × β) => RelV z.1 v) us bs → Vals (bs.map (·.1)) us
  | _, _, .nil => .nil
  | _, _, .cons h t => .cons h (vals_each2 t)
/-- the order by first items -/
abbrev byN (bs : List (V × Int)) : List (V × Int) := bs.mergeSort fun p q => decide (p.2 ≤ q.2)
def tSortL (K : PySem.W.Frag) (T : List (Addr × Str)) (te : TE) : TE := fun σ H Q => te σ H fun x H1 => Tabs T H1 ∧ ∀ H2, ExtN H1 H2 → Tabs T H2 →
  ∃ (a : Addr) (bs : List (V × Int)), x = .ref a ∧ SqL K H2 a (bs.map (·.1)) ∧ (∀ z ∈ bs, ∃ p xs, z.1 = .ref p ∧ SqT K H2 p (.int z.2 :: xs)) ∧ ∀ p, H2 p = none → Q (.ref p) (upd H2 p (.lst ((byN bs).map (·.1))))
/-- what the scope of such a lambda is -/
structure Lam1 (scope : Scope) (a : Str) : Prop where
  kind : scope.kind = .function
  co : scope.isCoroutine = false
  gen : scope.isGenerator = false
  cell : ∀ y ∈ scope.names, y.2 ≠ .cell ∧ y.2 ≠ .free
  loc : scope.names.lookup a = some .local
section
variable {X : Cx} {K : PySem.W.Frag} {T : List (Addr × Str)} {e : Expr} {te : TE} {c P : Addr} {params : Arguments} {scope : Scope} {a : Str} {p lpos kpos pos p1 p2 p3 : Pos} {j : Nat}
theorem pe_sortL (eK : X.K = K) (hu : X.A.units + 64 < cLine) (hroom : X.A.in1.in1.depth < recursionLimit) (hg : Gl X "sorted") (hm : X.mg "sorted" = none) (he : PE X e te)
    (TB : TabB X.base X.mg c P) (hcode : X.env.code = .ref c) (hmT : (P, X.env.qual ++ "<lambda>") ∈ T) (huT : ∀ p ∈ T, p.1 = P → p.2 = X.env.qual ++ "<lambda>") (hdef : defaultsOf params X.env = ([], [])) (L : Lam1 scope a)
    (hbind : ∀ (q : Str) (cl : List (Str × Addr)) (pm cv ctv v : Value), bindArgs (PySem.W.kla_fn "<lambda>" q params (.Subscript (.Name a p1) (.Constant (.int 0) j p2) p3) scope cl pm cv ctv) ⟨[v], []⟩ = pure [(a, v)])
    (hd : (a == ("__debug__" : Str)) = false := by decide)
    (he' : backTo pos (starEach [e] X.env) = (false, eval e X.env) :: backTo pos (starEach [] X.env) := by rfl) (hpl : (backTo pos (starEach [e] X.env)).any (·.1) = false := by rfl) :
    PE X (.Call (.Name "sorted" p) [e] [⟨some "key", .Lambda params (.Subscript (.Name a p1) (.Constant (.int 0) j p2) p3) scope lpos, kpos⟩] pos) (tSortL K T te) := by
  subst eK
  refine ⟨fun pins s σ H Q I h => ?_⟩
  refine wpAny_Call_Name_kw (ld_blt I hg hm (u := .builtin "sorted") (by rfl) ?_ (by decide) (by decide))
  refine PyProof.Rows.callWith_kw ?_ he' hpl (by rfl) (by rfl)
  rw [he']
  refine Calls.spliced_cons (thn (he.run pins s σ H _ I h) fun u1 s1 ⟨x, H1, I1, r1, q1⟩ => Calls.spliced_nil ?_)
  obtain ⟨hT, h⟩ := q1
  show wpAny _ _ (evalAll [(do let v ← eval (.Lambda params (.Subscript (.Name a p1) (.Constant (.int 0) j p2) p3) scope lpos) X.env; standAt pos; pure v)]) _ _ s1
  refine wpAny_evalAll_cons (wpAny_bind (lam_make2 I1 TB hcode hmT huT hT hdef (fun y hy e => absurd e (L.cell y hy).2) fun f c' pm' ctv H2 s' I2 eN T2 hf hfn hfr hco => wpAny_bind (wpAny_standAt (wpAny_pure (wpAny_evalAll_nil ?_)))))
  show wpAny _ _ (call (.builtin "sorted") [u1] [(Str.ofString "key", .ref f)]) _ _ s'
  obtain ⟨l, bs, rfl, hl0, hts, q⟩ := h H2 eN T2
  obtain rfl : u1 = Value.ref l := r1
  obtain ⟨its, rv, hl, hz⟩ := I2.list hl0
  obtain ⟨⟨oc, cvs, ct, hoc, hdc, hvc⟩, _, _⟩ := I2.hok c' _ hco
  refine PySem.W.sorted_key_data (b := false) (f := .ref f) (R := fun (v : Value) (z : V × Int) => RelV z.1 v) (fun z : V × Int => .int z.2) hl.isList (each_vals2 rv) (PySem.W.AllAlike.of fun _ _ => by simp [PySem.W.alike])
    (PySem.W.Sortable.others fun _ => ⟨by simp, by simp⟩) (by rw [List.length_map] at hz; exact hz) (fun z _ => ?_) (PyProof.Rows.ksk_s1 _ _) (fun _ => PyProof.Rows.ksk_l1 _ _) (fun _ => PyProof.Rows.ksk_t1 _ _)
    (fun v z hR hz h tk kp => ?_) fun out cc h' tk kp hn hD hlen eo => ?_
  · have hd' : (PyData.int z.2).depth = 0 := by simp [PyData.depth]
    omega
  · obtain ⟨t, xs, ev, hsq⟩ := hts z hz
    rw [ev] at hR
    obtain rfl : v = .ref t := hR
    obtain ⟨tits, trv, tup, _⟩ := I2.tuple hsq
    refine turn0 (kp _ _ hf) ⟨c', oc, cvs, ct, rfl, kp _ _ hoc, hdc, hvc⟩ (I2.nolimit.keeps kp) hroom (hbind _ _ _ _ _ _) L.kind L.co L.gen (fun y hy => (L.cell y hy).1) L.loc rfl (tup.keeps kp) ?_ hd
    cases trv with
    | cons h1 t1 =>
      obtain ⟨u, rfl⟩ := h1
      exact ⟨u, by simp⟩
  · rw [PySem.W.dataLe_int (fun z : V × Int => z.2)] at eo
    have rv2 := vals_each2 eo
    have hlen2 : ((byN bs).map (·.1)).length ≤ sizeLine := by
      rw [List.length_map, List.length_mergeSort]
      rw [List.length_map] at hz
      exact hz
    exact ⟨.ref _, upd H2 (s'.heap.objs.size + 1) (.lst ((byN bs).map (·.1))), I2.laid (t' := tk) kp (Nat.le_succ _) ⟨hlen2, out, cc, rv2, hD⟩, rfl, q _ (I2.hok.fresh (Nat.le_succ _))⟩
end
end LamS0
/-! ### for i, x in enumerate(xs) -/
theorem for_enumK {K : PySem.W.Frag} {a : Addr} {xs : List V} {g : TG} {tb : TS} {D : Ends} {σ : L2.St} {H : Hp} (Pv : Nat → L2.St → Hp → Prop) (h0 : Pv 0 σ H) (hq : ∀ i σ H, Pv i σ H → SqL K H a xs)
    (hs : ∀ (i : Nat) (x : V) (T : Addr) (σ : L2.St) (H : Hp), xs[i]? = some x → Pv i σ H → H T = none → g (.ref T) σ (upd H T (.tup [.int (i : Nat), x])) fun σ2 H2 => tb { D with nx := Pv (i + 1), ct := Pv (i + 1), bk := D.nx } σ2 H2) (hd : ∀ σ H, Pv xs.length σ H → D.nx σ H) :
    ∃ W : Nat → Nat → L2.St → Hp → Prop, (∃ m, W 0 m σ H) ∧ ∀ i m σ H, W i m σ H →
      ((Ite K a).stop i H ∧ D.nx σ H) ∨ ((Ite K a).go i H ∧ ∃ N : L2.St → Hp → Prop, (∀ σ' H', N σ' H' → ∃ m', m' < m ∧ W (i + 1) m' σ' H') ∧ ∀ v H', (Ite K a).yld i H v H' → g v σ H' fun σ2 H2 => tb { D with nx := N, ct := N, bk := D.nx } σ2 H2) := by
  refine ⟨fun i m σ H => m = xs.length - i ∧ i ≤ xs.length ∧ Pv i σ H, ⟨xs.length, rfl, Nat.zero_le _, h0⟩, ?_⟩
  rintro i m σ H ⟨rfl, hi, p⟩
  have qx := hq i σ H p
  by_cases hlt : i < xs.length
  · have hx : xs[i]? = some xs[i] := List.getElem?_eq_getElem hlt
    refine .inr ⟨⟨xs, xs[i], qx, hx⟩, Pv (i + 1), fun σ' H' p' => ⟨xs.length - (i + 1), by omega, rfl, hlt, p'⟩, fun v H' y => ?_⟩
    obtain ⟨T, x, rfl, nT, rfl, f⟩ := y
    have ex : x = xs[i] := Option.some.inj ((f xs qx).symm.trans hx)
    subst ex
    exact hs i _ T σ H hx p nT
  · have e : i = xs.length := by omega
    subst e
    exact .inl ⟨⟨xs, qx, Nat.le_refl _⟩, hd σ H p⟩
/-- a list made over a tuple -/
theorem lc_tup {K : PySem.W.Frag} {a : Addr} {xs : List V} {g : TG} {tt : TT} {te : TE} {ws : List Nat} {σ : L2.St} {G : Hp} {D : Addr} {Qd : Hp → Prop} (Pv : Nat → Hp → Prop) (start : Pv 0 (upd G D (.lst []))) (lock : ∀ i G, Pv i G → SqT K G a xs)
    (step : ∀ (i : Nat) (x : V) (G : Hp), xs[i]? = some x → Pv i G → g x (wipe σ ws) G fun τ G2 => wipe τ ws = wipe σ ws ∧ tt τ G2 fun c G3 => if c = true then te τ G3 fun z G4 => ∃ ac, G4 D = some (.lst ac) ∧ ac.length < sizeLine ∧ Pv (i + 1) (upd G4 D (.lst (ac ++ [z]))) else Pv (i + 1) G3)
    (last : ∀ G, Pv xs.length G → Qd G) : ∃ W : Nat → Nat → Hp → Prop, (∃ m, W 0 m (upd G D (.lst []))) ∧ ∀ i m G, W i m G → ((Itt K a).stop i G ∧ Qd G) ∨
      ((Itt K a).go i G ∧ ∃ N : Hp → Prop, (∀ G', N G' → ∃ m', m' < m ∧ W (i + 1) m' G') ∧ ∀ x G', (Itt K a).yld i G x G' → g x (wipe σ ws) G' fun τ G2 => wipe τ ws = wipe σ ws ∧ tt τ G2 fun c G3 => if c = true then te τ G3 fun z G4 => ∃ ac, G4 D = some (.lst ac) ∧ ac.length < sizeLine ∧ N (upd G4 D (.lst (ac ++ [z]))) else N G3) := by
  refine ⟨fun i m G => (m = xs.length - i ∧ i ≤ xs.length) ∧ Pv i G, ⟨xs.length, ⟨rfl, Nat.zero_le _⟩, start⟩, ?_⟩
  rintro i m G ⟨⟨rfl, le⟩, pv⟩
  have here := lock i G pv
  rcases Nat.lt_or_ge i xs.length with lt | ge
  · refine .inr ⟨⟨xs, xs[i], here, List.getElem?_eq_getElem lt⟩, Pv (i + 1), fun G' p' => ⟨xs.length - (i + 1), by omega, ⟨rfl, lt⟩, p'⟩, fun x G' y => ?_⟩
    obtain ⟨rfl, hx⟩ := y
    exact step i x G' (hx xs here) pv
  · have e : i = xs.length := Nat.le_antisymm le ge
    rw [e] at pv ⊢
    exact .inl ⟨⟨xs, here, Nat.le_refl _⟩, last G pv⟩
/-! ### words of levels, sides -/
def lvV (b : Bool) : V := if b then .str "stack" else .str "queue"
def sdV (b : Bool) : V := if b then .str "front" else .str "back"
theorem lv_ne : ¬ (V.str "queue" = V.str "stack") := by decide
theorem lv_dec (b : Bool) : decide (lvV b = .str "stack") = b := by
  cases b
  · exact decide_eq_false lv_ne
  · exact decide_eq_true rfl
def wordAt (ws : List Bool) (k : Nat) : Bool := ws.getD (min k (ws.length - 1)) false
theorem word_get {ws : List Bool} (h : ws ≠ []) (k : Nat) : (ws.map lvV)[min k (ws.length - 1)]? = some (lvV (wordAt ws k)) := by
  have hl : min k (ws.length - 1) < ws.length := by
    have : 0 < ws.length := List.length_pos_iff.mpr h
    omega
  rw [List.getElem?_map, List.getElem?_eq_getElem hl]
  unfold wordAt
  rw [List.getD_eq_getElem?_getD, List.getElem?_eq_getElem hl]
  rfl
/-- whether an odd number of the rows, at levels from lo on, have the word stack -/
def frontOf (ws : List Bool) (lo : Nat) (rs : List Row3) : Bool := decide (rs.countP (fun r => decide (lo ≤ r.1) && wordAt ws r.1) % 2 = 1)
theorem odd_succ (c : Nat) : decide ((c + 1) % 2 = 1) = !decide (c % 2 = 1) := by
  by_cases h : c % 2 = 1
  · rw [decide_eq_true h, decide_eq_false (by omega)]
    rfl
  · rw [decide_eq_false h, decide_eq_true (by omega)]
    rfl
theorem front_snoc (ws : List Bool) (lo : Nat) (rs : List Row3) (r : Row3) : frontOf ws lo (rs ++ [r]) = if (decide (lo ≤ r.1) && wordAt ws r.1) = true then !frontOf ws lo rs else frontOf ws lo rs := by
  unfold frontOf
  rw [List.countP_append, List.countP_singleton]
  split
  · exact odd_succ _
  · rw [Nat.add_zero]
/-! ### sides by counting digits: the mathematics -/
/-- of the indexes below j, how many have a digit other than 0 of d and the word stack -/
def cntW (ws : List Bool) (b d : Nat) : Nat → Nat
  | 0 => 0
  | k + 1 => cntW ws b d k + if d / b ^ k % b ≠ 0 ∧ wordAt ws k = true then 1 else 0
theorem tail_cnt (ws : List Bool) (b d : Nat) : ∀ k, (tailOf b d k).countP (fun r => decide (0 ≤ r.1) && wordAt ws r.1) = cntW ws b d k
  | 0 => rfl
  | k + 1 => by
    have ih := tail_cnt ws b d k
    unfold tailOf cntW
    by_cases h : d / b ^ k % b ≠ 0
    · rw [if_pos h, List.countP_cons, ih, decide_eq_true (Nat.zero_le _), Bool.true_and]
      cases hw : wordAt ws k with
      | true => rw [if_pos rfl, if_pos (show d / b ^ k % b ≠ 0 ∧ true = true from ⟨h, rfl⟩)]
      | false => rw [if_neg (by simp), if_neg (by simp)]
    · rw [if_neg h, ih, if_neg (fun z => h z.1), Nat.add_zero]
theorem front_cnt {ws : List Bool} {b n d k : Nat} (h : IsLev b n d k) (hnd : n < d) : frontOf ws 0 (rowsOf b n d k) = decide (cntW ws b d (k + 1) % 2 = 1) := by
  have hd := h.digit hnd
  have h0 : d / b ^ k % b ≠ 0 := by omega
  unfold frontOf
  have e : (rowsOf b n d k).countP (fun r => decide (0 ≤ r.1) && wordAt ws r.1) = cntW ws b d (k + 1) := by
    unfold rowsOf cntW
    rw [List.countP_cons, tail_cnt, decide_eq_true (Nat.zero_le _), Bool.true_and]
    cases hw : wordAt ws k with
    | true => rw [if_pos rfl, if_pos (show d / b ^ k % b ≠ 0 ∧ true = true from ⟨h0, rfl⟩)]
    | false => rw [if_neg (by simp), if_neg (by simp)]
  rw [e]
/-- which of two periodic timers goes ahead, where both fire again -/
def IsAhead (b : Nat) (ws : List Bool) (p1 p2 d : Nat) (v : Bool) : Prop :=
  (p1 < p2 → ∀ k, IsLev b (d - p1) d k → v = frontOf ws 0 (rowsOf b (d - p1) d k)) ∧ (¬ p1 < p2 → ∀ k, IsLev b (d - p2) d k → v = !frontOf ws 0 (rowsOf b (d - p2) d k))
/-! ### levels compared -/
theorem lev_le {b n d k : Nat} (h : IsLev b n d k) (hnd : n < d) {j : Nat} (hj : j ≤ k) : n / b ^ j < d / b ^ j := by
  have h2 : n / b ^ j ≤ d / b ^ j := Nat.div_le_div_right (Nat.le_of_lt hnd)
  rcases Nat.eq_or_lt_of_le h2 with e | l
  · cases j with
    | zero =>
      rw [Nat.pow_zero, Nat.div_one, Nat.div_one] at e
      omega
    | succ i => exact absurd e (h.2 i (by omega))
  · exact l
theorem lev_gt {b n d k : Nat} (h : IsLev b n d k) {j : Nat} (hj : k < j) : n / b ^ j = d / b ^ j := by
  have e : j = (k + 1) + (j - (k + 1)) := by omega
  rw [e, Nat.pow_add, ← Nat.div_div_eq_div_mul, ← Nat.div_div_eq_div_mul, h.1]
theorem lev_any {b n d : Nat} (hb : 2 ≤ b) (hnd : n < d) : ∃ k, IsLev b n d k := by
  have H : ∀ t, n / b ^ t = d / b ^ t → ∃ k, IsLev b n d k := by
    intro t
    induction t with
    | zero =>
      intro e
      rw [Nat.pow_zero, Nat.div_one, Nat.div_one] at e
      omega
    | succ t ih =>
      intro e
      by_cases c : n / b ^ t = d / b ^ t
      · exact ih c
      · refine ⟨t, e, fun j hj z => c ?_⟩
        have e2 : t = (j + 1) + (t - (j + 1)) := by omega
        rw [e2, Nat.pow_add, ← Nat.div_div_eq_div_mul, ← Nat.div_div_eq_div_mul, z]
  have hl : d < b ^ d := Nat.lt_of_lt_of_le Nat.lt_two_pow_self (Nat.pow_le_pow_left hb d)
  refine H d ?_
  rw [Nat.div_eq_of_lt hl, Nat.div_eq_of_lt (by omega)]
/-! ### how often one timer goes first: the mathematics -/
/-- whether a timer set at n and due at d goes in front -/
noncomputable def frB (ws : List Bool) (b n d : Nat) : Bool := @decide (∃ k, IsLev b n d k ∧ frontOf ws 0 (rowsOf b n d k) = true) (Classical.propDecidable _)
theorem frB_eq {ws : List Bool} {b n d k : Nat} (hk : IsLev b n d k) : frB ws b n d = frontOf ws 0 (rowsOf b n d k) := by
  unfold frB
  cases h : frontOf ws 0 (rowsOf b n d k) with
  | true => exact @decide_eq_true _ (Classical.propDecidable _) ⟨k, hk, h⟩
  | false =>
    refine @decide_eq_false _ (Classical.propDecidable _) fun ⟨k', hk', h'⟩ => ?_
    rw [hk'.uniq hk, h] at h'
    cases h'
noncomputable def ahB (ws : List Bool) (b p q t : Nat) : Bool := if p < q then frB ws b (t - p) t else !frB ws b (t - q) t
theorem IsAhead.eq {b p q t : Nat} {ws : List Bool} {v : Bool} (h : IsAhead b ws p q t v) (hb : 2 ≤ b) (hp : 1 ≤ p) (hq : 1 ≤ q) (hpt : p ≤ t) (hqt : q ≤ t) : v = ahB ws b p q t := by
  unfold ahB
  by_cases c : p < q
  · obtain ⟨k, hk⟩ := lev_any (n := t - p) (d := t) hb (by omega)
    rw [if_pos c, h.1 c k hk, frB_eq hk]
  · obtain ⟨k, hk⟩ := lev_any (n := t - q) (d := t) hb (by omega)
    rw [if_neg c, h.2 c k hk, frB_eq hk]
theorem ahB_swap {ws : List Bool} {b p q t : Nat} (h : p ≠ q) : ahB ws b q p t = !ahB ws b p q t := by
  unfold ahB
  by_cases c : p < q
  · rw [if_pos c, if_neg (by omega)]
  · rw [if_neg c, if_pos (by omega), Bool.not_not]
def fireB (a p t : Nat) : Bool := decide (a < t ∧ (t - a) % p = 0)
theorem fire_ge {a p t : Nat} (hp : 1 ≤ p) : (a + p ≤ t ∧ (t - a) % p = 0) ↔ (a < t ∧ (t - a) % p = 0) := by
  constructor
  · rintro ⟨h1, h2⟩
    exact ⟨by omega, h2⟩
  · rintro ⟨h1, h2⟩
    have := Nat.le_of_dvd (by omega) (Nat.dvd_of_mod_eq_zero h2)
    exact ⟨by omega, h2⟩
def bothB (a p o q t : Nat) : Bool := fireB a p t && fireB o q t
theorem bothB_iff {a p o q t : Nat} : bothB a p o q t = true ↔ (a < t ∧ (t - a) % p = 0) ∧ (o < t ∧ (t - o) % q = 0) := by
  unfold bothB fireB
  rw [Bool.and_eq_true, decide_eq_true_iff, decide_eq_true_iff]
/-- how many of n numbers from lo on have a property -/
def cntP (P : Nat → Bool) (lo : Nat) : Nat → Nat
  | 0 => 0
  | n + 1 => cntP P lo n + if P (lo + n) = true then 1 else 0
theorem cntP_zero {P : Nat → Bool} {lo : Nat} : ∀ n, (∀ t, lo ≤ t → t < lo + n → P t = false) → cntP P lo n = 0
  | 0, _ => rfl
  | n + 1, h => by
    unfold cntP
    rw [cntP_zero n (fun t h1 h2 => h t h1 (by omega)), h (lo + n) (by omega) (by omega)]
    rfl
theorem cntP_add (P : Nat → Bool) (lo m : Nat) : ∀ n, cntP P lo (m + n) = cntP P lo m + cntP P (lo + m) n
  | 0 => rfl
  | n + 1 => by
    show cntP P lo (m + n) + (if P (lo + (m + n)) = true then 1 else 0) = cntP P lo m + (cntP P (lo + m) n + if P (lo + m + n) = true then 1 else 0)
    rw [cntP_add P lo m n, show lo + (m + n) = lo + m + n by omega]
    omega
theorem cntP_congr {P R : Nat → Bool} {lo : Nat} : ∀ n, (∀ t, lo ≤ t → t < lo + n → P t = R t) → cntP P lo n = cntP R lo n
  | 0, _ => rfl
  | n + 1, h => by
    unfold cntP
    rw [cntP_congr n (fun t h1 h2 => h t h1 (by omega)), h (lo + n) (by omega) (by omega)]
/-- of n numbers from m on, e apart -/
def cntW2 (P : Nat → Bool) (m e : Nat) : Nat → Nat
  | 0 => 0
  | n + 1 => cntW2 P m e n + if P (m + n * e) = true then 1 else 0
theorem cntW2_windows {P : Nat → Bool} {m e : Nat} (he : 1 ≤ e) (h : ∀ t, P t = true → m ≤ t → e ∣ t - m) : ∀ n, cntP P m (n * e) = cntW2 P m e n
  | 0 => by
    rw [Nat.zero_mul]
    rfl
  | n + 1 => by
    have ih := cntW2_windows he h n
    have e1 : (n + 1) * e = n * e + (1 + (e - 1)) := by
      rw [Nat.succ_mul]
      omega
    rw [e1, cntP_add, ih, cntP_add]
    have z : cntP P (m + n * e + 1) (e - 1) = 0 := by
      refine cntP_zero _ fun t h1 h2 => ?_
      cases hp : P t with
      | false => rfl
      | true =>
        obtain ⟨k, hk⟩ := h t hp (by omega)
        have a1 : n * e < e * k := by omega
        have a2 : e * k < (n + 1) * e := by
          rw [Nat.succ_mul]
          omega
        rw [Nat.mul_comm e k] at a1 a2
        have b1 := Nat.lt_of_mul_lt_mul_right a1
        have b2 := Nat.lt_of_mul_lt_mul_right a2
        omega
    rw [z]
    show cntW2 P m e n + (0 + (if P (m + n * e + 0) = true then 1 else 0) + 0) = cntW2 P m e n + if P (m + n * e) = true then 1 else 0
    rw [Nat.add_zero, Nat.add_zero, Nat.zero_add]
def meetM (f e x : Nat) : Nat := f + (x - f + (e - 1)) / e * e
def meetN (m e y : Nat) : Nat := (y - m + (e - 1)) / e
theorem up_ge {x e : Nat} (he : 1 ≤ e) : x ≤ (x + (e - 1)) / e * e := by
  have h1 := Nat.div_add_mod (x + (e - 1)) e
  have h2 := Nat.mod_lt (x + (e - 1)) (show 0 < e by omega)
  rw [Nat.mul_comm] at h1
  omega
theorem up_lt {x e k : Nat} (he : 1 ≤ e) (hk : k < (x + (e - 1)) / e) : k * e < x := by
  have h1 : (k + 1) * e ≤ x + (e - 1) := by
    have := (Nat.le_div_iff_mul_le (show 0 < e by omega)).mp hk
    exact this
  rw [Nat.succ_mul] at h1
  omega
theorem meetM_ge {f e x : Nat} (he : 1 ≤ e) : x ≤ meetM f e x := by
  unfold meetM
  have := up_ge (x := x - f) he
  omega
theorem meetM_le {f e x t : Nat} (he : 1 ≤ e) (h1 : x ≤ t) (h2 : f ≤ t) (h3 : e ∣ t - f) : meetM f e x ≤ t := by
  obtain ⟨k, hk⟩ := h3
  unfold meetM
  rcases Nat.lt_or_ge k ((x - f + (e - 1)) / e) with l | l
  · have := up_lt he l
    rw [Nat.mul_comm] at this
    omega
  · have z : (x - f + (e - 1)) / e * e ≤ k * e := Nat.mul_le_mul_right e l
    rw [Nat.mul_comm k e] at z
    omega
theorem meet_dvd {f e x t : Nat} (h1 : meetM f e x ≤ t) (h3 : e ∣ t - f) : e ∣ t - meetM f e x := by
  unfold meetM at h1 ⊢
  have z : t - (f + (x - f + (e - 1)) / e * e) = (t - f) - (x - f + (e - 1)) / e * e := by omega
  rw [z]
  exact Nat.dvd_sub h3 (Nat.dvd_mul_left e _)
theorem meetM_dvd {f e x k : Nat} : e ∣ meetM f e x + k * e - f := by
  unfold meetM
  have z : f + (x - f + (e - 1)) / e * e + k * e - f = (x - f + (e - 1)) / e * e + k * e := by omega
  rw [z]
  exact Nat.dvd_add (Nat.dvd_mul_left e _) (Nat.dvd_mul_left e _)
/-- a range counted by the ticks at which both fire -/
theorem cnt_range {P : Nat → Bool} {f e x y : Nat} (he : 1 ≤ e) (hxy : x ≤ y) (h : ∀ t, P t = true → f ≤ t ∧ e ∣ t - f) : cntP P x (y - x) = cntW2 P (meetM f e x) e (meetN (meetM f e x) e y) := by
  have hx := meetM_ge (f := f) (x := x) he
  have hle : ∀ t, P t = true → x ≤ t → meetM f e x ≤ t := fun t hp ht => meetM_le he ht (h t hp).1 (h t hp).2
  have hdv : ∀ t, P t = true → meetM f e x ≤ t → e ∣ t - meetM f e x := fun t hp ht => meet_dvd ht (h t hp).2
  rw [← cntW2_windows he hdv]
  have hge : ∀ k, k < meetN (meetM f e x) e y → meetM f e x + k * e < y := fun k hk => by
    have := up_lt he hk
    omega
  have hup : y ≤ meetM f e x + meetN (meetM f e x) e y * e := by
    have := up_ge (x := y - meetM f e x) he
    unfold meetN
    omega
  generalize meetM f e x = m at *
  generalize meetN m e y = n at *
  have e1 : cntP P x (m - x + n * e) = cntP P m (n * e) := by
    rw [cntP_add, cntP_zero (m - x), Nat.zero_add, show x + (m - x) = m by omega]
    intro t h1 h2
    cases hp : P t with
    | false => rfl
    | true =>
      have := hle t hp h1
      omega
  have e2 : cntP P x (m - x + n * e) = cntP P x (y - x) := by
    rw [show m - x + n * e = (y - x) + (m + n * e - y) by omega, cntP_add, cntP_zero (m + n * e - y), Nat.add_zero]
    intro t h1 h2
    cases hp : P t with
    | false => rfl
    | true =>
      have h3 := hle t hp (by omega)
      obtain ⟨k, hk⟩ := hdv t hp h3
      rw [Nat.mul_comm] at hk
      have h4 : k * e < n * e := by omega
      have h5 := hge k (Nat.lt_of_mul_lt_mul_right h4)
      omega
  rw [← e2, e1]
/-- the ticks of a progression that lie behind a tick -/
def tickL (m e M : Nat) : Nat → List Nat
  | 0 => []
  | n + 1 => tickL m e M n ++ if M < m + n * e then [m + n * e] else []
theorem tickL_len (m e M : Nat) : ∀ n, (tickL m e M n).length ≤ n
  | 0 => Nat.le_refl _
  | n + 1 => by
    have ih := tickL_len m e M n
    unfold tickL
    rw [List.length_append]
    split
    · rw [List.length_singleton]
      omega
    · rw [List.length_nil]
      omega
theorem tickL_cnt {P A : Nat → Bool} {m e M : Nat} : ∀ n, (∀ k, k < n → P (m + k * e) = (decide (M < m + k * e) && A (m + k * e))) → (tickL m e M n).countP A = cntW2 P m e n
  | 0, _ => rfl
  | n + 1, h => by
    have ih := tickL_cnt n (fun k hk => h k (by omega))
    unfold tickL cntW2
    rw [List.countP_append, ih, h n (by omega)]
    by_cases c : M < m + n * e
    · rw [if_pos c, decide_eq_true c, Bool.true_and, List.countP_singleton]
    · rw [if_neg c, decide_eq_false c, Bool.false_and, List.countP_nil]
      rfl
theorem tickL_mem {m e M t : Nat} : ∀ {n}, t ∈ tickL m e M n → ∃ k, k < n ∧ t = m + k * e ∧ M < t
  | 0, h => by cases h
  | n + 1, h => by
    rcases List.mem_append.mp h with h | h
    · obtain ⟨k, h1, h2⟩ := tickL_mem h
      exact ⟨k, by omega, h2⟩
    · by_cases c : M < m + n * e
      · rw [if_pos c] at h
        have := List.mem_singleton.mp h
        exact ⟨n, by omega, this, by omega⟩
      · rw [if_neg c] at h
        cases h
/-! ### two wheels told apart: the mathematics -/
theorem fr_at {ws : List Bool} {b n d k : Nat} (hk : IsLev b n d k) (hnd : n < d) : frB ws b n d = decide (cntW ws b d (k + 1) % 2 = 1) := by
  rw [frB_eq hk, front_cnt hk hnd]
/-- they go to unlike sides -/
def Dif (b1 : Nat) (w1 : List Bool) (b2 : Nat) (w2 : List Bool) (n d : Nat) : Prop := frB w1 b1 n d ≠ frB w2 b2 n d
theorem Dif.swap {b1 b2 n d : Nat} {w1 w2 : List Bool} (h : Dif b1 w1 b2 w2 n d) : Dif b2 w2 b1 w1 n d := fun z => h z.symm
theorem cntW_zero {ws : List Bool} {b d : Nat} : ∀ j, (∀ i, i < j → wordAt ws i = false ∨ d / b ^ i % b = 0) → cntW ws b d j = 0
  | 0, _ => rfl
  | j + 1, h => by
    unfold cntW
    rw [cntW_zero j (fun i hi => h i (by omega)), Nat.zero_add]
    refine if_neg fun z => ?_
    rcases h j (by omega) with e | e
    · rw [e] at z
      exact absurd z.2 (by decide)
    · exact z.1 e
/-- from an index on where a stack stands with queues below it -/
theorem cntW_first {ws : List Bool} {b d i : Nat} (hq : ∀ j, j < i → wordAt ws j = false) (hs : wordAt ws i = true) : cntW ws b d (i + 1) = if d / b ^ i % b ≠ 0 then 1 else 0 := by
  unfold cntW
  rw [cntW_zero i fun j hj => .inl (hq j hj), Nat.zero_add]
  by_cases c : d / b ^ i % b ≠ 0
  · rw [if_pos c, if_pos ⟨c, hs⟩]
  · rw [if_neg c, if_neg fun z => c z.1]
/-- queues alone below: behind -/
theorem fr_queues {ws : List Bool} {b n d i : Nat} (hb : 2 ≤ b) (hnd : n < d) (hd : d < b ^ i) (hq : ∀ j, j < i → wordAt ws j = false) : frB ws b n d = false := by
  obtain ⟨k, hk⟩ := lev_any (n := n) (d := d) hb hnd
  have h1 := hk.size hb hnd
  have hki : k < i := by
    rcases Nat.lt_or_ge k i with l | l
    · exact l
    · have := Nat.pow_le_pow_right (show 0 < b by omega) l
      omega
  rw [fr_at hk hnd, cntW_zero _ fun j hj => .inl (hq j (by omega))]
  rfl
theorem fr_noStack {ws : List Bool} {b n d : Nat} (hb : 2 ≤ b) (hnd : n < d) (hq : ∀ j, wordAt ws j = false) : frB ws b n d = false :=
  fr_queues (i := d) hb hnd (Nat.lt_of_lt_of_le Nat.lt_two_pow_self (Nat.pow_le_pow_left hb d)) fun j _ => hq j
/-- a power of the base, set ahead of all: one station -/
theorem lev_zero_pow {b i : Nat} (hb : 2 ≤ b) (m : Nat) (hm : 0 < m) (hmb : m < b) : IsLev b 0 (m * b ^ i) i := by
  have hp : 0 < b ^ i := pow_pos' hb i
  constructor
  · rw [Nat.zero_div, Nat.div_eq_of_lt]
    rw [Nat.pow_succ, Nat.mul_comm]
    exact Nat.mul_lt_mul_of_pos_left hmb hp
  · intro j hj
    rw [Nat.zero_div]
    have h1 : b ^ (j + 1) ≤ b ^ i := Nat.pow_le_pow_right (by omega) (by omega)
    have h2 : 0 < m * b ^ i / b ^ (j + 1) := Nat.div_pos (Nat.le_trans h1 (Nat.le_mul_of_pos_left _ hm)) (pow_pos' hb _)
    omega
theorem dig_pow {b i : Nat} (hb : 2 ≤ b) (m : Nat) (hmb : m < b) : m * b ^ i / b ^ i % b = m := by
  rw [Nat.mul_div_cancel _ (pow_pos' hb i), Nat.mod_eq_of_lt hmb]
theorem dig_pow_low {b i j : Nat} (hb : 2 ≤ b) (m : Nat) (hj : j < i) : m * b ^ i / b ^ j % b = 0 := by
  have e : m * b ^ i = m * b ^ (i - j) * b ^ j := by rw [Nat.mul_assoc, ← Nat.pow_add, show i - j + j = i by omega]
  rw [e, Nat.mul_div_cancel _ (pow_pos' hb j), show i - j = (i - j - 1) + 1 by omega, Nat.pow_succ, ← Nat.mul_assoc]
  exact Nat.mul_mod_left _ _
/-- the side of a number with one digit alone, set at 0 -/
theorem fr_one {ws : List Bool} {b i m : Nat} (hb : 2 ≤ b) (hm : 0 < m) (hmb : m < b) : frB ws b 0 (m * b ^ i) = wordAt ws i := by
  have hp := pow_pos' hb i
  have hpos : 0 < m * b ^ i := Nat.mul_pos hm hp
  rw [fr_at (lev_zero_pow hb m hm hmb) hpos]
  unfold cntW
  rw [cntW_zero i fun j hj => .inr (dig_pow_low hb m hj), dig_pow hb m hmb, Nat.zero_add]
  cases wordAt ws i with
  | true => rw [if_pos ⟨by omega, rfl⟩]; rfl
  | false => rw [if_neg fun z => absurd z.2 (by decide)]; rfl
/-! where both have the same base -/
theorem tell_same {b n d : Nat} {w1 w2 : List Bool} (hb : 2 ≤ b) (hnd : n < d) (h : Dif b w1 b w2 n d) : ∃ j, b ^ j ≤ d ∧ wordAt w1 j ≠ wordAt w2 j := by
  obtain ⟨k, hk⟩ := lev_any (n := n) (d := d) hb hnd
  have hs := hk.size hb hnd
  unfold Dif at h
  rw [fr_at hk hnd, fr_at hk hnd] at h
  have ne : cntW w1 b d (k + 1) ≠ cntW w2 b d (k + 1) := fun e => h (by rw [e])
  have key : ∀ m, cntW w1 b d m ≠ cntW w2 b d m → ∃ j, j < m ∧ wordAt w1 j ≠ wordAt w2 j := by
    intro m
    induction m with
    | zero => exact fun z => absurd rfl z
    | succ m ih =>
      intro z
      by_cases e : wordAt w1 m = wordAt w2 m
      · obtain ⟨j, hj, hw⟩ := ih fun y => z (by unfold cntW; rw [y, e])
        exact ⟨j, by omega, hw⟩
      · exact ⟨m, by omega, e⟩
  obtain ⟨j, hj, hw⟩ := key _ ne
  exact ⟨j, Nat.le_trans (Nat.pow_le_pow_right (by omega) (by omega)) hs, hw⟩
theorem dif_pow {b j : Nat} {w1 w2 : List Bool} (hb : 2 ≤ b) (h : wordAt w1 j ≠ wordAt w2 j) : Dif b w1 b w2 0 (b ^ j) := by
  have e1 := fr_one (ws := w1) (i := j) hb (show 0 < 1 by omega) (by omega)
  have e2 := fr_one (ws := w2) (i := j) hb (show 0 < 1 by omega) (by omega)
  rw [Nat.one_mul] at e1 e2
  unfold Dif
  rw [e1, e2]
  exact h
/-! where the bases differ -/
/-- the lowest stack stands at i -/
def LowS (ws : List Bool) (i : Nat) : Prop := wordAt ws i = true ∧ ∀ j, j < i → wordAt ws j = false
/-- with one digit alone above the queues -/
theorem fr_low {ws : List Bool} {b n d i : Nat} (hb : 2 ≤ b) (hnd : n < d) (hi : LowS ws i) (hd : d < b ^ (i + 1)) : frB ws b n d = decide (n / b ^ i ≠ d / b ^ i) := by
  obtain ⟨k, hk⟩ := lev_any (n := n) (d := d) hb hnd
  have hki : k ≤ i := by
    have h1 := hk.size hb hnd
    rcases Nat.lt_or_ge i k with l | l
    · have := Nat.pow_le_pow_right (show 0 < b by omega) (show i + 1 ≤ k from l)
      omega
    · exact l
  rw [fr_at hk hnd]
  by_cases c : n / b ^ i = d / b ^ i
  · have hlt : k < i := by
      rcases Nat.lt_or_ge k i with l | l
      · exact l
      · have e : k = i := by omega
        rw [e] at hk
        exact absurd c (Nat.ne_of_lt (hk.ne hnd))
    rw [cntW_zero _ fun j hj => .inl (hi.2 j (by omega)), decide_eq_false (show ¬ n / b ^ i ≠ d / b ^ i from fun z => z c)]
    rfl
  · have e : k = i := by
      rcases Nat.lt_or_ge k i with l | l
      · exfalso
        have h1 := hk.1
        have : n / b ^ i = d / b ^ i := by
          rw [show i = (k + 1) + (i - (k + 1)) by omega, Nat.pow_add, ← Nat.div_div_eq_div_mul, ← Nat.div_div_eq_div_mul, h1]
        exact c this
      · omega
    subst e
    have hdig := hk.digit hnd
    rw [cntW_first hi.2 hi.1, if_pos (by omega), decide_eq_true (show n / b ^ k ≠ d / b ^ k from c)]
    rfl
theorem tell_less {b1 b2 n d i1 i2 : Nat} {w1 w2 : List Bool} (h1 : 2 ≤ b1) (h2 : 2 ≤ b2) (l1 : LowS w1 i1) (l2 : LowS w2 i2) (e : b1 ^ i1 = b2 ^ i2) (hlt : b1 < b2) (hnd : n < d) (h : Dif b1 w1 b2 w2 n d) :
    (b1 * b1 ^ i1 ≤ d ∧ (wordAt w1 (i1 + 1) = false → Dif b1 w1 b2 w2 0 (b1 * b1 ^ i1)) ∧ (wordAt w1 (i1 + 1) = true → (b1 + 1) * b1 ^ i1 ≤ d ∧ ∃ n', n' < (b1 + 1) * b1 ^ i1 ∧ Dif b1 w1 b2 w2 n' ((b1 + 1) * b1 ^ i1))) := by
  have p1 := pow_pos' h1 i1
  have p2 := pow_pos' h2 i2
  have big : b1 * b1 ^ i1 ≤ d := by
    rcases Nat.lt_or_ge d (b1 * b1 ^ i1) with l | l
    · exfalso
      have a1 : d < b1 ^ (i1 + 1) := by rw [Nat.pow_succ, Nat.mul_comm]; exact l
      have a2 : d < b2 ^ (i2 + 1) := by
        rw [Nat.pow_succ, Nat.mul_comm, ← e]
        exact Nat.lt_of_lt_of_le l (Nat.mul_le_mul_right _ (Nat.le_of_lt hlt))
      apply h
      rw [fr_low h1 hnd l1 a1, fr_low h2 hnd l2 a2, e]
    · exact l
  refine ⟨big, fun hq => ?_, fun hs => ?_⟩
  · unfold Dif
    have e1 := fr_one (ws := w1) (i := i1 + 1) h1 (show 0 < 1 by omega) (by omega)
    rw [Nat.one_mul, Nat.pow_succ, Nat.mul_comm, hq] at e1
    have e2 := fr_one (ws := w2) (i := i2) h2 (show 0 < b1 by omega) hlt
    rw [← e, l2.1] at e2
    rw [e1, e2]
    decide
  · -- two stacks one above the other
    have lev1 : ∀ n d, n < d → d < (b1 + 1) * b1 ^ i1 → b1 * b1 ^ i1 ≤ d → frB w1 b1 n d = decide (n / b1 ^ i1 ≠ d / b1 ^ i1) := by
      intro n d hnd hd1 hd2
      obtain ⟨k, hk⟩ := lev_any (n := n) (d := d) h1 hnd
      have hq1 : d / b1 ^ i1 = b1 := by
        have a := (Nat.le_div_iff_mul_le p1).mpr hd2
        have b := (Nat.div_lt_iff_lt_mul p1).mpr hd1
        omega
      have d0 : d / b1 ^ i1 % b1 = 0 := by rw [hq1, Nat.mod_self]
      have hki : k ≤ i1 + 1 := by
        rcases Nat.lt_or_ge (i1 + 1) k with l | l
        · have a := hk.size h1 hnd
          have b := Nat.pow_le_pow_right (show 0 < b1 by omega) (show i1 + 2 ≤ k from l)
          have c : (b1 + 1) * b1 ^ i1 ≤ b1 ^ (i1 + 2) := by
            rw [Nat.pow_succ, Nat.pow_succ, Nat.mul_assoc, Nat.mul_comm (b1 ^ i1)]
            refine Nat.mul_le_mul_right _ ?_
            have z : 2 * b1 ≤ b1 * b1 := Nat.mul_le_mul_right b1 h1
            omega
          omega
        · exact l
      have hne := hk.digit hnd
      rw [fr_at hk hnd]
      by_cases c : n / b1 ^ i1 = d / b1 ^ i1
      · have hlt : k < i1 := by
          rcases Nat.lt_or_ge k i1 with l | l
          · exact l
          · exfalso
            have z := hk.ne hnd
            rw [show k = i1 + (k - i1) by omega, Nat.pow_add, ← Nat.div_div_eq_div_mul, ← Nat.div_div_eq_div_mul, c] at z
            exact Nat.lt_irrefl _ z
        rw [cntW_zero _ fun j hj => .inl (l1.2 j (by omega)), decide_eq_false (show ¬ n / b1 ^ i1 ≠ d / b1 ^ i1 from fun z => z c)]
        rfl
      · have ek : k = i1 + 1 := by
          rcases Nat.lt_or_ge k (i1 + 1) with l | l
          · exfalso
            rcases Nat.lt_or_ge k i1 with l2 | l2
            · have h3 := hk.1
              have : n / b1 ^ i1 = d / b1 ^ i1 := by
                rw [show i1 = (k + 1) + (i1 - (k + 1)) by omega, Nat.pow_add, ← Nat.div_div_eq_div_mul, ← Nat.div_div_eq_div_mul, h3]
              exact c this
            · have e3 : k = i1 := by omega
              rw [e3, d0] at hne
              omega
          · omega
        subst ek
        unfold cntW
        rw [cntW_first l1.2 l1.1, if_neg (fun z => z d0), Nat.zero_add, if_pos ⟨by omega, hs⟩, decide_eq_true (show n / b1 ^ i1 ≠ d / b1 ^ i1 from c)]
        rfl
    have big2 : (b1 + 1) * b1 ^ i1 ≤ d := by
      rcases Nat.lt_or_ge d ((b1 + 1) * b1 ^ i1) with l | l
      · exfalso
        have a2 : d < b2 ^ (i2 + 1) := by
          rw [Nat.pow_succ, Nat.mul_comm, ← e]
          exact Nat.lt_of_lt_of_le l (Nat.mul_le_mul_right _ hlt)
        apply h
        rw [lev1 n d hnd l big, fr_low h2 hnd l2 a2, e]
      · exact l
    refine ⟨big2, ?_⟩
    have pm : 0 < (b1 + 1) * b1 ^ i1 := Nat.mul_pos (by omega) p1
    -- the first wheel, from the beginning: two stations
    have top1 : IsLev b1 0 ((b1 + 1) * b1 ^ i1) (i1 + 1) := by
      constructor
      · rw [Nat.zero_div, Nat.div_eq_of_lt]
        rw [Nat.pow_succ, Nat.pow_succ, Nat.mul_assoc, Nat.mul_comm (b1 ^ i1)]
        refine Nat.mul_lt_mul_of_pos_right ?_ p1
        have z : 2 * b1 ≤ b1 * b1 := Nat.mul_le_mul_right b1 h1
        omega
      · intro j hj
        rw [Nat.zero_div]
        have a : b1 ^ (j + 1) ≤ b1 ^ (i1 + 1) := Nat.pow_le_pow_right (by omega) (by omega)
        have c : b1 ^ (i1 + 1) ≤ (b1 + 1) * b1 ^ i1 := by
          rw [Nat.pow_succ, Nat.mul_comm]
          exact Nat.mul_le_mul_right _ (by omega)
        have := Nat.div_pos (Nat.le_trans a c) (pow_pos' h1 (j + 1))
        omega
    have q1 : (b1 + 1) * b1 ^ i1 / b1 ^ i1 % b1 = 1 := by
      rw [Nat.mul_div_cancel _ p1, Nat.add_mod_left, Nat.mod_eq_of_lt (by omega)]
    have q2 : (b1 + 1) * b1 ^ i1 / b1 ^ (i1 + 1) % b1 = 1 := by
      rw [Nat.pow_succ, ← Nat.div_div_eq_div_mul, Nat.mul_div_cancel _ p1]
      have : (b1 + 1) / b1 = 1 := by
        rw [Nat.add_comm, Nat.add_div_right _ (by omega), Nat.div_eq_of_lt (by omega)]
      rw [this, Nat.mod_eq_of_lt (by omega)]
    have f1 : frB w1 b1 0 ((b1 + 1) * b1 ^ i1) = false := by
      rw [fr_at top1 pm]
      unfold cntW
      rw [cntW_first l1.2 l1.1, if_pos (by rw [q1]; decide), if_pos ⟨by rw [q2]; decide, hs⟩]
      rfl
    rcases Nat.lt_or_ge (b1 + 1) b2 with l | l
    · refine ⟨0, pm, ?_⟩
      have f2 := fr_one (ws := w2) (i := i2) h2 (show 0 < b1 + 1 by omega) l
      rw [← e, l2.1] at f2
      unfold Dif
      rw [f1, f2]
      decide
    · have eb : b2 = b1 + 1 := by omega
      have en : (b1 + 1) * b1 ^ i1 = 1 * b2 ^ (i2 + 1) := by rw [e, ← eb, Nat.one_mul, Nat.pow_succ, Nat.mul_comm]
      cases hw : wordAt w2 (i2 + 1) with
      | true =>
        refine ⟨0, pm, ?_⟩
        have f2 := fr_one (ws := w2) (i := i2 + 1) h2 (show 0 < 1 by omega) (by omega)
        rw [← en, hw] at f2
        unfold Dif
        rw [f1, f2]
        decide
      | false =>
        refine ⟨b1 * b1 ^ i1, Nat.mul_lt_mul_of_pos_right (by omega) p1, ?_⟩
        have hnd2 : b1 * b1 ^ i1 < (b1 + 1) * b1 ^ i1 := Nat.mul_lt_mul_of_pos_right (by omega) p1
        have lv : IsLev b1 (b1 * b1 ^ i1) ((b1 + 1) * b1 ^ i1) i1 := by
          constructor
          · rw [Nat.pow_succ, ← Nat.div_div_eq_div_mul, ← Nat.div_div_eq_div_mul, Nat.mul_div_cancel _ p1, Nat.mul_div_cancel _ p1, Nat.div_self (by omega), Nat.add_comm, Nat.add_div_right _ (by omega), Nat.div_eq_of_lt (by omega)]
          · intro j hj
            rw [show i1 = (i1 - (j + 1)) + (j + 1) by omega, Nat.pow_add, ← Nat.mul_assoc, ← Nat.mul_assoc, Nat.mul_div_cancel _ (pow_pos' h1 _), Nat.mul_div_cancel _ (pow_pos' h1 _)]
            have := Nat.mul_lt_mul_of_pos_right (show b1 < b1 + 1 by omega) (pow_pos' h1 (i1 - (j + 1)))
            omega
        have f3 : frB w1 b1 (b1 * b1 ^ i1) ((b1 + 1) * b1 ^ i1) = true := by
          rw [fr_at lv hnd2, cntW_first l1.2 l1.1, if_pos (by rw [q1]; decide)]
          rfl
        have f4 : frB w2 b2 (b1 * b1 ^ i1) ((b1 + 1) * b1 ^ i1) = false := by
          have e5 : b1 * b1 ^ i1 = b1 * b2 ^ i2 := by rw [e]
          have lv2 : IsLev b2 (b1 * b1 ^ i1) ((b1 + 1) * b1 ^ i1) (i2 + 1) := by
            constructor
            · rw [en, e5, Nat.one_mul, Nat.div_eq_of_lt, Nat.div_eq_of_lt]
              · exact Nat.pow_lt_pow_right (by omega) (by omega)
              · have a : b1 * b2 ^ i2 < b2 * b2 ^ i2 := Nat.mul_lt_mul_of_pos_right hlt p2
                have c : b2 * b2 ^ i2 ≤ b2 ^ (i2 + 1 + 1) := by
                  rw [Nat.mul_comm, ← Nat.pow_succ]
                  exact Nat.pow_le_pow_right (by omega) (by omega)
                omega
            · intro j hj
              have ee : b2 ^ (i2 + 1) = b2 ^ (i2 - j) * b2 ^ (j + 1) := by rw [← Nat.pow_add, show i2 - j + (j + 1) = i2 + 1 by omega]
              rw [en, e5, Nat.one_mul, ee, Nat.mul_div_cancel _ (pow_pos' h2 _)]
              have a : b1 * b2 ^ i2 < b2 ^ (i2 - j) * b2 ^ (j + 1) := by
                rw [← Nat.pow_add, show i2 - j + (j + 1) = i2 + 1 by omega, Nat.pow_succ, Nat.mul_comm (b2 ^ i2)]
                exact Nat.mul_lt_mul_of_pos_right hlt p2
              have := (Nat.div_lt_iff_lt_mul (pow_pos' h2 (j + 1))).mpr a
              omega
          rw [fr_at lv2 hnd2, en]
          unfold cntW
          rw [cntW_first l2.2 l2.1, if_neg (fun z => z (dig_pow_low h2 1 (by omega))), if_neg (fun z => by rw [hw] at z; exact absurd z.2 (by decide))]
          rfl
        unfold Dif
        rw [f3, f4]
        decide
/-! ### two wheels told apart: the dues and ticks that suffice -/
/-- the answer: the least due, and for it the least tick -/
def ToldP (b1 : Nat) (w1 : List Bool) (b2 : Nat) (w2 : List Bool) : Option (Nat × Nat) → Prop
  | none => ∀ n d, n < d → ¬ Dif b1 w1 b2 w2 n d
  | some (e, m) => m < e ∧ Dif b1 w1 b2 w2 m e ∧ ∀ n d, n < d → Dif b1 w1 b2 w2 n d → e < d ∨ (e = d ∧ m ≤ n)
def tolV : Option (Nat × Nat) → List V
  | none => [.str "alike"]
  | some (e, m) => [.str "apart", .int (e : Nat), .int (m : Nat)]
theorem ToldP.swap {b1 b2 : Nat} {w1 w2 : List Bool} {r : Option (Nat × Nat)} (h : ToldP b1 w1 b2 w2 r) : ToldP b2 w2 b1 w1 r := by
  match r, h with
  | none, h => exact fun n d hnd z => h n d hnd z.swap
  | some (e, m), ⟨h1, h2, h3⟩ => exact ⟨h1, h2.swap, fun n d hnd z => h3 n d hnd z.swap⟩
theorem ToldP.uniq {b1 b2 : Nat} {w1 w2 : List Bool} {r r' : Option (Nat × Nat)} (h : ToldP b1 w1 b2 w2 r) (h' : ToldP b1 w1 b2 w2 r') : r = r' := by
  match r, r', h, h' with
  | none, none, _, _ => rfl
  | none, some (e, m), h, ⟨h1, h2, _⟩ => exact absurd h2 (h _ _ h1)
  | some (e, m), none, ⟨h1, h2, _⟩, h => exact absurd h2 (h _ _ h1)
  | some (e, m), some (e', m'), ⟨h1, h2, h3⟩, ⟨h1', h2', h3'⟩ =>
    have a := h3 _ _ h1' h2'
    have b := h3' _ _ h1 h2
    have c : e = e' ∧ m = m' := by omega
    rw [c.1, c.2]
theorem ToldP.self {b : Nat} {w : List Bool} : ToldP b w b w none := fun _ _ _ h => h rfl
/-- the least tick for a due -/
def FstP (b1 : Nat) (w1 : List Bool) (b2 : Nat) (w2 : List Bool) (d : Nat) : Option Nat → Prop
  | none => ∀ n, n < d → ¬ Dif b1 w1 b2 w2 n d
  | some m => m < d ∧ Dif b1 w1 b2 w2 m d ∧ ∀ n, n < d → Dif b1 w1 b2 w2 n d → m ≤ n
def optV : Option Nat → V
  | none => .non
  | some m => .int (m : Nat)
/-! the ticks of the path from 0 -/
theorem IsLev.early {b n d k t : Nat} (hb : 2 ≤ b) (h : IsLev b n d k) (hnd : n < d) (h1 : d / b ^ (k + 1) * b ^ (k + 1) ≤ t) (h2 : t ≤ n) : IsLev b t d k := by
  have p := pow_pos' hb (k + 1)
  constructor
  · have a : d / b ^ (k + 1) ≤ t / b ^ (k + 1) := (Nat.le_div_iff_mul_le p).mpr h1
    have c : t / b ^ (k + 1) ≤ n / b ^ (k + 1) := Nat.div_le_div_right h2
    have e := h.1
    omega
  · intro j hj
    have a : t / b ^ (j + 1) ≤ n / b ^ (j + 1) := Nat.div_le_div_right h2
    have c : n / b ^ (j + 1) < d / b ^ (j + 1) := lev_le h hnd hj
    omega
def ticksOf (b d k : Nat) : List Nat := (rowsOf b 0 d k).map (·.2.2)
theorem tail_mem {b d j : Nat} (hd : d / b ^ j % b ≠ 0) : ∀ k, j < k → (j, d / b ^ j % b, d / b ^ (j + 1) * b ^ (j + 1)) ∈ tailOf b d k
  | k + 1, h => by
    unfold tailOf
    by_cases e : j = k
    · subst e
      rw [if_pos hd]
      exact List.mem_cons_self
    · have ih := tail_mem hd k (by omega)
      split
      · exact List.mem_cons_of_mem _ ih
      · exact ih
theorem tail_lt {b d : Nat} (hb : 2 ≤ b) : ∀ k, ∀ r ∈ tailOf b d k, r.2.2 < d
  | 0, r, h => by unfold tailOf at h; cases h
  | k + 1, r, h => by
    unfold tailOf at h
    have ih := tail_lt (d := d) hb k
    have key : d / b ^ k % b ≠ 0 → d / b ^ (k + 1) * b ^ (k + 1) < d := fun hd => by
      have a := cut_step b d k
      have c := cut_le b d k
      have p : 0 < d / b ^ k % b * b ^ k := Nat.mul_pos (by omega) (pow_pos' hb k)
      omega
    split at h
    · rename_i hd
      rcases List.mem_cons.mp h with e | e
      · rw [e]
        exact key hd
      · exact ih r e
    · exact ih r h
theorem ticks_lt {b d k t : Nat} (hb : 2 ≤ b) (hd : 0 < d) (h : t ∈ ticksOf b d k) : t < d := by
  obtain ⟨r, hr, e⟩ := List.mem_map.mp h
  rw [← e]
  rcases List.mem_cons.mp hr with z | z
  · rw [z]
    exact hd
  · exact tail_lt hb k r z
/-- the beginning of the block of a tick is among them -/
theorem ticks_block {b n d k k0 : Nat} (hb : 2 ≤ b) (hk : IsLev b n d k) (hk0 : IsLev b 0 d k0) (hnd : n < d) : d / b ^ (k + 1) * b ^ (k + 1) ∈ ticksOf b d k0 ∧ d / b ^ (k + 1) * b ^ (k + 1) ≤ n := by
  have le : d / b ^ (k + 1) * b ^ (k + 1) ≤ n := by
    rw [← hk.1]
    exact Nat.div_mul_le_self _ _
  refine ⟨?_, le⟩
  have z0 := hk0.1
  rw [Nat.zero_div] at z0
  rcases Nat.lt_or_ge k k0 with l | l
  · have hne := hk.digit hnd
    exact List.mem_map.mpr ⟨(k, d / b ^ k % b, d / b ^ (k + 1) * b ^ (k + 1)), List.mem_cons_of_mem _ (tail_mem (by omega) k0 l), rfl⟩
  · have z : d / b ^ (k + 1) = 0 := by
      rw [show k + 1 = (k0 + 1) + (k - k0) by omega, Nat.pow_add, ← Nat.div_div_eq_div_mul, ← z0, Nat.zero_div]
    rw [z, Nat.zero_mul]
    exact List.mem_cons_self
theorem ticks_tell {b1 b2 n d k1 k2 : Nat} {w1 w2 : List Bool} (h1 : 2 ≤ b1) (h2 : 2 ≤ b2) (hk1 : IsLev b1 0 d k1) (hk2 : IsLev b2 0 d k2) (hnd : n < d) (h : Dif b1 w1 b2 w2 n d) :
    ∃ t ∈ ticksOf b1 d k1 ++ ticksOf b2 d k2, t ≤ n ∧ Dif b1 w1 b2 w2 t d := by
  obtain ⟨j1, hj1⟩ := lev_any (n := n) (d := d) h1 hnd
  obtain ⟨j2, hj2⟩ := lev_any (n := n) (d := d) h2 hnd
  obtain ⟨m1, l1⟩ := ticks_block h1 hj1 hk1 hnd
  obtain ⟨m2, l2⟩ := ticks_block h2 hj2 hk2 hnd
  have go : ∀ t, d / b1 ^ (j1 + 1) * b1 ^ (j1 + 1) ≤ t → d / b2 ^ (j2 + 1) * b2 ^ (j2 + 1) ≤ t → t ≤ n → Dif b1 w1 b2 w2 t d := by
    intro t a c e
    have e1 := hj1.early h1 hnd a e
    have e2 := hj2.early h2 hnd c e
    unfold Dif at h ⊢
    rw [fr_at hj1 hnd, fr_at hj2 hnd] at h
    rw [fr_at e1 (by omega), fr_at e2 (by omega)]
    exact h
  rcases Nat.le_total (d / b1 ^ (j1 + 1) * b1 ^ (j1 + 1)) (d / b2 ^ (j2 + 1) * b2 ^ (j2 + 1)) with l | l
  · exact ⟨_, List.mem_append.mpr (.inr m2), l2, go _ l (Nat.le_refl _) l2⟩
  · exact ⟨_, List.mem_append.mpr (.inl m1), l1, go _ (Nat.le_refl _) l l1⟩
/-! the dues -/
/-- a due of the list, bounded by the first or the second wheel -/
def DueB (b1 l1 b2 l2 e : Nat) : Prop := e ≤ (b1 + 1) * b1 ^ (l1 - 1) ∨ e ≤ (b2 + 1) * b2 ^ (l2 - 1)
/-- what the first due that tells looks like -/
def DueF (b1 l1 b2 l2 e : Nat) : Prop := e ≤ b1 ^ (l1 - 1) ∨ e ≤ b2 ^ (l2 - 1) ∨ ∃ i1 i2, i1 < l1 ∧ i2 < l2 ∧ b1 ≠ b2 ∧ b1 ^ i1 = b2 ^ i2 ∧ e ≤ (min b1 b2 + 1) * b1 ^ i1
structure Tells (b1 : Nat) (w1 : List Bool) (b2 : Nat) (w2 : List Bool) (L : List Nat) : Prop where
  up : L.Pairwise (· ≤ ·)
  bd : ∀ e ∈ L, 1 ≤ e ∧ DueB b1 w1.length b2 w2.length e
  tell : ∀ n d, n < d → Dif b1 w1 b2 w2 n d → ∃ e ∈ L, e ≤ d ∧ DueF b1 w1.length b2 w2.length e ∧ ∃ n', n' < e ∧ Dif b1 w1 b2 w2 n' e
/-- the same base -/
theorem tells_same {b : Nat} {w1 w2 : List Bool} (hb : 2 ≤ b) (h1 : w1 ≠ []) (h2 : w2 ≠ []) : Tells b w1 b w2 ((List.range (max w1.length w2.length)).map (b ^ ·)) := by
  have p1 := List.length_pos_iff.mpr h1
  have p2 := List.length_pos_iff.mpr h2
  have mono : ∀ {i j : Nat}, i ≤ j → b ^ i ≤ b ^ j := fun h => Nat.pow_le_pow_right (by omega) h
  have each : ∀ {j : Nat}, j < max w1.length w2.length → b ^ j ≤ b ^ (w1.length - 1) ∨ b ^ j ≤ b ^ (w2.length - 1) := fun {j} hj => by
    rcases Nat.lt_or_ge j w1.length with l | l
    · exact .inl (mono (by omega))
    · exact .inr (mono (by omega))
  refine ⟨?_, fun e he => ?_, fun n d hnd h => ?_⟩
  · rw [List.pairwise_map]
    exact List.pairwise_lt_range.imp fun h => mono (Nat.le_of_lt h)
  · obtain ⟨j, hj, rfl⟩ := List.mem_map.mp he
    rw [List.mem_range] at hj
    refine ⟨pow_pos' hb j, ?_⟩
    have up : ∀ x, x ≤ (b + 1) * x := fun x => Nat.le_mul_of_pos_left _ (by omega)
    rcases each hj with z | z
    · exact .inl (Nat.le_trans z (up _))
    · exact .inr (Nat.le_trans z (up _))
  · obtain ⟨j, hj, hw⟩ := tell_same hb hnd h
    have hlt : min j (max w1.length w2.length - 1) < max w1.length w2.length := by omega
    have same : ∀ {w : List Bool}, w.length ≤ max w1.length w2.length → wordAt w (min j (max w1.length w2.length - 1)) = wordAt w j := fun {w} hl => by
      unfold wordAt
      rw [show min (min j (max w1.length w2.length - 1)) (w.length - 1) = min j (w.length - 1) by omega]
    refine ⟨_, List.mem_map.mpr ⟨_, List.mem_range.mpr hlt, rfl⟩, Nat.le_trans (mono (Nat.min_le_left _ _)) hj, ?_, 0, pow_pos' hb _, dif_pow hb ?_⟩
    · rcases each hlt with z | z
      · exact .inl z
      · exact .inr (.inl z)
    · rw [same (by omega), same (by omega)]
      exact hw
/-- where the lowest stack stands, if any -/
def LowO (ws : List Bool) : Option Nat → Prop
  | none => ∀ j, wordAt ws j = false
  | some i => i < ws.length ∧ LowS ws i
/-- an unlike side before the sizes differ is impossible, and at the less of them it is there -/
theorem tell_size {b1 b2 n d i : Nat} {w1 w2 : List Bool} {o : Option Nat} (h1 : 2 ≤ b1) (h2 : 2 ≤ b2) (l1 : LowS w1 i) (l2 : LowO w2 o) (hlt : ∀ j, o = some j → b1 ^ i < b2 ^ j) (hnd : n < d) (h : Dif b1 w1 b2 w2 n d) :
    b1 ^ i ≤ d ∧ Dif b1 w1 b2 w2 0 (b1 ^ i) := by
  have p := pow_pos' h1 i
  have f2 : ∀ n d, n < d → d ≤ b1 ^ i → frB w2 b2 n d = false := by
    intro n d hnd hd
    match o, l2, hlt with
    | none, l2, _ => exact fr_noStack h2 hnd l2
    | some j, l2, hlt => exact fr_queues h2 hnd (Nat.lt_of_le_of_lt hd (hlt j rfl)) l2.2.2
  constructor
  · rcases Nat.lt_or_ge d (b1 ^ i) with l | l
    · exfalso
      apply h
      rw [fr_queues h1 hnd l l1.2, f2 n d hnd (Nat.le_of_lt l)]
    · exact l
  · unfold Dif
    have e1 := fr_one (ws := w1) (i := i) h1 (show 0 < 1 by omega) (by omega)
    rw [Nat.one_mul, l1.1] at e1
    rw [e1, f2 0 _ p (Nat.le_refl _)]
    decide
/-- the list of the dues, from the less size and the less base -/
def duesOf (s l : Nat) : List Nat := [s, l * s, (l + 1) * s]
theorem dues_up {s l : Nat} (hl : 1 ≤ l) : (duesOf s l).Pairwise (· ≤ ·) := by
  have a : s ≤ l * s := Nat.le_mul_of_pos_left _ hl
  have c : l * s ≤ (l + 1) * s := Nat.mul_le_mul_right _ (by omega)
  refine List.pairwise_cons.mpr ⟨fun x hx => ?_, List.pairwise_cons.mpr ⟨fun x hx => ?_, List.pairwise_cons.mpr ⟨fun x hx => (by cases hx), List.Pairwise.nil⟩⟩⟩
  · rcases List.mem_cons.mp hx with e | e
    · rw [e]; exact a
    · rw [List.mem_singleton.mp e]; exact Nat.le_trans a c
  · rw [List.mem_singleton.mp hx]; exact c
theorem tells_none {b1 b2 : Nat} {w1 w2 : List Bool} (h1 : 2 ≤ b1) (h2 : 2 ≤ b2) (l1 : LowO w1 none) (l2 : LowO w2 none) : Tells b1 w1 b2 w2 [] :=
  ⟨List.Pairwise.nil, fun e he => (by cases he), fun n d hnd h => absurd ((fr_noStack h1 hnd l1).trans (fr_noStack h2 hnd l2).symm) h⟩
theorem dues_bd {b1 b2 i k s : Nat} (hb : 2 ≤ b1) (h2 : 2 ≤ b2) (hi : i < k) (hs : s = b1 ^ i) : ∀ e ∈ duesOf s (min b1 b2), 1 ≤ e ∧ e ≤ (b1 + 1) * b1 ^ (k - 1) := by
  intro e he
  have p : 1 ≤ s := by rw [hs]; exact pow_pos' hb i
  have m : s ≤ b1 ^ (k - 1) := by rw [hs]; exact Nat.pow_le_pow_right (by omega) (by omega)
  have hx : ∃ x, 1 ≤ x ∧ x ≤ b1 + 1 ∧ e = x * s := by
    rcases List.mem_cons.mp he with z | z
    · exact ⟨1, by omega, by omega, by rw [z, Nat.one_mul]⟩
    · rcases List.mem_cons.mp z with z | z
      · exact ⟨_, by omega, by omega, z⟩
      · exact ⟨_, by omega, by omega, List.mem_singleton.mp z⟩
  obtain ⟨x, x1, x2, rfl⟩ := hx
  exact ⟨Nat.mul_pos x1 p, Nat.mul_le_mul x2 m⟩
/-- the first wheel has the less size -/
theorem tells_less {b1 b2 i : Nat} {w1 w2 : List Bool} {o : Option Nat} (h1 : 2 ≤ b1) (h2 : 2 ≤ b2) (l1 : LowO w1 (some i)) (l2 : LowO w2 o) (hlt : ∀ j, o = some j → b1 ^ i < b2 ^ j) : Tells b1 w1 b2 w2 (duesOf (b1 ^ i) (min b1 b2)) := by
  refine ⟨dues_up (by omega), fun e he => ?_, fun n d hnd h => ?_⟩
  · have z := dues_bd h1 h2 l1.1 rfl e he
    exact ⟨z.1, .inl z.2⟩
  · obtain ⟨a, c⟩ := tell_size h1 h2 l1.2 l2 hlt hnd h
    refine ⟨_, List.mem_cons_self, a, .inl (Nat.pow_le_pow_right (by omega) (by have := l1.1; omega)), 0, pow_pos' h1 i, c⟩
theorem Tells.swap {b1 b2 : Nat} {w1 w2 : List Bool} {L : List Nat} (h : Tells b1 w1 b2 w2 L) : Tells b2 w2 b1 w1 L := by
  refine ⟨h.up, fun e he => ⟨(h.bd e he).1, (h.bd e he).2.symm⟩, fun n d hnd z => ?_⟩
  obtain ⟨e, he, hed, hf, n', hn', hz⟩ := h.tell n d hnd z.swap
  refine ⟨e, he, hed, ?_, n', hn', hz.swap⟩
  rcases hf with z | z | ⟨i1, i2, a, b, c, e2, f⟩
  · exact .inr (.inl z)
  · exact .inl z
  · refine .inr (.inr ⟨i2, i1, b, a, c.symm, e2.symm, ?_⟩)
    rw [← e2, Nat.min_comm]
    exact f
/-- both have the same size, and the first has the less base -/
theorem tells_equal {b1 b2 i1 i2 : Nat} {w1 w2 : List Bool} (h1 : 2 ≤ b1) (h2 : 2 ≤ b2) (l1 : LowO w1 (some i1)) (l2 : LowO w2 (some i2)) (e : b1 ^ i1 = b2 ^ i2) (hlt : b1 < b2) : Tells b1 w1 b2 w2 (duesOf (b1 ^ i1) (min b1 b2)) := by
  refine ⟨dues_up (by omega), fun x hx => ?_, fun n d hnd h => ?_⟩
  · have z := dues_bd h1 h2 l1.1 rfl x hx
    exact ⟨z.1, .inl z.2⟩
  · obtain ⟨big, q, s⟩ := tell_less h1 h2 l1.2 l2.2 e hlt hnd h
    have em : min b1 b2 = b1 := by omega
    rw [em]
    have p1 := pow_pos' h1 i1
    have le : b1 * b1 ^ i1 ≤ (b1 + 1) * b1 ^ i1 := Nat.mul_le_mul_right _ (by omega)
    cases hw : wordAt w1 (i1 + 1) with
    | false => exact ⟨b1 * b1 ^ i1, List.mem_cons_of_mem _ List.mem_cons_self, big, .inr (.inr ⟨i1, i2, l1.1, l2.1, by omega, e, by rw [em]; exact le⟩), 0, Nat.mul_pos (by omega) p1, q hw⟩
    | true =>
      obtain ⟨big2, n', hn', hz⟩ := s hw
      exact ⟨(b1 + 1) * b1 ^ i1, List.mem_cons_of_mem _ (List.mem_cons_of_mem _ List.mem_cons_self), big2, .inr (.inr ⟨i1, i2, l1.1, l2.1, by omega, e, by rw [em]; exact Nat.le_refl _⟩), n', hn', hz⟩
/-- all bases that differ, where a stack stands in one at least -/
def minO (b1 b2 : Nat) : Option Nat → Option Nat → Option Nat
  | none, none => none
  | some i, none => some (b1 ^ i)
  | none, some j => some (b2 ^ j)
  | some i, some j => some (min (b1 ^ i) (b2 ^ j))
theorem tells_ne {b1 b2 s : Nat} {w1 w2 : List Bool} {o1 o2 : Option Nat} (h1 : 2 ≤ b1) (h2 : 2 ≤ b2) (l1 : LowO w1 o1) (l2 : LowO w2 o2) (hne : b1 ≠ b2) (hs : minO b1 b2 o1 o2 = some s) : Tells b1 w1 b2 w2 (duesOf s (min b1 b2)) := by
  have right : ∀ {j : Nat} {o : Option Nat}, LowO w1 o → LowO w2 (some j) → (∀ i, o = some i → b2 ^ j < b1 ^ i) → Tells b1 w1 b2 w2 (duesOf (b2 ^ j) (min b1 b2)) := fun {j o} a c e => by
    have := (tells_less h2 h1 c a e).swap
    rw [Nat.min_comm] at this
    exact this
  match o1, o2, l1, l2, hs with
  | some i, none, l1, l2, hs =>
    cases hs
    exact tells_less h1 h2 l1 l2 fun j z => by cases z
  | none, some j, l1, l2, hs =>
    cases hs
    exact right l1 l2 fun j z => by cases z
  | some i, some j, l1, l2, hs =>
    have hs : min (b1 ^ i) (b2 ^ j) = s := Option.some.inj hs
    rcases Nat.lt_trichotomy (b1 ^ i) (b2 ^ j) with l | l | l
    · rw [show s = b1 ^ i by omega]
      exact tells_less h1 h2 l1 l2 fun x z => by cases z; exact l
    · rw [show s = b1 ^ i by omega]
      rcases Nat.lt_or_gt_of_ne hne with c | c
      · exact tells_equal h1 h2 l1 l2 l c
      · have := (tells_equal h2 h1 l2 l1 l.symm c).swap
        rw [Nat.min_comm, ← l] at this
        exact this
    · rw [show s = b2 ^ j by omega]
      exact right l1 l2 fun x z => by cases z; exact l
/-- one after another -/
theorem tells_done {b1 b2 : Nat} {w1 w2 : List Bool} {L : List Nat} (h : Tells b1 w1 b2 w2 L) (hno : ∀ e ∈ L, ∀ n, n < e → ¬ Dif b1 w1 b2 w2 n e) : ToldP b1 w1 b2 w2 none := fun n d hnd z => by
  obtain ⟨e, he, _, _, n', hn', hz⟩ := h.tell n d hnd z
  exact hno e he n' hn' hz
theorem tells_at {b1 b2 e m : Nat} {w1 w2 : List Bool} {L1 L2 : List Nat} (h : Tells b1 w1 b2 w2 (L1 ++ e :: L2)) (hno : ∀ e ∈ L1, ∀ n, n < e → ¬ Dif b1 w1 b2 w2 n e) (hm : FstP b1 w1 b2 w2 e (some m)) : ToldP b1 w1 b2 w2 (some (e, m)) := by
  refine ⟨hm.1, hm.2.1, fun n d hnd z => ?_⟩
  obtain ⟨e', he', hed, _, n', hn', hz⟩ := h.tell n d hnd z
  have hle : e ≤ e' := by
    rcases List.mem_append.mp he' with y | y
    · exact absurd hz (hno e' y n' hn')
    · rcases List.mem_cons.mp y with y | y
      · omega
      · exact (List.pairwise_cons.mp (List.pairwise_append.mp h.up).2.1).1 e' y
  rcases Nat.lt_or_ge e d with l | l
  · exact .inl l
  · have ed : e = d := by omega
    subst ed
    exact .inr ⟨rfl, hm.2.2 n hnd z⟩
/-- the least of sorted ticks where they differ is the least of all -/
theorem fst_at {b1 b2 d k1 k2 m : Nat} {w1 w2 : List Bool} {S S1 S2 : List Nat} (h1 : 2 ≤ b1) (h2 : 2 ≤ b2) (hd : 0 < d) (hk1 : IsLev b1 0 d k1) (hk2 : IsLev b2 0 d k2) (hS : ∀ t, t ∈ S ↔ t ∈ ticksOf b1 d k1 ++ ticksOf b2 d k2) (hup : S.Pairwise (· ≤ ·)) (e : S = S1 ++ m :: S2)
    (hno : ∀ t ∈ S1, ¬ Dif b1 w1 b2 w2 t d) (hm : Dif b1 w1 b2 w2 m d) : FstP b1 w1 b2 w2 d (some m) := by
  have hmem : m ∈ S := by rw [e]; exact List.mem_append.mpr (.inr List.mem_cons_self)
  refine ⟨?_, hm, fun n hnd z => ?_⟩
  · rcases List.mem_append.mp ((hS m).mp hmem) with y | y
    · exact ticks_lt h1 hd y
    · exact ticks_lt h2 hd y
  · obtain ⟨t, ht, htn, hz⟩ := ticks_tell h1 h2 hk1 hk2 hnd z
    have htS := (hS t).mpr ht
    rw [e] at htS hup
    rcases List.mem_append.mp htS with y | y
    · exact absurd hz (hno t y)
    · rcases List.mem_cons.mp y with y | y
      · omega
      · exact Nat.le_trans ((List.pairwise_cons.mp (List.pairwise_append.mp hup).2.1).1 t y) htn
theorem fst_none {b1 b2 d k1 k2 : Nat} {w1 w2 : List Bool} {S : List Nat} (h1 : 2 ≤ b1) (h2 : 2 ≤ b2) (hk1 : IsLev b1 0 d k1) (hk2 : IsLev b2 0 d k2) (hS : ∀ t, t ∈ S ↔ t ∈ ticksOf b1 d k1 ++ ticksOf b2 d k2)
    (hno : ∀ t ∈ S, ¬ Dif b1 w1 b2 w2 t d) : FstP b1 w1 b2 w2 d none := fun n hnd z => by
  obtain ⟨t, ht, _, hz⟩ := ticks_tell h1 h2 hk1 hk2 hnd z
  exact hno t ((hS t).mpr ht) hz
/-- small wheels are told apart up to 130 -/
theorem due_130 {b1 l1 b2 l2 e : Nat} (h1 : 2 ≤ b1) (h1' : b1 ≤ 5) (h2 : 2 ≤ b2) (h2' : b2 ≤ 5) (k1 : l1 ≤ 4) (k2 : l2 ≤ 4) (h : DueF b1 l1 b2 l2 e) : e ≤ 130 := by
  have pw : ∀ {b l : Nat}, 2 ≤ b → b ≤ 5 → l ≤ 4 → b ^ (l - 1) ≤ 125 := fun {b l} hb hb5 hl =>
    Nat.le_trans (Nat.pow_le_pow_right (by omega) (show l - 1 ≤ 3 by omega)) (Nat.le_trans (Nat.pow_le_pow_left hb5 3) (by decide))
  rcases h with z | z | ⟨i1, i2, a, c, hne, hp, hz⟩
  · have := pw h1 h1' k1; omega
  · have := pw h2 h2' k2; omega
  · have key : ∀ x1 : Fin 6, ∀ x2 : Fin 6, ∀ y1 : Fin 4, ∀ y2 : Fin 4, 2 ≤ x1.val → 2 ≤ x2.val → x1.val ≠ x2.val → x1.val ^ y1.val = x2.val ^ y2.val → (min x1.val x2.val + 1) * x1.val ^ y1.val ≤ 130 := by decide +kernel
    exact Nat.le_trans hz (key ⟨b1, by omega⟩ ⟨b2, by omega⟩ ⟨i1, by omega⟩ ⟨i2, by omega⟩ h1 h2 hne hp)
/-- what the search of the dues up to 130 finds -/
theorem told_130 {b1 b2 : Nat} {w1 w2 : List Bool} {L : List Nat} (h1 : 2 ≤ b1) (h1' : b1 ≤ 5) (h2 : 2 ≤ b2) (h2' : b2 ≤ 5) (k1 : w1.length ≤ 4) (k2 : w2.length ≤ 4) (T : Tells b1 w1 b2 w2 L) (h : ∀ d, d ≤ 130 → ∀ n, n < d → ¬ Dif b1 w1 b2 w2 n d) : ToldP b1 w1 b2 w2 none := fun n d hnd z => by
  obtain ⟨e, _, _, hf, n', hn', hz⟩ := T.tell n d hnd z
  exact h e (due_130 h1 h1' h2 h2' k1 k2 hf) n' hn' hz
/-! ### two wheels told apart: the answer from the lists (k29) -/
theorem told_same {b j : Nat} {w1 w2 : List Bool} (hb : 2 ≤ b) (h : wordAt w1 j ≠ wordAt w2 j) (hlow : ∀ i, i < j → wordAt w1 i = wordAt w2 i) : ToldP b w1 b w2 (some (b ^ j, 0)) := by
  refine ⟨pow_pos' hb j, dif_pow hb h, fun n d hnd z => ?_⟩
  obtain ⟨k, hk, hw⟩ := tell_same hb hnd z
  have hjk : j ≤ k := by
    rcases Nat.lt_or_ge k j with l | l
    · exact absurd (hlow k l) hw
    · exact l
  have := Nat.pow_le_pow_right (show 0 < b by omega) hjk
  omega
theorem told_alike {b : Nat} {w1 w2 : List Bool} (hb : 2 ≤ b) (h : ∀ j, wordAt w1 j = wordAt w2 j) : ToldP b w1 b w2 none := fun n d hnd z => by
  obtain ⟨k, _, hw⟩ := tell_same hb hnd z
  exact hw (h k)
theorem word_min {w : List Bool} {j n : Nat} (hl : w.length ≤ n) : wordAt w (min j (n - 1)) = wordAt w j := by
  unfold wordAt
  rw [show min (min j (n - 1)) (w.length - 1) = min j (w.length - 1) by omega]
theorem told_alike_of {b : Nat} {w1 w2 : List Bool} (hb : 2 ≤ b) (hp : 0 < max w1.length w2.length) (h : ∀ j, j < max w1.length w2.length → wordAt w1 j = wordAt w2 j) : ToldP b w1 b w2 none := by
  refine told_alike hb fun j => ?_
  have e := h (min j (max w1.length w2.length - 1)) (by omega)
  rw [word_min (by omega), word_min (by omega)] at e
  exact e
theorem told_queues {b1 b2 : Nat} {w1 w2 : List Bool} (h1 : 2 ≤ b1) (h2 : 2 ≤ b2) (l1 : LowO w1 none) (l2 : LowO w2 none) : ToldP b1 w1 b2 w2 none := fun _ _ hnd h => absurd ((fr_noStack h1 hnd l1).trans (fr_noStack h2 hnd l2).symm) h
theorem told_less {b1 b2 i : Nat} {w1 w2 : List Bool} {o : Option Nat} (h1 : 2 ≤ b1) (h2 : 2 ≤ b2) (l1 : LowS w1 i) (l2 : LowO w2 o) (hlt : ∀ j, o = some j → b1 ^ i < b2 ^ j) : ToldP b1 w1 b2 w2 (some (b1 ^ i, 0)) := by
  have p := pow_pos' h1 i
  refine ⟨p, ?_, fun n d hnd h => ?_⟩
  · have f2 : frB w2 b2 0 (b1 ^ i) = false := by
      match o, l2, hlt with
      | none, l2, _ => exact fr_noStack h2 p l2
      | some j, l2, hlt => exact fr_queues h2 p (hlt j rfl) l2.2.2
    unfold Dif
    have e1 := fr_one (ws := w1) (i := i) h1 (show 0 < 1 by omega) (by omega)
    rw [Nat.one_mul, l1.1] at e1
    rw [e1, f2]
    decide
  · have a := (tell_size h1 h2 l1 l2 hlt hnd h).1
    omega
/-- both have the same size, the less base has a queue above its first stack -/
theorem told_over {b1 b2 i1 i2 : Nat} {w1 w2 : List Bool} (h1 : 2 ≤ b1) (h2 : 2 ≤ b2) (l1 : LowS w1 i1) (l2 : LowS w2 i2) (e : b1 ^ i1 = b2 ^ i2) (hlt : b1 < b2) (hq : wordAt w1 (i1 + 1) = false) : ToldP b1 w1 b2 w2 (some (b1 * b1 ^ i1, 0)) := by
  refine ⟨Nat.mul_pos (by omega) (pow_pos' h1 i1), ?_, fun n d hnd h => ?_⟩
  · unfold Dif
    have e1 := fr_one (ws := w1) (i := i1 + 1) h1 (show 0 < 1 by omega) (by omega)
    rw [Nat.one_mul, Nat.pow_succ, Nat.mul_comm, hq] at e1
    have e2 := fr_one (ws := w2) (i := i2) h2 (show 0 < b1 by omega) hlt
    rw [← e, l2.1] at e2
    rw [e1, e2]
    decide
  · have a := (tell_less h1 h2 l1 l2 e hlt hnd h).1
    omega
theorem above_eq {b n d k i : Nat} (h : k + 1 ≤ i) (e : n / b ^ (k + 1) = d / b ^ (k + 1)) : n / b ^ i = d / b ^ i := by
  rw [show i = (k + 1) + (i - (k + 1)) by omega, Nat.pow_add, ← Nat.div_div_eq_div_mul, ← Nat.div_div_eq_div_mul, e]
/-- two stacks, one above the other: the first wheel puts what comes early behind -/
theorem fr_two {b i n : Nat} {w : List Bool} (hb : 2 ≤ b) (l : LowS w i) (hs : wordAt w (i + 1) = true) (hn : n < b * b ^ i) : frB w b n ((b + 1) * b ^ i) = false := by
  have p1 := pow_pos' hb i
  have hnd : n < (b + 1) * b ^ i := Nat.lt_of_lt_of_le hn (Nat.mul_le_mul_right _ (by omega))
  obtain ⟨k, hk⟩ := lev_any (n := n) (d := (b + 1) * b ^ i) hb hnd
  have eb : b ^ (i + 1) = b * b ^ i := by rw [Nat.pow_succ, Nat.mul_comm]
  have hki : k ≤ i + 1 := by
    rcases Nat.lt_or_ge (i + 1) k with l | l
    · have a := hk.size hb hnd
      have c := Nat.pow_le_pow_right (show 0 < b by omega) (show i + 2 ≤ k from l)
      have f : (b + 1) * b ^ i < b ^ (i + 2) := by
        rw [Nat.pow_succ, Nat.pow_succ, Nat.mul_assoc, Nat.mul_comm (b ^ i)]
        refine Nat.mul_lt_mul_of_pos_right ?_ p1
        have z : 2 * b ≤ b * b := Nat.mul_le_mul_right b hb
        omega
      omega
    · exact l
  have hik : i + 1 ≤ k := by
    rcases Nat.lt_or_ge k (i + 1) with l | l
    · exfalso
      have h3 := hk.1
      have z : n / b ^ (i + 1) = (b + 1) * b ^ i / b ^ (i + 1) := by
        rw [show i + 1 = (k + 1) + (i - k) by omega, Nat.pow_add, ← Nat.div_div_eq_div_mul, ← Nat.div_div_eq_div_mul, h3]
      have z1 : n / b ^ (i + 1) = 0 := Nat.div_eq_of_lt (by rw [eb]; exact hn)
      have z2 : 0 < (b + 1) * b ^ i / b ^ (i + 1) := Nat.div_pos (by rw [eb]; exact Nat.mul_le_mul_right _ (by omega)) (pow_pos' hb _)
      omega
    · exact l
  have ek : k = i + 1 := by omega
  subst ek
  have q1 : (b + 1) * b ^ i / b ^ i % b = 1 := by
    rw [Nat.mul_div_cancel _ p1, Nat.add_mod_left, Nat.mod_eq_of_lt (by omega)]
  have q2 : (b + 1) * b ^ i / b ^ (i + 1) % b = 1 := by
    rw [Nat.pow_succ, ← Nat.div_div_eq_div_mul, Nat.mul_div_cancel _ p1]
    have : (b + 1) / b = 1 := by
      rw [Nat.add_comm, Nat.add_div_right _ (by omega), Nat.div_eq_of_lt (by omega)]
    rw [this, Nat.mod_eq_of_lt (by omega)]
  rw [fr_at hk hnd]
  unfold cntW
  rw [cntW_first l.2 l.1, if_pos (by rw [q1]; decide), if_pos ⟨by rw [q2]; decide, hs⟩]
  rfl
/-- a power of the base by itself, set at any tick ahead of it -/
theorem fr_pow {b i n : Nat} {w : List Bool} (hb : 2 ≤ b) (hn : n < b ^ i) : frB w b n (b ^ i) = wordAt w i := by
  obtain ⟨k, hk⟩ := lev_any (n := n) (d := b ^ i) hb hn
  have hik : i ≤ k := by
    rcases Nat.lt_or_ge k i with l | l
    · exfalso
      have h3 := hk.1
      have z : n / b ^ i = b ^ i / b ^ i := above_eq (k := k) (by omega) h3
      rw [Nat.div_eq_of_lt hn, Nat.div_self (pow_pos' hb i)] at z
      omega
    · exact l
  have hki : k ≤ i := by
    have a := hk.size hb hn
    rcases Nat.lt_or_ge i k with l | l
    · have c := Nat.pow_lt_pow_right (show 1 < b by omega) l
      omega
    · exact l
  have ek : k = i := by omega
  subst ek
  rw [fr_at hk hn]
  unfold cntW
  have d0 : ∀ j, j < k → b ^ k / b ^ j % b = 0 := fun j hj => by
    have z := dig_pow_low (b := b) (i := k) (j := j) hb 1 hj
    rw [Nat.one_mul] at z
    exact z
  have d1 : b ^ k / b ^ k % b = 1 := by rw [Nat.div_self (pow_pos' hb k), Nat.mod_eq_of_lt (by omega)]
  rw [cntW_zero k fun j hj => .inr (d0 j hj), d1, Nat.zero_add]
  cases wordAt w k with
  | true => rw [if_pos ⟨by omega, rfl⟩]; rfl
  | false => rw [if_neg fun z => absurd z.2 (by decide)]; rfl
/-- both have the same size, the less base has a stack above its first one -/
theorem told_two {b1 b2 i1 i2 : Nat} {w1 w2 : List Bool} (h1 : 2 ≤ b1) (h2 : 2 ≤ b2) (l1 : LowS w1 i1) (l2 : LowS w2 i2) (e : b1 ^ i1 = b2 ^ i2) (hlt : b1 < b2) (hs : wordAt w1 (i1 + 1) = true) (hn : ¬ (b2 = b1 + 1 ∧ wordAt w2 (i2 + 1) = false)) :
    ToldP b1 w1 b2 w2 (some ((b1 + 1) * b1 ^ i1, 0)) := by
  have p1 := pow_pos' h1 i1
  refine ⟨Nat.mul_pos (by omega) p1, ?_, fun n d hnd h => ?_⟩
  · have f1 := fr_two (n := 0) h1 l1 hs (Nat.mul_pos (by omega) p1)
    have f2 : frB w2 b2 0 ((b1 + 1) * b1 ^ i1) = true := by
      rcases Nat.lt_or_ge (b1 + 1) b2 with l | l
      · have f2 := fr_one (ws := w2) (i := i2) h2 (show 0 < b1 + 1 by omega) l
        rw [← e, l2.1] at f2
        exact f2
      · have eb : b2 = b1 + 1 := by omega
        have en : (b1 + 1) * b1 ^ i1 = 1 * b2 ^ (i2 + 1) := by rw [e, ← eb, Nat.one_mul, Nat.pow_succ, Nat.mul_comm]
        have f2 := fr_one (ws := w2) (i := i2 + 1) h2 (show 0 < 1 by omega) (by omega)
        rw [← en] at f2
        rw [f2]
        cases hw : wordAt w2 (i2 + 1) with
        | true => rfl
        | false => exact absurd ⟨eb, hw⟩ hn
    unfold Dif
    rw [f1, f2]
    decide
  · have a := ((tell_less h1 h2 l1 l2 e hlt hnd h).2.2 hs).1
    omega
/-- neighbours, and a queue above the first stack of the more: the tick is one block on -/
theorem told_next {b1 b2 i1 i2 : Nat} {w1 w2 : List Bool} (h1 : 2 ≤ b1) (h2 : 2 ≤ b2) (l1 : LowS w1 i1) (l2 : LowS w2 i2) (e : b1 ^ i1 = b2 ^ i2) (eb : b2 = b1 + 1) (hs : wordAt w1 (i1 + 1) = true) (hw : wordAt w2 (i2 + 1) = false) :
    ToldP b1 w1 b2 w2 (some (b2 * b1 ^ i1, b1 * b1 ^ i1)) := by
  have p1 := pow_pos' h1 i1
  have hlt : b1 < b2 := by omega
  have en : b2 * b1 ^ i1 = b2 ^ (i2 + 1) := by rw [e, Nat.pow_succ, Nat.mul_comm]
  have hnd : b1 * b1 ^ i1 < b2 * b1 ^ i1 := Nat.mul_lt_mul_of_pos_right hlt p1
  have f2 : ∀ n, n < b2 * b1 ^ i1 → frB w2 b2 n (b2 * b1 ^ i1) = false := fun n hn => by
    rw [en] at hn ⊢
    rw [fr_pow h2 hn, hw]
  have f1 : ∀ n, n < b1 * b1 ^ i1 → frB w1 b1 n (b2 * b1 ^ i1) = false := fun n hn => by
    rw [eb]
    exact fr_two h1 l1 hs hn
  have lv : IsLev b1 (b1 * b1 ^ i1) (b2 * b1 ^ i1) i1 := by
    rw [eb]
    constructor
    · rw [Nat.pow_succ, ← Nat.div_div_eq_div_mul, ← Nat.div_div_eq_div_mul, Nat.mul_div_cancel _ p1, Nat.mul_div_cancel _ p1, Nat.div_self (by omega), Nat.add_comm, Nat.add_div_right _ (by omega), Nat.div_eq_of_lt (by omega)]
    · intro j hj
      rw [show i1 = (i1 - (j + 1)) + (j + 1) by omega, Nat.pow_add, ← Nat.mul_assoc, ← Nat.mul_assoc, Nat.mul_div_cancel _ (pow_pos' h1 _), Nat.mul_div_cancel _ (pow_pos' h1 _)]
      have := Nat.mul_lt_mul_of_pos_right (show b1 < b1 + 1 by omega) (pow_pos' h1 (i1 - (j + 1)))
      omega
  have q1 : b2 * b1 ^ i1 / b1 ^ i1 % b1 = 1 := by
    rw [eb, Nat.mul_div_cancel _ p1, Nat.add_mod_left, Nat.mod_eq_of_lt (by omega)]
  refine ⟨hnd, ?_, fun n d hnd h => ?_⟩
  · unfold Dif
    rw [f2 _ hnd, fr_at lv hnd, cntW_first l1.2 l1.1, if_pos (by rw [q1]; decide)]
    decide
  · have a := ((tell_less h1 h2 l1 l2 e hlt hnd h).2.2 hs).1
    rw [← eb] at a
    rcases Nat.lt_or_ge (b2 * b1 ^ i1) d with l | l
    · exact .inl l
    · have ed : b2 * b1 ^ i1 = d := by omega
      refine .inr ⟨ed, ?_⟩
      rcases Nat.lt_or_ge n (b1 * b1 ^ i1) with z | z
      · exfalso
        apply h
        rw [← ed] at hnd ⊢
        rw [f1 n z, f2 n hnd]
      · exact z
def topS (i : Nat) : Stmt := PySem.Challenge.pw_timerdeque_k29_whole_wheels_shown_apart.main.body.getD i (.Pass ⟨0, 0, 0, 0⟩)
abbrev s__wall : Stmt := topS 0
abbrev N__wall : List Str := ["k"]
theorem sc__wall : FnScope N__wall ["k"] (defScope s__wall) := by
  refine ⟨rfl, rfl, rfl, ?_, rfl, ?_, ?_⟩ <;> decide +kernel
abbrev s_is_integer : Stmt := topS 12
abbrev N_is_integer : List Str := ["given"]
theorem sc_is_integer : FnScope N_is_integer ["given"] (defScope s_is_integer) := by
  refine ⟨rfl, rfl, rfl, ?_, rfl, ?_, ?_⟩ <;> decide +kernel
abbrev s_is_word : Stmt := topS 13
abbrev N_is_word : List Str := ["given"]
theorem sc_is_word : FnScope N_is_word ["given"] (defScope s_is_word) := by
  refine ⟨rfl, rfl, rfl, ?_, rfl, ?_, ?_⟩ <;> decide +kernel
abbrev s_is_base : Stmt := topS 14
abbrev N_is_base : List Str := ["given"]
theorem sc_is_base : FnScope N_is_base ["given"] (defScope s_is_base) := by
  refine ⟨rfl, rfl, rfl, ?_, rfl, ?_, ?_⟩ <;> decide +kernel
abbrev s_is_length : Stmt := topS 15
abbrev N_is_length : List Str := ["given"]
theorem sc_is_length : FnScope N_is_length ["given"] (defScope s_is_length) := by
  refine ⟨rfl, rfl, rfl, ?_, rfl, ?_, ?_⟩ <;> decide +kernel
abbrev s_are_levels : Stmt := topS 16
abbrev N_are_levels : List Str := ["given", "word"]
theorem sc_are_levels : FnScope N_are_levels ["given"] (defScope s_are_levels) := by
  refine ⟨rfl, rfl, rfl, ?_, rfl, ?_, ?_⟩ <;> decide +kernel
abbrev s_is_tick : Stmt := topS 17
abbrev N_is_tick : List Str := ["given", "least"]
theorem sc_is_tick : FnScope N_is_tick ["given", "least"] (defScope s_is_tick) := by
  refine ⟨rfl, rfl, rfl, ?_, rfl, ?_, ?_⟩ <;> decide +kernel
abbrev s_is_period : Stmt := topS 18
abbrev N_is_period : List Str := ["given"]
theorem sc_is_period : FnScope N_is_period ["given"] (defScope s_is_period) := by
  refine ⟨rfl, rfl, rfl, ?_, rfl, ?_, ?_⟩ <;> decide +kernel
abbrev s_check_base : Stmt := topS 19
abbrev N_check_base : List Str := ["base"]
theorem sc_check_base : FnScope N_check_base ["base"] (defScope s_check_base) := by
  refine ⟨rfl, rfl, rfl, ?_, rfl, ?_, ?_⟩ <;> decide +kernel
abbrev s_check_levels : Stmt := topS 20
abbrev N_check_levels : List Str := ["levels"]
theorem sc_check_levels : FnScope N_check_levels ["levels"] (defScope s_check_levels) := by
  refine ⟨rfl, rfl, rfl, ?_, rfl, ?_, ?_⟩ <;> decide +kernel
abbrev s_check_tick : Stmt := topS 21
abbrev N_check_tick : List Str := ["tick", "least"]
theorem sc_check_tick : FnScope N_check_tick ["tick", "least"] (defScope s_check_tick) := by
  refine ⟨rfl, rfl, rfl, ?_, rfl, ?_, ?_⟩ <;> decide +kernel
abbrev s_word_at : Stmt := topS 23
abbrev N_word_at : List Str := ["levels", "level"]
theorem sc_word_at : FnScope N_word_at ["levels", "level"] (defScope s_word_at) := by
  refine ⟨rfl, rfl, rfl, ?_, rfl, ?_, ?_⟩ <;> decide +kernel
abbrev s_level_and_size : Stmt := topS 24
abbrev N_level_and_size : List Str := ["base", "now", "due", "level", "size", "above_now", "above_due"]
theorem sc_level_and_size : FnScope N_level_and_size ["base", "now", "due"] (defScope s_level_and_size) := by
  refine ⟨rfl, rfl, rfl, ?_, rfl, ?_, ?_⟩ <;> decide +kernel
abbrev s_path : Stmt := topS 25
abbrev N_path : List Str := ["base", "now", "due", "level", "size", "rows", "tick", "digit"]
theorem sc_path : FnScope N_path ["base", "now", "due"] (defScope s_path) := by
  refine ⟨rfl, rfl, rfl, ?_, rfl, ?_, ?_⟩ <;> decide +kernel
abbrev s_goes_in_front : Stmt := topS 26
abbrev N_goes_in_front : List Str := ["base", "levels", "now", "due", "lowest", "front", "level", "digit", "tick"]
theorem sc_goes_in_front : FnScope N_goes_in_front ["base", "levels", "now", "due", "lowest"] (defScope s_goes_in_front) := by
  refine ⟨rfl, rfl, rfl, ?_, rfl, ?_, ?_⟩ <;> decide +kernel
abbrev s_with_timer : Stmt := topS 27
abbrev N_with_timer : List Str := ["numbers", "number", "front"]
theorem sc_with_timer : FnScope N_with_timer ["numbers", "number", "front"] (defScope s_with_timer) := by
  refine ⟨rfl, rfl, rfl, ?_, rfl, ?_, ?_⟩ <;> decide +kernel
abbrev s_firing_order : Stmt := topS 28
abbrev N_firing_order : List Str := ["base", "levels", "due", "settings", "numbers", "number", "now"]
theorem sc_firing_order : FnScope N_firing_order ["base", "levels", "due", "settings"] (defScope s_firing_order) := by
  refine ⟨rfl, rfl, rfl, ?_, rfl, ?_, ?_⟩ <;> decide +kernel
abbrev s_size_of_lowest_stack : Stmt := topS 30
abbrev N_size_of_lowest_stack : List Str := ["base", "levels", "size", "word"]
theorem sc_size_of_lowest_stack : FnScope N_size_of_lowest_stack ["base", "levels"] (defScope s_size_of_lowest_stack) := by
  refine ⟨rfl, rfl, rfl, ?_, rfl, ?_, ?_⟩ <;> decide +kernel
abbrev s_powers : Stmt := topS 31
abbrev N_powers : List Str := ["base", "many", "sizes"]
theorem sc_powers : FnScope N_powers ["base", "many"] (defScope s_powers) := by
  refine ⟨rfl, rfl, rfl, ?_, rfl, ?_, ?_⟩ <;> decide +kernel
abbrev s_telling_dues : Stmt := topS 32
abbrev N_telling_dues : List Str := ["base", "levels", "other_base", "other_levels", "found", "size", "sizes", "least"]
theorem sc_telling_dues : FnScope N_telling_dues ["base", "levels", "other_base", "other_levels"] (defScope s_telling_dues) := by
  refine ⟨rfl, rfl, rfl, ?_, rfl, ?_, ?_⟩ <;> decide +kernel
abbrev s_first_difference : Stmt := topS 33
abbrev N_first_difference : List Str := ["base", "levels", "other_base", "other_levels", "due", "ticks", "now", "front", "level", "digit", "tick"]
theorem sc_first_difference : FnScope N_first_difference ["base", "levels", "other_base", "other_levels", "due"] (defScope s_first_difference) := by
  refine ⟨rfl, rfl, rfl, ?_, rfl, ?_, ?_⟩ <;> decide +kernel
abbrev s_told_apart : Stmt := topS 34
abbrev N_told_apart : List Str := ["base", "levels", "other_base", "other_levels", "due", "now"]
theorem sc_told_apart : FnScope N_told_apart ["base", "levels", "other_base", "other_levels"] (defScope s_told_apart) := by
  refine ⟨rfl, rfl, rfl, ?_, rfl, ?_, ?_⟩ <;> decide +kernel
abbrev s_without_repeats : Stmt := topS 37
abbrev N_without_repeats : List Str := ["levels", "many"]
theorem sc_without_repeats : FnScope N_without_repeats ["levels"] (defScope s_without_repeats) := by
  refine ⟨rfl, rfl, rfl, ?_, rfl, ?_, ?_⟩ <;> decide +kernel
abbrev s_check_period : Stmt := topS 38
abbrev N_check_period : List Str := ["period"]
theorem sc_check_period : FnScope N_check_period ["period"] (defScope s_check_period) := by
  refine ⟨rfl, rfl, rfl, ?_, rfl, ?_, ?_⟩ <;> decide +kernel
abbrev s_order_of_firing : Stmt := topS 39
abbrev N_order_of_firing : List Str := ["base", "levels", "live", "tick", "settings", "number", "due", "period", "since"]
theorem sc_order_of_firing : FnScope N_order_of_firing ["base", "levels", "live", "tick"] (defScope s_order_of_firing) := by
  refine ⟨rfl, rfl, rfl, ?_, rfl, ?_, ?_⟩ <;> decide +kernel
abbrev s_standing : Stmt := topS 40
abbrev N_standing : List Str := ["base", "levels", "live", "tick", "rows", "number", "due", "period", "since", "level", "size", "place", "front", "digit"]
theorem sc_standing : FnScope N_standing ["base", "levels", "live", "tick"] (defScope s_standing) := by
  refine ⟨rfl, rfl, rfl, ?_, rfl, ?_, ?_⟩ <;> decide +kernel
abbrev s_least_due : Stmt := topS 41
abbrev N_least_due : List Str := ["live", "due", "period", "since"]
theorem sc_least_due : FnScope N_least_due ["live"] (defScope s_least_due) := by
  refine ⟨rfl, rfl, rfl, ?_, rfl, ?_, ?_⟩ <;> decide +kernel
abbrev s_after_firing : Stmt := topS 42
abbrev N_after_firing : List Str := ["live", "numbers", "tick", "left", "number", "due", "period", "since"]
theorem sc_after_firing : FnScope N_after_firing ["live", "numbers", "tick"] (defScope s_after_firing) := by
  refine ⟨rfl, rfl, rfl, ?_, rfl, ?_, ?_⟩ <;> decide +kernel
abbrev s__law_cell_at : Stmt := topS 45
abbrev N__law_cell_at : List Str := ["_law_script", "_law_k"]
theorem sc__law_cell_at : FnScope N__law_cell_at ["_law_script", "_law_k"] (defScope s__law_cell_at) := by
  refine ⟨rfl, rfl, rfl, ?_, rfl, ?_, ?_⟩ <;> decide +kernel
abbrev s__law_mixed : Stmt := topS 46
abbrev N__law_mixed : List Str := ["_law_cell", "_law_k", "_law_low"]
theorem sc__law_mixed : FnScope N__law_mixed ["_law_cell", "_law_k"] (defScope s__law_mixed) := by
  refine ⟨rfl, rfl, rfl, ?_, rfl, ?_, ?_⟩ <;> decide +kernel
abbrev s__law_source : Stmt := topS 47
abbrev N__law_source : List Str := ["_law_script", "_law_k", "_law_cell"]
theorem sc__law_source : FnScope N__law_source ["_law_script", "_law_k"] (defScope s__law_source) := by
  refine ⟨rfl, rfl, rfl, ?_, rfl, ?_, ?_⟩ <;> decide +kernel
abbrev s__law_next : Stmt := topS 48
abbrev N__law_next : List Str := ["_law_source_here", "_law_many", "_law_found"]
theorem sc__law_next : FnScope N__law_next ["_law_source_here", "_law_many"] (defScope s__law_next) := by
  refine ⟨rfl, rfl, rfl, ?_, rfl, ?_, ?_⟩ <;> decide +kernel
abbrev s__law_word_at : Stmt := topS 49
abbrev N__law_word_at : List Str := ["_law_levels", "_law_level"]
theorem sc__law_word_at : FnScope N__law_word_at ["_law_levels", "_law_level"] (defScope s__law_word_at) := by
  refine ⟨rfl, rfl, rfl, ?_, rfl, ?_, ?_⟩ <;> decide +kernel
abbrev s__law_first : Stmt := topS 50
abbrev N__law_first : List Str := ["_law_base", "_law_levels", "_law_size", "_law_at", "_law_word"]
theorem sc__law_first : FnScope N__law_first ["_law_base", "_law_levels"] (defScope s__law_first) := by
  refine ⟨rfl, rfl, rfl, ?_, rfl, ?_, ?_⟩ <;> decide +kernel
abbrev s__law_of_one_base : Stmt := topS 51
abbrev N__law_of_one_base : List Str := ["_law_base", "_law_one", "_law_two", "_law_size", "_law_at"]
theorem sc__law_of_one_base : FnScope N__law_of_one_base ["_law_base", "_law_one", "_law_two"] (defScope s__law_of_one_base) := by
  refine ⟨rfl, rfl, rfl, ?_, rfl, ?_, ?_⟩ <;> decide +kernel
abbrev s__law_due : Stmt := topS 52
abbrev N__law_due : List Str := ["_law_one", "_law_two", "_law_less", "_law_more", "_law_at", "_law_size", "_law_place", "_law_other", "_law_tick"]
theorem sc__law_due : FnScope N__law_due ["_law_one", "_law_two"] (defScope s__law_due) := by
  refine ⟨rfl, rfl, rfl, ?_, rfl, ?_, ?_⟩ <;> decide +kernel
abbrev s__law_levels_of : Stmt := topS 53
abbrev N__law_levels_of : List Str := ["_law_source_here", "_law_wait", "_law_found", "_law_at"]
theorem sc__law_levels_of : FnScope N__law_levels_of ["_law_source_here", "_law_wait"] (defScope s__law_levels_of) := by
  refine ⟨rfl, rfl, rfl, ?_, rfl, ?_, ?_⟩ <;> decide +kernel
abbrev s__law_wheels : Stmt := topS 54
abbrev N__law_wheels : List Str := ["_law_source_here", "_law_base", "_law_wait", "_law_sort", "_law_one", "_law_two", "_law_at", "_law_some", "_law_low", "_law_times", "_law_high"]
theorem sc__law_wheels : FnScope N__law_wheels ["_law_source_here"] (defScope s__law_wheels) := by
  refine ⟨rfl, rfl, rfl, ?_, rfl, ?_, ?_⟩ <;> decide +kernel
abbrev s__law_shown : Stmt := topS 55
abbrev N__law_shown : List Str := ["_law_wheels_here", "_law_due_here", "_law_now", "_law_found", "_law_base", "_law_levels", "_law_wheel"]
theorem sc__law_shown : FnScope N__law_shown ["_law_wheels_here", "_law_due_here", "_law_now"] (defScope s__law_shown) := by
  refine ⟨rfl, rfl, rfl, ?_, rfl, ?_, ?_⟩ <;> decide +kernel
abbrev s_law : Stmt := topS 56
abbrev N_law : List Str := ["_law_script", "_law_k", "_law_wheels_here", "_law_one", "_law_two", "_law_told", "_law_rows"]
theorem sc_law : FnScope N_law ["_law_script"] (defScope s_law) := by
  refine ⟨rfl, rfl, rfl, ?_, rfl, ?_, ?_⟩ <;> decide +kernel
abbrev s_Wheel___init__ : Stmt := inClass (topS 43) 0
abbrev N_Wheel___init__ : List Str := ["self", "base", "levels", "start"]
theorem sc_Wheel___init__ : FnScope N_Wheel___init__ ["self", "base", "levels", "start"] (defScope s_Wheel___init__) := by
  refine ⟨rfl, rfl, rfl, ?_, rfl, ?_, ?_⟩ <;> decide +kernel
abbrev s_Wheel___len__ : Stmt := inClass (topS 43) 1
abbrev N_Wheel___len__ : List Str := ["self"]
theorem sc_Wheel___len__ : FnScope N_Wheel___len__ ["self"] (defScope s_Wheel___len__) := by
  refine ⟨rfl, rfl, rfl, ?_, rfl, ?_, ?_⟩ <;> decide +kernel
abbrev s_Wheel___eq__ : Stmt := inClass (topS 43) 2
abbrev N_Wheel___eq__ : List Str := ["self", "other"]
theorem sc_Wheel___eq__ : FnScope N_Wheel___eq__ ["self", "other"] (defScope s_Wheel___eq__) := by
  refine ⟨rfl, rfl, rfl, ?_, rfl, ?_, ?_⟩ <;> decide +kernel
abbrev s_Wheel_check_timer : Stmt := inClass (topS 43) 3
abbrev N_Wheel_check_timer : List Str := ["self", "timer"]
theorem sc_Wheel_check_timer : FnScope N_Wheel_check_timer ["self", "timer"] (defScope s_Wheel_check_timer) := by
  refine ⟨rfl, rfl, rfl, ?_, rfl, ?_, ?_⟩ <;> decide +kernel
abbrev s_Wheel_now : Stmt := inClass (topS 43) 4
abbrev N_Wheel_now : List Str := ["self"]
theorem sc_Wheel_now : FnScope N_Wheel_now ["self"] (defScope s_Wheel_now) := by
  refine ⟨rfl, rfl, rfl, ?_, rfl, ?_, ?_⟩ <;> decide +kernel
abbrev s_Wheel_put : Stmt := inClass (topS 43) 5
abbrev N_Wheel_put : List Str := ["self", "due", "period", "number"]
theorem sc_Wheel_put : FnScope N_Wheel_put ["self", "due", "period"] (defScope s_Wheel_put) := by
  refine ⟨rfl, rfl, rfl, ?_, rfl, ?_, ?_⟩ <;> decide +kernel
abbrev s_Wheel_cancel : Stmt := inClass (topS 43) 6
abbrev N_Wheel_cancel : List Str := ["self", "timer"]
theorem sc_Wheel_cancel : FnScope N_Wheel_cancel ["self", "timer"] (defScope s_Wheel_cancel) := by
  refine ⟨rfl, rfl, rfl, ?_, rfl, ?_, ?_⟩ <;> decide +kernel
abbrev s_Wheel_reset : Stmt := inClass (topS 43) 7
abbrev N_Wheel_reset : List Str := ["self", "timer", "due"]
theorem sc_Wheel_reset : FnScope N_Wheel_reset ["self", "timer", "due"] (defScope s_Wheel_reset) := by
  refine ⟨rfl, rfl, rfl, ?_, rfl, ?_, ?_⟩ <;> decide +kernel
abbrev s_Wheel_due : Stmt := inClass (topS 43) 8
abbrev N_Wheel_due : List Str := ["self", "timer"]
theorem sc_Wheel_due : FnScope N_Wheel_due ["self", "timer"] (defScope s_Wheel_due) := by
  refine ⟨rfl, rfl, rfl, ?_, rfl, ?_, ?_⟩ <;> decide +kernel
abbrev s_Wheel_timers : Stmt := inClass (topS 43) 9
abbrev N_Wheel_timers : List Str := ["self"]
theorem sc_Wheel_timers : FnScope N_Wheel_timers ["self"] (defScope s_Wheel_timers) := by
  refine ⟨rfl, rfl, rfl, ?_, rfl, ?_, ?_⟩ <;> decide +kernel
abbrev s_Wheel_advance : Stmt := inClass (topS 43) 10
abbrev N_Wheel_advance : List Str := ["self", "tick", "fired", "many", "live", "at", "numbers"]
theorem sc_Wheel_advance : FnScope N_Wheel_advance ["self", "tick"] (defScope s_Wheel_advance) := by
  refine ⟨rfl, rfl, rfl, ?_, rfl, ?_, ?_⟩ <;> decide +kernel
abbrev s_Wheel_lists : Stmt := inClass (topS 43) 11
abbrev N_Wheel_lists : List Str := ["self"]
theorem sc_Wheel_lists : FnScope N_Wheel_lists ["self"] (defScope s_Wheel_lists) := by
  refine ⟨rfl, rfl, rfl, ?_, rfl, ?_, ?_⟩ <;> decide +kernel
abbrev s_Wheel_firing : Stmt := inClass (topS 43) 12
abbrev N_Wheel_firing : List Str := ["self", "tick"]
theorem sc_Wheel_firing : FnScope N_Wheel_firing ["self", "tick"] (defScope s_Wheel_firing) := by
  refine ⟨rfl, rfl, rfl, ?_, rfl, ?_, ?_⟩ <;> decide +kernel
abbrev s_Wheel_lists_at : Stmt := inClass (topS 43) 13
abbrev N_Wheel_lists_at : List Str := ["self", "tick"]
theorem sc_Wheel_lists_at : FnScope N_Wheel_lists_at ["self", "tick"] (defScope s_Wheel_lists_at) := by
  refine ⟨rfl, rfl, rfl, ?_, rfl, ?_, ?_⟩ <;> decide +kernel
abbrev s_Wheel_restoring : Stmt := inClass (topS 43) 14
abbrev N_Wheel_restoring : List Str := ["self", "rows", "level", "digit", "numbers", "number"]
theorem sc_Wheel_restoring : FnScope N_Wheel_restoring ["self"] (defScope s_Wheel_restoring) := by
  refine ⟨rfl, rfl, rfl, ?_, rfl, ?_, ?_⟩ <;> decide +kernel
abbrev s_Wheel_snapshot : Stmt := inClass (topS 43) 15
abbrev N_Wheel_snapshot : List Str := ["self", "rows", "number", "due"]
theorem sc_Wheel_snapshot : FnScope N_Wheel_snapshot ["self"] (defScope s_Wheel_snapshot) := by
  refine ⟨rfl, rfl, rfl, ?_, rfl, ?_, ?_⟩ <;> decide +kernel
abbrev s_Wheel_next_event : Stmt := inClass (topS 43) 16
abbrev N_Wheel_next_event : List Str := ["self"]
theorem sc_Wheel_next_event : FnScope N_Wheel_next_event ["self"] (defScope s_Wheel_next_event) := by
  refine ⟨rfl, rfl, rfl, ?_, rfl, ?_, ?_⟩ <;> decide +kernel
abbrev s_Wheel_next_firing : Stmt := inClass (topS 43) 17
abbrev N_Wheel_next_firing : List Str := ["self"]
theorem sc_Wheel_next_firing : FnScope N_Wheel_next_firing ["self"] (defScope s_Wheel_next_firing) := by
  refine ⟨rfl, rfl, rfl, ?_, rfl, ?_, ?_⟩ <;> decide +kernel
abbrev s_Wheel_moves_until : Stmt := inClass (topS 43) 18
abbrev N_Wheel_moves_until : List Str := ["self", "tick"]
theorem sc_Wheel_moves_until : FnScope N_Wheel_moves_until ["self", "tick"] (defScope s_Wheel_moves_until) := by
  refine ⟨rfl, rfl, rfl, ?_, rfl, ?_, ?_⟩ <;> decide +kernel
/-- what the top leaves of built-in names -/
structure Tx (K : PySem.W.Frag) (mg : Str → Option Value) : Prop where
  b_isinstance : mg "isinstance" = none
  b_int : mg "int" = none
  b_bool : mg "bool" = none
  b_str : mg "str" = none
  b_all : mg "all" = none
  b_list : mg "list" = none
  b_len : mg "len" = none
  b_min : mg "min" = none
  b_max : mg "max" = none
  b_sorted : mg "sorted" = none
  b_dict : mg "dict" = none
  b_enumerate : mg "enumerate" = none
  b_range : mg "range" = none
/-! ### the program: what an integer is, bases, ticks -/
def slotInt (σ : L2.St) (i : Nat) : Nat := match σ[i]? with
  | some (some (.int z)) => z.toNat
  | _ => 0
theorem cast_div (a b : Nat) : (a : Int) / (b : Int) = ((a / b : Nat) : Int) := rfl
theorem cast_mod (a b : Nat) : (a : Int) % (b : Int) = ((a % b : Nat) : Int) := rfl
theorem cast_mul (a b : Nat) : (a : Int) * (b : Int) = ((a * b : Nat) : Int) := (Int.natCast_mul a b).symm
theorem cast_add (a b : Nat) : (a : Int) + (b : Int) = ((a + b : Nat) : Int) := rfl
theorem natAbs_cast (a : Nat) : ((a : Nat) : Int).natAbs = a := rfl
theorem divp_s {i j : Int} (b : Nat) (hj : 0 < j) (hi : i.natAbs < 2 ^ b) (h : b ≤ 3000 := by decide) : CDivP i j := by
  refine divp_ok hj ?_
  have := PyProof.Rows.intBits_le hi
  omega
section
variable {P : Program} {w : World} {K : PySem.W.Frag} {mg : Str → Option Value} {base : Heap}
def spIsInt : Sp := fun vs H Q _ => ∃ n : Int, vs = [.int n] ∧ Q (.bl true) H
theorem ok_is_integer {f : Addr} {fd : FuncData} (F : Fun K "is_integer" "is_integer" s_is_integer f fd) (T : Tx K mg) : FnOk P w K mg base CX0 1 f fd ["given"] spIsInt := by
  refine F.ok sc_is_integer (fun vs H Q E h => ?_) (fun cdv A outer s H vs Q E hr h => ?_)
  · obtain ⟨n, rfl, _⟩ := h
    rfl
  · obtain ⟨n, rfl, q⟩ := h
    refine ⟨_, (pss_one (ps_ret (pe_and (pe_callB (isiK (K := K) rfl) (by rfl) T.b_isinstance (by decide +kernel) (pa_cons (pv 0) (pa_cons (pe_bltn (v := .ty "int") (u := .type "int") (by rfl) T.b_int (by decide +kernel) rfl) pa_nil))) (pe_one (pe_not (pe_callB (isiK (K := K) rfl) (by rfl) T.b_isinstance (by decide +kernel) (pa_cons (pv 0) (pa_cons (pe_bltn (v := .ty "bool") (u := .type "bool") (by rfl) T.b_bool (by decide +kernel) rfl) pa_nil)))))))), ?_⟩
    refine ⟨.int n, rfl, .int n, _, _, _, true, rfl, .ty "int", .base (.int n), kit_ty (by decide +kernel), true, rfl, iteT ?_⟩
    exact ⟨.int n, rfl, .int n, _, _, _, false, rfl, .ty "bool", .base (.int n), kit_ty (by decide +kernel), false, rfl, q⟩
end
/-! a tick, of an integer -/
section
variable {P : Program} {w : World} {K : PySem.W.Frag} {mg : Str → Option Value} {base : Heap}
def spIsTick : Sp := fun vs H Q _ => ∃ n l : Int, vs = [.int n, .int l] ∧ l ≤ n ∧ Q (.bl true) H
theorem ok_is_tick {f : Addr} {fd : FuncData} (F : FunD K "is_tick" "is_tick" (defArgs s_is_tick) (defBody s_is_tick) (defScope s_is_tick) [.int 0] [] f fd) (T : Tx K mg) (h1 : Has P w K mg base 1 "is_integer" ["given"] [] spIsInt) : FnOk P w K mg base CX0 2 f fd ["given", "least"] spIsTick := by
  obtain ⟨f_is_integer, fd_is_integer, ds_is_integer, G_is_integer, m_is_integer, k_is_integer, b_is_integer, v_is_integer⟩ := h1
  refine F.ok sc_is_tick (fun vs H Q E h => ?_) (fun cdv A outer s H vs Q E hr h => ?_)
  · obtain ⟨n, l, rfl, _⟩ := h
    rfl
  · obtain ⟨n, l, rfl, l1, q⟩ := h
    refine ⟨_, PSs.nox (pss_one (ps_ret (pe_and (pe_call G_is_integer hr (by rfl) m_is_integer k_is_integer b_is_integer v_is_integer pass0 (pa_cons (pv 0) pa_nil)) (pe_one (pe_cmpR op_ge (pv 0) (pv 1) (nomark _)))))), ?_⟩
    refine ⟨.int n, rfl, n, rfl, true, rfl, iteT ?_⟩
    refine ⟨.int n, rfl, .int l, rfl, n, l, rfl, rfl, ?_⟩
    have e : V.bl (decide (n ≥ l)) = V.bl true := dT l1
    show Q (V.bl (decide (n ≥ l))) H
    rw [e]
    exact q
end
/-! ### bases and ticks -/
section
variable {P : Program} {w : World} {K : PySem.W.Frag} {mg : Str → Option Value} {base : Heap}
def spIsBase : Sp := fun vs H Q _ => ∃ n : Int, vs = [.int n] ∧ 2 ≤ n ∧ n ≤ 64 ∧ Q (.bl true) H
theorem ok_is_base {f : Addr} {fd : FuncData} (F : Fun K "is_base" "is_base" s_is_base f fd) (h1 : Has P w K mg base 1 "is_integer" ["given"] [] spIsInt) : FnOk P w K mg base CX0 2 f fd ["given"] spIsBase := by
  obtain ⟨f_is_integer, fd_is_integer, ds_is_integer, G_is_integer, m_is_integer, k_is_integer, b_is_integer, v_is_integer⟩ := h1
  refine F.ok sc_is_base (fun vs H Q E h => ?_) (fun cdv A outer s H vs Q E hr h => ?_)
  · obtain ⟨n, rfl, _⟩ := h
    rfl
  · obtain ⟨n, rfl, l1, l2, q⟩ := h
    refine ⟨_, (pss_one (ps_ret (pe_and (pe_call G_is_integer hr (by rfl) m_is_integer k_is_integer b_is_integer v_is_integer pass0 (pa_cons (pv 0) pa_nil)) (pe_one (pe_chain op_le op_le pe_int (pv 0) pe_int))))), ?_⟩
    refine ⟨.int n, rfl, n, rfl, true, rfl, iteT ?_⟩
    refine ⟨.int n, rfl, 2, n, rfl, rfl, true, congrArg V.bl (decide_eq_true l1), iteT ?_⟩
    refine ⟨n, 64, rfl, rfl, ?_⟩
    have e : V.bl (decide (n ≤ 64)) = V.bl true := dT l2
    show Q (V.bl (decide (n ≤ 64))) H
    rw [e]
    exact q
def spCheckBase : Sp := fun vs H Q _ => ∃ n : Int, vs = [.int n] ∧ 2 ≤ n ∧ n ≤ 64 ∧ Q .non H
theorem ok_check_base {f : Addr} {fd : FuncData} (F : Fun K "check_base" "check_base" s_check_base f fd) (h1 : Has P w K mg base 2 "is_base" ["given"] [] spIsBase) : FnOk P w K mg base CX0 3 f fd ["base"] spCheckBase := by
  obtain ⟨f_is_base, fd_is_base, ds_is_base, G_is_base, m_is_base, k_is_base, b_is_base, v_is_base⟩ := h1
  refine F.ok sc_check_base (fun vs H Q E h => ?_) (fun cdv A outer s H vs Q E hr h => ?_)
  · obtain ⟨n, rfl, _⟩ := h
    rfl
  · obtain ⟨n, rfl, l1, l2, q⟩ := h
    refine ⟨_, (pss_one (ps_if (pt_not (pt_val (pe_call G_is_base hr (by rfl) m_is_base k_is_base b_is_base v_is_base pass0 (pa_cons (pv 0) pa_nil))))
        (pss_one ps_never)
        pss_nil)), ?_⟩
    exact ⟨.int n, rfl, n, rfl, l1, l2, true, rfl, iteF q⟩
def spCheckTick : Sp := fun vs H Q _ => ∃ n l : Int, vs = [.int n, .int l] ∧ l ≤ n ∧ Q .non H
theorem ok_check_tick {f : Addr} {fd : FuncData} (F : FunD K "check_tick" "check_tick" (defArgs s_check_tick) (defBody s_check_tick) (defScope s_check_tick) [.int 0] [] f fd) (h1 : Has P w K mg base 2 "is_tick" ["given", "least"] [] spIsTick) : FnOk P w K mg base CX0 3 f fd ["tick", "least"] spCheckTick := by
  obtain ⟨f_is_tick, fd_is_tick, ds_is_tick, G_is_tick, m_is_tick, k_is_tick, b_is_tick, v_is_tick⟩ := h1
  refine F.ok sc_check_tick (fun vs H Q E h => ?_) (fun cdv A outer s H vs Q E hr h => ?_)
  · obtain ⟨n, l, rfl, _⟩ := h
    rfl
  · obtain ⟨n, l, rfl, l1, q⟩ := h
    refine ⟨_, PSs.nox (pss_one (ps_if (pt_not (pt_val (pe_call G_is_tick hr (by rfl) m_is_tick k_is_tick b_is_tick v_is_tick pass0 (pa_cons (pv 0) (pa_cons (pv 1) pa_nil)))))
        (pss_one ps_never)
        pss_nil)), ?_⟩
    exact ⟨.int n, rfl, .int l, rfl, n, l, rfl, l1, true, rfl, iteF q⟩
end
/-! ### the program: level_and_size, path -/
section
variable {P : Program} {w : World} {K : PySem.W.Frag} {mg : Str → Option Value} {base : Heap}
/-! the level -/
def spLevel : Sp := fun vs H Q _ => ∃ b n d : Nat, vs = [.int b, .int n, .int d] ∧ 2 ≤ b ∧ b ≤ 64 ∧ n < d ∧ d < 2 ^ 400 ∧ ∀ k, IsLev b n d k → ∀ H' p, Same H H' → H p = none → H' p = some (.tup [.int (k : Nat), .int ((b ^ k : Nat) : Int)]) → Q (.ref p) H'
theorem ok_level_and_size {f : Addr} {fd : FuncData} (F : Fun K "level_and_size" "level_and_size" s_level_and_size f fd) : FnOk P w K mg base CX0 1 f fd ["base", "now", "due"] spLevel := by
  refine F.ok sc_level_and_size (fun vs H Q E h => ?_) (fun cdv A outer s H vs Q E hr h => ?_)
  · obtain ⟨b, n, d, rfl, _⟩ := h
    rfl
  · obtain ⟨b, n, d, rfl, hb, hb64, hnd, hd, q⟩ := h
    have cb : ∀ x : Nat, NDiv x b := fun x => ndiv 7 (by omega) (by omega)
    refine ⟨_, (pss_cons (ps_asg (pe_tup (pa_cons pe_int (pa_cons pe_int pa_nil))) (pg_tupK (K := K) (n := 2) rfl rfl (pgs_cons (pg_name (i := 3) sc_level_and_size.nd rfl (.inl rfl)) (pgs_cons (pg_name (i := 4) sc_level_and_size.nd rfl (.inl rfl)) pgs_nil))))
      (pss_cons (ps_par (i := 5) (j := 6) (by rfl) sc_level_and_size.nd rfl rfl (by decide) rfl rfl (pa_cons (pe_op op_divN (pv 1) (pv 0)) (pa_cons (pe_op op_divN (pv 2) (pv 0)) pa_nil)) (by rfl))
      (pss_cons (ps_while PassesOwn.never (pt_cmpR op_ne (pv 5) (pv 6) (nomark _))
        (pss_cons (ps_par (i := 5) (j := 6) (by rfl) sc_level_and_size.nd rfl rfl (by decide) rfl rfl (pa_cons (pe_op op_divN (pv 5) (pv 0)) (pa_cons (pe_op op_divN (pv 6) (pv 0)) pa_nil)) (by rfl))
        (pss_one (ps_par (i := 3) (j := 4) (by rfl) sc_level_and_size.nd rfl rfl (by decide) rfl rfl (pa_cons (pe_op op_addN (pv 3) pe_int) (pa_cons (pe_op op_mulN (pv 4) (pv 0)) pa_nil)) (by rfl)))))
      (pss_one (ps_ret (pe_tup (pa_cons (pv 3) (pa_cons (pv 4) pa_nil)))))))), ?_⟩
    refine ⟨by simp [sizeLine_eq], fun t hT => ⟨t, _, rfl, .inl (.inl upd_same), rfl, _, _, rfl, _, _, rfl, rfl, ?_⟩⟩
    refine ⟨_, rfl, _, rfl, _, _, rfl, rfl, cb _, _, rfl, _, rfl, _, _, rfl, rfl, cb _, _, _, rfl, ?_⟩
    refine while_by (fun σ H' => ∃ k : Nat, σ = [some (.int (b : Int)), some (.int (n : Int)), some (.int (d : Int)), some (.int (k : Int)), some (.int ((b ^ k : Nat) : Int)), some (.int ((n / b ^ (k + 1) : Nat) : Int)), some (.int ((d / b ^ (k + 1) : Nat) : Int))] ∧ Same H H' ∧ ∀ j, j < k → n / b ^ (j + 1) ≠ d / b ^ (j + 1))
      (fun σ _ => slotInt σ 6) ⟨0, ?_, same_upd hT, fun j hj => absurd hj (Nat.not_lt_zero j)⟩ ?_ ?_
    · rw [Nat.zero_add, Nat.pow_one]
      rfl
    · rintro σ H' ⟨k, rfl, sm, hk⟩
      by_cases hne : n / b ^ (k + 1) = d / b ^ (k + 1)
      · refine ⟨_, rfl, _, rfl, rfl, false, ?_, iteF ?_⟩
        · rw [hne, decide_eq_true rfl]
          rfl
        · refine ⟨_, rfl, _, rfl, by simp [sizeLine_eq], fun p hp => ?_⟩
          exact q k ⟨hne, hk⟩ _ p (sm.trans (same_upd hp)) (sm.free hp) upd_same
      · have h2 : n / b ^ (k + 1) ≤ d / b ^ (k + 1) := Nat.div_le_div_right (Nat.le_of_lt hnd)
        have hpos : 0 < d / b ^ (k + 1) := pos_of h2 hne
        refine ⟨_, rfl, _, rfl, rfl, true, ?_, iteT ?_⟩
        · rw [int_ne hne]
          rfl
        · refine ⟨_, rfl, _, rfl, _, _, rfl, rfl, cb _, _, rfl, _, rfl, _, _, rfl, rfl, cb _, _, _, rfl, ?_⟩
          refine ⟨_, rfl, k, 1, rfl, rfl, trivial, _, rfl, _, rfl, _, _, rfl, rfl, nmul_r (by omega), _, _, rfl, ?_⟩
          have hlt : d / b ^ (k + 1) / b < d / b ^ (k + 1) := Nat.div_lt_self hpos (by omega)
          refine ⟨⟨k + 1, ?_, sm, fun j hj => ?_⟩, ?_⟩
          · rw [div_succ n b (k + 1), div_succ d b (k + 1), Nat.pow_succ b k]
            rfl
          · by_cases e : j = k
            · rw [e]
              exact hne
            · exact hk j (by omega)
          · show (((d / b ^ (k + 1) / b : Nat) : Int)).toNat < (((d / b ^ (k + 1) : Nat) : Int)).toNat
            rw [Int.toNat_natCast, Int.toNat_natCast]
            exact hlt
    · rintro σ H' Q1 Q2 h ⟨x, hx, y, hy, hs, k, e, z⟩
      exact ⟨x, hx, y, hy, hs, k, e, h _ _ z⟩
/-! the stations -/
def rowV (r : Row3) : List V := [.int (r.1 : Nat), .int (r.2.1 : Nat), .int (r.2.2 : Nat)]
/-- at the places ts stand the rows rs, each a tuple of three -/
def RowsAt (H : Hp) : List Addr → List Row3 → Prop
  | [], [] => True
  | t :: ts, r :: rs => H t = some (.tup (rowV r)) ∧ RowsAt H ts rs
  | _, _ => False
theorem RowsAt.same {H H' : Hp} (s : Same H H') : ∀ {ts : List Addr} {rs : List Row3}, RowsAt H ts rs → RowsAt H' ts rs
  | [], [], h => h
  | _ :: _, _ :: _, h => ⟨s _ _ h.1, h.2.same s⟩
  | [], _ :: _, h => h
  | _ :: _, [], h => h
theorem RowsAt.app {H : Hp} {t : Addr} {r : Row3} : ∀ {ts : List Addr} {rs : List Row3}, RowsAt H ts rs → H t = some (.tup (rowV r)) → RowsAt H (ts ++ [t]) (rs ++ [r])
  | [], [], _, h => ⟨h, trivial⟩
  | _ :: _, _ :: _, h, h2 => ⟨h.1, h.2.app h2⟩
  | [], _ :: _, h, _ => h.elim
  | _ :: _, [], h, _ => h.elim
theorem RowsAt.len {H : Hp} : ∀ {ts : List Addr} {rs : List Row3}, RowsAt H ts rs → ts.length = rs.length
  | [], [], _ => rfl
  | _ :: _, _ :: _, h => congrArg Nat.succ h.2.len
  | [], _ :: _, h => h.elim
  | _ :: _, [], h => h.elim
theorem RowsAt.upd {H : Hp} {p : Addr} {xs : List V} {o : HO} (hp : H p = some (.lst xs)) : ∀ {ts : List Addr} {rs : List Row3}, RowsAt H ts rs → RowsAt (upd H p o) ts rs
  | [], [], h => h
  | t :: _, _ :: _, h => ⟨by rw [upd_ne (ne_of h.1 hp (by intro z; cases z))]; exact h.1, h.2.upd hp⟩
  | [], _ :: _, h => h
  | _ :: _, [], h => h
theorem RowsAt.get {H : Hp} : ∀ {ts : List Addr} {rs : List Row3} {i : Nat} {t : Addr}, RowsAt H ts rs → ts[i]? = some t → ∃ r, rs[i]? = some r ∧ H t = some (.tup (rowV r))
  | t :: _, r :: _, 0, _, h, e => ⟨r, rfl, by cases Option.some.inj e; exact h.1⟩
  | _ :: _, _ :: _, i + 1, _, h, e => h.2.get (i := i) e
  | [], _, _, _, _, e => by simp at e
  | _ :: _, [], _, _, h, _ => h.elim
def spPath : Sp := fun vs H Q _ => ∃ b n d : Nat, vs = [.int b, .int n, .int d] ∧ 2 ≤ b ∧ b ≤ 64 ∧ n < d ∧ d < 2 ^ 400 ∧ ∀ k, IsLev b n d k → ∀ H' p ts, Same H H' → H p = none → H' p = some (.lst (ts.map V.ref)) → RowsAt H' ts (rowsOf b n d k) → Q (.ref p) H'
theorem ok_path {f : Addr} {fd : FuncData} (F : Fun K "path" "path" s_path f fd) (h1 : Has P w K mg base 1 "level_and_size" ["base", "now", "due"] [] spLevel) : FnOk P w K mg base CX0 2 f fd ["base", "now", "due"] spPath := by
  obtain ⟨f_level_and_size, fd_level_and_size, ds_level_and_size, G_level_and_size, m_level_and_size, k_level_and_size, b_level_and_size, v_level_and_size⟩ := h1
  refine F.ok sc_path (fun vs H Q E h => ?_) (fun cdv A outer s H vs Q E hr h => ?_)
  · obtain ⟨b, n, d, rfl, _⟩ := h
    rfl
  · obtain ⟨b, n, d, rfl, hb, hb64, hnd, hd, q⟩ := h
    have cb : ∀ x : Nat, NDiv x b := fun x => ndiv 7 (by omega) (by omega)
    have hb0 : 0 < b := by omega
    refine ⟨_, (pss_cons (ps_asg (pe_call G_level_and_size hr (by rfl) m_level_and_size k_level_and_size b_level_and_size v_level_and_size pass0 (pa_cons (pv 0) (pa_cons (pv 1) (pa_cons (pv 2) pa_nil)))) (pg_tupK (K := K) (n := 2) rfl rfl (pgs_cons (pg_name (i := 3) sc_path.nd rfl (.inl rfl)) (pgs_cons (pg_name (i := 4) sc_path.nd rfl (.inl rfl)) pgs_nil))))
      (pss_cons (ps_set (i := 5) sc_path.nd rfl (.inl rfl) (pe_lst (pa_cons (pe_tup (pa_cons (pv 3) (pa_cons (pe_op op_remN (pe_op op_divN (pv 2) (pv 4)) (pv 0)) (pa_cons (pv 1) pa_nil)))) pa_nil)))
      (pss_cons (ps_while PassesOwn.never (pt_cmpR op_gt (pv 3) pe_int (nomark _))
        (pss_cons (ps_set (i := 6) sc_path.nd rfl (.inl rfl) (pe_op op_mulN (pe_op op_divN (pv 2) (pv 4)) (pv 4)))
        (pss_cons (ps_par (i := 3) (j := 4) (by rfl) sc_path.nd rfl rfl (by decide) rfl rfl (pa_cons (pe_op op_subN (pv 3) pe_int) (pa_cons (pe_op op_divN (pv 4) (pv 0)) pa_nil)) (by rfl))
        (pss_cons (ps_set (i := 7) sc_path.nd rfl (.inl rfl) (pe_op op_remN (pe_op op_divN (pv 2) (pv 4)) (pv 0)))
        (pss_one (ps_if (pt_cmpR op_ne (pv 7) pe_int (nomark _))
          (pss_one (ps_expr (pe_bm PySem.F.plainAttrs_list PySem.F.slot_list_append PySem.F.type_list_append mt_append (pv 5) (pa_cons (pe_tup (pa_cons (pv 3) (pa_cons (pv 7) (pa_cons (pv 6) pa_nil)))) pa_nil))))
          pss_nil))))))
      (pss_one (ps_ret (pv 5)))))), ?_⟩
    refine ⟨_, rfl, _, rfl, _, rfl, b, n, d, rfl, hb, hb64, hnd, hd, fun k hk H0 t0 s0 ht0 eT0 => ?_⟩
    have hkd : ∀ j, j ≤ k → b ^ j ≤ d := fun j hj => Nat.le_trans (Nat.pow_le_pow_right (by omega) hj) (hk.size hb hnd)
    have hk250 : k < 400 := lev_small hk hb hnd hd
    have cs : ∀ j, j ≤ k → ∀ x : Nat, NDiv x (b ^ j) := fun j hj x => ndiv 400 (pow_pos' hb j) (Nat.lt_of_le_of_lt (hkd j hj) hd)
    -- level, size = ..
    refine ⟨t0, _, rfl, .inl (.inl eT0), rfl, _, _, rfl, _, _, rfl, rfl, ?_⟩
    -- rows = [(level, due // size % base, now)]
    refine ⟨_, rfl, _, rfl, _, rfl, _, _, rfl, rfl, cs k (Nat.le_refl k) _, _, rfl, _, _, rfl, rfl, hb0, _, rfl, by simp [sizeLine_eq], fun t1 ht1 => ?_⟩
    have s1 := s0.trans (same_upd (o := .tup (rowV (k, d / b ^ k % b, n))) ht1)
    refine ⟨by simp [sizeLine_eq], fun p hp => ?_⟩
    have s2 := s1.trans (same_upd (o := .lst [.ref t1]) hp)
    have np1 : t1 ≠ p := fun e => by
      rw [← e, upd_same] at hp
      cases hp
    have hpH : H p = none := s1.free hp
    refine while_by (fun σ H' => ∃ (j : Nat) (ts : List Addr) (done : List Row3) (y6 y7 : Option V), σ = [some (.int (b : Int)), some (.int (n : Int)), some (.int (d : Int)), some (.int (j : Int)), some (.int ((b ^ j : Nat) : Int)), some (.ref p), y6, y7] ∧ j ≤ k ∧ ts.length + j ≤ k + 1 ∧ Same H H' ∧ H' p = some (.lst (ts.map V.ref)) ∧ RowsAt H' ts ((k, d / b ^ k % b, n) :: done) ∧ tailOf b d k = done ++ tailOf b d j)
      (fun σ _ => slotInt σ 3) ⟨k, [t1], [], none, none, rfl, Nat.le_refl k, by simp; omega, s2, upd_same, ⟨?_, trivial⟩, rfl⟩ ?_ ?_
    · rw [upd_ne np1, upd_same]
      rfl
    · rintro σ H' ⟨j, ts, done, y6, y7, rfl, hjk, hlen, sm, eL, R, et⟩
      cases j with
      | zero =>
        refine ⟨_, rfl, ((0 : Nat) : Int), 0, rfl, rfl, false, rfl, iteF ?_⟩
        refine ⟨_, rfl, q k hk H' p ts sm hpH eL ?_⟩
        have e : done = tailOf b d k := by
          rw [et]
          exact (List.append_nil done).symm
        rw [e] at R
        exact R
      | succ j =>
        have hj0 : (0 : Int) < ((j + 1 : Nat) : Int) := by omega
        refine ⟨_, rfl, _, _, rfl, rfl, true, congrArg V.bl (decide_eq_true hj0), iteT ?_⟩
        -- tick = due // size * size
        refine ⟨_, rfl, _, rfl, _, _, rfl, rfl, cs (j + 1) hjk _, _, rfl, _, _, rfl, rfl, nmul_w 400 400 (Nat.lt_of_le_of_lt (Nat.div_le_self d _) hd) (Nat.lt_of_le_of_lt (hkd (j + 1) hjk) hd), ?_⟩
        -- level, size = level - 1, size // base
        refine ⟨_, rfl, j + 1, 1, rfl, rfl, Nat.le_add_left 1 j, _, rfl, _, rfl, b ^ (j + 1), b, rfl, rfl, cb _, .int (j : Nat), .int ((b ^ j : Nat) : Int), ?_, ?_⟩
        · show [V.int ((j + 1 - 1 : Nat) : Int), V.int ((b ^ (j + 1) / b : Nat) : Int)] = _
          rw [Nat.pow_succ, Nat.mul_div_cancel _ hb0]
          rfl
        -- digit = due // size % base
        refine ⟨_, rfl, _, rfl, d, b ^ j, rfl, rfl, cs j (by omega) _, _, rfl, _, _, rfl, rfl, hb0, ?_⟩
        have lt : slotInt [some (.int (b : Int)), some (.int (n : Int)), some (.int (d : Int)), some (.int (j : Int)), some (.int ((b ^ j : Nat) : Int)), some (.ref p), some (.int ((d / b ^ (j + 1) * b ^ (j + 1) : Nat) : Int)), some (.int ((d / b ^ j % b : Nat) : Int))] 3 < ((j + 1 : Nat) : Int).toNat := by
          show ((j : Int)).toNat < _
          omega
        by_cases h0 : d / b ^ j % b = 0
        · refine ⟨_, rfl, rfl, false, nF (vE h0), iteF ?_⟩
          · refine ⟨⟨j, ts, done, _, _, rfl, by omega, by omega, sm, eL, R, ?_⟩, lt⟩
            rw [et]
            show done ++ tailOf b d (j + 1) = done ++ tailOf b d j
            have : tailOf b d (j + 1) = tailOf b d j := if_neg (fun z => z h0)
            rw [this]
        · refine ⟨_, rfl, rfl, true, nT (vN (b := 0) h0), iteT ?_⟩
          · -- rows.append((level, digit, tick))
            refine ⟨_, rfl, .inl ⟨rfl, _, .inl (.inl eL)⟩, _, rfl, _, rfl, _, rfl, by simp [sizeLine_eq], fun t2 ht2 => ?_⟩
            have s3 := same_upd (o := .tup (rowV (j, d / b ^ j % b, d / b ^ (j + 1) * b ^ (j + 1)))) ht2
            have npt : t2 ≠ p := fun e => by
              rw [e, eL] at ht2
              cases ht2
            have eL' := s3 _ _ eL
            refine ⟨p, _, _, rfl, rfl, eL', ?_, ?_⟩
            · rw [List.length_map]
              exact sizeLine_ge (by omega)
            · refine ⟨⟨j, ts ++ [t2], done ++ [(j, d / b ^ j % b, d / b ^ (j + 1) * b ^ (j + 1))], _, _, rfl, by omega, ?_, fun c o e => ?_, ?_, ?_, ?_⟩, lt⟩
              · rw [List.length_append, List.length_singleton]
                omega
              · rw [upd_ne (ne_of_none e hpH)]
                exact s3 _ _ (sm _ _ e)
              · rw [upd_same, List.map_append]
                rfl
              · refine RowsAt.upd eL' ?_
                exact RowsAt.app (r := (j, d / b ^ j % b, d / b ^ (j + 1) * b ^ (j + 1))) (rs := (k, d / b ^ k % b, n) :: done) (R.same s3) upd_same
              · rw [et, List.append_assoc]
                show done ++ tailOf b d (j + 1) = done ++ ((j, d / b ^ j % b, d / b ^ (j + 1) * b ^ (j + 1)) :: tailOf b d j)
                have : tailOf b d (j + 1) = (j, d / b ^ j % b, d / b ^ (j + 1) * b ^ (j + 1)) :: tailOf b d j := if_pos h0
                rw [this]
    · rintro σ H' Q1 Q2 h ⟨x, hx, i, j, e1, e2, k, e, z⟩
      exact ⟨x, hx, i, j, e1, e2, k, e, h _ _ z⟩
end
theorem RowsAt.item {H : Hp} {ts : List Addr} {rs : List Row3} (R : RowsAt H ts rs) {i : Nat} {x : V} (hx : (ts.map V.ref)[i]? = some x) : ∃ ti r, x = V.ref ti ∧ ts[i]? = some ti ∧ rs[i]? = some r ∧ H ti = some (.tup (rowV r)) := by
  rw [List.getElem?_map] at hx
  cases e : ts[i]? with
  | none =>
    rw [e] at hx
    cases hx
  | some ti =>
    rw [e] at hx
    obtain ⟨r, hr, er⟩ := R.get e
    exact ⟨ti, r, (Option.some.inj hx).symm, rfl, hr, er⟩
section
variable {P : Program} {w : World} {K : PySem.W.Frag} {mg : Str → Option Value} {base : Heap}
def spWordAt (K : PySem.W.Frag) : Sp := fun vs H Q _ => ∃ (q : Addr) (ws : List Bool) (k : Nat), vs = [.ref q, .int (k : Nat)] ∧ SqL K H q (ws.map lvV) ∧ ws ≠ [] ∧ Q (lvV (wordAt ws k)) H
theorem ok_word_at {f : Addr} {fd : FuncData} (F : Fun K "word_at" "word_at" s_word_at f fd) (T : Tx K mg) : FnOk P w K mg base CX0 1 f fd ["levels", "level"] (spWordAt K) := by
  refine F.ok sc_word_at (fun vs H Q E h => ?_) (fun cdv A outer s H vs Q E hr h => ?_)
  · obtain ⟨q, ws, k, rfl, _⟩ := h
    rfl
  · obtain ⟨q, ws, k, rfl, hL, hne, c⟩ := h
    have hp : 0 < ws.length := List.length_pos_iff.mpr hne
    have hpm : 1 ≤ (ws.map lvV).length := by
      rw [List.length_map]
      exact hp
    refine ⟨_, (pss_one (ps_ret (pe_ix (ix_listK (K := K) rfl) (pv 0) (pe_callB (call_min2 rfl) (by rfl) T.b_min (by decide +kernel) (pa_cons (pv 1) (pa_cons (pe_op op_subN (pe_callB (lenK (K := K) rfl) (by rfl) T.b_len PySem.boot_len (pa_cons (pv 0) pa_nil)) pe_int) pa_nil))) (fun _ _ => rfl)))), ?_⟩
    have g := word_get hne k
    refine ⟨.ref q, rfl, _, rfl, .ref q, rfl, q, _, rfl, .inl hL, (ws.map lvV).length, 1, rfl, rfl, hpm, k, _, rfl, q, _, ((min k (ws.length - 1) : Nat) : Int), _, rfl, congrArg V.int ?_, hL, atI_nat g, c⟩
    dsimp only
    rw [List.length_map]
    split <;> omega
def WordsAt (K : PySem.W.Frag) (mg : Str → Option Value) : Prop := ∃ a, mg "WORDS" = some (.ref a) ∧ ∀ H, SqT K H a [.str "stack", .str "queue"]
def MostAt (mg : Str → Option Value) : Prop := ∃ t, mg "MOST_LEVELS" = some (.int 60 t)
def spIsWord : Sp := fun vs H Q _ => ∃ b : Bool, vs = [lvV b] ∧ Q (.bl true) H
theorem ok_is_word {f : Addr} {fd : FuncData} (F : Fun K "is_word" "is_word" s_is_word f fd) (T : Tx K mg) (hW : WordsAt K mg) : FnOk P w K mg base CX0 1 f fd ["given"] spIsWord := by
  obtain ⟨a_WORDS, g_WORDS, sW⟩ := hW
  refine F.ok sc_is_word (fun vs H Q E h => ?_) (fun cdv A outer s H vs Q E hr h => ?_)
  · obtain ⟨b, rfl, _⟩ := h
    rfl
  · obtain ⟨b, rfl, c⟩ := h
    refine ⟨_, (pss_one (ps_ret (pe_and (pe_callB (isiK (K := K) rfl) (by rfl) T.b_isinstance (by decide +kernel) (pa_cons (pv 0) (pa_cons (pe_bltn (v := .ty "str") (u := .type "str") (by rfl) T.b_str (by decide +kernel) rfl) pa_nil))) (pe_one (pe_cmpR op_in_seq (pv 0) (pe_glob (v := .ref a_WORDS) rfl g_WORDS rfl) (by rfl)))))), ?_⟩
    obtain ⟨x, ex, hx⟩ : ∃ x : Str, lvV b = .str x ∧ (if false then !inV (V.str x) [.str "stack", .str "queue"] else inV (V.str x) [.str "stack", .str "queue"]) = true := by
      cases b
      · exact ⟨_, rfl, by decide⟩
      · exact ⟨_, rfl, by decide⟩
    rw [ex]
    refine ⟨.str x, rfl, _, _, _, _, true, rfl, .ty "str", .base (.str x), kit_ty (by decide +kernel), true, rfl, iteT ?_⟩
    refine ⟨.str x, rfl, a_WORDS, _, rfl, .inr (sW _), rfl, rfl, ?_⟩
    rw [hx]
    exact c
def spIsLength : Sp := fun vs H Q _ => ∃ n : Int, vs = [.int n] ∧ 1 ≤ n ∧ n ≤ 60 ∧ Q (.bl true) H
theorem ok_is_length {f : Addr} {fd : FuncData} (F : Fun K "is_length" "is_length" s_is_length f fd) (hM : MostAt mg) (h1 : Has P w K mg base 1 "is_integer" ["given"] [] spIsInt) : FnOk P w K mg base CX0 2 f fd ["given"] spIsLength := by
  obtain ⟨tM, g_MOST_LEVELS⟩ := hM
  obtain ⟨f_is_integer, fd_is_integer, ds_is_integer, G_is_integer, m_is_integer, k_is_integer, b_is_integer, v_is_integer⟩ := h1
  refine F.ok sc_is_length (fun vs H Q E h => ?_) (fun cdv A outer s H vs Q E hr h => ?_)
  · obtain ⟨n, rfl, _⟩ := h
    rfl
  · obtain ⟨n, rfl, l1, l2, q⟩ := h
    refine ⟨_, (pss_one (ps_ret (pe_and (pe_call G_is_integer hr (by rfl) m_is_integer k_is_integer b_is_integer v_is_integer pass0 (pa_cons (pv 0) pa_nil)) (pe_one (pe_chain op_le op_le pe_int (pv 0) (pe_glob (v := .int 60) rfl g_MOST_LEVELS ⟨_, rfl⟩)))))), ?_⟩
    refine ⟨.int n, rfl, n, rfl, true, rfl, iteT ?_⟩
    refine ⟨.int n, rfl, 1, n, rfl, rfl, true, congrArg V.bl (decide_eq_true l1), iteT ?_⟩
    refine ⟨n, 60, rfl, rfl, ?_⟩
    have e : V.bl (decide (n ≤ 60)) = V.bl true := dT l2
    show Q (V.bl (decide (n ≤ 60))) H
    rw [e]
    exact q
def spAreLevels (K : PySem.W.Frag) : Sp := fun vs H Q _ => ∃ (q : Addr) (ws : List Bool), vs = [.ref q] ∧ SqL K H q (ws.map lvV) ∧ ws ≠ [] ∧ ws.length ≤ 60 ∧ ∀ H', Same H H' → Q (.bl true) H'
theorem ok_are_levels {f : Addr} {fd : FuncData} (F : Fun K "are_levels" "are_levels" s_are_levels f fd) (T : Tx K mg) (h0 : Has P w K mg base 2 "is_length" ["given"] [] spIsLength) (h1 : Has P w K mg base 1 "is_word" ["given"] [] spIsWord) : FnOk P w K mg base CX0 3 f fd ["given"] (spAreLevels K) := by
  obtain ⟨f_is_length, fd_is_length, ds_is_length, G_is_length, m_is_length, k_is_length, b_is_length, v_is_length⟩ := h0
  obtain ⟨f_is_word, fd_is_word, ds_is_word, G_is_word, m_is_word, k_is_word, b_is_word, v_is_word⟩ := h1
  refine F.ok sc_are_levels (fun vs H Q E h => ?_) (fun cdv A outer s H vs Q E hr h => ?_)
  · obtain ⟨q, ws, rfl, _⟩ := h
    rfl
  · obtain ⟨q, ws, rfl, hL, hne, h60, c⟩ := h
    have hp : 0 < ws.length := List.length_pos_iff.mpr hne
    refine ⟨_, (pss_cons (ps_if (PW.pt (pw_or (pt_not (pt_val (pe_callB (isiK (K := K) rfl) (by rfl) T.b_isinstance (by decide +kernel) (pa_cons (pv 0) (pa_cons (pe_bltn (v := .ty "list") (u := .type "list") (by rfl) T.b_list (by decide +kernel) rfl) pa_nil))))) (pw_or1 (pt_not (pt_val (pe_call G_is_length hr (by rfl) m_is_length k_is_length b_is_length v_is_length pass0 (pa_cons (pe_callB (lenK (K := K) rfl) (by rfl) T.b_len PySem.boot_len (pa_cons (pv 0) pa_nil)) pa_nil)))))))
        (pss_one (ps_ret pe_bl))
        pss_nil)
      (pss_one (ps_ret (pe_callB (allK (K := K) rfl rfl) (by rfl) T.b_all (by decide +kernel) (pa_cons (pe_lc (own := [("word", 1)]) (g := gName 1) (tt := tYes) rfl sc_are_levels.nd (pi_list (pv 0)) (blkOk_by (own := [("word", 1)]) (N := N_are_levels) (sc := defScope s_are_levels) (by decide +kernel)) (fun _ _ _ _ _ => (pg_name (i := 1) sc_are_levels.nd rfl (.inl rfl))) (fun _ _ _ _ _ => pts_nil) (fun _ _ _ _ _ => (pe_call G_is_word (hr.mono (by decide)) (by rfl) m_is_word k_is_word b_is_word v_is_word pass0 (pa_cons (pv 1) pa_nil)))) pa_nil))))), ?_⟩
    refine ⟨.ref q, rfl, _, _, _, _, true, rfl, .ty "list", tyx_list hL, kit_ty (by decide +kernel), true, rfl, iteF ?_⟩
    refine ⟨.ref q, rfl, q, _, rfl, .inl hL, _, rfl, ?_, ?_, true, rfl, iteF ?_⟩
    · rw [List.length_map]
      omega
    · rw [List.length_map]
      omega
    refine ⟨.ref q, rfl, q, rfl, ⟨_, hL⟩, fun D hD => lc_list (K := K) (a := q) (xs := ws.map lvV) (fun i H' => Same H H' ∧ H' D = some (.lst ((List.replicate i true).map V.bl)))
      ⟨same_upd hD, upd_same⟩ (fun i H' _ ⟨sm, _⟩ => sm.seq hL) ?_ ?_⟩
    · rintro i x H' hx ⟨sm, eD⟩
      obtain ⟨b, rfl⟩ : ∃ b, x = lvV b := by
        rw [List.getElem?_map] at hx
        cases e : ws[i]? with
        | none =>
          rw [e] at hx
          cases hx
        | some b =>
          rw [e] at hx
          exact ⟨b, (Option.some.inj hx).symm⟩
      have hi : i < (ws.map lvV).length := (List.getElem?_eq_some_iff.mp hx).1
      rw [List.length_map] at hi
      refine ⟨rfl, yesT (iteT ?_)⟩
      refine ⟨_, rfl, b, rfl, _, eD, ?_, fun c o e => ?_, ?_⟩
      · rw [List.length_map, List.length_replicate]
        exact sizeLine_ge (by omega)
      · rw [upd_ne (ne_of_none e hD)]
        exact sm _ _ e
      · rw [upd_same, List.replicate_succ', List.map_append]
        rfl
    · rintro H1 ⟨s1, eD⟩
      refine ⟨D, _, rfl, SqL.of eD, ?_⟩
      have ea : (List.replicate (ws.map lvV).length true).all id = true := by
        rw [List.all_replicate]
        simp
      rw [ea]
      exact c H1 s1
def spCheckLevels (K : PySem.W.Frag) : Sp := fun vs H Q _ => ∃ (q : Addr) (ws : List Bool), vs = [.ref q] ∧ SqL K H q (ws.map lvV) ∧ ws ≠ [] ∧ ws.length ≤ 60 ∧ ∀ H', Same H H' → Q .non H'
theorem ok_check_levels {f : Addr} {fd : FuncData} (F : Fun K "check_levels" "check_levels" s_check_levels f fd) (h1 : Has P w K mg base 3 "are_levels" ["given"] [] (spAreLevels K)) : FnOk P w K mg base CX0 4 f fd ["levels"] (spCheckLevels K) := by
  obtain ⟨f_are_levels, fd_are_levels, ds_are_levels, G_are_levels, m_are_levels, k_are_levels, b_are_levels, v_are_levels⟩ := h1
  refine F.ok sc_check_levels (fun vs H Q E h => ?_) (fun cdv A outer s H vs Q E hr h => ?_)
  · obtain ⟨q, ws, rfl, _⟩ := h
    rfl
  · obtain ⟨q, ws, rfl, hL, hne, h60, c⟩ := h
    refine ⟨_, (pss_one (ps_if (pt_not (pt_val (pe_call G_are_levels hr (by rfl) m_are_levels k_are_levels b_are_levels v_are_levels pass0 (pa_cons (pv 0) pa_nil))))
        (pss_one ps_never)
        pss_nil)), ?_⟩
    exact ⟨_, rfl, q, ws, rfl, hL, hne, h60, fun H1 s1 => ⟨true, rfl, iteF (c H1 s1)⟩⟩
end
section
variable {P : Program} {w : World} {K : PySem.W.Frag} {mg : Str → Option Value} {base : Heap}
def spFront (K : PySem.W.Frag) : Sp := fun vs H Q _ => ∃ (b n d lo : Nat) (q : Addr) (ws : List Bool), vs = [.int (b : Nat), .ref q, .int (n : Nat), .int (d : Nat), .int (lo : Nat)] ∧ 2 ≤ b ∧ b ≤ 64 ∧ n < d ∧ d < 2 ^ 400 ∧ SqL K H q (ws.map lvV) ∧ ws ≠ [] ∧
  ∀ k, IsLev b n d k → ∀ H', Same H H' → Q (.bl (frontOf ws lo (rowsOf b n d k))) H'
theorem ok_goes_in_front {f : Addr} {fd : FuncData} (F : Fun K "goes_in_front" "goes_in_front" s_goes_in_front f fd) (h1 : Has P w K mg base 2 "path" ["base", "now", "due"] [] spPath) (h2 : Has P w K mg base 1 "word_at" ["levels", "level"] [] (spWordAt K)) :
    FnOk P w K mg base CX0 3 f fd ["base", "levels", "now", "due", "lowest"] (spFront K) := by
  obtain ⟨f_path, fd_path, ds_path, G_path, m_path, k_path, b_path, v_path⟩ := h1
  obtain ⟨f_word_at, fd_word_at, ds_word_at, G_word_at, m_word_at, k_word_at, b_word_at, v_word_at⟩ := h2
  refine F.ok sc_goes_in_front (fun vs H Q E h => ?_) (fun cdv A outer s H vs Q E hr h => ?_)
  · obtain ⟨b, n, d, lo, q, ws, rfl, _⟩ := h
    rfl
  · obtain ⟨b, n, d, lo, q, ws, rfl, hb, hb64, hnd, hd, hL, hne, c⟩ := h
    refine ⟨_, (pss_cons (ps_set (i := 5) sc_goes_in_front.nd rfl (.inl rfl) pe_bl)
      (pss_cons (ps_for PassesOwn.never rfl (pi_list (pe_call G_path hr (by rfl) m_path k_path b_path v_path pass0 (pa_cons (pv 0) (pa_cons (pv 2) (pa_cons (pv 3) pa_nil))))) (pg_tupK (K := K) (n := 3) rfl rfl (pgs_cons (pg_name (i := 6) sc_goes_in_front.nd rfl (.inl rfl)) (pgs_cons (pg_name (i := 7) sc_goes_in_front.nd rfl (.inl rfl)) (pgs_cons (pg_name (i := 8) sc_goes_in_front.nd rfl (.inl rfl)) pgs_nil))))
        (pss_one (ps_if (PW.pt (pw_and (pt_cmpR op_ge (pv 6) (pv 4) (nomark _)) (pw_and1 (pt_cmpR op_eq (pe_call G_word_at (hr.mono (by decide)) (by rfl) m_word_at k_word_at b_word_at v_word_at pass0 (pa_cons (pv 1) (pa_cons (pv 6) pa_nil))) pe_str (nomark _)))))
          (pss_one (ps_set (i := 5) sc_goes_in_front.nd rfl (.inl rfl) (pe_not (pv 5))))
          pss_nil)))
      (pss_one (ps_ret (pv 5))))), ?_⟩
    refine ⟨_, rfl, _, rfl, _, rfl, b, n, d, rfl, hb, hb64, hnd, hd, fun k hk H1 p ts s1 hp0 hp R => ?_⟩
    refine ⟨p, rfl, ⟨_, SqL.of hp⟩, for_list (K := K) (a := p) (xs := ts.map V.ref) (fun i σ H' => ∃ y6 y7 y8, σ = [some (.int (b : Nat)), some (.ref q), some (.int (n : Nat)), some (.int (d : Nat)), some (.int (lo : Nat)), some (.bl (frontOf ws lo ((rowsOf b n d k).take i))), y6, y7, y8] ∧ H' = H1)
      ⟨none, none, none, rfl, rfl⟩ (fun i σ H' _ ⟨_, _, _, _, e⟩ => by rw [e]; exact SqL.of hp) ?_ ?_⟩
    · rintro i x σ H' hx ⟨y6, y7, y8, rfl, rfl⟩
      obtain ⟨ti, r, rfl, hti, hr, er⟩ := R.item hx
      have hstep : frontOf ws lo ((rowsOf b n d k).take (i + 1)) = if (decide (lo ≤ r.1) && wordAt ws r.1) = true then !frontOf ws lo ((rowsOf b n d k).take i) else frontOf ws lo ((rowsOf b n d k).take i) := by
        rw [List.take_add_one, hr]
        exact front_snoc ws lo _ r
      refine ⟨ti, _, rfl, .inl (.inl er), rfl, _, _, rfl, _, _, rfl, _, _, rfl, rfl, ?_⟩
      have hL1 := s1.seq hL
      by_cases hlo : lo ≤ r.1
      · refine ⟨_, rfl, _, rfl, _, _, rfl, rfl, true, dT (by omega), iteT ?_⟩
        refine ⟨_, rfl, _, rfl, q, ws, r.1, rfl, hL1, hne, ?_, wordAt ws r.1, congrArg V.bl (lv_dec _), ?_⟩
        · cases wordAt ws r.1 <;> rfl
        cases hw : wordAt ws r.1 with
        | true =>
          refine iteT ⟨_, rfl, _, rfl, ⟨some (.int (r.1 : Nat)), some (.int (r.2.1 : Nat)), some (.int (r.2.2 : Nat)), ?_, rfl⟩⟩
          rw [hstep, hw, decide_eq_true hlo]
          rfl
        | false =>
          refine iteF ⟨some (.int (r.1 : Nat)), some (.int (r.2.1 : Nat)), some (.int (r.2.2 : Nat)), ?_, rfl⟩
          rw [hstep, hw, decide_eq_true hlo]
          rfl
      · refine ⟨_, rfl, _, rfl, _, _, rfl, rfl, false, dF (by omega), iteF (iteF ⟨some (.int (r.1 : Nat)), some (.int (r.2.1 : Nat)), some (.int (r.2.2 : Nat)), ?_, rfl⟩)⟩
        rw [hstep, decide_eq_false hlo]
        rfl
    · rintro σ H' ⟨y6, y7, y8, rfl, rfl⟩
      have e : (rowsOf b n d k).take (ts.map V.ref).length = rowsOf b n d k := by
        refine List.take_of_length_le ?_
        rw [List.length_map]
        exact Nat.le_of_eq R.len.symm
      rw [e]
      exact ⟨_, rfl, c k hk _ s1⟩
end
/-! ### the program: where the lowest stack stands; powers of a base -/
section
variable {P : Program} {w : World} {K : PySem.W.Frag} {mg : Str → Option Value} {base : Heap}
def spLow (K : PySem.W.Frag) : Sp := fun vs H Q _ => ∃ (b : Nat) (q : Addr) (ws : List Bool), vs = [.int (b : Nat), .ref q] ∧ 2 ≤ b ∧ b ≤ 64 ∧ ws.length ≤ 60 ∧ SqL K H q (ws.map lvV) ∧ ws ≠ [] ∧
  ∀ o, LowO ws o → Q (optV (o.map (b ^ ·))) H
theorem wordAt_get {ws : List Bool} {i : Nat} {x : Bool} (h : ws[i]? = some x) : wordAt ws i = x := by
  have hi := (List.getElem?_eq_some_iff.mp h).1
  unfold wordAt
  rw [show min i (ws.length - 1) = i by omega, List.getD_eq_getElem?_getD, h]
  rfl
theorem wordAt_past {ws : List Bool} {i : Nat} (h : ws.length ≤ i) (hne : ws ≠ []) : wordAt ws i = wordAt ws (ws.length - 1) := by
  have := List.length_pos_iff.mpr hne
  unfold wordAt
  rw [show min i (ws.length - 1) = ws.length - 1 by omega, show min (ws.length - 1) (ws.length - 1) = ws.length - 1 by omega]
theorem pow_lt_240 {b i : Nat} (hb : b ≤ 64) (hi : i ≤ 60) : b ^ i < 2 ^ 361 :=
  Nat.lt_of_le_of_lt (Nat.pow_le_pow_left hb i) (by
    rw [show (64 : Nat) = 2 ^ 6 from rfl, ← Nat.pow_mul]
    exact Nat.pow_lt_pow_right (by omega) (by omega))
theorem ok_size_of_lowest_stack {f : Addr} {fd : FuncData} (F : Fun K "size_of_lowest_stack" "size_of_lowest_stack" s_size_of_lowest_stack f fd) : FnOk P w K mg base CX0 1 f fd ["base", "levels"] (spLow K) := by
  refine F.ok sc_size_of_lowest_stack (fun vs H Q E h => ?_) (fun cdv A outer s H vs Q E hr h => ?_)
  · obtain ⟨b, q, ws, rfl, _⟩ := h
    rfl
  · obtain ⟨b, q, ws, rfl, hb, hb64, hl, hL, hne, c⟩ := h
    refine ⟨_, (pss_cons (ps_set (i := 2) sc_size_of_lowest_stack.nd rfl (.inl rfl) pe_int)
      (pss_cons (ps_for PassesOwn.never rfl (pi_list (pv 1)) (pg_name (i := 3) sc_size_of_lowest_stack.nd rfl (.inl rfl))
        (pss_cons (ps_if (pt_cmpR op_eq (pv 3) pe_str (nomark _))
          (pss_one (ps_ret (pv 2)))
          pss_nil)
        (pss_one (ps_aug (i := 2) sc_size_of_lowest_stack.nd rfl (.inl rfl) (pv 0) ip_mulA))))
      (pss_one (ps_ret pe_non)))), ?_⟩
    refine ⟨_, rfl, q, rfl, ⟨_, hL⟩, for_list (K := K) (a := q) (xs := ws.map lvV) (fun i σ H' => ∃ y, σ = [some (.int (b : Nat)), some (.ref q), some (.int ((b ^ i : Nat) : Int)), y] ∧ H' = H ∧ ∀ j, j < i → wordAt ws j = false)
      ⟨none, rfl, rfl, fun j hj => absurd hj (Nat.not_lt_zero j)⟩ (fun i σ H' _ ⟨_, _, e, _⟩ => by rw [e]; exact hL) ?_ ?_⟩
    · rintro i x σ H' hx ⟨y, rfl, rfl, hj⟩
      obtain ⟨v, hv, rfl⟩ : ∃ v, ws[i]? = some v ∧ lvV v = x := by
        rw [List.getElem?_map] at hx
        cases hw : ws[i]? with
        | none => rw [hw] at hx; cases hx
        | some v => rw [hw] at hx; exact ⟨v, rfl, Option.some.inj hx⟩
      have hwv := wordAt_get hv
      have hi := (List.getElem?_eq_some_iff.mp hv).1
      refine ⟨_, rfl, ?_, v, congrArg V.bl (lv_dec v), ?_⟩
      · cases v <;> rfl
      · cases v with
        | true => exact iteT ⟨_, rfl, c (some i) ⟨hi, hwv, hj⟩⟩
        | false =>
          refine iteF ⟨_, rfl, _, rfl, _, _, rfl, rfl, mul_r (by omega) (by omega), ⟨some (lvV false), ?_, rfl, fun j h => ?_⟩⟩
          · rw [Nat.pow_succ, Int.natCast_mul]
            rfl
          · by_cases e : j = i
            · rw [e]; exact hwv
            · exact hj j (by omega)
    · rintro σ H' ⟨y, rfl, rfl, hj⟩
      rw [List.length_map] at hj
      refine c none fun j => ?_
      have hp := List.length_pos_iff.mpr hne
      by_cases h : j < ws.length
      · exact hj j h
      · rw [wordAt_past (by omega) hne]
        exact hj _ (by omega)
def spPowers : Sp := fun vs H Q _ => ∃ b m : Nat, vs = [.int (b : Nat), .int (m : Nat)] ∧ 2 ≤ b ∧ b ≤ 64 ∧ 1 ≤ m ∧ m ≤ 60 ∧ ∀ H' q, Same H H' → H q = none → H' q = some (.lst (((List.range m).map (b ^ ·)).map fun n : Nat => V.int n)) → Q (.ref q) H'
theorem ok_powers {f : Addr} {fd : FuncData} (F : Fun K "powers" "powers" s_powers f fd) (T : Tx K mg) : FnOk P w K mg base CX0 1 f fd ["base", "many"] spPowers := by
  refine F.ok sc_powers (fun vs H Q E h => ?_) (fun cdv A outer s H vs Q E hr h => ?_)
  · obtain ⟨b, m, rfl, _⟩ := h
    rfl
  · obtain ⟨b, m, rfl, hb, hb64, hm, hm40, c⟩ := h
    refine ⟨_, (pss_cons (ps_set (i := 2) sc_powers.nd rfl (.inl rfl) (pe_lst (pa_cons pe_int pa_nil)))
      (pss_cons (ps_while PassesOwn.never (pt_cmpR op_lt (pe_callB (lenK (K := K) rfl) (by rfl) T.b_len PySem.boot_len (pa_cons (pv 2) pa_nil)) (pv 1) (nomark _))
        (pss_one (ps_expr (pe_bm PySem.F.plainAttrs_list PySem.F.slot_list_append PySem.F.type_list_append mt_append (pv 2) (pa_cons (pe_op op_mulN (pe_ix (ix_listK (K := K) rfl) (pv 2) (pe_un un_neg pe_int) (fun _ _ => rfl)) (pv 0)) pa_nil)))))
      (pss_one (ps_ret (pv 2))))), ?_⟩
    refine ⟨by simp [sizeLine_eq], fun q hq => ?_⟩
    refine while_by (fun σ H' => ∃ k : Nat, σ = [some (.int (b : Nat)), some (.int (m : Nat)), some (.ref q)] ∧ 1 ≤ k ∧ k ≤ m ∧ Same H H' ∧ H' q = some (.lst (((List.range k).map (b ^ ·)).map fun n : Nat => V.int n)))
      (fun _ H' => match H' q with | some (.lst xs) => m - xs.length | _ => 0) ⟨1, rfl, Nat.le_refl 1, hm, same_upd hq, upd_same⟩ ?_ ?_
    · rintro σ H' ⟨k, rfl, hk1, hkm, sm, eL⟩
      have len : (((List.range k).map (b ^ ·)).map fun n : Nat => V.int n).length = k := by rw [List.length_map, List.length_map, List.length_range]
      by_cases h : k < m
      · refine ⟨_, rfl, q, _, rfl, .inl (SqL.of eL), _, rfl, k, m, congrArg V.int (by rw [len]), rfl, true, dT (by omega), iteT ?_⟩
        obtain ⟨j, rfl⟩ : ∃ j, k = j + 1 := ⟨k - 1, by omega⟩
        have el : ((List.range (j + 1)).map (b ^ ·)).map (fun n : Nat => V.int n) = ((List.range j).map (b ^ ·)).map (fun n : Nat => V.int n) ++ [.int ((b ^ j : Nat) : Int)] := by
          rw [List.range_succ, List.map_append, List.map_append]
          rfl
        refine ⟨_, rfl, .inl ⟨rfl, _, .inl (.inl eL)⟩, _, rfl, _, rfl, q, _, -1, .int ((b ^ j : Nat) : Int), rfl, rfl, SqL.of eL, (by rw [el]; exact atI_last _ _), _, rfl, b ^ j, b, rfl, rfl, nmul_r (by omega), q, _, _, rfl, rfl, eL, by rw [len]; exact sizeLine_ge (by omega), ?_⟩
        have el2 : ((List.range (j + 1)).map (b ^ ·)).map (fun n : Nat => V.int n) ++ [.int ((b ^ j * b : Nat) : Int)] = ((List.range (j + 1 + 1)).map (b ^ ·)).map (fun n : Nat => V.int n) := by
          rw [List.range_succ (n := j + 1), List.map_append, List.map_append, ← Nat.pow_succ]
          rfl
        refine ⟨⟨j + 2, rfl, by omega, by omega, fun a o e => ?_, ?_⟩, ?_⟩
        · rw [upd_ne (ne_of_none e hq)]
          exact sm _ _ e
        · rw [upd_same, el2]
        · dsimp only
          rw [upd_same, eL]
          dsimp only
          rw [el2]
          simp only [List.length_map, List.length_range]
          omega
      · refine ⟨_, rfl, q, _, rfl, .inl (SqL.of eL), _, rfl, k, m, congrArg V.int (by rw [len]), rfl, false, dF (by omega), iteF ?_⟩
        have ek : k = m := by omega
        rw [ek] at eL
        exact ⟨_, rfl, c _ q sm hq eL⟩
    · rintro σ H' Q1 Q2 h ⟨x, hx, y, hy, hs, k, e, z1, i, j, e1, e2, v, e3, z⟩
      exact ⟨x, hx, y, hy, hs, k, e, z1, i, j, e1, e2, v, e3, h _ _ z⟩
end
/-! ### the program: the dues that tell -/
section
variable {P : Program} {w : World} {K : PySem.W.Frag} {mg : Str → Option Value} {base : Heap}
def spTelling (K : PySem.W.Frag) : Sp := fun vs H Q _ => ∃ (b1 b2 : Nat) (q1 q2 : Addr) (w1 w2 : List Bool), vs = [.int (b1 : Nat), .ref q1, .int (b2 : Nat), .ref q2] ∧ 2 ≤ b1 ∧ b1 ≤ 64 ∧ 2 ≤ b2 ∧ b2 ≤ 64 ∧ w1.length ≤ 60 ∧ w2.length ≤ 60 ∧ SqL K H q1 (w1.map lvV) ∧ SqL K H q2 (w2.map lvV) ∧ w1 ≠ [] ∧ w2 ≠ [] ∧
  ∀ L, Tells b1 w1 b2 w2 L → ∀ H' q, Same H H' → H q = none → H' q = some (.lst (L.map fun n : Nat => V.int n)) → Q (.ref q) H'
theorem ok_telling_dues {f : Addr} {fd : FuncData} (F : Fun K "telling_dues" "telling_dues" s_telling_dues f fd) (T : Tx K mg) (h1 : Has P w K mg base 1 "powers" ["base", "many"] [] spPowers) (h2 : Has P w K mg base 1 "size_of_lowest_stack" ["base", "levels"] [] (spLow K)) :
    FnOk P w K mg base CX0 2 f fd ["base", "levels", "other_base", "other_levels"] (spTelling K) := by
  obtain ⟨f_powers, fd_powers, ds_powers, G_powers, m_powers, k_powers, b_powers, v_powers⟩ := h1
  obtain ⟨f_size_of_lowest_stack, fd_size_of_lowest_stack, ds_size_of_lowest_stack, G_size_of_lowest_stack, m_size_of_lowest_stack, k_size_of_lowest_stack, b_size_of_lowest_stack, v_size_of_lowest_stack⟩ := h2
  refine F.ok sc_telling_dues (fun vs H Q E h => ?_) (fun cdv A outer s H vs Q E hr h => ?_)
  · obtain ⟨b1, b2, q1, q2, w1, w2, rfl, _⟩ := h
    rfl
  · obtain ⟨b1, b2, q1, q2, w1, w2, rfl, hb1, hb1', hb2, hb2', l1, l2, hL1, hL2, n1, n2, c⟩ := h
    refine ⟨_, (pss_cons (ps_if (pt_cmpR op_eq (pv 0) (pv 2) (nomark _))
        (pss_one (ps_ret (pe_call G_powers hr (by rfl) m_powers k_powers b_powers v_powers pass0 (pa_cons (pv 0) (pa_cons (pe_callB (max2N rfl) (by rfl) T.b_max (by decide +kernel) (pa_cons (pe_callB (lenK (K := K) rfl) (by rfl) T.b_len PySem.boot_len (pa_cons (pv 1) pa_nil)) (pa_cons (pe_callB (lenK (K := K) rfl) (by rfl) T.b_len PySem.boot_len (pa_cons (pv 3) pa_nil)) pa_nil))) pa_nil)))))
        pss_nil)
      (pss_cons (ps_set (i := 4) sc_telling_dues.nd rfl (.inl rfl) (pe_lst (pa_cons (pe_call G_size_of_lowest_stack hr (by rfl) m_size_of_lowest_stack k_size_of_lowest_stack b_size_of_lowest_stack v_size_of_lowest_stack pass0 (pa_cons (pv 0) (pa_cons (pv 1) pa_nil))) (pa_cons (pe_call G_size_of_lowest_stack hr (by rfl) m_size_of_lowest_stack k_size_of_lowest_stack b_size_of_lowest_stack v_size_of_lowest_stack pass0 (pa_cons (pv 2) (pa_cons (pv 3) pa_nil))) pa_nil))))
      (pss_cons (ps_setLc (i := 6) (own := [("size", 5)]) (g := gName 5)  rfl sc_telling_dues.nd rfl rfl (sw_true rfl rfl rfl (by decide +kernel)) (pi_list (pv 4)) (blkOk_by (own := [("size", 5)]) (N := N_telling_dues) (sc := defScope s_telling_dues) (by decide +kernel)) (fun _ _ _ _ _ => (pg_name (i := 5) sc_telling_dues.nd rfl (.inl rfl))) (fun _ _ _ _ _ => (pts_one (pt_cmpR op_notN (pv 5) pe_non (nomark _)))) (fun _ _ _ _ _ => (pv 5)))
      (pss_cons (ps_if (pt_cmpR op_eq (pe_callB (lenK (K := K) rfl) (by rfl) T.b_len PySem.boot_len (pa_cons (pv 6) pa_nil)) pe_int (nomark _))
        (pss_one (ps_ret (pe_lst pa_nil)))
        pss_nil)
      (pss_cons (ps_par (i := 5) (j := 7) (by rfl) sc_telling_dues.nd rfl rfl (by decide) rfl rfl (pa_cons (pe_callB (minK (K := K) rfl rfl) (by rfl) T.b_min (by decide +kernel) (pa_cons (pv 6) pa_nil)) (pa_cons (pe_callB (min2N rfl) (by rfl) T.b_min (by decide +kernel) (pa_cons (pv 0) (pa_cons (pv 2) pa_nil))) pa_nil)) (by rfl))
      (pss_one (ps_ret (pe_lst (pa_cons (pv 5) (pa_cons (pe_op op_mulN (pv 7) (pv 5)) (pa_cons (pe_op op_mulN (pe_op op_addN (pv 7) pe_int) (pv 5)) pa_nil))))))))))), ?_⟩
    have p1 := List.length_pos_iff.mpr n1
    have p2 := List.length_pos_iff.mpr n2
    by_cases eb : b1 = b2
    · subst eb
      refine ⟨_, rfl, _, rfl, rfl, true, dT rfl, iteT ?_⟩
      refine ⟨_, rfl, _, rfl, q1, _, rfl, .inl hL1, _, rfl, q2, _, rfl, .inl hL2, (w1.map lvV).length, (w2.map lvV).length, rfl, b1, max w1.length w2.length, ?_, hb1, hb1', by omega, by omega, fun H' q sm hq eq => c _ (tells_same hb1 n1 n2) H' q sm hq eq⟩
      rw [List.length_map, List.length_map]
      rfl
    · refine ⟨_, rfl, _, rfl, rfl, false, dF (vN eb), iteF ?_⟩
      refine ⟨_, rfl, _, rfl, b1, q1, w1, rfl, hb1, hb1', l1, hL1, n1, fun o1 ho1 => ?_⟩
      refine ⟨_, rfl, _, rfl, b2, q2, w2, rfl, hb2, hb2', l2, hL2, n2, fun o2 ho2 => ?_⟩
      refine ⟨by simp [sizeLine_eq], fun p hp => ?_⟩
      have sp := same_upd (o := .lst [optV (o1.map (b1 ^ ·)), optV (o2.map (b2 ^ ·))]) hp
      have ep : (upd H p (.lst [optV (o1.map (b1 ^ ·)), optV (o2.map (b2 ^ ·))])) p = some (.lst [optV (o1.map (b1 ^ ·)), optV (o2.map (b2 ^ ·))]) := upd_same
      generalize upd H p (.lst [optV (o1.map (b1 ^ ·)), optV (o2.map (b2 ^ ·))]) = Hp1 at sp ep ⊢
      generalize hS : [o1.map (b1 ^ ·), o2.map (b2 ^ ·)] = S
      have ep2 : Hp1 p = some (.lst (S.map optV)) := by rw [← hS]; exact ep
      have lS : S.length = 2 := by rw [← hS]; rfl
      refine ⟨_, rfl, p, rfl, ⟨_, SqL.of ep2⟩, fun D hD => lc_list (K := K) (a := p) (xs := S.map optV) (fun i H' => Same Hp1 H' ∧ H' D = some (.lst (((S.take i).filterMap id).map fun n : Nat => V.int n)))
        ⟨same_upd hD, upd_same⟩ (fun i H' _ ⟨sm, _⟩ => SqL.of (sm _ _ ep2)) ?_ ?_⟩
      · rintro i x H' hx ⟨sm, eD⟩
        obtain ⟨o, ho, rfl⟩ : ∃ o, S[i]? = some o ∧ optV o = x := by
          rw [List.getElem?_map] at hx
          cases hw : S[i]? with
          | none => rw [hw] at hx; cases hx
          | some v => rw [hw] at hx; exact ⟨v, rfl, Option.some.inj hx⟩
        have hi := (List.getElem?_eq_some_iff.mp ho).1
        cases o with
        | none =>
          refine ⟨rfl, _, rfl, rfl, false, rfl, iteF ⟨sm, ?_⟩⟩
          rw [List.take_add_one, ho, List.filterMap_append]
          simpa using eD
        | some n =>
          refine ⟨rfl, _, rfl, rfl, true, rfl, iteT ⟨_, rfl, _, eD, ?_, fun c o e => ?_, ?_⟩⟩
          · have := List.length_filterMap_le id (S.take i)
            rw [List.length_map]
            rw [List.length_take] at this
            exact sizeLine_ge (by omega)
          · rw [upd_ne (ne_of_none e hD)]
            exact sm _ _ e
          · rw [upd_same, List.take_add_one, ho, List.filterMap_append, List.map_append]
            rfl
      · rintro H2 ⟨sm, eD⟩
        rw [List.length_map, List.take_length] at eD
        have s0 := sp.trans sm
        cases hm : minO b1 b2 o1 o2 with
        | none =>
          have e1 : o1 = none := by cases o1 <;> cases o2 <;> first | rfl | cases hm
          have e2 : o2 = none := by cases o1 <;> cases o2 <;> first | rfl | cases hm
          subst e1 e2 hS
          refine ⟨_, rfl, D, _, rfl, .inl (SqL.of eD), rfl, true, rfl, iteT ?_⟩
          exact ⟨by simp [sizeLine_eq], fun q hq => c _ (tells_none hb1 hb2 ho1 ho2) _ q (s0.trans (same_upd hq)) (s0.free hq) upd_same⟩
        | some s =>
          have hT := tells_ne hb1 hb2 ho1 ho2 eb hm
          have pos : 0 < (S.filterMap id).length := by
            subst hS
            cases o1 <;> cases o2 <;> first | (simp; done) | cases hm
          have hmin : s ∈ S.filterMap id ∧ ∀ y ∈ S.filterMap id, s ≤ y := by
            subst hS
            cases o1 <;> cases o2 <;> simp [minO] at hm ⊢ <;> omega
          have eD2 : H2 D = some (.lst (((S.filterMap id).map fun n : Nat => (n : Int)).map V.int)) := by
            rw [eD, List.map_map]
            rfl
          refine ⟨_, rfl, D, _, rfl, .inl (SqL.of eD), rfl, false, dF ?_, iteF ?_⟩
          · rw [List.length_map]
            exact vI (by omega)
          refine ⟨_, rfl, D, (S.filterMap id).map fun n : Nat => (n : Int), rfl, SqL.of eD2, by rw [List.length_map]; exact pos, fun m hm1 hm2 => ?_⟩
          obtain ⟨s', hs', rfl⟩ := List.mem_map.mp hm1
          have es : s' = s := by
            have a := hm2 _ (List.mem_map.mpr ⟨s, hmin.1, rfl⟩)
            have b := hmin.2 s' hs'
            omega
          subst es
          refine ⟨_, rfl, _, rfl, b1, b2, rfl, _, _, rfl, ?_⟩
          refine ⟨_, rfl, _, rfl, _, rfl, min b1 b2, s', rfl, rfl, nmul_l (by omega), _, rfl, _, _, rfl, rfl, trivial, _, rfl, _, _, rfl, rfl, nmul_l (by show min b1 b2 + 1 < 2 ^ 64; omega), by simp [sizeLine_eq], fun q hq => ?_⟩
          exact c _ hT _ q (s0.trans (same_upd hq)) (s0.free hq) upd_same
end
/-! ### the program: the first tick at which they differ -/
theorem RowsAt.append {H : Hp} : ∀ {ts us : List Addr} {rs qs : List Row3}, RowsAt H ts rs → RowsAt H us qs → RowsAt H (ts ++ us) (rs ++ qs)
  | [], _, [], _, _, h => h
  | _ :: _, _, _ :: _, _, h, g => ⟨h.1, RowsAt.append h.2 g⟩
  | [], _, _ :: _, _, h, _ => h.elim
  | _ :: _, _, [], _, h, _ => h.elim
/-- numbers that are not negative, sorted -/
theorem sorted_nats {T : List Nat} {ns : List Int} (hp : ns.Perm (T.map fun n : Nat => (n : Int))) (hu : ns.Pairwise (· ≤ ·)) : ∃ S : List Nat, ns = S.map (fun n : Nat => (n : Int)) ∧ S.Perm T ∧ S.Pairwise (· ≤ ·) := by
  have e : ns = (ns.map Int.toNat).map (fun n : Nat => (n : Int)) := by
    rw [List.map_map]
    refine ((List.map_congr_left fun x hx => ?_).trans (List.map_id ns)).symm
    obtain ⟨n, _, rfl⟩ := List.mem_map.mp (hp.mem_iff.mp hx)
    rfl
  refine ⟨ns.map Int.toNat, e, ?_, ?_⟩
  · have := hp.map Int.toNat
    rw [List.map_map] at this
    have z : T.map (Int.toNat ∘ fun n : Nat => (n : Int)) = T := by
      refine (List.map_congr_left fun x _ => ?_).trans (List.map_id T)
      rfl
    rwa [z] at this
  · rw [List.pairwise_map]
    exact hu.imp fun {a b} h => by omega
section
variable {P : Program} {w : World} {K : PySem.W.Frag} {mg : Str → Option Value} {base : Heap}
def spFstD (K : PySem.W.Frag) : Sp := fun vs H Q _ => ∃ (b1 b2 d : Nat) (q1 q2 : Addr) (w1 w2 : List Bool), vs = [.int (b1 : Nat), .ref q1, .int (b2 : Nat), .ref q2, .int (d : Nat)] ∧ 2 ≤ b1 ∧ b1 ≤ 64 ∧ 2 ≤ b2 ∧ b2 ≤ 64 ∧ 1 ≤ d ∧ d < 2 ^ 400 ∧ SqL K H q1 (w1.map lvV) ∧ SqL K H q2 (w2.map lvV) ∧ w1 ≠ [] ∧ w2 ≠ [] ∧
  ∀ r, FstP b1 w1 b2 w2 d r → ∀ H', Same H H' → Q (optV r) H'
theorem ok_first_difference {f : Addr} {fd : FuncData} (F : Fun K "first_difference" "first_difference" s_first_difference f fd) (T : Tx K mg) (h1 : Has P w K mg base 2 "path" ["base", "now", "due"] [] spPath) (h2 : Has P w K mg base 3 "goes_in_front" ["base", "levels", "now", "due", "lowest"] [] (spFront K)) :
    FnOk P w K mg base CX0 4 f fd ["base", "levels", "other_base", "other_levels", "due"] (spFstD K) := by
  obtain ⟨f_path, fd_path, ds_path, G_path, m_path, k_path, b_path, v_path⟩ := h1
  obtain ⟨f_goes_in_front, fd_goes_in_front, ds_goes_in_front, G_goes_in_front, m_goes_in_front, k_goes_in_front, b_goes_in_front, v_goes_in_front⟩ := h2
  refine F.ok sc_first_difference (fun vs H Q E h => ?_) (fun cdv A outer s H vs Q E hr h => ?_)
  · obtain ⟨b1, b2, d, q1, q2, w1, w2, rfl, _⟩ := h
    rfl
  · obtain ⟨b1, b2, d, q1, q2, w1, w2, rfl, hb1, hb1', hb2, hb2', hd, hd', hL1, hL2, n1, n2, c⟩ := h
    refine ⟨_, (pss_cons (ps_setLc (i := 5) (own := [("level", 8), ("digit", 9), ("tick", 10)]) (g := _) (tt := tYes) rfl sc_first_difference.nd rfl rfl (sw_true rfl rfl rfl (by decide +kernel)) (pi_list (pe_op op_cat (pe_call G_path (hr.mono (by decide)) (by rfl) m_path k_path b_path v_path pass0 (pa_cons (pv 0) (pa_cons pe_int (pa_cons (pv 4) pa_nil)))) (pe_call G_path (hr.mono (by decide)) (by rfl) m_path k_path b_path v_path pass0 (pa_cons (pv 2) (pa_cons pe_int (pa_cons (pv 4) pa_nil)))))) (blkOk_by (own := [("level", 8), ("digit", 9), ("tick", 10)]) (N := N_first_difference) (sc := defScope s_first_difference) (by decide +kernel)) (fun _ _ _ _ _ => (pg_tupK (K := K) (n := 3) rfl rfl (pgs_cons (pg_name (i := 8) sc_first_difference.nd rfl (.inl rfl)) (pgs_cons (pg_name (i := 9) sc_first_difference.nd rfl (.inl rfl)) (pgs_cons (pg_name (i := 10) sc_first_difference.nd rfl (.inl rfl)) pgs_nil))))) (fun _ _ _ _ _ => pts_nil) (fun _ _ _ _ _ => (pv 10)))
      (pss_cons (ps_for PassesOwn.never rfl (pi_list (pe_callB cr_sortedI (by rfl) T.b_sorted (by decide +kernel) (pa_cons (pv 5) pa_nil))) (pg_name (i := 6) sc_first_difference.nd rfl (.inl rfl))
        (pss_cons (ps_set (i := 7) sc_first_difference.nd rfl (.inl rfl) (pe_call G_goes_in_front hr (by rfl) m_goes_in_front k_goes_in_front b_goes_in_front v_goes_in_front pass0 (pa_cons (pv 0) (pa_cons (pv 1) (pa_cons (pv 6) (pa_cons (pv 4) (pa_cons pe_int pa_nil)))))))
        (pss_one (ps_if (pt_cmpR op_ne (pv 7) (pe_call G_goes_in_front hr (by rfl) m_goes_in_front k_goes_in_front b_goes_in_front v_goes_in_front pass0 (pa_cons (pv 2) (pa_cons (pv 3) (pa_cons (pv 6) (pa_cons (pv 4) (pa_cons pe_int pa_nil)))))) (nomark _))
          (pss_one (ps_ret (pv 6)))
          pss_nil))))
      (pss_one (ps_ret pe_non)))), ?_⟩
    refine ⟨_, rfl, _, rfl, b1, 0, d, rfl, hb1, hb1', by omega, hd', fun k1 hk1 Ha p1 ts1 sa hp1 ep1 R1 => ?_⟩
    refine ⟨_, rfl, _, rfl, b2, 0, d, rfl, hb2, hb2', by omega, hd', fun k2 hk2 Hb p2 ts2 sb hp2 ep2 R2 => ?_⟩
    have hsm : ∀ {b k : Nat}, 2 ≤ b → IsLev b 0 d k → (rowsOf b 0 d k).length ≤ 401 := fun {b k} hb hk => by
      have a := tail_len b d k
      have z := lev_small hk hb (by omega) hd'
      show (tailOf b d k).length + 1 ≤ 401
      omega
    have r1 := hsm hb1 hk1
    have r2 := hsm hb2 hk2
    have lt1 : ts1.length = (rowsOf b1 0 d k1).length := R1.len
    have lt2 : ts2.length = (rowsOf b2 0 d k2).length := R2.len
    have R : RowsAt Hb (ts1 ++ ts2) (rowsOf b1 0 d k1 ++ rowsOf b2 0 d k2) := (R1.same sb).append R2
    refine ⟨p1, p2, _, _, rfl, rfl, sb _ _ ep1, ep2, sizeLine_le (by rw [List.length_map, List.length_map]; omega), fun p hp => ?_⟩
    have sp := same_upd (o := .lst (ts1.map V.ref ++ ts2.map V.ref)) hp
    have ep : (upd Hb p (.lst (ts1.map V.ref ++ ts2.map V.ref))) p = some (.lst ((ts1 ++ ts2).map V.ref)) := by rw [upd_same, List.map_append]
    generalize upd Hb p (.lst (ts1.map V.ref ++ ts2.map V.ref)) = Hp1 at sp ep ⊢
    replace R := R.same sp
    have lts : (ts1 ++ ts2).length ≤ 802 := by rw [List.length_append]; omega
    generalize hrs : rowsOf b1 0 d k1 ++ rowsOf b2 0 d k2 = rs at R
    have hT : rs.map (·.2.2) = ticksOf b1 d k1 ++ ticksOf b2 d k2 := by rw [← hrs, List.map_append]; rfl
    generalize ts1 ++ ts2 = ts at ep R lts
    refine ⟨p, rfl, ⟨_, SqL.of ep⟩, fun D hD => lc_list (K := K) (a := p) (xs := ts.map V.ref) (fun i H' => Same Hp1 H' ∧ H' D = some (.lst ((rs.take i).map fun r => V.int (r.2.2 : Nat))))
      ⟨same_upd hD, upd_same⟩ (fun i H' _ ⟨sm, _⟩ => SqL.of (sm _ _ ep)) ?_ ?_⟩
    · rintro i x H' hx ⟨sm, eD⟩
      obtain ⟨ti, r, rfl, hti, hr, er⟩ := R.item hx
      refine ⟨ti, _, rfl, .inl (.inl (sm _ _ er)), rfl, _, _, rfl, _, _, rfl, _, _, rfl, rfl, rfl, yesT (iteT ?_)⟩
      refine ⟨_, rfl, _, eD, ?_, fun c o e => ?_, ?_⟩
      · have := R.len
        have hi := (List.getElem?_eq_some_iff.mp hti).1
        rw [List.length_map, List.length_take]
        exact sizeLine_ge (by omega)
      · rw [upd_ne (ne_of_none e hD)]
        exact sm _ _ e
      · rw [upd_same, List.take_add_one, hr, List.map_append]
        rfl
    · rintro H2 ⟨sm, eD⟩
      have eD2 : H2 D = some (.lst (((rs.map (·.2.2)).map fun n : Nat => (n : Int)).map V.int)) := by
        rw [eD, List.length_map, R.len, List.take_length, List.map_map, List.map_map]
        rfl
      refine ⟨_, rfl, D, _, rfl, SqL.of eD2, fun ns' p3 pm up hp3 => ?_⟩
      obtain ⟨S, rfl, pS, uS⟩ := sorted_nats pm up
      have s3 := same_upd (o := .lst ((S.map fun n : Nat => (n : Int)).map V.int)) hp3
      have e3 : (upd H2 p3 (.lst ((S.map fun n : Nat => (n : Int)).map V.int))) p3 = some (.lst (S.map fun n : Nat => V.int n)) := by rw [upd_same, List.map_map]; rfl
      generalize upd H2 p3 (.lst ((S.map fun n : Nat => (n : Int)).map V.int)) = H3 at s3 e3 ⊢
      have sH : Same H H3 := (((sa.trans sb).trans sp).trans sm).trans s3
      have hmem : ∀ t, t ∈ S ↔ t ∈ ticksOf b1 d k1 ++ ticksOf b2 d k2 := fun t => by rw [← hT]; exact pS.mem_iff
      have hlt : ∀ t ∈ S, t < d := fun t ht => by
        rcases List.mem_append.mp ((hmem t).mp ht) with y | y
        · exact ticks_lt hb1 hd y
        · exact ticks_lt hb2 hd y
      refine ⟨p3, rfl, ⟨_, SqL.of e3⟩, for_list (K := K) (a := p3) (xs := S.map fun n : Nat => V.int n) (fun i σ H' => ∃ y6 y7 y8 y9 y10, σ = [some (.int (b1 : Nat)), some (.ref q1), some (.int (b2 : Nat)), some (.ref q2), some (.int (d : Nat)), some (.ref D), y6, y7, y8, y9, y10] ∧ Same H3 H' ∧ ∀ t ∈ S.take i, ¬ Dif b1 w1 b2 w2 t d)
        ⟨none, none, none, none, none, rfl, fun _ _ e => e, fun t ht => by cases ht⟩ (fun i σ H' _ ⟨_, _, _, _, _, _, sm, _⟩ => SqL.of (sm _ _ e3)) ?_ ?_⟩
      · rintro i x σ H' hx ⟨y6, y7, y8, y9, y10, rfl, s4, hno⟩
        obtain ⟨t, ht, rfl⟩ : ∃ t, S[i]? = some t ∧ V.int (t : Nat) = x := by
          rw [List.getElem?_map] at hx
          cases hw : S[i]? with
          | none => rw [hw] at hx; cases hx
          | some v => rw [hw] at hx; exact ⟨v, rfl, Option.some.inj hx⟩
        have htd := hlt t (List.mem_of_getElem? ht)
        obtain ⟨j1, hj1⟩ := lev_any (n := t) (d := d) hb1 htd
        obtain ⟨j2, hj2⟩ := lev_any (n := t) (d := d) hb2 htd
        have s04 := sH.trans s4
        refine ⟨_, rfl, _, rfl, _, rfl, _, rfl, b1, t, d, 0, q1, w1, rfl, hb1, hb1', htd, hd', s04.seq hL1, n1, fun k hk H5 s5 => ?_⟩
        rw [← frB_eq hk]
        refine ⟨_, rfl, _, rfl, _, rfl, _, rfl, _, rfl, b2, t, d, 0, q2, w2, rfl, hb2, hb2', htd, hd', (s04.trans s5).seq hL2, n2, fun k' hk' H6 s6 => ?_⟩
        rw [← frB_eq hk']
        have s06 := (s04.trans s5).trans s6
        by_cases e : frB w1 b1 t d = frB w2 b2 t d
        · refine ⟨rfl, false, nF (congrArg V.bl e), iteF ⟨_, _, _, _, _, rfl, (s4.trans s5).trans s6, fun t' ht' => ?_⟩⟩
          rw [List.take_add_one, ht] at ht'
          rcases List.mem_append.mp ht' with y | y
          · exact hno t' y
          · rw [List.mem_singleton.mp y]
            exact fun z => z e
        · refine ⟨rfl, true, nT (fun z => e (V.bl.inj z)), iteT ⟨_, rfl, c (some t) ?_ _ s06⟩⟩
          have el : S = S.take i ++ t :: S.drop (i + 1) := by
            have hi := (List.getElem?_eq_some_iff.mp ht)
            have z := List.drop_eq_getElem_cons hi.1
            rw [hi.2] at z
            rw [← z, List.take_append_drop]
          exact fst_at hb1 hb2 hd hk1 hk2 hmem uS el hno e
      · rintro σ H' ⟨y6, y7, y8, y9, y10, rfl, s4, hno⟩
        rw [List.length_map, List.take_length] at hno
        exact c none (fst_none hb1 hb2 hk1 hk2 hmem hno) _ (sH.trans s4)
end
/-! ### the program: two wheels told apart -/
section
variable {P : Program} {w : World} {K : PySem.W.Frag} {mg : Str → Option Value} {base : Heap}
theorem due_small {b1 l1 b2 l2 e : Nat} (h1 : b1 ≤ 64) (h2 : b2 ≤ 64) (k1 : l1 ≤ 60) (k2 : l2 ≤ 60) (h : DueB b1 l1 b2 l2 e) : e < 2 ^ 400 := by
  have key : ∀ {b l : Nat}, b ≤ 64 → l ≤ 60 → (b + 1) * b ^ (l - 1) < 2 ^ 400 := fun {b l} hb hl => by
    have a : b ^ (l - 1) < 2 ^ 361 := pow_lt_240 hb (by omega)
    have c : (b + 1) * b ^ (l - 1) ≤ 2 ^ 7 * 2 ^ 361 := Nat.mul_le_mul (by omega) (Nat.le_of_lt a)
    exact Nat.lt_of_le_of_lt c (by rw [← Nat.pow_add]; exact Nat.pow_lt_pow_right (by omega) (by omega))
  rcases h with z | z
  · exact Nat.lt_of_le_of_lt z (key h1 k1)
  · exact Nat.lt_of_le_of_lt z (key h2 k2)
def spTold (K : PySem.W.Frag) : Sp := fun vs H Q _ => ∃ (b1 b2 : Nat) (q1 q2 : Addr) (w1 w2 : List Bool), vs = [.int (b1 : Nat), .ref q1, .int (b2 : Nat), .ref q2] ∧ 2 ≤ b1 ∧ b1 ≤ 64 ∧ 2 ≤ b2 ∧ b2 ≤ 64 ∧ w1.length ≤ 60 ∧ w2.length ≤ 60 ∧ SqL K H q1 (w1.map lvV) ∧ SqL K H q2 (w2.map lvV) ∧ w1 ≠ [] ∧ w2 ≠ [] ∧
  ∀ r, ToldP b1 w1 b2 w2 r → ∀ H' u, Same H H' → H u = none → H' u = some (.tup (tolV r)) → Q (.ref u) H'
theorem ok_told_apart {f : Addr} {fd : FuncData} (F : Fun K "told_apart" "told_apart" s_told_apart f fd) (h1 : Has P w K mg base 3 "check_base" ["base"] [] spCheckBase) (h2 : Has P w K mg base 4 "check_levels" ["levels"] [] (spCheckLevels K))
    (h3 : Has P w K mg base 2 "telling_dues" ["base", "levels", "other_base", "other_levels"] [] (spTelling K)) (h4 : Has P w K mg base 4 "first_difference" ["base", "levels", "other_base", "other_levels", "due"] [] (spFstD K)) :
    FnOk P w K mg base CX0 5 f fd ["base", "levels", "other_base", "other_levels"] (spTold K) := by
  obtain ⟨f_check_base, fd_check_base, ds_check_base, G_check_base, m_check_base, k_check_base, b_check_base, v_check_base⟩ := h1
  obtain ⟨f_check_levels, fd_check_levels, ds_check_levels, G_check_levels, m_check_levels, k_check_levels, b_check_levels, v_check_levels⟩ := h2
  obtain ⟨f_telling_dues, fd_telling_dues, ds_telling_dues, G_telling_dues, m_telling_dues, k_telling_dues, b_telling_dues, v_telling_dues⟩ := h3
  obtain ⟨f_first_difference, fd_first_difference, ds_first_difference, G_first_difference, m_first_difference, k_first_difference, b_first_difference, v_first_difference⟩ := h4
  refine F.ok sc_told_apart (fun vs H Q E h => ?_) (fun cdv A outer s H vs Q E hr h => ?_)
  · obtain ⟨b1, b2, q1, q2, w1, w2, rfl, _⟩ := h
    rfl
  · obtain ⟨b1, b2, q1, q2, w1, w2, rfl, hb1, hb1', hb2, hb2', l1, l2, hL1, hL2, n1, n2, c⟩ := h
    refine ⟨_, (pss_cons (ps_expr (pe_call G_check_base (hr.mono (by decide)) (by rfl) m_check_base k_check_base b_check_base v_check_base pass0 (pa_cons (pv 0) pa_nil)))
      (pss_cons (ps_expr (pe_call G_check_levels hr (by rfl) m_check_levels k_check_levels b_check_levels v_check_levels pass0 (pa_cons (pv 1) pa_nil)))
      (pss_cons (ps_expr (pe_call G_check_base (hr.mono (by decide)) (by rfl) m_check_base k_check_base b_check_base v_check_base pass0 (pa_cons (pv 2) pa_nil)))
      (pss_cons (ps_expr (pe_call G_check_levels hr (by rfl) m_check_levels k_check_levels b_check_levels v_check_levels pass0 (pa_cons (pv 3) pa_nil)))
      (pss_cons (ps_for PassesOwn.never rfl (pi_list (pe_call G_telling_dues (hr.mono (by decide)) (by rfl) m_telling_dues k_telling_dues b_telling_dues v_telling_dues pass0 (pa_cons (pv 0) (pa_cons (pv 1) (pa_cons (pv 2) (pa_cons (pv 3) pa_nil)))))) (pg_name (i := 4) sc_told_apart.nd rfl (.inl rfl))
        (pss_cons (ps_set (i := 5) sc_told_apart.nd rfl (.inl rfl) (pe_call G_first_difference hr (by rfl) m_first_difference k_first_difference b_first_difference v_first_difference pass0 (pa_cons (pv 0) (pa_cons (pv 1) (pa_cons (pv 2) (pa_cons (pv 3) (pa_cons (pv 4) pa_nil)))))))
        (pss_one (ps_if (pt_cmpR op_notN (pv 5) pe_non (nomark _))
          (pss_one (ps_ret (pe_tup (pa_cons pe_str (pa_cons (pv 4) (pa_cons (pv 5) pa_nil))))))
          pss_nil))))
      (pss_one (ps_ret (pe_tup (pa_cons pe_str pa_nil))))))))), ?_⟩
    refine ⟨_, rfl, b1, rfl, by omega, by omega, ?_⟩
    refine ⟨_, rfl, q1, w1, rfl, hL1, n1, by omega, fun Ha sa => ?_⟩
    refine ⟨_, rfl, b2, rfl, by omega, by omega, ?_⟩
    refine ⟨_, rfl, q2, w2, rfl, sa.seq hL2, n2, by omega, fun Hb sb => ?_⟩
    have sab := sa.trans sb
    refine ⟨_, rfl, _, rfl, _, rfl, _, rfl, b1, b2, q1, q2, w1, w2, rfl, hb1, hb1', hb2, hb2', l1, l2, sab.seq hL1, sab.seq hL2, n1, n2, fun L hT Hc q sc hq eq => ?_⟩
    have sH := sab.trans sc
    refine ⟨q, rfl, ⟨_, SqL.of eq⟩, for_list (K := K) (a := q) (xs := L.map fun n : Nat => V.int n) (fun i σ H' => ∃ y4 y5, σ = [some (.int (b1 : Nat)), some (.ref q1), some (.int (b2 : Nat)), some (.ref q2), y4, y5] ∧ Same Hc H' ∧ ∀ e ∈ L.take i, ∀ n, n < e → ¬ Dif b1 w1 b2 w2 n e)
      ⟨none, none, rfl, fun _ _ e => e, fun t ht => by cases ht⟩ (fun i σ H' _ ⟨_, _, _, sm, _⟩ => SqL.of (sm _ _ eq)) ?_ ?_⟩
    · rintro i x σ H' hx ⟨y4, y5, rfl, sm, hno⟩
      obtain ⟨e, he, rfl⟩ : ∃ t, L[i]? = some t ∧ V.int (t : Nat) = x := by
        rw [List.getElem?_map] at hx
        cases hw : L[i]? with
        | none => rw [hw] at hx; cases hx
        | some v => rw [hw] at hx; exact ⟨v, rfl, Option.some.inj hx⟩
      obtain ⟨e1, eB⟩ := hT.bd e (List.mem_of_getElem? he)
      have s1 := sH.trans sm
      refine ⟨_, rfl, _, rfl, _, rfl, _, rfl, _, rfl, b1, b2, e, q1, q2, w1, w2, rfl, hb1, hb1', hb2, hb2', e1, due_small hb1' hb2' l1 l2 eB, s1.seq hL1, s1.seq hL2, n1, n2, fun r hr H5 s5 => ?_⟩
      cases r with
      | none =>
        refine ⟨_, rfl, rfl, false, rfl, iteF ⟨_, _, rfl, sm.trans s5, fun e' he' => ?_⟩⟩
        rw [List.take_add_one, he] at he'
        rcases List.mem_append.mp he' with y | y
        · exact hno e' y
        · rw [List.mem_singleton.mp y]
          exact hr
      | some m =>
        refine ⟨_, rfl, rfl, true, rfl, iteT ⟨_, rfl, _, rfl, by simp [sizeLine_eq], fun u hu => ?_⟩⟩
        have el : L = L.take i ++ e :: L.drop (i + 1) := by
          have hi := (List.getElem?_eq_some_iff.mp he)
          have z := List.drop_eq_getElem_cons hi.1
          rw [hi.2] at z
          rw [← z, List.take_append_drop]
        have hT2 := hT
        rw [el] at hT2
        exact c (some (e, m)) (tells_at hT2 hno hr) _ u ((s1.trans s5).trans (same_upd hu)) ((s1.trans s5).free hu) upd_same
    · rintro σ H' ⟨y4, y5, rfl, sm, hno⟩
      rw [List.length_map, List.take_length] at hno
      exact ⟨by simp [sizeLine_eq], fun u hu => c none (tells_done hT hno) _ u ((sH.trans sm).trans (same_upd hu)) ((sH.trans sm).free hu) upd_same⟩
end
/-! ### law k29: the due that follows from the lists -/
theorem lv_injL {a b : Bool} : lvV a = lvV b ↔ a = b := by
  cases a <;> cases b <;> decide
section
variable {P : Program} {w : World} {K : PySem.W.Frag} {mg : Str → Option Value} {base : Heap}
def spWordAtL (K : PySem.W.Frag) : Sp := fun vs H Q _ => ∃ (q : Addr) (ws : List Bool) (k : Nat), vs = [.ref q, .int (k : Nat)] ∧ SqL K H q (ws.map lvV) ∧ ws ≠ [] ∧ Q (lvV (wordAt ws k)) H
theorem ok_word_atL {f : Addr} {fd : FuncData} (F : Fun K "_law_word_at" "_law_word_at" s__law_word_at f fd) (T : Tx K mg) : FnOk P w K mg base CX0 1 f fd ["_law_levels", "_law_level"] (spWordAtL K) := by
  refine F.ok sc__law_word_at (fun vs H Q E h => ?_) (fun cdv A outer s H vs Q E hr h => ?_)
  · obtain ⟨q, ws, k, rfl, _⟩ := h
    rfl
  · obtain ⟨q, ws, k, rfl, hL, hne, c⟩ := h
    have hp : 0 < ws.length := List.length_pos_iff.mpr hne
    have hg := word_get hne k
    refine ⟨_, (pss_one (ps_ret (pe_ix (ix_listK (K := K) rfl) (pv 0) (pe_callB (min2N rfl) (by rfl) T.b_min (by decide +kernel) (pa_cons (pv 1) (pa_cons (pe_op op_subN (pe_callB (lenK (K := K) rfl) (by rfl) T.b_len PySem.boot_len (pa_cons (pv 0) pa_nil)) pe_int) pa_nil))) (fun _ _ => rfl)))), ?_⟩
    refine ⟨.ref q, rfl, _, rfl, .ref q, rfl, q, _, rfl, .inl hL, (ws.map lvV).length, 1, rfl, rfl, by rw [List.length_map]; exact hp, k, (ws.map lvV).length - 1, rfl, q, _, ((min k (ws.length - 1) : Nat) : Int), _, rfl, ?_, hL, atI_nat hg, c⟩
    rw [List.length_map]
/-- what is found: the first stack's place and size, or None twice -/
def fstV (b : Nat) : Option Nat → List V
  | none => [.non, .non]
  | some i => [.int (i : Nat), .int ((b ^ i : Nat) : Int)]
def spFirst (K : PySem.W.Frag) : Sp := fun vs H Q _ => ∃ (b : Nat) (q : Addr) (ws : List Bool), vs = [.int (b : Nat), .ref q] ∧ 2 ≤ b ∧ b ≤ 64 ∧ SqL K H q (ws.map lvV) ∧ ws ≠ [] ∧
  ∀ o, LowO ws o → ∀ H' u, Same H H' → H u = none → H' u = some (.tup (fstV b o)) → Q (.ref u) H'
theorem ok_first {f : Addr} {fd : FuncData} (F : Fun K "_law_first" "_law_first" s__law_first f fd) (T : Tx K mg) : FnOk P w K mg base CX0 1 f fd ["_law_base", "_law_levels"] (spFirst K) := by
  refine F.ok sc__law_first (fun vs H Q E h => ?_) (fun cdv A outer s H vs Q E hr h => ?_)
  · obtain ⟨b, q, ws, rfl, _⟩ := h
    rfl
  · obtain ⟨b, q, ws, rfl, hb, hb64, hL, hne, c⟩ := h
    refine ⟨_, (pss_cons (ps_set (i := 2) sc__law_first.nd rfl (.inl rfl) pe_int)
      (pss_cons (ps_for PassesOwn.never rfl (pi_enum (by rfl) T.b_enumerate (pa_cons (pv 1) pa_nil)) (pg_tupK (K := K) (n := 2) rfl rfl (pgs_cons (pg_name (i := 3) sc__law_first.nd rfl (.inl rfl)) (pgs_cons (pg_name (i := 4) sc__law_first.nd rfl (.inl rfl)) pgs_nil)))
        (pss_cons (ps_if (pt_cmpR op_eq (pv 4) pe_str (nomark _))
          (pss_one (ps_ret (pe_tup (pa_cons (pv 3) (pa_cons (pv 2) pa_nil)))))
          pss_nil)
        (pss_one (ps_set (i := 2) sc__law_first.nd rfl (.inl rfl) (pe_op op_mulN (pv 2) (pv 0))))))
      (pss_one (ps_ret (pe_tup (pa_cons pe_non (pa_cons pe_non pa_nil))))))), ?_⟩
    refine ⟨.ref q, rfl, q, _, rfl, hL, for_enumK (K := K) (a := q) (xs := ws.map lvV) (fun i σ H' => ∃ y3 y4, σ = [some (.int (b : Nat)), some (.ref q), some (.int ((b ^ i : Nat) : Int)), y3, y4] ∧ Same H H' ∧ ∀ j, j < i → wordAt ws j = false)
      ⟨none, none, rfl, Same.refl H, fun j hj => absurd hj (Nat.not_lt_zero j)⟩ (fun i σ H' ⟨_, _, _, sm, _⟩ => sm.seq hL) ?_ ?_⟩
    · rintro i x U σ H' hx ⟨y3, y4, rfl, sm, hj⟩ hU
      obtain ⟨v, hv, rfl⟩ : ∃ v, ws[i]? = some v ∧ lvV v = x := by
        rw [List.getElem?_map] at hx
        cases hw : ws[i]? with
        | none => rw [hw] at hx; cases hx
        | some v => rw [hw] at hx; exact ⟨v, rfl, Option.some.inj hx⟩
      have hwv := wordAt_get hv
      have hi := (List.getElem?_eq_some_iff.mp hv).1
      have sU := same_upd (o := .tup [.int (i : Nat), lvV v]) hU
      refine ⟨U, _, rfl, .inl (.inl upd_same), rfl, _, _, rfl, _, _, rfl, rfl, ?_⟩
      refine ⟨_, rfl, ?_, v, congrArg V.bl (lv_dec v), ?_⟩
      · cases v <;> rfl
      · cases v with
        | true => exact iteT ⟨_, rfl, _, rfl, by simp [sizeLine_eq], fun u hu => c (some i) ⟨hi, hwv, hj⟩ _ u ((sm.trans sU).trans (same_upd hu)) ((sm.trans sU).free hu) upd_same⟩
        | false =>
          refine iteF ⟨_, rfl, _, rfl, _, _, rfl, rfl, nmul_r (by omega), ⟨some (.int (i : Nat)), some (lvV false), ?_, sm.trans sU, fun j h => ?_⟩⟩
          · rw [Nat.pow_succ]
            rfl
          · by_cases e : j = i
            · rw [e]; exact hwv
            · exact hj j (by omega)
    · rintro σ H' ⟨y3, y4, rfl, sm, hj⟩
      rw [List.length_map] at hj
      refine ⟨by simp [sizeLine_eq], fun u hu => c none (fun j => ?_) _ u (sm.trans (same_upd hu)) (sm.free hu) upd_same⟩
      have hp := List.length_pos_iff.mpr hne
      by_cases h : j < ws.length
      · exact hj j h
      · rw [wordAt_past (by omega) hne]
        exact hj _ (by omega)
def spOneBase (K : PySem.W.Frag) : Sp := fun vs H Q _ => ∃ (b : Nat) (q1 q2 : Addr) (w1 w2 : List Bool), vs = [.int (b : Nat), .ref q1, .ref q2] ∧ 2 ≤ b ∧ b ≤ 64 ∧ SqL K H q1 (w1.map lvV) ∧ SqL K H q2 (w2.map lvV) ∧ w1 ≠ [] ∧ w2 ≠ [] ∧ w1.length ≤ 60 ∧ w2.length ≤ 60 ∧
  ∀ r, ToldP b w1 b w2 r → ∀ H' u, Same H H' → H u = none → H' u = some (.tup (tolV r)) → Q (.ref u) H'
theorem ok_one_base {f : Addr} {fd : FuncData} (F : Fun K "_law_of_one_base" "_law_of_one_base" s__law_of_one_base f fd) (T : Tx K mg) (h1 : Has P w K mg base 1 "_law_word_at" ["_law_levels", "_law_level"] [] (spWordAtL K)) :
    FnOk P w K mg base CX0 2 f fd ["_law_base", "_law_one", "_law_two"] (spOneBase K) := by
  obtain ⟨f__law_word_at, fd__law_word_at, ds__law_word_at, G__law_word_at, m__law_word_at, k__law_word_at, b__law_word_at, v__law_word_at⟩ := h1
  refine F.ok sc__law_of_one_base (fun vs H Q E h => ?_) (fun cdv A outer s H vs Q E hr h => ?_)
  · obtain ⟨b, q1, q2, w1, w2, rfl, _⟩ := h
    rfl
  · obtain ⟨b, q1, q2, w1, w2, rfl, hb, hb64, hL1, hL2, n1, n2, k1, k2, c⟩ := h
    have p1 := List.length_pos_iff.mpr n1
    have p2 := List.length_pos_iff.mpr n2
    refine ⟨_, (pss_cons (ps_set (i := 3) sc__law_of_one_base.nd rfl (.inl rfl) pe_int)
      (pss_cons (ps_for PassesOwn.never rfl (pi_range1 (by rfl) T.b_range (pa_cons (pe_callB (max2N rfl) (by rfl) T.b_max (by decide +kernel) (pa_cons (pe_callB (lenK (K := K) rfl) (by rfl) T.b_len PySem.boot_len (pa_cons (pv 1) pa_nil)) (pa_cons (pe_callB (lenK (K := K) rfl) (by rfl) T.b_len PySem.boot_len (pa_cons (pv 2) pa_nil)) pa_nil))) pa_nil)) (pg_name (i := 4) sc__law_of_one_base.nd rfl (.inl rfl))
        (pss_cons (ps_if (pt_cmpR op_ne (pe_call G__law_word_at hr (by rfl) m__law_word_at k__law_word_at b__law_word_at v__law_word_at pass0 (pa_cons (pv 1) (pa_cons (pv 4) pa_nil))) (pe_call G__law_word_at hr (by rfl) m__law_word_at k__law_word_at b__law_word_at v__law_word_at pass0 (pa_cons (pv 2) (pa_cons (pv 4) pa_nil))) (nomark _))
          (pss_one (ps_ret (pe_tup (pa_cons pe_str (pa_cons (pv 3) (pa_cons pe_int pa_nil))))))
          pss_nil)
        (pss_one (ps_set (i := 3) sc__law_of_one_base.nd rfl (.inl rfl) (pe_op op_mulN (pv 3) (pv 0))))))
      (pss_one (ps_ret (pe_tup (pa_cons pe_str pa_nil)))))), ?_⟩
    refine ⟨.ref q1, rfl, q1, _, rfl, .inl hL1, _, rfl, q2, _, rfl, .inl hL2, (w1.map lvV).length, (w2.map lvV).length, rfl, ?_⟩
    rw [List.length_map, List.length_map]
    refine ⟨((max w1.length w2.length : Nat) : Int), rfl, by omega, by omega, for_range (lo := 0) (n := ((max w1.length w2.length : Nat) : Int).toNat) (Pv := fun i σ H' => (∃ y4, σ = [some (.int (b : Nat)), some (.ref q1), some (.ref q2), some (.int ((b ^ i : Nat) : Int)), y4]) ∧ H' = H ∧ ∀ j, j < i → wordAt w1 j = wordAt w2 j)
      ⟨⟨none, rfl⟩, rfl, fun j hj => absurd hj (Nat.not_lt_zero j)⟩ ?_ ?_⟩
    · rintro i σ H' hi ⟨⟨y4, rfl⟩, rfl, hj⟩
      rw [Int.toNat_natCast] at hi
      rw [show (0 : Int) + (i : Nat) = ((i : Nat) : Int) by omega]
      refine ⟨_, rfl, _, rfl, q1, w1, i, rfl, hL1, n1, _, rfl, _, rfl, q2, w2, i, rfl, hL2, n2, ?_⟩
      by_cases e : wordAt w1 i = wordAt w2 i
      · refine ⟨?_, false, nF (congrArg lvV e), iteF ⟨_, rfl, _, rfl, _, _, rfl, rfl, nmul_r (by omega), ⟨⟨some (.int (i : Nat)), ?_⟩, rfl, fun j h => ?_⟩⟩⟩
        · cases wordAt w1 i <;> cases wordAt w2 i <;> rfl
        · rw [Nat.pow_succ]
          rfl
        · by_cases z : j = i
          · rw [z]; exact e
          · exact hj j (by omega)
      · refine ⟨?_, true, nT (fun z => e (lv_injL.mp z)), iteT ⟨_, rfl, by simp [sizeLine_eq], fun u hu => c (some (b ^ i, 0)) (told_same hb e hj) _ u (same_upd hu) hu upd_same⟩⟩
        cases wordAt w1 i <;> cases wordAt w2 i <;> rfl
    · rintro σ H' ⟨⟨y4, rfl⟩, rfl, hj⟩
      rw [Int.toNat_natCast] at hj
      exact ⟨by simp [sizeLine_eq], fun u hu => c none (told_alike_of hb (by omega) hj) _ u (same_upd hu) hu upd_same⟩
end
/-! ### law k29: the due of two wheels -/
theorem byN_two {x y : V} {m n : Nat} (h : m ≠ n) : (LamS0.byN [(x, (m : Int)), (y, (n : Int))]).map (·.1) = if m < n then [x, y] else [y, x] := by
  show ((LamS0.byN [(x, (m : Int)), (y, (n : Int))]).map (·.1)) = _
  unfold LamS0.byN
  rw [show ([(x, (m : Int)), (y, (n : Int))] : List (V × Int)) = [(x, (m : Int))] ++ [(y, (n : Int))] from rfl]
  by_cases c : m < n
  · rw [if_pos c]
    have c2 : m ≤ n := by omega
    simp [List.mergeSort, List.merge, List.MergeSort.Internal.splitInTwo, c2]
  · rw [if_neg c]
    have c2 : ¬ m ≤ n := by omega
    simp [List.mergeSort, List.merge, List.MergeSort.Internal.splitInTwo, c2]
theorem fstV_eq {b : Nat} {o : Option Nat} : fstV b o = [optV o, optV (o.map (b ^ ·))] := by
  cases o <;> rfl
/-- min of the ticks that are there, of two -/
theorem min_two {K : PySem.W.Frag} {s0 s1 s2 s3 s4 s6 s8 : Option V} {H : Hp} {x y : Option Nat} {m : Nat} {Q : VK} (hm : m ∈ [x, y].filterMap id) (hmin : ∀ z ∈ [x, y].filterMap id, m ≤ z) (q : ∀ H', Same H H' → Q (.int (m : Nat)) H') :
    tCB (rMin K) (tCons (tLc (iTup K (tTup (tCons (tVar 5) (tCons (tVar 7) tNil)))) (gName 8) (tTest (tOp (fun x y H Q => y = V.non ∧ Q (V.bl !decide (x = V.non)) H) (tVar 8) (tC V.non))) (tVar 8) [8]) tNil) [s0, s1, s2, s3, s4, some (optV x), s6, some (optV y), s8] H Q := by
  refine ⟨_, rfl, _, rfl, by simp [sizeLine_eq], fun t ht => ⟨t, rfl, ⟨_, SqT.of upd_same⟩, fun D hD => ?_⟩⟩
  have st := same_upd (o := .tup [optV x, optV y]) ht
  have nD : H D = none := st.free hD
  have htD : D ≠ t := fun z => by rw [z, upd_same] at hD; cases hD
  refine lc_tup (K := K) (a := t) (xs := [optV x, optV y]) (fun i G => Same H G ∧ G t = some (.tup [optV x, optV y]) ∧ G D = some (.lst ((([x, y].take i).filterMap id).map fun n : Nat => V.int n)))
    ⟨st.trans (same_upd hD), by rw [upd_ne (Ne.symm htD), upd_same], upd_same⟩ (fun i G ⟨_, e, _⟩ => SqT.of e) ?_ ?_
  · rintro i xx G hx ⟨sm, et, eD⟩
    obtain ⟨oo, ho, rfl⟩ : ∃ oo, [x, y][i]? = some oo ∧ optV oo = xx := by
      match i, hx with
      | 0, hx => exact ⟨x, rfl, Option.some.inj hx⟩
      | 1, hx => exact ⟨y, rfl, Option.some.inj hx⟩
      | i + 2, hx => simp at hx
    have hi : i < 2 := (List.getElem?_eq_some_iff.mp ho).1
    have eL : ([x, y].take (i + 1)).filterMap id = ([x, y].take i).filterMap id ++ oo.toList := by
      rw [List.take_add_one, ho, List.filterMap_append]
      cases oo <;> rfl
    have hlen : (([x, y].take i).filterMap id).length ≤ i := Nat.le_trans (List.length_filterMap_le _ _) (by rw [List.length_take]; omega)
    cases oo with
    | none =>
      refine ⟨rfl, _, rfl, rfl, false, rfl, iteF ⟨sm, et, ?_⟩⟩
      rw [eL, eD]
      simp
    | some n =>
      refine ⟨rfl, _, rfl, rfl, true, rfl, iteT ⟨_, rfl, _, eD, ?_, ?_, ?_, ?_⟩⟩
      · rw [List.length_map]
        exact Nat.lt_of_le_of_lt hlen (Nat.lt_of_lt_of_le hi (by rw [sizeLine_eq]; omega))
      · intro a o e
        rw [upd_ne (ne_of_none e nD)]
        exact sm _ _ e
      · rw [upd_ne (Ne.symm htD)]
        exact et
      · rw [upd_same, eL, List.map_append]
        rfl
  · rintro G ⟨sm, et, eD⟩
    refine ⟨D, ([x, y].filterMap id).map fun n : Nat => (n : Int), rfl, ?_, ?_, fun k hk hk2 => ?_⟩
    · rw [List.map_map]
      exact SqL.of eD
    · rw [List.length_map]
      exact List.length_pos_of_mem hm
    · obtain ⟨z, hz, rfl⟩ := List.mem_map.mp hk
      have a := hmin z hz
      have b := hk2 _ (List.mem_map.mpr ⟨m, hm, rfl⟩)
      have e : z = m := by omega
      rw [e]
      exact q G sm
section
variable {P : Program} {w : World} {K : PySem.W.Frag} {mg : Str → Option Value} {base : Heap}
def spDue29 (K : PySem.W.Frag) (lamT : List (Addr × Str)) : Sp := fun vs H Q _ => ∃ (p1 p2 : Addr) (b1 b2 : Nat) (q1 q2 : Addr) (w1 w2 : List Bool), vs = [.ref p1, .ref p2] ∧ H p1 = some (.tup [.int (b1 : Nat), .ref q1]) ∧ H p2 = some (.tup [.int (b2 : Nat), .ref q2]) ∧ 2 ≤ b1 ∧ b1 ≤ 64 ∧ 2 ≤ b2 ∧ b2 ≤ 64 ∧
  H q1 = some (.lst (w1.map lvV)) ∧ H q2 = some (.lst (w2.map lvV)) ∧ w1 ≠ [] ∧ w2 ≠ [] ∧ w1.length ≤ 60 ∧ w2.length ≤ 60 ∧ LamX.Tabs lamT H ∧
  ∀ r, ToldP b1 w1 b2 w2 r → ∀ H' u, LamX.ExtN H H' → LamX.Tabs lamT H' → H' u = some (.tup (tolV r)) → Q (.ref u) H'
theorem ok_due29 {f cB Pt : Addr} {fd : FuncData} {lamT : List (Addr × Str)} (F : FunC K "_law_due" s__law_due f fd (.ref cB)) (T : Tx K mg) (TB : LamX.TabB base mg cB Pt) (hmT : (Pt, lamQ "_law_due") ∈ lamT) (hu : ∀ p ∈ lamT, p.1 = Pt → p.2 = lamQ "_law_due")
    (h1 : Has P w K mg base 1 "_law_word_at" ["_law_levels", "_law_level"] [] (spWordAtL K)) (h2 : Has P w K mg base 1 "_law_first" ["_law_base", "_law_levels"] [] (spFirst K))
    (h3 : Has P w K mg base 2 "_law_of_one_base" ["_law_base", "_law_one", "_law_two"] [] (spOneBase K)) :
    FnOk P w K mg base CX0 3 f fd ["_law_one", "_law_two"] (spDue29 K lamT) := by
  obtain ⟨f__law_word_at, fd__law_word_at, ds__law_word_at, G__law_word_at, m__law_word_at, k__law_word_at, b__law_word_at, v__law_word_at⟩ := h1
  obtain ⟨f__law_first, fd__law_first, ds__law_first, G__law_first, m__law_first, k__law_first, b__law_first, v__law_first⟩ := h2
  obtain ⟨f__law_of_one_base, fd__law_of_one_base, ds__law_of_one_base, G__law_of_one_base, m__law_of_one_base, k__law_of_one_base, b__law_of_one_base, v__law_of_one_base⟩ := h3
  refine F.ok sc__law_due (fun vs H Q E h => ?_) (fun A outer s H vs Q E hr h => ?_)
  · obtain ⟨p1, p2, b1, b2, q1, q2, w1, w2, rfl, _⟩ := h
    rfl
  · obtain ⟨p1, p2, b1, b2, q1, q2, w1, w2, rfl, e1, e2, hb1, hb1', hb2, hb2', hL1, hL2, n1, n2, k1, k2, hT, c⟩ := h
    refine ⟨_, (pss_cons (ps_if (pt_cmpR op_eq (pe_ix (ix_tupK (K := K) rfl) (pv 0) pe_int (fun _ _ => rfl)) (pe_ix (ix_tupK (K := K) rfl) (pv 1) pe_int (fun _ _ => rfl)) (nomark _))
        (pss_one (ps_ret (pe_call G__law_of_one_base hr (by rfl) m__law_of_one_base k__law_of_one_base b__law_of_one_base v__law_of_one_base pass0 (pa_cons (pe_ix (ix_tupK (K := K) rfl) (pv 0) pe_int (fun _ _ => rfl)) (pa_cons (pe_ix (ix_tupK (K := K) rfl) (pv 0) pe_int (fun _ _ => rfl)) (pa_cons (pe_ix (ix_tupK (K := K) rfl) (pv 1) pe_int (fun _ _ => rfl)) pa_nil))))))
        pss_nil)
      (pss_cons (ps_asg (LamS0.pe_sortL (K := K) (T := lamT) rfl hr.units hr.depth (by rfl) T.b_sorted (pe_lst (pa_cons (pv 0) (pa_cons (pv 1) pa_nil))) TB rfl hmT hu rfl ⟨rfl, rfl, rfl, by decide +kernel, rfl⟩ (fun _ _ _ _ _ _ => rfl)) (pg_unl (n := 2) rfl (pgs_cons (pg_name (i := 2) sc__law_due.nd rfl (.inl rfl)) (pgs_cons (pg_name (i := 3) sc__law_due.nd rfl (.inl rfl)) pgs_nil))))
      (pss_cons (ps_asg (pe_call G__law_first (hr.mono (by decide)) (by rfl) m__law_first k__law_first b__law_first v__law_first pass0 (pa_cons (pe_ix (ix_tupK (K := K) rfl) (pv 2) pe_int (fun _ _ => rfl)) (pa_cons (pe_ix (ix_tupK (K := K) rfl) (pv 2) pe_int (fun _ _ => rfl)) pa_nil))) (pg_tupK (K := K) (n := 2) rfl rfl (pgs_cons (pg_name (i := 4) sc__law_due.nd rfl (.inl rfl)) (pgs_cons (pg_name (i := 5) sc__law_due.nd rfl (.inl rfl)) pgs_nil))))
      (pss_cons (ps_asg (pe_call G__law_first (hr.mono (by decide)) (by rfl) m__law_first k__law_first b__law_first v__law_first pass0 (pa_cons (pe_ix (ix_tupK (K := K) rfl) (pv 3) pe_int (fun _ _ => rfl)) (pa_cons (pe_ix (ix_tupK (K := K) rfl) (pv 3) pe_int (fun _ _ => rfl)) pa_nil))) (pg_tupK (K := K) (n := 2) rfl rfl (pgs_cons (pg_name (i := 6) sc__law_due.nd rfl (.inl rfl)) (pgs_cons (pg_name (i := 7) sc__law_due.nd rfl (.inl rfl)) pgs_nil))))
      (pss_cons (ps_if (PW.pt (pw_and (pt_cmpR op_isN (pv 5) pe_non (nomark _)) (pw_and1 (pt_cmpR op_isN (pv 7) pe_non (nomark _)))))
        (pss_one (ps_ret (pe_tup (pa_cons pe_str pa_nil))))
        pss_nil)
      (pss_cons (ps_if (PW.pt (pw_or (pt_cmpR op_isN (pv 5) pe_non (nomark _)) (pw_or (pt_cmpR op_isN (pv 7) pe_non (nomark _)) (pw_or1 (pt_cmpR op_ne (pv 5) (pv 7) (nomark _))))))
        (pss_one (ps_ret (pe_tup (pa_cons pe_str (pa_cons (pe_callB (minK (K := K) rfl rfl) (by rfl) T.b_min (by decide +kernel) (pa_cons (pe_lc (own := [("_law_tick", 8)]) (g := gName 8)  rfl sc__law_due.nd (pi_tup (pe_tup (pa_cons (pv 5) (pa_cons (pv 7) pa_nil)))) (blkOk_by (own := [("_law_tick", 8)]) (N := N__law_due) (sc := defScope s__law_due) (by decide +kernel)) (fun _ _ _ _ _ => (pg_name (i := 8) sc__law_due.nd rfl (.inl rfl))) (fun _ _ _ _ _ => (pts_one (pt_cmpR op_notN (pv 8) pe_non (nomark _)))) (fun _ _ _ _ _ => (pv 8))) pa_nil)) (pa_cons pe_int pa_nil))))))
        pss_nil)
      (pss_cons (ps_if (pt_cmpR op_eq (pe_call G__law_word_at (hr.mono (by decide)) (by rfl) m__law_word_at k__law_word_at b__law_word_at v__law_word_at pass0 (pa_cons (pe_ix (ix_tupK (K := K) rfl) (pv 2) pe_int (fun _ _ => rfl)) (pa_cons (pe_op op_addN (pv 4) pe_int) pa_nil))) pe_str (nomark _))
        (pss_one (ps_ret (pe_tup (pa_cons pe_str (pa_cons (pe_op op_mulN (pv 5) (pe_ix (ix_tupK (K := K) rfl) (pv 2) pe_int (fun _ _ => rfl))) (pa_cons pe_int pa_nil))))))
        pss_nil)
      (pss_cons (ps_if (PW.pt (pw_and (pt_cmpR op_eq (pe_ix (ix_tupK (K := K) rfl) (pv 3) pe_int (fun _ _ => rfl)) (pe_op op_addN (pe_ix (ix_tupK (K := K) rfl) (pv 2) pe_int (fun _ _ => rfl)) pe_int) (nomark _)) (pw_and1 (pt_cmpR op_eq (pe_call G__law_word_at (hr.mono (by decide)) (by rfl) m__law_word_at k__law_word_at b__law_word_at v__law_word_at pass0 (pa_cons (pe_ix (ix_tupK (K := K) rfl) (pv 3) pe_int (fun _ _ => rfl)) (pa_cons (pe_op op_addN (pv 6) pe_int) pa_nil))) pe_str (nomark _)))))
        (pss_one (ps_ret (pe_tup (pa_cons pe_str (pa_cons (pe_op op_mulN (pv 5) (pe_ix (ix_tupK (K := K) rfl) (pv 3) pe_int (fun _ _ => rfl))) (pa_cons (pe_op op_mulN (pv 5) (pe_ix (ix_tupK (K := K) rfl) (pv 2) pe_int (fun _ _ => rfl))) pa_nil))))))
        pss_nil)
      (pss_one (ps_ret (pe_tup (pa_cons pe_str (pa_cons (pe_op op_mulN (pv 5) (pe_op op_addN (pe_ix (ix_tupK (K := K) rfl) (pv 2) pe_int (fun _ _ => rfl)) pe_int)) (pa_cons pe_int pa_nil)))))))))))))), ?_⟩
    refine ⟨_, rfl, p1, _, 0, _, rfl, rfl, SqT.of e1, atI_nat (j := 0) rfl, _, rfl, p2, _, 0, _, rfl, rfl, SqT.of e2, atI_nat (j := 0) rfl, ?_⟩
    by_cases hb : b1 = b2
    · subst hb
      refine ⟨rfl, true, dT rfl, iteT ?_⟩
      refine ⟨_, rfl, p1, _, 0, _, rfl, rfl, SqT.of e1, atI_nat (j := 0) rfl, _, rfl, p1, _, 1, _, rfl, rfl, SqT.of e1, atI_nat (j := 1) rfl, _, rfl, p2, _, 1, _, rfl, rfl, SqT.of e2, atI_nat (j := 1) rfl, b1, q1, q2, w1, w2, rfl, hb1, hb1', SqL.of hL1, SqL.of hL2, n1, n2, k1, k2, fun r hr' H' u sm hu eu => ?_⟩
      exact c r hr' H' u (LamX.ExtN.of sm) (hT.ext sm) eu
    · refine ⟨rfl, false, dF (fun z => hb (by have := V.int.inj z; omega)), iteF ?_⟩
      refine ⟨_, rfl, _, rfl, by simp [sizeLine_eq], fun D hD => ?_⟩
      have sD := same_upd (o := .lst [.ref p1, .ref p2]) hD
      refine ⟨hT.ext sD, fun H2 eN T2 => ?_⟩
      have up : ∀ {a : Addr} {o : HO}, H a = some o → (∀ ps, o ≠ .tbl ps) → H2 a = some o := fun h n => eN _ _ (sD _ _ h) n
      have f1 := up e1 (fun ps z => by cases z)
      have f2 := up e2 (fun ps z => by cases z)
      have fL1 := up hL1 (fun ps z => by cases z)
      have fL2 := up hL2 (fun ps z => by cases z)
      have fD : H2 D = some (.lst [.ref p1, .ref p2]) := eN _ _ upd_same (fun ps z => by cases z)
      refine ⟨D, [(.ref p1, (b1 : Int)), (.ref p2, (b2 : Int))], rfl, SqL.of fD, ?_, fun U hU => ?_⟩
      · intro z hz
        rcases List.mem_cons.mp hz with rfl | hz
        · exact ⟨p1, _, rfl, SqT.of f1⟩
        · rw [List.mem_singleton.mp hz]
          exact ⟨p2, _, rfl, SqT.of f2⟩
      rw [byN_two hb]
      obtain ⟨pl, pm, bl, bm, ql, qm, wl, wm, eS, g1, g2, gl1, gl2, hlt, c1, c2, c3, c4, m1, m2, tr⟩ : ∃ (pl pm : Addr) (bl bm : Nat) (ql qm : Addr) (wl wm : List Bool), (if b1 < b2 then [V.ref p1, V.ref p2] else [V.ref p2, V.ref p1]) = [.ref pl, .ref pm] ∧ H2 pl = some (.tup [.int (bl : Nat), .ref ql]) ∧ H2 pm = some (.tup [.int (bm : Nat), .ref qm]) ∧
          H2 ql = some (.lst (wl.map lvV)) ∧ H2 qm = some (.lst (wm.map lvV)) ∧ bl < bm ∧ 2 ≤ bl ∧ bl ≤ 64 ∧ 2 ≤ bm ∧ bm ≤ 64 ∧ wl ≠ [] ∧ wm ≠ [] ∧ (∀ r, ToldP bl wl bm wm r → ToldP b1 w1 b2 w2 r) := by
        by_cases lt : b1 < b2
        · exact ⟨p1, p2, b1, b2, q1, q2, w1, w2, if_pos lt, f1, f2, fL1, fL2, lt, hb1, hb1', hb2, hb2', n1, n2, fun r h => h⟩
        · exact ⟨p2, p1, b2, b1, q2, q1, w2, w1, if_neg lt, f2, f1, fL2, fL1, by omega, hb2, hb2', hb1, hb1', n2, n1, fun r h => h.swap⟩
      rw [eS]
      have fin : ∀ r, ToldP bl wl bm wm r → ∀ H' u, Same (upd H2 U (.lst [.ref pl, .ref pm])) H' → H' u = some (.tup (tolV r)) → Q (.ref u) H' := fun r hr' H' u sm eu =>
        have sU := (same_upd (o := .lst [.ref pl, .ref pm]) hU).trans sm
        c r (tr r hr') H' u (((LamX.ExtN.of sD).trans eN).trans (LamX.ExtN.of sU)) (T2.ext sU) eu
      have sU := same_upd (o := .lst [.ref pl, .ref pm]) hU
      have g1 := sU _ _ g1
      have g2 := sU _ _ g2
      have gl1 := sU _ _ gl1
      have gl2 := sU _ _ gl2
      refine ⟨_, _, rfl, .inl (.inl upd_same), rfl, _, _, rfl, _, _, rfl, rfl, ?_⟩
      refine ⟨_, rfl, pl, _, 0, _, rfl, rfl, SqT.of g1, atI_nat (j := 0) rfl, _, rfl, pl, _, 1, _, rfl, rfl, SqT.of g1, atI_nat (j := 1) rfl, bl, ql, wl, rfl, c1, c2, SqL.of gl1, m1, fun o1 lo1 Ha ua sa hua eua => ?_⟩
      rw [fstV_eq] at eua
      refine ⟨ua, _, rfl, .inl (.inl eua), rfl, _, _, rfl, _, _, rfl, rfl, ?_⟩
      have g2a := sa _ _ g2
      refine ⟨_, rfl, pm, _, 0, _, rfl, rfl, SqT.of g2a, atI_nat (j := 0) rfl, _, rfl, pm, _, 1, _, rfl, rfl, SqT.of g2a, atI_nat (j := 1) rfl, bm, qm, wm, rfl, c3, c4, SqL.of (sa _ _ gl2), m2, fun o2 lo2 Hb ub sb hub eub => ?_⟩
      rw [fstV_eq] at eub
      refine ⟨ub, _, rfl, .inl (.inl eub), rfl, _, _, rfl, _, _, rfl, rfl, ?_⟩
      have sab := sa.trans sb
      have r1 := sab _ _ g1
      have r2 := sab _ _ g2
      have rl1 := sab _ _ gl1
      have rl2 := sab _ _ gl2
      have fin2 : ∀ r, ToldP bl wl bm wm r → ∀ H' u, Same Hb H' → H' u = some (.tup (tolV r)) → Q (.ref u) H' := fun r hr' H' u sm eu => fin r hr' H' u (sab.trans sm) eu
      clear fin g1 g2 gl1 gl2 g2a eua eub fD f1 f2 fL1 fL2 up
      match o1, o2, lo1, lo2 with
      | none, none, lo1, lo2 =>
        refine ⟨_, rfl, rfl, true, dT rfl, iteT ⟨_, rfl, rfl, true, dT rfl, iteT ⟨by simp [sizeLine_eq], fun u hu => fin2 none (told_queues c1 c3 lo1 lo2) _ u (same_upd hu) upd_same⟩⟩⟩
      | some i1, none, lo1, lo2 =>
        refine ⟨_, rfl, rfl, false, dF (fun z => V.noConfusion z), iteF (iteF ?_)⟩
        refine ⟨_, rfl, rfl, false, dF (fun z => V.noConfusion z), iteF ⟨_, rfl, rfl, true, dT rfl, iteT (iteT ?_)⟩⟩
        refine min_two (x := some (bl ^ i1)) (y := none) (m := bl ^ i1) (by simp) (by simp) fun H' sm => ⟨by simp [sizeLine_eq], fun u hu => fin2 (some (bl ^ i1, 0)) (told_less c1 c3 lo1.2 lo2 fun j z => by cases z) _ u (sm.trans (same_upd hu)) upd_same⟩
      | none, some i2, lo1, lo2 =>
        refine ⟨_, rfl, rfl, true, dT rfl, iteT ⟨_, rfl, rfl, false, dF (fun z => V.noConfusion z), iteF ?_⟩⟩
        refine ⟨_, rfl, rfl, true, dT rfl, iteT (iteT ?_)⟩
        refine min_two (x := none) (y := some (bm ^ i2)) (m := bm ^ i2) (by simp) (by simp) fun H' sm => ⟨by simp [sizeLine_eq], fun u hu => fin2 (some (bm ^ i2, 0)) (told_less c3 c1 lo2.2 lo1 fun j z => by cases z).swap _ u (sm.trans (same_upd hu)) upd_same⟩
      | some i1, some i2, lo1, lo2 =>
        refine ⟨_, rfl, rfl, false, dF (fun z => V.noConfusion z), iteF (iteF ?_)⟩
        refine ⟨_, rfl, rfl, false, dF (fun z => V.noConfusion z), iteF ⟨_, rfl, rfl, false, dF (fun z => V.noConfusion z), iteF ?_⟩⟩
        by_cases hs : bl ^ i1 = bm ^ i2
        · refine ⟨_, rfl, _, rfl, rfl, false, nF (congrArg (fun n : Nat => V.int n) hs), iteF ?_⟩
          refine ⟨_, rfl, pl, _, 1, _, rfl, rfl, SqT.of r1, atI_nat (j := 1) rfl, _, rfl, i1, 1, rfl, rfl, trivial, ql, wl, i1 + 1, rfl, SqL.of rl1, m1, ?_⟩
          cases hw : wordAt wl (i1 + 1) with
          | false =>
            refine ⟨rfl, true, dT rfl, iteT ⟨_, rfl, _, rfl, pl, _, 0, _, rfl, rfl, SqT.of r1, atI_nat (j := 0) rfl, bl ^ i1, bl, rfl, rfl, nmul_r (by omega), by simp [sizeLine_eq], fun u hu => fin2 (some (bl ^ i1 * bl, 0)) ?_ _ u (same_upd hu) upd_same⟩⟩
            rw [Nat.mul_comm]
            exact told_over c1 c3 lo1.2 lo2.2 hs hlt hw
          | true =>
            refine ⟨rfl, false, dF (fun z => by cases z), iteF ?_⟩
            have last : ¬ (bm = bl + 1 ∧ wordAt wm (i2 + 1) = false) → ToldP bl wl bm wm (some (bl ^ i1 * (bl + 1), 0)) := fun hn => by
              rw [Nat.mul_comm]
              exact told_two c1 c3 lo1.2 lo2.2 hs hlt hw hn
            refine ⟨_, rfl, pm, _, 0, _, rfl, rfl, SqT.of r2, atI_nat (j := 0) rfl, _, rfl, pl, _, 0, _, rfl, rfl, SqT.of r1, atI_nat (j := 0) rfl, bl, 1, rfl, rfl, trivial, rfl, ?_⟩
            by_cases hn : bm = bl + 1
            · refine ⟨true, dT (congrArg (fun n : Nat => V.int n) hn), iteT ?_⟩
              refine ⟨_, rfl, pm, _, 1, _, rfl, rfl, SqT.of r2, atI_nat (j := 1) rfl, _, rfl, i2, 1, rfl, rfl, trivial, qm, wm, i2 + 1, rfl, SqL.of rl2, m2, ?_⟩
              cases hw2 : wordAt wm (i2 + 1) with
              | false =>
                refine ⟨rfl, true, dT rfl, iteT ⟨_, rfl, _, rfl, pm, _, 0, _, rfl, rfl, SqT.of r2, atI_nat (j := 0) rfl, bl ^ i1, bm, rfl, rfl, nmul_r (by omega), _, rfl, _, rfl, pl, _, 0, _, rfl, rfl, SqT.of r1, atI_nat (j := 0) rfl, bl ^ i1, bl, rfl, rfl, nmul_r (by omega), by simp [sizeLine_eq], fun u hu => fin2 (some (bl ^ i1 * bm, bl ^ i1 * bl)) ?_ _ u (same_upd hu) upd_same⟩⟩
                rw [Nat.mul_comm, Nat.mul_comm (bl ^ i1)]
                exact told_next c1 c3 lo1.2 lo2.2 hs hn hw hw2
              | true =>
                refine ⟨rfl, false, dF (fun z => by cases z), iteF ⟨_, rfl, _, rfl, pl, _, 0, _, rfl, rfl, SqT.of r1, atI_nat (j := 0) rfl, bl, 1, rfl, rfl, trivial, bl ^ i1, bl + 1, rfl, rfl, nmul_r (by omega), by simp [sizeLine_eq], fun u hu => fin2 (some (bl ^ i1 * (bl + 1), 0)) (last (fun z => by rw [hw2] at z; cases z.2)) _ u (same_upd hu) upd_same⟩⟩
            · refine ⟨false, dF (fun z => hn (Int.ofNat.inj (V.int.inj z))), iteF (iteF ⟨_, rfl, _, rfl, pl, _, 0, _, rfl, rfl, SqT.of r1, atI_nat (j := 0) rfl, bl, 1, rfl, rfl, trivial, bl ^ i1, bl + 1, rfl, rfl, nmul_r (by omega), by simp [sizeLine_eq], fun u hu => fin2 (some (bl ^ i1 * (bl + 1), 0)) (last (fun z => hn z.1)) _ u (same_upd hu) upd_same⟩)⟩
        · refine ⟨_, rfl, _, rfl, rfl, true, nT (fun z => hs (Int.ofNat.inj (V.int.inj z))), iteT ?_⟩
          rcases Nat.lt_or_gt_of_ne hs with l | l
          · refine min_two (x := some (bl ^ i1)) (y := some (bm ^ i2)) (m := bl ^ i1) (by simp) (fun z hz => by simp at hz; rcases hz with rfl | rfl; exact Nat.le_refl _; exact Nat.le_of_lt l) fun H' sm => ⟨by simp [sizeLine_eq], fun u hu => fin2 (some (bl ^ i1, 0)) (told_less c1 c3 lo1.2 lo2 fun j z => by cases z; exact l) _ u (sm.trans (same_upd hu)) upd_same⟩
          · refine min_two (x := some (bl ^ i1)) (y := some (bm ^ i2)) (m := bm ^ i2) (by simp) (fun z hz => by simp at hz; rcases hz with rfl | rfl; exact Nat.le_of_lt l; exact Nat.le_refl _) fun H' sm => ⟨by simp [sizeLine_eq], fun u hu => fin2 (some (bm ^ i2, 0)) (told_less c3 c1 lo2.2 lo1 fun j z => by cases z; exact l).swap _ u (sm.trans (same_upd hu)) upd_same⟩
end
/-! ### the law's drawing of numbers -/
def SrcAt (H : Hp) (p : Addr) : Prop := ∃ a b c : Int, H p = some (.lst [.int a, .int b, .int c])
/-- all but the source p stands as it was; p is a source again -/
structure Stp (p : Addr) (H H' : Hp) : Prop where
  keep : ∀ q o, q ≠ p → H q = some o → H' q = some o
  src : SrcAt H' p
theorem Stp.refl {p : Addr} {H : Hp} (h : SrcAt H p) : Stp p H H := ⟨fun _ _ _ e => e, h⟩
theorem Stp.trans {p : Addr} {H H1 H2 : Hp} (a : Stp p H H1) (b : Stp p H1 H2) : Stp p H H2 := ⟨fun q o n e => b.keep q o n (a.keep q o n e), b.src⟩
theorem Stp.same {p : Addr} {H H1 H2 : Hp} (a : Stp p H H1) (b : Same H1 H2) : Stp p H H2 := by
  obtain ⟨x, y, z, e⟩ := a.src
  exact ⟨fun q o n e => b q o (a.keep q o n e), ⟨x, y, z, b _ _ e⟩⟩
theorem SrcAt.same {p : Addr} {H H' : Hp} (h : SrcAt H p) (s : Same H H') : SrcAt H' p := by
  obtain ⟨a, b, c, e⟩ := h
  exact ⟨a, b, c, s _ _ e⟩
theorem Stp.free {p q : Addr} {H H' : Hp} (a : Stp p H H') (hq : H' q = none) : H q = none := by
  cases e : H q with
  | none => rfl
  | some o =>
    by_cases z : q = p
    · obtain ⟨x, y, u, w⟩ := a.src
      rw [z, w] at hq
      cases hq
    · rw [a.keep q o z e] at hq
      cases hq
theorem SrcAt.ne {H : Hp} {p l : Addr} (h : SrcAt H p) (hl : H l = none) : l ≠ p := fun e => by
  obtain ⟨x, y, z, w⟩ := h
  rw [e, w] at hl
  cases hl
theorem SrcAt.stp_same {p : Addr} {H H' : Hp} (h : SrcAt H p) (s : Same H H') : Stp p H H' := (Stp.refl h).same s
theorem Stp.seqL {K : PySem.W.Frag} {p a : Addr} {xs : List V} {H H' : Hp} (s : Stp p H H') (n : a ≠ p) (h : SqL K H a xs) : SqL K H' a xs := by
  rcases h with (h | ⟨o, h⟩) | h
  · exact .inl (.inl (s.keep _ _ n h))
  · exact .inl (.inr ⟨o, s.keep _ _ n h⟩)
  · exact .inr h
section
variable {P : Program} {w : World} {K : PySem.W.Frag} {mg : Str → Option Value} {base : Heap}
def spCellAt (K : PySem.W.Frag) : Sp := fun vs H Q _ => ∃ (a : Addr) (ns : List Int) (k : Nat), vs = [.ref a, .int (k : Nat)] ∧ SqL K H a (ns.map V.int) ∧ ∀ v : Int, Q (.int v) H
theorem ok_cell_at {f : Addr} {fd : FuncData} (F : Fun K "_law_cell_at" "_law_cell_at" s__law_cell_at f fd) (T : Tx K mg) : FnOk P w K mg base CX0 1 f fd ["_law_script", "_law_k"] (spCellAt K) := by
  refine F.ok sc__law_cell_at (fun vs H Q E h => ?_) (fun cdv A outer s H vs Q E hr h => ?_)
  · obtain ⟨a, ns, k, rfl, _⟩ := h
    rfl
  · obtain ⟨a, ns, k, rfl, hS, q⟩ := h
    refine ⟨_, (pss_cons (ps_if (pt_cmpR op_lt (pv 1) (pe_callB (lenK (K := K) rfl) (by rfl) T.b_len PySem.boot_len (pa_cons (pv 0) pa_nil)) (nomark _))
        (pss_one (ps_ret (pe_ix (ix_listK (K := K) rfl) (pv 0) (pv 1) (fun _ _ => rfl))))
        pss_nil)
      (pss_one (ps_ret pe_int))), ?_⟩
    refine ⟨_, rfl, .ref a, rfl, a, ns.map V.int, rfl, .inl hS, _, _, rfl, rfl, _, rfl, ite2 (fun e => ?_) (fun e => ?_)⟩
    · have hk : k < ns.length := by
        have z := of_decide_eq_true e
        rw [List.length_map] at z
        omega
      have g : (ns.map V.int)[k]? = some (.int ns[k]) := by
        rw [List.getElem?_map, List.getElem?_eq_getElem hk]
        rfl
      exact ⟨.ref a, rfl, _, rfl, a, _, _, _, rfl, rfl, hS, atI_nat g, q _⟩
    · exact q 0
def spMixed : Sp := fun vs H Q _ => ∃ c k : Int, vs = [.int c, .int k] ∧ ∀ r : Int, 0 ≤ r → r < 2147483563 → Q (.int r) H
theorem ok_mixed {f : Addr} {fd : FuncData} (F : Fun K "_law_mixed" "_law_mixed" s__law_mixed f fd)  : FnOk P w K mg base CX0 1 f fd ["_law_cell", "_law_k"] spMixed := by
  refine F.ok sc__law_mixed (fun vs H Q E h => ?_) (fun cdv A outer s H vs Q E hr h => ?_)
  · obtain ⟨c, k, rfl, _⟩ := h
    rfl
  · obtain ⟨c, k, rfl, q⟩ := h
    refine ⟨_, (pss_cons (ps_set (i := 2) sc__law_mixed.nd rfl (.inl rfl) (pe_op op_add (pe_op op_mod (pv 0) pe_int) (pe_op op_mulA (pe_op op_fdivW (pv 0) pe_int) pe_int)))
      (pss_cons (ps_set (i := 2) sc__law_mixed.nd rfl (.inl rfl) (pe_op op_mod (pe_op op_mulA (pe_op op_add (pe_op op_add (pv 2) (pe_op op_mulA pe_int (pv 1))) pe_int) pe_int) pe_int))
      (pss_cons (ps_set (i := 2) sc__law_mixed.nd rfl (.inl rfl) (pe_op op_mod (pe_op op_mulA (pv 2) (pe_op op_add (pe_op op_add (pe_op op_fdivW (pv 2) pe_int) pe_int) (pv 1))) pe_int))
      (pss_one (ps_ret (pe_op op_mod (pe_op op_mulA (pv 2) (pe_op op_add (pe_op op_fdivW (pv 2) pe_int) pe_int)) pe_int)))))), ?_⟩
    refine ⟨_, rfl, c, 2147483629, rfl, rfl, (by decide : (0 : Int) < 2147483629), _, rfl, c, 2147483629, rfl, rfl, div_s (by decide) (by decide), _, 30011, rfl, rfl, mul_r (by decide) (by decide), _, _, rfl, rfl, ?_⟩
    refine ⟨_, rfl, _, rfl, 69621, k, rfl, rfl, mul_l (by decide) (by decide), _, _, rfl, rfl, _, 1, rfl, rfl, _, 48271, rfl, rfl, mul_r (by decide) (by decide), _, 2147483629, rfl, rfl, (by decide : (0 : Int) < 2147483629), ?_⟩
    generalize hl : (c % 2147483629 + c / 2147483629 * 30011 + 69621 * k + 1) * 48271 = l0
    have b1 : 0 ≤ l0 % 2147483629 := Int.emod_nonneg _ (by decide)
    have b2 : l0 % 2147483629 < 2147483629 := Int.emod_lt_of_pos _ (by decide)
    refine ⟨_, rfl, _, rfl, l0 % 2147483629, 907, rfl, rfl, div_s (by decide) (by decide), _, 16831, rfl, rfl, _, rfl, _, k, rfl, rfl, l0 % 2147483629, _, rfl, rfl, mul_l (by omega) (by omega), _, 2147483587, rfl, rfl, (by decide : (0 : Int) < 2147483587), ?_⟩
    generalize (l0 % 2147483629) * (l0 % 2147483629 / 907 + 16831 + k) = l1
    have b3 : 0 ≤ l1 % 2147483587 := Int.emod_nonneg _ (by decide)
    have b4 : l1 % 2147483587 < 2147483587 := Int.emod_lt_of_pos _ (by decide)
    refine ⟨_, rfl, _, rfl, _, 1201, rfl, rfl, div_s (by decide) (by decide), _, 30011, rfl, rfl, _, _, rfl, rfl, mul_l (i := l1 % 2147483587) (by omega) (by omega), _, 2147483563, rfl, rfl, (by decide : (0 : Int) < 2147483563), ?_⟩
    exact q _ (Int.emod_nonneg _ (by decide)) (Int.emod_lt_of_pos _ (by decide))
def spSource (K : PySem.W.Frag) : Sp := fun vs H Q _ => ∃ (a : Addr) (ns : List Int) (k : Nat), vs = [.ref a, .int (k : Nat)] ∧ SqL K H a (ns.map V.int) ∧ ∀ H' p, Same H H' → H p = none → SrcAt H' p → Q (.ref p) H'
theorem ok_source {f : Addr} {fd : FuncData} (F : Fun K "_law_source" "_law_source" s__law_source f fd) (T : Tx K mg) (h1 : Has P w K mg base 1 "_law_cell_at" ["_law_script", "_law_k"] [] (spCellAt K))
    (h2 : Has P w K mg base 1 "_law_mixed" ["_law_cell", "_law_k"] [] spMixed) : FnOk P w K mg base CX0 2 f fd ["_law_script", "_law_k"] (spSource K) := by
  obtain ⟨f__law_cell_at, fd__law_cell_at, ds__law_cell_at, G__law_cell_at, m__law_cell_at, k__law_cell_at, b__law_cell_at, v__law_cell_at⟩ := h1
  obtain ⟨f__law_mixed, fd__law_mixed, ds__law_mixed, G__law_mixed, m__law_mixed, k__law_mixed, b__law_mixed, v__law_mixed⟩ := h2
  refine F.ok sc__law_source (fun vs H Q E h => ?_) (fun cdv A outer s H vs Q E hr h => ?_)
  · obtain ⟨a, ns, k, rfl, _⟩ := h
    rfl
  · obtain ⟨a, ns, k, rfl, hS, q⟩ := h
    refine ⟨_, (pss_cons (ps_if (pt_cmpR op_lt (pv 1) (pe_callB (lenK (K := K) rfl) (by rfl) T.b_len PySem.boot_len (pa_cons (pv 0) pa_nil)) (nomark _))
        (pss_one (ps_ret (pe_lst (pa_cons (pe_ix (ix_listK (K := K) rfl) (pv 0) (pv 1) (fun _ _ => rfl)) (pa_cons (pe_ix (ix_listK (K := K) rfl) (pv 0) (pv 1) (fun _ _ => rfl)) (pa_cons pe_int pa_nil))))))
        pss_nil)
      (pss_cons (ps_set (i := 2) sc__law_source.nd rfl (.inl rfl) (pe_call G__law_mixed hr (by rfl) m__law_mixed k__law_mixed b__law_mixed v__law_mixed pass0 (pa_cons (pe_call G__law_cell_at hr (by rfl) m__law_cell_at k__law_cell_at b__law_cell_at v__law_cell_at pass0 (pa_cons (pv 0) (pa_cons pe_int pa_nil))) (pa_cons (pe_op op_add pe_int (pv 1)) pa_nil))))
      (pss_one (ps_ret (pe_lst (pa_cons (pv 2) (pa_cons (pv 2) (pa_cons pe_int pa_nil)))))))), ?_⟩
    refine ⟨_, rfl, .ref a, rfl, a, ns.map V.int, rfl, .inl hS, _, _, rfl, rfl, _, rfl, ite2 (fun e => ?_) (fun e => ?_)⟩
    · have hk : k < ns.length := by
        have z := of_decide_eq_true e
        rw [List.length_map] at z
        omega
      have g : (ns.map V.int)[k]? = some (.int ns[k]) := by
        rw [List.getElem?_map, List.getElem?_eq_getElem hk]
        rfl
      refine ⟨.ref a, rfl, _, rfl, a, _, _, _, rfl, rfl, hS, atI_nat g, .ref a, rfl, _, rfl, a, _, _, _, rfl, rfl, hS, atI_nat g, by simp [sizeLine_eq], fun p hp => ?_⟩
      exact q _ p (same_upd hp) hp ⟨_, _, _, upd_same⟩
    · refine ⟨.ref a, rfl, a, ns, 0, rfl, hS, fun v => ⟨_, rfl, 1000, _, rfl, rfl, v, _, rfl, fun r _ _ => ?_⟩⟩
      refine ⟨_, rfl, _, rfl, by simp [sizeLine_eq], fun p hp => ?_⟩
      exact q _ p (same_upd hp) hp ⟨_, _, _, upd_same⟩
def spNext : Sp := fun vs H Q _ => ∃ (p : Addr) (m : Int), vs = [.ref p, .int m] ∧ 0 < m ∧ m < 2 ^ 300 ∧ SrcAt H p ∧ ∀ (r : Nat) H', (r : Int) < m → Stp p H H' → Q (.int (r : Nat)) H'
theorem ok_next {f : Addr} {fd : FuncData} (F : Fun K "_law_next" "_law_next" s__law_next f fd)  (h2 : Has P w K mg base 1 "_law_mixed" ["_law_cell", "_law_k"] [] spMixed) : FnOk P w K mg base CX0 2 f fd ["_law_source_here", "_law_many"] spNext := by
  obtain ⟨f__law_mixed, fd__law_mixed, ds__law_mixed, G__law_mixed, m__law_mixed, k__law_mixed, b__law_mixed, v__law_mixed⟩ := h2
  refine F.ok sc__law_next (fun vs H Q E h => ?_) (fun cdv A outer s H vs Q E hr h => ?_)
  · obtain ⟨p, m, rfl, _⟩ := h
    rfl
  · obtain ⟨p, m, rfl, hm, hm2, ⟨a, b, c, hp⟩, q⟩ := h
    have fin : ∀ (x : Int) (H' : Hp), Stp p H H' → Q (.int (x % m)) H' := fun x H' s => by
      have h0 : 0 ≤ x % m := Int.emod_nonneg _ (by omega)
      have h1 : x % m < m := Int.emod_lt_of_pos _ hm
      have e : ((x % m).toNat : Int) = x % m := Int.toNat_of_nonneg h0
      have z := q (x % m).toNat H' (by omega) s
      rw [e] at z
      exact z
    have st : ∀ x y z : Int, Stp p H (upd H p (.lst [.int x, .int y, .int z])) := fun x y z => ⟨fun q o n e => by rw [upd_ne n]; exact e, ⟨x, y, z, upd_same⟩⟩
    refine ⟨_, (pss_cons (ps_if (pt_cmpR op_ge (pe_ix (ix_listK (K := K) rfl) (pv 0) pe_int (fun _ _ => rfl)) (pe_op op_pow pe_int pe_int) (nomark _))
        (pss_cons (ps_set (i := 2) sc__law_next.nd rfl (.inl rfl) (pe_op op_mod (pe_ix (ix_listK (K := K) rfl) (pv 0) pe_int (fun _ _ => rfl)) (pv 1)))
        (pss_cons (ps_asg (pe_op op_fdivW (pe_ix (ix_listK (K := K) rfl) (pv 0) pe_int (fun _ _ => rfl)) (pv 1)) (pg_sub (pv 0) pe_int set_list))
        (pss_one (ps_ret (pv 2)))))
        pss_nil)
      (pss_cons (ps_asg (pe_op op_add (pe_ix (ix_listK (K := K) rfl) (pv 0) pe_int (fun _ _ => rfl)) pe_int) (pg_sub (pv 0) pe_int set_list))
      (pss_one (ps_ret (pe_op op_mod (pe_call G__law_mixed hr (by rfl) m__law_mixed k__law_mixed b__law_mixed v__law_mixed pass0 (pa_cons (pe_ix (ix_listK (K := K) rfl) (pv 0) pe_int (fun _ _ => rfl)) (pa_cons (pe_ix (ix_listK (K := K) rfl) (pv 0) pe_int (fun _ _ => rfl)) pa_nil))) (pv 1)))))), ?_⟩
    refine ⟨.ref p, rfl, p, _, 0, .int a, rfl, rfl, SqL.of hp, atI_nat (j := 0) rfl, 10, 18, rfl, rfl, ⟨by decide, by decide, by decide⟩, a, _, rfl, rfl, _, rfl, ite2 (fun _ => ?_) (fun _ => ?_)⟩
    · refine ⟨.ref p, rfl, p, _, 0, .int a, rfl, rfl, SqL.of hp, atI_nat (j := 0) rfl, .int m, rfl, a, m, rfl, rfl, hm, ?_⟩
      refine ⟨.ref p, rfl, p, _, 0, .int a, rfl, rfl, SqL.of hp, atI_nat (j := 0) rfl, .int m, rfl, a, m, rfl, rfl, div_s hm hm2, ?_⟩
      refine ⟨.ref p, rfl, p, _, 0, 0, rfl, rfl, hp, rfl, ?_⟩
      exact ⟨_, rfl, fin a _ (st _ _ _)⟩
    · refine ⟨.ref p, rfl, p, _, 2, .int c, rfl, rfl, SqL.of hp, atI_nat (j := 2) rfl, c, 1, rfl, rfl, ?_⟩
      refine ⟨.ref p, rfl, p, _, 2, 2, rfl, rfl, hp, rfl, ?_⟩
      have h2 : (upd H p (.lst [.int a, .int b, .int (c + 1)])) p = some (.lst [.int a, .int b, .int (c + 1)]) := upd_same
      refine ⟨.ref p, rfl, p, _, 1, .int b, rfl, rfl, SqL.of h2, atI_nat (j := 1) rfl, .ref p, rfl, p, _, 2, .int (c + 1), rfl, rfl, SqL.of h2, atI_nat (j := 2) rfl, b, c + 1, rfl, fun r _ _ => ?_⟩
      exact ⟨.int m, rfl, r, m, rfl, rfl, hm, fin r _ (st _ _ _)⟩
end
/-! ### law k29: the levels drawn -/
theorem cutToL {xs : List V} {k : Nat} : cutV xs none (some (k : Int)) = xs.take k := by
  unfold cutV
  rw [HT.sIx_none, HT.sIx_nat, List.drop_zero, Nat.sub_zero]
  by_cases h : k ≤ xs.length
  · rw [Nat.min_eq_left h]
  · rw [Nat.min_eq_right (by omega), List.take_length, List.take_of_length_le (by omega)]
theorem rep_lv (b : Bool) (n : Nat) : (List.replicate n [lvV b]).flatten = (List.replicate n b).map lvV := by
  induction n with
  | zero => rfl
  | succ n ih => rw [List.replicate_succ, List.flatten_cons, ih, List.replicate_succ]; rfl
theorem rep_st (z : Nat) : (List.replicate z [V.str "stack"]).flatten = (List.replicate z true).map lvV := rep_lv true z
theorem pick29 {r : Nat} (h : r < 2) : ([.str "queue", .str "stack"] : List V)[r]? = some (lvV (decide (r = 1))) := by
  match r, h with
  | 0, _ => rfl
  | 1, _ => rfl
  | r + 2, h => omega
theorem many29 {r : Nat} (h : r < 2) : ∃ m : Int, ([.int 3, .int 20] : List V)[r]? = some (.int m) ∧ 0 < m ∧ m ≤ 20 := by
  match r, h with
  | 0, _ => exact ⟨3, rfl, by decide, by decide⟩
  | 1, _ => exact ⟨20, rfl, by decide, by decide⟩
  | r + 2, h => omega
section
variable {P : Program} {w : World} {K : PySem.W.Frag} {mg : Str → Option Value} {base : Heap}
def spLevelsOf : Sp := fun vs H Q _ => ∃ (p : Addr) (n : Nat), vs = [.ref p, .int (n : Nat)] ∧ n ≤ 1000 ∧ SrcAt H p ∧
  ∀ (ws : List Bool) H' q, ws ≠ [] → ws.length ≤ 59 → Stp p H H' → H q = none → H' q = some (.lst (ws.map lvV)) → Q (.ref q) H'
theorem ok_levels_of {f : Addr} {fd : FuncData} (F : Fun K "_law_levels_of" "_law_levels_of" s__law_levels_of f fd) (T : Tx K mg) (h1 : Has P w K mg base 2 "_law_next" ["_law_source_here", "_law_many"] [] spNext) :
    FnOk P w K mg base CX0 3 f fd ["_law_source_here", "_law_wait"] spLevelsOf := by
  obtain ⟨f__law_next, fd__law_next, ds__law_next, G__law_next, m__law_next, k__law_next, b__law_next, v__law_next⟩ := h1
  refine F.ok sc__law_levels_of (fun vs H Q E h => ?_) (fun cdv A outer s H vs Q E hr h => ?_)
  · obtain ⟨p, n, rfl, _⟩ := h
    rfl
  · obtain ⟨p, n, rfl, hn, hp, c⟩ := h
    refine ⟨_, (pss_cons (ps_set (i := 2) sc__law_levels_of.nd rfl (.inl rfl) (pe_op op_cat (pe_op op_rep (pe_lst (pa_cons pe_str pa_nil)) (pv 1)) (pe_op op_rep (pe_lst (pa_cons pe_str pa_nil)) (pe_callTy call_int1 (by rfl) T.b_int (by decide +kernel) (pa_cons (pe_cmpR op_gt (pe_call G__law_next hr (by rfl) m__law_next k__law_next b__law_next v__law_next pass0 (pa_cons (pv 0) (pa_cons pe_int pa_nil))) pe_int (nomark _)) pa_nil)))))
      (pss_cons (ps_for PassesOwn.never rfl (pi_range1 (by rfl) T.b_range (pa_cons (pe_call G__law_next hr (by rfl) m__law_next k__law_next b__law_next v__law_next pass0 (pa_cons (pv 0) (pa_cons (pe_ix (ix_listK (K := K) rfl) (pe_lst (pa_cons pe_int (pa_cons pe_int pa_nil))) (pe_call G__law_next hr (by rfl) m__law_next k__law_next b__law_next v__law_next pass0 (pa_cons (pv 0) (pa_cons pe_int pa_nil))) (fun _ _ => rfl)) pa_nil))) pa_nil)) (pg_name (i := 3) sc__law_levels_of.nd rfl (.inl rfl))
        (pss_one (ps_expr (pe_bm PySem.F.plainAttrs_list PySem.F.slot_list_append PySem.F.type_list_append mt_append (pv 2) (pa_cons (pe_ix (ix_listK (K := K) rfl) (pe_lst (pa_cons pe_str (pa_cons pe_str pa_nil))) (pe_call G__law_next hr (by rfl) m__law_next k__law_next b__law_next v__law_next pass0 (pa_cons (pv 0) (pa_cons pe_int pa_nil))) (fun _ _ => rfl)) pa_nil)))))
      (pss_one (ps_ret (pe_slice (sl_listK (K := K) rfl) (pe_orTK (K := K) rfl (pv 2) (pe_one (pe_lst (pa_cons pe_str pa_nil)))) po_none (po_some pe_int)))))), ?_⟩
    refine ⟨by simp [sizeLine_eq], fun l1 hl1 => ?_⟩
    have s1 := same_upd (o := .lst [.str "queue"]) hl1
    refine ⟨_, rfl, l1, _, _, rfl, rfl, upd_same, by omega, by omega, by simp [sizeLine_eq]; omega, fun l2 hl2 => ?_⟩
    have s2 := s1.trans (same_upd (o := .lst (List.replicate ((n : Nat) : Int).toNat [V.str "queue"]).flatten) hl2)
    refine ⟨by simp [sizeLine_eq], fun l3 hl3 => ?_⟩
    have e2 : (upd (upd (upd H l1 (.lst [.str "queue"])) l2 (.lst (List.replicate ((n : Nat) : Int).toNat [V.str "queue"]).flatten)) l3 (.lst [.str "stack"])) l2 = some (.lst ((List.replicate n false).map lvV)) := by
      rw [upd_ne (fun z => by rw [← z, upd_same] at hl3; cases hl3), upd_same, Int.toNat_natCast]
      exact congrArg (fun x => some (HO.lst x)) (rep_lv false n)
    have e3 : (upd (upd (upd H l1 (.lst [.str "queue"])) l2 (.lst (List.replicate ((n : Nat) : Int).toNat [V.str "queue"]).flatten)) l3 (.lst [.str "stack"])) l3 = some (.lst [.str "stack"]) := upd_same
    have s3 := s2.trans (same_upd (o := .lst [.str "stack"]) hl3)
    have n2 : H l2 = none := s1.free hl2
    have n3 : H l3 = none := s2.free hl3
    generalize (upd (upd (upd H l1 (.lst [.str "queue"])) l2 (.lst (List.replicate ((n : Nat) : Int).toNat [V.str "queue"]).flatten)) l3 (.lst [.str "stack"])) = H3 at *
    refine ⟨_, rfl, p, 6, rfl, by decide, by decide, hp.same s3, fun r Ha hr1 sa => ?_⟩
    have a2 := sa.keep _ _ (hp.ne n2) e2
    have a3 := sa.keep _ _ (hp.ne n3) e3
    obtain ⟨z, hz1, hz⟩ : ∃ z : Nat, z ≤ 1 ∧ (if decide ((0 : Int) < (r : Nat)) = true then (1 : Int) else 0) = ((z : Nat) : Int) := by
      split
      · exact ⟨1, Nat.le_refl 1, rfl⟩
      · exact ⟨0, Nat.zero_le 1, rfl⟩
    refine ⟨_, _, rfl, rfl, .inr ⟨_, rfl, l3, ((z : Nat) : Int), _, rfl, congrArg V.int hz, a3, by omega, by omega, by simp [sizeLine_eq]; omega, fun l4 hl4 => ?_⟩⟩
    have n24 : l2 ≠ l4 := fun e => by rw [← e, a2] at hl4; cases hl4
    refine ⟨l2, l4, _, _, rfl, rfl, (upd_ne n24).trans a2, upd_same, ?_, fun l5 hl5 => ?_⟩
    · rw [Int.toNat_natCast, rep_st z, List.length_map, List.length_map, List.length_replicate, List.length_replicate, sizeLine_eq]
      omega
    have s4 := same_upd (o := .lst (List.replicate ((z : Nat) : Int).toNat [V.str "stack"]).flatten) hl4
    have s5 := s4.trans (same_upd (o := .lst ((List.replicate n false).map lvV ++ (List.replicate ((z : Nat) : Int).toNat [V.str "stack"]).flatten)) hl5)
    have sA : Stp p H Ha := ((Stp.refl hp).same s3).trans sa
    have n5 : H l5 = none := sA.free (s4.free hl5)
    have eF := upd_same (H := upd Ha l4 (.lst (List.replicate ((z : Nat) : Int).toNat [V.str "stack"]).flatten)) (a := l5) (o := .lst ((List.replicate n false).map lvV ++ (List.replicate ((z : Nat) : Int).toNat [V.str "stack"]).flatten))
    rw [show ((List.replicate n false).map lvV ++ (List.replicate ((z : Nat) : Int).toNat [V.str "stack"]).flatten) = (List.replicate n false ++ List.replicate z true).map lvV by rw [Int.toNat_natCast, rep_st z, List.map_append]] at eF s5 ⊢
    have sB := sA.same s5
    generalize upd (upd Ha l4 (.lst (List.replicate ((z : Nat) : Int).toNat [V.str "stack"]).flatten)) l5 (.lst ((List.replicate n false ++ List.replicate z true).map lvV)) = HB at *
    refine ⟨_, rfl, by simp [sizeLine_eq], fun l6 hl6 => ?_⟩
    have s6 := same_upd (o := .lst [.int 3, .int 20]) hl6
    have sC := sB.same s6
    have n6 : H l6 = none := sB.free hl6
    refine ⟨_, rfl, p, 2, rfl, by decide, by decide, sC.src, fun r2 Hc h2 sc => ?_⟩
    have e6 := sc.keep _ _ (hp.ne n6) upd_same
    obtain ⟨m, hm, m0, m20⟩ := many29 (r := r2) (by omega)
    refine ⟨l6, _, ((r2 : Nat) : Int), .int m, rfl, rfl, SqL.of e6, atI_nat hm, ?_⟩
    refine ⟨p, m, rfl, m0, Int.lt_of_le_of_lt m20 (by decide), sc.src, fun r3 Hd h3 sd => ?_⟩
    have sD := (sC.trans sc).trans sd
    have eD := sd.keep _ _ (hp.ne n5) (sc.keep _ _ (hp.ne n5) (s6 _ _ eF))
    refine ⟨((r3 : Nat) : Int), rfl, by omega, by omega, for_range (lo := 0) (n := ((r3 : Nat) : Int).toNat) (Pv := fun i σ H' => ∃ (y : Option V) (ws : List Bool), σ = [some (.ref p), some (.int (n : Nat)), some (.ref l5), y] ∧ Stp p H H' ∧ H' l5 = some (.lst (ws.map lvV)) ∧ ws.length ≤ 1001 + i)
      ⟨none, _, rfl, sD, eD, by rw [List.length_append, List.length_replicate, List.length_replicate]; omega⟩ ?_ ?_⟩
    · rintro i σ H' hi ⟨y, ws, rfl, sm, eL, hl⟩
      have hi : i < r3 := by rwa [Int.toNat_natCast] at hi
      refine ⟨_, rfl, .inl ⟨rfl, _, .inl (.inl eL)⟩, ?_⟩
      refine ⟨by simp [sizeLine_eq], fun l7 hl7 => ?_⟩
      have s7 := same_upd (o := .lst [.str "queue", .str "stack"]) hl7
      have n7 : H l7 = none := sm.free hl7
      refine ⟨_, rfl, p, 2, rfl, by decide, by decide, (sm.same s7).src, fun r4 He h4 se => ?_⟩
      have e7 := se.keep _ _ (hp.ne n7) upd_same
      have e5 := se.keep _ _ (hp.ne n5) (s7 _ _ eL)
      refine ⟨l7, _, ((r4 : Nat) : Int), _, rfl, rfl, SqL.of e7, atI_nat (pick29 (by omega)), ?_⟩
      refine ⟨l5, _, _, rfl, rfl, e5, ?_, ?_⟩
      · rw [List.length_map]
        exact sizeLine_ge (by omega)
      · refine ⟨_, ws ++ [decide (r4 = 1)], rfl, ?_, ?_, by rw [List.length_append]; simp; omega⟩
        · have a := (sm.same s7).trans se
          exact ⟨fun q o h1 h2 => by
            have z := a.keep q o h1 h2
            rw [upd_ne (ne_of_none h2 n5)]
            exact z, by
            obtain ⟨x1, x2, x3, z⟩ := a.src
            exact ⟨x1, x2, x3, by rw [upd_ne (Ne.symm (hp.ne n5))]; exact z⟩⟩
        · rw [upd_same, List.map_append]
          rfl
    · rintro σ H' ⟨y, ws, rfl, sm, eL, hl⟩
      have ct : ∀ (vs : List Bool), cutV (vs.map lvV) none (some 59) = (vs.take 59).map lvV := fun vs => by
        have z := cutToL (xs := vs.map lvV) (k := 59)
        rw [List.map_take]
        exact z
      cases ws with
      | cons v ws =>
        refine ⟨_, rfl, true, .inl ⟨_, SqL.of eL, rfl⟩, iteT ⟨59, rfl, l5, _, rfl, SqL.of eL, fun q hq => ?_⟩⟩
        refine c ((v :: ws).take 59) _ q (by simp) (by rw [List.length_take]; omega) (sm.same (same_upd hq)) (sm.free hq) ?_
        rw [upd_same, ct]
      | nil =>
        refine ⟨_, rfl, false, .inl ⟨_, SqL.of eL, rfl⟩, iteF ⟨by simp [sizeLine_eq], fun l8 hl8 => ⟨59, rfl, l8, _, rfl, SqL.of upd_same, fun q hq => ?_⟩⟩⟩
        have s8 := same_upd (o := .lst [.str "queue"]) hl8
        refine c [false] _ q (by simp) (by simp) ((sm.same s8).same (same_upd hq)) ((sm.same s8).free hq) ?_
        rw [upd_same]
        exact congrArg (fun x => some (HO.lst x)) (ct [false])
end
/-! ### law k29: the two wheels drawn -/
/-- two wheels as rows: at t1 and t2 a base and the list of the levels -/
structure Two29 (H : Hp) (q : Addr) (b1 b2 : Nat) (w1 w2 : List Bool) (t1 t2 q1 q2 : Addr) : Prop where
  lq : H q = some (.lst [.ref t1, .ref t2])
  t1e : H t1 = some (.tup [.int (b1 : Nat), .ref q1])
  t2e : H t2 = some (.tup [.int (b2 : Nat), .ref q2])
  q1e : H q1 = some (.lst (w1.map lvV))
  q2e : H q2 = some (.lst (w2.map lvV))
  hb1 : 2 ≤ b1 ∧ b1 ≤ 64
  hb2 : 2 ≤ b2 ∧ b2 ≤ 64
  n1 : w1 ≠ [] ∧ w1.length ≤ 60
  n2 : w2 ≠ [] ∧ w2.length ≤ 60
theorem wait29 {r : Nat} (h : r < 3) : ∃ m : Int, ([.int 2, .int 9, .int 50] : List V)[r]? = some (.int m) ∧ 0 < m ∧ m ≤ 50 := by
  match r, h with
  | 0, _ => exact ⟨2, rfl, by decide, by decide⟩
  | 1, _ => exact ⟨9, rfl, by decide, by decide⟩
  | 2, _ => exact ⟨50, rfl, by decide, by decide⟩
  | r + 3, h => omega
theorem ixN_at29 {n j : Nat} (hj : j < n) : ixN n (j : Int) = some j := by
  unfold ixN
  rw [if_pos (by omega), if_pos (by omega)]
  simp
theorem cut_last29 (ws : List Bool) : cutV (ws.map lvV) (some (-1)) none = (ws.drop (ws.length - 1)).map lvV := by
  unfold cutV
  have e : HT.sIx (ws.map lvV).length 0 (some (-1)) = ws.length - 1 := by
    rw [List.length_map]
    show (if (-1 : Int) < 0 then ((-1 : Int) + (ws.length : Int)).toNat else min (Int.toNat (-1)) ws.length) = _
    rw [if_pos (by decide)]
    omega
  rw [e, HT.sIx_none, ← List.map_drop]
  refine List.take_of_length_le ?_
  rw [List.length_map, List.length_map, List.length_drop]
  exact Nat.le_refl _
section
variable {P : Program} {w : World} {K : PySem.W.Frag} {mg : Str → Option Value} {base : Heap}
def spWheels29 : Sp := fun vs H Q _ => ∃ p : Addr, vs = [.ref p] ∧ SrcAt H p ∧ ∀ b1 b2 w1 w2 t1 t2 q1 q2 q H', Two29 H' q b1 b2 w1 w2 t1 t2 q1 q2 → Stp p H H' → Q (.ref q) H'
theorem ok_wheels29 {f : Addr} {fd : FuncData} (F : Fun K "_law_wheels" "_law_wheels" s__law_wheels f fd) (T : Tx K mg) (h1 : Has P w K mg base 2 "_law_next" ["_law_source_here", "_law_many"] [] spNext)
    (h2 : Has P w K mg base 3 "_law_levels_of" ["_law_source_here", "_law_wait"] [] spLevelsOf) : FnOk P w K mg base CX0 4 f fd ["_law_source_here"] spWheels29 := by
  obtain ⟨f__law_next, fd__law_next, ds__law_next, G__law_next, m__law_next, k__law_next, b__law_next, v__law_next⟩ := h1
  obtain ⟨f__law_levels_of, fd__law_levels_of, ds__law_levels_of, G__law_levels_of, m__law_levels_of, k__law_levels_of, b__law_levels_of, v__law_levels_of⟩ := h2
  refine F.ok sc__law_wheels (fun vs H Q E h => ?_) (fun cdv A outer s H vs Q E hr h => ?_)
  · obtain ⟨p, rfl, _⟩ := h
    rfl
  · obtain ⟨p, rfl, hp, c⟩ := h
    refine ⟨_, (pss_cons (ps_set (i := 1) sc__law_wheels.nd rfl (.inl rfl) (pe_op op_add pe_int (pe_call G__law_next (hr.mono (by decide)) (by rfl) m__law_next k__law_next b__law_next v__law_next pass0 (pa_cons (pv 0) (pa_cons pe_int pa_nil)))))
      (pss_cons (ps_set (i := 2) sc__law_wheels.nd rfl (.inl rfl) (pe_call G__law_next (hr.mono (by decide)) (by rfl) m__law_next k__law_next b__law_next v__law_next pass0 (pa_cons (pv 0) (pa_cons (pe_ix (ix_listK (K := K) rfl) (pe_lst (pa_cons pe_int (pa_cons pe_int (pa_cons pe_int pa_nil)))) (pe_call G__law_next (hr.mono (by decide)) (by rfl) m__law_next k__law_next b__law_next v__law_next pass0 (pa_cons (pv 0) (pa_cons pe_int pa_nil))) (fun _ _ => rfl)) pa_nil))))
      (pss_cons (ps_set (i := 3) sc__law_wheels.nd rfl (.inl rfl) (pe_call G__law_next (hr.mono (by decide)) (by rfl) m__law_next k__law_next b__law_next v__law_next pass0 (pa_cons (pv 0) (pa_cons pe_int pa_nil))))
      (pss_cons (ps_if (pt_cmpR op_eq (pv 3) pe_int (nomark _))
        (pss_cons (ps_set (i := 4) sc__law_wheels.nd rfl (.inl rfl) (pe_call G__law_levels_of hr (by rfl) m__law_levels_of k__law_levels_of b__law_levels_of v__law_levels_of pass0 (pa_cons (pv 0) (pa_cons (pv 2) pa_nil))))
        (pss_cons (ps_set (i := 5) sc__law_wheels.nd rfl (.inl rfl) (pe_callTy call_list_of (by rfl) T.b_list (by decide +kernel) (pa_cons (pv 4) pa_nil)))
        (pss_cons (ps_set (i := 6) sc__law_wheels.nd rfl (.inl rfl) (pe_call G__law_next (hr.mono (by decide)) (by rfl) m__law_next k__law_next b__law_next v__law_next pass0 (pa_cons (pv 0) (pa_cons (pe_callB (lenK (K := K) rfl) (by rfl) T.b_len PySem.boot_len (pa_cons (pv 5) pa_nil)) pa_nil))))
        (pss_cons (ps_asg (pe_ix (ix_listK (K := K) rfl) (pe_lst (pa_cons pe_str (pa_cons pe_str pa_nil))) (pe_callTy call_int1 (by rfl) T.b_int (by decide +kernel) (pa_cons (pe_cmpR op_eq (pe_ix (ix_listK (K := K) rfl) (pv 5) (pv 6) (fun _ _ => rfl)) pe_str (nomark _)) pa_nil)) (fun _ _ => rfl)) (pg_sub (pv 5) (pv 6) set_list))
        (pss_one (ps_ret (pe_lst (pa_cons (pe_tup (pa_cons (pv 1) (pa_cons (pv 4) pa_nil))) (pa_cons (pe_tup (pa_cons (pv 1) (pa_cons (pe_op op_cat (pv 5) (pe_op op_rep (pe_slice (sl_listK (K := K) rfl) (pv 5) (po_some (pe_un un_neg pe_int)) po_none) (pe_call G__law_next (hr.mono (by decide)) (by rfl) m__law_next k__law_next b__law_next v__law_next pass0 (pa_cons (pv 0) (pa_cons pe_int pa_nil))))) pa_nil))) pa_nil)))))))))
        pss_nil)
      (pss_cons (ps_if (pt_cmpR op_eq (pv 3) pe_int (nomark _))
        (pss_cons (ps_set (i := 7) sc__law_wheels.nd rfl (.inl rfl) (pe_lst (pa_cons (pe_tup (pa_cons pe_int (pa_cons pe_int (pa_cons pe_int pa_nil)))) (pa_cons (pe_tup (pa_cons pe_int (pa_cons pe_int (pa_cons pe_int pa_nil)))) (pa_cons (pe_tup (pa_cons pe_int (pa_cons pe_int (pa_cons pe_int pa_nil)))) (pa_cons (pe_tup (pa_cons pe_int (pa_cons pe_int (pa_cons pe_int pa_nil)))) (pa_cons (pe_tup (pa_cons pe_int (pa_cons pe_int (pa_cons pe_int pa_nil)))) (pa_cons (pe_tup (pa_cons pe_int (pa_cons pe_int (pa_cons pe_int pa_nil)))) (pa_cons (pe_tup (pa_cons pe_int (pa_cons pe_int (pa_cons pe_int pa_nil)))) (pa_cons (pe_tup (pa_cons pe_int (pa_cons pe_int (pa_cons pe_int pa_nil)))) (pa_cons (pe_tup (pa_cons pe_int (pa_cons pe_int (pa_cons pe_int pa_nil)))) pa_nil)))))))))))
        (pss_cons (ps_asg (pe_ix (ix_listK (K := K) rfl) (pv 7) (pe_call G__law_next (hr.mono (by decide)) (by rfl) m__law_next k__law_next b__law_next v__law_next pass0 (pa_cons (pv 0) (pa_cons pe_int pa_nil))) (fun _ _ => rfl)) (pg_tupK (K := K) (n := 3) rfl rfl (pgs_cons (pg_name (i := 8) sc__law_wheels.nd rfl (.inl rfl)) (pgs_cons (pg_name (i := 9) sc__law_wheels.nd rfl (.inl rfl)) (pgs_cons (pg_name (i := 10) sc__law_wheels.nd rfl (.inl rfl)) pgs_nil)))))
        (pss_cons (ps_set (i := 2) sc__law_wheels.nd rfl (.inl rfl) (pe_op op_mod (pv 2) (pe_ix (ix_listK (K := K) rfl) (pe_lst (pa_cons pe_int (pa_cons pe_int pa_nil))) (pe_callTy call_int1 (by rfl) T.b_int (by decide +kernel) (pa_cons (pe_cmpR op_gt (pv 9) pe_int (nomark _)) pa_nil)) (fun _ _ => rfl))))
        (pss_one (ps_ret (pe_lst (pa_cons (pe_tup (pa_cons (pv 8) (pa_cons (pe_call G__law_levels_of hr (by rfl) m__law_levels_of k__law_levels_of b__law_levels_of v__law_levels_of pass0 (pa_cons (pv 0) (pa_cons (pe_op op_mulA (pv 2) (pv 9)) pa_nil))) pa_nil))) (pa_cons (pe_tup (pa_cons (pv 10) (pa_cons (pe_call G__law_levels_of hr (by rfl) m__law_levels_of k__law_levels_of b__law_levels_of v__law_levels_of pass0 (pa_cons (pv 0) (pa_cons (pv 2) pa_nil))) pa_nil))) pa_nil))))))))
        pss_nil)
      (pss_cons (ps_if (pt_cmpR op_eq (pv 3) pe_int (nomark _))
        (pss_one (ps_ret (pe_lst (pa_cons (pe_tup (pa_cons (pv 1) (pa_cons (pe_call G__law_levels_of hr (by rfl) m__law_levels_of k__law_levels_of b__law_levels_of v__law_levels_of pass0 (pa_cons (pv 0) (pa_cons pe_int pa_nil))) pa_nil))) (pa_cons (pe_tup (pa_cons (pe_op op_add pe_int (pe_op op_mod (pe_op op_sub (pv 1) pe_int) pe_int)) (pa_cons (pe_call G__law_levels_of hr (by rfl) m__law_levels_of k__law_levels_of b__law_levels_of v__law_levels_of pass0 (pa_cons (pv 0) (pa_cons pe_int pa_nil))) pa_nil))) pa_nil)))))
        pss_nil)
      (pss_one (ps_ret (pe_lst (pa_cons (pe_tup (pa_cons (pv 1) (pa_cons (pe_call G__law_levels_of hr (by rfl) m__law_levels_of k__law_levels_of b__law_levels_of v__law_levels_of pass0 (pa_cons (pv 0) (pa_cons (pv 2) pa_nil))) pa_nil))) (pa_cons (pe_tup (pa_cons (pe_op op_add pe_int (pe_call G__law_next (hr.mono (by decide)) (by rfl) m__law_next k__law_next b__law_next v__law_next pass0 (pa_cons (pv 0) (pa_cons pe_int pa_nil)))) (pa_cons (pe_call G__law_levels_of hr (by rfl) m__law_levels_of k__law_levels_of b__law_levels_of v__law_levels_of pass0 (pa_cons (pv 0) (pa_cons (pe_op op_mod (pv 2) pe_int) pa_nil))) pa_nil))) pa_nil))))))))))), ?_⟩
    refine ⟨_, rfl, p, 63, rfl, by decide, by decide, hp, fun r1 Ha h1 sa => ?_⟩
    refine ⟨2, ((r1 : Nat) : Int), rfl, rfl, ?_⟩
    refine ⟨_, rfl, by simp [sizeLine_eq], fun l1 hl1 => ?_⟩
    have s1 := same_upd (o := .lst [.int 2, .int 9, .int 50]) hl1
    have n1 : H l1 = none := sa.free hl1
    refine ⟨_, rfl, p, 3, rfl, by decide, by decide, (sa.same s1).src, fun r2 Hb h2 sb => ?_⟩
    obtain ⟨m, hm, m0, m50⟩ := wait29 (r := r2) (by omega)
    refine ⟨l1, _, ((r2 : Nat) : Int), .int m, rfl, rfl, SqL.of (sb.keep _ _ (hp.ne n1) upd_same), atI_nat hm, ?_⟩
    refine ⟨p, m, rfl, m0, Int.lt_of_le_of_lt m50 (by decide), sb.src, fun wt Hc h3 sc => ?_⟩
    refine ⟨_, rfl, p, 5, rfl, by decide, by decide, sc.src, fun so Hd h4 sd => ?_⟩
    have sD := (((sa.same s1).trans sb).trans sc).trans sd
    by_cases e0 : so = 0
    · refine ⟨_, rfl, rfl, true, dT (by rw [e0]; rfl), iteT ?_⟩
      refine ⟨_, rfl, _, rfl, p, wt, rfl, by omega, sd.src, fun ws1 He q1 nn1 nl1 se nq1 eq1 => ?_⟩
      have sE := sD.trans se
      have m1 := sD.free nq1
      refine ⟨_, rfl, q1, _, rfl, .inl (SqL.of eq1), fun q2 nq2 => ?_⟩
      have s2 := same_upd (o := .lst (ws1.map lvV)) nq2
      have m2 := sE.free nq2
      have e1 := s2 _ _ eq1
      have e2 := upd_same (H := He) (a := q2) (o := .lst (ws1.map lvV))
      have sF := sE.same s2
      have n12 : q1 ≠ q2 := fun z => by rw [z, nq2] at eq1; cases eq1
      generalize upd He q2 (.lst (ws1.map lvV)) = Hf at e1 e2 sF ⊢
      have hpos : 0 < ws1.length := List.length_pos_iff.mpr nn1
      refine ⟨_, rfl, _, rfl, q2, _, rfl, .inl (SqL.of e2), p, ((ws1.map lvV).length : Nat), rfl, by rw [List.length_map]; omega, Int.lt_of_lt_of_le (b := 61) (by rw [List.length_map]; omega) (by decide), sF.src, fun at_ Hg hat sg => ?_⟩
      rw [List.length_map] at hat
      have g1 := sg.keep _ _ (hp.ne m1) e1
      have g2 := sg.keep _ _ (hp.ne m2) e2
      have sG := sF.trans sg
      refine ⟨by simp [sizeLine_eq], fun l3 hl3 => ?_⟩
      have s3 := same_upd (o := .lst [.str "stack", .str "queue"]) hl3
      have e3 := upd_same (H := Hg) (a := l3) (o := .lst [.str "stack", .str "queue"])
      have m3 := sG.free hl3
      have h1 := s3 _ _ g1
      have h2' := s3 _ _ g2
      have sH := sG.same s3
      generalize upd Hg l3 (.lst [.str "stack", .str "queue"]) = Hh at e3 h1 h2' sH ⊢
      obtain ⟨v, hv⟩ : ∃ v, ws1[at_]? = some v := ⟨_, List.getElem?_eq_getElem (by omega)⟩
      have hvl : (ws1.map lvV)[at_]? = some (lvV v) := by rw [List.getElem?_map, hv]; rfl
      refine ⟨_, rfl, _, rfl, q2, _, ((at_ : Nat) : Int), _, rfl, rfl, SqL.of h2', atI_nat hvl, ?_⟩
      refine ⟨by cases v <;> rfl, ?_⟩
      refine .inr ⟨_, rfl, l3, _, (((if v then 1 else 0 : Nat)) : Int), lvV (!v), rfl, by cases v <;> rfl, SqL.of e3, atI_nat (by cases v <;> rfl), ?_⟩
      refine ⟨_, rfl, _, rfl, q2, _, _, at_, rfl, rfl, h2', ixN_at29 (by rw [List.length_map]; omega), ?_⟩
      have eset : (ws1.map lvV).set at_ (lvV !v) = (ws1.set at_ !v).map lvV := by rw [List.map_set]
      rw [eset]
      have sI : Stp p H (upd Hh q2 (.lst ((ws1.set at_ !v).map lvV))) := ⟨fun c o n e => by
        rw [upd_ne (ne_of_none e m2)]
        exact sH.keep c o n e, by
        obtain ⟨x1, x2, x3, z⟩ := sH.src
        exact ⟨x1, x2, x3, by rw [upd_ne (Ne.symm (hp.ne m2))]; exact z⟩⟩
      have i1 : (upd Hh q2 (.lst ((ws1.set at_ !v).map lvV))) q1 = some (.lst (ws1.map lvV)) := by rw [upd_ne n12]; exact h1
      have i2 := upd_same (H := Hh) (a := q2) (o := .lst ((ws1.set at_ !v).map lvV))
      obtain ⟨ws2, ew2⟩ : ∃ ws2, ws2 = ws1.set at_ !v := ⟨_, rfl⟩
      have nl2 : ws2.length = ws1.length := by rw [ew2, List.length_set]
      rw [← ew2] at sI i1 i2 ⊢
      generalize upd Hh q2 (.lst (ws2.map lvV)) = Hi at sI i1 i2 ⊢
      refine ⟨_, rfl, _, rfl, by simp [sizeLine_eq], fun t1 nt1 => ?_⟩
      have s5 := same_upd (o := .tup [.int (2 + (r1 : Int)), .ref q1]) nt1
      have m5 := sI.free nt1
      have et1 := upd_same (H := Hi) (a := t1) (o := .tup [.int (2 + (r1 : Int)), .ref q1])
      have j1 := s5 _ _ i1
      have j2 := s5 _ _ i2
      have sJ := sI.same s5
      have et1 : upd Hi t1 (.tup [.int (2 + (r1 : Int)), .ref q1]) t1 = some (.tup [.int ((2 + r1 : Nat) : Int), .ref q1]) := by rw [et1, Int.natCast_add]; rfl
      refine ⟨_, rfl, _, rfl, _, rfl, 1, rfl, -1, rfl, q2, _, rfl, SqL.of j2, fun l6 hl6 => ?_⟩
      rw [cut_last29]
      have s6 := same_upd (o := .lst ((ws2.drop (ws2.length - 1)).map lvV)) hl6
      have e6 := upd_same (H := upd Hi t1 (.tup [.int (2 + (r1 : Int)), .ref q1])) (a := l6) (o := .lst ((ws2.drop (ws2.length - 1)).map lvV))
      have m6 := sJ.free hl6
      have sK := sJ.same s6
      have k1 := s6 _ _ j1
      have k2 := s6 _ _ j2
      have kt1 := s6 _ _ et1
      have hl6' : (upd Hi t1 (.tup [.int (2 + (r1 : Int)), .ref q1])) l6 = none := hl6
      refine ⟨_, rfl, p, 2, rfl, by decide, by decide, sK.src, fun r5 Hl h5 sl => ?_⟩
      have x1 := sl.keep _ _ (hp.ne m1) k1
      have x2 := sl.keep _ _ (hp.ne m2) k2
      have xt1 := sl.keep _ _ (hp.ne m5) kt1
      have x6 := sl.keep _ _ (hp.ne m6) e6
      have sL := sK.trans sl
      have hdl : (ws2.drop (ws2.length - 1)).length = 1 := by rw [List.length_drop]; omega
      refine ⟨l6, ((r5 : Nat) : Int), _, rfl, rfl, x6, by omega, by omega, by rw [List.length_map, hdl, sizeLine_eq]; omega, fun l7 hl7 => ?_⟩
      have erep : (List.replicate ((r5 : Nat) : Int).toNat ((ws2.drop (ws2.length - 1)).map lvV)).flatten = ((List.replicate r5 (ws2.drop (ws2.length - 1))).flatten).map lvV := by
        rw [Int.toNat_natCast, List.map_flatten, List.map_replicate]
      rw [erep]
      obtain ⟨ex, eex⟩ : ∃ ex, ex = (List.replicate r5 (ws2.drop (ws2.length - 1))).flatten := ⟨_, rfl⟩
      have exl : ex.length ≤ 1 := by
        rw [eex, List.length_flatten, List.map_replicate, List.sum_replicate_nat, hdl]
        omega
      rw [← eex]
      have s7 := same_upd (o := .lst (ex.map lvV)) hl7
      have e7 := upd_same (H := Hl) (a := l7) (o := .lst (ex.map lvV))
      refine ⟨q2, l7, _, _, rfl, rfl, s7 _ _ x2, e7, by rw [List.length_map, List.length_map, sizeLine_eq]; omega, fun q3 nq3 => ?_⟩
      rw [← List.map_append]
      have s8 := same_upd (o := .lst ((ws2 ++ ex).map lvV)) nq3
      have e8 := upd_same (H := upd Hl l7 (.lst (ex.map lvV))) (a := q3) (o := .lst ((ws2 ++ ex).map lvV))
      refine ⟨by simp [sizeLine_eq], fun t2 nt2 => ⟨by simp [sizeLine_eq], fun q nq => ?_⟩⟩
      have s9 := same_upd (o := .tup [.int (2 + (r1 : Int)), .ref q3]) nt2
      have et2 := upd_same (H := upd (upd Hl l7 (.lst (ex.map lvV))) q3 (.lst ((ws2 ++ ex).map lvV))) (a := t2) (o := .tup [.int (2 + (r1 : Int)), .ref q3])
      have s10 := same_upd (o := .lst [.ref t1, .ref t2]) nq
      have s710 := ((s7.trans s8).trans s9).trans s10
      refine c (2 + r1) (2 + r1) ws1 (ws2 ++ ex) t1 t2 q1 q3 q _ ⟨upd_same, s710 _ _ xt1, ?_, s710 _ _ x1, s10 _ _ (s9 _ _ e8), by omega, by omega, ⟨nn1, by omega⟩, ⟨fun z => ?_, by rw [List.length_append]; omega⟩⟩ (sL.same s710)
      · refine s10 _ _ (et2.trans ?_)
        rw [Int.natCast_add]
        rfl
      · have := congrArg List.length z
        rw [List.length_append, nl2, List.length_nil] at this
        omega
    refine ⟨_, rfl, rfl, false, dF (fun z => e0 (by have := V.int.inj z; omega)), iteF ?_⟩
    by_cases e1 : so = 1
    · refine ⟨_, rfl, rfl, true, dT (by rw [e1]; rfl), iteT ?_⟩
      have cd := sd.src
      refine ⟨by simp [sizeLine_eq], fun qU0 hqU0 => ?_⟩
      have sU0 := same_upd (o := .tup [.int 2, .int 2, .int 4]) hqU0
      have eU0 : (upd Hd qU0 (.tup [.int 2, .int 2, .int 4])) qU0 = some (.tup [.int 2, .int 2, .int 4]) := upd_same
      generalize upd Hd qU0 (.tup [.int 2, .int 2, .int 4]) = HU0 at sU0 eU0 ⊢
      have nU0 := cd.ne hqU0
      have cU0 := cd.same sU0
      refine ⟨by simp [sizeLine_eq], fun qU1 hqU1 => ?_⟩
      have sU1 := same_upd (o := .tup [.int 2, .int 3, .int 8]) hqU1
      have eU1 : (upd HU0 qU1 (.tup [.int 2, .int 3, .int 8])) qU1 = some (.tup [.int 2, .int 3, .int 8]) := upd_same
      generalize upd HU0 qU1 (.tup [.int 2, .int 3, .int 8]) = HU1 at sU1 eU1 ⊢
      have nU1 := cU0.ne hqU1
      have cU1 := cU0.same sU1
      refine ⟨by simp [sizeLine_eq], fun qU2 hqU2 => ?_⟩
      have sU2 := same_upd (o := .tup [.int 2, .int 6, .int 64]) hqU2
      have eU2 : (upd HU1 qU2 (.tup [.int 2, .int 6, .int 64])) qU2 = some (.tup [.int 2, .int 6, .int 64]) := upd_same
      generalize upd HU1 qU2 (.tup [.int 2, .int 6, .int 64]) = HU2 at sU2 eU2 ⊢
      have nU2 := cU1.ne hqU2
      have cU2 := cU1.same sU2
      refine ⟨by simp [sizeLine_eq], fun qU3 hqU3 => ?_⟩
      have sU3 := same_upd (o := .tup [.int 3, .int 2, .int 9]) hqU3
      have eU3 : (upd HU2 qU3 (.tup [.int 3, .int 2, .int 9])) qU3 = some (.tup [.int 3, .int 2, .int 9]) := upd_same
      generalize upd HU2 qU3 (.tup [.int 3, .int 2, .int 9]) = HU3 at sU3 eU3 ⊢
      have nU3 := cU2.ne hqU3
      have cU3 := cU2.same sU3
      refine ⟨by simp [sizeLine_eq], fun qU4 hqU4 => ?_⟩
      have sU4 := same_upd (o := .tup [.int 3, .int 3, .int 27]) hqU4
      have eU4 : (upd HU3 qU4 (.tup [.int 3, .int 3, .int 27])) qU4 = some (.tup [.int 3, .int 3, .int 27]) := upd_same
      generalize upd HU3 qU4 (.tup [.int 3, .int 3, .int 27]) = HU4 at sU4 eU4 ⊢
      have nU4 := cU3.ne hqU4
      have cU4 := cU3.same sU4
      refine ⟨by simp [sizeLine_eq], fun qU5 hqU5 => ?_⟩
      have sU5 := same_upd (o := .tup [.int 4, .int 2, .int 16]) hqU5
      have eU5 : (upd HU4 qU5 (.tup [.int 4, .int 2, .int 16])) qU5 = some (.tup [.int 4, .int 2, .int 16]) := upd_same
      generalize upd HU4 qU5 (.tup [.int 4, .int 2, .int 16]) = HU5 at sU5 eU5 ⊢
      have nU5 := cU4.ne hqU5
      have cU5 := cU4.same sU5
      refine ⟨by simp [sizeLine_eq], fun qU6 hqU6 => ?_⟩
      have sU6 := same_upd (o := .tup [.int 4, .int 3, .int 64]) hqU6
      have eU6 : (upd HU5 qU6 (.tup [.int 4, .int 3, .int 64])) qU6 = some (.tup [.int 4, .int 3, .int 64]) := upd_same
      generalize upd HU5 qU6 (.tup [.int 4, .int 3, .int 64]) = HU6 at sU6 eU6 ⊢
      have nU6 := cU5.ne hqU6
      have cU6 := cU5.same sU6
      refine ⟨by simp [sizeLine_eq], fun qU7 hqU7 => ?_⟩
      have sU7 := same_upd (o := .tup [.int 5, .int 2, .int 25]) hqU7
      have eU7 : (upd HU6 qU7 (.tup [.int 5, .int 2, .int 25])) qU7 = some (.tup [.int 5, .int 2, .int 25]) := upd_same
      generalize upd HU6 qU7 (.tup [.int 5, .int 2, .int 25]) = HU7 at sU7 eU7 ⊢
      have nU7 := cU6.ne hqU7
      have cU7 := cU6.same sU7
      refine ⟨by simp [sizeLine_eq], fun qU8 hqU8 => ?_⟩
      have sU8 := same_upd (o := .tup [.int 7, .int 2, .int 49]) hqU8
      have eU8 : (upd HU7 qU8 (.tup [.int 7, .int 2, .int 49])) qU8 = some (.tup [.int 7, .int 2, .int 49]) := upd_same
      generalize upd HU7 qU8 (.tup [.int 7, .int 2, .int 49]) = HU8 at sU8 eU8 ⊢
      have nU8 := cU7.ne hqU8
      have cU8 := cU7.same sU8
      refine ⟨by simp [sizeLine_eq], fun qUL hqUL => ?_⟩
      have sUL := same_upd (o := .lst [.ref qU0, .ref qU1, .ref qU2, .ref qU3, .ref qU4, .ref qU5, .ref qU6, .ref qU7, .ref qU8]) hqUL
      have eUL : (upd HU8 qUL (.lst [.ref qU0, .ref qU1, .ref qU2, .ref qU3, .ref qU4, .ref qU5, .ref qU6, .ref qU7, .ref qU8])) qUL = some (.lst [.ref qU0, .ref qU1, .ref qU2, .ref qU3, .ref qU4, .ref qU5, .ref qU6, .ref qU7, .ref qU8]) := upd_same
      generalize upd HU8 qUL (.lst [.ref qU0, .ref qU1, .ref qU2, .ref qU3, .ref qU4, .ref qU5, .ref qU6, .ref qU7, .ref qU8]) = HUL at sUL eUL ⊢
      have nUL := cU8.ne hqUL
      have cUL := cU8.same sUL
      have kUL : Same HUL HUL := fun _ _ e => e
      have kU8 := sUL.trans kUL
      have kU7 := sU8.trans kU8
      have kU6 := sU7.trans kU7
      have kU5 := sU6.trans kU6
      have kU4 := sU5.trans kU5
      have kU3 := sU4.trans kU4
      have kU2 := sU3.trans kU3
      have kU1 := sU2.trans kU2
      have kU0 := sU1.trans kU1
      have kd := sU0.trans kU0
      refine ⟨_, rfl, _, rfl, p, 9, rfl, by decide, by decide, cUL, fun r3 He h5 se => ?_⟩
      obtain ⟨u, lo, ti, hi, hu1, hu2, hu3, hb1, hb1', hb2, hb2', ht1, ht2⟩ : ∃ (u : Addr) (lo ti hi : Nat), ([.ref qU0, .ref qU1, .ref qU2, .ref qU3, .ref qU4, .ref qU5, .ref qU6, .ref qU7, .ref qU8] : List V)[r3]? = some (.ref u) ∧ u ≠ p ∧ HUL u = some (.tup [.int (lo : Nat), .int (ti : Nat), .int (hi : Nat)]) ∧ 2 ≤ lo ∧ lo ≤ 64 ∧ 2 ≤ hi ∧ hi ≤ 64 ∧ 1 ≤ ti ∧ ti ≤ 6 := by
        have h5 : r3 < 9 := by omega
        match r3, h5 with
        | 0, _ => exact ⟨qU0, 2, 2, 4, rfl, nU0, kU0 _ _ eU0, by decide, by decide, by decide, by decide, by decide, by decide⟩
        | 1, _ => exact ⟨qU1, 2, 3, 8, rfl, nU1, kU1 _ _ eU1, by decide, by decide, by decide, by decide, by decide, by decide⟩
        | 2, _ => exact ⟨qU2, 2, 6, 64, rfl, nU2, kU2 _ _ eU2, by decide, by decide, by decide, by decide, by decide, by decide⟩
        | 3, _ => exact ⟨qU3, 3, 2, 9, rfl, nU3, kU3 _ _ eU3, by decide, by decide, by decide, by decide, by decide, by decide⟩
        | 4, _ => exact ⟨qU4, 3, 3, 27, rfl, nU4, kU4 _ _ eU4, by decide, by decide, by decide, by decide, by decide, by decide⟩
        | 5, _ => exact ⟨qU5, 4, 2, 16, rfl, nU5, kU5 _ _ eU5, by decide, by decide, by decide, by decide, by decide, by decide⟩
        | 6, _ => exact ⟨qU6, 4, 3, 64, rfl, nU6, kU6 _ _ eU6, by decide, by decide, by decide, by decide, by decide, by decide⟩
        | 7, _ => exact ⟨qU7, 5, 2, 25, rfl, nU7, kU7 _ _ eU7, by decide, by decide, by decide, by decide, by decide, by decide⟩
        | 8, _ => exact ⟨qU8, 7, 2, 49, rfl, nU8, kU8 _ _ eU8, by decide, by decide, by decide, by decide, by decide, by decide⟩
        | r + 9, h => omega
      have fu := se.keep _ _ hu2 hu3
      have fL := se.keep _ _ nUL eUL
      refine ⟨qUL, _, ((r3 : Nat) : Int), .ref u, rfl, rfl, SqL.of fL, atI_nat hu1, u, _, rfl, .inl (.inl fu), rfl, _, _, rfl, _, _, rfl, _, _, rfl, rfl, ?_⟩
      have sE := (sD.same kd).trans se
      clear eU0 eU1 eU2 eU3 eU4 eU5 eU6 eU7 eU8 kU0 kU1 kU2 kU3 kU4 kU5 kU6 kU7 kU8
      refine ⟨_, rfl, by simp [sizeLine_eq], fun l3 hl3 => ?_⟩
      have s3 := same_upd (o := .lst [.int 20, .int 9]) hl3
      have e3 := upd_same (H := He) (a := l3) (o := .lst [.int 20, .int 9])
      have sF := sE.same s3
      generalize upd He l3 (.lst [.int 20, .int 9]) = Hf at s3 e3 sF ⊢
      obtain ⟨z, m, hz, hm, hm0, hm1⟩ : ∃ z m : Nat, (if decide ((2 : Int) < (ti : Nat)) = true then (1 : Int) else 0) = ((z : Nat) : Int) ∧ ([.int 20, .int 9] : List V)[z]? = some (.int (m : Nat)) ∧ 0 < m ∧ m ≤ 20 := by
        split
        · exact ⟨1, 9, rfl, rfl, by decide, by decide⟩
        · exact ⟨0, 20, rfl, rfl, by decide, by decide⟩
      refine ⟨_, rfl, _, _, rfl, rfl, .inr ⟨_, rfl, l3, _, ((z : Nat) : Int), .int (m : Nat), rfl, congrArg V.int hz, SqL.of e3, atI_nat hm, ((wt : Nat) : Int), ((m : Nat) : Int), rfl, rfl, ?_, ?_⟩⟩
      · show (0 : Int) < ((m : Nat) : Int)
        omega
      obtain ⟨w2, ew2, hw2⟩ : ∃ w2 : Nat, ((wt : Nat) : Int) % ((m : Nat) : Int) = ((w2 : Nat) : Int) ∧ w2 < 20 := ⟨wt % m, by omega, Nat.lt_of_lt_of_le (Nat.mod_lt _ hm0) hm1⟩
      have hmul : w2 * ti ≤ 114 := Nat.le_trans (Nat.mul_le_mul (show w2 ≤ 19 by omega) ht2) (by decide)
      refine ⟨_, rfl, _, rfl, _, rfl, _, rfl, ((wt : Nat) : Int) % ((m : Nat) : Int), ((ti : Nat) : Int), rfl, rfl, mul_r (by omega) (by omega), p, w2 * ti, ?_, by omega, sF.src, fun ws1 Hg q1 nn1 nl1 sg nq1 eq1 => ?_⟩
      · show [V.ref p, V.int (((wt : Nat) : Int) % ((m : Nat) : Int) * ((ti : Nat) : Int))] = _
        rw [ew2, Int.natCast_mul]
      have m1 := sF.free nq1
      refine ⟨by simp [sizeLine_eq], fun t1 nt1 => ?_⟩
      have sG := sF.trans sg
      have s5 := same_upd (o := .tup [.int (lo : Nat), .ref q1]) nt1
      have m5 := sG.free nt1
      have et1 := upd_same (H := Hg) (a := t1) (o := .tup [.int (lo : Nat), .ref q1])
      have g1 := s5 _ _ eq1
      have sH := sG.same s5
      refine ⟨_, rfl, _, rfl, _, rfl, p, w2, congrArg (fun x => [V.ref p, V.int x]) ew2, by omega, sH.src, fun ws2 Hi q2 nn2 nl2 si nq2 eq2 => ?_⟩
      refine ⟨by simp [sizeLine_eq], fun t2 nt2 => ⟨by simp [sizeLine_eq], fun q nq => ?_⟩⟩
      have s9 := same_upd (o := .tup [.int (hi : Nat), .ref q2]) nt2
      have et2 := upd_same (H := Hi) (a := t2) (o := .tup [.int (hi : Nat), .ref q2])
      have s10 := same_upd (o := .lst [.ref t1, .ref t2]) nq
      have s910 := s9.trans s10
      exact c lo hi ws1 ws2 t1 t2 q1 q2 q _ ⟨upd_same, s910 _ _ (si.keep _ _ (hp.ne m5) et1), s10 _ _ et2, s910 _ _ (si.keep _ _ (hp.ne m1) g1), s910 _ _ eq2, ⟨hb1, hb1'⟩, ⟨hb2, hb2'⟩, ⟨nn1, by omega⟩, ⟨nn2, by omega⟩⟩ ((sH.trans si).same s910)
    refine ⟨_, rfl, rfl, false, dF (fun z => e1 (by have := V.int.inj z; omega)), iteF ?_⟩
    by_cases e2 : so = 2
    · refine ⟨_, rfl, rfl, true, dT (by rw [e2]; rfl), iteT ?_⟩
      refine ⟨_, rfl, _, rfl, p, 0, rfl, by omega, sd.src, fun ws1 He q1 nn1 nl1 se nq1 eq1 => ?_⟩
      have sE := sD.trans se
      have m1 := (sD.free nq1)
      refine ⟨by simp [sizeLine_eq], fun t1 nt1 => ?_⟩
      have s2 := same_upd (o := .tup [.int (2 + (r1 : Int)), .ref q1]) nt1
      have sF := sE.same s2
      have m2 := sE.free nt1
      refine ⟨_, rfl, (2 + (r1 : Int)), 1, rfl, rfl, (2 + (r1 : Int)) - 1, 63, rfl, rfl, (by decide : (0 : Int) < 63), 2, ((2 + (r1 : Int)) - 1) % 63, rfl, rfl, ?_⟩
      refine ⟨_, rfl, p, 0, rfl, by omega, sF.src, fun ws2 Hg q2 nn2 nl2 sg nq2 eq2 => ?_⟩
      refine ⟨by simp [sizeLine_eq], fun t2 nt2 => ⟨by simp [sizeLine_eq], fun q nq => ?_⟩⟩
      have s3 := same_upd (o := .tup [.int (2 + ((2 + (r1 : Int)) - 1) % 63), .ref q2]) nt2
      have sG := sF.trans sg
      have m3 := sG.free nt2
      have s4 := same_upd (o := .lst [.ref t1, .ref t2]) nq
      have sH := (sG.same s3).same s4
      refine c (2 + r1) (2 + (1 + r1) % 63) ws1 ws2 t1 t2 q1 q2 q _ ⟨upd_same, ?_, ?_, ?_, ?_, by omega, by omega, ⟨nn1, by omega⟩, ⟨nn2, by omega⟩⟩ sH
      · refine s4 _ _ (s3 _ _ (sg.keep _ _ (hp.ne m2) (Eq.trans upd_same ?_)))
        rw [Int.natCast_add]
        rfl
      · refine s4 _ _ (Eq.trans upd_same ?_)
        exact congrArg (fun x => some (HO.tup [V.int x, V.ref q2])) (by omega)
      · exact s4 _ _ (s3 _ _ (sg.keep _ _ (hp.ne m1) (s2 _ _ eq1)))
      · exact s4 _ _ (s3 _ _ eq2)
    refine ⟨_, rfl, rfl, false, dF (fun z => e2 (by have := V.int.inj z; omega)), iteF ?_⟩
    refine ⟨_, rfl, _, rfl, _, rfl, p, wt, rfl, by omega, sd.src, fun ws1 He q1 nn1 nl1 se nq1 eq1 => ?_⟩
    have sE := sD.trans se
    have m1 := (sD.free nq1)
    refine ⟨by simp [sizeLine_eq], fun t1 nt1 => ?_⟩
    have s2 := same_upd (o := .tup [.int (2 + (r1 : Int)), .ref q1]) nt1
    have sF := sE.same s2
    have m2 := sE.free nt1
    refine ⟨_, rfl, p, 63, rfl, by decide, by decide, sF.src, fun r3 Hf h5 sf => ?_⟩
    refine ⟨2, ((r3 : Nat) : Int), rfl, rfl, ?_⟩
    refine ⟨_, rfl, _, rfl, ((wt : Nat) : Int), 7, rfl, rfl, ?_⟩
    refine ⟨(by decide : (0 : Int) < 7), p, wt % 7, congrArg (fun x => [V.ref p, V.int x]) (by show ((wt : Nat) : Int) % 7 = _; omega), by omega, sf.src, fun ws2 Hg q2 nn2 nl2 sg nq2 eq2 => ?_⟩
    refine ⟨by simp [sizeLine_eq], fun t2 nt2 => ⟨by simp [sizeLine_eq], fun q nq => ?_⟩⟩
    have s3 := same_upd (o := .tup [.int (2 + (r3 : Int)), .ref q2]) nt2
    have sG := (sF.trans sf).trans sg
    have m3 := sG.free nt2
    have s4 := same_upd (o := .lst [.ref t1, .ref t2]) nq
    have sH := (sG.same s3).same s4
    refine c (2 + r1) (2 + r3) ws1 ws2 t1 t2 q1 q2 q _ ⟨upd_same, ?_, ?_, ?_, ?_, by omega, by omega, ⟨nn1, by omega⟩, ⟨nn2, by omega⟩⟩ sH
    · refine s4 _ _ (s3 _ _ (sg.keep _ _ (hp.ne m2) (sf.keep _ _ (hp.ne m2) (Eq.trans upd_same ?_))))
      rw [Int.natCast_add]
      rfl
    · refine s4 _ _ (Eq.trans upd_same ?_)
      rw [Int.natCast_add]
      rfl
    · exact s4 _ _ (s3 _ _ (sg.keep _ _ (hp.ne m1) (sf.keep _ _ (hp.ne m1) (s2 _ _ eq1))))
    · exact s4 _ _ (s3 _ _ eq2)
end
/-! ### the wheel as plain data -/
structure Tm where
  num : Nat
  due : Nat
  per : Option Nat
  since : Nat
def perV : Option Nat → V
  | none => .non
  | some k => .int (k : Nat)
def tmV (m : Tm) : List V := [.int (m.due : Nat), perV m.per, .int (m.since : Nat)]
open Classical in
noncomputable def sideT (b : Nat) (ws : List Bool) (n d lo : Nat) : Bool := if h : ∃ k, IsLev b n d k then frontOf ws lo (rowsOf b n d (Classical.choose h)) else false
theorem sideT_eq {b : Nat} {ws : List Bool} {n d lo k : Nat} (h : IsLev b n d k) : sideT b ws n d lo = frontOf ws lo (rowsOf b n d k) := by
  have e : ∃ k, IsLev b n d k := ⟨k, h⟩
  unfold sideT
  rw [dif_pos e, (Classical.choose_spec e).uniq h]
def insT (front : Bool) (n : Nat) (l : List Nat) : List Nat := if front then n :: l else l ++ [n]
noncomputable def orderAt (b : Nat) (ws : List Bool) (t : Nat) (ms : List Tm) : List Nat := ms.foldl (fun acc m => if m.due = t then insT (sideT b ws m.since m.due 0) m.num acc else acc) []
theorem order_snoc (b : Nat) (ws : List Bool) (t : Nat) (ms : List Tm) (m : Tm) : orderAt b ws t (ms ++ [m]) = if m.due = t then insT (sideT b ws m.since m.due 0) m.num (orderAt b ws t ms) else orderAt b ws t ms := by
  unfold orderAt
  rw [List.foldl_append]
  rfl
theorem insT_len (f : Bool) (n : Nat) (l : List Nat) : (insT f n l).length = l.length + 1 := by
  unfold insT
  split
  · rfl
  · rw [List.length_append]
    rfl
theorem insT_mem {f : Bool} {n x : Nat} {l : List Nat} : x ∈ insT f n l ↔ x = n ∨ x ∈ l := by
  unfold insT
  split
  · rw [List.mem_cons]
  · rw [List.mem_append, List.mem_singleton]
    exact Or.comm
theorem order_spec (b : Nat) (ws : List Bool) (t : Nat) (ms : List Tm) : ∀ n : Nat, (orderAt b ws t (ms.take n)).length = ((ms.take n).filter fun m => decide (m.due = t)).length ∧ ∀ x, x ∈ orderAt b ws t (ms.take n) ↔ ∃ m ∈ ms.take n, m.due = t ∧ m.num = x := by
  intro n
  induction n with
  | zero =>
    refine ⟨rfl, fun x => ?_⟩
    simp [orderAt]
  | succ n ih =>
    cases e : ms[n]? with
    | none =>
      have hl : ms.length ≤ n := List.getElem?_eq_none_iff.mp e
      rw [List.take_of_length_le (by omega)]
      rw [List.take_of_length_le hl] at ih
      exact ih
    | some m =>
      rw [List.take_add_one, e]
      show (orderAt b ws t (ms.take n ++ [m])).length = _ ∧ ∀ x, x ∈ orderAt b ws t (ms.take n ++ [m]) ↔ ∃ m' ∈ ms.take n ++ [m], _
      rw [order_snoc]
      rw [Option.toList_some, List.filter_append, List.length_append]
      by_cases h : m.due = t
      · rw [if_pos h, insT_len, ih.1]
        refine ⟨by simp [h], fun x => ?_⟩
        rw [insT_mem, ih.2 x]
        constructor
        · rintro (e | ⟨m', h1, h2⟩)
          · exact ⟨m, by simp, h, e.symm⟩
          · exact ⟨m', List.mem_append_left _ h1, h2⟩
        · rintro ⟨m', h1, h2, h3⟩
          rcases List.mem_append.mp h1 with h1 | h1
          · exact .inr ⟨m', h1, h2, h3⟩
          · rw [List.mem_singleton.mp h1] at h3
            exact .inl h3.symm
      · rw [if_neg h, ih.1]
        refine ⟨by simp [h], fun x => ?_⟩
        rw [ih.2 x]
        constructor
        · rintro ⟨m', h1, h2⟩
          exact ⟨m', List.mem_append_left _ h1, h2⟩
        · rintro ⟨m', h1, h2, h3⟩
          rcases List.mem_append.mp h1 with h1 | h1
          · exact ⟨m', h1, h2, h3⟩
          · rw [List.mem_singleton.mp h1] at h2
            exact absurd h2 h
theorem order_len (b : Nat) (ws : List Bool) (t : Nat) (ms : List Tm) : (orderAt b ws t ms).length = (ms.filter fun m => decide (m.due = t)).length := by
  have z := (order_spec b ws t ms ms.length).1
  rw [List.take_length] at z
  exact z
theorem order_mem {b : Nat} {ws : List Bool} {t : Nat} {ms : List Tm} {x : Nat} : x ∈ orderAt b ws t ms ↔ ∃ m ∈ ms, m.due = t ∧ m.num = x := by
  have z := (order_spec b ws t ms ms.length).2 x
  rw [List.take_length] at z
  exact z
def dropT (n : Nat) (ms : List Tm) : List Tm := ms.filter fun m => decide (m.num ≠ n)
/-- a timer fires: it goes, and comes back at the end if it has a period -/
def fireT (t : Nat) (ms : List Tm) (n : Nat) : List Tm := match ms.find? fun m => decide (m.num = n) with
  | none => ms
  | some m => match m.per with
    | none => dropT n ms
    | some k => dropT n ms ++ [⟨n, t + k, some k, t⟩]
def afterF (t : Nat) (ms : List Tm) (ns : List Nat) : List Tm := ns.foldl (fireT t) ms
def leastD (ms : List Tm) : Option Nat := (ms.map (·.due)).min?
theorem least_none {ms : List Tm} : leastD ms = none ↔ ms = [] := by
  unfold leastD
  rw [List.min?_eq_none_iff, List.map_eq_nil_iff]
theorem least_some {ms : List Tm} {v : Nat} : leastD ms = some v ↔ v ∈ ms.map (·.due) ∧ ∀ x ∈ ms.map (·.due), v ≤ x := by
  unfold leastD
  exact List.min?_eq_some_iff
structure WS where
  b : Nat
  ws : List Bool
  tick : Nat
  fol : Nat
  live : List Tm
/-- live timers as they may stand at a tick -/
structure TOk (tick fol : Nat) (m : Tm) : Prop where
  since : m.since ≤ tick
  due : tick < m.due
  big : m.due < 2 ^ 400
  num : m.num < fol
  per : ∀ k, m.per = some k → 1 ≤ k
structure WOk (W : WS) : Prop where
  b2 : 2 ≤ W.b
  b64 : W.b ≤ 64
  ne : W.ws ≠ []
  l60 : W.ws.length ≤ 60
  tms : ∀ m ∈ W.live, TOk W.tick W.fol m
  nd : (W.live.map (·.num)).Nodup
  few : W.live.length ≤ 1000
/-- what an advance to t lets fire, step by step -/
inductive AdvTo (b : Nat) (ws : List Bool) (t : Nat) : List Tm → List (Nat × List Nat) → List Tm → Prop where
  | done {ms : List Tm} (h : ∀ m ∈ ms, t < m.due) : AdvTo b ws t ms [] ms
  | step {ms ms' : List Tm} {at_ : Nat} {rest : List (Nat × List Nat)} (h : leastD ms = some at_) (hle : at_ ≤ t) (ok : ∀ m ∈ ms, m.since < m.due ∧ m.due < 2 ^ 400) (nd : (ms.map (·.num)).Nodup) (few : ms.length ≤ 1000)
    (r : AdvTo b ws t (afterF at_ ms (orderAt b ws at_ ms)) rest ms') : AdvTo b ws t ms ((at_, orderAt b ws at_ ms) :: rest) ms'
open Classical in
/-- the tick at which a timer leaves the list in which it stands at n -/
noncomputable def evT (b n d : Nat) : Nat := if h : ∃ k, IsLev b n d k then d / b ^ Classical.choose h * b ^ Classical.choose h else 0
theorem evT_eq {b n d k : Nat} (h : IsLev b n d k) : evT b n d = d / b ^ k * b ^ k := by
  have e : ∃ k, IsLev b n d k := ⟨k, h⟩
  unfold evT
  rw [dif_pos e, (Classical.choose_spec e).uniq h]
noncomputable def nextE (b n : Nat) (ms : List Tm) : Option Nat := (ms.map fun m => evT b n m.due).min?
def total (fs : List (Nat × List Nat)) : Nat := (fs.map fun f => f.2.length).sum
theorem order_pos {b : Nat} {ws : List Bool} {t : Nat} {ms : List Tm} (h : leastD ms = some t) : 0 < (orderAt b ws t ms).length := by
  obtain ⟨m, hm, e⟩ := List.mem_map.mp (least_some.mp h).1
  have z : m.num ∈ orderAt b ws t ms := order_mem.mpr ⟨m, hm, e, rfl⟩
  exact List.length_pos_of_mem z
theorem insT_nodup {f : Bool} {n : Nat} {l : List Nat} (h : l.Nodup) (hn : n ∉ l) : (insT f n l).Nodup := by
  unfold insT
  split
  · exact List.nodup_cons.mpr ⟨hn, h⟩
  · exact L2.nd_snoc h hn
theorem order_nodup {b : Nat} {ws : List Bool} {t : Nat} {ms : List Tm} (nd : (ms.map (·.num)).Nodup) : (orderAt b ws t ms).Nodup := by
  suffices H : ∀ n : Nat, (orderAt b ws t (ms.take n)).Nodup by
    have z := H ms.length
    rw [List.take_length] at z
    exact z
  intro n
  induction n with
  | zero => exact List.nodup_nil
  | succ n ih =>
    cases e : ms[n]? with
    | none =>
      have hl : ms.length ≤ n := List.getElem?_eq_none_iff.mp e
      rw [List.take_of_length_le (by omega)]
      rw [List.take_of_length_le hl] at ih
      exact ih
    | some m =>
      rw [List.take_add_one, e]
      show (orderAt b ws t (ms.take n ++ [m])).Nodup
      rw [order_snoc]
      split
      · refine insT_nodup ih fun hm => ?_
        obtain ⟨m', h1, _, h3⟩ := order_mem.mp hm
        obtain ⟨i, hi⟩ := List.getElem?_of_mem h1
        rw [List.getElem?_take] at hi
        split at hi
        · rename_i hlt
          have a1 : (ms.map (·.num))[i]? = some m.num := by rw [List.getElem?_map, hi, ← h3]; rfl
          have a2 : (ms.map (·.num))[n]? = some m.num := by rw [List.getElem?_map, e]; rfl
          have z := (List.getElem?_inj (List.getElem?_eq_some_iff.mp a1).1 nd).mp (a1.trans a2.symm)
          omega
        · cases hi
      · exact ih
/-! ### data equal to itself -/
theorem neq_refl {d : PyData} (h : d.canLay0 = true) : V.bl (!PyData.eqv d d) = V.bl false := by
  rw [SeqAt.eqv_refl d h]
  rfl
theorem eq_refl {d : PyData} (h : d.canLay0 = true) : V.bl (PyData.eqv d d) = V.bl true := by
  rw [SeqAt.eqv_refl d h]
/-! ### the dict of live timers -/
def LiveK (H : Hp) : List (Key × V) → List Tm → Prop
  | [], [] => True
  | kv :: kvs, m :: ms => kv.1 = Sum.inl (m.num : Int) ∧ (∃ t, kv.2 = .ref t ∧ H t = some (.tup (tmV m))) ∧ LiveK H kvs ms
  | _, _ => False
theorem LiveK.frame {H H' : Hp} (s : ∀ t m, H t = some (.tup (tmV m)) → H' t = some (.tup (tmV m))) : ∀ {kvs : List (Key × V)} {ms : List Tm}, LiveK H kvs ms → LiveK H' kvs ms
  | [], [], _ => trivial
  | _ :: _, _ :: _, ⟨h1, ⟨t, h2, h3⟩, h4⟩ => ⟨h1, ⟨t, h2, s _ _ h3⟩, h4.frame s⟩
  | [], _ :: _, h => h.elim
  | _ :: _, [], h => h.elim
theorem LiveK.same {H H' : Hp} (s : Same H H') {kvs : List (Key × V)} {ms : List Tm} (h : LiveK H kvs ms) : LiveK H' kvs ms := h.frame fun _ _ e => s _ _ e
/-- a place that holds no tuple may change -/
theorem LiveK.upd {H : Hp} {l : Addr} {o o' : HO} (hl : H l = some o) (hn : ∀ xs, o ≠ .tup xs) {kvs : List (Key × V)} {ms : List Tm} (h : LiveK H kvs ms) : LiveK (upd H l o') kvs ms := h.frame fun t m e => by
  rw [upd_ne fun z => ?_]
  · exact e
  · rw [z, hl] at e
    exact hn _ (Option.some.inj e)
theorem LiveK.len {H : Hp} : ∀ {kvs : List (Key × V)} {ms : List Tm}, LiveK H kvs ms → kvs.length = ms.length
  | [], [], _ => rfl
  | _ :: _, _ :: _, h => congrArg Nat.succ h.2.2.len
  | [], _ :: _, h => h.elim
  | _ :: _, [], h => h.elim
theorem LiveK.keys {H : Hp} : ∀ {kvs : List (Key × V)} {ms : List Tm}, LiveK H kvs ms → kvs.map (·.1) = ms.map fun m => Sum.inl (m.num : Int)
  | [], [], _ => rfl
  | kv :: kvs, m :: ms, h => by
    rw [List.map_cons, List.map_cons, h.1, h.2.2.keys]
  | [], _ :: _, h => h.elim
  | _ :: _, [], h => h.elim
theorem LiveK.get {H : Hp} : ∀ {kvs : List (Key × V)} {ms : List Tm} {i : Nat} {k : Key} {v : V}, LiveK H kvs ms → kvs[i]? = some (k, v) → ∃ m t, ms[i]? = some m ∧ k = Sum.inl (m.num : Int) ∧ v = .ref t ∧ H t = some (.tup (tmV m))
  | kv :: _, m :: _, 0, k, v, ⟨h1, ⟨t, h2, h3⟩, _⟩, e => by
    cases Option.some.inj e
    exact ⟨m, t, rfl, h1, h2, h3⟩
  | _ :: _, _ :: _, i + 1, _, _, h, e => h.2.2.get (i := i) e
  | [], _, _, _, _, _, e => by simp at e
  | _ :: _, [], _, _, _, h, _ => h.elim
theorem LiveK.snoc {H : Hp} {k : Key} {t : Addr} {m : Tm} : ∀ {kvs : List (Key × V)} {ms : List Tm}, LiveK H kvs ms → k = Sum.inl (m.num : Int) → H t = some (.tup (tmV m)) → LiveK H (kvs ++ [(k, .ref t)]) (ms ++ [m])
  | [], [], _, h1, h2 => ⟨h1, ⟨t, rfl, h2⟩, trivial⟩
  | _ :: _, _ :: _, h, h1, h2 => ⟨h.1, h.2.1, h.2.2.snoc h1 h2⟩
  | [], _ :: _, h, _, _ => h.elim
  | _ :: _, [], h, _, _ => h.elim
theorem inl_num {a b : Nat} : (Sum.inl (a : Int) : Key) = Sum.inl (b : Int) ↔ a = b := ⟨fun e => Int.ofNat.inj (Sum.inl.inj e), fun e => by rw [e]⟩
theorem LiveK.drop {H : Hp} {n : Nat} : ∀ {kvs : List (Key × V)} {ms : List Tm}, LiveK H kvs ms → LiveK H (dropK kvs (Sum.inl (n : Int))) (dropT n ms)
  | [], [], _ => trivial
  | kv :: kvs, m :: ms, h => by
    by_cases e : m.num = n
    · have e1 : kv.1 = (Sum.inl (n : Int) : Key) := by rw [h.1, e]
      have e2 : dropT n (m :: ms) = dropT n ms := by
        unfold dropT
        rw [List.filter_cons, if_neg (by simp [e])]
      rw [dropK_pos e1, e2]
      exact h.2.2.drop
    · have e1 : ¬ kv.1 = (Sum.inl (n : Int) : Key) := by
        rw [h.1]
        exact fun z => e (inl_num.mp z)
      have e2 : dropT n (m :: ms) = m :: dropT n ms := by
        unfold dropT
        rw [List.filter_cons, if_pos (by simp [e])]
      rw [dropK_neg e1, e2]
      exact ⟨h.1, h.2.1, h.2.2.drop⟩
  | [], _ :: _, h => h.elim
  | _ :: _, [], h => h.elim
theorem LiveK.val {H : Hp} {n : Nat} : ∀ {kvs : List (Key × V)} {ms : List Tm}, LiveK H kvs ms → match ms.find? fun m => decide (m.num = n) with
    | none => valV kvs (Sum.inl (n : Int)) = none
    | some m => ∃ t, valV kvs (Sum.inl (n : Int)) = some (.ref t) ∧ H t = some (.tup (tmV m))
  | [], [], _ => rfl
  | kv :: kvs, m :: ms, h => by
    by_cases e : m.num = n
    · have e1 : kv.1 = (Sum.inl (n : Int) : Key) := by rw [h.1, e]
      rw [List.find?_cons_of_pos (by simpa using e), valV_pos e1]
      obtain ⟨t, h2, h3⟩ := h.2.1
      exact ⟨t, by rw [h2], h3⟩
    · have e1 : ¬ kv.1 = (Sum.inl (n : Int) : Key) := by
        rw [h.1]
        exact fun z => e (inl_num.mp z)
      rw [List.find?_cons_of_neg (by simpa using e), valV_neg e1]
      exact h.2.2.val
  | [], _ :: _, h => h.elim
  | _ :: _, [], h => h.elim
theorem find_of {ms : List Tm} {m : Tm} (nd : (ms.map (·.num)).Nodup) (h : m ∈ ms) : ms.find? (fun x => decide (x.num = m.num)) = some m := by
  induction ms with
  | nil => cases h
  | cons a r ih =>
    rw [List.map_cons, List.nodup_cons] at nd
    rcases List.mem_cons.mp h with e | h
    · rw [e]
      exact List.find?_cons_of_pos (by simp)
    · have hne : ¬ a.num = m.num := fun e => nd.1 (by rw [e]; exact List.mem_map_of_mem h)
      rw [List.find?_cons_of_neg (by simpa using hne)]
      exact ih nd.2 h
theorem LiveK.val_of {H : Hp} {kvs : List (Key × V)} {ms : List Tm} {m : Tm} (h : LiveK H kvs ms) (nd : (ms.map (·.num)).Nodup) (hm : m ∈ ms) : ∃ t, valV kvs (Sum.inl (m.num : Int)) = some (.ref t) ∧ H t = some (.tup (tmV m)) := by
  have z := h.val (n := m.num)
  rw [find_of nd hm] at z
  exact z
theorem LiveK.val_not {H : Hp} {kvs : List (Key × V)} {ms : List Tm} {n : Nat} (h : LiveK H kvs ms) (hn : ∀ m ∈ ms, m.num ≠ n) : valV kvs (Sum.inl (n : Int)) = none := by
  have z := h.val (n := n)
  rw [List.find?_eq_none.mpr (fun m hm => by simpa using hn m hm)] at z
  exact z
theorem unlock {H H1 : Hp} {l : Addr} {u : HO} {od : Obj} (h : H l = some u) (s : Same (upd H l (.frz od u)) H1) : Same H (upd H1 l u) := fun c o e => by
  by_cases z : c = l
  · rw [z] at e ⊢
    rw [upd_same]
    exact h.symm.trans e
  · rw [upd_ne z]
    exact s c o (by rw [upd_ne z]; exact e)
theorem lock_same {H : Hp} {l : Addr} {u : HO} {o' : HO} {c : Addr} {o : HO} (h : H l = some u) (e : H c = some o) (hn : u ≠ o) : upd H l o' c = some o := by
  rw [upd_ne fun z => hn (by rw [z, h] at e; exact Option.some.inj e)]
  exact e
theorem sq_lock {K : PySem.W.Frag} {H : Hp} {l q : Addr} {kvs : List (Key × V)} {o' : HO} {xs : List V} (h : H l = some (.dK kvs)) (hq : SqL K H q xs) : SqL K (upd H l o') q xs := by
  rcases hq with (e | ⟨o, e⟩) | e
  · exact .inl (.inl (lock_same h e (by intro z; cases z)))
  · exact .inl (.inr ⟨o, lock_same h e (by intro z; cases z)⟩)
  · exact .inr e
/-- a loop over d.items() -/
theorem for_items {d : Addr} {o : Obj} {kvs : List (Key × V)} {g : TG} {tb : TS} {D : Ends} {σ : L2.St} {H : Hp} (Pv : Nat → L2.St → Hp → Prop) (h0 : Pv 0 σ H) (hq : ∀ i σ H, Pv i σ H → H d = some (.frz o (.dK kvs)))
    (hs : ∀ (i : Nat) (k : Key) (v : V) (T : Addr) (σ : L2.St) (H : Hp), kvs[i]? = some (k, v) → Pv i σ H → H T = none → g (.ref T) σ (upd H T (.tup [kV k, v])) fun σ2 H2 => tb { D with nx := Pv (i + 1), ct := Pv (i + 1), bk := D.nx } σ2 H2) (hd : ∀ σ H, Pv kvs.length σ H → D.nx σ H) :
    ∃ W : Nat → Nat → L2.St → Hp → Prop, (∃ m, W 0 m σ H) ∧ ∀ i m σ H, W i m σ H →
      ((Iti d o kvs).stop i H ∧ D.nx σ H) ∨ ((Iti d o kvs).go i H ∧ ∃ N : L2.St → Hp → Prop, (∀ σ' H', N σ' H' → ∃ m', m' < m ∧ W (i + 1) m' σ' H') ∧ ∀ v H', (Iti d o kvs).yld i H v H' → g v σ H' fun σ2 H2 => tb { D with nx := N, ct := N, bk := D.nx } σ2 H2) := by
  refine ⟨fun i m σ H => m = kvs.length - i ∧ i ≤ kvs.length ∧ Pv i σ H, ⟨kvs.length, rfl, Nat.zero_le _, h0⟩, ?_⟩
  rintro i m σ H ⟨rfl, hi, p⟩
  have qx := hq i σ H p
  by_cases hlt : i < kvs.length
  · refine .inr ⟨⟨qx, hlt⟩, Pv (i + 1), fun σ' H' p' => ⟨kvs.length - (i + 1), by omega, rfl, hlt, p'⟩, fun x H' y => ?_⟩
    obtain ⟨T, k, v, e, rfl, nT, rfl⟩ := y
    exact hs i k v T σ H e p nT
  · have e : i = kvs.length := by omega
    subst e
    exact .inl ⟨⟨qx, Nat.le_refl _⟩, hd σ H p⟩
/-- a loop over d.values() -/
theorem for_values {d : Addr} {o : Obj} {kvs : List (Key × V)} {g : TG} {tb : TS} {D : Ends} {σ : L2.St} {H : Hp} (Pv : Nat → L2.St → Hp → Prop) (h0 : Pv 0 σ H) (hq : ∀ i σ H, Pv i σ H → H d = some (.frz o (.dK kvs)))
    (hs : ∀ (i : Nat) (k : Key) (v : V) (σ : L2.St) (H : Hp), kvs[i]? = some (k, v) → Pv i σ H → g v σ H fun σ2 H2 => tb { D with nx := Pv (i + 1), ct := Pv (i + 1), bk := D.nx } σ2 H2) (hd : ∀ σ H, Pv kvs.length σ H → D.nx σ H) :
    ∃ W : Nat → Nat → L2.St → Hp → Prop, (∃ m, W 0 m σ H) ∧ ∀ i m σ H, W i m σ H →
      ((Itd d o kvs).stop i H ∧ D.nx σ H) ∨ ((Itd d o kvs).go i H ∧ ∃ N : L2.St → Hp → Prop, (∀ σ' H', N σ' H' → ∃ m', m' < m ∧ W (i + 1) m' σ' H') ∧ ∀ v H', (Itd d o kvs).yld i H v H' → g v σ H' fun σ2 H2 => tb { D with nx := N, ct := N, bk := D.nx } σ2 H2) := by
  refine ⟨fun i m σ H => m = kvs.length - i ∧ i ≤ kvs.length ∧ Pv i σ H, ⟨kvs.length, rfl, Nat.zero_le _, h0⟩, ?_⟩
  rintro i m σ H ⟨rfl, hi, p⟩
  have qx := hq i σ H p
  by_cases hlt : i < kvs.length
  · refine .inr ⟨⟨qx, hlt⟩, Pv (i + 1), fun σ' H' p' => ⟨kvs.length - (i + 1), by omega, rfl, hlt, p'⟩, fun x H' y => ?_⟩
    obtain ⟨rfl, k, e⟩ := y
    exact hs i k x σ H' e p
  · have e : i = kvs.length := by omega
    subst e
    exact .inl ⟨⟨qx, Nat.le_refl _⟩, hd σ H p⟩
/-- a comprehension over d.values() -/
theorem lc_values {d : Addr} {o : Obj} {kvs : List (Key × V)} {g : TG} {tt : TT} {te : TE} {vs : List Nat} {σ : L2.St} {H1 : Hp} {D : Addr} {Qd : Hp → Prop} (Pv : Nat → Hp → Prop) (h0 : Pv 0 (upd H1 D (.lst []))) (hq : ∀ i H, Pv i H → H d = some (.frz o (.dK kvs)))
    (hs : ∀ i k x H, kvs[i]? = some (k, x) → Pv i H → g x (wipe σ vs) H fun σ2 H2 => wipe σ2 vs = wipe σ vs ∧ tt σ2 H2 fun b H3 =>
      if b = true then te σ2 H3 fun y H4 => ∃ acc, H4 D = some (.lst acc) ∧ acc.length < sizeLine ∧ Pv (i + 1) (upd H4 D (.lst (acc ++ [y]))) else Pv (i + 1) H3) (hd : ∀ H, Pv kvs.length H → Qd H) :
    ∃ W : Nat → Nat → Hp → Prop, (∃ m, W 0 m (upd H1 D (.lst []))) ∧ ∀ i m H, W i m H →
      ((Itd d o kvs).stop i H ∧ Qd H) ∨ ((Itd d o kvs).go i H ∧ ∃ Nx : Hp → Prop, (∀ H', Nx H' → ∃ m', m' < m ∧ W (i + 1) m' H') ∧ ∀ x H', (Itd d o kvs).yld i H x H' → g x (wipe σ vs) H' fun σ2 H2 => wipe σ2 vs = wipe σ vs ∧ tt σ2 H2 fun b H3 =>
        if b = true then te σ2 H3 fun y H4 => ∃ acc, H4 D = some (.lst acc) ∧ acc.length < sizeLine ∧ Nx (upd H4 D (.lst (acc ++ [y]))) else Nx H3) := by
  refine ⟨fun i m H => m = kvs.length - i ∧ i ≤ kvs.length ∧ Pv i H, ⟨kvs.length, rfl, Nat.zero_le _, h0⟩, ?_⟩
  rintro i m H ⟨rfl, hi, p⟩
  have qx := hq i H p
  by_cases hlt : i < kvs.length
  · refine .inr ⟨⟨qx, hlt⟩, Pv (i + 1), fun H' p' => ⟨kvs.length - (i + 1), by omega, rfl, hlt, p'⟩, fun x H' y => ?_⟩
    obtain ⟨rfl, k, e⟩ := y
    exact hs i k x H' e p
  · have e : i = kvs.length := by omega
    subst e
    exact .inl ⟨⟨qx, Nat.le_refl _⟩, hd H p⟩
section
variable {P : Program} {w : World} {K : PySem.W.Frag} {mg : Str → Option Value} {base : Heap}
def spLeast : Sp := fun vs H Q _ => ∃ (l : Addr) (kvs : List (Key × V)) (ms : List Tm), vs = [.ref l] ∧ H l = some (.dK kvs) ∧ LiveK H kvs ms ∧ ms.length ≤ 1000 ∧ ∀ H', Same H H' → Q (perV (leastD ms)) H'
theorem min_least {ms : List Tm} {Q : V → Prop} (q : Q (perV (leastD ms))) : (ms.map (fun m => (m.due : Int)) = [] → Q .non) ∧ ∀ v ∈ ms.map (fun m => (m.due : Int)), (∀ x ∈ ms.map (fun m => (m.due : Int)), v ≤ x) → Q (.int v) := by
  refine ⟨fun e => ?_, fun v hv hx => ?_⟩
  · rw [least_none.mpr (List.map_eq_nil_iff.mp e)] at q
    exact q
  · obtain ⟨m, hm, rfl⟩ := List.mem_map.mp hv
    have e : leastD ms = some m.due := least_some.mpr ⟨List.mem_map_of_mem hm, fun x h => by
      obtain ⟨m', hm', rfl⟩ := List.mem_map.mp h
      exact Int.ofNat_le.mp (hx _ (List.mem_map_of_mem hm'))⟩
    rw [e] at q
    exact q
theorem ok_least_due {f : Addr} {fd : FuncData} (F : Fun K "least_due" "least_due" s_least_due f fd) (T : Tx K mg) : FnOk P w K mg base CX0 1 f fd ["live"] spLeast := by
  refine F.ok sc_least_due (fun vs H Q E h => ?_) (fun cdv A outer s H vs Q E hr h => ?_)
  · obtain ⟨l, kvs, ms, rfl, _⟩ := h
    rfl
  · obtain ⟨l, kvs, ms, rfl, hl, L, few, q⟩ := h
    refine ⟨_, (pss_one (ps_ret (pe_callBK (minDef (K := K) rfl rfl hr.units) (by rfl) T.b_min (by decide +kernel) (pa_cons (pe_lock (pe_lc (own := [("due", 1), ("period", 2), ("since", 3)]) (g := _) (tt := tYes) rfl sc_least_due.nd (pi_values (pv 0)) (blkOk_by (own := [("due", 1), ("period", 2), ("since", 3)]) (N := N_least_due) (sc := defScope s_least_due) (by decide +kernel)) (fun _ _ _ _ _ => (pg_tupK (K := K) (n := 3) rfl rfl (pgs_cons (pg_name (i := 1) sc_least_due.nd rfl (.inl rfl)) (pgs_cons (pg_name (i := 2) sc_least_due.nd rfl (.inl rfl)) (pgs_cons (pg_name (i := 3) sc_least_due.nd rfl (.inl rfl)) pgs_nil))))) (fun _ _ _ _ _ => pts_nil) (fun _ _ _ _ _ => (pv 1)))) pa_nil) (pk_cons pe_non pk_nil)))), ?_⟩
    refine ⟨l, _, hl, trivial, fun od => ?_⟩
    refine ⟨_, rfl, l, od, kvs, rfl, upd_same, fun D hD => lc_values (d := l) (o := od) (kvs := kvs) (fun i H' => Same (upd H l (.frz od (.dK kvs))) H' ∧ H' D = some (.lst ((ms.take i).map fun m => V.int (m.due : Nat))))
      ⟨same_upd hD, upd_same⟩ (fun i H' ⟨sm, _⟩ => sm _ _ upd_same) ?_ ?_⟩
    · rintro i k x H' hx ⟨sm, eD⟩
      have L' := L.upd (o' := .frz od (.dK kvs)) hl (fun xs z => by cases z)
      obtain ⟨m, t, hm, rfl, rfl, ht⟩ := L'.get hx
      refine ⟨t, _, rfl, .inl (.inl (sm _ _ ht)), rfl, _, _, rfl, _, _, rfl, _, _, rfl, rfl, rfl, yesT (iteT ?_)⟩
      refine ⟨_, rfl, _, eD, ?_, fun c o e => ?_, ?_⟩
      · rw [List.length_map, List.length_take]
        exact sizeLine_ge (by omega)
      · rw [upd_ne (ne_of_none e hD)]
        exact sm _ _ e
      · rw [upd_same, List.take_add_one, hm, List.map_append]
        rfl
    · rintro H1 ⟨sm, eD⟩
      rw [L.len, List.take_length] at eD
      have nDl : D ≠ l := fun e => by
        rw [e, upd_same] at hD
        cases hD
      have s2 := unlock hl sm
      have eD2 : (upd H1 l (.dK kvs)) D = some (.lst ((ms.map fun m => (m.due : Int)).map V.int)) := by
        rw [upd_ne nDl, eD, List.map_map]
        rfl
      refine ⟨sm _ _ upd_same, D, ms.map fun m => (m.due : Int), rfl, rfl, SqL.of eD2, ?_⟩
      exact min_least (Q := fun v => Q v (upd H1 l (.dK kvs))) (q _ s2)
end
/-! ### what fires, what is left -/
section
variable {P : Program} {w : World} {K : PySem.W.Frag} {mg : Str → Option Value} {base : Heap}
def spWithTimer : Sp := fun vs H Q _ => ∃ (a : Addr) (xs : List Nat) (n : Nat) (f : Bool), vs = [.ref a, .int (n : Nat), .bl f] ∧ H a = some (.lst (xs.map fun x => V.int (x : Nat))) ∧ xs.length ≤ 1000 ∧ ∀ H' p, Same H H' → H p = none → H' p = some (.lst ((insT f n xs).map fun x => V.int (x : Nat))) → Q (.ref p) H'
theorem ok_with_timer {f : Addr} {fd : FuncData} (F : Fun K "with_timer" "with_timer" s_with_timer f fd) : FnOk P w K mg base CX0 1 f fd ["numbers", "number", "front"] spWithTimer := by
  refine F.ok sc_with_timer (fun vs H Q E h => ?_) (fun cdv A outer s H vs Q E hr h => ?_)
  · obtain ⟨a, xs, n, fr, rfl, _⟩ := h
    rfl
  · obtain ⟨a, xs, n, fr, rfl, ha, hl, q⟩ := h
    refine ⟨_, (pss_cons (ps_if (pt_val (pv 2))
        (pss_one (ps_ret (pe_op op_cat (pe_lst (pa_cons (pv 1) pa_nil)) (pv 0))))
        pss_nil)
      (pss_one (ps_ret (pe_op op_cat (pv 0) (pe_lst (pa_cons (pv 1) pa_nil)))))), ?_⟩
    refine ⟨_, rfl, fr, rfl, ?_⟩
    cases fr with
    | true =>
      refine iteT ⟨_, rfl, by simp [sizeLine_eq], fun p1 h1 => ?_⟩
      have s1 := same_upd (o := .lst [.int (n : Nat)]) h1
      refine ⟨_, rfl, p1, a, _, _, rfl, rfl, upd_same, s1 _ _ ha, ?_, fun p hp => ?_⟩
      · rw [List.length_map]
        exact sizeLine_le (by show 1 + xs.length ≤ 1000000; omega)
      · exact q _ p (s1.trans (same_upd hp)) (s1.free hp) upd_same
    | false =>
      refine iteF ⟨_, rfl, _, rfl, by simp [sizeLine_eq], fun p1 h1 => ?_⟩
      have s1 := same_upd (o := .lst [.int (n : Nat)]) h1
      refine ⟨a, p1, _, _, rfl, rfl, s1 _ _ ha, upd_same, ?_, fun p hp => ?_⟩
      · rw [List.length_map]
        exact sizeLine_le (by show xs.length + 1 ≤ 1000000; omega)
      · refine q _ p (s1.trans (same_upd hp)) (s1.free hp) ?_
        rw [upd_same]
        unfold insT
        rw [if_neg (by decide), List.map_append]
        rfl
end
/-- the order of timers that are set at these ticks and due at one tick -/
noncomputable def orderP (b : Nat) (ws : List Bool) (d : Nat) (ps : List (Nat × Nat)) : List Nat := ps.foldl (fun acc r => insT (sideT b ws r.2 d 0) r.1 acc) []
theorem orderP_snoc (b : Nat) (ws : List Bool) (d : Nat) (ps : List (Nat × Nat)) (r : Nat × Nat) : orderP b ws d (ps ++ [r]) = insT (sideT b ws r.2 d 0) r.1 (orderP b ws d ps) := by
  unfold orderP
  rw [List.foldl_append]
  rfl
theorem orderP_len (b : Nat) (ws : List Bool) (d : Nat) (ps : List (Nat × Nat)) : (orderP b ws d ps).length = ps.length := by
  have H : ∀ (ps : List (Nat × Nat)) (acc : List Nat), (ps.foldl (fun acc r => insT (sideT b ws r.2 d 0) r.1 acc) acc).length = acc.length + ps.length := by
    intro ps
    induction ps with
    | nil => intro acc; rfl
    | cons r ps ih =>
      intro acc
      rw [List.foldl_cons, ih, insT_len, List.length_cons]
      omega
  have z := H ps []
  rw [List.length_nil, Nat.zero_add] at z
  exact z
def setsOf (t : Nat) (ms : List Tm) : List (Nat × Nat) := (ms.filter fun m => decide (m.due = t)).map fun m => (m.num, m.since)
theorem order_P (b : Nat) (ws : List Bool) (t : Nat) (ms : List Tm) : orderAt b ws t ms = orderP b ws t (setsOf t ms) := by
  have H : ∀ (ms : List Tm) (acc : List Nat), ms.foldl (fun acc m => if m.due = t then insT (sideT b ws m.since m.due 0) m.num acc else acc) acc = (setsOf t ms).foldl (fun acc r => insT (sideT b ws r.2 t 0) r.1 acc) acc := by
    intro ms
    induction ms with
    | nil => intro acc; rfl
    | cons m ms ih =>
      intro acc
      rw [List.foldl_cons, ih]
      by_cases e : m.due = t
      · have z : setsOf t (m :: ms) = (m.num, m.since) :: setsOf t ms := by
          unfold setsOf
          rw [List.filter_cons_of_pos (by simpa using e)]
          rfl
        rw [z, List.foldl_cons, if_pos e, e]
      · have z : setsOf t (m :: ms) = setsOf t ms := by
          unfold setsOf
          rw [List.filter_cons_of_neg (by simpa using e)]
        rw [z, if_neg e]
  exact H ms []
/-- at the places ts stand tuples of a number and a tick -/
def PrAt (H : Hp) : List Addr → List (Nat × Nat) → Prop
  | [], [] => True
  | t :: ts, r :: rs => H t = some (.tup [.int (r.1 : Nat), .int (r.2 : Nat)]) ∧ PrAt H ts rs
  | _, _ => False
theorem PrAt.frame {H H' : Hp} : ∀ {ts : List Addr} {rs : List (Nat × Nat)}, PrAt H ts rs → (∀ t xs, H t = some (.tup xs) → H' t = some (.tup xs)) → PrAt H' ts rs
  | [], [], _, _ => trivial
  | _ :: _, _ :: _, h, s => ⟨s _ _ h.1, h.2.frame s⟩
  | [], _ :: _, h, _ => h.elim
  | _ :: _, [], h, _ => h.elim
theorem PrAt.app {H : Hp} {t : Addr} {r : Nat × Nat} : ∀ {ts : List Addr} {rs : List (Nat × Nat)}, PrAt H ts rs → H t = some (.tup [.int (r.1 : Nat), .int (r.2 : Nat)]) → PrAt H (ts ++ [t]) (rs ++ [r])
  | [], [], _, h => ⟨h, trivial⟩
  | _ :: _, _ :: _, h, h2 => ⟨h.1, h.2.app h2⟩
  | [], _ :: _, h, _ => h.elim
  | _ :: _, [], h, _ => h.elim
theorem PrAt.len {H : Hp} : ∀ {ts : List Addr} {rs : List (Nat × Nat)}, PrAt H ts rs → ts.length = rs.length
  | [], [], _ => rfl
  | _ :: _, _ :: _, h => congrArg Nat.succ h.2.len
  | [], _ :: _, h => h.elim
  | _ :: _, [], h => h.elim
theorem PrAt.item {H : Hp} : ∀ {ts : List Addr} {rs : List (Nat × Nat)} {i : Nat} {x : V}, PrAt H ts rs → (ts.map V.ref)[i]? = some x → ∃ t r, x = V.ref t ∧ rs[i]? = some r ∧ H t = some (.tup [.int (r.1 : Nat), .int (r.2 : Nat)])
  | t :: _, r :: _, 0, x, h, e => ⟨t, r, (Option.some.inj e).symm, rfl, h.1⟩
  | _ :: _, _ :: _, i + 1, _, h, e => h.2.item (i := i) e
  | [], _, _, _, _, e => by simp at e
  | _ :: _, [], _, _, h, _ => h.elim
/-- a list made over the items of a dict -/
theorem lc_items {d : Addr} {o : Obj} {kvs : List (Key × V)} {g : TG} {tt : TT} {te : TE} {ws : List Nat} {σ : L2.St} {G : Hp} {D : Addr} {Qd : Hp → Prop} (Pv : Nat → Hp → Prop) (start : Pv 0 (upd G D (.lst []))) (lock : ∀ i G, Pv i G → G d = some (.frz o (.dK kvs)))
    (step : ∀ (i : Nat) (k : Key) (v : V) (T : Addr) (G : Hp), kvs[i]? = some (k, v) → Pv i G → G T = none → g (.ref T) (wipe σ ws) (upd G T (.tup [kV k, v])) fun τ G2 => wipe τ ws = wipe σ ws ∧ tt τ G2 fun c G3 => if c = true then te τ G3 fun z G4 => ∃ ac, G4 D = some (.lst ac) ∧ ac.length < sizeLine ∧ Pv (i + 1) (upd G4 D (.lst (ac ++ [z]))) else Pv (i + 1) G3)
    (last : ∀ G, Pv kvs.length G → Qd G) : ∃ W : Nat → Nat → Hp → Prop, (∃ m, W 0 m (upd G D (.lst []))) ∧ ∀ i m G, W i m G → ((Iti d o kvs).stop i G ∧ Qd G) ∨
      ((Iti d o kvs).go i G ∧ ∃ N : Hp → Prop, (∀ G', N G' → ∃ m', m' < m ∧ W (i + 1) m' G') ∧ ∀ x G', (Iti d o kvs).yld i G x G' → g x (wipe σ ws) G' fun τ G2 => wipe τ ws = wipe σ ws ∧ tt τ G2 fun c G3 => if c = true then te τ G3 fun z G4 => ∃ ac, G4 D = some (.lst ac) ∧ ac.length < sizeLine ∧ N (upd G4 D (.lst (ac ++ [z]))) else N G3) := by
  refine ⟨fun i m G => (m = kvs.length - i ∧ i ≤ kvs.length) ∧ Pv i G, ⟨kvs.length, ⟨rfl, Nat.zero_le _⟩, start⟩, ?_⟩
  rintro i m G ⟨⟨rfl, le⟩, pv⟩
  have here := lock i G pv
  rcases Nat.lt_or_ge i kvs.length with lt | ge
  · refine .inr ⟨⟨here, lt⟩, Pv (i + 1), fun G' p' => ⟨kvs.length - (i + 1), by omega, ⟨rfl, lt⟩, p'⟩, fun x G' y => ?_⟩
    obtain ⟨T, k, v, e, rfl, nT, rfl⟩ := y
    exact step i k v T G e pv nT
  · have e : i = kvs.length := Nat.le_antisymm le ge
    rw [e] at pv ⊢
    exact .inl ⟨⟨here, Nat.le_refl _⟩, last G pv⟩
section
variable {P : Program} {w : World} {K : PySem.W.Frag} {mg : Str → Option Value} {base : Heap}
def spFiringOrder (K : PySem.W.Frag) : Sp := fun vs H Q _ => ∃ (b d : Nat) (q S : Addr) (ws : List Bool) (ts : List Addr) (ps : List (Nat × Nat)), vs = [.int (b : Nat), .ref q, .int (d : Nat), .ref S] ∧ 2 ≤ b ∧ b ≤ 64 ∧ SqL K H q (ws.map lvV) ∧ ws ≠ [] ∧ H S = some (.lst (ts.map V.ref)) ∧ PrAt H ts ps ∧ ps.length ≤ 1000 ∧ (∀ r ∈ ps, r.2 < d ∧ d < 2 ^ 400) ∧
  ∀ H' p, Same H H' → H p = none → H' p = some (.lst ((orderP b ws d ps).map fun x => V.int (x : Nat))) → Q (.ref p) H'
theorem ok_firing_order {f : Addr} {fd : FuncData} (F : Fun K "firing_order" "firing_order" s_firing_order f fd) (h1 : Has P w K mg base 1 "with_timer" ["numbers", "number", "front"] [] spWithTimer)
    (h2 : Has P w K mg base 3 "goes_in_front" ["base", "levels", "now", "due", "lowest"] [] (spFront K)) : FnOk P w K mg base CX0 4 f fd ["base", "levels", "due", "settings"] (spFiringOrder K) := by
  obtain ⟨f_with_timer, fd_with_timer, ds_with_timer, G_with_timer, m_with_timer, k_with_timer, b_with_timer, v_with_timer⟩ := h1
  obtain ⟨f_goes_in_front, fd_goes_in_front, ds_goes_in_front, G_goes_in_front, m_goes_in_front, k_goes_in_front, b_goes_in_front, v_goes_in_front⟩ := h2
  refine F.ok sc_firing_order (fun vs H Q E h => ?_) (fun cdv A outer s H vs Q E hr h => ?_)
  · obtain ⟨b, d, q, S, ws, ts, ps, rfl, _⟩ := h
    rfl
  · obtain ⟨b, d, q, S, ws, ts, ps, rfl, hb, hb64, hL, hne, hS, hP, few, ok, c⟩ := h
    refine ⟨_, (pss_cons (ps_set (i := 4) sc_firing_order.nd rfl (.inl rfl) (pe_lst pa_nil))
      (pss_cons (ps_for PassesOwn.never rfl (pi_list (pv 3)) (pg_tupK (K := K) (n := 2) rfl rfl (pgs_cons (pg_name (i := 5) sc_firing_order.nd rfl (.inl rfl)) (pgs_cons (pg_name (i := 6) sc_firing_order.nd rfl (.inl rfl)) pgs_nil)))
        (pss_one (ps_set (i := 4) sc_firing_order.nd rfl (.inl rfl) (pe_call G_with_timer (hr.mono (by decide)) (by rfl) m_with_timer k_with_timer b_with_timer v_with_timer pass0 (pa_cons (pv 4) (pa_cons (pv 5) (pa_cons (pe_call G_goes_in_front hr (by rfl) m_goes_in_front k_goes_in_front b_goes_in_front v_goes_in_front pass0 (pa_cons (pv 0) (pa_cons (pv 1) (pa_cons (pv 6) (pa_cons (pv 2) (pa_cons pe_int pa_nil)))))) pa_nil)))))))
      (pss_one (ps_ret (pv 4))))), ?_⟩
    refine ⟨by simp [sizeLine_eq], fun p0 hp0 => ?_⟩
    have s0 := same_upd (o := .lst []) hp0
    have e0 : (upd H p0 (.lst [])) p0 = some (.lst []) := upd_same
    generalize upd H p0 (.lst []) = H0 at s0 e0 ⊢
    have hS0 := s0 _ _ hS
    refine ⟨_, rfl, S, rfl, ⟨_, SqL.of hS0⟩, for_list (K := K) (a := S) (xs := ts.map V.ref) (fun i σ H' => ∃ (p : Addr) (y5 y6 : Option V), σ = [some (.int (b : Nat)), some (.ref q), some (.int (d : Nat)), some (.ref S), some (.ref p), y5, y6] ∧ Same H0 H' ∧ H p = none ∧ H' p = some (.lst ((orderP b ws d (ps.take i)).map fun x => V.int (x : Nat))))
      ⟨p0, none, none, rfl, Same.refl _, hp0, e0⟩ (fun i σ H' _ ⟨_, _, _, _, sm, _⟩ => SqL.of (sm _ _ hS0)) ?_ ?_⟩
    · rintro i x σ H' hx ⟨p, y5, y6, rfl, sm, hp, eP⟩
      have hP' := hP.frame (H' := H') (fun t xs e => sm _ _ (s0 _ _ e))
      obtain ⟨t, r, rfl, hr2, ht⟩ := hP'.item hx
      obtain ⟨hrd, hd⟩ := ok r (List.mem_of_getElem? hr2)
      refine ⟨t, _, rfl, .inl (.inl ht), rfl, _, _, rfl, _, _, rfl, rfl, ?_⟩
      have hfew : (orderP b ws d (ps.take i)).length ≤ 1000 := by
        rw [orderP_len, List.length_take]
        omega
      refine ⟨_, rfl, _, rfl, _, rfl, _, rfl, _, rfl, _, rfl, b, r.2, d, 0, q, ws, rfl, hb, hb64, hrd, hd, (s0.trans sm).seq hL, hne, fun k2 hk2 H2 s2 => ?_⟩
      have eP2 := s2 _ _ eP
      refine ⟨p, orderP b ws d (ps.take i), r.1, frontOf ws 0 (rowsOf b r.2 d k2), rfl, eP2, hfew, fun H3 p3 s3 hp3 eP3 => ?_⟩
      refine ⟨p3, _, _, rfl, (sm.trans s2).trans s3, ((s0.trans sm).trans s2).free hp3, ?_⟩
      rw [List.take_add_one, hr2]
      show _ = some (HO.lst ((orderP b ws d (ps.take i ++ [r])).map fun x => V.int (x : Nat)))
      rw [orderP_snoc, sideT_eq hk2]
      exact eP3
    · rintro σ H' ⟨p, y5, y6, rfl, sm, hp, eP⟩
      rw [List.length_map, hP.len, List.take_length] at eP
      exact ⟨_, rfl, c _ p (s0.trans sm) hp eP⟩
end
/-! ### timers taken out, and fired -/
def DuesOk (ms : List Tm) : Prop := ∀ m ∈ ms, m.since < m.due ∧ m.due < 2 ^ 400
theorem order_few (b : Nat) (ws : List Bool) (t : Nat) (ms : List Tm) : (orderAt b ws t ms).length ≤ ms.length := by
  rw [order_len]
  exact List.length_filter_le _ _
/-- the timers that fire stand in the list, each once -/
structure Firing (t : Nat) (ms : List Tm) (ns : List Nat) : Prop where
  nd : ns.Nodup
  mem : ∀ n ∈ ns, ∃ m ∈ ms, m.num = n
theorem drop_mem {n : Nat} {ms : List Tm} {m : Tm} (h : m ∈ ms) (hn : m.num ≠ n) : m ∈ dropT n ms := List.mem_filter.mpr ⟨h, by simpa using hn⟩
theorem drop_len_lt {n : Nat} {ms : List Tm} (h : ∃ m ∈ ms, m.num = n) : (dropT n ms).length < ms.length := by
  obtain ⟨m, hm, e⟩ := h
  unfold dropT
  exact List.length_filter_lt_length_iff_exists.mpr ⟨m, hm, by simp [e]⟩
theorem fire_some {t n : Nat} {ms : List Tm} {m : Tm} (h : ms.find? (fun x => decide (x.num = n)) = some m) : fireT t ms n = match m.per with
    | none => dropT n ms
    | some k => dropT n ms ++ [⟨n, t + k, some k, t⟩] := by
  unfold fireT
  rw [h]
  try rfl
theorem drop_nodup {n : Nat} {ms : List Tm} (nd : (ms.map (·.num)).Nodup) : ((dropT n ms).map (·.num)).Nodup := by
  unfold dropT
  exact nd.sublist (List.Sublist.map _ List.filter_sublist)
theorem drop_not {n : Nat} {ms : List Tm} : ∀ m ∈ dropT n ms, m.num ≠ n := fun m hm => by simpa using (List.mem_filter.mp hm).2
theorem fire_nodup {t n : Nat} {ms : List Tm} (nd : (ms.map (·.num)).Nodup) : ((fireT t ms n).map (·.num)).Nodup := by
  unfold fireT
  split
  · exact nd
  · split
    · exact drop_nodup nd
    · rw [List.map_append]
      refine nd_snoc (drop_nodup nd) fun h => ?_
      obtain ⟨m, hm, e⟩ := List.mem_map.mp h
      exact drop_not m hm e
theorem fire_num {t n x : Nat} {ms : List Tm} (hx : x ≠ n) (h : ∃ m ∈ ms, m.num = x) : ∃ m ∈ fireT t ms n, m.num = x := by
  obtain ⟨m, hm, e⟩ := h
  unfold fireT
  split
  · exact ⟨m, hm, e⟩
  · split
    · exact ⟨m, drop_mem hm (by omega), e⟩
    · exact ⟨m, List.mem_append_left _ (drop_mem hm (by omega)), e⟩
theorem fire_len {t n : Nat} {ms : List Tm} : (fireT t ms n).length ≤ ms.length := by
  unfold fireT
  split
  · exact Nat.le_refl _
  · rename_i m hf
    have hm := List.mem_of_find?_eq_some hf
    have e : m.num = n := by simpa using List.find?_some hf
    have z := drop_len_lt (n := n) ⟨m, hm, e⟩
    split
    · omega
    · rw [List.length_append]
      show (dropT n ms).length + 1 ≤ _
      omega
/-! ### what fires, what is left -/
section
variable {P : Program} {w : World} {K : PySem.W.Frag} {mg : Str → Option Value} {base : Heap}
def spOrder (K : PySem.W.Frag) : Sp := fun vs H Q _ => ∃ (b t : Nat) (q l : Addr) (ws : List Bool) (kvs : List (Key × V)) (ms : List Tm), vs = [.int (b : Nat), .ref q, .ref l, .int (t : Nat)] ∧ 2 ≤ b ∧ b ≤ 64 ∧ SqL K H q (ws.map lvV) ∧ ws ≠ [] ∧ H l = some (.dK kvs) ∧ LiveK H kvs ms ∧ ms.length ≤ 1000 ∧ DuesOk ms ∧
  ∀ H' p, Same H H' → H p = none → H' p = some (.lst ((orderAt b ws t ms).map fun x => V.int (x : Nat))) → Q (.ref p) H'
theorem ok_order {f : Addr} {fd : FuncData} (F : Fun K "order_of_firing" "order_of_firing" s_order_of_firing f fd) (h1 : Has P w K mg base 4 "firing_order" ["base", "levels", "due", "settings"] [] (spFiringOrder K)) :
    FnOk P w K mg base CX0 5 f fd ["base", "levels", "live", "tick"] (spOrder K) := by
  obtain ⟨f_firing_order, fd_firing_order, ds_firing_order, G_firing_order, m_firing_order, k_firing_order, b_firing_order, v_firing_order⟩ := h1
  refine F.ok sc_order_of_firing (fun vs H Q E h => ?_) (fun cdv A outer s H vs Q E hr h => ?_)
  · obtain ⟨b, t, q, l, ws, kvs, ms, rfl, _⟩ := h
    rfl
  · obtain ⟨b, t, q, l, ws, kvs, ms, rfl, hb, hb64, hL, hne, hl, L, few, ok, c⟩ := h
    refine ⟨_, (pss_cons (ps_lock (ps_setLc (i := 4) (own := [("number", 5), ("due", 6), ("period", 7), ("since", 8)]) (g := _)  rfl sc_order_of_firing.nd rfl rfl (sw_true rfl rfl rfl (by decide +kernel)) (pi_items (pv 2)) (blkOk_by (own := [("number", 5), ("due", 6), ("period", 7), ("since", 8)]) (N := N_order_of_firing) (sc := defScope s_order_of_firing) (by decide +kernel)) (fun _ _ _ _ _ => (pg_tupK (K := K) (n := 2) rfl rfl (pgs_cons (pg_name (i := 5) sc_order_of_firing.nd rfl (.inl rfl)) (pgs_cons (pg_tupK (K := K) (n := 3) rfl rfl (pgs_cons (pg_name (i := 6) sc_order_of_firing.nd rfl (.inl rfl)) (pgs_cons (pg_name (i := 7) sc_order_of_firing.nd rfl (.inl rfl)) (pgs_cons (pg_name (i := 8) sc_order_of_firing.nd rfl (.inl rfl)) pgs_nil)))) pgs_nil)))) (fun _ _ _ _ _ => (pts_one (pt_cmpR op_eq (pv 6) (pv 3) (nomark _)))) (fun _ _ _ _ _ => (pe_tup (pa_cons (pv 5) (pa_cons (pv 8) pa_nil))))))
      (pss_one (ps_ret (pe_call G_firing_order hr (by rfl) m_firing_order k_firing_order b_firing_order v_firing_order pass0 (pa_cons (pv 0) (pa_cons (pv 1) (pa_cons (pv 3) (pa_cons (pv 4) pa_nil)))))))), ?_⟩
    refine ⟨l, _, hl, trivial, fun od => ?_⟩
    refine ⟨_, rfl, l, od, kvs, rfl, upd_same, fun D hD => lc_items (d := l) (o := od) (kvs := kvs) (fun i H' => Same (upd H l (.frz od (.dK kvs))) H' ∧ ∃ ts : List Addr, H' D = some (.lst (ts.map V.ref)) ∧ PrAt H' ts (setsOf t (ms.take i)))
      ⟨same_upd hD, [], upd_same, trivial⟩ (fun i H' ⟨sm, _⟩ => sm _ _ upd_same) ?_ ?_⟩
    · rintro i k v U H' hx ⟨sm, ts, eD, hP⟩ hU
      have L' := L.upd (o' := .frz od (.dK kvs)) hl (fun xs z => by cases z)
      obtain ⟨m, tt, hm, rfl, rfl, ht⟩ := L'.get hx
      have sU := same_upd (o := .tup [.int (m.num : Nat), .ref tt]) hU
      have ht' := sU _ _ (sm _ _ ht)
      have eD' := sU _ _ eD
      have hP' := hP.frame (H' := upd H' U (.tup [.int (m.num : Nat), .ref tt])) (fun t xs e => sU _ _ e)
      have hstep : setsOf t (ms.take (i + 1)) = setsOf t (ms.take i) ++ if m.due = t then [(m.num, m.since)] else [] := by
        rw [List.take_add_one, hm]
        show setsOf t (ms.take i ++ [m]) = _
        unfold setsOf
        rw [List.filter_append, List.map_append]
        by_cases e : m.due = t
        · rw [if_pos e, List.filter_cons_of_pos (by simpa using e)]
          rfl
        · rw [if_neg e, List.filter_cons_of_neg (by simpa using e)]
          rfl
      have hts : ts.length ≤ 1000 := by
        rw [hP.len]
        unfold setsOf
        rw [List.length_map]
        have z := List.length_filter_le (fun m : Tm => decide (m.due = t)) (ms.take i)
        rw [List.length_take] at z
        omega
      refine ⟨U, _, rfl, .inl (.inl upd_same), rfl, _, _, rfl, _, _, rfl, tt, _, rfl, .inl (.inl ht'), rfl, _, _, rfl, _, _, rfl, _, _, rfl, rfl, rfl, rfl, ?_⟩
      have sm1 := sm.trans sU
      by_cases e : m.due = t
      · refine ⟨_, rfl, _, rfl, rfl, true, dT (vE e), iteT ⟨_, rfl, _, rfl, by simp [sizeLine_eq], fun t3 ht3 => ?_⟩⟩
        have s3 := same_upd (o := .tup [.int (m.num : Nat), .int (m.since : Nat)]) ht3
        have eD3 := s3 _ _ eD'
        have n3 : t3 ≠ D := fun z => by
          rw [z] at ht3
          exact absurd (eD'.symm.trans ht3) (by intro y; cases y)
        refine ⟨_, eD3, ?_, fun c o e' => ?_, ts ++ [t3], ?_, ?_⟩
        · rw [List.length_map]
          exact sizeLine_ge (by omega)
        · rw [upd_ne (ne_of_none e' hD)]
          exact s3 _ _ (sm1 _ _ e')
        · rw [upd_same, List.map_append]
          rfl
        · rw [hstep, if_pos e]
          refine PrAt.app (r := (m.num, m.since)) (hP'.frame fun t' xs e' => ?_) ?_
          · rw [upd_ne (ne_of (s3 _ _ e') eD3 (by intro z; cases z))]
            exact s3 _ _ e'
          · rw [upd_ne n3]
            exact upd_same
      · refine ⟨_, rfl, _, rfl, rfl, false, dF (vN e), iteF ⟨sm1, ts, eD', ?_⟩⟩
        rw [hstep, if_neg e, List.append_nil]
        exact hP'
    · rintro H1 ⟨sm, ts, eD, hP⟩
      rw [L.len, List.take_length] at hP
      have nDl : D ≠ l := fun e => by
        rw [e, upd_same] at hD
        cases hD
      have s2 := unlock hl sm
      have hDn : H D = none := by
        rw [upd_ne nDl] at hD
        exact hD
      refine ⟨sm _ _ upd_same, ?_⟩
      have hP2 := hP.frame (H' := upd H1 l (.dK kvs)) (fun t' xs e' => by
        rw [upd_ne (ne_of e' (sm _ _ upd_same) (by intro z; cases z))]
        exact e')
      have eD2 : (upd H1 l (.dK kvs)) D = some (.lst (ts.map V.ref)) := by
        rw [upd_ne nDl]
        exact eD
      generalize upd H1 l (.dK kvs) = H2 at s2 hP2 eD2 ⊢
      refine ⟨_, rfl, _, rfl, _, rfl, _, rfl, b, t, q, D, ws, ts, setsOf t ms, rfl, hb, hb64, s2.seq hL, hne, eD2, hP2, ?_, ?_, fun H3 p s3 hp eP => ?_⟩
      · unfold setsOf
        rw [List.length_map]
        exact Nat.le_trans (List.length_filter_le _ _) few
      · intro r hr
        obtain ⟨m, hm, rfl⟩ := List.mem_map.mp hr
        have z := List.mem_filter.mp hm
        have e : m.due = t := by simpa using z.2
        rw [← e]
        exact ok m z.1
      · rw [← order_P] at eP
        exact c H3 p (s2.trans s3) (s2.free hp) eP
end
section
variable {P : Program} {w : World} {K : PySem.W.Frag} {mg : Str → Option Value} {base : Heap}
def spAfter : Sp := fun vs H Q _ => ∃ (l a : Addr) (t : Nat) (ns : List Nat) (kvs : List (Key × V)) (ms : List Tm), vs = [.ref l, .ref a, .int (t : Nat)] ∧ H l = some (.dK kvs) ∧ LiveK H kvs ms ∧ ms.length ≤ 1000 ∧ (ms.map (·.num)).Nodup ∧ H a = some (.lst (ns.map fun x => V.int (x : Nat))) ∧ Firing t ms ns ∧
  ∀ H' p kvs', Same H H' → H p = none → H' p = some (.dK kvs') → LiveK H' kvs' (afterF t ms ns) → Q (.ref p) H'
theorem ok_after {f : Addr} {fd : FuncData} (F : Fun K "after_firing" "after_firing" s_after_firing f fd) (T : Tx K mg) : FnOk P w K mg base CX0 1 f fd ["live", "numbers", "tick"] spAfter := by
  refine F.ok sc_after_firing (fun vs H Q E h => ?_) (fun cdv A outer s H vs Q E hr h => ?_)
  · obtain ⟨l, a, t, ns, kvs, ms, rfl, _⟩ := h
    rfl
  · obtain ⟨l, a, t, ns, kvs, ms, rfl, hl, L, few, nd, ha, fr, c⟩ := h
    have hu := hu_of hr
    refine ⟨_, (pss_cons (ps_set (i := 3) sc_after_firing.nd rfl (.inl rfl) (pe_callTy call_dictD (by rfl) T.b_dict (by decide +kernel) (pa_cons (pv 0) pa_nil)))
      (pss_cons (ps_for PassesOwn.never rfl (pi_list (pv 1)) (pg_name (i := 4) sc_after_firing.nd rfl (.inl rfl))
        (pss_cons (ps_asg (pe_dpop1 (pv 3) (pv 4) ⟨by rfl, by rfl, by rfl, by rfl⟩) (pg_tupK (K := K) (n := 3) rfl rfl (pgs_cons (pg_name (i := 5) sc_after_firing.nd rfl (.inl rfl)) (pgs_cons (pg_name (i := 6) sc_after_firing.nd rfl (.inl rfl)) (pgs_cons (pg_name (i := 7) sc_after_firing.nd rfl (.inl rfl)) pgs_nil)))))
        (pss_one (ps_if (pt_cmpR op_notN (pv 6) pe_non (nomark _))
          (pss_one (ps_dput hu (pv 3) (pv 4) (pe_tup (pa_cons (pe_op op_add (pv 2) (pv 6)) (pa_cons (pv 6) (pa_cons (pv 2) pa_nil)))) rfl))
          pss_nil))))
      (pss_one (ps_ret (pv 3))))), ?_⟩
    refine ⟨_, rfl, l, kvs, rfl, .inl hl, fun p hp => ?_⟩
    have s0 := same_upd (o := .dK kvs) hp
    have npa : p ≠ a := fun e => by
      rw [e, ha] at hp
      cases hp
    refine ⟨_, rfl, a, rfl, ⟨_, SqL.of (s0 _ _ ha)⟩, for_list (K := K) (a := a) (xs := ns.map fun x => V.int (x : Nat)) (fun i σ H' => ∃ (y4 y5 y6 y7 : Option V) (kvs' : List (Key × V)), σ = [some (.ref l), some (.ref a), some (.int (t : Nat)), some (.ref p), y4, y5, y6, y7] ∧ Same H H' ∧ H' p = some (.dK kvs') ∧ LiveK H' kvs' (afterF t ms (ns.take i)) ∧ ((afterF t ms (ns.take i)).map (·.num)).Nodup ∧ (afterF t ms (ns.take i)).length ≤ 1000 ∧ ∀ (x : Nat), (∃ j, i ≤ j ∧ ns[j]? = some x) → ∃ m ∈ afterF t ms (ns.take i), m.num = x)
      ⟨none, none, none, none, kvs, rfl, s0, upd_same, L.same s0, nd, few, fun x ⟨j, _, hj⟩ => fr.mem x (List.mem_of_getElem? hj)⟩ (fun i σ H' _ ⟨_, _, _, _, _, _, sm, _⟩ => SqL.of (sm _ _ ha)) ?_ ?_⟩
    · rintro i x σ H' hx ⟨y4, y5, y6, y7, kvs', rfl, sm, eP, L', nd', few', hin⟩
      rw [List.getElem?_map] at hx
      obtain ⟨n, hn, rfl⟩ : ∃ n, ns[i]? = some n ∧ x = V.int (n : Nat) := by
        cases e : ns[i]? with
        | none =>
          rw [e] at hx
          cases hx
        | some n =>
          rw [e] at hx
          exact ⟨n, rfl, (Option.some.inj hx).symm⟩
      obtain ⟨m, hm, en⟩ := hin n ⟨i, Nat.le_refl i, hn⟩
      have hfind := find_of nd' hm
      rw [en] at hfind
      obtain ⟨tt, hv, ht⟩ := L'.val_of nd' hm
      rw [en] at hv
      have estep : afterF t ms (ns.take (i + 1)) = fireT t (afterF t ms (ns.take i)) n := by
        unfold afterF
        rw [List.take_add_one, hn, List.foldl_append]
        rfl
      generalize hms : afterF t ms (ns.take i) = ms1 at L' nd' few' hin hm hfind estep
      have hnext : ∀ (x : Nat), (∃ j, i + 1 ≤ j ∧ ns[j]? = some x) → ∃ m ∈ fireT t ms1 n, m.num = x := fun x ⟨j, hj, ej⟩ => by
        refine fire_num (fun e => ?_) (hin x ⟨j, by omega, ej⟩)
        rw [e] at ej
        have hjl : j < ns.length := (List.getElem?_eq_some_iff.mp ej).1
        have := (List.getElem?_inj (i := i) (j := j) (List.getElem?_eq_some_iff.mp hn).1 fr.nd).mp (hn.trans ej.symm)
        omega
      refine ⟨_, rfl, p, rfl, .inl ⟨_, .inl eP⟩, _, rfl, kvs', Sum.inl (n : Int), _, eP, rfl, hv, ?_⟩
      have Ld := (L'.drop (n := n)).upd (o' := .dK (dropK kvs' (Sum.inl (n : Int)))) eP (fun xs z => by cases z)
      have ntp : tt ≠ p := ne_of ht eP (by intro z; cases z)
      have ht2 : (upd H' p (.dK (dropK kvs' (Sum.inl (n : Int))))) tt = some (.tup (tmV m)) := by
        rw [upd_ne ntp]
        exact ht
      have sd : Same H (upd H' p (.dK (dropK kvs' (Sum.inl (n : Int))))) := fun b o e => by
        rw [upd_ne (ne_of_none e hp)]
        exact sm _ _ e
      refine ⟨tt, _, rfl, .inl (.inl ht2), rfl, _, _, rfl, _, _, rfl, _, _, rfl, rfl, ?_⟩
      cases hper : m.per with
      | none =>
        have ef : fireT t ms1 n = dropT n ms1 := by rw [fire_some hfind, hper]
        refine ⟨perV none, rfl, rfl, false, ?_, iteF ?_⟩
        · rfl
        · refine ⟨_, _, _, _, _, rfl, sd, upd_same, ?_, ?_, ?_, ?_⟩
          · rw [estep, ef]
            exact Ld
          · rw [estep]
            exact fire_nodup nd'
          · rw [estep]
            exact Nat.le_trans fire_len few'
          · rw [estep]
            exact hnext
      | some k =>
        have ef : fireT t ms1 n = dropT n ms1 ++ [⟨n, t + k, some k, t⟩] := by rw [fire_some hfind, hper]
        refine ⟨perV (some k), rfl, rfl, true, ?_, iteT ?_⟩
        · rfl
        · have hvn := Ld.val_not (n := n) (fun m' hm' => drop_not m' hm')
          have hlen : (dropK kvs' (Sum.inl (n : Int))).length < sizeLine := by
            have z := dropK_le kvs' (Sum.inl (n : Int) : Key)
            rw [L'.len] at z
            exact sizeLine_ge (by omega)
          refine ⟨_, rfl, .int (k : Nat), rfl, _, _, rfl, rfl, .int (k : Nat), rfl, _, rfl, by simp [sizeLine_eq], fun u hu0 => ?_⟩
          have su := same_upd (o := .tup [.int ((t : Int) + (k : Int)), .int (k : Nat), .int (t : Nat)]) hu0
          have nup : p ≠ u := fun e => by
            rw [← e, upd_same] at hu0
            cases hu0
          refine ⟨_, rfl, _, rfl, p, _, rfl, DPut.k (k := Sum.inl (n : Int)) (su _ _ upd_same) hlen, ?_⟩
          rw [putK_new _ hvn]
          refine ⟨_, _, _, _, _, rfl, fun b o e => ?_, upd_same, ?_, ?_, ?_, ?_⟩
          · rw [upd_ne (ne_of_none e hp)]
            exact su _ _ (sd _ _ e)
          · rw [estep, ef]
            refine LiveK.upd (su _ _ upd_same) (fun xs z => by cases z) ?_
            exact (Ld.same su).snoc (m := ⟨n, t + k, some k, t⟩) rfl upd_same
          · rw [estep]
            exact fire_nodup nd'
          · rw [estep]
            exact Nat.le_trans fire_len few'
          · rw [estep]
            exact hnext
    · rintro σ H' ⟨y4, y5, y6, y7, kvs', rfl, sm, eP, L', _⟩
      rw [List.length_map, List.take_length] at L'
      exact ⟨_, rfl, c H' p kvs' sm hp eP L'⟩
end
/-! ### a wheel in the heap -/
def wfl (b : Nat) (q : Addr) (t f : Nat) (l : Addr) : List (Str × V) := [("base", .int (b : Nat)), ("words", .ref q), ("tick", .int (t : Nat)), ("following", .int (f : Nat)), ("live", .ref l)]
theorem ne_bw : ¬ (("base" : Str) = "words") := by decide +kernel
theorem ne_bt : ¬ (("base" : Str) = "tick") := by decide +kernel
theorem ne_bf : ¬ (("base" : Str) = "following") := by decide +kernel
theorem ne_bl : ¬ (("base" : Str) = "live") := by decide +kernel
theorem ne_wt : ¬ (("words" : Str) = "tick") := by decide +kernel
theorem ne_wf : ¬ (("words" : Str) = "following") := by decide +kernel
theorem ne_wl : ¬ (("words" : Str) = "live") := by decide +kernel
theorem ne_tf : ¬ (("tick" : Str) = "following") := by decide +kernel
theorem ne_tl : ¬ (("tick" : Str) = "live") := by decide +kernel
theorem ne_fl : ¬ (("following" : Str) = "live") := by decide +kernel
theorem lk_hit {k : Str} {v : V} {r : List (Str × V)} : List.lookup k ((k, v) :: r) = some v := by simp [List.lookup]
theorem lk_miss {k g : Str} {v : V} {r : List (Str × V)} (h : ¬ g = k) : List.lookup k ((g, v) :: r) = List.lookup k r := by
  have e : (k == g) = false := by simpa using fun z : k = g => h z.symm
  rw [List.lookup, e]
theorem pt_hit {k : Str} {v x : V} {r : List (Str × V)} : putF k v ((k, x) :: r) = (k, v) :: r := if_pos rfl
theorem pt_miss {k g : Str} {v x : V} {r : List (Str × V)} (h : ¬ g = k) : putF k v ((g, x) :: r) = (g, x) :: putF k v r := if_neg h
theorem pt_nil {k : Str} {v : V} : putF k v [] = [(k, v)] := rfl
section
variable {b : Nat} {q : Addr} {t f : Nat} {l : Addr}
theorem wf_b : (wfl b q t f l).lookup ("base" : Str) = some (.int (b : Nat)) := lk_hit
theorem wf_w : (wfl b q t f l).lookup ("words" : Str) = some (.ref q) := (lk_miss ne_bw).trans lk_hit
theorem wf_t : (wfl b q t f l).lookup ("tick" : Str) = some (.int (t : Nat)) := (lk_miss ne_bt).trans ((lk_miss ne_wt).trans lk_hit)
theorem wf_f : (wfl b q t f l).lookup ("following" : Str) = some (.int (f : Nat)) := (lk_miss ne_bf).trans ((lk_miss ne_wf).trans ((lk_miss ne_tf).trans lk_hit))
theorem wf_l : (wfl b q t f l).lookup ("live" : Str) = some (.ref l) := (lk_miss ne_bl).trans ((lk_miss ne_wl).trans ((lk_miss ne_tl).trans ((lk_miss ne_fl).trans lk_hit)))
theorem wf_no {m : Str} (h1 : ¬ ("base" : Str) = m) (h2 : ¬ ("words" : Str) = m) (h3 : ¬ ("tick" : Str) = m) (h4 : ¬ ("following" : Str) = m) (h5 : ¬ ("live" : Str) = m) : (wfl b q t f l).lookup m = none :=
  (lk_miss h1).trans ((lk_miss h2).trans ((lk_miss h3).trans ((lk_miss h4).trans ((lk_miss h5).trans rfl))))
theorem wf_pt {t' : Nat} : putF "tick" (.int (t' : Nat)) (wfl b q t f l) = wfl b q t' f l := by
  unfold wfl
  rw [pt_miss ne_bt, pt_miss ne_wt, pt_hit]
theorem wf_pf {f' : Nat} : putF "following" (.int (f' : Nat)) (wfl b q t f l) = wfl b q t f' l := by
  unfold wfl
  rw [pt_miss ne_bf, pt_miss ne_wf, pt_miss ne_tf, pt_hit]
theorem wf_pl {l' : Addr} : putF "live" (.ref l') (wfl b q t f l) = wfl b q t f l' := by
  unfold wfl
  rw [pt_miss ne_bl, pt_miss ne_wl, pt_miss ne_tl, pt_miss ne_fl, pt_hit]
end
structure WheelAt (C : Addr) (H : Hp) (p q l : Addr) (W : WS) : Prop where
  ins : ∃ dx, H p = some (.ins C dx (wfl W.b q W.tick W.fol l))
  words : H q = some (.lst (W.ws.map lvV))
  live : ∃ kvs, H l = some (.dK kvs) ∧ LiveK H kvs W.live
/-- all but the wheel (its object p, its dict l) stands as it was; its dict is the old one or a new one -/
structure Wk (p l : Addr) (H H' : Hp) (l' : Addr) : Prop where
  keep : ∀ c o, c ≠ p → c ≠ l → H c = some o → H' c = some o
  new : l' = l ∨ H l' = none
theorem WheelAt.same {C : Addr} {H H' : Hp} {p q l : Addr} {W : WS} (s : Same H H') (w : WheelAt C H p q l W) : WheelAt C H' p q l W := by
  obtain ⟨dx, h⟩ := w.ins
  obtain ⟨kvs, h2, L⟩ := w.live
  exact ⟨⟨dx, s _ _ h⟩, s _ _ w.words, ⟨kvs, s _ _ h2, L.same s⟩⟩
theorem WheelAt.frame {C : Addr} {H H' : Hp} {p q l a : Addr} {W : WS} {xs : List V} (w : WheelAt C H p q l W) (ha : H a = some (.lst xs)) (hq : a ≠ q) (s : ∀ c o, c ≠ a → H c = some o → H' c = some o) : WheelAt C H' p q l W := by
  obtain ⟨dx, h⟩ := w.ins
  obtain ⟨kvs, h2, L⟩ := w.live
  refine ⟨⟨dx, s _ _ (ne_of h ha (by intro z; cases z)) h⟩, s _ _ (Ne.symm hq) w.words, ⟨kvs, s _ _ (ne_of h2 ha (by intro z; cases z)) h2, L.frame fun t m e => s _ _ (ne_of e ha (by intro z; cases z)) e⟩⟩
structure TxW (K : PySem.W.Frag) (mg : Str → Option Value) (C : Addr) : Prop where
  cl : Cls K C
  nB : NoAttr K C "base"
  nW : NoAttr K C "words"
  nT : NoAttr K C "tick"
  nF : NoAttr K C "following"
  nL : NoAttr K C "live"
  mgC : mg "Wheel" = some (.ref C)
section
variable {P : Program} {w : World} {K : PySem.W.Frag} {mg : Str → Option Value} {base : Heap}
/-- a method that keeps its promise -/
def HasM (P : Program) (w : World) (K : PySem.W.Frag) (mg : Str → Option Value) (base : Heap) (k : Nat) (C : Addr) (m : Str) (ps : List Str) (dvs : List V) (sp : Sp) : Prop :=
  ∃ (f : Addr) (fd : FuncData) (ds : List Value), FnOk P w K mg base CX0 k f fd ps sp ∧ Meth K C m f ∧ Binds K fd ps ds ∧ Vals dvs ds
end
/-! ### a period, of an integer -/
section
variable {P : Program} {w : World} {K : PySem.W.Frag} {mg : Str → Option Value} {base : Heap}
def spIsPeriod : Sp := fun vs H Q _ => ∃ n : Int, vs = [.int n] ∧ 1 ≤ n ∧ Q (.bl true) H
theorem ok_is_period {f : Addr} {fd : FuncData} (F : Fun K "is_period" "is_period" s_is_period f fd) (h1 : Has P w K mg base 1 "is_integer" ["given"] [] spIsInt) : FnOk P w K mg base CX0 2 f fd ["given"] spIsPeriod := by
  obtain ⟨f_is_integer, fd_is_integer, ds_is_integer, G_is_integer, m_is_integer, k_is_integer, b_is_integer, v_is_integer⟩ := h1
  refine F.ok sc_is_period (fun vs H Q E h => ?_) (fun cdv A outer s H vs Q E hr h => ?_)
  · obtain ⟨n, rfl, _⟩ := h
    rfl
  · obtain ⟨n, rfl, l1, q⟩ := h
    refine ⟨_, (pss_one (ps_ret (pe_and (pe_call G_is_integer hr (by rfl) m_is_integer k_is_integer b_is_integer v_is_integer pass0 (pa_cons (pv 0) pa_nil)) (pe_one (pe_cmpR op_ge (pv 0) pe_int (nomark _)))))), ?_⟩
    refine ⟨.int n, rfl, n, rfl, true, rfl, iteT ?_⟩
    refine ⟨.int n, rfl, n, 1, rfl, rfl, ?_⟩
    have e : V.bl (decide (n ≥ 1)) = V.bl true := dT l1
    show Q (V.bl (decide (n ≥ 1))) H
    rw [e]
    exact q
end
section
variable {P : Program} {w : World} {K : PySem.W.Frag} {mg : Str → Option Value} {base : Heap}
def trimN (ws : List Bool) : Nat → Nat
  | 0 => 0
  | n + 1 => if 1 ≤ n ∧ ws[n]? = ws[n - 1]? then trimN ws n else n + 1
def trimW (ws : List Bool) : List Bool := ws.take (trimN ws ws.length)
theorem trimN_le (ws : List Bool) : ∀ n, trimN ws n ≤ n
  | 0 => Nat.le_refl _
  | n + 1 => by
    unfold trimN
    split
    · exact Nat.le_succ_of_le (trimN_le ws n)
    · exact Nat.le_refl _
theorem trimN_pos (ws : List Bool) : ∀ n, 1 ≤ n → 1 ≤ trimN ws n
  | 0, h => h
  | n + 1, _ => by
    unfold trimN
    split
    · rename_i h
      exact trimN_pos ws n h.1
    · omega
theorem trim_ne {ws : List Bool} (h : ws ≠ []) : trimW ws ≠ [] := by
  have hp : 0 < ws.length := List.length_pos_iff.mpr h
  have z := trimN_pos ws ws.length hp
  intro e
  have e2 := congrArg List.length e
  unfold trimW at e2
  rw [List.length_take] at e2
  have e3 : ([] : List Bool).length = 0 := rfl
  omega
theorem trim_len (ws : List Bool) : (trimW ws).length ≤ ws.length := by
  unfold trimW
  rw [List.length_take]
  omega
def spRepeats (K : PySem.W.Frag) : Sp := fun vs H Q _ => ∃ (q : Addr) (ws : List Bool), vs = [.ref q] ∧ SqL K H q (ws.map lvV) ∧ ws ≠ [] ∧ ws.length ≤ 60 ∧ ∀ H' p, Same H H' → H p = none → H' p = some (.lst ((trimW ws).map lvV)) → Q (.ref p) H'
theorem lv_inj {a b : Bool} : lvV a = lvV b ↔ a = b := by
  cases a <;> cases b <;> decide
theorem ok_repeats {f : Addr} {fd : FuncData} (F : Fun K "without_repeats" "without_repeats" s_without_repeats f fd) (T : Tx K mg) : FnOk P w K mg base CX0 1 f fd ["levels"] (spRepeats K) := by
  refine F.ok sc_without_repeats (fun vs H Q E h => ?_) (fun cdv A outer s H vs Q E hr h => ?_)
  · obtain ⟨q, ws, rfl, _⟩ := h
    rfl
  · obtain ⟨q, ws, rfl, hL, hne, h60, c⟩ := h
    refine ⟨_, (pss_cons (ps_set (i := 1) sc_without_repeats.nd rfl (.inl rfl) (pe_callB (lenK (K := K) rfl) (by rfl) T.b_len PySem.boot_len (pa_cons (pv 0) pa_nil)))
      (pss_cons (ps_while PassesOwn.never (PW.pt (pw_and (pt_cmpR op_gt (pv 1) pe_int (nomark _)) (pw_and1 (pt_cmpR op_eq (pe_ix (ix_listK (K := K) rfl) (pv 0) (pe_op op_subN (pv 1) pe_int) (fun _ _ => rfl)) (pe_ix (ix_listK (K := K) rfl) (pv 0) (pe_op op_subN (pv 1) pe_int) (fun _ _ => rfl)) (nomark _)))))
        (pss_one (ps_aug (i := 1) sc_without_repeats.nd rfl (.inl rfl) pe_int ip_sub)))
      (pss_one (ps_ret (pe_slice (sl_listK (K := K) rfl) (pv 0) po_none (po_some (pv 1))))))), ?_⟩
    refine ⟨.ref q, rfl, q, _, rfl, .inl hL, ?_⟩
    refine while_by (fun σ H' => ∃ n : Nat, σ = [some (.ref q), some (.int (n : Nat))] ∧ H' = H ∧ 1 ≤ n ∧ n ≤ ws.length ∧ trimN ws ws.length = trimN ws n) (fun σ _ => slotInt σ 1) ⟨ws.length, by rw [List.length_map]; rfl, rfl, List.length_pos_iff.mpr hne, Nat.le_refl _, rfl⟩ ?_ ?_
    · rintro σ H' ⟨n, rfl, rfl, h1, hn, et⟩
      have fin : n = trimN ws n → tRet (tSl (rSlL K) (tVar 0) tNoPart (tPart (tVar 1))) { nx := fun _ H' => Q .non H', rt := Q } [some (.ref q), some (.int (n : Nat))] H' := fun e => by
        refine ⟨_, rfl, _, rfl, _, rfl, q, _, rfl, hL, fun p hp => ?_⟩
        refine c _ p (same_upd hp) hp ?_
        rw [upd_same]
        have ec : cutV (ws.map lvV) none (some ((n : Nat) : Int)) = (trimW ws).map lvV := by
          unfold trimW cutV
          rw [HT.sIx_none, HT.sIx_nat, List.drop_zero, Nat.sub_zero, List.length_map, Nat.min_eq_left hn, List.map_take, et, ← e]
        rw [ec]
      obtain ⟨n, rfl⟩ : ∃ n', n = n' + 1 := ⟨n - 1, by omega⟩
      by_cases h2 : 1 < n + 1
      · have g1 : (ws.map lvV)[n]? = some (lvV (ws[n]'(by omega))) := by
          rw [List.getElem?_map, List.getElem?_eq_getElem]
          rfl
        have g2 : (ws.map lvV)[n - 1]? = some (lvV (ws[n - 1]'(by omega))) := by
          rw [List.getElem?_map, List.getElem?_eq_getElem]
          rfl
        refine ⟨_, rfl, _, _, rfl, rfl, true, dT (by omega), iteT ?_⟩
        refine ⟨_, rfl, _, rfl, n + 1, 1, rfl, rfl, Nat.le_add_left 1 n, q, _, _, _, rfl, rfl, hL, atI_nat (j := n) g1, _, rfl, _, rfl, n + 1, 2, rfl, rfl, (by show 2 ≤ n + 1; omega), q, _, _, _, rfl, rfl, hL, atI_nat (j := n - 1) g2, ?_, ?_⟩
        · cases ws[n]'(by omega) <;> cases ws[n - 1]'(by omega) <;> rfl
        · by_cases e : ws[n]'(by omega) = ws[n - 1]'(by omega)
          · have et2 : trimN ws (n + 1) = trimN ws n := by
              rw [trimN, if_pos]
              refine ⟨by omega, ?_⟩
              rw [List.getElem?_eq_getElem (by omega : n < ws.length), List.getElem?_eq_getElem (by omega : n - 1 < ws.length), e]
            refine ⟨true, dT (lv_inj.mpr e), iteT ⟨_, rfl, _, _, rfl, rfl, ⟨n, ?_, rfl, by omega, by omega, by rw [et, et2]⟩, ?_⟩⟩
            · show [some (V.ref q), some (V.int (((n + 1 : Nat) : Int) - 1))] = _
              rw [show ((n + 1 : Nat) : Int) - 1 = (n : Int) by omega]
            · show (((n + 1 : Nat) : Int) - 1).toNat < (((n + 1 : Nat) : Int)).toNat
              omega
          · refine ⟨false, dF (fun z => e (lv_inj.mp z)), iteF ?_⟩
            refine fin ?_
            rw [trimN, if_neg]
            rintro ⟨_, z⟩
            rw [List.getElem?_eq_getElem (by omega : n < ws.length), List.getElem?_eq_getElem (by omega : n - 1 < ws.length)] at z
            exact e (Option.some.inj z)
      · refine ⟨_, rfl, _, _, rfl, rfl, false, dF (by omega), iteF (iteF ?_)⟩
        refine fin ?_
        rw [trimN, if_neg]
        rintro ⟨z, _⟩
        omega
    · rintro σ H' Q1 Q2 h ⟨x, hx, i, j, e1, e2, k, e, z⟩
      refine ⟨x, hx, i, j, e1, e2, k, e, ?_⟩
      cases k with
      | false => exact iteF (h _ _ (by rw [if_neg Bool.false_ne_true] at z; exact z))
      | true =>
        rw [if_pos rfl] at z
        refine iteT ?_
        obtain ⟨x1, hx1, x2, hx2, a1, b1, e3, e4, c1, p1, i1, j1, v1, e5, e6, hs1, g1, y1, hy1, y2, hy2, a2, b2, e7, e8, c2, p2, i2, j2, v2, e9, e10, hs2, g2, hsc, k', ek, zz⟩ := z
        exact ⟨x1, hx1, x2, hx2, a1, b1, e3, e4, c1, p1, i1, j1, v1, e5, e6, hs1, g1, y1, hy1, y2, hy2, a2, b2, e7, e8, c2, p2, i2, j2, v2, e9, e10, hs2, g2, hsc, k', ek, h _ _ zz⟩
def spCheckPeriod : Sp := fun vs H Q _ => ∃ o : Option Nat, vs = [perV o] ∧ (∀ k, o = some k → 1 ≤ k) ∧ Q .non H
theorem ok_check_period {f : Addr} {fd : FuncData} (F : Fun K "check_period" "check_period" s_check_period f fd) (h1 : Has P w K mg base 2 "is_period" ["given"] [] spIsPeriod) : FnOk P w K mg base CX0 3 f fd ["period"] spCheckPeriod := by
  obtain ⟨f_is_period, fd_is_period, ds_is_period, G_is_period, m_is_period, k_is_period, b_is_period, v_is_period⟩ := h1
  refine F.ok sc_check_period (fun vs H Q E h => ?_) (fun cdv A outer s H vs Q E hr h => ?_)
  · obtain ⟨o, rfl, _⟩ := h
    rfl
  · obtain ⟨o, rfl, hp, q⟩ := h
    refine ⟨_, (pss_one (ps_if (PW.pt (pw_and (pt_cmpR op_notN (pv 0) pe_non (nomark _)) (pw_and1 (pt_not (pt_val (pe_call G_is_period hr (by rfl) m_is_period k_is_period b_is_period v_is_period pass0 (pa_cons (pv 0) pa_nil)))))))
        (pss_one ps_never)
        pss_nil)), ?_⟩
    cases o with
    | none => exact ⟨_, rfl, rfl, false, rfl, iteF (iteF q)⟩
    | some k =>
      have hk := hp k rfl
      refine ⟨_, rfl, rfl, true, rfl, iteT ?_⟩
      exact ⟨.int (k : Nat), rfl, (k : Nat), rfl, by omega, true, rfl, iteF q⟩
def spInit (C : Addr) (K : PySem.W.Frag) : Sp := fun vs H Q _ => ∃ (p dx q0 : Addr) (b t : Nat) (ws : List Bool), vs = [.ref p, .int (b : Nat), .ref q0, .int (t : Nat)] ∧ H p = some (.ins C dx []) ∧ SqL K H q0 (ws.map lvV) ∧ 2 ≤ b ∧ b ≤ 64 ∧ ws ≠ [] ∧ ws.length ≤ 60 ∧
  ∀ H' q l, (∀ c o, c ≠ p → H c = some o → H' c = some o) → H q = none → H l = none → WheelAt C H' p q l ⟨b, trimW ws, t, 0, []⟩ → Q .non H'
theorem ok_init {f C : Addr} {fd : FuncData} (F : FunD K "__init__" "Wheel.__init__" (defArgs s_Wheel___init__) (defBody s_Wheel___init__) (defScope s_Wheel___init__) [] [("start", .int 0)] f fd) (TW : TxW K mg C) (h1 : Has P w K mg base 3 "check_base" ["base"] [] spCheckBase)
    (h2 : Has P w K mg base 3 "check_tick" ["tick", "least"] [.int 0] spCheckTick) (h4 : Has P w K mg base 4 "check_levels" ["levels"] [] (spCheckLevels K)) (h5 : Has P w K mg base 1 "without_repeats" ["levels"] [] (spRepeats K)) :
    FnOk P w K mg base CX0 5 f fd ["self", "base", "levels", "start"] (spInit C K) := by
  obtain ⟨f_check_base, fd_check_base, ds_check_base, G_check_base, m_check_base, k_check_base, b_check_base, v_check_base⟩ := h1
  obtain ⟨f_check_tick1, fd_check_tick1, ds_check_tick1, G_check_tick1, m_check_tick1, k_check_tick1, b_check_tick1, v_check_tick1⟩ := h2
  obtain ⟨f_check_levels, fd_check_levels, ds_check_levels, G_check_levels, m_check_levels, k_check_levels, b_check_levels, v_check_levels⟩ := h4
  obtain ⟨f_without_repeats, fd_without_repeats, ds_without_repeats, G_without_repeats, m_without_repeats, k_without_repeats, b_without_repeats, v_without_repeats⟩ := h5
  refine F.ok sc_Wheel___init__ (fun vs H Q E h => ?_) (fun cdv A outer s H vs Q E hr h => ?_)
  · obtain ⟨p, dx, q0, b, t, ws, rfl, _⟩ := h
    rfl
  · obtain ⟨p, dx, q0, b, t, ws, rfl, hp, hL, hb, hb64, hne, h60, c⟩ := h
    refine ⟨_, PSs.nox (pss_cons (ps_expr (pe_call G_check_base (hr.mono (by decide)) (by rfl) m_check_base k_check_base b_check_base v_check_base pass0 (pa_cons (pv 1) pa_nil)))
      (pss_cons (ps_expr (pe_call G_check_levels hr (by rfl) m_check_levels k_check_levels b_check_levels v_check_levels pass0 (pa_cons (pv 2) pa_nil)))
      (pss_cons (ps_expr (pe_call G_check_tick1 (hr.mono (by decide)) (by rfl) m_check_tick1 k_check_tick1 b_check_tick1 v_check_tick1 pass0 (pa_cons (pv 3) pa_nil)))
      (pss_cons (ps_fld (pv 0) (pv 1) rfl)
      (pss_cons (ps_fld (pv 0) (pe_call G_without_repeats (hr.mono (by decide)) (by rfl) m_without_repeats k_without_repeats b_without_repeats v_without_repeats pass0 (pa_cons (pv 2) pa_nil)) rfl)
      (pss_cons (ps_fld (pv 0) (pv 3) rfl)
      (pss_cons (ps_fld (pv 0) pe_int rfl)
      (pss_one (ps_fld (pv 0) pe_dnewK rfl))))))))), ?_⟩
    refine ⟨_, rfl, b, rfl, by omega, by omega, ?_⟩
    refine ⟨_, rfl, q0, ws, rfl, hL, hne, h60, fun H1 s1 => ?_⟩
    refine ⟨_, rfl, t, 0, rfl, by omega, ?_⟩
    have hp1 := s1 _ _ hp
    refine ⟨_, rfl, _, rfl, p, C, dx, [], rfl, hp1, TW.cl, TW.nB, by simp, ?_⟩
    have k2 : ∀ c o, c ≠ p → H c = some o → (upd H1 p (.ins C dx (putF "base" (.int (b : Nat)) []))) c = some o := fun c o n e => by
      rw [upd_ne n]
      exact s1 _ _ e
    have hL2 : SqL K (upd H1 p (.ins C dx (putF "base" (.int (b : Nat)) []))) q0 (ws.map lvV) := by
      rcases s1.seq hL with (e | ⟨o, e⟩) | e
      · exact .inl (.inl (by rw [upd_ne (ne_of e hp1 (by intro z; cases z))]; exact e))
      · exact .inl (.inr ⟨o, by rw [upd_ne (ne_of e hp1 (by intro z; cases z))]; exact e⟩)
      · exact .inr e
    refine ⟨_, rfl, q0, ws, rfl, hL2, hne, h60, fun H3 q s3 hq0 hq3 => ?_⟩
    have hp3 := s3 _ _ (upd_same (H := H1) (a := p))
    have nqp : q ≠ p := fun e => by
      rw [e, upd_same] at hq0
      cases hq0
    have k3 : ∀ c o, c ≠ p → H c = some o → H3 c = some o := fun c o n e => s3 _ _ (k2 c o n e)
    have hqn : H q = none := by
      cases e : H q with
      | none => rfl
      | some o =>
        rw [k2 q o nqp e] at hq0
        cases hq0
    refine ⟨_, rfl, p, C, dx, _, rfl, hp3, TW.cl, TW.nW, by rw [pt_nil]; simp, ?_⟩
    refine ⟨_, rfl, _, rfl, p, C, dx, _, rfl, upd_same, TW.cl, TW.nT, by rw [pt_nil, pt_miss ne_bw, pt_nil]; simp, ?_⟩
    refine ⟨_, rfl, p, C, dx, _, rfl, upd_same, TW.cl, TW.nF, by rw [pt_nil, pt_miss ne_bw, pt_nil, pt_miss ne_bt, pt_miss ne_wt, pt_nil]; simp, ?_⟩
    refine fun l hl => ⟨_, rfl, p, C, dx, putF "following" (.int 0) (putF "tick" (.int (t : Nat)) (putF "words" (.ref q) (putF "base" (.int (b : Nat)) []))), rfl, ?_, TW.cl, TW.nL, by rw [pt_nil, pt_miss ne_bw, pt_nil, pt_miss ne_bt, pt_miss ne_wt, pt_nil, pt_miss ne_bf, pt_miss ne_wf, pt_miss ne_tf, pt_nil]; simp, ?_⟩
    · have nlp : p ≠ l := fun e => by
        rw [← e, upd_same] at hl
        cases hl
      rw [upd_ne nlp, upd_same]
    have nlp : l ≠ p := fun e => by
      rw [e, upd_same] at hl
      cases hl
    rw [upd_ne nlp, upd_ne nlp, upd_ne nlp] at hl
    have nlq : l ≠ q := fun e => by
      rw [e, hq3] at hl
      cases hl
    have hln : H l = none := by
      cases e : H l with
      | none => rfl
      | some o =>
        rw [k3 l o nlp e] at hl
        cases hl
    refine c _ q l (fun c o n e => ?_) hqn hln ⟨⟨dx, ?_⟩, ?_, ⟨[], ?_, trivial⟩⟩
    · rw [upd_ne n, upd_ne (fun z => by rw [z, hln] at e; cases e), upd_ne n, upd_ne n, upd_ne n]
      exact k3 c o n e
    · rw [upd_same, pt_nil, pt_miss ne_bw, pt_nil, pt_miss ne_bt, pt_miss ne_wt, pt_nil, pt_miss ne_bf, pt_miss ne_wf, pt_miss ne_tf, pt_nil, pt_miss ne_bl, pt_miss ne_wl, pt_miss ne_tl, pt_miss ne_fl, pt_nil]
      rfl
    · rw [upd_ne nqp, upd_ne (Ne.symm nlq), upd_ne nqp, upd_ne nqp, upd_ne nqp]
      exact hq3
    · rw [upd_ne nlp, upd_same]
end
/-! ### words at the end that only repeat tell nothing -/
theorem trimN_same {ws : List Bool} : ∀ n, 1 ≤ n → n ≤ ws.length → (∀ i, n - 1 ≤ i → i < ws.length → ws[i]? = ws[n - 1]?) → ∀ i, trimN ws n - 1 ≤ i → i < ws.length → ws[i]? = ws[trimN ws n - 1]?
  | 0, h, _, _ => by omega
  | n + 1, _, hl, h => by
    intro i h1 h2
    unfold trimN at h1 ⊢
    split at h1
    · rename_i c
      rw [if_pos c]
      refine trimN_same n c.1 (by omega) (fun j j1 j2 => ?_) i h1 h2
      by_cases e : j = n - 1
      · rw [e]
      · have z := h j (by omega) j2
        rw [Nat.add_sub_cancel] at z
        rw [z]
        exact c.2
    · rename_i c
      rw [if_neg c]
      exact h i h1 h2
theorem trim_word {ws : List Bool} (hne : ws ≠ []) (k : Nat) : wordAt (trimW ws) k = wordAt ws k := by
  have hp : 0 < ws.length := List.length_pos_iff.mpr hne
  have m0 := trimN_pos ws ws.length hp
  have m1 := trimN_le ws ws.length
  have same := trimN_same (ws := ws) ws.length hp (Nat.le_refl _) fun i h1 h2 => by
    rw [show i = ws.length - 1 by omega]
  unfold wordAt trimW
  have e1 : (ws.take (trimN ws ws.length)).length = trimN ws ws.length := by
    rw [List.length_take]
    omega
  rw [e1]
  rw [List.getD_eq_getElem?_getD, List.getD_eq_getElem?_getD, List.getElem?_take, if_pos (by omega)]
  by_cases c : k ≤ trimN ws ws.length - 1
  · rw [Nat.min_eq_left c, Nat.min_eq_left (by omega)]
  · rw [Nat.min_eq_right (by omega), ← same (min k (ws.length - 1)) (by omega) (by omega)]
theorem trim_side {ws : List Bool} (hne : ws ≠ []) (b n d lo : Nat) : sideT b (trimW ws) n d lo = sideT b ws n d lo := by
  unfold sideT
  split
  · unfold frontOf
    congr 3
    congr 1
    funext r
    rw [trim_word hne]
  · rfl
section
variable {P : Program} {w : World} {K : PySem.W.Frag} {mg : Str → Option Value} {base : Heap}
theorem no_ct {b : Nat} {q : Addr} {t f : Nat} {l : Addr} : (wfl b q t f l).lookup ("check_timer" : Str) = none := wf_no (by decide +kernel) (by decide +kernel) (by decide +kernel) (by decide +kernel) (by decide +kernel)
def spCheckTimer (C : Addr) : Sp := fun vs H Q _ => ∃ (p q l : Addr) (W : WS) (n : Nat), vs = [.ref p, .int (n : Nat)] ∧ WheelAt C H p q l W ∧ (W.live.map (·.num)).Nodup ∧ (∃ m ∈ W.live, m.num = n) ∧ Q .non H
theorem ok_check_timer {f C : Addr} {fd : FuncData} (F : Fun K "check_timer" "Wheel.check_timer" s_Wheel_check_timer f fd) (TW : TxW K mg C) (h1 : Has P w K mg base 1 "is_integer" ["given"] [] spIsInt) : FnOk P w K mg base CX0 2 f fd ["self", "timer"] (spCheckTimer C) := by
  obtain ⟨f_is_integer, fd_is_integer, ds_is_integer, G_is_integer, m_is_integer, k_is_integer, b_is_integer, v_is_integer⟩ := h1
  refine F.ok sc_Wheel_check_timer (fun vs H Q E h => ?_) (fun cdv A outer s H vs Q E hr h => ?_)
  · obtain ⟨p, q, l, W, n, rfl, _⟩ := h
    rfl
  · obtain ⟨p, q, l, W, n, rfl, hw, nd, ⟨m, hm, en⟩, c⟩ := h
    have hu := hu_of hr
    obtain ⟨dx, hp⟩ := hw.ins
    obtain ⟨kvs, hl, L⟩ := hw.live
    obtain ⟨tt, hv, ht⟩ := L.val_of nd hm
    rw [en] at hv
    refine ⟨_, (pss_one (ps_if (PW.pt (pw_or (pt_not (pt_val (pe_call G_is_integer hr (by rfl) m_is_integer k_is_integer b_is_integer v_is_integer pass0 (pa_cons (pv 1) pa_nil)))) (pw_or1 (pt_cmp (pc_dnotin hu (pv 1) (pe_fld (pv 0) rfl))))))
        (pss_one ps_never)
        pss_nil)), ?_⟩
    refine ⟨_, rfl, (n : Nat), rfl, true, rfl, iteF ?_⟩
    refine ⟨_, rfl, _, rfl, p, C, dx, _, _, rfl, hp, TW.cl, TW.nL, wf_l, l, some (.ref tt), rfl, ?_, false, rfl, iteF c⟩
    rw [← hv]
    exact DGet.k (k := Sum.inl (n : Int)) hl
def spNow (C : Addr) : Sp := fun vs H Q _ => ∃ (p q l : Addr) (W : WS), vs = [.ref p] ∧ WheelAt C H p q l W ∧ Q (.int (W.tick : Nat)) H
theorem ok_now {f C : Addr} {fd : FuncData} (F : Fun K "now" "Wheel.now" s_Wheel_now f fd) (TW : TxW K mg C) : FnOk P w K mg base CX0 1 f fd ["self"] (spNow C) := by
  refine F.ok sc_Wheel_now (fun vs H Q E h => ?_) (fun cdv A outer s H vs Q E hr h => ?_)
  · obtain ⟨p, q, l, W, rfl, _⟩ := h
    rfl
  · obtain ⟨p, q, l, W, rfl, hw, c⟩ := h
    obtain ⟨dx, hp⟩ := hw.ins
    refine ⟨_, (pss_one (ps_ret (pe_fld (pv 0) rfl))), ?_⟩
    exact ⟨_, rfl, p, C, dx, _, _, rfl, hp, TW.cl, TW.nT, wf_t, c⟩
def spPut (C : Addr) : Sp := fun vs H Q _ => ∃ (p q l : Addr) (W : WS) (d : Nat) (o : Option Nat), vs = [.ref p, .int (d : Nat), perV o] ∧ WheelAt C H p q l W ∧ WOk W ∧ W.live.length < 1000 ∧ W.tick < d ∧ (∀ k, o = some k → 1 ≤ k) ∧
  ∀ H', Wk p l H H' l → WheelAt C H' p q l { W with fol := W.fol + 1, live := W.live ++ [⟨W.fol, d, o, W.tick⟩] } → Q (.int (W.fol : Nat)) H'
theorem ok_put {f C : Addr} {fd : FuncData} (F : FunD K "put" "Wheel.put" (defArgs s_Wheel_put) (defBody s_Wheel_put) (defScope s_Wheel_put) [] [("period", .non)] f fd) (TW : TxW K mg C) (h1 : Has P w K mg base 3 "check_tick" ["tick", "least"] [] spCheckTick)
    (h2 : Has P w K mg base 3 "check_period" ["period"] [] spCheckPeriod) : FnOk P w K mg base CX0 4 f fd ["self", "due", "period"] (spPut C) := by
  obtain ⟨f_check_tick, fd_check_tick, ds_check_tick, G_check_tick, m_check_tick, k_check_tick, b_check_tick, v_check_tick⟩ := h1
  obtain ⟨f_check_period, fd_check_period, ds_check_period, G_check_period, m_check_period, k_check_period, b_check_period, v_check_period⟩ := h2
  refine F.ok sc_Wheel_put (fun vs H Q E h => ?_) (fun cdv A outer s H vs Q E hr h => ?_)
  · obtain ⟨p, q, l, W, d, o, rfl, _⟩ := h
    rfl
  · obtain ⟨p, q, l, W, d, o, rfl, hw, ok, few, htd, hper, c⟩ := h
    have hu := hu_of hr
    obtain ⟨dx, hp⟩ := hw.ins
    obtain ⟨kvs, hl, L⟩ := hw.live
    refine ⟨_, PSs.nox (pss_cons (ps_expr (pe_call G_check_tick hr (by rfl) m_check_tick k_check_tick b_check_tick v_check_tick pass0 (pa_cons (pv 1) (pa_cons (pe_op op_add (pe_fld (pv 0) rfl) pe_int) pa_nil))))
      (pss_cons (ps_expr (pe_call G_check_period hr (by rfl) m_check_period k_check_period b_check_period v_check_period pass0 (pa_cons (pv 2) pa_nil)))
      (pss_cons (ps_set (i := 3) sc_Wheel_put.nd rfl (.inl rfl) (pe_fld (pv 0) rfl))
      (pss_cons (ps_fldaug (pv 0) pe_int in_add)
      (pss_cons (ps_dput hu (pe_fld (pv 0) rfl) (pv 3) (pe_tup (pa_cons (pv 1) (pa_cons (pv 2) (pa_cons (pe_fld (pv 0) rfl) pa_nil)))) rfl)
      (pss_one (ps_ret (pv 3)))))))), ?_⟩
    refine ⟨_, rfl, _, rfl, p, C, dx, _, _, rfl, hp, TW.cl, TW.nT, wf_t, _, 1, rfl, rfl, (d : Nat), _, rfl, by omega, ?_⟩
    refine ⟨_, rfl, o, rfl, hper, ?_⟩
    refine ⟨_, rfl, p, C, dx, _, _, rfl, hp, TW.cl, TW.nF, wf_f, ?_⟩
    refine ⟨_, rfl, p, C, dx, _, _, rfl, hp, TW.cl, TW.nF, wf_f, (W.fol : Nat), 1, rfl, rfl, dx, _, hp, by simp [wfl], ?_⟩
    have e1 : putF "following" (.int ((W.fol : Int) + 1)) (wfl W.b q W.tick W.fol l) = wfl W.b q W.tick (W.fol + 1) l := wf_pf (f' := W.fol + 1)
    have npl : l ≠ p := ne_of hl hp (by intro z; cases z)
    have hp2 : (upd H p (.ins C dx (putF "following" (.int ((W.fol : Int) + 1)) (wfl W.b q W.tick W.fol l)))) p = some (.ins C dx (wfl W.b q W.tick (W.fol + 1) l)) := by rw [upd_same, e1]
    refine ⟨_, rfl, _, rfl, _, rfl, p, C, dx, _, _, rfl, hp2, TW.cl, TW.nT, wf_t, by simp [sizeLine_eq], fun u hu0 => ?_⟩
    have nup : u ≠ p := fun e => by
      rw [e, upd_same] at hu0
      cases hu0
    rw [upd_ne nup] at hu0
    have nul : u ≠ l := fun e => by
      rw [e, hl] at hu0
      cases hu0
    generalize hH2 : upd (upd H p (.ins C dx (putF "following" (.int ((W.fol : Int) + 1)) (wfl W.b q W.tick W.fol l)))) u (.tup [.int (d : Nat), perV o, .int (W.tick : Nat)]) = H2
    have a1 : H2 p = some (.ins C dx (wfl W.b q W.tick (W.fol + 1) l)) := by rw [← hH2, upd_ne (Ne.symm nup)]; exact hp2
    have a2 : H2 u = some (.tup (tmV ⟨W.fol, d, o, W.tick⟩)) := by rw [← hH2, upd_same]; rfl
    have a3 : ∀ c o, c ≠ p → H c = some o → H2 c = some o := fun c o n e => by
      rw [← hH2, upd_ne (ne_of_none e hu0), upd_ne n]
      exact e
    have a4 := a3 _ _ npl hl
    have L2' : LiveK H2 kvs W.live := L.frame fun t m e => a3 _ _ (ne_of e hp (by intro z; cases z)) e
    have hvn := L2'.val_not (n := W.fol) fun m hm => Nat.ne_of_lt (ok.tms m hm).num
    refine ⟨_, rfl, p, C, dx, _, _, rfl, a1, TW.cl, TW.nL, wf_l, _, rfl, l, _, rfl, DPut.k (k := Sum.inl (W.fol : Int)) a4 (by rw [L.len]; exact sizeLine_ge (by omega)), ?_⟩
    rw [putK_new _ hvn]
    refine ⟨_, rfl, c _ ⟨fun c o n1 n2 e => ?_, .inl rfl⟩ ⟨⟨dx, ?_⟩, ?_, ⟨_, upd_same, ?_⟩⟩⟩
    · rw [upd_ne n2]
      exact a3 c o n1 e
    · rw [upd_ne (Ne.symm npl)]
      exact a1
    · rw [upd_ne (ne_of hw.words hl (by intro z; cases z))]
      exact a3 _ _ (ne_of hw.words hp (by intro z; cases z)) hw.words
    · exact LiveK.upd a4 (fun xs z => by cases z) (L2'.snoc (m := ⟨W.fol, d, o, W.tick⟩) rfl a2)
end
/-! ### rows as data, walks with numbers -/
def rowD (r : Row3) : PyData := .tuple [.int (r.1 : Nat), .int (r.2.1 : Nat), .int (r.2.2 : Nat)]
theorem rows_dp {K : PySem.W.Frag} {H : Hp} : ∀ {ts : List Addr} {rs : List Row3}, RowsAt H ts rs → DpAll K H (ts.map V.ref) (rs.map rowD)
  | [], [], _ => .nil
  | _ :: _, _ :: _, h => .cons (.tup (.inl (.inl h.1)) (.cons (.int _) (.cons (.int _) (.cons (.int _) .nil)))) (rows_dp h.2)
  | [], _ :: _, h => h.elim
  | _ :: _, [], h => h.elim
theorem rowD_lay (r : Row3) : (rowD r).canLay0 = true := rfl
theorem rows_lay : ∀ rs : List Row3, PyData.canLayAll0 (rs.map rowD) = true
  | [] => rfl
  | r :: rs => by
    show ((rowD r).canLay0 && PyData.canLayAll0 (rs.map rowD)) = true
    rw [rowD_lay, rows_lay rs]
    rfl
theorem rows_depth : ∀ rs : List Row3, PyData.depthAll (rs.map rowD) ≤ 1
  | [] => Nat.zero_le _
  | r :: rs => by
    have ih := rows_depth rs
    show max (rowD r).depth (PyData.depthAll (rs.map rowD)) ≤ 1
    have e : (rowD r).depth = 1 := rfl
    rw [e]
    omega
theorem rows_shaped (rs : List Row3) : SeqAt.shaped (.list (rs.map rowD)) = true := by
  have h1 : (PyData.list (rs.map rowD)).canLay0 = true := by
    show PyData.canLayAll0 (rs.map rowD) = true
    exact rows_lay rs
  have h2 : (PyData.list (rs.map rowD)).depth ≤ 64 := by
    show PyData.depthAll (rs.map rowD) + 1 ≤ 64
    have := rows_depth rs
    omega
  unfold SeqAt.shaped
  rw [h1, decide_eq_true h2]
  rfl
theorem dp_nats {K : PySem.W.Frag} {H : Hp} : ∀ ns : List Nat, DpAll K H (ns.map fun x => V.int (x : Nat)) (ns.map fun x => PyData.int (x : Nat))
  | [] => .nil
  | _ :: r => .cons (.int _) (dp_nats r)
theorem nats_lay : ∀ ns : List Nat, PyData.canLayAll0 (ns.map fun x => PyData.int (x : Nat)) = true
  | [] => rfl
  | _ :: r => by
    show (PyData.canLay0 _ && PyData.canLayAll0 (r.map fun x => PyData.int (x : Nat))) = true
    rw [nats_lay r]
    rfl
theorem nats_depth : ∀ ns : List Nat, PyData.depthAll (ns.map fun x => PyData.int (x : Nat)) = 0
  | [] => rfl
  | _ :: r => by
    show max (PyData.depth _) (PyData.depthAll (r.map fun x => PyData.int (x : Nat))) = 0
    rw [nats_depth r]
    rfl
theorem nats_shaped (ns : List Nat) : SeqAt.shaped (.list (ns.map fun x => PyData.int (x : Nat))) = true := by
  have h1 : (PyData.list (ns.map fun x => PyData.int (x : Nat))).canLay0 = true := by
    show PyData.canLayAll0 _ = true
    exact nats_lay ns
  have h2 : (PyData.list (ns.map fun x => PyData.int (x : Nat))).depth ≤ 64 := by
    show PyData.depthAll _ + 1 ≤ 64
    rw [nats_depth ns]
    decide
  unfold SeqAt.shaped
  rw [h1, decide_eq_true h2]
  rfl
theorem cut1 (xs : List V) : cutV xs (some 1) none = xs.drop 1 := by
  unfold cutV
  rw [show HT.sIx xs.length 0 (some 1) = min 1 xs.length from HT.sIx_nat xs.length 0 1, HT.sIx_none]
  cases xs with
  | nil => rfl
  | cons x r =>
    rw [show min 1 (x :: r).length = 1 by
      rw [List.length_cons]
      omega]
    show (List.take ((x :: r).length - 1) r) = r
    rw [List.length_cons, Nat.add_sub_cancel]
    exact List.take_length
theorem cutTo {xs : List V} {k : Nat} : cutV xs none (some (k : Int)) = xs.take k := by
  unfold cutV
  rw [HT.sIx_none, HT.sIx_nat, List.drop_zero, Nat.sub_zero]
  by_cases h : k ≤ xs.length
  · rw [Nat.min_eq_left h]
  · rw [Nat.min_eq_right (by omega), List.take_length, List.take_of_length_le (by omega)]
theorem cutFrom {xs : List V} {k : Nat} : cutV xs (some (k : Int)) none = xs.drop k := by
  unfold cutV
  rw [HT.sIx_none, HT.sIx_nat]
  by_cases h : k ≤ xs.length
  · rw [Nat.min_eq_left h]
    exact List.take_of_length_le (by rw [List.length_drop]; exact Nat.le_refl _)
  · rw [Nat.min_eq_right (by omega), List.drop_length, List.drop_of_length_le (by omega)]
    simp
theorem cutLast {xs : List V} (h : xs ≠ []) : cutV xs (some (-1)) none = [xs.getLast h] := by
  have hp : 0 < xs.length := List.length_pos_iff.mpr h
  have e : HT.sIx xs.length 0 (some (-1)) = xs.length - 1 := by
    show (if (-1 : Int) < 0 then ((-1 : Int) + (xs.length : Int)).toNat else min (-1 : Int).toNat xs.length) = _
    rw [if_pos (by decide)]
    omega
  unfold cutV
  rw [e, HT.sIx_none, List.drop_eq_getElem_cons (show xs.length - 1 < xs.length by omega), List.getLast_eq_getElem]
  rw [show xs.length - 1 + 1 = xs.length by omega, List.drop_length]
  rw [show xs.length - (xs.length - 1) = 1 by omega]
  rfl
theorem RowsAt.frame {H H' : Hp} : ∀ {ts : List Addr} {rs : List Row3}, RowsAt H ts rs → (∀ t r, H t = some (.tup (rowV r)) → H' t = some (.tup (rowV r))) → RowsAt H' ts rs
  | [], [], _, _ => trivial
  | _ :: _, _ :: _, h, s => ⟨s _ _ h.1, h.2.frame s⟩
  | [], _ :: _, h, _ => h.elim
  | _ :: _, [], h, _ => h.elim
/-- the tick behind the first station -/
theorem behind_first (b d : Nat) : ∀ k, ((tailOf b d k).map (fun r => r.2.2) ++ [d])[0]? = some (d / b ^ k * b ^ k)
  | 0 => by
    show some d = some (d / b ^ 0 * b ^ 0)
    rw [Nat.pow_zero, Nat.div_one, Nat.mul_one]
  | k + 1 => by
    have e := cut_step b d k
    unfold tailOf
    split
    · rfl
    · rename_i h
      have h0 : d / b ^ k % b = 0 := Classical.byContradiction h
      rw [h0, Nat.zero_mul, Nat.add_zero] at e
      rw [behind_first b d k, e]
/-- a loop over enumerate(a list) -/
theorem for_enum {K : PySem.W.Frag} {a : Addr} {xs : List V} {g : TG} {tb : TS} {D : Ends} {σ : L2.St} {H : Hp} (Pv : Nat → L2.St → Hp → Prop) (h0 : Pv 0 σ H) (hq : ∀ i σ H, Pv i σ H → SqL K H a xs)
    (hs : ∀ (i : Nat) (x : V) (T : Addr) (σ : L2.St) (H : Hp), xs[i]? = some x → Pv i σ H → H T = none → g (.ref T) σ (upd H T (.tup [.int (i : Nat), x])) fun σ2 H2 => tb { D with nx := Pv (i + 1), ct := Pv (i + 1), bk := D.nx } σ2 H2) (hd : ∀ σ H, Pv xs.length σ H → D.nx σ H) :
    ∃ W : Nat → Nat → L2.St → Hp → Prop, (∃ m, W 0 m σ H) ∧ ∀ i m σ H, W i m σ H →
      ((Ite K a).stop i H ∧ D.nx σ H) ∨ ((Ite K a).go i H ∧ ∃ N : L2.St → Hp → Prop, (∀ σ' H', N σ' H' → ∃ m', m' < m ∧ W (i + 1) m' σ' H') ∧ ∀ v H', (Ite K a).yld i H v H' → g v σ H' fun σ2 H2 => tb { D with nx := N, ct := N, bk := D.nx } σ2 H2) := by
  refine ⟨fun i m σ H => m = xs.length - i ∧ i ≤ xs.length ∧ Pv i σ H, ⟨xs.length, rfl, Nat.zero_le _, h0⟩, ?_⟩
  rintro i m σ H ⟨rfl, hi, p⟩
  have qx := hq i σ H p
  by_cases hlt : i < xs.length
  · have hx : xs[i]? = some xs[i] := List.getElem?_eq_getElem hlt
    refine .inr ⟨⟨xs, xs[i], qx, hx⟩, Pv (i + 1), fun σ' H' p' => ⟨xs.length - (i + 1), by omega, rfl, hlt, p'⟩, fun v H' y => ?_⟩
    obtain ⟨T, x, rfl, nT, rfl, f⟩ := y
    have ex : x = xs[i] := Option.some.inj ((f xs qx).symm.trans hx)
    subst ex
    exact hs i _ T σ H hx p nT
  · have e : i = xs.length := by omega
    subst e
    exact .inl ⟨⟨xs, qx, Nat.le_refl _⟩, hd σ H p⟩
/-- a loop over zip(a list, a list), of any two lengths -/
theorem for_zip2 {K : PySem.W.Frag} {a b : Addr} {xs ys : List V} {g : TG} {tb : TS} {D : Ends} {σ : L2.St} {H : Hp} (Pv : Nat → L2.St → Hp → Prop) (h0 : Pv 0 σ H) (hq : ∀ i σ H, Pv i σ H → SqL K H a xs ∧ SqL K H b ys)
    (hs : ∀ (i : Nat) (x y : V) (T : Addr) (σ : L2.St) (H : Hp), xs[i]? = some x → ys[i]? = some y → Pv i σ H → H T = none → g (.ref T) σ (upd H T (.tup [x, y])) fun σ2 H2 => tb { D with nx := Pv (i + 1), ct := Pv (i + 1), bk := D.nx } σ2 H2) (hd : ∀ i σ H, Pv i σ H → D.nx σ H) :
    ∃ W : Nat → Nat → L2.St → Hp → Prop, (∃ m, W 0 m σ H) ∧ ∀ i m σ H, W i m σ H →
      ((Itz K a b).stop i H ∧ D.nx σ H) ∨ ((Itz K a b).go i H ∧ ∃ N : L2.St → Hp → Prop, (∀ σ' H', N σ' H' → ∃ m', m' < m ∧ W (i + 1) m' σ' H') ∧ ∀ v H', (Itz K a b).yld i H v H' → g v σ H' fun σ2 H2 => tb { D with nx := N, ct := N, bk := D.nx } σ2 H2) := by
  refine ⟨fun i m σ H => m = xs.length - i ∧ i ≤ xs.length ∧ Pv i σ H, ⟨xs.length, rfl, Nat.zero_le _, h0⟩, ?_⟩
  rintro i m σ H ⟨rfl, hi, p⟩
  obtain ⟨qx, qy⟩ := hq i σ H p
  by_cases hlt : i < xs.length ∧ i < ys.length
  · have hx : xs[i]? = some xs[i] := List.getElem?_eq_getElem hlt.1
    have hy : ys[i]? = some ys[i] := List.getElem?_eq_getElem hlt.2
    refine .inr ⟨⟨xs, ys, _, _, qx, qy, hx, hy⟩, Pv (i + 1), fun σ' H' p' => ⟨xs.length - (i + 1), by omega, rfl, hlt.1, p'⟩, fun v H' e => ?_⟩
    obtain ⟨T, x, y, rfl, nT, rfl, f, f2⟩ := e
    have ex : x = xs[i] := Option.some.inj ((f xs qx).symm.trans hx)
    have ey : y = ys[i] := Option.some.inj ((f2 ys qy).symm.trans hy)
    subst ex
    subst ey
    exact hs i _ _ T σ H hx hy p nT
  · refine .inl ⟨⟨xs, ys, qx, qy, ?_⟩, hd i σ H p⟩
    by_cases h1 : i < xs.length
    · right
      by_cases h2 : i < ys.length
      · exact absurd ⟨h1, h2⟩ hlt
      · omega
    · left
      omega
/-- the last item of a list that has one -/
theorem atI_neg1 {xs : List V} {x : V} (h : xs[xs.length - 1]? = some x) : atI xs (-1) = some x := by
  have hne : xs ≠ [] := fun e => by
    rw [e] at h
    simp at h
  have e : xs = xs.dropLast ++ [xs.getLast hne] := (List.dropLast_concat_getLast hne).symm
  have ex : x = xs.getLast hne := by
    have z := List.getLast?_eq_getElem? (l := xs)
    rw [h, List.getLast?_eq_some_getLast hne] at z
    exact (Option.some.inj z).symm
  rw [e, ex]
  exact atI_last _ _
/-! ### what fired, in the heap -/
/-- the list of what fired: tuples of the tick and a list of numbers -/
def FiredAt (r : Addr) (H : Hp) : List Addr → List (Nat × List Nat) → Prop
  | [], [] => True
  | t :: ts, f :: fs => (∃ u, H t = some (.tup [.int (f.1 : Nat), .ref u]) ∧ u ≠ r ∧ H u = some (.lst (f.2.map fun x => V.int (x : Nat)))) ∧ FiredAt r H ts fs
  | _, _ => False
theorem FiredAt.frame {r : Addr} {H H' : Hp} (s : ∀ t a u, H t = some (.tup [a, .ref u]) → H' t = some (.tup [a, .ref u])) (s2 : ∀ u (xs : List Nat), u ≠ r → H u = some (.lst (xs.map fun x => V.int (x : Nat))) → H' u = some (.lst (xs.map fun x => V.int (x : Nat)))) : ∀ {ts : List Addr} {fs : List (Nat × List Nat)}, FiredAt r H ts fs → FiredAt r H' ts fs
  | [], [], _ => trivial
  | _ :: _, _ :: _, ⟨⟨u, h1, hn, h2⟩, h3⟩ => ⟨⟨u, s _ _ _ h1, hn, s2 _ _ hn h2⟩, h3.frame s s2⟩
  | [], _ :: _, h => h.elim
  | _ :: _, [], h => h.elim
theorem FiredAt.same {r : Addr} {H H' : Hp} (s : Same H H') {ts : List Addr} {fs : List (Nat × List Nat)} (h : FiredAt r H ts fs) : FiredAt r H' ts fs := h.frame (fun _ _ _ e => s _ _ e) fun _ _ _ e => s _ _ e
theorem FiredAt.app {r : Addr} {H : Hp} {t : Addr} {f : Nat × List Nat} : ∀ {ts : List Addr} {fs : List (Nat × List Nat)}, FiredAt r H ts fs → (∃ u, H t = some (.tup [.int (f.1 : Nat), .ref u]) ∧ u ≠ r ∧ H u = some (.lst (f.2.map fun x => V.int (x : Nat)))) → FiredAt r H (ts ++ [t]) (fs ++ [f])
  | [], [], _, h => ⟨h, trivial⟩
  | _ :: _, _ :: _, h, h2 => ⟨h.1, h.2.app h2⟩
  | [], _ :: _, h, _ => h.elim
  | _ :: _, [], h, _ => h.elim
theorem FiredAt.len {r : Addr} {H : Hp} : ∀ {ts : List Addr} {fs : List (Nat × List Nat)}, FiredAt r H ts fs → ts.length = fs.length
  | [], [], _ => rfl
  | _ :: _, _ :: _, h => congrArg Nat.succ h.2.len
  | [], _ :: _, h => h.elim
  | _ :: _, [], h => h.elim
/-! ### advance -/
section
variable {P : Program} {w : World} {K : PySem.W.Frag} {mg : Str → Option Value} {base : Heap}
def spAdvance (C : Addr) : Sp := fun vs H Q _ => ∃ (p q l : Addr) (W : WS) (t : Nat) (fired : List (Nat × List Nat)) (ms' : List Tm), vs = [.ref p, .int (t : Nat)] ∧ WheelAt C H p q l W ∧ 2 ≤ W.b ∧ W.b ≤ 64 ∧ W.ws ≠ [] ∧ W.live.length ≤ 1000 ∧ W.tick ≤ t ∧ AdvTo W.b W.ws t W.live fired ms' ∧ total fired ≤ 2000 ∧
  ∀ H' r l' ts, Wk p l H H' l' → H r = none → H' r = some (.lst (ts.map V.ref)) → FiredAt r H' ts fired → WheelAt C H' p q l' { W with tick := t, live := ms' } → Q (.ref r) H'
theorem fire_tick (t : Nat) (ms : List Tm) (ns : List Nat) : (afterF t ms ns).length ≤ ms.length := by
  unfold afterF
  induction ns generalizing ms with
  | nil => exact Nat.le_refl _
  | cons n ns ih => exact Nat.le_trans (ih (fireT t ms n)) fire_len
theorem ok_advance {f C : Addr} {fd : FuncData} (F : Fun K "advance" "Wheel.advance" s_Wheel_advance f fd) (T : Tx K mg) (TW : TxW K mg C) (hM : ∃ t, mg "MOST_FIRINGS" = some (.int 2000 t)) (h1 : Has P w K mg base 3 "check_tick" ["tick", "least"] [] spCheckTick)
    (h2 : Has P w K mg base 1 "least_due" ["live"] [] spLeast) (h3 : Has P w K mg base 5 "order_of_firing" ["base", "levels", "live", "tick"] [] (spOrder K)) (h4 : Has P w K mg base 1 "after_firing" ["live", "numbers", "tick"] [] spAfter) :
    FnOk P w K mg base CX0 6 f fd ["self", "tick"] (spAdvance C) := by
  obtain ⟨f_check_tick, fd_check_tick, ds_check_tick, G_check_tick, m_check_tick, k_check_tick, b_check_tick, v_check_tick⟩ := h1
  obtain ⟨f_least_due, fd_least_due, ds_least_due, G_least_due, m_least_due, k_least_due, b_least_due, v_least_due⟩ := h2
  obtain ⟨f_order_of_firing, fd_order_of_firing, ds_order_of_firing, G_order_of_firing, m_order_of_firing, k_order_of_firing, b_order_of_firing, v_order_of_firing⟩ := h3
  obtain ⟨f_after_firing, fd_after_firing, ds_after_firing, G_after_firing, m_after_firing, k_after_firing, b_after_firing, v_after_firing⟩ := h4
  obtain ⟨tM, g_MOST_FIRINGS⟩ := hM
  refine F.ok sc_Wheel_advance (fun vs H Q E h => ?_) (fun cdv A outer s H vs Q E hr h => ?_)
  · obtain ⟨p, q, l, W, t, fired, ms', rfl, _⟩ := h
    rfl
  · obtain ⟨p, q, l, W, t, fired, ms', rfl, hw, hb, hb64, hne, few, htt, adv, tot, c⟩ := h
    obtain ⟨dx, hp⟩ := hw.ins
    obtain ⟨kvs, hl, L⟩ := hw.live
    refine ⟨_, (pss_cons (ps_expr (pe_call G_check_tick (hr.mono (by decide)) (by rfl) m_check_tick k_check_tick b_check_tick v_check_tick pass0 (pa_cons (pv 1) (pa_cons (pe_fld (pv 0) rfl) pa_nil))))
      (pss_cons (ps_set (i := 2) sc_Wheel_advance.nd rfl (.inl rfl) (pe_lst pa_nil))
      (pss_cons (ps_set (i := 3) sc_Wheel_advance.nd rfl (.inl rfl) pe_int)
      (pss_cons (ps_set (i := 4) sc_Wheel_advance.nd rfl (.inl rfl) (pe_fld (pv 0) rfl))
      (pss_cons (ps_set (i := 5) sc_Wheel_advance.nd rfl (.inl rfl) (pe_call G_least_due (hr.mono (by decide)) (by rfl) m_least_due k_least_due b_least_due v_least_due pass0 (pa_cons (pv 4) pa_nil)))
      (pss_cons (ps_while PassesOwn.never (PW.pt (pw_and (pt_cmpR op_notN (pv 5) pe_non (nomark _)) (pw_and1 (pt_cmpR op_le (pv 5) (pv 1) (nomark _)))))
        (pss_cons (ps_set (i := 6) sc_Wheel_advance.nd rfl (.inl rfl) (pe_call G_order_of_firing hr (by rfl) m_order_of_firing k_order_of_firing b_order_of_firing v_order_of_firing pass0 (pa_cons (pe_fld (pv 0) rfl) (pa_cons (pe_fld (pv 0) rfl) (pa_cons (pv 4) (pa_cons (pv 5) pa_nil))))))
        (pss_cons (ps_aug (i := 3) sc_Wheel_advance.nd rfl (.inl rfl) (pe_callB (lenK (K := K) rfl) (by rfl) T.b_len PySem.boot_len (pa_cons (pv 6) pa_nil)) ip_add)
        (pss_cons (ps_if (pt_cmpR op_gt (pv 3) (pe_glob (v := .int 2000) rfl g_MOST_FIRINGS ⟨_, rfl⟩) (nomark _))
          (pss_one ps_never)
          pss_nil)
        (pss_cons (ps_expr (pe_bm PySem.F.plainAttrs_list PySem.F.slot_list_append PySem.F.type_list_append mt_append (pv 2) (pa_cons (pe_tup (pa_cons (pv 5) (pa_cons (pv 6) pa_nil))) pa_nil)))
        (pss_cons (ps_set (i := 4) sc_Wheel_advance.nd rfl (.inl rfl) (pe_call G_after_firing (hr.mono (by decide)) (by rfl) m_after_firing k_after_firing b_after_firing v_after_firing pass0 (pa_cons (pv 4) (pa_cons (pv 6) (pa_cons (pv 5) pa_nil)))))
        (pss_one (ps_set (i := 5) sc_Wheel_advance.nd rfl (.inl rfl) (pe_call G_least_due (hr.mono (by decide)) (by rfl) m_least_due k_least_due b_least_due v_least_due pass0 (pa_cons (pv 4) pa_nil))))))))))
      (pss_cons (ps_fld (pv 0) (pv 4) rfl)
      (pss_cons (ps_fld (pv 0) (pv 1) rfl)
      (pss_one (ps_ret (pv 2))))))))))), ?_⟩
    refine ⟨_, rfl, _, rfl, p, C, dx, _, _, rfl, hp, TW.cl, TW.nT, wf_t, (t : Nat), _, rfl, by omega, ?_⟩
    refine ⟨by simp [sizeLine_eq], fun r hr0 => ?_⟩
    have s1 := same_upd (o := .lst []) hr0
    refine ⟨_, rfl, p, C, dx, _, _, rfl, s1 _ _ hp, TW.cl, TW.nL, wf_l, ?_⟩
    refine ⟨_, rfl, l, kvs, W.live, rfl, s1 _ _ hl, L.same s1, few, fun H2 s2 => ?_⟩
    have s12 := s1.trans s2
    refine while_by (fun σ H' => ∃ (lc : Addr) (kvc : List (Key × V)) (ms : List Tm) (rest done : List (Nat × List Nat)) (ts : List Addr) (many : Nat) (y6 : Option V), σ = [some (.ref p), some (.int (t : Nat)), some (.ref r), some (.int (many : Nat)), some (.ref lc), some (perV (leastD ms)), y6] ∧ Same H H' ∧ H' lc = some (.dK kvc) ∧ LiveK H' kvc ms ∧ ms.length ≤ 1000 ∧ AdvTo W.b W.ws t ms rest ms' ∧ many + total rest ≤ 2000 ∧ ts.length ≤ many ∧ fired = done ++ rest ∧ H' r = some (.lst (ts.map V.ref)) ∧ FiredAt r H' ts done ∧ (lc = l ∨ H lc = none))
      (fun σ _ => 3000 - slotInt σ 3) ⟨l, kvs, W.live, fired, [], [], 0, none, rfl, s12, s12 _ _ hl, L.same s12, few, adv, by omega, Nat.le_refl _, rfl, s2 _ _ upd_same, trivial, .inl rfl⟩ ?_ ?_
    · rintro σ H' ⟨lc, kvc, ms, rest, done, ts, many, y6, rfl, sm, elc, Lc, fewc, advc, totc, htsm, efd, er, FA, hlc⟩
      have hp' := sm _ _ hp
      have hw' := sm _ _ hw.words
      -- the end of it
      have fin : rest = [] → ms = ms' → tSeq (sFld K (tVar 0) (tVar 4) "live") (tSeq (sFld K (tVar 0) (tVar 1) "tick") (tRet (tVar 2))) { nx := fun _ H' => Q .non H', rt := Q } [some (.ref p), some (.int (t : Nat)), some (.ref r), some (.int (many : Nat)), some (.ref lc), some (perV (leastD ms)), y6] H' := by
        rintro rfl rfl
        rw [List.append_nil] at efd
        have npr : p ≠ r := fun e => by
          rw [e, hr0] at hp
          cases hp
        have npl : lc ≠ p := ne_of elc hp' (by intro z; cases z)
        have nqp : q ≠ p := ne_of hw' hp' (by intro z; cases z)
        refine ⟨_, rfl, _, rfl, p, C, dx, _, rfl, hp', TW.cl, TW.nL, by simp [wfl], ?_⟩
        rw [wf_pl]
        refine ⟨_, rfl, _, rfl, p, C, dx, _, rfl, upd_same, TW.cl, TW.nT, by simp [wfl], ?_⟩
        rw [wf_pt]
        have k' : ∀ c o, c ≠ p → H' c = some o → (upd (upd H' p (.ins C dx (wfl W.b q W.tick W.fol lc))) p (.ins C dx (wfl W.b q t W.fol lc))) c = some o := fun c o n e => by
          rw [upd_ne n, upd_ne n]
          exact e
        refine ⟨_, rfl, c _ r lc ts ⟨fun c o n1 n2 e => k' c o n1 (sm _ _ e), hlc⟩ hr0 (k' _ _ (Ne.symm npr) er) ?_ ⟨⟨dx, upd_same⟩, k' _ _ nqp hw', ⟨kvc, k' _ _ npl elc, ?_⟩⟩⟩
        · rw [efd]
          exact FA.frame (fun t a u e => k' _ _ (ne_of e hp' (by intro z; cases z)) e) fun u xs _ e => k' _ _ (ne_of e hp' (by intro z; cases z)) e
        · exact Lc.frame fun t m e => k' _ _ (ne_of e hp' (by intro z; cases z)) e
      cases advc with
      | done hdone =>
        cases hle : leastD ms' with
        | none => exact ⟨_, rfl, rfl, false, rfl, iteF (iteF (by rw [← hle]; exact fin rfl rfl))⟩
        | some v =>
          obtain ⟨m, hm, em⟩ := List.mem_map.mp (least_some.mp hle).1
          have hmt := hdone m hm
          have hvt : ¬ ((v : Int) ≤ (t : Int)) := by omega
          refine ⟨_, rfl, rfl, true, rfl, iteT ⟨_, rfl, _, rfl, (v : Nat), (t : Nat), rfl, rfl, false, dF hvt, iteF ?_⟩⟩
          rw [show perV (some v) = perV (leastD ms') from by rw [hle]]
          exact fin rfl rfl
      | @step _ _ at_ rest' hle hat okm ndm fewm radv =>
        rw [hle]
        have hat' : ((at_ : Int) ≤ (t : Int)) := by omega
        have etot : total ((at_, orderAt W.b W.ws at_ ms) :: rest') = (orderAt W.b W.ws at_ ms).length + total rest' := by
          unfold total
          rw [List.map_cons, List.sum_cons]
        rw [etot] at totc
        have hpos := order_pos (b := W.b) (ws := W.ws) hle
        refine ⟨_, rfl, rfl, true, rfl, iteT ⟨_, rfl, _, rfl, (at_ : Nat), (t : Nat), rfl, rfl, true, dT hat', iteT ?_⟩⟩
        refine ⟨_, rfl, p, C, dx, _, _, rfl, hp', TW.cl, TW.nB, wf_b, _, rfl, p, C, dx, _, _, rfl, hp', TW.cl, TW.nW, wf_w, _, rfl, _, rfl, W.b, at_, q, lc, W.ws, kvc, ms, rfl, hb, hb64, SqL.of hw', hne, elc, Lc, fewc, okm, fun H3 pn s3 hpn0 epn => ?_⟩
        refine ⟨_, rfl, _, rfl, pn, _, rfl, .inl (SqL.of epn), (many : Nat), ((orderAt W.b W.ws at_ ms).length : Nat), rfl, congrArg (fun k : Nat => V.int (k : Nat)) (List.length_map ..), ?_⟩
        refine ⟨_, rfl, _, _, rfl, rfl, false, dF (by show ¬ ((2000 : Int) < (many : Int) + ((orderAt W.b W.ws at_ ms).length : Nat)); omega), iteF ?_⟩
        have er3 := s3 _ _ er
        have nrp : r ≠ pn := fun e => by
          rw [← e, er] at hpn0
          cases hpn0
        refine ⟨_, rfl, .inl ⟨rfl, _, .inl (.inl er3)⟩, _, rfl, _, rfl, by simp [sizeLine_eq], fun u hu0 => ?_⟩
        have su := same_upd (o := .tup [perV (some at_), .ref pn]) hu0
        have eru := su _ _ er3
        refine ⟨r, _, _, rfl, rfl, eru, by rw [List.length_map]; exact sizeLine_ge (by omega), ?_⟩
        generalize hH4 : upd (upd H3 u (.tup [perV (some at_), .ref pn])) r (.lst (ts.map V.ref ++ [.ref u])) = H4
        have k4 : ∀ c o, c ≠ r → H3 c = some o → H4 c = some o := fun c o n e => by
          rw [← hH4, upd_ne n]
          exact su _ _ e
        have nur : u ≠ r := fun e => by
          rw [e, er3] at hu0
          cases hu0
        have eu4 : H4 u = some (.tup [.int (at_ : Nat), .ref pn]) := by
          rw [← hH4, upd_ne nur]
          exact upd_same
        have er4 : H4 r = some (.lst ((ts ++ [u]).map V.ref)) := by
          rw [← hH4, upd_same, List.map_append]
          rfl
        have epn4 := k4 _ _ (Ne.symm nrp) epn
        have sm4 : Same H H4 := fun c o e => k4 c o (ne_of_none e hr0) (s3 _ _ (sm _ _ e))
        have nlr : lc ≠ r := ne_of elc er (by intro z; cases z)
        have elc4 := k4 _ _ nlr (s3 _ _ elc)
        have Lc4 : LiveK H4 kvc ms := Lc.frame fun t m e => k4 _ _ (ne_of e er (by intro z; cases z)) (s3 _ _ e)
        have FA4 : FiredAt r H4 ts done := by
          exact FA.frame (fun t a u e => k4 _ _ (ne_of e er (by intro z; cases z)) (s3 _ _ e)) fun u xs hn e => k4 _ _ hn (s3 _ _ e)
        refine ⟨_, rfl, _, rfl, _, rfl, lc, pn, at_, orderAt W.b W.ws at_ ms, kvc, ms, rfl, elc4, Lc4, fewc, ndm, epn4, ⟨order_nodup ndm, fun n hn => by
          obtain ⟨m, h1, _, h3⟩ := order_mem.mp hn
          exact ⟨m, h1, h3⟩⟩, fun H5 lc5 kvc5 s5 hlc5 elc5 Lc5 => ?_⟩
        have few5 : (afterF at_ ms (orderAt W.b W.ws at_ ms)).length ≤ 1000 := Nat.le_trans (fire_tick _ _ _) fewc
        refine ⟨_, rfl, lc5, kvc5, _, rfl, elc5, Lc5, few5, fun H6 s6 => ?_⟩
        have s56 := s5.trans s6
        refine ⟨⟨lc5, kvc5, afterF at_ ms (orderAt W.b W.ws at_ ms), rest', done ++ [(at_, orderAt W.b W.ws at_ ms)], ts ++ [u], (many + (orderAt W.b W.ws at_ ms).length), _, rfl, sm4.trans s56, s6 _ _ elc5, Lc5.same s6, few5, radv, by omega, ?_, by rw [efd, List.append_assoc]; rfl, s56 _ _ er4, (FA4.app ⟨pn, eu4, Ne.symm nrp, epn4⟩).same s56, .inr (sm4.free hlc5)⟩, ?_⟩
        · rw [List.length_append, List.length_singleton]
          omega
        · show 3000 - (((many + (orderAt W.b W.ws at_ ms).length) : Int)).toNat < 3000 - ((many : Int)).toNat
          omega
    · rintro σ H' Q1 Q2 h ⟨x, hx, e1, k, e, z⟩
      refine ⟨x, hx, e1, k, e, ?_⟩
      cases k with
      | false => exact iteF (h _ _ (by rw [if_neg Bool.false_ne_true] at z; exact z))
      | true =>
        rw [if_pos rfl] at z
        refine iteT ?_
        obtain ⟨x1, hx1, x2, hx2, i, j, e2, e3, k', e4, zz⟩ := z
        exact ⟨x1, hx1, x2, hx2, i, j, e2, e3, k', e4, h _ _ zz⟩
end
/-! ### o.m(e, .., k = v, ..) -/
def tMethK (C : Addr) (m : Str) (sp : Sp) (n mk : Nat) (gV : List V → List V → List V) (E : XK) (ta : TE) (t tk : TA) : TE := fun σ H Q => ta σ H fun x H1 => ∃ (a dx : Addr) (fs : List (Str × V)), x = .ref a ∧ H1 a = some (.ins C dx fs) ∧ fs.lookup m = none ∧
  t σ H1 fun vs H2 => tk σ H2 fun zs H3 => vs.length + 1 = n ∧ zs.length = mk ∧ sp (gV (.ref a :: vs) zs) H3 Q E
section
variable {X : Cx} {CX : CXT} {k n : Nat} {C f : Addr} {fd : FuncData} {ps ks : List Str} {m : Str} {sp : Sp} {E : XK} {g : List Value → List Value → List Value} {gV : List V → List V → List V} {o e : Expr} {es : List Expr} {kws : List Keyword} {ta : TE} {t tk : TA} {apos pos : Pos}
theorem pe_methK {pl : Sem Bool} (he : PE X o ta) (c : Cls X.K C) (hm : Meth X.K C m f) (F : FnOk X.prog X.w X.K X.mg X.base CX k f fd ps sp) (hr : Room k X.A) (hb : KBn X.K fd ps n ks g gV) (hx : Passes CX X E) (ha : PA X (e :: es) t) (hkw : PK X kws tk)
    (hall : (backToKw pos (keywordEach kws X.env)).all (·.1.isSome) = true := by rfl) (hks : (backToKw pos (keywordEach kws X.env)).filterMap (·.1) = ks := by rfl)
    (hst : starEach (e :: es) X.env = (false, eval e X.env) :: starEach es X.env := by rfl)
    (hpl : ((backTo pos (starEach (e :: es) X.env)).any (·.1) || (backToKw pos (keywordEach kws X.env)).any (·.1.isNone)) = false := by rfl)
    (ht : eval (.Call (.Attribute o m apos) (e :: es) kws pos) X.env = (do
      let ov ← eval o X.env
      standAt apos.atName
      let (f, first) ← holding [ov] (getMethod ov m pl)
      callWith pos f first (backTo pos (starEach (e :: es) X.env)) (backToKw pos (keywordEach kws X.env))) := by rfl) :
    PE X (.Call (.Attribute o m apos) (e :: es) kws pos) (tMethK C m sp n ks.length gV E ta t tk) := by
  refine ⟨fun pins s σ H Q I h => ?_⟩
  refine PySem.W.methodCall_KW (pl := pl) (thn (he.run pins s σ H _ I h) fun u s1 ⟨x, H1, I1, rx, a, dx, fs, ex, ea, l, q⟩ => ?_) ht
  subst ex
  obtain rfl : u = Value.ref a := rx
  refine getmeth_ok I1 ea c hm l ?_
  refine PySem.W.callWith_KW (first := [.ref a]) (h₀ := X.base) I.ok.mod.kin hm.kp hall (thn (ha.run pos pins s1 σ H1 _ I1 q) fun us s2 ⟨vs, H2, I2, r, q2⟩ => ?_) hpl hst
  refine thn (hkw.run pos pins s2 σ H2 _ I2 q2) fun ws s3 ⟨zs, H3, I3, rz, l1, l2, q3⟩ => ⟨I3.kIn, ?_⟩
  rw [hks]
  exact run_fnN (us := .ref a :: us) (vs := .ref a :: vs) F hr hb hx I3 (.cons rfl r) rz (by rw [List.length_cons]; exact l1) l2 q3
end
/-! ### put, with its period told by name -/
section
variable {b : Nat} {q : Addr} {t f : Nat} {l : Addr}
theorem nm_put : (wfl b q t f l).lookup ("put" : Str) = none := wf_no (by decide +kernel) (by decide +kernel) (by decide +kernel) (by decide +kernel) (by decide +kernel)
theorem nm_timers : (wfl b q t f l).lookup ("timers" : Str) = none := wf_no (by decide +kernel) (by decide +kernel) (by decide +kernel) (by decide +kernel) (by decide +kernel)
theorem nm_cancel : (wfl b q t f l).lookup ("cancel" : Str) = none := wf_no (by decide +kernel) (by decide +kernel) (by decide +kernel) (by decide +kernel) (by decide +kernel)
theorem nm_reset : (wfl b q t f l).lookup ("reset" : Str) = none := wf_no (by decide +kernel) (by decide +kernel) (by decide +kernel) (by decide +kernel) (by decide +kernel)
theorem nm_now : (wfl b q t f l).lookup ("now" : Str) = none := wf_no (by decide +kernel) (by decide +kernel) (by decide +kernel) (by decide +kernel) (by decide +kernel)
theorem nm_lists : (wfl b q t f l).lookup ("lists" : Str) = none := wf_no (by decide +kernel) (by decide +kernel) (by decide +kernel) (by decide +kernel) (by decide +kernel)
theorem nm_lists_at : (wfl b q t f l).lookup ("lists_at" : Str) = none := wf_no (by decide +kernel) (by decide +kernel) (by decide +kernel) (by decide +kernel) (by decide +kernel)
theorem nm_advance : (wfl b q t f l).lookup ("advance" : Str) = none := wf_no (by decide +kernel) (by decide +kernel) (by decide +kernel) (by decide +kernel) (by decide +kernel)
theorem nm_next_event : (wfl b q t f l).lookup ("next_event" : Str) = none := wf_no (by decide +kernel) (by decide +kernel) (by decide +kernel) (by decide +kernel) (by decide +kernel)
theorem nm_next_firing : (wfl b q t f l).lookup ("next_firing" : Str) = none := wf_no (by decide +kernel) (by decide +kernel) (by decide +kernel) (by decide +kernel) (by decide +kernel)
end
section
variable {P : Program} {w : World} {K : PySem.W.Frag} {mg : Str → Option Value} {base : Heap}
def HasPut (P : Program) (w : World) (K : PySem.W.Frag) (mg : Str → Option Value) (base : Heap) (k : Nat) (C : Addr) : Prop :=
  ∃ (f : Addr) (fd : FuncData) (ds : List Value), FnOk P w K mg base CX0 k f fd ["self", "due", "period"] (spPut C) ∧ Meth K C "put" f ∧ L2.Binds K fd ["self", "due", "period"] ds ∧ Vals [.non] ds ∧ KBn K fd ["self", "due", "period"] 2 [Str.ofString "period"] (fun us ws => us ++ ws) (fun vs zs => vs ++ zs)
def HasInit (P : Program) (w : World) (K : PySem.W.Frag) (mg : Str → Option Value) (base : Heap) (k : Nat) (C : Addr) : Prop :=
  ∃ (fi : Addr) (fdi : FuncData), Mk K C fi ∧ FnOk P w K mg base CX0 k fi fdi ["self", "base", "levels", "start"] (spInit C K) ∧ KBn K fdi ["self", "base", "levels", "start"] 3 [Str.ofString "start"] (fun us ws => us ++ ws) (fun vs zs => vs ++ zs)
end
theorem okw_put {W : WS} (h : WOk W) (hl : W.live.length < 1000) {d : Nat} {o : Option Nat} (h1 : W.tick < d) (h2 : d < 2 ^ 400) (ho : ∀ k, o = some k → 1 ≤ k) : WOk { W with fol := W.fol + 1, live := W.live ++ [⟨W.fol, d, o, W.tick⟩] } := by
  refine ⟨h.b2, h.b64, h.ne, h.l60, fun m hm => ?_, ?_, ?_⟩
  · rcases List.mem_append.mp hm with z | z
    · have y := h.tms m z
      exact ⟨y.since, y.due, y.big, Nat.lt_succ_of_lt y.num, y.per⟩
    · rw [List.mem_singleton.mp z]
      exact ⟨Nat.le_refl _, h1, h2, Nat.lt_succ_self _, ho⟩
  · rw [List.map_append]
    refine L2.nd_snoc h.nd fun hm => ?_
    obtain ⟨m, hm, e⟩ := List.mem_map.mp hm
    have := (h.tms m hm).num
    have e' : m.num = W.fol := e
    omega
  · show (W.live ++ [_]).length ≤ 1000
    rw [List.length_append]
    show W.live.length + 1 ≤ 1000
    omega
/-! ### what a changed wheel leaves as it stands -/
theorem Wk.pre {p l l' : Addr} {H H1 H' : Hp} (s : Same H H1) (k : Wk p l H1 H' l') : Wk p l H H' l' := ⟨fun c o n1 n2 e => k.keep c o n1 n2 (s _ _ e), k.new.imp id s.free⟩
theorem Wk.post {p l l' : Addr} {H H1 H' : Hp} (k : Wk p l H H1 l') (s : Same H1 H') : Wk p l H H' l' := ⟨fun c o n1 n2 e => s _ _ (k.keep c o n1 n2 e), k.new⟩
/-- what stands in a heap beside wheels: lists and tuples stay -/
theorem Wk.lst {C p q l l' : Addr} {H H' : Hp} {W : WS} (k : Wk p l H H' l') (w : WheelAt C H p q l W) {c : Addr} {xs : List V} (e : H c = some (.lst xs)) : H' c = some (.lst xs) := by
  obtain ⟨dx, hp⟩ := w.ins
  obtain ⟨kvs, hl, _⟩ := w.live
  exact k.keep _ _ (ne_of e hp (by intro z; cases z)) (ne_of e hl (by intro z; cases z)) e
theorem Wk.tup {C p q l l' : Addr} {H H' : Hp} {W : WS} (k : Wk p l H H' l') (w : WheelAt C H p q l W) {c : Addr} {xs : List V} (e : H c = some (.tup xs)) : H' c = some (.tup xs) := by
  obtain ⟨dx, hp⟩ := w.ins
  obtain ⟨kvs, hl, _⟩ := w.live
  exact k.keep _ _ (ne_of e hp (by intro z; cases z)) (ne_of e hl (by intro z; cases z)) e
/-! ### what fired, as data -/
def firedD (f : Nat × List Nat) : PyData := .tuple [.int (f.1 : Nat), .list (f.2.map fun x => PyData.int (x : Nat))]
theorem fired_dp {K : PySem.W.Frag} {r : Addr} {H : Hp} : ∀ {ts : List Addr} {fs : List (Nat × List Nat)}, FiredAt r H ts fs → DpAll K H (ts.map V.ref) (fs.map firedD)
  | [], [], _ => .nil
  | _ :: _, _ :: _, ⟨⟨u, h1, _, h2⟩, h3⟩ => .cons (.tup (SqT.of h1) (.cons (.int _) (.cons (.lst (SqL.of h2) (dp_nats _)) .nil))) (fired_dp h3)
  | [], _ :: _, h => h.elim
  | _ :: _, [], h => h.elim
theorem firedD_lay (f : Nat × List Nat) : (firedD f).canLay0 = true := by
  simp [firedD, PyData.canLay0, PyData.canLayAll0, nats_lay]
theorem fired_lay : ∀ fs : List (Nat × List Nat), PyData.canLayAll0 (fs.map firedD) = true
  | [] => rfl
  | f :: fs => by
    show ((firedD f).canLay0 && PyData.canLayAll0 (fs.map firedD)) = true
    rw [firedD_lay, fired_lay fs]
    rfl
theorem firedD_depth (f : Nat × List Nat) : (firedD f).depth ≤ 2 := by
  have h : (PyData.list (f.2.map fun x => PyData.int (x : Nat))).depth = 1 := by
    show PyData.depthAll _ + 1 = 1
    rw [nats_depth f.2]
  show max (PyData.depth _) (max (PyData.depth (PyData.list (f.2.map fun x => PyData.int (x : Nat)))) (PyData.depthAll [])) + 1 ≤ 2
  rw [h]
  exact Nat.le_refl 2
theorem fired_depth : ∀ fs : List (Nat × List Nat), PyData.depthAll (fs.map firedD) ≤ 2
  | [] => by decide
  | f :: fs => by
    show max (firedD f).depth (PyData.depthAll (fs.map firedD)) ≤ 2
    have h1 := fired_depth fs
    have h2 := firedD_depth f
    omega
theorem fired_shaped (fs : List (Nat × List Nat)) : SeqAt.shaped (.list (fs.map firedD)) = true := by
  have h1 : (PyData.list (fs.map firedD)).canLay0 = true := by
    show PyData.canLayAll0 (fs.map firedD) = true
    exact fired_lay fs
  have h2 : (PyData.list (fs.map firedD)).depth ≤ 64 := by
    show PyData.depthAll (fs.map firedD) + 1 ≤ 64
    have := fired_depth fs
    omega
  unfold SeqAt.shaped
  rw [h1, decide_eq_true h2]
  rfl
/-! ### data stay -/
mutual
theorem dp_same {K : PySem.W.Frag} {H H' : Hp} (s : Same H H') : ∀ {v : V} {d : PyData}, Dp K H v d → Dp K H' v d
  | _, _, .int i => .int i
  | _, _, .str x => .str x
  | _, _, .bl b => .bl b
  | _, _, .non => .non
  | _, _, .lst h t => .lst (s.seq h) (dps_same s t)
  | _, _, .tup h t => .tup (h.elim (fun h => .inl (h.elim (fun h => .inl (s _ _ h)) fun ⟨o, h⟩ => .inr ⟨o, s _ _ h⟩)) .inr) (dps_same s t)
theorem dps_same {K : PySem.W.Frag} {H H' : Hp} (s : Same H H') : ∀ {vs : List V} {ds : List PyData}, DpAll K H vs ds → DpAll K H' vs ds
  | _, _, .nil => .nil
  | _, _, .cons h t => .cons (dp_same s h) (dps_same s t)
end
/-! ### law k29: two wheels shown -/
theorem fr_side29 {b n d : Nat} {ws : List Bool} (hb : 2 ≤ b) (h : n < d) : frB ws b n d = sideT b ws n d 0 := by
  obtain ⟨k, hk⟩ := lev_any hb h
  rw [frB_eq hk, sideT_eq hk]
def ord2 (f : Bool) : List Nat := if f then [1, 0] else [0, 1]
theorem two_order {b n d : Nat} {ws : List Bool} (hb : 2 ≤ b) (h : n < d) : orderAt b ws d [⟨0, d, none, n⟩, ⟨1, d, none, n⟩] = ord2 (frB ws b n d) := by
  rw [fr_side29 hb h]
  unfold orderAt ord2 insT
  simp only [List.foldl, if_pos]
  cases sideT b ws n d 0 <;> rfl
theorem two_adv {b n d : Nat} {ws : List Bool} (hb : 2 ≤ b) (h : n < d) (hd : d < 2 ^ 400) : AdvTo b ws d [⟨0, d, none, n⟩, ⟨1, d, none, n⟩] [(d, ord2 (frB ws b n d))] [] := by
  have z : AdvTo b ws d [⟨0, d, none, n⟩, ⟨1, d, none, n⟩] [(d, orderAt b ws d [⟨0, d, none, n⟩, ⟨1, d, none, n⟩])] [] := by
    refine .step (least_some.mpr ⟨by simp, fun x hx => ?_⟩) (Nat.le_refl _) (fun m hm => ?_) (by simp) (by simp) ?_
    · simp at hx
      omega
    · simp at hm
      rcases hm with rfl | rfl
      · exact ⟨h, hd⟩
      · exact ⟨h, hd⟩
    · rw [two_order hb h]
      have e : afterF d [⟨0, d, none, n⟩, ⟨1, d, none, n⟩] (ord2 (frB ws b n d)) = [] := by
        cases frB ws b n d <;> rfl
      rw [e]
      exact .done fun m hm => nomatch hm
  rw [two_order hb h] at z
  exact z
/-- a row of what fired, apart from the list N -/
def RowA (N : Addr) (H : Hp) (a : Addr) (d : Nat) (f : Bool) : Prop := a ≠ N ∧ ∃ t u, t ≠ N ∧ u ≠ N ∧ H a = some (.lst [.ref t]) ∧ H t = some (.tup [.int (d : Nat), .ref u]) ∧ H u = some (.lst ((ord2 f).map fun x => V.int (x : Nat)))
theorem RowA.keep {N : Addr} {H H' : Hp} {a : Addr} {d : Nat} {f : Bool} (s : ∀ c o, c ≠ N → H c = some o → H' c = some o) (h : RowA N H a d f) : RowA N H' a d f := by
  obtain ⟨n1, t, u, n2, n3, h1, h2, h3⟩ := h
  exact ⟨n1, t, u, n2, n3, s _ _ n1 h1, s _ _ n2 h2, s _ _ n3 h3⟩
theorem RowA.dp {K : PySem.W.Frag} {N : Addr} {H : Hp} {a : Addr} {d : Nat} {f : Bool} (h : RowA N H a d f) : Dp K H (.ref a) (.list [firedD (d, ord2 f)]) := by
  obtain ⟨n1, t, u, n2, n3, h1, h2, h3⟩ := h
  exact .lst (SqL.of h1) (.cons (.tup (SqT.of h2) (.cons (.int _) (.cons (.lst (SqL.of h3) (dp_nats _)) .nil))) .nil)
theorem refs_ints {f : Bool} {as : List Addr} (h : HO.lst (as.map V.ref) = HO.lst ((ord2 f).map fun x => V.int (x : Nat))) : False := by
  have h := HO.lst.inj h
  cases f <;> cases as <;> simp [ord2] at h
section
variable {P : Program} {w : World} {K : PySem.W.Frag} {mg : Str → Option Value} {base : Heap}
def spShown29 (K : PySem.W.Frag) : Sp := fun vs H Q _ => ∃ (L t1 t2 q1 q2 : Addr) (b1 b2 d n : Nat) (w1 w2 : List Bool), vs = [.ref L, .int (d : Nat), .int (n : Nat)] ∧ Two29 H L b1 b2 w1 w2 t1 t2 q1 q2 ∧ n < d ∧ d < 2 ^ 200 ∧
  ∀ H' N a1 a2, Same H H' → H' N = some (.lst [.ref a1, .ref a2]) → Dp K H' (.ref a1) (.list [firedD (d, ord2 (frB w1 b1 n d))]) → Dp K H' (.ref a2) (.list [firedD (d, ord2 (frB w2 b2 n d))]) → Q (.ref N) H'
theorem ok_shown29 {f C : Addr} {fd : FuncData} (F : Fun K "_law_shown" "_law_shown" s__law_shown f fd) (T : Tx K mg) (TW : TxW K mg C) (hI : HasInit P w K mg base 5 C) (hP : HasM P w K mg base 4 C "put" ["self", "due", "period"] [.non] (spPut C))
    (m4 : HasM P w K mg base 6 C "advance" ["self", "tick"] [] (spAdvance C)) : FnOk P w K mg base CX0 7 f fd ["_law_wheels_here", "_law_due_here", "_law_now"] (spShown29 K) := by
  have cl_Wheel := TW.cl
  obtain ⟨fi, fdi, M_Wheel, G_Wheel_init, b_Wheel_init⟩ := hI
  have c_Wheel := TW.mgC
  obtain ⟨g0, gd0, gs0, G_Wheel_put, M_Wheel_put, b_Wheel_put, v_Wheel_put⟩ := hP
  obtain ⟨g4, gd4, gs4, G_Wheel_advance, M_Wheel_advance, b_Wheel_advance, v_Wheel_advance⟩ := m4
  refine F.ok sc__law_shown (fun vs H Q E h => ?_) (fun cdv A outer s H vs Q E hr h => ?_)
  · obtain ⟨L, t1, t2, q1, q2, b1, b2, d, n, w1, w2, rfl, _⟩ := h
    rfl
  · obtain ⟨L, t1, t2, q1, q2, b1, b2, d, n, w1, w2, rfl, hW, hnd, hd, c⟩ := h
    have hd4 : d < 2 ^ 400 := Nat.lt_trans hd (by decide)
    refine ⟨_, (pss_cons (ps_set (i := 3) sc__law_shown.nd rfl (.inl rfl) (pe_lst pa_nil))
      (pss_cons (ps_for PassesOwn.never rfl (pi_list (pv 0)) (pg_tupK (K := K) (n := 2) rfl rfl (pgs_cons (pg_name (i := 4) sc__law_shown.nd rfl (.inl rfl)) (pgs_cons (pg_name (i := 5) sc__law_shown.nd rfl (.inl rfl)) pgs_nil)))
        (pss_cons (ps_set (i := 6) sc__law_shown.nd rfl (.inl rfl) (pe_makeK M_Wheel G_Wheel_init hr (by rfl) c_Wheel b_Wheel_init pass0 (pa_cons (pv 4) (pa_cons (pv 5) pa_nil)) (pk_cons (pv 2) pk_nil)))
        (pss_cons (ps_expr (pe_meth (pv 6) cl_Wheel M_Wheel_put G_Wheel_put (hr.mono (by decide)) b_Wheel_put v_Wheel_put pass0 (pa_cons (pv 1) pa_nil)))
        (pss_cons (ps_expr (pe_meth (pv 6) cl_Wheel M_Wheel_put G_Wheel_put (hr.mono (by decide)) b_Wheel_put v_Wheel_put pass0 (pa_cons (pv 1) pa_nil)))
        (pss_one (ps_expr (pe_bm PySem.F.plainAttrs_list PySem.F.slot_list_append PySem.F.type_list_append mt_append (pv 3) (pa_cons (pe_meth (pv 6) cl_Wheel M_Wheel_advance G_Wheel_advance hr b_Wheel_advance v_Wheel_advance pass0 (pa_cons (pv 1) pa_nil)) pa_nil))))))))
      (pss_one (ps_ret (pv 3))))), ?_⟩
    refine ⟨by simp [sizeLine_eq], fun N hN => ?_⟩
    have sN := same_upd (o := .lst []) hN
    have eN := upd_same (H := H) (a := N) (o := .lst [])
    generalize upd H N (.lst []) = H0 at sN eN ⊢
    refine ⟨_, rfl, L, rfl, ⟨_, SqL.of (sN _ _ hW.lq)⟩, for_list (K := K) (a := L) (xs := [.ref t1, .ref t2]) (fun i σ H' => ∃ (as : List Addr) (y4 y5 y6 : Option V), σ = [some (.ref L), some (.int (d : Nat)), some (.int (n : Nat)), some (.ref N), y4, y5, y6] ∧ Same H H' ∧ H' N = some (.lst (as.map V.ref)) ∧ as.length = i ∧
        (∀ a, as[0]? = some a → RowA N H' a d (frB w1 b1 n d)) ∧ (∀ a, as[1]? = some a → RowA N H' a d (frB w2 b2 n d)))
      ⟨[], none, none, none, rfl, sN, eN, rfl, (fun a h => nomatch h), (fun a h => nomatch h)⟩ (fun i σ H' _ ⟨_, _, _, _, _, sm, _⟩ => SqL.of (sm _ _ hW.lq)) ?_ ?_⟩
    · rintro i v σ H1 hv ⟨as, y4, y5, y6, rfl, sm, eN1, hlen, r0, r1⟩
      obtain ⟨t, q, b, ws, rfl, ht, hq, hb, hne, hrow⟩ : ∃ (t q : Addr) (b : Nat) (ws : List Bool), v = .ref t ∧ H t = some (.tup [.int (b : Nat), .ref q]) ∧ H q = some (.lst (ws.map lvV)) ∧ (2 ≤ b ∧ b ≤ 64) ∧ (ws ≠ [] ∧ ws.length ≤ 60) ∧ ((i = 0 ∧ frB ws b n d = frB w1 b1 n d) ∨ (i = 1 ∧ frB ws b n d = frB w2 b2 n d)) := by
        match i, hv with
        | 0, hv => exact ⟨t1, q1, b1, w1, (Option.some.inj hv).symm, hW.t1e, hW.q1e, hW.hb1, hW.n1, .inl ⟨rfl, rfl⟩⟩
        | 1, hv => exact ⟨t2, q2, b2, w2, (Option.some.inj hv).symm, hW.t2e, hW.q2e, hW.hb2, hW.n2, .inr ⟨rfl, rfl⟩⟩
        | i + 2, hv => simp at hv
      refine ⟨t, _, rfl, .inl (.inl (sm _ _ ht)), rfl, _, _, rfl, _, _, rfl, rfl, ?_⟩
      refine ⟨_, rfl, _, rfl, _, rfl, rfl, rfl, fun p dx hpn hdx0 nex => ?_⟩
      have u0 : Same H1 (upd (upd H1 dx (.own p)) p (.ins C dx [])) := fun c o e => by
        rw [upd_ne (ne_of_none e hpn), upd_ne (ne_of_none e hdx0)]
        exact e
      refine ⟨p, dx, q, b, n, ws, rfl, upd_same, SqL.of (u0 _ _ (sm _ _ hq)), hb.1, hb.2, hne.1, hne.2, fun H9 qq l k9 hq9 hl9 hw9 => ⟨rfl, ?_⟩⟩
      have k9' : Same H1 H9 := fun c o e => k9 c o (ne_of_none e hpn) (u0 _ _ e)
      have fl9 : H1 l = none := u0.free hl9
      have hneT := trim_ne hne.1
      have ok0 : WOk ⟨b, trimW ws, n, 0, []⟩ := ⟨hb.1, hb.2, hneT, Nat.le_trans (trim_len ws) hne.2, (fun m h => by cases h), List.nodup_nil, Nat.zero_le _⟩
      have ok1 := okw_put (d := d) (o := none) ok0 (by show 0 < 1000; decide) hnd hd4 (fun k e => by cases e)
      obtain ⟨dx1, hp1⟩ := hw9.ins
      refine ⟨_, rfl, p, dx1, _, rfl, hp1, nm_put, _, rfl, p, qq, l, _, d, none, rfl, hw9, ok0, by show 0 < 1000; decide, hnd, (fun k e => by cases e), fun H10 k10 w10 => ?_⟩
      obtain ⟨dx2, hp2⟩ := w10.ins
      refine ⟨_, rfl, p, dx2, _, rfl, hp2, nm_put, _, rfl, p, qq, l, _, d, none, rfl, w10, ok1, by show 1 < 1000; decide, hnd, (fun k e => by cases e), fun H11 k11 w11 => ?_⟩
      have s11 : Same H1 H11 := fun c o e => k11.keep c o (ne_of_none e hpn) (ne_of_none e fl9) (k10.keep c o (ne_of_none e hpn) (ne_of_none e fl9) (k9' c o e))
      have eN11 := s11 _ _ eN1
      have adv := two_adv (ws := trimW ws) hb.1 hnd hd4
      have eside : frB (trimW ws) b n d = frB ws b n d := by rw [fr_side29 hb.1 hnd, fr_side29 hb.1 hnd, trim_side hne.1]
      rw [eside] at adv
      obtain ⟨dx3, hp3⟩ := w11.ins
      refine ⟨_, rfl, .inl ⟨rfl, _, SqL.of eN11⟩, _, rfl, p, dx3, _, rfl, hp3, nm_advance, _, rfl, p, qq, l, _, d, [(d, ord2 (frB ws b n d))], [], rfl, w11, hb.1, hb.2, hneT, by show 2 ≤ 1000; decide, Nat.le_of_lt hnd, adv, ?_, fun H12 r12 l12 ts12 k12 hr12 er12 fat12 w12 => ?_⟩
      · have z : ∀ f, total [(d, ord2 f)] ≤ 2000 := fun f => by cases f <;> exact (by decide : 2 ≤ 2000)
        exact z _
      have k12' : ∀ c o, H1 c = some o → H12 c = some o := fun c o e => k12.keep c o (ne_of_none e hpn) (ne_of_none e fl9) (s11 c o e)
      have eN12 := k12' _ _ eN1
      obtain ⟨t', u', ets, ft, fu, fe⟩ : ∃ t' u', ts12 = [t'] ∧ H12 t' = some (.tup [.int (d : Nat), .ref u']) ∧ u' ≠ N ∧ H12 u' = some (.lst ((ord2 (frB ws b n d)).map fun x => V.int (x : Nat))) := by
        match ts12, fat12 with
        | [t'], ⟨⟨u', h1, _, h2⟩, _⟩ => exact ⟨t', u', rfl, h1, fun z => by rw [z, eN12] at h2; exact refs_ints (Option.some.inj h2), h2⟩
      rw [ets] at er12
      refine ⟨N, _, _, rfl, rfl, eN12, ?_, as ++ [r12], _, _, _, rfl, ?_, ?_, by rw [List.length_append, hlen]; rfl, ?_⟩
      · rw [List.length_map, hlen, sizeLine_eq]
        have := (List.getElem?_eq_some_iff.mp hv).1
        simp at this
        omega
      · intro c o e
        rw [upd_ne (ne_of_none e hN)]
        exact k12' _ _ (sm _ _ e)
      · rw [upd_same, List.map_append]
        rfl
      have row : RowA N (upd H12 N (.lst (as.map V.ref ++ [V.ref r12]))) r12 d (frB ws b n d) := by
        have n1 : r12 ≠ N := fun z => by rw [z, eN11] at hr12; cases hr12
        have n2 : t' ≠ N := fun z => by rw [z, eN12] at ft; cases ft
        exact ⟨n1, t', u', n2, fu, by rw [upd_ne n1]; exact er12, by rw [upd_ne n2]; exact ft, by rw [upd_ne fu]; exact fe⟩
      have kk : ∀ c o, c ≠ N → H1 c = some o → (upd H12 N (.lst (as.map V.ref ++ [V.ref r12]))) c = some o := fun c o nn e => by
        rw [upd_ne nn]
        exact k12' _ _ e
      rcases hrow with ⟨rfl, ef⟩ | ⟨rfl, ef⟩
      · obtain rfl := List.eq_nil_of_length_eq_zero hlen
        refine ⟨fun a h => ?_, fun a h => by simp at h⟩
        simp at h
        rw [← h, ← ef]
        exact row
      · obtain ⟨a0, rfl⟩ : ∃ a0, as = [a0] := by
          match as, hlen with
          | [a0], _ => exact ⟨a0, rfl⟩
        refine ⟨fun a h => ?_, fun a h => ?_⟩
        · simp at h
          exact (r0 a (by simp [h])).keep kk
        · simp at h
          rw [← h, ← ef]
          exact row
    · rintro σ H1 ⟨as, y4, y5, y6, rfl, sm, eN1, hlen, r0, r1⟩
      obtain ⟨a1, a2, rfl⟩ : ∃ a1 a2, as = [a1, a2] := by
        match as, hlen with
        | [a1, a2], _ => exact ⟨a1, a2, rfl⟩
      exact ⟨_, rfl, c H1 N a1 a2 sm eN1 (r0 a1 rfl).dp (r1 a2 rfl).dp⟩
end
/-! ### law k29: the answers, as data -/
def tolD : Option (Nat × Nat) → PyData
  | none => .tuple [.str "alike"]
  | some (e, m) => .tuple [.str "apart", .int (e : Nat), .int (m : Nat)]
theorem tol_dp {K : PySem.W.Frag} {H : Hp} {p : Addr} : ∀ {r : Option (Nat × Nat)}, H p = some (.tup (tolV r)) → Dp K H (.ref p) (tolD r)
  | none, h => .tup (SqT.of h) (.cons (.str _) .nil)
  | some (_, _), h => .tup (SqT.of h) (.cons (.str _) (.cons (.int _) (.cons (.int _) .nil)))
theorem tol_lay : ∀ r, (tolD r).canLay0 = true
  | none => by decide +kernel
  | some (e, m) => by
    simp [tolD, PyData.canLay0, PyData.canLayAll0]
    decide +kernel
theorem tol_shaped (r : Option (Nat × Nat)) : SeqAt.shaped (tolD r) = true := by
  have h2 : (tolD r).depth ≤ 64 := by
    match r with
    | none => decide
    | some (e, m) =>
      show max 0 (max 0 (max 0 0)) + 1 ≤ 64
      decide
  unfold SeqAt.shaped
  rw [tol_lay, decide_eq_true h2]
  rfl
/-! ### law k29: the law itself -/
def rwD (d : Nat) (f : Bool) : PyData := .list [firedD (d, ord2 f)]
theorem row_le {d : Nat} {x y : V} (f g : Bool) : PySem.W.dataLe false (·.2) ((x, rwD d f) : V × PyData) (y, rwD d g) = (!f || g) := by
  show (!PyProof.Rows.lexLt PyProof.Rows.itemOrd (PySem.W.keyToks (rwD d g)) (PySem.W.keyToks (rwD d f))) = _
  cases f <;> cases g <;> simp [rwD, firedD, ord2, PySem.W.keyToks, PySem.W.keyToksAll, PyProof.Rows.lexLt, PyProof.Rows.itemLt]
theorem two_sorted {d : Nat} {f g : Bool} {x y : V} (hne : f ≠ g) : ([(x, rwD d f), (y, rwD d g)].mergeSort (PySem.W.dataLe false (·.2))).map (·.1) = if f = true then [y, x] else [x, y] := by
  have e := row_le (d := d) (x := x) (y := y) f g
  cases f <;> cases g
  · exact absurd rfl hne
  · simp [List.mergeSort, List.merge, List.MergeSort.Internal.splitInTwo, e]
  · simp [List.mergeSort, List.merge, List.MergeSort.Internal.splitInTwo, e]
  · exact absurd rfl hne
theorem row_alike (d : Nat) (f g : Bool) : PySem.W.alike (rwD d f) (rwD d g) = true := by
  cases f <;> cases g <;> simp [rwD, firedD, ord2, PySem.W.alike, PySem.W.alikeAll]
theorem rw_lay (d : Nat) (f : Bool) : (rwD d f).canLay0 = true := fired_lay [(d, ord2 f)]
theorem rws_lay (d : Nat) : (PyData.list [rwD d false, rwD d true]).canLay0 = true := by
  show ((rwD d false).canLay0 && ((rwD d true).canLay0 && true)) = true
  rw [rw_lay, rw_lay]
  rfl
theorem rw_depth (d : Nat) (f : Bool) : (rwD d f).depth ≤ 3 := Nat.succ_le_succ (fired_depth [(d, ord2 f)])
theorem rws_shaped (d : Nat) : SeqAt.shaped (.list [rwD d false, rwD d true]) = true := by
  have h2 : (PyData.list [rwD d false, rwD d true]).depth ≤ 64 := by
    show max (rwD d false).depth (max (rwD d true).depth 0) + 1 ≤ 64
    have h3 := rw_depth d false
    have h4 := rw_depth d true
    omega
  unfold SeqAt.shaped
  rw [rws_lay, decide_eq_true h2]
  rfl
section
variable {P : Program} {w : World} {K : PySem.W.Frag} {mg : Str → Option Value} {base : Heap}
def spLaw (K : PySem.W.Frag) (lamT : List (Addr × Str)) : Sp := fun vs H Q _ => ∃ (a : Addr) (ns : List Int), vs = [.ref a] ∧ SqL K H a (ns.map V.int) ∧ ns.length ≤ 63 ∧ LamX.Tabs lamT H ∧ ∀ H', Q (.bl true) H'
theorem ok_law {f : Addr} {fd : FuncData} {lamT : List (Addr × Str)} (F : Fun K "law" "law" s_law f fd) (T : Tx K mg) (h1 : Has P w K mg base 2 "_law_source" ["_law_script", "_law_k"] [] (spSource K)) (h2 : Has P w K mg base 4 "_law_wheels" ["_law_source_here"] [] spWheels29)
    (h3 : Has P w K mg base 5 "told_apart" ["base", "levels", "other_base", "other_levels"] [] (spTold K)) (h4 : Has P w K mg base 3 "_law_due" ["_law_one", "_law_two"] [] (spDue29 K lamT))
    (h5 : Has P w K mg base 7 "_law_shown" ["_law_wheels_here", "_law_due_here", "_law_now"] [] (spShown29 K)) :
    FnOk P w K mg base CX0 8 f fd ["_law_script"] (spLaw K lamT) := by
  obtain ⟨f__law_source, fd__law_source, ds__law_source, G__law_source, m__law_source, k__law_source, b__law_source, v__law_source⟩ := h1
  obtain ⟨f__law_wheels, fd__law_wheels, ds__law_wheels, G__law_wheels, m__law_wheels, k__law_wheels, b__law_wheels, v__law_wheels⟩ := h2
  obtain ⟨f_told_apart, fd_told_apart, ds_told_apart, G_told_apart, m_told_apart, k_told_apart, b_told_apart, v_told_apart⟩ := h3
  obtain ⟨f__law_due, fd__law_due, ds__law_due, G__law_due, m__law_due, k__law_due, b__law_due, v__law_due⟩ := h4
  obtain ⟨f__law_shown, fd__law_shown, ds__law_shown, G__law_shown, m__law_shown, k__law_shown, b__law_shown, v__law_shown⟩ := h5
  refine F.ok sc_law (fun vs H Q E h => ?_) (fun cdv A outer s H vs Q E hr h => ?_)
  · obtain ⟨a, ns, rfl, _⟩ := h
    rfl
  · obtain ⟨a, ns, rfl, hS, hlen, hT, q⟩ := h
    refine ⟨_, (pss_cons (ps_for PassesOwn.never rfl (pi_range1 (by rfl) T.b_range (pa_cons (pe_callB (call_max2 rfl) (by rfl) T.b_max (by decide +kernel) (pa_cons pe_int (pa_cons (pe_callB (call_min2 rfl) (by rfl) T.b_min (by decide +kernel) (pa_cons pe_int (pa_cons (pe_callB (lenK (K := K) rfl) (by rfl) T.b_len PySem.boot_len (pa_cons (pv 0) pa_nil)) pa_nil))) pa_nil))) pa_nil)) (pg_name (i := 1) sc_law.nd rfl (.inl rfl))
        (pss_cons (ps_set (i := 2) sc_law.nd rfl (.inl rfl) (pe_call G__law_wheels (hr.mono (by decide)) (by rfl) m__law_wheels k__law_wheels b__law_wheels v__law_wheels pass0 (pa_cons (pe_call G__law_source (hr.mono (by decide)) (by rfl) m__law_source k__law_source b__law_source v__law_source pass0 (pa_cons (pv 0) (pa_cons (pv 1) pa_nil))) pa_nil)))
        (pss_cons (ps_asg (pv 2) (pg_unl (n := 2) rfl (pgs_cons (pg_name (i := 3) sc_law.nd rfl (.inl rfl)) (pgs_cons (pg_name (i := 4) sc_law.nd rfl (.inl rfl)) pgs_nil))))
        (pss_cons (ps_set (i := 5) sc_law.nd rfl (.inl rfl) (pe_call G_told_apart (hr.mono (by decide)) (by rfl) m_told_apart k_told_apart b_told_apart v_told_apart pass0 (pa_cons (pe_ix (ix_tupK (K := K) rfl) (pv 3) pe_int (fun _ _ => rfl)) (pa_cons (pe_ix (ix_tupK (K := K) rfl) (pv 3) pe_int (fun _ _ => rfl)) (pa_cons (pe_ix (ix_tupK (K := K) rfl) (pv 4) pe_int (fun _ _ => rfl)) (pa_cons (pe_ix (ix_tupK (K := K) rfl) (pv 4) pe_int (fun _ _ => rfl)) pa_nil))))))
        (pss_cons (ps_if (PW.pt (pw_or (pt_cmpR (op_neK (K := K) rfl hr.units) (pv 5) (pe_call G__law_due (hr.mono (by decide)) (by rfl) m__law_due k__law_due b__law_due v__law_due pass0 (pa_cons (pv 3) (pa_cons (pv 4) pa_nil))) (nomark _)) (pw_or1 (pt_cmpR (op_neK (K := K) rfl hr.units) (pe_call G_told_apart (hr.mono (by decide)) (by rfl) m_told_apart k_told_apart b_told_apart v_told_apart pass0 (pa_cons (pe_ix (ix_tupK (K := K) rfl) (pv 4) pe_int (fun _ _ => rfl)) (pa_cons (pe_ix (ix_tupK (K := K) rfl) (pv 4) pe_int (fun _ _ => rfl)) (pa_cons (pe_ix (ix_tupK (K := K) rfl) (pv 3) pe_int (fun _ _ => rfl)) (pa_cons (pe_ix (ix_tupK (K := K) rfl) (pv 3) pe_int (fun _ _ => rfl)) pa_nil))))) (pv 5) (nomark _)))))
          (pss_one (ps_ret pe_bl))
          pss_nil)
        (pss_one (ps_if (PW.pt (pw_and (pt_cmpR op_eq (pe_ix (ix_tupK (K := K) rfl) (pv 5) pe_int (fun _ _ => rfl)) pe_str (nomark _)) (pw_and1 (pt_cmpR op_lt (pe_ix (ix_tupK (K := K) rfl) (pv 5) pe_int (fun _ _ => rfl)) (pe_op op_pow pe_int pe_int) (nomark _)))))
          (pss_cons (ps_set (i := 6) sc_law.nd rfl (.inl rfl) (pe_call G__law_shown hr (by rfl) m__law_shown k__law_shown b__law_shown v__law_shown pass0 (pa_cons (pv 2) (pa_cons (pe_ix (ix_tupK (K := K) rfl) (pv 5) pe_int (fun _ _ => rfl)) (pa_cons (pe_ix (ix_tupK (K := K) rfl) (pv 5) pe_int (fun _ _ => rfl)) pa_nil)))))
          (pss_one (ps_if (pt_cmpR (op_neK (K := K) rfl hr.units) (pe_callB (sortDK (K := K) rfl hr.units) (by rfl) T.b_sorted (by decide +kernel) (pa_cons (pv 6) pa_nil)) (pe_lst (pa_cons (pe_lst (pa_cons (pe_tup (pa_cons (pe_ix (ix_tupK (K := K) rfl) (pv 5) pe_int (fun _ _ => rfl)) (pa_cons (pe_lst (pa_cons pe_int (pa_cons pe_int pa_nil))) pa_nil))) pa_nil)) (pa_cons (pe_lst (pa_cons (pe_tup (pa_cons (pe_ix (ix_tupK (K := K) rfl) (pv 5) pe_int (fun _ _ => rfl)) (pa_cons (pe_lst (pa_cons pe_int (pa_cons pe_int pa_nil))) pa_nil))) pa_nil)) pa_nil))) (nomark _))
            (pss_one (ps_ret pe_bl))
            pss_nil)))
          pss_nil)))))))
      (pss_one (ps_ret pe_bl))), ?_⟩
    refine ⟨.ref a, rfl, a, ns.map V.int, rfl, .inl hS, 6, _, rfl, 1, _, rfl, _, rfl, ?_, ?_, for_range (Pv := fun i σ H' => SqL K H' a (ns.map V.int) ∧ LamX.Tabs lamT H' ∧ ∃ y1 y2 y3 y4 y5 y6, σ = [some (.ref a), y1, y2, y3, y4, y5, y6]) ⟨hS, hT, none, none, none, none, none, none, rfl⟩ ?_ ?_⟩
    · split <;> split <;> omega
    · rw [List.length_map]
      split <;> split <;> omega
    · rintro i0 σ H0 hi ⟨hS, hT, y1, y2, y3, y4, y5, y6, rfl⟩
      refine ⟨_, rfl, _, rfl, a, ns, 0 + i0, rfl, hS, fun H1 p s1 hp0 hsrc => ?_⟩
      refine ⟨p, rfl, hsrc, fun b1 b2 w1 w2 t1 t2 q1 q2 ww H2 hW s2 => ?_⟩
      have s02 : Same H0 H2 := fun b o e => s2.keep b o (ne_of_none e hp0) (s1 b o e)
      have hT2 := hT.ext s02
      have hS2 := s02.seq hS
      refine ⟨_, rfl, ww, _, rfl, .inl (.inl hW.lq), rfl, _, _, rfl, _, _, rfl, rfl, ?_⟩
      refine ⟨_, rfl, t1, _, 0, _, rfl, rfl, SqT.of hW.t1e, atI_nat (j := 0) rfl, _, rfl, t1, _, 1, _, rfl, rfl, SqT.of hW.t1e, atI_nat (j := 1) rfl, _, rfl, t2, _, 0, _, rfl, rfl, SqT.of hW.t2e, atI_nat (j := 0) rfl, _, rfl, t2, _, 1, _, rfl, rfl, SqT.of hW.t2e, atI_nat (j := 1) rfl, ?_⟩
      refine ⟨b1, b2, q1, q2, w1, w2, rfl, hW.hb1.1, hW.hb1.2, hW.hb2.1, hW.hb2.2, hW.n1.2, hW.n2.2, SqL.of hW.q1e, SqL.of hW.q2e, hW.n1.1, hW.n2.1, fun r hr' H3 u s3 hu0 eu => ?_⟩
      have hT3 := hT2.ext s3
      have hS3 := s3.seq hS2
      have hW3 : Two29 H3 ww b1 b2 w1 w2 t1 t2 q1 q2 := ⟨s3 _ _ hW.lq, s3 _ _ hW.t1e, s3 _ _ hW.t2e, s3 _ _ hW.q1e, s3 _ _ hW.q2e, hW.hb1, hW.hb2, hW.n1, hW.n2⟩
      clear hT2 hS2
      refine ⟨_, rfl, _, rfl, _, rfl, t1, t2, b1, b2, q1, q2, w1, w2, rfl, hW3.t1e, hW3.t2e, hW3.hb1.1, hW3.hb1.2, hW3.hb2.1, hW3.hb2.2, hW3.q1e, hW3.q2e, hW3.n1.1, hW3.n2.1, hW3.n1.2, hW3.n2.2, hT3, fun r2 hr2 H4 u2 x34 hT4 eu2 => ?_⟩
      obtain rfl := hr2.uniq hr'
      have up : ∀ {c : Addr} {o : HO}, H3 c = some o → (∀ ps, o ≠ .tbl ps) → H4 c = some o := fun h n => x34 _ _ h n
      have hS4 := ExtN.seq x34 hS3
      have eu4 := up eu (fun ps z => by cases z)
      have hW4 : Two29 H4 ww b1 b2 w1 w2 t1 t2 q1 q2 := ⟨up hW3.lq (fun ps z => by cases z), up hW3.t1e (fun ps z => by cases z), up hW3.t2e (fun ps z => by cases z), up hW3.q1e (fun ps z => by cases z), up hW3.q2e (fun ps z => by cases z), hW.hb1, hW.hb2, hW.n1, hW.n2⟩
      refine ⟨_, _, tol_dp eu4, tol_dp eu2, tol_shaped _, tol_shaped _, false, neq_refl (tol_lay r2), iteF ?_⟩
      refine ⟨_, rfl, t2, _, 0, _, rfl, rfl, SqT.of hW4.t2e, atI_nat (j := 0) rfl, _, rfl, t2, _, 1, _, rfl, rfl, SqT.of hW4.t2e, atI_nat (j := 1) rfl, _, rfl, t1, _, 0, _, rfl, rfl, SqT.of hW4.t1e, atI_nat (j := 0) rfl, _, rfl, t1, _, 1, _, rfl, rfl, SqT.of hW4.t1e, atI_nat (j := 1) rfl, ?_⟩
      refine ⟨b2, b1, q2, q1, w2, w1, rfl, hW.hb2.1, hW.hb2.2, hW.hb1.1, hW.hb1.2, hW.n2.2, hW.n1.2, SqL.of hW4.q2e, SqL.of hW4.q1e, hW.n2.1, hW.n1.1, fun r3 hr3 H5 u3 s5 hu30 eu3 => ?_⟩
      obtain rfl := hr3.swap.uniq hr2
      have hT5 := hT4.ext s5
      have hS5 := s5.seq hS4
      have eu5 := s5 _ _ eu4
      have hW5 : Two29 H5 ww b1 b2 w1 w2 t1 t2 q1 q2 := ⟨s5 _ _ hW4.lq, s5 _ _ hW4.t1e, s5 _ _ hW4.t2e, s5 _ _ hW4.q1e, s5 _ _ hW4.q2e, hW.hb1, hW.hb2, hW.n1, hW.n2⟩
      refine ⟨_, rfl, _, _, tol_dp eu3, tol_dp eu5, tol_shaped _, tol_shaped _, false, neq_refl (tol_lay r3), iteF ?_⟩
      match r3, hr2, eu5 with
      | none, hr2, eu5 =>
        refine ⟨_, rfl, u, _, 0, _, rfl, rfl, SqT.of eu5, atI_nat (j := 0) rfl, rfl, false, dF (by decide +kernel), iteF (iteF ?_)⟩
        exact ⟨hS5, hT5, _, _, _, _, _, _, rfl⟩
      | some (d, n), hr2, eu5 =>
        refine ⟨_, rfl, u, _, 0, _, rfl, rfl, SqT.of eu5, atI_nat (j := 0) rfl, rfl, true, dT rfl, iteT ?_⟩
        refine ⟨_, rfl, u, _, 1, _, rfl, rfl, SqT.of eu5, atI_nat (j := 1) rfl, ?_⟩
        obtain ⟨M, hM⟩ : ∃ M : Int, M = 10 ^ Int.toNat 60 := ⟨_, rfl⟩
        refine ⟨10, 60, rfl, rfl, ⟨by decide, by decide, by decide⟩, ((d : Nat) : Int), M, rfl, congrArg V.int hM.symm, _, rfl, ite2 (fun e => ?_) (fun e => ⟨hS5, hT5, _, _, _, _, _, _, rfl⟩)⟩
        have hd200 : d < 2 ^ 200 := by
          have z : ((d : Nat) : Int) < M := of_decide_eq_true e
          rw [hM] at z
          have z2 : (10 : Int) ^ Int.toNat 60 ≤ ((2 ^ 200 : Nat) : Int) := by decide
          exact Int.ofNat_lt.mp (Int.lt_of_lt_of_le z z2)
        have hdif := hr2.2.1
        refine ⟨_, rfl, _, rfl, u, _, 1, _, rfl, rfl, SqT.of eu5, atI_nat (j := 1) rfl, _, rfl, u, _, 2, _, rfl, rfl, SqT.of eu5, atI_nat (j := 2) rfl, ww, t1, t2, q1, q2, b1, b2, d, n, w1, w2, rfl, hW5, hr2.1, hd200, fun H6 N a1 a2 s6 eN d1 d2 => ?_⟩
        have eu6 := s6 _ _ eu5
        have hT6 := hT5.ext s6
        have hS6 := s6.seq hS5
        have hne : frB w1 b1 n d ≠ frB w2 b2 n d := hdif
        generalize frB w1 b1 n d = f at d1 hne
        generalize frB w2 b2 n d = g at d2 hne
        refine ⟨_, rfl, N, [(.ref a1, rwD d f), (.ref a2, rwD d g)], rfl, SqL.of eN, ?_, ?_, ?_, ?_, fun S hS => ?_⟩
        · intro z hz
          rcases List.mem_cons.mp hz with rfl | hz
          · exact d1
          · rw [List.mem_singleton.mp hz]
            exact d2
        · intro x hx y hy
          simp at hx hy
          rcases hx with rfl | rfl <;> rcases hy with rfl | rfl <;> exact row_alike _ _ _
        · refine .inr fun x hx => ?_
          simp at hx
          rcases hx with rfl | rfl <;> exact ⟨by simp [rwD], by simp [rwD]⟩
        · intro z hz
          have key : ∀ f, (rwD d f).depth ≤ 50 := fun f => by
            have := fired_depth [(d, ord2 f)]
            show PyData.depthAll _ + 1 ≤ 50
            have e : PyData.depthAll ([(d, ord2 f)].map firedD) ≤ 2 := this
            exact Nat.le_trans (Nat.succ_le_succ e) (by decide)
          rcases List.mem_cons.mp hz with rfl | hz
          · exact key _
          · rw [List.mem_singleton.mp hz]
            exact key _
        rw [two_sorted hne]
        obtain ⟨x, y, exy, dx, dy⟩ : ∃ x y, (if f = true then [V.ref a2, V.ref a1] else [.ref a1, .ref a2]) = [V.ref x, V.ref y] ∧ Dp K H6 (.ref x) (rwD d false) ∧ Dp K H6 (.ref y) (rwD d true) := by
          cases f <;> cases g
          · exact absurd rfl hne
          · exact ⟨a1, a2, rfl, d1, d2⟩
          · exact ⟨a2, a1, rfl, d2, d1⟩
          · exact absurd rfl hne
        rw [exy]
        have sS := same_upd (o := .lst [.ref x, .ref y]) hS
        have eS := upd_same (H := H6) (a := S) (o := .lst [.ref x, .ref y])
        have eu7 := sS _ _ eu6
        generalize upd H6 S (.lst [.ref x, .ref y]) = H7 at sS eS eu7 ⊢
        refine ⟨_, rfl, u, _, 1, _, rfl, rfl, SqT.of eu7, atI_nat (j := 1) rfl, ?_⟩
        refine ⟨by simp [sizeLine_eq], fun qA hqA => ?_⟩
        have sA := same_upd (o := .lst [.int 0, .int 1]) hqA
        have eA : (upd H7 qA (.lst [.int 0, .int 1])) qA = some (.lst [.int 0, .int 1]) := upd_same
        generalize upd H7 qA (.lst [.int 0, .int 1]) = HA at sA eA ⊢
        refine ⟨by simp [sizeLine_eq], fun qB hqB => ?_⟩
        have sB := same_upd (o := .tup [.int (d : Nat), .ref qA]) hqB
        have eB : (upd HA qB (.tup [.int (d : Nat), .ref qA])) qB = some (.tup [.int (d : Nat), .ref qA]) := upd_same
        generalize upd HA qB (.tup [.int (d : Nat), .ref qA]) = HB at sB eB ⊢
        refine ⟨by simp [sizeLine_eq], fun qC hqC => ?_⟩
        have sC := same_upd (o := .lst [.ref qB]) hqC
        have eC : (upd HB qC (.lst [.ref qB])) qC = some (.lst [.ref qB]) := upd_same
        generalize upd HB qC (.lst [.ref qB]) = HC at sC eC ⊢
        refine ⟨_, rfl, u, _, 1, _, rfl, rfl, SqT.of (sC _ _ (sB _ _ (sA _ _ eu7))), atI_nat (j := 1) rfl, ?_⟩
        refine ⟨by simp [sizeLine_eq], fun qD hqD => ?_⟩
        have sD := same_upd (o := .lst [.int 1, .int 0]) hqD
        have eD : (upd HC qD (.lst [.int 1, .int 0])) qD = some (.lst [.int 1, .int 0]) := upd_same
        generalize upd HC qD (.lst [.int 1, .int 0]) = HD at sD eD ⊢
        refine ⟨by simp [sizeLine_eq], fun qE hqE => ?_⟩
        have sE := same_upd (o := .tup [.int (d : Nat), .ref qD]) hqE
        have eE : (upd HD qE (.tup [.int (d : Nat), .ref qD])) qE = some (.tup [.int (d : Nat), .ref qD]) := upd_same
        generalize upd HD qE (.tup [.int (d : Nat), .ref qD]) = HE at sE eE ⊢
        refine ⟨by simp [sizeLine_eq], fun qG hqG => ?_⟩
        have sG := same_upd (o := .lst [.ref qE]) hqG
        have eG : (upd HE qG (.lst [.ref qE])) qG = some (.lst [.ref qE]) := upd_same
        generalize upd HE qG (.lst [.ref qE]) = HG at sG eG ⊢
        refine ⟨by simp [sizeLine_eq], fun qL hqL => ?_⟩
        have sL := same_upd (o := .lst [.ref qC, .ref qG]) hqL
        have eL : (upd HG qL (.lst [.ref qC, .ref qG])) qL = some (.lst [.ref qC, .ref qG]) := upd_same
        generalize upd HG qL (.lst [.ref qC, .ref qG]) = HL at sL eL ⊢
        have kL : Same HL HL := fun _ _ e => e
        have kG := sL.trans kL
        have kE := sG.trans kG
        have kD := sE.trans kE
        have kC := sD.trans kD
        have kB := sC.trans kC
        have kA := sB.trans kB
        have k7 := sA.trans kA
        have df : Dp K HL (.ref qC) (rwD d false) := .lst (SqL.of (kC _ _ eC)) (.cons (.tup (SqT.of (kB _ _ eB)) (.cons (.int _) (.cons (.lst (SqL.of (kA _ _ eA)) (dp_nats [0, 1])) .nil))) .nil)
        have dt : Dp K HL (.ref qG) (rwD d true) := .lst (SqL.of (kG _ _ eG)) (.cons (.tup (SqT.of (kE _ _ eE)) (.cons (.int _) (.cons (.lst (SqL.of (kD _ _ eD)) (dp_nats [1, 0])) .nil))) .nil)
        have s6L := sS.trans k7
        have dl : Dp K HL (.ref S) (.list [rwD d false, rwD d true]) := .lst (SqL.of (k7 _ _ eS)) (.cons (dp_same s6L dx) (.cons (dp_same s6L dy) .nil))
        have dr : Dp K HL (.ref qL) (.list [rwD d false, rwD d true]) := .lst (SqL.of eL) (.cons df (.cons dt .nil))
        refine ⟨_, _, dl, dr, rws_shaped d, rws_shaped d, false, neq_refl (rws_lay d), iteF ?_⟩
        exact ⟨s6L.seq hS6, hT6.ext s6L, _, _, _, _, _, _, rfl⟩
    · rintro σ H' ⟨hS, hT, y1, y2, y3, y4, y5, y6, rfl⟩
      exact q H'
end
theorem all_mk {l : PySem.W.OpenLaw} {w : World} {K : PySem.W.Frag} {h : Heap} {mg : Str → Option Value} {fa : Addr} {ts : List Addr} (X : K.In h) (G : h.Ns mainGlobals mg) (hfa : mg "law" = some (.ref fa)) (hT8 : ∀ Pt ∈ ts, h.get? Pt = some (PySem.W.tabObj #[]))
    {f_WORDS : Addr} {od_WORDS : Option Addr} {tk0_WORDS tk1_WORDS : Tok} {tn_WORDS : Nat} {ts_WORDS : Array (Option Value)}
    {tk_MOST_LEVELS : Tok}
    {tk_MOST_FIRINGS : Tok}
    {f_wall f_is_integer f_is_word f_is_base f_is_length f_are_levels f_is_tick f_is_period f_check_base f_check_levels f_check_tick f_word_at f_level_and_size f_path f_goes_in_front f_with_timer f_firing_order f_size_of_lowest_stack f_powers f_telling_dues f_first_difference f_told_apart f_without_repeats f_check_period f_order_of_firing f_standing f_least_due f_after_firing f_law_cell_at f_law_mixed f_law_source f_law_next f_law_word_at f_law_first f_law_of_one_base f_law_due f_law_levels_of f_law_wheels f_law_shown f_law : Addr}
    {od_wall an_wall od_is_integer an_is_integer od_is_word an_is_word od_is_base an_is_base od_is_length an_is_length od_are_levels an_are_levels od_is_tick an_is_tick od_is_period an_is_period od_check_base an_check_base od_check_levels an_check_levels od_check_tick an_check_tick od_word_at an_word_at od_level_and_size an_level_and_size od_path an_path od_goes_in_front an_goes_in_front od_with_timer an_with_timer od_firing_order an_firing_order od_size_of_lowest_stack an_size_of_lowest_stack od_powers an_powers od_telling_dues an_telling_dues od_first_difference an_first_difference od_told_apart an_told_apart od_without_repeats an_without_repeats od_check_period an_check_period od_order_of_firing an_order_of_firing od_standing an_standing od_least_due an_least_due od_after_firing an_after_firing od_law_cell_at an_law_cell_at od_law_mixed an_law_mixed od_law_source an_law_source od_law_next an_law_next od_law_word_at an_law_word_at od_law_first an_law_first od_law_of_one_base an_law_of_one_base od_law_due an_law_due od_law_levels_of an_law_levels_of od_law_wheels an_law_wheels od_law_shown an_law_shown od_law an_law : Option Addr}
    {sl_wall sl_is_integer sl_is_word sl_is_base sl_is_length sl_are_levels sl_is_tick sl_is_period sl_check_base sl_check_levels sl_check_tick sl_word_at sl_level_and_size sl_path sl_goes_in_front sl_with_timer sl_firing_order sl_size_of_lowest_stack sl_powers sl_telling_dues sl_first_difference sl_told_apart sl_without_repeats sl_check_period sl_order_of_firing sl_standing sl_least_due sl_after_firing sl_law_cell_at sl_law_mixed sl_law_source sl_law_next sl_law_word_at sl_law_first sl_law_of_one_base sl_law_due sl_law_levels_of sl_law_wheels sl_law_shown sl_law : Array (Option Value)}
    {oc_wall kV_wall dc_wall pm_wall cd_wall ct_wall oc_is_integer kV_is_integer dc_is_integer pm_is_integer cd_is_integer ct_is_integer oc_is_word kV_is_word dc_is_word pm_is_word cd_is_word ct_is_word oc_is_base kV_is_base dc_is_base pm_is_base cd_is_base ct_is_base oc_is_length kV_is_length dc_is_length pm_is_length cd_is_length ct_is_length oc_are_levels kV_are_levels dc_are_levels pm_are_levels cd_are_levels ct_are_levels oc_is_tick kV_is_tick dc_is_tick pm_is_tick cd_is_tick ct_is_tick oc_is_period kV_is_period dc_is_period pm_is_period cd_is_period ct_is_period oc_check_base kV_check_base dc_check_base pm_check_base cd_check_base ct_check_base oc_check_levels kV_check_levels dc_check_levels pm_check_levels cd_check_levels ct_check_levels oc_check_tick kV_check_tick dc_check_tick pm_check_tick cd_check_tick ct_check_tick oc_word_at kV_word_at dc_word_at pm_word_at cd_word_at ct_word_at oc_level_and_size kV_level_and_size dc_level_and_size pm_level_and_size cd_level_and_size ct_level_and_size oc_path kV_path dc_path pm_path cd_path ct_path oc_goes_in_front kV_goes_in_front dc_goes_in_front pm_goes_in_front cd_goes_in_front ct_goes_in_front oc_with_timer kV_with_timer dc_with_timer pm_with_timer cd_with_timer ct_with_timer oc_firing_order kV_firing_order dc_firing_order pm_firing_order cd_firing_order ct_firing_order oc_size_of_lowest_stack kV_size_of_lowest_stack dc_size_of_lowest_stack pm_size_of_lowest_stack cd_size_of_lowest_stack ct_size_of_lowest_stack oc_powers kV_powers dc_powers pm_powers cd_powers ct_powers oc_telling_dues kV_telling_dues dc_telling_dues pm_telling_dues cd_telling_dues ct_telling_dues oc_first_difference kV_first_difference dc_first_difference pm_first_difference cd_first_difference ct_first_difference oc_told_apart kV_told_apart dc_told_apart pm_told_apart cd_told_apart ct_told_apart oc_without_repeats kV_without_repeats dc_without_repeats pm_without_repeats cd_without_repeats ct_without_repeats oc_check_period kV_check_period dc_check_period pm_check_period cd_check_period ct_check_period oc_order_of_firing kV_order_of_firing dc_order_of_firing pm_order_of_firing cd_order_of_firing ct_order_of_firing oc_standing kV_standing dc_standing pm_standing cd_standing ct_standing oc_least_due kV_least_due dc_least_due pm_least_due cd_least_due ct_least_due oc_after_firing kV_after_firing dc_after_firing pm_after_firing cd_after_firing ct_after_firing oc_law_cell_at kV_law_cell_at dc_law_cell_at pm_law_cell_at cd_law_cell_at ct_law_cell_at oc_law_mixed kV_law_mixed dc_law_mixed pm_law_mixed cd_law_mixed ct_law_mixed oc_law_source kV_law_source dc_law_source pm_law_source cd_law_source ct_law_source oc_law_next kV_law_next dc_law_next pm_law_next cd_law_next ct_law_next oc_law_word_at kV_law_word_at dc_law_word_at pm_law_word_at cd_law_word_at ct_law_word_at oc_law_first kV_law_first dc_law_first pm_law_first cd_law_first ct_law_first oc_law_of_one_base kV_law_of_one_base dc_law_of_one_base pm_law_of_one_base cd_law_of_one_base ct_law_of_one_base oc_law_due kV_law_due dc_law_due pm_law_due ct_law_due oc_law_levels_of kV_law_levels_of dc_law_levels_of pm_law_levels_of cd_law_levels_of ct_law_levels_of oc_law_wheels kV_law_wheels dc_law_wheels pm_law_wheels cd_law_wheels ct_law_wheels oc_law_shown kV_law_shown dc_law_shown pm_law_shown cd_law_shown ct_law_shown oc_law kV_law dc_law pm_law cd_law ct_law : Value}
    {C_ : Addr}
    {f_m_init f_m_put f_m_advance : Addr}
    {od_m_init an_m_init od_m_put an_m_put od_m_advance an_m_advance : Option Addr}
    {sl_m_init sl_m_put sl_m_advance : Array (Option Value)}
    {oc_m_init dc_m_init pm_m_init cd_m_init ct_m_init oc_m_put dc_m_put pm_m_put cd_m_put ct_m_put oc_m_advance dc_m_advance pm_m_advance cd_m_advance ct_m_advance kV_m_advance : Value}
    {kD_m_init : Addr} {kt_m_init : Tok}
    {kD_m_put : Addr}
    {dT_is_tick : Addr} {tc_is_tick : Value} {td_is_tick : Option Addr} {tt_is_tick : Tok} {tn_is_tick : Nat} {ts_is_tick : Array (Option Value)}
    {dT_check_tick : Addr} {tc_check_tick : Value} {td_check_tick : Option Addr} {tt_check_tick : Tok} {tn_check_tick : Nat} {ts_check_tick : Array (Option Value)}
    {cc_law_due P_law_due : Addr} {dd_law_due : Option Addr} {vs_law_due : Array Value} {sv_law_due : Array (Option Value)}
    (a_wall : PySem.W.nsIn K mainGlobals "_wall" = some (some (.ref f_wall)))
    (l_wall : K.lookup f_wall = some ⟨oc_wall, od_wall, .func (PySem.W.fnOf "_wall" "_wall" (defArgs s__wall) (defBody s__wall) (defScope s__wall) .none kV_wall dc_wall pm_wall an_wall cd_wall ct_wall), sl_wall⟩)
    (c_wall : PySem.W.codeIn K cd_wall "_wall" = true) (k_wall : PySem.W.keepIn K (.ref f_wall) = true)
    (a_is_integer : PySem.W.nsIn K mainGlobals "is_integer" = some (some (.ref f_is_integer)))
    (l_is_integer : K.lookup f_is_integer = some ⟨oc_is_integer, od_is_integer, .func (PySem.W.fnOf "is_integer" "is_integer" (defArgs s_is_integer) (defBody s_is_integer) (defScope s_is_integer) .none kV_is_integer dc_is_integer pm_is_integer an_is_integer cd_is_integer ct_is_integer), sl_is_integer⟩)
    (c_is_integer : PySem.W.codeIn K cd_is_integer "is_integer" = true) (k_is_integer : PySem.W.keepIn K (.ref f_is_integer) = true)
    (a_is_word : PySem.W.nsIn K mainGlobals "is_word" = some (some (.ref f_is_word)))
    (l_is_word : K.lookup f_is_word = some ⟨oc_is_word, od_is_word, .func (PySem.W.fnOf "is_word" "is_word" (defArgs s_is_word) (defBody s_is_word) (defScope s_is_word) .none kV_is_word dc_is_word pm_is_word an_is_word cd_is_word ct_is_word), sl_is_word⟩)
    (c_is_word : PySem.W.codeIn K cd_is_word "is_word" = true) (k_is_word : PySem.W.keepIn K (.ref f_is_word) = true)
    (a_is_base : PySem.W.nsIn K mainGlobals "is_base" = some (some (.ref f_is_base)))
    (l_is_base : K.lookup f_is_base = some ⟨oc_is_base, od_is_base, .func (PySem.W.fnOf "is_base" "is_base" (defArgs s_is_base) (defBody s_is_base) (defScope s_is_base) .none kV_is_base dc_is_base pm_is_base an_is_base cd_is_base ct_is_base), sl_is_base⟩)
    (c_is_base : PySem.W.codeIn K cd_is_base "is_base" = true) (k_is_base : PySem.W.keepIn K (.ref f_is_base) = true)
    (a_is_length : PySem.W.nsIn K mainGlobals "is_length" = some (some (.ref f_is_length)))
    (l_is_length : K.lookup f_is_length = some ⟨oc_is_length, od_is_length, .func (PySem.W.fnOf "is_length" "is_length" (defArgs s_is_length) (defBody s_is_length) (defScope s_is_length) .none kV_is_length dc_is_length pm_is_length an_is_length cd_is_length ct_is_length), sl_is_length⟩)
    (c_is_length : PySem.W.codeIn K cd_is_length "is_length" = true) (k_is_length : PySem.W.keepIn K (.ref f_is_length) = true)
    (a_are_levels : PySem.W.nsIn K mainGlobals "are_levels" = some (some (.ref f_are_levels)))
    (l_are_levels : K.lookup f_are_levels = some ⟨oc_are_levels, od_are_levels, .func (PySem.W.fnOf "are_levels" "are_levels" (defArgs s_are_levels) (defBody s_are_levels) (defScope s_are_levels) .none kV_are_levels dc_are_levels pm_are_levels an_are_levels cd_are_levels ct_are_levels), sl_are_levels⟩)
    (c_are_levels : PySem.W.codeIn K cd_are_levels "are_levels" = true) (k_are_levels : PySem.W.keepIn K (.ref f_are_levels) = true)
    (a_is_tick : PySem.W.nsIn K mainGlobals "is_tick" = some (some (.ref f_is_tick)))
    (l_is_tick : K.lookup f_is_tick = some ⟨oc_is_tick, od_is_tick, .func (PySem.W.fnOf "is_tick" "is_tick" (defArgs s_is_tick) (defBody s_is_tick) (defScope s_is_tick) (.ref dT_is_tick) kV_is_tick dc_is_tick pm_is_tick an_is_tick cd_is_tick ct_is_tick), sl_is_tick⟩)
    (t_is_tick : K.lookup dT_is_tick = some ⟨tc_is_tick, td_is_tick, .seq #[.int 0 tt_is_tick] tn_is_tick, ts_is_tick⟩)
    (c_is_tick : PySem.W.codeIn K cd_is_tick "is_tick" = true) (k_is_tick : PySem.W.keepIn K (.ref f_is_tick) = true)
    (a_is_period : PySem.W.nsIn K mainGlobals "is_period" = some (some (.ref f_is_period)))
    (l_is_period : K.lookup f_is_period = some ⟨oc_is_period, od_is_period, .func (PySem.W.fnOf "is_period" "is_period" (defArgs s_is_period) (defBody s_is_period) (defScope s_is_period) .none kV_is_period dc_is_period pm_is_period an_is_period cd_is_period ct_is_period), sl_is_period⟩)
    (c_is_period : PySem.W.codeIn K cd_is_period "is_period" = true) (k_is_period : PySem.W.keepIn K (.ref f_is_period) = true)
    (a_check_base : PySem.W.nsIn K mainGlobals "check_base" = some (some (.ref f_check_base)))
    (l_check_base : K.lookup f_check_base = some ⟨oc_check_base, od_check_base, .func (PySem.W.fnOf "check_base" "check_base" (defArgs s_check_base) (defBody s_check_base) (defScope s_check_base) .none kV_check_base dc_check_base pm_check_base an_check_base cd_check_base ct_check_base), sl_check_base⟩)
    (c_check_base : PySem.W.codeIn K cd_check_base "check_base" = true) (k_check_base : PySem.W.keepIn K (.ref f_check_base) = true)
    (a_check_levels : PySem.W.nsIn K mainGlobals "check_levels" = some (some (.ref f_check_levels)))
    (l_check_levels : K.lookup f_check_levels = some ⟨oc_check_levels, od_check_levels, .func (PySem.W.fnOf "check_levels" "check_levels" (defArgs s_check_levels) (defBody s_check_levels) (defScope s_check_levels) .none kV_check_levels dc_check_levels pm_check_levels an_check_levels cd_check_levels ct_check_levels), sl_check_levels⟩)
    (c_check_levels : PySem.W.codeIn K cd_check_levels "check_levels" = true) (k_check_levels : PySem.W.keepIn K (.ref f_check_levels) = true)
    (a_check_tick : PySem.W.nsIn K mainGlobals "check_tick" = some (some (.ref f_check_tick)))
    (l_check_tick : K.lookup f_check_tick = some ⟨oc_check_tick, od_check_tick, .func (PySem.W.fnOf "check_tick" "check_tick" (defArgs s_check_tick) (defBody s_check_tick) (defScope s_check_tick) (.ref dT_check_tick) kV_check_tick dc_check_tick pm_check_tick an_check_tick cd_check_tick ct_check_tick), sl_check_tick⟩)
    (t_check_tick : K.lookup dT_check_tick = some ⟨tc_check_tick, td_check_tick, .seq #[.int 0 tt_check_tick] tn_check_tick, ts_check_tick⟩)
    (c_check_tick : PySem.W.codeIn K cd_check_tick "check_tick" = true) (k_check_tick : PySem.W.keepIn K (.ref f_check_tick) = true)
    (a_word_at : PySem.W.nsIn K mainGlobals "word_at" = some (some (.ref f_word_at)))
    (l_word_at : K.lookup f_word_at = some ⟨oc_word_at, od_word_at, .func (PySem.W.fnOf "word_at" "word_at" (defArgs s_word_at) (defBody s_word_at) (defScope s_word_at) .none kV_word_at dc_word_at pm_word_at an_word_at cd_word_at ct_word_at), sl_word_at⟩)
    (c_word_at : PySem.W.codeIn K cd_word_at "word_at" = true) (k_word_at : PySem.W.keepIn K (.ref f_word_at) = true)
    (a_level_and_size : PySem.W.nsIn K mainGlobals "level_and_size" = some (some (.ref f_level_and_size)))
    (l_level_and_size : K.lookup f_level_and_size = some ⟨oc_level_and_size, od_level_and_size, .func (PySem.W.fnOf "level_and_size" "level_and_size" (defArgs s_level_and_size) (defBody s_level_and_size) (defScope s_level_and_size) .none kV_level_and_size dc_level_and_size pm_level_and_size an_level_and_size cd_level_and_size ct_level_and_size), sl_level_and_size⟩)
    (c_level_and_size : PySem.W.codeIn K cd_level_and_size "level_and_size" = true) (k_level_and_size : PySem.W.keepIn K (.ref f_level_and_size) = true)
    (a_path : PySem.W.nsIn K mainGlobals "path" = some (some (.ref f_path)))
    (l_path : K.lookup f_path = some ⟨oc_path, od_path, .func (PySem.W.fnOf "path" "path" (defArgs s_path) (defBody s_path) (defScope s_path) .none kV_path dc_path pm_path an_path cd_path ct_path), sl_path⟩)
    (c_path : PySem.W.codeIn K cd_path "path" = true) (k_path : PySem.W.keepIn K (.ref f_path) = true)
    (a_goes_in_front : PySem.W.nsIn K mainGlobals "goes_in_front" = some (some (.ref f_goes_in_front)))
    (l_goes_in_front : K.lookup f_goes_in_front = some ⟨oc_goes_in_front, od_goes_in_front, .func (PySem.W.fnOf "goes_in_front" "goes_in_front" (defArgs s_goes_in_front) (defBody s_goes_in_front) (defScope s_goes_in_front) .none kV_goes_in_front dc_goes_in_front pm_goes_in_front an_goes_in_front cd_goes_in_front ct_goes_in_front), sl_goes_in_front⟩)
    (c_goes_in_front : PySem.W.codeIn K cd_goes_in_front "goes_in_front" = true) (k_goes_in_front : PySem.W.keepIn K (.ref f_goes_in_front) = true)
    (a_with_timer : PySem.W.nsIn K mainGlobals "with_timer" = some (some (.ref f_with_timer)))
    (l_with_timer : K.lookup f_with_timer = some ⟨oc_with_timer, od_with_timer, .func (PySem.W.fnOf "with_timer" "with_timer" (defArgs s_with_timer) (defBody s_with_timer) (defScope s_with_timer) .none kV_with_timer dc_with_timer pm_with_timer an_with_timer cd_with_timer ct_with_timer), sl_with_timer⟩)
    (c_with_timer : PySem.W.codeIn K cd_with_timer "with_timer" = true) (k_with_timer : PySem.W.keepIn K (.ref f_with_timer) = true)
    (a_firing_order : PySem.W.nsIn K mainGlobals "firing_order" = some (some (.ref f_firing_order)))
    (l_firing_order : K.lookup f_firing_order = some ⟨oc_firing_order, od_firing_order, .func (PySem.W.fnOf "firing_order" "firing_order" (defArgs s_firing_order) (defBody s_firing_order) (defScope s_firing_order) .none kV_firing_order dc_firing_order pm_firing_order an_firing_order cd_firing_order ct_firing_order), sl_firing_order⟩)
    (c_firing_order : PySem.W.codeIn K cd_firing_order "firing_order" = true) (k_firing_order : PySem.W.keepIn K (.ref f_firing_order) = true)
    (a_size_of_lowest_stack : PySem.W.nsIn K mainGlobals "size_of_lowest_stack" = some (some (.ref f_size_of_lowest_stack)))
    (l_size_of_lowest_stack : K.lookup f_size_of_lowest_stack = some ⟨oc_size_of_lowest_stack, od_size_of_lowest_stack, .func (PySem.W.fnOf "size_of_lowest_stack" "size_of_lowest_stack" (defArgs s_size_of_lowest_stack) (defBody s_size_of_lowest_stack) (defScope s_size_of_lowest_stack) .none kV_size_of_lowest_stack dc_size_of_lowest_stack pm_size_of_lowest_stack an_size_of_lowest_stack cd_size_of_lowest_stack ct_size_of_lowest_stack), sl_size_of_lowest_stack⟩)
    (c_size_of_lowest_stack : PySem.W.codeIn K cd_size_of_lowest_stack "size_of_lowest_stack" = true) (k_size_of_lowest_stack : PySem.W.keepIn K (.ref f_size_of_lowest_stack) = true)
    (a_powers : PySem.W.nsIn K mainGlobals "powers" = some (some (.ref f_powers)))
    (l_powers : K.lookup f_powers = some ⟨oc_powers, od_powers, .func (PySem.W.fnOf "powers" "powers" (defArgs s_powers) (defBody s_powers) (defScope s_powers) .none kV_powers dc_powers pm_powers an_powers cd_powers ct_powers), sl_powers⟩)
    (c_powers : PySem.W.codeIn K cd_powers "powers" = true) (k_powers : PySem.W.keepIn K (.ref f_powers) = true)
    (a_telling_dues : PySem.W.nsIn K mainGlobals "telling_dues" = some (some (.ref f_telling_dues)))
    (l_telling_dues : K.lookup f_telling_dues = some ⟨oc_telling_dues, od_telling_dues, .func (PySem.W.fnOf "telling_dues" "telling_dues" (defArgs s_telling_dues) (defBody s_telling_dues) (defScope s_telling_dues) .none kV_telling_dues dc_telling_dues pm_telling_dues an_telling_dues cd_telling_dues ct_telling_dues), sl_telling_dues⟩)
    (c_telling_dues : PySem.W.codeIn K cd_telling_dues "telling_dues" = true) (k_telling_dues : PySem.W.keepIn K (.ref f_telling_dues) = true)
    (a_first_difference : PySem.W.nsIn K mainGlobals "first_difference" = some (some (.ref f_first_difference)))
    (l_first_difference : K.lookup f_first_difference = some ⟨oc_first_difference, od_first_difference, .func (PySem.W.fnOf "first_difference" "first_difference" (defArgs s_first_difference) (defBody s_first_difference) (defScope s_first_difference) .none kV_first_difference dc_first_difference pm_first_difference an_first_difference cd_first_difference ct_first_difference), sl_first_difference⟩)
    (c_first_difference : PySem.W.codeIn K cd_first_difference "first_difference" = true) (k_first_difference : PySem.W.keepIn K (.ref f_first_difference) = true)
    (a_told_apart : PySem.W.nsIn K mainGlobals "told_apart" = some (some (.ref f_told_apart)))
    (l_told_apart : K.lookup f_told_apart = some ⟨oc_told_apart, od_told_apart, .func (PySem.W.fnOf "told_apart" "told_apart" (defArgs s_told_apart) (defBody s_told_apart) (defScope s_told_apart) .none kV_told_apart dc_told_apart pm_told_apart an_told_apart cd_told_apart ct_told_apart), sl_told_apart⟩)
    (c_told_apart : PySem.W.codeIn K cd_told_apart "told_apart" = true) (k_told_apart : PySem.W.keepIn K (.ref f_told_apart) = true)
    (a_without_repeats : PySem.W.nsIn K mainGlobals "without_repeats" = some (some (.ref f_without_repeats)))
    (l_without_repeats : K.lookup f_without_repeats = some ⟨oc_without_repeats, od_without_repeats, .func (PySem.W.fnOf "without_repeats" "without_repeats" (defArgs s_without_repeats) (defBody s_without_repeats) (defScope s_without_repeats) .none kV_without_repeats dc_without_repeats pm_without_repeats an_without_repeats cd_without_repeats ct_without_repeats), sl_without_repeats⟩)
    (c_without_repeats : PySem.W.codeIn K cd_without_repeats "without_repeats" = true) (k_without_repeats : PySem.W.keepIn K (.ref f_without_repeats) = true)
    (a_check_period : PySem.W.nsIn K mainGlobals "check_period" = some (some (.ref f_check_period)))
    (l_check_period : K.lookup f_check_period = some ⟨oc_check_period, od_check_period, .func (PySem.W.fnOf "check_period" "check_period" (defArgs s_check_period) (defBody s_check_period) (defScope s_check_period) .none kV_check_period dc_check_period pm_check_period an_check_period cd_check_period ct_check_period), sl_check_period⟩)
    (c_check_period : PySem.W.codeIn K cd_check_period "check_period" = true) (k_check_period : PySem.W.keepIn K (.ref f_check_period) = true)
    (a_order_of_firing : PySem.W.nsIn K mainGlobals "order_of_firing" = some (some (.ref f_order_of_firing)))
    (l_order_of_firing : K.lookup f_order_of_firing = some ⟨oc_order_of_firing, od_order_of_firing, .func (PySem.W.fnOf "order_of_firing" "order_of_firing" (defArgs s_order_of_firing) (defBody s_order_of_firing) (defScope s_order_of_firing) .none kV_order_of_firing dc_order_of_firing pm_order_of_firing an_order_of_firing cd_order_of_firing ct_order_of_firing), sl_order_of_firing⟩)
    (c_order_of_firing : PySem.W.codeIn K cd_order_of_firing "order_of_firing" = true) (k_order_of_firing : PySem.W.keepIn K (.ref f_order_of_firing) = true)
    (a_standing : PySem.W.nsIn K mainGlobals "standing" = some (some (.ref f_standing)))
    (l_standing : K.lookup f_standing = some ⟨oc_standing, od_standing, .func (PySem.W.fnOf "standing" "standing" (defArgs s_standing) (defBody s_standing) (defScope s_standing) .none kV_standing dc_standing pm_standing an_standing cd_standing ct_standing), sl_standing⟩)
    (c_standing : PySem.W.codeIn K cd_standing "standing" = true) (k_standing : PySem.W.keepIn K (.ref f_standing) = true)
    (a_least_due : PySem.W.nsIn K mainGlobals "least_due" = some (some (.ref f_least_due)))
    (l_least_due : K.lookup f_least_due = some ⟨oc_least_due, od_least_due, .func (PySem.W.fnOf "least_due" "least_due" (defArgs s_least_due) (defBody s_least_due) (defScope s_least_due) .none kV_least_due dc_least_due pm_least_due an_least_due cd_least_due ct_least_due), sl_least_due⟩)
    (c_least_due : PySem.W.codeIn K cd_least_due "least_due" = true) (k_least_due : PySem.W.keepIn K (.ref f_least_due) = true)
    (a_after_firing : PySem.W.nsIn K mainGlobals "after_firing" = some (some (.ref f_after_firing)))
    (l_after_firing : K.lookup f_after_firing = some ⟨oc_after_firing, od_after_firing, .func (PySem.W.fnOf "after_firing" "after_firing" (defArgs s_after_firing) (defBody s_after_firing) (defScope s_after_firing) .none kV_after_firing dc_after_firing pm_after_firing an_after_firing cd_after_firing ct_after_firing), sl_after_firing⟩)
    (c_after_firing : PySem.W.codeIn K cd_after_firing "after_firing" = true) (k_after_firing : PySem.W.keepIn K (.ref f_after_firing) = true)
    (a_law_cell_at : PySem.W.nsIn K mainGlobals "_law_cell_at" = some (some (.ref f_law_cell_at)))
    (l_law_cell_at : K.lookup f_law_cell_at = some ⟨oc_law_cell_at, od_law_cell_at, .func (PySem.W.fnOf "_law_cell_at" "_law_cell_at" (defArgs s__law_cell_at) (defBody s__law_cell_at) (defScope s__law_cell_at) .none kV_law_cell_at dc_law_cell_at pm_law_cell_at an_law_cell_at cd_law_cell_at ct_law_cell_at), sl_law_cell_at⟩)
    (c_law_cell_at : PySem.W.codeIn K cd_law_cell_at "_law_cell_at" = true) (k_law_cell_at : PySem.W.keepIn K (.ref f_law_cell_at) = true)
    (a_law_mixed : PySem.W.nsIn K mainGlobals "_law_mixed" = some (some (.ref f_law_mixed)))
    (l_law_mixed : K.lookup f_law_mixed = some ⟨oc_law_mixed, od_law_mixed, .func (PySem.W.fnOf "_law_mixed" "_law_mixed" (defArgs s__law_mixed) (defBody s__law_mixed) (defScope s__law_mixed) .none kV_law_mixed dc_law_mixed pm_law_mixed an_law_mixed cd_law_mixed ct_law_mixed), sl_law_mixed⟩)
    (c_law_mixed : PySem.W.codeIn K cd_law_mixed "_law_mixed" = true) (k_law_mixed : PySem.W.keepIn K (.ref f_law_mixed) = true)
    (a_law_source : PySem.W.nsIn K mainGlobals "_law_source" = some (some (.ref f_law_source)))
    (l_law_source : K.lookup f_law_source = some ⟨oc_law_source, od_law_source, .func (PySem.W.fnOf "_law_source" "_law_source" (defArgs s__law_source) (defBody s__law_source) (defScope s__law_source) .none kV_law_source dc_law_source pm_law_source an_law_source cd_law_source ct_law_source), sl_law_source⟩)
    (c_law_source : PySem.W.codeIn K cd_law_source "_law_source" = true) (k_law_source : PySem.W.keepIn K (.ref f_law_source) = true)
    (a_law_next : PySem.W.nsIn K mainGlobals "_law_next" = some (some (.ref f_law_next)))
    (l_law_next : K.lookup f_law_next = some ⟨oc_law_next, od_law_next, .func (PySem.W.fnOf "_law_next" "_law_next" (defArgs s__law_next) (defBody s__law_next) (defScope s__law_next) .none kV_law_next dc_law_next pm_law_next an_law_next cd_law_next ct_law_next), sl_law_next⟩)
    (c_law_next : PySem.W.codeIn K cd_law_next "_law_next" = true) (k_law_next : PySem.W.keepIn K (.ref f_law_next) = true)
    (a_law_word_at : PySem.W.nsIn K mainGlobals "_law_word_at" = some (some (.ref f_law_word_at)))
    (l_law_word_at : K.lookup f_law_word_at = some ⟨oc_law_word_at, od_law_word_at, .func (PySem.W.fnOf "_law_word_at" "_law_word_at" (defArgs s__law_word_at) (defBody s__law_word_at) (defScope s__law_word_at) .none kV_law_word_at dc_law_word_at pm_law_word_at an_law_word_at cd_law_word_at ct_law_word_at), sl_law_word_at⟩)
    (c_law_word_at : PySem.W.codeIn K cd_law_word_at "_law_word_at" = true) (k_law_word_at : PySem.W.keepIn K (.ref f_law_word_at) = true)
    (a_law_first : PySem.W.nsIn K mainGlobals "_law_first" = some (some (.ref f_law_first)))
    (l_law_first : K.lookup f_law_first = some ⟨oc_law_first, od_law_first, .func (PySem.W.fnOf "_law_first" "_law_first" (defArgs s__law_first) (defBody s__law_first) (defScope s__law_first) .none kV_law_first dc_law_first pm_law_first an_law_first cd_law_first ct_law_first), sl_law_first⟩)
    (c_law_first : PySem.W.codeIn K cd_law_first "_law_first" = true) (k_law_first : PySem.W.keepIn K (.ref f_law_first) = true)
    (a_law_of_one_base : PySem.W.nsIn K mainGlobals "_law_of_one_base" = some (some (.ref f_law_of_one_base)))
    (l_law_of_one_base : K.lookup f_law_of_one_base = some ⟨oc_law_of_one_base, od_law_of_one_base, .func (PySem.W.fnOf "_law_of_one_base" "_law_of_one_base" (defArgs s__law_of_one_base) (defBody s__law_of_one_base) (defScope s__law_of_one_base) .none kV_law_of_one_base dc_law_of_one_base pm_law_of_one_base an_law_of_one_base cd_law_of_one_base ct_law_of_one_base), sl_law_of_one_base⟩)
    (c_law_of_one_base : PySem.W.codeIn K cd_law_of_one_base "_law_of_one_base" = true) (k_law_of_one_base : PySem.W.keepIn K (.ref f_law_of_one_base) = true)
    (a_law_due : PySem.W.nsIn K mainGlobals "_law_due" = some (some (.ref f_law_due)))
    (l_law_due : K.lookup f_law_due = some ⟨oc_law_due, od_law_due, .func (PySem.W.fnOf "_law_due" "_law_due" (defArgs s__law_due) (defBody s__law_due) (defScope s__law_due) .none kV_law_due dc_law_due pm_law_due an_law_due (.ref cc_law_due) ct_law_due), sl_law_due⟩)
    (c_law_due : PySem.W.codeIn K (.ref cc_law_due) "_law_due" = true) (k_law_due : PySem.W.keepIn K (.ref f_law_due) = true)
    (lc_law_due : K.lookup cc_law_due = some ⟨.type "code", dd_law_due, .fields vs_law_due, sv_law_due⟩)
    (lp_law_due : vs_law_due[11]? = some (.ref P_law_due))
    (ch_law_due : PySem.W.codeHdIn K cc_law_due P_law_due = true)
    (nt_law_due : K.lookup P_law_due = none)
    (tm_law_due : P_law_due ∈ ts)
    (a_law_levels_of : PySem.W.nsIn K mainGlobals "_law_levels_of" = some (some (.ref f_law_levels_of)))
    (l_law_levels_of : K.lookup f_law_levels_of = some ⟨oc_law_levels_of, od_law_levels_of, .func (PySem.W.fnOf "_law_levels_of" "_law_levels_of" (defArgs s__law_levels_of) (defBody s__law_levels_of) (defScope s__law_levels_of) .none kV_law_levels_of dc_law_levels_of pm_law_levels_of an_law_levels_of cd_law_levels_of ct_law_levels_of), sl_law_levels_of⟩)
    (c_law_levels_of : PySem.W.codeIn K cd_law_levels_of "_law_levels_of" = true) (k_law_levels_of : PySem.W.keepIn K (.ref f_law_levels_of) = true)
    (a_law_wheels : PySem.W.nsIn K mainGlobals "_law_wheels" = some (some (.ref f_law_wheels)))
    (l_law_wheels : K.lookup f_law_wheels = some ⟨oc_law_wheels, od_law_wheels, .func (PySem.W.fnOf "_law_wheels" "_law_wheels" (defArgs s__law_wheels) (defBody s__law_wheels) (defScope s__law_wheels) .none kV_law_wheels dc_law_wheels pm_law_wheels an_law_wheels cd_law_wheels ct_law_wheels), sl_law_wheels⟩)
    (c_law_wheels : PySem.W.codeIn K cd_law_wheels "_law_wheels" = true) (k_law_wheels : PySem.W.keepIn K (.ref f_law_wheels) = true)
    (a_law_shown : PySem.W.nsIn K mainGlobals "_law_shown" = some (some (.ref f_law_shown)))
    (l_law_shown : K.lookup f_law_shown = some ⟨oc_law_shown, od_law_shown, .func (PySem.W.fnOf "_law_shown" "_law_shown" (defArgs s__law_shown) (defBody s__law_shown) (defScope s__law_shown) .none kV_law_shown dc_law_shown pm_law_shown an_law_shown cd_law_shown ct_law_shown), sl_law_shown⟩)
    (c_law_shown : PySem.W.codeIn K cd_law_shown "_law_shown" = true) (k_law_shown : PySem.W.keepIn K (.ref f_law_shown) = true)
    (a_law : PySem.W.nsIn K mainGlobals "law" = some (some (.ref f_law)))
    (l_law : K.lookup f_law = some ⟨oc_law, od_law, .func (PySem.W.fnOf "law" "law" (defArgs s_law) (defBody s_law) (defScope s_law) .none kV_law dc_law pm_law an_law cd_law ct_law), sl_law⟩)
    (c_law : PySem.W.codeIn K cd_law "law" = true) (k_law : PySem.W.keepIn K (.ref f_law) = true)
    (a_Wheel : PySem.W.nsIn K mainGlobals "Wheel" = some (some (.ref C_)))
    (a_m_init : PySem.W.findIn K (.ref C_) "__init__" = some (some (.ref f_m_init))) (i_m_init : PySem.W.isFn K (.ref f_m_init) = true)
    (l_m_init : K.lookup f_m_init = some ⟨oc_m_init, od_m_init, .func (PySem.W.fnOf "__init__" "Wheel.__init__" (defArgs s_Wheel___init__) (defBody s_Wheel___init__) (defScope s_Wheel___init__) .none (.ref kD_m_init) dc_m_init pm_m_init an_m_init cd_m_init ct_m_init), sl_m_init⟩)
    (c_m_init : PySem.W.codeIn K cd_m_init "Wheel.__init__" = true) (k_m_init : PySem.W.keepIn K (.ref f_m_init) = true)
    (d_m_init : PySem.W.nsIn K kD_m_init "start" = some (some (.int 0 kt_m_init)))
    (a_m_put : PySem.W.findIn K (.ref C_) "put" = some (some (.ref f_m_put))) (i_m_put : PySem.W.isFn K (.ref f_m_put) = true)
    (l_m_put : K.lookup f_m_put = some ⟨oc_m_put, od_m_put, .func (PySem.W.fnOf "put" "Wheel.put" (defArgs s_Wheel_put) (defBody s_Wheel_put) (defScope s_Wheel_put) .none (.ref kD_m_put) dc_m_put pm_m_put an_m_put cd_m_put ct_m_put), sl_m_put⟩)
    (c_m_put : PySem.W.codeIn K cd_m_put "Wheel.put" = true) (k_m_put : PySem.W.keepIn K (.ref f_m_put) = true)
    (d_m_put : PySem.W.nsIn K kD_m_put "period" = some (some .none))
    (a_m_advance : PySem.W.findIn K (.ref C_) "advance" = some (some (.ref f_m_advance))) (i_m_advance : PySem.W.isFn K (.ref f_m_advance) = true)
    (l_m_advance : K.lookup f_m_advance = some ⟨oc_m_advance, od_m_advance, .func (PySem.W.fnOf "advance" "Wheel.advance" (defArgs s_Wheel_advance) (defBody s_Wheel_advance) (defScope s_Wheel_advance) .none kV_m_advance dc_m_advance pm_m_advance an_m_advance cd_m_advance ct_m_advance), sl_m_advance⟩)
    (c_m_advance : PySem.W.codeIn K cd_m_advance "Wheel.advance" = true) (k_m_advance : PySem.W.keepIn K (.ref f_m_advance) = true)
    (pg : PySem.W.plainGet K C_ Str.empty = true)
    (hd : PySem.W.hasDictIn K C_ = true)
    (po : PySem.W.plainOver K C_ = true)
    (sa : PySem.W.findIn K (.ref C_) "__setattr__" = some (some (.builtin "object.__setattr__")))
    (mkC : PySem.W.makesIn K C_ = true)
    (kc : PySem.W.keepIn K (.ref C_) = true)
    (n_base : PySem.W.findIn K (.ref C_) "base" = some none)
    (n_words : PySem.W.findIn K (.ref C_) "words" = some none)
    (n_tick : PySem.W.findIn K (.ref C_) "tick" = some none)
    (n_following : PySem.W.findIn K (.ref C_) "following" = some none)
    (n_live : PySem.W.findIn K (.ref C_) "live" = some none)
    (z_isinstance : PySem.W.nsIn K mainGlobals "isinstance" = some none)
    (z_int : PySem.W.nsIn K mainGlobals "int" = some none)
    (z_bool : PySem.W.nsIn K mainGlobals "bool" = some none)
    (z_str : PySem.W.nsIn K mainGlobals "str" = some none)
    (z_all : PySem.W.nsIn K mainGlobals "all" = some none)
    (z_list : PySem.W.nsIn K mainGlobals "list" = some none)
    (z_len : PySem.W.nsIn K mainGlobals "len" = some none)
    (z_min : PySem.W.nsIn K mainGlobals "min" = some none)
    (z_max : PySem.W.nsIn K mainGlobals "max" = some none)
    (z_sorted : PySem.W.nsIn K mainGlobals "sorted" = some none)
    (z_dict : PySem.W.nsIn K mainGlobals "dict" = some none)
    (z_enumerate : PySem.W.nsIn K mainGlobals "enumerate" = some none)
    (z_range : PySem.W.nsIn K mainGlobals "range" = some none)
    (a_WORDS : PySem.W.nsIn K mainGlobals "WORDS" = some (some (.ref f_WORDS)))
    (l_WORDS : K.lookup f_WORDS = some ⟨.type "tuple", od_WORDS, .seq #[.str "stack" tk0_WORDS, .str "queue" tk1_WORDS] tn_WORDS, ts_WORDS⟩)
    (a_MOST_LEVELS : PySem.W.nsIn K mainGlobals "MOST_LEVELS" = some (some (.int 60 tk_MOST_LEVELS)))
    (a_MOST_FIRINGS : PySem.W.nsIn K mainGlobals "MOST_FIRINGS" = some (some (.int 2000 tk_MOST_FIRINGS)))
    : LamX.LawAtS l w K CX0 8 63 "_law_script" mg fa h := by
  have e := hfa.symm.trans (PySem.W.mg_of X G a_law)
  cases e
  have T : Tx K mg := ⟨PySem.W.mg_none_of X G z_isinstance, PySem.W.mg_none_of X G z_int, PySem.W.mg_none_of X G z_bool, PySem.W.mg_none_of X G z_str, PySem.W.mg_none_of X G z_all, PySem.W.mg_none_of X G z_list, PySem.W.mg_none_of X G z_len, PySem.W.mg_none_of X G z_min, PySem.W.mg_none_of X G z_max, PySem.W.mg_none_of X G z_sorted, PySem.W.mg_none_of X G z_dict, PySem.W.mg_none_of X G z_enumerate, PySem.W.mg_none_of X G z_range⟩
  have h_WORDS : ∃ a, mg "WORDS" = some (.ref a) ∧ ∀ H, SqT K H a [.str "stack", .str "queue"] := ⟨f_WORDS, PySem.W.mg_of X G a_WORDS, fun H => .inr ⟨_, _, _, l_WORDS, rfl, rfl, by simp [sizeLine_eq], .cons ⟨_, rfl⟩ (.cons ⟨_, rfl⟩ (.nil))⟩⟩
  have h_MOST_LEVELS : mg "MOST_LEVELS" = some (.int 60 tk_MOST_LEVELS) := PySem.W.mg_of X G a_MOST_LEVELS
  have h_MOST_FIRINGS : mg "MOST_FIRINGS" = some (.int 2000 tk_MOST_FIRINGS) := PySem.W.mg_of X G a_MOST_FIRINGS
  have D_wall : Df K mg "_wall" s__wall ["k"] := by
    have F := fun_mk (st := s__wall) l_wall c_wall k_wall
    exact ⟨_, _, F, PySem.W.mg_of X G a_wall, F.binds (ps := ["k"]) fun _ _ _ _ _ _ us hl => match us, hl with | [_], _ => rfl⟩
  have D_is_integer : Df K mg "is_integer" s_is_integer ["given"] := by
    have F := fun_mk (st := s_is_integer) l_is_integer c_is_integer k_is_integer
    exact ⟨_, _, F, PySem.W.mg_of X G a_is_integer, F.binds (ps := ["given"]) fun _ _ _ _ _ _ us hl => match us, hl with | [_], _ => rfl⟩
  have D_is_word : Df K mg "is_word" s_is_word ["given"] := by
    have F := fun_mk (st := s_is_word) l_is_word c_is_word k_is_word
    exact ⟨_, _, F, PySem.W.mg_of X G a_is_word, F.binds (ps := ["given"]) fun _ _ _ _ _ _ us hl => match us, hl with | [_], _ => rfl⟩
  have D_is_base : Df K mg "is_base" s_is_base ["given"] := by
    have F := fun_mk (st := s_is_base) l_is_base c_is_base k_is_base
    exact ⟨_, _, F, PySem.W.mg_of X G a_is_base, F.binds (ps := ["given"]) fun _ _ _ _ _ _ us hl => match us, hl with | [_], _ => rfl⟩
  have D_is_length : Df K mg "is_length" s_is_length ["given"] := by
    have F := fun_mk (st := s_is_length) l_is_length c_is_length k_is_length
    exact ⟨_, _, F, PySem.W.mg_of X G a_is_length, F.binds (ps := ["given"]) fun _ _ _ _ _ _ us hl => match us, hl with | [_], _ => rfl⟩
  have D_are_levels : Df K mg "are_levels" s_are_levels ["given"] := by
    have F := fun_mk (st := s_are_levels) l_are_levels c_are_levels k_are_levels
    exact ⟨_, _, F, PySem.W.mg_of X G a_are_levels, F.binds (ps := ["given"]) fun _ _ _ _ _ _ us hl => match us, hl with | [_], _ => rfl⟩
  have D_is_tick : Dd K mg "is_tick" s_is_tick ["given", "least"] (.int 0) := by
    have F : FunD K "is_tick" "is_tick" (defArgs s_is_tick) (defBody s_is_tick) (defScope s_is_tick) [(.int 0)] [] _ _ := ⟨⟨_, _, _, _, _, _, _, _, _, _, rfl, l_is_tick, c_is_tick, .inr ⟨by simp, dT_is_tick, _, [_], _, rfl, t_is_tick, rfl, .cons ⟨_, rfl⟩ .nil⟩, .inl rfl⟩, k_is_tick⟩
    exact ⟨_, _, F, PySem.W.mg_of X G a_is_tick,
      FunD.binds1 (ps := ["given", "least"]) F 1 0 (by simp) rfl fun _ _ _ _ _ _ _ us its hu hi => match us, its, hu, hi with | [_], [_], _, _ => ⟨_, rfl, rfl⟩,
      by obtain ⟨ds, r, b⟩ := FunD.binds1 (ps := ["given", "least"]) F 2 1 (by simp) rfl fun _ _ _ _ _ _ _ us its hu hi => match us, its, hu, hi with | [_, _], [_], _, _ => ⟨_, rfl, rfl⟩
         cases r
         exact b⟩
  have D_is_period : Df K mg "is_period" s_is_period ["given"] := by
    have F := fun_mk (st := s_is_period) l_is_period c_is_period k_is_period
    exact ⟨_, _, F, PySem.W.mg_of X G a_is_period, F.binds (ps := ["given"]) fun _ _ _ _ _ _ us hl => match us, hl with | [_], _ => rfl⟩
  have D_check_base : Df K mg "check_base" s_check_base ["base"] := by
    have F := fun_mk (st := s_check_base) l_check_base c_check_base k_check_base
    exact ⟨_, _, F, PySem.W.mg_of X G a_check_base, F.binds (ps := ["base"]) fun _ _ _ _ _ _ us hl => match us, hl with | [_], _ => rfl⟩
  have D_check_levels : Df K mg "check_levels" s_check_levels ["levels"] := by
    have F := fun_mk (st := s_check_levels) l_check_levels c_check_levels k_check_levels
    exact ⟨_, _, F, PySem.W.mg_of X G a_check_levels, F.binds (ps := ["levels"]) fun _ _ _ _ _ _ us hl => match us, hl with | [_], _ => rfl⟩
  have D_check_tick : Dd K mg "check_tick" s_check_tick ["tick", "least"] (.int 0) := by
    have F : FunD K "check_tick" "check_tick" (defArgs s_check_tick) (defBody s_check_tick) (defScope s_check_tick) [(.int 0)] [] _ _ := ⟨⟨_, _, _, _, _, _, _, _, _, _, rfl, l_check_tick, c_check_tick, .inr ⟨by simp, dT_check_tick, _, [_], _, rfl, t_check_tick, rfl, .cons ⟨_, rfl⟩ .nil⟩, .inl rfl⟩, k_check_tick⟩
    exact ⟨_, _, F, PySem.W.mg_of X G a_check_tick,
      FunD.binds1 (ps := ["tick", "least"]) F 1 0 (by simp) rfl fun _ _ _ _ _ _ _ us its hu hi => match us, its, hu, hi with | [_], [_], _, _ => ⟨_, rfl, rfl⟩,
      by obtain ⟨ds, r, b⟩ := FunD.binds1 (ps := ["tick", "least"]) F 2 1 (by simp) rfl fun _ _ _ _ _ _ _ us its hu hi => match us, its, hu, hi with | [_, _], [_], _, _ => ⟨_, rfl, rfl⟩
         cases r
         exact b⟩
  have D_word_at : Df K mg "word_at" s_word_at ["levels", "level"] := by
    have F := fun_mk (st := s_word_at) l_word_at c_word_at k_word_at
    exact ⟨_, _, F, PySem.W.mg_of X G a_word_at, F.binds (ps := ["levels", "level"]) fun _ _ _ _ _ _ us hl => match us, hl with | [_, _], _ => rfl⟩
  have D_level_and_size : Df K mg "level_and_size" s_level_and_size ["base", "now", "due"] := by
    have F := fun_mk (st := s_level_and_size) l_level_and_size c_level_and_size k_level_and_size
    exact ⟨_, _, F, PySem.W.mg_of X G a_level_and_size, F.binds (ps := ["base", "now", "due"]) fun _ _ _ _ _ _ us hl => match us, hl with | [_, _, _], _ => rfl⟩
  have D_path : Df K mg "path" s_path ["base", "now", "due"] := by
    have F := fun_mk (st := s_path) l_path c_path k_path
    exact ⟨_, _, F, PySem.W.mg_of X G a_path, F.binds (ps := ["base", "now", "due"]) fun _ _ _ _ _ _ us hl => match us, hl with | [_, _, _], _ => rfl⟩
  have D_goes_in_front : Df K mg "goes_in_front" s_goes_in_front ["base", "levels", "now", "due", "lowest"] := by
    have F := fun_mk (st := s_goes_in_front) l_goes_in_front c_goes_in_front k_goes_in_front
    exact ⟨_, _, F, PySem.W.mg_of X G a_goes_in_front, F.binds (ps := ["base", "levels", "now", "due", "lowest"]) fun _ _ _ _ _ _ us hl => match us, hl with | [_, _, _, _, _], _ => rfl⟩
  have D_with_timer : Df K mg "with_timer" s_with_timer ["numbers", "number", "front"] := by
    have F := fun_mk (st := s_with_timer) l_with_timer c_with_timer k_with_timer
    exact ⟨_, _, F, PySem.W.mg_of X G a_with_timer, F.binds (ps := ["numbers", "number", "front"]) fun _ _ _ _ _ _ us hl => match us, hl with | [_, _, _], _ => rfl⟩
  have D_firing_order : Df K mg "firing_order" s_firing_order ["base", "levels", "due", "settings"] := by
    have F := fun_mk (st := s_firing_order) l_firing_order c_firing_order k_firing_order
    exact ⟨_, _, F, PySem.W.mg_of X G a_firing_order, F.binds (ps := ["base", "levels", "due", "settings"]) fun _ _ _ _ _ _ us hl => match us, hl with | [_, _, _, _], _ => rfl⟩
  have D_size_of_lowest_stack : Df K mg "size_of_lowest_stack" s_size_of_lowest_stack ["base", "levels"] := by
    have F := fun_mk (st := s_size_of_lowest_stack) l_size_of_lowest_stack c_size_of_lowest_stack k_size_of_lowest_stack
    exact ⟨_, _, F, PySem.W.mg_of X G a_size_of_lowest_stack, F.binds (ps := ["base", "levels"]) fun _ _ _ _ _ _ us hl => match us, hl with | [_, _], _ => rfl⟩
  have D_powers : Df K mg "powers" s_powers ["base", "many"] := by
    have F := fun_mk (st := s_powers) l_powers c_powers k_powers
    exact ⟨_, _, F, PySem.W.mg_of X G a_powers, F.binds (ps := ["base", "many"]) fun _ _ _ _ _ _ us hl => match us, hl with | [_, _], _ => rfl⟩
  have D_telling_dues : Df K mg "telling_dues" s_telling_dues ["base", "levels", "other_base", "other_levels"] := by
    have F := fun_mk (st := s_telling_dues) l_telling_dues c_telling_dues k_telling_dues
    exact ⟨_, _, F, PySem.W.mg_of X G a_telling_dues, F.binds (ps := ["base", "levels", "other_base", "other_levels"]) fun _ _ _ _ _ _ us hl => match us, hl with | [_, _, _, _], _ => rfl⟩
  have D_first_difference : Df K mg "first_difference" s_first_difference ["base", "levels", "other_base", "other_levels", "due"] := by
    have F := fun_mk (st := s_first_difference) l_first_difference c_first_difference k_first_difference
    exact ⟨_, _, F, PySem.W.mg_of X G a_first_difference, F.binds (ps := ["base", "levels", "other_base", "other_levels", "due"]) fun _ _ _ _ _ _ us hl => match us, hl with | [_, _, _, _, _], _ => rfl⟩
  have D_told_apart : Df K mg "told_apart" s_told_apart ["base", "levels", "other_base", "other_levels"] := by
    have F := fun_mk (st := s_told_apart) l_told_apart c_told_apart k_told_apart
    exact ⟨_, _, F, PySem.W.mg_of X G a_told_apart, F.binds (ps := ["base", "levels", "other_base", "other_levels"]) fun _ _ _ _ _ _ us hl => match us, hl with | [_, _, _, _], _ => rfl⟩
  have D_without_repeats : Df K mg "without_repeats" s_without_repeats ["levels"] := by
    have F := fun_mk (st := s_without_repeats) l_without_repeats c_without_repeats k_without_repeats
    exact ⟨_, _, F, PySem.W.mg_of X G a_without_repeats, F.binds (ps := ["levels"]) fun _ _ _ _ _ _ us hl => match us, hl with | [_], _ => rfl⟩
  have D_check_period : Df K mg "check_period" s_check_period ["period"] := by
    have F := fun_mk (st := s_check_period) l_check_period c_check_period k_check_period
    exact ⟨_, _, F, PySem.W.mg_of X G a_check_period, F.binds (ps := ["period"]) fun _ _ _ _ _ _ us hl => match us, hl with | [_], _ => rfl⟩
  have D_order_of_firing : Df K mg "order_of_firing" s_order_of_firing ["base", "levels", "live", "tick"] := by
    have F := fun_mk (st := s_order_of_firing) l_order_of_firing c_order_of_firing k_order_of_firing
    exact ⟨_, _, F, PySem.W.mg_of X G a_order_of_firing, F.binds (ps := ["base", "levels", "live", "tick"]) fun _ _ _ _ _ _ us hl => match us, hl with | [_, _, _, _], _ => rfl⟩
  have D_standing : Df K mg "standing" s_standing ["base", "levels", "live", "tick"] := by
    have F := fun_mk (st := s_standing) l_standing c_standing k_standing
    exact ⟨_, _, F, PySem.W.mg_of X G a_standing, F.binds (ps := ["base", "levels", "live", "tick"]) fun _ _ _ _ _ _ us hl => match us, hl with | [_, _, _, _], _ => rfl⟩
  have D_least_due : Df K mg "least_due" s_least_due ["live"] := by
    have F := fun_mk (st := s_least_due) l_least_due c_least_due k_least_due
    exact ⟨_, _, F, PySem.W.mg_of X G a_least_due, F.binds (ps := ["live"]) fun _ _ _ _ _ _ us hl => match us, hl with | [_], _ => rfl⟩
  have D_after_firing : Df K mg "after_firing" s_after_firing ["live", "numbers", "tick"] := by
    have F := fun_mk (st := s_after_firing) l_after_firing c_after_firing k_after_firing
    exact ⟨_, _, F, PySem.W.mg_of X G a_after_firing, F.binds (ps := ["live", "numbers", "tick"]) fun _ _ _ _ _ _ us hl => match us, hl with | [_, _, _], _ => rfl⟩
  have D_law_cell_at : Df K mg "_law_cell_at" s__law_cell_at ["_law_script", "_law_k"] := by
    have F := fun_mk (st := s__law_cell_at) l_law_cell_at c_law_cell_at k_law_cell_at
    exact ⟨_, _, F, PySem.W.mg_of X G a_law_cell_at, F.binds (ps := ["_law_script", "_law_k"]) fun _ _ _ _ _ _ us hl => match us, hl with | [_, _], _ => rfl⟩
  have D_law_mixed : Df K mg "_law_mixed" s__law_mixed ["_law_cell", "_law_k"] := by
    have F := fun_mk (st := s__law_mixed) l_law_mixed c_law_mixed k_law_mixed
    exact ⟨_, _, F, PySem.W.mg_of X G a_law_mixed, F.binds (ps := ["_law_cell", "_law_k"]) fun _ _ _ _ _ _ us hl => match us, hl with | [_, _], _ => rfl⟩
  have D_law_source : Df K mg "_law_source" s__law_source ["_law_script", "_law_k"] := by
    have F := fun_mk (st := s__law_source) l_law_source c_law_source k_law_source
    exact ⟨_, _, F, PySem.W.mg_of X G a_law_source, F.binds (ps := ["_law_script", "_law_k"]) fun _ _ _ _ _ _ us hl => match us, hl with | [_, _], _ => rfl⟩
  have D_law_next : Df K mg "_law_next" s__law_next ["_law_source_here", "_law_many"] := by
    have F := fun_mk (st := s__law_next) l_law_next c_law_next k_law_next
    exact ⟨_, _, F, PySem.W.mg_of X G a_law_next, F.binds (ps := ["_law_source_here", "_law_many"]) fun _ _ _ _ _ _ us hl => match us, hl with | [_, _], _ => rfl⟩
  have D_law_word_at : Df K mg "_law_word_at" s__law_word_at ["_law_levels", "_law_level"] := by
    have F := fun_mk (st := s__law_word_at) l_law_word_at c_law_word_at k_law_word_at
    exact ⟨_, _, F, PySem.W.mg_of X G a_law_word_at, F.binds (ps := ["_law_levels", "_law_level"]) fun _ _ _ _ _ _ us hl => match us, hl with | [_, _], _ => rfl⟩
  have D_law_first : Df K mg "_law_first" s__law_first ["_law_base", "_law_levels"] := by
    have F := fun_mk (st := s__law_first) l_law_first c_law_first k_law_first
    exact ⟨_, _, F, PySem.W.mg_of X G a_law_first, F.binds (ps := ["_law_base", "_law_levels"]) fun _ _ _ _ _ _ us hl => match us, hl with | [_, _], _ => rfl⟩
  have D_law_of_one_base : Df K mg "_law_of_one_base" s__law_of_one_base ["_law_base", "_law_one", "_law_two"] := by
    have F := fun_mk (st := s__law_of_one_base) l_law_of_one_base c_law_of_one_base k_law_of_one_base
    exact ⟨_, _, F, PySem.W.mg_of X G a_law_of_one_base, F.binds (ps := ["_law_base", "_law_one", "_law_two"]) fun _ _ _ _ _ _ us hl => match us, hl with | [_, _, _], _ => rfl⟩
  have FC_law_due := funC_mk (st := s__law_due) l_law_due c_law_due k_law_due
  have mgC_law_due := PySem.W.mg_of X G a_law_due
  have bC_law_due := FC_law_due.fn.binds (ps := ["_law_one", "_law_two"]) fun _ _ _ _ _ _ us hl => match us, hl with | [_, _], _ => rfl
  have D_law_levels_of : Df K mg "_law_levels_of" s__law_levels_of ["_law_source_here", "_law_wait"] := by
    have F := fun_mk (st := s__law_levels_of) l_law_levels_of c_law_levels_of k_law_levels_of
    exact ⟨_, _, F, PySem.W.mg_of X G a_law_levels_of, F.binds (ps := ["_law_source_here", "_law_wait"]) fun _ _ _ _ _ _ us hl => match us, hl with | [_, _], _ => rfl⟩
  have D_law_wheels : Df K mg "_law_wheels" s__law_wheels ["_law_source_here"] := by
    have F := fun_mk (st := s__law_wheels) l_law_wheels c_law_wheels k_law_wheels
    exact ⟨_, _, F, PySem.W.mg_of X G a_law_wheels, F.binds (ps := ["_law_source_here"]) fun _ _ _ _ _ _ us hl => match us, hl with | [_], _ => rfl⟩
  have D_law_shown : Df K mg "_law_shown" s__law_shown ["_law_wheels_here", "_law_due_here", "_law_now"] := by
    have F := fun_mk (st := s__law_shown) l_law_shown c_law_shown k_law_shown
    exact ⟨_, _, F, PySem.W.mg_of X G a_law_shown, F.binds (ps := ["_law_wheels_here", "_law_due_here", "_law_now"]) fun _ _ _ _ _ _ us hl => match us, hl with | [_, _, _], _ => rfl⟩
  have D_law : Df K mg "law" s_law ["_law_script"] := by
    have F := fun_mk (st := s_law) l_law c_law k_law
    exact ⟨_, _, F, PySem.W.mg_of X G a_law, F.binds (ps := ["_law_script"]) fun _ _ _ _ _ _ us hl => match us, hl with | [_], _ => rfl⟩
  have TW : TxW K mg C_ := ⟨⟨pg, hd, po, sa⟩, n_base, n_words, n_tick, n_following, n_live, PySem.W.mg_of X G a_Wheel⟩
  have F_m_init : FunD K "__init__" "Wheel.__init__" (defArgs s_Wheel___init__) (defBody s_Wheel___init__) (defScope s_Wheel___init__) [] [("start", .int 0)] _ _ := ⟨⟨_, _, _, _, _, _, _, _, _, _, rfl, l_m_init, c_m_init, .inl ⟨rfl, rfl⟩, .inr ⟨_, rfl, fun q hq => by rw [List.mem_singleton.mp hq]; exact ⟨_, d_m_init, ⟨_, rfl⟩⟩⟩⟩, k_m_init⟩
  obtain ⟨ds_m_init, V_m_init, B_m_init⟩ := FunD.binds0 (ps := ["self", "base", "levels", "start"]) F_m_init 3 (by simp) rfl fun _ _ _ _ _ _ us ks hl hk => match us, ks, hl, hk with | [_, _, _], [_], _, _ => ⟨_, _, _, _, _, _, rfl, rfl, rfl⟩
  have F_m_put : FunD K "put" "Wheel.put" (defArgs s_Wheel_put) (defBody s_Wheel_put) (defScope s_Wheel_put) [] [("period", .non)] _ _ := ⟨⟨_, _, _, _, _, _, _, _, _, _, rfl, l_m_put, c_m_put, .inl ⟨rfl, rfl⟩, .inr ⟨_, rfl, fun q hq => by rw [List.mem_singleton.mp hq]; exact ⟨_, d_m_put, rfl⟩⟩⟩, k_m_put⟩
  obtain ⟨ds_m_put, V_m_put, B_m_put⟩ := FunD.binds0 (ps := ["self", "due", "period"]) F_m_put 2 (by simp) rfl fun _ _ _ _ _ _ us ks hl hk => match us, ks, hl, hk with | [_, _], [_], _, _ => ⟨_, _, _, _, _, _, rfl, rfl, rfl⟩
  have F_m_advance := fun_mk (st := s_Wheel_advance) l_m_advance c_m_advance k_m_advance
  have B_m_advance := F_m_advance.binds (ps := ["self", "tick"]) fun _ _ _ _ _ _ us hl => match us, hl with | [_, _], _ => rfl
  refine ⟨PySem.W.fnOf "law" "law" (defArgs s_law) (defBody s_law) (defScope s_law) .none kV_law dc_law pm_law an_law cd_law ct_law, [(cc_law_due, P_law_due)], spLaw K [(P_law_due, lamQ "_law_due")], (List.forall_mem_cons.mpr ⟨hT8 _ tm_law_due, (fun _ hh => nomatch hh)⟩), (List.forall_mem_cons.mpr ⟨nt_law_due, (fun _ hh => nomatch hh)⟩), (List.forall_mem_cons.mpr ⟨PySem.W.codeHd_of_K X ch_law_due, (fun _ hh => nomatch hh)⟩), fun s v => .of_eq rfl, fun H a ns h1 _ h3 h4 => ⟨a, ns, rfl, h4, h1, (List.forall_mem_cons.mpr ⟨LamX.TabS.nil (h3 (cc_law_due, P_law_due) (by simp)), (fun _ hh => nomatch hh)⟩), fun _ => rfl⟩, fun base hKb hNb hTB => ?_⟩
  have TB_law_due := hTB (cc_law_due, P_law_due) (by simp)
  have h_is_integer : Has l.prog w K mg base 1 "is_integer" ["given"] [] spIsInt := D_is_integer.has fun _ _ F => ok_is_integer F T
  have h2_is_tick : Has l.prog w K mg base 2 "is_tick" ["given", "least"] [.int 0] spIsTick ∧ Has l.prog w K mg base 2 "is_tick" ["given", "least"] [] spIsTick := D_is_tick.has fun _ _ F => ok_is_tick F T h_is_integer
  have h_is_base : Has l.prog w K mg base 2 "is_base" ["given"] [] spIsBase := D_is_base.has fun _ _ F => ok_is_base F h_is_integer
  have h_check_base : Has l.prog w K mg base 3 "check_base" ["base"] [] spCheckBase := D_check_base.has fun _ _ F => ok_check_base F h_is_base
  have h2_check_tick : Has l.prog w K mg base 3 "check_tick" ["tick", "least"] [.int 0] spCheckTick ∧ Has l.prog w K mg base 3 "check_tick" ["tick", "least"] [] spCheckTick := D_check_tick.has fun _ _ F => ok_check_tick F h2_is_tick.2
  have h_level_and_size : Has l.prog w K mg base 1 "level_and_size" ["base", "now", "due"] [] spLevel := D_level_and_size.has fun _ _ F => ok_level_and_size F 
  have h_path : Has l.prog w K mg base 2 "path" ["base", "now", "due"] [] spPath := D_path.has fun _ _ F => ok_path F h_level_and_size
  have h_word_at : Has l.prog w K mg base 1 "word_at" ["levels", "level"] [] (spWordAt K) := D_word_at.has fun _ _ F => ok_word_at F T
  have h_is_word : Has l.prog w K mg base 1 "is_word" ["given"] [] spIsWord := D_is_word.has fun _ _ F => ok_is_word F T h_WORDS
  have h_is_length : Has l.prog w K mg base 2 "is_length" ["given"] [] spIsLength := D_is_length.has fun _ _ F => ok_is_length F ⟨_, h_MOST_LEVELS⟩ h_is_integer
  have h_are_levels : Has l.prog w K mg base 3 "are_levels" ["given"] [] (spAreLevels K) := D_are_levels.has fun _ _ F => ok_are_levels F T h_is_length h_is_word
  have h_check_levels : Has l.prog w K mg base 4 "check_levels" ["levels"] [] (spCheckLevels K) := D_check_levels.has fun _ _ F => ok_check_levels F h_are_levels
  have h_goes_in_front : Has l.prog w K mg base 3 "goes_in_front" ["base", "levels", "now", "due", "lowest"] [] (spFront K) := D_goes_in_front.has fun _ _ F => ok_goes_in_front F h_path h_word_at
  have h_size_of_lowest_stack : Has l.prog w K mg base 1 "size_of_lowest_stack" ["base", "levels"] [] (spLow K) := D_size_of_lowest_stack.has fun _ _ F => ok_size_of_lowest_stack F 
  have h_powers : Has l.prog w K mg base 1 "powers" ["base", "many"] [] spPowers := D_powers.has fun _ _ F => ok_powers F T
  have h_telling_dues : Has l.prog w K mg base 2 "telling_dues" ["base", "levels", "other_base", "other_levels"] [] (spTelling K) := D_telling_dues.has fun _ _ F => ok_telling_dues F T h_powers h_size_of_lowest_stack
  have h_first_difference : Has l.prog w K mg base 4 "first_difference" ["base", "levels", "other_base", "other_levels", "due"] [] (spFstD K) := D_first_difference.has fun _ _ F => ok_first_difference F T h_path h_goes_in_front
  have h_told_apart : Has l.prog w K mg base 5 "told_apart" ["base", "levels", "other_base", "other_levels"] [] (spTold K) := D_told_apart.has fun _ _ F => ok_told_apart F h_check_base h_check_levels h_telling_dues h_first_difference
  have h_without_repeats : Has l.prog w K mg base 1 "without_repeats" ["levels"] [] (spRepeats K) := D_without_repeats.has fun _ _ F => ok_repeats F T
  have h_is_period : Has l.prog w K mg base 2 "is_period" ["given"] [] spIsPeriod := D_is_period.has fun _ _ F => ok_is_period F h_is_integer
  have h_check_period : Has l.prog w K mg base 3 "check_period" ["period"] [] spCheckPeriod := D_check_period.has fun _ _ F => ok_check_period F h_is_period
  have h_with_timer : Has l.prog w K mg base 1 "with_timer" ["numbers", "number", "front"] [] spWithTimer := D_with_timer.has fun _ _ F => ok_with_timer F 
  have h_firing_order : Has l.prog w K mg base 4 "firing_order" ["base", "levels", "due", "settings"] [] (spFiringOrder K) := D_firing_order.has fun _ _ F => ok_firing_order F h_with_timer h_goes_in_front
  have h_order_of_firing : Has l.prog w K mg base 5 "order_of_firing" ["base", "levels", "live", "tick"] [] (spOrder K) := D_order_of_firing.has fun _ _ F => ok_order F h_firing_order
  have h_least_due : Has l.prog w K mg base 1 "least_due" ["live"] [] spLeast := D_least_due.has fun _ _ F => ok_least_due F T
  have h_after_firing : Has l.prog w K mg base 1 "after_firing" ["live", "numbers", "tick"] [] spAfter := D_after_firing.has fun _ _ F => ok_after F T
  have M_init : ∃ (fi : Addr) (fdi : FuncData), Mk K C_ fi ∧ FnOk l.prog w K mg base CX0 5 fi fdi ["self", "base", "levels", "start"] (spInit C_ K) ∧ KBn K fdi ["self", "base", "levels", "start"] 3 [Str.ofString "start"] (fun us ws => us ++ ws) (fun vs zs => vs ++ zs) := by
    obtain ⟨mv, hb⟩ := FunD.kbinds0 (ps := ["self", "base", "levels", "start"]) F_m_init 3 [Str.ofString "start"] [] (fun us _ ws => us ++ ws) (by simp) (fun q hq => by cases hq) (fun h1 _ h3 => h1.append h3) fun _ _ _ _ _ _ us mv ws h1 h2 h3 => match us, mv, ws, h1, h2, h3 with | [_, _, _], [], [_], _, _, _ => rfl
    exact ⟨_, _, ⟨mkC, a_m_init, i_m_init, kc⟩, ok_init F_m_init TW h_check_base h2_check_tick.1 h_check_levels h_without_repeats, hb⟩
  have M_put : HasM l.prog w K mg base 4 C_ "put" ["self", "due", "period"] [.non] (spPut C_) := ⟨_, _, ds_m_put, ok_put F_m_put TW h2_check_tick.2 h_check_period, ⟨a_m_put, i_m_put, k_m_put⟩, B_m_put, V_m_put⟩
  have M_advance : HasM l.prog w K mg base 6 C_ "advance" ["self", "tick"] [] (spAdvance C_) := ⟨_, _, [], ok_advance F_m_advance T TW ⟨_, h_MOST_FIRINGS⟩ h2_check_tick.2 h_least_due h_order_of_firing h_after_firing, ⟨a_m_advance, i_m_advance, k_m_advance⟩, B_m_advance, .nil⟩
  have h_law_cell_at : Has l.prog w K mg base 1 "_law_cell_at" ["_law_script", "_law_k"] [] (spCellAt K) := D_law_cell_at.has fun _ _ F => ok_cell_at F T
  have h_law_mixed : Has l.prog w K mg base 1 "_law_mixed" ["_law_cell", "_law_k"] [] spMixed := D_law_mixed.has fun _ _ F => ok_mixed F 
  have h_law_source : Has l.prog w K mg base 2 "_law_source" ["_law_script", "_law_k"] [] (spSource K) := D_law_source.has fun _ _ F => ok_source F T h_law_cell_at h_law_mixed
  have h_law_next : Has l.prog w K mg base 2 "_law_next" ["_law_source_here", "_law_many"] [] spNext := D_law_next.has fun _ _ F => ok_next F  h_law_mixed
  have h_law_word_at : Has l.prog w K mg base 1 "_law_word_at" ["_law_levels", "_law_level"] [] (spWordAtL K) := D_law_word_at.has fun _ _ F => ok_word_atL F T
  have h_law_first : Has l.prog w K mg base 1 "_law_first" ["_law_base", "_law_levels"] [] (spFirst K) := D_law_first.has fun _ _ F => ok_first F T
  have h_law_of_one_base : Has l.prog w K mg base 2 "_law_of_one_base" ["_law_base", "_law_one", "_law_two"] [] (spOneBase K) := D_law_of_one_base.has fun _ _ F => ok_one_base F T h_law_word_at
  have G_due := ok_due29 (P := l.prog) (w := w) (base := base) (lamT := [(P_law_due, lamQ "_law_due")]) FC_law_due T TB_law_due (by simp) (fun p hp _ => congrArg Prod.snd (List.mem_singleton.mp hp)) h_law_word_at h_law_first h_law_of_one_base
  have h_law_due : Has l.prog w K mg base 3 "_law_due" ["_law_one", "_law_two"] [] (spDue29 K [(P_law_due, lamQ "_law_due")]) := ⟨_, _, [], G_due, mgC_law_due, FC_law_due.kp, bC_law_due, .nil⟩
  have h_law_levels_of : Has l.prog w K mg base 3 "_law_levels_of" ["_law_source_here", "_law_wait"] [] spLevelsOf := D_law_levels_of.has fun _ _ F => ok_levels_of F T h_law_next
  have h_law_wheels : Has l.prog w K mg base 4 "_law_wheels" ["_law_source_here"] [] spWheels29 := D_law_wheels.has fun _ _ F => ok_wheels29 F T h_law_next h_law_levels_of
  have h_law_shown : Has l.prog w K mg base 7 "_law_shown" ["_law_wheels_here", "_law_due_here", "_law_now"] [] (spShown29 K) := D_law_shown.has fun _ _ F => ok_shown29 F T TW M_init M_put M_advance
  exact ok_law (fun_mk (st := s_law) l_law c_law k_law) T h_law_source h_law_wheels h_told_apart h_law_due h_law_shown
end Td
open PySem PySem.W PyProof.Rows in
set_option maxRecDepth 100000 in
set_option maxHeartbeats 0 in
theorem PySem.Challenge.cw_timerdeque_k29_whole_wheels_shown_apart_holds : PySem.Challenge.rw_timerdeque_k29_whole_wheels_shown_apart.Holds := by
  w_on; o_law; k_head; (case hw => w_witness2)
  k_fill
  refine LamX.walk_ofTs (l := PySem.Challenge.rw_timerdeque_k29_whole_wheels_shown_apart) (n := 63) (k := 8) (x := "_law_script") (CX := fun _ => L2.CX0) rfl (by decide) rfl ⟨rfl, by decide, by decide⟩ (fun w h Y => PySem.W.km_in_of Y) ?F (fun _ _ _ _ _ h => h)
  case F =>
    intro w mg fa h Y KX G hmg
    refine' Td.all_mk KX G hmg ?hT8 ?a_wall ?l_wall ?c_wall ?k_wall ?a_is_integer ?l_is_integer ?c_is_integer ?k_is_integer ?a_is_word ?l_is_word ?c_is_word ?k_is_word ?a_is_base ?l_is_base ?c_is_base ?k_is_base ?a_is_length ?l_is_length ?c_is_length ?k_is_length ?a_are_levels ?l_are_levels ?c_are_levels ?k_are_levels ?a_is_tick ?l_is_tick ?t_is_tick ?c_is_tick ?k_is_tick ?a_is_period ?l_is_period ?c_is_period ?k_is_period ?a_check_base ?l_check_base ?c_check_base ?k_check_base ?a_check_levels ?l_check_levels ?c_check_levels ?k_check_levels ?a_check_tick ?l_check_tick ?t_check_tick ?c_check_tick ?k_check_tick ?a_word_at ?l_word_at ?c_word_at ?k_word_at ?a_level_and_size ?l_level_and_size ?c_level_and_size ?k_level_and_size ?a_path ?l_path ?c_path ?k_path ?a_goes_in_front ?l_goes_in_front ?c_goes_in_front ?k_goes_in_front ?a_with_timer ?l_with_timer ?c_with_timer ?k_with_timer ?a_firing_order ?l_firing_order ?c_firing_order ?k_firing_order ?a_size_of_lowest_stack ?l_size_of_lowest_stack ?c_size_of_lowest_stack ?k_size_of_lowest_stack ?a_powers ?l_powers ?c_powers ?k_powers ?a_telling_dues ?l_telling_dues ?c_telling_dues ?k_telling_dues ?a_first_difference ?l_first_difference ?c_first_difference ?k_first_difference ?a_told_apart ?l_told_apart ?c_told_apart ?k_told_apart ?a_without_repeats ?l_without_repeats ?c_without_repeats ?k_without_repeats ?a_check_period ?l_check_period ?c_check_period ?k_check_period ?a_order_of_firing ?l_order_of_firing ?c_order_of_firing ?k_order_of_firing ?a_standing ?l_standing ?c_standing ?k_standing ?a_least_due ?l_least_due ?c_least_due ?k_least_due ?a_after_firing ?l_after_firing ?c_after_firing ?k_after_firing ?a_law_cell_at ?l_law_cell_at ?c_law_cell_at ?k_law_cell_at ?a_law_mixed ?l_law_mixed ?c_law_mixed ?k_law_mixed ?a_law_source ?l_law_source ?c_law_source ?k_law_source ?a_law_next ?l_law_next ?c_law_next ?k_law_next ?a_law_word_at ?l_law_word_at ?c_law_word_at ?k_law_word_at ?a_law_first ?l_law_first ?c_law_first ?k_law_first ?a_law_of_one_base ?l_law_of_one_base ?c_law_of_one_base ?k_law_of_one_base ?a_law_due ?l_law_due ?c_law_due ?k_law_due ?lc_law_due ?lp_law_due ?ch_law_due ?nt_law_due ?tm_law_due ?a_law_levels_of ?l_law_levels_of ?c_law_levels_of ?k_law_levels_of ?a_law_wheels ?l_law_wheels ?c_law_wheels ?k_law_wheels ?a_law_shown ?l_law_shown ?c_law_shown ?k_law_shown ?a_law ?l_law ?c_law ?k_law ?a_Wheel ?a_m_init ?i_m_init ?l_m_init ?c_m_init ?k_m_init ?d_m_init ?a_m_put ?i_m_put ?l_m_put ?c_m_put ?k_m_put ?d_m_put ?a_m_advance ?i_m_advance ?l_m_advance ?c_m_advance ?k_m_advance ?pg ?hd ?po ?sa ?mkC ?kc ?n_base ?n_words ?n_tick ?n_following ?n_live ?z_isinstance ?z_int ?z_bool ?z_str ?z_all ?z_list ?z_len ?z_min ?z_max ?z_sorted ?z_dict ?z_enumerate ?z_range ?a_WORDS ?l_WORDS ?a_MOST_LEVELS ?a_MOST_FIRINGS
    (case hT8 => exact PySem.W.km_tabs_of Y)
    (case a_wall => k_is)
    (case l_wall => k_is)
    (case c_wall => k_is)
    (case k_wall => k_is)
    (case a_is_integer => k_is)
    (case l_is_integer => k_is)
    (case c_is_integer => k_is)
    (case k_is_integer => k_is)
    (case a_is_word => k_is)
    (case l_is_word => k_is)
    (case c_is_word => k_is)
    (case k_is_word => k_is)
    (case a_is_base => k_is)
    (case l_is_base => k_is)
    (case c_is_base => k_is)
    (case k_is_base => k_is)
    (case a_is_length => k_is)
    (case l_is_length => k_is)
    (case c_is_length => k_is)
    (case k_is_length => k_is)
    (case a_are_levels => k_is)
    (case l_are_levels => k_is)
    (case c_are_levels => k_is)
    (case k_are_levels => k_is)
    (case a_is_tick => k_is)
    (case l_is_tick => k_is)
    (case t_is_tick => k_is)
    (case c_is_tick => k_is)
    (case k_is_tick => k_is)
    (case a_is_period => k_is)
    (case l_is_period => k_is)
    (case c_is_period => k_is)
    (case k_is_period => k_is)
    (case a_check_base => k_is)
    (case l_check_base => k_is)
    (case c_check_base => k_is)
    (case k_check_base => k_is)
    (case a_check_levels => k_is)
    (case l_check_levels => k_is)
    (case c_check_levels => k_is)
    (case k_check_levels => k_is)
    (case a_check_tick => k_is)
    (case l_check_tick => k_is)
    (case t_check_tick => k_is)
    (case c_check_tick => k_is)
    (case k_check_tick => k_is)
    (case a_word_at => k_is)
    (case l_word_at => k_is)
    (case c_word_at => k_is)
    (case k_word_at => k_is)
    (case a_level_and_size => k_is)
    (case l_level_and_size => k_is)
    (case c_level_and_size => k_is)
    (case k_level_and_size => k_is)
    (case a_path => k_is)
    (case l_path => k_is)
    (case c_path => k_is)
    (case k_path => k_is)
    (case a_goes_in_front => k_is)
    (case l_goes_in_front => k_is)
    (case c_goes_in_front => k_is)
    (case k_goes_in_front => k_is)
    (case a_with_timer => k_is)
    (case l_with_timer => k_is)
    (case c_with_timer => k_is)
    (case k_with_timer => k_is)
    (case a_firing_order => k_is)
    (case l_firing_order => k_is)
    (case c_firing_order => k_is)
    (case k_firing_order => k_is)
    (case a_size_of_lowest_stack => k_is)
    (case l_size_of_lowest_stack => k_is)
    (case c_size_of_lowest_stack => k_is)
    (case k_size_of_lowest_stack => k_is)
    (case a_powers => k_is)
    (case l_powers => k_is)
    (case c_powers => k_is)
    (case k_powers => k_is)
    (case a_telling_dues => k_is)
    (case l_telling_dues => k_is)
    (case c_telling_dues => k_is)
    (case k_telling_dues => k_is)
    (case a_first_difference => k_is)
    (case l_first_difference => k_is)
    (case c_first_difference => k_is)
    (case k_first_difference => k_is)
    (case a_told_apart => k_is)
    (case l_told_apart => k_is)
    (case c_told_apart => k_is)
    (case k_told_apart => k_is)
    (case a_without_repeats => k_is)
    (case l_without_repeats => k_is)
    (case c_without_repeats => k_is)
    (case k_without_repeats => k_is)
    (case a_check_period => k_is)
    (case l_check_period => k_is)
    (case c_check_period => k_is)
    (case k_check_period => k_is)
    (case a_order_of_firing => k_is)
    (case l_order_of_firing => k_is)
    (case c_order_of_firing => k_is)
    (case k_order_of_firing => k_is)
    (case a_standing => k_is)
    (case l_standing => k_is)
    (case c_standing => k_is)
    (case k_standing => k_is)
    (case a_least_due => k_is)
    (case l_least_due => k_is)
    (case c_least_due => k_is)
    (case k_least_due => k_is)
    (case a_after_firing => k_is)
    (case l_after_firing => k_is)
    (case c_after_firing => k_is)
    (case k_after_firing => k_is)
    (case a_law_cell_at => k_is)
    (case l_law_cell_at => k_is)
    (case c_law_cell_at => k_is)
    (case k_law_cell_at => k_is)
    (case a_law_mixed => k_is)
    (case l_law_mixed => k_is)
    (case c_law_mixed => k_is)
    (case k_law_mixed => k_is)
    (case a_law_source => k_is)
    (case l_law_source => k_is)
    (case c_law_source => k_is)
    (case k_law_source => k_is)
    (case a_law_next => k_is)
    (case l_law_next => k_is)
    (case c_law_next => k_is)
    (case k_law_next => k_is)
    (case a_law_word_at => k_is)
    (case l_law_word_at => k_is)
    (case c_law_word_at => k_is)
    (case k_law_word_at => k_is)
    (case a_law_first => k_is)
    (case l_law_first => k_is)
    (case c_law_first => k_is)
    (case k_law_first => k_is)
    (case a_law_of_one_base => k_is)
    (case l_law_of_one_base => k_is)
    (case c_law_of_one_base => k_is)
    (case k_law_of_one_base => k_is)
    (case a_law_due => k_is)
    (case l_law_due => k_is)
    (case c_law_due => k_is)
    (case k_law_due => k_is)
    (case lc_law_due => k_is)
    (case lp_law_due => rfl)
    (case ch_law_due => rfl)
    (case nt_law_due => rfl)
    (case tm_law_due => simp)
    (case a_law_levels_of => k_is)
    (case l_law_levels_of => k_is)
    (case c_law_levels_of => k_is)
    (case k_law_levels_of => k_is)
    (case a_law_wheels => k_is)
    (case l_law_wheels => k_is)
    (case c_law_wheels => k_is)
    (case k_law_wheels => k_is)
    (case a_law_shown => k_is)
    (case l_law_shown => k_is)
    (case c_law_shown => k_is)
    (case k_law_shown => k_is)
    (case a_law => k_is)
    (case l_law => k_is)
    (case c_law => k_is)
    (case k_law => k_is)
    (case a_Wheel => k_is)
    (case a_m_init => k_is)
    (case i_m_init => k_is)
    (case l_m_init => k_is)
    (case c_m_init => k_is)
    (case k_m_init => k_is)
    (case d_m_init => k_is)
    (case a_m_put => k_is)
    (case i_m_put => k_is)
    (case l_m_put => k_is)
    (case c_m_put => k_is)
    (case k_m_put => k_is)
    (case d_m_put => k_is)
    (case a_m_advance => k_is)
    (case i_m_advance => k_is)
    (case l_m_advance => k_is)
    (case c_m_advance => k_is)
    (case k_m_advance => k_is)
    (case pg => k_is)
    (case hd => k_is)
    (case po => k_is)
    (case sa => k_is)
    (case mkC => k_is)
    (case kc => k_is)
    (case n_base => k_is)
    (case n_words => k_is)
    (case n_tick => k_is)
    (case n_following => k_is)
    (case n_live => k_is)
    (case z_isinstance => k_is)
    (case z_int => k_is)
    (case z_bool => k_is)
    (case z_str => k_is)
    (case z_all => k_is)
    (case z_list => k_is)
    (case z_len => k_is)
    (case z_min => k_is)
    (case z_max => k_is)
    (case z_sorted => k_is)
    (case z_dict => k_is)
    (case z_enumerate => k_is)
    (case z_range => k_is)
    (case a_WORDS => k_is)
    (case l_WORDS => k_is)
    (case a_MOST_LEVELS => k_is)
    (case a_MOST_FIRINGS => k_is)
