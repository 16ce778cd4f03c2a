import PyProof.Rows.All
import Wide.All
import OpenK.AllK
import Wide.FinOn
import HandS.ForMost
import HandS.IsInst
import HandS.Wide
import HandS.WideBits
import HandS.Iter
import HandS.NoneIn
import PyProof.LongRange
import HandS.Defaults
import HandS.Zip
import HandS.Flow
import HandS.SortKw
import HandS.SortOrd
import KE.DatumOrd
import HandS.Conv
import HandS.More
import HandS.Small
import HandS.Exc
import HandS.ExcOwn
import HandS.ExcIs
import HandS.TryOnly
import HandS.WordsExc
import HandS.Lambda
import HandS.EndTab
import KE.KNestM
import PyProof.ReprRoads
import PyProof.Rows.RegFStrParts
import HandS.Style
import KE.SortData
import HandS.SortRule
import HandS.DictTup
import PyProof.DictMoreH
import HandS.MakeKwOnly
import HandS.WordsDict
import HandS.SortInts
import HandS.TupAny
import HandS.SetFor
import HandS.Strs
import HandS.Rev
import HandS.TupSets
import KE.GoesEnum
import KE.GoesMore
import HandS.WideBits
import PyProof.Draws
import HandS.Iter
import PySem.Challenge.RW_timerdeque_k30_levels_found_by_sightings
set_option Elab.async false
set_option linter.all false
set_option maxRecDepth 100000
set_option maxHeartbeats 4000000
set_option exponentiation.threshold 10000
namespace Td
open PySem PySem.Spec PyProof.Rows L2
/-! ### small things: promises by name, heaps, numbers -/
section
variable {P : Program} {w : World} {K : PySem.W.Frag} {mg : Str → Option Value} {base : Heap}
/-- the module's name x holds a def that keeps the promise sp, its last parameters filled up by dvs -/
def Has (P : Program) (w : World) (K : PySem.W.Frag) (mg : Str → Option Value) (base : Heap) (k : Nat) (x : Str) (ps : List Str) (dvs : List V) (sp : Sp) : Prop :=
  ∃ (f : Addr) (fd : FuncData) (ds : List Value), FnOk P w K mg base CX0 k f fd ps sp ∧ mg x = some (.ref f) ∧ PySem.W.keepIn K (.ref f) = true ∧ Binds K fd ps ds ∧ Vals dvs ds
/-- what the top says of a def without defaults -/
def Df (K : PySem.W.Frag) (mg : Str → Option Value) (x : Str) (st : Stmt) (ps : List Str) : Prop :=
  ∃ (f : Addr) (fd : FuncData), Fun K x x st f fd ∧ mg x = some (.ref f) ∧ Binds K fd ps []
theorem Df.has {k : Nat} {x : Str} {st : Stmt} {ps : List Str} {sp : Sp} (D : Df K mg x st ps) (ok : ∀ f fd, Fun K x x st f fd → FnOk P w K mg base CX0 k f fd ps sp) : Has P w K mg base k x ps [] sp := by
  obtain ⟨f, fd, F, m, b⟩ := D
  exact ⟨f, fd, [], ok f fd F, m, F.kp, b, .nil⟩
/-- a def with one default, the last parameter's -/
def Dd (K : PySem.W.Frag) (mg : Str → Option Value) (x : Str) (st : Stmt) (ps : List Str) (d : V) : Prop :=
  ∃ (f : Addr) (fd : FuncData), FunD K x x (defArgs st) (defBody st) (defScope st) [d] [] f fd ∧ mg x = some (.ref f) ∧ (∃ ds, Vals [d] ds ∧ Binds K fd ps ds) ∧ Binds K fd ps []
theorem Dd.has {k : Nat} {x : Str} {st : Stmt} {ps : List Str} {d : V} {sp : Sp} (D : Dd K mg x st ps d) (ok : ∀ f fd, FunD K x x (defArgs st) (defBody st) (defScope st) [d] [] f fd → FnOk P w K mg base CX0 k f fd ps sp) :
    Has P w K mg base k x ps [d] sp ∧ Has P w K mg base k x ps [] sp := by
  obtain ⟨f, fd, F, m, ⟨ds, r, b⟩, b0⟩ := D
  exact ⟨⟨f, fd, ds, ok f fd F, m, F.kp, b, r⟩, ⟨f, fd, [], ok f fd F, m, F.kp, b0, .nil⟩⟩
end
section
variable {X : Cx}
/-- a product of which one side is small, or both are not too great -/
def CMulA (i j : Int) : Prop := IntMulOk i j
theorem op_mulA : OpR X (binaryOp .Mult) (rI CMulA fun i j => .int (i * j)) := opI fun _ _ _ _ _ _ _ hc q => mul_int q hc
end
/-! x *= e, ints -/
section
variable {X : Cx}
def ipC (C : Int → Int → Prop) (f : Int → Int → Int) : TIp := fun x y H Q => ∃ i j, x = .int i ∧ y = .int j ∧ C i j ∧ Q (.int (f i j)) H
theorem ip_mulA : PIp X .Mult (ipC CMulA fun i j => i * j) := by
  intro pins s σ H x y v u Q I r1 r2 h
  obtain ⟨i, j, rfl, rfl, hm, q⟩ := h
  obtain ⟨t, rfl⟩ := r1
  obtain ⟨t', rfl⟩ := r2
  exact imul_int ⟨.int _, H, I.tok _, ⟨_, rfl⟩, q⟩ hm
end
theorem mul_l {i j : Int} (h1 : -(2 ^ 64) < i) (h2 : i < 2 ^ 64) : CMulA i j := CMul.ok (.inl ⟨h1, h2⟩)
theorem mul_r {i j : Int} (h1 : -(2 ^ 64) < j) (h2 : j < 2 ^ 64) : CMulA i j := CMul.ok (.inr ⟨h1, h2⟩)
theorem mul_w {i j : Int} (a b : Nat) (ha : i.natAbs < 2 ^ a) (hb : j.natAbs < 2 ^ b) (h0 : 0 < a := by decide) (h1 : 0 < b := by decide) (h : a + b ≤ 1000000 := by decide) : CMulA i j := (wide_mul ha hb h0 h1 h).ok
theorem div_s {i j : Int} (h : 0 < j) (h2 : j < 2 ^ 300) : CDivW i j := wide_div (b := 300) h (by omega) (by decide) (by decide)
theorem div_b {i j : Int} (b : Nat) (h : 0 < j) (h2 : j < 2 ^ b) (h0 : 0 < b := by decide) (h9 : b ≤ 9000 := by decide) : CDivW i j := by
  refine wide_div (b := b) h ?_ h0 h9
  have e : ((2 ^ b : Nat) : Int) = (2 : Int) ^ b := by
    rw [Int.natCast_pow]
    rfl
  omega
theorem same_upd {H : Hp} {p : Addr} {o : HO} (h : H p = none) : Same H (upd H p o) := fun b x e => by
  rw [upd_ne (ne_of_none e h)]
  exact e
theorem sizeLine_ge {n : Nat} (h : n ≤ 1000000) : n < sizeLine := by
  rw [sizeLine_eq]
  omega
theorem sizeLine_le {n : Nat} (h : n ≤ 1000000) : n ≤ sizeLine := Nat.le_of_lt (sizeLine_ge h)
theorem pos_of {a c : Nat} (h : a ≤ c) (n : ¬ a = c) : 0 < c := by omega
/-! ### operators on numbers that are not negative -/
def rN (C : Nat → Nat → Prop) (g : Nat → Nat → Nat) : R2 := fun x y H Q => ∃ a b : Nat, x = .int (a : Nat) ∧ y = .int (b : Nat) ∧ C a b ∧ Q (.int ((g a b : Nat) : Int)) H
section
variable {X : Cx}
theorem opN {f : Value → Value → Sem Value} {C : Nat → Nat → Prop} {g : Nat → Nat → Nat} {CI : Int → Int → Prop} {gI : Int → Int → V} (h : OpR X f (rI CI gI)) (e : ∀ a b : Nat, C a b → CI (a : Nat) (b : Nat) ∧ gI (a : Nat) (b : Nat) = .int ((g a b : Nat) : Int)) : OpR X f (rN C g) := by
  intro pins s σ H x y v u Q I rx ry hq
  obtain ⟨a, b, ex, ey, hc, q⟩ := hq
  obtain ⟨h1, h2⟩ := e a b hc
  exact h pins s σ H x y v u Q I rx ry ⟨_, _, ex, ey, h1, by rw [h2]; exact q⟩
theorem opN0 {f : Value → Value → Sem Value} {C : Nat → Nat → Prop} {g : Nat → Nat → Nat} {gI : Int → Int → V} (h : OpR X f (rI0 gI)) (e : ∀ a b : Nat, C a b → gI (a : Nat) (b : Nat) = .int ((g a b : Nat) : Int)) : OpR X f (rN C g) := by
  intro pins s σ H x y v u Q I rx ry hq
  obtain ⟨a, b, ex, ey, hc, q⟩ := hq
  exact h pins s σ H x y v u Q I rx ry ⟨_, _, ex, ey, by rw [e a b hc]; exact q⟩
def NDiv (_ b : Nat) : Prop := 0 < b ∧ b < 2 ^ 9000
def NMod (_ b : Nat) : Prop := 0 < b
def NSub (a b : Nat) : Prop := b ≤ a
def NMul (a b : Nat) : Prop := IntMulOk (a : Int) (b : Int)
def NAny (_ _ : Nat) : Prop := True
theorem op_divN : OpR X (binaryOp .FloorDiv) (rN NDiv fun a b => a / b) := opN op_fdivW fun a b h => ⟨wide_div (b := 9000) (Int.natCast_pos.mpr h.1) h.2 (by decide) (Nat.le_refl _), rfl⟩
theorem op_remN : OpR X (binaryOp .Mod) (rN NMod fun a b => a % b) := opN op_mod fun a b h => ⟨Int.natCast_pos.mpr h, rfl⟩
theorem op_mulN : OpR X (binaryOp .Mult) (rN NMul fun a b => a * b) := opN op_mulA fun a b h => ⟨h, congrArg V.int (Int.natCast_mul a b).symm⟩
theorem op_addN : OpR X (binaryOp .Add) (rN NAny fun a b => a + b) := opN0 op_add fun _ _ _ => rfl
theorem op_subN : OpR X (binaryOp .Sub) (rN NSub fun a b => a - b) := opN0 op_sub fun a b h => congrArg V.int (Int.natCast_sub h).symm
end
theorem ndiv {a b : Nat} (t : Nat) (h : 0 < b) (h2 : b < 2 ^ t) (ht : t ≤ 9000 := by decide) : NDiv a b := ⟨h, Nat.lt_of_lt_of_le h2 (Nat.pow_le_pow_right (by decide) ht)⟩
theorem nmul_l {a b : Nat} (h : a < 2 ^ 64) : NMul a b := mul_l (by omega) (by omega)
theorem nmul_r {a b : Nat} (h : b < 2 ^ 64) : NMul a b := mul_r (by omega) (by omega)
theorem nmul_w {a b : Nat} (i j : Nat) (ha : a < 2 ^ i) (hb : b < 2 ^ j) (h0 : 0 < i := by decide) (h1 : 0 < j := by decide) (h : i + j ≤ 1000000 := by decide) : NMul a b := mul_w i j ha hb h0 h1 h
theorem int_ne {a b : Nat} (h : a ≠ b) : decide (V.int (a : Nat) = V.int (b : Nat)) = false := decide_eq_false fun e => h (Int.ofNat.inj (V.int.inj e))
theorem dT {p : Prop} [Decidable p] (h : p) : V.bl (decide p) = V.bl true := congrArg V.bl (decide_eq_true h)
theorem dF {p : Prop} [Decidable p] (h : ¬ p) : V.bl (decide p) = V.bl false := congrArg V.bl (decide_eq_false h)
theorem nT {p : Prop} [Decidable p] (h : ¬ p) : V.bl (!decide p) = V.bl true := congrArg V.bl (congrArg (!·) (decide_eq_false h))
theorem nF {p : Prop} [Decidable p] (h : p) : V.bl (!decide p) = V.bl false := congrArg V.bl (congrArg (!·) (decide_eq_true h))
theorem vN {a b : Nat} (h : a ≠ b) : ¬ V.int (a : Nat) = V.int (b : Nat) := fun e => h (Int.ofNat.inj (V.int.inj e))
theorem vE {a b : Nat} (h : a = b) : V.int (a : Nat) = V.int (b : Nat) := congrArg (fun c : Nat => V.int (c : Nat)) h
theorem vI {a b : Int} (h : a ≠ b) : ¬ V.int a = V.int b := fun e => h (V.int.inj e)
/-! ### rules with the written part named (within a comprehension's block) -/
section
variable {X : Cx} {K : PySem.W.Frag}
theorem ix_tupK (e : X.K = K) : IxR X (rIxT K) := by subst e; exact ix_tup
theorem ix_listK (e : X.K = K) : IxR X (rIxL K) := by subst e; exact ix_list
theorem sl_tupK (e : X.K = K) : SlR X (rSlT K) := by subst e; exact sl_tup
theorem sl_listK (e : X.K = K) : SlR X (rSlL K) := by subst e; exact sl_list
theorem op_eqK (e : X.K = K) (hu : X.A.units + 64 < cLine) : OpR X (compareOp .Eq) (rEqD K) := by subst e; exact op_eqD hu
theorem op_neK (e : X.K = K) (hu : X.A.units + 64 < cLine) : OpR X (compareOp .NotEq) (rNeD K) := by subst e; exact op_neD hu
theorem isiK (e : X.K = K) : CallR X (.builtin "isinstance") (rIsi K) := by subst e; exact call_isi
def rLenK (K : PySem.W.Frag) : List V → Hp → VK → Prop := fun xs H Q => ∃ p ys, xs = [.ref p] ∧ (SqL K H p ys ∨ SqT K H p ys) ∧ Q (.int ys.length) H
theorem lenK (e : X.K = K) : CallR X (.builtin "len") (rLenK K) := by subst e; exact call_len_seq
theorem allK (e : X.K = K) (hc : X.calm = true) : CallR X (.builtin "all") (rAll K) := by subst e; exact cr_all hc
theorem sumK (e : X.K = K) (hc : X.calm = true) : CallR X (.builtin "sum") (rSum K) := by subst e; exact cr_sum hc
theorem maxK (e : X.K = K) (hc : X.calm = true) : CallR X (.builtin "max") (rMax K) := by subst e; exact cr_max hc
theorem minK (e : X.K = K) (hc : X.calm = true) : CallR X (.builtin "min") (rMin K) := by subst e; exact cr_min hc
theorem anyK (e : X.K = K) (hc : X.calm = true) : CallR X (.builtin "any") (rAny K) := by subst e; exact cr_any hc
end
section
variable {X : Cx} {K : PySem.W.Frag}
theorem ix_ltK (e : X.K = K) : IxR X (fun x y H Q => rIxL K x y H Q ∨ rIxT K x y H Q) := by subst e; exact ix_list.or ix_tup
theorem pe_orTK {a b : Expr} {ta tb : TE} {rest : List Expr} {pos : Pos} (e : X.K = K) (ha : PE X a ta) (hb : PE X (.BoolOp .Or (b :: rest) pos) tb) : PE X (.BoolOp .Or (a :: b :: rest) pos) (tOrT K ta tb) := by subst e; exact pe_orT ha hb
end
theorem yesT {σ : L2.St} {H : Hp} {Q : Bool → Hp → Prop} (h : Q true H) : tYes σ H Q := h
section
variable {X : Cx} {K : PySem.W.Frag}
theorem pg_tupK {es : List Expr} {k : Nat} {t : TGs} {n : Nat} {pos : Pos} (e : X.K = K) (hc : X.calm = true) (h : PGs X es t)
    (hn : (assignEach es X.env).length = n := by rfl) (hst : (assignEach es X.env).findIdx? (·.1) = none := by rfl) : PG X (.Tuple es k pos) (gTup K n t) := by
  subst e
  exact pg_tup hc h hn hst
end
theorem tyx_list {K : PySem.W.Frag} {H : Hp} {a : Addr} {xs : List V} (h : SqL K H a xs) : TyX K H (.ref a) (.type "list") := by
  rcases h with (h | ⟨o, h⟩) | ⟨o, its, n, h, hc, _⟩
  · exact .base (.lst h)
  · exact .base (.frz h)
  · exact .kList h hc
/-- max and min of two numbers that are not negative -/
def rNN (g : Nat → Nat → Nat) : List V → Hp → VK → Prop := fun xs H Q => ∃ a b : Nat, xs = [.int (a : Nat), .int (b : Nat)] ∧ Q (.int ((g a b : Nat) : Int)) H
section
variable {X : Cx}
theorem max2N (hc : X.calm = true) : CallR X (.builtin "max") (rNN max) := by
  intro pins s σ H xs us Q I r h
  obtain ⟨a, b, rfl, q⟩ := h
  refine call_max2 hc pins s σ H _ us Q I r ⟨_, _, rfl, ?_⟩
  have e : (if (b : Int) > (a : Int) then (b : Int) else (a : Int)) = ((max a b : Nat) : Int) := by split <;> omega
  rw [e]
  exact q
theorem max0N (hc : X.calm = true) : CallR X (.builtin "max") (fun xs H Q => ∃ (z : Int) (n : Nat), xs = [.int 0, .int z] ∧ (if z > 0 then z else 0) = (n : Int) ∧ Q (.int (n : Nat)) H) := by
  intro pins s σ H xs us Q I r h
  obtain ⟨z, n, rfl, e, q⟩ := h
  refine call_max2 hc pins s σ H _ us Q I r ⟨0, z, rfl, ?_⟩
  rw [e]
  exact q
theorem min2N (hc : X.calm = true) : CallR X (.builtin "min") (rNN min) := by
  intro pins s σ H xs us Q I r h
  obtain ⟨a, b, rfl, q⟩ := h
  refine call_min2 hc pins s σ H _ us Q I r ⟨_, _, rfl, ?_⟩
  have e : (if (b : Int) < (a : Int) then (b : Int) else (a : Int)) = ((min a b : Nat) : Int) := by split <;> omega
  rw [e]
  exact q
end
/-- one rest behind several ways -/
theorem cut_at {α : Type} {I : α → Hp → Prop} {G : Prop} (R : α → Hp → Prop) (h1 : (∀ a H, I a H → R a H) → G) (h2 : ∀ a H, I a H → R a H) : G := h1 h2
theorem cut_rest {I : Hp → Prop} {G : Prop} (R : Hp → Prop) (h1 : (∀ H, I H → R H) → G) (h2 : ∀ H, I H → R H) : G := h1 h2
/-! ### range over numbers of any size -/
theorem turn_long {P : Program} {w : World} {K : PySem.W.Frag} {tg : Expr} (r : Addr) (lo c : Int) (n : Nat) :
    Turn P w K tg (Itc lo c n) [r] r (fun i hp => IsLongIter hp r (lo + (i : Nat) * c) ((n : Int) - (i : Nat)) c) where
  mem := List.mem_singleton.mpr rfl
  obj := fun _ _ here b hb => by
    cases List.mem_singleton.mp hb
    exact ⟨_, here, fun _ z => nomatch z⟩
  keep := fun _ _ _ here same => same r (List.mem_singleton.mpr rfl) _ here
  item := by
    intro Y y1 y2 y3 calm i pins s σ H E inv own here more
    subst y1; subst y2; subst y3
    have o := own r (List.mem_singleton.mpr rfl)
    refine (Walks.longrange (prog := Y.prog) (w := Y.w) (inv.ok.hd calm) r lo c n).item i s _ _ more here fun v h2 k hv next keep => ?_
    obtain ⟨t, rfl⟩ := hv
    have inv2 : Inv Y pins σ H { s with heap := h2, toks := k } := inv.turned (fun b ob hb e => keep b ob (fun z => hb (List.mem_singleton.mp z)) e) o.1 o.2.1 o.2.2.2.1 o.2.2.2.2.1 o.2.2.2.2.2
    have stay : ∀ b ∈ [r], H b = none := fun b hb => (own b hb).1
    exact ⟨_, rfl, go_of (s := { s with heap := h2, toks := k }) (n := "longrange_iterator") next rfl rfl (by decide) ⟨.int (lo + (i : Nat) * c), H, inv2, ⟨t, rfl⟩, ⟨rfl, rfl⟩, next, stay⟩⟩
  done := by
    intro Y y1 y2 y3 calm i pins s σ H E inv own here over
    subst y1; subst y2; subst y3
    have o := own r (List.mem_singleton.mpr rfl)
    have le : n ≤ i := over
    exact wpAny_pyNext_long_end (inv.ok.hd calm) here (by omega) fun h2 same => ⟨rfl, inv.turned (t' := s.toks) (fun b ob hb e => same b ob hb e) o.1 o.2.1 o.2.2.2.1 o.2.2.2.2.1 o.2.2.2.2.2⟩
  self := fun _ _ _ _ _ here h => wpAny_pyIter_longiter here h
/-- a range object just made, whatever its size -/
theorem range_wide {X : Cx} {tg : Expr} {pins : List (Addr × Obj)} {σ : L2.St} {H : Hp} {s : Shared} {R : It → Hp → Prop} {E : Value → Shared → Prop} {lo hi c : Int} {t u v : Tok} {tk n : Nat} (I : Inv X pins σ H s)
    (hn : Builtin.Range.rangeSize lo hi c = n) (q : R (Itc lo c n) H) :
    wpAny (model X.prog X.w) X.A (pyIter (.ref s.heap.objs.size)) (PIE X pins σ tg R) E { s with heap := s.heap.push { cls := .type "range", data := .fields #[.int lo t, .int hi u, .int c v] }, toks := tk } := by
  have made : Inv X pins σ H { s with heap := s.heap.push { cls := .type "range", data := .fields #[.int lo t, .int hi u, .int c v] }, toks := tk } := I.kept fun b ob e => Heap.get?_push_of_some _ e
  have e0 : lo + ((0 : Nat) : Int) * c = lo := by simp
  have e9 : (n : Int) - ((0 : Nat) : Int) = Builtin.Range.rangeSize lo hi c := by
    rw [hn]
    simp
  cases small : Builtin.Range.small lo hi c with
  | true =>
    refine wpAny_pyIter_range (IsRange.new ..) small (pi_one (tk := tk) made _ (turn_rangeC _ lo c n) ?_ q)
    show IsRangeIter _ _ (lo + ((0 : Nat) : Int) * c) ((n : Int) - ((0 : Nat) : Int)) c
    rw [e0, e9]
    exact Heap.get?_push_size _ rfl
  | false =>
    refine wpAny_pyIter_longrange (IsRange.new ..) small (pi_one (tk := tk) made _ (turn_long _ lo c n) ?_ q)
    show IsLongIter _ _ (lo + ((0 : Nat) : Int) * c) ((n : Int) - ((0 : Nat) : Int)) c
    rw [e0, e9]
    exact Heap.get?_push_size _ rfl
theorem itc_one (lo : Int) (n : Nat) : Itc lo 1 n = Itr lo n := by
  unfold Itc Itr
  congr 1
  funext i H x H'
  rw [Int.mul_one]
def iWide2 (ta : TA) : TI := fun σ H R => ta σ H fun vs H1 => ∃ i j : Int, vs = [.int i, .int j] ∧ R (Itr i (j - i).toNat) H1
def iWide3 (ta : TA) : TI := fun σ H R => ta σ H fun vs H1 => ∃ (i j c : Int) (n : Nat), vs = [.int i, .int j, .int c] ∧ CDivP (j - i) c ∧ Builtin.Range.rangeSize i j c = n ∧ R (Itc i c n) H1
section
variable {X : Cx} {tg : Expr}
theorem pi_wide2 {a b : Expr} {ta : TA} {p pos : Pos} (hg : Gl X "range") (hm : X.mg "range" = none) (ha : PA X [a, b] ta) (h2 : starEach [a, b] X.env = [(false, eval a X.env), (false, eval b X.env)] := by rfl) (h1 : starEach [b] X.env = [(false, eval b X.env)] := by rfl) :
    PI X tg (.Call (.Name "range" p) [a, b] [] pos) (iWide2 ta) := by
  refine ⟨fun pins s σ H R I h => Call_ (ld_blt I hg hm boot_range (PyProof.Rows.callWith_type1 (thn (ha.run pos pins s σ H _ I h) fun us s1 ⟨vs, H1, I1, r1, q1⟩ => ?_) (by rw [h2, h1]) (by rw [h1]; rfl)))⟩
  obtain ⟨i, j, rfl, q⟩ := q1
  obtain ⟨u1, u2, rfl, ⟨t, rfl⟩, ⟨t', rfl⟩⟩ := vals2 r1
  refine call_range_2 (range_wide (n := (j - i).toNat) I1 ?_ (by rw [itc_one]; exact q))
  rw [rangeSize_one]
  split <;> omega
theorem pi_wide3 {a b c : Expr} {ta : TA} {p pos : Pos} (hg : Gl X "range") (hm : X.mg "range" = none) (ha : PA X [a, b, c] ta)
    (h3 : starEach [a, b, c] X.env = (false, eval a X.env) :: starEach [b, c] X.env := by rfl) (hn : (backTo pos (starEach [b, c] X.env)).any (·.1) = false := by rfl) :
    PI X tg (.Call (.Name "range" p) [a, b, c] [] pos) (iWide3 ta) := by
  refine ⟨fun pins s σ H R I h => Call_ (ld_blt I hg hm boot_range (PyProof.Rows.callWith_type1 (thn (ha.run pos pins s σ H _ I h) fun us s1 ⟨vs, H1, I1, r1, q1⟩ => ?_) h3 hn))⟩
  obtain ⟨i, j, k, n, rfl, hk, hz, q⟩ := q1
  cases r1 with
  | cons ra rr =>
    obtain ⟨u2, u3, rfl, ⟨t', rfl⟩, ⟨t'', rfl⟩⟩ := vals2 rr
    obtain ⟨t, rfl⟩ := ra
    have k0 : k ≠ 0 := fun z => by
      have := hk.1
      omega
    exact call_range_3 k0 (range_wide (tk := s1.toks) I1 hz q) (.inl hk.2)
end
/-- a list made over a range with a step -/
theorem lc_step {lo c : Int} {n : Nat} {g : TG} {tt : TT} {te : TE} {ws : List Nat} {σ : L2.St} {G : Hp} {D : Addr} {Qd : Hp → Prop} (Pv : Nat → Hp → Prop) (start : Pv 0 (upd G D (.lst [])))
    (step : ∀ i G, i < n → Pv i G → g (.int (lo + (i : Nat) * c)) (wipe σ ws) G fun τ G2 => wipe τ ws = wipe σ ws ∧ tt τ G2 fun k G3 => if k = true then te τ G3 fun z G4 => ∃ ac, G4 D = some (.lst ac) ∧ ac.length < sizeLine ∧ Pv (i + 1) (upd G4 D (.lst (ac ++ [z]))) else Pv (i + 1) G3)
    (last : ∀ G, Pv n G → Qd G) : ∃ W : Nat → Nat → Hp → Prop, (∃ m, W 0 m (upd G D (.lst []))) ∧ ∀ i m G, W i m G → ((Itc lo c n).stop i G ∧ Qd G) ∨
      ((Itc lo c n).go i G ∧ ∃ N : Hp → Prop, (∀ G', N G' → ∃ m', m' < m ∧ W (i + 1) m' G') ∧ ∀ x G', (Itc lo c n).yld i G x G' → g x (wipe σ ws) G' fun τ G2 => wipe τ ws = wipe σ ws ∧ tt τ G2 fun k G3 => if k = true then te τ G3 fun z G4 => ∃ ac, G4 D = some (.lst ac) ∧ ac.length < sizeLine ∧ N (upd G4 D (.lst (ac ++ [z]))) else N G3) := by
  refine ⟨fun i m G => (m = n - i ∧ i ≤ n) ∧ Pv i G, ⟨n, ⟨rfl, Nat.zero_le _⟩, start⟩, ?_⟩
  rintro i m G ⟨⟨rfl, le⟩, pv⟩
  rcases Nat.lt_or_ge i n with lt | ge
  · exact .inr ⟨lt, Pv (i + 1), fun G' p' => ⟨n - (i + 1), by omega, ⟨rfl, lt⟩, p'⟩, fun x G' ⟨e1, e2⟩ => by
      rw [e1, e2]
      exact step i G lt pv⟩
  · have e : i = n := Nat.le_antisymm le ge
    rw [e] at pv ⊢
    exact .inl ⟨Nat.le_refl _, last G pv⟩
/-! ### sorted(xs, reverse=True) of pairs of whole numbers; enumerate in a comprehension -/
def pairV (H : Hp) : V → Int × Int
  | .ref b => match H b with
    | some (.tup [.int i, .int j]) => (i, j)
    | _ => (0, 0)
  | _ => (0, 0)
theorem pairV_of {H : Hp} {b : Addr} {i j : Int} (h : H b = some (.tup [.int i, .int j])) : pairV H (.ref b) = (i, j) := by
  show (match H b with | some (.tup [.int i, .int j]) => (i, j) | _ => (0, 0)) = (i, j)
  rw [h]
def rSortedPR (K : PySem.W.Frag) : List V → List V → Hp → VK → Prop := fun vs zs H Q => ∃ (a : Addr) (xs : List V) (k : V → Int × Int), vs = [V.ref a] ∧ zs = [.bl true] ∧ SqL K H a xs ∧ (∀ x ∈ xs, ∃ t, x = V.ref t ∧ H t = some (.tup [.int (k x).1, .int (k x).2])) ∧
  ∀ ys p, SrtO.Srtd (ltP k) ys → ys.Perm xs → H p = none → Q (.ref p) (upd H p (.lst ys.reverse))
section
variable {X : Cx}
theorem cr_sortedPR : CallRK X (.builtin "sorted") [Str.ofString "reverse"] (rSortedPR X.K) := by
  intro pins s σ H vs zs us ws Q I r rz h
  obtain ⟨a, xs, k, rfl, rfl, hs, hx, q⟩ := h
  obtain rfl := Vals.ref1 r
  obtain ⟨w1, rfl, e0⟩ := vals1 rz
  obtain rfl : w1 = Value.bool true := e0
  obtain ⟨its, rv, hl, hz⟩ := I.list hs
  obtain ⟨e1, e2⟩ := refs_back rv fun x m => by
    obtain ⟨t, e, _⟩ := hx x m
    exact ⟨t, e⟩
  have hp : ∀ v ∈ its, Srt.IsPair s.heap v (k (backV v)).1 (k (backV v)).2 := fun v hv => by
    obtain ⟨t, rfl⟩ := e2 v hv
    have hm : V.ref t ∈ xs := by rw [e1]; exact List.mem_map.mpr ⟨_, hv, rfl⟩
    obtain ⟨t', e, ht⟩ := hx _ hm
    cases e
    obtain ⟨_, its2, r2, o, ho, hc, n, hd⟩ := I.hok _ _ ht
    obtain ⟨u1, u2, rfl, ri, rj⟩ := vals2 r2
    obtain ⟨t1, rfl⟩ := ri
    obtain ⟨t2, rfl⟩ := rj
    exact ⟨t, o, t1, t2, n, rfl, ho, hc, hd⟩
  refine SrtR.sorted_ordK (b := true) (fun _ => rfl) (PyProof.Rows.args_sorted_rev _ _) (fun _ => PyProof.Rows.args_list_sort_rev _ _) (SrtO.swo_lex fun u => k (backV u)) hl.isList (by rw [← rv.length]; exact hz)
    (fun h2 h₁ a' ha' kp => SrtO.pairs_sortableO (by omega) (fun v hv => (hp v hv).keeps fun b o e c => (kp b o e).2) fun o e => ?_) fun out h1 h2 => ?_
  · have e' : some o = some (seqObj "list" its.toArray 0) := e.symm.trans ha'
    cases e'
    intro c
    exact absurd (Value.type.inj c) (by decide)
  · have h2p : out.Perm its := h2.perm.trans (List.reverse_perm _)
    have h3 : ∀ u ∈ out, ∃ a, u = Value.ref a := fun u hu => e2 u (h2p.mem_iff.mp hu)
    have hb : (out.map backV).Perm xs := by
      rw [e1]
      exact h2p.map backV
    obtain ⟨ep, he'⟩ := PyProof.Rows.sortedAll_at s.heap its out.toArray.reverse
    have hlen : (out.map backV).reverse.length ≤ sizeLine := by
      rw [List.length_reverse, hb.length_eq]
      exact hz
    have er : (out.map backV).reverse = out.reverse.map backV := by rw [List.map_reverse]
    have h4 : ∀ u ∈ out.reverse, ∃ a, u = Value.ref a := fun u hu => h3 u (List.mem_reverse.mp hu)
    have ea : out.reverse.toArray = out.toArray.reverse := by
      apply Array.ext'
      rw [Array.toList_reverse]
    exact ⟨.ref _, upd H (s.heap.objs.size + 1) (.lst (out.map backV).reverse), I.laid (t' := s.toks) (fun _ _ => PyProof.Rows.sortedAll_old) (Nat.le_succ _) ⟨hlen, out.reverse, ep, by rw [er]; exact vals_back h4, by rw [ea]; exact he'⟩, rfl, q _ _ (SrtO.srtd_map h1) hb (I.hok.fresh (Nat.le_succ _))⟩
end
theorem lc_enum {K : PySem.W.Frag} {a : Addr} {xs : List V} {g : TG} {tt : TT} {te : TE} {ws : List Nat} {σ : L2.St} {G : Hp} {D : Addr} {Qd : Hp → Prop} (Pv : Nat → Hp → Prop) (start : Pv 0 (upd G D (.lst []))) (lst : ∀ i G, i ≤ xs.length → Pv i G → SqL K G a xs)
    (step : ∀ (i : Nat) (x : V) (T : Addr) (G : Hp), xs[i]? = some x → Pv i G → G T = none → g (.ref T) (wipe σ ws) (upd G T (.tup [.int (i : Nat), x])) fun τ G2 => wipe τ ws = wipe σ ws ∧ tt τ G2 fun c G3 => if c = true then te τ G3 fun z G4 => ∃ ac, G4 D = some (.lst ac) ∧ ac.length < sizeLine ∧ Pv (i + 1) (upd G4 D (.lst (ac ++ [z]))) else Pv (i + 1) G3)
    (last : ∀ G, Pv xs.length G → Qd G) : ∃ W : Nat → Nat → Hp → Prop, (∃ m, W 0 m (upd G D (.lst []))) ∧ ∀ i m G, W i m G → ((Ite K a).stop i G ∧ Qd G) ∨
      ((Ite K a).go i G ∧ ∃ N : Hp → Prop, (∀ G', N G' → ∃ m', m' < m ∧ W (i + 1) m' G') ∧ ∀ x G', (Ite K a).yld i G x G' → g x (wipe σ ws) G' fun τ G2 => wipe τ ws = wipe σ ws ∧ tt τ G2 fun c G3 => if c = true then te τ G3 fun z G4 => ∃ ac, G4 D = some (.lst ac) ∧ ac.length < sizeLine ∧ N (upd G4 D (.lst (ac ++ [z]))) else N G3) := by
  refine ⟨fun i m G => (m = xs.length - i ∧ i ≤ xs.length) ∧ Pv i G, ⟨xs.length, ⟨rfl, Nat.zero_le _⟩, start⟩, ?_⟩
  rintro i m G ⟨⟨rfl, le⟩, pv⟩
  have here := lst i G le pv
  rcases Nat.lt_or_ge i xs.length with lt | ge
  · refine .inr ⟨⟨xs, _, here, List.getElem?_eq_getElem lt⟩, Pv (i + 1), fun G' p' => ⟨xs.length - (i + 1), by omega, ⟨rfl, lt⟩, p'⟩, fun v G' y => ?_⟩
    obtain ⟨T, x, rfl, nT, rfl, hx⟩ := y
    exact step i x T G (hx xs here) pv nT
  · have e : i = xs.length := Nat.le_antisymm le ge
    rw [e] at pv ⊢
    exact .inl ⟨⟨xs, here, Nat.le_refl _⟩, last G pv⟩
theorem inV_nat {x : Nat} : ∀ {ns : List Nat}, inV (.int (x : Nat)) (ns.map fun y => V.int (y : Nat)) = decide (x ∈ ns)
  | [] => rfl
  | y :: ns => by
    have ih := inV_nat (x := x) (ns := ns)
    show (eqV (.int (y : Nat)) (.int (x : Nat)) || inV (.int (x : Nat)) (ns.map fun y => V.int (y : Nat))) = _
    rw [ih]
    have e : eqV (.int (y : Nat)) (.int (x : Nat)) = decide (y = x) := by
      show decide ((y : Int) = (x : Int)) = _
      exact decide_eq_decide.mpr Int.ofNat_inj
    rw [e]
    by_cases c : y = x
    · have z : x ∈ y :: ns := by
        rw [c]
        exact List.mem_cons_self ..
      rw [decide_eq_true c, decide_eq_true z]
      rfl
    · rw [decide_eq_false c, Bool.false_or]
      exact decide_eq_decide.mpr ⟨fun h => List.mem_cons_of_mem _ h, fun h => (List.mem_cons.mp h).resolve_left fun z => c z.symm⟩
theorem flat_nats (ns : List Nat) : (ns.map fun y => V.int (y : Nat)).all flatV = true := by
  rw [List.all_eq_true]
  intro v hv
  obtain ⟨y, _, rfl⟩ := List.mem_map.mp hv
  rfl
/-! ### digits: the mathematics -/
/-- k is the level of d at n -/
def IsLev (b n d k : Nat) : Prop := n / b ^ (k + 1) = d / b ^ (k + 1) ∧ ∀ j, j < k → n / b ^ (j + 1) ≠ d / b ^ (j + 1)
abbrev Row3 := Nat × Nat × Nat
/-- the stations below level k -/
def tailOf (b d : Nat) : Nat → List Row3
  | 0 => []
  | k + 1 => if d / b ^ k % b ≠ 0 then (k, d / b ^ k % b, d / b ^ (k + 1) * b ^ (k + 1)) :: tailOf b d k else tailOf b d k
/-- the stations of a timer set at n, k its level -/
def rowsOf (b n d k : Nat) : List Row3 := (k, d / b ^ k % b, n) :: tailOf b d k
theorem div_succ (n b k : Nat) : n / b ^ (k + 1) = n / b ^ k / b := by
  rw [Nat.pow_succ, Nat.div_div_eq_div_mul]
theorem pow_pos' {b : Nat} (h : 2 ≤ b) (k : Nat) : 0 < b ^ k := Nat.pow_pos (by omega)
theorem IsLev.uniq {b n d k k' : Nat} (h : IsLev b n d k) (h' : IsLev b n d k') : k = k' := by
  rcases Nat.lt_trichotomy k k' with l | l | l
  · exact absurd h.1 (h'.2 k l)
  · exact l
  · exact absurd h'.1 (h.2 k' l)
theorem IsLev.ne {b n d k : Nat} (h : IsLev b n d k) (hnd : n < d) : n / b ^ k < d / b ^ k := by
  cases k with
  | zero =>
    rw [Nat.pow_zero, Nat.div_one, Nat.div_one]
    exact hnd
  | succ j =>
    have h1 := h.2 j (Nat.lt_succ_self j)
    have h2 : n / b ^ (j + 1) ≤ d / b ^ (j + 1) := Nat.div_le_div_right (Nat.le_of_lt hnd)
    omega
theorem IsLev.size {b n d k : Nat} (h : IsLev b n d k) (hb : 2 ≤ b) (hnd : n < d) : b ^ k ≤ d := by
  have h1 := h.ne hnd
  have h2 : 0 < d / b ^ k := Nat.lt_of_le_of_lt (Nat.zero_le _) h1
  exact (Nat.div_pos_iff.mp h2).2
theorem IsLev.digit {b n d k : Nat} (h : IsLev b n d k) (hnd : n < d) : n / b ^ k % b < d / b ^ k % b := by
  have h1 := h.ne hnd
  have h2 := h.1
  rw [div_succ, div_succ] at h2
  have e1 := Nat.div_add_mod (n / b ^ k) b
  have e2 := Nat.div_add_mod (d / b ^ k) b
  rw [h2] at e1
  omega
theorem pow_two_le {b : Nat} (hb : 2 ≤ b) (k : Nat) : 2 ^ k ≤ b ^ k := Nat.pow_le_pow_left hb k
theorem lev_small {b n d k t : Nat} (h : IsLev b n d k) (hb : 2 ≤ b) (hnd : n < d) (hd : d < 2 ^ t) : k < t := by
  have h1 := h.size hb hnd
  have h2 := pow_two_le hb k
  exact (Nat.pow_lt_pow_iff_right (by decide : 1 < 2)).mp (Nat.lt_of_le_of_lt (Nat.le_trans h2 h1) hd)
/-- cutting below: what two cuts beside one another differ by -/
theorem cut_step (b d k : Nat) : d / b ^ k * b ^ k = d / b ^ (k + 1) * b ^ (k + 1) + d / b ^ k % b * b ^ k := by
  rw [div_succ]
  have e := Nat.div_add_mod (d / b ^ k) b
  have e2 : b ^ (k + 1) = b * b ^ k := by rw [Nat.pow_succ, Nat.mul_comm]
  rw [e2, ← Nat.mul_assoc, ← Nat.add_mul, Nat.mul_comm (d / b ^ k / b) b, e]
theorem cut_le (b d k : Nat) : d / b ^ k * b ^ k ≤ d := Nat.div_mul_le_self d (b ^ k)
theorem cut_mono (b d : Nat) {j k : Nat} (h : j ≤ k) : d / b ^ k * b ^ k ≤ d / b ^ j * b ^ j := by
  induction k with
  | zero =>
    have e : j = 0 := by omega
    rw [e]
    exact Nat.le_refl _
  | succ k ih =>
    by_cases e : j = k + 1
    · rw [e]
      exact Nat.le_refl _
    · have h1 := ih (by omega)
      have h2 := cut_step b d k
      omega
theorem lt_cut {b n d k : Nat} (hb : 2 ≤ b) (h : n / b ^ k < d / b ^ k) : n < d / b ^ k * b ^ k := by
  have hp := pow_pos' hb k
  exact (Nat.div_lt_iff_lt_mul hp).mp h
theorem tail_len (b d : Nat) : ∀ k, (tailOf b d k).length ≤ k
  | 0 => Nat.le_refl _
  | k + 1 => by
    have ih := tail_len b d k
    unfold tailOf
    split
    · rw [List.length_cons]
      omega
    · omega
/-- a later tick that lies ahead of the next cut has the same level -/
theorem IsLev.later {b n d k t : Nat} (hb : 2 ≤ b) (h : IsLev b n d k) (hnd : n < d) (h1 : n ≤ t) (h2 : t < d / b ^ k * b ^ k) : IsLev b t d k := by
  have hp := pow_pos' hb k
  have hp1 := pow_pos' hb (k + 1)
  have htd : t < d := Nat.lt_of_lt_of_le h2 (cut_le b d k)
  refine ⟨?_, fun j hj => ?_⟩
  · have a1 : n / b ^ (k + 1) ≤ t / b ^ (k + 1) := Nat.div_le_div_right h1
    have a2 : t / b ^ (k + 1) ≤ d / b ^ (k + 1) := Nat.div_le_div_right (Nat.le_of_lt htd)
    have a3 := h.1
    omega
  · have a1 : t / b ^ k < d / b ^ k := (Nat.div_lt_iff_lt_mul hp).mpr h2
    intro e
    have e2 : k = (j + 1) + (k - (j + 1)) := by omega
    rw [e2, Nat.pow_add, ← Nat.div_div_eq_div_mul, ← Nat.div_div_eq_div_mul, e] at a1
    omega
/-! ### rules that the layer lacks: min(.., default=None), sorted of a dict with pairs of ints as its keys -/
theorem minOf_spec : ∀ (x : Int) (xs : List Int), PySem.W.minOf x xs ∈ x :: xs ∧ ∀ y ∈ x :: xs, PySem.W.minOf x xs ≤ y := by
  intro x xs
  unfold PySem.W.minOf
  induction xs generalizing x with
  | nil =>
    refine ⟨List.mem_cons_self .., fun y hy => ?_⟩
    rcases List.mem_cons.mp hy with e | hy
    · rw [e]
      exact Int.le_refl _
    · cases hy
  | cons z zs ih =>
    have e : (PySem.W.DatumOrd.lt z x = true) ↔ z < x := by
      show decide (z < x) = true ↔ z < x
      exact decide_eq_true_iff
    rw [List.foldl_cons]
    obtain ⟨h1, h2⟩ := ih (if PySem.W.DatumOrd.lt z x = true then z else x)
    refine ⟨?_, fun y hy => ?_⟩
    · rcases List.mem_cons.mp h1 with e1 | h1
      · rw [e1]
        split
        · exact List.mem_cons_of_mem _ (List.mem_cons_self ..)
        · exact List.mem_cons_self ..
      · exact List.mem_cons_of_mem _ (List.mem_cons_of_mem _ h1)
    · have h3 := h2 _ (List.mem_cons_self ..)
      rcases List.mem_cons.mp hy with e1 | hy
      · rw [e1]
        by_cases c : z < x
        · rw [if_pos (e.mpr c)] at h3 ⊢
          omega
        · rw [if_neg (fun q => c (e.mp q))] at h3 ⊢
          exact h3
      · rcases List.mem_cons.mp hy with e1 | hy
        · rw [e1]
          by_cases c : z < x
          · rw [if_pos (e.mpr c)] at h3 ⊢
            exact h3
          · rw [if_neg (fun q => c (e.mp q))] at h3 ⊢
            omega
        · exact h2 y (List.mem_cons_of_mem _ hy)
def rMinD (K : PySem.W.Frag) : List V → List V → Hp → VK → Prop := fun vs zs H Q => ∃ (a : Addr) (ns : List Int), vs = [V.ref a] ∧ zs = [.non] ∧ SqL K H a (ns.map V.int) ∧ (ns = [] → Q .non H) ∧ ∀ v ∈ ns, (∀ x ∈ ns, v ≤ x) → Q (.int v) H
section
variable {X : Cx} {K : PySem.W.Frag}
theorem minDef (e : X.K = K) (hc : X.calm = true) (hu : X.A.units + 64 < cLine) : CallRK X (.builtin "min") [Str.ofString "default"] (rMinD K) := by
  subst e
  intro pins s σ H vs zs us ws Q I r rz h
  obtain ⟨a, ns, rfl, rfl, hs, q0, q1⟩ := h
  obtain ⟨its, rv, hl, hz⟩ := I.list hs
  obtain ⟨w1, rfl, e1⟩ := vals1 rz
  obtain rfl : w1 = Value.none := e1
  rw [Vals.ref1 r]
  have hi := rv.ints
  refine PySem.W.min_list_datum_default (α := Int) (xs := ns) (I.ok.hd hc) hl.isList (PySem.W.HoldAll.of_ints hi) (by show X.A.units + 1 + 0 < cLine; omega) (fun en h' tk hk => ?_) (fun y ys i v h' tk en hv hh hk => ?_)
  · exact ⟨.non, H, I.kept hk, rfl, q0 en⟩
  · obtain ⟨as, hr⟩ := hh
    have hm := minOf_spec y ys
    have ev : ∃ t, v = Value.int (PySem.W.minOf y ys) t := by
      cases hr
      exact ⟨_, rfl⟩
    obtain ⟨t, rfl⟩ := ev
    subst en
    exact ⟨.int _, H, I.kept hk, ⟨_, rfl⟩, q1 _ hm.1 hm.2⟩
end
/-! ### exceptions: defs that may raise, any value as an argument -/
section
variable {P : Program} {w : World} {K : PySem.W.Frag} {mg : Str → Option Value} {base : Heap}
/-- as Has, for a def that may raise -/
def HasX (P : Program) (w : World) (K : PySem.W.Frag) (mg : Str → Option Value) (base : Heap) (k : Nat) (x : Str) (ps : List Str) (dvs : List V) (sp : Sp) : Prop :=
  ∃ (f : Addr) (fd : FuncData) (ds : List Value), FnOk P w K mg base (L2.CX P w) k f fd ps sp ∧ mg x = some (.ref f) ∧ PySem.W.keepIn K (.ref f) = true ∧ Binds K fd ps ds ∧ Vals dvs ds
def HasMX (P : Program) (w : World) (K : PySem.W.Frag) (mg : Str → Option Value) (base : Heap) (k : Nat) (C : Addr) (m : Str) (ps : List Str) (dvs : List V) (sp : Sp) : Prop :=
  ∃ (f : Addr) (fd : FuncData) (ds : List Value), FnOk P w K mg base (L2.CX P w) k f fd ps sp ∧ Meth K C m f ∧ Binds K fd ps ds ∧ Vals dvs ds
theorem Df.hasX {k : Nat} {x : Str} {st : Stmt} {ps : List Str} {sp : Sp} (D : Df K mg x st ps) (ok : ∀ f fd, Fun K x x st f fd → FnOk P w K mg base (L2.CX P w) k f fd ps sp) : HasX P w K mg base k x ps [] sp := by
  obtain ⟨f, fd, F, m, b⟩ := D
  exact ⟨f, fd, [], ok f fd F, m, F.kp, b, .nil⟩
theorem Dd.hasX {k : Nat} {x : Str} {st : Stmt} {ps : List Str} {d : V} {sp : Sp} (D : Dd K mg x st ps d) (ok : ∀ f fd, FunD K x x (defArgs st) (defBody st) (defScope st) [d] [] f fd → FnOk P w K mg base (L2.CX P w) k f fd ps sp) :
    HasX P w K mg base k x ps [d] sp ∧ HasX P w K mg base k x ps [] sp := by
  obtain ⟨f, fd, F, m, ⟨ds, r, b⟩, b0⟩ := D
  exact ⟨⟨f, fd, ds, ok f fd F, m, F.kp, b, r⟩, ⟨f, fd, [], ok f fd F, m, F.kp, b0, .nil⟩⟩
/-- what the top leaves of an error's class -/
structure EC (K : PySem.W.Frag) (mg : Str → Option Value) (x : Str) (C : Addr) : Prop where
  g : mg x = some (.ref C)
  x : PySem.W.excIn K C [.type "ValueError", .type "Exception", .type "BaseException", .type "object"] "ValueError.__new__" = true
  k : PySem.W.keepIn K (.ref C) = true
  b : PySem.W.subIn K (.ref C) (.type "BaseException") = some true
  t : PySem.W.typeIn K (.ref C) = some (.type "type")
/-- a class by its name alone -/
structure EG (mg : Str → Option Value) (x : Str) (C : Addr) : Prop where
  g : mg x = some (.ref C)
/-- of which types what is no integer may be -/
inductive NoIntT : Value → Prop where
  | non : NoIntT (.type "NoneType")
  | bool : NoIntT (.type "bool")
  | str : NoIntT (.type "str")
  | flt : NoIntT (.type "float")
  | byt : NoIntT (.type "bytes")
  | list : NoIntT (.type "list")
  | tup : NoIntT (.type "tuple")
  | dict : NoIntT (.type "dict")
  | set : NoIntT (.type "set")
/-- what is no integer: any value but an int, a bool too -/
def NoInt (K : PySem.W.Frag) (H : Hp) (x : V) : Prop := ∃ t, TyX K H x t ∧ NoIntT t
theorem NoIntT.kit {t : Value} (h : NoIntT t) : (∃ i b, PySem.W.kitOne K t (.type "int") = some i ∧ PySem.W.kitOne K t (.type "bool") = some b ∧ (i = true → b = true)) := by
  cases h <;> first
    | exact ⟨false, false, kit_ty (by decide +kernel), kit_ty (by decide +kernel), fun z => by cases z⟩
    | exact ⟨true, true, kit_ty (by decide +kernel), kit_ty (by decide +kernel), fun _ => rfl⟩
section
variable {H : Hp}
theorem NoInt.of_non : NoInt K H .non := ⟨_, .base .non, .non⟩
theorem NoInt.of_bl (b : Bool) : NoInt K H (.bl b) := ⟨_, .base (.bl b), .bool⟩
theorem NoInt.of_str (s : Str) : NoInt K H (.str s) := ⟨_, .base (.str s), .str⟩
theorem NoInt.of_lst {a : Addr} {xs : List V} (e : H a = some (.lst xs)) : NoInt K H (.ref a) := ⟨_, .base (.lst e), .list⟩
theorem NoInt.of_tup {a : Addr} {xs : List V} (e : H a = some (.tup xs)) : NoInt K H (.ref a) := ⟨_, .base (.tup e), .tup⟩
theorem NoInt.of_dK {a : Addr} {kvs : List (Key × V)} (e : H a = some (.dK kvs)) : NoInt K H (.ref a) := ⟨_, .base (.dK e), .dict⟩
end
end
section
variable {X : Cx} {K : PySem.W.Frag}
theorem op_notInK (e : X.K = K) : OpR X (compareOp .NotIn) (rIn K true) := by subst e; exact op_notIn_seq
end
/-- what an error was made of stands at a; isinstance(e, X) of it -/
def rIsEX (K : PySem.W.Frag) (cls : Value) (d : Option Addr) (a : Addr) : List V → Hp → VK → Prop := fun xs H Q => ∃ D, cls = .ref D ∧ d = none ∧ ExcC K D ∧ rIsE K D a xs H Q
theorem isiE {X : Cx} {a : Addr} {cls : Value} {d : Option Addr} {oe : Obj} {pn : List (Addr × Obj)} (hz : Zc cls d oe) (hf : ∃ vs, oe.data = .fields vs) : CallR (X.suite a ((a, oe) :: pn)) (.builtin "isinstance") (rIsEX X.K cls d a) := by
  intro pins s σ H xs us Q I r h
  obtain ⟨D, rfl, rfl, hC, h⟩ := h
  exact call_isE hC hz hf pins s σ H xs us Q I r h
section
variable {X : Cx} {CX : CXT} {k : Nat} {f C : Addr} {fd : FuncData} {ps : List Str} {sp : Sp} {E : L2.St → XK} {m : Str} {pos apos : Pos} {e o : Expr} {es : List Expr} {ta : TE} {t : TA}
/-- o.m(e, ..) that may raise, the wish told at the slots of the moment -/
def tMethS (C : Addr) (m : Str) (sp : Sp) (E : L2.St → XK) (ta : TE) (t : TA) : TE := fun σ H Q => ta σ H fun x H1 => ∃ a dx fs, x = .ref a ∧ H1 a = some (.ins C dx fs) ∧ fs.lookup m = none ∧
  t σ H1 fun vs H2 => sp (x :: vs) H2 Q (E σ)
theorem pe_methS {pl : Sem Bool} (he : PE X o ta) (c : Cls X.K C) (hm : Meth X.K C m f) (F : FnOk X.prog X.w X.K X.mg X.base CX k f fd ps sp) (hr : Room k X.A) (hb : Binds X.K fd ps []) (hx : ∀ σ, PassesAt CX X σ (E σ)) (ha : PA X (e :: es) t)
    (hst : starEach (e :: es) X.env = (false, eval e X.env) :: starEach es X.env := by rfl) (hpl : (backTo pos (starEach es X.env)).any (·.1) = false := by rfl)
    (ht : eval (.Call (.Attribute o m apos) (e :: es) [] pos) X.env = (do
      let ov ← eval o X.env
      standAt apos.atName
      let (f, first) ← holding [ov] (getMethod ov m pl)
      callWith pos f first (backTo pos (starEach (e :: es) X.env)) (backToKw pos (keywordEach [] X.env))) := by rfl) :
    PE X (.Call (.Attribute o m apos) (e :: es) [] pos) (tMethS C m sp E ta t) := by
  refine ⟨fun pins s σ H Q I h => ?_⟩
  refine PySem.W.methodCall_KW (pl := pl) (thn (he.run pins s σ H _ I h) fun u s1 ⟨x, H1, I1, rx, a, dx, fs, ex, ea, l, q⟩ => ?_) ht
  subst ex
  obtain rfl : u = Value.ref a := rx
  refine getmeth_ok I1 ea c hm l ?_
  refine PySem.W.callWith_K (first := [.ref a]) (h₀ := X.base) I.ok.mod.kin hm.kp (thn (ha.run pos pins s1 σ H1 _ I1 q) fun us s2 ⟨vs, H2, I2, r, q2⟩ => ⟨I2.kIn, ?_⟩) hst hpl
  exact run_fnS (us := .ref a :: us) (vs := .ref a :: vs) F hr hb (hx σ) I2 (.cons rfl r) q2
end
/-! ### for i, x in enumerate(xs) -/
theorem for_enumK {K : PySem.W.Frag} {a : Addr} {xs : List V} {g : TG} {tb : TS} {D : Ends} {σ : L2.St} {H : Hp} (Pv : Nat → L2.St → Hp → Prop) (h0 : Pv 0 σ H) (hq : ∀ i σ H, Pv i σ H → SqL K H a xs)
    (hs : ∀ (i : Nat) (x : V) (T : Addr) (σ : L2.St) (H : Hp), xs[i]? = some x → Pv i σ H → H T = none → g (.ref T) σ (upd H T (.tup [.int (i : Nat), x])) fun σ2 H2 => tb { D with nx := Pv (i + 1), ct := Pv (i + 1), bk := D.nx } σ2 H2) (hd : ∀ σ H, Pv xs.length σ H → D.nx σ H) :
    ∃ W : Nat → Nat → L2.St → Hp → Prop, (∃ m, W 0 m σ H) ∧ ∀ i m σ H, W i m σ H →
      ((Ite K a).stop i H ∧ D.nx σ H) ∨ ((Ite K a).go i H ∧ ∃ N : L2.St → Hp → Prop, (∀ σ' H', N σ' H' → ∃ m', m' < m ∧ W (i + 1) m' σ' H') ∧ ∀ v H', (Ite K a).yld i H v H' → g v σ H' fun σ2 H2 => tb { D with nx := N, ct := N, bk := D.nx } σ2 H2) := by
  refine ⟨fun i m σ H => m = xs.length - i ∧ i ≤ xs.length ∧ Pv i σ H, ⟨xs.length, rfl, Nat.zero_le _, h0⟩, ?_⟩
  rintro i m σ H ⟨rfl, hi, p⟩
  have qx := hq i σ H p
  by_cases hlt : i < xs.length
  · have hx : xs[i]? = some xs[i] := List.getElem?_eq_getElem hlt
    refine .inr ⟨⟨xs, xs[i], qx, hx⟩, Pv (i + 1), fun σ' H' p' => ⟨xs.length - (i + 1), by omega, rfl, hlt, p'⟩, fun v H' y => ?_⟩
    obtain ⟨T, x, rfl, nT, rfl, f⟩ := y
    have ex : x = xs[i] := Option.some.inj ((f xs qx).symm.trans hx)
    subst ex
    exact hs i _ T σ H hx p nT
  · have e : i = xs.length := by omega
    subst e
    exact .inl ⟨⟨xs, qx, Nat.le_refl _⟩, hd σ H p⟩
/-- a list made over a tuple -/
theorem lc_tup {K : PySem.W.Frag} {a : Addr} {xs : List V} {g : TG} {tt : TT} {te : TE} {ws : List Nat} {σ : L2.St} {G : Hp} {D : Addr} {Qd : Hp → Prop} (Pv : Nat → Hp → Prop) (start : Pv 0 (upd G D (.lst []))) (lock : ∀ i G, Pv i G → SqT K G a xs)
    (step : ∀ (i : Nat) (x : V) (G : Hp), xs[i]? = some x → Pv i G → g x (wipe σ ws) G fun τ G2 => wipe τ ws = wipe σ ws ∧ tt τ G2 fun c G3 => if c = true then te τ G3 fun z G4 => ∃ ac, G4 D = some (.lst ac) ∧ ac.length < sizeLine ∧ Pv (i + 1) (upd G4 D (.lst (ac ++ [z]))) else Pv (i + 1) G3)
    (last : ∀ G, Pv xs.length G → Qd G) : ∃ W : Nat → Nat → Hp → Prop, (∃ m, W 0 m (upd G D (.lst []))) ∧ ∀ i m G, W i m G → ((Itt K a).stop i G ∧ Qd G) ∨
      ((Itt K a).go i G ∧ ∃ N : Hp → Prop, (∀ G', N G' → ∃ m', m' < m ∧ W (i + 1) m' G') ∧ ∀ x G', (Itt K a).yld i G x G' → g x (wipe σ ws) G' fun τ G2 => wipe τ ws = wipe σ ws ∧ tt τ G2 fun c G3 => if c = true then te τ G3 fun z G4 => ∃ ac, G4 D = some (.lst ac) ∧ ac.length < sizeLine ∧ N (upd G4 D (.lst (ac ++ [z]))) else N G3) := by
  refine ⟨fun i m G => (m = xs.length - i ∧ i ≤ xs.length) ∧ Pv i G, ⟨xs.length, ⟨rfl, Nat.zero_le _⟩, start⟩, ?_⟩
  rintro i m G ⟨⟨rfl, le⟩, pv⟩
  have here := lock i G pv
  rcases Nat.lt_or_ge i xs.length with lt | ge
  · refine .inr ⟨⟨xs, xs[i], here, List.getElem?_eq_getElem lt⟩, Pv (i + 1), fun G' p' => ⟨xs.length - (i + 1), by omega, ⟨rfl, lt⟩, p'⟩, fun x G' y => ?_⟩
    obtain ⟨rfl, hx⟩ := y
    exact step i x G' (hx xs here) pv
  · have e : i = xs.length := Nat.le_antisymm le ge
    rw [e] at pv ⊢
    exact .inl ⟨⟨xs, here, Nat.le_refl _⟩, last G pv⟩
/-! ### bits of numbers that are never negative -/
theorem nat_xor_add (m : Nat) : ∀ n : Nat, (m ^^^ n) + 2 * (m &&& n) = m + n := by
  induction m using Nat.strongRecOn with
  | ind m ih =>
    intro n
    by_cases h0 : m = 0
    · subst h0
      simp
    · have ih' := ih (m / 2) (by omega) (n / 2)
      rw [← Nat.xor_div_two, ← Nat.and_div_two] at ih'
      have o1 := @Nat.xor_mod_two_eq_one m n
      have a1 := @Nat.and_mod_two_eq_one m n
      omega
theorem cast_bit {n m : Nat} : Builtin.bitAnd (n : Int) (m : Int) = ((n &&& m : Nat) : Int) := by
  rw [PyProof.Rows.bitAnd_pp (Int.natCast_nonneg _) (Int.natCast_nonneg _), Int.toNat_natCast, Int.toNat_natCast]
section
variable {X : Cx}
theorem op_bxN : OpR X (binaryOp .BitXor) (fun x y H Q => ∃ n m : Nat, x = .int (n : Int) ∧ y = .int (m : Int) ∧ Q (.int ((n ^^^ m : Nat) : Int)) H) := by
  intro pins s σ H x y v u Q I rx ry h
  obtain ⟨n, m, rfl, rfl, q⟩ := h
  have e : Builtin.bitXor (n : Int) (m : Int) = ((n ^^^ m : Nat) : Int) := by
    rw [bitXor_and, cast_bit]
    have := nat_xor_add n m
    omega
  rw [← e] at q
  exact op_xor pins s σ H _ _ v u Q I rx ry ⟨_, _, rfl, rfl, q⟩
theorem op_baN : OpR X (binaryOp .BitAnd) (fun x y H Q => ∃ n m : Nat, x = .int (n : Int) ∧ y = .int (m : Int) ∧ Q (.int ((n &&& m : Nat) : Int)) H) := by
  intro pins s σ H x y v u Q I rx ry h
  obtain ⟨n, m, rfl, rfl, q⟩ := h
  rw [← cast_bit] at q
  exact op_and pins s σ H _ _ v u Q I rx ry ⟨_, _, rfl, rfl, q⟩
theorem op_boN : OpR X (binaryOp .BitOr) (fun x y H Q => ∃ n m : Nat, x = .int (n : Int) ∧ y = .int (m : Int) ∧ Q (.int ((n ||| m : Nat) : Int)) H) := by
  intro pins s σ H x y v u Q I rx ry h
  obtain ⟨n, m, rfl, rfl, q⟩ := h
  have e : Builtin.bitOr (n : Int) (m : Int) = ((n ||| m : Nat) : Int) := by
    rw [PyProof.Rows.bitOr_and, cast_bit]
    have := PyProof.Rows.nat_or_add_and n m
    omega
  rw [← e] at q
  exact op_or pins s σ H _ _ v u Q I rx ry ⟨_, _, rfl, rfl, q⟩
theorem op_bsN : OpR X (binaryOp .RShift) (fun x y H Q => ∃ n k : Nat, x = .int (n : Int) ∧ y = .int (k : Int) ∧ Q (.int ((n / 2 ^ k : Nat) : Int)) H) := by
  intro pins s σ H x y v u Q I rx ry h
  obtain ⟨n, k, rfl, rfl, q⟩ := h
  refine op_shrN pins s σ H _ _ v u Q I rx ry ⟨_, k, rfl, rfl, ?_⟩
  have e : (n : Int) / 2 ^ k = ((n / 2 ^ k : Nat) : Int) := by
    rw [Int.natCast_ediv, PySem.W.kbt_cast]
  rw [e]
  exact q
theorem op_blN : OpR X (binaryOp .LShift) (fun x y H Q => ∃ k : Nat, x = .int 1 ∧ y = .int (k : Int) ∧ k ≤ 1000 ∧ Q (.int ((2 ^ k : Nat) : Int)) H) := by
  intro pins s σ H x y v u Q I rx ry h
  obtain ⟨k, rfl, rfl, hk, q⟩ := h
  refine op_oneShl pins s σ H _ _ v u Q I rx ry ⟨k, rfl, rfl, by omega, ?_⟩
  rw [← PySem.W.kbt_cast]
  exact q
end
/-- whether a bit is set -/
theorem bit_odd (m j : Nat) : m / 2 ^ j &&& 1 = (if m.testBit j = true then 1 else 0) := by
  rw [Nat.and_one_is_mod, Nat.testBit_eq_decide_div_mod_eq]
  split
  · rename_i h
    exact of_decide_eq_true h
  · rename_i h
    have h2 : ¬ m / 2 ^ j % 2 = 1 := fun z => h (decide_eq_true z)
    omega
/-! ### enumerate(list, 1) -/
def Ite1 (K : PySem.W.Frag) (a : Addr) : It :=
  ⟨fun i H => ∃ (xs : List V) (x : V), SqL K H a xs ∧ xs[i]? = some x, fun i H v H' => ∃ T x, v = .ref T ∧ H T = none ∧ H' = upd H T (.tup [.int ((i + 1 : Nat) : Int), x]) ∧ ∀ xs, SqL K H a xs → xs[i]? = some x, fun i H => ∃ xs : List V, SqL K H a xs ∧ xs.length ≤ i⟩
theorem turn_enum1 {P : Program} {w : World} {K : PySem.W.Frag} {elts : List Expr} {kk : Nat} {tpos : Pos} (a e it : Addr) :
    Turn P w K (.Tuple elts kk tpos) (Ite1 K a) [e, it] e (fun i h => (∃ old, IsEnum h e it ((i + 1 : Nat) : Int) old) ∧ h.IsListIter it a i ∧ e ≠ it) where
  mem := by simp
  obj := fun i h st b hb => by
    obtain ⟨⟨old, he⟩, ⟨o, ho, hc, hd⟩, _⟩ := st
    have e' : b = e ∨ b = it := by simpa using hb
    rcases e' with z | z
    · rw [z]; exact ⟨_, he, fun v q => nomatch q⟩
    · rw [z]; exact ⟨o, ho, fun v q => by rw [hd] at q; cases q⟩
  keep := fun i h h' st k => let ⟨⟨old, he⟩, hi, hne⟩ := st; ⟨⟨old, k e (by simp) _ he⟩, hi.at fun o q => k it (by simp) o q, hne⟩
  item := by
    intro X hP hw hK hc i pins s σ H E I hf st hg
    subst hP hw hK
    obtain ⟨⟨old, he⟩, hit, hne⟩ := st
    obtain ⟨xs, x, hq, hx⟩ := hg
    obtain ⟨its, rv, p, hz⟩ := I.list hq
    obtain ⟨u, hu, ru⟩ := rv.get hx
    have hel : e < s.heap.objs.size := Heap.lt_size he
    have hil : it < s.heap.objs.size := by obtain ⟨_, q, _⟩ := hit; exact Heap.lt_size q
    have ai : a ≠ it := fun z => by
      obtain ⟨o, ho, _, hd⟩ := hit
      obtain ⟨o2, ho2, _, n, hd2⟩ := p.isList
      rw [z, ho] at ho2
      cases ho2
      rw [hd] at hd2
      cases hd2
    have ae : e ∉ [it, a] := fun z => by
      rcases List.mem_cons.mp z with z | z
      · exact hne z
      · obtain ⟨o2, ho2, _, n, hd2⟩ := p.isList
        rw [← List.mem_singleton.mp z, he] at ho2
        cases ho2
        cases hd2
    have D := Draws.list (prog := X.prog) (w := X.w) (A := X.A.in1) (show X.A.in1.handled = none from I.ok.hd hc) it a ai its.toArray
    refine wpAny_pyNext_enum_itemC D he ⟨hit, p.isList⟩ (by have := (List.getElem?_eq_some_iff.mp hu).1; simpa using this) hne ae fun u2 h' tk hu2 ho hst hT hsz hk => ?_
    have hit' := hst.1
    have eu : u2 = u := by
      have hu2 : its.toArray[i]? = some u2 := hu2
      rw [List.getElem?_toArray, hu] at hu2
      exact (Option.some.inj hu2).symm
    subst eu
    refine ⟨_, rfl, wpAny_letOwnedTupleGo_enum (s := { s with heap := h', toks := tk + 1 }) ho fun h'' he' sb => ?_⟩
    have hT2 : h''.get? s.heap.objs.size = some { cls := .type "tuple", data := .seq #[.int ((i + 1 : Nat) : Int) tk, u2] } := (sb.2 _ (Nat.ne_of_gt hel)).trans hT
    have new : ObjOk X.prog X.w (upd H s.heap.objs.size (.tup [.int ((i + 1 : Nat) : Int), x])) h'' s.heap.objs.size (.tup [.int ((i + 1 : Nat) : Int), x]) :=
      ⟨by show 2 ≤ sizeLine; decide, [.int ((i + 1 : Nat) : Int) tk, u2], .cons ⟨_, rfl⟩ (.cons ru .nil), ⟨_, hT2, rfl, _, rfl⟩⟩
    have I1 : Inv X pins σ (upd H s.heap.objs.size (.tup [.int ((i + 1 : Nat) : Int), x])) { s with heap := h'', toks := tk + 1 } :=
      I.turnedNew (ch := [e, it]) (fun b ob hb q => (sb.2 b (fun z => hb (by simp [z]))).trans (hk b ob (fun z => hb (by simp [z])) (fun z => hb (by simp [z])) q)) hf (Nat.le_refl _) new
    refine ⟨.ref s.heap.objs.size, _, I1, rfl, ⟨_, x, rfl, I.hok.fresh (Nat.le_refl _), rfl, fun ys hy => by rw [I.list_inj hy hq]; exact hx⟩, ⟨⟨u2, ?_⟩, hit'.at fun o q => (sb.2 it (Ne.symm hne)).trans q, hne⟩, fun b hb => ?_⟩
    · have e1 : ((i + 1 + 1 : Nat) : Int) = ((i + 1 : Nat) : Int) + 1 := by omega
      rw [e1]; exact he'
    · have hb' : b < s.heap.objs.size := by
        have e' : b = e ∨ b = it := by simpa using hb
        rcases e' with z | z
        · rw [z]; exact hel
        · rw [z]; exact hil
      rw [upd_ne (Nat.ne_of_lt hb')]
      exact (hf b hb).1
  done := by
    intro X hP hw hK hc i pins s σ H E I hf st hg
    subst hP hw hK
    obtain ⟨⟨old, he⟩, hit, hne⟩ := st
    obtain ⟨xs, hq, hx⟩ := hg
    obtain ⟨its, rv, p, hz⟩ := I.list hq
    obtain ⟨f0, f1, f2, f3, f4, f5⟩ := hf it (by simp)
    have hl := rv.length
    have ai : a ≠ it := fun z => by
      obtain ⟨o, ho, _, hd⟩ := hit
      obtain ⟨o2, ho2, _, n, hd2⟩ := p.isList
      rw [z, ho] at ho2
      cases ho2
      rw [hd] at hd2
      cases hd2
    have hh : X.A.in1.handled = none := I.ok.hd hc
    unfold pyNext
    have hT : s.TypeIs (.ref e) "enumerate" := ⟨_, he, rfl⟩
    refine wpAny_bind (wpAny_attempt (wpAny_callSpecial?_slot (name := Str.ofString "__next__") hT F.slot_enumerate_next
      (wpAny_call_entry F.slot_enumerate_next hT F.entry_enumerate_next ?_ (F.args_enumerate_next_1 _))))
    show wpAny _ _ (field (.ref e) 2 >>= _) _ _ _
    refine wpAny_bind (wpAny_field he rfl (x := .ref it) rfl ?_)
    refine wpAny_bind (wpAny_nextOf_list_end (A := X.A.in1) hh hit p.isList (by simp; omega) fun h' x eb hx' => ?_)
    obtain ⟨o, ho, hcl⟩ := hx'
    refine wpAny_bind (wpAny_isInstance (T := "StopIteration") (b := true) ⟨o, ho, hcl⟩ isSubtype_stop ?_)
    exact wpAny_pure ⟨rfl, I.turned (t' := s.toks) (fun b o hb q => eb b o hb q) f0 f1 f3 f4 f5⟩
  self := fun A i s Q E st h => let ⟨⟨_, he⟩, _⟩ := st; wpAny_pyIter_enum he h
def iEnum1 (K : PySem.W.Frag) (ta : TA) : TI := fun σ H R => ta σ H fun vs H1 => ∃ a xs, vs = [.ref a, .int 1] ∧ SqL K H1 a xs ∧ R (Ite1 K a) H1
theorem pi_enum1 {X : Cx} {a b : Expr} {ta : TA} {p pos tpos : Pos} {elts : List Expr} {kk : Nat} (hg : Gl X "enumerate") (hm : X.mg "enumerate" = none) (ha : PA X [a, b] ta) (hs : starEach [a, b] X.env = [(false, eval a X.env), (false, eval b X.env)] := by rfl) (hs2 : starEach [b] X.env = [(false, eval b X.env)] := by rfl) :
    PI X (.Tuple elts kk tpos) (.Call (.Name "enumerate" p) [a, b] [] pos) (iEnum1 X.K ta) := by
  refine ⟨fun pins s σ H R I h => ?_⟩
  refine Call_ (ld_blt I hg hm boot_enumerate (PyProof.Rows.callWith_type1 (thn (ha.run pos pins s σ H _ I h) fun us s1 ⟨vs, H1, I1, r1, q1⟩ => ?_) (by rw [hs, hs2]) (by rw [hs2]; rfl)))
  obtain ⟨a, xs, ex, hq, q⟩ := q1
  subst ex
  cases r1 with
  | cons r rr =>
    cases rr with
    | cons r' rr =>
      cases rr
      cases r
      obtain ⟨t', rfl⟩ := r'
      obtain ⟨its, rv, p', hz⟩ := I1.list hq
      refine enum_begins (begins_list a its.toArray) p'.isList (by decide) (by decide) fun h' he hit hsz hk => wpAny_pyIter_enum he ?_
      have I2 : Inv X pins σ H1 { s1 with heap := h' } := I1.kept (t' := s1.toks) hk
      refine ⟨s1.heap.objs.size + 1, [s1.heap.objs.size + 1, s1.heap.objs.size], _, _, H1, rfl, I2, turn_enum1 a (s1.heap.objs.size + 1) s1.heap.objs.size, ⟨⟨.none, he⟩, ⟨_, hit, rfl, rfl⟩, Nat.succ_ne_self _⟩, fun b hb => ?_, q⟩
      have e' : b = s1.heap.objs.size + 1 ∨ b = s1.heap.objs.size := by simpa using hb
      have hle : s1.heap.objs.size ≤ b := by
        rcases e' with z | z
        · rw [z]; exact Nat.le_add_right _ _
        · rw [z]; exact Nat.le_refl _
      exact I1.fpOk hle (I1.hok.fresh hle)
/-- the turns of enumerate(xs, 1) -/
theorem for_enum1 {K : PySem.W.Frag} {a : Addr} {xs : List V} {g : TG} {tb : TS} {D : Ends} {σ : L2.St} {H : Hp} (Pv : Nat → L2.St → Hp → Prop) (h0 : Pv 0 σ H) (hq : ∀ i σ H, Pv i σ H → SqL K H a xs)
    (hs : ∀ (i : Nat) (x : V) (T : Addr) (σ : L2.St) (H : Hp), xs[i]? = some x → Pv i σ H → H T = none → g (.ref T) σ (upd H T (.tup [.int ((i + 1 : Nat) : Int), x])) fun σ2 H2 => tb { D with nx := Pv (i + 1), ct := Pv (i + 1), bk := D.nx } σ2 H2) (hd : ∀ σ H, Pv xs.length σ H → D.nx σ H) :
    ∃ W : Nat → Nat → L2.St → Hp → Prop, (∃ m, W 0 m σ H) ∧ ∀ i m σ H, W i m σ H →
      ((Ite1 K a).stop i H ∧ D.nx σ H) ∨ ((Ite1 K a).go i H ∧ ∃ N : L2.St → Hp → Prop, (∀ σ' H', N σ' H' → ∃ m', m' < m ∧ W (i + 1) m' σ' H') ∧ ∀ v H', (Ite1 K a).yld i H v H' → g v σ H' fun σ2 H2 => tb { D with nx := N, ct := N, bk := D.nx } σ2 H2) := by
  refine ⟨fun i m σ H => m = xs.length - i ∧ i ≤ xs.length ∧ Pv i σ H, ⟨xs.length, rfl, Nat.zero_le _, h0⟩, ?_⟩
  rintro i m σ H ⟨rfl, hi, p⟩
  have qx := hq i σ H p
  by_cases hlt : i < xs.length
  · have hx : xs[i]? = some xs[i] := List.getElem?_eq_getElem hlt
    refine .inr ⟨⟨xs, xs[i], qx, hx⟩, Pv (i + 1), fun σ' H' p' => ⟨xs.length - (i + 1), by omega, rfl, hlt, p'⟩, fun v H' y => ?_⟩
    obtain ⟨T, x, rfl, nT, rfl, f⟩ := y
    have ex : x = xs[i] := Option.some.inj ((f xs qx).symm.trans hx)
    subst ex
    exact hs i _ T σ H hx p nT
  · have e : i = xs.length := by omega
    subst e
    exact .inl ⟨⟨xs, qx, Nat.le_refl _⟩, hd σ H p⟩
/-! ### set(xs), xs a list of whole numbers: a set whose members and number are known, that can be sorted -/
abbrev set0 (w : World) : Obj := { cls := .type "set", dict := none, data := .set #[] 0 (.fresh 0 0 (!w.params.followText "set-order")) }
def SetMade (w : World) (s : Shared) (ns : List Int) (s2 : Shared) : Prop := ∃ (h2 : Heap) (tk c : Nat), s2 = { s with heap := h2, toks := tk } ∧ SetR w h2 s.heap.objs.size (fun j => decide (j ∈ ns)) c ∧ c ≤ ns.length ∧ ∀ b o, s.heap.get? b = some o → h2.get? b = some o
section
variable {P : Program} {w : World} {A : Around} {E : Value → Shared → Prop} {s : Shared}
/-- the new set is filled from the list -/
theorem setL_init {l : Addr} {items : Array Value} {ns : List Int} (hh : A.handled = none) (hl : s.heap.IsList l items) (hi : IntsAre items.toList ns) (hb : ns.length + 1 < scanBound) :
    codeAny (model P w) A (.call (.builtin "set.__init__") ⟨[.ref s.heap.objs.size, .ref l], []⟩) (wants (fun r s2 => r = .none ∧ SetMade w s ns s2) E) { s with heap := s.heap.push (set0 w) } := by
  have size : items.size = ns.length := by
    have q := IntsAre.length hi
    simpa using q
  have here : (s.heap.push (set0 w)).get? s.heap.objs.size = some (set0 w) := Heap.get?_push_size _ rfl
  refine codeAny_call_builtin F.called_set.init.plain F.entry_set_init (check_set_init_1 ⟨_, here, rfl⟩ ?_)
  -- the list behind the new set
  obtain ⟨⟨lc, ld, ldata, lsl⟩, hol, hlc, m, hld⟩ := hl
  dsimp only at hlc hld
  subst hlc
  subst hld
  have old : ∀ {b : Addr} {o : Obj}, s.heap.get? b = some o → (s.heap.push (set0 w)).get? b = some o := fun h => Heap.get?_push_of_some _ h
  have hol2 := old hol
  have isl : (s.heap.push (set0 w)).IsList l items := ⟨_, hol2, rfl, m, rfl⟩
  have no1 := F.sub_list_set
  have no2 := F.sub_list_frozenset
  have no3 : (Value.type "list" == Value.type "dict") = false := by decide
  unfold Builtin.«set.__init__» noKeywords Builtin.Frozenset.updateFrom
  generalize hit : pyIter = it
  wp_walk
  subst hit
  refine wpAny_pyIter_list isl (wpAny_bind (wpAny_runValue ?_))
  have sz := Heap.size_push (h := s.heap) (o := set0 w)
  have lt := Heap.lt_size hol
  -- all its items
  have each : ∀ (i : Nat) (v : Value), items[i]? = some v → ∃ k t, ns[i]? = some k ∧ v = .int k t := fun i v hv => by
    have hil : i < ns.length := by
      rw [← size]
      exact (Array.getElem?_eq_some_iff.mp hv).1
    obtain ⟨t, ev⟩ := IntsAre.int_at hi i v (by rw [Array.getElem?_toList]; exact hv)
    have ed : ns.getD i 0 = ns[i] := by
      rw [List.getD_eq_getElem?_getD, List.getElem?_eq_getElem hil]
      rfl
    exact ⟨_, t, List.getElem?_eq_getElem hil, by rw [ev, ed]⟩
  have nli : l ≠ (s.heap.push (set0 w)).objs.size := by
    rw [sz]
    exact Nat.ne_of_lt (Nat.lt_succ_of_lt lt)
  have nst : s.heap.objs.size ∉ [(s.heap.push (set0 w)).objs.size, l] := fun z => by
    rcases List.mem_cons.mp z with z | z
    · rw [sz] at z
      exact Nat.ne_of_lt (Nat.lt_succ_self _) z
    · exact Nat.ne_of_gt lt (List.mem_singleton.mp z)
  refine set_update_ints ((Walks.list (show A.in1.in1.handled = none from hh) _ l nli items).toS) s.heap.objs.size nst ns size hb each (items.size - 0) 0 _ (by omega) (Nat.zero_le _) ?_ ?_ ?_
  · exact ⟨⟨_, Heap.get?_push_size _ rfl, rfl, rfl⟩, isl.push _⟩
  · exact ⟨0, Nat.le_refl 0, setR_new_at (Heap.get?_push_of_some _ here)⟩
  rintro ⟨h2, g2, d2, tk, os2⟩ c mv hc hR
  obtain rfl : g2 = s.gens := mv.gens
  obtain rfl : d2 = s.drawn := mv.drawn
  obtain rfl : os2 = s.os := mv.os
  show wpAny _ _ _ _ _ _
  refine wpAny_pure ?_
  show wpAny _ _ (ret Value.none) _ _ _
  refine wpAny_pure ⟨rfl, h2, tk, c, rfl, hR, by omega, fun b o e => mv.heap b o (fun z => ?_) (Heap.get?_push_of_some _ (old e))⟩
  have lb := Heap.lt_size e
  rcases List.mem_cons.mp z with z | z
  · exact Nat.ne_of_lt lb z
  · rw [List.mem_singleton, sz] at z
    exact Nat.ne_of_lt (Nat.lt_succ_of_lt lb) z
end
section
variable {P : Program} {w : World} {A : Around} {E : Value → Shared → Prop} {s : Shared}
/-- set(l) of a list of whole numbers -/
theorem setL {l : Addr} {items : Array Value} {ns : List Int} {Q : Value → Shared → Prop} (hh : A.handled = none) (hl : s.heap.IsList l items) (hi : IntsAre items.toList ns) (hb : ns.length + 1 < scanBound)
    (h : ∀ s2, SetMade w s ns s2 → Q (.ref s.heap.objs.size) s2) : wpAny (model P w) A (call (.type "set") [.ref l]) Q E s := by
  have ⟨c, tl, hmro⟩ := F.called_set.mro
  have ⟨hmade, hsub⟩ := And.intro F.called_set.made F.called_set.sub
  have ⟨h1, h2⟩ := And.intro F.called_set.notType F.called_set.canCreate
  have hct := F.typeCall_set_1 (.ref l)
  refine wpAny_call (codeAny_of_tree (show wpAny _ _ (callAny (.type "set") _) _ _ _ from wpAny_pure ⟨Code.quiet_builtin _ (by decide +kernel), codeAny_builtin F.entry_type_call ?_⟩))
  rw [Around.under_plain (weight_type_call_type "set" [.ref l] []) rfl]
  repeat (any_goals (first | assumption | wp_step))
  refine codeAny_mono (code_set_led1 (.ref l) (E := E) (Q₁ := fun v s1 => v = .ref s.heap.objs.size ∧ s1 = { s with heap := s.heap.push (set0 w) }) ⟨rfl, rfl⟩) ?_
  rintro (e | fl) s1 hr
  · exact hr
  cases fl
  case ret obj =>
    obtain ⟨rfl, rfl⟩ := hr
    have here : (s.heap.push (set0 w)).get? s.heap.objs.size = some (set0 w) := Heap.get?_push_size _ rfl
    have hT : Shared.TypeIs { s with heap := s.heap.push (set0 w) } (.ref s.heap.objs.size) "set" := ⟨_, here, rfl⟩
    have ⟨hli, hbi⟩ := And.intro F.called_set.init.lookup (F.called_set.init.bind (.ref s.heap.objs.size))
    repeat (any_goals (first | assumption | wp_step))
    refine codeAny_mono (setL_init (E := E) (by simp [hh]) hl hi hb) ?_
    rintro (e | fl) s2 hr
    · exact hr
    cases fl
    case ret r =>
      obtain ⟨rfl, hm⟩ := hr
      repeat (any_goals (first | assumption | wp_step))
      exact h s2 hm
    all_goals exact hr.elim
  all_goals exact hr.elim
end
section
variable {X : Cx}
/-- set(xs) -/
theorem call_setL (hc : X.calm = true) : CallR X (.type "set") (fun xs H Q => ∃ (a : Addr) (ns : List Int), xs = [V.ref a] ∧ SqL X.K H a (ns.map V.int) ∧ ns.length < 4000 ∧
    ∀ p c, H p = none → c ≤ ns.length → Q (.ref p) (upd H p (SetO X.w p (fun j => decide (j ∈ ns)) c))) := by
  intro pins s σ H xs us Q I r h
  obtain ⟨a, ns, rfl, ha, few, q⟩ := h
  rw [Vals.ref1 r]
  obtain ⟨its, rv, p1, _⟩ := I.list ha
  refine setL (items := its.toArray) (I.ok.hd hc) p1.isList (Vals.ints rv) (by unfold scanBound; omega) ?_
  rintro s2 ⟨h2, tk, c, rfl, R, le, old⟩
  exact ⟨.ref _, _, I.laid (t' := tk) (fun b u e => old b u e) (by omega) (setO_new R), rfl, q _ c (I.hok.fresh (Nat.le_refl _)) le⟩
end
/-! ### a table laid clean for few small hashes, whatever mask a copy may take -/
def visB (m : Nat) : Nat → Nat → Nat → Nat
  | 0, _, _ => 0
  | f + 1, i, b => 2 ^ i ||| visB m f (SetTable.leap m i b).1 (SetTable.leap m i b).2
def CopyMask (m : Nat) : Prop := m = 7 ∨ m = 15 ∨ m = 31 ∨ m = 63 ∨ m = 127
theorem vis_tab : ([7, 15, 31, 63, 127].all fun m => (List.range 64).all fun h => visB m (SetTable.turns m) (h % (m + 1)) h == 2 ^ (m + 1) - 1) = true := by decide +kernel
theorem vis_all {m h : Nat} (hm : CopyMask m) (hh : h < 64) : visB m (SetTable.turns m) (h % (m + 1)) h = 2 ^ (m + 1) - 1 := by
  have mem : m ∈ [7, 15, 31, 63, 127] := by
    rcases hm with rfl | rfl | rfl | rfl | rfl <;> decide
  exact beq_iff_eq.mp (List.all_eq_true.mp (List.all_eq_true.mp vis_tab m mem) h (List.mem_range.mpr hh))
/-- an empty slot on the way: the search ends at one -/
theorem free_vis {m j : Nat} {owner : Array (Option Nat)} (hj : oAt owner j = none) : ∀ f i b, (visB m f i b).testBit j = true → ∃ r, SetTable.layClean.free m owner f i b = some r ∧ oAt owner r = none
  | 0, i, b, h => by
    unfold visB at h
    simp at h
  | f + 1, i, b, h => by
    rw [free_succ]
    cases e : (List.range (SetTable.runEnd m i + 1 - i)).find? fun k => (oAt owner (i + k)).isNone with
    | some k =>
      have z := List.find?_some e
      exact ⟨i + k, rfl, Option.isNone_iff_eq_none.mp z⟩
    | none =>
      unfold visB at h
      rw [Nat.testBit_or, Nat.testBit_two_pow, Bool.or_eq_true] at h
      rcases h with h | h
      · have h := of_decide_eq_true h
        have z := List.find?_eq_none.mp e 0 (List.mem_range.mpr (by have := runEnd_ge m i; omega))
        rw [Nat.add_zero, h, hj] at z
        exact absurd rfl z
      · exact free_vis hj f _ _ h
/-- k slots are owned, by the numbers below k, each once -/
structure LayI (m k : Nat) (owner : Array (Option Nat)) : Prop where
  sz : owner.size = m + 1
  lt : ∀ j i, j ≤ m → oAt owner j = some i → i < k
  all : ∀ i, ∃ j, i < k → j ≤ m ∧ oAt owner j = some i
  inj : ∀ j j' i, j ≤ m → j' ≤ m → oAt owner j = some i → oAt owner j' = some i → j = j'
theorem LayI.zero (m : Nat) : LayI m 0 (Array.replicate (m + 1) none) := by
  have no : ∀ j i, j ≤ m → oAt (Array.replicate (m + 1) none) j ≠ some i := fun j i hj z => by
    rw [oAt_init hj] at z
    cases z
  exact ⟨by simp, fun j i hj z => absurd z (no j i hj), fun i => ⟨0, fun z => absurd z (Nat.not_lt_zero _)⟩, fun j _ i hj _ z => absurd z (no j i hj)⟩
/-- one is empty as long as not all are owned -/
theorem LayI.room {m k : Nat} {owner : Array (Option Nat)} (L : LayI m k owner) (h : k ≤ m) : ∃ j, j ≤ m ∧ oAt owner j = none := by
  have ⟨g, hg⟩ : ∃ g : Nat → Nat, ∀ i, i < k → g i ≤ m ∧ oAt owner (g i) = some i := ⟨fun i => Classical.choose (L.all i), fun i => Classical.choose_spec (L.all i)⟩
  have ⟨j, h1, h2⟩ := st_missing ((List.range k).map g) (m + 1) (by simp; omega)
  refine ⟨j, Nat.le_of_lt_succ h1, ?_⟩
  cases e : oAt owner j with
  | none => rfl
  | some i =>
    have hi := L.lt j i (Nat.le_of_lt_succ h1) e
    have e2 := L.inj j (g i) i (Nat.le_of_lt_succ h1) (hg i hi).1 e (hg i hi).2
    exact absurd (List.mem_map.mpr ⟨i, List.mem_range.mpr hi, e2.symm⟩) h2
theorem bits_small {h : Nat} (hh : h < 64) : SetTable.bits (h : Int) = h := by
  unfold SetTable.bits
  omega
theorem LayI.add {m k h : Nat} {owner : Array (Option Nat)} (hm : CopyMask m) (L : LayI m k owner) (hk : k ≤ m) (hh : h < 64) : ∃ owner', stepF m (some (owner, k)) (h : Int) = some (owner', k + 1) ∧ LayI m (k + 1) owner' := by
  obtain ⟨j, hj, ej⟩ := L.room hk
  have hb : (visB m (SetTable.turns m) (h % (m + 1)) h).testBit j = true := by
    rw [vis_all hm hh, Nat.testBit_two_pow_sub_one]
    exact decide_eq_true (Nat.lt_succ_of_le hj)
  obtain ⟨r, hr, er⟩ := free_vis ej _ _ _ hb
  have hrs : r < owner.size := by
    rcases Nat.lt_or_ge r owner.size with z | z
    · exact z
    · have : oAt owner r = some 0 := by
        show owner.getD r (some 0) = some 0
        simp [Array.getD, Nat.not_lt.mpr z]
      rw [this] at er
      cases er
  have hrm : r ≤ m := by
    have := L.sz
    omega
  have self := oAt_set_self (some k) hrs
  have other : ∀ {i : Nat}, i ≠ r → oAt (owner.setIfInBounds r (some k)) i = oAt owner i := fun h => oAt_set_ne _ h
  refine ⟨owner.setIfInBounds r (some k), stepF_some (by rw [bits_small hh]; exact hr), ⟨by rw [Array.size_setIfInBounds]; exact L.sz, fun x i hx e => ?_, fun i => ?_, fun x y i hx hy e1 e2 => ?_⟩⟩
  · by_cases c : x = r
    · rw [c, self] at e
      cases e
      exact Nat.lt_succ_self _
    · rw [other c] at e
      exact Nat.lt_succ_of_lt (L.lt x i hx e)
  · by_cases c : i = k
    · exact ⟨r, fun _ => ⟨hrm, by rw [self, c]⟩⟩
    · obtain ⟨x, hx⟩ := L.all i
      refine ⟨x, fun hi => ?_⟩
      have ⟨a1, a2⟩ := hx (by omega)
      exact ⟨a1, by rw [other (fun z => by rw [z, er] at a2; cases a2)]; exact a2⟩
  · have old : ∀ z, z ≤ m → z ≠ r → oAt (owner.setIfInBounds r (some k)) z = some i → oAt owner z = some i ∧ i < k := fun z hz c e => by
      rw [other c] at e
      exact ⟨e, L.lt z i hz e⟩
    have new : ∀ z, z = r → oAt (owner.setIfInBounds r (some k)) z = some i → i = k := fun z c e => by
      rw [c, self] at e
      exact (Option.some.inj e).symm
    by_cases cx : x = r <;> by_cases cy : y = r
    · rw [cx, cy]
    · have := new x cx e1
      have := (old y hy cy e2).2
      omega
    · have := new y cy e2
      have := (old x hx cx e1).2
      omega
    · exact L.inj x y i hx hy (old x hx cx e1).1 (old y hy cy e2).1
theorem LayI.run {m : Nat} (hm : CopyMask m) : ∀ (hs : List Int) (k : Nat) (owner : Array (Option Nat)), LayI m k owner → k + hs.length ≤ m + 1 → (∀ x ∈ hs, ∃ h : Nat, h < 64 ∧ x = (h : Int)) →
    ∃ owner', hs.foldl (stepF m) (some (owner, k)) = some (owner', k + hs.length) ∧ LayI m (k + hs.length) owner'
  | [], k, owner, L, _, _ => ⟨owner, rfl, L⟩
  | x :: hs, k, owner, L, hl, hx => by
    rw [List.length_cons] at hl
    obtain ⟨h, hh, rfl⟩ := hx x List.mem_cons_self
    obtain ⟨o1, e1, L1⟩ := L.add hm (by omega) hh
    obtain ⟨o2, e2, L2⟩ := LayI.run hm hs (k + 1) o1 L1 (by omega) fun y hy => hx y (List.mem_cons_of_mem _ hy)
    have en : k + (List.length ((h : Int) :: hs)) = k + 1 + hs.length := by rw [List.length_cons]; omega
    rw [en]
    exact ⟨o2, by rw [List.foldl_cons, e1]; exact e2, L2⟩
theorem LayI.perm {m n : Nat} {owner : Array (Option Nat)} (L : LayI m n owner) : ((liveOf m owner).map (·.2)).Perm (List.range n) := by
  refine (List.perm_ext_iff_of_nodup ?_ List.nodup_range).mpr fun i => ?_
  · have hp : (liveOf m owner).Pairwise fun a b => a.2 ≠ b.2 := by
      unfold liveOf
      rw [List.pairwise_filterMap]
      refine List.Pairwise.imp_of_mem ?_ (List.nodup_range (n := m + 1))
      intro a b ha hb hab x hx y hy z
      have ham := List.mem_range.mp ha
      have hbm := List.mem_range.mp hb
      obtain ⟨u, hu, rfl⟩ := Option.map_eq_some_iff.mp hx
      obtain ⟨v, hv, rfl⟩ := Option.map_eq_some_iff.mp hy
      rw [oAt_none (by rw [L.sz]; exact ham)] at hu
      rw [oAt_none (by rw [L.sz]; exact hbm)] at hv
      have z : u = v := z
      rw [z] at hu
      exact hab (L.inj a b v (Nat.le_of_lt_succ ham) (Nat.le_of_lt_succ hbm) hu hv)
    exact List.pairwise_map.mpr hp
  · rw [List.mem_range, List.mem_map]
    constructor
    · rintro ⟨⟨j, k⟩, hk, rfl⟩
      have := (mem_live L.sz).mp hk
      exact L.lt j k this.1 this.2
    · intro hi
      obtain ⟨j, hj⟩ := L.all i
      exact ⟨(j, i), (mem_live L.sz).mpr (hj hi), rfl⟩
theorem laid_few {m : Nat} (hm : CopyMask m) (fg mv : Nat) (ld pl : Bool) {hs : Array Int} (hn : hs.size ≤ m + 1) (hx : ∀ x ∈ hs.toList, ∃ h : Nat, h < 64 ∧ x = (h : Int)) :
    ∃ t' order, SetTable.laid m fg mv ld pl hs = some (t', order) ∧ order.toList.Perm (List.range hs.size) ∧ Ris t'.place.toList ∧ t'.place.size = hs.size ∧ t'.dummies = #[] ∧ t'.mask = m ∧ t'.led = ld := by
  obtain ⟨owner, e, L⟩ := LayI.run hm hs.toList 0 _ (LayI.zero m) (by rw [Nat.zero_add, Array.length_toList]; exact hn) hx
  rw [Nat.zero_add, Array.length_toList] at e L
  have hc : SetTable.layClean m hs = some owner := by
    rw [layClean_eq, e]
    rfl
  have hp := L.perm
  refine ⟨{ mask := m, place := ((liveOf m owner).map (·.1)).toArray, dummies := #[], finger := fg, led := ld, moves := mv, plain := pl }, ((liveOf m owner).map (·.2)).toArray, ?_, hp, ?_, ?_, rfl, rfl, rfl⟩
  · unfold SetTable.laid
    rw [hc]
    rfl
  · refine (ris_live (fun j => owner.getD j none) (List.range (m + 1)) ?_).1
    unfold Ris
    exact List.pairwise_lt_range
  · show ((liveOf m owner).map (·.1)).length = _
    rw [List.length_map, ← List.length_map (f := (·.2)), hp.length_eq, List.length_range]
/-- the entries, laid in another order -/
theorem relay_perm {α : Type} {es : Array α} {order : Array Nat} (hp : order.toList.Perm (List.range es.size)) : (order.filterMap (es[·]?)).toList.Perm es.toList := by
  rw [Array.toList_filterMap]
  have base : ∀ l : List α, (List.range l.length).filterMap (fun i => l[i]?) = l := fun l => by
    induction l with
    | nil => rfl
    | cons x l ih =>
      rw [List.length_cons, List.range_succ_eq_map, List.filterMap_cons]
      show x :: ((List.range l.length).map Nat.succ).filterMap (fun i => (x :: l)[i]?) = _
      rw [List.filterMap_map]
      exact congrArg (x :: ·) ih
  have z := hp.filterMap (fun i => es[i]?)
  have e : (List.range es.size).filterMap (fun i => es[i]?) = es.toList := by
    have := base es.toList
    rw [Array.length_toList] at this
    refine Eq.trans ?_ this
    exact congrArg (fun f => List.filterMap f _) (funext fun i => (Array.getElem?_toList).symm)
  rw [e] at z
  exact z
/-! ### a new set takes over the members of another one -/
/-- an empty set whose table is as good as new -/
structure Blank (w : World) (h : Heap) (a : Addr) (M : Nat) : Prop where
  at_ : ∃ o ep t, h.get? a = some o ∧ o.ExactSet ∧ o.data = .set #[] ep t ∧ t.place = #[] ∧ t.dummies = #[] ∧ t.mask = M ∧ t.led = !w.params.followText "set-order"
theorem blank_new {w : World} {h : Heap} {a : Addr} (e : h.get? a = some (set0 w)) : Blank w h a 7 := ⟨_, 0, _, e, ⟨rfl, rfl, rfl⟩, rfl, rfl, rfl, rfl, rfl⟩
theorem follow_or {w : World} {b : Bool} (h : w.params.followText "set-order" = true ∨ b = true) : w.params.followText "set-order" = true ∨ ((!w.params.followText "set-order") && b) = true := by
  cases e : w.params.followText "set-order" with
  | true => exact .inl rfl
  | false =>
    rw [e] at h
    rcases h with h | h
    · cases h
    · exact .inr (by rw [h]; rfl)
theorem size_copies : ((List.range 64).all fun n => n < 5 || [15, 31, 63, 127].any fun M => (SetTable.sizeAbove ((0 + n) * 2) == M + 1) && n ≤ M) = true := by decide +kernel
theorem size_copy {n : Nat} (h5 : 5 ≤ n) (h : n < 64) : ∃ M, CopyMask M ∧ SetTable.sizeAbove ((0 + n) * 2) = M + 1 ∧ n ≤ M := by
  have z := List.all_eq_true.mp size_copies n (List.mem_range.mpr h)
  rw [Bool.or_eq_true] at z
  rcases z with z | z
  · have := of_decide_eq_true z
    omega
  · obtain ⟨M, hM, e⟩ := List.any_eq_true.mp z
    rw [Bool.and_eq_true] at e
    refine ⟨M, ?_, beq_iff_eq.mp e.1, of_decide_eq_true e.2⟩
    simp at hM
    unfold CopyMask
    omega
theorem hash_small {k : Int} (h0 : 0 ≤ k) (h1 : k < 64) : hashInt k = k := by
  have key : ∀ j ∈ List.range 64, hashInt (j : Int) = (j : Int) := by decide +kernel
  have z := key k.toNat (List.mem_range.mpr (by omega))
  rw [Int.toNat_of_nonneg h0] at z
  exact z
section
variable {P : Program} {w : World} {A : Around} {E : Value → Shared → Prop} {s : Shared} {a b : Addr} {S : Int → Bool} {n M : Nat}
theorem Blank.room {Q : Unit → Shared → Prop} (B : Blank w s.heap a 7) (hn : n < 64) (hQ : ∀ h' M, CopyMask M → n ≤ M → Heap.SameBut a s.heap h' → Blank w h' a M → Q () { s with heap := h' }) : wpAny (model P w) A (setRoomFor a n) Q E s := by
  obtain ⟨o, ep, t, ho, hx, hd, hp, hdm, hm, hl⟩ := B.at_
  have hf : t.fits (#[] : Array (Int × Value)).size = true := by
    unfold SetTable.fits SetTable.fill
    rw [hp, hdm, hm]
    rfl
  have hfill : t.fill = 0 := by
    unfold SetTable.fill
    rw [hp, hdm]
    rfl
  unfold setRoomFor
  refine wpAny_bind (wpAny_setState_of ho hd hf ?_)
  dsimp only
  unfold SetTable.roomFor
  rw [hfill, hm, hp]
  by_cases c : (0 + n) * 5 ≥ 7 * 3
  · rw [if_pos c]
    dsimp only
    have ⟨M, hM, hsz, hnM⟩ := size_copy (n := n) (by omega) hn
    show wpAny _ _ (setRelay a ((0 + n) * 2)) _ _ _
    unfold setRelay
    refine wpAny_bind (wpAny_setState_of ho hd hf ?_)
    dsimp only
    rw [hsz]
    refine wp_if_neg (by rcases hM with rfl | rfl | rfl | rfl | rfl <;> decide) ?_
    obtain ⟨t', order, e, hpo, hr, hsz', hdm', hm', hl'⟩ := laid_few hM t.finger (t.movedTo M) t.led t.plain (hs := Array.map (fun x : Int × Value => x.1) #[]) (by simp) (fun x hx => by simp at hx)
    have er : t.relaid (Array.map (fun x : Int × Value => x.1) #[]) ((0 + n) * 2) = some (t', order) := by
      unfold SetTable.relaid
      rw [hsz]
      exact e
    have e0 : (Array.map (fun x : Int × Value => x.1) #[]).size = 0 := by simp
    rw [e0] at hpo hsz'
    have eo : order = #[] := by
      have z := hpo.length_eq
      rw [List.length_range] at z
      exact Array.eq_empty_of_size_eq_zero (by rw [← Array.length_toList, z])
    have e1 : order.filterMap ((#[] : Array (Int × Value))[·]?) = #[] := by
      rw [eo]
      simp
    have e2 : ¬ ((order.filterMap ((#[] : Array (Int × Value))[·]?)).size != (#[] : Array (Int × Value)).size) = true := by
      rw [e1]
      decide
    rw [er]
    refine wpAny_bind (wpAny_of_eq (a := (order.filterMap ((#[] : Array (Int × Value))[·]?), t')) (if_neg e2) ?_)
    rw [e1]
    dsimp only
    refine wpAny_storeSet_of ho hd (hQ _ M hM hnM (Heap.SameBut.update _ a _) ⟨_, ep + 1, t', store_at ho hd, hx, rfl, ?_, hdm', hm', by rw [hl', hl]⟩)
    exact Array.eq_empty_of_size_eq_zero hsz'
  · rw [if_neg c]
    exact wpAny_pure (hQ s.heap 7 (.inl rfl) (by omega) (Heap.SameBut.refl a s.heap) B)
theorem good_small {S : Int → Bool} {es : Array (Int × Value)} (g : ∀ e ∈ es.toList, GoodE e) (hm : ∀ k, S k = true ↔ k ∈ es.toList.map keyOf) (hS : ∀ k, S k = true → 0 ≤ k ∧ k < 64) : ∀ x ∈ (es.map (·.1)).toList, ∃ h : Nat, h < 64 ∧ x = (h : Int) := by
  intro x hx
  rw [Array.toList_map] at hx
  obtain ⟨e, he, rfl⟩ := List.mem_map.mp hx
  obtain ⟨k, tk, h1, h2⟩ := g e he
  have hk : keyOf e = k := by
    unfold keyOf
    rw [h1]
  have := hS k ((hm k).mpr (List.mem_map.mpr ⟨e, he, hk⟩))
  refine ⟨k.toNat, by omega, ?_⟩
  rw [h2, Int.toNat_of_nonneg this.1]
  exact hash_small this.1 this.2
theorem merge_new {each : Sem Unit} {Q : Unit → Shared → Prop} (B : Blank w s.heap a 7) (R : SetR w s.heap b S n) (hab : a ≠ b) (hn : n < 64) (hS : ∀ k, S k = true → 0 ≤ k ∧ k < 64)
    (hQ : ∀ h', Heap.SameBut a s.heap h' → SetR w h' a S n → Q () { s with heap := h' }) : wpAny (model P w) A (setMerge a b each) Q E s := by
  obtain ⟨o, es, ep, t, ho, hex, hd, g, nd, hm, hb, hf, hsz, hr, hl⟩ := R
  unfold setMerge
  refine wp_if_neg (by simpa using hab) ?_
  refine wpAny_bind (wpAny_setState_of ho hd hf ?_)
  dsimp only
  by_cases ce : es.isEmpty = true
  · refine wp_if_pos ce (wpAny_pure ?_)
    have e0 : es = #[] := Array.isEmpty_iff.mp ce
    subst e0
    obtain ⟨o1, ep1, t1, h1, h2, h3, h4, h5, h6, h7⟩ := B.at_
    refine hQ s.heap (Heap.SameBut.refl a s.heap) ⟨o1, #[], ep1, t1, h1, h2, h3, fun e he => by simp at he, by simp, hm, by decide, ?_, hsz, ?_, ?_⟩
    · unfold SetTable.fits SetTable.fill
      rw [h4, h5, h6]
      rfl
    · rw [h4]
      exact List.Pairwise.nil
    · rw [h7]
      cases w.params.followText "set-order"
      · exact .inr rfl
      · exact .inl rfl
  refine wp_if_neg ce ?_
  rw [hsz]
  refine wpAny_bind (B.room hn fun h1 M hM hnM sb B1 => ?_)
  obtain ⟨o1, ep1, t1, ho1, hx1, hd1, hp1, hdm1, hm1, hl1⟩ := B1.at_
  have hf1 : t1.fits (#[] : Array (Int × Value)).size = true := by
    unfold SetTable.fits SetTable.fill
    rw [hp1, hdm1]
    show (decide (_ = _) && decide (0 ≤ t1.mask)) = true
    simp
  have hfill : t1.fill = 0 := by
    unfold SetTable.fill
    rw [hp1, hdm1]
    rfl
  refine wpAny_bind (wpAny_setState_of ho1 hd1 hf1 ?_)
  dsimp only
  have hroad : t1.road t = if (t1.mask == t.mask && t.dummies.isEmpty) = true then .slotForSlot else .clean := by
    unfold SetTable.road
    rw [hfill]
    rfl
  rw [hroad]
  have hled := follow_or hl
  rw [← hl1] at hled
  have few : es.size ≤ sizeLine := fits_of_scanBound hb
  by_cases c : (t1.mask == t.mask && t.dummies.isEmpty) = true
  · rw [if_pos c]
    dsimp only
    have hq := hQ _ (sb.trans (Heap.SameBut.update _ a (Obj.putSet es { mask := t.mask, place := t.place, dummies := t.dummies, finger := t1.finger, led := t1.led && t.led, moves := t1.moves, plain := t1.plain && t.plain }))) ⟨_, es, ep1 + 1, _, store_at ho1 hd1, hx1, rfl, g, nd, hm, hb, hf, hsz, hr, hled⟩
    exact wpAny_storeSet_of ho1 hd1 hq few
  · rw [if_neg c]
    dsimp only
    obtain ⟨t', order, e, hpo, hr', hsz', hdm', hm', hl'⟩ := laid_few (m := t1.mask) (by rw [hm1]; exact hM) t1.finger t1.moves (t1.led && t.led) (t1.plain && t.plain) (hs := Array.map (fun x : Int × Value => x.1) es) (by rw [Array.size_map, hsz, hm1]; omega) (good_small g hm hS)
    rw [Array.size_map] at hpo hsz'
    have pm := relay_perm hpo
    obtain ⟨es', ees⟩ : ∃ es', es' = order.filterMap (es[·]?) := ⟨_, rfl⟩
    have e2 : ¬ ((order.filterMap (es[·]?)).size != es.size) = true := by
      have z := pm.length_eq
      rw [Array.length_toList, Array.length_toList] at z
      rw [z]
      simp
    rw [e]
    refine wpAny_bind (wpAny_of_eq (a := (order.filterMap (es[·]?), t')) (if_neg e2) ?_)
    rw [← ees] at pm ⊢
    have hs2 : es'.size = es.size := by
      have z := pm.length_eq
      rw [Array.length_toList, Array.length_toList] at z
      exact z
    dsimp only
    refine wpAny_storeSet_of ho1 hd1 (hQ _ (sb.trans (Heap.SameBut.update _ a _)) ⟨_, es', ep1 + 1, t', store_at ho1 hd1, hx1, rfl, fun x hx => g x (pm.mem_iff.mp hx), (pm.map keyOf).nodup_iff.mpr nd, fun k => (hm k).trans (pm.map keyOf).mem_iff.symm, by rw [hs2]; exact hb, ?_, by rw [hs2]; exact hsz, hr', ?_⟩) (by rw [hs2]; exact few)
    · unfold SetTable.fits SetTable.fill
      rw [hsz', hdm', hs2, hm', hm1, hsz]
      simp
      exact hnM
    · rw [hl']
      exact hled
end
/-! ### the entries of a set, in some order -/
/-- these are the entries -/
structure EntOf (S : Int → Bool) (l : List (Int × Value)) : Prop where
  good : ∀ e ∈ l, GoodE e
  nd : (l.map keyOf).Nodup
  mem : ∀ k, S k = true ↔ k ∈ l.map keyOf
theorem EntOf.perm {S : Int → Bool} {l l' : List (Int × Value)} (h : EntOf S l) (p : l'.Perm l) : EntOf S l' :=
  ⟨fun e he => h.good e (p.mem_iff.mp he), (p.map keyOf).nodup_iff.mpr h.nd, fun k => (h.mem k).trans (p.map keyOf).mem_iff.symm⟩
section
variable {P : Program} {w : World} {A : Around} {E : Value → Shared → Prop} {s : Shared} {a b : Addr} {S S2 : Int → Bool} {n n2 : Nat}
theorem quiet_sets {Q : Bool → Shared → Prop} (R : SetR w s.heap b S n) (Ra : SetR w s.heap a S2 n2) (h : Q true s) : wpAny (model P w) A (setsQuiet [b, a]) Q E s := by
  have hints : ∀ {c : Addr} {S : Int → Bool} {n : Nat}, SetR w s.heap c S n → ∃ es : Array (Int × Value), (∀ e ∈ es.toList, GoodE e) ∧ ∀ (A' : Around) (E' : Value → Shared → Prop) (Q' : Array (Int × Value) → Shared → Prop), Q' es s → wpAny (model P w) A' (setEntries c) Q' E' s := fun R => by
    obtain ⟨o, es, ep, t, ho, hex, hd, g, nd, hm, hb, hf, hsz, hr, hl⟩ := R
    refine ⟨es, g, fun A' E' Q' h => ?_⟩
    unfold setEntries
    exact wpAny_bind (wpAny_setState_of ho hd hf (wpAny_pure h))
  unfold setsQuiet
  dsimp only
  refine wpAny_bind (wpAny_forIn_list _ (fun l st s' => s' = s ∧ st = (none, ()) ∧ ∀ c ∈ l, c = b ∨ c = a) _ ?_ ?_ [b, a] _ ⟨rfl, rfl, fun c hc => by simpa using hc⟩)
  · rintro c rest st s1 ⟨rfl, rfl, hc⟩
    obtain ⟨es, g, hes⟩ : ∃ es : Array (Int × Value), (∀ e ∈ es.toList, GoodE e) ∧ ∀ (A' : Around) (E' : Value → Shared → Prop) (Q' : Array (Int × Value) → Shared → Prop), Q' es s1 → wpAny (model P w) A' (setEntries c) Q' E' s1 := by
      rcases hc c List.mem_cons_self with rfl | rfl
      · exact hints R
      · exact hints Ra
    refine wpAny_bind (hes _ _ _ ?_)
    rw [← Array.forIn_toList]
    refine wpAny_bind (wpAny_forIn_list _ (fun l st s' => s' = s1 ∧ st = (none, ()) ∧ ∀ e ∈ l, GoodE e) _ ?_ ?_ es.toList _ ⟨rfl, rfl, g⟩)
    · rintro ⟨hh, x⟩ rest2 st2 s2 ⟨rfl, rfl, hg⟩
      obtain ⟨k, tk, hx, _⟩ := hg _ List.mem_cons_self
      have hx : x = Value.int k tk := hx
      subst hx
      exact wpAny_pure ⟨rfl, rfl, fun e he => hg e (List.mem_cons_of_mem _ he)⟩
    · rintro st2 s2 ⟨rfl, rfl, _⟩
      exact wpAny_pure ⟨rfl, rfl, fun c2 h2 => hc c2 (List.mem_cons_of_mem _ h2)⟩
  · rintro st s1 ⟨rfl, rfl, _⟩
    exact wpAny_pure h
theorem walk_unseen {Q : Array (Int × Value) → Shared → Prop} (R : SetR w s.heap b S n) (Ra : SetR w s.heap a S2 n2) (hab : a ≠ b)
    (hQ : ∀ (arr : Array (Int × Value)) h' d, Heap.SameBut a s.heap h' → SetR w h' a S2 n2 → EntOf S arr.toList → arr.size = n → Q arr { s with heap := h', drawn := d }) : wpAny (model P w) A (setWalkUnseen b [a] (some a)) Q E s := by
  obtain ⟨o, es, ep, t, ho, hex, hd, g, nd, hm, hb, hf, hsz, hr, hl⟩ := id R
  have ent : EntOf S es.toList := ⟨g, nd, hm⟩
  have fin : ∀ (arr : Array (Int × Value)) d, arr.toList.Perm es.toList → Q arr { s with drawn := d } := fun arr d p => hQ arr s.heap d (Heap.SameBut.refl a s.heap) Ra (ent.perm p) (by
    have := p.length_eq
    rw [Array.length_toList, Array.length_toList] at this
    omega)
  have walk : ∀ (A' : Around) (E' : Value → Shared → Prop), wpAny (model P w) A' (setWalk b) Q E' s := fun A' E' => by
    unfold setWalk
    refine wpAny_bind (wpAny_setState_of ho hd hf ?_)
    dsimp only
    refine wpAny_bind (wpAny_byText ?_)
    by_cases c : w.params.followText "set-order" = true
    · refine wp_if_pos c (wpAny_bind (wpAny_askSetting (wpAny_pure ?_)))
      exact fin _ s.drawn (pick_perm _ es)
    · refine wp_if_neg c ?_
      have led : t.led = true := hl.resolve_left c
      split
      · exact wpAny_bind (drawOrder_at _ _ _ _ (Nat.le_of_eq Array.length_toList) fun ys d p => wpAny_pure (fin ys.toArray d p))
      · refine wpAny_bind (wpAny_of_eq (a := ()) (if_neg (c := (!t.led && decide (es.size > 1)) = true) (by rw [led]; exact Bool.false_ne_true)) ?_)
        exact wpAny_pure (fin es s.drawn (List.Perm.refl _))
  unfold setWalkUnseen
  refine wpAny_bind (wpAny_setState_of ho hd hf ?_)
  dsimp only
  refine wpAny_bind (wpAny_byText ?_)
  split
  · exact walk A E
  refine wpAny_bind (quiet_sets R Ra ?_)
  refine wp_if_neg (by decide) ?_
  refine wpAny_bind (wpAny_rule ?_)
  obtain ⟨o2, es2, ep2, t2, ho2, hex2, hd2, g2, nd2, hm2, hb2, hf2, hsz2, hr2, hl2⟩ := id Ra
  refine wpAny_bind (wpAny_setState_of ho2 hd2 hf2 ?_)
  dsimp only
  split
  · have hled : w.params.followText "set-order" = true ∨ (t2.led && t.led) = true := by
      rcases hl with z | z
      · exact .inl z
      · rcases hl2 with y | y
        · exact .inl y
        · exact .inr (by rw [z, y]; rfl)
    have hq := hQ es _ s.drawn (Heap.SameBut.update s.heap a (Obj.putSet es2 { mask := t2.mask, place := t2.place, dummies := t2.dummies, finger := t2.finger, led := t2.led && t.led, moves := t2.moves, plain := t2.plain && t.plain })) ⟨_, es2, ep2 + 1, _, store_at ho2 hd2, hex2, rfl, g2, nd2, hm2, hb2, hf2, hsz2, hr2, hled⟩ ent hsz
    exact wpAny_bind (wpAny_storeSet_of ho2 hd2 (wpAny_pure hq) (fits_of_scanBound hb2))
  · exact wpAny_pure (fin es s.drawn (List.Perm.refl _))
end
section
variable {P : Program} {w : World} {A : Around} {E : Value → Shared → Prop} {s : Shared} {a b : Addr} {S S2 : Int → Bool} {n n2 : Nat}
theorem erase_list {α : Type} (xs : Array α) (i : Nat) : (SetTable.eraseAt xs i).toList = xs.toList.eraseIdx i := by
  unfold SetTable.eraseAt
  rw [List.eraseIdx_eq_take_drop_succ]
  simp [Array.toList_extract]
  exact List.take_of_length_le (by simp)
theorem ris_erase {xs : Array Nat} (r : Ris xs.toList) (i : Nat) : Ris (SetTable.eraseAt xs i).toList := by
  rw [erase_list]
  exact List.Pairwise.sublist (List.eraseIdx_sublist _ _) r
theorem erase_size {α : Type} (xs : Array α) {i : Nat} (h : i < xs.size) : (SetTable.eraseAt xs i).size = xs.size - 1 := by
  rw [← Array.length_toList, erase_list, List.length_eraseIdx_of_lt (by rw [Array.length_toList]; exact h), Array.length_toList]
/-- one member is dropped, where it is one -/
theorem discard_one {k : Int} {tk : Tok} {Q : Bool → Shared → Prop} (R : SetR w s.heap a S n)
    (hQ : ∀ h', Heap.SameBut a s.heap h' → SetR w h' a (fun j => S j && !decide (j = k)) (if S k = true then n - 1 else n) → Q (S k) { s with heap := h' }) : wpAny (model P w) A (setDiscardHashed a (.int k tk) (hashInt k)) Q E s := by
  obtain ⟨o, es, ep, t, ho, hex, hd, g, nd, hm, hb, hf, hsz, hr, hl⟩ := id R
  have hkey : (intKind P w).is k (.int k tk) = true := intKind_is P w k tk
  have hel : ElemsOf (intKind P w) es.toList := good_elems g
  have hsc : (Value.int k tk).scannable = true := rfl
  unfold setDiscardHashed setFind
  refine wpAny_bind ?_
  rw [show (100000 : Nat) = 99999 + 1 from rfl]
  unfold setFindIn
  refine wpAny_bind (wpAny_setState_of ho hd hf ?_)
  dsimp only
  refine wp_if_pos (byScan_of hsc hb hel) (wpAny_bind (wpAny_rule (wpAny_bind (wpAny_setScan_of (knd := intKind P w) hkey ho hd hf hel ?_))))
  cases hfi : es.toList.findIdx? fun e => (intKind P w).is k e.2 with
  | none =>
    refine wpAny_pure (wpAny_pure ?_)
    have no : S k = false := by
      cases e : S k with
      | false => rfl
      | true =>
        obtain ⟨x, hx, q⟩ := (good_mem (P := P) (w := w) g k).mp ((hm k).mp e)
        rw [List.findIdx?_eq_none_iff.mp hfi x hx] at q
        cases q
    have z := hQ s.heap (Heap.SameBut.refl a s.heap) (by
      rw [no, if_neg Bool.false_ne_true]
      refine R.congr fun j => ?_
      by_cases c : j = k
      · rw [c, no]
        rfl
      · simp [c])
    rw [no] at z
    exact z
  | some j =>
    obtain ⟨hj, pj, _⟩ := List.findIdx?_eq_some_iff_getElem.mp hfi
    have kj : keyOf es.toList[j] = k := (good_is (g _ (List.getElem_mem hj)) k).mp pj
    have yes : S k = true := (hm k).mpr (List.mem_map.mpr ⟨_, List.getElem_mem hj, kj⟩)
    have hje : j < es.size := by rw [← Array.length_toList]; exact hj
    dsimp only
    rw [Nat.zero_add]
    refine wpAny_pure ?_
    dsimp only
    refine wpAny_bind (wpAny_setState_of ho hd hf ?_)
    dsimp only
    -- the table
    unfold SetTable.fits at hf
    rw [Bool.and_eq_true] at hf
    have hps : t.place.size = es.size := beq_iff_eq.mp hf.1
    have hfl : t.fill ≤ t.mask := of_decide_eq_true hf.2
    have hjp : j < t.place.size := by rw [hps]; exact hje
    have hdrop : t.drop j = { t with place := SetTable.eraseAt t.place j, dummies := SetTable.insertAt t.dummies (SetTable.below t.dummies t.place[j]) t.place[j] } := by
      unfold SetTable.drop
      rw [Array.getElem?_eq_getElem hjp]
    have hins : (SetTable.insertAt t.dummies (SetTable.below t.dummies t.place[j]) t.place[j]).size ≤ t.dummies.size + 1 := by
      unfold SetTable.insertAt
      simp
      omega
    have pe := erase_perm es.toList j _ (List.getElem?_eq_getElem hj)
    have pk := pe.map keyOf
    rw [List.map_cons, kj] at pk
    have nd2 := pk.nodup_iff.mpr nd
    rw [List.nodup_cons] at nd2
    have ez : (SetTable.eraseAt es j).size = n - 1 := by rw [erase_size es hje, hsz]
    refine wpAny_bind (wpAny_storeSet_of ho hd (wpAny_bind (wpAny_point (wpAny_pure ?_))) (by rw [ez]; exact Nat.le_trans (by omega) (fits_of_scanBound hb)))
    have z := hQ _ (Heap.SameBut.update s.heap a (Obj.putSet (SetTable.eraseAt es j) (t.drop j))) ⟨_, SetTable.eraseAt es j, ep + 1, t.drop j, store_at ho hd, hex, rfl, fun e he => ?_, ?_, fun i => ?_, by rw [ez]; omega, ?_, by rw [yes, if_pos rfl, ez], ?_, ?_⟩
    · rw [yes] at z
      exact z
    · rw [erase_list] at he
      exact g e (List.mem_of_mem_eraseIdx he)
    · rw [erase_list]
      exact nd2.2
    · rw [erase_list, Bool.and_eq_true, hm i, Bool.not_eq_true', decide_eq_false_iff_not, ← pk.mem_iff, List.mem_cons]
      constructor
      · rintro ⟨h1 | h1, h2⟩
        · exact absurd h1 h2
        · exact h1
      · exact fun h1 => ⟨.inr h1, fun z => nd2.1 (by rw [← z]; exact h1)⟩
    · rw [hdrop]
      unfold SetTable.fits SetTable.fill
      rw [Bool.and_eq_true]
      refine ⟨beq_iff_eq.mpr ?_, decide_eq_true ?_⟩
      · show (SetTable.eraseAt t.place j).size = _
        rw [erase_size _ hjp, erase_size _ hje, hps]
      · show (SetTable.eraseAt t.place j).size + _ ≤ t.mask
        rw [erase_size _ hjp]
        unfold SetTable.fill at hfl
        refine Nat.le_trans (Nat.add_le_add_left hins _) ?_
        omega
    · rw [hdrop]
      exact ris_erase hr j
    · rw [hdrop]
      exact hl
end
/-! ### the members of one of two sets alone: a ^ b -/
section
variable {P : Program} {w : World} {A : Around} {E : Value → Shared → Prop} {s : Shared} {a b : Addr} {S S2 : Int → Bool} {n n2 : Nat}
/-- each member of l turned about -/
def flipS (S : Int → Bool) (l : List Int) : Int → Bool := fun j => S j != decide (j ∈ l)
theorem any_set {Q : Bool → Shared → Prop} (hT : s.TypeIs (.ref b) "set") (h : Q true s) : wpAny (model P w) A (Builtin.Frozenset.isAnySet (.ref b)) Q E s := by
  unfold Builtin.Frozenset.isAnySet
  refine wpAny_bind (wpAny_isInstance hT F.sub_set_set ?_)
  exact wpAny_pure h
theorem flip_add {S : Int → Bool} {l : List Int} {k : Int} (hk : k ∉ l) (j : Int) : flipS S (l ++ [k]) j = (if j = k then !(flipS S l k) else flipS S l j) := by
  unfold flipS
  by_cases c : j = k
  · subst c
    rw [if_pos rfl, decide_eq_true (List.mem_append_right _ (List.mem_singleton.mpr rfl)), decide_eq_false hk]
    cases S j <;> rfl
  · rw [if_neg c]
    congr 2
    simp [c]
theorem xor_update {id : String} {Q : Unit → Shared → Prop} (R : SetR w s.heap b S n) (Ra : SetR w s.heap a S2 n2) (hab : a ≠ b) (hn : n + n2 + 1 < scanBound)
    (hQ : ∀ h' d tk m, Heap.SameBut a s.heap h' → SetR w h' a (fun j => S2 j != S j) m → m ≤ n + n2 → Q () { s with heap := h', drawn := d, toks := tk }) : wpAny (model P w) A (Builtin.Frozenset.symmetricDifferenceUpdate id a (.ref b)) Q E s := by
  have hT : s.TypeIs (.ref b) "set" := by
    obtain ⟨o, es, ep, t, ho, hex, _⟩ := R
    exact ⟨o, ho, hex.1⟩
  unfold Builtin.Frozenset.symmetricDifferenceUpdate
  refine wp_if_neg (by simpa using Ne.symm hab) ?_
  dsimp only
  refine wpAny_bind (wpAny_typeOf hT ?_)
  refine wp_if_neg (by decide) ?_
  refine wpAny_bind (any_set hT ?_)
  refine wp_if_pos rfl ?_
  refine wpAny_bind (wpAny_pure ?_)
  refine wpAny_bind (wpAny_pure ?_)
  have Rb := R
  obtain ⟨o, es, ep, t, ho, hex, hd, g, nd, hm, hb, hf, hsz, hr, hl⟩ := Rb
  have epoch : ∀ (s' : Shared) (A' : Around) (E' : Value → Shared → Prop) (Q' : Nat → Shared → Prop), Heap.SameBut a s.heap s'.heap → Q' ep s' → wpAny (model P w) A' (setEpoch b) Q' E' s' := fun s' A' E' Q' sb h => by
    unfold setEpoch
    exact wpAny_bind (wpAny_setState_of ((sb.2 b (Ne.symm hab)).trans ho) hd hf (wpAny_pure h))
  refine wpAny_bind (epoch s A E _ (Heap.SameBut.refl a s.heap) ?_)
  refine wpAny_holding (wpAny_bind (walk_unseen R Ra hab fun arr h1 d1 sb1 R1 ent hsz1 => ?_))
  rw [← Array.forIn_toList]
  refine wpAny_bind (wpAny_forIn_list _ (fun rest _ s' => ∃ done h' m, arr.toList = done ++ rest ∧ s' = { s with heap := h', drawn := d1 } ∧ Heap.SameBut a s.heap h' ∧ SetR w h' a (flipS S2 (done.map keyOf)) m ∧ m ≤ n2 + done.length) _ ?_ ?_ arr.toList _ ⟨[], h1, n2, rfl, rfl, sb1, R1.congr fun j => ?_, Nat.le_refl _⟩)
  · rintro ⟨hx, v⟩ rest u s' ⟨done, h', m, e, rfl, sb, Rx, hmx⟩
    obtain ⟨k, tk, hv, hh⟩ := ent.good (hx, v) (by rw [e]; simp)
    have hv : v = .int k tk := hv
    have hh : hx = hashInt k := hh
    subst hv hh
    have ekey : keyOf (hashInt k, Value.int k tk) = k := rfl
    have hk : k ∉ done.map keyOf := fun z => by
      have := ent.nd
      rw [e, List.map_append, List.map_cons, ekey] at this
      have y := (List.nodup_append.mp this).2.2 k z k (by simp)
      exact y rfl
    have hdl : done.length + 1 ≤ n := by
      have := congrArg List.length e
      rw [Array.length_toList, hsz1, List.length_append, List.length_cons] at this
      omega
    have unch : ∀ (h4 : Heap) (Q' : Unit → Shared → Prop), Heap.SameBut a s.heap h4 → Q' () { s with heap := h4, drawn := d1 } → wpAny (model P w) A (Builtin.Frozenset.unchanged id b ep) Q' E { s with heap := h4, drawn := d1 } := fun h4 Q' sb4 h => by
      unfold Builtin.Frozenset.unchanged
      refine wpAny_bind (epoch { s with heap := h4, drawn := d1 } _ _ _ sb4 ?_)
      exact wp_if_neg (by simp) (wpAny_pure h)
    have next : ∀ h4 m4, Heap.SameBut a s.heap h4 → SetR w h4 a (fun j => if j = k then !(flipS S2 (done.map keyOf) k) else flipS S2 (done.map keyOf) j) m4 → m4 ≤ m + 1 →
        ∃ done h' m, arr.toList = done ++ rest ∧ ({ s with heap := h4, drawn := d1 } : Shared) = { s with heap := h', drawn := d1 } ∧ Heap.SameBut a s.heap h' ∧ SetR w h' a (flipS S2 (done.map keyOf)) m ∧ m ≤ n2 + done.length := fun h4 m4 sb4 R4 hm4 => by
      refine ⟨done ++ [(hashInt k, Value.int k tk)], h4, m4, by rw [e]; simp, rfl, sb4, R4.congr fun j => ?_, by rw [List.length_append]; show m4 ≤ n2 + (done.length + 1); omega⟩
      rw [List.map_append]
      exact flip_add hk j
    refine wpAny_bind (wpAny_holding (wpAny_bind (discard_one (s := { s with heap := h', drawn := d1 }) Rx fun h2 sb2 R2 => ?_)))
    cases hc : flipS S2 (done.map keyOf) k with
    | true =>
      rw [hc, if_pos rfl] at R2
      refine wp_if_neg (by decide) (wpAny_pure (wpAny_bind (unch h2 _ (sb.trans sb2) (wpAny_pure (next h2 _ (sb.trans sb2) (R2.congr fun j => ?_) (by omega))))))
      by_cases c : j = k
      · rw [if_pos c, c, hc, decide_eq_true rfl]
        rfl
      · rw [if_neg c, decide_eq_false c]
        simp
    | false =>
      rw [hc, if_neg Bool.false_ne_true] at R2
      refine wp_if_pos rfl (wpAny_bind (setR_add_hashed (s := { s with heap := h2, drawn := d1 }) (k := k) (tk := tk) R2 (by omega) fun h3 sb3 R3 => wpAny_pure (wpAny_bind (unch h3 _ ((sb.trans sb2).trans sb3) (wpAny_pure (next h3 _ ((sb.trans sb2).trans sb3) (R3.congr fun j => ?_) ?_))))))
      · by_cases c : j = k
        · rw [if_pos c, c, hc, decide_eq_true rfl]
          simp
        · rw [if_neg c, decide_eq_false c]
          simp
      · split <;> omega
  · rintro u s' ⟨done, h', m, e, rfl, sb, Rx, hmx⟩
    rw [List.append_nil] at e
    refine wpAny_pure (hQ h' d1 s.toks m sb (Rx.congr fun j => ?_) ?_)
    · unfold flipS
      rw [← e]
      congr 1
      cases c : S j with
      | true => exact (decide_eq_true ((ent.mem j).mp c)).symm
      | false => exact (decide_eq_false fun z => by rw [(ent.mem j).mpr z] at c; cases c).symm
    · rw [← e, Array.length_toList, hsz1] at hmx
      omega
  · unfold flipS
    simp
end
theorem entry_set_xor : entryFor table "set.__xor__" = some Builtin.«frozenset.__xor__» := entryFor_alias (id' := "frozenset.__xor__") (by kernel_rfl) rfl (by decide +kernel) (by kernel_rfl)
section
variable {P : Program} {w : World} {A : Around} {E : Value → Shared → Prop} {s : Shared} {a b : Addr} {S S2 : Int → Bool} {n n2 : Nat}
theorem setR_type (R : SetR w s.heap b S n) : s.TypeIs (.ref b) "set" := by
  obtain ⟨o, es, ep, t, ho, hex, _⟩ := R
  exact ⟨o, ho, hex.1⟩
/-- a new set of the members of another one -/
theorem new_from {id : String} {Q : Value → Shared → Prop} (R : SetR w s.heap b S n) (hn : n < 64) (hS : ∀ k, S k = true → 0 ≤ k ∧ k < 64)
    (hQ : ∀ h', h'.objs.size = s.heap.objs.size + 1 → (∀ c o, s.heap.get? c = some o → h'.get? c = some o) → SetR w h' s.heap.objs.size S n → Q (.ref s.heap.objs.size) { s with heap := h' }) : wpAny (model P w) A (Builtin.Frozenset.newFrom id (.type "set") (.ref b)) Q E s := by
  unfold Builtin.Frozenset.newFrom newSet
  refine wpAny_bind (wpAny_bind (wpAny_byText ?_))
  dsimp only
  simp only [newObj]
  refine wpAny_bind (wpAny_alloc (wpAny_pure ?_))
  have here : (s.heap.push (set0 w)).get? s.heap.objs.size = some (set0 w) := Heap.get?_push_size _ rfl
  have old : ∀ c o, s.heap.get? c = some o → (s.heap.push (set0 w)).get? c = some o := fun c o h => Heap.get?_push_of_some _ h
  have Rn : SetR w (s.heap.push (set0 w)) b S n := R.at fun o h => old _ _ h
  have nb : s.heap.objs.size ≠ b := Nat.ne_of_gt R.lt
  refine wpAny_bind (wpAny_pure ?_)
  refine wpAny_bind (wpAny_holding ?_)
  unfold Builtin.Frozenset.updateFrom
  refine wpAny_bind (any_set (s := { s with heap := s.heap.push (set0 w) }) (setR_type (s := { s with heap := s.heap.push (set0 w) }) Rn) ?_)
  refine wp_if_pos rfl ?_
  refine wpAny_bind (wpAny_pure ?_)
  unfold Builtin.Frozenset.merge
  have Rc := Rn
  obtain ⟨o, es, ep, t, ho, hex, hd, g, nd, hm, hb, hf, hsz, hr, hl⟩ := Rc
  refine wpAny_bind ?_
  unfold setEpoch
  refine wpAny_bind (wpAny_setState_of (s := { s with heap := s.heap.push (set0 w) }) ho hd hf (wpAny_pure ?_))
  refine merge_new (s := { s with heap := s.heap.push (set0 w) }) (blank_new here) Rn nb hn hS fun h' sb R' => ?_
  refine wpAny_pure (hQ h' ?_ (fun c o e => ?_) R')
  · rw [sb.1, Heap.size_push]
  · rw [sb.2 c (Nat.ne_of_lt (Heap.lt_size e))]
    exact old _ _ e
theorem xor_sets {Q : Value → Shared → Prop} (R : SetR w s.heap b S n) (R2 : SetR w s.heap a S2 n2) (hn : n < 64) (hn2 : n2 < 64) (hS : ∀ k, S2 k = true → 0 ≤ k ∧ k < 64)
    (hQ : ∀ h' d tk m, (∀ c o, s.heap.get? c = some o → h'.get? c = some o) → SetR w h' s.heap.objs.size (fun j => S2 j != S j) m → m ≤ n + n2 → Q (.ref s.heap.objs.size) { s with heap := h', drawn := d, toks := tk }) :
    wpAny (model P w) A (binaryOp .BitXor (.ref b) (.ref a)) Q E s := by
  refine wpAny_binaryOp_same (setR_type R) (setR_type R2) F.fills_set_xor F.slot_set_xor (wpAny_call_entry F.slot_set_xor (setR_type R) entry_set_xor ?_ (F.args_set_xor_2 _ _))
  unfold Builtin.«frozenset.__xor__»
  refine wpAny_bind (wpAny_of_eq (a := (.ref b, .ref a)) rfl ?_)
  dsimp only
  simp only [Bool.false_eq_true, if_false]
  refine wpAny_bind (wpAny_bind (any_set (setR_type R) ?_))
  show wpAny _ _ (Builtin.Frozenset.isAnySet (.ref a)) _ _ _
  refine any_set (setR_type R2) ?_
  refine wp_if_neg (by decide) ?_
  refine wpAny_bind (wpAny_pure ?_)
  refine wpAny_bind (wpAny_bind ?_)
  unfold Builtin.Frozenset.baseOf
  refine wpAny_bind (wpAny_isInstance (setR_type R) F.sub_set_set (wpAny_pure ?_))
  simp only [if_true]
  refine wpAny_bind (new_from R2 hn2 hS fun h1 hsz1 old1 R1 => ?_)
  have nb : s.heap.objs.size ≠ b := Nat.ne_of_gt R.lt
  have Rb : SetR w h1 b S n := R.at fun o h => old1 _ _ h
  refine wpAny_bind (wpAny_pure ?_)
  refine wpAny_bind (wpAny_holding (xor_update (s := { s with heap := h1 }) Rb R1 nb (by unfold scanBound; omega) fun h2 d tk m sb2 R' hm => wpAny_pure ?_))
  refine wpAny_pure ⟨_, rfl, fun z => (nomatch z), hQ h2 d tk m (fun c o e => ?_) R' hm⟩
  rw [sb2.2 c (Nat.ne_of_lt (Heap.lt_size e))]
  exact old1 _ _ e
end
/-- a set of numbers below B has B members at most -/
theorem setR_few {w : World} {h : Heap} {a : Addr} {S : Int → Bool} {n B : Nat} (R : SetR w h a S n) (hS : ∀ k, S k = true → 0 ≤ k ∧ k < (B : Nat)) : n ≤ B := by
  obtain ⟨o, es, ep, t, ho, hex, hd, g, nd, hm, hb, hf, hsz, hr, hl⟩ := R
  have hk : ∀ k ∈ es.toList.map keyOf, 0 ≤ k ∧ k < (B : Nat) := fun k hk => hS k ((hm k).mpr hk)
  have nd2 : ((es.toList.map keyOf).map Int.toNat).Nodup := by
    refine List.pairwise_map.mpr (List.Pairwise.imp_of_mem ?_ nd)
    intro x y hx hy hne z
    have := hk x hx
    have := hk y hy
    exact hne (by omega)
  have z := nat_nodup_len _ (List.range B) nd2 fun x hx => by
    obtain ⟨k, hk', rfl⟩ := List.mem_map.mp hx
    have := hk k hk'
    exact List.mem_range.mpr (by omega)
  simpa [hsz] using z
def rXorSet (w : World) : R2 := fun x y H Q => ∃ (a b : Addr) (S S2 : Int → Bool) (n n2 B : Nat), x = .ref a ∧ y = .ref b ∧ H a = some (SetO w a S n) ∧ H b = some (SetO w b S2 n2) ∧ B < 64 ∧ (∀ k, S k = true → 0 ≤ k ∧ k < (B : Nat)) ∧ (∀ k, S2 k = true → 0 ≤ k ∧ k < (B : Nat)) ∧
  ∀ p m, H p = none → m ≤ B → Q (.ref p) (upd H p (SetO w p (fun j => S2 j != S j) m))
section
variable {X : Cx}
/-- x ^ y, sets of small numbers -/
theorem op_xorSet : OpR X (binaryOp .BitXor) (rXorSet X.w) := by
  intro pins s σ H x y v u Q I rx ry h
  obtain ⟨a, b, S, S2, n, n2, B, rfl, rfl, ha, hb, hB, hS, hS2, q⟩ := h
  cases rx
  cases ry
  have hn := setR_few (setO_get I ha) hS
  have hn2 := setR_few (setO_get I hb) hS2
  refine xor_sets (setO_get I ha) (setO_get I hb) (by omega) (by omega) (fun k hk => by have := hS2 k hk; omega) fun h' d tk m old R _ => ?_
  have le : m ≤ B := setR_few R fun k hk => by
    cases e : S k with
    | true => exact hS k e
    | false =>
      rw [e] at hk
      exact hS2 k (by simpa using hk)
  have fresh := I.hok.fresh (Nat.le_refl s.heap.objs.size)
  have J : Inv X pins σ (upd H s.heap.objs.size (SetO X.w s.heap.objs.size (fun j => S2 j != S j) m)) { s with heap := h', gens := s.gens, drawn := d, toks := tk } :=
    I.call (ch := []) (Un.laid old (Nat.le_refl _) fresh) (I.hok.laid old (Nat.le_refl _) (setO_new R)) I.bare (fun _ z => nomatch z)
  exact ⟨.ref _, _, J, rfl, q _ m fresh le⟩
end
/-! ### words of levels, sides -/
def lvV (b : Bool) : V := if b then .str "stack" else .str "queue"
def sdV (b : Bool) : V := if b then .str "front" else .str "back"
theorem lv_ne : ¬ (V.str "queue" = V.str "stack") := by decide
theorem lv_dec (b : Bool) : decide (lvV b = .str "stack") = b := by
  cases b
  · exact decide_eq_false lv_ne
  · exact decide_eq_true rfl
def wordAt (ws : List Bool) (k : Nat) : Bool := ws.getD (min k (ws.length - 1)) false
theorem word_get {ws : List Bool} (h : ws ≠ []) (k : Nat) : (ws.map lvV)[min k (ws.length - 1)]? = some (lvV (wordAt ws k)) := by
  have hl : min k (ws.length - 1) < ws.length := by
    have : 0 < ws.length := List.length_pos_iff.mpr h
    omega
  rw [List.getElem?_map, List.getElem?_eq_getElem hl]
  unfold wordAt
  rw [List.getD_eq_getElem?_getD, List.getElem?_eq_getElem hl]
  rfl
/-- whether an odd number of the rows, at levels from lo on, have the word stack -/
def frontOf (ws : List Bool) (lo : Nat) (rs : List Row3) : Bool := decide (rs.countP (fun r => decide (lo ≤ r.1) && wordAt ws r.1) % 2 = 1)
theorem odd_succ (c : Nat) : decide ((c + 1) % 2 = 1) = !decide (c % 2 = 1) := by
  by_cases h : c % 2 = 1
  · rw [decide_eq_true h, decide_eq_false (by omega)]
    rfl
  · rw [decide_eq_false h, decide_eq_true (by omega)]
    rfl
theorem front_snoc (ws : List Bool) (lo : Nat) (rs : List Row3) (r : Row3) : frontOf ws lo (rs ++ [r]) = if (decide (lo ≤ r.1) && wordAt ws r.1) = true then !frontOf ws lo rs else frontOf ws lo rs := by
  unfold frontOf
  rw [List.countP_append, List.countP_singleton]
  split
  · exact odd_succ _
  · rw [Nat.add_zero]
/-! ### sides by counting digits: the mathematics -/
/-- of the indexes below j, how many have a digit other than 0 of d and the word stack -/
def cntW (ws : List Bool) (b d : Nat) : Nat → Nat
  | 0 => 0
  | k + 1 => cntW ws b d k + if d / b ^ k % b ≠ 0 ∧ wordAt ws k = true then 1 else 0
theorem tail_cnt (ws : List Bool) (b d : Nat) : ∀ k, (tailOf b d k).countP (fun r => decide (0 ≤ r.1) && wordAt ws r.1) = cntW ws b d k
  | 0 => rfl
  | k + 1 => by
    have ih := tail_cnt ws b d k
    unfold tailOf cntW
    by_cases h : d / b ^ k % b ≠ 0
    · rw [if_pos h, List.countP_cons, ih, decide_eq_true (Nat.zero_le _), Bool.true_and]
      cases hw : wordAt ws k with
      | true => rw [if_pos rfl, if_pos (show d / b ^ k % b ≠ 0 ∧ true = true from ⟨h, rfl⟩)]
      | false => rw [if_neg (by simp), if_neg (by simp)]
    · rw [if_neg h, ih, if_neg (fun z => h z.1), Nat.add_zero]
theorem front_cnt {ws : List Bool} {b n d k : Nat} (h : IsLev b n d k) (hnd : n < d) : frontOf ws 0 (rowsOf b n d k) = decide (cntW ws b d (k + 1) % 2 = 1) := by
  have hd := h.digit hnd
  have h0 : d / b ^ k % b ≠ 0 := by omega
  unfold frontOf
  have e : (rowsOf b n d k).countP (fun r => decide (0 ≤ r.1) && wordAt ws r.1) = cntW ws b d (k + 1) := by
    unfold rowsOf cntW
    rw [List.countP_cons, tail_cnt, decide_eq_true (Nat.zero_le _), Bool.true_and]
    cases hw : wordAt ws k with
    | true => rw [if_pos rfl, if_pos (show d / b ^ k % b ≠ 0 ∧ true = true from ⟨h0, rfl⟩)]
    | false => rw [if_neg (by simp), if_neg (by simp)]
  rw [e]
/-- which of two periodic timers goes ahead, where both fire again -/
def IsAhead (b : Nat) (ws : List Bool) (p1 p2 d : Nat) (v : Bool) : Prop :=
  (p1 < p2 → ∀ k, IsLev b (d - p1) d k → v = frontOf ws 0 (rowsOf b (d - p1) d k)) ∧ (¬ p1 < p2 → ∀ k, IsLev b (d - p2) d k → v = !frontOf ws 0 (rowsOf b (d - p2) d k))
/-! ### levels compared -/
theorem lev_le {b n d k : Nat} (h : IsLev b n d k) (hnd : n < d) {j : Nat} (hj : j ≤ k) : n / b ^ j < d / b ^ j := by
  have h2 : n / b ^ j ≤ d / b ^ j := Nat.div_le_div_right (Nat.le_of_lt hnd)
  rcases Nat.eq_or_lt_of_le h2 with e | l
  · cases j with
    | zero =>
      rw [Nat.pow_zero, Nat.div_one, Nat.div_one] at e
      omega
    | succ i => exact absurd e (h.2 i (by omega))
  · exact l
theorem lev_gt {b n d k : Nat} (h : IsLev b n d k) {j : Nat} (hj : k < j) : n / b ^ j = d / b ^ j := by
  have e : j = (k + 1) + (j - (k + 1)) := by omega
  rw [e, Nat.pow_add, ← Nat.div_div_eq_div_mul, ← Nat.div_div_eq_div_mul, h.1]
theorem lev_any {b n d : Nat} (hb : 2 ≤ b) (hnd : n < d) : ∃ k, IsLev b n d k := by
  have H : ∀ t, n / b ^ t = d / b ^ t → ∃ k, IsLev b n d k := by
    intro t
    induction t with
    | zero =>
      intro e
      rw [Nat.pow_zero, Nat.div_one, Nat.div_one] at e
      omega
    | succ t ih =>
      intro e
      by_cases c : n / b ^ t = d / b ^ t
      · exact ih c
      · refine ⟨t, e, fun j hj z => c ?_⟩
        have e2 : t = (j + 1) + (t - (j + 1)) := by omega
        rw [e2, Nat.pow_add, ← Nat.div_div_eq_div_mul, ← Nat.div_div_eq_div_mul, z]
  have hl : d < b ^ d := Nat.lt_of_lt_of_le Nat.lt_two_pow_self (Nat.pow_le_pow_left hb d)
  refine H d ?_
  rw [Nat.div_eq_of_lt hl, Nat.div_eq_of_lt (by omega)]
/-! ### levels found by sightings: equations as lists of levels -/
def Asc (l : List Nat) : Prop := l.Pairwise (· < ·)
theorem asc_uniq : ∀ {l m : List Nat}, Asc l → Asc m → (∀ x, x ∈ l ↔ x ∈ m) → l = m
  | [], [], _, _, _ => rfl
  | [], y :: m, _, _, h => absurd ((h y).mpr List.mem_cons_self) (by simp)
  | x :: l, [], _, _, h => absurd ((h x).mp List.mem_cons_self) (by simp)
  | x :: l, y :: m, hl, hm, h => by
    have hl := List.pairwise_cons.mp hl
    have hm := List.pairwise_cons.mp hm
    have e : x = y := by
      rcases List.mem_cons.mp ((h x).mp List.mem_cons_self) with z | z
      · exact z
      · rcases List.mem_cons.mp ((h y).mpr List.mem_cons_self) with u | u
        · exact u.symm
        · have := hl.1 y u
          have := hm.1 x z
          omega
    subst e
    rw [asc_uniq hl.2 hm.2 fun z => ⟨fun hz => ?_, fun hz => ?_⟩]
    · rcases List.mem_cons.mp ((h z).mp (List.mem_cons_of_mem _ hz)) with u | u
      · have := hl.1 z hz
        omega
      · exact u
    · rcases List.mem_cons.mp ((h z).mpr (List.mem_cons_of_mem _ hz)) with u | u
      · have := hm.1 z hz
        omega
      · exact u
theorem Asc.few {l : List Nat} {B : Nat} (h : Asc l) (hb : ∀ x ∈ l, x < B) : l.length ≤ B := by
  have nd : l.Nodup := h.imp fun h => by omega
  have z := nat_nodup_len l (List.range B) nd fun x hx => List.mem_range.mpr (hb x hx)
  rw [List.length_range] at z
  exact z
/-- the last one is the greatest -/
theorem Asc.last {l : List Nat} (h : Asc l) {x : Nat} (hx : l.getLast? = some x) : x ∈ l ∧ ∀ y ∈ l, y ≤ x := by
  obtain ⟨m, rfl⟩ := List.getLast?_eq_some_iff.mp hx
  have hp := List.pairwise_append.mp h
  refine ⟨by simp, fun y hy => ?_⟩
  rcases List.mem_append.mp hy with z | z
  · exact Nat.le_of_lt (hp.2.2 y z x (by simp))
  · rw [List.mem_singleton.mp z]
    exact Nat.le_refl _
abbrev Eqn := List Nat × Bool
def eqLow (many : Nat) (rs : List Row3) : List Nat := ((rs.map (·.1)).filter fun l => decide (l < many - 1)).reverse
/-- the levels whose words tell the side -/
def eqLv (many : Nat) (rs : List Row3) : List Nat := eqLow many rs ++ if (rs.length - (eqLow many rs).length) % 2 = 1 then [many - 1] else []
theorem tail_levs (b d : Nat) : ∀ k, ((tailOf b d k).map (·.1)).Pairwise (· > ·) ∧ ∀ x ∈ (tailOf b d k).map (·.1), x < k
  | 0 => ⟨List.Pairwise.nil, fun x hx => by simp [tailOf] at hx⟩
  | k + 1 => by
    have ih := tail_levs b d k
    unfold tailOf
    split
    · rw [List.map_cons]
      refine ⟨List.pairwise_cons.mpr ⟨fun x hx => ih.2 x hx, ih.1⟩, fun x hx => ?_⟩
      rcases List.mem_cons.mp hx with z | z
      · rw [z]
        exact Nat.lt_succ_self k
      · exact Nat.lt_succ_of_lt (ih.2 x z)
    · exact ⟨ih.1, fun x hx => Nat.lt_succ_of_lt (ih.2 x hx)⟩
theorem rows_levs (b n d k : Nat) : ((rowsOf b n d k).map (·.1)).Pairwise (· > ·) := by
  unfold rowsOf
  rw [List.map_cons]
  exact List.pairwise_cons.mpr ⟨fun x hx => (tail_levs b d k).2 x hx, (tail_levs b d k).1⟩
theorem low_asc {many : Nat} {rs : List Row3} (h : (rs.map (·.1)).Pairwise (· > ·)) : Asc (eqLow many rs) ∧ ∀ x ∈ eqLow many rs, x < many - 1 := by
  unfold eqLow
  refine ⟨?_, fun x hx => ?_⟩
  · unfold Asc
    rw [List.pairwise_reverse]
    exact h.filter _
  · have := (List.mem_filter.mp (List.mem_reverse.mp hx)).2
    exact of_decide_eq_true this
theorem eq_asc {many : Nat} {rs : List Row3} (hm : 1 ≤ many) (h : (rs.map (·.1)).Pairwise (· > ·)) : Asc (eqLv many rs) ∧ ∀ x ∈ eqLv many rs, x < many := by
  have ⟨h1, h2⟩ := low_asc (many := many) h
  unfold eqLv
  split
  · refine ⟨List.pairwise_append.mpr ⟨h1, List.pairwise_singleton _ _, fun x hx y hy => ?_⟩, fun x hx => ?_⟩
    · rw [List.mem_singleton.mp hy]
      exact h2 x hx
    · rcases List.mem_append.mp hx with z | z
      · have := h2 x z
        omega
      · rw [List.mem_singleton.mp z]
        omega
  · rw [List.append_nil]
    exact ⟨h1, fun x hx => by have := h2 x hx; omega⟩
/-- the levels that only one of two has -/
def symL (l m : List Nat) : List Nat := (List.range 64).filter fun j => decide (j ∈ l) != decide (j ∈ m)
theorem sym_asc (l m : List Nat) : Asc (symL l m) := List.pairwise_lt_range.filter _
theorem sym_mem {l m : List Nat} (h1 : ∀ x ∈ l, x < 64) (h2 : ∀ x ∈ m, x < 64) (x : Nat) : x ∈ symL l m ↔ (decide (x ∈ l) != decide (x ∈ m)) = true := by
  unfold symL
  rw [List.mem_filter, List.mem_range]
  refine ⟨fun h => h.2, fun h => ⟨?_, h⟩⟩
  by_cases c : x ∈ l
  · exact h1 x c
  · by_cases c2 : x ∈ m
    · exact h2 x c2
    · rw [decide_eq_false c, decide_eq_false c2] at h
      cases h
/-- what is left of an equation, by the known ones -/
def red (kn : Nat → Option Eqn) : Nat → Eqn → Eqn
  | 0, e => e
  | f + 1, e => match e.1.getLast? with
    | none => e
    | some l => match kn l with
      | none => e
      | some g => red kn f (symL e.1 g.1, e.2 != g.2)
/-- the known equations: each by its highest level -/
def KnOk (many : Nat) (kn : Nat → Option Eqn) : Prop := ∀ l g, kn l = some g → Asc g.1 ∧ g.1.getLast? = some l ∧ l < many
theorem KnOk.lt {many : Nat} {kn : Nat → Option Eqn} (h : KnOk many kn) {l : Nat} {g : Eqn} (e : kn l = some g) : ∀ x ∈ g.1, x < many := fun x hx => by
  have ⟨h1, h2, h3⟩ := h l g e
  have := (h1.last h2).2 x hx
  omega
/-- a step of the reduction is below the level that it takes away -/
theorem sym_less {l m : List Nat} {x : Nat} (hl : Asc l) (hm : Asc m) (h1 : l.getLast? = some x) (h2 : m.getLast? = some x) (hx : x < 64) : ∀ y ∈ symL l m, y < x := fun y hy => by
  have a := hl.last h1
  have b := hm.last h2
  have z := (sym_mem (fun y hy => by have := a.2 y hy; omega) (fun y hy => by have := b.2 y hy; omega) y).mp hy
  have le : y ≤ x := by
    by_cases c : y ∈ l
    · exact a.2 y c
    · by_cases c2 : y ∈ m
      · exact b.2 y c2
      · rw [decide_eq_false c, decide_eq_false c2] at z
        cases z
  rcases Nat.lt_or_eq_of_le le with c | c
  · exact c
  · rw [c, decide_eq_true a.1, decide_eq_true b.1] at z
    cases z
theorem red_ok {many : Nat} {kn : Nat → Option Eqn} (hm : many ≤ 60) (h : KnOk many kn) : ∀ (f : Nat) (e : Eqn), Asc e.1 → (∀ x ∈ e.1, x < many) → (∀ x ∈ e.1, x < f) →
    Asc (red kn f e).1 ∧ (∀ x ∈ (red kn f e).1, x < many) ∧ ∀ l, (red kn f e).1.getLast? = some l → kn l = none
  | 0, e, h1, h2, h3 => by
    have e0 : e.1 = [] := List.eq_nil_iff_forall_not_mem.mpr fun x hx => Nat.not_lt_zero x (h3 x hx)
    refine ⟨h1, h2, fun l hl => ?_⟩
    have hl : e.1.getLast? = some l := hl
    rw [e0] at hl
    cases hl
  | f + 1, e, h1, h2, h3 => by
    unfold red
    cases c : e.1.getLast? with
    | none => exact ⟨h1, h2, fun l hl => by rw [c] at hl; cases hl⟩
    | some l =>
      dsimp only
      cases d : kn l with
      | none =>
        refine ⟨h1, h2, fun y hy => ?_⟩
        have hy : e.1.getLast? = some y := hy
        rw [c] at hy
        rw [← Option.some.inj hy]
        exact d
      | some g =>
        have ⟨g1, g2, g3⟩ := h l g d
        have less := sym_less h1 g1 c g2 (by omega)
        have hl := h3 l (h1.last c).1
        exact red_ok hm h f _ (sym_asc _ _) (fun x hx => by have := less x hx; omega) (fun x hx => by have := less x hx; omega)
theorem red_none {kn : Nat → Option Eqn} {e : Eqn} (h : e.1 = []) : ∀ f, red kn f e = e
  | 0 => rfl
  | f + 1 => by
    unfold red
    rw [h]
    rfl
theorem red_stop {kn : Nat → Option Eqn} {e : Eqn} {l : Nat} (h : e.1.getLast? = some l) (hk : kn l = none) : ∀ f, red kn f e = e
  | 0 => rfl
  | f + 1 => by
    unfold red
    rw [h]
    dsimp only
    rw [hk]
theorem red_step {kn : Nat → Option Eqn} {e g : Eqn} {l f : Nat} (h : e.1.getLast? = some l) (hk : kn l = some g) : red kn (f + 1) e = red kn f (symL e.1 g.1, e.2 != g.2) := by
  show (match e.1.getLast? with | none => e | some l => match kn l with | none => e | some g => red kn f (symL e.1 g.1, e.2 != g.2)) = _
  rw [h]
  dsimp only
  rw [hk]
/-! ### levels found by sightings: the least list and the number of lists -/
def wordF (ws : List Bool) (e : Eqn) : Bool := decide ((e.1.dropLast.filter fun l => ws.getD l false).length % 2 = 1) != e.2
def leastW (kn : Nat → Option Eqn) : Nat → List Bool × Nat
  | 0 => ([], 1)
  | n + 1 => match kn n with
    | some g => ((leastW kn n).1 ++ [wordF (leastW kn n).1 g], (leastW kn n).2)
    | none => ((leastW kn n).1 ++ [false], (leastW kn n).2 * 2)
theorem least_len (kn : Nat → Option Eqn) : ∀ n, (leastW kn n).1.length = n
  | 0 => rfl
  | n + 1 => by
    have ih := least_len kn n
    unfold leastW
    split <;> (rw [List.length_append, ih]; rfl)
theorem least_cnt (kn : Nat → Option Eqn) : ∀ n, (leastW kn n).2 ≤ 2 ^ n
  | 0 => Nat.le_refl _
  | n + 1 => by
    have ih := least_cnt kn n
    unfold leastW
    rw [Nat.pow_succ]
    split
    · show (leastW kn n).2 ≤ _
      omega
    · show (leastW kn n).2 * 2 ≤ _
      omega
/-- the equations one by one: the number of the first that can't be, or what is known -/
def runE : List Eqn → Nat → (Nat → Option Eqn) → Nat ⊕ (Nat → Option Eqn)
  | [], _, kn => .inr kn
  | e :: es, i, kn => match (red kn 64 e).1.getLast? with
    | some l => runE es (i + 1) (fun j => if j = l then some (red kn 64 e) else kn j)
    | none => if (red kn 64 e).2 = true then .inl (i + 1) else runE es (i + 1) kn
open Classical in
noncomputable def eqnOf (b many : Nat) (s : Nat × Nat × Bool) : Eqn := if h : ∃ k, IsLev b s.1 s.2.1 k then (eqLv many (rowsOf b s.1 s.2.1 (Classical.choose h)), s.2.2) else ([], s.2.2)
theorem eqnOf_eq {b many k : Nat} {s : Nat × Nat × Bool} (hk : IsLev b s.1 s.2.1 k) : eqnOf b many s = (eqLv many (rowsOf b s.1 s.2.1 k), s.2.2) := by
  have e : ∃ k, IsLev b s.1 s.2.1 k := ⟨k, hk⟩
  unfold eqnOf
  rw [dif_pos e, (Classical.choose_spec e).uniq hk]
theorem eqnOf_asc {b many : Nat} {s : Nat × Nat × Bool} (hm : 1 ≤ many) : Asc (eqnOf b many s).1 ∧ ∀ x ∈ (eqnOf b many s).1, x < many := by
  unfold eqnOf
  split
  · exact eq_asc hm (rows_levs _ _ _ _)
  · exact ⟨List.Pairwise.nil, fun x hx => nomatch hx⟩
noncomputable def seenR (b many : Nat) (ss : List (Nat × Nat × Bool)) : Nat ⊕ (List Bool × Nat) := match runE (ss.map (eqnOf b many)) 0 (fun _ => none) with
  | .inl k => .inl k
  | .inr kn => .inr (leastW kn many)
theorem seenR_inl {b many k : Nat} {ss : List (Nat × Nat × Bool)} (h : runE (ss.map (eqnOf b many)) 0 (fun _ => none) = .inl k) : seenR b many ss = .inl k := by
  unfold seenR
  rw [h]
theorem seenR_inr {b many : Nat} {ss : List (Nat × Nat × Bool)} {kn : Nat → Option Eqn} (h : runE (ss.map (eqnOf b many)) 0 (fun _ => none) = .inr kn) : seenR b many ss = .inr (leastW kn many) := by
  unfold seenR
  rw [h]
def topS (i : Nat) : Stmt := PySem.Challenge.pw_timerdeque_k30_levels_found_by_sightings.main.body.getD i (.Pass ⟨0, 0, 0, 0⟩)
abbrev s_is_integer : Stmt := topS 7
abbrev N_is_integer : List Str := ["given"]
theorem sc_is_integer : FnScope N_is_integer ["given"] (defScope s_is_integer) := by
  refine ⟨rfl, rfl, rfl, ?_, rfl, ?_, ?_⟩ <;> decide +kernel
abbrev s_is_base : Stmt := topS 8
abbrev N_is_base : List Str := ["given"]
theorem sc_is_base : FnScope N_is_base ["given"] (defScope s_is_base) := by
  refine ⟨rfl, rfl, rfl, ?_, rfl, ?_, ?_⟩ <;> decide +kernel
abbrev s_is_length : Stmt := topS 9
abbrev N_is_length : List Str := ["given"]
theorem sc_is_length : FnScope N_is_length ["given"] (defScope s_is_length) := by
  refine ⟨rfl, rfl, rfl, ?_, rfl, ?_, ?_⟩ <;> decide +kernel
abbrev s_is_tick : Stmt := topS 10
abbrev N_is_tick : List Str := ["given", "least"]
theorem sc_is_tick : FnScope N_is_tick ["given", "least"] (defScope s_is_tick) := by
  refine ⟨rfl, rfl, rfl, ?_, rfl, ?_, ?_⟩ <;> decide +kernel
abbrev s_check_base : Stmt := topS 11
abbrev N_check_base : List Str := ["base"]
theorem sc_check_base : FnScope N_check_base ["base"] (defScope s_check_base) := by
  refine ⟨rfl, rfl, rfl, ?_, rfl, ?_, ?_⟩ <;> decide +kernel
abbrev s_level_and_size : Stmt := topS 13
abbrev N_level_and_size : List Str := ["base", "now", "due", "level", "size", "above_now", "above_due"]
theorem sc_level_and_size : FnScope N_level_and_size ["base", "now", "due"] (defScope s_level_and_size) := by
  refine ⟨rfl, rfl, rfl, ?_, rfl, ?_, ?_⟩ <;> decide +kernel
abbrev s_path : Stmt := topS 14
abbrev N_path : List Str := ["base", "now", "due", "level", "size", "rows", "tick", "digit"]
theorem sc_path : FnScope N_path ["base", "now", "due"] (defScope s_path) := by
  refine ⟨rfl, rfl, rfl, ?_, rfl, ?_, ?_⟩ <;> decide +kernel
abbrev s_is_sighting : Stmt := topS 17
abbrev N_is_sighting : List Str := ["given", "now", "due", "told"]
theorem sc_is_sighting : FnScope N_is_sighting ["given"] (defScope s_is_sighting) := by
  refine ⟨rfl, rfl, rfl, ?_, rfl, ?_, ?_⟩ <;> decide +kernel
abbrev s_check_many : Stmt := topS 18
abbrev N_check_many : List Str := ["many"]
theorem sc_check_many : FnScope N_check_many ["many"] (defScope s_check_many) := by
  refine ⟨rfl, rfl, rfl, ?_, rfl, ?_, ?_⟩ <;> decide +kernel
abbrev s_check_seen : Stmt := topS 19
abbrev N_check_seen : List Str := ["seen", "given"]
theorem sc_check_seen : FnScope N_check_seen ["seen"] (defScope s_check_seen) := by
  refine ⟨rfl, rfl, rfl, ?_, rfl, ?_, ?_⟩ <;> decide +kernel
abbrev s_equation : Stmt := topS 20
abbrev N_equation : List Str := ["base", "many", "sighting", "now", "due", "told", "rows", "levels", "level", "digit", "tick"]
theorem sc_equation : FnScope N_equation ["base", "many", "sighting"] (defScope s_equation) := by
  refine ⟨rfl, rfl, rfl, ?_, rfl, ?_, ?_⟩ <;> decide +kernel
abbrev s_reduced : Stmt := topS 21
abbrev N_reduced : List Str := ["levels", "odd", "known", "others", "other_odd"]
theorem sc_reduced : FnScope N_reduced ["levels", "odd", "known"] (defScope s_reduced) := by
  refine ⟨rfl, rfl, rfl, ?_, rfl, ?_, ?_⟩ <;> decide +kernel
abbrev s_word_that_follows : Stmt := topS 22
abbrev N_word_that_follows : List Str := ["words", "levels", "odd", "stacks", "level"]
theorem sc_word_that_follows : FnScope N_word_that_follows ["words", "levels", "odd"] (defScope s_word_that_follows) := by
  refine ⟨rfl, rfl, rfl, ?_, rfl, ?_, ?_⟩ <;> decide +kernel
abbrev s_least_and_count : Stmt := topS 23
abbrev N_least_and_count : List Str := ["many", "known", "words", "count", "level", "levels", "odd"]
theorem sc_least_and_count : FnScope N_least_and_count ["many", "known"] (defScope s_least_and_count) := by
  refine ⟨rfl, rfl, rfl, ?_, rfl, ?_, ?_⟩ <;> decide +kernel
abbrev s_levels_seen : Stmt := topS 24
abbrev N_levels_seen : List Str := ["base", "many", "seen", "known", "at", "sighting", "levels", "odd", "first", "count"]
theorem sc_levels_seen : FnScope N_levels_seen ["base", "many", "seen"] (defScope s_levels_seen) := by
  refine ⟨rfl, rfl, rfl, ?_, rfl, ?_, ?_⟩ <;> decide +kernel
abbrev s__law_cell_at : Stmt := topS 26
abbrev N__law_cell_at : List Str := ["_law_script", "_law_k"]
theorem sc__law_cell_at : FnScope N__law_cell_at ["_law_script", "_law_k"] (defScope s__law_cell_at) := by
  refine ⟨rfl, rfl, rfl, ?_, rfl, ?_, ?_⟩ <;> decide +kernel
abbrev s__law_mixed : Stmt := topS 27
abbrev N__law_mixed : List Str := ["_law_cell", "_law_k", "_law_low"]
theorem sc__law_mixed : FnScope N__law_mixed ["_law_cell", "_law_k"] (defScope s__law_mixed) := by
  refine ⟨rfl, rfl, rfl, ?_, rfl, ?_, ?_⟩ <;> decide +kernel
abbrev s__law_source : Stmt := topS 28
abbrev N__law_source : List Str := ["_law_script", "_law_k", "_law_cell"]
theorem sc__law_source : FnScope N__law_source ["_law_script", "_law_k"] (defScope s__law_source) := by
  refine ⟨rfl, rfl, rfl, ?_, rfl, ?_, ?_⟩ <;> decide +kernel
abbrev s__law_next : Stmt := topS 29
abbrev N__law_next : List Str := ["_law_source_here", "_law_many", "_law_found"]
theorem sc__law_next : FnScope N__law_next ["_law_source_here", "_law_many"] (defScope s__law_next) := by
  refine ⟨rfl, rfl, rfl, ?_, rfl, ?_, ?_⟩ <;> decide +kernel
abbrev s__law_base : Stmt := topS 30
abbrev N__law_base : List Str := ["_law_source_here"]
theorem sc__law_base : FnScope N__law_base ["_law_source_here"] (defScope s__law_base) := by
  refine ⟨rfl, rfl, rfl, ?_, rfl, ?_, ?_⟩ <;> decide +kernel
abbrev s__law_tick : Stmt := topS 31
abbrev N__law_tick : List Str := ["_law_source_here", "_law_base_here", "_law_sort", "_law_size", "_law_at"]
theorem sc__law_tick : FnScope N__law_tick ["_law_source_here", "_law_base_here"] (defScope s__law_tick) := by
  refine ⟨rfl, rfl, rfl, ?_, rfl, ?_, ?_⟩ <;> decide +kernel
abbrev s__law_is_front : Stmt := topS 32
abbrev N__law_is_front : List Str := ["_law_base_here", "_law_levels", "_law_now", "_law_due", "_law_odd", "_law_at"]
theorem sc__law_is_front : FnScope N__law_is_front ["_law_base_here", "_law_levels", "_law_now", "_law_due"] (defScope s__law_is_front) := by
  refine ⟨rfl, rfl, rfl, ?_, rfl, ?_, ?_⟩ <;> decide +kernel
abbrev s__law_mask : Stmt := topS 33
abbrev N__law_mask : List Str := ["_law_base_here", "_law_many", "_law_now", "_law_due", "_law_found", "_law_at"]
theorem sc__law_mask : FnScope N__law_mask ["_law_base_here", "_law_many", "_law_now", "_law_due"] (defScope s__law_mask) := by
  refine ⟨rfl, rfl, rfl, ?_, rfl, ?_, ?_⟩ <;> decide +kernel
abbrev s__law_parity : Stmt := topS 34
abbrev N__law_parity : List Str := ["_law_number", "_law_odd"]
theorem sc__law_parity : FnScope N__law_parity ["_law_number"] (defScope s__law_parity) := by
  refine ⟨rfl, rfl, rfl, ?_, rfl, ?_, ?_⟩ <;> decide +kernel
abbrev s__law_by_bits : Stmt := topS 35
abbrev N__law_by_bits : List Str := ["_law_base_here", "_law_many", "_law_seen", "_law_rows", "_law_count", "_law_now", "_law_due", "_law_word", "_law_mask_here", "_law_odd", "_law_top", "_law_stacks", "_law_words", "_law_at"]
theorem sc__law_by_bits : FnScope N__law_by_bits ["_law_base_here", "_law_many", "_law_seen"] (defScope s__law_by_bits) := by
  refine ⟨rfl, rfl, rfl, ?_, rfl, ?_, ?_⟩ <;> decide +kernel
abbrev s__law_gone_through : Stmt := topS 36
abbrev N__law_gone_through : List Str := ["_law_base_here", "_law_many", "_law_seen", "_law_lists", "_law_at", "_law_longer", "_law_row", "_law_count", "_law_now", "_law_due", "_law_word"]
theorem sc__law_gone_through : FnScope N__law_gone_through ["_law_base_here", "_law_many", "_law_seen"] (defScope s__law_gone_through) := by
  refine ⟨rfl, rfl, rfl, ?_, rfl, ?_, ?_⟩ <;> decide +kernel
abbrev s__law_sightings : Stmt := topS 37
abbrev N__law_sightings : List Str := ["_law_source_here", "_law_base_here", "_law_hidden", "_law_found", "_law_time", "_law_near", "_law_ends", "_law_now", "_law_due", "_law_at", "_law_word"]
theorem sc__law_sightings : FnScope N__law_sightings ["_law_source_here", "_law_base_here", "_law_hidden"] (defScope s__law_sightings) := by
  refine ⟨rfl, rfl, rfl, ?_, rfl, ?_, ?_⟩ <;> decide +kernel
abbrev s_law : Stmt := topS 38
abbrev N_law : List Str := ["_law_script", "_law_k", "_law_source_here", "_law_base_here", "_law_many", "_law_hidden", "_law_seen", "_law_due", "_law_kept", "_law_told", "_law_at"]
theorem sc_law : FnScope N_law ["_law_script"] (defScope s_law) := by
  refine ⟨rfl, rfl, rfl, ?_, rfl, ?_, ?_⟩ <;> decide +kernel
/-- what the top leaves of built-in names -/
structure Tx (K : PySem.W.Frag) (mg : Str → Option Value) : Prop where
  b_isinstance : mg "isinstance" = none
  b_int : mg "int" = none
  b_bool : mg "bool" = none
  b_str : mg "str" = none
  b_tuple : mg "tuple" = none
  b_len : mg "len" = none
  b_list : mg "list" = none
  b_all : mg "all" = none
  b_sorted : mg "sorted" = none
  b_set : mg "set" = none
  b_range : mg "range" = none
  b_enumerate : mg "enumerate" = none
  b_max : mg "max" = none
  b_min : mg "min" = none
/-! ### the program: what an integer is, bases, ticks -/
def slotInt (σ : L2.St) (i : Nat) : Nat := match σ[i]? with
  | some (some (.int z)) => z.toNat
  | _ => 0
theorem cast_div (a b : Nat) : (a : Int) / (b : Int) = ((a / b : Nat) : Int) := rfl
theorem cast_mod (a b : Nat) : (a : Int) % (b : Int) = ((a % b : Nat) : Int) := rfl
theorem cast_mul (a b : Nat) : (a : Int) * (b : Int) = ((a * b : Nat) : Int) := (Int.natCast_mul a b).symm
theorem cast_add (a b : Nat) : (a : Int) + (b : Int) = ((a + b : Nat) : Int) := rfl
theorem natAbs_cast (a : Nat) : ((a : Nat) : Int).natAbs = a := rfl
theorem divp_s {i j : Int} (b : Nat) (hj : 0 < j) (hi : i.natAbs < 2 ^ b) (h : b ≤ 3000 := by decide) : CDivP i j := by
  refine divp_ok hj ?_
  have := PyProof.Rows.intBits_le hi
  omega
section
variable {P : Program} {w : World} {K : PySem.W.Frag} {mg : Str → Option Value} {base : Heap}
def spIsInt : Sp := fun vs H Q _ => ∃ n : Int, vs = [.int n] ∧ Q (.bl true) H
theorem ok_is_integer {f : Addr} {fd : FuncData} (F : Fun K "is_integer" "is_integer" s_is_integer f fd) (T : Tx K mg) : FnOk P w K mg base CX0 1 f fd ["given"] spIsInt := by
  refine F.ok sc_is_integer (fun vs H Q E h => ?_) (fun cdv A outer s H vs Q E hr h => ?_)
  · obtain ⟨n, rfl, _⟩ := h
    rfl
  · obtain ⟨n, rfl, q⟩ := h
    refine ⟨_, (pss_one (ps_ret (pe_and (pe_callB (isiK (K := K) rfl) (by rfl) T.b_isinstance (by decide +kernel) (pa_cons (pv 0) (pa_cons (pe_bltn (v := .ty "int") (u := .type "int") (by rfl) T.b_int (by decide +kernel) rfl) pa_nil))) (pe_one (pe_not (pe_callB (isiK (K := K) rfl) (by rfl) T.b_isinstance (by decide +kernel) (pa_cons (pv 0) (pa_cons (pe_bltn (v := .ty "bool") (u := .type "bool") (by rfl) T.b_bool (by decide +kernel) rfl) pa_nil)))))))), ?_⟩
    refine ⟨.int n, rfl, .int n, _, _, _, true, rfl, .ty "int", .base (.int n), kit_ty (by decide +kernel), true, rfl, iteT ?_⟩
    exact ⟨.int n, rfl, .int n, _, _, _, false, rfl, .ty "bool", .base (.int n), kit_ty (by decide +kernel), false, rfl, q⟩
end
/-! ### bases -/
section
variable {P : Program} {w : World} {K : PySem.W.Frag} {mg : Str → Option Value} {base : Heap}
def spIsBase : Sp := fun vs H Q _ => ∃ n : Int, vs = [.int n] ∧ 2 ≤ n ∧ n ≤ 64 ∧ Q (.bl true) H
theorem ok_is_base {f : Addr} {fd : FuncData} (F : Fun K "is_base" "is_base" s_is_base f fd) (h1 : Has P w K mg base 1 "is_integer" ["given"] [] spIsInt) : FnOk P w K mg base CX0 2 f fd ["given"] spIsBase := by
  obtain ⟨f_is_integer, fd_is_integer, ds_is_integer, G_is_integer, m_is_integer, k_is_integer, b_is_integer, v_is_integer⟩ := h1
  refine F.ok sc_is_base (fun vs H Q E h => ?_) (fun cdv A outer s H vs Q E hr h => ?_)
  · obtain ⟨n, rfl, _⟩ := h
    rfl
  · obtain ⟨n, rfl, l1, l2, q⟩ := h
    refine ⟨_, (pss_one (ps_ret (pe_and (pe_call G_is_integer hr (by rfl) m_is_integer k_is_integer b_is_integer v_is_integer pass0 (pa_cons (pv 0) pa_nil)) (pe_one (pe_chain op_le op_le pe_int (pv 0) pe_int))))), ?_⟩
    refine ⟨.int n, rfl, n, rfl, true, rfl, iteT ?_⟩
    refine ⟨.int n, rfl, 2, n, rfl, rfl, true, congrArg V.bl (decide_eq_true l1), iteT ?_⟩
    refine ⟨n, 64, rfl, rfl, ?_⟩
    have e : V.bl (decide (n ≤ 64)) = V.bl true := dT l2
    show Q (V.bl (decide (n ≤ 64))) H
    rw [e]
    exact q
def spCheckBase : Sp := fun vs H Q _ => ∃ n : Int, vs = [.int n] ∧ 2 ≤ n ∧ n ≤ 64 ∧ Q .non H
theorem ok_check_base {f : Addr} {fd : FuncData} (F : Fun K "check_base" "check_base" s_check_base f fd) (h1 : Has P w K mg base 2 "is_base" ["given"] [] spIsBase) : FnOk P w K mg base CX0 3 f fd ["base"] spCheckBase := by
  obtain ⟨f_is_base, fd_is_base, ds_is_base, G_is_base, m_is_base, k_is_base, b_is_base, v_is_base⟩ := h1
  refine F.ok sc_check_base (fun vs H Q E h => ?_) (fun cdv A outer s H vs Q E hr h => ?_)
  · obtain ⟨n, rfl, _⟩ := h
    rfl
  · obtain ⟨n, rfl, l1, l2, q⟩ := h
    refine ⟨_, (pss_one (ps_if (pt_not (pt_val (pe_call G_is_base hr (by rfl) m_is_base k_is_base b_is_base v_is_base pass0 (pa_cons (pv 0) pa_nil))))
        (pss_one ps_never)
        pss_nil)), ?_⟩
    exact ⟨.int n, rfl, n, rfl, l1, l2, true, rfl, iteF q⟩
end
def MostAt (mg : Str → Option Value) : Prop := ∃ t, mg "MOST_LEVELS" = some (.int 60 t)
/-! ### is_integer of any value; a tick that is none -/
section
variable {P : Program} {w : World} {K : PySem.W.Frag} {mg : Str → Option Value} {base : Heap}
def spIsIntX (K : PySem.W.Frag) : Sp := fun vs H Q _ => ∃ x : V, vs = [x] ∧ ((∃ n : Int, x = .int n ∧ Q (.bl true) H) ∨ (NoInt K H x ∧ Q (.bl false) H))
theorem okA_is_integer {f : Addr} {fd : FuncData} (F : Fun K "is_integer" "is_integer" s_is_integer f fd) (T : Tx K mg) : FnOk P w K mg base CX0 1 f fd ["given"] (spIsIntX K) := by
  refine F.ok sc_is_integer (fun vs H Q E h => ?_) (fun cdv A outer s H vs Q E hr h => ?_)
  · obtain ⟨x, rfl, _⟩ := h
    rfl
  · obtain ⟨x, rfl, hx⟩ := h
    refine ⟨_, (pss_one (ps_ret (pe_and (pe_callB (isiK (K := K) rfl) (by rfl) T.b_isinstance (by decide +kernel) (pa_cons (pv 0) (pa_cons (pe_bltn (v := .ty "int") (u := .type "int") (by rfl) T.b_int (by decide +kernel) rfl) pa_nil))) (pe_one (pe_not (pe_callB (isiK (K := K) rfl) (by rfl) T.b_isinstance (by decide +kernel) (pa_cons (pv 0) (pa_cons (pe_bltn (v := .ty "bool") (u := .type "bool") (by rfl) T.b_bool (by decide +kernel) rfl) pa_nil)))))))), ?_⟩
    rcases hx with ⟨n, rfl, q⟩ | ⟨⟨t, ht, hn⟩, q⟩
    · refine ⟨.int n, rfl, .int n, _, _, _, true, rfl, .ty "int", .base (.int n), kit_ty (by decide +kernel), true, rfl, iteT ?_⟩
      exact ⟨.int n, rfl, .int n, _, _, _, false, rfl, .ty "bool", .base (.int n), kit_ty (by decide +kernel), false, rfl, q⟩
    · obtain ⟨i, b, h1, h2, h3⟩ := hn.kit (K := K)
      cases i with
      | false => exact ⟨x, rfl, x, _, _, _, false, rfl, .ty "int", ht, h1, false, rfl, iteF q⟩
      | true =>
        refine ⟨x, rfl, x, _, _, _, true, rfl, .ty "int", ht, h1, true, rfl, iteT ?_⟩
        exact ⟨x, rfl, x, _, _, _, b, rfl, .ty "bool", ht, h2, b, rfl, by rw [h3 rfl]; exact q⟩
/-- what is no tick from l on -/
def BadTick (K : PySem.W.Frag) (H : Hp) (x : V) (l : Int) : Prop := NoInt K H x ∨ ∃ n : Int, x = .int n ∧ n < l
def spIsTickX (K : PySem.W.Frag) : Sp := fun vs H Q _ => ∃ (x : V) (l : Int), vs = [x, .int l] ∧ ((∃ n : Int, x = .int n ∧ l ≤ n ∧ Q (.bl true) H) ∨ (BadTick K H x l ∧ Q (.bl false) H))
theorem okA_is_tick {f : Addr} {fd : FuncData} (F : FunD K "is_tick" "is_tick" (defArgs s_is_tick) (defBody s_is_tick) (defScope s_is_tick) [.int 0] [] f fd) (h1 : Has P w K mg base 1 "is_integer" ["given"] [] (spIsIntX K)) : FnOk P w K mg base CX0 2 f fd ["given", "least"] (spIsTickX K) := by
  obtain ⟨f_is_integer, fd_is_integer, ds_is_integer, G_is_integer, m_is_integer, k_is_integer, b_is_integer, v_is_integer⟩ := h1
  refine F.ok sc_is_tick (fun vs H Q E h => ?_) (fun cdv A outer s H vs Q E hr h => ?_)
  · obtain ⟨x, l, rfl, _⟩ := h
    rfl
  · obtain ⟨x, l, rfl, hx⟩ := h
    refine ⟨_, PSs.nox (pss_one (ps_ret (pe_and (pe_call G_is_integer hr (by rfl) m_is_integer k_is_integer b_is_integer v_is_integer pass0 (pa_cons (pv 0) pa_nil)) (pe_one (pe_cmpR op_ge (pv 0) (pv 1) (nomark _)))))), ?_⟩
    have e1 : ∀ n : Int, l ≤ n → V.bl (decide (n ≥ l)) = V.bl true := fun n h => dT h
    have e2 : ∀ n : Int, n < l → V.bl (decide (n ≥ l)) = V.bl false := fun n h => dF (by omega)
    rcases hx with ⟨n, rfl, l1, q⟩ | ⟨hn | ⟨n, rfl, l1⟩, q⟩
    · refine ⟨.int n, rfl, .int n, rfl, .inl ⟨n, rfl, true, rfl, iteT ⟨.int n, rfl, .int l, rfl, n, l, rfl, rfl, ?_⟩⟩⟩
      show Q (V.bl (decide (n ≥ l))) H
      rw [e1 n l1]
      exact q
    · exact ⟨x, rfl, x, rfl, .inr ⟨hn, false, rfl, iteF q⟩⟩
    · refine ⟨.int n, rfl, .int n, rfl, .inl ⟨n, rfl, true, rfl, iteT ⟨.int n, rfl, .int l, rfl, n, l, rfl, rfl, ?_⟩⟩⟩
      show Q (V.bl (decide (n ≥ l))) H
      rw [e2 n l1]
      exact q
end
/-! ### bases and levels of any value -/
theorem tyOf_same {K : PySem.W.Frag} {H H' : Hp} (s : Same H H') {x : V} {t : Value} (h : TyOf K H x t) : TyOf K H' x t := by
  cases h with
  | non => exact .non
  | bl x => exact .bl x
  | int i => exact .int i
  | str x => exact .str x
  | flt x => exact .flt x
  | lst e => exact .lst (s _ _ e)
  | frz e => exact .frz (s _ _ e)
  | tup e => exact .tup (s _ _ e)
  | dK e => exact .dK (s _ _ e)
  | dT e => exact .dT (s _ _ e)
  | ins e cl ha hn htk hm => exact .ins (s _ _ e) cl ha hn htk hm
theorem tyX_same {K : PySem.W.Frag} {H H' : Hp} (s : Same H H') {x : V} {t : Value} (h : TyX K H x t) : TyX K H' x t := by
  cases h with
  | base h => exact .base (tyOf_same s h)
  | byt b => exact .byt b
  | set e => exact .set (s _ _ e)
  | kList e c => exact .kList e c
  | kTuple e c => exact .kTuple e c
  | kDict e c => exact .kDict e c
  | fTuple e => exact .fTuple (s _ _ e)
  | fDict e => exact .fDict (s _ _ e)
/-- x is of a built-in type, and of none that isinstance(x, c) would take -/
def NotA (K : PySem.W.Frag) (H : Hp) (c : String) (x : V) : Prop := ∃ a : String, TyX K H x (.type a) ∧ kitB a c = some false
theorem NotA.same {K : PySem.W.Frag} {H H' : Hp} {c : String} {x : V} (s : Same H H') (h : NotA K H c x) : NotA K H' c x := by
  obtain ⟨a, h1, h2⟩ := h
  exact ⟨a, tyX_same s h1, h2⟩
theorem NoInt.same {K : PySem.W.Frag} {H H' : Hp} {x : V} (s : Same H H') (h : NoInt K H x) : NoInt K H' x := by
  obtain ⟨t, h1, h2⟩ := h
  exact ⟨t, tyX_same s h1, h2⟩
theorem BadTick.same {K : PySem.W.Frag} {H H' : Hp} {x : V} {l : Int} (s : Same H H') (h : BadTick K H x l) : BadTick K H' x l := h.imp (·.same s) id
/-- whether x is one of the two words -/
def wordB (x : V) : Bool := inV x [.str "stack", .str "queue"]
/-- what is no word of levels -/
def NoWord (K : PySem.W.Frag) (H : Hp) (x : V) : Prop := NotA K H "str" x ∨ ∃ s : Str, x = .str s ∧ wordB x = false
theorem NoWord.same {K : PySem.W.Frag} {H H' : Hp} {x : V} (s : Same H H') (h : NoWord K H x) : NoWord K H' x := h.imp (·.same s) id
theorem word_lv (b : Bool) : wordB (lvV b) = true := by
  cases b <;> decide
theorem no_word {K : PySem.W.Frag} {H : Hp} {x : V} (h : NoWord K H x) : wordB x = false := by
  rcases h with ⟨a, h1, h2⟩ | ⟨s, _, h⟩
  · cases x with
    | str s =>
      cases h1 with
      | base h1 =>
        cases h1
        exact absurd h2 (by decide +kernel)
    | _ => rfl
  · exact h
/-- what is no base -/
def BadBase (K : PySem.W.Frag) (H : Hp) (x : V) : Prop := NoInt K H x ∨ ∃ n : Int, x = .int n ∧ (n < 2 ∨ 64 < n)
theorem BadBase.same {K : PySem.W.Frag} {H H' : Hp} {x : V} (s : Same H H') (h : BadBase K H x) : BadBase K H' x := h.imp (·.same s) id
/-- what are no levels -/
def BadLevels (K : PySem.W.Frag) (H : Hp) (x : V) : Prop := NotA K H "list" x ∨ ∃ (q : Addr) (xs : List V), x = .ref q ∧ SqL K H q xs ∧ (xs.length = 0 ∨ 60 < xs.length ∨ (xs.length ≤ 60 ∧ (∀ v ∈ xs, (∃ b, v = lvV b) ∨ NoWord K H v) ∧ ∃ v ∈ xs, NoWord K H v))
theorem BadLevels.same {K : PySem.W.Frag} {H H' : Hp} {x : V} (s : Same H H') (h : BadLevels K H x) : BadLevels K H' x := by
  rcases h with h | ⟨q, xs, e, hs, h⟩
  · exact .inl (h.same s)
  · refine .inr ⟨q, xs, e, s.seq hs, ?_⟩
    rcases h with h | h | ⟨h1, h2, v, hv, h3⟩
    · exact .inl h
    · exact .inr (.inl h)
    · exact .inr (.inr ⟨h1, fun v hv => (h2 v hv).imp id (·.same s), v, hv, h3.same s⟩)
section
variable {P : Program} {w : World} {K : PySem.W.Frag} {mg : Str → Option Value} {base : Heap}
/-- what is no length of levels -/
def BadLength (K : PySem.W.Frag) (H : Hp) (x : V) : Prop := NoInt K H x ∨ ∃ n : Int, x = .int n ∧ (n < 1 ∨ 60 < n)
theorem BadLength.same {K : PySem.W.Frag} {H H' : Hp} {x : V} (s : Same H H') (h : BadLength K H x) : BadLength K H' x := h.imp (·.same s) id
def spIsLengthX (K : PySem.W.Frag) : Sp := fun vs H Q _ => ∃ x : V, vs = [x] ∧ ((∃ n : Int, x = .int n ∧ 1 ≤ n ∧ n ≤ 60 ∧ Q (.bl true) H) ∨ (BadLength K H x ∧ Q (.bl false) H))
theorem okA_is_length {f : Addr} {fd : FuncData} (F : Fun K "is_length" "is_length" s_is_length f fd) (hM : MostAt mg) (h1 : Has P w K mg base 1 "is_integer" ["given"] [] (spIsIntX K)) : FnOk P w K mg base CX0 2 f fd ["given"] (spIsLengthX K) := by
  obtain ⟨tM, g_MOST_LEVELS⟩ := hM
  obtain ⟨f_is_integer, fd_is_integer, ds_is_integer, G_is_integer, m_is_integer, k_is_integer, b_is_integer, v_is_integer⟩ := h1
  refine F.ok sc_is_length (fun vs H Q E h => ?_) (fun cdv A outer s H vs Q E hr h => ?_)
  · obtain ⟨x, rfl, _⟩ := h
    rfl
  · obtain ⟨x, rfl, hx⟩ := h
    refine ⟨_, (pss_one (ps_ret (pe_and (pe_call G_is_integer hr (by rfl) m_is_integer k_is_integer b_is_integer v_is_integer pass0 (pa_cons (pv 0) pa_nil)) (pe_one (pe_chain op_le op_le pe_int (pv 0) (pe_glob (v := .int 60) rfl g_MOST_LEVELS ⟨_, rfl⟩)))))), ?_⟩
    have e2 : ∀ (n : Int) (b : Bool), decide (n ≤ 60) = b → Q (.bl b) H → Q (V.bl (decide (n ≤ 60))) H := fun n b e q => by
      rw [e]
      exact q
    rcases hx with ⟨n, rfl, l1, l2, q⟩ | ⟨hn | ⟨n, rfl, hn⟩, q⟩
    · refine ⟨.int n, rfl, .int n, rfl, .inl ⟨n, rfl, true, rfl, iteT ?_⟩⟩
      refine ⟨.int n, rfl, 1, n, rfl, rfl, true, congrArg V.bl (decide_eq_true l1), iteT ?_⟩
      exact ⟨n, 60, rfl, rfl, e2 n true (decide_eq_true l2) q⟩
    · exact ⟨x, rfl, x, rfl, .inr ⟨hn, false, rfl, iteF q⟩⟩
    · refine ⟨.int n, rfl, .int n, rfl, .inl ⟨n, rfl, true, rfl, iteT ?_⟩⟩
      by_cases l1 : 1 ≤ n
      · refine ⟨.int n, rfl, 1, n, rfl, rfl, true, congrArg V.bl (decide_eq_true l1), iteT ?_⟩
        exact ⟨n, 60, rfl, rfl, e2 n false (decide_eq_false (by omega)) q⟩
      · exact ⟨.int n, rfl, 1, n, rfl, rfl, false, congrArg V.bl (decide_eq_false l1), iteF q⟩
end
/-! ### the program: level_and_size, path -/
section
variable {P : Program} {w : World} {K : PySem.W.Frag} {mg : Str → Option Value} {base : Heap}
/-! the level -/
def spLevel : Sp := fun vs H Q _ => ∃ b n d : Nat, vs = [.int b, .int n, .int d] ∧ 2 ≤ b ∧ b ≤ 64 ∧ n < d ∧ d < 2 ^ 250 ∧ ∀ k, IsLev b n d k → ∀ H' p, Same H H' → H p = none → H' p = some (.tup [.int (k : Nat), .int ((b ^ k : Nat) : Int)]) → Q (.ref p) H'
theorem ok_level_and_size {f : Addr} {fd : FuncData} (F : Fun K "level_and_size" "level_and_size" s_level_and_size f fd) : FnOk P w K mg base CX0 1 f fd ["base", "now", "due"] spLevel := by
  refine F.ok sc_level_and_size (fun vs H Q E h => ?_) (fun cdv A outer s H vs Q E hr h => ?_)
  · obtain ⟨b, n, d, rfl, _⟩ := h
    rfl
  · obtain ⟨b, n, d, rfl, hb, hb64, hnd, hd, q⟩ := h
    have cb : ∀ x : Nat, NDiv x b := fun x => ndiv 7 (by omega) (by omega)
    refine ⟨_, (pss_cons (ps_asg (pe_tup (pa_cons pe_int (pa_cons pe_int pa_nil))) (pg_tupK (K := K) (n := 2) rfl rfl (pgs_cons (pg_name (i := 3) sc_level_and_size.nd rfl (.inl rfl)) (pgs_cons (pg_name (i := 4) sc_level_and_size.nd rfl (.inl rfl)) pgs_nil))))
      (pss_cons (ps_par (i := 5) (j := 6) (by rfl) sc_level_and_size.nd rfl rfl (by decide) rfl rfl (pa_cons (pe_op op_divN (pv 1) (pv 0)) (pa_cons (pe_op op_divN (pv 2) (pv 0)) pa_nil)) (by rfl))
      (pss_cons (ps_while PassesOwn.never (pt_cmpR op_ne (pv 5) (pv 6) (nomark _))
        (pss_cons (ps_par (i := 5) (j := 6) (by rfl) sc_level_and_size.nd rfl rfl (by decide) rfl rfl (pa_cons (pe_op op_divN (pv 5) (pv 0)) (pa_cons (pe_op op_divN (pv 6) (pv 0)) pa_nil)) (by rfl))
        (pss_one (ps_par (i := 3) (j := 4) (by rfl) sc_level_and_size.nd rfl rfl (by decide) rfl rfl (pa_cons (pe_op op_addN (pv 3) pe_int) (pa_cons (pe_op op_mulN (pv 4) (pv 0)) pa_nil)) (by rfl)))))
      (pss_one (ps_ret (pe_tup (pa_cons (pv 3) (pa_cons (pv 4) pa_nil)))))))), ?_⟩
    refine ⟨by simp [sizeLine_eq], fun t hT => ⟨t, _, rfl, .inl (.inl upd_same), rfl, _, _, rfl, _, _, rfl, rfl, ?_⟩⟩
    refine ⟨_, rfl, _, rfl, _, _, rfl, rfl, cb _, _, rfl, _, rfl, _, _, rfl, rfl, cb _, _, _, rfl, ?_⟩
    refine while_by (fun σ H' => ∃ k : Nat, σ = [some (.int (b : Int)), some (.int (n : Int)), some (.int (d : Int)), some (.int (k : Int)), some (.int ((b ^ k : Nat) : Int)), some (.int ((n / b ^ (k + 1) : Nat) : Int)), some (.int ((d / b ^ (k + 1) : Nat) : Int))] ∧ Same H H' ∧ ∀ j, j < k → n / b ^ (j + 1) ≠ d / b ^ (j + 1))
      (fun σ _ => slotInt σ 6) ⟨0, ?_, same_upd hT, fun j hj => absurd hj (Nat.not_lt_zero j)⟩ ?_ ?_
    · rw [Nat.zero_add, Nat.pow_one]
      rfl
    · rintro σ H' ⟨k, rfl, sm, hk⟩
      by_cases hne : n / b ^ (k + 1) = d / b ^ (k + 1)
      · refine ⟨_, rfl, _, rfl, rfl, false, ?_, iteF ?_⟩
        · rw [hne, decide_eq_true rfl]
          rfl
        · refine ⟨_, rfl, _, rfl, by simp [sizeLine_eq], fun p hp => ?_⟩
          exact q k ⟨hne, hk⟩ _ p (sm.trans (same_upd hp)) (sm.free hp) upd_same
      · have h2 : n / b ^ (k + 1) ≤ d / b ^ (k + 1) := Nat.div_le_div_right (Nat.le_of_lt hnd)
        have hpos : 0 < d / b ^ (k + 1) := pos_of h2 hne
        refine ⟨_, rfl, _, rfl, rfl, true, ?_, iteT ?_⟩
        · rw [int_ne hne]
          rfl
        · refine ⟨_, rfl, _, rfl, _, _, rfl, rfl, cb _, _, rfl, _, rfl, _, _, rfl, rfl, cb _, _, _, rfl, ?_⟩
          refine ⟨_, rfl, k, 1, rfl, rfl, trivial, _, rfl, _, rfl, _, _, rfl, rfl, nmul_r (by omega), _, _, rfl, ?_⟩
          have hlt : d / b ^ (k + 1) / b < d / b ^ (k + 1) := Nat.div_lt_self hpos (by omega)
          refine ⟨⟨k + 1, ?_, sm, fun j hj => ?_⟩, ?_⟩
          · rw [div_succ n b (k + 1), div_succ d b (k + 1), Nat.pow_succ b k]
            rfl
          · by_cases e : j = k
            · rw [e]
              exact hne
            · exact hk j (by omega)
          · show (((d / b ^ (k + 1) / b : Nat) : Int)).toNat < (((d / b ^ (k + 1) : Nat) : Int)).toNat
            rw [Int.toNat_natCast, Int.toNat_natCast]
            exact hlt
    · rintro σ H' Q1 Q2 h ⟨x, hx, y, hy, hs, k, e, z⟩
      exact ⟨x, hx, y, hy, hs, k, e, h _ _ z⟩
/-! the stations -/
def rowV (r : Row3) : List V := [.int (r.1 : Nat), .int (r.2.1 : Nat), .int (r.2.2 : Nat)]
/-- at the places ts stand the rows rs, each a tuple of three -/
def RowsAt (H : Hp) : List Addr → List Row3 → Prop
  | [], [] => True
  | t :: ts, r :: rs => H t = some (.tup (rowV r)) ∧ RowsAt H ts rs
  | _, _ => False
theorem RowsAt.same {H H' : Hp} (s : Same H H') : ∀ {ts : List Addr} {rs : List Row3}, RowsAt H ts rs → RowsAt H' ts rs
  | [], [], h => h
  | _ :: _, _ :: _, h => ⟨s _ _ h.1, h.2.same s⟩
  | [], _ :: _, h => h
  | _ :: _, [], h => h
theorem RowsAt.app {H : Hp} {t : Addr} {r : Row3} : ∀ {ts : List Addr} {rs : List Row3}, RowsAt H ts rs → H t = some (.tup (rowV r)) → RowsAt H (ts ++ [t]) (rs ++ [r])
  | [], [], _, h => ⟨h, trivial⟩
  | _ :: _, _ :: _, h, h2 => ⟨h.1, h.2.app h2⟩
  | [], _ :: _, h, _ => h.elim
  | _ :: _, [], h, _ => h.elim
theorem RowsAt.len {H : Hp} : ∀ {ts : List Addr} {rs : List Row3}, RowsAt H ts rs → ts.length = rs.length
  | [], [], _ => rfl
  | _ :: _, _ :: _, h => congrArg Nat.succ h.2.len
  | [], _ :: _, h => h.elim
  | _ :: _, [], h => h.elim
theorem RowsAt.upd {H : Hp} {p : Addr} {xs : List V} {o : HO} (hp : H p = some (.lst xs)) : ∀ {ts : List Addr} {rs : List Row3}, RowsAt H ts rs → RowsAt (upd H p o) ts rs
  | [], [], h => h
  | t :: _, _ :: _, h => ⟨by rw [upd_ne (ne_of h.1 hp (by intro z; cases z))]; exact h.1, h.2.upd hp⟩
  | [], _ :: _, h => h
  | _ :: _, [], h => h
theorem RowsAt.get {H : Hp} : ∀ {ts : List Addr} {rs : List Row3} {i : Nat} {t : Addr}, RowsAt H ts rs → ts[i]? = some t → ∃ r, rs[i]? = some r ∧ H t = some (.tup (rowV r))
  | t :: _, r :: _, 0, _, h, e => ⟨r, rfl, by cases Option.some.inj e; exact h.1⟩
  | _ :: _, _ :: _, i + 1, _, h, e => h.2.get (i := i) e
  | [], _, _, _, _, e => by simp at e
  | _ :: _, [], _, _, h, _ => h.elim
def spPath : Sp := fun vs H Q _ => ∃ b n d : Nat, vs = [.int b, .int n, .int d] ∧ 2 ≤ b ∧ b ≤ 64 ∧ n < d ∧ d < 2 ^ 250 ∧ ∀ k, IsLev b n d k → ∀ H' p ts, Same H H' → H p = none → H' p = some (.lst (ts.map V.ref)) → RowsAt H' ts (rowsOf b n d k) → Q (.ref p) H'
theorem ok_path {f : Addr} {fd : FuncData} (F : Fun K "path" "path" s_path f fd) (h1 : Has P w K mg base 1 "level_and_size" ["base", "now", "due"] [] spLevel) : FnOk P w K mg base CX0 2 f fd ["base", "now", "due"] spPath := by
  obtain ⟨f_level_and_size, fd_level_and_size, ds_level_and_size, G_level_and_size, m_level_and_size, k_level_and_size, b_level_and_size, v_level_and_size⟩ := h1
  refine F.ok sc_path (fun vs H Q E h => ?_) (fun cdv A outer s H vs Q E hr h => ?_)
  · obtain ⟨b, n, d, rfl, _⟩ := h
    rfl
  · obtain ⟨b, n, d, rfl, hb, hb64, hnd, hd, q⟩ := h
    have cb : ∀ x : Nat, NDiv x b := fun x => ndiv 7 (by omega) (by omega)
    have hb0 : 0 < b := by omega
    refine ⟨_, (pss_cons (ps_asg (pe_call G_level_and_size hr (by rfl) m_level_and_size k_level_and_size b_level_and_size v_level_and_size pass0 (pa_cons (pv 0) (pa_cons (pv 1) (pa_cons (pv 2) pa_nil)))) (pg_tupK (K := K) (n := 2) rfl rfl (pgs_cons (pg_name (i := 3) sc_path.nd rfl (.inl rfl)) (pgs_cons (pg_name (i := 4) sc_path.nd rfl (.inl rfl)) pgs_nil))))
      (pss_cons (ps_set (i := 5) sc_path.nd rfl (.inl rfl) (pe_lst (pa_cons (pe_tup (pa_cons (pv 3) (pa_cons (pe_op op_remN (pe_op op_divN (pv 2) (pv 4)) (pv 0)) (pa_cons (pv 1) pa_nil)))) pa_nil)))
      (pss_cons (ps_while PassesOwn.never (pt_cmpR op_gt (pv 3) pe_int (nomark _))
        (pss_cons (ps_set (i := 6) sc_path.nd rfl (.inl rfl) (pe_op op_mulN (pe_op op_divN (pv 2) (pv 4)) (pv 4)))
        (pss_cons (ps_par (i := 3) (j := 4) (by rfl) sc_path.nd rfl rfl (by decide) rfl rfl (pa_cons (pe_op op_subN (pv 3) pe_int) (pa_cons (pe_op op_divN (pv 4) (pv 0)) pa_nil)) (by rfl))
        (pss_cons (ps_set (i := 7) sc_path.nd rfl (.inl rfl) (pe_op op_remN (pe_op op_divN (pv 2) (pv 4)) (pv 0)))
        (pss_one (ps_if (pt_cmpR op_ne (pv 7) pe_int (nomark _))
          (pss_one (ps_expr (pe_bm PySem.F.plainAttrs_list PySem.F.slot_list_append PySem.F.type_list_append mt_append (pv 5) (pa_cons (pe_tup (pa_cons (pv 3) (pa_cons (pv 7) (pa_cons (pv 6) pa_nil)))) pa_nil))))
          pss_nil))))))
      (pss_one (ps_ret (pv 5)))))), ?_⟩
    refine ⟨_, rfl, _, rfl, _, rfl, b, n, d, rfl, hb, hb64, hnd, hd, fun k hk H0 t0 s0 ht0 eT0 => ?_⟩
    have hkd : ∀ j, j ≤ k → b ^ j ≤ d := fun j hj => Nat.le_trans (Nat.pow_le_pow_right (by omega) hj) (hk.size hb hnd)
    have hk250 : k < 250 := lev_small hk hb hnd hd
    have cs : ∀ j, j ≤ k → ∀ x : Nat, NDiv x (b ^ j) := fun j hj x => ndiv 250 (pow_pos' hb j) (Nat.lt_of_le_of_lt (hkd j hj) hd)
    -- level, size = ..
    refine ⟨t0, _, rfl, .inl (.inl eT0), rfl, _, _, rfl, _, _, rfl, rfl, ?_⟩
    -- rows = [(level, due // size % base, now)]
    refine ⟨_, rfl, _, rfl, _, rfl, _, _, rfl, rfl, cs k (Nat.le_refl k) _, _, rfl, _, _, rfl, rfl, hb0, _, rfl, by simp [sizeLine_eq], fun t1 ht1 => ?_⟩
    have s1 := s0.trans (same_upd (o := .tup (rowV (k, d / b ^ k % b, n))) ht1)
    refine ⟨by simp [sizeLine_eq], fun p hp => ?_⟩
    have s2 := s1.trans (same_upd (o := .lst [.ref t1]) hp)
    have np1 : t1 ≠ p := fun e => by
      rw [← e, upd_same] at hp
      cases hp
    have hpH : H p = none := s1.free hp
    refine while_by (fun σ H' => ∃ (j : Nat) (ts : List Addr) (done : List Row3) (y6 y7 : Option V), σ = [some (.int (b : Int)), some (.int (n : Int)), some (.int (d : Int)), some (.int (j : Int)), some (.int ((b ^ j : Nat) : Int)), some (.ref p), y6, y7] ∧ j ≤ k ∧ ts.length + j ≤ k + 1 ∧ Same H H' ∧ H' p = some (.lst (ts.map V.ref)) ∧ RowsAt H' ts ((k, d / b ^ k % b, n) :: done) ∧ tailOf b d k = done ++ tailOf b d j)
      (fun σ _ => slotInt σ 3) ⟨k, [t1], [], none, none, rfl, Nat.le_refl k, by simp; omega, s2, upd_same, ⟨?_, trivial⟩, rfl⟩ ?_ ?_
    · rw [upd_ne np1, upd_same]
      rfl
    · rintro σ H' ⟨j, ts, done, y6, y7, rfl, hjk, hlen, sm, eL, R, et⟩
      cases j with
      | zero =>
        refine ⟨_, rfl, ((0 : Nat) : Int), 0, rfl, rfl, false, rfl, iteF ?_⟩
        refine ⟨_, rfl, q k hk H' p ts sm hpH eL ?_⟩
        have e : done = tailOf b d k := by
          rw [et]
          exact (List.append_nil done).symm
        rw [e] at R
        exact R
      | succ j =>
        have hj0 : (0 : Int) < ((j + 1 : Nat) : Int) := by omega
        refine ⟨_, rfl, _, _, rfl, rfl, true, congrArg V.bl (decide_eq_true hj0), iteT ?_⟩
        -- tick = due // size * size
        refine ⟨_, rfl, _, rfl, _, _, rfl, rfl, cs (j + 1) hjk _, _, rfl, _, _, rfl, rfl, nmul_w 250 250 (Nat.lt_of_le_of_lt (Nat.div_le_self d _) hd) (Nat.lt_of_le_of_lt (hkd (j + 1) hjk) hd), ?_⟩
        -- level, size = level - 1, size // base
        refine ⟨_, rfl, j + 1, 1, rfl, rfl, Nat.le_add_left 1 j, _, rfl, _, rfl, b ^ (j + 1), b, rfl, rfl, cb _, .int (j : Nat), .int ((b ^ j : Nat) : Int), ?_, ?_⟩
        · show [V.int ((j + 1 - 1 : Nat) : Int), V.int ((b ^ (j + 1) / b : Nat) : Int)] = _
          rw [Nat.pow_succ, Nat.mul_div_cancel _ hb0]
          rfl
        -- digit = due // size % base
        refine ⟨_, rfl, _, rfl, d, b ^ j, rfl, rfl, cs j (by omega) _, _, rfl, _, _, rfl, rfl, hb0, ?_⟩
        have lt : slotInt [some (.int (b : Int)), some (.int (n : Int)), some (.int (d : Int)), some (.int (j : Int)), some (.int ((b ^ j : Nat) : Int)), some (.ref p), some (.int ((d / b ^ (j + 1) * b ^ (j + 1) : Nat) : Int)), some (.int ((d / b ^ j % b : Nat) : Int))] 3 < ((j + 1 : Nat) : Int).toNat := by
          show ((j : Int)).toNat < _
          omega
        by_cases h0 : d / b ^ j % b = 0
        · refine ⟨_, rfl, rfl, false, nF (vE h0), iteF ?_⟩
          · refine ⟨⟨j, ts, done, _, _, rfl, by omega, by omega, sm, eL, R, ?_⟩, lt⟩
            rw [et]
            show done ++ tailOf b d (j + 1) = done ++ tailOf b d j
            have : tailOf b d (j + 1) = tailOf b d j := if_neg (fun z => z h0)
            rw [this]
        · refine ⟨_, rfl, rfl, true, nT (vN (b := 0) h0), iteT ?_⟩
          · -- rows.append((level, digit, tick))
            refine ⟨_, rfl, .inl ⟨rfl, _, .inl (.inl eL)⟩, _, rfl, _, rfl, _, rfl, by simp [sizeLine_eq], fun t2 ht2 => ?_⟩
            have s3 := same_upd (o := .tup (rowV (j, d / b ^ j % b, d / b ^ (j + 1) * b ^ (j + 1)))) ht2
            have npt : t2 ≠ p := fun e => by
              rw [e, eL] at ht2
              cases ht2
            have eL' := s3 _ _ eL
            refine ⟨p, _, _, rfl, rfl, eL', ?_, ?_⟩
            · rw [List.length_map]
              exact sizeLine_ge (by omega)
            · refine ⟨⟨j, ts ++ [t2], done ++ [(j, d / b ^ j % b, d / b ^ (j + 1) * b ^ (j + 1))], _, _, rfl, by omega, ?_, fun c o e => ?_, ?_, ?_, ?_⟩, lt⟩
              · rw [List.length_append, List.length_singleton]
                omega
              · rw [upd_ne (ne_of_none e hpH)]
                exact s3 _ _ (sm _ _ e)
              · rw [upd_same, List.map_append]
                rfl
              · refine RowsAt.upd eL' ?_
                exact RowsAt.app (r := (j, d / b ^ j % b, d / b ^ (j + 1) * b ^ (j + 1))) (rs := (k, d / b ^ k % b, n) :: done) (R.same s3) upd_same
              · rw [et, List.append_assoc]
                show done ++ tailOf b d (j + 1) = done ++ ((j, d / b ^ j % b, d / b ^ (j + 1) * b ^ (j + 1)) :: tailOf b d j)
                have : tailOf b d (j + 1) = (j, d / b ^ j % b, d / b ^ (j + 1) * b ^ (j + 1)) :: tailOf b d j := if_pos h0
                rw [this]
    · rintro σ H' Q1 Q2 h ⟨x, hx, i, j, e1, e2, k, e, z⟩
      exact ⟨x, hx, i, j, e1, e2, k, e, h _ _ z⟩
end
theorem RowsAt.item {H : Hp} {ts : List Addr} {rs : List Row3} (R : RowsAt H ts rs) {i : Nat} {x : V} (hx : (ts.map V.ref)[i]? = some x) : ∃ ti r, x = V.ref ti ∧ ts[i]? = some ti ∧ rs[i]? = some r ∧ H ti = some (.tup (rowV r)) := by
  rw [List.getElem?_map] at hx
  cases e : ts[i]? with
  | none =>
    rw [e] at hx
    cases hx
  | some ti =>
    rw [e] at hx
    obtain ⟨r, hr, er⟩ := R.get e
    exact ⟨ti, r, (Option.some.inj hx).symm, rfl, hr, er⟩
/-! ### levels_seen: the equation of a sighting, reduced by the known ones -/
def sideV (f : Bool) : V := .str (if f then "front" else "back")
/-- an equation in the heap -/
def EqAt (H : Hp) (t q : Addr) (e : Eqn) : Prop := H t = some (.tup [.ref q, .bl e.2]) ∧ H q = some (.lst (e.1.map fun x => V.int (x : Nat)))
theorem EqAt.same {H H' : Hp} {t q : Addr} {e : Eqn} (s : Same H H') (h : EqAt H t q e) : EqAt H' t q e := ⟨s _ _ h.1, s _ _ h.2⟩
section
variable {P : Program} {w : World} {K : PySem.W.Frag} {mg : Str → Option Value} {base : Heap}
def spEquation : Sp := fun vs H Q _ => ∃ (b many n d : Nat) (t : Addr) (fr : Bool), vs = [.int (b : Nat), .int (many : Nat), .ref t] ∧ H t = some (.tup [.int (n : Nat), .int (d : Nat), sideV fr]) ∧ 2 ≤ b ∧ b ≤ 64 ∧ 1 ≤ many ∧ many ≤ 60 ∧ n < d ∧ d < 2 ^ 250 ∧
  ∀ k, IsLev b n d k → ∀ H' u q, Same H H' → H u = none → H q = none → EqAt H' u q (eqLv many (rowsOf b n d k), fr) → Q (.ref u) H'
theorem ok_equation {f : Addr} {fd : FuncData} (F : Fun K "equation" "equation" s_equation f fd) (T : Tx K mg) (h1 : Has P w K mg base 2 "path" ["base", "now", "due"] [] spPath) : FnOk P w K mg base CX0 3 f fd ["base", "many", "sighting"] spEquation := by
  obtain ⟨f_path, fd_path, ds_path, G_path, m_path, k_path, b_path, v_path⟩ := h1
  refine F.ok sc_equation (fun vs H Q E h => ?_) (fun cdv A outer s H vs Q E hr h => ?_)
  · obtain ⟨b, many, n, d, t, fr, rfl, _⟩ := h
    rfl
  · obtain ⟨b, many, n, d, t, fr, rfl, ht, hb, hb64, hm1, hm60, hnd, hd, c⟩ := h
    refine ⟨_, (pss_cons (ps_asg (pv 2) (pg_tupK (K := K) (n := 3) rfl rfl (pgs_cons (pg_name (i := 3) sc_equation.nd rfl (.inl rfl)) (pgs_cons (pg_name (i := 4) sc_equation.nd rfl (.inl rfl)) (pgs_cons (pg_name (i := 5) sc_equation.nd rfl (.inl rfl)) pgs_nil)))))
      (pss_cons (ps_set (i := 6) sc_equation.nd rfl (.inl rfl) (pe_call G_path hr (by rfl) m_path k_path b_path v_path pass0 (pa_cons (pv 0) (pa_cons (pv 3) (pa_cons (pv 4) pa_nil)))))
      (pss_cons (ps_set (i := 7) sc_equation.nd rfl (.inl rfl) (pe_callB cr_sortedI (by rfl) T.b_sorted (by decide +kernel) (pa_cons (pe_lc (own := [("level", 8), ("digit", 9), ("tick", 10)]) (g := _)  rfl sc_equation.nd (pi_list (pv 6)) (blkOk_by (own := [("level", 8), ("digit", 9), ("tick", 10)]) (N := N_equation) (sc := defScope s_equation) (by decide +kernel)) (fun _ _ _ _ _ => (pg_tupK (K := K) (n := 3) rfl rfl (pgs_cons (pg_name (i := 8) sc_equation.nd rfl (.inl rfl)) (pgs_cons (pg_name (i := 9) sc_equation.nd rfl (.inl rfl)) (pgs_cons (pg_name (i := 10) sc_equation.nd rfl (.inl rfl)) pgs_nil))))) (fun _ _ _ _ _ => (pts_one (pt_cmpR op_lt (pv 8) (pe_op op_subN (pv 1) pe_int) (nomark _)))) (fun _ _ _ _ _ => (pv 8))) pa_nil)))
      (pss_cons (ps_if (pt_cmpR op_eq (pe_op op_remN (pe_op op_subN (pe_callB (lenK (K := K) rfl) (by rfl) T.b_len PySem.boot_len (pa_cons (pv 6) pa_nil)) (pe_callB (lenK (K := K) rfl) (by rfl) T.b_len PySem.boot_len (pa_cons (pv 7) pa_nil))) pe_int) pe_int (nomark _))
        (pss_one (ps_expr (pe_bm PySem.F.plainAttrs_list PySem.F.slot_list_append PySem.F.type_list_append mt_append (pv 7) (pa_cons (pe_op op_subN (pv 1) pe_int) pa_nil))))
        pss_nil)
      (pss_one (ps_ret (pe_tup (pa_cons (pv 7) (pa_cons (pe_cmpR op_eq (pv 5) pe_str (nomark _)) pa_nil))))))))), ?_⟩
    refine ⟨_, rfl, t, _, rfl, .inl (.inl ht), rfl, _, _, rfl, _, _, rfl, _, _, rfl, rfl, ?_⟩
    refine ⟨_, rfl, _, rfl, _, rfl, b, n, d, rfl, hb, hb64, hnd, hd, fun k hk H1 p ts s1 hp0 hp R => ?_⟩
    obtain ⟨rs, hrs⟩ : ∃ rs, rs = rowsOf b n d k := ⟨_, rfl⟩
    rw [← hrs] at R
    have hlevs : (rs.map (·.1)).Pairwise (· > ·) := by rw [hrs]; exact rows_levs b n d k
    obtain ⟨pf, hpf⟩ : ∃ pf : Nat → Bool, pf = fun l => decide (l < many - 1) := ⟨_, rfl⟩
    have hlow : eqLow many rs = ((rs.map (·.1)).filter pf).reverse := by rw [hpf]; rfl
    have rlen : ts.length = rs.length := R.len
    have few : (rs.map (·.1)).length ≤ 300 := by
      rw [List.length_map, hrs]
      have h1 := lev_small hk hb hnd hd
      have h2 := tail_len b d k
      show (tailOf b d k).length + 1 ≤ 300
      omega
    refine ⟨_, rfl, p, rfl, ⟨_, SqL.of hp⟩, fun D hD => lc_list (K := K) (a := p) (xs := ts.map V.ref) (fun i H' => Same H1 H' ∧ H' D = some (.lst ((((rs.take i).map (·.1)).filter pf).map fun x => V.int (x : Nat))))
      ⟨same_upd hD, upd_same⟩ (fun i H' _ ⟨sm, _⟩ => SqL.of (sm _ _ hp)) ?_ ?_⟩
    · rintro i x H' hx ⟨sm, eD⟩
      obtain ⟨ti, r, rfl, hti, hr, er⟩ := R.item hx
      have hil : i < rs.length := (List.getElem?_eq_some_iff.mp hr).1
      have estep : (((rs.take (i + 1)).map (·.1)).filter pf) = (((rs.take i).map (·.1)).filter pf) ++ if pf r.1 = true then [r.1] else [] := by
        rw [List.take_add_one, hr, Option.toList_some, List.map_append, List.filter_append]
        congr 1
        show List.filter pf [r.1] = _
        cases c : pf r.1 <;> simp [c]
      refine ⟨ti, _, rfl, .inl (.inl (sm _ _ er)), rfl, _, _, rfl, _, _, rfl, _, _, rfl, rfl, ?_⟩
      have hpr : V.bl (decide (((r.1 : Nat) : Int) < ((many - 1 : Nat) : Int))) = V.bl (pf r.1) := by
        rw [hpf]
        congr 1
        exact decide_eq_decide.mpr (by omega)
      refine ⟨rfl, _, rfl, _, rfl, many, 1, rfl, rfl, hm1, ((r.1 : Nat) : Int), ((many - 1 : Nat) : Int), rfl, rfl, pf r.1, hpr, ?_⟩
      cases c : pf r.1 with
      | true =>
        refine iteT ⟨_, rfl, _, eD, ?_, fun c2 o e => ?_, ?_⟩
        · rw [List.length_map]
          refine sizeLine_ge (Nat.le_trans (List.length_filter_le _ _) ?_)
          rw [List.length_map, List.length_take]
          rw [List.length_map] at few
          omega
        · rw [upd_ne (ne_of_none e hD)]
          exact sm _ _ e
        · rw [upd_same, estep, c, if_pos rfl, List.map_append]
          rfl
      | false =>
        refine iteF ⟨sm, ?_⟩
        rw [estep, c, if_neg Bool.false_ne_true, List.append_nil]
        exact eD
    · rintro H2 ⟨s2, eD⟩
      rw [List.length_map, rlen, List.take_length] at eD
      have ef : ((rs.map (·.1)).filter pf).map (fun x => V.int (x : Nat)) = (((rs.map (·.1)).filter pf).map fun x : Nat => ((x : Nat) : Int)).map V.int := by
        rw [List.map_map]
        rfl
      rw [ef] at eD
      refine ⟨D, _, rfl, SqL.of eD, fun ns' L perm up hL => ?_⟩
      have el : ns' = (eqLow many rs).map fun x : Nat => ((x : Nat) : Int) := by
        have up2 : ((eqLow many rs).map fun x : Nat => ((x : Nat) : Int)).Pairwise (· ≤ ·) := List.pairwise_map.mpr ((low_asc hlevs).1.imp fun h => by omega)
        refine List.Perm.eq_of_pairwise (le := (· ≤ ·)) (fun a b _ _ h1 h2 => Int.le_antisymm h1 h2) up up2 (perm.trans ?_)
        rw [hlow]
        exact ((List.reverse_perm _).map _).symm
      have eml : ns'.map V.int = (eqLow many rs).map fun x => V.int (x : Nat) := by
        rw [el, List.map_map]
        rfl
      rw [eml]
      have sL := same_upd (o := .lst ((eqLow many rs).map fun x => V.int (x : Nat))) hL
      have eL := upd_same (H := H2) (a := L) (o := .lst ((eqLow many rs).map fun x => V.int (x : Nat)))
      have s13 := s2.trans sL
      have nL : H L = none := s1.free (s2.free hL)
      generalize upd H2 L (.lst ((eqLow many rs).map fun x => V.int (x : Nat))) = H3 at sL eL s13 ⊢
      have llen : (eqLow many rs).length ≤ rs.length := by
        unfold eqLow
        rw [List.length_reverse]
        refine Nat.le_trans (List.length_filter_le _ _) ?_
        rw [List.length_map]
        exact Nat.le_refl _
      have hside : V.bl (decide (sideV fr = V.str "front")) = V.bl fr := by cases fr <;> rfl
      have hsc : scal (sideV fr) (V.str "front") = true := by cases fr <;> rfl
      have fin : ∀ H4, Same H H4 → H4 L = some (.lst ((eqLv many rs).map fun x => V.int (x : Nat))) → ∀ u, H4 u = none → Q (.ref u) (upd H4 u (.tup [.ref L, .bl fr])) := fun H4 s4 e4 u hu => by
        have su := same_upd (o := .tup [.ref L, .bl fr]) hu
        rw [hrs] at e4
        exact c k hk _ u L (s4.trans su) (s4.free hu) nL ⟨upd_same, su _ _ e4⟩
      refine ⟨_, rfl, p, _, rfl, .inl (SqL.of (s13 _ _ hp)), _, rfl, L, _, rfl, .inl (SqL.of eL), (ts.map V.ref).length, ((eqLow many rs).map fun x => V.int (x : Nat)).length, rfl, rfl, ?_, (ts.map V.ref).length - ((eqLow many rs).map fun x => V.int (x : Nat)).length, 2, rfl, rfl, (by decide : 0 < 2), rfl, ?_⟩
      · rw [List.length_map, List.length_map, rlen]
        exact llen
      rw [List.length_map, List.length_map, rlen]
      by_cases odd : (rs.length - (eqLow many rs).length) % 2 = 1
      · refine ⟨true, dT (congrArg (fun x : Nat => V.int (x : Nat)) odd), iteT ?_⟩
        have ev : eqLv many rs = eqLow many rs ++ [many - 1] := by
          unfold eqLv
          rw [if_pos odd]
        refine ⟨_, rfl, .inl ⟨rfl, _, SqL.of eL⟩, _, rfl, many, 1, rfl, rfl, hm1, L, _, _, rfl, rfl, eL, ?_, ?_⟩
        · rw [List.length_map]
          rw [List.length_map] at few
          exact sizeLine_ge (by omega)
        have e4 : (upd H3 L (.lst (((eqLow many rs).map fun x => V.int (x : Nat)) ++ [V.int ((many - 1 : Nat) : Int)]))) L = some (.lst ((eqLv many rs).map fun x => V.int (x : Nat))) := by
          rw [upd_same, ev, List.map_append]
          rfl
        have s4 : Same H (upd H3 L (.lst (((eqLow many rs).map fun x => V.int (x : Nat)) ++ [V.int ((many - 1 : Nat) : Int)]))) := fun c2 o e => by
          rw [upd_ne (ne_of_none e nL)]
          exact s13 _ _ (s1 _ _ e)
        refine ⟨_, rfl, _, rfl, hsc, by simp [sizeLine_eq], fun u hu => ?_⟩
        rw [hside]
        exact fin _ s4 e4 u hu
      · refine ⟨false, dF (fun z => odd (Int.ofNat.inj (V.int.inj z))), iteF ?_⟩
        have ev : eqLv many rs = eqLow many rs := by
          unfold eqLv
          rw [if_neg odd, List.append_nil]
        refine ⟨_, rfl, _, rfl, hsc, by simp [sizeLine_eq], fun u hu => ?_⟩
        rw [hside]
        exact fin _ (s1.trans s13) (by rw [ev]; exact eL) u hu
/-- the known equations in the heap -/
def KnAt (H : Hp) (kvs : List (Key × V)) (kn : Nat → Option Eqn) : Prop := ∀ l : Nat, (kn l = none ∧ valV kvs (.inl ((l : Nat) : Int)) = none) ∨ ∃ g t q, kn l = some g ∧ valV kvs (.inl ((l : Nat) : Int)) = some (.ref t) ∧ EqAt H t q g
theorem KnAt.same {H H' : Hp} {kvs : List (Key × V)} {kn : Nat → Option Eqn} (s : Same H H') (h : KnAt H kvs kn) : KnAt H' kvs kn := fun l => (h l).imp id fun ⟨g, t, q, h1, h2, h3⟩ => ⟨g, t, q, h1, h2, h3.same s⟩
theorem last_map {l : List Nat} {x : Nat} (h : l.getLast? = some x) : atI (l.map fun x => V.int (x : Nat)) (-1) = some (.int (x : Nat)) := by
  obtain ⟨m, rfl⟩ := List.getLast?_eq_some_iff.mp h
  rw [List.map_append]
  exact atI_last _ _
theorem cast_mem {l : List Nat} {x : Nat} : ((x : Nat) : Int) ∈ (l.map fun y : Nat => ((y : Nat) : Int)) ↔ x ∈ l := by
  rw [List.mem_map]
  exact ⟨fun ⟨y, h, e⟩ => by rw [← Int.ofNat.inj e]; exact h, fun h => ⟨x, h, rfl⟩⟩
theorem sym_list {l m : List Nat} {ns : List Int} (hl : ∀ x ∈ l, x < 64) (hm : ∀ x ∈ m, x < 64) (up : ns.Pairwise (· < ·))
    (mem : ∀ k : Int, k ∈ ns ↔ (decide (k ∈ m.map fun y : Nat => ((y : Nat) : Int)) != decide (k ∈ l.map fun y : Nat => ((y : Nat) : Int))) = true) : ns = (symL l m).map fun y : Nat => ((y : Nat) : Int) := by
  have nat : ∀ y ∈ ns, ∃ x : Nat, y = ((x : Nat) : Int) := fun y hy => by
    have h := (mem y).mp hy
    by_cases c : y ∈ m.map fun y : Nat => ((y : Nat) : Int)
    · obtain ⟨x, _, e⟩ := List.mem_map.mp c
      exact ⟨x, e.symm⟩
    · by_cases c2 : y ∈ l.map fun y : Nat => ((y : Nat) : Int)
      · obtain ⟨x, _, e⟩ := List.mem_map.mp c2
        exact ⟨x, e.symm⟩
      · rw [decide_eq_false c, decide_eq_false c2] at h
        cases h
  obtain ⟨ds, rfl⟩ : ∃ ds : List Nat, ns = ds.map fun y : Nat => ((y : Nat) : Int) := by
    refine ⟨ns.map Int.toNat, ?_⟩
    rw [List.map_map]
    refine (List.map_id ns).symm.trans (List.map_congr_left fun y hy => ?_)
    obtain ⟨x, rfl⟩ := nat y hy
    rfl
  have asc : Asc ds := (List.pairwise_map.mp up).imp fun h => by omega
  rw [asc_uniq asc (sym_asc l m) fun x => ?_]
  rw [sym_mem hl hm x, ← cast_mem (l := ds), mem]
  have e1 : decide (((x : Nat) : Int) ∈ m.map fun y : Nat => ((y : Nat) : Int)) = decide (x ∈ m) := decide_eq_decide.mpr cast_mem
  have e2 : decide (((x : Nat) : Int) ∈ l.map fun y : Nat => ((y : Nat) : Int)) = decide (x ∈ l) := decide_eq_decide.mpr cast_mem
  rw [e1, e2]
  cases decide (x ∈ m) <;> cases decide (x ∈ l) <;> simp
theorem cast_map (l : List Nat) : (l.map fun x => V.int (x : Nat)) = (l.map fun y : Nat => ((y : Nat) : Int)).map V.int := by
  rw [List.map_map]
  rfl
def spReduced : Sp := fun vs H Q _ => ∃ (q D : Addr) (e : Eqn) (many : Nat) (kvs : List (Key × V)) (kn : Nat → Option Eqn), vs = [.ref q, .bl e.2, .ref D] ∧ H q = some (.lst (e.1.map fun x => V.int (x : Nat))) ∧ H D = some (.dK kvs) ∧ KnAt H kvs kn ∧ KnOk many kn ∧ many ≤ 60 ∧ Asc e.1 ∧ (∀ x ∈ e.1, x < many) ∧
  ∀ H' u q', Same H H' → H u = none → EqAt H' u q' (red kn 64 e) → Q (.ref u) H'
theorem ok_reduced {f : Addr} {fd : FuncData} (F : Fun K "reduced" "reduced" s_reduced f fd) (T : Tx K mg) : FnOk P w K mg base CX0 1 f fd ["levels", "odd", "known"] spReduced := by
  refine F.ok sc_reduced (fun vs H Q E h => ?_) (fun cdv A outer s H vs Q E hr h => ?_)
  · obtain ⟨q, D, e, many, kvs, kn, rfl, _⟩ := h
    rfl
  · obtain ⟨q, D, e, many, kvs, kn, rfl, hq, hD, hK, hOk, hm, ha, hl, c⟩ := h
    have hu := hu_of hr
    refine ⟨_, (pss_cons (ps_while PassesOwn.never (PW.pt (pw_and (pt_cmpR op_gt (pe_callB (lenK (K := K) rfl) (by rfl) T.b_len PySem.boot_len (pa_cons (pv 0) pa_nil)) pe_int (nomark _)) (pw_and1 (pt_cmp (pc_din hu (pe_ix (ix_listK (K := K) rfl) (pv 0) (pe_un un_neg pe_int) (fun _ _ => rfl)) (pv 2))))))
        (pss_cons (ps_asg (pe_dget hu (pv 2) (pe_ix (ix_listK (K := K) rfl) (pv 0) (pe_un un_neg pe_int) (fun _ _ => rfl)) (fun _ _ => rfl)) (pg_tupK (K := K) (n := 2) rfl rfl (pgs_cons (pg_name (i := 3) sc_reduced.nd rfl (.inl rfl)) (pgs_cons (pg_name (i := 4) sc_reduced.nd rfl (.inl rfl)) pgs_nil))))
        (pss_cons (ps_set (i := 0) sc_reduced.nd rfl (.inl rfl) (pe_callB (cr_sortedSet rfl) (by rfl) T.b_sorted (by decide +kernel) (pa_cons (pe_op op_xorSet (pe_callTy (call_setL rfl) (by rfl) T.b_set (by decide +kernel) (pa_cons (pv 0) pa_nil)) (pe_callTy (call_setL rfl) (by rfl) T.b_set (by decide +kernel) (pa_cons (pv 3) pa_nil))) pa_nil)))
        (pss_one (ps_set (i := 1) sc_reduced.nd rfl (.inl rfl) (pe_cmpR op_ne (pv 1) (pv 4) (nomark _)))))))
      (pss_one (ps_ret (pe_tup (pa_cons (pv 0) (pa_cons (pv 1) pa_nil)))))), ?_⟩
    refine ⟨fun m σ H' => ∃ (q' : Addr) (e' : Eqn) (y3 y4 : Option V), σ = [some (.ref q'), some (.bl e'.2), some (.ref D), y3, y4] ∧ Same H H' ∧ H' q' = some (.lst (e'.1.map fun x => V.int (x : Nat))) ∧ Asc e'.1 ∧ (∀ x ∈ e'.1, x < many) ∧ (∀ x ∈ e'.1, x < m) ∧ red kn m e' = red kn 64 e,
      ⟨64, q, e, none, none, rfl, Same.refl H, hq, ha, hl, fun x hx => by have := hl x hx; omega, rfl⟩, ?_⟩
    rintro m σ H' ⟨q', e', y3, y4, rfl, sm, hq', ha', hl', hlm, hred⟩
    have fin : ∀ u, red kn m e' = e' → H' u = none → Q (.ref u) (upd H' u (.tup [.ref q', .bl e'.2])) := fun u er hu => by
      rw [er] at hred
      refine c _ u q' (sm.trans (same_upd hu)) (sm.free hu) ?_
      rw [← hred]
      exact ⟨upd_same, same_upd hu _ _ hq'⟩
    have len60 : e'.1.length ≤ 60 := Nat.le_trans (ha'.few hl') hm
    refine ⟨_, rfl, q', _, rfl, .inl (SqL.of hq'), _, _, rfl, rfl, ?_⟩
    cases el : e'.1.getLast? with
    | none =>
      have e0 : e'.1 = [] := List.getLast?_eq_none_iff.mp el
      refine ⟨false, dF (by rw [e0]; decide), iteF (iteF ?_)⟩
      exact ⟨_, rfl, _, rfl, by simp [sizeLine_eq], fun u hu => fin u (red_none e0 m) hu⟩
    | some l =>
      have hlast := ha'.last el
      have hpos : 0 < e'.1.length := List.length_pos_of_mem hlast.1
      refine ⟨true, dT (by rw [List.length_map]; omega), iteT ?_⟩
      have ix := last_map el
      refine ⟨_, rfl, 1, rfl, q', _, -1, _, rfl, rfl, SqL.of hq', ix, _, rfl, D, _, rfl, DGet.k (k := Sum.inl ((l : Nat) : Int)) (sm _ _ hD), ?_⟩
      rcases hK l with ⟨kl, vl⟩ | ⟨g, t, qg, kl, vl, heq⟩
      · rw [vl]
        refine ⟨false, rfl, iteF ?_⟩
        exact ⟨_, rfl, _, rfl, by simp [sizeLine_eq], fun u hu => fin u (red_stop el kl m) hu⟩
      · rw [vl]
        have heq := heq.same sm
        have ⟨g1, g2, g3⟩ := hOk l g kl
        have glt := hOk.lt kl
        obtain ⟨m', rfl⟩ : ∃ m', m = m' + 1 := ⟨m - 1, by have := hlm l hlast.1; omega⟩
        refine ⟨true, rfl, iteT ⟨fun σ' H'' => ∃ (q' : Addr) (e' : Eqn) (y3 y4 : Option V), σ' = [some (.ref q'), some (.bl e'.2), some (.ref D), y3, y4] ∧ Same H H'' ∧ H'' q' = some (.lst (e'.1.map fun x => V.int (x : Nat))) ∧ Asc e'.1 ∧ (∀ x ∈ e'.1, x < many) ∧ (∀ x ∈ e'.1, x < m') ∧ red kn m' e' = red kn 64 e,
          fun σ' H'' h => ⟨m', Nat.lt_succ_self _, h⟩, ?_⟩⟩
        have dg := DGet.k (k := Sum.inl ((l : Nat) : Int)) (sm _ _ hD)
        rw [vl] at dg
        refine ⟨_, rfl, _, rfl, 1, rfl, q', _, -1, _, rfl, rfl, SqL.of hq', ix, D, .ref t, rfl, dg, t, _, rfl, .inl (.inl heq.1), rfl, _, _, rfl, _, _, rfl, rfl, ?_⟩
        have hq2 := hq'
        rw [cast_map] at hq2
        have hg2 := heq.2
        rw [cast_map] at hg2
        have glen : g.1.length ≤ 60 := Nat.le_trans (g1.few glt) hm
        refine ⟨_, rfl, q', _, rfl, SqL.of hq2, by rw [List.length_map]; omega, fun p c1 hp hc1 => ?_⟩
        have s1 := same_upd (o := SetO w p (fun j => decide (j ∈ e'.1.map fun y : Nat => ((y : Nat) : Int))) c1) hp
        have hg3 := s1 _ _ hg2
        refine ⟨_, rfl, qg, _, rfl, SqL.of hg3, by rw [List.length_map]; omega, fun p2 c2 hp2 hc2 => ?_⟩
        have s2 := same_upd (o := SetO w p2 (fun j => decide (j ∈ g.1.map fun y : Nat => ((y : Nat) : Int))) c2) hp2
        have inB : ∀ {l : List Nat}, (∀ x ∈ l, x < many) → ∀ k : Int, decide (k ∈ l.map fun y : Nat => ((y : Nat) : Int)) = true → 0 ≤ k ∧ k < (60 : Nat) := fun h k hk => by
          obtain ⟨x, hx, rfl⟩ := List.mem_map.mp (of_decide_eq_true hk)
          have := h x hx
          omega
        refine ⟨p, p2, _, _, c1, c2, 60, rfl, rfl, s2 _ _ upd_same, upd_same, by decide, inB hl', inB glt, fun p3 m3 hp3 hm3 => ?_⟩
        have s3 := same_upd (o := SetO w p3 (fun j => decide (j ∈ g.1.map fun y : Nat => ((y : Nat) : Int)) != decide (j ∈ e'.1.map fun y : Nat => ((y : Nat) : Int))) m3) hp3
        refine ⟨p3, _, m3, rfl, upd_same, by omega, fun ns3 p4 up mem _ hp4 => ?_⟩
        have en := sym_list (l := e'.1) (m := g.1) (fun x hx => by have := hl' x hx; omega) (fun x hx => by have := glt x hx; omega) up mem
        rw [en, ← cast_map]
        have s4 := same_upd (o := .lst ((symL e'.1 g.1).map fun x => V.int (x : Nat))) hp4
        have s14 := ((s1.trans s2).trans s3).trans s4
        refine ⟨_, rfl, _, rfl, rfl, ?_⟩
        have less := sym_less ha' g1 el g2 (by omega)
        have hbool : (!decide (V.bl e'.2 = V.bl g.2)) = (e'.2 != g.2) := by
          cases e'.2 <;> cases g.2 <;> rfl
        rw [hbool]
        refine ⟨p4, (symL e'.1 g.1, e'.2 != g.2), _, _, rfl, sm.trans s14, upd_same, sym_asc _ _, fun x hx => ?_, fun x hx => ?_, ?_⟩
        · have := less x hx
          have := hl' l hlast.1
          omega
        · have := less x hx
          have := hlm l hlast.1
          omega
        · rw [← hred, red_step el kl]
end
/-! ### levels_seen: the words that follow -/
theorem cut_init (xs : List V) : cutV xs none (some (-1)) = xs.dropLast := by
  unfold cutV
  have e : HT.sIx xs.length xs.length (some (-1)) = xs.length - 1 := by
    show (if (-1 : Int) < 0 then ((-1 : Int) + (xs.length : Int)).toNat else min (Int.toNat (-1)) xs.length) = _
    rw [if_pos (by decide)]
    omega
  rw [e, HT.sIx_none, List.drop_zero, Nat.sub_zero, List.dropLast_eq_take]
section
variable {P : Program} {w : World} {K : PySem.W.Frag} {mg : Str → Option Value} {base : Heap}
def spFollows (K : PySem.W.Frag) : Sp := fun vs H Q _ => ∃ (W q : Addr) (ws : List Bool) (e : Eqn), vs = [.ref W, .ref q, .bl e.2] ∧ SqL K H W (ws.map lvV) ∧ SqL K H q (e.1.map fun x => V.int (x : Nat)) ∧ (∀ x ∈ e.1.dropLast, x < ws.length) ∧ e.1.length ≤ 60 ∧ ∀ H', Same H H' → Q (lvV (wordF ws e)) H'
theorem ok_follows {f : Addr} {fd : FuncData} (F : Fun K "word_that_follows" "word_that_follows" s_word_that_follows f fd) (T : Tx K mg) : FnOk P w K mg base CX0 1 f fd ["words", "levels", "odd"] (spFollows K) := by
  refine F.ok sc_word_that_follows (fun vs H Q E h => ?_) (fun cdv A outer s H vs Q E hr h => ?_)
  · obtain ⟨W, q, ws, e, rfl, _⟩ := h
    rfl
  · obtain ⟨W, q, ws, e, rfl, hW, hq, hlt, h60, c⟩ := h
    refine ⟨_, (pss_cons (ps_setLc (i := 3) (own := [("level", 4)]) (g := gName 4)  rfl sc_word_that_follows.nd rfl rfl (sw_true rfl rfl rfl (by decide +kernel)) (pi_list (pe_slice (sl_listK (K := K) rfl) (pv 1) po_none (po_some (pe_un un_neg pe_int)))) (blkOk_by (own := [("level", 4)]) (N := N_word_that_follows) (sc := defScope s_word_that_follows) (by decide +kernel)) (fun _ _ _ _ _ => (pg_name (i := 4) sc_word_that_follows.nd rfl (.inl rfl))) (fun _ _ _ _ _ => (pts_one (pt_cmpR op_eq (pe_ix (ix_listK (K := K) rfl) (pv 0) (pv 4) (fun _ _ => rfl)) pe_str (nomark _)))) (fun _ _ _ _ _ => (pv 4)))
      (pss_cons (ps_if (pt_cmpR op_ne (pe_cmpR op_eq (pe_op op_mod (pe_callB (lenK (K := K) rfl) (by rfl) T.b_len PySem.boot_len (pa_cons (pv 3) pa_nil)) pe_int) pe_int (nomark _)) (pv 2) (nomark _))
        (pss_one (ps_ret pe_str))
        pss_nil)
      (pss_one (ps_ret pe_str)))), ?_⟩
    obtain ⟨pf, hpf⟩ : ∃ pf : Nat → Bool, pf = fun l => ws.getD l false := ⟨_, rfl⟩
    have dl : (e.1.map fun x => V.int (x : Nat)).dropLast = e.1.dropLast.map fun x => V.int (x : Nat) := by rw [List.map_dropLast]
    refine ⟨_, rfl, 1, rfl, -1, rfl, q, _, rfl, hq, fun L hL => ?_⟩
    rw [cut_init, dl]
    have sL := same_upd (o := .lst (e.1.dropLast.map fun x => V.int (x : Nat))) hL
    have eL := upd_same (H := H) (a := L) (o := .lst (e.1.dropLast.map fun x => V.int (x : Nat)))
    generalize upd H L (.lst (e.1.dropLast.map fun x => V.int (x : Nat))) = H1 at sL eL ⊢
    refine ⟨L, rfl, ⟨_, SqL.of eL⟩, fun D hD => lc_list (K := K) (a := L) (xs := e.1.dropLast.map fun x => V.int (x : Nat)) (fun i H' => Same H1 H' ∧ H' D = some (.lst (((e.1.dropLast.take i).filter pf).map fun x => V.int (x : Nat))))
      ⟨same_upd hD, upd_same⟩ (fun i H' _ ⟨sm, _⟩ => SqL.of (sm _ _ eL)) ?_ ?_⟩
    · rintro i x H' hx ⟨sm, eD⟩
      obtain ⟨l, hl, rfl⟩ : ∃ l, e.1.dropLast[i]? = some l ∧ x = V.int (l : Nat) := by
        rw [List.getElem?_map] at hx
        cases c : e.1.dropLast[i]? with
        | none => rw [c] at hx; cases hx
        | some l => rw [c] at hx; exact ⟨l, rfl, (Option.some.inj hx).symm⟩
      have hil := (List.getElem?_eq_some_iff.mp hl).1
      have hlw := hlt l (List.mem_of_getElem? hl)
      have gw : (ws.map lvV)[l]? = some (lvV (pf l)) := by
        rw [List.getElem?_map, List.getElem?_eq_getElem hlw, hpf]
        simp [List.getD_eq_getElem?_getD, List.getElem?_eq_getElem hlw]
      have estep : ((e.1.dropLast.take (i + 1)).filter pf) = ((e.1.dropLast.take i).filter pf) ++ if pf l = true then [l] else [] := by
        rw [List.take_add_one, hl, Option.toList_some, List.filter_append]
        congr 1
        cases c : pf l <;> simp [c]
      refine ⟨rfl, _, rfl, _, rfl, W, _, _, _, rfl, rfl, sm.seq (sL.seq hW), atI_nat gw, by cases pf l <;> rfl, pf l, congrArg V.bl (lv_dec _), ?_⟩
      cases c : pf l with
      | true =>
        refine iteT ⟨_, rfl, _, eD, ?_, fun c2 o e => ?_, ?_⟩
        · rw [List.length_map]
          refine sizeLine_ge (Nat.le_trans (List.length_filter_le _ _) ?_)
          rw [List.length_take, List.length_dropLast]
          omega
        · rw [upd_ne (ne_of_none e hD)]
          exact sm _ _ e
        · rw [upd_same, estep, c, if_pos rfl, List.map_append]
          rfl
      | false =>
        refine iteF ⟨sm, ?_⟩
        rw [estep, c, if_neg Bool.false_ne_true, List.append_nil]
        exact eD
    · rintro H2 ⟨s2, eD⟩
      rw [List.length_map, List.take_length] at eD
      obtain ⟨n, hn⟩ : ∃ n, n = (e.1.dropLast.filter pf).length := ⟨_, rfl⟩
      have hw : wordF ws e = (decide (n % 2 = 1) != e.2) := by
        unfold wordF
        rw [hn, hpf]
      have s02 := sL.trans s2
      have hpar : V.bl (decide (V.int ((n : Int) % 2) = V.int 1)) = V.bl (decide (n % 2 = 1)) := by
        congr 1
        exact decide_eq_decide.mpr ⟨fun h => by have := V.int.inj h; omega, fun h => congrArg V.int (by omega)⟩
      refine ⟨_, rfl, D, _, rfl, .inl (SqL.of eD), (n : Int), 2, by rw [List.length_map, hn], rfl, (by decide : (0 : Int) < 2), rfl, _, rfl, rfl, (decide (n % 2 = 1) != e.2), ?_, ?_⟩
      · show V.bl (!decide (V.bl (decide (V.int ((n : Int) % 2) = V.int 1)) = V.bl e.2)) = _
        rw [hpar]
        cases decide (n % 2 = 1) <;> cases e.2 <;> rfl
      · rw [← hw]
        have z := c H2 s02
        cases e4 : wordF ws e with
        | true =>
          rw [e4] at z
          exact iteT z
        | false =>
          rw [e4] at z
          exact iteF z
/-- fn: known equations, in the heap apart from one object -/
theorem KnAt.frame {H H' : Hp} {a : Addr} {kvs : List (Key × V)} {kn : Nat → Option Eqn} {o : HO} (ha : H a = some o) (h1 : ∀ xs, o = .tup xs → False) (h2 : ∀ ns : List Nat, o = .lst (ns.map fun x => V.int (x : Nat)) → False) (s : ∀ c u, c ≠ a → H c = some u → H' c = some u) (h : KnAt H kvs kn) : KnAt H' kvs kn := fun l =>
  (h l).imp id fun ⟨g, t, q, e1, e2, e3⟩ => ⟨g, t, q, e1, e2, s _ _ (fun z => by have e3 := e3.1; rw [z, ha] at e3; exact h1 _ (Option.some.inj e3)) e3.1, s _ _ (fun z => by have e3 := e3.2; rw [z, ha] at e3; exact h2 _ (Option.some.inj e3)) e3.2⟩
def spLeast : Sp := fun vs H Q _ => ∃ (D : Addr) (many : Nat) (kvs : List (Key × V)) (kn : Nat → Option Eqn), vs = [.int (many : Nat), .ref D] ∧ H D = some (.dK kvs) ∧ KnAt H kvs kn ∧ KnOk many kn ∧ many ≤ 60 ∧
  ∀ H' u q, Same H H' → H' u = some (.tup [.ref q, .int ((leastW kn many).2 : Nat)]) → H q = none → H' q = some (.lst ((leastW kn many).1.map lvV)) → Q (.ref u) H'
theorem ok_least {f : Addr} {fd : FuncData} (F : Fun K "least_and_count" "least_and_count" s_least_and_count f fd) (T : Tx K mg) (h1 : Has P w K mg base 1 "word_that_follows" ["words", "levels", "odd"] [] (spFollows K)) : FnOk P w K mg base CX0 2 f fd ["many", "known"] spLeast := by
  obtain ⟨f_word_that_follows, fd_word_that_follows, ds_word_that_follows, G_word_that_follows, m_word_that_follows, k_word_that_follows, b_word_that_follows, v_word_that_follows⟩ := h1
  refine F.ok sc_least_and_count (fun vs H Q E h => ?_) (fun cdv A outer s H vs Q E hr h => ?_)
  · obtain ⟨D, many, kvs, kn, rfl, _⟩ := h
    rfl
  · obtain ⟨D, many, kvs, kn, rfl, hD, hK, hOk, hm, c⟩ := h
    have hu := hu_of hr
    refine ⟨_, (pss_cons (ps_set (i := 2) sc_least_and_count.nd rfl (.inl rfl) (pe_lst pa_nil))
      (pss_cons (ps_set (i := 3) sc_least_and_count.nd rfl (.inl rfl) pe_int)
      (pss_cons (ps_for PassesOwn.never rfl (pi_range1 (by rfl) T.b_range (pa_cons (pv 0) pa_nil)) (pg_name (i := 4) sc_least_and_count.nd rfl (.inl rfl))
        (pss_one (ps_if (pt_cmp (pc_din hu (pv 4) (pv 1)))
          (pss_cons (ps_asg (pe_dget hu (pv 1) (pv 4) (fun _ _ => rfl)) (pg_tupK (K := K) (n := 2) rfl rfl (pgs_cons (pg_name (i := 5) sc_least_and_count.nd rfl (.inl rfl)) (pgs_cons (pg_name (i := 6) sc_least_and_count.nd rfl (.inl rfl)) pgs_nil))))
          (pss_one (ps_expr (pe_bm PySem.F.plainAttrs_list PySem.F.slot_list_append PySem.F.type_list_append mt_append (pv 2) (pa_cons (pe_call G_word_that_follows hr (by rfl) m_word_that_follows k_word_that_follows b_word_that_follows v_word_that_follows pass0 (pa_cons (pv 2) (pa_cons (pv 5) (pa_cons (pv 6) pa_nil)))) pa_nil)))))
          (pss_cons (ps_expr (pe_bm PySem.F.plainAttrs_list PySem.F.slot_list_append PySem.F.type_list_append mt_append (pv 2) (pa_cons pe_str pa_nil)))
          (pss_one (ps_aug (i := 3) sc_least_and_count.nd rfl (.inl rfl) pe_int ip_mulA))))))
      (pss_one (ps_ret (pe_tup (pa_cons (pv 2) (pa_cons (pv 3) pa_nil)))))))), ?_⟩
    refine ⟨by simp [sizeLine_eq], fun W hW => ?_⟩
    have sW := same_upd (o := .lst []) hW
    have eW := upd_same (H := H) (a := W) (o := .lst [])
    generalize upd H W (.lst []) = H0 at sW eW ⊢
    refine ⟨_, rfl, (many : Nat), rfl, by omega, by omega, for_range (lo := 0) (n := ((many : Nat) : Int).toNat) (Pv := fun i σ H' => ∃ (y4 y5 y6 : Option V), σ = [some (.int (many : Nat)), some (.ref D), some (.ref W), some (.int ((leastW kn i).2 : Nat)), y4, y5, y6] ∧ Same H H' ∧ H' W = some (.lst ((leastW kn i).1.map lvV)))
      ⟨none, none, none, rfl, sW, eW⟩ ?_ ?_⟩
    · rintro i σ H' hi ⟨y4, y5, y6, rfl, sm, eW'⟩
      rw [Int.toNat_natCast] at hi
      have ei : (0 : Int) + ((i : Nat) : Int) = ((i : Nat) : Int) := by omega
      rw [ei]
      have dg := DGet.k (k := Sum.inl ((i : Nat) : Int)) (sm _ _ hD)
      have llen := least_len kn i
      have lcnt := least_cnt kn i
      have few : ((leastW kn i).1.map lvV).length < sizeLine := by
        rw [List.length_map, llen]
        exact sizeLine_ge (by omega)
      have put : ∀ {o : HO} {G : Hp}, Same H G → Same H (upd G W o) := fun sg c2 o e => by
        rw [upd_ne (ne_of_none e hW)]
        exact sg _ _ e
      refine ⟨_, rfl, _, rfl, D, _, rfl, dg, ?_⟩
      rcases hK i with ⟨kl, vl⟩ | ⟨g, t, qg, kl, vl, heq⟩
      · rw [vl]
        refine ⟨false, rfl, iteF ?_⟩
        refine ⟨_, rfl, .inl ⟨rfl, _, SqL.of eW'⟩, W, _, _, rfl, rfl, eW', few, ?_⟩
        have el1 : (leastW kn (i + 1)).1 = (leastW kn i).1 ++ [false] := by
          rw [leastW, kl]
        have el2 : (leastW kn (i + 1)).2 = (leastW kn i).2 * 2 := by
          rw [leastW, kl]
        refine ⟨_, rfl, ((leastW kn i).2 : Nat), 2, rfl, rfl, mul_r (by decide) (by decide), ?_⟩
        refine ⟨some (.int (i : Nat)), y5, y6, ?_, put sm, ?_⟩
        · rw [el2, Int.natCast_mul]
          rfl
        · rw [upd_same, el1, List.map_append]
          rfl
      · rw [vl] at dg ⊢
        refine ⟨true, rfl, iteT ?_⟩
        have heq := heq.same sm
        have ⟨g1, g2, g3⟩ := hOk i g kl
        refine ⟨_, rfl, _, rfl, D, .ref t, rfl, dg, t, _, rfl, .inl (.inl heq.1), rfl, _, _, rfl, _, _, rfl, rfl, ?_⟩
        refine ⟨_, rfl, .inl ⟨rfl, _, SqL.of eW'⟩, _, rfl, _, rfl, _, rfl, W, qg, (leastW kn i).1, g, rfl, SqL.of eW', SqL.of heq.2, fun x hx => ?_, Nat.le_trans (g1.few (hOk.lt kl)) hm, fun H2 s2 => ?_⟩
        · rw [llen]
          obtain ⟨m, em⟩ := List.getLast?_eq_some_iff.mp g2
          rw [em, List.dropLast_concat] at hx
          rw [em] at g1
          exact (List.pairwise_append.mp g1).2.2 x hx i (by simp)
        · have el1 : (leastW kn (i + 1)).1 = (leastW kn i).1 ++ [wordF (leastW kn i).1 g] := by
            rw [leastW, kl]
          have el2 : (leastW kn (i + 1)).2 = (leastW kn i).2 := by
            rw [leastW, kl]
          refine ⟨W, _, _, rfl, rfl, s2 _ _ eW', few, ?_⟩
          refine ⟨some (.int (i : Nat)), some (.ref qg), some (.bl g.2), ?_, put (sm.trans s2), ?_⟩
          · rw [el2]
            rfl
          · rw [upd_same, el1, List.map_append]
            rfl
    · rintro σ H' ⟨y4, y5, y6, rfl, sm, eW'⟩
      rw [Int.toNat_natCast] at eW'
      exact ⟨_, rfl, _, rfl, by simp [sizeLine_eq], fun u hu => c _ u W (sm.trans (same_upd hu)) upd_same hW (same_upd hu _ _ eW')⟩
end
/-! ### levels_seen: what is a sighting, of any value -/
def sideB (x : V) : Bool := inV x [.str "front", .str "back"]
theorem side_of (f : Bool) : sideB (sideV f) = true := by
  cases f <;> decide
/-- a sighting -/
def SightAt (H : Hp) (v : V) (n d : Nat) (f : Bool) : Prop := ∃ t : Addr, v = .ref t ∧ H t = some (.tup [.int (n : Nat), .int (d : Nat), sideV f]) ∧ n < d
theorem SightAt.same {H H' : Hp} {v : V} {n d : Nat} {f : Bool} (s : Same H H') (h : SightAt H v n d f) : SightAt H' v n d f := by
  obtain ⟨t, e, h, l⟩ := h
  exact ⟨t, e, s _ _ h, l⟩
def NoSide (K : PySem.W.Frag) (H : Hp) (x : V) : Prop := NotA K H "str" x ∨ ∃ s : Str, x = .str s ∧ sideB x = false
theorem NoSide.same {K : PySem.W.Frag} {H H' : Hp} {x : V} (s : Same H H') (h : NoSide K H x) : NoSide K H' x := h.imp (·.same s) id
/-- what is none -/
def BadSight (K : PySem.W.Frag) (H : Hp) (v : V) : Prop := NotA K H "tuple" v ∨ ∃ (a : Addr) (xs : List V), v = .ref a ∧ H a = some (.tup xs) ∧ (xs.length ≠ 3 ∨ ∃ x y z, xs = [x, y, z] ∧ (BadTick K H x 0 ∨ ∃ n : Nat, x = .int (n : Nat) ∧ (BadTick K H y ((n : Int) + 1) ∨ ∃ d : Nat, y = .int (d : Nat) ∧ n < d ∧ NoSide K H z)))
theorem BadSight.same {K : PySem.W.Frag} {H H' : Hp} {v : V} (s : Same H H') (h : BadSight K H v) : BadSight K H' v := by
  rcases h with h | ⟨a, xs, e, h, h2⟩
  · exact .inl (h.same s)
  · exact .inr ⟨a, xs, e, s _ _ h, h2.imp id fun ⟨x, y, z, e2, h3⟩ => ⟨x, y, z, e2, h3.imp (·.same s) fun ⟨n, e3, h4⟩ => ⟨n, e3, h4.imp (·.same s) fun ⟨d, e4, l, h5⟩ => ⟨d, e4, l, h5.same s⟩⟩⟩⟩
/-- what is no list of sightings -/
def BadSeen (K : PySem.W.Frag) (H : Hp) (x : V) : Prop := NotA K H "list" x ∨ ∃ (S : Addr) (xs : List V), x = .ref S ∧ SqL K H S xs ∧ xs.length ≤ 100 ∧ (∀ v ∈ xs, (∃ n d f, SightAt H v n d f) ∨ BadSight K H v) ∧ ∃ v ∈ xs, BadSight K H v
theorem BadSeen.same {K : PySem.W.Frag} {H H' : Hp} {x : V} (s : Same H H') (h : BadSeen K H x) : BadSeen K H' x := by
  rcases h with h | ⟨S, xs, e, h1, l, h2, v, hv, h3⟩
  · exact .inl (h.same s)
  · exact .inr ⟨S, xs, e, s.seq h1, l, fun v hv => (h2 v hv).imp (fun ⟨n, d, f, z⟩ => ⟨n, d, f, z.same s⟩) (·.same s), v, hv, h3.same s⟩
def SidesAt (K : PySem.W.Frag) (mg : Str → Option Value) : Prop := ∃ a, mg "SIDES" = some (.ref a) ∧ ∀ H, SqT K H a [.str "front", .str "back"]
section
variable {P : Program} {w : World} {K : PySem.W.Frag} {mg : Str → Option Value} {base : Heap}
def spIsSighting (K : PySem.W.Frag) : Sp := fun vs H Q _ => ∃ x : V, vs = [x] ∧ (((∃ n d f, SightAt H x n d f) ∧ Q (.bl true) H) ∨ (BadSight K H x ∧ Q (.bl false) H))
theorem okA_is_sighting {f : Addr} {fd : FuncData} (F : Fun K "is_sighting" "is_sighting" s_is_sighting f fd) (T : Tx K mg) (hW : SidesAt K mg) (h1 : Has P w K mg base 2 "is_tick" ["given", "least"] [.int 0] (spIsTickX K)) (h2 : Has P w K mg base 2 "is_tick" ["given", "least"] [] (spIsTickX K)) : FnOk P w K mg base CX0 3 f fd ["given"] (spIsSighting K) := by
  obtain ⟨f_is_tick1, fd_is_tick1, ds_is_tick1, G_is_tick1, m_is_tick1, k_is_tick1, b_is_tick1, v_is_tick1⟩ := h1
  obtain ⟨f_is_tick, fd_is_tick, ds_is_tick, G_is_tick, m_is_tick, k_is_tick, b_is_tick, v_is_tick⟩ := h2
  obtain ⟨a_SIDES, g_SIDES, sW⟩ := hW
  refine F.ok sc_is_sighting (fun vs H Q E h => ?_) (fun cdv A outer s H vs Q E hr h => ?_)
  · obtain ⟨x, rfl, _⟩ := h
    rfl
  · obtain ⟨x, rfl, h⟩ := h
    refine ⟨_, (pss_cons (ps_if (PW.pt (pw_or (pt_not (pt_val (pe_callB (isiK (K := K) rfl) (by rfl) T.b_isinstance (by decide +kernel) (pa_cons (pv 0) (pa_cons (pe_bltn (v := .ty "tuple") (u := .type "tuple") (by rfl) T.b_tuple (by decide +kernel) rfl) pa_nil))))) (pw_or1 (pt_cmpR op_ne (pe_callB (lenK (K := K) rfl) (by rfl) T.b_len PySem.boot_len (pa_cons (pv 0) pa_nil)) pe_int (nomark _)))))
        (pss_one (ps_ret pe_bl))
        pss_nil)
      (pss_cons (ps_asg (pv 0) (pg_tupK (K := K) (n := 3) rfl rfl (pgs_cons (pg_name (i := 1) sc_is_sighting.nd rfl (.inl rfl)) (pgs_cons (pg_name (i := 2) sc_is_sighting.nd rfl (.inl rfl)) (pgs_cons (pg_name (i := 3) sc_is_sighting.nd rfl (.inl rfl)) pgs_nil)))))
      (pss_cons (ps_if (PW.pt (pw_or (pt_not (pt_val (pe_call G_is_tick1 hr (by rfl) m_is_tick1 k_is_tick1 b_is_tick1 v_is_tick1 pass0 (pa_cons (pv 1) pa_nil)))) (pw_or1 (pt_not (pt_val (pe_call G_is_tick hr (by rfl) m_is_tick k_is_tick b_is_tick v_is_tick pass0 (pa_cons (pv 2) (pa_cons (pe_op op_add (pv 1) pe_int) pa_nil))))))))
        (pss_one (ps_ret pe_bl))
        pss_nil)
      (pss_one (ps_ret (pe_and (pe_callB (isiK (K := K) rfl) (by rfl) T.b_isinstance (by decide +kernel) (pa_cons (pv 3) (pa_cons (pe_bltn (v := .ty "str") (u := .type "str") (by rfl) T.b_str (by decide +kernel) rfl) pa_nil))) (pe_one (pe_cmpR op_in_seq (pv 3) (pe_glob (v := .ref a_SIDES) rfl g_SIDES rfl) (by rfl))))))))), ?_⟩
    have side : ∀ (s : Str) (b : Bool), sideB (.str s) = b → Q (.bl b) H → ∃ (p : Addr) (xs : List V), V.ref a_SIDES = .ref p ∧ (SqL K H p xs ∨ SqT K H p xs) ∧ flatV (.str s) = true ∧ xs.all flatV = true ∧ Q (.bl (if false then !inV (.str s) xs else inV (.str s) xs)) H := fun s b e q => by
      refine ⟨a_SIDES, _, rfl, .inr (sW _), rfl, rfl, ?_⟩
      have e2 : (if false then !inV (V.str s) [.str "front", .str "back"] else inV (V.str s) [.str "front", .str "back"]) = b := e
      rw [e2]
      exact q
    rcases h with ⟨⟨n, d, f, t, rfl, ht, hnd⟩, q⟩ | ⟨⟨c, ht, hk⟩ | ⟨t, xs, rfl, ht, hb⟩, q⟩
    · refine ⟨.ref t, rfl, _, _, _, _, true, rfl, .ty "tuple", .base (.tup ht), kit_ty (by decide +kernel), true, rfl, iteF ?_⟩
      refine ⟨.ref t, rfl, t, _, rfl, .inr (.inl (.inl ht)), rfl, false, nF rfl, iteF ?_⟩
      refine ⟨.ref t, rfl, t, _, rfl, .inl (.inl ht), rfl, _, _, rfl, _, _, rfl, _, _, rfl, rfl, ?_⟩
      refine ⟨_, rfl, .int (n : Nat), 0, rfl, .inl ⟨(n : Nat), rfl, by omega, true, rfl, iteF ?_⟩⟩
      refine ⟨_, rfl, _, rfl, (n : Nat), 1, rfl, rfl, .int (d : Nat), (n : Int) + 1, rfl, .inl ⟨(d : Nat), rfl, by omega, true, rfl, iteF ?_⟩⟩
      obtain ⟨sx, ex, hx⟩ : ∃ x : Str, sideV f = .str x ∧ sideB (.str x) = true := by
        cases f
        · exact ⟨_, rfl, by decide⟩
        · exact ⟨_, rfl, by decide⟩
      rw [ex]
      exact ⟨.str sx, rfl, _, _, _, _, true, rfl, .ty "str", .base (.str sx), kit_ty (by decide +kernel), true, rfl, iteT ⟨.str sx, rfl, side sx true hx q⟩⟩
    · exact ⟨x, rfl, _, _, _, _, false, rfl, .ty "tuple", ht, kit_ty hk, false, rfl, iteT (iteT q)⟩
    · refine ⟨.ref t, rfl, _, _, _, _, true, rfl, .ty "tuple", .base (.tup ht), kit_ty (by decide +kernel), true, rfl, iteF ?_⟩
      rcases hb with hl | ⟨x, y, z, rfl, hb⟩
      · exact ⟨.ref t, rfl, t, _, rfl, .inr (.inl (.inl ht)), rfl, true, nT (vI fun e => hl (Int.ofNat.inj e)), iteT q⟩
      refine ⟨.ref t, rfl, t, _, rfl, .inr (.inl (.inl ht)), rfl, false, nF rfl, iteF ?_⟩
      refine ⟨.ref t, rfl, t, _, rfl, .inl (.inl ht), rfl, _, _, rfl, _, _, rfl, _, _, rfl, rfl, ?_⟩
      rcases hb with hb | ⟨n, rfl, hb⟩
      · exact ⟨x, rfl, x, 0, rfl, .inr ⟨hb, false, rfl, iteT (iteT q)⟩⟩
      refine ⟨_, rfl, .int (n : Nat), 0, rfl, .inl ⟨(n : Nat), rfl, by omega, true, rfl, iteF ?_⟩⟩
      rcases hb with hb | ⟨d, rfl, hnd, hb⟩
      · exact ⟨y, rfl, _, rfl, (n : Nat), 1, rfl, rfl, y, (n : Int) + 1, rfl, .inr ⟨hb, false, rfl, iteT q⟩⟩
      refine ⟨_, rfl, _, rfl, (n : Nat), 1, rfl, rfl, .int (d : Nat), (n : Int) + 1, rfl, .inl ⟨(d : Nat), rfl, by omega, true, rfl, iteF ?_⟩⟩
      rcases hb with ⟨a, ht, hk⟩ | ⟨s, rfl, hs⟩
      · exact ⟨z, rfl, z, _, _, _, false, rfl, .ty "str", ht, kit_ty hk, false, rfl, iteF q⟩
      · exact ⟨.str s, rfl, _, _, _, _, true, rfl, .ty "str", .base (.str s), kit_ty (by decide +kernel), true, rfl, iteT ⟨.str s, rfl, side s false hs q⟩⟩
def spCheckMany : Sp := fun vs H Q _ => ∃ n : Nat, vs = [.int (n : Nat)] ∧ 1 ≤ n ∧ n ≤ 60 ∧ Q .non H
theorem ok_check_many {f : Addr} {fd : FuncData} (F : Fun K "check_many" "check_many" s_check_many f fd) (h1 : Has P w K mg base 2 "is_length" ["given"] [] (spIsLengthX K)) : FnOk P w K mg base CX0 3 f fd ["many"] spCheckMany := by
  obtain ⟨f_is_length, fd_is_length, ds_is_length, G_is_length, m_is_length, k_is_length, b_is_length, v_is_length⟩ := h1
  refine F.ok sc_check_many (fun vs H Q E h => ?_) (fun cdv A outer s H vs Q E hr h => ?_)
  · obtain ⟨x, rfl, _⟩ := h
    rfl
  · obtain ⟨n, rfl, h1, h2, q⟩ := h
    refine ⟨_, (pss_one (ps_if (pt_not (pt_val (pe_call G_is_length hr (by rfl) m_is_length k_is_length b_is_length v_is_length pass0 (pa_cons (pv 0) pa_nil))))
        (pss_one ps_never)
        pss_nil)), ?_⟩
    exact ⟨_, rfl, _, rfl, .inl ⟨(n : Nat), rfl, by omega, by omega, true, rfl, iteF q⟩⟩
def spCheckSeen (K : PySem.W.Frag) : Sp := fun vs H Q _ => ∃ (S : Addr) (xs : List V), vs = [.ref S] ∧ SqL K H S xs ∧ xs.length ≤ 100 ∧ (∀ v ∈ xs, ∃ n d f, SightAt H v n d f) ∧ ∀ H', Same H H' → Q .non H'
theorem ok_check_seen {f : Addr} {fd : FuncData} (F : Fun K "check_seen" "check_seen" s_check_seen f fd) (T : Tx K mg) (h1 : Has P w K mg base 3 "is_sighting" ["given"] [] (spIsSighting K)) : FnOk P w K mg base CX0 4 f fd ["seen"] (spCheckSeen K) := by
  obtain ⟨f_is_sighting, fd_is_sighting, ds_is_sighting, G_is_sighting, m_is_sighting, k_is_sighting, b_is_sighting, v_is_sighting⟩ := h1
  refine F.ok sc_check_seen (fun vs H Q E h => ?_) (fun cdv A outer s H vs Q E hr h => ?_)
  · obtain ⟨x, xs, rfl, _⟩ := h
    rfl
  · obtain ⟨S, xs, rfl, hS, l, hv, c⟩ := h
    refine ⟨_, (pss_one (ps_if (PW.pt (pw_or (pt_not (pt_val (pe_callB (isiK (K := K) rfl) (by rfl) T.b_isinstance (by decide +kernel) (pa_cons (pv 0) (pa_cons (pe_bltn (v := .ty "list") (u := .type "list") (by rfl) T.b_list (by decide +kernel) rfl) pa_nil))))) (pw_or1 (pt_not (pt_val (pe_callB (allK (K := K) rfl rfl) (by rfl) T.b_all (by decide +kernel) (pa_cons (pe_lc (own := [("given", 1)]) (g := gName 1) (tt := tYes) rfl sc_check_seen.nd (pi_list (pv 0)) (blkOk_by (own := [("given", 1)]) (N := N_check_seen) (sc := defScope s_check_seen) (by decide +kernel)) (fun _ _ _ _ _ => (pg_name (i := 1) sc_check_seen.nd rfl (.inl rfl))) (fun _ _ _ _ _ => pts_nil) (fun _ _ _ _ _ => (pe_call G_is_sighting hr (by rfl) m_is_sighting k_is_sighting b_is_sighting v_is_sighting pass0 (pa_cons (pv 1) pa_nil)))) pa_nil)))))))
        (pss_one ps_never)
        pss_nil)), ?_⟩
    refine ⟨.ref S, rfl, _, _, _, _, true, rfl, .ty "list", tyx_list hS, kit_ty (by decide +kernel), true, rfl, iteF ?_⟩
    refine ⟨.ref S, rfl, S, rfl, ⟨_, hS⟩, fun D hD => lc_list (K := K) (a := S) (xs := xs) (fun i H' => Same H H' ∧ H' D = some (.lst ((List.replicate i true).map V.bl)))
      ⟨same_upd hD, upd_same⟩ (fun i H' _ ⟨sm, _⟩ => sm.seq hS) ?_ ?_⟩
    · rintro i x H' hx ⟨sm, eD⟩
      have hi : i < xs.length := (List.getElem?_eq_some_iff.mp hx).1
      refine ⟨rfl, yesT (iteT ?_)⟩
      obtain ⟨n, d, f, hs⟩ := hv x (List.mem_of_getElem? hx)
      refine ⟨_, rfl, x, rfl, .inl ⟨⟨n, d, f, hs.same sm⟩, _, eD, ?_, fun c o e => ?_, ?_⟩⟩
      · rw [List.length_map, List.length_replicate]
        exact sizeLine_ge (by omega)
      · rw [upd_ne (ne_of_none e hD)]
        exact sm _ _ e
      · rw [upd_same, List.replicate_succ', List.map_append]
        rfl
    · rintro H1 ⟨s1, eD⟩
      have c1 := c H1 s1
      refine ⟨D, _, rfl, SqL.of eD, ?_⟩
      have e : (List.replicate xs.length true).all id = true := by simp
      exact ⟨true, by rw [e], iteF c1⟩
end
/-! ### data equal to itself -/
theorem neq_refl {d : PyData} (h : d.canLay0 = true) : V.bl (!PyData.eqv d d) = V.bl false := by
  rw [SeqAt.eqv_refl d h]
  rfl
theorem eq_refl {d : PyData} (h : d.canLay0 = true) : V.bl (PyData.eqv d d) = V.bl true := by
  rw [SeqAt.eqv_refl d h]
/-! ### rows as data, walks with numbers -/
def rowD (r : Row3) : PyData := .tuple [.int (r.1 : Nat), .int (r.2.1 : Nat), .int (r.2.2 : Nat)]
theorem rows_dp {K : PySem.W.Frag} {H : Hp} : ∀ {ts : List Addr} {rs : List Row3}, RowsAt H ts rs → DpAll K H (ts.map V.ref) (rs.map rowD)
  | [], [], _ => .nil
  | _ :: _, _ :: _, h => .cons (.tup (.inl (.inl h.1)) (.cons (.int _) (.cons (.int _) (.cons (.int _) .nil)))) (rows_dp h.2)
  | [], _ :: _, h => h.elim
  | _ :: _, [], h => h.elim
theorem rowD_lay (r : Row3) : (rowD r).canLay0 = true := rfl
theorem rows_lay : ∀ rs : List Row3, PyData.canLayAll0 (rs.map rowD) = true
  | [] => rfl
  | r :: rs => by
    show ((rowD r).canLay0 && PyData.canLayAll0 (rs.map rowD)) = true
    rw [rowD_lay, rows_lay rs]
    rfl
theorem rows_depth : ∀ rs : List Row3, PyData.depthAll (rs.map rowD) ≤ 1
  | [] => Nat.zero_le _
  | r :: rs => by
    have ih := rows_depth rs
    show max (rowD r).depth (PyData.depthAll (rs.map rowD)) ≤ 1
    have e : (rowD r).depth = 1 := rfl
    rw [e]
    omega
theorem rows_shaped (rs : List Row3) : SeqAt.shaped (.list (rs.map rowD)) = true := by
  have h1 : (PyData.list (rs.map rowD)).canLay0 = true := by
    show PyData.canLayAll0 (rs.map rowD) = true
    exact rows_lay rs
  have h2 : (PyData.list (rs.map rowD)).depth ≤ 64 := by
    show PyData.depthAll (rs.map rowD) + 1 ≤ 64
    have := rows_depth rs
    omega
  unfold SeqAt.shaped
  rw [h1, decide_eq_true h2]
  rfl
theorem dp_nats {K : PySem.W.Frag} {H : Hp} : ∀ ns : List Nat, DpAll K H (ns.map fun x => V.int (x : Nat)) (ns.map fun x => PyData.int (x : Nat))
  | [] => .nil
  | _ :: r => .cons (.int _) (dp_nats r)
theorem nats_lay : ∀ ns : List Nat, PyData.canLayAll0 (ns.map fun x => PyData.int (x : Nat)) = true
  | [] => rfl
  | _ :: r => by
    show (PyData.canLay0 _ && PyData.canLayAll0 (r.map fun x => PyData.int (x : Nat))) = true
    rw [nats_lay r]
    rfl
theorem nats_depth : ∀ ns : List Nat, PyData.depthAll (ns.map fun x => PyData.int (x : Nat)) = 0
  | [] => rfl
  | _ :: r => by
    show max (PyData.depth _) (PyData.depthAll (r.map fun x => PyData.int (x : Nat))) = 0
    rw [nats_depth r]
    rfl
theorem nats_shaped (ns : List Nat) : SeqAt.shaped (.list (ns.map fun x => PyData.int (x : Nat))) = true := by
  have h1 : (PyData.list (ns.map fun x => PyData.int (x : Nat))).canLay0 = true := by
    show PyData.canLayAll0 _ = true
    exact nats_lay ns
  have h2 : (PyData.list (ns.map fun x => PyData.int (x : Nat))).depth ≤ 64 := by
    show PyData.depthAll _ + 1 ≤ 64
    rw [nats_depth ns]
    decide
  unfold SeqAt.shaped
  rw [h1, decide_eq_true h2]
  rfl
theorem cut1 (xs : List V) : cutV xs (some 1) none = xs.drop 1 := by
  unfold cutV
  rw [show HT.sIx xs.length 0 (some 1) = min 1 xs.length from HT.sIx_nat xs.length 0 1, HT.sIx_none]
  cases xs with
  | nil => rfl
  | cons x r =>
    rw [show min 1 (x :: r).length = 1 by
      rw [List.length_cons]
      omega]
    show (List.take ((x :: r).length - 1) r) = r
    rw [List.length_cons, Nat.add_sub_cancel]
    exact List.take_length
theorem cutTo {xs : List V} {k : Nat} : cutV xs none (some (k : Int)) = xs.take k := by
  unfold cutV
  rw [HT.sIx_none, HT.sIx_nat, List.drop_zero, Nat.sub_zero]
  by_cases h : k ≤ xs.length
  · rw [Nat.min_eq_left h]
  · rw [Nat.min_eq_right (by omega), List.take_length, List.take_of_length_le (by omega)]
theorem cutFrom {xs : List V} {k : Nat} : cutV xs (some (k : Int)) none = xs.drop k := by
  unfold cutV
  rw [HT.sIx_none, HT.sIx_nat]
  by_cases h : k ≤ xs.length
  · rw [Nat.min_eq_left h]
    exact List.take_of_length_le (by rw [List.length_drop]; exact Nat.le_refl _)
  · rw [Nat.min_eq_right (by omega), List.drop_length, List.drop_of_length_le (by omega)]
    simp
theorem cutLast {xs : List V} (h : xs ≠ []) : cutV xs (some (-1)) none = [xs.getLast h] := by
  have hp : 0 < xs.length := List.length_pos_iff.mpr h
  have e : HT.sIx xs.length 0 (some (-1)) = xs.length - 1 := by
    show (if (-1 : Int) < 0 then ((-1 : Int) + (xs.length : Int)).toNat else min (-1 : Int).toNat xs.length) = _
    rw [if_pos (by decide)]
    omega
  unfold cutV
  rw [e, HT.sIx_none, List.drop_eq_getElem_cons (show xs.length - 1 < xs.length by omega), List.getLast_eq_getElem]
  rw [show xs.length - 1 + 1 = xs.length by omega, List.drop_length]
  rw [show xs.length - (xs.length - 1) = 1 by omega]
  rfl
theorem RowsAt.frame {H H' : Hp} : ∀ {ts : List Addr} {rs : List Row3}, RowsAt H ts rs → (∀ t r, H t = some (.tup (rowV r)) → H' t = some (.tup (rowV r))) → RowsAt H' ts rs
  | [], [], _, _ => trivial
  | _ :: _, _ :: _, h, s => ⟨s _ _ h.1, h.2.frame s⟩
  | [], _ :: _, h, _ => h.elim
  | _ :: _, [], h, _ => h.elim
/-- the tick behind the first station -/
theorem behind_first (b d : Nat) : ∀ k, ((tailOf b d k).map (fun r => r.2.2) ++ [d])[0]? = some (d / b ^ k * b ^ k)
  | 0 => by
    show some d = some (d / b ^ 0 * b ^ 0)
    rw [Nat.pow_zero, Nat.div_one, Nat.mul_one]
  | k + 1 => by
    have e := cut_step b d k
    unfold tailOf
    split
    · rfl
    · rename_i h
      have h0 : d / b ^ k % b = 0 := Classical.byContradiction h
      rw [h0, Nat.zero_mul, Nat.add_zero] at e
      rw [behind_first b d k, e]
/-- a loop over enumerate(a list) -/
theorem for_enum {K : PySem.W.Frag} {a : Addr} {xs : List V} {g : TG} {tb : TS} {D : Ends} {σ : L2.St} {H : Hp} (Pv : Nat → L2.St → Hp → Prop) (h0 : Pv 0 σ H) (hq : ∀ i σ H, Pv i σ H → SqL K H a xs)
    (hs : ∀ (i : Nat) (x : V) (T : Addr) (σ : L2.St) (H : Hp), xs[i]? = some x → Pv i σ H → H T = none → g (.ref T) σ (upd H T (.tup [.int (i : Nat), x])) fun σ2 H2 => tb { D with nx := Pv (i + 1), ct := Pv (i + 1), bk := D.nx } σ2 H2) (hd : ∀ σ H, Pv xs.length σ H → D.nx σ H) :
    ∃ W : Nat → Nat → L2.St → Hp → Prop, (∃ m, W 0 m σ H) ∧ ∀ i m σ H, W i m σ H →
      ((Ite K a).stop i H ∧ D.nx σ H) ∨ ((Ite K a).go i H ∧ ∃ N : L2.St → Hp → Prop, (∀ σ' H', N σ' H' → ∃ m', m' < m ∧ W (i + 1) m' σ' H') ∧ ∀ v H', (Ite K a).yld i H v H' → g v σ H' fun σ2 H2 => tb { D with nx := N, ct := N, bk := D.nx } σ2 H2) := by
  refine ⟨fun i m σ H => m = xs.length - i ∧ i ≤ xs.length ∧ Pv i σ H, ⟨xs.length, rfl, Nat.zero_le _, h0⟩, ?_⟩
  rintro i m σ H ⟨rfl, hi, p⟩
  have qx := hq i σ H p
  by_cases hlt : i < xs.length
  · have hx : xs[i]? = some xs[i] := List.getElem?_eq_getElem hlt
    refine .inr ⟨⟨xs, xs[i], qx, hx⟩, Pv (i + 1), fun σ' H' p' => ⟨xs.length - (i + 1), by omega, rfl, hlt, p'⟩, fun v H' y => ?_⟩
    obtain ⟨T, x, rfl, nT, rfl, f⟩ := y
    have ex : x = xs[i] := Option.some.inj ((f xs qx).symm.trans hx)
    subst ex
    exact hs i _ T σ H hx p nT
  · have e : i = xs.length := by omega
    subst e
    exact .inl ⟨⟨xs, qx, Nat.le_refl _⟩, hd σ H p⟩
/-- a loop over zip(a list, a list), of any two lengths -/
theorem for_zip2 {K : PySem.W.Frag} {a b : Addr} {xs ys : List V} {g : TG} {tb : TS} {D : Ends} {σ : L2.St} {H : Hp} (Pv : Nat → L2.St → Hp → Prop) (h0 : Pv 0 σ H) (hq : ∀ i σ H, Pv i σ H → SqL K H a xs ∧ SqL K H b ys)
    (hs : ∀ (i : Nat) (x y : V) (T : Addr) (σ : L2.St) (H : Hp), xs[i]? = some x → ys[i]? = some y → Pv i σ H → H T = none → g (.ref T) σ (upd H T (.tup [x, y])) fun σ2 H2 => tb { D with nx := Pv (i + 1), ct := Pv (i + 1), bk := D.nx } σ2 H2) (hd : ∀ i σ H, Pv i σ H → D.nx σ H) :
    ∃ W : Nat → Nat → L2.St → Hp → Prop, (∃ m, W 0 m σ H) ∧ ∀ i m σ H, W i m σ H →
      ((Itz K a b).stop i H ∧ D.nx σ H) ∨ ((Itz K a b).go i H ∧ ∃ N : L2.St → Hp → Prop, (∀ σ' H', N σ' H' → ∃ m', m' < m ∧ W (i + 1) m' σ' H') ∧ ∀ v H', (Itz K a b).yld i H v H' → g v σ H' fun σ2 H2 => tb { D with nx := N, ct := N, bk := D.nx } σ2 H2) := by
  refine ⟨fun i m σ H => m = xs.length - i ∧ i ≤ xs.length ∧ Pv i σ H, ⟨xs.length, rfl, Nat.zero_le _, h0⟩, ?_⟩
  rintro i m σ H ⟨rfl, hi, p⟩
  obtain ⟨qx, qy⟩ := hq i σ H p
  by_cases hlt : i < xs.length ∧ i < ys.length
  · have hx : xs[i]? = some xs[i] := List.getElem?_eq_getElem hlt.1
    have hy : ys[i]? = some ys[i] := List.getElem?_eq_getElem hlt.2
    refine .inr ⟨⟨xs, ys, _, _, qx, qy, hx, hy⟩, Pv (i + 1), fun σ' H' p' => ⟨xs.length - (i + 1), by omega, rfl, hlt.1, p'⟩, fun v H' e => ?_⟩
    obtain ⟨T, x, y, rfl, nT, rfl, f, f2⟩ := e
    have ex : x = xs[i] := Option.some.inj ((f xs qx).symm.trans hx)
    have ey : y = ys[i] := Option.some.inj ((f2 ys qy).symm.trans hy)
    subst ex
    subst ey
    exact hs i _ _ T σ H hx hy p nT
  · refine .inl ⟨⟨xs, ys, qx, qy, ?_⟩, hd i σ H p⟩
    by_cases h1 : i < xs.length
    · right
      by_cases h2 : i < ys.length
      · exact absurd ⟨h1, h2⟩ hlt
      · omega
    · left
      omega
/-- the last item of a list that has one -/
theorem atI_neg1 {xs : List V} {x : V} (h : xs[xs.length - 1]? = some x) : atI xs (-1) = some x := by
  have hne : xs ≠ [] := fun e => by
    rw [e] at h
    simp at h
  have e : xs = xs.dropLast ++ [xs.getLast hne] := (List.dropLast_concat_getLast hne).symm
  have ex : x = xs.getLast hne := by
    have z := List.getLast?_eq_getElem? (l := xs)
    rw [h, List.getLast?_eq_some_getLast hne] at z
    exact (Option.some.inj z).symm
  rw [e, ex]
  exact atI_last _ _
/-! ### levels_seen -/
def SightsAt (H : Hp) (ts : List Addr) (ss : List (Nat × Nat × Bool)) : Prop := ts.length = ss.length ∧ ∀ (j : Nat) (t : Addr) (s : Nat × Nat × Bool), ts[j]? = some t → ss[j]? = some s → H t = some (.tup [.int (s.1 : Nat), .int (s.2.1 : Nat), sideV s.2.2]) ∧ s.1 < s.2.1
theorem SightsAt.same {H H' : Hp} {ts : List Addr} {ss : List (Nat × Nat × Bool)} (s : Same H H') (h : SightsAt H ts ss) : SightsAt H' ts ss := ⟨h.1, fun j t x h1 h2 => ⟨s _ _ (h.2 j t x h1 h2).1, (h.2 j t x h1 h2).2⟩⟩
/-- the answer -/
def SeenAt (H : Hp) (u : Addr) : Nat ⊕ (List Bool × Nat) → Prop
  | .inl k => H u = some (.tup [.str "none", .int (k : Nat)])
  | .inr r => ∃ q, H u = some (.tup [.str "levels", .ref q, .int (r.2 : Nat)]) ∧ H q = some (.lst (r.1.map lvV))
theorem SeenAt.same {H H' : Hp} {u : Addr} (s : Same H H') : ∀ {r : Nat ⊕ (List Bool × Nat)}, SeenAt H u r → SeenAt H' u r
  | .inl _, h => s _ _ h
  | .inr _, ⟨q, h1, h2⟩ => ⟨q, s _ _ h1, s _ _ h2⟩
theorem put_len (kvs : List (Key × V)) (k : Key) (v : V) : (putK kvs k v).length ≤ kvs.length + 1 := by
  unfold putK
  split
  · rw [List.length_map]
    omega
  · rw [List.length_append]
    exact Nat.le_refl _
theorem KnAt.put {H H' : Hp} {D u q : Addr} {kvs : List (Key × V)} {kn : Nat → Option Eqn} {e : Eqn} {l : Nat} (hD : H D = some (.dK kvs)) (h : KnAt H kvs kn) (s : ∀ c o, c ≠ D → H c = some o → H' c = some o) (he : EqAt H' u q e) :
    KnAt H' (putK kvs (.inl ((l : Nat) : Int)) (.ref u)) (fun j => if j = l then some e else kn j) := fun j => by
  rw [valV_put]
  by_cases c : j = l
  · subst c
    exact .inr ⟨e, u, q, if_pos rfl, if_pos rfl, he⟩
  · have c2 : (Sum.inl ((j : Nat) : Int) : Key) ≠ .inl ((l : Nat) : Int) := fun z => c (Int.ofNat.inj (Sum.inl.inj z))
    rw [if_neg c2]
    have z := h.frame (H' := H') hD (fun _ z => by cases z) (fun _ z => by cases z) s j
    dsimp only
    rw [if_neg c]
    exact z
section
variable {P : Program} {w : World} {K : PySem.W.Frag} {mg : Str → Option Value} {base : Heap}
def spSeen (K : PySem.W.Frag) : Sp := fun vs H Q _ => ∃ (b many : Nat) (S : Addr) (ts : List Addr) (ss : List (Nat × Nat × Bool)), vs = [.int (b : Nat), .int (many : Nat), .ref S] ∧ 2 ≤ b ∧ b ≤ 64 ∧ 1 ≤ many ∧ many ≤ 60 ∧ SqL K H S (ts.map V.ref) ∧ SightsAt H ts ss ∧ ss.length ≤ 100 ∧ (∀ s ∈ ss, s.2.1 < 2 ^ 250) ∧
  ∀ H' u, Same H H' → SeenAt H' u (seenR b many ss) → (∀ q c, H' u = some (.tup [.str "levels", .ref q, c]) → H q = none) → Q (.ref u) H'
theorem ok_seen {f : Addr} {fd : FuncData} (F : Fun K "levels_seen" "levels_seen" s_levels_seen f fd) (T : Tx K mg) (h1 : Has P w K mg base 3 "check_base" ["base"] [] spCheckBase) (h2 : Has P w K mg base 3 "check_many" ["many"] [] spCheckMany) (h3 : Has P w K mg base 4 "check_seen" ["seen"] [] (spCheckSeen K))
    (h4 : Has P w K mg base 3 "equation" ["base", "many", "sighting"] [] spEquation) (h5 : Has P w K mg base 1 "reduced" ["levels", "odd", "known"] [] spReduced) (h6 : Has P w K mg base 2 "least_and_count" ["many", "known"] [] spLeast) : FnOk P w K mg base CX0 5 f fd ["base", "many", "seen"] (spSeen K) := by
  obtain ⟨f_check_base, fd_check_base, ds_check_base, G_check_base, m_check_base, k_check_base, b_check_base, v_check_base⟩ := h1
  obtain ⟨f_check_many, fd_check_many, ds_check_many, G_check_many, m_check_many, k_check_many, b_check_many, v_check_many⟩ := h2
  obtain ⟨f_check_seen, fd_check_seen, ds_check_seen, G_check_seen, m_check_seen, k_check_seen, b_check_seen, v_check_seen⟩ := h3
  obtain ⟨f_equation, fd_equation, ds_equation, G_equation, m_equation, k_equation, b_equation, v_equation⟩ := h4
  obtain ⟨f_reduced, fd_reduced, ds_reduced, G_reduced, m_reduced, k_reduced, b_reduced, v_reduced⟩ := h5
  obtain ⟨f_least_and_count, fd_least_and_count, ds_least_and_count, G_least_and_count, m_least_and_count, k_least_and_count, b_least_and_count, v_least_and_count⟩ := h6
  refine F.ok sc_levels_seen (fun vs H Q E h => ?_) (fun cdv A outer s H vs Q E hr h => ?_)
  · obtain ⟨b, many, S, ts, ss, rfl, _⟩ := h
    rfl
  · obtain ⟨b, many, S, ts, ss, rfl, hb, hb64, hm1, hm60, hS, hss, h100, hbig, c⟩ := h
    have hu := hu_of hr
    refine ⟨_, (pss_cons (ps_expr (pe_call G_check_base (hr.mono (by decide)) (by rfl) m_check_base k_check_base b_check_base v_check_base pass0 (pa_cons (pv 0) pa_nil)))
      (pss_cons (ps_expr (pe_call G_check_many (hr.mono (by decide)) (by rfl) m_check_many k_check_many b_check_many v_check_many pass0 (pa_cons (pv 1) pa_nil)))
      (pss_cons (ps_expr (pe_call G_check_seen hr (by rfl) m_check_seen k_check_seen b_check_seen v_check_seen pass0 (pa_cons (pv 2) pa_nil)))
      (pss_cons (ps_set (i := 3) sc_levels_seen.nd rfl (.inl rfl) pe_dnewK)
      (pss_cons (ps_for PassesOwn.never rfl (pi_enum (by rfl) T.b_enumerate (pa_cons (pv 2) pa_nil)) (pg_tupK (K := K) (n := 2) rfl rfl (pgs_cons (pg_name (i := 4) sc_levels_seen.nd rfl (.inl rfl)) (pgs_cons (pg_name (i := 5) sc_levels_seen.nd rfl (.inl rfl)) pgs_nil)))
        (pss_cons (ps_asg (pe_call G_equation (hr.mono (by decide)) (by rfl) m_equation k_equation b_equation v_equation pass0 (pa_cons (pv 0) (pa_cons (pv 1) (pa_cons (pv 5) pa_nil)))) (pg_tupK (K := K) (n := 2) rfl rfl (pgs_cons (pg_name (i := 6) sc_levels_seen.nd rfl (.inl rfl)) (pgs_cons (pg_name (i := 7) sc_levels_seen.nd rfl (.inl rfl)) pgs_nil))))
        (pss_cons (ps_asg (pe_call G_reduced (hr.mono (by decide)) (by rfl) m_reduced k_reduced b_reduced v_reduced pass0 (pa_cons (pv 6) (pa_cons (pv 7) (pa_cons (pv 3) pa_nil)))) (pg_tupK (K := K) (n := 2) rfl rfl (pgs_cons (pg_name (i := 6) sc_levels_seen.nd rfl (.inl rfl)) (pgs_cons (pg_name (i := 7) sc_levels_seen.nd rfl (.inl rfl)) pgs_nil))))
        (pss_one (ps_if (pt_cmpR op_gt (pe_callB (lenK (K := K) rfl) (by rfl) T.b_len PySem.boot_len (pa_cons (pv 6) pa_nil)) pe_int (nomark _))
          (pss_one (ps_dput hu (pv 3) (pe_ix (ix_listK (K := K) rfl) (pv 6) (pe_un un_neg pe_int) (fun _ _ => rfl)) (pe_tup (pa_cons (pv 6) (pa_cons (pv 7) pa_nil))) rfl))
          (pss_one (ps_if (pt_val (pv 7))
            (pss_one (ps_ret (pe_tup (pa_cons pe_str (pa_cons (pe_op op_addN (pv 4) pe_int) pa_nil)))))
            pss_nil)))))))
      (pss_cons (ps_asg (pe_call G_least_and_count (hr.mono (by decide)) (by rfl) m_least_and_count k_least_and_count b_least_and_count v_least_and_count pass0 (pa_cons (pv 1) (pa_cons (pv 3) pa_nil))) (pg_tupK (K := K) (n := 2) rfl rfl (pgs_cons (pg_name (i := 8) sc_levels_seen.nd rfl (.inl rfl)) (pgs_cons (pg_name (i := 9) sc_levels_seen.nd rfl (.inl rfl)) pgs_nil))))
      (pss_one (ps_ret (pe_tup (pa_cons pe_str (pa_cons (pv 8) (pa_cons (pv 9) pa_nil)))))))))))), ?_⟩
    have hlen : (ts.map V.ref).length = ss.length := by rw [List.length_map]; exact hss.1
    have good : ∀ v ∈ ts.map V.ref, ∃ n d f, SightAt H v n d f := fun v hv => by
      obtain ⟨t, ht, rfl⟩ := List.mem_map.mp hv
      obtain ⟨j, hj, ej⟩ := List.getElem_of_mem ht
      have hj2 : j < ss.length := by rw [← hss.1]; exact hj
      have z := hss.2 j t ss[j] (by rw [List.getElem?_eq_getElem hj, ej]) (List.getElem?_eq_getElem hj2)
      exact ⟨_, _, _, t, rfl, z.1, z.2⟩
    refine ⟨_, rfl, b, rfl, by omega, by omega, ?_⟩
    refine ⟨_, rfl, many, rfl, hm1, hm60, ?_⟩
    refine ⟨_, rfl, S, _, rfl, hS, by omega, good, fun H0 s0 => ?_⟩
    refine fun D hD => ?_
    have sD := same_upd (o := .dK []) hD
    have eD := upd_same (H := H0) (a := D) (o := .dK [])
    have s01 := s0.trans sD
    have nD : H D = none := s0.free hD
    generalize upd H0 D (.dK []) = H1 at sD eD s01 ⊢
    obtain ⟨es, hes⟩ : ∃ es, es = ss.map (eqnOf b many) := ⟨_, rfl⟩
    have esl : es.length = ss.length := by rw [hes, List.length_map]
    obtain ⟨R, hR⟩ : ∃ R, R = runE es 0 fun _ => none := ⟨_, rfl⟩
    have hR2 : R = runE (ss.map (eqnOf b many)) 0 fun _ => none := by rw [hR, hes]
    refine ⟨_, rfl, S, _, rfl, s01.seq hS, for_enum (K := K) (a := S) (xs := ts.map V.ref) (fun i σ H' => ∃ (kvs : List (Key × V)) (kn : Nat → Option Eqn) (y4 y5 y6 y7 y8 y9 : Option V), σ = [some (.int (b : Nat)), some (.int (many : Nat)), some (.ref S), some (.ref D), y4, y5, y6, y7, y8, y9] ∧ Same H H' ∧ H' D = some (.dK kvs) ∧ KnAt H' kvs kn ∧ KnOk many kn ∧ kvs.length ≤ i ∧
        runE (es.drop i) i kn = R)
      ⟨[], fun _ => none, none, none, none, none, none, none, rfl, s01, eD, fun l => .inl ⟨rfl, rfl⟩, fun l g h => (by cases h), Nat.le_refl _, hR.symm⟩ (fun i σ H' ⟨_, _, _, _, _, _, _, _, _, sm, _⟩ => sm.seq hS) ?_ ?_⟩
    · rintro i x U σ H' hx ⟨kvs, kn, y4, y5, y6, y7, y8, y9, rfl, sm, hDk, hKn, hOk, hkl, hrun⟩ hU
      obtain ⟨t, ht, rfl⟩ : ∃ t, ts[i]? = some t ∧ x = V.ref t := by
        rw [List.getElem?_map] at hx
        cases e : ts[i]? with
        | none => rw [e] at hx; cases hx
        | some t => rw [e] at hx; exact ⟨t, rfl, (Option.some.inj hx).symm⟩
      have hit := (List.getElem?_eq_some_iff.mp ht).1
      have his : i < ss.length := by rw [← hss.1]; exact hit
      obtain ⟨s, hs⟩ : ∃ s, ss[i]? = some s := ⟨_, List.getElem?_eq_getElem his⟩
      obtain ⟨n, d, fr⟩ := s
      have ⟨hst, hnd⟩ := hss.2 i t _ ht hs
      have hd := hbig _ (List.mem_of_getElem? hs)
      have sU := same_upd (o := .tup [.int (i : Nat), .ref t]) hU
      have eU := upd_same (H := H') (a := U) (o := .tup [.int (i : Nat), .ref t])
      have sm := sm.trans sU
      have hDk := sU _ _ hDk
      have hKn := hKn.same sU
      generalize upd H' U (.tup [.int (i : Nat), .ref t]) = H2 at sU eU sm hDk hKn ⊢
      refine ⟨U, _, rfl, .inl (.inl eU), rfl, _, _, rfl, _, _, rfl, rfl, ?_⟩
      refine ⟨_, rfl, _, rfl, _, rfl, b, many, n, d, t, fr, rfl, sm _ _ hst, hb, hb64, hm1, hm60, hnd, hd, fun k hk H3 u q s3 hu0 hq0 he => ?_⟩
      refine ⟨u, _, rfl, .inl (.inl he.1), rfl, _, _, rfl, _, _, rfl, rfl, ?_⟩
      obtain ⟨e, hee⟩ : ∃ e, e = eqnOf b many (n, d, fr) := ⟨_, rfl⟩
      have he' : EqAt H3 u q e := by
        rw [hee, eqnOf_eq (s := (n, d, fr)) hk]
        exact he
      have ⟨ea, el⟩ := eqnOf_asc (b := b) (s := (n, d, fr)) hm1
      rw [← hee] at ea el
      have hdrop : es.drop i = e :: es.drop (i + 1) := by
        have hei : es[i]? = some e := by rw [hes, List.getElem?_map, hs, hee]; rfl
        rw [List.drop_eq_getElem_cons (List.getElem?_eq_some_iff.mp hei).1, (List.getElem?_eq_some_iff.mp hei).2]
      rw [hdrop] at hrun
      have hefr : e.2 = fr := by
        rw [hee, eqnOf_eq (s := (n, d, fr)) hk]
      refine ⟨_, rfl, _, rfl, _, rfl, q, D, e, many, kvs, kn, by rw [hefr]; rfl, he'.2, s3 _ _ hDk, hKn.same s3, hOk, hm60, ea, el, fun H4 u2 q2 s4 hu2 he2 => ?_⟩
      have ⟨ra, rl, rk⟩ := red_ok hm60 hOk 64 e ea el (fun x hx => by have := el x hx; omega)
      obtain ⟨r, hr'⟩ : ∃ r, r = red kn 64 e := ⟨_, rfl⟩
      unfold runE at hrun
      rw [← hr'] at he2 ra rl rk hrun
      refine ⟨u2, _, rfl, .inl (.inl he2.1), rfl, _, _, rfl, _, _, rfl, rfl, ?_⟩
      have sm4 := (sm.trans s3).trans s4
      have hDk4 := s4 _ _ (s3 _ _ hDk)
      have hKn4 := (hKn.same s3).same s4
      refine ⟨_, rfl, q2, _, rfl, .inl (SqL.of he2.2), _, _, rfl, rfl, ?_⟩
      cases hlast : r.1.getLast? with
      | some l =>
        rw [hlast] at hrun
        have hla := ra.last hlast
        have hpos : 0 < r.1.length := List.length_pos_of_mem hla.1
        refine ⟨true, dT (by rw [List.length_map]; omega), iteT ?_⟩
        refine ⟨_, rfl, _, rfl, by simp [sizeLine_eq], fun u3 hu3 => ?_⟩
        have s5 := same_upd (o := .tup [.ref q2, .bl r.2]) hu3
        have e5 := upd_same (H := H4) (a := u3) (o := .tup [.ref q2, .bl r.2])
        have sm5 := sm4.trans s5
        have hDk5 := s5 _ _ hDk4
        have hKn5 := hKn4.same s5
        have he5 : EqAt (upd H4 u3 (.tup [.ref q2, .bl r.2])) u3 q2 r := ⟨e5, s5 _ _ he2.2⟩
        generalize upd H4 u3 (.tup [.ref q2, .bl r.2]) = H5 at s5 e5 sm5 hDk5 hKn5 he5 ⊢
        have keep : ∀ c o, c ≠ D → H5 c = some o → (upd H5 D (.dK (putK kvs (.inl ((l : Nat) : Int)) (.ref u3)))) c = some o := fun c o n e => by
          rw [upd_ne n]
          exact e
        refine ⟨_, rfl, _, rfl, 1, rfl, q2, _, -1, _, rfl, rfl, SqL.of he5.2, last_map hlast, D, _, rfl, DPut.k (k := Sum.inl ((l : Nat) : Int)) hDk5 (Nat.lt_of_le_of_lt hkl (Nat.lt_of_lt_of_le his (by rw [sizeLine_eq]; omega))), ?_⟩
        refine ⟨_, fun j => if j = l then some r else kn j, _, _, _, _, y8, y9, rfl, fun c o e => ?_, upd_same, hKn5.put hDk5 keep ⟨keep _ _ (ne_of he5.1 hDk5 (fun z => by cases z)) he5.1, keep _ _ (ne_of he5.2 hDk5 (fun z => by cases z)) he5.2⟩, fun j g hg => ?_, ?_, hrun⟩
        · rw [upd_ne (ne_of_none e nD)]
          exact sm5 _ _ e
        · by_cases c : j = l
          · dsimp only at hg
            rw [if_pos c] at hg
            cases hg
            rw [c]
            exact ⟨ra, hlast, rl l hla.1⟩
          · dsimp only at hg
            rw [if_neg c] at hg
            exact hOk j g hg
        · have := put_len kvs (.inl ((l : Nat) : Int)) (.ref u3)
          omega
      | none =>
        rw [hlast] at hrun
        have e0 : r.1 = [] := List.getLast?_eq_none_iff.mp hlast
        refine ⟨false, dF (by rw [e0]; decide), iteF ?_⟩
        cases h2 : r.2 with
        | true =>
          rw [h2, if_pos rfl] at hrun
          refine ⟨_, rfl, true, rfl, iteT ⟨_, rfl, i, 1, rfl, rfl, trivial, by simp [sizeLine_eq], fun u3 hu3 => ?_⟩⟩
          refine c _ u3 (sm4.trans (same_upd hu3)) ?_ ?_
          · rw [seenR_inl (hR2.symm.trans hrun.symm)]
            exact upd_same
          · intro q z hz
            rw [upd_same] at hz
            cases hz
        | false =>
          rw [h2, if_neg Bool.false_ne_true] at hrun
          refine ⟨_, rfl, false, rfl, iteF ?_⟩
          exact ⟨kvs, kn, _, _, _, _, y8, y9, rfl, sm4, hDk4, hKn4, hOk, Nat.le_succ_of_le hkl, hrun⟩
    · rintro σ H' ⟨kvs, kn, y4, y5, y6, y7, y8, y9, rfl, sm, hDk, hKn, hOk, hkl, hrun⟩
      rw [hlen, ← esl, List.drop_length] at hrun
      refine ⟨_, rfl, _, rfl, D, many, kvs, kn, rfl, hDk, hKn, hOk, hm60, fun H2 u q s2 eu hq0 eq => ?_⟩
      refine ⟨u, _, rfl, .inl (.inl eu), rfl, _, _, rfl, _, _, rfl, rfl, ?_⟩
      refine ⟨_, rfl, _, rfl, by simp [sizeLine_eq], fun u3 hu3 => ?_⟩
      have s3 := same_upd (o := .tup [.str "levels", .ref q, .int ((leastW kn many).2 : Nat)]) hu3
      refine c _ u3 ((sm.trans s2).trans s3) ?_ ?_
      · rw [seenR_inr (hR2.symm.trans hrun.symm)]
        exact ⟨q, upd_same, s3 _ _ eq⟩
      · intro q1 z hz
        rw [upd_same] at hz
        cases hz
        exact sm.free hq0
end
/-! ### the law's drawing of numbers -/
def SrcAt (H : Hp) (p : Addr) : Prop := ∃ a b c : Int, H p = some (.lst [.int a, .int b, .int c])
/-- all but the source p stands as it was; p is a source again -/
structure Stp (p : Addr) (H H' : Hp) : Prop where
  keep : ∀ q o, q ≠ p → H q = some o → H' q = some o
  src : SrcAt H' p
theorem Stp.refl {p : Addr} {H : Hp} (h : SrcAt H p) : Stp p H H := ⟨fun _ _ _ e => e, h⟩
theorem Stp.trans {p : Addr} {H H1 H2 : Hp} (a : Stp p H H1) (b : Stp p H1 H2) : Stp p H H2 := ⟨fun q o n e => b.keep q o n (a.keep q o n e), b.src⟩
theorem Stp.same {p : Addr} {H H1 H2 : Hp} (a : Stp p H H1) (b : Same H1 H2) : Stp p H H2 := by
  obtain ⟨x, y, z, e⟩ := a.src
  exact ⟨fun q o n e => b q o (a.keep q o n e), ⟨x, y, z, b _ _ e⟩⟩
theorem SrcAt.same {p : Addr} {H H' : Hp} (h : SrcAt H p) (s : Same H H') : SrcAt H' p := by
  obtain ⟨a, b, c, e⟩ := h
  exact ⟨a, b, c, s _ _ e⟩
theorem Stp.free {p q : Addr} {H H' : Hp} (a : Stp p H H') (hq : H' q = none) : H q = none := by
  cases e : H q with
  | none => rfl
  | some o =>
    by_cases z : q = p
    · obtain ⟨x, y, u, w⟩ := a.src
      rw [z, w] at hq
      cases hq
    · rw [a.keep q o z e] at hq
      cases hq
theorem SrcAt.ne {H : Hp} {p l : Addr} (h : SrcAt H p) (hl : H l = none) : l ≠ p := fun e => by
  obtain ⟨x, y, z, w⟩ := h
  rw [e, w] at hl
  cases hl
theorem SrcAt.stp_same {p : Addr} {H H' : Hp} (h : SrcAt H p) (s : Same H H') : Stp p H H' := (Stp.refl h).same s
theorem Stp.seqL {K : PySem.W.Frag} {p a : Addr} {xs : List V} {H H' : Hp} (s : Stp p H H') (n : a ≠ p) (h : SqL K H a xs) : SqL K H' a xs := by
  rcases h with (h | ⟨o, h⟩) | h
  · exact .inl (.inl (s.keep _ _ n h))
  · exact .inl (.inr ⟨o, s.keep _ _ n h⟩)
  · exact .inr h
section
variable {P : Program} {w : World} {K : PySem.W.Frag} {mg : Str → Option Value} {base : Heap}
def spCellAt (K : PySem.W.Frag) : Sp := fun vs H Q _ => ∃ (a : Addr) (ns : List Int) (k : Nat), vs = [.ref a, .int (k : Nat)] ∧ SqL K H a (ns.map V.int) ∧ ∀ v : Int, Q (.int v) H
theorem ok_cell_at {f : Addr} {fd : FuncData} (F : Fun K "_law_cell_at" "_law_cell_at" s__law_cell_at f fd) (T : Tx K mg) : FnOk P w K mg base CX0 1 f fd ["_law_script", "_law_k"] (spCellAt K) := by
  refine F.ok sc__law_cell_at (fun vs H Q E h => ?_) (fun cdv A outer s H vs Q E hr h => ?_)
  · obtain ⟨a, ns, k, rfl, _⟩ := h
    rfl
  · obtain ⟨a, ns, k, rfl, hS, q⟩ := h
    refine ⟨_, (pss_cons (ps_if (pt_cmpR op_lt (pv 1) (pe_callB (lenK (K := K) rfl) (by rfl) T.b_len PySem.boot_len (pa_cons (pv 0) pa_nil)) (nomark _))
        (pss_one (ps_ret (pe_ix (ix_listK (K := K) rfl) (pv 0) (pv 1) (fun _ _ => rfl))))
        pss_nil)
      (pss_one (ps_ret pe_int))), ?_⟩
    refine ⟨_, rfl, .ref a, rfl, a, ns.map V.int, rfl, .inl hS, _, _, rfl, rfl, _, rfl, ite2 (fun e => ?_) (fun e => ?_)⟩
    · have hk : k < ns.length := by
        have z := of_decide_eq_true e
        rw [List.length_map] at z
        omega
      have g : (ns.map V.int)[k]? = some (.int ns[k]) := by
        rw [List.getElem?_map, List.getElem?_eq_getElem hk]
        rfl
      exact ⟨.ref a, rfl, _, rfl, a, _, _, _, rfl, rfl, hS, atI_nat g, q _⟩
    · exact q 0
def spMixed : Sp := fun vs H Q _ => ∃ c k : Int, vs = [.int c, .int k] ∧ ∀ r : Int, 0 ≤ r → r < 2147483563 → Q (.int r) H
theorem ok_mixed {f : Addr} {fd : FuncData} (F : Fun K "_law_mixed" "_law_mixed" s__law_mixed f fd)  : FnOk P w K mg base CX0 1 f fd ["_law_cell", "_law_k"] spMixed := by
  refine F.ok sc__law_mixed (fun vs H Q E h => ?_) (fun cdv A outer s H vs Q E hr h => ?_)
  · obtain ⟨c, k, rfl, _⟩ := h
    rfl
  · obtain ⟨c, k, rfl, q⟩ := h
    refine ⟨_, (pss_cons (ps_set (i := 2) sc__law_mixed.nd rfl (.inl rfl) (pe_op op_add (pe_op op_mod (pv 0) pe_int) (pe_op op_mulA (pe_op op_fdivW (pv 0) pe_int) pe_int)))
      (pss_cons (ps_set (i := 2) sc__law_mixed.nd rfl (.inl rfl) (pe_op op_mod (pe_op op_mulA (pe_op op_add (pe_op op_add (pv 2) (pe_op op_mulA pe_int (pv 1))) pe_int) pe_int) pe_int))
      (pss_cons (ps_set (i := 2) sc__law_mixed.nd rfl (.inl rfl) (pe_op op_mod (pe_op op_mulA (pv 2) (pe_op op_add (pe_op op_add (pe_op op_fdivW (pv 2) pe_int) pe_int) (pv 1))) pe_int))
      (pss_one (ps_ret (pe_op op_mod (pe_op op_mulA (pv 2) (pe_op op_add (pe_op op_fdivW (pv 2) pe_int) pe_int)) pe_int)))))), ?_⟩
    refine ⟨_, rfl, c, 2147483629, rfl, rfl, (by decide : (0 : Int) < 2147483629), _, rfl, c, 2147483629, rfl, rfl, div_s (by decide) (by decide), _, 30011, rfl, rfl, mul_r (by decide) (by decide), _, _, rfl, rfl, ?_⟩
    refine ⟨_, rfl, _, rfl, 69621, k, rfl, rfl, mul_l (by decide) (by decide), _, _, rfl, rfl, _, 1, rfl, rfl, _, 48271, rfl, rfl, mul_r (by decide) (by decide), _, 2147483629, rfl, rfl, (by decide : (0 : Int) < 2147483629), ?_⟩
    generalize hl : (c % 2147483629 + c / 2147483629 * 30011 + 69621 * k + 1) * 48271 = l0
    have b1 : 0 ≤ l0 % 2147483629 := Int.emod_nonneg _ (by decide)
    have b2 : l0 % 2147483629 < 2147483629 := Int.emod_lt_of_pos _ (by decide)
    refine ⟨_, rfl, _, rfl, l0 % 2147483629, 907, rfl, rfl, div_s (by decide) (by decide), _, 16831, rfl, rfl, _, rfl, _, k, rfl, rfl, l0 % 2147483629, _, rfl, rfl, mul_l (by omega) (by omega), _, 2147483587, rfl, rfl, (by decide : (0 : Int) < 2147483587), ?_⟩
    generalize (l0 % 2147483629) * (l0 % 2147483629 / 907 + 16831 + k) = l1
    have b3 : 0 ≤ l1 % 2147483587 := Int.emod_nonneg _ (by decide)
    have b4 : l1 % 2147483587 < 2147483587 := Int.emod_lt_of_pos _ (by decide)
    refine ⟨_, rfl, _, rfl, _, 1201, rfl, rfl, div_s (by decide) (by decide), _, 30011, rfl, rfl, _, _, rfl, rfl, mul_l (i := l1 % 2147483587) (by omega) (by omega), _, 2147483563, rfl, rfl, (by decide : (0 : Int) < 2147483563), ?_⟩
    exact q _ (Int.emod_nonneg _ (by decide)) (Int.emod_lt_of_pos _ (by decide))
def spSource (K : PySem.W.Frag) : Sp := fun vs H Q _ => ∃ (a : Addr) (ns : List Int) (k : Nat), vs = [.ref a, .int (k : Nat)] ∧ SqL K H a (ns.map V.int) ∧ ∀ H' p, Same H H' → H p = none → SrcAt H' p → Q (.ref p) H'
theorem ok_source {f : Addr} {fd : FuncData} (F : Fun K "_law_source" "_law_source" s__law_source f fd) (T : Tx K mg) (h1 : Has P w K mg base 1 "_law_cell_at" ["_law_script", "_law_k"] [] (spCellAt K))
    (h2 : Has P w K mg base 1 "_law_mixed" ["_law_cell", "_law_k"] [] spMixed) : FnOk P w K mg base CX0 2 f fd ["_law_script", "_law_k"] (spSource K) := by
  obtain ⟨f__law_cell_at, fd__law_cell_at, ds__law_cell_at, G__law_cell_at, m__law_cell_at, k__law_cell_at, b__law_cell_at, v__law_cell_at⟩ := h1
  obtain ⟨f__law_mixed, fd__law_mixed, ds__law_mixed, G__law_mixed, m__law_mixed, k__law_mixed, b__law_mixed, v__law_mixed⟩ := h2
  refine F.ok sc__law_source (fun vs H Q E h => ?_) (fun cdv A outer s H vs Q E hr h => ?_)
  · obtain ⟨a, ns, k, rfl, _⟩ := h
    rfl
  · obtain ⟨a, ns, k, rfl, hS, q⟩ := h
    refine ⟨_, (pss_cons (ps_if (pt_cmpR op_lt (pv 1) (pe_callB (lenK (K := K) rfl) (by rfl) T.b_len PySem.boot_len (pa_cons (pv 0) pa_nil)) (nomark _))
        (pss_one (ps_ret (pe_lst (pa_cons (pe_ix (ix_listK (K := K) rfl) (pv 0) (pv 1) (fun _ _ => rfl)) (pa_cons (pe_ix (ix_listK (K := K) rfl) (pv 0) (pv 1) (fun _ _ => rfl)) (pa_cons pe_int pa_nil))))))
        pss_nil)
      (pss_cons (ps_set (i := 2) sc__law_source.nd rfl (.inl rfl) (pe_call G__law_mixed hr (by rfl) m__law_mixed k__law_mixed b__law_mixed v__law_mixed pass0 (pa_cons (pe_call G__law_cell_at hr (by rfl) m__law_cell_at k__law_cell_at b__law_cell_at v__law_cell_at pass0 (pa_cons (pv 0) (pa_cons pe_int pa_nil))) (pa_cons (pe_op op_add pe_int (pv 1)) pa_nil))))
      (pss_one (ps_ret (pe_lst (pa_cons (pv 2) (pa_cons (pv 2) (pa_cons pe_int pa_nil)))))))), ?_⟩
    refine ⟨_, rfl, .ref a, rfl, a, ns.map V.int, rfl, .inl hS, _, _, rfl, rfl, _, rfl, ite2 (fun e => ?_) (fun e => ?_)⟩
    · have hk : k < ns.length := by
        have z := of_decide_eq_true e
        rw [List.length_map] at z
        omega
      have g : (ns.map V.int)[k]? = some (.int ns[k]) := by
        rw [List.getElem?_map, List.getElem?_eq_getElem hk]
        rfl
      refine ⟨.ref a, rfl, _, rfl, a, _, _, _, rfl, rfl, hS, atI_nat g, .ref a, rfl, _, rfl, a, _, _, _, rfl, rfl, hS, atI_nat g, by simp [sizeLine_eq], fun p hp => ?_⟩
      exact q _ p (same_upd hp) hp ⟨_, _, _, upd_same⟩
    · refine ⟨.ref a, rfl, a, ns, 0, rfl, hS, fun v => ⟨_, rfl, 1000, _, rfl, rfl, v, _, rfl, fun r _ _ => ?_⟩⟩
      refine ⟨_, rfl, _, rfl, by simp [sizeLine_eq], fun p hp => ?_⟩
      exact q _ p (same_upd hp) hp ⟨_, _, _, upd_same⟩
def spNext : Sp := fun vs H Q _ => ∃ (p : Addr) (m : Int), vs = [.ref p, .int m] ∧ 0 < m ∧ m < 2 ^ 300 ∧ SrcAt H p ∧ ∀ (r : Nat) H', (r : Int) < m → Stp p H H' → Q (.int (r : Nat)) H'
theorem ok_next {f : Addr} {fd : FuncData} (F : Fun K "_law_next" "_law_next" s__law_next f fd)  (h2 : Has P w K mg base 1 "_law_mixed" ["_law_cell", "_law_k"] [] spMixed) : FnOk P w K mg base CX0 2 f fd ["_law_source_here", "_law_many"] spNext := by
  obtain ⟨f__law_mixed, fd__law_mixed, ds__law_mixed, G__law_mixed, m__law_mixed, k__law_mixed, b__law_mixed, v__law_mixed⟩ := h2
  refine F.ok sc__law_next (fun vs H Q E h => ?_) (fun cdv A outer s H vs Q E hr h => ?_)
  · obtain ⟨p, m, rfl, _⟩ := h
    rfl
  · obtain ⟨p, m, rfl, hm, hm2, ⟨a, b, c, hp⟩, q⟩ := h
    have fin : ∀ (x : Int) (H' : Hp), Stp p H H' → Q (.int (x % m)) H' := fun x H' s => by
      have h0 : 0 ≤ x % m := Int.emod_nonneg _ (by omega)
      have h1 : x % m < m := Int.emod_lt_of_pos _ hm
      have e : ((x % m).toNat : Int) = x % m := Int.toNat_of_nonneg h0
      have z := q (x % m).toNat H' (by omega) s
      rw [e] at z
      exact z
    have st : ∀ x y z : Int, Stp p H (upd H p (.lst [.int x, .int y, .int z])) := fun x y z => ⟨fun q o n e => by rw [upd_ne n]; exact e, ⟨x, y, z, upd_same⟩⟩
    refine ⟨_, (pss_cons (ps_if (pt_cmpR op_ge (pe_ix (ix_listK (K := K) rfl) (pv 0) pe_int (fun _ _ => rfl)) (pe_op op_pow pe_int pe_int) (nomark _))
        (pss_cons (ps_set (i := 2) sc__law_next.nd rfl (.inl rfl) (pe_op op_mod (pe_ix (ix_listK (K := K) rfl) (pv 0) pe_int (fun _ _ => rfl)) (pv 1)))
        (pss_cons (ps_asg (pe_op op_fdivW (pe_ix (ix_listK (K := K) rfl) (pv 0) pe_int (fun _ _ => rfl)) (pv 1)) (pg_sub (pv 0) pe_int set_list))
        (pss_one (ps_ret (pv 2)))))
        pss_nil)
      (pss_cons (ps_asg (pe_op op_add (pe_ix (ix_listK (K := K) rfl) (pv 0) pe_int (fun _ _ => rfl)) pe_int) (pg_sub (pv 0) pe_int set_list))
      (pss_one (ps_ret (pe_op op_mod (pe_call G__law_mixed hr (by rfl) m__law_mixed k__law_mixed b__law_mixed v__law_mixed pass0 (pa_cons (pe_ix (ix_listK (K := K) rfl) (pv 0) pe_int (fun _ _ => rfl)) (pa_cons (pe_ix (ix_listK (K := K) rfl) (pv 0) pe_int (fun _ _ => rfl)) pa_nil))) (pv 1)))))), ?_⟩
    refine ⟨.ref p, rfl, p, _, 0, .int a, rfl, rfl, SqL.of hp, atI_nat (j := 0) rfl, 10, 18, rfl, rfl, ⟨by decide, by decide, by decide⟩, a, _, rfl, rfl, _, rfl, ite2 (fun _ => ?_) (fun _ => ?_)⟩
    · refine ⟨.ref p, rfl, p, _, 0, .int a, rfl, rfl, SqL.of hp, atI_nat (j := 0) rfl, .int m, rfl, a, m, rfl, rfl, hm, ?_⟩
      refine ⟨.ref p, rfl, p, _, 0, .int a, rfl, rfl, SqL.of hp, atI_nat (j := 0) rfl, .int m, rfl, a, m, rfl, rfl, div_s hm hm2, ?_⟩
      refine ⟨.ref p, rfl, p, _, 0, 0, rfl, rfl, hp, rfl, ?_⟩
      exact ⟨_, rfl, fin a _ (st _ _ _)⟩
    · refine ⟨.ref p, rfl, p, _, 2, .int c, rfl, rfl, SqL.of hp, atI_nat (j := 2) rfl, c, 1, rfl, rfl, ?_⟩
      refine ⟨.ref p, rfl, p, _, 2, 2, rfl, rfl, hp, rfl, ?_⟩
      have h2 : (upd H p (.lst [.int a, .int b, .int (c + 1)])) p = some (.lst [.int a, .int b, .int (c + 1)]) := upd_same
      refine ⟨.ref p, rfl, p, _, 1, .int b, rfl, rfl, SqL.of h2, atI_nat (j := 1) rfl, .ref p, rfl, p, _, 2, .int (c + 1), rfl, rfl, SqL.of h2, atI_nat (j := 2) rfl, b, c + 1, rfl, fun r _ _ => ?_⟩
      exact ⟨.int m, rfl, r, m, rfl, rfl, hm, fin r _ (st _ _ _)⟩
end
/-! ### the law's bases -/
section
variable {P : Program} {w : World} {K : PySem.W.Frag} {mg : Str → Option Value} {base : Heap}
def spBase : Sp := fun vs H Q _ => ∃ (p : Addr), vs = [.ref p] ∧ SrcAt H p ∧ ∀ (b : Nat) H', 2 ≤ b → b ≤ 64 → Stp p H H' → Q (.int (b : Nat)) H'
theorem ok_base {f : Addr} {fd : FuncData} (F : Fun K "_law_base" "_law_base" s__law_base f fd) (h1 : Has P w K mg base 2 "_law_next" ["_law_source_here", "_law_many"] [] spNext) : FnOk P w K mg base CX0 3 f fd ["_law_source_here"] spBase := by
  obtain ⟨f__law_next, fd__law_next, ds__law_next, G__law_next, m__law_next, k__law_next, b__law_next, v__law_next⟩ := h1
  refine F.ok sc__law_base (fun vs H Q E h => ?_) (fun cdv A outer s H vs Q E hr h => ?_)
  · obtain ⟨p, rfl, _⟩ := h
    rfl
  · obtain ⟨p, rfl, hs, q⟩ := h
    refine ⟨_, (pss_one (ps_ret (pe_ix (ix_listK (K := K) rfl) (pe_lst (pa_cons pe_int (pa_cons pe_int (pa_cons pe_int (pa_cons pe_int (pa_cons pe_int (pa_cons pe_int (pa_cons pe_int (pa_cons pe_int (pa_cons pe_int pa_nil)))))))))) (pe_call G__law_next hr (by rfl) m__law_next k__law_next b__law_next v__law_next pass0 (pa_cons (pv 0) (pa_cons pe_int pa_nil))) (fun _ _ => rfl)))), ?_⟩
    refine ⟨by simp [sizeLine_eq], fun l hl => ?_⟩
    have s1 := same_upd (o := .lst [.int 2, .int 3, .int 4, .int 5, .int 7, .int 10, .int 16, .int 63, .int 64]) hl
    have nlp : l ≠ p := fun e => by
      obtain ⟨x, y, z, h⟩ := hs
      rw [e, h] at hl
      cases hl
    refine ⟨_, rfl, p, 9, rfl, by decide, by decide, hs.same s1, fun r H' hr9 st => ?_⟩
    have eL := st.keep _ _ nlp upd_same
    have hst : Stp p H H' := (hs.stp_same s1).trans st
    have hr : r < 9 := by omega
    have all : ∀ j : Nat, j < 9 → ∃ b : Nat, ([.int 2, .int 3, .int 4, .int 5, .int 7, .int 10, .int 16, .int 63, .int 64] : List V)[j]? = some (.int (b : Nat)) ∧ 2 ≤ b ∧ b ≤ 64 := by
      intro j hj
      match j, hj with
      | 0, _ => exact ⟨2, rfl, by decide, by decide⟩
      | 1, _ => exact ⟨3, rfl, by decide, by decide⟩
      | 2, _ => exact ⟨4, rfl, by decide, by decide⟩
      | 3, _ => exact ⟨5, rfl, by decide, by decide⟩
      | 4, _ => exact ⟨7, rfl, by decide, by decide⟩
      | 5, _ => exact ⟨10, rfl, by decide, by decide⟩
      | 6, _ => exact ⟨16, rfl, by decide, by decide⟩
      | 7, _ => exact ⟨63, rfl, by decide, by decide⟩
      | 8, _ => exact ⟨64, rfl, by decide, by decide⟩
      | j + 9, h => omega
    obtain ⟨b, eb, b2, b64⟩ := all r hr
    exact ⟨l, _, r, .int (b : Nat), rfl, rfl, SqL.of eL, atI_nat eb, q b H' b2 b64 hst⟩
end
/-! ### the law's ticks -/
theorem emod_le_self {a m : Int} (h : 0 ≤ a) (hm : 0 < m) : a % m ≤ a := by
  have e := Int.emod_add_mul_ediv a m
  have z : 0 ≤ m * (a / m) := Int.mul_nonneg (Int.le_of_lt hm) (Int.ediv_nonneg h (Int.le_of_lt hm))
  omega
theorem pow64_le {b j : Nat} (h : b ≤ 64) (hj : j ≤ 30) : b ^ j < 2 ^ 181 := by
  have h1 : b ^ j ≤ 64 ^ j := Nat.pow_le_pow_left h j
  have h2 : (64 : Nat) ^ j ≤ 64 ^ 30 := Nat.pow_le_pow_right (by decide) hj
  have h3 : (64 : Nat) ^ 30 < 2 ^ 181 := by decide
  omega
section
variable {P : Program} {w : World} {K : PySem.W.Frag} {mg : Str → Option Value} {base : Heap}
/-- a pick of a list of two, by a number less than 2 -/
theorem pick2 {x y : V} {r : Nat} (h : r < 2) : ([x, y] : List V)[r]? = some (if r = 0 then x else y) := by
  match r, h with
  | 0, _ => rfl
  | 1, _ => rfl
  | r + 2, h => omega
def spTick : Sp := fun vs H Q _ => ∃ (p : Addr) (b : Nat), vs = [.ref p, .int (b : Nat)] ∧ 2 ≤ b ∧ b ≤ 64 ∧ SrcAt H p ∧ ∀ (t : Nat) H', t < 2 ^ 190 → Stp p H H' → Q (.int (t : Nat)) H'
theorem ok_tick {f : Addr} {fd : FuncData} (F : Fun K "_law_tick" "_law_tick" s__law_tick f fd) (T : Tx K mg) (h1 : Has P w K mg base 2 "_law_next" ["_law_source_here", "_law_many"] [] spNext) : FnOk P w K mg base CX0 3 f fd ["_law_source_here", "_law_base_here"] spTick := by
  obtain ⟨f__law_next, fd__law_next, ds__law_next, G__law_next, m__law_next, k__law_next, b__law_next, v__law_next⟩ := h1
  refine F.ok sc__law_tick (fun vs H Q E h => ?_) (fun cdv A outer s H vs Q E hr h => ?_)
  · obtain ⟨p, b, rfl, _⟩ := h
    rfl
  · obtain ⟨p, b, rfl, hb2, hb64, hs, q⟩ := h
    have two : ∀ {H : Hp} {l : Addr} {o : HO}, SrcAt H p → H l = none → Stp p H (upd H l o) ∧ l ≠ p := fun {H l o} hs hl =>
      ⟨hs.stp_same (same_upd hl), fun e => by
        obtain ⟨x, y, z, h⟩ := hs
        rw [e, h] at hl
        cases hl⟩
    refine ⟨_, (pss_cons (ps_set (i := 2) sc__law_tick.nd rfl (.inl rfl) (pe_call G__law_next hr (by rfl) m__law_next k__law_next b__law_next v__law_next pass0 (pa_cons (pv 0) (pa_cons pe_int pa_nil))))
      (pss_cons (ps_if (pt_cmpR op_lt (pv 2) pe_int (nomark _))
        (pss_one (ps_ret (pe_call G__law_next hr (by rfl) m__law_next k__law_next b__law_next v__law_next pass0 (pa_cons (pv 0) (pa_cons (pe_ix (ix_listK (K := K) rfl) (pe_lst (pa_cons pe_int (pa_cons pe_int pa_nil))) (pv 2) (fun _ _ => rfl)) pa_nil)))))
        pss_nil)
      (pss_cons (ps_set (i := 3) sc__law_tick.nd rfl (.inl rfl) pe_int)
      (pss_cons (ps_for PassesOwn.never rfl (pi_range1 (by rfl) T.b_range (pa_cons (pe_call G__law_next hr (by rfl) m__law_next k__law_next b__law_next v__law_next pass0 (pa_cons (pv 0) (pa_cons (pe_ix (ix_listK (K := K) rfl) (pe_lst (pa_cons pe_int (pa_cons pe_int pa_nil))) (pe_call G__law_next hr (by rfl) m__law_next k__law_next b__law_next v__law_next pass0 (pa_cons (pv 0) (pa_cons pe_int pa_nil))) (fun _ _ => rfl)) pa_nil))) pa_nil)) (pg_name (i := 4) sc__law_tick.nd rfl (.inl rfl))
        (pss_one (ps_set (i := 3) sc__law_tick.nd rfl (.inl rfl) (pe_op op_mulA (pv 3) (pv 1)))))
      (pss_cons (ps_set (i := 3) sc__law_tick.nd rfl (.inl rfl) (pe_op op_mod (pv 3) (pe_op op_pow pe_int pe_int)))
      (pss_cons (ps_if (pt_cmpR op_eq (pv 2) pe_int (nomark _))
        (pss_one (ps_ret (pe_callB (call_max2 rfl) (by rfl) T.b_max (by decide +kernel) (pa_cons pe_int (pa_cons (pe_op op_sub (pe_op op_add (pv 3) (pe_call G__law_next hr (by rfl) m__law_next k__law_next b__law_next v__law_next pass0 (pa_cons (pv 0) (pa_cons pe_int pa_nil)))) pe_int) pa_nil)))))
        pss_nil)
      (pss_cons (ps_if (pt_cmpR op_eq (pv 2) pe_int (nomark _))
        (pss_one (ps_ret (pe_op op_add (pe_op op_mulA (pv 3) (pe_op op_add pe_int (pe_call G__law_next hr (by rfl) m__law_next k__law_next b__law_next v__law_next pass0 (pa_cons (pv 0) (pa_cons (pv 1) pa_nil))))) (pe_call G__law_next hr (by rfl) m__law_next k__law_next b__law_next v__law_next pass0 (pa_cons (pv 0) (pa_cons (pv 1) pa_nil))))))
        pss_nil)
      (pss_one (ps_ret (pe_op op_add (pe_op op_mulA (pe_call G__law_next hr (by rfl) m__law_next k__law_next b__law_next v__law_next pass0 (pa_cons (pv 0) (pa_cons (pe_op op_pow pe_int pe_int) pa_nil))) (pe_op op_pow pe_int pe_int)) (pe_call G__law_next hr (by rfl) m__law_next k__law_next b__law_next v__law_next pass0 (pa_cons (pv 0) (pa_cons (pe_op op_pow pe_int pe_int) pa_nil))))))))))))), ?_⟩
    -- sort = next(source, 5)
    refine ⟨_, rfl, p, 5, rfl, by decide, by decide, hs, fun r0 H1 hr0 s1 => ?_⟩
    refine ⟨_, rfl, _, 2, rfl, rfl, _, rfl, ite2 (fun e => ?_) (fun e0 => ?_)⟩
    · -- near ones
      have hr2 : r0 < 2 := by
        have z := of_decide_eq_true e
        omega
      refine ⟨_, rfl, by simp [sizeLine_eq], fun l hl => ?_⟩
      obtain ⟨s2, nl⟩ := two (o := .lst [.int 6, .int 400]) s1.src hl
      refine ⟨_, rfl, l, _, r0, _, rfl, rfl, SqL.of upd_same, atI_nat (pick2 hr2), p, if r0 = 0 then 6 else 400, ?_, ?_, ?_, s2.src, fun r H2 hr s3 => ?_⟩
      · show [V.ref p, if r0 = 0 then V.int 6 else V.int 400] = _
        split <;> rfl
      · split <;> decide
      · split <;> decide
      · refine q r H2 ?_ ((s1.trans s2).trans s3)
        have z : r < 400 := by
          split at hr <;> omega
        exact Nat.lt_trans z (by decide)
    · -- size = 1; for at in range(next(..)): size = size * base
      refine ⟨_, rfl, by simp [sizeLine_eq], fun l hl => ?_⟩
      obtain ⟨s2, nl⟩ := two (o := .lst [.int 4, .int 30]) s1.src hl
      refine ⟨_, rfl, p, 2, rfl, by decide, by decide, s2.src, fun r1 H2 hr1 s3 => ?_⟩
      have eL : H2 l = some (.lst [.int 4, .int 30]) := s3.keep _ _ nl upd_same
      refine ⟨l, _, r1, _, rfl, rfl, SqL.of eL, atI_nat (pick2 (by omega)), p, if r1 = 0 then 4 else 30, ?_, ?_, ?_, s3.src, fun r2 H3 hr2 s4 => ?_⟩
      · show [V.ref p, if r1 = 0 then V.int 4 else V.int 30] = _
        split <;> rfl
      · split <;> decide
      · split <;> decide
      have hr30 : r2 < 30 := by
        split at hr2 <;> omega
      have s14 := ((s1.trans s2).trans s3).trans s4
      refine ⟨_, rfl, by omega, by omega, for_range (Pv := fun i σ H' => H' = H3 ∧ ∃ y, σ = [some (.ref p), some (.int (b : Nat)), some (.int (r0 : Nat)), some (.int ((b ^ i : Nat) : Int)), y]) ⟨rfl, none, rfl⟩ ?_ ?_⟩
      · rintro i σ H' hi ⟨rfl, y, rfl⟩
        have hi30 : i < 30 := by omega
        have hb : b ^ i < 2 ^ 181 := pow64_le hb64 (by omega)
        refine ⟨_, rfl, _, rfl, _, _, rfl, rfl, mul_r (by omega) (by omega), ?_⟩
        refine ⟨rfl, some (.int (0 + (i : Int))), ?_⟩
        rw [Nat.pow_succ, Int.natCast_mul]
        rfl
      · rintro σ H' ⟨rfl, y, rfl⟩
        have h58 : (0 : Int) < (10 : Int) ^ (58 : Int).toNat := by decide
        refine ⟨_, rfl, 10, 58, rfl, rfl, ⟨by decide, by decide, by decide⟩, _, _, rfl, rfl, h58, ?_⟩
        generalize hz : (((b ^ ((r2 : Nat) : Int).toNat : Nat) : Int) % (10 : Int) ^ (58 : Int).toNat) = z
        have z0 : 0 ≤ z := by
          rw [← hz]
          exact Int.emod_nonneg _ (by decide)
        have z1 : z < 2 ^ 181 := by
          rw [← hz]
          refine Int.lt_of_le_of_lt (emod_le_self (by omega) (by decide)) ?_
          have := pow64_le (j := ((r2 : Nat) : Int).toNat) hb64 (by omega)
          omega
        -- sort == 2
        refine ⟨_, rfl, rfl, _, rfl, ite2 (fun _ => ?_) (fun _ => ?_)⟩
        · refine ⟨_, rfl, _, rfl, p, 3, rfl, by decide, by decide, s14.src, fun r3 H4 hr3 s5 => ?_⟩
          refine ⟨z, r3, congrArg V.int hz, rfl, _, 1, rfl, rfl, 0, _, rfl, ?_⟩
          have e3 : (if z + (r3 : Int) - 1 > 0 then z + (r3 : Int) - 1 else 0) = (((if z + (r3 : Int) - 1 > 0 then z + (r3 : Int) - 1 else 0).toNat : Nat) : Int) := by
            split <;> omega
          show Q (.int (if z + (r3 : Int) - 1 > 0 then z + (r3 : Int) - 1 else 0)) H4
          rw [e3]
          refine q _ H4 ?_ (s14.trans s5)
          split <;> omega
        · refine ⟨_, rfl, rfl, _, rfl, ite2 (fun _ => ?_) (fun _ => ?_)⟩
          · refine ⟨_, rfl, _, rfl, _, rfl, p, b, rfl, by omega, by omega, s14.src, fun r3 H4 hr3 s5 => ?_⟩
            refine ⟨1, r3, rfl, rfl, z, _, congrArg V.int hz, rfl, mul_r (by omega) (by omega), _, rfl, _, rfl, p, b, rfl, by omega, by omega, s5.src, fun r4 H5 hr4 s6 => ?_⟩
            refine ⟨_, _, rfl, rfl, ?_⟩
            have zr : z * (1 + (r3 : Int)) ≤ z * 65 := Int.mul_le_mul_of_nonneg_left (by omega) z0
            have zr0 : 0 ≤ z * (1 + (r3 : Int)) := Int.mul_nonneg z0 (by omega)
            have e3 : z * (1 + (r3 : Int)) + (r4 : Int) = (((z * (1 + (r3 : Int)) + (r4 : Int)).toNat : Nat) : Int) := by omega
            show Q (.int (z * (1 + (r3 : Int)) + (r4 : Int))) H5
            rw [e3]
            exact q _ H5 (by omega) ((s14.trans s5).trans s6)
          · refine ⟨_, rfl, 10, 9, rfl, rfl, ⟨by decide, by decide, by decide⟩, p, _, rfl, by decide, by decide, s14.src, fun r3 H4 hr3 s5 => ?_⟩
            have hr3' : r3 < 10 ^ 9 := by
              have q : (r3 : Int) < 10 ^ (9 : Int).toNat := hr3
              have e : (10 : Int) ^ (9 : Int).toNat = 1000000000 := by decide
              omega
            have e20 : (10 : Int) ^ (20 : Int).toNat = 100000000000000000000 := by decide
            refine ⟨10, 20, rfl, rfl, ⟨by decide, by decide, by decide⟩, _, _, rfl, rfl, mul_l (by omega) (by omega), _, rfl, 10, 6, rfl, rfl, ⟨by decide, by decide, by decide⟩, p, _, rfl, by decide, by decide, s5.src, fun r4 H5 hr4 s6 => ?_⟩
            have hr4' : r4 < 10 ^ 6 := by
              have q : (r4 : Int) < 10 ^ (6 : Int).toNat := hr4
              have e : (10 : Int) ^ (6 : Int).toNat = 1000000 := by decide
              omega
            refine ⟨_, _, rfl, rfl, ?_⟩
            show Q (.int ((r3 : Int) * (10 : Int) ^ (20 : Int).toNat + (r4 : Int))) H5
            rw [e20]
            have e3 : (r3 : Int) * 100000000000000000000 + (r4 : Int) = ((r3 * 100000000000000000000 + r4 : Nat) : Int) := by omega
            rw [e3]
            exact q _ H5 (by omega) ((s14.trans s5).trans s6)
end
/-! ### the law's sides, counted digit by digit -/
section
variable {P : Program} {w : World} {K : PySem.W.Frag} {mg : Str → Option Value} {base : Heap}
def spLawFront (K : PySem.W.Frag) : Sp := fun vs H Q _ => ∃ (b n d : Nat) (q : Addr) (ws : List Bool), vs = [.int (b : Nat), .ref q, .int (n : Nat), .int (d : Nat)] ∧ 2 ≤ b ∧ b ≤ 64 ∧ n < d ∧ d < 2 ^ 250 ∧ SqL K H q (ws.map lvV) ∧ ws ≠ [] ∧
  ∀ k, IsLev b n d k → Q (.bl (frontOf ws 0 (rowsOf b n d k))) H
theorem ok_law_front {f : Addr} {fd : FuncData} (F : Fun K "_law_is_front" "_law_is_front" s__law_is_front f fd) (T : Tx K mg) : FnOk P w K mg base CX0 1 f fd ["_law_base_here", "_law_levels", "_law_now", "_law_due"] (spLawFront K) := by
  refine F.ok sc__law_is_front (fun vs H Q E h => ?_) (fun cdv A outer s H vs Q E hr h => ?_)
  · obtain ⟨b, n, d, q, ws, rfl, _⟩ := h
    rfl
  · obtain ⟨b, n, d, q, ws, rfl, hb, hb64, hnd, hd, hL, hne, c⟩ := h
    have hp : 0 < ws.length := List.length_pos_iff.mpr hne
    have cb : ∀ x : Nat, NDiv x b := fun x => ndiv 7 (by omega) (by omega)
    have hb0 : 0 < b := by omega
    refine ⟨_, (pss_cons (ps_set (i := 4) sc__law_is_front.nd rfl (.inl rfl) pe_bl)
      (pss_cons (ps_set (i := 5) sc__law_is_front.nd rfl (.inl rfl) pe_int)
      (pss_cons (ps_while PassesOwn.never (pt_cmpR op_ne (pv 2) (pv 3) (nomark _))
        (pss_cons (ps_if (PW.pt (pw_and (pt_cmpR op_gt (pe_op op_remN (pv 3) (pv 0)) pe_int (nomark _)) (pw_and1 (pt_cmpR op_eq (pe_ix (ix_listK (K := K) rfl) (pv 1) (pe_callB (min2N rfl) (by rfl) T.b_min (by decide +kernel) (pa_cons (pv 5) (pa_cons (pe_op op_subN (pe_callB (lenK (K := K) rfl) (by rfl) T.b_len PySem.boot_len (pa_cons (pv 1) pa_nil)) pe_int) pa_nil))) (fun _ _ => rfl)) pe_str (nomark _)))))
          (pss_one (ps_set (i := 4) sc__law_is_front.nd rfl (.inl rfl) (pe_not (pv 4))))
          pss_nil)
        (pss_cons (ps_set (i := 2) sc__law_is_front.nd rfl (.inl rfl) (pe_op op_divN (pv 2) (pv 0)))
        (pss_cons (ps_set (i := 3) sc__law_is_front.nd rfl (.inl rfl) (pe_op op_divN (pv 3) (pv 0)))
        (pss_one (ps_set (i := 5) sc__law_is_front.nd rfl (.inl rfl) (pe_op op_addN (pv 5) pe_int)))))))
      (pss_one (ps_ret (pv 4)))))), ?_⟩
    refine while_by (fun σ H' => ∃ k : Nat, σ = [some (.int (b : Nat)), some (.ref q), some (.int ((n / b ^ k : Nat) : Int)), some (.int ((d / b ^ k : Nat) : Int)), some (.bl (decide (cntW ws b d k % 2 = 1))), some (.int (k : Nat))] ∧ H' = H ∧ ∀ j, j < k → n / b ^ j ≠ d / b ^ j)
      (fun σ _ => slotInt σ 3) ⟨0, ?_, rfl, fun j hj => absurd hj (Nat.not_lt_zero j)⟩ ?_ ?_
    · rw [Nat.pow_zero, Nat.div_one, Nat.div_one]
      rfl
    · rintro σ H' ⟨k, rfl, rfl, hk⟩
      by_cases hne2 : n / b ^ k = d / b ^ k
      · refine ⟨_, rfl, _, rfl, rfl, false, nF (vE hne2), iteF ?_⟩
        have hk0 : k ≠ 0 := fun z => by
          rw [z, Nat.pow_zero, Nat.div_one, Nat.div_one] at hne2
          omega
        obtain ⟨j, rfl⟩ : ∃ j, k = j + 1 := ⟨k - 1, by omega⟩
        have hl : IsLev b n d j := ⟨hne2, fun i hi => hk (i + 1) (by omega)⟩
        have z := c j hl
        rw [front_cnt hl hnd] at z
        exact ⟨_, rfl, z⟩
      · have h2 : n / b ^ k ≤ d / b ^ k := Nat.div_le_div_right (Nat.le_of_lt hnd)
        have hpos : 0 < d / b ^ k := pos_of h2 hne2
        refine ⟨_, rfl, _, rfl, rfl, true, nT (vN hne2), iteT ?_⟩
        have hlt : d / b ^ k / b < d / b ^ k := Nat.div_lt_self hpos (by omega)
        have hg := word_get hne k
        have fin : ∀ v : Bool, v = decide (cntW ws b d (k + 1) % 2 = 1) →
            (∃ k' : Nat, ([some (.int (b : Nat)), some (.ref q), some (.int ((n / b ^ k / b : Nat) : Int)), some (.int ((d / b ^ k / b : Nat) : Int)), some (.bl v), some (.int ((k + 1 : Nat) : Int))] : L2.St) = [some (.int (b : Nat)), some (.ref q), some (.int ((n / b ^ k' : Nat) : Int)), some (.int ((d / b ^ k' : Nat) : Int)), some (.bl (decide (cntW ws b d k' % 2 = 1))), some (.int (k' : Nat))] ∧ H' = H' ∧ ∀ j, j < k' → n / b ^ j ≠ d / b ^ j) := by
          intro v ev
          refine ⟨k + 1, ?_, rfl, fun j hj => ?_⟩
          · rw [div_succ n b k, div_succ d b k, ev]
          · by_cases e : j = k
            · rw [e]
              exact hne2
            · exact hk j (by omega)
        have less : (((d / b ^ k / b : Nat) : Int)).toNat < (((d / b ^ k : Nat) : Int)).toNat := by
          rw [Int.toNat_natCast, Int.toNat_natCast]
          exact hlt
        by_cases h0 : d / b ^ k % b = 0
        · have hc : cntW ws b d (k + 1) = cntW ws b d k := by
            show cntW ws b d k + (if d / b ^ k % b ≠ 0 ∧ wordAt ws k = true then 1 else 0) = _
            rw [if_neg (fun z => z.1 h0), Nat.add_zero]
          refine ⟨_, rfl, _, rfl, d / b ^ k, b, rfl, rfl, hb0, _, _, rfl, rfl, false, dF (by show ¬ ((d / b ^ k % b : Nat) : Int) > 0; rw [h0]; decide), iteF (iteF ?_)⟩
          refine ⟨_, rfl, _, rfl, _, _, rfl, rfl, cb _, _, rfl, _, rfl, _, _, rfl, rfl, cb _, _, rfl, k, 1, rfl, rfl, trivial, ⟨fin _ (by rw [hc]), less⟩⟩
        · refine ⟨_, rfl, _, rfl, d / b ^ k, b, rfl, rfl, hb0, _, _, rfl, rfl, true, dT (show ((d / b ^ k % b : Nat) : Int) > 0 from Int.natCast_pos.mpr (Nat.pos_of_ne_zero h0)), iteT ?_⟩
          refine ⟨.ref q, rfl, _, rfl, .ref q, rfl, q, _, rfl, .inl hL, (ws.map lvV).length, 1, rfl, rfl, by rw [List.length_map]; exact hp, k, (ws.map lvV).length - 1, rfl, q, _, ((min k (ws.length - 1) : Nat) : Int), _, rfl, ?_, hL, atI_nat hg, ?_, wordAt ws k, congrArg V.bl (lv_dec _), ?_⟩
          · rw [List.length_map]
          · cases wordAt ws k <;> rfl
          · cases hw : wordAt ws k with
            | true =>
              have hc : cntW ws b d (k + 1) = cntW ws b d k + 1 := by
                show cntW ws b d k + (if d / b ^ k % b ≠ 0 ∧ wordAt ws k = true then 1 else 0) = _
                rw [if_pos ⟨h0, hw⟩]
              refine iteT ⟨_, rfl, _, rfl, ?_⟩
              refine ⟨_, rfl, _, rfl, _, _, rfl, rfl, cb _, _, rfl, _, rfl, _, _, rfl, rfl, cb _, _, rfl, k, 1, rfl, rfl, trivial, ⟨fin _ (by rw [hc, odd_succ]), less⟩⟩
            | false =>
              have hc : cntW ws b d (k + 1) = cntW ws b d k := by
                show cntW ws b d k + (if d / b ^ k % b ≠ 0 ∧ wordAt ws k = true then 1 else 0) = _
                rw [if_neg (fun z => by rw [hw] at z; cases z.2), Nat.add_zero]
              refine iteF ?_
              refine ⟨_, rfl, _, rfl, _, _, rfl, rfl, cb _, _, rfl, _, rfl, _, _, rfl, rfl, cb _, _, rfl, k, 1, rfl, rfl, trivial, ⟨fin _ (by rw [hc]), less⟩⟩
    · rintro σ H' Q1 Q2 h ⟨x, hx, y, hy, hs, k, e, z⟩
      exact ⟨x, hx, y, hy, hs, k, e, h _ _ z⟩
end
/-! ### law k30: equations over words, and the words that satisfy them -/
def par (w : Nat → Bool) (l : List Nat) : Bool := decide ((l.filter w).length % 2 = 1)
def wf (ws : List Bool) : Nat → Bool := fun j => ws.getD j false
theorem asc_range {l : List Nat} (h : Asc l) (hb : ∀ x ∈ l, x < 64) : (List.range 64).filter (fun j => decide (j ∈ l)) = l :=
  asc_uniq (List.pairwise_lt_range.filter _) h fun x => by
    rw [List.mem_filter, List.mem_range]
    exact ⟨fun z => of_decide_eq_true z.2, fun z => ⟨hb x z, decide_eq_true z⟩⟩
theorem par_range (w : Nat → Bool) {l : List Nat} (h : Asc l) (hb : ∀ x ∈ l, x < 64) : (l.filter w).length = ((List.range 64).filter fun j => w j && decide (j ∈ l)).length := by
  rw [← List.filter_filter, asc_range h hb]
theorem xor_cnt (w p q : Nat → Bool) : ∀ L : List Nat, (L.filter fun j => w j && (p j != q j)).length % 2 = ((L.filter fun j => w j && p j).length + (L.filter fun j => w j && q j).length) % 2
  | [] => rfl
  | x :: L => by
    have ih := xor_cnt w p q L
    rw [List.filter_cons, List.filter_cons, List.filter_cons]
    cases w x <;> cases p x <;> cases q x <;> simp only [Bool.and_true, Bool.and_false, Bool.true_and, Bool.false_and, bne_self_eq_false, Bool.false_eq_true, ↓reduceIte, List.length_cons, Bool.bne_true, Bool.bne_false, Bool.not_true, Bool.not_false, Bool.true_bne, Bool.false_bne] <;> omega
theorem par_sym (w : Nat → Bool) {l k : List Nat} (hl : Asc l) (hk : Asc k) (bl : ∀ x ∈ l, x < 64) (bk : ∀ x ∈ k, x < 64) : par w (symL l k) = (par w l != par w k) := by
  unfold par
  have e : ((symL l k).filter w).length = ((List.range 64).filter fun j => w j && (decide (j ∈ l) != decide (j ∈ k))).length := by
    unfold symL
    rw [List.filter_filter]
  rw [e, par_range w hl bl, par_range w hk bk]
  have z := xor_cnt w (fun j => decide (j ∈ l)) (fun j => decide (j ∈ k)) (List.range 64)
  generalize ((List.range 64).filter fun j => w j && (decide (j ∈ l) != decide (j ∈ k))).length = a at z ⊢
  generalize ((List.range 64).filter fun j => w j && decide (j ∈ l)).length = b at z ⊢
  generalize ((List.range 64).filter fun j => w j && decide (j ∈ k)).length = c at z ⊢
  rcases Nat.mod_two_eq_zero_or_one b with hb | hb <;> rcases Nat.mod_two_eq_zero_or_one c with hc | hc
  · rw [hb, hc, show a % 2 = 0 by omega]; rfl
  · rw [hb, hc, show a % 2 = 1 by omega]; rfl
  · rw [hb, hc, show a % 2 = 1 by omega]; rfl
  · rw [hb, hc, show a % 2 = 0 by omega]; rfl
theorem red_sat {many : Nat} {kn : Nat → Option Eqn} (hm : many ≤ 60) (h : KnOk many kn) (w : Nat → Bool) (hs : ∀ l g, kn l = some g → par w g.1 = g.2) :
    ∀ (f : Nat) (e : Eqn), Asc e.1 → (∀ x ∈ e.1, x < many) → (par w (red kn f e).1 = (red kn f e).2 ↔ par w e.1 = e.2)
  | 0, e, _, _ => Iff.rfl
  | f + 1, e, h1, h2 => by
    unfold red
    cases c : e.1.getLast? with
    | none => exact Iff.rfl
    | some l =>
      dsimp only
      cases d : kn l with
      | none => exact Iff.rfl
      | some g =>
        dsimp only
        have ⟨g1, g2, g3⟩ := h l g d
        have hgl := h.lt d
        have less := sym_less h1 g1 c g2 (by omega)
        have hl := h2 l (h1.last c).1
        rw [red_sat hm h w hs f _ (sym_asc _ _) (fun x hx => by have := less x hx; omega)]
        dsimp only
        rw [par_sym w h1 g1 (fun x hx => by have := h2 x hx; omega) (fun x hx => by have := hgl x hx; omega), hs l g d]
        cases par w e.1 <;> cases e.2 <;> cases g.2 <;> simp
theorem red_low {many : Nat} {kn : Nat → Option Eqn} (hm : many ≤ 60) (h : KnOk many kn) : ∀ (f : Nat) (e : Eqn), Asc e.1 → (∀ x ∈ e.1, x < many) → (∀ x ∈ e.1, x < f) → red kn (f + 1) e = red kn f e
  | 0, e, _, _, h3 => red_none (List.eq_nil_iff_forall_not_mem.mpr fun x hx => Nat.not_lt_zero x (h3 x hx)) 1
  | f + 1, e, h1, h2, h3 => by
    cases c : e.1.getLast? with
    | none =>
      have z := List.getLast?_eq_none_iff.mp c
      rw [red_none z, red_none z]
    | some l =>
      cases d : kn l with
      | none => rw [red_stop c d, red_stop c d]
      | some g =>
        have ⟨g1, g2, g3⟩ := h l g d
        have less := sym_less h1 g1 c g2 (by omega)
        have hl := h3 l (h1.last c).1
        rw [red_step c d, red_step c d, red_low hm h f _ (sym_asc _ _) (fun x hx => by have := less x hx; omega) (fun x hx => by have := less x hx; omega)]
theorem red_le {many : Nat} {kn : Nat → Option Eqn} (hm : many ≤ 60) (h : KnOk many kn) {f : Nat} {e : Eqn} (h1 : Asc e.1) (h2 : ∀ x ∈ e.1, x < many) (h3 : ∀ x ∈ e.1, x < f) : ∀ d, red kn (f + d) e = red kn f e
  | 0 => rfl
  | d + 1 => by
    rw [← Nat.add_assoc, red_low hm h (f + d) e h1 h2 (fun x hx => by have := h3 x hx; omega), red_le hm h h1 h2 h3 d]
/-! all lists of words, in their order -/
def lexL : Nat → List (List Bool)
  | 0 => [[]]
  | n + 1 => (lexL n).flatMap fun r => [r ++ [false], r ++ [true]]
theorem lex_len : ∀ n, ∀ r ∈ lexL n, r.length = n
  | 0, r, h => by rw [List.mem_singleton.mp h]; rfl
  | n + 1, r, h => by
    obtain ⟨q, hq, hr⟩ := List.mem_flatMap.mp h
    have := lex_len n q hq
    rcases List.mem_cons.mp hr with z | z
    · rw [z, List.length_append, this]; rfl
    · rw [List.mem_singleton.mp z, List.length_append, this]; rfl
theorem lex_cnt : ∀ n, (lexL n).length = 2 ^ n
  | 0 => rfl
  | n + 1 => by
    have ih := lex_cnt n
    have key : ∀ L : List (List Bool), (L.flatMap fun r => [r ++ [false], r ++ [true]]).length = 2 * L.length := fun L => by
      induction L with
      | nil => rfl
      | cons x L ih => rw [List.flatMap_cons, List.length_append, ih]; show 2 + 2 * L.length = 2 * (L.length + 1); omega
    show ((lexL n).flatMap _).length = _
    rw [key, ih, Nat.pow_succ, Nat.mul_comm]
def satE (ws : List Bool) (e : Eqn) : Bool := par (wf ws) e.1 == e.2
def satN (kn : Nat → Option Eqn) : Nat → List Bool → Bool
  | 0, _ => true
  | n + 1, ws => satN kn n ws && match kn n with | none => true | some g => satE ws g
theorem satN_iff {kn : Nat → Option Eqn} {ws : List Bool} : ∀ n, satN kn n ws = true ↔ ∀ l, l < n → ∀ g, kn l = some g → satE ws g = true
  | 0 => ⟨fun _ l hl => absurd hl (Nat.not_lt_zero l), fun _ => rfl⟩
  | n + 1 => by
    unfold satN
    rw [Bool.and_eq_true, satN_iff n]
    refine ⟨fun ⟨h1, h2⟩ l hl g hg => ?_, fun h => ⟨fun l hl => h l (by omega), ?_⟩⟩
    · by_cases c : l = n
      · subst c
        rw [hg] at h2
        exact h2
      · exact h1 l (by omega) g hg
    · cases c : kn n with
      | none => rfl
      | some g => exact h n (Nat.lt_succ_self n) g c
theorem par_congr {v w : Nat → Bool} {l : List Nat} (h : ∀ y ∈ l, v y = w y) : par v l = par w l := by
  unfold par
  rw [List.filter_congr h]
theorem wf_pre {ws : List Bool} {x : Bool} {j : Nat} (h : j < ws.length) : wf (ws ++ [x]) j = wf ws j := by
  unfold wf
  rw [List.getD_eq_getElem?_getD, List.getD_eq_getElem?_getD, List.getElem?_append_left h]
theorem wf_last {ws : List Bool} {x : Bool} : wf (ws ++ [x]) ws.length = x := by
  unfold wf
  rw [List.getD_eq_getElem?_getD, List.getElem?_append_right (Nat.le_refl _), Nat.sub_self]
  rfl
theorem KnOk.cut {many : Nat} {kn : Nat → Option Eqn} (h : KnOk many kn) {l : Nat} {g : Eqn} (e : kn l = some g) : g.1 = g.1.dropLast ++ [l] ∧ ∀ x ∈ g.1.dropLast, x < l := by
  have ⟨h1, h2, h3⟩ := h l g e
  obtain ⟨ys, hy⟩ := List.getLast?_eq_some_iff.mp h2
  have hd : g.1.dropLast = ys := by rw [hy, List.dropLast_concat]
  refine ⟨by rw [hd]; exact hy, fun x hx => ?_⟩
  rw [hd] at hx
  rw [hy] at h1
  exact (List.pairwise_append.mp h1).2.2 x hx l List.mem_cons_self
theorem satN_pre {many : Nat} {kn : Nat → Option Eqn} (h : KnOk many kn) {ws : List Bool} {x : Bool} : ∀ n, n ≤ ws.length → satN kn n (ws ++ [x]) = satN kn n ws
  | 0, _ => rfl
  | n + 1, hn => by
    unfold satN
    rw [satN_pre h n (by omega)]
    cases c : kn n with
    | none => rfl
    | some g =>
      dsimp only
      have e : satE (ws ++ [x]) g = satE ws g := by
        unfold satE
        rw [par_congr (v := wf (ws ++ [x])) (w := wf ws) fun y hy => wf_pre ?_]
        have ⟨h1, h2, h3⟩ := h n g c
        have := (h1.last h2).2 y hy
        omega
      rw [e]
theorem par_snoc (w : Nat → Bool) (l : List Nat) (x : Nat) : par w (l ++ [x]) = (par w l != w x) := by
  unfold par
  rw [List.filter_append, List.length_append]
  cases hx : w x with
  | false =>
    rw [show [x].filter w = [] by simp [hx]]
    simp
  | true =>
    rw [show [x].filter w = [x] by simp [hx]]
    rcases Nat.mod_two_eq_zero_or_one (l.filter w).length with h | h
    · rw [h, show ((l.filter w).length + [x].length) % 2 = 1 by show ((l.filter w).length + 1) % 2 = 1; omega]; rfl
    · rw [h, show ((l.filter w).length + [x].length) % 2 = 0 by show ((l.filter w).length + 1) % 2 = 0; omega]; rfl
theorem sat_last {many : Nat} {kn : Nat → Option Eqn} (h : KnOk many kn) {ws : List Bool} {g : Eqn} (hg : kn ws.length = some g) (x : Bool) : satE (ws ++ [x]) g = (x == wordF ws g) := by
  have ⟨h1, h2⟩ := h.cut hg
  unfold satE
  rw [h1, par_snoc, wf_last, par_congr (v := wf (ws ++ [x])) (w := wf ws) fun y hy => wf_pre (h2 y hy)]
  have e : wordF ws g = (par (wf ws) g.1.dropLast != g.2) := rfl
  rw [e]
  cases par (wf ws) g.1.dropLast <;> cases g.2 <;> cases x <;> rfl
def moreL (kn : Nat → Option Eqn) (n : Nat) (r : List Bool) : List (List Bool) := match kn n with
  | none => [r ++ [false], r ++ [true]]
  | some g => [r ++ [wordF r g]]
theorem filter_step {many n : Nat} {kn : Nat → Option Eqn} (h : KnOk many kn) : ∀ L : List (List Bool), (∀ r ∈ L, r.length = n) →
    (L.flatMap fun r => [r ++ [false], r ++ [true]]).filter (satN kn (n + 1)) = (L.filter (satN kn n)).flatMap (moreL kn n)
  | [], _ => rfl
  | r :: L, hL => by
    have hr := hL r List.mem_cons_self
    rw [List.flatMap_cons, List.filter_append, filter_step h L fun r hr => hL r (List.mem_cons_of_mem _ hr), List.filter_cons (x := r)]
    have e : ([r ++ [false], r ++ [true]]).filter (satN kn (n + 1)) = if satN kn n r = true then moreL kn n r else [] := by
      have s : ∀ x, satN kn (n + 1) (r ++ [x]) = (satN kn n r && match kn n with | none => true | some g => x == wordF r g) := fun x => by
        show (satN kn n (r ++ [x]) && match kn n with | none => true | some g => satE (r ++ [x]) g) = _
        rw [satN_pre h n (Nat.le_of_eq hr.symm)]
        cases c : kn n with
        | none => rfl
        | some g =>
          dsimp only
          rw [sat_last h (by rw [hr]; exact c)]
      rw [List.filter_cons, List.filter_cons, s, s, List.filter_nil]
      unfold moreL
      cases satN kn n r with
      | false => simp
      | true =>
        cases kn n with
        | none => simp
        | some g =>
          rcases hw : wordF r g with _ | _ <;> simp [hw]
    rw [e]
    split
    · rw [List.flatMap_cons]
    · rfl
theorem sols {many : Nat} {kn : Nat → Option Eqn} (h : KnOk many kn) : ∀ n, ((lexL n).filter (satN kn n)).length = (leastW kn n).2 ∧ ((lexL n).filter (satN kn n)).head? = some (leastW kn n).1
  | 0 => ⟨rfl, rfl⟩
  | n + 1 => by
    have ⟨ih1, ih2⟩ := sols h n
    show ((((lexL n).flatMap fun r => [r ++ [false], r ++ [true]]).filter (satN kn (n + 1))).length = _ ∧ _)
    have e : (lexL (n + 1)).filter (satN kn (n + 1)) = ((lexL n).filter (satN kn n)).flatMap (moreL kn n) := filter_step h (lexL n) (lex_len n)
    rw [filter_step h (lexL n) (lex_len n), e]
    generalize (lexL n).filter (satN kn n) = L at ih1 ih2
    have len : ∀ c : Nat, (∀ r, (moreL kn n r).length = c) → ∀ L : List (List Bool), (L.flatMap (moreL kn n)).length = L.length * c := fun c hc L => by
      induction L with
      | nil => simp
      | cons x L ih => rw [List.flatMap_cons, List.length_append, ih, hc, List.length_cons, Nat.succ_mul, Nat.add_comm]
    obtain ⟨r, L, rfl⟩ : ∃ r L', L = r :: L' := by
      cases L with
      | nil => cases ih2
      | cons r L => exact ⟨r, L, rfl⟩
    have er : r = (leastW kn n).1 := Option.some.inj ih2
    unfold leastW
    cases c : kn n with
    | none =>
      dsimp only
      refine ⟨?_, ?_⟩
      · rw [len 2 (fun r => by unfold moreL; rw [c]; rfl), ih1]
      · rw [List.flatMap_cons]
        unfold moreL
        rw [c, er]
        rfl
    | some g =>
      dsimp only
      refine ⟨?_, ?_⟩
      · rw [len 1 (fun r => by unfold moreL; rw [c]; rfl), ih1, Nat.mul_one]
      · rw [List.flatMap_cons]
        unfold moreL
        rw [c, er]
        rfl
/-- the lists gone through, sighting by sighting -/
def goneR : List Eqn → Nat → List (List Bool) → Nat ⊕ (List Bool × Nat)
  | [], _, L => .inr (L.headD [], L.length)
  | e :: es, i, L => if L.filter (satE · e) = [] then .inl (i + 1) else goneR es (i + 1) (L.filter (satE · e))
theorem gone_run {many : Nat} (hm : many ≤ 60) : ∀ (es : List Eqn) (i : Nat) (kn : Nat → Option Eqn), KnOk many kn → (∀ e ∈ es, Asc e.1 ∧ ∀ x ∈ e.1, x < many) →
    goneR es i ((lexL many).filter (satN kn many)) = match runE es i kn with | .inl k => .inl k | .inr kn' => .inr (leastW kn' many)
  | [], i, kn, h, _ => by
    have ⟨s1, s2⟩ := sols h many
    unfold goneR runE
    dsimp only
    rw [s1, List.headD_eq_head?_getD, s2]
    rfl
  | e :: es, i, kn, h, he => by
    have ⟨ea, el⟩ := he e List.mem_cons_self
    have he' := fun e' (z : e' ∈ es) => he e' (List.mem_cons_of_mem _ z)
    have ⟨ra, rl, rk⟩ := red_ok hm h 64 e ea el (fun x hx => by have := el x hx; omega)
    have key : ∀ ws, satN kn many ws = true → (satE ws (red kn 64 e) = true ↔ satE ws e = true) := fun ws hw => by
      have z := red_sat hm h (wf ws) (fun l g hg => by
        have := (satN_iff many).mp hw l (h l g hg).2.2 g hg
        exact beq_iff_eq.mp this) 64 e ea el
      unfold satE
      rw [beq_iff_eq, beq_iff_eq]
      exact z
    have mem : ∀ ws, ws ∈ ((lexL many).filter (satN kn many)).filter (satE · e) ↔ ws ∈ lexL many ∧ satN kn many ws = true ∧ satE ws (red kn 64 e) = true := fun ws => by
      rw [List.mem_filter, List.mem_filter, and_assoc]
      exact and_congr_right fun _ => and_congr_right fun z => (key ws z).symm
    have flt : ((lexL many).filter (satN kn many)).filter (satE · e) = (lexL many).filter fun ws => satN kn many ws && satE ws (red kn 64 e) := by
      rw [List.filter_filter]
      refine List.filter_congr fun ws _ => ?_
      cases c : satN kn many ws with
      | false => rw [Bool.and_false, Bool.false_and]
      | true =>
        rw [Bool.and_true, Bool.true_and]
        exact Bool.eq_iff_iff.mpr (key ws c).symm
    unfold goneR runE
    rw [flt]
    obtain ⟨r, hr⟩ : ∃ r, r = red kn 64 e := ⟨_, rfl⟩
    rw [← hr] at ra rl rk ⊢
    cases c : r.1.getLast? with
    | none =>
      have e0 := List.getLast?_eq_none_iff.mp c
      have es0 : ∀ ws, satE ws r = (false == r.2) := fun ws => by
        unfold satE
        rw [e0]
        rfl
      dsimp only
      cases c2 : r.2 with
      | true =>
        rw [if_pos rfl, if_pos]
        rw [List.filter_eq_nil_iff]
        intro ws _
        rw [es0 ws, c2]
        simp
      | false =>
        have e1 : (fun ws => satN kn many ws && satE ws r) = satN kn many := funext fun ws => by rw [es0 ws, c2]; exact Bool.and_true _
        have ⟨_, s2⟩ := sols h many
        rw [if_neg Bool.false_ne_true, e1, if_neg (fun z => by rw [z] at s2; cases s2)]
        exact gone_run hm es (i + 1) kn h he'
    | some l =>
      dsimp only
      have kl := rk l c
      have hla := ra.last c
      have h' : KnOk many (fun j => if j = l then some r else kn j) := fun j g hg => by
        dsimp only at hg
        by_cases z : j = l
        · rw [if_pos z] at hg
          cases hg
          rw [z]
          exact ⟨ra, c, rl l hla.1⟩
        · rw [if_neg z] at hg
          exact h j g hg
      have e1 : (fun ws => satN kn many ws && satE ws r) = satN (fun j => if j = l then some r else kn j) many := funext fun ws => by
        refine Bool.eq_iff_iff.mpr ?_
        rw [Bool.and_eq_true, satN_iff, satN_iff]
        refine ⟨fun ⟨z1, z2⟩ j hj g hg => ?_, fun z => ⟨fun j hj g hg => z j hj g ?_, z l (rl l hla.1) r (if_pos rfl)⟩⟩
        · by_cases y : j = l
          · rw [if_pos y] at hg
            cases hg
            exact z2
          · rw [if_neg y] at hg
            exact z1 j hj g hg
        · have y : j ≠ l := fun y => by rw [y, kl] at hg; cases hg
          rw [if_neg y]
          exact hg
      have ⟨_, s2⟩ := sols h' many
      rw [e1, if_neg (fun z => by rw [z] at s2; cases s2)]
      exact gone_run hm es (i + 1) _ h' he'
theorem satN_none : ∀ n ws, satN (fun _ => none) n ws = true
  | 0, _ => rfl
  | n + 1, ws => by
    show (satN (fun _ => none) n ws && true) = true
    rw [satN_none n ws]
    rfl
theorem gone_seen {b many : Nat} (h1 : 1 ≤ many) (hm : many ≤ 60) (ss : List (Nat × Nat × Bool)) : goneR (ss.map (eqnOf b many)) 0 (lexL many) = seenR b many ss := by
  have z := gone_run hm (ss.map (eqnOf b many)) 0 (fun _ => none) (fun l g h => by cases h) (fun e he => by
    obtain ⟨s, _, rfl⟩ := List.mem_map.mp he
    exact eqnOf_asc h1)
  have e : (lexL many).filter (satN (fun _ => none) many) = lexL many := List.filter_eq_self.mpr fun ws _ => satN_none many ws
  rw [e] at z
  rw [z]
  unfold seenR
  rfl
/-! ### law k30: equations as bits -/
def bitsB (m : Nat) (l : List Nat) : Prop := ∀ j, m.testBit j = decide (j ∈ l)
theorem bits_zero {m : Nat} (h : bitsB m []) : m = 0 := Nat.eq_of_testBit_eq fun j => by
  rw [h j, Nat.zero_testBit]
  rfl
theorem bits_pos {m x : Nat} {l : List Nat} (h : bitsB m l) (hx : x ∈ l) : m ≠ 0 := fun z => by
  have := h x
  rw [z, Nat.zero_testBit, decide_eq_true hx] at this
  cases this
theorem bits_xor {m n : Nat} {l k : List Nat} (h1 : bitsB m l) (h2 : bitsB n k) (hl : ∀ x ∈ l, x < 64) (hk : ∀ x ∈ k, x < 64) : bitsB (m ^^^ n) (symL l k) := fun j => by
  rw [Nat.testBit_xor, h1 j, h2 j, Bool.eq_iff_iff, decide_eq_true_iff, sym_mem hl hk]
def maskR (many : Nat) : List Nat → Nat
  | [] => 0
  | l :: ls => maskR many ls ^^^ 2 ^ min l (many - 1)
theorem mask_bit (many j : Nat) : ∀ ls, (maskR many ls).testBit j = decide ((ls.filter fun l => decide (min l (many - 1) = j)).length % 2 = 1)
  | [] => by
    unfold maskR
    rw [Nat.zero_testBit]
    rfl
  | l :: ls => by
    unfold maskR
    rw [Nat.testBit_xor, mask_bit many j ls, Nat.testBit_two_pow, List.filter_cons]
    by_cases c : min l (many - 1) = j
    · rw [if_pos (decide_eq_true c), decide_eq_true c, List.length_cons]
      rcases Nat.mod_two_eq_zero_or_one (ls.filter fun l => decide (min l (many - 1) = j)).length with h | h
      · rw [h, show ((ls.filter fun l => decide (min l (many - 1) = j)).length + 1) % 2 = 1 by omega]; rfl
      · rw [h, show ((ls.filter fun l => decide (min l (many - 1) = j)).length + 1) % 2 = 0 by omega]; rfl
    · rw [if_neg (by rw [decide_eq_false c]; exact Bool.false_ne_true), decide_eq_false c, Bool.xor_false]
theorem one_of {j : Nat} : ∀ ls : List Nat, ls.Pairwise (· > ·) → (ls.filter fun l => decide (l = j)).length = if j ∈ ls then 1 else 0
  | [], _ => rfl
  | l :: ls, h => by
    have h := List.pairwise_cons.mp h
    rw [List.filter_cons]
    by_cases c : l = j
    · have n : j ∉ ls := fun z => by have := h.1 j z; omega
      have y : (ls.filter fun l => decide (l = j)).length = 0 := by rw [one_of ls h.2, if_neg n]
      rw [if_pos (decide_eq_true c), List.length_cons, y, if_pos (by rw [c]; exact List.mem_cons_self)]
    · rw [if_neg (by rw [decide_eq_false c]; exact Bool.false_ne_true), one_of ls h.2]
      by_cases z : j ∈ ls
      · rw [if_pos z, if_pos (List.mem_cons_of_mem _ z)]
      · rw [if_neg z, if_neg fun y => (List.mem_cons.mp y).elim (fun e => c e.symm) z]
theorem two_parts (p : Nat → Bool) : ∀ ls : List Nat, (ls.filter p).length + (ls.filter fun l => !p l).length = ls.length
  | [] => rfl
  | l :: ls => by
    have ih := two_parts p ls
    rw [List.filter_cons, List.filter_cons, List.length_cons]
    cases p l with
    | true => rw [if_pos rfl, if_neg (show ¬ (!true) = true by decide), List.length_cons]; omega
    | false => rw [if_neg Bool.false_ne_true, if_pos (show (!false) = true by decide), List.length_cons]; omega
theorem eqv_mem {many : Nat} {rs : List Row3} (j : Nat) : j ∈ eqLv many rs ↔ (j ∈ rs.map (·.1) ∧ j < many - 1) ∨ ((rs.length - (eqLow many rs).length) % 2 = 1 ∧ j = many - 1) := by
  unfold eqLv
  rw [List.mem_append]
  refine or_congr ?_ ?_
  · unfold eqLow
    rw [List.mem_reverse, List.mem_filter, decide_eq_true_iff]
  · split
    · rename_i h
      rw [List.mem_singleton]
      exact ⟨fun z => ⟨h, z⟩, fun z => z.2⟩
    · rename_i h
      exact ⟨fun z => (by cases z), fun z => absurd z.1 h⟩
theorem eq_bits {many : Nat} {rs : List Row3} (h : (rs.map (·.1)).Pairwise (· > ·)) : bitsB (maskR many (rs.map (·.1))) (eqLv many rs) := fun j => by
  rw [mask_bit, Bool.eq_iff_iff, decide_eq_true_iff, decide_eq_true_iff, eqv_mem]
  obtain ⟨ls, hls⟩ : ∃ ls, ls = rs.map (·.1) := ⟨_, rfl⟩
  have elen : rs.length = ls.length := by rw [hls, List.length_map]
  have elow : (eqLow many rs).length = (ls.filter fun l => decide (l < many - 1)).length := by
    unfold eqLow
    rw [List.length_reverse, ← hls]
  rw [elow, elen, ← hls]
  rw [← hls] at h
  rcases Nat.lt_trichotomy j (many - 1) with c | c | c
  · have e : (ls.filter fun l => decide (min l (many - 1) = j)) = ls.filter fun l => decide (l = j) := List.filter_congr fun l _ => decide_eq_decide.mpr (by omega)
    rw [e, one_of ls h]
    by_cases z : j ∈ ls
    · rw [if_pos z]
      exact ⟨fun _ => .inl ⟨z, c⟩, fun _ => rfl⟩
    · rw [if_neg z]
      exact ⟨fun y => absurd y (by decide), fun y => y.elim (fun y => absurd y.1 z) (fun y => by omega)⟩
  · have e : (ls.filter fun l => decide (min l (many - 1) = j)) = ls.filter fun l => !decide (l < many - 1) := List.filter_congr fun l _ => by
      rw [← decide_not]
      exact decide_eq_decide.mpr (by omega)
    have t := two_parts (fun l => decide (l < many - 1)) ls
    rw [e]
    refine ⟨fun z => .inr ⟨by omega, c⟩, fun z => ?_⟩
    rcases z with z | z
    · omega
    · have := z.1
      omega
  · have e : (ls.filter fun l => decide (min l (many - 1) = j)) = [] := List.filter_eq_nil_iff.mpr fun l _ => by
      rw [decide_eq_true_iff]
      omega
    rw [e]
    exact ⟨fun z => absurd z (by decide), fun z => z.elim (fun z => by omega) (fun z => by omega)⟩
/-- the law's mask, digit by digit -/
def maskW (many b d : Nat) : Nat → Nat
  | 0 => 0
  | k + 1 => if d / b ^ k % b ≠ 0 then maskW many b d k ^^^ 2 ^ min k (many - 1) else maskW many b d k
theorem mask_tail (many b d : Nat) : ∀ k, maskW many b d k = maskR many ((tailOf b d k).map (·.1))
  | 0 => rfl
  | k + 1 => by
    unfold maskW tailOf
    rw [mask_tail many b d k]
    split
    · rfl
    · rfl
theorem mask_rows {many b n d k : Nat} (h : IsLev b n d k) (hnd : n < d) : bitsB (maskW many b d (k + 1)) (eqLv many (rowsOf b n d k)) := by
  have hd := h.digit hnd
  have h0 : d / b ^ k % b ≠ 0 := by omega
  have e : maskW many b d (k + 1) = maskR many ((rowsOf b n d k).map (·.1)) := by
    unfold maskW
    rw [if_pos h0, mask_tail]
    rfl
  rw [e]
  exact eq_bits (rows_levs b n d k)
/-! the front of a list of words is the parity of its equation -/
theorem cnt_low (w : Nat → Bool) (M : Nat) : ∀ ls : List Nat, (ls.filter fun l => w (min l M)).length = ((ls.filter fun l => decide (l < M)).filter w).length + if w M = true then (ls.filter fun l => !decide (l < M)).length else 0
  | [] => by
    show 0 = 0 + _
    split <;> rfl
  | l :: ls => by
    have ih := cnt_low w M ls
    rw [List.filter_cons, List.filter_cons, List.filter_cons (p := fun l => !decide (l < M))]
    by_cases c : l < M
    · rw [show min l M = l by omega, decide_eq_true c, if_pos rfl, if_neg (show ¬ (!true) = true by decide), List.filter_cons]
      cases w l with
      | true =>
        rw [if_pos rfl, if_pos rfl, List.length_cons, List.length_cons, ih]
        omega
      | false =>
        rw [if_neg Bool.false_ne_true, if_neg Bool.false_ne_true]
        exact ih
    · rw [show min l M = M by omega, decide_eq_false c, if_neg Bool.false_ne_true, if_pos (show (!false) = true by decide)]
      cases hw : w M with
      | true =>
        rw [hw] at ih
        rw [if_pos rfl, if_pos rfl, List.length_cons, List.length_cons, ih, if_pos rfl]
        omega
      | false =>
        rw [hw] at ih
        rw [if_neg Bool.false_ne_true, if_neg Bool.false_ne_true, ih, if_neg Bool.false_ne_true]
theorem front_par {ws : List Bool} {rs : List Row3} : frontOf ws 0 rs = par (wf ws) (eqLv ws.length rs) := by
  obtain ⟨ls, hls⟩ : ∃ ls, ls = rs.map (·.1) := ⟨_, rfl⟩
  have elen : rs.length = ls.length := by rw [hls, List.length_map]
  have ec : rs.countP (fun r => decide (0 ≤ r.1) && wordAt ws r.1) = (ls.filter fun l => wf ws (min l (ws.length - 1))).length := by
    rw [hls, List.countP_eq_length_filter, List.filter_map, List.length_map]
    congr 1
  have elow : eqLow ws.length rs = (ls.filter fun l => decide (l < ws.length - 1)).reverse := by
    unfold eqLow
    rw [hls]
  have t := two_parts (fun l => decide (l < ws.length - 1)) ls
  unfold frontOf par eqLv
  rw [ec, cnt_low, elow, List.filter_append, List.length_append, List.filter_reverse, List.length_reverse, List.length_reverse, elen]
  generalize ((ls.filter fun l => decide (l < ws.length - 1)).filter (wf ws)).length = a
  generalize (ls.filter fun l => decide (l < ws.length - 1)).length = p at t ⊢
  generalize (ls.filter fun l => !decide (l < ws.length - 1)).length = q at t ⊢
  have e : ls.length - p = q := by omega
  rw [e]
  refine decide_eq_decide.mpr ?_
  cases hw : wf ws (ws.length - 1) with
  | true =>
    rw [if_pos rfl]
    by_cases c : q % 2 = 1
    · rw [if_pos c, show [ws.length - 1].filter (wf ws) = [ws.length - 1] by rw [List.filter_cons, hw]; rfl]
      show _ ↔ (a + 1) % 2 = 1
      omega
    · rw [if_neg c]
      show _ ↔ (a + 0) % 2 = 1
      omega
  | false =>
    rw [if_neg Bool.false_ne_true]
    by_cases c : q % 2 = 1
    · rw [if_pos c, show [ws.length - 1].filter (wf ws) = [] by rw [List.filter_cons, hw]; rfl]
      exact Iff.rfl
    · rw [if_neg c]
      exact Iff.rfl
/-! what the bits of the law's rows tell -/
theorem least_step (kn : Nat → Option Eqn) (n : Nat) : leastW kn (n + 1) = match kn n with
  | some g => ((leastW kn n).1 ++ [wordF (leastW kn n).1 g], (leastW kn n).2)
  | none => ((leastW kn n).1 ++ [false], (leastW kn n).2 * 2) := rfl
theorem least_pre (kn : Nat → Option Eqn) {n : Nat} : ∀ d, (leastW kn (n + d)).1.take n = (leastW kn n).1
  | 0 => List.take_of_length_le (Nat.le_of_eq (least_len kn n))
  | d + 1 => by
    have ih := least_pre kn (n := n) d
    have l := least_len kn (n + d)
    have e : ∃ x, (leastW kn (n + (d + 1))).1 = (leastW kn (n + d)).1 ++ [x] := by
      rw [← Nat.add_assoc, least_step]
      split
      · exact ⟨_, rfl⟩
      · exact ⟨_, rfl⟩
    obtain ⟨x, e⟩ := e
    rw [e, List.take_append_of_le_length (by omega), ih]
theorem least_get {kn : Nat → Option Eqn} {n m : Nat} (h : n < m) : (leastW kn m).1.getD n false = match kn n with | none => false | some g => wordF (leastW kn n).1 g := by
  have p := least_pre kn (n := n + 1) (m - (n + 1))
  rw [show n + 1 + (m - (n + 1)) = m by omega] at p
  have l := least_len kn n
  have g : (leastW kn m).1.getD n false = (leastW kn (n + 1)).1.getD n false := by
    rw [← p, List.getD_eq_getElem?_getD, List.getD_eq_getElem?_getD, List.getElem?_take, if_pos (Nat.lt_succ_self n)]
  rw [g, least_step]
  cases c : kn n with
  | none =>
    dsimp only
    rw [List.getD_eq_getElem?_getD, List.getElem?_append_right (by omega), l, Nat.sub_self]
    rfl
  | some g =>
    dsimp only
    rw [List.getD_eq_getElem?_getD, List.getElem?_append_right (by omega), l, Nat.sub_self]
    rfl
theorem wf_take {W : List Bool} {n j : Nat} (h : j < n) : wf (W.take n) j = wf W j := by
  unfold wf
  rw [List.getD_eq_getElem?_getD, List.getD_eq_getElem?_getD, List.getElem?_take, if_pos h]
theorem stack_bit {many i t s : Nat} {kn : Nat → Option Eqn} {ks : List Nat} {g : Eqn} (h : KnOk many kn) (ha : Asc ks) (hk : ∀ l, l ∈ ks ↔ (kn l).isSome = true) (ht : ks[i]? = some t) (hg : kn t = some g)
    (hs : ∀ j, s.testBit j = (decide (j ∈ ks.take i) && wf (leastW kn many).1 j)) : wf (leastW kn many).1 t = (par s.testBit g.1 != g.2) := by
  have ⟨c1, c2⟩ := h.cut hg
  have tm := (h t g hg).2.2
  have split := List.take_append_drop i ks
  have hi := (List.getElem?_eq_some_iff.mp ht).1
  have hdrop : ks.drop i = t :: ks.drop (i + 1) := by
    rw [List.drop_eq_getElem_cons hi, (List.getElem?_eq_some_iff.mp ht).2]
  have low : ∀ x ∈ ks.take i, x < t := fun x hx => by
    have ha' : Asc (ks.take i ++ t :: ks.drop (i + 1)) := by
      rw [← hdrop, split]
      exact ha
    exact (List.pairwise_append.mp ha').2.2 x hx t List.mem_cons_self
  have mem : ∀ x, x ∈ ks → x < t → x ∈ ks.take i := fun x hx hlt => by
    rw [← split, hdrop] at hx
    rcases List.mem_append.mp hx with z | z
    · exact z
    · have ha' : Asc (ks.take i ++ t :: ks.drop (i + 1)) := by
        rw [← hdrop, split]
        exact ha
      rcases List.mem_cons.mp z with y | y
      · omega
      · have := (List.pairwise_cons.mp (List.pairwise_append.mp ha').2.1).1 x y
        omega
  have st : s.testBit t = false := by
    rw [hs t, decide_eq_false fun z => Nat.lt_irrefl _ (low t z), Bool.false_and]
  have sb : ∀ y ∈ g.1.dropLast, s.testBit y = wf (leastW kn many).1 y := fun y hy => by
    have hlt := c2 y hy
    rw [hs y]
    cases e : wf (leastW kn many).1 y with
    | false => exact Bool.and_false _
    | true =>
      have hy2 : (kn y).isSome = true := by
        unfold wf at e
        rw [least_get (by omega)] at e
        cases z : kn y with
        | none => rw [z] at e; cases e
        | some g => rfl
      rw [decide_eq_true (mem y ((hk y).mpr hy2) hlt)]
      rfl
  have e1 : wf (leastW kn many).1 t = wordF (leastW kn t).1 g := by
    unfold wf
    rw [least_get tm, hg]
  have e2 : wordF (leastW kn t).1 g = (par (wf (leastW kn t).1) g.1.dropLast != g.2) := rfl
  have p := least_pre kn (n := t) (many - t)
  rw [show t + (many - t) = many by omega] at p
  rw [e1, e2, c1, par_snoc, st, Bool.bne_false, List.dropLast_concat, ← p, par_congr (v := wf ((leastW kn many).1.take t)) (w := wf (leastW kn many).1) fun y hy => wf_take (c2 y hy), par_congr (v := s.testBit) (w := wf (leastW kn many).1) sb]
theorem least_two (kn : Nat → Option Eqn) : ∀ n, (leastW kn n).2 * 2 ^ ((List.range n).filter fun l => (kn l).isSome).length = 2 ^ n
  | 0 => rfl
  | n + 1 => by
    have ih := least_two kn n
    rw [List.range_succ, List.filter_append, List.length_append, least_step]
    cases c : kn n with
    | none =>
      dsimp only
      rw [show [n].filter (fun l => (kn l).isSome) = [] by rw [List.filter_cons, c]; rfl, Nat.pow_succ, ← ih]
      show _ * 2 * 2 ^ (_ + 0) = _
      rw [Nat.add_zero, Nat.mul_right_comm]
    | some g =>
      dsimp only
      rw [show [n].filter (fun l => (kn l).isSome) = [n] by rw [List.filter_cons, c]; rfl, Nat.pow_succ, ← ih]
      show _ * 2 ^ (_ + 1) = _
      rw [Nat.pow_succ, Nat.mul_assoc]
theorem least_pow {many : Nat} {kn : Nat → Option Eqn} (h : KnOk many kn) {ks : List Nat} (ha : Asc ks) (hk : ∀ l, l ∈ ks ↔ (kn l).isSome = true) : (leastW kn many).2 = 2 ^ (many - ks.length) ∧ ks.length ≤ many := by
  have lt : ∀ l ∈ ks, l < many := fun l hl => by
    have := (hk l).mp hl
    cases c : kn l with
    | none => rw [c] at this; cases this
    | some g => exact (h l g c).2.2
  have e : (List.range many).filter (fun l => (kn l).isSome) = ks := asc_uniq (List.pairwise_lt_range.filter _) ha fun x => by
    rw [List.mem_filter, List.mem_range, ← hk]
    exact ⟨fun z => z.2, fun z => ⟨lt x z, z⟩⟩
  have z := least_two kn many
  rw [e] at z
  have le := ha.few lt
  refine ⟨?_, le⟩
  have z2 : 2 ^ (many - ks.length) * 2 ^ ks.length = 2 ^ many := by rw [← Nat.pow_add, Nat.sub_add_cancel le]
  exact Nat.eq_of_mul_eq_mul_right (Nat.pow_pos (by decide)) (z.trans z2.symm)
/-- the parity of the bits of a number -/
theorem bits_cnt {m k : Nat} {l : List Nat} (h : bitsB m l) (ha : Asc l) (hm : m < 2 ^ k) : (List.range k).filter m.testBit = l := asc_uniq (List.pairwise_lt_range.filter _) ha fun x => by
  rw [List.mem_filter, List.mem_range, h x, decide_eq_true_iff]
  refine ⟨fun z => z.2, fun z => ⟨?_, z⟩⟩
  refine Nat.lt_of_not_le fun c => ?_
  have e := Nat.testBit_lt_two_pow (Nat.lt_of_lt_of_le hm (Nat.pow_le_pow_right (by decide) c))
  rw [h x, decide_eq_true z] at e
  cases e
theorem bits_and {m s : Nat} {l : List Nat} (h : bitsB m l) : bitsB (m &&& s) (l.filter s.testBit) := fun j => by
  rw [Nat.testBit_and, h j, Bool.eq_iff_iff, Bool.and_eq_true, decide_eq_true_iff, decide_eq_true_iff, List.mem_filter]
/-! ### law k30: masks and parities -/
section
variable {P : Program} {w : World} {K : PySem.W.Frag} {mg : Str → Option Value} {base : Heap}
def spMask : Sp := fun vs H Q _ => ∃ b many n d : Nat, vs = [.int (b : Nat), .int (many : Nat), .int (n : Nat), .int (d : Nat)] ∧ 2 ≤ b ∧ b ≤ 64 ∧ 1 ≤ many ∧ many ≤ 60 ∧ n < d ∧ d < 2 ^ 250 ∧ ∀ m : Nat, (∀ k, IsLev b n d k → bitsB m (eqLv many (rowsOf b n d k))) → Q (.int (m : Nat)) H
theorem ok_mask {f : Addr} {fd : FuncData} (F : Fun K "_law_mask" "_law_mask" s__law_mask f fd) (T : Tx K mg) : FnOk P w K mg base CX0 1 f fd ["_law_base_here", "_law_many", "_law_now", "_law_due"] spMask := by
  refine F.ok sc__law_mask (fun vs H Q E h => ?_) (fun cdv A outer s H vs Q E hr h => ?_)
  · obtain ⟨b, many, n, d, rfl, _⟩ := h
    rfl
  · obtain ⟨b, many, n, d, rfl, hb, hb64, hm1, hm60, hnd, hd, c⟩ := h
    have cb : ∀ x : Nat, NDiv x b := fun x => ndiv 7 (by omega) (by omega)
    have hb0 : 0 < b := by omega
    refine ⟨_, (pss_cons (ps_set (i := 4) sc__law_mask.nd rfl (.inl rfl) pe_int)
      (pss_cons (ps_set (i := 5) sc__law_mask.nd rfl (.inl rfl) pe_int)
      (pss_cons (ps_while PassesOwn.never (pt_cmpR op_ne (pv 2) (pv 3) (nomark _))
        (pss_cons (ps_if (pt_cmpR op_gt (pe_op op_remN (pv 3) (pv 0)) pe_int (nomark _))
          (pss_one (ps_set (i := 4) sc__law_mask.nd rfl (.inl rfl) (pe_op op_bxN (pv 4) (pe_op op_blN pe_int (pe_callB (min2N rfl) (by rfl) T.b_min (by decide +kernel) (pa_cons (pv 5) (pa_cons (pe_op op_subN (pv 1) pe_int) pa_nil)))))))
          pss_nil)
        (pss_cons (ps_set (i := 2) sc__law_mask.nd rfl (.inl rfl) (pe_op op_divN (pv 2) (pv 0)))
        (pss_cons (ps_set (i := 3) sc__law_mask.nd rfl (.inl rfl) (pe_op op_divN (pv 3) (pv 0)))
        (pss_one (ps_set (i := 5) sc__law_mask.nd rfl (.inl rfl) (pe_op op_addN (pv 5) pe_int)))))))
      (pss_one (ps_ret (pv 4)))))), ?_⟩
    refine while_by (fun σ H' => ∃ k : Nat, σ = [some (.int (b : Nat)), some (.int (many : Nat)), some (.int ((n / b ^ k : Nat) : Int)), some (.int ((d / b ^ k : Nat) : Int)), some (.int (maskW many b d k : Nat)), some (.int (k : Nat))] ∧ H' = H ∧ ∀ j, j < k → n / b ^ j ≠ d / b ^ j)
      (fun σ _ => slotInt σ 3) ⟨0, ?_, rfl, fun j hj => absurd hj (Nat.not_lt_zero j)⟩ ?_ ?_
    · rw [Nat.pow_zero, Nat.div_one, Nat.div_one]
      rfl
    · rintro σ H' ⟨k, rfl, rfl, hk⟩
      by_cases hne2 : n / b ^ k = d / b ^ k
      · refine ⟨_, rfl, _, rfl, rfl, false, nF (vE hne2), iteF ?_⟩
        have hk0 : k ≠ 0 := fun z => by
          rw [z, Nat.pow_zero, Nat.div_one, Nat.div_one] at hne2
          omega
        obtain ⟨j, rfl⟩ : ∃ j, k = j + 1 := ⟨k - 1, by omega⟩
        have hl : IsLev b n d j := ⟨hne2, fun i hi => hk (i + 1) (by omega)⟩
        refine ⟨_, rfl, c _ fun k' hk' => ?_⟩
        rw [hk'.uniq hl]
        exact mask_rows hl hnd
      · have h2 : n / b ^ k ≤ d / b ^ k := Nat.div_le_div_right (Nat.le_of_lt hnd)
        have hpos : 0 < d / b ^ k := pos_of h2 hne2
        refine ⟨_, rfl, _, rfl, rfl, true, nT (vN hne2), iteT ?_⟩
        have hlt : d / b ^ k / b < d / b ^ k := Nat.div_lt_self hpos (by omega)
        have fin : ∀ v : Nat, v = maskW many b d (k + 1) →
            (∃ k' : Nat, ([some (.int (b : Nat)), some (.int (many : Nat)), some (.int ((n / b ^ k / b : Nat) : Int)), some (.int ((d / b ^ k / b : Nat) : Int)), some (.int (v : Nat)), some (.int ((k + 1 : Nat) : Int))] : L2.St) = [some (.int (b : Nat)), some (.int (many : Nat)), some (.int ((n / b ^ k' : Nat) : Int)), some (.int ((d / b ^ k' : Nat) : Int)), some (.int (maskW many b d k' : Nat)), some (.int (k' : Nat))] ∧ H' = H' ∧ ∀ j, j < k' → n / b ^ j ≠ d / b ^ j) := by
          intro v ev
          refine ⟨k + 1, ?_, rfl, fun j hj => ?_⟩
          · rw [div_succ n b k, div_succ d b k, ev]
          · by_cases e : j = k
            · rw [e]
              exact hne2
            · exact hk j (by omega)
        have less : (((d / b ^ k / b : Nat) : Int)).toNat < (((d / b ^ k : Nat) : Int)).toNat := by
          rw [Int.toNat_natCast, Int.toNat_natCast]
          exact hlt
        by_cases h0 : d / b ^ k % b = 0
        · have hc : maskW many b d (k + 1) = maskW many b d k := by
            show (if d / b ^ k % b ≠ 0 then _ else _) = _
            rw [if_neg (fun z => z h0)]
          refine ⟨_, rfl, _, rfl, d / b ^ k, b, rfl, rfl, hb0, _, _, rfl, rfl, false, dF (by show ¬ ((d / b ^ k % b : Nat) : Int) > 0; rw [h0]; decide), iteF ?_⟩
          refine ⟨_, rfl, _, rfl, _, _, rfl, rfl, cb _, _, rfl, _, rfl, _, _, rfl, rfl, cb _, _, rfl, k, 1, rfl, rfl, trivial, ⟨fin _ (by rw [hc]), less⟩⟩
        · refine ⟨_, rfl, _, rfl, d / b ^ k, b, rfl, rfl, hb0, _, _, rfl, rfl, true, dT (show ((d / b ^ k % b : Nat) : Int) > 0 from Int.natCast_pos.mpr (Nat.pos_of_ne_zero h0)), iteT ?_⟩
          have hc : maskW many b d (k + 1) = maskW many b d k ^^^ 2 ^ min k (many - 1) := by
            show (if d / b ^ k % b ≠ 0 then _ else _) = _
            rw [if_pos h0]
          refine ⟨_, rfl, _, rfl, _, rfl, many, 1, rfl, rfl, hm1, k, many - 1, rfl, min k (many - 1), rfl, rfl, by omega, maskW many b d k, 2 ^ min k (many - 1), rfl, rfl, ?_⟩
          refine ⟨_, rfl, _, rfl, _, _, rfl, rfl, cb _, _, rfl, _, rfl, _, _, rfl, rfl, cb _, _, rfl, k, 1, rfl, rfl, trivial, ⟨fin _ hc.symm, less⟩⟩
    · rintro σ H' Q1 Q2 h ⟨x, hx, y, hy, hs, k, e, z⟩
      exact ⟨x, hx, y, hy, hs, k, e, h _ _ z⟩
theorem xor_par (a : Nat) (t : Bool) : (a % 2) ^^^ (if t = true then 1 else 0) = (a + if t = true then 1 else 0) % 2 := by
  rcases Nat.mod_two_eq_zero_or_one a with h | h <;> cases t
  · rw [h, if_neg Bool.false_ne_true, Nat.add_zero, h]; rfl
  · rw [h, if_pos rfl, show (a + 1) % 2 = 1 by omega]; rfl
  · rw [h, if_neg Bool.false_ne_true, Nat.add_zero, h]; rfl
  · rw [h, if_pos rfl, show (a + 1) % 2 = 0 by omega]; rfl
def spParity : Sp := fun vs H Q _ => ∃ (m : Nat) (l : List Nat), vs = [.int (m : Nat)] ∧ bitsB m l ∧ Asc l ∧ Q (.int ((l.length % 2 : Nat) : Int)) H
theorem ok_parity {f : Addr} {fd : FuncData} (F : Fun K "_law_parity" "_law_parity" s__law_parity f fd) : FnOk P w K mg base CX0 1 f fd ["_law_number"] spParity := by
  refine F.ok sc__law_parity (fun vs H Q E h => ?_) (fun cdv A outer s H vs Q E hr h => ?_)
  · obtain ⟨m, l, rfl, _⟩ := h
    rfl
  · obtain ⟨m, l, rfl, hm, ha, c⟩ := h
    refine ⟨_, (pss_cons (ps_set (i := 1) sc__law_parity.nd rfl (.inl rfl) pe_int)
      (pss_cons (ps_while PassesOwn.never (pt_cmpR op_gt (pv 0) pe_int (nomark _))
        (pss_cons (ps_set (i := 1) sc__law_parity.nd rfl (.inl rfl) (pe_op op_bxN (pv 1) (pe_op op_baN (pv 0) pe_int)))
        (pss_one (ps_set (i := 0) sc__law_parity.nd rfl (.inl rfl) (pe_op op_bsN (pv 0) pe_int)))))
      (pss_one (ps_ret (pv 1))))), ?_⟩
    refine while_by (fun σ H' => ∃ k : Nat, σ = [some (.int ((m / 2 ^ k : Nat) : Int)), some (.int ((((List.range k).filter m.testBit).length % 2 : Nat) : Int))] ∧ H' = H)
      (fun σ _ => slotInt σ 0) ⟨0, ?_, rfl⟩ ?_ ?_
    · rw [Nat.pow_zero, Nat.div_one]
      rfl
    · rintro σ H' ⟨k, rfl, rfl⟩
      by_cases h0 : m / 2 ^ k = 0
      · refine ⟨_, rfl, _, _, rfl, rfl, false, dF (by rw [h0]; decide), iteF ⟨_, rfl, ?_⟩⟩
        rw [bits_cnt hm ha (Nat.lt_of_div_eq_zero (Nat.pow_pos (by decide)) h0)]
        exact c
      · refine ⟨_, rfl, _, _, rfl, rfl, true, dT (Int.natCast_pos.mpr (Nat.pos_of_ne_zero h0)), iteT ?_⟩
        refine ⟨_, rfl, _, rfl, m / 2 ^ k, 1, rfl, rfl, _, _, rfl, rfl, _, rfl, m / 2 ^ k, 1, rfl, rfl, ⟨⟨k + 1, ?_, rfl⟩, ?_⟩⟩
        · have e1 : m / 2 ^ k / 2 ^ 1 = m / 2 ^ (k + 1) := by rw [Nat.div_div_eq_div_mul, ← Nat.pow_add]
          have e2 : ((List.range k).filter m.testBit).length % 2 ^^^ (m / 2 ^ k &&& 1) = ((List.range (k + 1)).filter m.testBit).length % 2 := by
            rw [bit_odd, xor_par, List.range_succ, List.filter_append, List.length_append]
            cases hb : m.testBit k with
            | true => rw [if_pos rfl, show [k].filter m.testBit = [k] by rw [List.filter_cons, hb]; rfl]; rfl
            | false => rw [if_neg Bool.false_ne_true, show [k].filter m.testBit = [] by rw [List.filter_cons, hb]; rfl]; rfl
          rw [e1, e2]
          rfl
        · show (((m / 2 ^ k / 2 ^ 1 : Nat) : Int)).toNat < (((m / 2 ^ k : Nat) : Int)).toNat
          rw [Int.toNat_natCast, Int.toNat_natCast, Nat.pow_one]
          exact Nat.div_lt_self (Nat.pos_of_ne_zero h0) (by decide)
    · rintro σ H' Q1 Q2 h ⟨x, hx, i, j, hi, hj, k, e, z⟩
      exact ⟨x, hx, i, j, hi, hj, k, e, h _ _ z⟩
end
theorem lev_exists {b n d : Nat} (hb : 2 ≤ b) (h : n < d) : ∃ k, IsLev b n d k := lev_any hb h
/-! ### law k30: the elimination by bits -/
def bI (b : Bool) : Nat := if b then 1 else 0
/-- the law's rows -/
structure RowsB (H : Hp) (kvs : List (Key × V)) (kn : Nat → Option Eqn) (tops : List Nat) : Prop where
  keys : kvs.map (·.1) = tops.map fun t => (Sum.inl ((t : Nat) : Int) : Key)
  nd : tops.Nodup
  mem : ∀ l, l ∈ tops ↔ (kn l).isSome = true
  non : ∀ l, kn l = none → valV kvs (.inl ((l : Nat) : Int)) = none
  som : ∀ l g, kn l = some g → ∃ (t : Addr) (m : Nat), valV kvs (.inl ((l : Nat) : Int)) = some (.ref t) ∧ H t = some (.tup [.int (m : Nat), .int (bI g.2 : Nat)]) ∧ bitsB m g.1
theorem RowsB.same {H H' : Hp} {kvs : List (Key × V)} {kn : Nat → Option Eqn} {tops : List Nat} (h : RowsB H kvs kn tops) (s : Same H H') : RowsB H' kvs kn tops :=
  ⟨h.keys, h.nd, h.mem, h.non, fun l g e => by
    obtain ⟨t, m, h1, h2, h3⟩ := h.som l g e
    exact ⟨t, m, h1, s _ _ h2, h3⟩⟩
theorem RowsB.put {H H' : Hp} {D u : Addr} {kvs : List (Key × V)} {kn : Nat → Option Eqn} {tops : List Nat} {l m : Nat} {e : Eqn} (h : RowsB H kvs kn tops) (hD : H D = some (.dK kvs)) (hl : kn l = none)
    (he : H' u = some (.tup [.int (m : Nat), .int (bI e.2 : Nat)])) (hb : bitsB m e.1) (s : ∀ c o, c ≠ D → H c = some o → H' c = some o) :
    RowsB H' (putK kvs (.inl ((l : Nat) : Int)) (.ref u)) (fun j => if j = l then some e else kn j) (tops ++ [l]) := by
  have nl : l ∉ tops := fun z => by
    have := (h.mem l).mp z
    rw [hl] at this
    cases this
  have key : ∀ j : Nat, j ≠ l → (Sum.inl ((j : Nat) : Int) : Key) ≠ .inl ((l : Nat) : Int) := fun j c z => c (Int.ofNat.inj (Sum.inl.inj z))
  refine ⟨?_, ?_, fun j => ?_, fun j hj => ?_, fun j g hj => ?_⟩
  · rw [putK_new _ (h.non l hl), List.map_append, List.map_append, h.keys]
    rfl
  · rw [List.nodup_append]
    refine ⟨h.nd, by simp, fun x hx y hy z => ?_⟩
    rw [List.mem_singleton] at hy
    exact nl (hy ▸ z ▸ hx)
  · rw [List.mem_append, List.mem_singleton, h.mem j]
    by_cases c : j = l
    · rw [if_pos c]
      exact ⟨fun _ => rfl, fun _ => .inr c⟩
    · rw [if_neg c]
      exact ⟨fun z => z.resolve_right c, .inl⟩
  · by_cases c : j = l
    · rw [if_pos c] at hj
      cases hj
    · rw [if_neg c] at hj
      rw [valV_put, if_neg (key j c)]
      exact h.non j hj
  · by_cases c : j = l
    · rw [if_pos c] at hj
      cases hj
      rw [c, valV_put, if_pos rfl]
      exact ⟨u, m, rfl, he, hb⟩
    · rw [if_neg c] at hj
      rw [valV_put, if_neg (key j c)]
      obtain ⟨t, m2, h1, h2, h3⟩ := h.som j g hj
      exact ⟨t, m2, h1, s _ _ (ne_of h2 hD fun z => by cases z) h2, h3⟩
theorem nat_sorted {ys : List Int} {tops : List Nat} (hp : ys.Perm (tops.map fun t => ((t : Nat) : Int))) (hs : ys.Pairwise (· ≤ ·)) (nd : tops.Nodup) : ∃ ks : List Nat, ys = ks.map (fun t => ((t : Nat) : Int)) ∧ Asc ks ∧ ∀ x, x ∈ ks ↔ x ∈ tops := by
  have e : ys = (ys.map Int.toNat).map fun t => ((t : Nat) : Int) := by
    rw [List.map_map]
    refine (List.map_id ys).symm.trans (List.map_congr_left fun y hy => ?_)
    obtain ⟨t, _, rfl⟩ := List.mem_map.mp (hp.mem_iff.mp hy)
    show ((t : Nat) : Int) = (((t : Nat) : Int).toNat : Nat)
    rw [Int.toNat_natCast]
  have p2 : (ys.map Int.toNat).Perm tops := by
    have z := hp.map Int.toNat
    rw [List.map_map] at z
    have e2 : tops.map (Int.toNat ∘ fun t : Nat => ((t : Nat) : Int)) = tops := by
      refine (List.map_congr_left fun t _ => ?_).trans (List.map_id tops)
      exact Int.toNat_natCast t
    rwa [e2] at z
  refine ⟨ys.map Int.toNat, e, ?_, fun x => p2.mem_iff⟩
  have h1 : (ys.map Int.toNat).Pairwise (· ≤ ·) := by
    rw [List.pairwise_map]
    exact hs.imp fun h => Int.toNat_le_toNat h
  have h2 : (ys.map Int.toNat).Pairwise (· ≠ ·) := p2.nodup_iff.mpr nd
  exact (h1.and h2).imp fun h => Nat.lt_of_le_of_ne h.1 h.2
/-- the equation that is left at a level -/
structure AtTop (kn : Nat → Option Eqn) (r e : Eqn) (m : Nat) (f : Nat) : Prop where
  bits : bitsB m e.1
  asc : Asc e.1
  lt : ∀ x ∈ e.1, x < f
  eq : r = red kn f e
section
variable {P : Program} {w : World} {K : PySem.W.Frag} {mg : Str → Option Value} {base : Heap}
def spBits (K : PySem.W.Frag) : Sp := fun vs H Q _ => ∃ (b many : Nat) (S : Addr) (ts : List Addr) (ss : List (Nat × Nat × Bool)), vs = [.int (b : Nat), .int (many : Nat), .ref S] ∧ 2 ≤ b ∧ b ≤ 64 ∧ 1 ≤ many ∧ many ≤ 60 ∧ SqL K H S (ts.map V.ref) ∧ SightsAt H ts ss ∧ ss.length ≤ 100 ∧ (∀ s ∈ ss, s.2.1 < 2 ^ 250) ∧
  ∀ H' u, Same H H' → SeenAt H' u (seenR b many ss) → Q (.ref u) H'
theorem ok_bits {f : Addr} {fd : FuncData} (F : Fun K "_law_by_bits" "_law_by_bits" s__law_by_bits f fd) (T : Tx K mg) (h1 : Has P w K mg base 1 "_law_mask" ["_law_base_here", "_law_many", "_law_now", "_law_due"] [] spMask) (h2 : Has P w K mg base 1 "_law_parity" ["_law_number"] [] spParity) :
    FnOk P w K mg base CX0 2 f fd ["_law_base_here", "_law_many", "_law_seen"] (spBits K) := by
  obtain ⟨f__law_mask, fd__law_mask, ds__law_mask, G__law_mask, m__law_mask, k__law_mask, b__law_mask, v__law_mask⟩ := h1
  obtain ⟨f__law_parity, fd__law_parity, ds__law_parity, G__law_parity, m__law_parity, k__law_parity, b__law_parity, v__law_parity⟩ := h2
  refine F.ok sc__law_by_bits (fun vs H Q E h => ?_) (fun cdv A outer s H vs Q E hr h => ?_)
  · obtain ⟨b, many, S, ts, ss, rfl, _⟩ := h
    rfl
  · obtain ⟨b, many, S, ts, ss, rfl, hb, hb64, hm1, hm60, hS, hss, h100, hbig, c⟩ := h
    have hu := hu_of hr
    refine ⟨_, (pss_cons (ps_set (i := 3) sc__law_by_bits.nd rfl (.inl rfl) pe_dnewK)
      (pss_cons (ps_for PassesOwn.never rfl (pi_enum1 (by rfl) T.b_enumerate (pa_cons (pv 2) (pa_cons pe_int pa_nil))) (pg_tupK (K := K) (n := 2) rfl rfl (pgs_cons (pg_name (i := 4) sc__law_by_bits.nd rfl (.inl rfl)) (pgs_cons (pg_tupK (K := K) (n := 3) rfl rfl (pgs_cons (pg_name (i := 5) sc__law_by_bits.nd rfl (.inl rfl)) (pgs_cons (pg_name (i := 6) sc__law_by_bits.nd rfl (.inl rfl)) (pgs_cons (pg_name (i := 7) sc__law_by_bits.nd rfl (.inl rfl)) pgs_nil)))) pgs_nil)))
        (pss_cons (ps_par (i := 8) (j := 9) (by rfl) sc__law_by_bits.nd rfl rfl (by decide) rfl rfl (pa_cons (pe_call G__law_mask hr (by rfl) m__law_mask k__law_mask b__law_mask v__law_mask pass0 (pa_cons (pv 0) (pa_cons (pv 1) (pa_cons (pv 5) (pa_cons (pv 6) pa_nil))))) (pa_cons (pe_callTy call_int1 (by rfl) T.b_int (by decide +kernel) (pa_cons (pe_cmpR op_eq (pv 7) pe_str (nomark _)) pa_nil)) pa_nil)) (by rfl))
        (pss_cons (ps_for PassesOwn.never rfl (pi_range3 (by rfl) T.b_range (pa_cons (pe_op op_subN (pv 1) pe_int) (pa_cons (pe_un un_neg pe_int) (pa_cons (pe_un un_neg pe_int) pa_nil)))) (pg_name (i := 10) sc__law_by_bits.nd rfl (.inl rfl))
          (pss_one (ps_if (PW.pt (pw_and (pt_cmpR op_eq (pe_op op_baN (pe_op op_bsN (pv 8) (pv 10)) pe_int) pe_int (nomark _)) (pw_and1 (pt_cmp (pc_din hu (pv 10) (pv 3))))))
            (pss_one (ps_par (i := 8) (j := 9) (by rfl) sc__law_by_bits.nd rfl rfl (by decide) rfl rfl (pa_cons (pe_op op_bxN (pv 8) (pe_ix (ix_tupK (K := K) rfl) (pe_dget hu (pv 3) (pv 10) (fun _ _ => rfl)) pe_int (fun _ _ => rfl))) (pa_cons (pe_op op_bxN (pv 9) (pe_ix (ix_tupK (K := K) rfl) (pe_dget hu (pv 3) (pv 10) (fun _ _ => rfl)) pe_int (fun _ _ => rfl))) pa_nil)) (by rfl)))
            (pss_one (ps_if (pt_cmpR op_eq (pe_op op_baN (pe_op op_bsN (pv 8) (pv 10)) pe_int) pe_int (nomark _))
              (pss_cons (ps_dput hu (pv 3) (pv 10) (pe_tup (pa_cons (pv 8) (pa_cons (pv 9) pa_nil))) rfl)
              (pss_one ps_break))
              pss_nil)))))
        (pss_one (ps_if (PW.pt (pw_and (pt_cmpR op_eq (pv 8) pe_int (nomark _)) (pw_and1 (pt_cmpR op_eq (pv 9) pe_int (nomark _)))))
          (pss_one (ps_ret (pe_tup (pa_cons pe_str (pa_cons (pv 4) pa_nil)))))
          pss_nil)))))
      (pss_cons (ps_set (i := 11) sc__law_by_bits.nd rfl (.inr rfl) pe_int)
      (pss_cons (ps_for PassesOwn.never rfl (pi_list (pe_callB (call_sortedDI rfl) (by rfl) T.b_sorted (by decide +kernel) (pa_cons (pv 3) pa_nil))) (pg_name (i := 10) sc__law_by_bits.nd rfl (.inl rfl))
        (pss_cons (ps_asg (pe_dget hu (pv 3) (pv 10) (fun _ _ => rfl)) (pg_tupK (K := K) (n := 2) rfl rfl (pgs_cons (pg_name (i := 8) sc__law_by_bits.nd rfl (.inl rfl)) (pgs_cons (pg_name (i := 9) sc__law_by_bits.nd rfl (.inl rfl)) pgs_nil))))
        (pss_one (ps_if (pt_cmpR op_ne (pv 9) (pe_call G__law_parity hr (by rfl) m__law_parity k__law_parity b__law_parity v__law_parity pass0 (pa_cons (pe_op op_baN (pv 8) (pv 11)) pa_nil)) (nomark _))
          (pss_one (ps_set (i := 11) sc__law_by_bits.nd rfl (.inr rfl) (pe_op op_boN (pv 11) (pe_op op_blN pe_int (pv 10)))))
          pss_nil))))
      (pss_cons (ps_setLc (i := 12) (own := [("_law_at", 13)]) (g := gName 13) (tt := tYes) rfl sc__law_by_bits.nd rfl rfl (sw_true rfl rfl rfl (by decide +kernel)) (pi_range1 (by rfl) T.b_range (pa_cons (pv 1) pa_nil)) (blkOk_by (own := [("_law_at", 13)]) (N := N__law_by_bits) (sc := defScope s__law_by_bits) (by decide +kernel)) (fun _ _ _ _ _ => (pg_name (i := 13) sc__law_by_bits.nd rfl (.inl rfl))) (fun _ _ _ _ _ => pts_nil) (fun _ _ _ _ _ => (pe_ix (ix_listK (K := K) rfl) (pe_lst (pa_cons pe_str (pa_cons pe_str pa_nil))) (pe_op op_baN (pe_op op_bsN (pv 11) (pv 13)) pe_int) (fun _ _ => rfl))))
      (pss_one (ps_ret (pe_tup (pa_cons pe_str (pa_cons (pv 12) (pa_cons (pe_op op_blN pe_int (pe_op op_subN (pv 1) (pe_callB call_lenD (by rfl) T.b_len PySem.boot_len (pa_cons (pv 3) pa_nil)))) pa_nil))))))))))), ?_⟩
    have hlen : (ts.map V.ref).length = ss.length := by rw [List.length_map]; exact hss.1
    refine fun D hD => ?_
    have sD := same_upd (o := .dK []) hD
    have eD := upd_same (H := H) (a := D) (o := .dK [])
    generalize upd H D (.dK []) = H1 at sD eD ⊢
    obtain ⟨es, hes⟩ : ∃ es, es = ss.map (eqnOf b many) := ⟨_, rfl⟩
    have esl : es.length = ss.length := by rw [hes, List.length_map]
    obtain ⟨R, hR⟩ : ∃ R, R = runE es 0 fun _ => none := ⟨_, rfl⟩
    have hR2 : R = runE (ss.map (eqnOf b many)) 0 fun _ => none := by rw [hR, hes]
    refine ⟨_, rfl, S, _, rfl, sD.seq hS, for_enum1 (K := K) (a := S) (xs := ts.map V.ref) (fun i σ H' => ∃ (kvs : List (Key × V)) (kn : Nat → Option Eqn) (tops : List Nat) (y4 y5 y6 y7 y8 y9 y10 y11 y12 y13 : Option V), σ = [some (.int (b : Nat)), some (.int (many : Nat)), some (.ref S), some (.ref D), y4, y5, y6, y7, y8, y9, y10, y11, y12, y13] ∧ Same H H' ∧ H' D = some (.dK kvs) ∧ RowsB H' kvs kn tops ∧ KnOk many kn ∧
        runE (es.drop i) i kn = R)
      ⟨[], fun _ => none, [], none, none, none, none, none, none, none, none, none, none, rfl, sD, eD, ⟨rfl, List.nodup_nil, fun l => ⟨fun z => (by cases z), fun z => (by cases z)⟩, fun _ _ => rfl, fun _ _ h => (by cases h)⟩, fun l g h => (by cases h), hR.symm⟩ (fun i σ H' ⟨_, _, _, _, _, _, _, _, _, _, _, _, _, _, sm, _⟩ => sm.seq hS) ?_ ?_⟩
    · rintro i x U σ H' hx ⟨kvs, kn, tops, y4, y5, y6, y7, y8, y9, y10, y11, y12, y13, rfl, sm, hDk, hRw, hOk, hrun⟩ hU
      obtain ⟨t, ht, rfl⟩ : ∃ t, ts[i]? = some t ∧ x = V.ref t := by
        rw [List.getElem?_map] at hx
        cases e : ts[i]? with
        | none => rw [e] at hx; cases hx
        | some t => rw [e] at hx; exact ⟨t, rfl, (Option.some.inj hx).symm⟩
      have hit := (List.getElem?_eq_some_iff.mp ht).1
      have his : i < ss.length := by rw [← hss.1]; exact hit
      obtain ⟨s, hs⟩ : ∃ s, ss[i]? = some s := ⟨_, List.getElem?_eq_getElem his⟩
      obtain ⟨n, d, fr⟩ := s
      have ⟨hst, hnd⟩ := hss.2 i t _ ht hs
      have hd := hbig _ (List.mem_of_getElem? hs)
      have sU := same_upd (o := .tup [.int ((i + 1 : Nat) : Int), .ref t]) hU
      have eU := upd_same (H := H') (a := U) (o := .tup [.int ((i + 1 : Nat) : Int), .ref t])
      have sm := sm.trans sU
      have hDk := sU _ _ hDk
      have hRw := hRw.same sU
      generalize upd H' U (.tup [.int ((i + 1 : Nat) : Int), .ref t]) = H2 at sU eU sm hDk hRw ⊢
      refine ⟨U, _, rfl, .inl (.inl eU), rfl, _, _, rfl, _, _, rfl, t, _, rfl, .inl (.inl (sm _ _ hst)), rfl, _, _, rfl, _, _, rfl, _, _, rfl, rfl, rfl, ?_⟩
      obtain ⟨e, hee⟩ : ∃ e, e = eqnOf b many (n, d, fr) := ⟨_, rfl⟩
      have ⟨ea, el⟩ := eqnOf_asc (b := b) (s := (n, d, fr)) hm1
      rw [← hee] at ea el
      have hdrop : es.drop i = e :: es.drop (i + 1) := by
        have hei : es[i]? = some e := by rw [hes, List.getElem?_map, hs, hee]; rfl
        rw [List.drop_eq_getElem_cons (List.getElem?_eq_some_iff.mp hei).1, (List.getElem?_eq_some_iff.mp hei).2]
      rw [hdrop] at hrun
      obtain ⟨k, hk⟩ := lev_exists (b := b) (n := n) (d := d) hb hnd
      have hefr : e.2 = fr := by
        rw [hee, eqnOf_eq (s := (n, d, fr)) hk]
      have he1 : e.1 = eqLv many (rowsOf b n d k) := by
        rw [hee, eqnOf_eq (s := (n, d, fr)) hk]
      have ⟨ra, rl, rk⟩ := red_ok hm60 hOk 64 e ea el (fun x hx => by have := el x hx; omega)
      obtain ⟨r, hr'⟩ : ∃ r, r = red kn 64 e := ⟨_, rfl⟩
      unfold runE at hrun
      rw [← hr'] at ra rl rk hrun
      refine ⟨_, rfl, _, rfl, _, rfl, _, rfl, b, many, n, d, rfl, hb, hb64, hm1, hm60, hnd, hd, fun m hm => ?_⟩
      have hm := hm k hk
      rw [← he1] at hm
      refine ⟨_, rfl, rfl, .inr ⟨_, rfl, _, _, rfl, ?_⟩⟩
      have hodd : (if decide (sideV fr = V.str "front") = true then (1 : Int) else 0) = ((bI e.2 : Nat) : Int) := by
        rw [hefr]
        cases fr <;> rfl
      rw [hodd]
      have rg : RgC ((many - 1 : Nat) : Int) (-1) (-1) many := by
        have z := RgC.neg (i := ((many - 1 : Nat) : Int)) (j := -1) (by omega) (by omega) (by decide) (by decide)
        rwa [show (((many - 1 : Nat) : Int) - -1).toNat = many by omega] at z
      refine ⟨_, rfl, many, 1, rfl, rfl, hm1, 1, rfl, 1, rfl, ((many - 1 : Nat) : Int), -1, -1, many, rfl, rg, ?_⟩
      apply cut_at (α := L2.St) (I := fun σ G => ∃ (kvs' : List (Key × V)) (kn' : Nat → Option Eqn) (tops' : List Nat) (m' o' : Nat) (y10' : Option V), σ = [some (.int (b : Nat)), some (.int (many : Nat)), some (.ref S), some (.ref D), some (.int ((i + 1 : Nat) : Int)), some (.int (n : Nat)), some (.int (d : Nat)), some (sideV fr), some (.int (m' : Nat)), some (.int (o' : Nat)), y10', y11, y12, y13] ∧ Same H G ∧ G D = some (.dK kvs') ∧ RowsB G kvs' kn' tops' ∧ KnOk many kn' ∧ ((m' = 0 ∧ o' = 1 ∧ R = .inl (i + 1)) ∨ (¬ (m' = 0 ∧ o' = 1) ∧ runE (es.drop (i + 1)) (i + 1) kn' = R)))
      · intro rest
        refine for_rangeC (Pv := fun j σ G => ∃ (e' : Eqn) (m' : Nat) (y10' : Option V), σ = [some (.int (b : Nat)), some (.int (many : Nat)), some (.ref S), some (.ref D), some (.int ((i + 1 : Nat) : Int)), some (.int (n : Nat)), some (.int (d : Nat)), some (sideV fr), some (.int (m' : Nat)), some (.int (bI e'.2 : Nat)), y10', y11, y12, y13] ∧ G = H2 ∧ AtTop kn r e' m' (many - j))
          ⟨e, m, y10, rfl, rfl, hm, ea, el, ?_⟩ ?_ (fun σ G p => rest σ G ?_)
        · have z := red_le hm60 hOk ea el el (64 - many)
          rw [show many + (64 - many) = 64 by omega] at z
          rw [hr', z]
          rfl
        · rintro j σ G hj ⟨e', m', y10', rfl, rfl, hat⟩
          have etop : ((many - 1 : Nat) : Int) + (j : Nat) * (-1) = ((many - 1 - j : Nat) : Int) := by omega
          rw [etop]
          obtain ⟨tp, htp⟩ : ∃ tp, tp = many - 1 - j := ⟨_, rfl⟩
          have hf : many - j = tp + 1 := by omega
          have hf2 : many - (j + 1) = tp := by omega
          rw [← htp]
          rw [hf] at hat
          rw [hf2]
          have hbit := hat.bits tp
          have htm : tp < many := by omega
          by_cases hmem : tp ∈ e'.1
          · have hlast : e'.1.getLast? = some tp := by
              cases hl : e'.1.getLast? with
              | none => rw [List.getLast?_eq_none_iff.mp hl] at hmem; cases hmem
              | some x =>
                have z := hat.asc.last hl
                have z1 := hat.lt x z.1
                have z2 := z.2 tp hmem
                rw [show x = tp by omega]
            have b1 : m' / 2 ^ tp &&& 1 = 1 := by rw [bit_odd, hbit, decide_eq_true hmem, if_pos rfl]
            refine ⟨_, rfl, _, rfl, m', tp, rfl, rfl, m' / 2 ^ tp, 1, rfl, rfl, rfl, true, dT (by rw [b1]; rfl), iteT ?_⟩
            have dg := DGet.k (k := Sum.inl ((tp : Nat) : Int)) hDk
            refine ⟨_, rfl, _, rfl, D, _, rfl, dg, ?_⟩
            cases hkt : kn tp with
            | none =>
              rw [hRw.non tp hkt]
              refine ⟨false, rfl, iteF ?_⟩
              refine ⟨_, rfl, _, rfl, m', tp, rfl, rfl, m' / 2 ^ tp, 1, rfl, rfl, rfl, true, dT (by rw [b1]; rfl), iteT ?_⟩
              have tl : tops.length ≤ 64 := by
                refine Nat.le_trans (nat_nodup_len tops (List.range 64) hRw.nd fun x hx => ?_) (by rw [List.length_range]; exact Nat.le_refl _)
                have z := (hRw.mem x).mp hx
                cases c2 : kn x with
                | none => rw [c2] at z; cases z
                | some g =>
                  have := (hOk x g c2).2.2
                  exact List.mem_range.mpr (by omega)
              have kl : kvs.length = tops.length := by
                have z := congrArg List.length hRw.keys
                rwa [List.length_map, List.length_map] at z
              refine ⟨_, rfl, _, rfl, by simp [sizeLine_eq], fun u3 hu3 => ?_⟩
              have s5 := same_upd (o := .tup [.int (m' : Nat), .int (bI e'.2 : Nat)]) hu3
              have e5 := upd_same (H := G) (a := u3) (o := .tup [.int (m' : Nat), .int (bI e'.2 : Nat)])
              have sm5 := sm.trans s5
              have hDk5 := s5 _ _ hDk
              have hRw5 := hRw.same s5
              generalize upd G u3 (.tup [.int (m' : Nat), .int (bI e'.2 : Nat)]) = H5 at s5 e5 sm5 hDk5 hRw5 ⊢
              have keep : ∀ c o, c ≠ D → H5 c = some o → (upd H5 D (.dK (putK kvs (.inl ((tp : Nat) : Int)) (.ref u3)))) c = some o := fun c o n e => by
                rw [upd_ne n]
                exact e
              refine ⟨_, rfl, _, rfl, D, _, rfl, DPut.k (k := Sum.inl ((tp : Nat) : Int)) hDk5 (Nat.lt_of_le_of_lt (Nat.le_of_eq kl) (Nat.lt_of_le_of_lt tl (by rw [sizeLine_eq]; decide))), ?_⟩
              have er : r = e' := hat.eq.trans (red_stop hlast hkt _)
              rw [er, hlast] at hrun
              refine rest _ _ ⟨_, fun j => if j = tp then some e' else kn j, tops ++ [tp], m', bI e'.2, _, rfl, fun c o e => ?_, upd_same, hRw5.put hDk5 hkt (keep _ _ (ne_of e5 hDk5 fun z => by cases z) e5) hat.bits keep, fun j g hg => ?_, .inr ⟨fun z => bits_pos hat.bits hmem z.1, hrun⟩⟩
              · rw [upd_ne (ne_of_none e hD)]
                exact sm5 _ _ e
              · dsimp only at hg
                by_cases c : j = tp
                · rw [if_pos c] at hg
                  cases hg
                  rw [c]
                  exact ⟨hat.asc, hlast, htm⟩
                · rw [if_neg c] at hg
                  exact hOk j g hg
            | some g =>
              obtain ⟨tg, mg', hv, htg, hbg⟩ := hRw.som tp g hkt
              rw [hv] at dg ⊢
              refine ⟨true, rfl, iteT ?_⟩
              have hstep := hat.eq
              rw [red_step hlast hkt] at hstep
              have ⟨g1, g2, g3⟩ := hOk tp g hkt
              have hgl := hOk.lt hkt
              have less := sym_less hat.asc g1 hlast g2 (by omega)
              refine ⟨_, rfl, _, rfl, _, rfl, D, .ref tg, rfl, dg, tg, _, 0, _, rfl, rfl, .inl (.inl htg), atI_nat (j := 0) rfl, m', mg', rfl, rfl, _, rfl, _, rfl, _, rfl, D, .ref tg, rfl, dg, tg, _, 1, _, rfl, rfl, .inl (.inl htg), atI_nat (j := 1) rfl, bI e'.2, bI g.2, rfl, rfl, _, _, rfl, ?_⟩
              refine ⟨(symL e'.1 g.1, e'.2 != g.2), m' ^^^ mg', some (.int (tp : Nat)), ?_, rfl, ⟨bits_xor hat.bits hbg (fun x hx => by have := hat.lt x hx; omega) (fun x hx => by have := hgl x hx; omega), sym_asc _ _, less, hstep⟩⟩
              have eb : bI e'.2 ^^^ bI g.2 = bI (e'.2 != g.2) := by cases e'.2 <;> cases g.2 <;> rfl
              rw [eb]
              rfl
          · have b1 : m' / 2 ^ tp &&& 1 = 0 := by rw [bit_odd, hbit, decide_eq_false hmem, if_neg Bool.false_ne_true]
            have fls : ¬ (V.int ((m' / 2 ^ tp &&& 1 : Nat) : Int)) = V.int 1 := fun z => by
              rw [b1] at z
              cases z
            refine ⟨_, rfl, _, rfl, m', tp, rfl, rfl, m' / 2 ^ tp, 1, rfl, rfl, rfl, false, dF fls, iteF (iteF ?_)⟩
            refine ⟨_, rfl, _, rfl, m', tp, rfl, rfl, m' / 2 ^ tp, 1, rfl, rfl, rfl, false, dF fls, iteF ?_⟩
            refine ⟨e', m', _, rfl, rfl, hat.bits, hat.asc, fun x hx => ?_, ?_⟩
            · have := hat.lt x hx
              have : x ≠ tp := fun z => hmem (z ▸ hx)
              omega
            · rw [hat.eq]
              exact red_low hm60 hOk tp e' hat.asc (fun x hx => by have := hat.lt x hx; omega) (fun x hx => by
                have := hat.lt x hx
                have : x ≠ tp := fun z => hmem (z ▸ hx)
                omega)
        · obtain ⟨e', m', y10', rfl, rfl, hat⟩ := p
          have hat : AtTop kn r e' m' 0 := by
            have := hat
            rwa [Nat.sub_self] at this
          have e0 : e'.1 = [] := List.eq_nil_iff_forall_not_mem.mpr fun x hx => Nat.not_lt_zero x (hat.lt x hx)
          have er : r = e' := hat.eq
          have m0 : m' = 0 := bits_zero (by have := hat.bits; rwa [e0] at this)
          refine ⟨kvs, kn, tops, m', bI e'.2, y10', rfl, sm, hDk, hRw, hOk, ?_⟩
          rw [er, e0] at hrun
          dsimp only [List.getLast?_nil] at hrun
          cases h2 : e'.2 with
          | true =>
            rw [h2, if_pos rfl] at hrun
            exact .inl ⟨m0, rfl, hrun.symm⟩
          | false =>
            rw [h2, if_neg Bool.false_ne_true] at hrun
            exact .inr ⟨fun z => absurd z.2 (by decide), hrun⟩
      clear hrun hRw hDk hOk hm hk
      rintro σ G ⟨kvs', kn', tops', m', o', y10', rfl, sm', hDk', hRw', hOk', hcase⟩
      rcases hcase with ⟨m0, o1, hRi⟩ | ⟨hno, hrun⟩
      · refine ⟨_, rfl, rfl, true, dT (by rw [m0]; rfl), iteT ?_⟩
        refine ⟨_, rfl, rfl, true, dT (by rw [o1]; rfl), iteT ⟨_, rfl, by simp [sizeLine_eq], fun u3 hu3 => ?_⟩⟩
        refine c _ u3 (sm'.trans (same_upd hu3)) ?_
        rw [seenR_inl (hR2.symm.trans hRi)]
        exact upd_same
      · by_cases m0 : m' = 0
        · refine ⟨_, rfl, rfl, true, dT (by rw [m0]; rfl), iteT ?_⟩
          refine ⟨_, rfl, rfl, false, dF (fun z => hno ⟨m0, Int.ofNat.inj (V.int.inj z)⟩), iteF ?_⟩
          exact ⟨kvs', kn', tops', _, _, _, _, _, _, y10', y11, y12, y13, rfl, sm', hDk', hRw', hOk', hrun⟩
        · refine ⟨_, rfl, rfl, false, dF (fun z => m0 (Int.ofNat.inj (V.int.inj z))), iteF (iteF ?_)⟩
          exact ⟨kvs', kn', tops', _, _, _, _, _, _, y10', y11, y12, y13, rfl, sm', hDk', hRw', hOk', hrun⟩
    · rintro σ H' ⟨kvs, kn, tops, y4, y5, y6, y7, y8, y9, y10, y11, y12, y13, rfl, sm, hDk, hRw, hOk, hrun⟩
      rw [hlen, ← esl, List.drop_length] at hrun
      have hRr : R = .inr kn := hrun.symm
      have tl : tops.length ≤ 60 := by
        refine Nat.le_trans (nat_nodup_len tops (List.range 60) hRw.nd fun x hx => ?_) (by rw [List.length_range]; exact Nat.le_refl _)
        have z := (hRw.mem x).mp hx
        cases c2 : kn x with
        | none => rw [c2] at z; cases z
        | some g =>
          have := (hOk x g c2).2.2
          exact List.mem_range.mpr (by omega)
      have kl : kvs.length = tops.length := by
        have z := congrArg List.length hRw.keys
        rwa [List.length_map, List.length_map] at z
      refine ⟨_, rfl, D, kvs, tops.map fun t => ((t : Nat) : Int), rfl, .inl hDk, by rw [List.map_map]; exact hRw.keys, by rw [List.length_map]; omega, fun ys p hperm hsort hp => ?_⟩
      obtain ⟨ks, rfl, ka, km⟩ := nat_sorted hperm hsort hRw.nd
      have km2 : ∀ l, l ∈ ks ↔ (kn l).isSome = true := fun l => (km l).trans (hRw.mem l)
      have sp := same_upd (o := .lst ((ks.map fun t => ((t : Nat) : Int)).map V.int)) hp
      have ep : (upd H' p (.lst ((ks.map fun t => ((t : Nat) : Int)).map V.int))) p = some (.lst (ks.map fun t => V.int (t : Nat))) := by rw [upd_same, List.map_map]; rfl
      have sm2 := sm.trans sp
      have hDk2 := sp _ _ hDk
      have hRw2 := hRw.same sp
      generalize upd H' p (.lst ((ks.map fun t => ((t : Nat) : Int)).map V.int)) = H2 at sp ep sm2 hDk2 hRw2 ⊢
      obtain ⟨W, hW⟩ : ∃ W, W = (leastW kn many).1 := ⟨_, rfl⟩
      have hWl : W.length = many := by rw [hW, least_len]
      refine ⟨p, rfl, ⟨_, SqL.of ep⟩, for_list (K := K) (a := p) (xs := ks.map fun t => V.int (t : Nat)) (fun i σ G => ∃ (s : Nat) (z8 z9 z10 : Option V), σ = [some (.int (b : Nat)), some (.int (many : Nat)), some (.ref S), some (.ref D), y4, y5, y6, y7, z8, z9, z10, some (.int (s : Nat)), y12, y13] ∧ G = H2 ∧ ∀ j, s.testBit j = (decide (j ∈ ks.take i) && wf W j))
        ⟨0, y8, y9, y10, rfl, rfl, fun j => ?_⟩ (fun i σ G _ ⟨_, _, _, _, _, eG, _⟩ => by rw [eG]; exact SqL.of ep) ?_ ?_⟩
      · rw [Nat.zero_testBit]
        rfl
      · rintro i x σ G hx ⟨s, z8, z9, z10, rfl, rfl, hs⟩
        obtain ⟨t, ht, rfl⟩ : ∃ t, ks[i]? = some t ∧ x = V.int (t : Nat) := by
          rw [List.getElem?_map] at hx
          cases e : ks[i]? with
          | none => rw [e] at hx; cases hx
          | some t => rw [e] at hx; exact ⟨t, rfl, (Option.some.inj hx).symm⟩
        have hkt : (kn t).isSome = true := (km2 t).mp (List.mem_of_getElem? ht)
        obtain ⟨g, hg⟩ : ∃ g, kn t = some g := Option.isSome_iff_exists.mp hkt
        obtain ⟨tg, mg', hv, htg, hbg⟩ := hRw2.som t g hg
        have dg := DGet.k (k := Sum.inl ((t : Nat) : Int)) hDk2
        rw [hv] at dg
        have ⟨g1, g2, g3⟩ := hOk t g hg
        have key := stack_bit hOk ka km2 ht hg (by rw [← hW]; exact hs)
        rw [← hW] at key
        have step : ∀ s' : Nat, (∀ j, s'.testBit j = (s.testBit j || (decide (t = j) && wf W t))) → ∀ j, s'.testBit j = (decide (j ∈ ks.take (i + 1)) && wf W j) := fun s' h j => by
          rw [h j, hs j, List.take_add_one, ht]
          by_cases c : t = j
          · rw [← c, decide_eq_true (show t ∈ ks.take i ++ (some t).toList from List.mem_append.mpr (.inr (by simp))), decide_eq_true rfl, Bool.true_and]
            cases wf W t <;> simp
          · rw [decide_eq_false c, Bool.false_and, Bool.or_false]
            congr 1
            refine decide_eq_decide.mpr ?_
            rw [List.mem_append]
            refine ⟨.inl, fun z => z.elim id fun z => ?_⟩
            have : j = t := by simpa using z
            exact absurd this.symm c
        refine ⟨_, rfl, _, rfl, D, .ref tg, rfl, dg, tg, _, rfl, .inl (.inl htg), rfl, _, _, rfl, _, _, rfl, rfl, ?_⟩
        refine ⟨_, rfl, _, rfl, _, rfl, mg', s, rfl, rfl, mg' &&& s, g.1.filter s.testBit, rfl, bits_and hbg, g1.filter _, rfl, ?_⟩
        have hpar : par s.testBit g.1 = decide ((g.1.filter s.testBit).length % 2 = 1) := rfl
        have hq : (g.1.filter s.testBit).length % 2 < 2 := Nat.mod_lt _ (by decide)
        generalize (g.1.filter s.testBit).length % 2 = q at hpar hq
        rw [hpar] at key
        cases hWt : wf W t with
        | true =>
          rw [hWt] at key step
          have hne : bI g.2 ≠ q := fun z => by
            cases e2 : g.2 with
            | false => rw [e2] at z key; rw [decide_eq_false (show ¬ q = 1 from fun y => by rw [y] at z; cases z)] at key; cases key
            | true => rw [e2] at z key; rw [decide_eq_true (show q = 1 from z.symm)] at key; cases key
          refine ⟨true, nT (vN hne), iteT ?_⟩
          refine ⟨_, rfl, _, rfl, t, rfl, rfl, by omega, s, 2 ^ t, rfl, rfl, ?_⟩
          exact ⟨s ||| 2 ^ t, _, _, _, rfl, rfl, step _ fun j => by rw [Nat.testBit_or, Nat.testBit_two_pow, Bool.and_true]⟩
        | false =>
          rw [hWt] at key step
          have heq : bI g.2 = q := by
            cases e2 : g.2 with
            | false =>
              rw [e2] at key
              have : ¬ q = 1 := fun y => by rw [y] at key; cases key
              show 0 = q
              omega
            | true =>
              rw [e2] at key
              refine (Decidable.byContradiction fun y => ?_ : q = 1).symm
              rw [decide_eq_false y] at key
              cases key
          refine ⟨false, nF (vE heq), iteF ?_⟩
          exact ⟨s, _, _, _, rfl, rfl, step _ fun j => by rw [Bool.and_false, Bool.or_false]⟩
      · rintro σ G ⟨s, z8, z9, z10, rfl, rfl, hs⟩
        rw [List.length_map, List.take_length] at hs
        have hs2 : ∀ j, j < many → s.testBit j = wf W j := fun j hj => by
          rw [hs j]
          cases e : wf W j with
          | false => exact Bool.and_false _
          | true =>
            have : j ∈ ks := (km2 j).mpr (by
              unfold wf at e
              rw [hW, least_get hj] at e
              cases z : kn j with
              | none => rw [z] at e; cases e
              | some g => rfl)
            rw [decide_eq_true this]
            rfl
        have kl2 : ks.length = kvs.length := by
          have z := hperm.length_eq
          rw [List.length_map, List.length_map] at z
          omega
        have ⟨pw, pl⟩ := least_pow hOk ka km2
        rw [kl2] at pw pl
        refine ⟨_, rfl, (many : Nat), rfl, by omega, by omega, fun G0 hG0 => lc_range (lo := 0) (n := ((many : Nat) : Int).toNat) (fun i G' => Same G G' ∧ G' G0 = some (.lst ((W.take i).map lvV))) ⟨same_upd hG0, upd_same⟩ ?_ ?_⟩
        · rintro i G' hi ⟨sg, eG⟩
          rw [Int.toNat_natCast] at hi
          refine ⟨rfl, yesT (iteT ?_)⟩
          refine ⟨by simp [sizeLine_eq], fun l hl => ?_⟩
          have ei : V.int ((0 : Int) + ((i : Nat) : Int)) = V.int ((i : Nat) : Int) := by congr 1; omega
          have eb : s / 2 ^ i &&& 1 = if wf W i = true then 1 else 0 := by rw [bit_odd, hs2 i hi]
          have hv : ([V.str "queue", V.str "stack"] : List V)[s / 2 ^ i &&& 1]? = some (lvV (wf W i)) := by
            rw [eb]
            cases wf W i <;> rfl
          refine ⟨_, rfl, _, rfl, s, i, rfl, ei, s / 2 ^ i, 1, rfl, rfl, l, _, _, _, rfl, rfl, SqL.of upd_same, atI_nat hv, ?_⟩
          have nl : G0 ≠ l := ne_of_none eG hl
          refine ⟨_, by rw [upd_ne nl]; exact eG, ?_, fun c o e => ?_, ?_⟩
          · rw [List.length_map, List.length_take]
            exact sizeLine_ge (by omega)
          · rw [upd_ne (ne_of_none e hG0), upd_ne (ne_of_none (sg _ _ e) hl)]
            exact sg _ _ e
          · rw [upd_same, List.take_add_one, List.map_append, List.getElem?_eq_getElem (by omega)]
            have : W[i]'(by omega) = wf W i := by
              unfold wf
              rw [List.getD_eq_getElem?_getD, List.getElem?_eq_getElem (by omega)]
              rfl
            rw [this]
            rfl
        · rintro G' ⟨sg, eG⟩
          rw [Int.toNat_natCast, ← hWl, List.take_length] at eG
          refine ⟨_, rfl, _, rfl, _, rfl, D, kvs, rfl, sg _ _ hDk2, many, kvs.length, rfl, rfl, pl, many - kvs.length, rfl, rfl, by omega, by simp [sizeLine_eq], fun u hu => ?_⟩
          have s9 := same_upd (o := .tup [.str "levels", .ref G0, .int ((2 ^ (many - kvs.length) : Nat) : Int)]) hu
          refine c _ u ((sm2.trans sg).trans s9) ?_
          rw [seenR_inr (hR2.symm.trans hRr)]
          refine ⟨G0, ?_, s9 _ _ ?_⟩
          · rw [pw]
            exact upd_same
          · rw [eG, hW]
end
/-! ### levels as data -/
def lvD (b : Bool) : PyData := if b then .str "stack" else .str "queue"
theorem lvs_dp {K : PySem.W.Frag} {H : Hp} : ∀ ws : List Bool, DpAll K H (ws.map lvV) (ws.map lvD)
  | [] => .nil
  | true :: r => .cons (.str _) (lvs_dp r)
  | false :: r => .cons (.str _) (lvs_dp r)
theorem lvs_lay : ∀ ws : List Bool, PyData.canLayAll0 (ws.map lvD) = true
  | [] => rfl
  | b :: r => by
    show ((lvD b).canLay0 && PyData.canLayAll0 (r.map lvD)) = true
    rw [lvs_lay r]
    cases b <;> decide +kernel
theorem lvs_depth : ∀ ws : List Bool, PyData.depthAll (ws.map lvD) = 0
  | [] => rfl
  | b :: r => by
    show max (lvD b).depth (PyData.depthAll (r.map lvD)) = 0
    rw [lvs_depth r]
    cases b <;> rfl
theorem lvs_shaped (ws : List Bool) : SeqAt.shaped (.list (ws.map lvD)) = true := by
  have h1 : (PyData.list (ws.map lvD)).canLay0 = true := by
    show PyData.canLayAll0 _ = true
    exact lvs_lay ws
  have h2 : (PyData.list (ws.map lvD)).depth ≤ 64 := by
    show PyData.depthAll _ + 1 ≤ 64
    rw [lvs_depth ws]
    decide
  unfold SeqAt.shaped
  rw [h1, decide_eq_true h2]
  rfl
/-! ### law k30: answers, lists of words and sightings as data -/
def seenD : Nat ⊕ (List Bool × Nat) → PyData
  | .inl k => .tuple [.str "none", .int (k : Nat)]
  | .inr r => .tuple [.str "levels", .list (r.1.map lvD), .int (r.2 : Nat)]
theorem seen_dp {K : PySem.W.Frag} {H : Hp} {p : Addr} : ∀ {r : Nat ⊕ (List Bool × Nat)}, SeenAt H p r → Dp K H (.ref p) (seenD r)
  | .inl _, h => .tup (SqT.of h) (.cons (.str _) (.cons (.int _) .nil))
  | .inr _, ⟨q, h1, h2⟩ => .tup (SqT.of h1) (.cons (.str _) (.cons (.lst (SqL.of h2) (lvs_dp _)) (.cons (.int _) .nil)))
def AnsOk (D : PyData) : Prop := SeqAt.shaped D = true ∧ D.canLay0 = true
theorem ans_of {D : PyData} (h1 : D.canLay0 = true) (h2 : D.depth ≤ 64) : AnsOk D := by
  refine ⟨?_, h1⟩
  unfold SeqAt.shaped
  rw [h1, decide_eq_true h2]
  rfl
theorem seen_ok : ∀ r, AnsOk (seenD r)
  | .inl k => by
    refine ans_of ?_ ?_
    · simp [seenD, PyData.canLay0, PyData.canLayAll0]
      decide +kernel
    · show max 0 (max 0 0) + 1 ≤ 64
      decide
  | .inr r => by
    refine ans_of ?_ ?_
    · show ((PyData.str "levels").canLay0 && (PyData.canLayAll0 (r.1.map lvD) && ((PyData.int (r.2 : Nat)).canLay0 && true))) = true
      rw [lvs_lay]
      simp [PyData.canLay0]
      decide +kernel
    · show max 0 (max (PyData.depthAll (r.1.map lvD) + 1) (max 0 0)) + 1 ≤ 64
      rw [lvs_depth]
      decide
/-- lists of words in the heap -/
def LsAt (H : Hp) (as : List Addr) (rs : List (List Bool)) : Prop := as.length = rs.length ∧ ∀ (j : Nat) (a : Addr) (r : List Bool), as[j]? = some a → rs[j]? = some r → H a = some (.lst (r.map lvV))
theorem LsAt.same {H H' : Hp} {as : List Addr} {rs : List (List Bool)} (h : LsAt H as rs) (s : Same H H') : LsAt H' as rs := ⟨h.1, fun j a r h1 h2 => s _ _ (h.2 j a r h1 h2)⟩
theorem LsAt.nil {H : Hp} : LsAt H [] [] := ⟨rfl, fun j a r h => by simp at h⟩
theorem LsAt.snoc {H : Hp} {as : List Addr} {rs : List (List Bool)} {a : Addr} {r : List Bool} (h : LsAt H as rs) (ha : H a = some (.lst (r.map lvV))) : LsAt H (as ++ [a]) (rs ++ [r]) := by
  refine ⟨by rw [List.length_append, List.length_append, h.1]; rfl, fun j b q h1 h2 => ?_⟩
  by_cases c : j < as.length
  · rw [List.getElem?_append_left c] at h1
    rw [List.getElem?_append_left (by rw [← h.1]; exact c)] at h2
    exact h.2 j b q h1 h2
  · rw [List.getElem?_append_right (by omega)] at h1
    rw [List.getElem?_append_right (by rw [← h.1]; omega), ← h.1] at h2
    have e : j - as.length = 0 := by
      cases z : j - as.length with
      | zero => rfl
      | succ n => rw [z] at h1; simp at h1
    rw [e] at h1 h2
    cases h1
    cases h2
    exact ha
def llD (rs : List (List Bool)) : PyData := .list (rs.map fun r => .list (r.map lvD))
theorem ls_all {K : PySem.W.Frag} {H : Hp} : ∀ {as : List Addr} {rs : List (List Bool)}, LsAt H as rs → DpAll K H (as.map V.ref) (rs.map fun r => .list (r.map lvD))
  | [], [], _ => .nil
  | a :: as, r :: rs, h => .cons (.lst (SqL.of (h.2 0 a r rfl rfl)) (lvs_dp r)) (ls_all ⟨Nat.succ.inj h.1, fun j b q h1 h2 => h.2 (j + 1) b q h1 h2⟩)
  | [], _ :: _, h => absurd h.1 (by simp)
  | _ :: _, [], h => absurd h.1 (by simp)
theorem ll_ok (rs : List (List Bool)) : AnsOk (llD rs) := by
  have key : ∀ rs : List (List Bool), PyData.canLayAll0 (rs.map fun r => PyData.list (r.map lvD)) = true ∧ PyData.depthAll (rs.map fun r => PyData.list (r.map lvD)) ≤ 1 := fun rs => by
    induction rs with
    | nil => exact ⟨rfl, Nat.zero_le _⟩
    | cons r rs ih =>
      refine ⟨?_, ?_⟩
      · show (PyData.canLayAll0 (r.map lvD) && PyData.canLayAll0 (rs.map fun r => PyData.list (r.map lvD))) = true
        rw [lvs_lay, ih.1]
        rfl
      · show max (PyData.depthAll (r.map lvD) + 1) (PyData.depthAll (rs.map fun r => PyData.list (r.map lvD))) ≤ 1
        rw [lvs_depth]
        have := ih.2
        omega
  refine ans_of (key rs).1 ?_
  show PyData.depthAll _ + 1 ≤ 64
  have := (key rs).2
  omega
theorem nil_ok : AnsOk (.list []) := ans_of rfl (by decide)
theorem ll_nil (rs : List (List Bool)) : PyData.eqv (llD rs) (.list []) = decide (rs = []) := by
  cases rs with
  | nil => rfl
  | cons r rs => rfl
/-- sightings as data -/
def sideD (f : Bool) : PyData := .str (if f then "front" else "back")
def sgD (s : Nat × Nat × Bool) : PyData := .tuple [.int (s.1 : Nat), .int (s.2.1 : Nat), sideD s.2.2]
def ssD (ss : List (Nat × Nat × Bool)) : PyData := .list (ss.map sgD)
theorem ss_all {K : PySem.W.Frag} {H : Hp} : ∀ {ts : List Addr} {ss : List (Nat × Nat × Bool)}, SightsAt H ts ss → DpAll K H (ts.map V.ref) (ss.map sgD)
  | [], [], _ => .nil
  | a :: as, r :: rs, h => .cons (.tup (SqT.of (h.2 0 a r rfl rfl).1) (.cons (.int _) (.cons (.int _) (.cons (.str _) .nil)))) (ss_all ⟨Nat.succ.inj h.1, fun j b q h1 h2 => h.2 (j + 1) b q h1 h2⟩)
  | [], _ :: _, h => absurd h.1 (by simp)
  | _ :: _, [], h => absurd h.1 (by simp)
theorem ss_ok (ss : List (Nat × Nat × Bool)) : AnsOk (ssD ss) := by
  have key : ∀ ss : List (Nat × Nat × Bool), PyData.canLayAll0 (ss.map sgD) = true ∧ PyData.depthAll (ss.map sgD) ≤ 1 := fun ss => by
    induction ss with
    | nil => exact ⟨rfl, Nat.zero_le _⟩
    | cons s ss ih =>
      refine ⟨?_, ?_⟩
      · show ((PyData.int (s.1 : Nat)).canLay0 && ((PyData.int (s.2.1 : Nat)).canLay0 && ((sideD s.2.2).canLay0 && true)) && PyData.canLayAll0 (ss.map sgD)) = true
        rw [ih.1]
        cases s.2.2 <;> simp [PyData.canLay0, sideD] <;> decide +kernel
      · show max (max 0 (max 0 (max (sideD s.2.2).depth 0)) + 1) (PyData.depthAll (ss.map sgD)) ≤ 1
        have := ih.2
        have e : (sideD s.2.2).depth = 0 := by cases s.2.2 <;> rfl
        rw [e]
        omega
  refine ans_of (key ss).1 ?_
  show PyData.depthAll _ + 1 ≤ 64
  have := (key ss).2
  omega
theorem ss_nil (ss : List (Nat × Nat × Bool)) : PyData.eqv (ssD ss) (.list []) = decide (ss = []) := by
  cases ss with
  | nil => rfl
  | cons r rs => rfl
/-! ### law k30: all lists gone through -/
def twoL (r : List Bool) : List (List Bool) := [r ++ [false], r ++ [true]]
section
variable {P : Program} {w : World} {K : PySem.W.Frag} {mg : Str → Option Value} {base : Heap}
def spGone (K : PySem.W.Frag) : Sp := fun vs H Q _ => ∃ (b many : Nat) (S : Addr) (ts : List Addr) (ss : List (Nat × Nat × Bool)), vs = [.int (b : Nat), .int (many : Nat), .ref S] ∧ 2 ≤ b ∧ b ≤ 64 ∧ 1 ≤ many ∧ many ≤ 6 ∧ SqL K H S (ts.map V.ref) ∧ SightsAt H ts ss ∧ ss.length ≤ 100 ∧ (∀ s ∈ ss, s.2.1 < 2 ^ 250) ∧
  ∀ H' u, Same H H' → SeenAt H' u (seenR b many ss) → Q (.ref u) H'
theorem ok_gone {f : Addr} {fd : FuncData} (F : Fun K "_law_gone_through" "_law_gone_through" s__law_gone_through f fd) (T : Tx K mg) (h1 : Has P w K mg base 1 "_law_is_front" ["_law_base_here", "_law_levels", "_law_now", "_law_due"] [] (spLawFront K)) :
    FnOk P w K mg base CX0 2 f fd ["_law_base_here", "_law_many", "_law_seen"] (spGone K) := by
  obtain ⟨f__law_is_front, fd__law_is_front, ds__law_is_front, G__law_is_front, m__law_is_front, k__law_is_front, b__law_is_front, v__law_is_front⟩ := h1
  refine F.ok sc__law_gone_through (fun vs H Q E h => ?_) (fun cdv A outer s H vs Q E hr h => ?_)
  · obtain ⟨b, many, S, ts, ss, rfl, _⟩ := h
    rfl
  · obtain ⟨b, many, S, ts, ss, rfl, hb, hb64, hm1, hm6, hS, hss, h100, hbig, c⟩ := h
    have hm60 : many ≤ 60 := by omega
    refine ⟨_, (pss_cons (ps_set (i := 3) sc__law_gone_through.nd rfl (.inl rfl) (pe_lst (pa_cons (pe_lst pa_nil) pa_nil)))
      (pss_cons (ps_for PassesOwn.never rfl (pi_range1 (by rfl) T.b_range (pa_cons (pv 1) pa_nil)) (pg_name (i := 4) sc__law_gone_through.nd rfl (.inl rfl))
        (pss_cons (ps_set (i := 5) sc__law_gone_through.nd rfl (.inl rfl) (pe_lst pa_nil))
        (pss_cons (ps_for PassesOwn.never rfl (pi_list (pv 3)) (pg_name (i := 6) sc__law_gone_through.nd rfl (.inl rfl))
          (pss_one (ps_set (i := 5) sc__law_gone_through.nd rfl (.inl rfl) (pe_op op_cat (pv 5) (pe_lst (pa_cons (pe_op op_cat (pv 6) (pe_lst (pa_cons pe_str pa_nil))) (pa_cons (pe_op op_cat (pv 6) (pe_lst (pa_cons pe_str pa_nil))) pa_nil)))))))
        (pss_one (ps_set (i := 3) sc__law_gone_through.nd rfl (.inl rfl) (pv 5))))))
      (pss_cons (ps_for PassesOwn.never rfl (pi_enum1 (by rfl) T.b_enumerate (pa_cons (pv 2) (pa_cons pe_int pa_nil))) (pg_tupK (K := K) (n := 2) rfl rfl (pgs_cons (pg_name (i := 7) sc__law_gone_through.nd rfl (.inl rfl)) (pgs_cons (pg_tupK (K := K) (n := 3) rfl rfl (pgs_cons (pg_name (i := 8) sc__law_gone_through.nd rfl (.inr rfl)) (pgs_cons (pg_name (i := 9) sc__law_gone_through.nd rfl (.inr rfl)) (pgs_cons (pg_name (i := 10) sc__law_gone_through.nd rfl (.inr rfl)) pgs_nil)))) pgs_nil)))
        (pss_cons (ps_setLc (i := 3) (own := [("_law_row", 6)]) (g := gName 6)  rfl sc__law_gone_through.nd rfl rfl (sw_true rfl rfl rfl (by decide +kernel)) (pi_list (pv 3)) (blkOk_by (own := [("_law_row", 6)]) (N := N__law_gone_through) (sc := defScope s__law_gone_through) (by decide +kernel)) (fun _ _ _ _ _ => (pg_name (i := 6) sc__law_gone_through.nd rfl (.inl rfl))) (fun _ _ _ _ _ => (pts_one (pt_cmpR op_eq (pe_call G__law_is_front hr (by rfl) m__law_is_front k__law_is_front b__law_is_front v__law_is_front pass0 (pa_cons (pv 0) (pa_cons (pv 6) (pa_cons (pv 8) (pa_cons (pv 9) pa_nil))))) (pe_cmpR op_eq (pv 10) pe_str (nomark _)) (nomark _)))) (fun _ _ _ _ _ => (pv 6)))
        (pss_one (ps_if (pt_cmpR (op_eqK (K := K) rfl hr.units) (pv 3) (pe_lst pa_nil) (nomark _))
          (pss_one (ps_ret (pe_tup (pa_cons pe_str (pa_cons (pv 7) pa_nil)))))
          pss_nil))))
      (pss_one (ps_ret (pe_tup (pa_cons pe_str (pa_cons (pe_ix (ix_listK (K := K) rfl) (pv 3) pe_int (fun _ _ => rfl)) (pa_cons (pe_callB (lenK (K := K) rfl) (by rfl) T.b_len PySem.boot_len (pa_cons (pv 3) pa_nil)) pa_nil))))))))), ?_⟩
    have hlen : (ts.map V.ref).length = ss.length := by rw [List.length_map]; exact hss.1
    refine ⟨by simp [sizeLine_eq], fun l0 hl0 => ⟨by simp [sizeLine_eq], fun l1 hl1 => ?_⟩⟩
    have s0 := same_upd (o := .lst []) hl0
    have e0 : (upd H l0 (.lst [])) l0 = some (.lst []) := upd_same
    generalize upd H l0 (.lst []) = H0 at s0 e0 hl1 ⊢
    have s1 := same_upd (o := .lst [.ref l0]) hl1
    have e1 : (upd H0 l1 (.lst [.ref l0])) l1 = some (.lst [.ref l0]) := upd_same
    have sm1 := s0.trans s1
    have ls1 : LsAt (upd H0 l1 (.lst [.ref l0])) [l0] [[]] := LsAt.snoc (as := []) (rs := []) LsAt.nil (s1 _ _ e0)
    generalize upd H0 l1 (.lst [.ref l0]) = H1 at s1 e1 sm1 ls1 ⊢
    -- all lists
    refine ⟨_, rfl, (many : Nat), rfl, by omega, by omega, for_range (lo := 0) (n := ((many : Nat) : Int).toNat) (Pv := fun i σ H' => ∃ (q : Addr) (as : List Addr) (y4 y5 y6 y7 y8 y9 y10 : Option V), σ = [some (.int (b : Nat)), some (.int (many : Nat)), some (.ref S), some (.ref q), y4, y5, y6, y7, y8, y9, y10] ∧ Same H H' ∧ H' q = some (.lst (as.map V.ref)) ∧ LsAt H' as (lexL i))
      ⟨l1, [l0], none, none, none, none, none, none, none, rfl, sm1, e1, ls1⟩ ?_ ?_⟩
    · rintro i σ H' hi ⟨q, as, y4, y5, y6, y7, y8, y9, y10, rfl, sm, eq, ls⟩
      rw [Int.toNat_natCast] at hi
      have acnt : as.length = 2 ^ i := by rw [ls.1, lex_cnt]
      have a32 : 2 ^ i ≤ 32 := Nat.le_trans (Nat.pow_le_pow_right (by decide) (show i ≤ 5 by omega)) (by decide)
      refine ⟨by simp [sizeLine_eq], fun l2 hl2 => ?_⟩
      have s2 := same_upd (o := .lst []) hl2
      have e2 : (upd H' l2 (.lst [])) l2 = some (.lst (([] : List Addr).map V.ref)) := upd_same
      have sm2 := sm.trans s2
      have eq2 := s2 _ _ eq
      have ls2 := ls.same s2
      generalize upd H' l2 (.lst []) = H2 at s2 e2 sm2 eq2 ls2 ⊢
      refine ⟨_, rfl, q, rfl, ⟨_, SqL.of eq2⟩, for_list (K := K) (a := q) (xs := as.map V.ref) (fun j σ G => ∃ (q5 : Addr) (as5 : List Addr) (z6 : Option V), σ = [some (.int (b : Nat)), some (.int (many : Nat)), some (.ref S), some (.ref q), some (.int ((0 : Int) + (i : Nat))), some (.ref q5), z6, y7, y8, y9, y10] ∧ Same H2 G ∧ G q5 = some (.lst (as5.map V.ref)) ∧ LsAt G as5 (((lexL i).take j).flatMap twoL))
        ⟨l2, [], y6, rfl, fun _ _ e => e, e2, LsAt.nil⟩ (fun j σ G _ ⟨_, _, _, _, sg, _⟩ => SqL.of (sg _ _ eq2)) ?_ ?_⟩
      · rintro j x σ G hx ⟨q5, as5, z6, rfl, sg, e5, ls5⟩
        obtain ⟨a, ha, rfl⟩ : ∃ a, as[j]? = some a ∧ x = V.ref a := by
          rw [List.getElem?_map] at hx
          cases e : as[j]? with
          | none => rw [e] at hx; cases hx
          | some t => rw [e] at hx; exact ⟨t, rfl, (Option.some.inj hx).symm⟩
        have hj := (List.getElem?_eq_some_iff.mp ha).1
        have hjl : j < (lexL i).length := by rw [← ls.1]; exact hj
        obtain ⟨r, hrr⟩ : ∃ r, (lexL i)[j]? = some r := ⟨_, List.getElem?_eq_getElem hjl⟩
        have ea := sg _ _ (ls2.2 j a r ha hrr)
        have rl := lex_len i r (List.mem_of_getElem? hrr)
        have l5l : as5.length ≤ 64 := by
          have key : ∀ L : List (List Bool), (L.flatMap twoL).length = 2 * L.length := fun L => by
            induction L with
            | nil => rfl
            | cons x L ih => rw [List.flatMap_cons, List.length_append, ih]; show 2 + 2 * L.length = 2 * (L.length + 1); omega
          rw [ls5.1, key, List.length_take]
          omega
        refine ⟨_, rfl, _, rfl, by simp [sizeLine_eq], fun l3 hl3 => ?_⟩
        have s3 := same_upd (o := .lst [.str "queue"]) hl3
        have e3 : (upd G l3 (.lst [.str "queue"])) l3 = some (.lst [.str "queue"]) := upd_same
        generalize upd G l3 (.lst [.str "queue"]) = G3 at s3 e3 ⊢
        refine ⟨a, l3, _, _, rfl, rfl, s3 _ _ ea, e3, ?_, fun l4 hl4 => ?_⟩
        · rw [List.length_map, rl]
          exact sizeLine_le (by show i + 1 ≤ 1000000; omega)
        have s4 := same_upd (o := .lst (r.map lvV ++ [.str "queue"])) hl4
        have e4 : (upd G3 l4 (.lst (r.map lvV ++ [.str "queue"]))) l4 = some (.lst ((r ++ [false]).map lvV)) := by rw [upd_same, List.map_append]; rfl
        generalize upd G3 l4 (.lst (r.map lvV ++ [.str "queue"])) = G4 at s4 e4 ⊢
        have s34 := s3.trans s4
        refine ⟨_, rfl, by simp [sizeLine_eq], fun l5 hl5 => ?_⟩
        have s5 := same_upd (o := .lst [.str "stack"]) hl5
        have e5' : (upd G4 l5 (.lst [.str "stack"])) l5 = some (.lst [.str "stack"]) := upd_same
        generalize upd G4 l5 (.lst [.str "stack"]) = G5 at s5 e5' ⊢
        have s35 := s34.trans s5
        refine ⟨a, l5, _, _, rfl, rfl, s35 _ _ ea, e5', ?_, fun l6 hl6 => ?_⟩
        · rw [List.length_map, rl]
          exact sizeLine_le (by show i + 1 ≤ 1000000; omega)
        have s6 := same_upd (o := .lst (r.map lvV ++ [.str "stack"])) hl6
        have e6 : (upd G5 l6 (.lst (r.map lvV ++ [.str "stack"]))) l6 = some (.lst ((r ++ [true]).map lvV)) := by rw [upd_same, List.map_append]; rfl
        generalize upd G5 l6 (.lst (r.map lvV ++ [.str "stack"])) = G6 at s6 e6 ⊢
        have s36 := s35.trans s6
        refine ⟨by simp [sizeLine_eq], fun l7 hl7 => ?_⟩
        have s7 := same_upd (o := .lst [.ref l4, .ref l6]) hl7
        have e7 : (upd G6 l7 (.lst [.ref l4, .ref l6])) l7 = some (.lst [.ref l4, .ref l6]) := upd_same
        generalize upd G6 l7 (.lst [.ref l4, .ref l6]) = G7 at s7 e7 ⊢
        have s37 := s36.trans s7
        refine ⟨q5, l7, _, _, rfl, rfl, s37 _ _ e5, e7, ?_, fun l8 hl8 => ?_⟩
        · rw [List.length_map]
          exact sizeLine_le (by show as5.length + 2 ≤ 1000000; omega)
        have s8 := same_upd (o := .lst (as5.map V.ref ++ [.ref l4, .ref l6])) hl8
        have e8 : (upd G7 l8 (.lst (as5.map V.ref ++ [.ref l4, .ref l6]))) l8 = some (.lst ((as5 ++ [l4] ++ [l6]).map V.ref)) := by rw [upd_same, List.map_append, List.map_append, List.append_assoc]; rfl
        generalize upd G7 l8 (.lst (as5.map V.ref ++ [.ref l4, .ref l6])) = G8 at s8 e8 ⊢
        have s38 := s37.trans s8
        refine ⟨l8, as5 ++ [l4] ++ [l6], _, rfl, sg.trans s38, e8, ?_⟩
        have ef : ((lexL i).take (j + 1)).flatMap twoL = (((lexL i).take j).flatMap twoL ++ [r ++ [false]]) ++ [r ++ [true]] := by
          rw [List.take_add_one, hrr, List.flatMap_append, List.append_assoc]
          rfl
        rw [ef]
        exact LsAt.snoc (LsAt.snoc (ls5.same s38) ((((s5.trans s6).trans s7).trans s8) _ _ e4)) ((s7.trans s8) _ _ e6)
      · rintro σ G ⟨q5, as5, z6, rfl, sg, e5, ls5⟩
        rw [List.length_map, ls.1, List.take_length] at ls5
        exact ⟨_, rfl, q5, as5, _, _, _, y7, y8, y9, y10, rfl, sm2.trans sg, e5, ls5⟩
    · rintro σ H' ⟨q, as, y4, y5, y6, y7, y8, y9, y10, rfl, sm, eq, ls⟩
      rw [Int.toNat_natCast] at ls
      obtain ⟨es, hes⟩ : ∃ es, es = ss.map (eqnOf b many) := ⟨_, rfl⟩
      have esl : es.length = ss.length := by rw [hes, List.length_map]
      have hgs := gone_seen (b := b) hm1 hm60 ss
      rw [← hes] at hgs
      obtain ⟨R, hR⟩ : ∃ R, R = seenR b many ss := ⟨_, rfl⟩
      rw [← hR] at hgs
      have lmem : ∀ r ∈ lexL many, r.length = many := lex_len many
      have lcnt : (lexL many).length ≤ 64 := by
        rw [lex_cnt]
        exact Nat.le_trans (Nat.pow_le_pow_right (by decide) hm6) (by decide)
      have lne0 : lexL many ≠ [] := fun z => by
        have z2 := lex_cnt many
        rw [z] at z2
        have := Nat.pow_pos (n := many) (show 0 < 2 by decide)
        have z3 : 0 = 2 ^ many := z2
        omega
      generalize lexL many = L0 at ls hgs lmem lcnt lne0
      refine ⟨_, rfl, S, _, rfl, sm.seq hS, for_enum1 (K := K) (a := S) (xs := ts.map V.ref) (fun i σ G => ∃ (q : Addr) (as : List Addr) (L : List (List Bool)) (y4 y5 y6 y7 y8 y9 y10 : Option V), σ = [some (.int (b : Nat)), some (.int (many : Nat)), some (.ref S), some (.ref q), y4, y5, y6, y7, y8, y9, y10] ∧ Same H G ∧ G q = some (.lst (as.map V.ref)) ∧ LsAt G as L ∧ (∀ r ∈ L, r.length = many) ∧ L.length ≤ 64 ∧ L ≠ [] ∧ goneR (es.drop i) i L = R)
        ⟨q, as, L0, y4, y5, y6, y7, y8, y9, y10, rfl, sm, eq, ls, lmem, lcnt, lne0, hgs⟩ (fun i σ G ⟨_, _, _, _, _, _, _, _, _, _, _, sg, _⟩ => sg.seq hS) ?_ ?_⟩
      · rintro i x U σ G hx ⟨q, as, L, y4, y5, y6, y7, y8, y9, y10, rfl, sm, eq, ls, lmem, lcnt, _, hg⟩ hU
        obtain ⟨t, ht, rfl⟩ : ∃ t, ts[i]? = some t ∧ x = V.ref t := by
          rw [List.getElem?_map] at hx
          cases e : ts[i]? with
          | none => rw [e] at hx; cases hx
          | some t => rw [e] at hx; exact ⟨t, rfl, (Option.some.inj hx).symm⟩
        have hit := (List.getElem?_eq_some_iff.mp ht).1
        have his : i < ss.length := by rw [← hss.1]; exact hit
        obtain ⟨s, hs⟩ : ∃ s, ss[i]? = some s := ⟨_, List.getElem?_eq_getElem his⟩
        obtain ⟨n, d, fr⟩ := s
        have ⟨hst, hnd⟩ := hss.2 i t _ ht hs
        have hd := hbig _ (List.mem_of_getElem? hs)
        have sU := same_upd (o := .tup [.int ((i + 1 : Nat) : Int), .ref t]) hU
        have eU := upd_same (H := G) (a := U) (o := .tup [.int ((i + 1 : Nat) : Int), .ref t])
        have sm := sm.trans sU
        have eq := sU _ _ eq
        have ls := ls.same sU
        generalize upd G U (.tup [.int ((i + 1 : Nat) : Int), .ref t]) = G2 at sU eU sm eq ls ⊢
        refine ⟨U, _, rfl, .inl (.inl eU), rfl, _, _, rfl, _, _, rfl, t, _, rfl, .inl (.inl (sm _ _ hst)), rfl, _, _, rfl, _, _, rfl, _, _, rfl, rfl, rfl, ?_⟩
        obtain ⟨e, hee⟩ : ∃ e, e = eqnOf b many (n, d, fr) := ⟨_, rfl⟩
        have hdrop : es.drop i = e :: es.drop (i + 1) := by
          have hei : es[i]? = some e := by rw [hes, List.getElem?_map, hs, hee]; rfl
          rw [List.drop_eq_getElem_cons (List.getElem?_eq_some_iff.mp hei).1, (List.getElem?_eq_some_iff.mp hei).2]
        rw [hdrop] at hg
        unfold goneR at hg
        obtain ⟨k, hk⟩ := lev_exists (b := b) (n := n) (d := d) hb hnd
        have hsat : ∀ r ∈ L, satE r e = (frontOf r 0 (rowsOf b n d k) == fr) := fun r hr => by
          unfold satE
          rw [hee, eqnOf_eq (s := (n, d, fr)) hk, front_par, lmem r hr]
        refine ⟨_, rfl, q, rfl, ⟨_, SqL.of eq⟩, fun Gl hGl => lc_list (K := K) (a := q) (xs := as.map V.ref) (fun j G' => ∃ as2 : List Addr, Same G2 G' ∧ G' Gl = some (.lst (as2.map V.ref)) ∧ LsAt G2 as2 ((L.take j).filter (satE · e)))
          ⟨[], same_upd hGl, upd_same, LsAt.nil⟩ (fun j G' _ ⟨_, sg, _⟩ => SqL.of (sg _ _ eq)) ?_ ?_⟩
        · rintro j x G' hx ⟨as2, sg, eG, ls2⟩
          obtain ⟨a, ha, rfl⟩ : ∃ a, as[j]? = some a ∧ x = V.ref a := by
            rw [List.getElem?_map] at hx
            cases e : as[j]? with
            | none => rw [e] at hx; cases hx
            | some t => rw [e] at hx; exact ⟨t, rfl, (Option.some.inj hx).symm⟩
          have hj := (List.getElem?_eq_some_iff.mp ha).1
          have hjl : j < L.length := by rw [← ls.1]; exact hj
          obtain ⟨r, hrr⟩ : ∃ r, L[j]? = some r := ⟨_, List.getElem?_eq_getElem hjl⟩
          have ea := sg _ _ (ls.2 j a r ha hrr)
          have rmem := List.mem_of_getElem? hrr
          have rl := lmem r rmem
          have rne : r ≠ [] := fun z => by rw [z] at rl; have : 0 = many := rl; omega
          have a2l : as2.length ≤ 64 := by
            rw [ls2.1]
            refine Nat.le_trans (List.length_filter_le _ _) ?_
            rw [List.length_take]
            omega
          refine ⟨rfl, ?_⟩
          refine ⟨_, rfl, _, rfl, _, rfl, _, rfl, b, n, d, a, r, rfl, hb, hb64, hnd, hd, SqL.of ea, rne, fun k' hk' => ?_⟩
          rw [hk'.uniq hk]
          have hv := hsat r rmem
          have hcmp : V.bl (decide (V.bl (frontOf r 0 (rowsOf b n d k)) = V.bl (decide (sideV fr = V.str "front")))) = V.bl (satE r e) := by
            rw [hv]
            cases frontOf r 0 (rowsOf b n d k) <;> cases fr <;> rfl
          have hsc : scal (sideV fr) (V.str "front") = true := by cases fr <;> rfl
          have tk : (L.take (j + 1)).filter (satE · e) = (L.take j).filter (satE · e) ++ if satE r e = true then [r] else [] := by
            rw [List.take_add_one, hrr, List.filter_append]
            congr 1
            show [r].filter _ = _
            rw [List.filter_cons]
            rfl
          refine ⟨_, rfl, hsc, rfl, _, hcmp, ?_⟩
          cases hse : satE r e with
          | true =>
            rw [hse, if_pos rfl] at tk
            refine iteT ⟨_, rfl, _, eG, ?_, as2 ++ [a], fun c o e => ?_, ?_, ?_⟩
            · rw [List.length_map]
              exact sizeLine_ge (by omega)
            · rw [upd_ne (ne_of_none e hGl)]
              exact sg _ _ e
            · rw [upd_same, List.map_append]
              rfl
            · rw [tk]
              exact ls2.snoc (ls.2 j a r ha hrr)
          | false =>
            rw [hse, if_neg Bool.false_ne_true, List.append_nil] at tk
            refine iteF ⟨as2, sg, eG, ?_⟩
            rw [tk]
            exact ls2
        · rintro G' ⟨as2, sg, eG, ls2⟩
          rw [List.length_map, ls.1, List.take_length] at ls2
          have sm2 := sm.trans sg
          refine ⟨_, rfl, by simp [sizeLine_eq], fun l9 hl9 => ?_⟩
          have s9 := same_upd (o := .lst []) hl9
          have e9 : (upd G' l9 (.lst [])) l9 = some (.lst []) := upd_same
          have sm3 := sm2.trans s9
          have eG3 := s9 _ _ eG
          have ls3 := (ls2.same sg).same s9
          generalize upd G' l9 (.lst []) = G3 at s9 e9 sm3 eG3 ls3 ⊢
          have l2m : ∀ r ∈ L.filter (satE · e), r.length = many := fun r hr => lmem r (List.mem_filter.mp hr).1
          have l2c : (L.filter (satE · e)).length ≤ 64 := Nat.le_trans (List.length_filter_le _ _) lcnt
          generalize L.filter (satE · e) = L2 at hg ls3 ls2 l2m l2c
          refine ⟨llD L2, .list [], .lst (SqL.of eG3) (ls_all ls3), .lst (SqL.of e9) .nil, (ll_ok L2).1, nil_ok.1, decide (L2 = []), congrArg V.bl (ll_nil L2), ?_⟩
          by_cases c0 : L2 = []
          · rw [if_pos c0] at hg
            rw [decide_eq_true c0]
            refine iteT ⟨_, rfl, by simp [sizeLine_eq], fun u3 hu3 => ?_⟩
            refine c _ u3 (sm3.trans (same_upd hu3)) ?_
            rw [← hR, ← hg]
            exact upd_same
          · rw [if_neg c0] at hg
            rw [decide_eq_false c0]
            exact iteF ⟨Gl, as2, L2, _, _, _, _, _, _, _, rfl, sm3, eG3, ls3, l2m, l2c, c0, hg⟩
      · rintro σ G ⟨q, as, L, y4, y5, y6, y7, y8, y9, y10, rfl, sm, eq, ls, lmem, lcnt, lne, hg⟩
        rw [hlen, ← esl, List.drop_length] at hg
        have hgr : R = .inr (L.headD [], L.length) := hg.symm
        obtain ⟨r0, L', rfl⟩ : ∃ r0 L', L = r0 :: L' := by
          cases L with
          | nil => exact absurd rfl lne
          | cons r L => exact ⟨r, L, rfl⟩
        obtain ⟨a0, as', rfl⟩ : ∃ a0 as', as = a0 :: as' := by
          cases as with
          | nil => exact absurd ls.1 (by simp)
          | cons a as => exact ⟨a, as, rfl⟩
        have e0' := ls.2 0 a0 r0 rfl rfl
        refine ⟨_, rfl, q, _, 0, _, rfl, rfl, SqL.of eq, atI_nat (j := 0) rfl, _, rfl, q, _, rfl, .inl (SqL.of eq), by simp [sizeLine_eq], fun u hu => ?_⟩
        have elen : (((a0 :: as').map V.ref).length : Int) = (((r0 :: L').length : Nat) : Int) := by rw [List.length_map, ls.1]
        rw [elen] at *
        have s9 := same_upd (o := .tup [.str "levels", .ref a0, .int (((r0 :: L').length : Nat) : Int)]) hu
        refine c _ u (sm.trans s9) ?_
        rw [← hR, hgr]
        exact ⟨a0, upd_same, s9 _ _ e0'⟩
end
/-! ### law k30: the sightings that the law draws -/
theorem SightsAt.frame {H H' : Hp} {ts : List Addr} {ss : List (Nat × Nat × Bool)} (h : SightsAt H ts ss) (s : ∀ t xs, H t = some (.tup xs) → H' t = some (.tup xs)) : SightsAt H' ts ss := ⟨h.1, fun j t x h1 h2 => ⟨s _ _ (h.2 j t x h1 h2).1, (h.2 j t x h1 h2).2⟩⟩
theorem SightsAt.stp {H H' : Hp} {p : Addr} {ts : List Addr} {ss : List (Nat × Nat × Bool)} (h : SightsAt H ts ss) (hp : SrcAt H p) (s : Stp p H H') : SightsAt H' ts ss := h.frame fun t xs e => s.keep _ _ (fun z => by
  obtain ⟨a, b, c, e2⟩ := hp
  rw [z, e2] at e
  cases e) e
theorem SightsAt.snoc {H : Hp} {ts : List Addr} {ss : List (Nat × Nat × Bool)} {t : Addr} {n d : Nat} {f : Bool} (h : SightsAt H ts ss) (ht : H t = some (.tup [.int (n : Nat), .int (d : Nat), sideV f])) (hl : n < d) : SightsAt H (ts ++ [t]) (ss ++ [(n, d, f)]) := by
  refine ⟨by rw [List.length_append, List.length_append, h.1]; rfl, fun j b q h1 h2 => ?_⟩
  by_cases c : j < ts.length
  · rw [List.getElem?_append_left c] at h1
    rw [List.getElem?_append_left (by rw [← h.1]; exact c)] at h2
    exact h.2 j b q h1 h2
  · rw [List.getElem?_append_right (by omega)] at h1
    rw [List.getElem?_append_right (by rw [← h.1]; omega), ← h.1] at h2
    have e : j - ts.length = 0 := by
      cases z : j - ts.length with
      | zero => rfl
      | succ n => rw [z] at h1; simp at h1
    rw [e] at h1 h2
    cases h1
    cases h2
    exact ⟨ht, hl⟩
theorem SightsAt.set {H : Hp} {ts : List Addr} {ss : List (Nat × Nat × Bool)} {t : Addr} {n d i : Nat} {f : Bool} (h : SightsAt H ts ss) (ht : H t = some (.tup [.int (n : Nat), .int (d : Nat), sideV f])) (hl : n < d) : SightsAt H (ts.set i t) (ss.set i (n, d, f)) := by
  refine ⟨by rw [List.length_set, List.length_set, h.1], fun j b q h1 h2 => ?_⟩
  rw [List.getElem?_set] at h1 h2
  by_cases c : i = j
  · rw [if_pos c] at h1 h2
    split at h1
    · split at h2
      · cases h1
        cases h2
        exact ⟨ht, hl⟩
      · cases h2
    · cases h1
  · rw [if_neg c] at h1 h2
    exact h.2 j b q h1 h2
theorem two_sort {ms : List Int} {x y : Nat} (hp : ms.Perm [(x : Int), (y : Int)]) (hs : ms.Pairwise (· ≤ ·)) : ∃ u v : Nat, ms = [(u : Int), (v : Int)] ∧ u ≤ v ∧ v ≤ max x y := by
  have len := hp.length_eq
  obtain ⟨a, b, rfl⟩ : ∃ a b, ms = [a, b] := by
    match ms, len with
    | [a, b], _ => exact ⟨a, b, rfl⟩
  have ha : a = x ∨ a = y := by simpa using hp.mem_iff.mp (show a ∈ [a, b] by simp)
  have hb : b = x ∨ b = y := by simpa using hp.mem_iff.mp (show b ∈ [a, b] by simp)
  have le : a ≤ b := by simpa using hs
  refine ⟨a.toNat, b.toNat, ?_, by omega, by omega⟩
  rw [Int.toNat_of_nonneg (by omega), Int.toNat_of_nonneg (by omega)]
section
variable {P : Program} {w : World} {K : PySem.W.Frag} {mg : Str → Option Value} {base : Heap}
def spSights : Sp := fun vs H Q _ => ∃ (p q : Addr) (b : Nat) (ws : List Bool), vs = [.ref p, .int (b : Nat), .ref q] ∧ 2 ≤ b ∧ b ≤ 64 ∧ SrcAt H p ∧ H q = some (.lst (ws.map lvV)) ∧ q ≠ p ∧ ws ≠ [] ∧
  ∀ (S : Addr) (ts : List Addr) (ss : List (Nat × Nat × Bool)) H', Stp p H H' → H S = none → H' S = some (.lst (ts.map V.ref)) → SightsAt H' ts ss → ss.length ≤ 61 → (∀ s ∈ ss, s.2.1 < 2 ^ 250) → Q (.ref S) H'
theorem ok_sights {f : Addr} {fd : FuncData} (F : Fun K "_law_sightings" "_law_sightings" s__law_sightings f fd) (T : Tx K mg) (h1 : Has P w K mg base 2 "_law_next" ["_law_source_here", "_law_many"] [] spNext)
    (h2 : Has P w K mg base 3 "_law_tick" ["_law_source_here", "_law_base_here"] [] spTick) (h3 : Has P w K mg base 1 "_law_is_front" ["_law_base_here", "_law_levels", "_law_now", "_law_due"] [] (spLawFront K)) :
    FnOk P w K mg base CX0 4 f fd ["_law_source_here", "_law_base_here", "_law_hidden"] spSights := by
  obtain ⟨f__law_next, fd__law_next, ds__law_next, G__law_next, m__law_next, k__law_next, b__law_next, v__law_next⟩ := h1
  obtain ⟨f__law_tick, fd__law_tick, ds__law_tick, G__law_tick, m__law_tick, k__law_tick, b__law_tick, v__law_tick⟩ := h2
  obtain ⟨f__law_is_front, fd__law_is_front, ds__law_is_front, G__law_is_front, m__law_is_front, k__law_is_front, b__law_is_front, v__law_is_front⟩ := h3
  refine F.ok sc__law_sightings (fun vs H Q E h => ?_) (fun cdv A outer s H vs Q E hr h => ?_)
  · obtain ⟨p, q, b, ws, rfl, _⟩ := h
    rfl
  · obtain ⟨p, q, b, ws, rfl, hb2, hb64, hs, hq, nqp, hne, c⟩ := h
    refine ⟨_, (pss_cons (ps_set (i := 3) sc__law_sightings.nd rfl (.inl rfl) (pe_lst pa_nil))
      (pss_cons (ps_for PassesOwn.never rfl (pi_range1 (by rfl) T.b_range (pa_cons (pe_call G__law_next (hr.mono (by decide)) (by rfl) m__law_next k__law_next b__law_next v__law_next pass0 (pa_cons (pv 0) (pa_cons (pe_ix (ix_listK (K := K) rfl) (pe_lst (pa_cons pe_int (pa_cons pe_int (pa_cons pe_int pa_nil)))) (pe_call G__law_next (hr.mono (by decide)) (by rfl) m__law_next k__law_next b__law_next v__law_next pass0 (pa_cons (pv 0) (pa_cons pe_int pa_nil))) (fun _ _ => rfl)) pa_nil))) pa_nil)) (pg_name (i := 4) sc__law_sightings.nd rfl (.inl rfl))
        (pss_cons (ps_set (i := 5) sc__law_sightings.nd rfl (.inl rfl) (pe_cmpR op_eq (pe_call G__law_next (hr.mono (by decide)) (by rfl) m__law_next k__law_next b__law_next v__law_next pass0 (pa_cons (pv 0) (pa_cons pe_int pa_nil))) pe_int (nomark _)))
        (pss_cons (ps_set (i := 6) sc__law_sightings.nd rfl (.inl rfl) (pe_callB cr_sortedI (by rfl) T.b_sorted (by decide +kernel) (pa_cons (pe_lst (pa_cons (pe_call G__law_tick hr (by rfl) m__law_tick k__law_tick b__law_tick v__law_tick pass0 (pa_cons (pv 0) (pa_cons (pv 1) pa_nil))) (pa_cons (pe_call G__law_next (hr.mono (by decide)) (by rfl) m__law_next k__law_next b__law_next v__law_next pass0 (pa_cons (pv 0) (pa_cons pe_int pa_nil))) pa_nil))) pa_nil)))
        (pss_cons (ps_if (pt_val (pv 5))
          (pss_one (ps_set (i := 6) sc__law_sightings.nd rfl (.inl rfl) (pe_lst (pa_cons (pe_ix (ix_listK (K := K) rfl) (pv 6) pe_int (fun _ _ => rfl)) (pa_cons (pe_op op_addN (pe_ix (ix_listK (K := K) rfl) (pv 6) pe_int (fun _ _ => rfl)) (pe_call G__law_next (hr.mono (by decide)) (by rfl) m__law_next k__law_next b__law_next v__law_next pass0 (pa_cons (pv 0) (pa_cons (pe_op op_mulN (pv 1) (pv 1)) pa_nil)))) pa_nil)))))
          pss_nil)
        (pss_cons (ps_par (i := 7) (j := 8) (by rfl) sc__law_sightings.nd rfl rfl (by decide) rfl rfl (pa_cons (pe_ix (ix_listK (K := K) rfl) (pv 6) pe_int (fun _ _ => rfl)) (pa_cons (pe_op op_addN (pe_ix (ix_listK (K := K) rfl) (pv 6) pe_int (fun _ _ => rfl)) (pe_callTy call_int1 (by rfl) T.b_int (by decide +kernel) (pa_cons (pe_cmpR op_eq (pe_ix (ix_listK (K := K) rfl) (pv 6) pe_int (fun _ _ => rfl)) (pe_ix (ix_listK (K := K) rfl) (pv 6) pe_int (fun _ _ => rfl)) (nomark _)) pa_nil))) pa_nil)) (by rfl))
        (pss_one (ps_expr (pe_bm PySem.F.plainAttrs_list PySem.F.slot_list_append PySem.F.type_list_append mt_append (pv 3) (pa_cons (pe_tup (pa_cons (pv 7) (pa_cons (pv 8) (pa_cons (pe_ix (ix_listK (K := K) rfl) (pe_lst (pa_cons pe_str (pa_cons pe_str pa_nil))) (pe_callTy call_int1 (by rfl) T.b_int (by decide +kernel) (pa_cons (pe_call G__law_is_front (hr.mono (by decide)) (by rfl) m__law_is_front k__law_is_front b__law_is_front v__law_is_front pass0 (pa_cons (pv 1) (pa_cons (pv 2) (pa_cons (pv 7) (pa_cons (pv 8) pa_nil))))) pa_nil)) (fun _ _ => rfl)) pa_nil)))) pa_nil)))))))))
      (pss_cons (ps_for PassesOwn.never rfl (pi_range1 (by rfl) T.b_range (pa_cons (pe_op op_mulN (pe_op op_divN (pe_call G__law_next (hr.mono (by decide)) (by rfl) m__law_next k__law_next b__law_next v__law_next pass0 (pa_cons (pv 0) (pa_cons pe_int pa_nil))) pe_int) (pe_callTy call_int1 (by rfl) T.b_int (by decide +kernel) (pa_cons (pe_cmpR (op_neK (K := K) rfl hr.units) (pv 3) (pe_lst pa_nil) (nomark _)) pa_nil))) pa_nil)) (pg_name (i := 4) sc__law_sightings.nd rfl (.inl rfl))
        (pss_cons (ps_set (i := 9) sc__law_sightings.nd rfl (.inl rfl) (pe_call G__law_next (hr.mono (by decide)) (by rfl) m__law_next k__law_next b__law_next v__law_next pass0 (pa_cons (pv 0) (pa_cons (pe_callB (lenK (K := K) rfl) (by rfl) T.b_len PySem.boot_len (pa_cons (pv 3) pa_nil)) pa_nil))))
        (pss_cons (ps_asg (pe_ix (ix_listK (K := K) rfl) (pv 3) (pv 9) (fun _ _ => rfl)) (pg_tupK (K := K) (n := 3) rfl rfl (pgs_cons (pg_name (i := 7) sc__law_sightings.nd rfl (.inl rfl)) (pgs_cons (pg_name (i := 8) sc__law_sightings.nd rfl (.inl rfl)) (pgs_cons (pg_name (i := 10) sc__law_sightings.nd rfl (.inl rfl)) pgs_nil)))))
        (pss_one (ps_asg (pe_tup (pa_cons (pv 7) (pa_cons (pv 8) (pa_cons (pe_ix (ix_listK (K := K) rfl) (pe_lst (pa_cons pe_str (pa_cons pe_str pa_nil))) (pe_callTy call_int1 (by rfl) T.b_int (by decide +kernel) (pa_cons (pe_cmpR op_eq (pv 10) pe_str (nomark _)) pa_nil)) (fun _ _ => rfl)) pa_nil)))) (pg_sub (pv 3) (pv 9) set_list))))))
      (pss_one (ps_ret (pv 3)))))), ?_⟩
    have hbb : b * b ≤ 4096 := Nat.le_trans (Nat.mul_le_mul hb64 hb64) (by decide)
    have hb0 : 0 < b * b := Nat.mul_pos (by omega) (by omega)
    refine ⟨by simp [sizeLine_eq], fun F0 hF0 => ?_⟩
    have nF : F0 ≠ p := hs.ne hF0
    have sF := hs.stp_same (same_upd (o := .lst []) hF0)
    have eF : (upd H F0 (.lst [])) F0 = some (.lst (([] : List Addr).map V.ref)) := upd_same
    generalize upd H F0 (.lst []) = H0 at sF eF ⊢
    refine ⟨_, rfl, by simp [sizeLine_eq], fun l hl => ?_⟩
    have s1 := sF.src.stp_same (same_upd (o := .lst [.int 8, .int 31, .int 61]) hl)
    have nl := sF.src.ne hl
    have el : (upd H0 l (.lst [.int 8, .int 31, .int 61])) l = some (.lst [.int 8, .int 31, .int 61]) := upd_same
    generalize upd H0 l (.lst [.int 8, .int 31, .int 61]) = H1 at s1 el ⊢
    refine ⟨_, rfl, p, 3, rfl, by decide, by decide, s1.src, fun r0 H2 hr0 s2 => ?_⟩
    obtain ⟨z, hz, hz1, hz2⟩ : ∃ z : Nat, ([.int 8, .int 31, .int 61] : List V)[r0]? = some (.int (z : Nat)) ∧ 0 < z ∧ z ≤ 61 := by
      match r0, hr0 with
      | 0, _ => exact ⟨8, rfl, by decide, by decide⟩
      | 1, _ => exact ⟨31, rfl, by decide, by decide⟩
      | 2, _ => exact ⟨61, rfl, by decide, by decide⟩
      | r + 3, h => omega
    refine ⟨l, _, r0, _, rfl, rfl, SqL.of (s2.keep _ _ nl el), atI_nat hz, p, z, rfl, by omega, by omega, s2.src, fun m H3 hm s3 => ?_⟩
    have sH := ((sF.trans s1).trans s2).trans s3
    have eF3 := ((s1.trans s2).trans s3).keep _ _ nF eF
    refine ⟨(m : Nat), rfl, by omega, by omega, for_range (lo := 0) (n := ((m : Nat) : Int).toNat) (Pv := fun i σ G => ∃ (ts : List Addr) (ss : List (Nat × Nat × Bool)) (y4 y5 y6 y7 y8 y9 y10 : Option V), σ = [some (.ref p), some (.int (b : Nat)), some (.ref q), some (.ref F0), y4, y5, y6, y7, y8, y9, y10] ∧ Stp p H G ∧ G F0 = some (.lst (ts.map V.ref)) ∧ SightsAt G ts ss ∧ ss.length = i ∧ ∀ s ∈ ss, s.2.1 < 2 ^ 250)
      ⟨[], [], none, none, none, none, none, none, none, rfl, sH, eF3, ⟨rfl, fun j t x h => by simp at h⟩, rfl, fun s h => (by cases h)⟩ ?_ ?_⟩
    · rintro i σ G hi ⟨ts, ss, y4, y5, y6, y7, y8, y9, y10, rfl, sg, eF, hss, hlen, hbig⟩
      rw [Int.toNat_natCast] at hi
      refine ⟨_, rfl, p, 2, rfl, by decide, by decide, sg.src, fun r1 G1 hr1 s1 => ⟨rfl, ?_⟩⟩
      refine ⟨_, rfl, _, rfl, p, b, rfl, hb2, hb64, s1.src, fun x G2 hx s2 => ⟨_, rfl, p, 900, rfl, by decide, by decide, s2.src, fun r2 G3 hr2 s3 => ⟨by simp [sizeLine_eq], fun l1 hl1 => ?_⟩⟩⟩
      have s4 := s3.src.stp_same (same_upd (o := .lst [.int (x : Nat), .int (r2 : Nat)]) hl1)
      have e4 : (upd G3 l1 (.lst [.int (x : Nat), .int (r2 : Nat)])) l1 = some (.lst [.int (x : Nat), .int (r2 : Nat)]) := upd_same
      generalize upd G3 l1 (.lst [.int (x : Nat), .int (r2 : Nat)]) = G4 at s4 e4 ⊢
      refine ⟨l1, [((x : Nat) : Int), ((r2 : Nat) : Int)], rfl, SqL.of e4, fun ms l2 hperm hsort hl2 => ?_⟩
      obtain ⟨u0, v0, rfl, huv, hv0⟩ := two_sort hperm hsort
      have hv1 : v0 < 2 ^ 190 := by
        have : r2 < 2 ^ 190 := by omega
        omega
      have s5 := s4.src.stp_same (same_upd (o := .lst ([((u0 : Nat) : Int), ((v0 : Nat) : Int)].map V.int)) hl2)
      have e5 : (upd G4 l2 (.lst ([((u0 : Nat) : Int), ((v0 : Nat) : Int)].map V.int))) l2 = some (.lst [.int (u0 : Nat), .int (v0 : Nat)]) := upd_same
      have nl2 := s4.src.ne hl2
      generalize upd G4 l2 (.lst ([((u0 : Nat) : Int), ((v0 : Nat) : Int)].map V.int)) = G5 at s5 e5 ⊢
      have s05 := (((s1.trans s2).trans s3).trans s4).trans s5
      apply cut_at (α := Addr) (I := fun l G' => ∃ u v : Nat, u ≤ v ∧ v < 2 ^ 191 ∧ Stp p G G' ∧ G' l = some (.lst [.int (u : Nat), .int (v : Nat)]) ∧ l ≠ p)
      · intro rest
        by_cases c0 : r1 = 0
        · refine ⟨_, rfl, true, dT (by rw [c0]; rfl), iteT ?_⟩
          refine ⟨_, rfl, l2, _, 1, _, rfl, rfl, SqL.of e5, atI_nat (j := 1) rfl, _, rfl, l2, _, 1, _, rfl, rfl, SqL.of e5, atI_nat (j := 1) rfl, _, rfl, _, rfl, _, rfl, b, b, rfl, rfl, nmul_w 400 400 (by omega) (by omega), p, _, rfl, ?_, ?_, s5.src, fun r3 G6 hr3 s6 => ⟨v0, r3, rfl, rfl, trivial, by simp [sizeLine_eq], fun l3 hl3 => ?_⟩⟩
          · show (0 : Int) < ((b * b : Nat) : Int)
            omega
          · show ((b * b : Nat) : Int) < 2 ^ 300
            omega
          · have hr3 : ((r3 : Nat) : Int) < ((b * b : Nat) : Int) := hr3
            have s7 := s6.src.stp_same (same_upd (o := .lst [.int (v0 : Nat), .int ((v0 + r3 : Nat) : Int)]) hl3)
            have e7 : (upd G6 l3 (.lst [.int (v0 : Nat), .int ((v0 + r3 : Nat) : Int)])) l3 = some (.lst [.int (v0 : Nat), .int ((v0 + r3 : Nat) : Int)]) := upd_same
            have nl3 := s6.src.ne hl3
            generalize upd G6 l3 (.lst [.int (v0 : Nat), .int ((v0 + r3 : Nat) : Int)]) = G7 at s7 e7 ⊢
            exact rest l3 G7 ⟨v0, v0 + r3, by omega, by omega, (s05.trans s6).trans s7, e7, nl3⟩
        · refine ⟨_, rfl, false, dF (fun z => c0 (Int.ofNat.inj (V.int.inj z))), iteF ?_⟩
          exact rest l2 G5 ⟨u0, v0, huv, by omega, s05, e5, nl2⟩
      rintro l6 G6 ⟨u, v, hle, hv, s06, e6, nl6⟩
      have hssG := hss.stp sg.src s06
      have eF6 := s06.keep _ _ nF eF
      have sm6 := sg.trans s06
      refine ⟨_, rfl, l6, _, 0, _, rfl, rfl, SqL.of e6, atI_nat (j := 0) rfl, _, rfl, l6, _, 1, _, rfl, rfl, SqL.of e6, atI_nat (j := 1) rfl, _, rfl, l6, _, 0, _, rfl, rfl, SqL.of e6, atI_nat (j := 0) rfl, _, rfl, l6, _, 1, _, rfl, rfl, SqL.of e6, atI_nat (j := 1) rfl, rfl, .inr ⟨_, rfl, v, if u = v then 1 else 0, rfl, ?_, trivial, ?_⟩⟩
      · by_cases z : u = v
        · rw [if_pos z, decide_eq_true (vE z)]
          rfl
        · rw [if_neg z, decide_eq_false (vN z)]
          rfl
      obtain ⟨d, hd⟩ : ∃ d, v + (if u = v then 1 else 0) = d := ⟨_, rfl⟩
      have hud : u < d := by
        rw [← hd]
        split <;> omega
      have hd2 : d < 2 ^ 192 := by
        rw [← hd]
        split <;> omega
      have hd3 : (fun a b : Nat => a + b) v (if u = v then 1 else 0) = d := hd
      refine ⟨_, _, rfl, ?_⟩
      rw [hd3]
      clear hd3 hd
      have eq6 : G6 q = some (.lst (ws.map lvV)) := sm6.keep _ _ nqp hq
      refine ⟨_, rfl, .inl ⟨rfl, _, SqL.of eF6⟩, ?_⟩
      refine ⟨_, rfl, _, rfl, by simp [sizeLine_eq], fun l7 hl7 => ?_⟩
      have s7 := sm6.src.stp_same (same_upd (o := .lst [.str "back", .str "front"]) hl7)
      have e7 : (upd G6 l7 (.lst [.str "back", .str "front"])) l7 = some (.lst [.str "back", .str "front"]) := upd_same
      have eq7 := s7.keep _ _ nqp eq6
      have eF7 := s7.keep _ _ nF eF6
      have hss7 := hssG.stp sm6.src s7
      generalize upd G6 l7 (.lst [.str "back", .str "front"]) = G7 at s7 e7 eq7 eF7 hss7 ⊢
      obtain ⟨k, hk⟩ := lev_exists (b := b) (n := u) (d := d) hb2 hud
      refine ⟨_, rfl, _, rfl, _, rfl, _, rfl, b, u, d, q, ws, rfl, hb2, hb64, hud, by omega, SqL.of eq7, hne, fun k' hk' => .inr ⟨_, rfl, ?_⟩⟩
      rw [hk'.uniq hk]
      generalize frontOf ws 0 (rowsOf b u d k) = fr
      have hv : ([V.str "back", V.str "front"] : List V)[if fr = true then 1 else 0]? = some (sideV fr) := by cases fr <;> rfl
      refine ⟨l7, _, ((if fr = true then 1 else 0 : Nat) : Int), sideV fr, rfl, by cases fr <;> rfl, SqL.of e7, atI_nat hv, by simp [sizeLine_eq], fun t ht => ?_⟩
      have s8 := s7.src.stp_same (same_upd (o := .tup [.int (u : Nat), .int (d : Nat), sideV fr]) ht)
      have e8 : (upd G7 t (.tup [.int (u : Nat), .int (d : Nat), sideV fr])) t = some (.tup [.int (u : Nat), .int (d : Nat), sideV fr]) := upd_same
      have eF8 := s8.keep _ _ nF eF7
      have hss8 := hss7.stp s7.src s8
      generalize upd G7 t (.tup [.int (u : Nat), .int (d : Nat), sideV fr]) = G8 at s8 e8 eF8 hss8 ⊢
      have few : (ts.map V.ref).length < sizeLine := by
        rw [List.length_map, hss.1]
        exact sizeLine_ge (by omega)
      have s08 := (sm6.trans s7).trans s8
      have s9 : Stp p H (upd G8 F0 (.lst (ts.map V.ref ++ [.ref t]))) := ⟨fun c o n e => by
        rw [upd_ne (ne_of_none e hF0)]
        exact s08.keep _ _ n e, by
        obtain ⟨x, y, z, e⟩ := s8.src
        exact ⟨x, y, z, by rw [upd_ne (Ne.symm nF)]; exact e⟩⟩
      refine ⟨F0, _, _, rfl, rfl, eF8, few, ⟨ts ++ [t], ss ++ [(u, d, fr)], _, _, _, _, _, y9, y10, rfl, s9, by rw [upd_same, List.map_append]; rfl, ?_, by rw [List.length_append, hlen]; rfl, fun s hs2 => ?_⟩⟩
      · exact (hss8.snoc e8 hud).frame fun c xs e => by
          rw [upd_ne (ne_of e eF8 fun z => by cases z)]
          exact e
      · rcases List.mem_append.mp hs2 with z | z
        · exact hbig s z
        · rw [List.mem_singleton.mp z]
          show d < 2 ^ 250
          omega
    · rintro σ G ⟨ts, ss, y4, y5, y6, y7, y8, y9, y10, rfl, sg, eF, hss, hlen, hbig⟩
      rw [Int.toNat_natCast] at hlen
      have l61 : ss.length ≤ 61 := by omega
      clear hlen
      refine ⟨_, rfl, p, 6, rfl, by decide, by decide, sg.src, fun r G1 hr s1 => ⟨r, 4, rfl, rfl, ndiv 7 (by decide) (by decide), ?_⟩⟩
      have eF1 := s1.keep _ _ nF eF
      have hss1 := hss.stp sg.src s1
      have sg1 := sg.trans s1
      refine ⟨_, rfl, by simp [sizeLine_eq], fun l9 hl9 => ?_⟩
      have s9 := s1.src.stp_same (same_upd (o := .lst []) hl9)
      have e9 : (upd G1 l9 (.lst [])) l9 = some (.lst []) := upd_same
      have eF2 := s9.keep _ _ nF eF1
      have hss2 := hss1.stp s1.src s9
      have sg2 := sg1.trans s9
      generalize upd G1 l9 (.lst []) = G2 at s9 e9 eF2 hss2 sg2 ⊢
      refine ⟨ssD ss, .list [], .lst (SqL.of eF2) (ss_all hss2), .lst (SqL.of e9) .nil, (ss_ok ss).1, nil_ok.1, .inr ⟨_, rfl, r / 4, if ss = [] then 0 else 1, rfl, ?_, ?_, ?_⟩⟩
      · rw [ss_nil]
        by_cases z : ss = []
        · rw [if_pos z, decide_eq_true z]
          rfl
        · rw [if_neg z, decide_eq_false z]
          rfl
      · exact nmul_l (by omega)
      obtain ⟨N, hN⟩ : ∃ N, r / 4 * (if ss = [] then 0 else 1) = N := ⟨_, rfl⟩
      have hN2 : (fun a b : Nat => a * b) (r / 4) (if ss = [] then 0 else 1) = N := hN
      rw [hN2]
      have hN3 : N ≤ 1 ∧ (0 < N → ss ≠ []) := by
        rw [← hN]
        by_cases z : ss = []
        · rw [if_pos z]
          exact ⟨by omega, fun h => by omega⟩
        · rw [if_neg z]
          exact ⟨by omega, fun _ => z⟩
      clear hN hN2
      refine ⟨(N : Nat), rfl, by omega, by omega, for_range (lo := 0) (n := ((N : Nat) : Int).toNat) (Pv := fun i σ G => ∃ (ts : List Addr) (ss : List (Nat × Nat × Bool)) (y4 y5 y6 y7 y8 y9 y10 : Option V), σ = [some (.ref p), some (.int (b : Nat)), some (.ref q), some (.ref F0), y4, y5, y6, y7, y8, y9, y10] ∧ Stp p H G ∧ G F0 = some (.lst (ts.map V.ref)) ∧ SightsAt G ts ss ∧ ss.length ≤ 61 ∧ (∀ s ∈ ss, s.2.1 < 2 ^ 250) ∧ (0 < N → ss ≠ []))
        ⟨ts, ss, y4, y5, y6, y7, y8, y9, y10, rfl, sg2, eF2, hss2, l61, hbig, hN3.2⟩ ?_ ?_⟩
      · rintro i σ G hi ⟨ts, ss, y4, y5, y6, y7, y8, y9, y10, rfl, sg, eF, hss, l61, hbig, hne0⟩
        have hne1 := hne0 (by omega)
        have hpos : 0 < ss.length := List.length_pos_iff.mpr hne1
        have tl : (ts.map V.ref).length = ss.length := by rw [List.length_map, hss.1]
        refine ⟨_, rfl, _, rfl, F0, _, rfl, .inl (SqL.of eF), p, ((ts.map V.ref).length : Nat), rfl, by omega, by omega, sg.src, fun a G1 ha s1 => ?_⟩
        have ha : a < ss.length := by omega
        have eF1 := s1.keep _ _ nF eF
        have hss1 := hss.stp sg.src s1
        have sg1 := sg.trans s1
        obtain ⟨s, hsa⟩ : ∃ s, ss[a]? = some s := ⟨_, List.getElem?_eq_getElem ha⟩
        obtain ⟨t, hta⟩ : ∃ t, ts[a]? = some t := ⟨_, List.getElem?_eq_getElem (by rw [hss.1]; exact ha)⟩
        obtain ⟨n, d, fr⟩ := s
        have ⟨ht, hnd⟩ := hss1.2 a t _ hta hsa
        have hd := hbig _ (List.mem_of_getElem? hsa)
        have hmt : (ts.map V.ref)[a]? = some (V.ref t) := by rw [List.getElem?_map, hta]; rfl
        refine ⟨_, rfl, _, rfl, F0, _, a, .ref t, rfl, rfl, SqL.of eF1, atI_nat hmt, t, _, rfl, .inl (.inl ht), rfl, _, _, rfl, _, _, rfl, _, _, rfl, rfl, ?_⟩
        refine ⟨_, rfl, _, rfl, by simp [sizeLine_eq], fun l3 hl3 => ?_⟩
        have s3 := sg1.src.stp_same (same_upd (o := .lst [.str "back", .str "front"]) hl3)
        have e3 : (upd G1 l3 (.lst [.str "back", .str "front"])) l3 = some (.lst [.str "back", .str "front"]) := upd_same
        have eF3 := s3.keep _ _ nF eF1
        have hss3 := hss1.stp sg1.src s3
        generalize upd G1 l3 (.lst [.str "back", .str "front"]) = G3 at s3 e3 eF3 hss3 ⊢
        have hsc : scal (sideV fr) (V.str "back") = true := by cases fr <;> rfl
        have hv : ([V.str "back", V.str "front"] : List V)[if fr = true then 0 else 1]? = some (sideV (!fr)) := by cases fr <;> rfl
        refine ⟨_, rfl, hsc, .inr ⟨_, rfl, l3, _, ((if fr = true then 0 else 1 : Nat) : Int), sideV (!fr), rfl, by cases fr <;> rfl, SqL.of e3, atI_nat hv, by simp [sizeLine_eq], fun t4 ht4 => ?_⟩⟩
        have s4 := s3.src.stp_same (same_upd (o := .tup [.int (n : Nat), .int (d : Nat), sideV (!fr)]) ht4)
        have e4 : (upd G3 t4 (.tup [.int (n : Nat), .int (d : Nat), sideV (!fr)])) t4 = some (.tup [.int (n : Nat), .int (d : Nat), sideV (!fr)]) := upd_same
        have eF4 := s4.keep _ _ nF eF3
        have hss4 := hss3.stp s3.src s4
        have s08 := (sg1.trans s3).trans s4
        generalize upd G3 t4 (.tup [.int (n : Nat), .int (d : Nat), sideV (!fr)]) = G4 at s4 e4 eF4 hss4 s08 ⊢
        have hix : ixN (ts.map V.ref).length ((a : Nat) : Int) = some a := by
          unfold ixN
          rw [if_pos (by omega), if_pos (by omega), Int.toNat_natCast]
        have es : (ts.map V.ref).set a (.ref t4) = (ts.set a t4).map V.ref := by rw [List.map_set]
        refine ⟨_, rfl, _, rfl, F0, _, ((a : Nat) : Int), a, rfl, rfl, eF4, hix, ?_⟩
        refine ⟨ts.set a t4, ss.set a (n, d, !fr), _, y5, y6, _, _, _, _, rfl, ⟨fun c o n e => ?_, ?_⟩, by rw [upd_same, es], ?_, by rw [List.length_set]; exact l61, fun s hs2 => ?_, fun z => ?_⟩
        · rw [upd_ne (ne_of_none e hF0)]
          exact s08.keep _ _ n e
        · obtain ⟨x, y, z, e⟩ := s08.src
          exact ⟨x, y, z, by rw [upd_ne (Ne.symm nF)]; exact e⟩
        · exact (hss4.set e4 hnd).frame fun c xs e => by
            rw [upd_ne (ne_of e eF4 fun z => by cases z)]
            exact e
        · rcases List.mem_or_eq_of_mem_set hs2 with z | z
          · exact hbig s z
          · rw [z]
            exact hd
        · intro y
          have := congrArg List.length y
          rw [List.length_set] at this
          exact hne1 (List.length_eq_zero_iff.mp this)
      · rintro σ G ⟨ts, ss, y4, y5, y6, y7, y8, y9, y10, rfl, sg, eF, hss, l61, hbig, _⟩
        exact ⟨_, rfl, c F0 ts ss G sg hF0 eF hss l61 hbig⟩
end
/-! ### the law's loop over its numbers -/
theorem seq_new {K : PySem.W.Frag} {a p : Addr} {xs : List V} {H H1 H2 : Hp} (h : SqL K H a xs) (hp : H p = none) (s1 : Same H H1) (s2 : Stp p H1 H2) : SqL K H2 a xs := by
  rcases h with (h | ⟨o, h⟩) | h
  · exact .inl (.inl (s2.keep _ _ (ne_of_none h hp) (s1 _ _ h)))
  · exact .inl (.inr ⟨o, s2.keep _ _ (ne_of_none h hp) (s1 _ _ h)⟩)
  · exact .inr h
/-! ### law k30: the law itself -/
theorem nsame_new {p : Addr} {H H1 H2 : Hp} (hp : H p = none) (s1 : Same H H1) (s2 : Stp p H1 H2) : Same H H2 := fun b o e => s2.keep b o (ne_of_none e hp) (s1 b o e)
section
variable {P : Program} {w : World} {K : PySem.W.Frag} {mg : Str → Option Value} {base : Heap}
def spLaw (K : PySem.W.Frag) : Sp := fun vs H Q _ => ∃ (a : Addr) (ns : List Int), vs = [.ref a] ∧ SqL K H a (ns.map V.int) ∧ ns.length ≤ 63 ∧ ∀ H', Q (.bl true) H'
theorem ok_law {f : Addr} {fd : FuncData} (F : Fun K "law" "law" s_law f fd) (T : Tx K mg) (h1 : Has P w K mg base 2 "_law_source" ["_law_script", "_law_k"] [] (spSource K)) (h2 : Has P w K mg base 2 "_law_next" ["_law_source_here", "_law_many"] [] spNext)
    (h3 : Has P w K mg base 3 "_law_base" ["_law_source_here"] [] spBase) (h4 : Has P w K mg base 4 "_law_sightings" ["_law_source_here", "_law_base_here", "_law_hidden"] [] spSights)
    (h5 : Has P w K mg base 2 "_law_by_bits" ["_law_base_here", "_law_many", "_law_seen"] [] (spBits K)) (h6 : Has P w K mg base 2 "_law_gone_through" ["_law_base_here", "_law_many", "_law_seen"] [] (spGone K))
    (h7 : Has P w K mg base 5 "levels_seen" ["base", "many", "seen"] [] (spSeen K)) : FnOk P w K mg base CX0 6 f fd ["_law_script"] (spLaw K) := by
  obtain ⟨f__law_source, fd__law_source, ds__law_source, G__law_source, m__law_source, k__law_source, b__law_source, v__law_source⟩ := h1
  obtain ⟨f__law_next, fd__law_next, ds__law_next, G__law_next, m__law_next, k__law_next, b__law_next, v__law_next⟩ := h2
  obtain ⟨f__law_base, fd__law_base, ds__law_base, G__law_base, m__law_base, k__law_base, b__law_base, v__law_base⟩ := h3
  obtain ⟨f__law_sightings, fd__law_sightings, ds__law_sightings, G__law_sightings, m__law_sightings, k__law_sightings, b__law_sightings, v__law_sightings⟩ := h4
  obtain ⟨f__law_by_bits, fd__law_by_bits, ds__law_by_bits, G__law_by_bits, m__law_by_bits, k__law_by_bits, b__law_by_bits, v__law_by_bits⟩ := h5
  obtain ⟨f__law_gone_through, fd__law_gone_through, ds__law_gone_through, G__law_gone_through, m__law_gone_through, k__law_gone_through, b__law_gone_through, v__law_gone_through⟩ := h6
  obtain ⟨f_levels_seen, fd_levels_seen, ds_levels_seen, G_levels_seen, m_levels_seen, k_levels_seen, b_levels_seen, v_levels_seen⟩ := h7
  refine F.ok sc_law (fun vs H Q E h => ?_) (fun cdv A outer s H vs Q E hr h => ?_)
  · obtain ⟨a, ns, rfl, _⟩ := h
    rfl
  · obtain ⟨a, ns, rfl, hS, hlen, q⟩ := h
    refine ⟨_, (pss_cons (ps_for PassesOwn.never rfl (pi_range1 (by rfl) T.b_range (pa_cons (pe_callB (max2N rfl) (by rfl) T.b_max (by decide +kernel) (pa_cons pe_int (pa_cons (pe_callB (min2N rfl) (by rfl) T.b_min (by decide +kernel) (pa_cons pe_int (pa_cons (pe_callB (lenK (K := K) rfl) (by rfl) T.b_len PySem.boot_len (pa_cons (pv 0) pa_nil)) pa_nil))) pa_nil))) pa_nil)) (pg_name (i := 1) sc_law.nd rfl (.inl rfl))
        (pss_cons (ps_set (i := 2) sc_law.nd rfl (.inr rfl) (pe_call G__law_source (hr.mono (by decide)) (by rfl) m__law_source k__law_source b__law_source v__law_source pass0 (pa_cons (pv 0) (pa_cons (pv 1) pa_nil))))
        (pss_cons (ps_set (i := 3) sc_law.nd rfl (.inl rfl) (pe_call G__law_base (hr.mono (by decide)) (by rfl) m__law_base k__law_base b__law_base v__law_base pass0 (pa_cons (pv 2) pa_nil)))
        (pss_cons (ps_set (i := 4) sc_law.nd rfl (.inl rfl) (pe_ix (ix_listK (K := K) rfl) (pe_lst (pa_cons (pe_op op_addN pe_int (pe_call G__law_next (hr.mono (by decide)) (by rfl) m__law_next k__law_next b__law_next v__law_next pass0 (pa_cons (pv 2) (pa_cons pe_int pa_nil)))) (pa_cons (pe_op op_addN pe_int (pe_call G__law_next (hr.mono (by decide)) (by rfl) m__law_next k__law_next b__law_next v__law_next pass0 (pa_cons (pv 2) (pa_cons pe_int pa_nil)))) pa_nil))) (pe_op op_divN (pe_call G__law_next (hr.mono (by decide)) (by rfl) m__law_next k__law_next b__law_next v__law_next pass0 (pa_cons (pv 2) (pa_cons pe_int pa_nil))) pe_int) (fun _ _ => rfl)))
        (pss_cons (ps_setLc (i := 5) (own := [("_law_at", 10)]) (g := gName 10) (tt := tYes) rfl sc_law.nd rfl rfl (sw_true rfl rfl rfl (by decide +kernel)) (pi_range1 (by rfl) T.b_range (pa_cons (pv 4) pa_nil)) (blkOk_by (own := [("_law_at", 10)]) (N := N_law) (sc := defScope s_law) (by decide +kernel)) (fun _ _ _ _ _ => (pg_name (i := 10) sc_law.nd rfl (.inl rfl))) (fun _ _ _ _ _ => pts_nil) (fun _ _ _ _ _ => (pe_ix (ix_listK (K := K) rfl) (pe_lst (pa_cons pe_str (pa_cons pe_str pa_nil))) (pe_call G__law_next (hr.mono (by decide)) (by rfl) m__law_next k__law_next b__law_next v__law_next pass0 (pa_cons (pv 2) (pa_cons pe_int pa_nil))) (fun _ _ => rfl))))
        (pss_cons (ps_set (i := 6) sc_law.nd rfl (.inl rfl) (pe_call G__law_sightings (hr.mono (by decide)) (by rfl) m__law_sightings k__law_sightings b__law_sightings v__law_sightings pass0 (pa_cons (pv 2) (pa_cons (pv 3) (pa_cons (pv 5) pa_nil)))))
        (pss_cons (ps_set (i := 7) sc_law.nd rfl (.inl rfl) (pe_call G__law_by_bits (hr.mono (by decide)) (by rfl) m__law_by_bits k__law_by_bits b__law_by_bits v__law_by_bits pass0 (pa_cons (pv 3) (pa_cons (pv 4) (pa_cons (pv 6) pa_nil)))))
        (pss_cons (ps_if (PW.pt (pw_and (pt_cmpR op_lt (pv 4) pe_int (nomark _)) (pw_and1 (pt_cmpR (op_neK (K := K) rfl hr.units) (pe_call G__law_gone_through (hr.mono (by decide)) (by rfl) m__law_gone_through k__law_gone_through b__law_gone_through v__law_gone_through pass0 (pa_cons (pv 3) (pa_cons (pv 4) (pa_cons (pv 6) pa_nil)))) (pv 7) (nomark _)))))
          (pss_one (ps_ret pe_bl))
          pss_nil)
        (pss_cons (ps_set (i := 8) sc_law.nd rfl (.inl rfl) (pe_callTy call_list_of (by rfl) T.b_list (by decide +kernel) (pa_cons (pv 6) pa_nil)))
        (pss_cons (ps_set (i := 9) sc_law.nd rfl (.inl rfl) (pe_call G_levels_seen hr (by rfl) m_levels_seen k_levels_seen b_levels_seen v_levels_seen pass0 (pa_cons (pv 3) (pa_cons (pv 4) (pa_cons (pv 6) pa_nil)))))
        (pss_cons (ps_if (PW.pt (pw_or (pt_cmpR (op_neK (K := K) rfl hr.units) (pv 9) (pv 7) (nomark _)) (pw_or1 (pt_cmpR (op_neK (K := K) rfl hr.units) (pv 6) (pv 8) (nomark _)))))
          (pss_one (ps_ret pe_bl))
          pss_nil)
        (pss_cons (ps_if (pt_cmpR op_eq (pe_ix (ix_tupK (K := K) rfl) (pv 9) pe_int (fun _ _ => rfl)) pe_str (nomark _))
          (pss_one (ps_expr (pe_bm PySem.F.plainAttrs_list PySem.F.slot_list_append PySem.F.type_list_append mt_append (pe_ix (ix_tupK (K := K) rfl) (pv 9) pe_int (fun _ _ => rfl)) (pa_cons pe_str pa_nil))))
          pss_nil)
        (pss_one (ps_if (pt_cmpR (op_neK (K := K) rfl hr.units) (pe_call G_levels_seen hr (by rfl) m_levels_seen k_levels_seen b_levels_seen v_levels_seen pass0 (pa_cons (pv 3) (pa_cons (pv 4) (pa_cons (pv 6) pa_nil)))) (pv 7) (nomark _))
          (pss_one (ps_ret pe_bl))
          pss_nil))))))))))))))
      (pss_one (ps_ret pe_bl))), ?_⟩
    refine ⟨.ref a, rfl, a, ns.map V.int, rfl, .inl hS, 4, _, rfl, 1, _, rfl, _, rfl, ?_, ?_, for_range (Pv := fun i σ H' => SqL K H' a (ns.map V.int) ∧ ∃ y1 y2 y3 y4 y5 y6 y7 y8 y9 y10, σ = [some (.ref a), y1, y2, y3, y4, y5, y6, y7, y8, y9, y10]) ⟨hS, none, none, none, none, none, none, none, none, none, none, rfl⟩ ?_ ?_⟩
    · omega
    · rw [List.length_map]
      omega
    · rintro i0 σ H0 hi ⟨hS, y1, y2, y3, y4, y5, y6, y7, y8, y9, y10, rfl⟩
      refine ⟨_, rfl, _, rfl, a, ns, 0 + i0, rfl, hS, fun H1 p s1 hp0 hsrc => ?_⟩
      refine ⟨_, rfl, p, rfl, hsrc, fun b H2 hb hb64 s2 => ?_⟩
      -- how many levels
      refine ⟨_, rfl, p, 6, rfl, by decide, by decide, s2.src, fun r1 H3 hr1 s3 => ⟨1, r1, rfl, rfl, trivial, _, rfl, p, 60, rfl, by decide, by decide, s3.src, fun r2 H4 hr2 s4 => ⟨1, r2, rfl, rfl, trivial, by simp [sizeLine_eq], fun l hl => ?_⟩⟩⟩
      have s5 := s4.src.stp_same (same_upd (o := .lst [.int ((1 + r1 : Nat) : Int), .int ((1 + r2 : Nat) : Int)]) hl)
      have e5 : (upd H4 l (.lst [.int ((1 + r1 : Nat) : Int), .int ((1 + r2 : Nat) : Int)])) l = some (.lst [.int ((1 + r1 : Nat) : Int), .int ((1 + r2 : Nat) : Int)]) := upd_same
      have nl := s4.src.ne hl
      generalize upd H4 l (.lst [.int ((1 + r1 : Nat) : Int), .int ((1 + r2 : Nat) : Int)]) = H5 at s5 e5 ⊢
      refine ⟨_, rfl, p, 3, rfl, by decide, by decide, s5.src, fun r3 H6 hr3 s6 => ⟨r3, 2, rfl, rfl, ndiv 7 (by decide) (by decide), ?_⟩⟩
      have e6 := s6.keep _ _ nl e5
      obtain ⟨m, hm, hm1, hm60⟩ : ∃ m : Nat, ([.int ((1 + r1 : Nat) : Int), .int ((1 + r2 : Nat) : Int)] : List V)[r3 / 2]? = some (.int (m : Nat)) ∧ 1 ≤ m ∧ m ≤ 60 := by
        match r3, hr3 with
        | 0, _ => exact ⟨1 + r1, rfl, by omega, by omega⟩
        | 1, _ => exact ⟨1 + r1, rfl, by omega, by omega⟩
        | 2, _ => exact ⟨1 + r2, rfl, by omega, by omega⟩
        | r + 3, h => omega
      refine ⟨l, _, ((r3 / 2 : Nat) : Int), _, rfl, rfl, SqL.of e6, atI_nat hm, ?_⟩
      have s26 := (((s2.trans s3).trans s4).trans s5).trans s6
      -- the hidden levels
      refine ⟨_, rfl, (m : Nat), rfl, by omega, by omega, fun D hD => lc_range (lo := 0) (n := ((m : Nat) : Int).toNat) (fun i G => Stp p H1 G ∧ ∃ ws : List Bool, ws.length = i ∧ G D = some (.lst (ws.map lvV)))
        ⟨s26.same (same_upd hD), [], rfl, upd_same⟩ ?_ ?_⟩
      · rintro j G hj ⟨sg, ws, hwl, eD⟩
        have nD : D ≠ p := s6.src.ne hD
        rw [Int.toNat_natCast] at hj
        refine ⟨rfl, yesT (iteT ?_)⟩
        refine ⟨by simp [sizeLine_eq], fun l2 hl2 => ?_⟩
        have t1 := sg.src.stp_same (same_upd (o := .lst [.str "queue", .str "stack"]) hl2)
        have el2 : (upd G l2 (.lst [.str "queue", .str "stack"])) l2 = some (.lst [.str "queue", .str "stack"]) := upd_same
        have nl2 := sg.src.ne hl2
        generalize upd G l2 (.lst [.str "queue", .str "stack"]) = G1 at t1 el2 ⊢
        refine ⟨_, rfl, p, 2, rfl, by decide, by decide, t1.src, fun r G2 hr t2 => ?_⟩
        have hv : ([V.str "queue", V.str "stack"] : List V)[r]? = some (lvV (decide (r = 1))) := by
          match r, hr with
          | 0, _ => rfl
          | 1, _ => rfl
          | r + 2, h => omega
        refine ⟨l2, _, r, _, rfl, rfl, SqL.of (t2.keep _ _ nl2 el2), atI_nat hv, ?_⟩
        have t12 := t1.trans t2
        refine ⟨_, t12.keep _ _ nD eD, ?_, ⟨fun c o n e => ?_, ?_⟩, ws ++ [decide (r = 1)], ?_, ?_⟩
        · rw [List.length_map, hwl]
          exact sizeLine_ge (by omega)
        · rw [upd_ne (ne_of_none (s26.keep _ _ n e) hD)]
          exact t12.keep _ _ n (sg.keep _ _ n e)
        · obtain ⟨x, y, z, e⟩ := t12.src
          exact ⟨x, y, z, by rw [upd_ne (Ne.symm nD)]; exact e⟩
        · rw [List.length_append, hwl]
          rfl
        · rw [upd_same, List.map_append]
          rfl
      rintro H7 ⟨s7, ws, hwl, eD⟩
      rw [Int.toNat_natCast] at hwl
      have nD : D ≠ p := s6.src.ne hD
      refine ⟨_, rfl, _, rfl, _, rfl, p, D, b, ws, rfl, hb, hb64, s7.src, eD, nD, fun z => by rw [z] at hwl; have : 0 = m := hwl; omega, fun S ts ss H8 s8 hS0 eS hss l61 hbig => ?_⟩
      have s18 := s7.trans s8
      have l100 : ss.length ≤ 100 := by omega
      have hts : ts.length ≤ 100 := by rw [hss.1]; exact l100
      -- what is due
      refine ⟨_, rfl, _, rfl, _, rfl, b, m, S, ts, ss, rfl, hb, hb64, hm1, hm60, SqL.of eS, hss, l100, hbig, fun H9 u1 s9 a1 => ?_⟩
      obtain ⟨R, hR⟩ : ∃ R, R = seenR b m ss := ⟨_, rfl⟩
      rw [← hR] at a1
      have ok := seen_ok R
      apply cut_rest (I := fun G => Same H9 G)
      · intro rest
        by_cases c7 : m < 7
        · refine ⟨_, rfl, _, _, rfl, rfl, true, dT (by omega), iteT ?_⟩
          refine ⟨_, rfl, _, rfl, _, rfl, b, m, S, ts, ss, rfl, hb, hb64, hm1, by omega, SqL.of (s9 _ _ eS), hss.same s9, l100, hbig, fun H10 u2 s10 a2 => ?_⟩
          rw [← hR] at a2
          refine ⟨_, rfl, seenD R, seenD R, seen_dp a2, seen_dp (a1.same s10), ok.1, ok.1, false, neq_refl ok.2, iteF ?_⟩
          exact rest H10 s10
        · refine ⟨_, rfl, _, _, rfl, rfl, false, dF (by omega), iteF (iteF ?_)⟩
          exact rest H9 fun _ _ e => e
      intro H10 s10
      have s810 := s9.trans s10
      have a1 := a1.same s10
      have eS10 := s810 _ _ eS
      have hss10 := hss.same s810
      have s110 := s18.same s810
      refine ⟨_, rfl, S, _, rfl, .inl (SqL.of eS10), fun l4 hl4 => ?_⟩
      have s11 := same_upd (o := .lst (ts.map V.ref)) hl4
      have e11 : (upd H10 l4 (.lst (ts.map V.ref))) l4 = some (.lst (ts.map V.ref)) := upd_same
      have a1 := a1.same s11
      have eS11 := s11 _ _ eS10
      have hss11 := hss10.same s11
      have s111 := s110.same s11
      generalize upd H10 l4 (.lst (ts.map V.ref)) = H11 at s11 e11 a1 eS11 hss11 s111 ⊢
      refine ⟨_, rfl, _, rfl, _, rfl, b, m, S, ts, ss, rfl, hb, hb64, hm1, hm60, SqL.of eS11, hss11, l100, hbig, fun H12 u3 s12 a3 hfresh => ?_⟩
      rw [← hR] at a3
      refine ⟨_, rfl, _, rfl, seenD R, seenD R, seen_dp a3, seen_dp (a1.same s12), ok.1, ok.1, false, neq_refl ok.2, iteF ?_⟩
      have oks := ss_ok ss
      refine ⟨_, rfl, _, rfl, ssD ss, ssD ss, .lst (SqL.of (s12 _ _ eS11)) (ss_all (hss11.same s12)), .lst (SqL.of (s12 _ _ e11)) (ss_all (hss11.same s12)), oks.1, oks.1, false, neq_refl oks.2, iteF ?_⟩
      apply cut_rest (I := fun G => Same H11 G)
      · intro rest
        cases R with
        | inl k =>
          have a3 : H12 u3 = some (.tup [.str "none", .int (k : Nat)]) := a3
          refine ⟨_, rfl, u3, _, 0, _, rfl, rfl, .inl (.inl a3), atI_nat (j := 0) rfl, rfl, false, dF (by decide), iteF ?_⟩
          exact rest H12 s12
        | inr r =>
          obtain ⟨q3, a3, eq3⟩ := a3
          have fr := hfresh q3 _ a3
          refine ⟨_, rfl, u3, _, 0, _, rfl, rfl, .inl (.inl a3), atI_nat (j := 0) rfl, rfl, true, dT rfl, iteT ?_⟩
          have rl : r.1.length = m := by
            unfold seenR at hR
            split at hR
            · cases hR
            · cases hR
              exact least_len _ _
          refine ⟨_, rfl, u3, _, 1, _, rfl, rfl, .inl (.inl a3), atI_nat (j := 1) rfl, .inl ⟨rfl, _, SqL.of eq3⟩, q3, _, _, rfl, rfl, eq3, ?_, ?_⟩
          · rw [List.length_map, rl]
            exact sizeLine_ge (by omega)
          · exact rest _ fun c o e => by
              rw [upd_ne (ne_of_none e fr)]
              exact s12 _ _ e
      intro H13 s13
      have s113 := s111.same s13
      refine ⟨_, rfl, _, rfl, _, rfl, b, m, S, ts, ss, rfl, hb, hb64, hm1, hm60, SqL.of (s13 _ _ eS11), hss11.same s13, l100, hbig, fun H14 u5 s14 a5 _ => ?_⟩
      rw [← hR] at a5
      refine ⟨_, rfl, seenD R, seenD R, seen_dp a5, seen_dp ((a1.same s13).same s14), ok.1, ok.1, false, neq_refl ok.2, iteF ?_⟩
      exact ⟨seq_new hS hp0 s1 (s113.same s14), _, _, _, _, _, _, _, _, _, _, rfl⟩
    · rintro σ H' ⟨hS, y1, y2, y3, y4, y5, y6, y7, y8, y9, y10, rfl⟩
      exact q _
end
theorem all_mk {l : PySem.W.OpenLaw} {w : World} {K : PySem.W.Frag} {h : Heap} {mg : Str → Option Value} {fa : Addr} (X : K.In h) (G : h.Ns mainGlobals mg) (hfa : mg "law" = some (.ref fa))
    {tk_MOST_LEVELS : Tok}
    {f_SIDES : Addr} {od_SIDES : Option Addr} {tk0_SIDES tk1_SIDES : Tok} {tn_SIDES : Nat} {ts_SIDES : Array (Option Value)}
    {f_is_integer f_is_base f_is_length f_is_tick f_check_base f_level_and_size f_path f_is_sighting f_check_many f_check_seen f_equation f_reduced f_word_that_follows f_least_and_count f_levels_seen f_law_cell_at f_law_mixed f_law_source f_law_next f_law_base f_law_tick f_law_is_front f_law_mask f_law_parity f_law_by_bits f_law_gone_through f_law_sightings f_law : Addr}
    {od_is_integer an_is_integer od_is_base an_is_base od_is_length an_is_length od_is_tick an_is_tick od_check_base an_check_base od_level_and_size an_level_and_size od_path an_path od_is_sighting an_is_sighting od_check_many an_check_many od_check_seen an_check_seen od_equation an_equation od_reduced an_reduced od_word_that_follows an_word_that_follows od_least_and_count an_least_and_count od_levels_seen an_levels_seen od_law_cell_at an_law_cell_at od_law_mixed an_law_mixed od_law_source an_law_source od_law_next an_law_next od_law_base an_law_base od_law_tick an_law_tick od_law_is_front an_law_is_front od_law_mask an_law_mask od_law_parity an_law_parity od_law_by_bits an_law_by_bits od_law_gone_through an_law_gone_through od_law_sightings an_law_sightings od_law an_law : Option Addr}
    {sl_is_integer sl_is_base sl_is_length sl_is_tick sl_check_base sl_level_and_size sl_path sl_is_sighting sl_check_many sl_check_seen sl_equation sl_reduced sl_word_that_follows sl_least_and_count sl_levels_seen sl_law_cell_at sl_law_mixed sl_law_source sl_law_next sl_law_base sl_law_tick sl_law_is_front sl_law_mask sl_law_parity sl_law_by_bits sl_law_gone_through sl_law_sightings sl_law : Array (Option Value)}
    {oc_is_integer kV_is_integer dc_is_integer pm_is_integer cd_is_integer ct_is_integer oc_is_base kV_is_base dc_is_base pm_is_base cd_is_base ct_is_base oc_is_length kV_is_length dc_is_length pm_is_length cd_is_length ct_is_length oc_is_tick kV_is_tick dc_is_tick pm_is_tick cd_is_tick ct_is_tick oc_check_base kV_check_base dc_check_base pm_check_base cd_check_base ct_check_base oc_level_and_size kV_level_and_size dc_level_and_size pm_level_and_size cd_level_and_size ct_level_and_size oc_path kV_path dc_path pm_path cd_path ct_path oc_is_sighting kV_is_sighting dc_is_sighting pm_is_sighting cd_is_sighting ct_is_sighting oc_check_many kV_check_many dc_check_many pm_check_many cd_check_many ct_check_many oc_check_seen kV_check_seen dc_check_seen pm_check_seen cd_check_seen ct_check_seen oc_equation kV_equation dc_equation pm_equation cd_equation ct_equation oc_reduced kV_reduced dc_reduced pm_reduced cd_reduced ct_reduced oc_word_that_follows kV_word_that_follows dc_word_that_follows pm_word_that_follows cd_word_that_follows ct_word_that_follows oc_least_and_count kV_least_and_count dc_least_and_count pm_least_and_count cd_least_and_count ct_least_and_count oc_levels_seen kV_levels_seen dc_levels_seen pm_levels_seen cd_levels_seen ct_levels_seen oc_law_cell_at kV_law_cell_at dc_law_cell_at pm_law_cell_at cd_law_cell_at ct_law_cell_at oc_law_mixed kV_law_mixed dc_law_mixed pm_law_mixed cd_law_mixed ct_law_mixed oc_law_source kV_law_source dc_law_source pm_law_source cd_law_source ct_law_source oc_law_next kV_law_next dc_law_next pm_law_next cd_law_next ct_law_next oc_law_base kV_law_base dc_law_base pm_law_base cd_law_base ct_law_base oc_law_tick kV_law_tick dc_law_tick pm_law_tick cd_law_tick ct_law_tick oc_law_is_front kV_law_is_front dc_law_is_front pm_law_is_front cd_law_is_front ct_law_is_front oc_law_mask kV_law_mask dc_law_mask pm_law_mask cd_law_mask ct_law_mask oc_law_parity kV_law_parity dc_law_parity pm_law_parity cd_law_parity ct_law_parity oc_law_by_bits kV_law_by_bits dc_law_by_bits pm_law_by_bits cd_law_by_bits ct_law_by_bits oc_law_gone_through kV_law_gone_through dc_law_gone_through pm_law_gone_through cd_law_gone_through ct_law_gone_through oc_law_sightings kV_law_sightings dc_law_sightings pm_law_sightings cd_law_sightings ct_law_sightings oc_law kV_law dc_law pm_law cd_law ct_law : Value}
    {dT_is_tick : Addr} {tc_is_tick : Value} {td_is_tick : Option Addr} {tt_is_tick : Tok} {tn_is_tick : Nat} {ts_is_tick : Array (Option Value)}
    (a_is_integer : PySem.W.nsIn K mainGlobals "is_integer" = some (some (.ref f_is_integer)))
    (l_is_integer : K.lookup f_is_integer = some ⟨oc_is_integer, od_is_integer, .func (PySem.W.fnOf "is_integer" "is_integer" (defArgs s_is_integer) (defBody s_is_integer) (defScope s_is_integer) .none kV_is_integer dc_is_integer pm_is_integer an_is_integer cd_is_integer ct_is_integer), sl_is_integer⟩)
    (c_is_integer : PySem.W.codeIn K cd_is_integer "is_integer" = true) (k_is_integer : PySem.W.keepIn K (.ref f_is_integer) = true)
    (a_is_base : PySem.W.nsIn K mainGlobals "is_base" = some (some (.ref f_is_base)))
    (l_is_base : K.lookup f_is_base = some ⟨oc_is_base, od_is_base, .func (PySem.W.fnOf "is_base" "is_base" (defArgs s_is_base) (defBody s_is_base) (defScope s_is_base) .none kV_is_base dc_is_base pm_is_base an_is_base cd_is_base ct_is_base), sl_is_base⟩)
    (c_is_base : PySem.W.codeIn K cd_is_base "is_base" = true) (k_is_base : PySem.W.keepIn K (.ref f_is_base) = true)
    (a_is_length : PySem.W.nsIn K mainGlobals "is_length" = some (some (.ref f_is_length)))
    (l_is_length : K.lookup f_is_length = some ⟨oc_is_length, od_is_length, .func (PySem.W.fnOf "is_length" "is_length" (defArgs s_is_length) (defBody s_is_length) (defScope s_is_length) .none kV_is_length dc_is_length pm_is_length an_is_length cd_is_length ct_is_length), sl_is_length⟩)
    (c_is_length : PySem.W.codeIn K cd_is_length "is_length" = true) (k_is_length : PySem.W.keepIn K (.ref f_is_length) = true)
    (a_is_tick : PySem.W.nsIn K mainGlobals "is_tick" = some (some (.ref f_is_tick)))
    (l_is_tick : K.lookup f_is_tick = some ⟨oc_is_tick, od_is_tick, .func (PySem.W.fnOf "is_tick" "is_tick" (defArgs s_is_tick) (defBody s_is_tick) (defScope s_is_tick) (.ref dT_is_tick) kV_is_tick dc_is_tick pm_is_tick an_is_tick cd_is_tick ct_is_tick), sl_is_tick⟩)
    (t_is_tick : K.lookup dT_is_tick = some ⟨tc_is_tick, td_is_tick, .seq #[.int 0 tt_is_tick] tn_is_tick, ts_is_tick⟩)
    (c_is_tick : PySem.W.codeIn K cd_is_tick "is_tick" = true) (k_is_tick : PySem.W.keepIn K (.ref f_is_tick) = true)
    (a_check_base : PySem.W.nsIn K mainGlobals "check_base" = some (some (.ref f_check_base)))
    (l_check_base : K.lookup f_check_base = some ⟨oc_check_base, od_check_base, .func (PySem.W.fnOf "check_base" "check_base" (defArgs s_check_base) (defBody s_check_base) (defScope s_check_base) .none kV_check_base dc_check_base pm_check_base an_check_base cd_check_base ct_check_base), sl_check_base⟩)
    (c_check_base : PySem.W.codeIn K cd_check_base "check_base" = true) (k_check_base : PySem.W.keepIn K (.ref f_check_base) = true)
    (a_level_and_size : PySem.W.nsIn K mainGlobals "level_and_size" = some (some (.ref f_level_and_size)))
    (l_level_and_size : K.lookup f_level_and_size = some ⟨oc_level_and_size, od_level_and_size, .func (PySem.W.fnOf "level_and_size" "level_and_size" (defArgs s_level_and_size) (defBody s_level_and_size) (defScope s_level_and_size) .none kV_level_and_size dc_level_and_size pm_level_and_size an_level_and_size cd_level_and_size ct_level_and_size), sl_level_and_size⟩)
    (c_level_and_size : PySem.W.codeIn K cd_level_and_size "level_and_size" = true) (k_level_and_size : PySem.W.keepIn K (.ref f_level_and_size) = true)
    (a_path : PySem.W.nsIn K mainGlobals "path" = some (some (.ref f_path)))
    (l_path : K.lookup f_path = some ⟨oc_path, od_path, .func (PySem.W.fnOf "path" "path" (defArgs s_path) (defBody s_path) (defScope s_path) .none kV_path dc_path pm_path an_path cd_path ct_path), sl_path⟩)
    (c_path : PySem.W.codeIn K cd_path "path" = true) (k_path : PySem.W.keepIn K (.ref f_path) = true)
    (a_is_sighting : PySem.W.nsIn K mainGlobals "is_sighting" = some (some (.ref f_is_sighting)))
    (l_is_sighting : K.lookup f_is_sighting = some ⟨oc_is_sighting, od_is_sighting, .func (PySem.W.fnOf "is_sighting" "is_sighting" (defArgs s_is_sighting) (defBody s_is_sighting) (defScope s_is_sighting) .none kV_is_sighting dc_is_sighting pm_is_sighting an_is_sighting cd_is_sighting ct_is_sighting), sl_is_sighting⟩)
    (c_is_sighting : PySem.W.codeIn K cd_is_sighting "is_sighting" = true) (k_is_sighting : PySem.W.keepIn K (.ref f_is_sighting) = true)
    (a_check_many : PySem.W.nsIn K mainGlobals "check_many" = some (some (.ref f_check_many)))
    (l_check_many : K.lookup f_check_many = some ⟨oc_check_many, od_check_many, .func (PySem.W.fnOf "check_many" "check_many" (defArgs s_check_many) (defBody s_check_many) (defScope s_check_many) .none kV_check_many dc_check_many pm_check_many an_check_many cd_check_many ct_check_many), sl_check_many⟩)
    (c_check_many : PySem.W.codeIn K cd_check_many "check_many" = true) (k_check_many : PySem.W.keepIn K (.ref f_check_many) = true)
    (a_check_seen : PySem.W.nsIn K mainGlobals "check_seen" = some (some (.ref f_check_seen)))
    (l_check_seen : K.lookup f_check_seen = some ⟨oc_check_seen, od_check_seen, .func (PySem.W.fnOf "check_seen" "check_seen" (defArgs s_check_seen) (defBody s_check_seen) (defScope s_check_seen) .none kV_check_seen dc_check_seen pm_check_seen an_check_seen cd_check_seen ct_check_seen), sl_check_seen⟩)
    (c_check_seen : PySem.W.codeIn K cd_check_seen "check_seen" = true) (k_check_seen : PySem.W.keepIn K (.ref f_check_seen) = true)
    (a_equation : PySem.W.nsIn K mainGlobals "equation" = some (some (.ref f_equation)))
    (l_equation : K.lookup f_equation = some ⟨oc_equation, od_equation, .func (PySem.W.fnOf "equation" "equation" (defArgs s_equation) (defBody s_equation) (defScope s_equation) .none kV_equation dc_equation pm_equation an_equation cd_equation ct_equation), sl_equation⟩)
    (c_equation : PySem.W.codeIn K cd_equation "equation" = true) (k_equation : PySem.W.keepIn K (.ref f_equation) = true)
    (a_reduced : PySem.W.nsIn K mainGlobals "reduced" = some (some (.ref f_reduced)))
    (l_reduced : K.lookup f_reduced = some ⟨oc_reduced, od_reduced, .func (PySem.W.fnOf "reduced" "reduced" (defArgs s_reduced) (defBody s_reduced) (defScope s_reduced) .none kV_reduced dc_reduced pm_reduced an_reduced cd_reduced ct_reduced), sl_reduced⟩)
    (c_reduced : PySem.W.codeIn K cd_reduced "reduced" = true) (k_reduced : PySem.W.keepIn K (.ref f_reduced) = true)
    (a_word_that_follows : PySem.W.nsIn K mainGlobals "word_that_follows" = some (some (.ref f_word_that_follows)))
    (l_word_that_follows : K.lookup f_word_that_follows = some ⟨oc_word_that_follows, od_word_that_follows, .func (PySem.W.fnOf "word_that_follows" "word_that_follows" (defArgs s_word_that_follows) (defBody s_word_that_follows) (defScope s_word_that_follows) .none kV_word_that_follows dc_word_that_follows pm_word_that_follows an_word_that_follows cd_word_that_follows ct_word_that_follows), sl_word_that_follows⟩)
    (c_word_that_follows : PySem.W.codeIn K cd_word_that_follows "word_that_follows" = true) (k_word_that_follows : PySem.W.keepIn K (.ref f_word_that_follows) = true)
    (a_least_and_count : PySem.W.nsIn K mainGlobals "least_and_count" = some (some (.ref f_least_and_count)))
    (l_least_and_count : K.lookup f_least_and_count = some ⟨oc_least_and_count, od_least_and_count, .func (PySem.W.fnOf "least_and_count" "least_and_count" (defArgs s_least_and_count) (defBody s_least_and_count) (defScope s_least_and_count) .none kV_least_and_count dc_least_and_count pm_least_and_count an_least_and_count cd_least_and_count ct_least_and_count), sl_least_and_count⟩)
    (c_least_and_count : PySem.W.codeIn K cd_least_and_count "least_and_count" = true) (k_least_and_count : PySem.W.keepIn K (.ref f_least_and_count) = true)
    (a_levels_seen : PySem.W.nsIn K mainGlobals "levels_seen" = some (some (.ref f_levels_seen)))
    (l_levels_seen : K.lookup f_levels_seen = some ⟨oc_levels_seen, od_levels_seen, .func (PySem.W.fnOf "levels_seen" "levels_seen" (defArgs s_levels_seen) (defBody s_levels_seen) (defScope s_levels_seen) .none kV_levels_seen dc_levels_seen pm_levels_seen an_levels_seen cd_levels_seen ct_levels_seen), sl_levels_seen⟩)
    (c_levels_seen : PySem.W.codeIn K cd_levels_seen "levels_seen" = true) (k_levels_seen : PySem.W.keepIn K (.ref f_levels_seen) = true)
    (a_law_cell_at : PySem.W.nsIn K mainGlobals "_law_cell_at" = some (some (.ref f_law_cell_at)))
    (l_law_cell_at : K.lookup f_law_cell_at = some ⟨oc_law_cell_at, od_law_cell_at, .func (PySem.W.fnOf "_law_cell_at" "_law_cell_at" (defArgs s__law_cell_at) (defBody s__law_cell_at) (defScope s__law_cell_at) .none kV_law_cell_at dc_law_cell_at pm_law_cell_at an_law_cell_at cd_law_cell_at ct_law_cell_at), sl_law_cell_at⟩)
    (c_law_cell_at : PySem.W.codeIn K cd_law_cell_at "_law_cell_at" = true) (k_law_cell_at : PySem.W.keepIn K (.ref f_law_cell_at) = true)
    (a_law_mixed : PySem.W.nsIn K mainGlobals "_law_mixed" = some (some (.ref f_law_mixed)))
    (l_law_mixed : K.lookup f_law_mixed = some ⟨oc_law_mixed, od_law_mixed, .func (PySem.W.fnOf "_law_mixed" "_law_mixed" (defArgs s__law_mixed) (defBody s__law_mixed) (defScope s__law_mixed) .none kV_law_mixed dc_law_mixed pm_law_mixed an_law_mixed cd_law_mixed ct_law_mixed), sl_law_mixed⟩)
    (c_law_mixed : PySem.W.codeIn K cd_law_mixed "_law_mixed" = true) (k_law_mixed : PySem.W.keepIn K (.ref f_law_mixed) = true)
    (a_law_source : PySem.W.nsIn K mainGlobals "_law_source" = some (some (.ref f_law_source)))
    (l_law_source : K.lookup f_law_source = some ⟨oc_law_source, od_law_source, .func (PySem.W.fnOf "_law_source" "_law_source" (defArgs s__law_source) (defBody s__law_source) (defScope s__law_source) .none kV_law_source dc_law_source pm_law_source an_law_source cd_law_source ct_law_source), sl_law_source⟩)
    (c_law_source : PySem.W.codeIn K cd_law_source "_law_source" = true) (k_law_source : PySem.W.keepIn K (.ref f_law_source) = true)
    (a_law_next : PySem.W.nsIn K mainGlobals "_law_next" = some (some (.ref f_law_next)))
    (l_law_next : K.lookup f_law_next = some ⟨oc_law_next, od_law_next, .func (PySem.W.fnOf "_law_next" "_law_next" (defArgs s__law_next) (defBody s__law_next) (defScope s__law_next) .none kV_law_next dc_law_next pm_law_next an_law_next cd_law_next ct_law_next), sl_law_next⟩)
    (c_law_next : PySem.W.codeIn K cd_law_next "_law_next" = true) (k_law_next : PySem.W.keepIn K (.ref f_law_next) = true)
    (a_law_base : PySem.W.nsIn K mainGlobals "_law_base" = some (some (.ref f_law_base)))
    (l_law_base : K.lookup f_law_base = some ⟨oc_law_base, od_law_base, .func (PySem.W.fnOf "_law_base" "_law_base" (defArgs s__law_base) (defBody s__law_base) (defScope s__law_base) .none kV_law_base dc_law_base pm_law_base an_law_base cd_law_base ct_law_base), sl_law_base⟩)
    (c_law_base : PySem.W.codeIn K cd_law_base "_law_base" = true) (k_law_base : PySem.W.keepIn K (.ref f_law_base) = true)
    (a_law_tick : PySem.W.nsIn K mainGlobals "_law_tick" = some (some (.ref f_law_tick)))
    (l_law_tick : K.lookup f_law_tick = some ⟨oc_law_tick, od_law_tick, .func (PySem.W.fnOf "_law_tick" "_law_tick" (defArgs s__law_tick) (defBody s__law_tick) (defScope s__law_tick) .none kV_law_tick dc_law_tick pm_law_tick an_law_tick cd_law_tick ct_law_tick), sl_law_tick⟩)
    (c_law_tick : PySem.W.codeIn K cd_law_tick "_law_tick" = true) (k_law_tick : PySem.W.keepIn K (.ref f_law_tick) = true)
    (a_law_is_front : PySem.W.nsIn K mainGlobals "_law_is_front" = some (some (.ref f_law_is_front)))
    (l_law_is_front : K.lookup f_law_is_front = some ⟨oc_law_is_front, od_law_is_front, .func (PySem.W.fnOf "_law_is_front" "_law_is_front" (defArgs s__law_is_front) (defBody s__law_is_front) (defScope s__law_is_front) .none kV_law_is_front dc_law_is_front pm_law_is_front an_law_is_front cd_law_is_front ct_law_is_front), sl_law_is_front⟩)
    (c_law_is_front : PySem.W.codeIn K cd_law_is_front "_law_is_front" = true) (k_law_is_front : PySem.W.keepIn K (.ref f_law_is_front) = true)
    (a_law_mask : PySem.W.nsIn K mainGlobals "_law_mask" = some (some (.ref f_law_mask)))
    (l_law_mask : K.lookup f_law_mask = some ⟨oc_law_mask, od_law_mask, .func (PySem.W.fnOf "_law_mask" "_law_mask" (defArgs s__law_mask) (defBody s__law_mask) (defScope s__law_mask) .none kV_law_mask dc_law_mask pm_law_mask an_law_mask cd_law_mask ct_law_mask), sl_law_mask⟩)
    (c_law_mask : PySem.W.codeIn K cd_law_mask "_law_mask" = true) (k_law_mask : PySem.W.keepIn K (.ref f_law_mask) = true)
    (a_law_parity : PySem.W.nsIn K mainGlobals "_law_parity" = some (some (.ref f_law_parity)))
    (l_law_parity : K.lookup f_law_parity = some ⟨oc_law_parity, od_law_parity, .func (PySem.W.fnOf "_law_parity" "_law_parity" (defArgs s__law_parity) (defBody s__law_parity) (defScope s__law_parity) .none kV_law_parity dc_law_parity pm_law_parity an_law_parity cd_law_parity ct_law_parity), sl_law_parity⟩)
    (c_law_parity : PySem.W.codeIn K cd_law_parity "_law_parity" = true) (k_law_parity : PySem.W.keepIn K (.ref f_law_parity) = true)
    (a_law_by_bits : PySem.W.nsIn K mainGlobals "_law_by_bits" = some (some (.ref f_law_by_bits)))
    (l_law_by_bits : K.lookup f_law_by_bits = some ⟨oc_law_by_bits, od_law_by_bits, .func (PySem.W.fnOf "_law_by_bits" "_law_by_bits" (defArgs s__law_by_bits) (defBody s__law_by_bits) (defScope s__law_by_bits) .none kV_law_by_bits dc_law_by_bits pm_law_by_bits an_law_by_bits cd_law_by_bits ct_law_by_bits), sl_law_by_bits⟩)
    (c_law_by_bits : PySem.W.codeIn K cd_law_by_bits "_law_by_bits" = true) (k_law_by_bits : PySem.W.keepIn K (.ref f_law_by_bits) = true)
    (a_law_gone_through : PySem.W.nsIn K mainGlobals "_law_gone_through" = some (some (.ref f_law_gone_through)))
    (l_law_gone_through : K.lookup f_law_gone_through = some ⟨oc_law_gone_through, od_law_gone_through, .func (PySem.W.fnOf "_law_gone_through" "_law_gone_through" (defArgs s__law_gone_through) (defBody s__law_gone_through) (defScope s__law_gone_through) .none kV_law_gone_through dc_law_gone_through pm_law_gone_through an_law_gone_through cd_law_gone_through ct_law_gone_through), sl_law_gone_through⟩)
    (c_law_gone_through : PySem.W.codeIn K cd_law_gone_through "_law_gone_through" = true) (k_law_gone_through : PySem.W.keepIn K (.ref f_law_gone_through) = true)
    (a_law_sightings : PySem.W.nsIn K mainGlobals "_law_sightings" = some (some (.ref f_law_sightings)))
    (l_law_sightings : K.lookup f_law_sightings = some ⟨oc_law_sightings, od_law_sightings, .func (PySem.W.fnOf "_law_sightings" "_law_sightings" (defArgs s__law_sightings) (defBody s__law_sightings) (defScope s__law_sightings) .none kV_law_sightings dc_law_sightings pm_law_sightings an_law_sightings cd_law_sightings ct_law_sightings), sl_law_sightings⟩)
    (c_law_sightings : PySem.W.codeIn K cd_law_sightings "_law_sightings" = true) (k_law_sightings : PySem.W.keepIn K (.ref f_law_sightings) = true)
    (a_law : PySem.W.nsIn K mainGlobals "law" = some (some (.ref f_law)))
    (l_law : K.lookup f_law = some ⟨oc_law, od_law, .func (PySem.W.fnOf "law" "law" (defArgs s_law) (defBody s_law) (defScope s_law) .none kV_law dc_law pm_law an_law cd_law ct_law), sl_law⟩)
    (c_law : PySem.W.codeIn K cd_law "law" = true) (k_law : PySem.W.keepIn K (.ref f_law) = true)
    (z_isinstance : PySem.W.nsIn K mainGlobals "isinstance" = some none)
    (z_int : PySem.W.nsIn K mainGlobals "int" = some none)
    (z_bool : PySem.W.nsIn K mainGlobals "bool" = some none)
    (z_str : PySem.W.nsIn K mainGlobals "str" = some none)
    (z_tuple : PySem.W.nsIn K mainGlobals "tuple" = some none)
    (z_len : PySem.W.nsIn K mainGlobals "len" = some none)
    (z_list : PySem.W.nsIn K mainGlobals "list" = some none)
    (z_all : PySem.W.nsIn K mainGlobals "all" = some none)
    (z_sorted : PySem.W.nsIn K mainGlobals "sorted" = some none)
    (z_set : PySem.W.nsIn K mainGlobals "set" = some none)
    (z_range : PySem.W.nsIn K mainGlobals "range" = some none)
    (z_enumerate : PySem.W.nsIn K mainGlobals "enumerate" = some none)
    (z_max : PySem.W.nsIn K mainGlobals "max" = some none)
    (z_min : PySem.W.nsIn K mainGlobals "min" = some none)
    (a_MOST_LEVELS : PySem.W.nsIn K mainGlobals "MOST_LEVELS" = some (some (.int 60 tk_MOST_LEVELS)))
    (a_SIDES : PySem.W.nsIn K mainGlobals "SIDES" = some (some (.ref f_SIDES)))
    (l_SIDES : K.lookup f_SIDES = some ⟨.type "tuple", od_SIDES, .seq #[.str "front" tk0_SIDES, .str "back" tk1_SIDES] tn_SIDES, ts_SIDES⟩)
    : ∃ fd : FuncData, (∀ (s : Shared) (v : Value), BindsTo s fd ⟨[v], []⟩ [("_law_script", v)]) ∧ ∀ base : Heap, K.In base → base.Ns mainGlobals mg → FnOk l.prog w K mg base CX0 6 fa fd ["_law_script"] (spLaw K) := by
  have e := hfa.symm.trans (PySem.W.mg_of X G a_law)
  cases e
  have T : Tx K mg := ⟨PySem.W.mg_none_of X G z_isinstance, PySem.W.mg_none_of X G z_int, PySem.W.mg_none_of X G z_bool, PySem.W.mg_none_of X G z_str, PySem.W.mg_none_of X G z_tuple, PySem.W.mg_none_of X G z_len, PySem.W.mg_none_of X G z_list, PySem.W.mg_none_of X G z_all, PySem.W.mg_none_of X G z_sorted, PySem.W.mg_none_of X G z_set, PySem.W.mg_none_of X G z_range, PySem.W.mg_none_of X G z_enumerate, PySem.W.mg_none_of X G z_max, PySem.W.mg_none_of X G z_min⟩
  have h_MOST_LEVELS : mg "MOST_LEVELS" = some (.int 60 tk_MOST_LEVELS) := PySem.W.mg_of X G a_MOST_LEVELS
  have h_SIDES : ∃ a, mg "SIDES" = some (.ref a) ∧ ∀ H, SqT K H a [.str "front", .str "back"] := ⟨f_SIDES, PySem.W.mg_of X G a_SIDES, fun H => .inr ⟨_, _, _, l_SIDES, rfl, rfl, by simp [sizeLine_eq], .cons ⟨_, rfl⟩ (.cons ⟨_, rfl⟩ (.nil))⟩⟩
  have D_is_integer : Df K mg "is_integer" s_is_integer ["given"] := by
    have F := fun_mk (st := s_is_integer) l_is_integer c_is_integer k_is_integer
    exact ⟨_, _, F, PySem.W.mg_of X G a_is_integer, F.binds (ps := ["given"]) fun _ _ _ _ _ _ us hl => match us, hl with | [_], _ => rfl⟩
  have D_is_base : Df K mg "is_base" s_is_base ["given"] := by
    have F := fun_mk (st := s_is_base) l_is_base c_is_base k_is_base
    exact ⟨_, _, F, PySem.W.mg_of X G a_is_base, F.binds (ps := ["given"]) fun _ _ _ _ _ _ us hl => match us, hl with | [_], _ => rfl⟩
  have D_is_length : Df K mg "is_length" s_is_length ["given"] := by
    have F := fun_mk (st := s_is_length) l_is_length c_is_length k_is_length
    exact ⟨_, _, F, PySem.W.mg_of X G a_is_length, F.binds (ps := ["given"]) fun _ _ _ _ _ _ us hl => match us, hl with | [_], _ => rfl⟩
  have D_is_tick : Dd K mg "is_tick" s_is_tick ["given", "least"] (.int 0) := by
    have F : FunD K "is_tick" "is_tick" (defArgs s_is_tick) (defBody s_is_tick) (defScope s_is_tick) [(.int 0)] [] _ _ := ⟨⟨_, _, _, _, _, _, _, _, _, _, rfl, l_is_tick, c_is_tick, .inr ⟨by simp, dT_is_tick, _, [_], _, rfl, t_is_tick, rfl, .cons ⟨_, rfl⟩ .nil⟩, .inl rfl⟩, k_is_tick⟩
    exact ⟨_, _, F, PySem.W.mg_of X G a_is_tick,
      FunD.binds1 (ps := ["given", "least"]) F 1 0 (by simp) rfl fun _ _ _ _ _ _ _ us its hu hi => match us, its, hu, hi with | [_], [_], _, _ => ⟨_, rfl, rfl⟩,
      by obtain ⟨ds, r, b⟩ := FunD.binds1 (ps := ["given", "least"]) F 2 1 (by simp) rfl fun _ _ _ _ _ _ _ us its hu hi => match us, its, hu, hi with | [_, _], [_], _, _ => ⟨_, rfl, rfl⟩
         cases r
         exact b⟩
  have D_check_base : Df K mg "check_base" s_check_base ["base"] := by
    have F := fun_mk (st := s_check_base) l_check_base c_check_base k_check_base
    exact ⟨_, _, F, PySem.W.mg_of X G a_check_base, F.binds (ps := ["base"]) fun _ _ _ _ _ _ us hl => match us, hl with | [_], _ => rfl⟩
  have D_level_and_size : Df K mg "level_and_size" s_level_and_size ["base", "now", "due"] := by
    have F := fun_mk (st := s_level_and_size) l_level_and_size c_level_and_size k_level_and_size
    exact ⟨_, _, F, PySem.W.mg_of X G a_level_and_size, F.binds (ps := ["base", "now", "due"]) fun _ _ _ _ _ _ us hl => match us, hl with | [_, _, _], _ => rfl⟩
  have D_path : Df K mg "path" s_path ["base", "now", "due"] := by
    have F := fun_mk (st := s_path) l_path c_path k_path
    exact ⟨_, _, F, PySem.W.mg_of X G a_path, F.binds (ps := ["base", "now", "due"]) fun _ _ _ _ _ _ us hl => match us, hl with | [_, _, _], _ => rfl⟩
  have D_is_sighting : Df K mg "is_sighting" s_is_sighting ["given"] := by
    have F := fun_mk (st := s_is_sighting) l_is_sighting c_is_sighting k_is_sighting
    exact ⟨_, _, F, PySem.W.mg_of X G a_is_sighting, F.binds (ps := ["given"]) fun _ _ _ _ _ _ us hl => match us, hl with | [_], _ => rfl⟩
  have D_check_many : Df K mg "check_many" s_check_many ["many"] := by
    have F := fun_mk (st := s_check_many) l_check_many c_check_many k_check_many
    exact ⟨_, _, F, PySem.W.mg_of X G a_check_many, F.binds (ps := ["many"]) fun _ _ _ _ _ _ us hl => match us, hl with | [_], _ => rfl⟩
  have D_check_seen : Df K mg "check_seen" s_check_seen ["seen"] := by
    have F := fun_mk (st := s_check_seen) l_check_seen c_check_seen k_check_seen
    exact ⟨_, _, F, PySem.W.mg_of X G a_check_seen, F.binds (ps := ["seen"]) fun _ _ _ _ _ _ us hl => match us, hl with | [_], _ => rfl⟩
  have D_equation : Df K mg "equation" s_equation ["base", "many", "sighting"] := by
    have F := fun_mk (st := s_equation) l_equation c_equation k_equation
    exact ⟨_, _, F, PySem.W.mg_of X G a_equation, F.binds (ps := ["base", "many", "sighting"]) fun _ _ _ _ _ _ us hl => match us, hl with | [_, _, _], _ => rfl⟩
  have D_reduced : Df K mg "reduced" s_reduced ["levels", "odd", "known"] := by
    have F := fun_mk (st := s_reduced) l_reduced c_reduced k_reduced
    exact ⟨_, _, F, PySem.W.mg_of X G a_reduced, F.binds (ps := ["levels", "odd", "known"]) fun _ _ _ _ _ _ us hl => match us, hl with | [_, _, _], _ => rfl⟩
  have D_word_that_follows : Df K mg "word_that_follows" s_word_that_follows ["words", "levels", "odd"] := by
    have F := fun_mk (st := s_word_that_follows) l_word_that_follows c_word_that_follows k_word_that_follows
    exact ⟨_, _, F, PySem.W.mg_of X G a_word_that_follows, F.binds (ps := ["words", "levels", "odd"]) fun _ _ _ _ _ _ us hl => match us, hl with | [_, _, _], _ => rfl⟩
  have D_least_and_count : Df K mg "least_and_count" s_least_and_count ["many", "known"] := by
    have F := fun_mk (st := s_least_and_count) l_least_and_count c_least_and_count k_least_and_count
    exact ⟨_, _, F, PySem.W.mg_of X G a_least_and_count, F.binds (ps := ["many", "known"]) fun _ _ _ _ _ _ us hl => match us, hl with | [_, _], _ => rfl⟩
  have D_levels_seen : Df K mg "levels_seen" s_levels_seen ["base", "many", "seen"] := by
    have F := fun_mk (st := s_levels_seen) l_levels_seen c_levels_seen k_levels_seen
    exact ⟨_, _, F, PySem.W.mg_of X G a_levels_seen, F.binds (ps := ["base", "many", "seen"]) fun _ _ _ _ _ _ us hl => match us, hl with | [_, _, _], _ => rfl⟩
  have D_law_cell_at : Df K mg "_law_cell_at" s__law_cell_at ["_law_script", "_law_k"] := by
    have F := fun_mk (st := s__law_cell_at) l_law_cell_at c_law_cell_at k_law_cell_at
    exact ⟨_, _, F, PySem.W.mg_of X G a_law_cell_at, F.binds (ps := ["_law_script", "_law_k"]) fun _ _ _ _ _ _ us hl => match us, hl with | [_, _], _ => rfl⟩
  have D_law_mixed : Df K mg "_law_mixed" s__law_mixed ["_law_cell", "_law_k"] := by
    have F := fun_mk (st := s__law_mixed) l_law_mixed c_law_mixed k_law_mixed
    exact ⟨_, _, F, PySem.W.mg_of X G a_law_mixed, F.binds (ps := ["_law_cell", "_law_k"]) fun _ _ _ _ _ _ us hl => match us, hl with | [_, _], _ => rfl⟩
  have D_law_source : Df K mg "_law_source" s__law_source ["_law_script", "_law_k"] := by
    have F := fun_mk (st := s__law_source) l_law_source c_law_source k_law_source
    exact ⟨_, _, F, PySem.W.mg_of X G a_law_source, F.binds (ps := ["_law_script", "_law_k"]) fun _ _ _ _ _ _ us hl => match us, hl with | [_, _], _ => rfl⟩
  have D_law_next : Df K mg "_law_next" s__law_next ["_law_source_here", "_law_many"] := by
    have F := fun_mk (st := s__law_next) l_law_next c_law_next k_law_next
    exact ⟨_, _, F, PySem.W.mg_of X G a_law_next, F.binds (ps := ["_law_source_here", "_law_many"]) fun _ _ _ _ _ _ us hl => match us, hl with | [_, _], _ => rfl⟩
  have D_law_base : Df K mg "_law_base" s__law_base ["_law_source_here"] := by
    have F := fun_mk (st := s__law_base) l_law_base c_law_base k_law_base
    exact ⟨_, _, F, PySem.W.mg_of X G a_law_base, F.binds (ps := ["_law_source_here"]) fun _ _ _ _ _ _ us hl => match us, hl with | [_], _ => rfl⟩
  have D_law_tick : Df K mg "_law_tick" s__law_tick ["_law_source_here", "_law_base_here"] := by
    have F := fun_mk (st := s__law_tick) l_law_tick c_law_tick k_law_tick
    exact ⟨_, _, F, PySem.W.mg_of X G a_law_tick, F.binds (ps := ["_law_source_here", "_law_base_here"]) fun _ _ _ _ _ _ us hl => match us, hl with | [_, _], _ => rfl⟩
  have D_law_is_front : Df K mg "_law_is_front" s__law_is_front ["_law_base_here", "_law_levels", "_law_now", "_law_due"] := by
    have F := fun_mk (st := s__law_is_front) l_law_is_front c_law_is_front k_law_is_front
    exact ⟨_, _, F, PySem.W.mg_of X G a_law_is_front, F.binds (ps := ["_law_base_here", "_law_levels", "_law_now", "_law_due"]) fun _ _ _ _ _ _ us hl => match us, hl with | [_, _, _, _], _ => rfl⟩
  have D_law_mask : Df K mg "_law_mask" s__law_mask ["_law_base_here", "_law_many", "_law_now", "_law_due"] := by
    have F := fun_mk (st := s__law_mask) l_law_mask c_law_mask k_law_mask
    exact ⟨_, _, F, PySem.W.mg_of X G a_law_mask, F.binds (ps := ["_law_base_here", "_law_many", "_law_now", "_law_due"]) fun _ _ _ _ _ _ us hl => match us, hl with | [_, _, _, _], _ => rfl⟩
  have D_law_parity : Df K mg "_law_parity" s__law_parity ["_law_number"] := by
    have F := fun_mk (st := s__law_parity) l_law_parity c_law_parity k_law_parity
    exact ⟨_, _, F, PySem.W.mg_of X G a_law_parity, F.binds (ps := ["_law_number"]) fun _ _ _ _ _ _ us hl => match us, hl with | [_], _ => rfl⟩
  have D_law_by_bits : Df K mg "_law_by_bits" s__law_by_bits ["_law_base_here", "_law_many", "_law_seen"] := by
    have F := fun_mk (st := s__law_by_bits) l_law_by_bits c_law_by_bits k_law_by_bits
    exact ⟨_, _, F, PySem.W.mg_of X G a_law_by_bits, F.binds (ps := ["_law_base_here", "_law_many", "_law_seen"]) fun _ _ _ _ _ _ us hl => match us, hl with | [_, _, _], _ => rfl⟩
  have D_law_gone_through : Df K mg "_law_gone_through" s__law_gone_through ["_law_base_here", "_law_many", "_law_seen"] := by
    have F := fun_mk (st := s__law_gone_through) l_law_gone_through c_law_gone_through k_law_gone_through
    exact ⟨_, _, F, PySem.W.mg_of X G a_law_gone_through, F.binds (ps := ["_law_base_here", "_law_many", "_law_seen"]) fun _ _ _ _ _ _ us hl => match us, hl with | [_, _, _], _ => rfl⟩
  have D_law_sightings : Df K mg "_law_sightings" s__law_sightings ["_law_source_here", "_law_base_here", "_law_hidden"] := by
    have F := fun_mk (st := s__law_sightings) l_law_sightings c_law_sightings k_law_sightings
    exact ⟨_, _, F, PySem.W.mg_of X G a_law_sightings, F.binds (ps := ["_law_source_here", "_law_base_here", "_law_hidden"]) fun _ _ _ _ _ _ us hl => match us, hl with | [_, _, _], _ => rfl⟩
  have D_law : Df K mg "law" s_law ["_law_script"] := by
    have F := fun_mk (st := s_law) l_law c_law k_law
    exact ⟨_, _, F, PySem.W.mg_of X G a_law, F.binds (ps := ["_law_script"]) fun _ _ _ _ _ _ us hl => match us, hl with | [_], _ => rfl⟩
  refine ⟨PySem.W.fnOf "law" "law" (defArgs s_law) (defBody s_law) (defScope s_law) .none kV_law dc_law pm_law an_law cd_law ct_law, fun s v => .of_eq rfl, fun base _ _ => ?_⟩
  have h_is_integer : Has l.prog w K mg base 1 "is_integer" ["given"] [] spIsInt := D_is_integer.has fun _ _ F => ok_is_integer F T
  have h_is_base : Has l.prog w K mg base 2 "is_base" ["given"] [] spIsBase := D_is_base.has fun _ _ F => ok_is_base F h_is_integer
  have h_check_base : Has l.prog w K mg base 3 "check_base" ["base"] [] spCheckBase := D_check_base.has fun _ _ F => ok_check_base F h_is_base
  have h_level_and_size : Has l.prog w K mg base 1 "level_and_size" ["base", "now", "due"] [] spLevel := D_level_and_size.has fun _ _ F => ok_level_and_size F 
  have h_path : Has l.prog w K mg base 2 "path" ["base", "now", "due"] [] spPath := D_path.has fun _ _ F => ok_path F h_level_and_size
  have hA_is_integer := D_is_integer.has (P := l.prog) (w := w) (base := base) (k := 1) (sp := spIsIntX K) fun _ _ F => okA_is_integer F T
  have hA_is_tick := D_is_tick.has (P := l.prog) (w := w) (base := base) (k := 2) (sp := spIsTickX K) fun _ _ F => okA_is_tick F hA_is_integer
  have hA_is_length := D_is_length.has (P := l.prog) (w := w) (base := base) (k := 2) (sp := spIsLengthX K) fun _ _ F => okA_is_length F ⟨_, h_MOST_LEVELS⟩ hA_is_integer
  have hA_is_sighting := D_is_sighting.has (P := l.prog) (w := w) (base := base) (k := 3) (sp := spIsSighting K) fun _ _ F => okA_is_sighting F T h_SIDES hA_is_tick.1 hA_is_tick.2
  have h_check_many : Has l.prog w K mg base 3 "check_many" ["many"] [] spCheckMany := D_check_many.has fun _ _ F => ok_check_many F hA_is_length
  have h_check_seen : Has l.prog w K mg base 4 "check_seen" ["seen"] [] (spCheckSeen K) := D_check_seen.has fun _ _ F => ok_check_seen F T hA_is_sighting
  have h_equation : Has l.prog w K mg base 3 "equation" ["base", "many", "sighting"] [] spEquation := D_equation.has fun _ _ F => ok_equation F T h_path
  have h_reduced : Has l.prog w K mg base 1 "reduced" ["levels", "odd", "known"] [] spReduced := D_reduced.has fun _ _ F => ok_reduced F T
  have h_word_that_follows : Has l.prog w K mg base 1 "word_that_follows" ["words", "levels", "odd"] [] (spFollows K) := D_word_that_follows.has fun _ _ F => ok_follows F T
  have h_least_and_count : Has l.prog w K mg base 2 "least_and_count" ["many", "known"] [] spLeast := D_least_and_count.has fun _ _ F => ok_least F T h_word_that_follows
  have h_levels_seen : Has l.prog w K mg base 5 "levels_seen" ["base", "many", "seen"] [] (spSeen K) := D_levels_seen.has fun _ _ F => ok_seen F T h_check_base h_check_many h_check_seen h_equation h_reduced h_least_and_count
  have h_law_cell_at : Has l.prog w K mg base 1 "_law_cell_at" ["_law_script", "_law_k"] [] (spCellAt K) := D_law_cell_at.has fun _ _ F => ok_cell_at F T
  have h_law_mixed : Has l.prog w K mg base 1 "_law_mixed" ["_law_cell", "_law_k"] [] spMixed := D_law_mixed.has fun _ _ F => ok_mixed F 
  have h_law_source : Has l.prog w K mg base 2 "_law_source" ["_law_script", "_law_k"] [] (spSource K) := D_law_source.has fun _ _ F => ok_source F T h_law_cell_at h_law_mixed
  have h_law_next : Has l.prog w K mg base 2 "_law_next" ["_law_source_here", "_law_many"] [] spNext := D_law_next.has fun _ _ F => ok_next F  h_law_mixed
  have h_law_base : Has l.prog w K mg base 3 "_law_base" ["_law_source_here"] [] spBase := D_law_base.has fun _ _ F => ok_base F h_law_next
  have h_law_tick : Has l.prog w K mg base 3 "_law_tick" ["_law_source_here", "_law_base_here"] [] spTick := D_law_tick.has fun _ _ F => ok_tick F T h_law_next
  have h_law_is_front : Has l.prog w K mg base 1 "_law_is_front" ["_law_base_here", "_law_levels", "_law_now", "_law_due"] [] (spLawFront K) := D_law_is_front.has fun _ _ F => ok_law_front F T
  have h_law_mask : Has l.prog w K mg base 1 "_law_mask" ["_law_base_here", "_law_many", "_law_now", "_law_due"] [] spMask := D_law_mask.has fun _ _ F => ok_mask F T
  have h_law_parity : Has l.prog w K mg base 1 "_law_parity" ["_law_number"] [] spParity := D_law_parity.has fun _ _ F => ok_parity F 
  have h_law_by_bits : Has l.prog w K mg base 2 "_law_by_bits" ["_law_base_here", "_law_many", "_law_seen"] [] (spBits K) := D_law_by_bits.has fun _ _ F => ok_bits F T h_law_mask h_law_parity
  have h_law_gone_through : Has l.prog w K mg base 2 "_law_gone_through" ["_law_base_here", "_law_many", "_law_seen"] [] (spGone K) := D_law_gone_through.has fun _ _ F => ok_gone F T h_law_is_front
  have h_law_sightings : Has l.prog w K mg base 4 "_law_sightings" ["_law_source_here", "_law_base_here", "_law_hidden"] [] spSights := D_law_sightings.has fun _ _ F => ok_sights F T h_law_next h_law_tick h_law_is_front
  exact ok_law (fun_mk (st := s_law) l_law c_law k_law) T h_law_source h_law_next h_law_base h_law_sightings h_law_by_bits h_law_gone_through h_levels_seen
end Td
open PySem PySem.W PyProof.Rows in
set_option maxRecDepth 100000 in
set_option maxHeartbeats 0 in
theorem PySem.Challenge.cw_timerdeque_k30_levels_found_by_sightings_holds : PySem.Challenge.rw_timerdeque_k30_levels_found_by_sightings.Holds := by
  w_on; o_law; k_head; (case hw => w_witness2)
  k_fill
  refine L2.walk_of (l := PySem.Challenge.rw_timerdeque_k30_levels_found_by_sightings) (n := 63) (k := 6) (x := "_law_script") (CX := fun _ => L2.CX0) (sp := fun w => Td.spLaw _) rfl (by decide) rfl ⟨rfl, by decide, by decide⟩ (fun w h Y => PySem.W.kIn_of Y) ?F (fun _ _ a ns hl _ hS => ⟨a, ns, rfl, hS, hl, fun _ => rfl⟩) (fun _ _ _ _ _ h => h)
  case F =>
    intro w mg fa h KX G hmg
    refine' Td.all_mk KX G hmg ?a_is_integer ?l_is_integer ?c_is_integer ?k_is_integer ?a_is_base ?l_is_base ?c_is_base ?k_is_base ?a_is_length ?l_is_length ?c_is_length ?k_is_length ?a_is_tick ?l_is_tick ?t_is_tick ?c_is_tick ?k_is_tick ?a_check_base ?l_check_base ?c_check_base ?k_check_base ?a_level_and_size ?l_level_and_size ?c_level_and_size ?k_level_and_size ?a_path ?l_path ?c_path ?k_path ?a_is_sighting ?l_is_sighting ?c_is_sighting ?k_is_sighting ?a_check_many ?l_check_many ?c_check_many ?k_check_many ?a_check_seen ?l_check_seen ?c_check_seen ?k_check_seen ?a_equation ?l_equation ?c_equation ?k_equation ?a_reduced ?l_reduced ?c_reduced ?k_reduced ?a_word_that_follows ?l_word_that_follows ?c_word_that_follows ?k_word_that_follows ?a_least_and_count ?l_least_and_count ?c_least_and_count ?k_least_and_count ?a_levels_seen ?l_levels_seen ?c_levels_seen ?k_levels_seen ?a_law_cell_at ?l_law_cell_at ?c_law_cell_at ?k_law_cell_at ?a_law_mixed ?l_law_mixed ?c_law_mixed ?k_law_mixed ?a_law_source ?l_law_source ?c_law_source ?k_law_source ?a_law_next ?l_law_next ?c_law_next ?k_law_next ?a_law_base ?l_law_base ?c_law_base ?k_law_base ?a_law_tick ?l_law_tick ?c_law_tick ?k_law_tick ?a_law_is_front ?l_law_is_front ?c_law_is_front ?k_law_is_front ?a_law_mask ?l_law_mask ?c_law_mask ?k_law_mask ?a_law_parity ?l_law_parity ?c_law_parity ?k_law_parity ?a_law_by_bits ?l_law_by_bits ?c_law_by_bits ?k_law_by_bits ?a_law_gone_through ?l_law_gone_through ?c_law_gone_through ?k_law_gone_through ?a_law_sightings ?l_law_sightings ?c_law_sightings ?k_law_sightings ?a_law ?l_law ?c_law ?k_law ?z_isinstance ?z_int ?z_bool ?z_str ?z_tuple ?z_len ?z_list ?z_all ?z_sorted ?z_set ?z_range ?z_enumerate ?z_max ?z_min ?a_MOST_LEVELS ?a_SIDES ?l_SIDES
    (case a_is_integer => k_is)
    (case l_is_integer => k_is)
    (case c_is_integer => k_is)
    (case k_is_integer => k_is)
    (case a_is_base => k_is)
    (case l_is_base => k_is)
    (case c_is_base => k_is)
    (case k_is_base => k_is)
    (case a_is_length => k_is)
    (case l_is_length => k_is)
    (case c_is_length => k_is)
    (case k_is_length => k_is)
    (case a_is_tick => k_is)
    (case l_is_tick => k_is)
    (case t_is_tick => k_is)
    (case c_is_tick => k_is)
    (case k_is_tick => k_is)
    (case a_check_base => k_is)
    (case l_check_base => k_is)
    (case c_check_base => k_is)
    (case k_check_base => k_is)
    (case a_level_and_size => k_is)
    (case l_level_and_size => k_is)
    (case c_level_and_size => k_is)
    (case k_level_and_size => k_is)
    (case a_path => k_is)
    (case l_path => k_is)
    (case c_path => k_is)
    (case k_path => k_is)
    (case a_is_sighting => k_is)
    (case l_is_sighting => k_is)
    (case c_is_sighting => k_is)
    (case k_is_sighting => k_is)
    (case a_check_many => k_is)
    (case l_check_many => k_is)
    (case c_check_many => k_is)
    (case k_check_many => k_is)
    (case a_check_seen => k_is)
    (case l_check_seen => k_is)
    (case c_check_seen => k_is)
    (case k_check_seen => k_is)
    (case a_equation => k_is)
    (case l_equation => k_is)
    (case c_equation => k_is)
    (case k_equation => k_is)
    (case a_reduced => k_is)
    (case l_reduced => k_is)
    (case c_reduced => k_is)
    (case k_reduced => k_is)
    (case a_word_that_follows => k_is)
    (case l_word_that_follows => k_is)
    (case c_word_that_follows => k_is)
    (case k_word_that_follows => k_is)
    (case a_least_and_count => k_is)
    (case l_least_and_count => k_is)
    (case c_least_and_count => k_is)
    (case k_least_and_count => k_is)
    (case a_levels_seen => k_is)
    (case l_levels_seen => k_is)
    (case c_levels_seen => k_is)
    (case k_levels_seen => k_is)
    (case a_law_cell_at => k_is)
    (case l_law_cell_at => k_is)
    (case c_law_cell_at => k_is)
    (case k_law_cell_at => k_is)
    (case a_law_mixed => k_is)
    (case l_law_mixed => k_is)
    (case c_law_mixed => k_is)
    (case k_law_mixed => k_is)
    (case a_law_source => k_is)
    (case l_law_source => k_is)
    (case c_law_source => k_is)
    (case k_law_source => k_is)
    (case a_law_next => k_is)
    (case l_law_next => k_is)
    (case c_law_next => k_is)
    (case k_law_next => k_is)
    (case a_law_base => k_is)
    (case l_law_base => k_is)
    (case c_law_base => k_is)
    (case k_law_base => k_is)
    (case a_law_tick => k_is)
    (case l_law_tick => k_is)
    (case c_law_tick => k_is)
    (case k_law_tick => k_is)
    (case a_law_is_front => k_is)
    (case l_law_is_front => k_is)
    (case c_law_is_front => k_is)
    (case k_law_is_front => k_is)
    (case a_law_mask => k_is)
    (case l_law_mask => k_is)
    (case c_law_mask => k_is)
    (case k_law_mask => k_is)
    (case a_law_parity => k_is)
    (case l_law_parity => k_is)
    (case c_law_parity => k_is)
    (case k_law_parity => k_is)
    (case a_law_by_bits => k_is)
    (case l_law_by_bits => k_is)
    (case c_law_by_bits => k_is)
    (case k_law_by_bits => k_is)
    (case a_law_gone_through => k_is)
    (case l_law_gone_through => k_is)
    (case c_law_gone_through => k_is)
    (case k_law_gone_through => k_is)
    (case a_law_sightings => k_is)
    (case l_law_sightings => k_is)
    (case c_law_sightings => k_is)
    (case k_law_sightings => k_is)
    (case a_law => k_is)
    (case l_law => k_is)
    (case c_law => k_is)
    (case k_law => k_is)
    (case z_isinstance => k_is)
    (case z_int => k_is)
    (case z_bool => k_is)
    (case z_str => k_is)
    (case z_tuple => k_is)
    (case z_len => k_is)
    (case z_list => k_is)
    (case z_all => k_is)
    (case z_sorted => k_is)
    (case z_set => k_is)
    (case z_range => k_is)
    (case z_enumerate => k_is)
    (case z_max => k_is)
    (case z_min => k_is)
    (case a_MOST_LEVELS => k_is)
    (case a_SIDES => k_is)
    (case l_SIDES => k_is)
