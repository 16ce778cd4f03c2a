import PyProof.Rows.All
import Wide.All
import OpenK.AllK
import Wide.FinOn
import HandS.ForMost
import HandS.IsInst
import HandS.Wide
import HandS.WideBits
import HandS.Defaults
import HandS.Zip
import HandS.Flow
import HandS.SortKw
import HandS.SortOrd
import HandS.Conv
import HandS.More
import HandS.Small
import KE.DatumOrd
import HandS.DictTup
import PyProof.DictMoreH
import HandS.MakeKwOnly
import HandS.Style
import HandS.Iter
import HandS.WordsDict
import HandS.SortRule
import HandS.DictComp
import KE.DataFind
import HandS.DictSub
import HandS.SetFor
import HandS.Strs
import PyProof.InstNe
import HandS.SortInts
import HandS.TupAny
import KE.KDictPairs
import PySem.Challenge.RW_timerdeque_k03_looking_ahead
set_option Elab.async false
set_option linter.all false
set_option maxRecDepth 100000
set_option maxHeartbeats 4000000
set_option exponentiation.threshold 10000
namespace Td
open PySem PySem.Spec PyProof.Rows L2
/-! ### small things: promises by name, heaps, numbers -/
section
variable {P : Program} {w : World} {K : PySem.W.Frag} {mg : Str → Option Value} {base : Heap}
/-- the module's name x holds a def that keeps the promise sp, its last parameters filled up by dvs -/
def Has (P : Program) (w : World) (K : PySem.W.Frag) (mg : Str → Option Value) (base : Heap) (k : Nat) (x : Str) (ps : List Str) (dvs : List V) (sp : Sp) : Prop :=
  ∃ (f : Addr) (fd : FuncData) (ds : List Value), FnOk P w K mg base CX0 k f fd ps sp ∧ mg x = some (.ref f) ∧ PySem.W.keepIn K (.ref f) = true ∧ Binds K fd ps ds ∧ Vals dvs ds
/-- what the top says of a def without defaults -/
def Df (K : PySem.W.Frag) (mg : Str → Option Value) (x : Str) (st : Stmt) (ps : List Str) : Prop :=
  ∃ (f : Addr) (fd : FuncData), Fun K x x st f fd ∧ mg x = some (.ref f) ∧ Binds K fd ps []
theorem Df.has {k : Nat} {x : Str} {st : Stmt} {ps : List Str} {sp : Sp} (D : Df K mg x st ps) (ok : ∀ f fd, Fun K x x st f fd → FnOk P w K mg base CX0 k f fd ps sp) : Has P w K mg base k x ps [] sp := by
  obtain ⟨f, fd, F, m, b⟩ := D
  exact ⟨f, fd, [], ok f fd F, m, F.kp, b, .nil⟩
/-- a def with one default, the last parameter's -/
def Dd (K : PySem.W.Frag) (mg : Str → Option Value) (x : Str) (st : Stmt) (ps : List Str) (d : V) : Prop :=
  ∃ (f : Addr) (fd : FuncData), FunD K x x (defArgs st) (defBody st) (defScope st) [d] [] f fd ∧ mg x = some (.ref f) ∧ (∃ ds, Vals [d] ds ∧ Binds K fd ps ds) ∧ Binds K fd ps []
theorem Dd.has {k : Nat} {x : Str} {st : Stmt} {ps : List Str} {d : V} {sp : Sp} (D : Dd K mg x st ps d) (ok : ∀ f fd, FunD K x x (defArgs st) (defBody st) (defScope st) [d] [] f fd → FnOk P w K mg base CX0 k f fd ps sp) :
    Has P w K mg base k x ps [d] sp ∧ Has P w K mg base k x ps [] sp := by
  obtain ⟨f, fd, F, m, ⟨ds, r, b⟩, b0⟩ := D
  exact ⟨⟨f, fd, ds, ok f fd F, m, F.kp, b, r⟩, ⟨f, fd, [], ok f fd F, m, F.kp, b0, .nil⟩⟩
end
section
variable {X : Cx}
/-- a product of which one side is small, or both are not too great -/
def CMulA (i j : Int) : Prop := IntMulOk i j
theorem op_mulA : OpR X (binaryOp .Mult) (rI CMulA fun i j => .int (i * j)) := opI fun _ _ _ _ _ _ _ hc q => mul_int q hc
end
/-! x *= e, ints -/
section
variable {X : Cx}
def ipC (C : Int → Int → Prop) (f : Int → Int → Int) : TIp := fun x y H Q => ∃ i j, x = .int i ∧ y = .int j ∧ C i j ∧ Q (.int (f i j)) H
theorem ip_mulA : PIp X .Mult (ipC CMulA fun i j => i * j) := by
  intro pins s σ H x y v u Q I r1 r2 h
  obtain ⟨i, j, rfl, rfl, hm, q⟩ := h
  obtain ⟨t, rfl⟩ := r1
  obtain ⟨t', rfl⟩ := r2
  exact imul_int ⟨.int _, H, I.tok _, ⟨_, rfl⟩, q⟩ hm
end
theorem mul_l {i j : Int} (h1 : -(2 ^ 64) < i) (h2 : i < 2 ^ 64) : CMulA i j := CMul.ok (.inl ⟨h1, h2⟩)
theorem mul_r {i j : Int} (h1 : -(2 ^ 64) < j) (h2 : j < 2 ^ 64) : CMulA i j := CMul.ok (.inr ⟨h1, h2⟩)
theorem mul_w {i j : Int} (a b : Nat) (ha : i.natAbs < 2 ^ a) (hb : j.natAbs < 2 ^ b) (h0 : 0 < a := by decide) (h1 : 0 < b := by decide) (h : a + b ≤ 1000000 := by decide) : CMulA i j := (wide_mul ha hb h0 h1 h).ok
theorem div_s {i j : Int} (h : 0 < j) (h2 : j < 2 ^ 300) : CDivW i j := wide_div (b := 300) h (by omega) (by decide) (by decide)
theorem div_b {i j : Int} (b : Nat) (h : 0 < j) (h2 : j < 2 ^ b) (h0 : 0 < b := by decide) (h9 : b ≤ 9000 := by decide) : CDivW i j := by
  refine wide_div (b := b) h ?_ h0 h9
  have e : ((2 ^ b : Nat) : Int) = (2 : Int) ^ b := by
    rw [Int.natCast_pow]
    rfl
  omega
theorem same_upd {H : Hp} {p : Addr} {o : HO} (h : H p = none) : Same H (upd H p o) := fun b x e => by
  rw [upd_ne (ne_of_none e h)]
  exact e
theorem sizeLine_ge {n : Nat} (h : n ≤ 1000000) : n < sizeLine := by
  rw [sizeLine_eq]
  omega
theorem sizeLine_le {n : Nat} (h : n ≤ 1000000) : n ≤ sizeLine := Nat.le_of_lt (sizeLine_ge h)
theorem pos_of {a c : Nat} (h : a ≤ c) (n : ¬ a = c) : 0 < c := by omega
/-! ### operators on numbers that are not negative -/
def rN (C : Nat → Nat → Prop) (g : Nat → Nat → Nat) : R2 := fun x y H Q => ∃ a b : Nat, x = .int (a : Nat) ∧ y = .int (b : Nat) ∧ C a b ∧ Q (.int ((g a b : Nat) : Int)) H
section
variable {X : Cx}
theorem opN {f : Value → Value → Sem Value} {C : Nat → Nat → Prop} {g : Nat → Nat → Nat} {CI : Int → Int → Prop} {gI : Int → Int → V} (h : OpR X f (rI CI gI)) (e : ∀ a b : Nat, C a b → CI (a : Nat) (b : Nat) ∧ gI (a : Nat) (b : Nat) = .int ((g a b : Nat) : Int)) : OpR X f (rN C g) := by
  intro pins s σ H x y v u Q I rx ry hq
  obtain ⟨a, b, ex, ey, hc, q⟩ := hq
  obtain ⟨h1, h2⟩ := e a b hc
  exact h pins s σ H x y v u Q I rx ry ⟨_, _, ex, ey, h1, by rw [h2]; exact q⟩
theorem opN0 {f : Value → Value → Sem Value} {C : Nat → Nat → Prop} {g : Nat → Nat → Nat} {gI : Int → Int → V} (h : OpR X f (rI0 gI)) (e : ∀ a b : Nat, C a b → gI (a : Nat) (b : Nat) = .int ((g a b : Nat) : Int)) : OpR X f (rN C g) := by
  intro pins s σ H x y v u Q I rx ry hq
  obtain ⟨a, b, ex, ey, hc, q⟩ := hq
  exact h pins s σ H x y v u Q I rx ry ⟨_, _, ex, ey, by rw [e a b hc]; exact q⟩
def NDiv (_ b : Nat) : Prop := 0 < b ∧ b < 2 ^ 9000
def NMod (_ b : Nat) : Prop := 0 < b
def NSub (a b : Nat) : Prop := b ≤ a
def NMul (a b : Nat) : Prop := IntMulOk (a : Int) (b : Int)
def NAny (_ _ : Nat) : Prop := True
theorem op_divN : OpR X (binaryOp .FloorDiv) (rN NDiv fun a b => a / b) := opN op_fdivW fun a b h => ⟨wide_div (b := 9000) (Int.natCast_pos.mpr h.1) h.2 (by decide) (Nat.le_refl _), rfl⟩
theorem op_remN : OpR X (binaryOp .Mod) (rN NMod fun a b => a % b) := opN op_mod fun a b h => ⟨Int.natCast_pos.mpr h, rfl⟩
theorem op_mulN : OpR X (binaryOp .Mult) (rN NMul fun a b => a * b) := opN op_mulA fun a b h => ⟨h, congrArg V.int (Int.natCast_mul a b).symm⟩
theorem op_addN : OpR X (binaryOp .Add) (rN NAny fun a b => a + b) := opN0 op_add fun _ _ _ => rfl
theorem op_subN : OpR X (binaryOp .Sub) (rN NSub fun a b => a - b) := opN0 op_sub fun a b h => congrArg V.int (Int.natCast_sub h).symm
end
theorem ndiv {a b : Nat} (t : Nat) (h : 0 < b) (h2 : b < 2 ^ t) (ht : t ≤ 9000 := by decide) : NDiv a b := ⟨h, Nat.lt_of_lt_of_le h2 (Nat.pow_le_pow_right (by decide) ht)⟩
theorem nmul_l {a b : Nat} (h : a < 2 ^ 64) : NMul a b := mul_l (by omega) (by omega)
theorem nmul_r {a b : Nat} (h : b < 2 ^ 64) : NMul a b := mul_r (by omega) (by omega)
theorem nmul_w {a b : Nat} (i j : Nat) (ha : a < 2 ^ i) (hb : b < 2 ^ j) (h0 : 0 < i := by decide) (h1 : 0 < j := by decide) (h : i + j ≤ 1000000 := by decide) : NMul a b := mul_w i j ha hb h0 h1 h
theorem int_ne {a b : Nat} (h : a ≠ b) : decide (V.int (a : Nat) = V.int (b : Nat)) = false := decide_eq_false fun e => h (Int.ofNat.inj (V.int.inj e))
theorem dT {p : Prop} [Decidable p] (h : p) : V.bl (decide p) = V.bl true := congrArg V.bl (decide_eq_true h)
theorem dF {p : Prop} [Decidable p] (h : ¬ p) : V.bl (decide p) = V.bl false := congrArg V.bl (decide_eq_false h)
theorem nT {p : Prop} [Decidable p] (h : ¬ p) : V.bl (!decide p) = V.bl true := congrArg V.bl (congrArg (!·) (decide_eq_false h))
theorem nF {p : Prop} [Decidable p] (h : p) : V.bl (!decide p) = V.bl false := congrArg V.bl (congrArg (!·) (decide_eq_true h))
theorem vN {a b : Nat} (h : a ≠ b) : ¬ V.int (a : Nat) = V.int (b : Nat) := fun e => h (Int.ofNat.inj (V.int.inj e))
theorem vE {a b : Nat} (h : a = b) : V.int (a : Nat) = V.int (b : Nat) := congrArg (fun c : Nat => V.int (c : Nat)) h
theorem vI {a b : Int} (h : a ≠ b) : ¬ V.int a = V.int b := fun e => h (V.int.inj e)
/-! ### rules with the written part named (within a comprehension's block) -/
section
variable {X : Cx} {K : PySem.W.Frag}
theorem ix_tupK (e : X.K = K) : IxR X (rIxT K) := by subst e; exact ix_tup
theorem ix_listK (e : X.K = K) : IxR X (rIxL K) := by subst e; exact ix_list
theorem sl_tupK (e : X.K = K) : SlR X (rSlT K) := by subst e; exact sl_tup
theorem sl_listK (e : X.K = K) : SlR X (rSlL K) := by subst e; exact sl_list
theorem op_eqK (e : X.K = K) (hu : X.A.units + 64 < cLine) : OpR X (compareOp .Eq) (rEqD K) := by subst e; exact op_eqD hu
theorem op_neK (e : X.K = K) (hu : X.A.units + 64 < cLine) : OpR X (compareOp .NotEq) (rNeD K) := by subst e; exact op_neD hu
theorem isiK (e : X.K = K) : CallR X (.builtin "isinstance") (rIsi K) := by subst e; exact call_isi
def rLenK (K : PySem.W.Frag) : List V → Hp → VK → Prop := fun xs H Q => ∃ p ys, xs = [.ref p] ∧ (SqL K H p ys ∨ SqT K H p ys) ∧ Q (.int ys.length) H
theorem lenK (e : X.K = K) : CallR X (.builtin "len") (rLenK K) := by subst e; exact call_len_seq
theorem allK (e : X.K = K) (hc : X.calm = true) : CallR X (.builtin "all") (rAll K) := by subst e; exact cr_all hc
theorem sumK (e : X.K = K) (hc : X.calm = true) : CallR X (.builtin "sum") (rSum K) := by subst e; exact cr_sum hc
theorem maxK (e : X.K = K) (hc : X.calm = true) : CallR X (.builtin "max") (rMax K) := by subst e; exact cr_max hc
theorem minK (e : X.K = K) (hc : X.calm = true) : CallR X (.builtin "min") (rMin K) := by subst e; exact cr_min hc
theorem anyK (e : X.K = K) (hc : X.calm = true) : CallR X (.builtin "any") (rAny K) := by subst e; exact cr_any hc
end
section
variable {X : Cx} {K : PySem.W.Frag}
theorem ix_ltK (e : X.K = K) : IxR X (fun x y H Q => rIxL K x y H Q ∨ rIxT K x y H Q) := by subst e; exact ix_list.or ix_tup
theorem pe_orTK {a b : Expr} {ta tb : TE} {rest : List Expr} {pos : Pos} (e : X.K = K) (ha : PE X a ta) (hb : PE X (.BoolOp .Or (b :: rest) pos) tb) : PE X (.BoolOp .Or (a :: b :: rest) pos) (tOrT K ta tb) := by subst e; exact pe_orT ha hb
end
theorem yesT {σ : L2.St} {H : Hp} {Q : Bool → Hp → Prop} (h : Q true H) : tYes σ H Q := h
section
variable {X : Cx} {K : PySem.W.Frag}
theorem pg_tupK {es : List Expr} {k : Nat} {t : TGs} {n : Nat} {pos : Pos} (e : X.K = K) (hc : X.calm = true) (h : PGs X es t)
    (hn : (assignEach es X.env).length = n := by rfl) (hst : (assignEach es X.env).findIdx? (·.1) = none := by rfl) : PG X (.Tuple es k pos) (gTup K n t) := by
  subst e
  exact pg_tup hc h hn hst
end
theorem tyx_list {K : PySem.W.Frag} {H : Hp} {a : Addr} {xs : List V} (h : SqL K H a xs) : TyX K H (.ref a) (.type "list") := by
  rcases h with (h | ⟨o, h⟩) | ⟨o, its, n, h, hc, _⟩
  · exact .base (.lst h)
  · exact .base (.frz h)
  · exact .kList h hc
/-- max and min of two numbers that are not negative -/
def rNN (g : Nat → Nat → Nat) : List V → Hp → VK → Prop := fun xs H Q => ∃ a b : Nat, xs = [.int (a : Nat), .int (b : Nat)] ∧ Q (.int ((g a b : Nat) : Int)) H
section
variable {X : Cx}
theorem max2N (hc : X.calm = true) : CallR X (.builtin "max") (rNN max) := by
  intro pins s σ H xs us Q I r h
  obtain ⟨a, b, rfl, q⟩ := h
  refine call_max2 hc pins s σ H _ us Q I r ⟨_, _, rfl, ?_⟩
  have e : (if (b : Int) > (a : Int) then (b : Int) else (a : Int)) = ((max a b : Nat) : Int) := by split <;> omega
  rw [e]
  exact q
theorem max0N (hc : X.calm = true) : CallR X (.builtin "max") (fun xs H Q => ∃ (z : Int) (n : Nat), xs = [.int 0, .int z] ∧ (if z > 0 then z else 0) = (n : Int) ∧ Q (.int (n : Nat)) H) := by
  intro pins s σ H xs us Q I r h
  obtain ⟨z, n, rfl, e, q⟩ := h
  refine call_max2 hc pins s σ H _ us Q I r ⟨0, z, rfl, ?_⟩
  rw [e]
  exact q
theorem min2N (hc : X.calm = true) : CallR X (.builtin "min") (rNN min) := by
  intro pins s σ H xs us Q I r h
  obtain ⟨a, b, rfl, q⟩ := h
  refine call_min2 hc pins s σ H _ us Q I r ⟨_, _, rfl, ?_⟩
  have e : (if (b : Int) < (a : Int) then (b : Int) else (a : Int)) = ((min a b : Nat) : Int) := by split <;> omega
  rw [e]
  exact q
end
/-- one rest behind several ways -/
theorem cut_at {α : Type} {I : α → Hp → Prop} {G : Prop} (R : α → Hp → Prop) (h1 : (∀ a H, I a H → R a H) → G) (h2 : ∀ a H, I a H → R a H) : G := h1 h2
theorem cut_rest {I : Hp → Prop} {G : Prop} (R : Hp → Prop) (h1 : (∀ H, I H → R H) → G) (h2 : ∀ H, I H → R H) : G := h1 h2
/-! ### `int(a) op b`: read as `a op b` where b yields something -/
section
variable {X : Cx} {a b : Expr} {ta tb : TE} {p p2 pos : Pos}
def Wit (tb : TE) : Prop := ∀ σ H Q, tb σ H Q → ∃ y H', Q y H'
theorem wit_var {i : Nat} : Wit (tVar i) := fun _ _ _ ⟨_, _, q⟩ => ⟨_, _, q⟩
theorem wit_c {v : V} : Wit (tC v) := fun _ _ _ q => ⟨_, _, q⟩
theorem wit_pow {i j : Int} : Wit (tOp (rI CPow fun i j => .int (i ^ j.toNat)) (tC (.int i)) (tC (.int j))) := fun _ _ _ q => by
  obtain ⟨_, _, _, _, _, q⟩ := q
  exact ⟨_, _, q⟩
def LInt (r : R2) : Prop := ∀ x y H Q, r x y H Q → ∃ i, x = .int i
theorem lint_I {C : Int → Int → Prop} {g : Int → Int → V} : LInt (rI C g) := fun _ _ _ _ ⟨i, _, e, _⟩ => ⟨i, e⟩
theorem lint_N {C : Nat → Nat → Prop} {g : Nat → Nat → Nat} : LInt (rN C g) := fun _ _ _ _ ⟨i, _, e, _⟩ => ⟨_, e⟩
theorem pe_opI {op : Operator} {r : R2} (ho : OpR X (binaryOp op) r) (hl : LInt r) (hm : X.mg "int" = none) (ha : PE X a ta) (hb : PE X b tb) (hw : Wit tb) (hg : Gl X "int" := by rfl)
    (he : starEach [a] X.env = (false, eval a X.env) :: starEach [] X.env := by rfl) (hpl : (backTo p2 (starEach [] X.env)).any (·.1) = false := by rfl) : PE X (.BinOp (.Call (.Name "int" p) [a] [] p2) op b pos) (tOp r ta tb) := by
  refine ⟨fun pins s σ H Q I h => ?_⟩
  refine wpAny_BinOp ?_
  refine wpAny_Call_Name_kw (ld_blt I hg hm (u := .type "int") (by decide +kernel) ?_ (by decide) (by decide))
  refine PyProof.Rows.callWith_type1 (thn ((pa_cons ha pa_nil he).run p2 pins s σ H (fun vs H1 => match vs with | [x] => tb σ H1 fun y H2 => r x y H2 Q | _ => False) I ?_) fun us s1 ⟨vs, H1, I1, r1, q1⟩ => ?_) he hpl
  · exact h
  · obtain ⟨x, rfl, q⟩ : ∃ x, vs = [x] ∧ tb σ H1 fun y H2 => r x y H2 Q := by
      match vs, q1 with
      | [x], q1 => exact ⟨x, rfl, q1⟩
    obtain ⟨y, H2, q2⟩ := hw _ _ _ q
    obtain ⟨i, rfl⟩ := hl _ _ _ _ q2
    obtain ⟨u, rfl, t, rfl⟩ := vals1 r1
    refine call_int_int ?_
    refine thn (hb.run pins s1 σ H1 _ I1 q) fun v s2 ⟨y, H2, I2, r2, q2⟩ => ?_
    exact ho pins s2 σ H2 (.int i) y (.int i t) v Q I2 ⟨t, rfl⟩ r2 q2
end
/-! ### range over numbers of any size -/
theorem turn_long {P : Program} {w : World} {K : PySem.W.Frag} {tg : Expr} (r : Addr) (lo c : Int) (n : Nat) :
    Turn P w K tg (Itc lo c n) [r] r (fun i hp => IsLongIter hp r (lo + (i : Nat) * c) ((n : Int) - (i : Nat)) c) where
  mem := List.mem_singleton.mpr rfl
  obj := fun _ _ here b hb => by
    cases List.mem_singleton.mp hb
    exact ⟨_, here, fun _ z => nomatch z⟩
  keep := fun _ _ _ here same => same r (List.mem_singleton.mpr rfl) _ here
  item := by
    intro Y y1 y2 y3 calm i pins s σ H E inv own here more
    subst y1; subst y2; subst y3
    have o := own r (List.mem_singleton.mpr rfl)
    refine (Walks.longrange (prog := Y.prog) (w := Y.w) (inv.ok.hd calm) r lo c n).item i s _ _ more here fun v h2 k hv next keep => ?_
    obtain ⟨t, rfl⟩ := hv
    have inv2 : Inv Y pins σ H { s with heap := h2, toks := k } := inv.turned (fun b ob hb e => keep b ob (fun z => hb (List.mem_singleton.mp z)) e) o.1 o.2.1 o.2.2.2.1 o.2.2.2.2.1 o.2.2.2.2.2
    have stay : ∀ b ∈ [r], H b = none := fun b hb => (own b hb).1
    exact ⟨_, rfl, go_of (s := { s with heap := h2, toks := k }) (n := "longrange_iterator") next rfl rfl (by decide) ⟨.int (lo + (i : Nat) * c), H, inv2, ⟨t, rfl⟩, ⟨rfl, rfl⟩, next, stay⟩⟩
  done := by
    intro Y y1 y2 y3 calm i pins s σ H E inv own here over
    subst y1; subst y2; subst y3
    have o := own r (List.mem_singleton.mpr rfl)
    have le : n ≤ i := over
    exact wpAny_pyNext_long_end (inv.ok.hd calm) here (by omega) fun h2 same => ⟨rfl, inv.turned (t' := s.toks) (fun b ob hb e => same b ob hb e) o.1 o.2.1 o.2.2.2.1 o.2.2.2.2.1 o.2.2.2.2.2⟩
  self := fun _ _ _ _ _ here h => wpAny_pyIter_longiter here h
/-- a range object just made, whatever its size -/
theorem range_wide {X : Cx} {tg : Expr} {pins : List (Addr × Obj)} {σ : L2.St} {H : Hp} {s : Shared} {R : It → Hp → Prop} {E : Value → Shared → Prop} {lo hi c : Int} {t u v : Tok} {tk n : Nat} (I : Inv X pins σ H s)
    (hn : Builtin.Range.rangeSize lo hi c = n) (q : R (Itc lo c n) H) :
    wpAny (model X.prog X.w) X.A (pyIter (.ref s.heap.objs.size)) (PIE X pins σ tg R) E { s with heap := s.heap.push { cls := .type "range", data := .fields #[.int lo t, .int hi u, .int c v] }, toks := tk } := by
  have made : Inv X pins σ H { s with heap := s.heap.push { cls := .type "range", data := .fields #[.int lo t, .int hi u, .int c v] }, toks := tk } := I.kept fun b ob e => Heap.get?_push_of_some _ e
  have e0 : lo + ((0 : Nat) : Int) * c = lo := by simp
  have e9 : (n : Int) - ((0 : Nat) : Int) = Builtin.Range.rangeSize lo hi c := by
    rw [hn]
    simp
  cases small : Builtin.Range.small lo hi c with
  | true =>
    refine wpAny_pyIter_range (IsRange.new ..) small (pi_one (tk := tk) made _ (turn_rangeC _ lo c n) ?_ q)
    show IsRangeIter _ _ (lo + ((0 : Nat) : Int) * c) ((n : Int) - ((0 : Nat) : Int)) c
    rw [e0, e9]
    exact Heap.get?_push_size _ rfl
  | false =>
    refine wpAny_pyIter_longrange (IsRange.new ..) small (pi_one (tk := tk) made _ (turn_long _ lo c n) ?_ q)
    show IsLongIter _ _ (lo + ((0 : Nat) : Int) * c) ((n : Int) - ((0 : Nat) : Int)) c
    rw [e0, e9]
    exact Heap.get?_push_size _ rfl
theorem itc_one (lo : Int) (n : Nat) : Itc lo 1 n = Itr lo n := by
  unfold Itc Itr
  congr 1
  funext i H x H'
  rw [Int.mul_one]
def iWide2 (ta : TA) : TI := fun σ H R => ta σ H fun vs H1 => ∃ i j : Int, vs = [.int i, .int j] ∧ R (Itr i (j - i).toNat) H1
def iWide3 (ta : TA) : TI := fun σ H R => ta σ H fun vs H1 => ∃ (i j c : Int) (n : Nat), vs = [.int i, .int j, .int c] ∧ CDivP (j - i) c ∧ Builtin.Range.rangeSize i j c = n ∧ R (Itc i c n) H1
section
variable {X : Cx} {tg : Expr}
theorem pi_wide2 {a b : Expr} {ta : TA} {p pos : Pos} (hg : Gl X "range") (hm : X.mg "range" = none) (ha : PA X [a, b] ta) (h2 : starEach [a, b] X.env = [(false, eval a X.env), (false, eval b X.env)] := by rfl) (h1 : starEach [b] X.env = [(false, eval b X.env)] := by rfl) :
    PI X tg (.Call (.Name "range" p) [a, b] [] pos) (iWide2 ta) := by
  refine ⟨fun pins s σ H R I h => Call_ (ld_blt I hg hm boot_range (PyProof.Rows.callWith_type1 (thn (ha.run pos pins s σ H _ I h) fun us s1 ⟨vs, H1, I1, r1, q1⟩ => ?_) (by rw [h2, h1]) (by rw [h1]; rfl)))⟩
  obtain ⟨i, j, rfl, q⟩ := q1
  obtain ⟨u1, u2, rfl, ⟨t, rfl⟩, ⟨t', rfl⟩⟩ := vals2 r1
  refine call_range_2 (range_wide (n := (j - i).toNat) I1 ?_ (by rw [itc_one]; exact q))
  rw [rangeSize_one]
  split <;> omega
theorem pi_wide3 {a b c : Expr} {ta : TA} {p pos : Pos} (hg : Gl X "range") (hm : X.mg "range" = none) (ha : PA X [a, b, c] ta)
    (h3 : starEach [a, b, c] X.env = (false, eval a X.env) :: starEach [b, c] X.env := by rfl) (hn : (backTo pos (starEach [b, c] X.env)).any (·.1) = false := by rfl) :
    PI X tg (.Call (.Name "range" p) [a, b, c] [] pos) (iWide3 ta) := by
  refine ⟨fun pins s σ H R I h => Call_ (ld_blt I hg hm boot_range (PyProof.Rows.callWith_type1 (thn (ha.run pos pins s σ H _ I h) fun us s1 ⟨vs, H1, I1, r1, q1⟩ => ?_) h3 hn))⟩
  obtain ⟨i, j, k, n, rfl, hk, hz, q⟩ := q1
  cases r1 with
  | cons ra rr =>
    obtain ⟨u2, u3, rfl, ⟨t', rfl⟩, ⟨t'', rfl⟩⟩ := vals2 rr
    obtain ⟨t, rfl⟩ := ra
    have k0 : k ≠ 0 := fun z => by
      have := hk.1
      omega
    exact call_range_3 k0 (range_wide (tk := s1.toks) I1 hz q) (.inl hk.2)
end
/-- a list made over a range with a step -/
theorem lc_step {lo c : Int} {n : Nat} {g : TG} {tt : TT} {te : TE} {ws : List Nat} {σ : L2.St} {G : Hp} {D : Addr} {Qd : Hp → Prop} (Pv : Nat → Hp → Prop) (start : Pv 0 (upd G D (.lst [])))
    (step : ∀ i G, i < n → Pv i G → g (.int (lo + (i : Nat) * c)) (wipe σ ws) G fun τ G2 => wipe τ ws = wipe σ ws ∧ tt τ G2 fun k G3 => if k = true then te τ G3 fun z G4 => ∃ ac, G4 D = some (.lst ac) ∧ ac.length < sizeLine ∧ Pv (i + 1) (upd G4 D (.lst (ac ++ [z]))) else Pv (i + 1) G3)
    (last : ∀ G, Pv n G → Qd G) : ∃ W : Nat → Nat → Hp → Prop, (∃ m, W 0 m (upd G D (.lst []))) ∧ ∀ i m G, W i m G → ((Itc lo c n).stop i G ∧ Qd G) ∨
      ((Itc lo c n).go i G ∧ ∃ N : Hp → Prop, (∀ G', N G' → ∃ m', m' < m ∧ W (i + 1) m' G') ∧ ∀ x G', (Itc lo c n).yld i G x G' → g x (wipe σ ws) G' fun τ G2 => wipe τ ws = wipe σ ws ∧ tt τ G2 fun k G3 => if k = true then te τ G3 fun z G4 => ∃ ac, G4 D = some (.lst ac) ∧ ac.length < sizeLine ∧ N (upd G4 D (.lst (ac ++ [z]))) else N G3) := by
  refine ⟨fun i m G => (m = n - i ∧ i ≤ n) ∧ Pv i G, ⟨n, ⟨rfl, Nat.zero_le _⟩, start⟩, ?_⟩
  rintro i m G ⟨⟨rfl, le⟩, pv⟩
  rcases Nat.lt_or_ge i n with lt | ge
  · exact .inr ⟨lt, Pv (i + 1), fun G' p' => ⟨n - (i + 1), by omega, ⟨rfl, lt⟩, p'⟩, fun x G' ⟨e1, e2⟩ => by
      rw [e1, e2]
      exact step i G lt pv⟩
  · have e : i = n := Nat.le_antisymm le ge
    rw [e] at pv ⊢
    exact .inl ⟨Nat.le_refl _, last G pv⟩
/-! ### rules that the layer lacks: min(.., default=None), sorted of a dict with pairs of ints as its keys -/
theorem minOf_spec : ∀ (x : Int) (xs : List Int), PySem.W.minOf x xs ∈ x :: xs ∧ ∀ y ∈ x :: xs, PySem.W.minOf x xs ≤ y := by
  intro x xs
  unfold PySem.W.minOf
  induction xs generalizing x with
  | nil =>
    refine ⟨List.mem_cons_self .., fun y hy => ?_⟩
    rcases List.mem_cons.mp hy with e | hy
    · rw [e]
      exact Int.le_refl _
    · cases hy
  | cons z zs ih =>
    have e : (PySem.W.DatumOrd.lt z x = true) ↔ z < x := by
      show decide (z < x) = true ↔ z < x
      exact decide_eq_true_iff
    rw [List.foldl_cons]
    obtain ⟨h1, h2⟩ := ih (if PySem.W.DatumOrd.lt z x = true then z else x)
    refine ⟨?_, fun y hy => ?_⟩
    · rcases List.mem_cons.mp h1 with e1 | h1
      · rw [e1]
        split
        · exact List.mem_cons_of_mem _ (List.mem_cons_self ..)
        · exact List.mem_cons_self ..
      · exact List.mem_cons_of_mem _ (List.mem_cons_of_mem _ h1)
    · have h3 := h2 _ (List.mem_cons_self ..)
      rcases List.mem_cons.mp hy with e1 | hy
      · rw [e1]
        by_cases c : z < x
        · rw [if_pos (e.mpr c)] at h3 ⊢
          omega
        · rw [if_neg (fun q => c (e.mp q))] at h3 ⊢
          exact h3
      · rcases List.mem_cons.mp hy with e1 | hy
        · rw [e1]
          by_cases c : z < x
          · rw [if_pos (e.mpr c)] at h3 ⊢
            exact h3
          · rw [if_neg (fun q => c (e.mp q))] at h3 ⊢
            omega
        · exact h2 y (List.mem_cons_of_mem _ hy)
def rMinD (K : PySem.W.Frag) : List V → List V → Hp → VK → Prop := fun vs zs H Q => ∃ (a : Addr) (ns : List Int), vs = [V.ref a] ∧ zs = [.non] ∧ SqL K H a (ns.map V.int) ∧ (ns = [] → Q .non H) ∧ ∀ v ∈ ns, (∀ x ∈ ns, v ≤ x) → Q (.int v) H
section
variable {X : Cx} {K : PySem.W.Frag}
theorem minDef (e : X.K = K) (hc : X.calm = true) (hu : X.A.units + 64 < cLine) : CallRK X (.builtin "min") [Str.ofString "default"] (rMinD K) := by
  subst e
  intro pins s σ H vs zs us ws Q I r rz h
  obtain ⟨a, ns, rfl, rfl, hs, q0, q1⟩ := h
  obtain ⟨its, rv, hl, hz⟩ := I.list hs
  obtain ⟨w1, rfl, e1⟩ := vals1 rz
  obtain rfl : w1 = Value.none := e1
  rw [Vals.ref1 r]
  have hi := rv.ints
  refine PySem.W.min_list_datum_default (α := Int) (xs := ns) (I.ok.hd hc) hl.isList (PySem.W.HoldAll.of_ints hi) (by show X.A.units + 1 + 0 < cLine; omega) (fun en h' tk hk => ?_) (fun y ys i v h' tk en hv hh hk => ?_)
  · exact ⟨.non, H, I.kept hk, rfl, q0 en⟩
  · obtain ⟨as, hr⟩ := hh
    have hm := minOf_spec y ys
    have ev : ∃ t, v = Value.int (PySem.W.minOf y ys) t := by
      cases hr
      exact ⟨_, rfl⟩
    obtain ⟨t, rfl⟩ := ev
    subst en
    exact ⟨.int _, H, I.kept hk, ⟨_, rfl⟩, q1 _ hm.1 hm.2⟩
end
/-! ### d.setdefault(t, x), t a tuple of whole numbers or texts -/
def rSetT : V → List V → Hp → VK → Prop := fun x xs H Q => ∃ (a : Addr) (kvs : List (List L2.Key × V)) (k : List L2.Key) (b : Addr) (d : V), x = .ref a ∧ xs = [.ref b, d] ∧ H a = some (.dT kvs) ∧ H b = some (.tup (k.map kV)) ∧ kvs.length < sizeLine ∧
  (∀ v, valV kvs k = some v → Q v H) ∧ (valV kvs k = none → Q d (upd H a (.dT (putK kvs k d))))
section
variable {X : Cx}
theorem mt_setT (hu : X.A.units + 1 < cLine) : MtR X "dict.setdefault" rSetT := by
  intro pins s σ H x xs v us Q I rx rxs h
  obtain ⟨a, kvs, k, b, d, rfl, rfl, ha, hb, hl, q1, q2⟩ := h
  cases rx
  obtain ⟨u1, u2, rfl, r1, r2⟩ := vals2 rxs
  cases r1
  obtain ⟨z, hd, xs', rel, dd⟩ := dt_of I.hok ha
  have hz : xs'.length ≤ sizeLine := by rw [← Paired.length rel]; exact z
  have hl2 : (putK kvs k d).length ≤ sizeLine := by have := length_putK kvs k d; omega
  refine PySem.call_setdefault_heap (tupleKind_room_in1 hu) (key_of I.hok hb) hd dd (fun p hp => ?_) (fun hn h' dd' hs => ?_) hz
  · have r := rel.val k
    rw [hp] at r
    cases ev : valV kvs k with
    | none =>
      rw [ev] at r
      exact (show False from r).elim
    | some v0 =>
      rw [ev] at r
      exact ⟨v0, H, I.tok _, r, q1 v0 ev⟩
  · have r := rel.val k
    rw [hn] at r
    have e : valV kvs k = none := by
      cases ev : valV kvs k with
      | none => rfl
      | some v0 =>
        rw [ev] at r
        exact (show False from r).elim
    obtain ⟨q, es, ep, hq, h2, h3, h4, _, h5⟩ := dd'
    exact ⟨d, upd H a (.dT (putK kvs k d)), d_write (ob := .dT (putK kvs k d)) I (by rw [ha]; exact True.intro) hs ⟨q, hq⟩ ⟨hl2, hd, _, (rel.put k hb r2).keeps fun c ys ec => (by rw [upd_ne (ne_of ec ha (fun z => nomatch z))]; exact ec), q, es, ep, hq, h2, h3, h4, h5⟩, r2, q2 e⟩
end
/-! ### sorted of a dict whose keys are pairs of whole numbers -/
def pairAt (H : Hp) : Value → Int × Int
  | .ref b => match H b with
    | some (.tup [.int i, .int j]) => (i, j)
    | _ => (0, 0)
  | _ => (0, 0)
theorem pairAt_of {H : Hp} {b : Addr} {i j : Int} (h : H b = some (.tup [.int i, .int j])) : pairAt H (.ref b) = (i, j) := by
  show (match H b with | some (.tup [.int i, .int j]) => (i, j) | _ => (0, 0)) = (i, j)
  rw [h]
def unRef : Value → Addr
  | .ref b => b
  | _ => 0
section
variable {X : Cx}
theorem call_sortedDT (hc : X.calm = true) : CallR X (.builtin "sorted") (fun xs H Q => ∃ (d : Addr) (kvs : List (List Key × V)) (ps : List (Int × Int)), xs = [V.ref d] ∧ Rd H d (.dT kvs) ∧ kvs.map (·.1) = ps.map (fun p => [Sum.inl p.1, Sum.inl p.2]) ∧
    ∀ (p : Addr) (bs : List Addr), H p = none → (bs.map fun b => pairAt H (.ref b)).Perm ps → (bs.map fun b => pairAt H (.ref b)).Pairwise (fun a b => SrtO.lexB b a = false) → (∀ b ∈ bs, H b = some (.tup [.int (pairAt H (.ref b)).1, .int (pairAt H (.ref b)).2])) → Q (.ref p) (upd H p (.lst (bs.map V.ref)))) := by
  intro pins s σ H xs us Q I r h
  obtain ⟨d, kvs, ps, rfl, hd, hps, q⟩ := h
  obtain ⟨u, rfl, rx⟩ := r.one
  cases rx
  obtain ⟨z, hs, ks, pr, o, es, ep, ho, hx, hdt, he, hn⟩ := (show ObjOk X.prog X.w H s.heap d (.dT kvs) from hd.ok I.hok)
  have l1 : es.size = ks.length := size_of_entries he
  have l2 : kvs.length = ks.length := Paired.length pr
  have ik : IsKeys H kvs (ks.map fun x => x.2.1) := isKeys_of pr
  -- what stands at the keys
  have keys : ∀ (kvs : List (List Key × V)) (ps : List (Int × Int)) (bs : List Addr), kvs.map (·.1) = ps.map (fun p => [Sum.inl p.1, Sum.inl p.2]) → IsKeys H kvs bs → bs.map (fun b => pairAt H (.ref b)) = ps ∧ ∀ b ∈ bs, H b = some (.tup [.int (pairAt H (.ref b)).1, .int (pairAt H (.ref b)).2]) := by
    intro kvs ps bs e1 e2
    induction e2 generalizing ps with
    | nil =>
      cases ps with
      | nil => exact ⟨rfl, fun b h => by cases h⟩
      | cons p ps => cases e1
    | cons h t ih =>
      cases ps with
      | nil => cases e1
      | cons p ps =>
        rw [List.map_cons, List.map_cons] at e1
        obtain ⟨e3, e4⟩ := List.cons.inj e1
        obtain ⟨i1, i2⟩ := ih ps e4
        rw [e3] at h
        have h' : H _ = some (.tup [.int p.1, .int p.2]) := h
        have hp := pairAt_of h'
        refine ⟨?_, fun b hb => ?_⟩
        · rw [List.map_cons, i1, hp]
        · rcases List.mem_cons.mp hb with e | hb
          · rw [e, hp]
            exact h'
          · exact i2 b hb
  obtain ⟨kp1, kp2⟩ := keys kvs ps _ hps ik
  refine Calls.call_function_entry PyProof.Rows.kind_sorted PyProof.Rows.plain_sorted PyProof.Rows.entry_sorted (PyProof.Rows.args_sorted1 _) ?_
  unfold Builtin.«sorted»
  refine wpAny_bind (m := checkCount "sorted" 1 1 _) (wpAny_pure ?_)
  refine wpAny_bind (PySem.W.kdu_collect (A := X.A.in1) (kdl_raw hs hx hdt) (I.ok.hd hc) ho (by omega) fun h' tk acc hk it => ?_)
  have ea : acc.toList = ks.map fun x => Value.ref x.2.1 := by
    have hl : acc.toList.length = ks.length := by rw [Array.length_toList, it.1]; exact l1
    apply List.ext_getElem?
    intro j
    rw [List.getElem?_map]
    cases hj : acc.toList[j]? with
    | none =>
      have h1 := List.getElem?_eq_none_iff.mp hj
      rw [List.getElem?_eq_none (by omega)]
      all_goals rfl
    | some v =>
      obtain ⟨en, hen, hv⟩ := it.2 j v (by rw [← Array.getElem?_toList]; exact hj)
      have qe := entry_at he j
      rw [hen] at qe
      cases hb : ks[j]? with
      | none =>
        rw [hb] at qe
        exact nomatch (show some en = none from qe)
      | some b =>
        rw [hb] at qe
        have e2 : en = entryOfKey (tupleKind (mixKind X.prog X.w)) b := Option.some.inj qe
        rw [hv, e2]
        all_goals rfl
  have I1 : Inv X pins σ H { s with heap := h', toks := tk } := I.kept hk
  have hal : acc.toList.length ≤ sizeLine := by
    rw [ea, List.length_map]
    omega
  refine wpAny_bind (wpAny_newList ?_ hal)
  have hoL : (h'.push (seqObj "list" acc.toList.toArray 0)).get? h'.objs.size = some (seqObj "list" acc.toList.toArray 0) := Heap.get?_push_size _ rfl
  show wpAny _ _ _ _ _ { s with heap := h'.push (seqObj "list" acc.toList.toArray 0), toks := tk }
  have hp : ∀ v ∈ acc.toList, Srt.IsPair (h'.push (seqObj "list" acc.toList.toArray 0)) v (pairAt H v).1 (pairAt H v).2 := fun v hv => by
    rw [ea] at hv
    obtain ⟨x, hxm, rfl⟩ := List.mem_map.mp hv
    have ht := kp2 x.2.1 (List.mem_map.mpr ⟨x, hxm, rfl⟩)
    obtain ⟨_, its2, r2, o2, ho2, hc2, n2, hd2⟩ := I1.hok _ _ ht
    obtain ⟨u1, u2, rfl, ri, rj⟩ := vals2 r2
    obtain ⟨t1, rfl⟩ := ri
    obtain ⟨t2, rfl⟩ := rj
    exact ⟨x.2.1, o2, t1, t2, n2, rfl, Heap.get?_push_of_some _ ho2, hc2, hd2⟩
  refine wpAny_bind (wpAny_holding (wpAny_call_entry PyProof.Rows.slot_list_sort ⟨_, hoL, rfl⟩ PyProof.Rows.entry_list_sort
    (SrtO.list_sort_ord (s := { s with heap := h'.push (seqObj "list" acc.toList.toArray 0), toks := tk }) (SrtO.swo_lex (pairAt H)) hoL hal (fun h2 => SrtO.pairs_sortableO (by omega) hp fun o e => ?_) fun out h1 h2 => ⟨_, rfl, ?_⟩) (PyProof.Rows.args_list_sort _)))
  · have e' : some o = some (seqObj "list" acc.toList.toArray 0) := e.symm.trans hoL
    cases e'
    intro c
    exact absurd (Value.type.inj c) (by decide)
  · obtain ⟨e', he'⟩ := PyProof.Rows.sortedHeap_at (vs := acc.toList) (out := out.toArray) hoL
    obtain ⟨bs, rfl, hbs⟩ : ∃ bs : List Addr, out = bs.map Value.ref ∧ bs.Perm (ks.map fun x => x.2.1) := by
      have hperm := h2.perm
      rw [ea] at hperm
      have e9 : (ks.map fun x => Value.ref x.2.1) = (ks.map fun x => x.2.1).map Value.ref := by rw [List.map_map]; rfl
      rw [e9] at hperm
      refine ⟨out.map unRef, ?_, ?_⟩
      · rw [List.map_map]
        have e11 : out.map (Value.ref ∘ unRef) = out.map id := List.map_congr_left fun v hv => by
          obtain ⟨b, _, rfl⟩ := List.mem_map.mp (hperm.mem_iff.mp hv)
          rfl
        rw [e11, List.map_id]
      · have z := hperm.map unRef
        rw [List.map_map] at z
        have e10 : ∀ l : List Addr, l.map (unRef ∘ Value.ref) = l := fun l => by
          induction l with
          | nil => rfl
          | cons a l ih => rw [List.map_cons, ih]; rfl
        rw [e10] at z
        exact z
    have hlen : (bs.map V.ref).length ≤ sizeLine := by
      rw [List.length_map, hbs.length_eq, List.length_map]
      omega
    have hkeys : (bs.map fun b => pairAt H (.ref b)).Perm ps := by
      have z := hbs.map fun b => pairAt H (.ref b)
      rw [kp1] at z
      exact z
    have hsort : (bs.map fun b => pairAt H (.ref b)).Pairwise (fun a b => SrtO.lexB b a = false) := by
      rw [List.pairwise_map]
      exact List.pairwise_map.mp h1
    refine wpAny_pure ⟨_, rfl, .ref h'.objs.size, upd H h'.objs.size (.lst (bs.map V.ref)), I1.laid (t' := tk) (fun b u e => ?_) (Nat.le_refl _)
      (show ObjOk X.prog X.w _ _ _ (.lst (bs.map V.ref)) from ⟨hlen, bs.map Value.ref, e', vals_refs bs, he'⟩), rfl, q _ bs (I1.hok.fresh (Nat.le_refl _)) hkeys hsort fun b hb => kp2 b (hbs.mem_iff.mp hb)⟩
    have hb : b < h'.objs.size := Heap.lt_size e
    rw [PyProof.Rows.sortedHeap_old (Nat.ne_of_lt hb) (by rw [size_push']; exact Nat.lt_succ_of_lt hb)]
    exact Heap.get?_push_of_some _ e
end
/-! ### sorted(xs, reverse=True) of pairs of whole numbers; enumerate in a comprehension -/
def pairV (H : Hp) : V → Int × Int
  | .ref b => match H b with
    | some (.tup [.int i, .int j]) => (i, j)
    | _ => (0, 0)
  | _ => (0, 0)
theorem pairV_of {H : Hp} {b : Addr} {i j : Int} (h : H b = some (.tup [.int i, .int j])) : pairV H (.ref b) = (i, j) := by
  show (match H b with | some (.tup [.int i, .int j]) => (i, j) | _ => (0, 0)) = (i, j)
  rw [h]
def rSortedPR (K : PySem.W.Frag) : List V → List V → Hp → VK → Prop := fun vs zs H Q => ∃ (a : Addr) (xs : List V) (k : V → Int × Int), vs = [V.ref a] ∧ zs = [.bl true] ∧ SqL K H a xs ∧ (∀ x ∈ xs, ∃ t, x = V.ref t ∧ H t = some (.tup [.int (k x).1, .int (k x).2])) ∧
  ∀ ys p, SrtO.Srtd (ltP k) ys → ys.Perm xs → H p = none → Q (.ref p) (upd H p (.lst ys.reverse))
section
variable {X : Cx}
theorem cr_sortedPR : CallRK X (.builtin "sorted") [Str.ofString "reverse"] (rSortedPR X.K) := by
  intro pins s σ H vs zs us ws Q I r rz h
  obtain ⟨a, xs, k, rfl, rfl, hs, hx, q⟩ := h
  obtain rfl := Vals.ref1 r
  obtain ⟨w1, rfl, e0⟩ := vals1 rz
  obtain rfl : w1 = Value.bool true := e0
  obtain ⟨its, rv, hl, hz⟩ := I.list hs
  obtain ⟨e1, e2⟩ := refs_back rv fun x m => by
    obtain ⟨t, e, _⟩ := hx x m
    exact ⟨t, e⟩
  have hp : ∀ v ∈ its, Srt.IsPair s.heap v (k (backV v)).1 (k (backV v)).2 := fun v hv => by
    obtain ⟨t, rfl⟩ := e2 v hv
    have hm : V.ref t ∈ xs := by rw [e1]; exact List.mem_map.mpr ⟨_, hv, rfl⟩
    obtain ⟨t', e, ht⟩ := hx _ hm
    cases e
    obtain ⟨_, its2, r2, o, ho, hc, n, hd⟩ := I.hok _ _ ht
    obtain ⟨u1, u2, rfl, ri, rj⟩ := vals2 r2
    obtain ⟨t1, rfl⟩ := ri
    obtain ⟨t2, rfl⟩ := rj
    exact ⟨t, o, t1, t2, n, rfl, ho, hc, hd⟩
  refine SrtR.sorted_ordK (b := true) (fun _ => rfl) (PyProof.Rows.args_sorted_rev _ _) (fun _ => PyProof.Rows.args_list_sort_rev _ _) (SrtO.swo_lex fun u => k (backV u)) hl.isList (by rw [← rv.length]; exact hz)
    (fun h2 h₁ a' ha' kp => SrtO.pairs_sortableO (by omega) (fun v hv => (hp v hv).keeps fun b o e c => (kp b o e).2) fun o e => ?_) fun out h1 h2 => ?_
  · have e' : some o = some (seqObj "list" its.toArray 0) := e.symm.trans ha'
    cases e'
    intro c
    exact absurd (Value.type.inj c) (by decide)
  · have h2p : out.Perm its := h2.perm.trans (List.reverse_perm _)
    have h3 : ∀ u ∈ out, ∃ a, u = Value.ref a := fun u hu => e2 u (h2p.mem_iff.mp hu)
    have hb : (out.map backV).Perm xs := by
      rw [e1]
      exact h2p.map backV
    obtain ⟨ep, he'⟩ := PyProof.Rows.sortedAll_at s.heap its out.toArray.reverse
    have hlen : (out.map backV).reverse.length ≤ sizeLine := by
      rw [List.length_reverse, hb.length_eq]
      exact hz
    have er : (out.map backV).reverse = out.reverse.map backV := by rw [List.map_reverse]
    have h4 : ∀ u ∈ out.reverse, ∃ a, u = Value.ref a := fun u hu => h3 u (List.mem_reverse.mp hu)
    have ea : out.reverse.toArray = out.toArray.reverse := by
      apply Array.ext'
      rw [Array.toList_reverse]
    exact ⟨.ref _, upd H (s.heap.objs.size + 1) (.lst (out.map backV).reverse), I.laid (t' := s.toks) (fun _ _ => PyProof.Rows.sortedAll_old) (Nat.le_succ _) ⟨hlen, out.reverse, ep, by rw [er]; exact vals_back h4, by rw [ea]; exact he'⟩, rfl, q _ _ (SrtO.srtd_map h1) hb (I.hok.fresh (Nat.le_succ _))⟩
end
theorem lc_enum {K : PySem.W.Frag} {a : Addr} {xs : List V} {g : TG} {tt : TT} {te : TE} {ws : List Nat} {σ : L2.St} {G : Hp} {D : Addr} {Qd : Hp → Prop} (Pv : Nat → Hp → Prop) (start : Pv 0 (upd G D (.lst []))) (lst : ∀ i G, i ≤ xs.length → Pv i G → SqL K G a xs)
    (step : ∀ (i : Nat) (x : V) (T : Addr) (G : Hp), xs[i]? = some x → Pv i G → G T = none → g (.ref T) (wipe σ ws) (upd G T (.tup [.int (i : Nat), x])) fun τ G2 => wipe τ ws = wipe σ ws ∧ tt τ G2 fun c G3 => if c = true then te τ G3 fun z G4 => ∃ ac, G4 D = some (.lst ac) ∧ ac.length < sizeLine ∧ Pv (i + 1) (upd G4 D (.lst (ac ++ [z]))) else Pv (i + 1) G3)
    (last : ∀ G, Pv xs.length G → Qd G) : ∃ W : Nat → Nat → Hp → Prop, (∃ m, W 0 m (upd G D (.lst []))) ∧ ∀ i m G, W i m G → ((Ite K a).stop i G ∧ Qd G) ∨
      ((Ite K a).go i G ∧ ∃ N : Hp → Prop, (∀ G', N G' → ∃ m', m' < m ∧ W (i + 1) m' G') ∧ ∀ x G', (Ite K a).yld i G x G' → g x (wipe σ ws) G' fun τ G2 => wipe τ ws = wipe σ ws ∧ tt τ G2 fun c G3 => if c = true then te τ G3 fun z G4 => ∃ ac, G4 D = some (.lst ac) ∧ ac.length < sizeLine ∧ N (upd G4 D (.lst (ac ++ [z]))) else N G3) := by
  refine ⟨fun i m G => (m = xs.length - i ∧ i ≤ xs.length) ∧ Pv i G, ⟨xs.length, ⟨rfl, Nat.zero_le _⟩, start⟩, ?_⟩
  rintro i m G ⟨⟨rfl, le⟩, pv⟩
  have here := lst i G le pv
  rcases Nat.lt_or_ge i xs.length with lt | ge
  · refine .inr ⟨⟨xs, _, here, List.getElem?_eq_getElem lt⟩, Pv (i + 1), fun G' p' => ⟨xs.length - (i + 1), by omega, ⟨rfl, lt⟩, p'⟩, fun v G' y => ?_⟩
    obtain ⟨T, x, rfl, nT, rfl, hx⟩ := y
    exact step i x T G (hx xs here) pv nT
  · have e : i = xs.length := Nat.le_antisymm le ge
    rw [e] at pv ⊢
    exact .inl ⟨⟨xs, here, Nat.le_refl _⟩, last G pv⟩
theorem inV_nat {x : Nat} : ∀ {ns : List Nat}, inV (.int (x : Nat)) (ns.map fun y => V.int (y : Nat)) = decide (x ∈ ns)
  | [] => rfl
  | y :: ns => by
    have ih := inV_nat (x := x) (ns := ns)
    show (eqV (.int (y : Nat)) (.int (x : Nat)) || inV (.int (x : Nat)) (ns.map fun y => V.int (y : Nat))) = _
    rw [ih]
    have e : eqV (.int (y : Nat)) (.int (x : Nat)) = decide (y = x) := by
      show decide ((y : Int) = (x : Int)) = _
      exact decide_eq_decide.mpr Int.ofNat_inj
    rw [e]
    by_cases c : y = x
    · have z : x ∈ y :: ns := by
        rw [c]
        exact List.mem_cons_self ..
      rw [decide_eq_true c, decide_eq_true z]
      rfl
    · rw [decide_eq_false c, Bool.false_or]
      exact decide_eq_decide.mpr ⟨fun h => List.mem_cons_of_mem _ h, fun h => (List.mem_cons.mp h).resolve_left fun z => c z.symm⟩
theorem flat_nats (ns : List Nat) : (ns.map fun y => V.int (y : Nat)).all flatV = true := by
  rw [List.all_eq_true]
  intro v hv
  obtain ⟨y, _, rfl⟩ := List.mem_map.mp hv
  rfl
section
variable {X : Cx} {K : PySem.W.Frag}
theorem pe_fldK {o : Expr} {ta : TE} {f : Str} {pos : Pos} (e : X.K = K) (ho : PE X o ta) (hb : attributeBase o f X.env (eval o X.env) = eval o X.env) : PE X (.Attribute o f pos) (tFld K ta f) := by subst e; exact pe_fld ho hb
theorem pi_listK {l tg : Expr} {tl : TE} (e : X.K = K) (hl : PE X l tl) : PI X tg l (iList K tl) := by subst e; exact pi_list hl
end
section
variable {X : Cx} {K : PySem.W.Frag}
theorem op_catTK (e : X.K = K) : OpR X (binaryOp .Add) (rCatT K) := by subst e; exact op_catT
end
/-! ### set(xs), xs a list of whole numbers: a set whose members and number are known, that can be sorted -/
abbrev set0 (w : World) : Obj := { cls := .type "set", dict := none, data := .set #[] 0 (.fresh 0 0 (!w.params.followText "set-order")) }
def SetMade (w : World) (s : Shared) (ns : List Int) (s2 : Shared) : Prop := ∃ (h2 : Heap) (tk c : Nat), s2 = { s with heap := h2, toks := tk } ∧ SetR w h2 s.heap.objs.size (fun j => decide (j ∈ ns)) c ∧ c ≤ ns.length ∧ ∀ b o, s.heap.get? b = some o → h2.get? b = some o
section
variable {P : Program} {w : World} {A : Around} {E : Value → Shared → Prop} {s : Shared}
/-- the new set is filled from the list -/
theorem setL_init {l : Addr} {items : Array Value} {ns : List Int} (hh : A.handled = none) (hl : s.heap.IsList l items) (hi : IntsAre items.toList ns) (hb : ns.length + 1 < scanBound) :
    codeAny (model P w) A (.call (.builtin "set.__init__") ⟨[.ref s.heap.objs.size, .ref l], []⟩) (wants (fun r s2 => r = .none ∧ SetMade w s ns s2) E) { s with heap := s.heap.push (set0 w) } := by
  have size : items.size = ns.length := by
    have q := IntsAre.length hi
    simpa using q
  have here : (s.heap.push (set0 w)).get? s.heap.objs.size = some (set0 w) := Heap.get?_push_size _ rfl
  refine codeAny_call_builtin F.called_set.init.plain F.entry_set_init (check_set_init_1 ⟨_, here, rfl⟩ ?_)
  -- the list behind the new set
  obtain ⟨⟨lc, ld, ldata, lsl⟩, hol, hlc, m, hld⟩ := hl
  dsimp only at hlc hld
  subst hlc
  subst hld
  have old : ∀ {b : Addr} {o : Obj}, s.heap.get? b = some o → (s.heap.push (set0 w)).get? b = some o := fun h => Heap.get?_push_of_some _ h
  have hol2 := old hol
  have isl : (s.heap.push (set0 w)).IsList l items := ⟨_, hol2, rfl, m, rfl⟩
  have no1 := F.sub_list_set
  have no2 := F.sub_list_frozenset
  have no3 : (Value.type "list" == Value.type "dict") = false := by decide
  unfold Builtin.«set.__init__» noKeywords Builtin.Frozenset.updateFrom
  generalize hit : pyIter = it
  wp_walk
  subst hit
  refine wpAny_pyIter_list isl (wpAny_bind (wpAny_runValue ?_))
  have sz := Heap.size_push (h := s.heap) (o := set0 w)
  have lt := Heap.lt_size hol
  -- all its items
  have each : ∀ (i : Nat) (v : Value), items[i]? = some v → ∃ k t, ns[i]? = some k ∧ v = .int k t := fun i v hv => by
    have hil : i < ns.length := by
      rw [← size]
      exact (Array.getElem?_eq_some_iff.mp hv).1
    obtain ⟨t, ev⟩ := IntsAre.int_at hi i v (by rw [Array.getElem?_toList]; exact hv)
    have ed : ns.getD i 0 = ns[i] := by
      rw [List.getD_eq_getElem?_getD, List.getElem?_eq_getElem hil]
      rfl
    exact ⟨_, t, List.getElem?_eq_getElem hil, by rw [ev, ed]⟩
  have nli : l ≠ (s.heap.push (set0 w)).objs.size := by
    rw [sz]
    exact Nat.ne_of_lt (Nat.lt_succ_of_lt lt)
  have nst : s.heap.objs.size ∉ [(s.heap.push (set0 w)).objs.size, l] := fun z => by
    rcases List.mem_cons.mp z with z | z
    · rw [sz] at z
      exact Nat.ne_of_lt (Nat.lt_succ_self _) z
    · exact Nat.ne_of_gt lt (List.mem_singleton.mp z)
  refine set_update_ints ((Walks.list (show A.in1.in1.handled = none from hh) _ l nli items).toS) s.heap.objs.size nst ns size hb each (items.size - 0) 0 _ (by omega) (Nat.zero_le _) ?_ ?_ ?_
  · exact ⟨⟨_, Heap.get?_push_size _ rfl, rfl, rfl⟩, isl.push _⟩
  · exact ⟨0, Nat.le_refl 0, setR_new_at (Heap.get?_push_of_some _ here)⟩
  rintro ⟨h2, g2, d2, tk, os2⟩ c mv hc hR
  obtain rfl : g2 = s.gens := mv.gens
  obtain rfl : d2 = s.drawn := mv.drawn
  obtain rfl : os2 = s.os := mv.os
  show wpAny _ _ _ _ _ _
  refine wpAny_pure ?_
  show wpAny _ _ (ret Value.none) _ _ _
  refine wpAny_pure ⟨rfl, h2, tk, c, rfl, hR, by omega, fun b o e => mv.heap b o (fun z => ?_) (Heap.get?_push_of_some _ (old e))⟩
  have lb := Heap.lt_size e
  rcases List.mem_cons.mp z with z | z
  · exact Nat.ne_of_lt lb z
  · rw [List.mem_singleton, sz] at z
    exact Nat.ne_of_lt (Nat.lt_succ_of_lt lb) z
end
section
variable {P : Program} {w : World} {A : Around} {E : Value → Shared → Prop} {s : Shared}
/-- set(l) of a list of whole numbers -/
theorem setL {l : Addr} {items : Array Value} {ns : List Int} {Q : Value → Shared → Prop} (hh : A.handled = none) (hl : s.heap.IsList l items) (hi : IntsAre items.toList ns) (hb : ns.length + 1 < scanBound)
    (h : ∀ s2, SetMade w s ns s2 → Q (.ref s.heap.objs.size) s2) : wpAny (model P w) A (call (.type "set") [.ref l]) Q E s := by
  have ⟨c, tl, hmro⟩ := F.called_set.mro
  have ⟨hmade, hsub⟩ := And.intro F.called_set.made F.called_set.sub
  have ⟨h1, h2⟩ := And.intro F.called_set.notType F.called_set.canCreate
  have hct := F.typeCall_set_1 (.ref l)
  refine wpAny_call (codeAny_of_tree (show wpAny _ _ (callAny (.type "set") _) _ _ _ from wpAny_pure ⟨Code.quiet_builtin _ (by decide +kernel), codeAny_builtin F.entry_type_call ?_⟩))
  rw [Around.under_plain (weight_type_call_type "set" [.ref l] []) rfl]
  repeat (any_goals (first | assumption | wp_step))
  refine codeAny_mono (code_set_led1 (.ref l) (E := E) (Q₁ := fun v s1 => v = .ref s.heap.objs.size ∧ s1 = { s with heap := s.heap.push (set0 w) }) ⟨rfl, rfl⟩) ?_
  rintro (e | fl) s1 hr
  · exact hr
  cases fl
  case ret obj =>
    obtain ⟨rfl, rfl⟩ := hr
    have here : (s.heap.push (set0 w)).get? s.heap.objs.size = some (set0 w) := Heap.get?_push_size _ rfl
    have hT : Shared.TypeIs { s with heap := s.heap.push (set0 w) } (.ref s.heap.objs.size) "set" := ⟨_, here, rfl⟩
    have ⟨hli, hbi⟩ := And.intro F.called_set.init.lookup (F.called_set.init.bind (.ref s.heap.objs.size))
    repeat (any_goals (first | assumption | wp_step))
    refine codeAny_mono (setL_init (E := E) (by simp [hh]) hl hi hb) ?_
    rintro (e | fl) s2 hr
    · exact hr
    cases fl
    case ret r =>
      obtain ⟨rfl, hm⟩ := hr
      repeat (any_goals (first | assumption | wp_step))
      exact h s2 hm
    all_goals exact hr.elim
  all_goals exact hr.elim
end
section
variable {X : Cx}
/-- set(xs) -/
theorem call_setL (hc : X.calm = true) : CallR X (.type "set") (fun xs H Q => ∃ (a : Addr) (ns : List Int), xs = [V.ref a] ∧ SqL X.K H a (ns.map V.int) ∧ ns.length < 4000 ∧
    ∀ p c, H p = none → c ≤ ns.length → Q (.ref p) (upd H p (SetO X.w p (fun j => decide (j ∈ ns)) c))) := by
  intro pins s σ H xs us Q I r h
  obtain ⟨a, ns, rfl, ha, few, q⟩ := h
  rw [Vals.ref1 r]
  obtain ⟨its, rv, p1, _⟩ := I.list ha
  refine setL (items := its.toArray) (I.ok.hd hc) p1.isList (Vals.ints rv) (by unfold scanBound; omega) ?_
  rintro s2 ⟨h2, tk, c, rfl, R, le, old⟩
  exact ⟨.ref _, _, I.laid (t' := tk) (fun b u e => old b u e) (by omega) (setO_new R), rfl, q _ c (I.hok.fresh (Nat.le_refl _)) le⟩
end
/-! ### sorted of a set of whole numbers, any number of them -/
section
variable {P : Program} {w : World} {A : Around} {E : Value → Shared → Prop} {s : Shared}
theorem sorted_setB {S : Int → Bool} {n : Nat} {Q : Value → Shared → Prop} (R : SetR w s.heap a S n) (hh : A.handled = none)
    (hQ : ∀ s2 p (out : List Value) (c : Nat) (ns : List Int), (∀ b o, s.heap.get? b = some o → s2.heap.get? b = some o) → s2.gens = s.gens → s2.os = s.os → s.heap.objs.size ≤ p → s2.heap.get? p = some (seqObj "list" out.toArray c) →
      IntsAre out ns → ns.Pairwise (· < ·) → (∀ k, k ∈ ns ↔ S k = true) → ns.length = n → Q (.ref p) s2) : wpAny (model P w) A (call (.builtin "sorted") [.ref a]) Q E s := by
  obtain ⟨o, es, ep, t, ho, hex, hd, g, nd, hm, hb, hf, hn, hr, hl⟩ := R
  refine Calls.call_function_entry PyProof.Rows.kind_sorted PyProof.Rows.plain_sorted PyProof.Rows.entry_sorted (PyProof.Rows.args_sorted1 _) ?_
  unfold Builtin.«sorted»
  refine wpAny_bind (m := checkCount "sorted" 1 1 _) (wpAny_pure ?_)
  refine wpAny_bind (collect_set (A := A.in1) hh ⟨o, ho, hex.1, hd⟩ hf hb hr hl fun s1 vs old more g1 o1 pm => ?_)
  have len : vs.length = n := by
    rw [pm.length_eq, List.length_map, Array.length_toList]
    exact hn
  have room : vs.length ≤ sizeLine := by
    rw [len, ← hn]
    exact fits_of_scanBound hb
  have hI : IntsAre vs (vs.map Builtin.Re.reRawOf) := ints_of vs fun v hv => by
    obtain ⟨e, he, q⟩ := List.mem_map.mp (pm.mem_iff.mp hv)
    obtain ⟨k, tk, z, _⟩ := g e he
    exact ⟨k, tk, q.symm.trans z⟩
  have pk := pm.map Builtin.Re.reRawOf
  rw [List.map_map] at pk
  have pk2 : (vs.map Builtin.Re.reRawOf).Perm (es.toList.map keyOf) := pk
  refine wpAny_bind (wpAny_newList ?_ room)
  have here : (s1.heap.push (seqObj "list" vs.toArray 0)).get? s1.heap.objs.size = some (seqObj "list" vs.toArray 0) := Heap.get?_push_size _ rfl
  refine wpAny_bind (wpAny_holding (wpAny_call_entry PyProof.Rows.slot_list_sort ⟨_, here, rfl⟩ PyProof.Rows.entry_list_sort
    (SrtO.list_sort_ord (s := { s1 with heap := s1.heap.push (seqObj "list" vs.toArray 0) }) SrtO.swo_int here room (fun h2 => SrtO.ints_sortable hI h2) fun out h1 h2 => ⟨_, rfl, ?_⟩) (PyProof.Rows.args_list_sort _)))
  obtain ⟨k1, k2, k3⟩ := SrtO.ints_out hI h1 h2
  obtain ⟨e2, at2⟩ := PyProof.Rows.sortedHeap_at (vs := vs) (out := out.toArray) here
  have pn := k2.trans pk2
  refine wpAny_pure ⟨_, rfl, hQ _ s1.heap.objs.size out e2 (out.map SrtO.iv) (fun b u e => ?_) g1 o1 more at2 k1 (lt_of_le_nodup _ k3 (pn.nodup_iff.mpr nd)) (fun k => by rw [pn.mem_iff, ← hm k]) ?_⟩
  · have q := old b u e
    have lt := Heap.lt_size q
    show (PyProof.Rows.sortedHeap (s1.heap.push (seqObj "list" vs.toArray 0)) s1.heap.objs.size vs out.toArray).get? b = some u
    rw [PyProof.Rows.sortedHeap_old (Nat.ne_of_lt lt) (by rw [size_push']; exact Nat.lt_succ_of_lt lt)]
    exact Heap.get?_push_of_some _ q
  · rw [pn.length_eq, List.length_map, Array.length_toList]
    exact hn
end
section
variable {X : Cx}
/-- sorted(s), s a set of whole numbers -/
theorem cr_sortedSetB (hc : X.calm = true) : CallR X (.builtin "sorted") (fun vs H Q => ∃ (a : Addr) (S : Int → Bool) (n : Nat), vs = [V.ref a] ∧ H a = some (SetO X.w a S n) ∧ n < 4096 ∧
    ∀ (ns : List Int) (p : Addr), ns.Pairwise (· < ·) → (∀ k : Int, k ∈ ns ↔ S k = true) → ns.length = n → H p = none → Q (.ref p) (upd H p (.lst (ns.map V.int)))) := by
  intro pins s σ H vs us Q I r h
  obtain ⟨a, S, n, rfl, ha, few, q⟩ := h
  rw [Vals.ref1 r]
  refine sorted_setB (setO_get I ha) (I.ok.hd hc) fun s2 p out c ns old g2 o2 hp at2 hi hs hm hl => ?_
  have room : (ns.map V.int).length ≤ sizeLine := by
    rw [List.length_map, hl]
    exact sizeLine_le (by omega)
  have free : H p = none := I.hok.fresh hp
  have J : Inv X pins σ (upd H p (.lst (ns.map V.int))) { s with heap := s2.heap, gens := s2.gens, drawn := s2.drawn, toks := s2.toks } :=
    I.call (ch := []) (Un.laid old hp free) (I.hok.laid old hp ⟨room, out, c, vals_of_ints hi, at2⟩) (by rw [g2]; exact I.bare) (fun _ z => nomatch z)
  have e : s2 = { s with heap := s2.heap, gens := s2.gens, drawn := s2.drawn, toks := s2.toks } := by
    cases s2
    cases s
    cases o2
    rfl
  rw [e]
  exact ⟨.ref p, _, J, rfl, q ns p hs hm hl free⟩
end
/-! ### dict(xs) of a list of pairs whose first items are tuples of whole numbers or texts -/
section
theorem at_none {k : List L2.Key} : ∀ {xs : List (List L2.Key × Addr × Value)}, k ∉ xs.map (·.1) → atKey xs k = none := fun {xs} h => by
  unfold atKey
  rw [List.find?_eq_none.mpr fun x hx => ?_]
  · rfl
  · intro z
    exact h (List.mem_map.mpr ⟨x, hx, of_decide_eq_true z⟩)
theorem stored_all : ∀ {ps xs : List (List L2.Key × Addr × Value)}, ((xs ++ ps).map (·.1)).Nodup → storedAllH xs ps = xs ++ ps
  | [], xs, _ => (List.append_nil xs).symm
  | p :: ps, xs, h => by
    have hp : p.1 ∉ xs.map (·.1) := fun z => by
      rw [List.map_append, List.nodup_append] at h
      exact h.2.2 _ z _ (List.mem_map.mpr ⟨p, List.mem_cons_self .., rfl⟩) rfl
    have e : xs ++ p :: ps = (xs ++ [p]) ++ ps := by rw [List.append_assoc]; rfl
    have ih := stored_all (ps := ps) (xs := xs ++ [p]) (by rw [← e]; exact h)
    show storedAllH (storedH xs p.1 p.2.1 p.2.2) ps = _
    rw [storedH_new (at_none hp), e]
    exact ih
end
def PairT (H : Hp) (p : Addr) (kv : List L2.Key × V) : Prop := ∃ b, H p = some (.tup [.ref b, kv.2]) ∧ H b = some (.tup (kv.1.map kV))
def rDictT (K : PySem.W.Frag) : List V → Hp → VK → Prop := fun xs H Q => ∃ (a : Addr) (ps : List Addr) (kvs : List (List L2.Key × V)), xs = [.ref a] ∧ SqL K H a (ps.map V.ref) ∧ Paired (PairT H) ps kvs ∧ (kvs.map (·.1)).Nodup ∧ ∀ p, H p = none → Q (.ref p) (upd H p (.dT kvs))
section
variable {X : Cx}
theorem pairsT_of {pins : List (Addr × Obj)} {σ : L2.St} {H : Hp} {s : Shared} (I : Inv X pins σ H s) : ∀ {ps : List Addr} {kvs : List (List L2.Key × V)}, Paired (PairT H) ps kvs →
    ∃ prs : List (List L2.Key × Addr × Value), KT H kvs prs ∧ prs.length = ps.length ∧ prs.map (·.1) = kvs.map (·.1) ∧ (∀ x ∈ prs, (tupleKind (mixKind X.prog X.w)).is s.heap x.1 x.2.1) ∧ ∀ (j : Nat) (q : List L2.Key × Addr × Value), prs[j]? = some q → ∃ b, ps[j]? = some b ∧ IsTup s.heap b #[.ref q.2.1, q.2.2]
  | _, _, .nil => ⟨[], .nil, rfl, rfl, fun x hx => (by cases hx), fun j q e => (by simp at e)⟩
  | _, _, .cons (a := p) (b := kv) h t => by
    obtain ⟨prs, r, hl, hk, hi, hp⟩ := pairsT_of I t
    obtain ⟨b, h1, h2⟩ := h
    obtain ⟨its, rv, ht, _⟩ := I.tuple (a := p) (xs := [.ref b, kv.2]) (.inl (.inl h1))
    obtain ⟨u, y, ei, ru, ry⟩ := vals2 rv
    subst ei
    cases ru
    refine ⟨(kv.1, b, y) :: prs, .cons ⟨rfl, h2, ry⟩ r, by rw [List.length_cons, List.length_cons, hl], by rw [List.map_cons, List.map_cons, hk], fun x hx => ?_, fun j q e => ?_⟩
    · rcases List.mem_cons.mp hx with rfl | hx
      · exact key_of I.hok h2
      · exact hi x hx
    · cases j with
      | zero =>
        have e' : (kv.1, b, y) = q := Option.some.inj e
        subst e'
        exact ⟨p, rfl, ht⟩
      | succ j =>
        obtain ⟨b', e1, e2⟩ := hp j q (by simpa using e)
        exact ⟨b', by simpa using e1, e2⟩
theorem call_dictPT (hcalm : X.calm = true) (hu : X.A.units + 64 < cLine) : CallR X (.type "dict") (rDictT X.K) := by
  intro pins s σ H xs us Q I r q
  obtain ⟨a, ps, kvs, rfl, hq, hp, nd, q⟩ := q
  obtain ⟨u, rfl, rx⟩ := vals1 r
  cases rx
  obtain ⟨its, rv, pl, hz⟩ := I.list hq
  have ei := refs_at rv
  subst ei
  rw [List.length_map] at hz
  obtain ⟨prs, rel, hl, hk, hi, hpr⟩ := pairsT_of I hp
  obtain ⟨o, n, ho, hc, hd, hdat⟩ := pl
  have nd2 : (prs.map (·.1)).Nodup := by
    rw [hk]
    exact nd
  have hprl : (prs.map fun x => (Value.ref x.2.1, x.2.2)).length = prs.length := List.length_map ..
  refine call_dict_pairsH (knd := tupleKind (mixKind X.prog X.w)) (ps := prs) (PairArg.list a (ps.map Value.ref).toArray (fun j => ps.getD j 0) (prs.map fun x => (Value.ref x.2.1, x.2.2))) (I.ok.hd hcalm) ?_ ⟨⟨o, n, ho, hc, hd, hdat⟩, by simp [hl], fun j k v e => ?_⟩ ⟨hprl.symm, fun i key v e => ?_⟩ (fun h' hk' x hx => ?_) (by rw [hprl, hl]; exact hz) fun h' tk hd' k => ?_
  · show X.A.in1.in1.units < cLine
    have : X.A.in1.in1.units = X.A.units + 1 + 1 := rfl
    omega
  · rw [List.getElem?_map] at e
    cases e1 : prs[j]? with
    | none =>
      rw [e1] at e
      cases e
    | some x =>
      rw [e1] at e
      cases e
      obtain ⟨b, e2, e3⟩ := hpr j x e1
      have e4 : ps.getD j 0 = b := by rw [List.getD_eq_getElem?_getD, e2]; rfl
      dsimp only
      rw [e4]
      exact ⟨by simp [e2], .inl e3⟩
  · have e : (prs.map fun x => (Value.ref x.2.1, x.2.2))[i]? = some (key, v) := e
    rw [List.getElem?_map] at e
    cases e1 : prs[i]? with
    | none =>
      rw [e1] at e
      cases e
    | some x =>
      rw [e1] at e
      cases e
      exact ⟨x.1, x.2.1, rfl, rfl⟩
  · obtain ⟨o2, its2, n2, g1, g2, g3, g4⟩ := hi x hx
    exact ⟨o2, its2, n2, hk' _ _ (Nat.ne_of_lt (Heap.lt_size g1)) (fun z => nomatch z) g1, g2, g3, g4⟩
  · have hm : (s.heap.objs.size == sysModules) = false := beq_eq_false_iff_ne.mpr (Nat.ne_of_gt I.big)
    rw [stored_all (xs := []) (ps := prs) nd2, List.nil_append] at hd'
    have hlen : kvs.length ≤ sizeLine := by
      rw [rel.length, hl]
      exact hz
    have hfr : H s.heap.objs.size = none := I.hok.fresh (Nat.le_refl _)
    obtain ⟨o3, es, ep, g1, g2, g3, g4, g5, g6⟩ := hd'
    have k' : ∀ b o, s.heap.get? b = some o → h'.get? b = some o := fun b o e => k b o (fun z => nomatch z) e
    exact ⟨.ref s.heap.objs.size, upd H s.heap.objs.size (.dT kvs), I.laid (t' := tk) k' (Nat.le_refl _) (show ObjOk X.prog X.w _ _ _ (.dT kvs) from ⟨hlen, hm, prs, rel.keeps fun b ys e => (by rw [upd_ne (ne_of_none e hfr)]; exact e), o3, es, ep, g1, g2, g3, g4, g6⟩), rfl, q _ hfr⟩
end
/-! ### digits: the mathematics -/
/-- k is the level of d at n -/
def IsLev (b n d k : Nat) : Prop := n / b ^ (k + 1) = d / b ^ (k + 1) ∧ ∀ j, j < k → n / b ^ (j + 1) ≠ d / b ^ (j + 1)
abbrev Row3 := Nat × Nat × Nat
/-- the stations below level k -/
def tailOf (b d : Nat) : Nat → List Row3
  | 0 => []
  | k + 1 => if d / b ^ k % b ≠ 0 then (k, d / b ^ k % b, d / b ^ (k + 1) * b ^ (k + 1)) :: tailOf b d k else tailOf b d k
/-- the stations of a timer set at n, k its level -/
def rowsOf (b n d k : Nat) : List Row3 := (k, d / b ^ k % b, n) :: tailOf b d k
theorem div_succ (n b k : Nat) : n / b ^ (k + 1) = n / b ^ k / b := by
  rw [Nat.pow_succ, Nat.div_div_eq_div_mul]
theorem pow_pos' {b : Nat} (h : 2 ≤ b) (k : Nat) : 0 < b ^ k := Nat.pow_pos (by omega)
theorem IsLev.uniq {b n d k k' : Nat} (h : IsLev b n d k) (h' : IsLev b n d k') : k = k' := by
  rcases Nat.lt_trichotomy k k' with l | l | l
  · exact absurd h.1 (h'.2 k l)
  · exact l
  · exact absurd h'.1 (h.2 k' l)
theorem IsLev.ne {b n d k : Nat} (h : IsLev b n d k) (hnd : n < d) : n / b ^ k < d / b ^ k := by
  cases k with
  | zero =>
    rw [Nat.pow_zero, Nat.div_one, Nat.div_one]
    exact hnd
  | succ j =>
    have h1 := h.2 j (Nat.lt_succ_self j)
    have h2 : n / b ^ (j + 1) ≤ d / b ^ (j + 1) := Nat.div_le_div_right (Nat.le_of_lt hnd)
    omega
theorem IsLev.size {b n d k : Nat} (h : IsLev b n d k) (hb : 2 ≤ b) (hnd : n < d) : b ^ k ≤ d := by
  have h1 := h.ne hnd
  have h2 : 0 < d / b ^ k := Nat.lt_of_le_of_lt (Nat.zero_le _) h1
  exact (Nat.div_pos_iff.mp h2).2
theorem IsLev.digit {b n d k : Nat} (h : IsLev b n d k) (hnd : n < d) : n / b ^ k % b < d / b ^ k % b := by
  have h1 := h.ne hnd
  have h2 := h.1
  rw [div_succ, div_succ] at h2
  have e1 := Nat.div_add_mod (n / b ^ k) b
  have e2 := Nat.div_add_mod (d / b ^ k) b
  rw [h2] at e1
  omega
theorem pow_two_le {b : Nat} (hb : 2 ≤ b) (k : Nat) : 2 ^ k ≤ b ^ k := Nat.pow_le_pow_left hb k
theorem lev_small {b n d k t : Nat} (h : IsLev b n d k) (hb : 2 ≤ b) (hnd : n < d) (hd : d < 2 ^ t) : k < t := by
  have h1 := h.size hb hnd
  have h2 := pow_two_le hb k
  exact (Nat.pow_lt_pow_iff_right (by decide : 1 < 2)).mp (Nat.lt_of_le_of_lt (Nat.le_trans h2 h1) hd)
/-- cutting below: what two cuts beside one another differ by -/
theorem cut_step (b d k : Nat) : d / b ^ k * b ^ k = d / b ^ (k + 1) * b ^ (k + 1) + d / b ^ k % b * b ^ k := by
  rw [div_succ]
  have e := Nat.div_add_mod (d / b ^ k) b
  have e2 : b ^ (k + 1) = b * b ^ k := by rw [Nat.pow_succ, Nat.mul_comm]
  rw [e2, ← Nat.mul_assoc, ← Nat.add_mul, Nat.mul_comm (d / b ^ k / b) b, e]
theorem cut_le (b d k : Nat) : d / b ^ k * b ^ k ≤ d := Nat.div_mul_le_self d (b ^ k)
theorem cut_mono (b d : Nat) {j k : Nat} (h : j ≤ k) : d / b ^ k * b ^ k ≤ d / b ^ j * b ^ j := by
  induction k with
  | zero =>
    have e : j = 0 := by omega
    rw [e]
    exact Nat.le_refl _
  | succ k ih =>
    by_cases e : j = k + 1
    · rw [e]
      exact Nat.le_refl _
    · have h1 := ih (by omega)
      have h2 := cut_step b d k
      omega
theorem lt_cut {b n d k : Nat} (hb : 2 ≤ b) (h : n / b ^ k < d / b ^ k) : n < d / b ^ k * b ^ k := by
  have hp := pow_pos' hb k
  exact (Nat.div_lt_iff_lt_mul hp).mp h
theorem tail_len (b d : Nat) : ∀ k, (tailOf b d k).length ≤ k
  | 0 => Nat.le_refl _
  | k + 1 => by
    have ih := tail_len b d k
    unfold tailOf
    split
    · rw [List.length_cons]
      omega
    · omega
/-- a later tick that lies ahead of the next cut has the same level -/
theorem IsLev.later {b n d k t : Nat} (hb : 2 ≤ b) (h : IsLev b n d k) (hnd : n < d) (h1 : n ≤ t) (h2 : t < d / b ^ k * b ^ k) : IsLev b t d k := by
  have hp := pow_pos' hb k
  have hp1 := pow_pos' hb (k + 1)
  have htd : t < d := Nat.lt_of_lt_of_le h2 (cut_le b d k)
  refine ⟨?_, fun j hj => ?_⟩
  · have a1 : n / b ^ (k + 1) ≤ t / b ^ (k + 1) := Nat.div_le_div_right h1
    have a2 : t / b ^ (k + 1) ≤ d / b ^ (k + 1) := Nat.div_le_div_right (Nat.le_of_lt htd)
    have a3 := h.1
    omega
  · have a1 : t / b ^ k < d / b ^ k := (Nat.div_lt_iff_lt_mul hp).mpr h2
    intro e
    have e2 : k = (j + 1) + (k - (j + 1)) := by omega
    rw [e2, Nat.pow_add, ← Nat.div_div_eq_div_mul, ← Nat.div_div_eq_div_mul, e] at a1
    omega
/-! ### words of levels, sides -/
def lvV (b : Bool) : V := if b then .str "stack" else .str "queue"
def sdV (b : Bool) : V := if b then .str "front" else .str "back"
theorem lv_ne : ¬ (V.str "queue" = V.str "stack") := by decide
theorem lv_dec (b : Bool) : decide (lvV b = .str "stack") = b := by
  cases b
  · exact decide_eq_false lv_ne
  · exact decide_eq_true rfl
def wordAt (ws : List Bool) (k : Nat) : Bool := ws.getD (min k (ws.length - 1)) false
theorem word_get {ws : List Bool} (h : ws ≠ []) (k : Nat) : (ws.map lvV)[min k (ws.length - 1)]? = some (lvV (wordAt ws k)) := by
  have hl : min k (ws.length - 1) < ws.length := by
    have : 0 < ws.length := List.length_pos_iff.mpr h
    omega
  rw [List.getElem?_map, List.getElem?_eq_getElem hl]
  unfold wordAt
  rw [List.getD_eq_getElem?_getD, List.getElem?_eq_getElem hl]
  rfl
/-- whether an odd number of the rows, at levels from lo on, have the word stack -/
def frontOf (ws : List Bool) (lo : Nat) (rs : List Row3) : Bool := decide (rs.countP (fun r => decide (lo ≤ r.1) && wordAt ws r.1) % 2 = 1)
theorem odd_succ (c : Nat) : decide ((c + 1) % 2 = 1) = !decide (c % 2 = 1) := by
  by_cases h : c % 2 = 1
  · rw [decide_eq_true h, decide_eq_false (by omega)]
    rfl
  · rw [decide_eq_false h, decide_eq_true (by omega)]
    rfl
theorem front_snoc (ws : List Bool) (lo : Nat) (rs : List Row3) (r : Row3) : frontOf ws lo (rs ++ [r]) = if (decide (lo ≤ r.1) && wordAt ws r.1) = true then !frontOf ws lo rs else frontOf ws lo rs := by
  unfold frontOf
  rw [List.countP_append, List.countP_singleton]
  split
  · exact odd_succ _
  · rw [Nat.add_zero]
/-! ### the wheel as plain data -/
structure Tm where
  num : Nat
  due : Nat
  per : Option Nat
  since : Nat
def perV : Option Nat → V
  | none => .non
  | some k => .int (k : Nat)
def tmV (m : Tm) : List V := [.int (m.due : Nat), perV m.per, .int (m.since : Nat)]
open Classical in
noncomputable def sideT (b : Nat) (ws : List Bool) (n d lo : Nat) : Bool := if h : ∃ k, IsLev b n d k then frontOf ws lo (rowsOf b n d (Classical.choose h)) else false
theorem sideT_eq {b : Nat} {ws : List Bool} {n d lo k : Nat} (h : IsLev b n d k) : sideT b ws n d lo = frontOf ws lo (rowsOf b n d k) := by
  have e : ∃ k, IsLev b n d k := ⟨k, h⟩
  unfold sideT
  rw [dif_pos e, (Classical.choose_spec e).uniq h]
def insT (front : Bool) (n : Nat) (l : List Nat) : List Nat := if front then n :: l else l ++ [n]
noncomputable def orderAt (b : Nat) (ws : List Bool) (t : Nat) (ms : List Tm) : List Nat := ms.foldl (fun acc m => if m.due = t then insT (sideT b ws m.since m.due 0) m.num acc else acc) []
theorem order_snoc (b : Nat) (ws : List Bool) (t : Nat) (ms : List Tm) (m : Tm) : orderAt b ws t (ms ++ [m]) = if m.due = t then insT (sideT b ws m.since m.due 0) m.num (orderAt b ws t ms) else orderAt b ws t ms := by
  unfold orderAt
  rw [List.foldl_append]
  rfl
theorem insT_len (f : Bool) (n : Nat) (l : List Nat) : (insT f n l).length = l.length + 1 := by
  unfold insT
  split
  · rfl
  · rw [List.length_append]
    rfl
theorem insT_mem {f : Bool} {n x : Nat} {l : List Nat} : x ∈ insT f n l ↔ x = n ∨ x ∈ l := by
  unfold insT
  split
  · rw [List.mem_cons]
  · rw [List.mem_append, List.mem_singleton]
    exact Or.comm
theorem order_spec (b : Nat) (ws : List Bool) (t : Nat) (ms : List Tm) : ∀ n : Nat, (orderAt b ws t (ms.take n)).length = ((ms.take n).filter fun m => decide (m.due = t)).length ∧ ∀ x, x ∈ orderAt b ws t (ms.take n) ↔ ∃ m ∈ ms.take n, m.due = t ∧ m.num = x := by
  intro n
  induction n with
  | zero =>
    refine ⟨rfl, fun x => ?_⟩
    simp [orderAt]
  | succ n ih =>
    cases e : ms[n]? with
    | none =>
      have hl : ms.length ≤ n := List.getElem?_eq_none_iff.mp e
      rw [List.take_of_length_le (by omega)]
      rw [List.take_of_length_le hl] at ih
      exact ih
    | some m =>
      rw [List.take_add_one, e]
      show (orderAt b ws t (ms.take n ++ [m])).length = _ ∧ ∀ x, x ∈ orderAt b ws t (ms.take n ++ [m]) ↔ ∃ m' ∈ ms.take n ++ [m], _
      rw [order_snoc]
      rw [Option.toList_some, List.filter_append, List.length_append]
      by_cases h : m.due = t
      · rw [if_pos h, insT_len, ih.1]
        refine ⟨by simp [h], fun x => ?_⟩
        rw [insT_mem, ih.2 x]
        constructor
        · rintro (e | ⟨m', h1, h2⟩)
          · exact ⟨m, by simp, h, e.symm⟩
          · exact ⟨m', List.mem_append_left _ h1, h2⟩
        · rintro ⟨m', h1, h2, h3⟩
          rcases List.mem_append.mp h1 with h1 | h1
          · exact .inr ⟨m', h1, h2, h3⟩
          · rw [List.mem_singleton.mp h1] at h3
            exact .inl h3.symm
      · rw [if_neg h, ih.1]
        refine ⟨by simp [h], fun x => ?_⟩
        rw [ih.2 x]
        constructor
        · rintro ⟨m', h1, h2⟩
          exact ⟨m', List.mem_append_left _ h1, h2⟩
        · rintro ⟨m', h1, h2, h3⟩
          rcases List.mem_append.mp h1 with h1 | h1
          · exact ⟨m', h1, h2, h3⟩
          · rw [List.mem_singleton.mp h1] at h2
            exact absurd h2 h
theorem order_len (b : Nat) (ws : List Bool) (t : Nat) (ms : List Tm) : (orderAt b ws t ms).length = (ms.filter fun m => decide (m.due = t)).length := by
  have z := (order_spec b ws t ms ms.length).1
  rw [List.take_length] at z
  exact z
theorem order_mem {b : Nat} {ws : List Bool} {t : Nat} {ms : List Tm} {x : Nat} : x ∈ orderAt b ws t ms ↔ ∃ m ∈ ms, m.due = t ∧ m.num = x := by
  have z := (order_spec b ws t ms ms.length).2 x
  rw [List.take_length] at z
  exact z
def dropT (n : Nat) (ms : List Tm) : List Tm := ms.filter fun m => decide (m.num ≠ n)
/-- a timer fires: it goes, and comes back at the end if it has a period -/
def fireT (t : Nat) (ms : List Tm) (n : Nat) : List Tm := match ms.find? fun m => decide (m.num = n) with
  | none => ms
  | some m => match m.per with
    | none => dropT n ms
    | some k => dropT n ms ++ [⟨n, t + k, some k, t⟩]
def afterF (t : Nat) (ms : List Tm) (ns : List Nat) : List Tm := ns.foldl (fireT t) ms
def leastD (ms : List Tm) : Option Nat := (ms.map (·.due)).min?
theorem least_none {ms : List Tm} : leastD ms = none ↔ ms = [] := by
  unfold leastD
  rw [List.min?_eq_none_iff, List.map_eq_nil_iff]
theorem least_some {ms : List Tm} {v : Nat} : leastD ms = some v ↔ v ∈ ms.map (·.due) ∧ ∀ x ∈ ms.map (·.due), v ≤ x := by
  unfold leastD
  exact List.min?_eq_some_iff
structure WS where
  b : Nat
  ws : List Bool
  tick : Nat
  fol : Nat
  live : List Tm
/-- live timers as they may stand at a tick -/
structure TOk (tick fol : Nat) (m : Tm) : Prop where
  since : m.since ≤ tick
  due : tick < m.due
  big : m.due < 2 ^ 250
  num : m.num < fol
  per : ∀ k, m.per = some k → 1 ≤ k
structure WOk (W : WS) : Prop where
  b2 : 2 ≤ W.b
  b64 : W.b ≤ 64
  ne : W.ws ≠ []
  l60 : W.ws.length ≤ 60
  tms : ∀ m ∈ W.live, TOk W.tick W.fol m
  nd : (W.live.map (·.num)).Nodup
  few : W.live.length ≤ 1000
/-- what an advance to t lets fire, step by step -/
inductive AdvTo (b : Nat) (ws : List Bool) (t : Nat) : List Tm → List (Nat × List Nat) → List Tm → Prop where
  | done {ms : List Tm} (h : ∀ m ∈ ms, t < m.due) : AdvTo b ws t ms [] ms
  | step {ms ms' : List Tm} {at_ : Nat} {rest : List (Nat × List Nat)} (h : leastD ms = some at_) (hle : at_ ≤ t) (ok : ∀ m ∈ ms, m.since < m.due ∧ m.due < 2 ^ 250) (nd : (ms.map (·.num)).Nodup) (few : ms.length ≤ 1000)
    (r : AdvTo b ws t (afterF at_ ms (orderAt b ws at_ ms)) rest ms') : AdvTo b ws t ms ((at_, orderAt b ws at_ ms) :: rest) ms'
open Classical in
/-- the tick at which a timer leaves the list in which it stands at n -/
noncomputable def evT (b n d : Nat) : Nat := if h : ∃ k, IsLev b n d k then d / b ^ Classical.choose h * b ^ Classical.choose h else 0
theorem evT_eq {b n d k : Nat} (h : IsLev b n d k) : evT b n d = d / b ^ k * b ^ k := by
  have e : ∃ k, IsLev b n d k := ⟨k, h⟩
  unfold evT
  rw [dif_pos e, (Classical.choose_spec e).uniq h]
noncomputable def nextE (b n : Nat) (ms : List Tm) : Option Nat := (ms.map fun m => evT b n m.due).min?
def total (fs : List (Nat × List Nat)) : Nat := (fs.map fun f => f.2.length).sum
theorem order_pos {b : Nat} {ws : List Bool} {t : Nat} {ms : List Tm} (h : leastD ms = some t) : 0 < (orderAt b ws t ms).length := by
  obtain ⟨m, hm, e⟩ := List.mem_map.mp (least_some.mp h).1
  have z : m.num ∈ orderAt b ws t ms := order_mem.mpr ⟨m, hm, e, rfl⟩
  exact List.length_pos_of_mem z
theorem insT_nodup {f : Bool} {n : Nat} {l : List Nat} (h : l.Nodup) (hn : n ∉ l) : (insT f n l).Nodup := by
  unfold insT
  split
  · exact List.nodup_cons.mpr ⟨hn, h⟩
  · exact L2.nd_snoc h hn
theorem order_nodup {b : Nat} {ws : List Bool} {t : Nat} {ms : List Tm} (nd : (ms.map (·.num)).Nodup) : (orderAt b ws t ms).Nodup := by
  suffices H : ∀ n : Nat, (orderAt b ws t (ms.take n)).Nodup by
    have z := H ms.length
    rw [List.take_length] at z
    exact z
  intro n
  induction n with
  | zero => exact List.nodup_nil
  | succ n ih =>
    cases e : ms[n]? with
    | none =>
      have hl : ms.length ≤ n := List.getElem?_eq_none_iff.mp e
      rw [List.take_of_length_le (by omega)]
      rw [List.take_of_length_le hl] at ih
      exact ih
    | some m =>
      rw [List.take_add_one, e]
      show (orderAt b ws t (ms.take n ++ [m])).Nodup
      rw [order_snoc]
      split
      · refine insT_nodup ih fun hm => ?_
        obtain ⟨m', h1, _, h3⟩ := order_mem.mp hm
        obtain ⟨i, hi⟩ := List.getElem?_of_mem h1
        rw [List.getElem?_take] at hi
        split at hi
        · rename_i hlt
          have a1 : (ms.map (·.num))[i]? = some m.num := by rw [List.getElem?_map, hi, ← h3]; rfl
          have a2 : (ms.map (·.num))[n]? = some m.num := by rw [List.getElem?_map, e]; rfl
          have z := (List.getElem?_inj (List.getElem?_eq_some_iff.mp a1).1 nd).mp (a1.trans a2.symm)
          omega
        · cases hi
      · exact ih
/-! ### the lists of a wheel -/
abbrev Cell := (Nat × Nat) × List Nat
def keyC (p : Nat × Nat) : List Key := [Sum.inl (p.1 : Int), Sum.inl (p.2 : Int)]
theorem keyC_inj {p q : Nat × Nat} : keyC p = keyC q ↔ p = q := by
  constructor
  · intro h
    unfold keyC at h
    obtain ⟨h1, h2⟩ := List.cons.inj h
    have a := Int.ofNat.inj (Sum.inl.inj h1)
    have b := Int.ofNat.inj (Sum.inl.inj (List.cons.inj h2).1)
    exact Prod.ext a b
  · intro h
    rw [h]
def cellV : List Cell → Nat × Nat → List Nat
  | [], _ => []
  | c :: cs, p => if c.1 = p then c.2 else cellV cs p
def cellPut (rs : List Cell) (p : Nat × Nat) (ns : List Nat) : List Cell := if (rs.any fun c => decide (c.1 = p)) = true then rs.map (fun c => if c.1 = p then (c.1, ns) else c) else rs ++ [(p, ns)]
theorem cellV_map {p q : Nat × Nat} {ns : List Nat} : ∀ rs : List Cell, cellV (rs.map fun c => if c.1 = p then (c.1, ns) else c) q = if p = q ∧ (rs.any fun c => decide (c.1 = p)) = true then ns else cellV rs q
  | [] => by simp [cellV]
  | c :: cs => by
    have ih := cellV_map (p := p) (q := q) (ns := ns) cs
    rw [List.map_cons]
    by_cases h : c.1 = p
    · rw [if_pos h]
      by_cases h2 : p = q
      · have e : c.1 = q := h.trans h2
        rw [if_pos ⟨h2, by rw [List.any_cons, decide_eq_true h]; rfl⟩]
        show (if c.1 = q then ns else _) = ns
        rw [if_pos e]
      · have e : ¬ c.1 = q := fun z => h2 (h.symm.trans z)
        rw [if_neg (fun z => h2 z.1)]
        rw [if_neg (fun z => h2 z.1)] at ih
        show (if c.1 = q then ns else _) = if c.1 = q then c.2 else cellV cs q
        rw [if_neg e, if_neg e]
        exact ih
    · rw [if_neg h, List.any_cons, decide_eq_false h, Bool.false_or]
      show (if c.1 = q then c.2 else _) = _
      by_cases h2 : c.1 = q
      · have e : ¬ p = q := fun z => h (h2.trans z.symm)
        rw [if_pos h2, if_neg (fun z => e z.1)]
        show c.2 = if c.1 = q then c.2 else cellV cs q
        rw [if_pos h2]
      · rw [if_neg h2, ih]
        show _ = if _ then ns else (if c.1 = q then c.2 else cellV cs q)
        rw [if_neg h2]
theorem cellV_snoc {p q : Nat × Nat} {ns : List Nat} : ∀ rs : List Cell, (rs.any fun c => decide (c.1 = p)) = false → cellV (rs ++ [(p, ns)]) q = if p = q then ns else cellV rs q
  | [], _ => rfl
  | c :: cs, h => by
    rw [List.any_cons, Bool.or_eq_false_iff] at h
    have ih := cellV_snoc (q := q) (ns := ns) cs h.2
    have hc : ¬ c.1 = p := of_decide_eq_false h.1
    show (if c.1 = q then c.2 else cellV (cs ++ [(p, ns)]) q) = if p = q then ns else (if c.1 = q then c.2 else cellV cs q)
    rw [ih]
    by_cases h2 : p = q
    · rw [if_pos h2, if_pos h2, if_neg fun z => hc (z.trans h2.symm)]
    · rw [if_neg h2, if_neg h2]
theorem cellV_put {rs : List Cell} {p q : Nat × Nat} {ns : List Nat} : cellV (cellPut rs p ns) q = if p = q then ns else cellV rs q := by
  unfold cellPut
  by_cases h : (rs.any fun c => decide (c.1 = p)) = true
  · rw [if_pos h, cellV_map]
    by_cases h2 : p = q
    · rw [if_pos ⟨h2, h⟩, if_pos h2]
    · rw [if_neg (fun z => h2 z.1), if_neg h2]
  · rw [if_neg h]
    exact cellV_snoc rs (Bool.eq_false_iff.mpr h)
theorem cellPut_len (rs : List Cell) (p : Nat × Nat) (ns : List Nat) : (cellPut rs p ns).length ≤ rs.length + 1 := by
  unfold cellPut
  split
  · rw [List.length_map]
    omega
  · rw [List.length_append]
    exact Nat.le_refl _
theorem cellPut_keys {rs : List Cell} {p : Nat × Nat} {ns : List Nat} (nd : (rs.map (·.1)).Nodup) : ((cellPut rs p ns).map (·.1)).Nodup := by
  unfold cellPut
  by_cases h : (rs.any fun c => decide (c.1 = p)) = true
  · rw [if_pos h, List.map_map]
    have e : rs.map ((fun c : Cell => c.1) ∘ fun c => if c.1 = p then (c.1, ns) else c) = rs.map (·.1) := List.map_congr_left fun c _ => by
      show (if c.1 = p then (c.1, ns) else c).1 = c.1
      split <;> rfl
    rw [e]
    exact nd
  · rw [if_neg h, List.map_append]
    refine L2.nd_snoc nd fun hm => h ?_
    obtain ⟨c, hc, e⟩ := List.mem_map.mp hm
    exact List.any_eq_true.mpr ⟨c, hc, decide_eq_true e⟩
open Classical in
noncomputable def levT (b n d : Nat) : Nat := if h : ∃ k, IsLev b n d k then Classical.choose h else 0
theorem levT_eq {b n d k : Nat} (h : IsLev b n d k) : levT b n d = k := by
  have e : ∃ k, IsLev b n d k := ⟨k, h⟩
  unfold levT
  rw [dif_pos e]
  exact (Classical.choose_spec e).uniq h
noncomputable def placeT (b t d : Nat) : Nat × Nat := (levT b t d, d / b ^ levT b t d % b)
noncomputable def standStep (b : Nat) (ws : List Bool) (t : Nat) (rs : List Cell) (m : Tm) : List Cell :=
  if t < m.due then cellPut rs (placeT b t m.due) (insT (sideT b ws m.since m.due (levT b t m.due)) m.num (cellV rs (placeT b t m.due))) else rs
noncomputable def standD (b : Nat) (ws : List Bool) (t : Nat) (ms : List Tm) : List Cell := ms.foldl (standStep b ws t) []
theorem stand_snoc (b : Nat) (ws : List Bool) (t : Nat) (ms : List Tm) (m : Tm) : standD b ws t (ms ++ [m]) = standStep b ws t (standD b ws t ms) m := by
  unfold standD
  rw [List.foldl_append]
  rfl
theorem stand_bounds (b : Nat) (ws : List Bool) (t : Nat) (ms : List Tm) : ∀ n : Nat, n ≤ ms.length → (standD b ws t (ms.take n)).length ≤ n ∧ (∀ p, (cellV (standD b ws t (ms.take n)) p).length ≤ n) ∧ ((standD b ws t (ms.take n)).map (·.1)).Nodup := by
  intro n
  induction n with
  | zero => exact fun _ => ⟨Nat.le_refl _, fun p => Nat.le_refl _, List.nodup_nil⟩
  | succ n ih =>
    intro hn
    obtain ⟨h1, h2, h3⟩ := ih (by omega)
    have e : ms[n]? = some ms[n] := List.getElem?_eq_getElem (by omega)
    rw [List.take_add_one, e]
    show (standD b ws t (ms.take n ++ [ms[n]])).length ≤ _ ∧ (∀ p, (cellV (standD b ws t (ms.take n ++ [ms[n]])) p).length ≤ _) ∧ ((standD b ws t (ms.take n ++ [ms[n]])).map _).Nodup
    rw [stand_snoc]
    unfold standStep
    split
    · refine ⟨Nat.le_trans (cellPut_len _ _ _) (by omega), fun p => ?_, cellPut_keys h3⟩
      rw [cellV_put]
      split
      · rw [insT_len]
        have z := h2 (placeT b t (ms[n]).due)
        omega
      · have z := h2 p
        omega
    · exact ⟨by omega, fun p => by have z := h2 p; omega, h3⟩
/-- the cells of a dict on the heap -/
def CellsAt (H : Hp) : List (List Key × V) → List Cell → Prop
  | [], [] => True
  | kv :: kvs, c :: cs => kv.1 = keyC c.1 ∧ (∃ a, kv.2 = .ref a ∧ H a = some (.lst (c.2.map fun x => V.int (x : Nat)))) ∧ CellsAt H kvs cs
  | _, _ => False
theorem CellsAt.frame {H H' : Hp} (s : ∀ a xs, H a = some (.lst xs) → H' a = some (.lst xs)) : ∀ {kvs : List (List Key × V)} {rs : List Cell}, CellsAt H kvs rs → CellsAt H' kvs rs
  | [], [], _ => trivial
  | _ :: _, _ :: _, ⟨h1, ⟨a, h2, h3⟩, h4⟩ => ⟨h1, ⟨a, h2, s _ _ h3⟩, h4.frame s⟩
  | [], _ :: _, h => h.elim
  | _ :: _, [], h => h.elim
theorem CellsAt.len {H : Hp} : ∀ {kvs : List (List Key × V)} {rs : List Cell}, CellsAt H kvs rs → kvs.length = rs.length
  | [], [], _ => rfl
  | _ :: _, _ :: _, h => congrArg Nat.succ h.2.2.len
  | [], _ :: _, h => h.elim
  | _ :: _, [], h => h.elim
theorem CellsAt.keys {H : Hp} : ∀ {kvs : List (List Key × V)} {rs : List Cell}, CellsAt H kvs rs → kvs.map (·.1) = (rs.map fun c => ((c.1.1 : Int), (c.1.2 : Int))).map fun p => [Sum.inl p.1, Sum.inl p.2]
  | [], [], _ => rfl
  | kv :: kvs, c :: cs, h => by
    rw [List.map_cons, List.map_cons, List.map_cons, h.1, h.2.2.keys]
    rfl
  | [], _ :: _, h => h.elim
  | _ :: _, [], h => h.elim
theorem CellsAt.val {H : Hp} {p : Nat × Nat} : ∀ {kvs : List (List Key × V)} {rs : List Cell}, CellsAt H kvs rs → (valV kvs (keyC p) = none ∧ cellV rs p = []) ∨ ∃ a, valV kvs (keyC p) = some (.ref a) ∧ H a = some (.lst ((cellV rs p).map fun x => V.int (x : Nat)))
  | [], [], _ => .inl ⟨rfl, rfl⟩
  | kv :: kvs, c :: cs, h => by
    obtain ⟨h1, ⟨a, h2, h3⟩, h4⟩ := h
    by_cases e : c.1 = p
    · refine .inr ⟨a, ?_, ?_⟩
      · rw [valV_pos (h1.trans (keyC_inj.mpr e)), h2]
      · show H a = some (.lst ((if c.1 = p then c.2 else cellV cs p).map _))
        rw [if_pos e]
        exact h3
    · have e1 : ¬ kv.1 = keyC p := fun z => e (keyC_inj.mp (h1.symm.trans z))
      rw [valV_neg e1]
      show _ ∧ (if c.1 = p then c.2 else cellV cs p) = [] ∨ ∃ a, _ ∧ H a = some (.lst ((if c.1 = p then c.2 else cellV cs p).map _))
      rw [if_neg e]
      exact h4.val
  | [], _ :: _, h => h.elim
  | _ :: _, [], h => h.elim
theorem CellsAt.val_mem {H : Hp} {p : Nat × Nat} : ∀ {kvs : List (List Key × V)} {rs : List Cell}, CellsAt H kvs rs → p ∈ rs.map (·.1) → ∃ a, valV kvs (keyC p) = some (.ref a) ∧ H a = some (.lst ((cellV rs p).map fun x => V.int (x : Nat)))
  | [], [], _, h => by cases h
  | kv :: kvs, c :: cs, h, hm => by
    obtain ⟨h1, ⟨a, h2, h3⟩, h4⟩ := h
    by_cases e : c.1 = p
    · refine ⟨a, ?_, ?_⟩
      · rw [valV_pos (h1.trans (keyC_inj.mpr e)), h2]
      · show H a = some (.lst ((if c.1 = p then c.2 else cellV cs p).map _))
        rw [if_pos e]
        exact h3
    · have e1 : ¬ kv.1 = keyC p := fun z => e (keyC_inj.mp (h1.symm.trans z))
      rw [valV_neg e1]
      show ∃ a, _ ∧ H a = some (.lst ((if c.1 = p then c.2 else cellV cs p).map _))
      rw [if_neg e]
      refine h4.val_mem ?_
      rw [List.map_cons] at hm
      rcases List.mem_cons.mp hm with z | z
      · exact absurd z.symm e
      · exact z
  | [], _ :: _, h, _ => h.elim
  | _ :: _, [], h, _ => h.elim
theorem CellsAt.any {H : Hp} {p : Nat × Nat} : ∀ {kvs : List (List Key × V)} {rs : List Cell}, CellsAt H kvs rs → (kvs.any fun kv => decide (kv.1 = keyC p)) = rs.any fun c => decide (c.1 = p)
  | [], [], _ => rfl
  | kv :: kvs, c :: cs, h => by
    rw [List.any_cons, List.any_cons, h.2.2.any]
    have e : (decide (kv.1 = keyC p)) = decide (c.1 = p) := decide_eq_decide.mpr (by rw [h.1]; exact keyC_inj)
    rw [e]
  | [], _ :: _, h => h.elim
  | _ :: _, [], h => h.elim
theorem CellsAt.mapd {H : Hp} {p : Nat × Nat} {a : Addr} {ns : List Nat} (ha : H a = some (.lst (ns.map fun x => V.int (x : Nat)))) : ∀ {kvs : List (List Key × V)} {rs : List Cell}, CellsAt H kvs rs → CellsAt H (kvs.map fun kv => if kv.1 = keyC p then (kv.1, .ref a) else kv) (rs.map fun c => if c.1 = p then (c.1, ns) else c)
  | [], [], _ => trivial
  | kv :: kvs, c :: cs, h => by
    obtain ⟨h1, h2, h4⟩ := h
    rw [List.map_cons, List.map_cons]
    by_cases e : c.1 = p
    · rw [if_pos e, if_pos (h1.trans (keyC_inj.mpr e))]
      exact ⟨h1, ⟨a, rfl, ha⟩, h4.mapd ha⟩
    · rw [if_neg e, if_neg fun z => e (keyC_inj.mp (h1.symm.trans z))]
      exact ⟨h1, h2, h4.mapd ha⟩
  | [], _ :: _, h => h.elim
  | _ :: _, [], h => h.elim
theorem CellsAt.snoc {H : Hp} {p : Nat × Nat} {a : Addr} {ns : List Nat} (ha : H a = some (.lst (ns.map fun x => V.int (x : Nat)))) : ∀ {kvs : List (List Key × V)} {rs : List Cell}, CellsAt H kvs rs → CellsAt H (kvs ++ [(keyC p, .ref a)]) (rs ++ [(p, ns)])
  | [], [], _ => ⟨rfl, ⟨a, rfl, ha⟩, trivial⟩
  | _ :: _, _ :: _, h => ⟨h.1, h.2.1, h.2.2.snoc ha⟩
  | [], _ :: _, h => h.elim
  | _ :: _, [], h => h.elim
theorem CellsAt.put {H : Hp} {p : Nat × Nat} {a : Addr} {ns : List Nat} (ha : H a = some (.lst (ns.map fun x => V.int (x : Nat)))) {kvs : List (List Key × V)} {rs : List Cell} (h : CellsAt H kvs rs) : CellsAt H (putK kvs (keyC p) (.ref a)) (cellPut rs p ns) := by
  unfold putK cellPut
  rw [h.any]
  split
  · exact h.mapd ha
  · exact h.snoc ha
/-! ### levels and events of timers -/
theorem least_nat {p : Nat → Prop} : ∀ n : Nat, p n → ∃ k, p k ∧ ∀ j, j < k → ¬ p j
  | 0, h => ⟨0, h, fun j hj => absurd hj (Nat.not_lt_zero j)⟩
  | n + 1, h => by
    by_cases c : ∃ m, m ≤ n ∧ p m
    · obtain ⟨m, hm, hp⟩ := c
      exact Classical.byContradiction fun no => by
        have all : ∀ k, ∀ j, j < k → ¬ p j := fun k => by
          induction k with
          | zero => exact fun j hj => absurd hj (Nat.not_lt_zero j)
          | succ k ih =>
            intro j hj
            by_cases e : j = k
            · intro hp'
              exact no ⟨k, by rw [← e]; exact hp', ih⟩
            · exact ih j (by omega)
        exact all (m + 1) m (Nat.lt_succ_self m) hp
    · exact ⟨n + 1, h, fun j hj hp => c ⟨j, Nat.le_of_lt_succ hj, hp⟩⟩
theorem lev_exists {b n d : Nat} (hb : 2 ≤ b) (h : n < d) : ∃ k, IsLev b n d k := by
  have big : d < b ^ (d + 1) := Nat.lt_of_lt_of_le (Nat.lt_of_lt_of_le Nat.lt_two_pow_self (Nat.pow_le_pow_right (by decide) (Nat.le_succ d))) (pow_two_le hb (d + 1))
  obtain ⟨k, h1, h2⟩ := least_nat (p := fun k => n / b ^ (k + 1) = d / b ^ (k + 1)) d (by
    show n / b ^ (d + 1) = d / b ^ (d + 1)
    rw [Nat.div_eq_of_lt big, Nat.div_eq_of_lt (Nat.lt_trans h big)])
  exact ⟨k, h1, h2⟩
theorem levT_is {b n d : Nat} (hb : 2 ≤ b) (h : n < d) : IsLev b n d (levT b n d) := by
  obtain ⟨k, hk⟩ := lev_exists hb h
  rw [levT_eq hk]
  exact hk
theorem evT_is {b n d : Nat} (hb : 2 ≤ b) (h : n < d) : evT b n d = d / b ^ levT b n d * b ^ levT b n d := evT_eq (levT_is hb h)
theorem evT_le {b n d : Nat} (hb : 2 ≤ b) (h : n < d) : evT b n d ≤ d := by
  rw [evT_is hb h]
  exact cut_le b d _
theorem evT_gt {b n d : Nat} (hb : 2 ≤ b) (h : n < d) : n < evT b n d := by
  rw [evT_is hb h]
  have hk := levT_is hb h
  generalize levT b n d = k at hk ⊢
  exact (Nat.div_lt_iff_lt_mul (pow_pos' hb k)).mp (hk.ne h)
/-- ahead of its event a timer stands where it stood -/
theorem lev_stays {b n d t : Nat} (hb : 2 ≤ b) (h : n < d) (h1 : n ≤ t) (h2 : t < evT b n d) : t < d ∧ levT b t d = levT b n d := by
  refine ⟨Nat.lt_of_lt_of_le h2 (evT_le hb h), ?_⟩
  rw [evT_is hb h] at h2
  exact levT_eq ((levT_is hb h).later hb h h1 h2)
/-- at its event it stands at a lower level -/
theorem lev_drops {b n d : Nat} (hb : 2 ≤ b) (h : n < d) (h2 : evT b n d < d) : levT b (evT b n d) d < levT b n d := by
  have hk := levT_is hb h
  have hk' := levT_is hb h2
  have e := evT_is hb h
  generalize levT b n d = k at hk e ⊢
  generalize levT b (evT b n d) d = k' at hk' ⊢
  have same : evT b n d / b ^ k = d / b ^ k := by
    rw [e, Nat.mul_div_cancel _ (pow_pos' hb k)]
  refine Classical.byContradiction fun no => ?_
  by_cases c : k' = k
  · subst c
    have z := hk'.ne h2
    omega
  · cases k with
    | zero =>
      rw [Nat.pow_zero, Nat.div_one, Nat.div_one] at same
      omega
    | succ j => exact hk'.2 j (by omega) same
/-! ### the law's own wheel: lists built at two ends -/
def insM (w : Bool) (m : Tm) (l : List Tm) : List Tm := if w then m :: l else l ++ [m]
def deq (f : Tm → Bool) (l : List Tm) : List Tm := (l.filter f).reverse ++ l.filter fun m => !f m
theorem deq_snoc (f : Tm → Bool) (l : List Tm) (m : Tm) : deq f (l ++ [m]) = insM (f m) m (deq f l) := by
  unfold deq insM
  rw [List.filter_append, List.filter_append]
  cases h : f m with
  | true => simp [h]
  | false => simp [h]
theorem deq_filter (f p : Tm → Bool) (l : List Tm) : (deq f l).filter p = deq f (l.filter p) := by
  unfold deq
  rw [List.filter_append, List.filter_reverse, List.filter_filter, List.filter_filter, List.filter_filter, List.filter_filter]
  have e : ∀ q : Tm → Bool, (fun m => p m && q m) = fun m => q m && p m := fun q => funext fun m => Bool.and_comm _ _
  rw [e, e]
theorem deq_false (l : List Tm) : deq (fun _ => false) l = l := by
  show (l.filter fun _ => false).reverse ++ l.filter (fun _ => true) = l
  rw [List.filter_eq_nil_iff.mpr (fun _ _ => Bool.false_ne_true), List.filter_eq_self.mpr (fun _ _ => rfl)]
  rfl
theorem deq_true (l : List Tm) : deq (fun _ => true) l = l.reverse := by
  show (l.filter fun _ => true).reverse ++ l.filter (fun _ => false) = _
  rw [List.filter_eq_nil_iff.mpr (fun _ _ => Bool.false_ne_true), List.filter_eq_self.mpr (fun _ _ => rfl), List.append_nil]
theorem deq_congr {f g : Tm → Bool} {l : List Tm} (h : ∀ m ∈ l, f m = g m) : deq f l = deq g l := by
  unfold deq
  rw [List.filter_congr h, List.filter_congr (p := fun m => !f m) (q := fun m => !g m) fun m hm => by rw [h m hm]]
theorem deq_deq (w : Bool) (f : Tm → Bool) (l : List Tm) : deq (fun _ => w) (deq f l) = deq (fun m => Bool.xor (f m) w) l := by
  cases w with
  | false =>
    rw [deq_false]
    exact deq_congr fun m _ => (Bool.xor_false _).symm
  | true =>
    rw [deq_true]
    unfold deq
    rw [List.reverse_append, List.reverse_reverse]
    have e1 : l.filter (fun m => Bool.xor (f m) true) = l.filter fun m => !f m := List.filter_congr fun m _ => Bool.xor_true _
    have e2 : l.filter (fun m => !Bool.xor (f m) true) = l.filter f := List.filter_congr fun m _ => by rw [Bool.xor_true, Bool.not_not]
    rw [e1, e2]
theorem mem_deq {f : Tm → Bool} {l : List Tm} {m : Tm} : m ∈ deq f l ↔ m ∈ l := by
  unfold deq
  rw [List.mem_append, List.mem_reverse, List.mem_filter, List.mem_filter]
  cases h : f m <;> simp
theorem deq_perm (f : Tm → Bool) (l : List Tm) : (deq f l).Perm l := by
  unfold deq
  exact ((List.reverse_perm _).append_right _).trans (List.filter_append_perm f l)
theorem deq_len (f : Tm → Bool) (l : List Tm) : (deq f l).length = l.length := (deq_perm f l).length_eq
theorem ins_len (w : Bool) (m : Tm) (l : List Tm) : (insM w m l).length = l.length + 1 := by
  unfold insM
  split
  · rfl
  · rw [List.length_append]
    rfl
theorem ins_fold (w : Bool) (l : List Tm) : l.foldl (fun a m => insM w m a) [] = deq (fun _ => w) l := by
  suffices H : ∀ (r : List Tm), l.foldl (fun a m => insM w m a) (deq (fun _ => w) r) = deq (fun _ => w) (r ++ l) by
    have z := H []
    rw [List.nil_append] at z
    exact z
  induction l with
  | nil =>
    intro r
    rw [List.append_nil]
    rfl
  | cons m l ih =>
    intro r
    rw [List.foldl_cons, ← deq_snoc (fun _ => w), ih, List.append_assoc]
    rfl
theorem ins_deq (f : Tm → Bool) (w : Bool) (l : List Tm) (h : ∀ m ∈ l, f m = w) : ∀ r : List Tm, l.foldl (fun a m => insM w m a) (deq f r) = deq f (r ++ l) := by
  induction l with
  | nil =>
    intro r
    rw [List.append_nil]
    rfl
  | cons m l ih =>
    intro r
    rw [List.foldl_cons, ← h m (List.mem_cons_self ..), ← deq_snoc, h m (List.mem_cons_self ..), ih fun x hx => h x (List.mem_cons_of_mem _ hx)]
    rw [List.append_assoc]
    rfl
/-! ### sides, digit by digit -/
def cntS (ws : List Bool) (b d lo k : Nat) : Nat := (tailOf b d k).countP fun r => decide (lo ≤ r.1) && wordAt ws r.1
theorem cntS_succ (ws : List Bool) (b d lo k : Nat) : cntS ws b d lo (k + 1) = cntS ws b d lo k + if d / b ^ k % b ≠ 0 ∧ lo ≤ k ∧ wordAt ws k = true then 1 else 0 := by
  unfold cntS
  show (if d / b ^ k % b ≠ 0 then (k, d / b ^ k % b, d / b ^ (k + 1) * b ^ (k + 1)) :: tailOf b d k else tailOf b d k).countP _ = _
  by_cases h : d / b ^ k % b ≠ 0
  · rw [if_pos h, List.countP_cons]
    congr 1
    by_cases h1 : lo ≤ k
    · cases h2 : wordAt ws k with
      | true => rw [if_pos (by simp [h1, h2]), if_pos ⟨h, h1, rfl⟩]
      | false => rw [if_neg (by simp [h2]), if_neg (fun z => by cases z.2.2)]
    · rw [if_neg (by simp [h1]), if_neg (fun z => h1 z.2.1)]
  · rw [if_neg h, if_neg fun z => h z.1, Nat.add_zero]
theorem cntS_high {ws : List Bool} {b d lo : Nat} : ∀ k, k ≤ lo → cntS ws b d lo k = 0
  | 0, _ => rfl
  | k + 1, h => by
    rw [cntS_succ, cntS_high k (by omega), if_neg (fun z => by omega)]
theorem cntS_skip {ws : List Bool} {b d lo lo' : Nat} (h : lo ≤ lo') (h0 : ∀ i, lo ≤ i → i < lo' → d / b ^ i % b = 0) : ∀ k, cntS ws b d lo k = cntS ws b d lo' k
  | 0 => rfl
  | k + 1 => by
    rw [cntS_succ, cntS_succ, cntS_skip h h0 k]
    congr 1
    by_cases c : lo' ≤ k
    · by_cases e : d / b ^ k % b ≠ 0 ∧ wordAt ws k = true
      · rw [if_pos ⟨e.1, by omega, e.2⟩, if_pos ⟨e.1, c, e.2⟩]
      · rw [if_neg fun z => e ⟨z.1, z.2.2⟩, if_neg fun z => e ⟨z.1, z.2.2⟩]
    · rw [if_neg (c := d / b ^ k % b ≠ 0 ∧ lo' ≤ k ∧ wordAt ws k = true) fun z => c z.2.1]
      refine if_neg fun z => z.1 (h0 k z.2.1 (by omega))
theorem cntS_one {ws : List Bool} {b d lo : Nat} (h : d / b ^ lo % b ≠ 0) : ∀ k, lo < k → cntS ws b d lo k = cntS ws b d (lo + 1) k + if wordAt ws lo = true then 1 else 0
  | 0, hk => absurd hk (Nat.not_lt_zero _)
  | k + 1, hk => by
    rw [cntS_succ, cntS_succ]
    by_cases e : k = lo
    · subst e
      rw [cntS_high k (Nat.le_refl _), cntS_high k (Nat.le_succ _), if_neg (c := d / b ^ k % b ≠ 0 ∧ k + 1 ≤ k ∧ wordAt ws k = true) fun z => by omega]
      by_cases c : wordAt ws k = true
      · rw [if_pos ⟨h, Nat.le_refl _, c⟩, if_pos c]
      · rw [if_neg fun z => c z.2.2, if_neg c]
    · rw [cntS_one h k (by omega)]
      have e2 : (if d / b ^ k % b ≠ 0 ∧ lo ≤ k ∧ wordAt ws k = true then 1 else 0) = if d / b ^ k % b ≠ 0 ∧ lo + 1 ≤ k ∧ wordAt ws k = true then 1 else 0 := by
        by_cases c : d / b ^ k % b ≠ 0 ∧ wordAt ws k = true
        · rw [if_pos ⟨c.1, by omega, c.2⟩, if_pos ⟨c.1, by omega, c.2⟩]
        · rw [if_neg fun z => c ⟨z.1, z.2.2⟩, if_neg fun z => c ⟨z.1, z.2.2⟩]
      rw [e2]
      omega
theorem front_cntS (ws : List Bool) (b n d lo k : Nat) (h : lo ≤ k) : frontOf ws lo (rowsOf b n d k) = decide ((cntS ws b d lo k + if wordAt ws k = true then 1 else 0) % 2 = 1) := by
  unfold frontOf rowsOf cntS
  rw [List.countP_cons]
  cases h2 : wordAt ws k with
  | true => rw [if_pos (by simp [h, h2])]; rfl
  | false => rw [if_neg (by simp [h2])]; rfl
theorem side_cnt {b : Nat} {ws : List Bool} {n d lo : Nat} (hb : 2 ≤ b) (h : n < d) (hl : lo ≤ levT b n d) : sideT b ws n d lo = decide ((cntS ws b d lo (levT b n d) + if wordAt ws (levT b n d) = true then 1 else 0) % 2 = 1) := by
  rw [sideT_eq (levT_is hb h)]
  exact front_cntS ws b n d lo _ hl
theorem odd_add (c : Nat) (w : Bool) : decide ((c + if w = true then 1 else 0) % 2 = 1) = Bool.xor (decide (c % 2 = 1)) w := by
  cases w with
  | false =>
    rw [if_neg (by decide), Bool.xor_false]
    rfl
  | true =>
    rw [if_pos rfl, Bool.xor_true]
    exact odd_succ c
theorem side_new {b : Nat} {ws : List Bool} {n d : Nat} (hb : 2 ≤ b) (h : n < d) : sideT b ws n d (levT b n d) = wordAt ws (levT b n d) := by
  rw [side_cnt hb h (Nat.le_refl _), cntS_high _ (Nat.le_refl _), odd_add]
  cases wordAt ws (levT b n d) <;> rfl
theorem lev_mono {b s n d : Nat} (hb : 2 ≤ b) (h : n < d) (hs : s ≤ n) : levT b n d ≤ levT b s d := by
  have k1 := levT_is hb h
  have k2 := levT_is hb (Nat.lt_of_le_of_lt hs h)
  generalize levT b n d = k at k1 ⊢
  generalize levT b s d = k0 at k2 ⊢
  refine Nat.le_of_not_lt fun c => k1.2 k0 c ?_
  have a1 : s / b ^ (k0 + 1) ≤ n / b ^ (k0 + 1) := Nat.div_le_div_right hs
  have a2 : n / b ^ (k0 + 1) ≤ d / b ^ (k0 + 1) := Nat.div_le_div_right (Nat.le_of_lt h)
  have a3 := k2.1
  omega
/-- the digits of a multiple -/
theorem dig_mul {b q h i : Nat} (hb : 2 ≤ b) (hi : i < h) : q * b ^ h / b ^ i % b = 0 := by
  have e : b ^ h = b ^ (h - i - 1) * b * b ^ i := by
    rw [← Nat.pow_succ, ← Nat.pow_add]
    congr 1
    omega
  rw [e, ← Nat.mul_assoc, Nat.mul_div_cancel _ (pow_pos' hb i), ← Nat.mul_assoc, Nat.mul_mod_left]
/-- where a timer goes on, its side turns with the word there -/
theorem side_drop {b : Nat} {ws : List Bool} {s n d : Nat} (hb : 2 ≤ b) (h : n < d) (hs : s ≤ n) (he : evT b n d < d) :
    sideT b ws s d (levT b (evT b n d) d) = Bool.xor (sideT b ws s d (levT b n d)) (wordAt ws (levT b (evT b n d) d)) := by
  have hm := lev_mono hb h hs
  have hd := lev_drops hb h he
  have hk := levT_is hb h
  have hj := levT_is hb he
  have ee := evT_is hb h
  have hsd := Nat.lt_of_le_of_lt hs h
  have hdj : d / b ^ levT b (evT b n d) d % b ≠ 0 := by
    have := hj.digit he
    omega
  rw [side_cnt hb hsd (by omega), side_cnt hb hsd hm, cntS_one hdj _ (by omega)]
  have e2 : cntS ws b d (levT b (evT b n d) d + 1) (levT b s d) = cntS ws b d (levT b n d) (levT b s d) := by
    refine cntS_skip (by omega) (fun i h1 h2 => ?_) _
    have a1 : evT b n d / b ^ (levT b (evT b n d) d + 1) = d / b ^ (levT b (evT b n d) d + 1) := hj.1
    have a2 : evT b n d / b ^ i = d / b ^ i := by
      have e3 : i = (levT b (evT b n d) d + 1) + (i - (levT b (evT b n d) d + 1)) := by omega
      rw [e3, Nat.pow_add, ← Nat.div_div_eq_div_mul, ← Nat.div_div_eq_div_mul, a1]
    rw [← a2, ee]
    exact dig_mul hb h2
  rw [e2, Nat.add_right_comm, odd_add]
/-- where it fires, the side is the one at the last list -/
theorem side_last {b : Nat} {ws : List Bool} {s n d : Nat} (hb : 2 ≤ b) (h : n < d) (hs : s ≤ n) (he : evT b n d = d) : sideT b ws s d (levT b n d) = sideT b ws s d 0 := by
  have hm := lev_mono hb h hs
  have hsd := Nat.lt_of_le_of_lt hs h
  rw [side_cnt hb hsd hm, side_cnt hb hsd (Nat.zero_le _)]
  rw [cntS_skip (lo := 0) (lo' := levT b n d) (Nat.zero_le _) (fun i _ h2 => ?_) _]
  have ee := evT_is hb h
  rw [he] at ee
  rw [ee]
  have e4 : levT b n (d / b ^ levT b n d * b ^ levT b n d) = levT b n d := by rw [← ee]
  exact dig_mul hb h2
/-! ### the law's own wheel: cells -/
abbrev LCell := (Nat × Nat) × List Tm
def gv : List LCell → Nat × Nat → List Tm
  | [], _ => []
  | c :: cs, p => if c.1 = p then c.2 else gv cs p
def lput (cs : List LCell) (p : Nat × Nat) (l : List Tm) : List LCell := if p ∈ cs.map (·.1) then cs.map (fun c => if c.1 = p then (c.1, l) else c) else cs ++ [(p, l)]
def ldrop (cs : List LCell) (p : Nat × Nat) : List LCell := cs.filter fun c => decide (c.1 ≠ p)
theorem gv_none {p : Nat × Nat} : ∀ {cs : List LCell}, p ∉ cs.map (·.1) → gv cs p = []
  | [], _ => rfl
  | c :: cs, h => by
    rw [List.map_cons, List.mem_cons, not_or] at h
    show (if c.1 = p then c.2 else gv cs p) = []
    rw [if_neg fun z => h.1 z.symm]
    exact gv_none h.2
theorem gv_map {p q : Nat × Nat} {l : List Tm} : ∀ cs : List LCell, p ∈ cs.map (·.1) → gv (cs.map fun c => if c.1 = p then (c.1, l) else c) q = if p = q then l else gv cs q
  | [], h => by cases h
  | c :: cs, h => by
    rw [List.map_cons]
    by_cases e : c.1 = p
    · rw [if_pos e]
      by_cases e2 : p = q
      · rw [if_pos e2]
        show (if c.1 = q then l else _) = l
        rw [if_pos (e.trans e2)]
      · rw [if_neg e2]
        show (if c.1 = q then l else gv _ q) = if c.1 = q then c.2 else gv cs q
        rw [if_neg fun z => e2 (e.symm.trans z), if_neg fun z => e2 (e.symm.trans z)]
        by_cases hm : p ∈ cs.map (·.1)
        · rw [gv_map cs hm, if_neg e2]
        · have e3 : (cs.map fun c => if c.1 = p then (c.1, l) else c) = cs := by
            have z : ∀ c ∈ cs, (if c.1 = p then (c.1, l) else c) = c := fun c hc => if_neg fun y => hm (List.mem_map.mpr ⟨c, hc, y⟩)
            rw [List.map_congr_left (g := id) z, List.map_id]
          rw [e3]
    · rw [if_neg e]
      rw [List.map_cons, List.mem_cons] at h
      have hm := h.resolve_left fun z => e z.symm
      show (if c.1 = q then c.2 else gv _ q) = if p = q then l else (if c.1 = q then c.2 else gv cs q)
      rw [gv_map cs hm]
      by_cases e2 : c.1 = q
      · rw [if_pos e2, if_neg fun z => e (e2.trans z.symm), if_pos e2]
      · rw [if_neg e2, if_neg e2]
theorem gv_snoc {p q : Nat × Nat} {l : List Tm} : ∀ cs : List LCell, p ∉ cs.map (·.1) → gv (cs ++ [(p, l)]) q = if p = q then l else gv cs q
  | [], _ => rfl
  | c :: cs, h => by
    rw [List.map_cons, List.mem_cons, not_or] at h
    show (if c.1 = q then c.2 else gv (cs ++ [(p, l)]) q) = if p = q then l else (if c.1 = q then c.2 else gv cs q)
    rw [gv_snoc cs h.2]
    by_cases e : p = q
    · rw [if_pos e, if_pos e, if_neg fun z => h.1 (e.trans z.symm)]
    · rw [if_neg e, if_neg e]
theorem gv_put {cs : List LCell} {p q : Nat × Nat} {l : List Tm} : gv (lput cs p l) q = if p = q then l else gv cs q := by
  unfold lput
  split
  · rename_i h
    exact gv_map cs h
  · rename_i h
    exact gv_snoc cs h
theorem gv_drop {p q : Nat × Nat} : ∀ cs : List LCell, gv (ldrop cs p) q = if p = q then [] else gv cs q
  | [] => by
    show [] = if p = q then [] else []
    split <;> rfl
  | c :: cs => by
    have ih := gv_drop (p := p) (q := q) cs
    by_cases e : c.1 = p
    · have z : ldrop (c :: cs) p = ldrop cs p := List.filter_cons_of_neg (by simp [e])
      rw [z, ih]
      by_cases e2 : p = q
      · rw [if_pos e2, if_pos e2]
      · rw [if_neg e2, if_neg e2]
        show _ = if c.1 = q then c.2 else gv cs q
        rw [if_neg fun z => e2 (e.symm.trans z)]
    · have z : ldrop (c :: cs) p = c :: ldrop cs p := List.filter_cons_of_pos (by simp [e])
      rw [z]
      show (if c.1 = q then c.2 else gv (ldrop cs p) q) = if p = q then [] else (if c.1 = q then c.2 else gv cs q)
      rw [ih]
      by_cases e2 : p = q
      · rw [if_pos e2, if_pos e2, if_neg fun z => e (z.trans e2.symm)]
      · rw [if_neg e2, if_neg e2]
theorem lput_keys {cs : List LCell} {p : Nat × Nat} {l : List Tm} (nd : (cs.map (·.1)).Nodup) : ((lput cs p l).map (·.1)).Nodup := by
  unfold lput
  split
  · rw [List.map_map]
    have e : cs.map ((fun c : LCell => c.1) ∘ fun c => if c.1 = p then (c.1, l) else c) = cs.map (·.1) := List.map_congr_left fun c _ => by
      show (if c.1 = p then (c.1, l) else c).1 = c.1
      split <;> rfl
    rw [e]
    exact nd
  · rename_i h
    rw [List.map_append]
    exact L2.nd_snoc nd h
theorem lput_len (cs : List LCell) (p : Nat × Nat) (l : List Tm) : (lput cs p l).length ≤ cs.length + 1 := by
  unfold lput
  split
  · rw [List.length_map]
    omega
  · rw [List.length_append]
    exact Nat.le_refl _
theorem ldrop_keys {cs : List LCell} {p : Nat × Nat} (nd : (cs.map (·.1)).Nodup) : ((ldrop cs p).map (·.1)).Nodup := List.Nodup.sublist (List.Sublist.map _ List.filter_sublist) nd
theorem ldrop_len (cs : List LCell) (p : Nat × Nat) : (ldrop cs p).length ≤ cs.length := List.length_filter_le _ _
theorem gv_mem {cs : List LCell} (nd : (cs.map (·.1)).Nodup) {c : LCell} (h : c ∈ cs) : gv cs c.1 = c.2 := by
  induction cs with
  | nil => cases h
  | cons x cs ih =>
    rw [List.map_cons, List.nodup_cons] at nd
    show (if x.1 = c.1 then x.2 else gv cs c.1) = c.2
    rcases List.mem_cons.mp h with e | h
    · rw [e, if_pos rfl]
    · rw [if_neg fun z => nd.1 (List.mem_map.mpr ⟨c, h, z.symm⟩)]
      exact ih nd.2 h
/-- what the law's wheel does with one timer, and with all of a list -/
noncomputable def lplace (b : Nat) (ws : List Bool) (t : Nat) (cs : List LCell) (m : Tm) : List LCell := lput cs (placeT b t m.due) (insM (wordAt ws (placeT b t m.due).1) m (gv cs (placeT b t m.due)))
theorem gv_place {b : Nat} {ws : List Bool} {t : Nat} {cs : List LCell} {m : Tm} {p : Nat × Nat} : gv (lplace b ws t cs m) p = if placeT b t m.due = p then insM (wordAt ws p.1) m (gv cs p) else gv cs p := by
  unfold lplace
  rw [gv_put]
  split
  · rename_i e
    rw [e]
  · rfl
theorem gv_places {b : Nat} {ws : List Bool} {t : Nat} {p : Nat × Nat} : ∀ (l : List Tm) (cs : List LCell), gv (l.foldl (lplace b ws t) cs) p = (l.filter fun m => decide (placeT b t m.due = p)).foldl (fun a m => insM (wordAt ws p.1) m a) (gv cs p)
  | [], _ => rfl
  | m :: l, cs => by
    rw [List.foldl_cons, gv_places l, gv_place]
    by_cases e : placeT b t m.due = p
    · rw [if_pos e, List.filter_cons_of_pos (by simpa using e), List.foldl_cons]
    · rw [if_neg e, List.filter_cons_of_neg (by simpa using e)]
/-- the list p at the tick t, of the timers ms in the order in which they were set -/
noncomputable def stM (b : Nat) (ws : List Bool) (t : Nat) (ms : List Tm) (p : Nat × Nat) : List Tm := deq (fun m => sideT b ws m.since m.due p.1) (ms.filter fun m => decide (placeT b t m.due = p))
def againM (t : Nat) (m : Tm) : Option Tm := m.per.map fun k => ⟨m.num, t + k, some k, t⟩
structure IsZer (b e h : Nat) : Prop where
  low : e % b ^ h = 0
  dig : e / b ^ h % b ≠ 0
theorem zer_uniq {b e h h' : Nat} (z : IsZer b e h) (z' : IsZer b e h') : h = h' := by
  have main : ∀ {i j : Nat}, IsZer b e i → IsZer b e j → ¬ i < j := fun {i j} zi zj c => by
    refine zi.dig ?_
    have e1 : b ^ j = b ^ i * (b * b ^ (j - i - 1)) := by
      rw [← Nat.mul_assoc, ← Nat.pow_succ, ← Nat.pow_add]
      congr 1
      omega
    have e2 : b ^ j ∣ e := Nat.dvd_of_mod_eq_zero zj.low
    rw [e1] at e2
    obtain ⟨q, hq⟩ := e2
    have hp : 0 < b ^ i := by
      rcases Nat.eq_zero_or_pos (b ^ i) with c0 | c0
      · exfalso
        rw [c0, Nat.zero_mul, Nat.zero_mul] at hq
        refine zi.dig ?_
        rw [hq, Nat.zero_div, Nat.zero_mod]
      · exact c0
    rw [hq, Nat.mul_assoc, Nat.mul_div_cancel_left _ hp, Nat.mul_assoc, Nat.mul_mod_right]
  have a1 := main z z'
  have a2 := main z' z
  omega
/-- the key of the list that is emptied at e -/
def keyE (b e h : Nat) : Nat × Nat := (h, e / b ^ h % b)
noncomputable def lpass (b : Nat) (ws : List Bool) (e h : Nat) (cs : List LCell) : List LCell :=
  ((((gv cs (keyE b e h)).filter fun m => decide (m.due = e)).filterMap (againM e))).foldl (lplace b ws e) (((gv cs (keyE b e h)).filter fun m => decide (m.due ≠ e)).foldl (lplace b ws e) (ldrop cs (keyE b e h)))
section
variable {b e h n d : Nat}
theorem ev_key (hb : 2 ≤ b) (z : IsZer b e h) (hnd : n < d) (he : evT b n d = e) : placeT b n d = keyE b e h := by
  have hk := levT_is hb hnd
  have ee := evT_is hb hnd
  rw [he] at ee
  have hp := pow_pos' hb (levT b n d)
  have e1 : e / b ^ levT b n d = d / b ^ levT b n d := by
    rw [ee, Nat.mul_div_cancel _ hp]
  have dg := hk.digit hnd
  have z2 : IsZer b e (levT b n d) := ⟨by rw [ee]; exact Nat.mul_mod_left _ _, by rw [e1]; omega⟩
  unfold placeT keyE
  rw [zer_uniq z z2, e1]
theorem key_ev (hb : 2 ≤ b) (z : e % b ^ h = 0) (hnd : n < d) (hne : n < e) (hle : e ≤ evT b n d) (hk : placeT b n d = keyE b e h) : evT b n d = e := by
  have k1 : levT b n d = h := congrArg Prod.fst hk
  have k2 : d / b ^ levT b n d % b = e / b ^ h % b := congrArg Prod.snd hk
  have hl := levT_is hb hnd
  have ee := evT_is hb hnd
  have hed := Nat.le_trans hle (evT_le hb hnd)
  rw [k1] at k2 hl ee
  have a1 : n / b ^ (h + 1) ≤ e / b ^ (h + 1) := Nat.div_le_div_right (Nat.le_of_lt hne)
  have a2 : e / b ^ (h + 1) ≤ d / b ^ (h + 1) := Nat.div_le_div_right hed
  have a3 := hl.1
  have a4 : e / b ^ h / b = d / b ^ h / b := by
    rw [← div_succ, ← div_succ]
    omega
  have a5 := Nat.div_add_mod (e / b ^ h) b
  have a6 := Nat.div_add_mod (d / b ^ h) b
  have a7 : e / b ^ h = d / b ^ h := by
    rw [a4] at a5
    omega
  rw [ee, ← a7]
  exact Nat.div_mul_cancel (Nat.dvd_of_mod_eq_zero z)
theorem low_none (hb : 2 ≤ b) (z : e % b ^ h = 0) (hnd : n < d) (hne : n < e) (hle : e < evT b n d) : h ≤ levT b n d := by
  refine Nat.le_of_not_lt fun c => ?_
  obtain ⟨s1, s2⟩ := lev_stays hb hnd (Nat.le_of_lt hne) hle
  have k1 := levT_is hb hnd
  have k2 := levT_is hb s1
  rw [s2] at k2
  generalize levT b n d = j at c k1 k2
  have a1 : n / b ^ (j + 1) = e / b ^ (j + 1) := k1.1.trans k2.1.symm
  have hp := pow_pos' hb (j + 1)
  have dv : b ^ (j + 1) ∣ e := Nat.dvd_trans (Nat.pow_dvd_pow b (by omega)) (Nat.dvd_of_mod_eq_zero z)
  have a2 : e / b ^ (j + 1) * b ^ (j + 1) = e := Nat.div_mul_cancel dv
  have a3 : n / b ^ (j + 1) < e / b ^ (j + 1) := (Nat.div_lt_iff_lt_mul hp).mpr (by rw [a2]; exact hne)
  omega
theorem not_key (hb : 2 ≤ b) (hed : e < d) : placeT b e d ≠ keyE b e h := fun hk => by
  have k1 : levT b e d = h := congrArg Prod.fst hk
  have k2 : d / b ^ levT b e d % b = e / b ^ h % b := congrArg Prod.snd hk
  have dg := (levT_is hb hed).digit hed
  rw [k1] at k2 dg
  omega
end
/-- one tick at which a list may be emptied: the lists behind, and what fires -/
theorem lw_pass {b : Nat} {ws : List Bool} {t e h : Nat} {ms : List Tm} {cs : List LCell} (hb : 2 ≤ b) (z : IsZer b e h) (hte : t < e) (hms : ∀ m ∈ ms, m.since ≤ t ∧ t < m.due ∧ e ≤ evT b t m.due) (hcs : ∀ p, gv cs p = stM b ws t ms p) :
    (gv cs (keyE b e h)).filter (fun m => decide (m.due = e)) = deq (fun m => sideT b ws m.since m.due 0) (ms.filter fun m => decide (m.due = e)) ∧
    ∀ p, (∀ m ∈ ms, ∀ k, m.per = some k → 1 ≤ k) → gv (lpass b ws e h cs) p = stM b ws e (ms.filter (fun m => decide (m.due ≠ e)) ++ (deq (fun m => sideT b ws m.since m.due 0) (ms.filter fun m => decide (m.due = e))).filterMap (againM e)) p := by
  have ev : ∀ m ∈ ms, m.due = e → evT b t m.due = e := fun m hm hd => Nat.le_antisymm (by rw [← hd] at *; exact evT_le hb (hms m hm).2.1) (hms m hm).2.2
  -- who stands in the list that is emptied
  have hkey : ∀ m ∈ ms, placeT b t m.due = keyE b e h ↔ evT b t m.due = e := fun m hm => ⟨key_ev hb z.low (hms m hm).2.1 hte (hms m hm).2.2, ev_key hb z (hms m hm).2.1⟩
  have hF : (gv cs (keyE b e h)).filter (fun m => decide (m.due = e)) = deq (fun m => sideT b ws m.since m.due 0) (ms.filter fun m => decide (m.due = e)) := by
    rw [hcs]
    unfold stM
    rw [deq_filter, List.filter_filter]
    have e1 : ms.filter (fun m => decide (m.due = e) && decide (placeT b t m.due = keyE b e h)) = ms.filter fun m => decide (m.due = e) := List.filter_congr fun m hm => by
      by_cases c : m.due = e
      · rw [decide_eq_true c, decide_eq_true ((hkey m hm).mpr (ev m hm c))]
        rfl
      · rw [decide_eq_false c]
        rfl
    rw [e1]
    refine deq_congr fun m hm => ?_
    obtain ⟨hm, hd⟩ := List.mem_filter.mp hm
    have hd : m.due = e := of_decide_eq_true hd
    have hev := ev m hm hd
    have hk := (hkey m hm).mpr hev
    have k1 : levT b t m.due = h := congrArg Prod.fst hk
    show sideT b ws m.since m.due h = _
    rw [← k1]
    exact side_last hb (hms m hm).2.1 (hms m hm).1 (hev.trans hd.symm)
  refine ⟨hF, fun p hper => ?_⟩
  unfold lpass
  rw [gv_places, gv_places, gv_drop, hF]
  -- the timers that go on
  have hA : ((((gv cs (keyE b e h)).filter fun m => decide (m.due ≠ e)).filter fun m => decide (placeT b e m.due = p)).foldl (fun a m => insM (wordAt ws p.1) m a) (if keyE b e h = p then [] else gv cs p))
      = deq (fun m => sideT b ws m.since m.due p.1) ((ms.filter fun m => decide (m.due ≠ e)).filter fun m => decide (placeT b e m.due = p)) := by
    have hL : ((gv cs (keyE b e h)).filter fun m => decide (m.due ≠ e)).filter (fun m => decide (placeT b e m.due = p)) = deq (fun m => sideT b ws m.since m.due h) (ms.filter fun m => decide (placeT b t m.due = keyE b e h) && decide (m.due ≠ e) && decide (placeT b e m.due = p)) := by
      rw [hcs]
      unfold stM
      rw [deq_filter, deq_filter, List.filter_filter, List.filter_filter]
      congr 1
      exact List.filter_congr fun m _ => by
        cases decide (placeT b t m.due = keyE b e h) <;> cases decide (m.due ≠ e) <;> cases decide (placeT b e m.due = p) <;> rfl
    have lt_due : ∀ m ∈ ms, m.due ≠ e → e < m.due := fun m hm hd => by
      have := Nat.le_trans (hms m hm).2.2 (evT_le hb (hms m hm).2.1)
      omega
    have drops : ∀ m ∈ ms, m.due ≠ e → evT b t m.due = e → levT b e m.due < h := fun m hm hd hev => by
      have z1 := lev_drops hb (hms m hm).2.1 (by rw [hev]; exact lt_due m hm hd)
      have k1 : levT b t m.due = h := congrArg Prod.fst ((hkey m hm).mpr hev)
      rw [hev, k1] at z1
      exact z1
    have stays : ∀ m ∈ ms, evT b t m.due ≠ e → placeT b e m.due = placeT b t m.due ∧ h ≤ levT b t m.due := fun m hm hev => by
      have hlt : e < evT b t m.due := by
        have := (hms m hm).2.2
        omega
      refine ⟨?_, low_none hb z.low (hms m hm).2.1 hte hlt⟩
      unfold placeT
      rw [(lev_stays hb (hms m hm).2.1 (Nat.le_of_lt hte) hlt).2]
    rw [hL, List.filter_filter]
    by_cases c1 : keyE b e h = p
    · rw [if_pos c1]
      have n1 : ms.filter (fun m => decide (placeT b t m.due = keyE b e h) && decide (m.due ≠ e) && decide (placeT b e m.due = p)) = [] := List.filter_eq_nil_iff.mpr fun m hm x => by
        simp only [Bool.and_eq_true, decide_eq_true_eq] at x
        exact not_key hb (lt_due m hm x.1.2) (x.2.trans c1.symm)
      have n2 : ms.filter (fun m => decide (placeT b e m.due = p) && decide (m.due ≠ e)) = [] := List.filter_eq_nil_iff.mpr fun m hm x => by
        simp only [Bool.and_eq_true, decide_eq_true_eq] at x
        exact not_key hb (lt_due m hm x.2) (x.1.trans c1.symm)
      rw [n1, n2]
      rfl
    · rw [if_neg c1, hcs]
      by_cases c2 : p.1 < h
      · -- a lower list: it was empty, and takes what comes down
        have n1 : ms.filter (fun m => decide (placeT b t m.due = p)) = [] := List.filter_eq_nil_iff.mpr fun m hm x => by
          have x : placeT b t m.due = p := of_decide_eq_true x
          by_cases c3 : evT b t m.due = e
          · exact c1 (((hkey m hm).mpr c3).symm.trans x)
          · have y := (stays m hm c3).2
            have y2 : levT b t m.due = p.1 := congrArg Prod.fst x
            omega
        have n2 : stM b ws t ms p = [] := by
          unfold stM
          rw [n1]
          rfl
        rw [n2, ins_fold, deq_deq]
        have e1 : ms.filter (fun m => decide (placeT b t m.due = keyE b e h) && decide (m.due ≠ e) && decide (placeT b e m.due = p)) = ms.filter (fun m => decide (placeT b e m.due = p) && decide (m.due ≠ e)) := List.filter_congr fun m hm => by
          by_cases c4 : m.due ≠ e ∧ placeT b e m.due = p
          · have c3 : evT b t m.due = e := Classical.byContradiction fun no => by
              obtain ⟨y1, y2⟩ := stays m hm no
              have y3 : levT b e m.due = p.1 := congrArg Prod.fst c4.2
              have y4 : levT b e m.due = levT b t m.due := congrArg Prod.fst y1
              omega
            rw [decide_eq_true ((hkey m hm).mpr c3), decide_eq_true c4.1, decide_eq_true c4.2]
            rfl
          · by_cases c5 : m.due ≠ e
            · rw [decide_eq_false (fun x => c4 ⟨c5, x⟩), Bool.and_false, Bool.false_and]
            · rw [decide_eq_false c5, Bool.and_false, Bool.false_and, Bool.and_false]
        rw [e1]
        refine deq_congr fun m hm => ?_
        obtain ⟨hm, x⟩ := List.mem_filter.mp hm
        simp only [Bool.and_eq_true, decide_eq_true_eq] at x
        have c3 : evT b t m.due = e := Classical.byContradiction fun no => by
          obtain ⟨y1, y2⟩ := stays m hm no
          have y3 : levT b e m.due = p.1 := congrArg Prod.fst x.1
          have y4 : levT b e m.due = levT b t m.due := congrArg Prod.fst y1
          omega
        have k1 : levT b t m.due = h := congrArg Prod.fst ((hkey m hm).mpr c3)
        have k2 : levT b e m.due = p.1 := congrArg Prod.fst x.1
        have sd := side_drop (ws := ws) hb (hms m hm).2.1 (hms m hm).1 (by rw [c3]; exact lt_due m hm x.2)
        rw [c3, k1, k2] at sd
        exact sd.symm
      · -- another list: it stays
        have n1 : ms.filter (fun m => decide (placeT b t m.due = keyE b e h) && decide (m.due ≠ e) && decide (placeT b e m.due = p)) = [] := List.filter_eq_nil_iff.mpr fun m hm x => by
          simp only [Bool.and_eq_true, decide_eq_true_eq] at x
          have y := drops m hm x.1.2 ((hkey m hm).mp x.1.1)
          have y3 : levT b e m.due = p.1 := congrArg Prod.fst x.2
          omega
        rw [n1]
        show stM b ws t ms p = _
        unfold stM
        congr 1
        refine List.filter_congr fun m hm => ?_
        by_cases c3 : evT b t m.due = e
        · have x1 : ¬ placeT b t m.due = p := fun x => c1 (((hkey m hm).mpr c3).symm.trans x)
          rw [decide_eq_false x1]
          by_cases c5 : m.due ≠ e
          · have x2 : ¬ placeT b e m.due = p := fun x => by
              have y := drops m hm c5 c3
              have y3 : levT b e m.due = p.1 := congrArg Prod.fst x
              omega
            rw [decide_eq_false x2, Bool.false_and]
          · rw [decide_eq_false c5, Bool.and_false]
        · have c5 : m.due ≠ e := fun x => c3 (ev m hm x)
          rw [decide_eq_true c5, (stays m hm c3).1, Bool.and_true]
  rw [hA]
  have hB : ∀ m ∈ ((deq (fun m => sideT b ws m.since m.due 0) (ms.filter fun m => decide (m.due = e))).filterMap (againM e)).filter (fun m => decide (placeT b e m.due = p)), sideT b ws m.since m.due p.1 = wordAt ws p.1 := fun m hm => by
    obtain ⟨hm, x⟩ := List.mem_filter.mp hm
    have x : placeT b e m.due = p := of_decide_eq_true x
    obtain ⟨m0, h0, h1⟩ := List.mem_filterMap.mp hm
    have h0' := (List.mem_filter.mp (mem_deq.mp h0)).1
    unfold againM at h1
    cases ep : m0.per with
    | none =>
      rw [ep] at h1
      cases h1
    | some k =>
      rw [ep] at h1
      have h2 := (Option.some.inj h1).symm
      have hk := hper m0 h0' k ep
      subst h2
      have k2 : levT b e (e + k) = p.1 := congrArg Prod.fst x
      show sideT b ws e (e + k) p.1 = wordAt ws p.1
      rw [← k2]
      exact side_new hb (Nat.lt_add_of_pos_right hk)
  rw [ins_deq _ _ _ hB]
  unfold stM
  rw [List.filter_append]
/-- the order of firing, the lists, what is live behind it: as the program has them -/
theorem order_deq (b : Nat) (ws : List Bool) (t : Nat) (ms : List Tm) : orderAt b ws t ms = (deq (fun m => sideT b ws m.since m.due 0) (ms.filter fun m => decide (m.due = t))).map (·.num) := by
  suffices H : ∀ n : Nat, orderAt b ws t (ms.take n) = (deq (fun m => sideT b ws m.since m.due 0) ((ms.take n).filter fun m => decide (m.due = t))).map (·.num) by
    have z := H ms.length
    rw [List.take_length] at z
    exact z
  intro n
  induction n with
  | zero => rfl
  | succ n ih =>
    cases e : ms[n]? with
    | none =>
      have hl : ms.length ≤ n := List.getElem?_eq_none_iff.mp e
      rw [List.take_of_length_le (by omega)]
      rw [List.take_of_length_le hl] at ih
      exact ih
    | some m =>
      rw [List.take_add_one, e, Option.toList_some, order_snoc, List.filter_append]
      by_cases h : m.due = t
      · have e1 : [m].filter (fun m => decide (m.due = t)) = [m] := List.filter_cons_of_pos (by simpa using h)
        rw [if_pos h, e1, deq_snoc, ih]
        unfold insT insM
        cases sideT b ws m.since m.due 0 with
        | true => rfl
        | false =>
          show _ ++ [m.num] = List.map _ (_ ++ [m])
          rw [List.map_append]
          rfl
      · have e1 : [m].filter (fun m => decide (m.due = t)) = [] := List.filter_cons_of_neg (by simpa using h)
        rw [if_neg h, e1, List.append_nil, ih]
theorem cell_st {b : Nat} {ws : List Bool} {t : Nat} {ms : List Tm} {p : Nat × Nat} (hd : ∀ m ∈ ms, t < m.due) : cellV (standD b ws t ms) p = (stM b ws t ms p).map (·.num) := by
  suffices H : ∀ n : Nat, cellV (standD b ws t (ms.take n)) p = (stM b ws t (ms.take n) p).map (·.num) by
    have z := H ms.length
    rw [List.take_length] at z
    exact z
  intro n
  induction n with
  | zero => rfl
  | succ n ih =>
    cases e : ms[n]? with
    | none =>
      have hl : ms.length ≤ n := List.getElem?_eq_none_iff.mp e
      rw [List.take_of_length_le (by omega)]
      rw [List.take_of_length_le hl] at ih
      exact ih
    | some m =>
      rw [List.take_add_one, e, Option.toList_some, stand_snoc]
      unfold standStep
      rw [if_pos (hd m (List.mem_of_getElem? e)), cellV_put]
      unfold stM at ih ⊢
      rw [List.filter_append]
      by_cases h : placeT b t m.due = p
      · have e1 : [m].filter (fun m => decide (placeT b t m.due = p)) = [m] := List.filter_cons_of_pos (by simpa using h)
        rw [if_pos h, e1, deq_snoc, h, ih]
        have e2 : levT b t m.due = p.1 := congrArg Prod.fst h
        rw [e2]
        unfold insT insM
        cases sideT b ws m.since m.due p.1 with
        | true => rfl
        | false =>
          show _ ++ [m.num] = List.map _ (_ ++ [m])
          rw [List.map_append]
          rfl
      · have e1 : [m].filter (fun m => decide (placeT b t m.due = p)) = [] := List.filter_cons_of_neg (by simpa using h)
        rw [if_neg h, e1, List.append_nil, ih]
theorem find_one {ms : List Tm} {m : Tm} (nd : (ms.map (·.num)).Nodup) (h : m ∈ ms) : ms.find? (fun x => decide (x.num = m.num)) = some m := by
  induction ms with
  | nil => cases h
  | cons x ms ih =>
    rw [List.map_cons, List.nodup_cons] at nd
    rw [List.find?_cons]
    rcases List.mem_cons.mp h with e | h
    · rw [← e, decide_eq_true rfl]
    · have n : ¬ x.num = m.num := fun z => nd.1 (List.mem_map.mpr ⟨m, h, z.symm⟩)
      rw [decide_eq_false n]
      exact ih nd.2 h
/-- a new timer, or an old one set anew, at the end -/
theorem nodup_end {ms : List Tm} {m : Tm} (nd : (ms.map (·.num)).Nodup) (h : ∀ x ∈ ms, x.num ≠ m.num) : ((ms ++ [m]).map (·.num)).Nodup := by
  rw [List.map_append]
  refine L2.nd_snoc nd fun hm => ?_
  obtain ⟨x, hx, e⟩ := List.mem_map.mp hm
  exact h x hx e
/-- firing a list of timers, one after the other -/
theorem after_list {t : Nat} : ∀ (F ms : List Tm), (ms.map (·.num)).Nodup → (F.map (·.num)).Nodup → (∀ m ∈ F, m ∈ ms) → afterF t ms (F.map (·.num)) = ms.filter (fun m => decide (m.num ∉ F.map (·.num))) ++ F.filterMap (againM t)
  | [], ms, _, _, _ => by
    show ms = ms.filter _ ++ []
    rw [List.append_nil, List.filter_eq_self.mpr fun m _ => by simp]
  | m :: F, ms, nd, ndF, hF => by
    rw [List.map_cons, List.nodup_cons] at ndF
    have hm := hF m (List.mem_cons_self ..)
    have key : fireT t ms m.num = dropT m.num ms ++ (againM t m).toList := by
      unfold fireT
      rw [find_one nd hm]
      show (match m.per with | none => dropT m.num ms | some k => dropT m.num ms ++ [(⟨m.num, t + k, some k, t⟩ : Tm)]) = _
      unfold againM
      cases m.per with
      | none =>
        show dropT m.num ms = dropT m.num ms ++ []
        rw [List.append_nil]
      | some k => rfl
    show afterF t (fireT t ms m.num) (F.map (·.num)) = _
    have nd1 : ((fireT t ms m.num).map (·.num)).Nodup := by
      rw [key]
      have nd0 : ((dropT m.num ms).map (·.num)).Nodup := List.Nodup.sublist (List.Sublist.map _ List.filter_sublist) nd
      cases ea : againM t m with
      | none => simpa using nd0
      | some m' =>
        have en : m'.num = m.num := by
          unfold againM at ea
          cases ep : m.per with
          | none =>
            rw [ep] at ea
            cases ea
          | some k =>
            rw [ep] at ea
            rw [← Option.some.inj ea]
        refine nodup_end nd0 fun x hx => ?_
        rw [en]
        simpa using (List.mem_filter.mp hx).2
    have mem1 : ∀ x ∈ F, x ∈ fireT t ms m.num := fun x hx => by
      rw [key]
      refine List.mem_append_left _ (List.mem_filter.mpr ⟨hF x (List.mem_cons_of_mem _ hx), ?_⟩)
      have n : ¬ x.num = m.num := fun z => ndF.1 (List.mem_map.mpr ⟨x, hx, z⟩)
      simpa using n
    rw [after_list F _ nd1 ndF.2 mem1, key, List.filter_append]
    have e1 : ((againM t m).toList).filter (fun x => decide (x.num ∉ F.map (·.num))) = (againM t m).toList := List.filter_eq_self.mpr fun x hx => by
      cases ea : againM t m with
      | none =>
        rw [ea] at hx
        cases hx
      | some m' =>
        rw [ea] at hx
        have en : m'.num = m.num := by
          unfold againM at ea
          cases ep : m.per with
          | none =>
            rw [ep] at ea
            cases ea
          | some k =>
            rw [ep] at ea
            rw [← Option.some.inj ea]
        have ex : x = m' := List.mem_singleton.mp hx
        rw [ex, en]
        exact decide_eq_true ndF.1
    rw [e1]
    unfold dropT
    rw [List.filter_filter]
    have e2 : ms.filter (fun x => decide (x.num ∉ F.map (·.num)) && decide (x.num ≠ m.num)) = ms.filter fun x => decide (x.num ∉ (m :: F).map (·.num)) := List.filter_congr fun x _ => by
      rw [List.map_cons]
      by_cases c : x.num = m.num
      · have c1 : decide (x.num ≠ m.num) = false := decide_eq_false fun z => z c
        have c2 : decide (x.num ∉ m.num :: F.map (·.num)) = false := decide_eq_false fun z => z (by rw [c]; exact List.mem_cons_self ..)
        rw [c1, c2, Bool.and_false]
      · have c1 : decide (x.num ≠ m.num) = true := decide_eq_true c
        rw [c1, Bool.and_true]
        exact decide_eq_decide.mpr ⟨fun z y => (List.mem_cons.mp y).elim c z, fun z y => z (List.mem_cons_of_mem _ y)⟩
    rw [e2, List.append_assoc]
    congr 1
    cases ea : againM t m with
    | none => rw [List.filterMap_cons_none ea]; rfl
    | some m' => rw [List.filterMap_cons_some ea]; rfl
theorem after_due {b : Nat} {ws : List Bool} {t : Nat} {ms : List Tm} (nd : (ms.map (·.num)).Nodup) : afterF t ms (orderAt b ws t ms) = ms.filter (fun m => decide (m.due ≠ t)) ++ (deq (fun m => sideT b ws m.since m.due 0) (ms.filter fun m => decide (m.due = t))).filterMap (againM t) := by
  rw [order_deq, after_list _ ms nd]
  · congr 1
    refine List.filter_congr fun m hm => ?_
    by_cases c : m.due = t
    · have c1 : decide (m.due ≠ t) = false := decide_eq_false fun z => z c
      rw [c1]
      exact decide_eq_false fun z => z (List.mem_map.mpr ⟨m, mem_deq.mpr (List.mem_filter.mpr ⟨hm, decide_eq_true c⟩), rfl⟩)
    · have c1 : decide (m.due ≠ t) = true := decide_eq_true c
      rw [c1]
      refine decide_eq_true ?_
      intro z
      obtain ⟨x, hx, e⟩ := List.mem_map.mp z
      obtain ⟨h1, h2⟩ := List.mem_filter.mp (mem_deq.mp hx)
      have f1 := find_one nd h1
      have f2 := find_one nd hm
      rw [e, f2] at f1
      have e3 : m = x := Option.some.inj f1
      rw [e3] at c
      exact c (of_decide_eq_true h2)
  · rw [List.Perm.nodup_iff ((deq_perm _ _).map _)]
    exact List.Nodup.sublist (List.Sublist.map _ List.filter_sublist) nd
  · exact fun m hm => (List.mem_filter.mp (mem_deq.mp hm)).1
/-! ### timers that fire again -/
theorem again_of {t : Nat} {m m' : Tm} (h : againM t m = some m') : ∃ k, m.per = some k ∧ m' = ⟨m.num, t + k, some k, t⟩ := by
  unfold againM at h
  cases ep : m.per with
  | none =>
    rw [ep] at h
    cases h
  | some k =>
    rw [ep] at h
    exact ⟨k, rfl, (Option.some.inj h).symm⟩
theorem fireN_nodup {t n : Nat} {ms : List Tm} (nd : (ms.map (·.num)).Nodup) : ((fireT t ms n).map (·.num)).Nodup := by
  have nd0 : ((dropT n ms).map (·.num)).Nodup := List.Nodup.sublist (List.Sublist.map _ List.filter_sublist) nd
  unfold fireT
  split
  · exact nd
  · split
    · exact nd0
    · exact nodup_end nd0 fun x hx => by simpa using (List.mem_filter.mp hx).2
theorem nodup_le {α : Type} [DecidableEq α] : ∀ (l l' : List α), l.Nodup → (∀ x ∈ l, x ∈ l') → l.length ≤ l'.length
  | [], _, _, _ => Nat.zero_le _
  | a :: l, l', nd, h => by
    rw [List.nodup_cons] at nd
    have ha := h a (List.mem_cons_self ..)
    have ih := nodup_le l (l'.erase a) nd.2 fun x hx => (List.mem_erase_of_ne fun e => nd.1 (by rw [← e]; exact hx)).mpr (h x (List.mem_cons_of_mem _ hx))
    rw [List.length_erase_of_mem ha] at ih
    have := List.length_pos_of_mem ha
    rw [List.length_cons]
    omega
/-! ### timers taken out, and fired -/
def DuesOk (ms : List Tm) : Prop := ∀ m ∈ ms, m.since < m.due ∧ m.due < 2 ^ 250
theorem order_few (b : Nat) (ws : List Bool) (t : Nat) (ms : List Tm) : (orderAt b ws t ms).length ≤ ms.length := by
  rw [order_len]
  exact List.length_filter_le _ _
/-- the timers that fire stand in the list, each once -/
structure Firing (t : Nat) (ms : List Tm) (ns : List Nat) : Prop where
  nd : ns.Nodup
  mem : ∀ n ∈ ns, ∃ m ∈ ms, m.num = n
theorem drop_mem {n : Nat} {ms : List Tm} {m : Tm} (h : m ∈ ms) (hn : m.num ≠ n) : m ∈ dropT n ms := List.mem_filter.mpr ⟨h, by simpa using hn⟩
theorem drop_len_lt {n : Nat} {ms : List Tm} (h : ∃ m ∈ ms, m.num = n) : (dropT n ms).length < ms.length := by
  obtain ⟨m, hm, e⟩ := h
  unfold dropT
  exact List.length_filter_lt_length_iff_exists.mpr ⟨m, hm, by simp [e]⟩
theorem fire_some {t n : Nat} {ms : List Tm} {m : Tm} (h : ms.find? (fun x => decide (x.num = n)) = some m) : fireT t ms n = match m.per with
    | none => dropT n ms
    | some k => dropT n ms ++ [⟨n, t + k, some k, t⟩] := by
  unfold fireT
  rw [h]
  try rfl
theorem drop_nodup {n : Nat} {ms : List Tm} (nd : (ms.map (·.num)).Nodup) : ((dropT n ms).map (·.num)).Nodup := by
  unfold dropT
  exact nd.sublist (List.Sublist.map _ List.filter_sublist)
theorem drop_not {n : Nat} {ms : List Tm} : ∀ m ∈ dropT n ms, m.num ≠ n := fun m hm => by simpa using (List.mem_filter.mp hm).2
theorem fire_nodup {t n : Nat} {ms : List Tm} (nd : (ms.map (·.num)).Nodup) : ((fireT t ms n).map (·.num)).Nodup := by
  unfold fireT
  split
  · exact nd
  · split
    · exact drop_nodup nd
    · rw [List.map_append]
      refine nd_snoc (drop_nodup nd) fun h => ?_
      obtain ⟨m, hm, e⟩ := List.mem_map.mp h
      exact drop_not m hm e
theorem fire_num {t n x : Nat} {ms : List Tm} (hx : x ≠ n) (h : ∃ m ∈ ms, m.num = x) : ∃ m ∈ fireT t ms n, m.num = x := by
  obtain ⟨m, hm, e⟩ := h
  unfold fireT
  split
  · exact ⟨m, hm, e⟩
  · split
    · exact ⟨m, drop_mem hm (by omega), e⟩
    · exact ⟨m, List.mem_append_left _ (drop_mem hm (by omega)), e⟩
theorem fire_len {t n : Nat} {ms : List Tm} : (fireT t ms n).length ≤ ms.length := by
  unfold fireT
  split
  · exact Nat.le_refl _
  · rename_i m hf
    have hm := List.mem_of_find?_eq_some hf
    have e : m.num = n := by simpa using List.find?_some hf
    have z := drop_len_lt (n := n) ⟨m, hm, e⟩
    split
    · omega
    · rw [List.length_append]
      show (dropT n ms).length + 1 ≤ _
      omega
/-! ### advancing in parts -/
theorem AdvTo.trans {b : Nat} {ws : List Bool} {s t : Nat} (hst : s ≤ t) {ms ms' ms'' : List Tm} {f f' : List (Nat × List Nat)} (h : AdvTo b ws s ms f ms') (h' : AdvTo b ws t ms' f' ms'') : AdvTo b ws t ms (f ++ f') ms'' := by
  induction h with
  | done _ => exact h'
  | step h1 h2 ok nd few _ ih => exact .step h1 (Nat.le_trans h2 hst) ok nd few (ih h')
theorem AdvTo.uniq {b : Nat} {ws : List Bool} {t : Nat} {ms ms' ms'' : List Tm} {f f' : List (Nat × List Nat)} (h : AdvTo b ws t ms f ms') (h' : AdvTo b ws t ms f' ms'') : f = f' ∧ ms' = ms'' := by
  induction h generalizing f' with
  | done hd =>
    cases h' with
    | done _ => exact ⟨rfl, rfl⟩
    | step h1 h2 _ _ _ _ =>
      obtain ⟨m, hm, e⟩ := List.mem_map.mp (least_some.mp h1).1
      have z := hd m hm
      omega
  | step h1 h2 ok nd few r ih =>
    cases h' with
    | done hd =>
      obtain ⟨m, hm, e⟩ := List.mem_map.mp (least_some.mp h1).1
      have z := hd m hm
      omega
    | step k1 k2 _ _ _ r' =>
      have e := Option.some.inj (h1.symm.trans k1)
      subst e
      obtain ⟨e1, e2⟩ := ih r'
      exact ⟨by rw [e1], e2⟩
/-- advancing to the tick ahead of all due ticks changes nothing -/
theorem AdvTo.none_due {b : Nat} {ws : List Bool} {t : Nat} {ms ms' : List Tm} {f : List (Nat × List Nat)} (h : AdvTo b ws t ms f ms') (hd : ∀ m ∈ ms, t < m.due) : f = [] ∧ ms' = ms := by
  obtain ⟨e1, e2⟩ := h.uniq (.done hd)
  exact ⟨e1, e2⟩
/-- in two parts or in one -/
theorem AdvTo.parts {b : Nat} {ws : List Bool} {s t : Nat} (hst : s ≤ t) {ms ms1 ms2 ms3 : List Tm} {f1 f2 f3 : List (Nat × List Nat)} (h1 : AdvTo b ws s ms f1 ms1) (h2 : AdvTo b ws t ms1 f2 ms2) (h3 : AdvTo b ws t ms f3 ms3) : f3 = f1 ++ f2 ∧ ms3 = ms2 := h3.uniq (h1.trans hst h2)
/-! ### parts of a list put together again -/
theorem min_perm2 {l m : List Nat} (h : l.Perm m) : l.min? = m.min? := by
  cases e : m.min? with
  | none =>
    rw [List.min?_eq_none_iff] at e ⊢
    rw [e] at h
    exact h.eq_nil
  | some x =>
    rw [List.min?_eq_some_iff] at e ⊢
    exact ⟨h.mem_iff.mpr e.1, fun y hy => e.2 y (h.mem_iff.mp hy)⟩
theorem parts_perm {α β : Type} [DecidableEq β] (f : α → β) : ∀ (ks : List β) (l : List α), ks.Nodup → (∀ m ∈ l, f m ∈ ks) → (ks.flatMap fun p => l.filter fun m => decide (f m = p)).Perm l
  | [], [], _, _ => List.Perm.refl _
  | [], m :: _, _, h => by cases h m (List.mem_cons_self ..)
  | k :: ks, l, nd, h => by
    rw [List.nodup_cons] at nd
    rw [List.flatMap_cons]
    have ih := parts_perm f ks (l.filter fun m => !decide (f m = k)) nd.2 fun m hm => by
      obtain ⟨h1, h2⟩ := List.mem_filter.mp hm
      rcases List.mem_cons.mp (h m h1) with e | e
      · rw [decide_eq_true e] at h2
        cases h2
      · exact e
    have e : (ks.flatMap fun p => l.filter fun m => decide (f m = p)) = ks.flatMap fun p => (l.filter fun m => !decide (f m = k)).filter fun m => decide (f m = p) := by
      have z : ∀ (qs : List β), (∀ p ∈ qs, p ≠ k) → (qs.flatMap fun p => l.filter fun m => decide (f m = p)) = qs.flatMap fun p => (l.filter fun m => !decide (f m = k)).filter fun m => decide (f m = p) := by
        intro qs
        induction qs with
        | nil => exact fun _ => rfl
        | cons p qs ih =>
          intro hq
          rw [List.flatMap_cons, List.flatMap_cons, ih fun x hx => hq x (List.mem_cons_of_mem _ hx), List.filter_filter]
          congr 1
          refine List.filter_congr fun m _ => ?_
          have hp := hq p (List.mem_cons_self ..)
          by_cases c : f m = p
          · have c2 : ¬ f m = k := fun y => hp (c.symm.trans y)
            simp [c, hp]
          · simp [c]
      exact z ks fun p hp y => nd.1 (by rw [← y]; exact hp)
    rw [e]
    exact (List.Perm.append_left _ ih).trans (List.filter_append_perm _ _)
theorem flat_perm {α β : Type} {f g : α → List β} : ∀ (ks : List α), (∀ k ∈ ks, (f k).Perm (g k)) → (ks.flatMap f).Perm (ks.flatMap g)
  | [], _ => List.Perm.refl _
  | k :: ks, h => by
    rw [List.flatMap_cons, List.flatMap_cons]
    exact (h k (List.mem_cons_self ..)).append (flat_perm ks fun x hx => h x (List.mem_cons_of_mem _ hx))
/-! ### a wheel made anew from its lists -/
theorem cntS_split {ws : List Bool} {b d k : Nat} : ∀ L, k ≤ L → cntS ws b d 0 L = cntS ws b d k L + cntS ws b d 0 k
  | 0, h => by
    have e : k = 0 := by omega
    rw [e, cntS_high 0 (Nat.le_refl _)]
  | L + 1, h => by
    by_cases e : k = L + 1
    · rw [e, cntS_high (L + 1) (Nat.le_refl _), Nat.zero_add]
    · rw [cntS_succ, cntS_succ, cntS_split (k := k) L (by omega)]
      have e2 : (if d / b ^ L % b ≠ 0 ∧ 0 ≤ L ∧ wordAt ws L = true then 1 else 0) = if d / b ^ L % b ≠ 0 ∧ k ≤ L ∧ wordAt ws L = true then 1 else 0 := by
        by_cases c : d / b ^ L % b ≠ 0 ∧ wordAt ws L = true
        · rw [if_pos ⟨c.1, Nat.zero_le _, c.2⟩, if_pos ⟨c.1, by omega, c.2⟩]
        · rw [if_neg fun z => c ⟨z.1, z.2.2⟩, if_neg fun z => c ⟨z.1, z.2.2⟩]
      rw [e2]
      omega
/-- how often the stacks below a level turn a timer about -/
def turnB (ws : List Bool) (b d k : Nat) : Bool := decide (cntS ws b d 0 k % 2 = 1)
theorem side_turn {b : Nat} {ws : List Bool} {s t d : Nat} (hb : 2 ≤ b) (h : t < d) (hs : s ≤ t) : sideT b ws s d 0 = Bool.xor (sideT b ws s d (levT b t d)) (turnB ws b d (levT b t d)) := by
  have hsd : s < d := Nat.lt_of_le_of_lt hs h
  have hl := lev_mono hb h hs
  rw [side_cnt hb hsd (Nat.zero_le _), side_cnt hb hsd hl, cntS_split _ hl]
  unfold turnB
  generalize cntS ws b d (levT b t d) (levT b s d) = x
  generalize cntS ws b d 0 (levT b t d) = y
  generalize (if wordAt ws (levT b s d) = true then 1 else 0) = z
  by_cases c1 : (x + z) % 2 = 1 <;> by_cases c2 : y % 2 = 1
  · rw [decide_eq_true c1, decide_eq_true c2, decide_eq_false (by omega)]
    rfl
  · rw [decide_eq_true c1, decide_eq_false c2, decide_eq_true (by omega)]
    rfl
  · rw [decide_eq_false c1, decide_eq_true c2, decide_eq_true (by omega)]
    rfl
  · rw [decide_eq_false c1, decide_eq_false c2, decide_eq_false (by omega)]
    rfl
theorem deq_const (c : Bool) (l : List Tm) : deq (fun _ => c) l = if c then l.reverse else l := by
  cases c with
  | true => exact deq_true l
  | false => exact deq_false l
/-- the order of firing, by the list in which the timers stand -/
theorem order_list {b : Nat} {ws : List Bool} {t d : Nat} {ms : List Tm} (hb : 2 ≤ b) (h : t < d) (hs : ∀ m ∈ ms, m.since ≤ t) : orderAt b ws d ms = (deq (fun _ => turnB ws b d (levT b t d)) ((stM b ws t ms (placeT b t d)).filter fun m => decide (m.due = d))).map (·.num) := by
  rw [order_deq]
  congr 1
  unfold stM
  rw [deq_filter, List.filter_filter]
  have e1 : ms.filter (fun m => decide (m.due = d) && decide (placeT b t m.due = placeT b t d)) = ms.filter fun m => decide (m.due = d) := List.filter_congr fun m _ => by
    by_cases c : m.due = d
    · simp [c]
    · simp [c]
  rw [e1, deq_deq]
  refine deq_congr fun m hm => ?_
  obtain ⟨h1, h2⟩ := List.mem_filter.mp hm
  have h2' := of_decide_eq_true h2
  rw [h2']
  show sideT b ws m.since d 0 = Bool.xor (sideT b ws m.since d (placeT b t d).1) _
  exact side_turn hb h (hs m h1)
/-- timers told anew: other numbers, set now -/
def renT (by_ : Nat → Nat) (t : Nat) (m : Tm) : Tm := ⟨by_ m.num, m.due, none, t⟩
theorem deq_map (c : Bool) (g : Tm → Tm) (l : List Tm) : deq (fun _ => c) (l.map g) = (deq (fun _ => c) l).map g := by
  rw [deq_const, deq_const]
  cases c with
  | true =>
    show (l.map g).reverse = l.reverse.map g
    rw [List.map_reverse]
  | false => rfl
/-- the order in which the timers are told: list by list -/
noncomputable def toldT (b : Nat) (ws : List Bool) (t : Nat) (ms : List Tm) (ks : List (Nat × Nat)) : List Tm := ks.flatMap fun k => deq (fun _ => wordAt ws k.1) (stM b ws t ms k)
theorem told_part {b : Nat} {ws : List Bool} {t : Nat} {ms : List Tm} (p : Nat × Nat) : ∀ ks : List (Nat × Nat), ks.Nodup → (toldT b ws t ms ks).filter (fun m => decide (placeT b t m.due = p)) = if p ∈ ks then deq (fun _ => wordAt ws p.1) (stM b ws t ms p) else []
  | [], _ => rfl
  | k :: ks, nd => by
    rw [List.nodup_cons] at nd
    unfold toldT
    rw [List.flatMap_cons, List.filter_append]
    have ih := told_part (b := b) (ws := ws) (t := t) (ms := ms) p ks nd.2
    unfold toldT at ih
    rw [ih]
    have hk : ∀ m ∈ deq (fun _ => wordAt ws k.1) (stM b ws t ms k), placeT b t m.due = k := fun m hm => of_decide_eq_true (List.mem_filter.mp (mem_deq.mp (mem_deq.mp hm))).2
    by_cases c : k = p
    · subst c
      rw [List.filter_eq_self.mpr fun m hm => decide_eq_true (hk m hm), if_neg nd.1, if_pos (List.mem_cons_self ..), List.append_nil]
    · rw [List.filter_eq_nil_iff.mpr fun m hm => by
        rw [hk m hm]
        simpa using c, List.nil_append]
      by_cases c2 : p ∈ ks
      · rw [if_pos c2, if_pos (List.mem_cons_of_mem _ c2)]
      · rw [if_neg c2, if_neg fun z => (List.mem_cons.mp z).elim (fun e => c e.symm) c2]
theorem told_perm {b : Nat} {ws : List Bool} {t : Nat} {ms : List Tm} {ks : List (Nat × Nat)} (nd : ks.Nodup) (hk : ∀ m ∈ ms, placeT b t m.due ∈ ks) : (toldT b ws t ms ks).Perm ms := by
  unfold toldT
  refine (flat_perm ks fun k _ => ?_).trans (parts_perm (fun m : Tm => placeT b t m.due) ks ms nd hk)
  exact (deq_perm _ _).trans (deq_perm _ _)
/-- the lists of the wheel made anew -/
theorem told_lists {b : Nat} {ws : List Bool} {t : Nat} {ms : List Tm} {ks : List (Nat × Nat)} {by_ : Nat → Nat} (hb : 2 ≤ b) (nd : ks.Nodup) (hd : ∀ m ∈ ms, t < m.due) (hk : ∀ m ∈ ms, placeT b t m.due ∈ ks) (p : Nat × Nat) :
    stM b ws t ((toldT b ws t ms ks).map (renT by_ t)) p = (stM b ws t ms p).map (renT by_ t) := by
  have e1 : ((toldT b ws t ms ks).map (renT by_ t)).filter (fun m => decide (placeT b t m.due = p)) = ((toldT b ws t ms ks).filter fun m => decide (placeT b t m.due = p)).map (renT by_ t) := by
    rw [List.filter_map]
    rfl
  have e2 : stM b ws t ((toldT b ws t ms ks).map (renT by_ t)) p = deq (fun _ => wordAt ws p.1) (((toldT b ws t ms ks).filter fun m => decide (placeT b t m.due = p)).map (renT by_ t)) := by
    unfold stM
    rw [e1]
    refine deq_congr fun m hm => ?_
    obtain ⟨m0, hm0, rfl⟩ := List.mem_map.mp hm
    obtain ⟨h1, h2⟩ := List.mem_filter.mp hm0
    have h3 : placeT b t m0.due = p := of_decide_eq_true h2
    have h4 := hd m0 ((told_perm nd hk).mem_iff.mp h1)
    rw [← h3]
    exact side_new hb h4
  rw [e2, told_part p ks nd]
  by_cases c : p ∈ ks
  · rw [if_pos c, deq_map, deq_const, deq_const]
    cases wordAt ws p.1 with
    | true =>
      show ((stM b ws t ms p).reverse.reverse).map _ = _
      rw [List.reverse_reverse]
    | false => rfl
  · rw [if_neg c]
    have e3 : stM b ws t ms p = [] := by
      unfold stM
      rw [List.filter_eq_nil_iff.mpr fun m hm z => c (by rw [← of_decide_eq_true z]; exact hk m hm)]
      rfl
    rw [e3, deq_const]
    cases wordAt ws p.1 <;> rfl
/-- two wheels of which one is the other one told anew -/
structure Twin (b : Nat) (ws : List Bool) (by_ : Nat → Nat) (ms os : List Tm) : Prop where
  dues : (os.map (·.due)).Perm (ms.map (·.due))
  ord : ∀ d, orderAt b ws d os = (orderAt b ws d ms).map by_
  p1 : ∀ m ∈ ms, m.per = none
  p2 : ∀ m ∈ os, m.per = none
theorem twin_made {b : Nat} {ws : List Bool} {t : Nat} {ms : List Tm} {ks : List (Nat × Nat)} {by_ : Nat → Nat} (hb : 2 ≤ b) (nd : ks.Nodup) (hd : ∀ m ∈ ms, t < m.due ∧ m.since ≤ t ∧ m.per = none) (hk : ∀ m ∈ ms, placeT b t m.due ∈ ks) : Twin b ws by_ ms ((toldT b ws t ms ks).map (renT by_ t)) := by
  refine ⟨?_, fun d => ?_, fun m hm => (hd m hm).2.2, fun m hm => ?_⟩
  · rw [List.map_map]
    exact (told_perm nd hk).map _
  · by_cases h : t < d
    · rw [order_list hb h (fun m hm => (hd m hm).2.1), order_list (t := t) hb h (fun m hm => ?_), told_lists hb nd (fun m hm => (hd m hm).1) hk]
      · have e1 : ((stM b ws t ms (placeT b t d)).map (renT by_ t)).filter (fun m => decide (m.due = d)) = ((stM b ws t ms (placeT b t d)).filter fun m => decide (m.due = d)).map (renT by_ t) := by
          rw [List.filter_map]
          rfl
        rw [e1, deq_map, List.map_map, List.map_map]
        rfl
      · obtain ⟨m0, _, rfl⟩ := List.mem_map.mp hm
        exact Nat.le_refl _
    · have z : ∀ l : List Tm, (∀ m ∈ l, t < m.due) → orderAt b ws d l = [] := fun l hl => List.eq_nil_iff_forall_not_mem.mpr fun x hx => by
        obtain ⟨m, h1, h2, _⟩ := order_mem.mp hx
        have := hl m h1
        omega
      rw [z ms fun m hm => (hd m hm).1, z _ fun m hm => ?_]
      · rfl
      · obtain ⟨m0, h0, rfl⟩ := List.mem_map.mp hm
        exact (hd m0 ((told_perm nd hk).mem_iff.mp h0)).1
  · obtain ⟨m0, _, rfl⟩ := List.mem_map.mp hm
    rfl
theorem after_np {b : Nat} {ws : List Bool} {v : Nat} {ms : List Tm} (nd : (ms.map (·.num)).Nodup) (hp : ∀ m ∈ ms, m.per = none) : afterF v ms (orderAt b ws v ms) = ms.filter fun m => decide (m.due ≠ v) := by
  rw [after_due nd]
  have e : (deq (fun m => sideT b ws m.since m.due 0) (ms.filter fun m => decide (m.due = v))).filterMap (againM v) = [] := by
    rw [List.filterMap_eq_nil_iff]
    intro m hm
    unfold againM
    rw [hp m (List.mem_filter.mp (mem_deq.mp hm)).1]
    rfl
  rw [e, List.append_nil]
theorem order_ne {b : Nat} {ws : List Bool} {v d : Nat} {ms : List Tm} : orderAt b ws d (ms.filter fun m => decide (m.due ≠ v)) = if d = v then [] else orderAt b ws d ms := by
  rw [order_deq, order_deq, List.filter_filter]
  by_cases c : d = v
  · rw [if_pos c]
    have e : ms.filter (fun m => decide (m.due = d) && decide (m.due ≠ v)) = [] := List.filter_eq_nil_iff.mpr fun m _ => by
      simp [c]
    rw [e]
    rfl
  · rw [if_neg c]
    congr 2
    refine List.filter_congr fun m _ => ?_
    by_cases c2 : m.due = d
    · simp [c2, c]
    · simp [c2]
theorem Twin.cut {b : Nat} {ws : List Bool} {by_ : Nat → Nat} {ms os : List Tm} (T : Twin b ws by_ ms os) (v : Nat) : Twin b ws by_ (ms.filter fun m => decide (m.due ≠ v)) (os.filter fun m => decide (m.due ≠ v)) := by
  refine ⟨?_, fun d => ?_, fun m hm => T.p1 m (List.mem_filter.mp hm).1, fun m hm => T.p2 m (List.mem_filter.mp hm).1⟩
  · have e : ∀ l : List Tm, (l.filter fun m => decide (m.due ≠ v)).map (·.due) = (l.map (·.due)).filter fun x => decide (x ≠ v) := fun l => by
      rw [List.filter_map]
      rfl
    rw [e, e]
    exact T.dues.filter _
  · rw [order_ne, order_ne]
    by_cases c : d = v
    · rw [if_pos c, if_pos c]
      rfl
    · rw [if_neg c, if_neg c]
      exact T.ord d
theorem twin_adv {b : Nat} {ws : List Bool} {t : Nat} {by_ : Nat → Nat} {ms ms' os os' : List Tm} {f f' : List (Nat × List Nat)} (T : Twin b ws by_ ms os) (h : AdvTo b ws t ms f ms') (h' : AdvTo b ws t os f' os') : f' = f.map (fun r => (r.1, r.2.map by_)) ∧ Twin b ws by_ ms' os' := by
  have lst : ∀ {ms os : List Tm}, Twin b ws by_ ms os → leastD os = leastD ms := fun T => min_perm2 T.dues
  induction h generalizing os f' with
  | done hd =>
    cases h' with
    | done _ => exact ⟨rfl, T⟩
    | step h1 h2 _ _ _ _ =>
      rw [lst T] at h1
      obtain ⟨m, hm, e⟩ := List.mem_map.mp (least_some.mp h1).1
      have z := hd m hm
      omega
  | @step ms ms' at_ rest h1 h2 ok nd few r ih =>
    cases h' with
    | done hd =>
      rw [← lst T] at h1
      obtain ⟨m, hm, e⟩ := List.mem_map.mp (least_some.mp h1).1
      have z := hd m hm
      omega
    | step k1 k2 ok2 nd2 few2 r' =>
      rw [lst T] at k1
      have e := Option.some.inj (h1.symm.trans k1)
      subst e
      rw [after_np nd T.p1] at r ih
      rw [after_np nd2 T.p2] at r'
      obtain ⟨e1, e2⟩ := ih (T.cut at_) r'
      refine ⟨?_, e2⟩
      rw [e1, T.ord at_]
      rfl
/-! ### the law's own wheel in the heap -/
def lrowV (m : Tm) : List V := [.int (m.num : Nat), .int (m.due : Nat), perV m.per]
/-- the tuples ts tell the timers -/
def LRows (H : Hp) : List Addr → List Tm → Prop
  | [], [] => True
  | t :: ts, m :: ms => H t = some (.tup (lrowV m)) ∧ LRows H ts ms
  | _, _ => False
theorem LRows.frame {H H' : Hp} (s : ∀ t xs, H t = some (.tup xs) → H' t = some (.tup xs)) : ∀ {ts : List Addr} {ms : List Tm}, LRows H ts ms → LRows H' ts ms
  | [], [], _ => trivial
  | _ :: _, _ :: _, h => ⟨s _ _ h.1, h.2.frame s⟩
  | [], _ :: _, h => h.elim
  | _ :: _, [], h => h.elim
theorem LRows.len {H : Hp} : ∀ {ts : List Addr} {ms : List Tm}, LRows H ts ms → ts.length = ms.length
  | [], [], _ => rfl
  | _ :: _, _ :: _, h => congrArg Nat.succ h.2.len
  | [], _ :: _, h => h.elim
  | _ :: _, [], h => h.elim
theorem LRows.app {H : Hp} : ∀ {ts ts' : List Addr} {ms ms' : List Tm}, LRows H ts ms → LRows H ts' ms' → LRows H (ts ++ ts') (ms ++ ms')
  | [], _, [], _, _, h => h
  | _ :: _, _, _ :: _, _, h, h' => ⟨h.1, h.2.app h'⟩
  | [], _, _ :: _, _, h, _ => h.elim
  | _ :: _, _, [], _, h, _ => h.elim
theorem LRows.ins {H : Hp} {t : Addr} {m : Tm} {ts : List Addr} {ms : List Tm} (ht : H t = some (.tup (lrowV m))) (h : LRows H ts ms) (w : Bool) : LRows H (if w then t :: ts else ts ++ [t]) (insM w m ms) := by
  cases w with
  | true => exact ⟨ht, h⟩
  | false => exact h.app ⟨ht, trivial⟩
theorem LRows.get {H : Hp} : ∀ {ts : List Addr} {ms : List Tm} {i : Nat} {x : V}, LRows H ts ms → (ts.map V.ref)[i]? = some x → ∃ t m, x = .ref t ∧ ts[i]? = some t ∧ ms[i]? = some m ∧ H t = some (.tup (lrowV m))
  | t :: ts, m :: ms, 0, x, h, e => ⟨t, m, (Option.some.inj e).symm, rfl, rfl, h.1⟩
  | t :: ts, m :: ms, i + 1, x, h, e => by
    have z := h.2.get (i := i) (x := x) e
    exact z
  | [], [], _, _, _, e => by cases e
  | [], _ :: _, _, _, h, _ => h.elim
  | _ :: _, [], _, _, h, _ => h.elim
/-- the cells of the law's dict, ps the addresses of their lists -/
def LCells (H : Hp) : List (List Key × V) → List LCell → List Addr → Prop
  | [], [], [] => True
  | kv :: kvs, c :: cs, p :: ps => kv.1 = keyC c.1 ∧ kv.2 = .ref p ∧ (∃ ts, H p = some (.lst (ts.map V.ref)) ∧ LRows H ts c.2) ∧ LCells H kvs cs ps
  | _, _, _ => False
theorem LCells.frame {H H' : Hp} (s : ∀ t xs, H t = some (.tup xs) → H' t = some (.tup xs)) : ∀ {kvs : List (List Key × V)} {cs : List LCell} {ps : List Addr}, (∀ p ∈ ps, ∀ o, H p = some o → H' p = some o) → LCells H kvs cs ps → LCells H' kvs cs ps
  | [], [], [], _, _ => trivial
  | _ :: _, _ :: _, p :: _, k, ⟨h1, h2, ⟨ts, h3, h4⟩, h5⟩ => ⟨h1, h2, ⟨ts, k p (List.mem_cons_self ..) _ h3, h4.frame s⟩, h5.frame s fun q hq => k q (List.mem_cons_of_mem _ hq)⟩
  | [], [], _ :: _, _, h => h.elim
  | [], _ :: _, [], _, h => h.elim
  | [], _ :: _, _ :: _, _, h => h.elim
  | _ :: _, [], [], _, h => h.elim
  | _ :: _, [], _ :: _, _, h => h.elim
  | _ :: _, _ :: _, [], _, h => h.elim
theorem LCells.len {H : Hp} : ∀ {kvs : List (List Key × V)} {cs : List LCell} {ps : List Addr}, LCells H kvs cs ps → kvs.length = cs.length
  | [], [], [], _ => rfl
  | _ :: _, _ :: _, _ :: _, h => congrArg Nat.succ h.2.2.2.len
  | [], [], _ :: _, h => h.elim
  | [], _ :: _, [], h => h.elim
  | [], _ :: _, _ :: _, h => h.elim
  | _ :: _, [], [], h => h.elim
  | _ :: _, [], _ :: _, h => h.elim
  | _ :: _, _ :: _, [], h => h.elim
theorem LCells.lst {H : Hp} : ∀ {kvs : List (List Key × V)} {cs : List LCell} {ps : List Addr}, LCells H kvs cs ps → ∀ p ∈ ps, ∃ ts : List Addr, H p = some (.lst (ts.map V.ref))
  | [], [], [], _, p, h => by cases h
  | _ :: _, _ :: _, p :: ps, ⟨_, _, ⟨ts, h3, _⟩, h5⟩, q, h => by
    rcases List.mem_cons.mp h with e | h
    · exact ⟨ts, by rw [e]; exact h3⟩
    · exact h5.lst q h
  | [], [], _ :: _, h, _, _ => h.elim
  | [], _ :: _, [], h, _, _ => h.elim
  | [], _ :: _, _ :: _, h, _, _ => h.elim
  | _ :: _, [], [], h, _, _ => h.elim
  | _ :: _, [], _ :: _, h, _, _ => h.elim
  | _ :: _, _ :: _, [], h, _, _ => h.elim
theorem LCells.keys {H : Hp} : ∀ {kvs : List (List Key × V)} {cs : List LCell} {ps : List Addr}, LCells H kvs cs ps → kvs.map (·.1) = cs.map fun c => keyC c.1
  | [], [], [], _ => rfl
  | _ :: _, _ :: _, _ :: _, h => by rw [List.map_cons, List.map_cons, h.1, h.2.2.2.keys]
  | [], [], _ :: _, h => h.elim
  | [], _ :: _, [], h => h.elim
  | [], _ :: _, _ :: _, h => h.elim
  | _ :: _, [], [], h => h.elim
  | _ :: _, [], _ :: _, h => h.elim
  | _ :: _, _ :: _, [], h => h.elim
theorem keyC_not {p : Nat × Nat} {kvs : List (List Key × V)} (h : keyC p ∉ kvs.map (·.1)) : valV kvs (keyC p) = none := by
  induction kvs with
  | nil => rfl
  | cons kv kvs ih =>
    rw [List.map_cons, List.mem_cons, not_or] at h
    rw [valV_neg fun z => h.1 z.symm]
    exact ih h.2
/-- what stands at a key, and how the cells come when it is replaced, or taken out -/
theorem LCells.at {H : Hp} {k : Nat × Nat} : ∀ {kvs : List (List Key × V)} {cs : List LCell} {ps : List Addr}, LCells H kvs cs ps → k ∈ cs.map (·.1) → ∃ p ∈ ps, ∃ ts, valV kvs (keyC k) = some (.ref p) ∧ H p = some (.lst (ts.map V.ref)) ∧ LRows H ts (gv cs k)
  | [], [], [], _, h => by cases h
  | kv :: kvs, c :: cs, p :: ps, ⟨h1, h2, ⟨ts, h3, h4⟩, h5⟩, h => by
    by_cases e : c.1 = k
    · refine ⟨p, List.mem_cons_self .., ts, ?_, h3, ?_⟩
      · rw [valV_pos (h1.trans (keyC_inj.mpr e)), h2]
      · show LRows H ts (if c.1 = k then c.2 else gv cs k)
        rw [if_pos e]
        exact h4
    · rw [List.map_cons, List.mem_cons] at h
      obtain ⟨q, hq, us, a1, a2, a3⟩ := h5.at (h.resolve_left fun z => e z.symm)
      refine ⟨q, List.mem_cons_of_mem _ hq, us, ?_, a2, ?_⟩
      · rw [valV_neg fun z => e (keyC_inj.mp (h1.symm.trans z))]
        exact a1
      · show LRows H us (if c.1 = k then c.2 else gv cs k)
        rw [if_neg e]
        exact a3
  | [], [], _ :: _, h, _ => h.elim
  | [], _ :: _, [], h, _ => h.elim
  | [], _ :: _, _ :: _, h, _ => h.elim
  | _ :: _, [], [], h, _ => h.elim
  | _ :: _, [], _ :: _, h, _ => h.elim
  | _ :: _, _ :: _, [], h, _ => h.elim
theorem LCells.snoc {H : Hp} {k : Nat × Nat} {p : Addr} {ts : List Addr} {l : List Tm} (h3 : H p = some (.lst (ts.map V.ref))) (h4 : LRows H ts l) : ∀ {kvs : List (List Key × V)} {cs : List LCell} {ps : List Addr}, LCells H kvs cs ps → LCells H (kvs ++ [(keyC k, .ref p)]) (cs ++ [(k, l)]) (ps ++ [p])
  | [], [], [], _ => ⟨rfl, rfl, ⟨ts, h3, h4⟩, trivial⟩
  | _ :: _, _ :: _, _ :: _, ⟨a1, a2, a3, a4⟩ => ⟨a1, a2, a3, a4.snoc h3 h4⟩
  | [], [], _ :: _, h => h.elim
  | [], _ :: _, [], h => h.elim
  | [], _ :: _, _ :: _, h => h.elim
  | _ :: _, [], [], h => h.elim
  | _ :: _, [], _ :: _, h => h.elim
  | _ :: _, _ :: _, [], h => h.elim
/-- the list at one key has changed in its place -/
theorem LCells.set {H H' : Hp} {k : Nat × Nat} {p : Addr} {us : List Addr} {l : List Tm} (s : ∀ t xs, H t = some (.tup xs) → H' t = some (.tup xs)) (s2 : ∀ q o, q ≠ p → (∃ ts : List Addr, o = .lst (ts.map V.ref)) → H q = some o → H' q = some o)
    (h3 : H' p = some (.lst (us.map V.ref))) (h4 : LRows H' us l) : ∀ {kvs : List (List Key × V)} {cs : List LCell} {ps : List Addr}, LCells H kvs cs ps → ps.Nodup → (cs.map (·.1)).Nodup → valV kvs (keyC k) = some (.ref p) → LCells H' kvs (cs.map fun c => if c.1 = k then (c.1, l) else c) ps
  | [], [], [], _, _, _, _ => trivial
  | kv :: kvs, c :: cs, q :: ps, ⟨a1, a2, ⟨ts, a3, a4⟩, a5⟩, nd, nk, hv => by
    rw [List.nodup_cons] at nd
    rw [List.map_cons, List.nodup_cons] at nk
    by_cases e : c.1 = k
    · rw [valV_pos (a1.trans (keyC_inj.mpr e)), a2] at hv
      have eq : q = p := V.ref.inj (Option.some.inj hv)
      subst eq
      have e2 : (cs.map fun c => if c.1 = k then (c.1, l) else c) = cs := by
        have z : ∀ c' ∈ cs, (if c'.1 = k then (c'.1, l) else c') = c' := fun c' hc => if_neg fun y => nk.1 (List.mem_map.mpr ⟨c', hc, y.trans e.symm⟩)
        rw [List.map_congr_left (g := id) z, List.map_id]
      rw [List.map_cons, if_pos e, e2]
      refine ⟨a1, a2, ⟨us, h3, h4⟩, a5.frame s fun r hr o ho => ?_⟩
      obtain ⟨ts', hl⟩ := a5.lst r hr
      exact s2 r o (fun z => nd.1 (by rw [← z]; exact hr)) ⟨ts', Option.some.inj (ho.symm.trans hl)⟩ ho
    · rw [valV_neg fun z => e (keyC_inj.mp (a1.symm.trans z))] at hv
      have hm : k ∈ cs.map (·.1) := Classical.byContradiction fun no => by
        have z : keyC k ∉ kvs.map (·.1) := fun y => by
          rw [a5.keys] at y
          obtain ⟨c', hc, ec⟩ := List.mem_map.mp y
          exact no (List.mem_map.mpr ⟨c', hc, keyC_inj.mp ec⟩)
        rw [keyC_not z] at hv
        cases hv
      obtain ⟨p', hp', _, b1, _⟩ := a5.at hm
      have ep : p' = p := V.ref.inj (Option.some.inj (b1.symm.trans hv))
      rw [List.map_cons, if_neg e]
      exact ⟨a1, a2, ⟨ts, s2 q _ (fun z => nd.1 (by rw [z, ← ep]; exact hp')) ⟨ts, rfl⟩ a3, a4.frame s⟩, a5.set s s2 h3 h4 nd.2 nk.2 hv⟩
  | [], [], _ :: _, h, _, _, _ => h.elim
  | [], _ :: _, [], h, _, _, _ => h.elim
  | [], _ :: _, _ :: _, h, _, _, _ => h.elim
  | _ :: _, [], [], h, _, _, _ => h.elim
  | _ :: _, [], _ :: _, h, _, _, _ => h.elim
  | _ :: _, _ :: _, [], h, _, _, _ => h.elim
/-- the cell at one key is taken out -/
theorem LCells.drop {H : Hp} {k : Nat × Nat} : ∀ {kvs : List (List Key × V)} {cs : List LCell} {ps : List Addr}, LCells H kvs cs ps → ps.Nodup → (cs.map (·.1)).Nodup → ∃ ps', LCells H (dropK kvs (keyC k)) (ldrop cs k) ps' ∧ ps'.Sublist ps ∧ ∀ p, valV kvs (keyC k) = some (.ref p) → p ∉ ps'
  | [], [], [], _, _, _ => ⟨[], trivial, List.Sublist.refl _, fun p h => by cases h⟩
  | kv :: kvs, c :: cs, q :: ps, ⟨a1, a2, a3, a5⟩, nd, nk => by
    rw [List.nodup_cons] at nd
    rw [List.map_cons, List.nodup_cons] at nk
    obtain ⟨ps', b1, b2, b3⟩ := a5.drop (k := k) nd.2 nk.2
    by_cases e : c.1 = k
    · have z1 : dropK (kv :: kvs) (keyC k) = dropK kvs (keyC k) := List.filter_cons_of_neg (by simp [a1.trans (keyC_inj.mpr e)])
      have z2 : ldrop (c :: cs) k = ldrop cs k := List.filter_cons_of_neg (by simp [e])
      rw [z1, z2]
      refine ⟨ps', b1, .cons _ b2, fun p hp hm => ?_⟩
      rw [valV_pos (a1.trans (keyC_inj.mpr e)), a2] at hp
      have eq : q = p := V.ref.inj (Option.some.inj hp)
      exact nd.1 (by rw [eq]; exact b2.subset hm)
    · have ne : ¬ kv.1 = keyC k := fun z => e (keyC_inj.mp (a1.symm.trans z))
      have z1 : dropK (kv :: kvs) (keyC k) = kv :: dropK kvs (keyC k) := List.filter_cons_of_pos (by simp [ne])
      have z2 : ldrop (c :: cs) k = c :: ldrop cs k := List.filter_cons_of_pos (by simp [e])
      rw [z1, z2]
      refine ⟨q :: ps', ⟨a1, a2, a3, b1⟩, b2.cons₂ _, fun p hp hm => ?_⟩
      rw [valV_neg ne] at hp
      rcases List.mem_cons.mp hm with z | hm
      · have hk : k ∈ cs.map (·.1) := Classical.byContradiction fun no => by
          have z : keyC k ∉ kvs.map (·.1) := fun y => by
            rw [a5.keys] at y
            obtain ⟨c', hc, ec⟩ := List.mem_map.mp y
            exact no (List.mem_map.mpr ⟨c', hc, keyC_inj.mp ec⟩)
          rw [keyC_not z] at hp
          cases hp
        obtain ⟨p', hp', _, d1, _⟩ := a5.at hk
        have ep : p' = p := V.ref.inj (Option.some.inj (d1.symm.trans hp))
        exact nd.1 (by rw [← z, ← ep]; exact hp')
      · exact b3 p hp hm
  | [], [], _ :: _, h, _, _ => h.elim
  | [], _ :: _, [], h, _, _ => h.elim
  | [], _ :: _, _ :: _, h, _, _ => h.elim
  | _ :: _, [], [], h, _, _ => h.elim
  | _ :: _, [], _ :: _, h, _, _ => h.elim
  | _ :: _, _ :: _, [], h, _, _ => h.elim
/-- the law's wheel at a, its lists at ps -/
structure LW (H : Hp) (a : Addr) (cs : List LCell) (ps : List Addr) : Prop where
  dict : ∃ kvs, H a = some (.dT kvs) ∧ LCells H kvs cs ps
  nd : ps.Nodup
  nk : (cs.map (·.1)).Nodup
theorem LW.frame {H H' : Hp} {a : Addr} {cs : List LCell} {ps : List Addr} (h : LW H a cs ps) (s : ∀ c o, (c = a ∨ c ∈ ps ∨ ∃ xs, o = .tup xs) → H c = some o → H' c = some o) : LW H' a cs ps := by
  obtain ⟨kvs, h1, h2⟩ := h.dict
  exact ⟨⟨kvs, s _ _ (.inl rfl) h1, h2.frame (fun t xs e => s _ _ (.inr (.inr ⟨xs, rfl⟩)) e) fun p hp o e => s _ _ (.inr (.inl hp)) e⟩, h.nd, h.nk⟩
theorem LW.same {H H' : Hp} {a : Addr} {cs : List LCell} {ps : List Addr} (h : LW H a cs ps) (s : Same H H') : LW H' a cs ps := h.frame fun c o _ e => s c o e
theorem LW.lists {H : Hp} {a : Addr} {cs : List LCell} {ps : List Addr} (h : LW H a cs ps) : ∀ p ∈ ps, ∃ ts : List Addr, H p = some (.lst (ts.map V.ref)) := by
  obtain ⟨kvs, _, h2⟩ := h.dict
  exact h2.lst
theorem LW.ne {H : Hp} {a : Addr} {cs : List LCell} {ps : List Addr} (h : LW H a cs ps) : a ∉ ps := fun hm => by
  obtain ⟨kvs, h1, _⟩ := h.dict
  obtain ⟨ts, h2⟩ := h.lists a hm
  rw [h1] at h2
  cases h2
/-- what stays when the wheel at a, lists ps, is worked on; its lists are old ones and new ones -/
structure Lk (a : Addr) (ps : List Addr) (H H' : Hp) (ps' : List Addr) : Prop where
  keep : ∀ c o, c ≠ a → c ∉ ps → H c = some o → H' c = some o
  new : ∀ p ∈ ps', p ∈ ps ∨ H p = none
  stay : ∀ c, H' c = none → H c = none
theorem Lk.trans {a : Addr} {ps ps' ps'' : List Addr} {H H' H'' : Hp} (h : Lk a ps H H' ps') (h' : Lk a ps' H' H'' ps'') : Lk a ps H H'' ps'' := by
  refine ⟨fun c o n1 n2 e => h'.keep c o n1 (fun hm => ?_) (h.keep c o n1 n2 e), fun p hp => ?_, fun c e => h.stay c (h'.stay c e)⟩
  · rcases h.new c hm with z | z
    · exact n2 z
    · rw [z] at e
      cases e
  · rcases h'.new p hp with z | z
    · exact h.new p z
    · exact .inr (h.stay p z)
theorem Lk.ofSame {a : Addr} {ps : List Addr} {H H' : Hp} (s : Same H H') : Lk a ps H H' ps := ⟨fun c o _ _ e => s c o e, fun p hp => .inl hp, fun c e => s.free e⟩
theorem upd_none {H : Hp} {a c : Addr} {o : HO} (h : upd H a o c = none) : H c = none := by
  by_cases e : c = a
  · rw [e, upd_same] at h
    cases h
  · rw [upd_ne e] at h
    exact h
def topS (i : Nat) : Stmt := PySem.Challenge.pw_timerdeque_k03_looking_ahead.main.body.getD i (.Pass ⟨0, 0, 0, 0⟩)
abbrev s__wall : Stmt := topS 0
abbrev N__wall : List Str := ["k"]
theorem sc__wall : FnScope N__wall ["k"] (defScope s__wall) := by
  refine ⟨rfl, rfl, rfl, ?_, rfl, ?_, ?_⟩ <;> decide +kernel
abbrev s_is_integer : Stmt := topS 13
abbrev N_is_integer : List Str := ["given"]
theorem sc_is_integer : FnScope N_is_integer ["given"] (defScope s_is_integer) := by
  refine ⟨rfl, rfl, rfl, ?_, rfl, ?_, ?_⟩ <;> decide +kernel
abbrev s_is_word : Stmt := topS 14
abbrev N_is_word : List Str := ["given"]
theorem sc_is_word : FnScope N_is_word ["given"] (defScope s_is_word) := by
  refine ⟨rfl, rfl, rfl, ?_, rfl, ?_, ?_⟩ <;> decide +kernel
abbrev s_is_base : Stmt := topS 15
abbrev N_is_base : List Str := ["given"]
theorem sc_is_base : FnScope N_is_base ["given"] (defScope s_is_base) := by
  refine ⟨rfl, rfl, rfl, ?_, rfl, ?_, ?_⟩ <;> decide +kernel
abbrev s_is_length : Stmt := topS 16
abbrev N_is_length : List Str := ["given"]
theorem sc_is_length : FnScope N_is_length ["given"] (defScope s_is_length) := by
  refine ⟨rfl, rfl, rfl, ?_, rfl, ?_, ?_⟩ <;> decide +kernel
abbrev s_are_levels : Stmt := topS 17
abbrev N_are_levels : List Str := ["given", "word"]
theorem sc_are_levels : FnScope N_are_levels ["given"] (defScope s_are_levels) := by
  refine ⟨rfl, rfl, rfl, ?_, rfl, ?_, ?_⟩ <;> decide +kernel
abbrev s_is_tick : Stmt := topS 18
abbrev N_is_tick : List Str := ["given", "least"]
theorem sc_is_tick : FnScope N_is_tick ["given", "least"] (defScope s_is_tick) := by
  refine ⟨rfl, rfl, rfl, ?_, rfl, ?_, ?_⟩ <;> decide +kernel
abbrev s_is_period : Stmt := topS 19
abbrev N_is_period : List Str := ["given"]
theorem sc_is_period : FnScope N_is_period ["given"] (defScope s_is_period) := by
  refine ⟨rfl, rfl, rfl, ?_, rfl, ?_, ?_⟩ <;> decide +kernel
abbrev s_check_base : Stmt := topS 20
abbrev N_check_base : List Str := ["base"]
theorem sc_check_base : FnScope N_check_base ["base"] (defScope s_check_base) := by
  refine ⟨rfl, rfl, rfl, ?_, rfl, ?_, ?_⟩ <;> decide +kernel
abbrev s_check_levels : Stmt := topS 21
abbrev N_check_levels : List Str := ["levels"]
theorem sc_check_levels : FnScope N_check_levels ["levels"] (defScope s_check_levels) := by
  refine ⟨rfl, rfl, rfl, ?_, rfl, ?_, ?_⟩ <;> decide +kernel
abbrev s_check_tick : Stmt := topS 22
abbrev N_check_tick : List Str := ["tick", "least"]
theorem sc_check_tick : FnScope N_check_tick ["tick", "least"] (defScope s_check_tick) := by
  refine ⟨rfl, rfl, rfl, ?_, rfl, ?_, ?_⟩ <;> decide +kernel
abbrev s_word_at : Stmt := topS 24
abbrev N_word_at : List Str := ["levels", "level"]
theorem sc_word_at : FnScope N_word_at ["levels", "level"] (defScope s_word_at) := by
  refine ⟨rfl, rfl, rfl, ?_, rfl, ?_, ?_⟩ <;> decide +kernel
abbrev s_level_and_size : Stmt := topS 25
abbrev N_level_and_size : List Str := ["base", "now", "due", "level", "size", "above_now", "above_due"]
theorem sc_level_and_size : FnScope N_level_and_size ["base", "now", "due"] (defScope s_level_and_size) := by
  refine ⟨rfl, rfl, rfl, ?_, rfl, ?_, ?_⟩ <;> decide +kernel
abbrev s_path : Stmt := topS 26
abbrev N_path : List Str := ["base", "now", "due", "level", "size", "rows", "tick", "digit"]
theorem sc_path : FnScope N_path ["base", "now", "due"] (defScope s_path) := by
  refine ⟨rfl, rfl, rfl, ?_, rfl, ?_, ?_⟩ <;> decide +kernel
abbrev s_goes_in_front : Stmt := topS 27
abbrev N_goes_in_front : List Str := ["base", "levels", "now", "due", "lowest", "front", "level", "digit", "tick"]
theorem sc_goes_in_front : FnScope N_goes_in_front ["base", "levels", "now", "due", "lowest"] (defScope s_goes_in_front) := by
  refine ⟨rfl, rfl, rfl, ?_, rfl, ?_, ?_⟩ <;> decide +kernel
abbrev s_with_timer : Stmt := topS 28
abbrev N_with_timer : List Str := ["numbers", "number", "front"]
theorem sc_with_timer : FnScope N_with_timer ["numbers", "number", "front"] (defScope s_with_timer) := by
  refine ⟨rfl, rfl, rfl, ?_, rfl, ?_, ?_⟩ <;> decide +kernel
abbrev s_firing_order : Stmt := topS 29
abbrev N_firing_order : List Str := ["base", "levels", "due", "settings", "numbers", "number", "now"]
theorem sc_firing_order : FnScope N_firing_order ["base", "levels", "due", "settings"] (defScope s_firing_order) := by
  refine ⟨rfl, rfl, rfl, ?_, rfl, ?_, ?_⟩ <;> decide +kernel
abbrev s_without_repeats : Stmt := topS 32
abbrev N_without_repeats : List Str := ["levels", "many"]
theorem sc_without_repeats : FnScope N_without_repeats ["levels"] (defScope s_without_repeats) := by
  refine ⟨rfl, rfl, rfl, ?_, rfl, ?_, ?_⟩ <;> decide +kernel
abbrev s_check_period : Stmt := topS 33
abbrev N_check_period : List Str := ["period"]
theorem sc_check_period : FnScope N_check_period ["period"] (defScope s_check_period) := by
  refine ⟨rfl, rfl, rfl, ?_, rfl, ?_, ?_⟩ <;> decide +kernel
abbrev s_order_of_firing : Stmt := topS 34
abbrev N_order_of_firing : List Str := ["base", "levels", "live", "tick", "settings", "number", "due", "period", "since"]
theorem sc_order_of_firing : FnScope N_order_of_firing ["base", "levels", "live", "tick"] (defScope s_order_of_firing) := by
  refine ⟨rfl, rfl, rfl, ?_, rfl, ?_, ?_⟩ <;> decide +kernel
abbrev s_standing : Stmt := topS 35
abbrev N_standing : List Str := ["base", "levels", "live", "tick", "rows", "number", "due", "period", "since", "level", "size", "place", "front", "digit"]
theorem sc_standing : FnScope N_standing ["base", "levels", "live", "tick"] (defScope s_standing) := by
  refine ⟨rfl, rfl, rfl, ?_, rfl, ?_, ?_⟩ <;> decide +kernel
abbrev s_least_due : Stmt := topS 36
abbrev N_least_due : List Str := ["live", "due", "period", "since"]
theorem sc_least_due : FnScope N_least_due ["live"] (defScope s_least_due) := by
  refine ⟨rfl, rfl, rfl, ?_, rfl, ?_, ?_⟩ <;> decide +kernel
abbrev s_after_firing : Stmt := topS 37
abbrev N_after_firing : List Str := ["live", "numbers", "tick", "left", "number", "due", "period", "since"]
theorem sc_after_firing : FnScope N_after_firing ["live", "numbers", "tick"] (defScope s_after_firing) := by
  refine ⟨rfl, rfl, rfl, ?_, rfl, ?_, ?_⟩ <;> decide +kernel
abbrev s_is_row : Stmt := topS 40
abbrev N_is_row : List Str := ["given", "now", "following", "number", "due", "period"]
theorem sc_is_row : FnScope N_is_row ["given", "now", "following"] (defScope s_is_row) := by
  refine ⟨rfl, rfl, rfl, ?_, rfl, ?_, ?_⟩ <;> decide +kernel
abbrev s_is_snapshot : Stmt := topS 41
abbrev N_is_snapshot : List Str := ["given", "base", "levels", "now", "following", "rows", "row", "number", "due", "period"]
theorem sc_is_snapshot : FnScope N_is_snapshot ["given"] (defScope s_is_snapshot) := by
  refine ⟨rfl, rfl, rfl, ?_, rfl, ?_, ?_⟩ <;> decide +kernel
abbrev s_restored : Stmt := topS 42
abbrev N_restored : List Str := ["snapshot", "base", "levels", "now", "following", "rows", "wheel", "number", "due", "period"]
theorem sc_restored : FnScope N_restored ["snapshot"] (defScope s_restored) := by
  refine ⟨rfl, rfl, rfl, ?_, rfl, ?_, ?_⟩ <;> decide +kernel
abbrev s__law_cell_at : Stmt := topS 44
abbrev N__law_cell_at : List Str := ["_law_script", "_law_k"]
theorem sc__law_cell_at : FnScope N__law_cell_at ["_law_script", "_law_k"] (defScope s__law_cell_at) := by
  refine ⟨rfl, rfl, rfl, ?_, rfl, ?_, ?_⟩ <;> decide +kernel
abbrev s__law_mixed : Stmt := topS 45
abbrev N__law_mixed : List Str := ["_law_cell", "_law_k", "_law_low"]
theorem sc__law_mixed : FnScope N__law_mixed ["_law_cell", "_law_k"] (defScope s__law_mixed) := by
  refine ⟨rfl, rfl, rfl, ?_, rfl, ?_, ?_⟩ <;> decide +kernel
abbrev s__law_source : Stmt := topS 46
abbrev N__law_source : List Str := ["_law_script", "_law_k", "_law_cell"]
theorem sc__law_source : FnScope N__law_source ["_law_script", "_law_k"] (defScope s__law_source) := by
  refine ⟨rfl, rfl, rfl, ?_, rfl, ?_, ?_⟩ <;> decide +kernel
abbrev s__law_next : Stmt := topS 47
abbrev N__law_next : List Str := ["_law_source_here", "_law_many", "_law_found"]
theorem sc__law_next : FnScope N__law_next ["_law_source_here", "_law_many"] (defScope s__law_next) := by
  refine ⟨rfl, rfl, rfl, ?_, rfl, ?_, ?_⟩ <;> decide +kernel
abbrev s__law_base : Stmt := topS 48
abbrev N__law_base : List Str := ["_law_source_here"]
theorem sc__law_base : FnScope N__law_base ["_law_source_here"] (defScope s__law_base) := by
  refine ⟨rfl, rfl, rfl, ?_, rfl, ?_, ?_⟩ <;> decide +kernel
abbrev s__law_levels : Stmt := topS 49
abbrev N__law_levels : List Str := ["_law_source_here", "_law_many", "_law_sort", "_law_found", "_law_at"]
theorem sc__law_levels : FnScope N__law_levels ["_law_source_here"] (defScope s__law_levels) := by
  refine ⟨rfl, rfl, rfl, ?_, rfl, ?_, ?_⟩ <;> decide +kernel
abbrev s__law_tick : Stmt := topS 50
abbrev N__law_tick : List Str := ["_law_source_here", "_law_base_here", "_law_sort", "_law_size", "_law_at"]
theorem sc__law_tick : FnScope N__law_tick ["_law_source_here", "_law_base_here"] (defScope s__law_tick) := by
  refine ⟨rfl, rfl, rfl, ?_, rfl, ?_, ?_⟩ <;> decide +kernel
abbrev s__law_level : Stmt := topS 51
abbrev N__law_level : List Str := ["_law_base_here", "_law_now", "_law_due", "_law_found", "_law_at"]
theorem sc__law_level : FnScope N__law_level ["_law_base_here", "_law_now", "_law_due"] (defScope s__law_level) := by
  refine ⟨rfl, rfl, rfl, ?_, rfl, ?_, ?_⟩ <;> decide +kernel
abbrev s__law_digit : Stmt := topS 52
abbrev N__law_digit : List Str := ["_law_base_here", "_law_tick_here", "_law_level_here", "_law_at"]
theorem sc__law_digit : FnScope N__law_digit ["_law_base_here", "_law_tick_here", "_law_level_here"] (defScope s__law_digit) := by
  refine ⟨rfl, rfl, rfl, ?_, rfl, ?_, ?_⟩ <;> decide +kernel
abbrev s__law_zeros : Stmt := topS 53
abbrev N__law_zeros : List Str := ["_law_base_here", "_law_tick_here", "_law_found"]
theorem sc__law_zeros : FnScope N__law_zeros ["_law_base_here", "_law_tick_here"] (defScope s__law_zeros) := by
  refine ⟨rfl, rfl, rfl, ?_, rfl, ?_, ?_⟩ <;> decide +kernel
abbrev s__law_place : Stmt := topS 54
abbrev N__law_place : List Str := ["_law_lists", "_law_base_here", "_law_levels_here", "_law_now", "_law_row", "_law_level_here", "_law_key", "_law_rows"]
theorem sc__law_place : FnScope N__law_place ["_law_lists", "_law_base_here", "_law_levels_here", "_law_now", "_law_row"] (defScope s__law_place) := by
  refine ⟨rfl, rfl, rfl, ?_, rfl, ?_, ?_⟩ <;> decide +kernel
abbrev s__law_pass : Stmt := topS 55
abbrev N__law_pass : List Str := ["_law_lists", "_law_base_here", "_law_levels_here", "_law_tick_here", "_law_level_here", "_law_rows", "_law_row", "_law_fired", "_law_number", "_law_due", "_law_lap"]
theorem sc__law_pass : FnScope N__law_pass ["_law_lists", "_law_base_here", "_law_levels_here", "_law_tick_here"] (defScope s__law_pass) := by
  refine ⟨rfl, rfl, rfl, ?_, rfl, ?_, ?_⟩ <;> decide +kernel
abbrev s__law_shown : Stmt := topS 56
abbrev N__law_shown : List Str := ["_law_lists", "_law_keys", "_law_key", "_law_row"]
theorem sc__law_shown : FnScope N__law_shown ["_law_lists"] (defScope s__law_shown) := by
  refine ⟨rfl, rfl, rfl, ?_, rfl, ?_, ?_⟩ <;> decide +kernel
abbrev s__law_dropped : Stmt := topS 57
abbrev N__law_dropped : List Str := ["_law_lists", "_law_number", "_law_key", "_law_row"]
theorem sc__law_dropped : FnScope N__law_dropped ["_law_lists", "_law_number"] (defScope s__law_dropped) := by
  refine ⟨rfl, rfl, rfl, ?_, rfl, ?_, ?_⟩ <;> decide +kernel
abbrev s__law_next_event : Stmt := topS 58
abbrev N__law_next_event : List Str := ["_law_lists", "_law_base_here", "_law_now", "_law_found", "_law_level_here", "_law_digit_here", "_law_size", "_law_at", "_law_tick_here"]
theorem sc__law_next_event : FnScope N__law_next_event ["_law_lists", "_law_base_here", "_law_now"] (defScope s__law_next_event) := by
  refine ⟨rfl, rfl, rfl, ?_, rfl, ?_, ?_⟩ <;> decide +kernel
abbrev s__law_run : Stmt := topS 59
abbrev N__law_run : List Str := ["_law_lists", "_law_base_here", "_law_levels_here", "_law_now", "_law_last", "_law_found", "_law_tick_here", "_law_fired"]
theorem sc__law_run : FnScope N__law_run ["_law_lists", "_law_base_here", "_law_levels_here", "_law_now", "_law_last"] (defScope s__law_run) := by
  refine ⟨rfl, rfl, rfl, ?_, rfl, ?_, ?_⟩ <;> decide +kernel
abbrev s__law_copy : Stmt := topS 60
abbrev N__law_copy : List Str := ["_law_lists", "_law_key", "_law_row"]
theorem sc__law_copy : FnScope N__law_copy ["_law_lists"] (defScope s__law_copy) := by
  refine ⟨rfl, rfl, rfl, ?_, rfl, ?_, ?_⟩ <;> decide +kernel
abbrev s__law_built : Stmt := topS 61
abbrev N__law_built : List Str := ["_law_source_here", "_law_base_here", "_law_levels_here", "_law_now", "_law_wheel", "_law_lists", "_law_shared", "_law_number", "_law_step", "_law_due", "_law_k"]
theorem sc__law_built : FnScope N__law_built ["_law_source_here", "_law_base_here", "_law_levels_here", "_law_now"] (defScope s__law_built) := by
  refine ⟨rfl, rfl, rfl, ?_, rfl, ?_, ?_⟩ <;> decide +kernel
abbrev s__law_looks_right : Stmt := topS 62
abbrev N__law_looks_right : List Str := ["_law_source_here", "_law_wheel", "_law_lists", "_law_base_here", "_law_levels_here", "_law_now", "_law_shared", "_law_shown_here", "_law_ticks", "_law_due", "_law_tick_here", "_law_mine", "_law_fired", "_law_told", "_law_one"]
theorem sc__law_looks_right : FnScope N__law_looks_right ["_law_source_here", "_law_wheel", "_law_lists", "_law_base_here", "_law_levels_here", "_law_now", "_law_shared"] (defScope s__law_looks_right) := by
  refine ⟨rfl, rfl, rfl, ?_, rfl, ?_, ?_⟩ <;> decide +kernel
abbrev s__law_changed : Stmt := topS 63
abbrev N__law_changed : List Str := ["_law_source_here", "_law_wheel", "_law_lists", "_law_base_here", "_law_levels_here", "_law_now", "_law_live", "_law_number", "_law_row", "_law_due", "_law_lap"]
theorem sc__law_changed : FnScope N__law_changed ["_law_source_here", "_law_wheel", "_law_lists", "_law_base_here", "_law_levels_here", "_law_now"] (defScope s__law_changed) := by
  refine ⟨rfl, rfl, rfl, ?_, rfl, ?_, ?_⟩ <;> decide +kernel
abbrev s_law : Stmt := topS 64
abbrev N_law : List Str := ["_law_script", "_law_k", "_law_source_here", "_law_base_here", "_law_levels_here", "_law_wheel", "_law_lists", "_law_now", "_law_shared", "_law_early", "_law_mine", "_law_last", "_law_turn", "_law_more"]
theorem sc_law : FnScope N_law ["_law_script"] (defScope s_law) := by
  refine ⟨rfl, rfl, rfl, ?_, rfl, ?_, ?_⟩ <;> decide +kernel
abbrev s_Wheel___init__ : Stmt := inClass (topS 38) 0
abbrev N_Wheel___init__ : List Str := ["self", "base", "levels", "start"]
theorem sc_Wheel___init__ : FnScope N_Wheel___init__ ["self", "base", "levels", "start"] (defScope s_Wheel___init__) := by
  refine ⟨rfl, rfl, rfl, ?_, rfl, ?_, ?_⟩ <;> decide +kernel
abbrev s_Wheel___len__ : Stmt := inClass (topS 38) 1
abbrev N_Wheel___len__ : List Str := ["self"]
theorem sc_Wheel___len__ : FnScope N_Wheel___len__ ["self"] (defScope s_Wheel___len__) := by
  refine ⟨rfl, rfl, rfl, ?_, rfl, ?_, ?_⟩ <;> decide +kernel
abbrev s_Wheel___eq__ : Stmt := inClass (topS 38) 2
abbrev N_Wheel___eq__ : List Str := ["self", "other"]
theorem sc_Wheel___eq__ : FnScope N_Wheel___eq__ ["self", "other"] (defScope s_Wheel___eq__) := by
  refine ⟨rfl, rfl, rfl, ?_, rfl, ?_, ?_⟩ <;> decide +kernel
abbrev s_Wheel_check_timer : Stmt := inClass (topS 38) 3
abbrev N_Wheel_check_timer : List Str := ["self", "timer"]
theorem sc_Wheel_check_timer : FnScope N_Wheel_check_timer ["self", "timer"] (defScope s_Wheel_check_timer) := by
  refine ⟨rfl, rfl, rfl, ?_, rfl, ?_, ?_⟩ <;> decide +kernel
abbrev s_Wheel_now : Stmt := inClass (topS 38) 4
abbrev N_Wheel_now : List Str := ["self"]
theorem sc_Wheel_now : FnScope N_Wheel_now ["self"] (defScope s_Wheel_now) := by
  refine ⟨rfl, rfl, rfl, ?_, rfl, ?_, ?_⟩ <;> decide +kernel
abbrev s_Wheel_put : Stmt := inClass (topS 38) 5
abbrev N_Wheel_put : List Str := ["self", "due", "period", "number"]
theorem sc_Wheel_put : FnScope N_Wheel_put ["self", "due", "period"] (defScope s_Wheel_put) := by
  refine ⟨rfl, rfl, rfl, ?_, rfl, ?_, ?_⟩ <;> decide +kernel
abbrev s_Wheel_cancel : Stmt := inClass (topS 38) 6
abbrev N_Wheel_cancel : List Str := ["self", "timer"]
theorem sc_Wheel_cancel : FnScope N_Wheel_cancel ["self", "timer"] (defScope s_Wheel_cancel) := by
  refine ⟨rfl, rfl, rfl, ?_, rfl, ?_, ?_⟩ <;> decide +kernel
abbrev s_Wheel_reset : Stmt := inClass (topS 38) 7
abbrev N_Wheel_reset : List Str := ["self", "timer", "due", "before", "period", "since"]
theorem sc_Wheel_reset : FnScope N_Wheel_reset ["self", "timer", "due"] (defScope s_Wheel_reset) := by
  refine ⟨rfl, rfl, rfl, ?_, rfl, ?_, ?_⟩ <;> decide +kernel
abbrev s_Wheel_due : Stmt := inClass (topS 38) 8
abbrev N_Wheel_due : List Str := ["self", "timer"]
theorem sc_Wheel_due : FnScope N_Wheel_due ["self", "timer"] (defScope s_Wheel_due) := by
  refine ⟨rfl, rfl, rfl, ?_, rfl, ?_, ?_⟩ <;> decide +kernel
abbrev s_Wheel_timers : Stmt := inClass (topS 38) 9
abbrev N_Wheel_timers : List Str := ["self"]
theorem sc_Wheel_timers : FnScope N_Wheel_timers ["self"] (defScope s_Wheel_timers) := by
  refine ⟨rfl, rfl, rfl, ?_, rfl, ?_, ?_⟩ <;> decide +kernel
abbrev s_Wheel_advance : Stmt := inClass (topS 38) 10
abbrev N_Wheel_advance : List Str := ["self", "tick", "fired", "many", "live", "at", "numbers"]
theorem sc_Wheel_advance : FnScope N_Wheel_advance ["self", "tick"] (defScope s_Wheel_advance) := by
  refine ⟨rfl, rfl, rfl, ?_, rfl, ?_, ?_⟩ <;> decide +kernel
abbrev s_Wheel_lists : Stmt := inClass (topS 38) 11
abbrev N_Wheel_lists : List Str := ["self"]
theorem sc_Wheel_lists : FnScope N_Wheel_lists ["self"] (defScope s_Wheel_lists) := by
  refine ⟨rfl, rfl, rfl, ?_, rfl, ?_, ?_⟩ <;> decide +kernel
abbrev s_Wheel_firing : Stmt := inClass (topS 38) 12
abbrev N_Wheel_firing : List Str := ["self", "tick"]
theorem sc_Wheel_firing : FnScope N_Wheel_firing ["self", "tick"] (defScope s_Wheel_firing) := by
  refine ⟨rfl, rfl, rfl, ?_, rfl, ?_, ?_⟩ <;> decide +kernel
abbrev s_Wheel_lists_at : Stmt := inClass (topS 38) 13
abbrev N_Wheel_lists_at : List Str := ["self", "tick"]
theorem sc_Wheel_lists_at : FnScope N_Wheel_lists_at ["self", "tick"] (defScope s_Wheel_lists_at) := by
  refine ⟨rfl, rfl, rfl, ?_, rfl, ?_, ?_⟩ <;> decide +kernel
abbrev s_Wheel_restoring : Stmt := inClass (topS 38) 14
abbrev N_Wheel_restoring : List Str := ["self", "rows", "level", "digit", "numbers", "number"]
theorem sc_Wheel_restoring : FnScope N_Wheel_restoring ["self"] (defScope s_Wheel_restoring) := by
  refine ⟨rfl, rfl, rfl, ?_, rfl, ?_, ?_⟩ <;> decide +kernel
abbrev s_Wheel_snapshot : Stmt := inClass (topS 38) 15
abbrev N_Wheel_snapshot : List Str := ["self", "rows", "number", "due"]
theorem sc_Wheel_snapshot : FnScope N_Wheel_snapshot ["self"] (defScope s_Wheel_snapshot) := by
  refine ⟨rfl, rfl, rfl, ?_, rfl, ?_, ?_⟩ <;> decide +kernel
abbrev s_Wheel_next_event : Stmt := inClass (topS 38) 16
abbrev N_Wheel_next_event : List Str := ["self"]
theorem sc_Wheel_next_event : FnScope N_Wheel_next_event ["self"] (defScope s_Wheel_next_event) := by
  refine ⟨rfl, rfl, rfl, ?_, rfl, ?_, ?_⟩ <;> decide +kernel
abbrev s_Wheel_next_firing : Stmt := inClass (topS 38) 17
abbrev N_Wheel_next_firing : List Str := ["self"]
theorem sc_Wheel_next_firing : FnScope N_Wheel_next_firing ["self"] (defScope s_Wheel_next_firing) := by
  refine ⟨rfl, rfl, rfl, ?_, rfl, ?_, ?_⟩ <;> decide +kernel
abbrev s_Wheel_moves_until : Stmt := inClass (topS 38) 18
abbrev N_Wheel_moves_until : List Str := ["self", "tick"]
theorem sc_Wheel_moves_until : FnScope N_Wheel_moves_until ["self", "tick"] (defScope s_Wheel_moves_until) := by
  refine ⟨rfl, rfl, rfl, ?_, rfl, ?_, ?_⟩ <;> decide +kernel
/-- what the top leaves of built-in names -/
structure Tx (K : PySem.W.Frag) (mg : Str → Option Value) : Prop where
  b_isinstance : mg "isinstance" = none
  b_int : mg "int" = none
  b_bool : mg "bool" = none
  b_str : mg "str" = none
  b_all : mg "all" = none
  b_list : mg "list" = none
  b_len : mg "len" = none
  b_min : mg "min" = none
  b_sorted : mg "sorted" = none
  b_dict : mg "dict" = none
  b_tuple : mg "tuple" = none
  b_set : mg "set" = none
  b_range : mg "range" = none
  b_max : mg "max" = none
/-! ### the program: what an integer is, bases, ticks -/
def slotInt (σ : L2.St) (i : Nat) : Nat := match σ[i]? with
  | some (some (.int z)) => z.toNat
  | _ => 0
theorem cast_div (a b : Nat) : (a : Int) / (b : Int) = ((a / b : Nat) : Int) := rfl
theorem cast_mod (a b : Nat) : (a : Int) % (b : Int) = ((a % b : Nat) : Int) := rfl
theorem cast_mul (a b : Nat) : (a : Int) * (b : Int) = ((a * b : Nat) : Int) := (Int.natCast_mul a b).symm
theorem cast_add (a b : Nat) : (a : Int) + (b : Int) = ((a + b : Nat) : Int) := rfl
theorem natAbs_cast (a : Nat) : ((a : Nat) : Int).natAbs = a := rfl
theorem divp_s {i j : Int} (b : Nat) (hj : 0 < j) (hi : i.natAbs < 2 ^ b) (h : b ≤ 3000 := by decide) : CDivP i j := by
  refine divp_ok hj ?_
  have := PyProof.Rows.intBits_le hi
  omega
section
variable {P : Program} {w : World} {K : PySem.W.Frag} {mg : Str → Option Value} {base : Heap}
def spIsInt : Sp := fun vs H Q _ => ∃ n : Int, vs = [.int n] ∧ Q (.bl true) H
theorem ok_is_integer {f : Addr} {fd : FuncData} (F : Fun K "is_integer" "is_integer" s_is_integer f fd) (T : Tx K mg) : FnOk P w K mg base CX0 1 f fd ["given"] spIsInt := by
  refine F.ok sc_is_integer (fun vs H Q E h => ?_) (fun cdv A outer s H vs Q E hr h => ?_)
  · obtain ⟨n, rfl, _⟩ := h
    rfl
  · obtain ⟨n, rfl, q⟩ := h
    refine ⟨_, (pss_one (ps_ret (pe_and (pe_callB (isiK (K := K) rfl) (by rfl) T.b_isinstance (by decide +kernel) (pa_cons (pv 0) (pa_cons (pe_bltn (v := .ty "int") (u := .type "int") (by rfl) T.b_int (by decide +kernel) rfl) pa_nil))) (pe_one (pe_not (pe_callB (isiK (K := K) rfl) (by rfl) T.b_isinstance (by decide +kernel) (pa_cons (pv 0) (pa_cons (pe_bltn (v := .ty "bool") (u := .type "bool") (by rfl) T.b_bool (by decide +kernel) rfl) pa_nil)))))))), ?_⟩
    refine ⟨.int n, rfl, .int n, _, _, _, true, rfl, .ty "int", .base (.int n), kit_ty (by decide +kernel), true, rfl, iteT ?_⟩
    exact ⟨.int n, rfl, .int n, _, _, _, false, rfl, .ty "bool", .base (.int n), kit_ty (by decide +kernel), false, rfl, q⟩
end
/-! a tick, of an integer -/
section
variable {P : Program} {w : World} {K : PySem.W.Frag} {mg : Str → Option Value} {base : Heap}
def spIsTick : Sp := fun vs H Q _ => ∃ n l : Int, vs = [.int n, .int l] ∧ l ≤ n ∧ Q (.bl true) H
theorem ok_is_tick {f : Addr} {fd : FuncData} (F : FunD K "is_tick" "is_tick" (defArgs s_is_tick) (defBody s_is_tick) (defScope s_is_tick) [.int 0] [] f fd) (T : Tx K mg) (h1 : Has P w K mg base 1 "is_integer" ["given"] [] spIsInt) : FnOk P w K mg base CX0 2 f fd ["given", "least"] spIsTick := by
  obtain ⟨f_is_integer, fd_is_integer, ds_is_integer, G_is_integer, m_is_integer, k_is_integer, b_is_integer, v_is_integer⟩ := h1
  refine F.ok sc_is_tick (fun vs H Q E h => ?_) (fun cdv A outer s H vs Q E hr h => ?_)
  · obtain ⟨n, l, rfl, _⟩ := h
    rfl
  · obtain ⟨n, l, rfl, l1, q⟩ := h
    refine ⟨_, PSs.nox (pss_one (ps_ret (pe_and (pe_call G_is_integer hr (by rfl) m_is_integer k_is_integer b_is_integer v_is_integer pass0 (pa_cons (pv 0) pa_nil)) (pe_one (pe_cmpR op_ge (pv 0) (pv 1) (nomark _)))))), ?_⟩
    refine ⟨.int n, rfl, n, rfl, true, rfl, iteT ?_⟩
    refine ⟨.int n, rfl, .int l, rfl, n, l, rfl, rfl, ?_⟩
    have e : V.bl (decide (n ≥ l)) = V.bl true := dT l1
    show Q (V.bl (decide (n ≥ l))) H
    rw [e]
    exact q
end
/-! ### bases and ticks -/
section
variable {P : Program} {w : World} {K : PySem.W.Frag} {mg : Str → Option Value} {base : Heap}
def spIsBase : Sp := fun vs H Q _ => ∃ n : Int, vs = [.int n] ∧ 2 ≤ n ∧ n ≤ 64 ∧ Q (.bl true) H
theorem ok_is_base {f : Addr} {fd : FuncData} (F : Fun K "is_base" "is_base" s_is_base f fd) (h1 : Has P w K mg base 1 "is_integer" ["given"] [] spIsInt) : FnOk P w K mg base CX0 2 f fd ["given"] spIsBase := by
  obtain ⟨f_is_integer, fd_is_integer, ds_is_integer, G_is_integer, m_is_integer, k_is_integer, b_is_integer, v_is_integer⟩ := h1
  refine F.ok sc_is_base (fun vs H Q E h => ?_) (fun cdv A outer s H vs Q E hr h => ?_)
  · obtain ⟨n, rfl, _⟩ := h
    rfl
  · obtain ⟨n, rfl, l1, l2, q⟩ := h
    refine ⟨_, (pss_one (ps_ret (pe_and (pe_call G_is_integer hr (by rfl) m_is_integer k_is_integer b_is_integer v_is_integer pass0 (pa_cons (pv 0) pa_nil)) (pe_one (pe_chain op_le op_le pe_int (pv 0) pe_int))))), ?_⟩
    refine ⟨.int n, rfl, n, rfl, true, rfl, iteT ?_⟩
    refine ⟨.int n, rfl, 2, n, rfl, rfl, true, congrArg V.bl (decide_eq_true l1), iteT ?_⟩
    refine ⟨n, 64, rfl, rfl, ?_⟩
    have e : V.bl (decide (n ≤ 64)) = V.bl true := dT l2
    show Q (V.bl (decide (n ≤ 64))) H
    rw [e]
    exact q
def spCheckBase : Sp := fun vs H Q _ => ∃ n : Int, vs = [.int n] ∧ 2 ≤ n ∧ n ≤ 64 ∧ Q .non H
theorem ok_check_base {f : Addr} {fd : FuncData} (F : Fun K "check_base" "check_base" s_check_base f fd) (h1 : Has P w K mg base 2 "is_base" ["given"] [] spIsBase) : FnOk P w K mg base CX0 3 f fd ["base"] spCheckBase := by
  obtain ⟨f_is_base, fd_is_base, ds_is_base, G_is_base, m_is_base, k_is_base, b_is_base, v_is_base⟩ := h1
  refine F.ok sc_check_base (fun vs H Q E h => ?_) (fun cdv A outer s H vs Q E hr h => ?_)
  · obtain ⟨n, rfl, _⟩ := h
    rfl
  · obtain ⟨n, rfl, l1, l2, q⟩ := h
    refine ⟨_, (pss_one (ps_if (pt_not (pt_val (pe_call G_is_base hr (by rfl) m_is_base k_is_base b_is_base v_is_base pass0 (pa_cons (pv 0) pa_nil))))
        (pss_one ps_never)
        pss_nil)), ?_⟩
    exact ⟨.int n, rfl, n, rfl, l1, l2, true, rfl, iteF q⟩
def spCheckTick : Sp := fun vs H Q _ => ∃ n l : Int, vs = [.int n, .int l] ∧ l ≤ n ∧ Q .non H
theorem ok_check_tick {f : Addr} {fd : FuncData} (F : FunD K "check_tick" "check_tick" (defArgs s_check_tick) (defBody s_check_tick) (defScope s_check_tick) [.int 0] [] f fd) (h1 : Has P w K mg base 2 "is_tick" ["given", "least"] [] spIsTick) : FnOk P w K mg base CX0 3 f fd ["tick", "least"] spCheckTick := by
  obtain ⟨f_is_tick, fd_is_tick, ds_is_tick, G_is_tick, m_is_tick, k_is_tick, b_is_tick, v_is_tick⟩ := h1
  refine F.ok sc_check_tick (fun vs H Q E h => ?_) (fun cdv A outer s H vs Q E hr h => ?_)
  · obtain ⟨n, l, rfl, _⟩ := h
    rfl
  · obtain ⟨n, l, rfl, l1, q⟩ := h
    refine ⟨_, PSs.nox (pss_one (ps_if (pt_not (pt_val (pe_call G_is_tick hr (by rfl) m_is_tick k_is_tick b_is_tick v_is_tick pass0 (pa_cons (pv 0) (pa_cons (pv 1) pa_nil)))))
        (pss_one ps_never)
        pss_nil)), ?_⟩
    exact ⟨.int n, rfl, .int l, rfl, n, l, rfl, l1, true, rfl, iteF q⟩
end
/-! ### the program: level_and_size, path -/
section
variable {P : Program} {w : World} {K : PySem.W.Frag} {mg : Str → Option Value} {base : Heap}
/-! the level -/
def spLevel : Sp := fun vs H Q _ => ∃ b n d : Nat, vs = [.int b, .int n, .int d] ∧ 2 ≤ b ∧ b ≤ 64 ∧ n < d ∧ d < 2 ^ 250 ∧ ∀ k, IsLev b n d k → ∀ H' p, Same H H' → H p = none → H' p = some (.tup [.int (k : Nat), .int ((b ^ k : Nat) : Int)]) → Q (.ref p) H'
theorem ok_level_and_size {f : Addr} {fd : FuncData} (F : Fun K "level_and_size" "level_and_size" s_level_and_size f fd) : FnOk P w K mg base CX0 1 f fd ["base", "now", "due"] spLevel := by
  refine F.ok sc_level_and_size (fun vs H Q E h => ?_) (fun cdv A outer s H vs Q E hr h => ?_)
  · obtain ⟨b, n, d, rfl, _⟩ := h
    rfl
  · obtain ⟨b, n, d, rfl, hb, hb64, hnd, hd, q⟩ := h
    have cb : ∀ x : Nat, NDiv x b := fun x => ndiv 7 (by omega) (by omega)
    refine ⟨_, (pss_cons (ps_asg (pe_tup (pa_cons pe_int (pa_cons pe_int pa_nil))) (pg_tupK (K := K) (n := 2) rfl rfl (pgs_cons (pg_name (i := 3) sc_level_and_size.nd rfl (.inl rfl)) (pgs_cons (pg_name (i := 4) sc_level_and_size.nd rfl (.inl rfl)) pgs_nil))))
      (pss_cons (ps_par (i := 5) (j := 6) (by rfl) sc_level_and_size.nd rfl rfl (by decide) rfl rfl (pa_cons (pe_op op_divN (pv 1) (pv 0)) (pa_cons (pe_op op_divN (pv 2) (pv 0)) pa_nil)) (by rfl))
      (pss_cons (ps_while PassesOwn.never (pt_cmpR op_ne (pv 5) (pv 6) (nomark _))
        (pss_cons (ps_par (i := 5) (j := 6) (by rfl) sc_level_and_size.nd rfl rfl (by decide) rfl rfl (pa_cons (pe_op op_divN (pv 5) (pv 0)) (pa_cons (pe_op op_divN (pv 6) (pv 0)) pa_nil)) (by rfl))
        (pss_one (ps_par (i := 3) (j := 4) (by rfl) sc_level_and_size.nd rfl rfl (by decide) rfl rfl (pa_cons (pe_op op_addN (pv 3) pe_int) (pa_cons (pe_op op_mulN (pv 4) (pv 0)) pa_nil)) (by rfl)))))
      (pss_one (ps_ret (pe_tup (pa_cons (pv 3) (pa_cons (pv 4) pa_nil)))))))), ?_⟩
    refine ⟨by simp [sizeLine_eq], fun t hT => ⟨t, _, rfl, .inl (.inl upd_same), rfl, _, _, rfl, _, _, rfl, rfl, ?_⟩⟩
    refine ⟨_, rfl, _, rfl, _, _, rfl, rfl, cb _, _, rfl, _, rfl, _, _, rfl, rfl, cb _, _, _, rfl, ?_⟩
    refine while_by (fun σ H' => ∃ k : Nat, σ = [some (.int (b : Int)), some (.int (n : Int)), some (.int (d : Int)), some (.int (k : Int)), some (.int ((b ^ k : Nat) : Int)), some (.int ((n / b ^ (k + 1) : Nat) : Int)), some (.int ((d / b ^ (k + 1) : Nat) : Int))] ∧ Same H H' ∧ ∀ j, j < k → n / b ^ (j + 1) ≠ d / b ^ (j + 1))
      (fun σ _ => slotInt σ 6) ⟨0, ?_, same_upd hT, fun j hj => absurd hj (Nat.not_lt_zero j)⟩ ?_ ?_
    · rw [Nat.zero_add, Nat.pow_one]
      rfl
    · rintro σ H' ⟨k, rfl, sm, hk⟩
      by_cases hne : n / b ^ (k + 1) = d / b ^ (k + 1)
      · refine ⟨_, rfl, _, rfl, rfl, false, ?_, iteF ?_⟩
        · rw [hne, decide_eq_true rfl]
          rfl
        · refine ⟨_, rfl, _, rfl, by simp [sizeLine_eq], fun p hp => ?_⟩
          exact q k ⟨hne, hk⟩ _ p (sm.trans (same_upd hp)) (sm.free hp) upd_same
      · have h2 : n / b ^ (k + 1) ≤ d / b ^ (k + 1) := Nat.div_le_div_right (Nat.le_of_lt hnd)
        have hpos : 0 < d / b ^ (k + 1) := pos_of h2 hne
        refine ⟨_, rfl, _, rfl, rfl, true, ?_, iteT ?_⟩
        · rw [int_ne hne]
          rfl
        · refine ⟨_, rfl, _, rfl, _, _, rfl, rfl, cb _, _, rfl, _, rfl, _, _, rfl, rfl, cb _, _, _, rfl, ?_⟩
          refine ⟨_, rfl, k, 1, rfl, rfl, trivial, _, rfl, _, rfl, _, _, rfl, rfl, nmul_r (by omega), _, _, rfl, ?_⟩
          have hlt : d / b ^ (k + 1) / b < d / b ^ (k + 1) := Nat.div_lt_self hpos (by omega)
          refine ⟨⟨k + 1, ?_, sm, fun j hj => ?_⟩, ?_⟩
          · rw [div_succ n b (k + 1), div_succ d b (k + 1), Nat.pow_succ b k]
            rfl
          · by_cases e : j = k
            · rw [e]
              exact hne
            · exact hk j (by omega)
          · show (((d / b ^ (k + 1) / b : Nat) : Int)).toNat < (((d / b ^ (k + 1) : Nat) : Int)).toNat
            rw [Int.toNat_natCast, Int.toNat_natCast]
            exact hlt
    · rintro σ H' Q1 Q2 h ⟨x, hx, y, hy, hs, k, e, z⟩
      exact ⟨x, hx, y, hy, hs, k, e, h _ _ z⟩
/-! the stations -/
def rowV (r : Row3) : List V := [.int (r.1 : Nat), .int (r.2.1 : Nat), .int (r.2.2 : Nat)]
/-- at the places ts stand the rows rs, each a tuple of three -/
def RowsAt (H : Hp) : List Addr → List Row3 → Prop
  | [], [] => True
  | t :: ts, r :: rs => H t = some (.tup (rowV r)) ∧ RowsAt H ts rs
  | _, _ => False
theorem RowsAt.same {H H' : Hp} (s : Same H H') : ∀ {ts : List Addr} {rs : List Row3}, RowsAt H ts rs → RowsAt H' ts rs
  | [], [], h => h
  | _ :: _, _ :: _, h => ⟨s _ _ h.1, h.2.same s⟩
  | [], _ :: _, h => h
  | _ :: _, [], h => h
theorem RowsAt.app {H : Hp} {t : Addr} {r : Row3} : ∀ {ts : List Addr} {rs : List Row3}, RowsAt H ts rs → H t = some (.tup (rowV r)) → RowsAt H (ts ++ [t]) (rs ++ [r])
  | [], [], _, h => ⟨h, trivial⟩
  | _ :: _, _ :: _, h, h2 => ⟨h.1, h.2.app h2⟩
  | [], _ :: _, h, _ => h.elim
  | _ :: _, [], h, _ => h.elim
theorem RowsAt.len {H : Hp} : ∀ {ts : List Addr} {rs : List Row3}, RowsAt H ts rs → ts.length = rs.length
  | [], [], _ => rfl
  | _ :: _, _ :: _, h => congrArg Nat.succ h.2.len
  | [], _ :: _, h => h.elim
  | _ :: _, [], h => h.elim
theorem RowsAt.upd {H : Hp} {p : Addr} {xs : List V} {o : HO} (hp : H p = some (.lst xs)) : ∀ {ts : List Addr} {rs : List Row3}, RowsAt H ts rs → RowsAt (upd H p o) ts rs
  | [], [], h => h
  | t :: _, _ :: _, h => ⟨by rw [upd_ne (ne_of h.1 hp (by intro z; cases z))]; exact h.1, h.2.upd hp⟩
  | [], _ :: _, h => h
  | _ :: _, [], h => h
theorem RowsAt.get {H : Hp} : ∀ {ts : List Addr} {rs : List Row3} {i : Nat} {t : Addr}, RowsAt H ts rs → ts[i]? = some t → ∃ r, rs[i]? = some r ∧ H t = some (.tup (rowV r))
  | t :: _, r :: _, 0, _, h, e => ⟨r, rfl, by cases Option.some.inj e; exact h.1⟩
  | _ :: _, _ :: _, i + 1, _, h, e => h.2.get (i := i) e
  | [], _, _, _, _, e => by simp at e
  | _ :: _, [], _, _, h, _ => h.elim
def spPath : Sp := fun vs H Q _ => ∃ b n d : Nat, vs = [.int b, .int n, .int d] ∧ 2 ≤ b ∧ b ≤ 64 ∧ n < d ∧ d < 2 ^ 250 ∧ ∀ k, IsLev b n d k → ∀ H' p ts, Same H H' → H p = none → H' p = some (.lst (ts.map V.ref)) → RowsAt H' ts (rowsOf b n d k) → Q (.ref p) H'
theorem ok_path {f : Addr} {fd : FuncData} (F : Fun K "path" "path" s_path f fd) (h1 : Has P w K mg base 1 "level_and_size" ["base", "now", "due"] [] spLevel) : FnOk P w K mg base CX0 2 f fd ["base", "now", "due"] spPath := by
  obtain ⟨f_level_and_size, fd_level_and_size, ds_level_and_size, G_level_and_size, m_level_and_size, k_level_and_size, b_level_and_size, v_level_and_size⟩ := h1
  refine F.ok sc_path (fun vs H Q E h => ?_) (fun cdv A outer s H vs Q E hr h => ?_)
  · obtain ⟨b, n, d, rfl, _⟩ := h
    rfl
  · obtain ⟨b, n, d, rfl, hb, hb64, hnd, hd, q⟩ := h
    have cb : ∀ x : Nat, NDiv x b := fun x => ndiv 7 (by omega) (by omega)
    have hb0 : 0 < b := by omega
    refine ⟨_, (pss_cons (ps_asg (pe_call G_level_and_size hr (by rfl) m_level_and_size k_level_and_size b_level_and_size v_level_and_size pass0 (pa_cons (pv 0) (pa_cons (pv 1) (pa_cons (pv 2) pa_nil)))) (pg_tupK (K := K) (n := 2) rfl rfl (pgs_cons (pg_name (i := 3) sc_path.nd rfl (.inl rfl)) (pgs_cons (pg_name (i := 4) sc_path.nd rfl (.inl rfl)) pgs_nil))))
      (pss_cons (ps_set (i := 5) sc_path.nd rfl (.inl rfl) (pe_lst (pa_cons (pe_tup (pa_cons (pv 3) (pa_cons (pe_op op_remN (pe_op op_divN (pv 2) (pv 4)) (pv 0)) (pa_cons (pv 1) pa_nil)))) pa_nil)))
      (pss_cons (ps_while PassesOwn.never (pt_cmpR op_gt (pv 3) pe_int (nomark _))
        (pss_cons (ps_set (i := 6) sc_path.nd rfl (.inl rfl) (pe_op op_mulN (pe_op op_divN (pv 2) (pv 4)) (pv 4)))
        (pss_cons (ps_par (i := 3) (j := 4) (by rfl) sc_path.nd rfl rfl (by decide) rfl rfl (pa_cons (pe_op op_subN (pv 3) pe_int) (pa_cons (pe_op op_divN (pv 4) (pv 0)) pa_nil)) (by rfl))
        (pss_cons (ps_set (i := 7) sc_path.nd rfl (.inl rfl) (pe_op op_remN (pe_op op_divN (pv 2) (pv 4)) (pv 0)))
        (pss_one (ps_if (pt_cmpR op_ne (pv 7) pe_int (nomark _))
          (pss_one (ps_expr (pe_bm PySem.F.plainAttrs_list PySem.F.slot_list_append PySem.F.type_list_append mt_append (pv 5) (pa_cons (pe_tup (pa_cons (pv 3) (pa_cons (pv 7) (pa_cons (pv 6) pa_nil)))) pa_nil))))
          pss_nil))))))
      (pss_one (ps_ret (pv 5)))))), ?_⟩
    refine ⟨_, rfl, _, rfl, _, rfl, b, n, d, rfl, hb, hb64, hnd, hd, fun k hk H0 t0 s0 ht0 eT0 => ?_⟩
    have hkd : ∀ j, j ≤ k → b ^ j ≤ d := fun j hj => Nat.le_trans (Nat.pow_le_pow_right (by omega) hj) (hk.size hb hnd)
    have hk250 : k < 250 := lev_small hk hb hnd hd
    have cs : ∀ j, j ≤ k → ∀ x : Nat, NDiv x (b ^ j) := fun j hj x => ndiv 250 (pow_pos' hb j) (Nat.lt_of_le_of_lt (hkd j hj) hd)
    -- level, size = ..
    refine ⟨t0, _, rfl, .inl (.inl eT0), rfl, _, _, rfl, _, _, rfl, rfl, ?_⟩
    -- rows = [(level, due // size % base, now)]
    refine ⟨_, rfl, _, rfl, _, rfl, _, _, rfl, rfl, cs k (Nat.le_refl k) _, _, rfl, _, _, rfl, rfl, hb0, _, rfl, by simp [sizeLine_eq], fun t1 ht1 => ?_⟩
    have s1 := s0.trans (same_upd (o := .tup (rowV (k, d / b ^ k % b, n))) ht1)
    refine ⟨by simp [sizeLine_eq], fun p hp => ?_⟩
    have s2 := s1.trans (same_upd (o := .lst [.ref t1]) hp)
    have np1 : t1 ≠ p := fun e => by
      rw [← e, upd_same] at hp
      cases hp
    have hpH : H p = none := s1.free hp
    refine while_by (fun σ H' => ∃ (j : Nat) (ts : List Addr) (done : List Row3) (y6 y7 : Option V), σ = [some (.int (b : Int)), some (.int (n : Int)), some (.int (d : Int)), some (.int (j : Int)), some (.int ((b ^ j : Nat) : Int)), some (.ref p), y6, y7] ∧ j ≤ k ∧ ts.length + j ≤ k + 1 ∧ Same H H' ∧ H' p = some (.lst (ts.map V.ref)) ∧ RowsAt H' ts ((k, d / b ^ k % b, n) :: done) ∧ tailOf b d k = done ++ tailOf b d j)
      (fun σ _ => slotInt σ 3) ⟨k, [t1], [], none, none, rfl, Nat.le_refl k, by simp; omega, s2, upd_same, ⟨?_, trivial⟩, rfl⟩ ?_ ?_
    · rw [upd_ne np1, upd_same]
      rfl
    · rintro σ H' ⟨j, ts, done, y6, y7, rfl, hjk, hlen, sm, eL, R, et⟩
      cases j with
      | zero =>
        refine ⟨_, rfl, ((0 : Nat) : Int), 0, rfl, rfl, false, rfl, iteF ?_⟩
        refine ⟨_, rfl, q k hk H' p ts sm hpH eL ?_⟩
        have e : done = tailOf b d k := by
          rw [et]
          exact (List.append_nil done).symm
        rw [e] at R
        exact R
      | succ j =>
        have hj0 : (0 : Int) < ((j + 1 : Nat) : Int) := by omega
        refine ⟨_, rfl, _, _, rfl, rfl, true, congrArg V.bl (decide_eq_true hj0), iteT ?_⟩
        -- tick = due // size * size
        refine ⟨_, rfl, _, rfl, _, _, rfl, rfl, cs (j + 1) hjk _, _, rfl, _, _, rfl, rfl, nmul_w 250 250 (Nat.lt_of_le_of_lt (Nat.div_le_self d _) hd) (Nat.lt_of_le_of_lt (hkd (j + 1) hjk) hd), ?_⟩
        -- level, size = level - 1, size // base
        refine ⟨_, rfl, j + 1, 1, rfl, rfl, Nat.le_add_left 1 j, _, rfl, _, rfl, b ^ (j + 1), b, rfl, rfl, cb _, .int (j : Nat), .int ((b ^ j : Nat) : Int), ?_, ?_⟩
        · show [V.int ((j + 1 - 1 : Nat) : Int), V.int ((b ^ (j + 1) / b : Nat) : Int)] = _
          rw [Nat.pow_succ, Nat.mul_div_cancel _ hb0]
          rfl
        -- digit = due // size % base
        refine ⟨_, rfl, _, rfl, d, b ^ j, rfl, rfl, cs j (by omega) _, _, rfl, _, _, rfl, rfl, hb0, ?_⟩
        have lt : slotInt [some (.int (b : Int)), some (.int (n : Int)), some (.int (d : Int)), some (.int (j : Int)), some (.int ((b ^ j : Nat) : Int)), some (.ref p), some (.int ((d / b ^ (j + 1) * b ^ (j + 1) : Nat) : Int)), some (.int ((d / b ^ j % b : Nat) : Int))] 3 < ((j + 1 : Nat) : Int).toNat := by
          show ((j : Int)).toNat < _
          omega
        by_cases h0 : d / b ^ j % b = 0
        · refine ⟨_, rfl, rfl, false, nF (vE h0), iteF ?_⟩
          · refine ⟨⟨j, ts, done, _, _, rfl, by omega, by omega, sm, eL, R, ?_⟩, lt⟩
            rw [et]
            show done ++ tailOf b d (j + 1) = done ++ tailOf b d j
            have : tailOf b d (j + 1) = tailOf b d j := if_neg (fun z => z h0)
            rw [this]
        · refine ⟨_, rfl, rfl, true, nT (vN (b := 0) h0), iteT ?_⟩
          · -- rows.append((level, digit, tick))
            refine ⟨_, rfl, .inl ⟨rfl, _, .inl (.inl eL)⟩, _, rfl, _, rfl, _, rfl, by simp [sizeLine_eq], fun t2 ht2 => ?_⟩
            have s3 := same_upd (o := .tup (rowV (j, d / b ^ j % b, d / b ^ (j + 1) * b ^ (j + 1)))) ht2
            have npt : t2 ≠ p := fun e => by
              rw [e, eL] at ht2
              cases ht2
            have eL' := s3 _ _ eL
            refine ⟨p, _, _, rfl, rfl, eL', ?_, ?_⟩
            · rw [List.length_map]
              exact sizeLine_ge (by omega)
            · refine ⟨⟨j, ts ++ [t2], done ++ [(j, d / b ^ j % b, d / b ^ (j + 1) * b ^ (j + 1))], _, _, rfl, by omega, ?_, fun c o e => ?_, ?_, ?_, ?_⟩, lt⟩
              · rw [List.length_append, List.length_singleton]
                omega
              · rw [upd_ne (ne_of_none e hpH)]
                exact s3 _ _ (sm _ _ e)
              · rw [upd_same, List.map_append]
                rfl
              · refine RowsAt.upd eL' ?_
                exact RowsAt.app (r := (j, d / b ^ j % b, d / b ^ (j + 1) * b ^ (j + 1))) (rs := (k, d / b ^ k % b, n) :: done) (R.same s3) upd_same
              · rw [et, List.append_assoc]
                show done ++ tailOf b d (j + 1) = done ++ ((j, d / b ^ j % b, d / b ^ (j + 1) * b ^ (j + 1)) :: tailOf b d j)
                have : tailOf b d (j + 1) = (j, d / b ^ j % b, d / b ^ (j + 1) * b ^ (j + 1)) :: tailOf b d j := if_pos h0
                rw [this]
    · rintro σ H' Q1 Q2 h ⟨x, hx, i, j, e1, e2, k, e, z⟩
      exact ⟨x, hx, i, j, e1, e2, k, e, h _ _ z⟩
end
theorem RowsAt.item {H : Hp} {ts : List Addr} {rs : List Row3} (R : RowsAt H ts rs) {i : Nat} {x : V} (hx : (ts.map V.ref)[i]? = some x) : ∃ ti r, x = V.ref ti ∧ ts[i]? = some ti ∧ rs[i]? = some r ∧ H ti = some (.tup (rowV r)) := by
  rw [List.getElem?_map] at hx
  cases e : ts[i]? with
  | none =>
    rw [e] at hx
    cases hx
  | some ti =>
    rw [e] at hx
    obtain ⟨r, hr, er⟩ := R.get e
    exact ⟨ti, r, (Option.some.inj hx).symm, rfl, hr, er⟩
section
variable {P : Program} {w : World} {K : PySem.W.Frag} {mg : Str → Option Value} {base : Heap}
def spWordAt (K : PySem.W.Frag) : Sp := fun vs H Q _ => ∃ (q : Addr) (ws : List Bool) (k : Nat), vs = [.ref q, .int (k : Nat)] ∧ SqL K H q (ws.map lvV) ∧ ws ≠ [] ∧ Q (lvV (wordAt ws k)) H
theorem ok_word_at {f : Addr} {fd : FuncData} (F : Fun K "word_at" "word_at" s_word_at f fd) (T : Tx K mg) : FnOk P w K mg base CX0 1 f fd ["levels", "level"] (spWordAt K) := by
  refine F.ok sc_word_at (fun vs H Q E h => ?_) (fun cdv A outer s H vs Q E hr h => ?_)
  · obtain ⟨q, ws, k, rfl, _⟩ := h
    rfl
  · obtain ⟨q, ws, k, rfl, hL, hne, c⟩ := h
    have hp : 0 < ws.length := List.length_pos_iff.mpr hne
    have hpm : 1 ≤ (ws.map lvV).length := by
      rw [List.length_map]
      exact hp
    refine ⟨_, (pss_one (ps_ret (pe_ix (ix_listK (K := K) rfl) (pv 0) (pe_callB (call_min2 rfl) (by rfl) T.b_min (by decide +kernel) (pa_cons (pv 1) (pa_cons (pe_op op_subN (pe_callB (lenK (K := K) rfl) (by rfl) T.b_len PySem.boot_len (pa_cons (pv 0) pa_nil)) pe_int) pa_nil))) (fun _ _ => rfl)))), ?_⟩
    have g := word_get hne k
    refine ⟨.ref q, rfl, _, rfl, .ref q, rfl, q, _, rfl, .inl hL, (ws.map lvV).length, 1, rfl, rfl, hpm, k, _, rfl, q, _, ((min k (ws.length - 1) : Nat) : Int), _, rfl, congrArg V.int ?_, hL, atI_nat g, c⟩
    dsimp only
    rw [List.length_map]
    split <;> omega
def WordsAt (K : PySem.W.Frag) (mg : Str → Option Value) : Prop := ∃ a, mg "WORDS" = some (.ref a) ∧ ∀ H, SqT K H a [.str "stack", .str "queue"]
def MostAt (mg : Str → Option Value) : Prop := ∃ t, mg "MOST_LEVELS" = some (.int 60 t)
def spIsWord : Sp := fun vs H Q _ => ∃ b : Bool, vs = [lvV b] ∧ Q (.bl true) H
theorem ok_is_word {f : Addr} {fd : FuncData} (F : Fun K "is_word" "is_word" s_is_word f fd) (T : Tx K mg) (hW : WordsAt K mg) : FnOk P w K mg base CX0 1 f fd ["given"] spIsWord := by
  obtain ⟨a_WORDS, g_WORDS, sW⟩ := hW
  refine F.ok sc_is_word (fun vs H Q E h => ?_) (fun cdv A outer s H vs Q E hr h => ?_)
  · obtain ⟨b, rfl, _⟩ := h
    rfl
  · obtain ⟨b, rfl, c⟩ := h
    refine ⟨_, (pss_one (ps_ret (pe_and (pe_callB (isiK (K := K) rfl) (by rfl) T.b_isinstance (by decide +kernel) (pa_cons (pv 0) (pa_cons (pe_bltn (v := .ty "str") (u := .type "str") (by rfl) T.b_str (by decide +kernel) rfl) pa_nil))) (pe_one (pe_cmpR op_in_seq (pv 0) (pe_glob (v := .ref a_WORDS) rfl g_WORDS rfl) (by rfl)))))), ?_⟩
    obtain ⟨x, ex, hx⟩ : ∃ x : Str, lvV b = .str x ∧ (if false then !inV (V.str x) [.str "stack", .str "queue"] else inV (V.str x) [.str "stack", .str "queue"]) = true := by
      cases b
      · exact ⟨_, rfl, by decide⟩
      · exact ⟨_, rfl, by decide⟩
    rw [ex]
    refine ⟨.str x, rfl, _, _, _, _, true, rfl, .ty "str", .base (.str x), kit_ty (by decide +kernel), true, rfl, iteT ?_⟩
    refine ⟨.str x, rfl, a_WORDS, _, rfl, .inr (sW _), rfl, rfl, ?_⟩
    rw [hx]
    exact c
def spIsLength : Sp := fun vs H Q _ => ∃ n : Int, vs = [.int n] ∧ 1 ≤ n ∧ n ≤ 60 ∧ Q (.bl true) H
theorem ok_is_length {f : Addr} {fd : FuncData} (F : Fun K "is_length" "is_length" s_is_length f fd) (hM : MostAt mg) (h1 : Has P w K mg base 1 "is_integer" ["given"] [] spIsInt) : FnOk P w K mg base CX0 2 f fd ["given"] spIsLength := by
  obtain ⟨tM, g_MOST_LEVELS⟩ := hM
  obtain ⟨f_is_integer, fd_is_integer, ds_is_integer, G_is_integer, m_is_integer, k_is_integer, b_is_integer, v_is_integer⟩ := h1
  refine F.ok sc_is_length (fun vs H Q E h => ?_) (fun cdv A outer s H vs Q E hr h => ?_)
  · obtain ⟨n, rfl, _⟩ := h
    rfl
  · obtain ⟨n, rfl, l1, l2, q⟩ := h
    refine ⟨_, (pss_one (ps_ret (pe_and (pe_call G_is_integer hr (by rfl) m_is_integer k_is_integer b_is_integer v_is_integer pass0 (pa_cons (pv 0) pa_nil)) (pe_one (pe_chain op_le op_le pe_int (pv 0) (pe_glob (v := .int 60) rfl g_MOST_LEVELS ⟨_, rfl⟩)))))), ?_⟩
    refine ⟨.int n, rfl, n, rfl, true, rfl, iteT ?_⟩
    refine ⟨.int n, rfl, 1, n, rfl, rfl, true, congrArg V.bl (decide_eq_true l1), iteT ?_⟩
    refine ⟨n, 60, rfl, rfl, ?_⟩
    have e : V.bl (decide (n ≤ 60)) = V.bl true := dT l2
    show Q (V.bl (decide (n ≤ 60))) H
    rw [e]
    exact q
def spAreLevels (K : PySem.W.Frag) : Sp := fun vs H Q _ => ∃ (q : Addr) (ws : List Bool), vs = [.ref q] ∧ SqL K H q (ws.map lvV) ∧ ws ≠ [] ∧ ws.length ≤ 60 ∧ ∀ H', Same H H' → Q (.bl true) H'
theorem ok_are_levels {f : Addr} {fd : FuncData} (F : Fun K "are_levels" "are_levels" s_are_levels f fd) (T : Tx K mg) (h0 : Has P w K mg base 2 "is_length" ["given"] [] spIsLength) (h1 : Has P w K mg base 1 "is_word" ["given"] [] spIsWord) : FnOk P w K mg base CX0 3 f fd ["given"] (spAreLevels K) := by
  obtain ⟨f_is_length, fd_is_length, ds_is_length, G_is_length, m_is_length, k_is_length, b_is_length, v_is_length⟩ := h0
  obtain ⟨f_is_word, fd_is_word, ds_is_word, G_is_word, m_is_word, k_is_word, b_is_word, v_is_word⟩ := h1
  refine F.ok sc_are_levels (fun vs H Q E h => ?_) (fun cdv A outer s H vs Q E hr h => ?_)
  · obtain ⟨q, ws, rfl, _⟩ := h
    rfl
  · obtain ⟨q, ws, rfl, hL, hne, h60, c⟩ := h
    have hp : 0 < ws.length := List.length_pos_iff.mpr hne
    refine ⟨_, (pss_cons (ps_if (PW.pt (pw_or (pt_not (pt_val (pe_callB (isiK (K := K) rfl) (by rfl) T.b_isinstance (by decide +kernel) (pa_cons (pv 0) (pa_cons (pe_bltn (v := .ty "list") (u := .type "list") (by rfl) T.b_list (by decide +kernel) rfl) pa_nil))))) (pw_or1 (pt_not (pt_val (pe_call G_is_length hr (by rfl) m_is_length k_is_length b_is_length v_is_length pass0 (pa_cons (pe_callB (lenK (K := K) rfl) (by rfl) T.b_len PySem.boot_len (pa_cons (pv 0) pa_nil)) pa_nil)))))))
        (pss_one (ps_ret pe_bl))
        pss_nil)
      (pss_one (ps_ret (pe_callB (allK (K := K) rfl rfl) (by rfl) T.b_all (by decide +kernel) (pa_cons (pe_lc (own := [("word", 1)]) (g := gName 1) (tt := tYes) rfl sc_are_levels.nd (pi_list (pv 0)) (blkOk_by (own := [("word", 1)]) (N := N_are_levels) (sc := defScope s_are_levels) (by decide +kernel)) (fun _ _ _ _ _ => (pg_name (i := 1) sc_are_levels.nd rfl (.inl rfl))) (fun _ _ _ _ _ => pts_nil) (fun _ _ _ _ _ => (pe_call G_is_word (hr.mono (by decide)) (by rfl) m_is_word k_is_word b_is_word v_is_word pass0 (pa_cons (pv 1) pa_nil)))) pa_nil))))), ?_⟩
    refine ⟨.ref q, rfl, _, _, _, _, true, rfl, .ty "list", tyx_list hL, kit_ty (by decide +kernel), true, rfl, iteF ?_⟩
    refine ⟨.ref q, rfl, q, _, rfl, .inl hL, _, rfl, ?_, ?_, true, rfl, iteF ?_⟩
    · rw [List.length_map]
      omega
    · rw [List.length_map]
      omega
    refine ⟨.ref q, rfl, q, rfl, ⟨_, hL⟩, fun D hD => lc_list (K := K) (a := q) (xs := ws.map lvV) (fun i H' => Same H H' ∧ H' D = some (.lst ((List.replicate i true).map V.bl)))
      ⟨same_upd hD, upd_same⟩ (fun i H' _ ⟨sm, _⟩ => sm.seq hL) ?_ ?_⟩
    · rintro i x H' hx ⟨sm, eD⟩
      obtain ⟨b, rfl⟩ : ∃ b, x = lvV b := by
        rw [List.getElem?_map] at hx
        cases e : ws[i]? with
        | none =>
          rw [e] at hx
          cases hx
        | some b =>
          rw [e] at hx
          exact ⟨b, (Option.some.inj hx).symm⟩
      have hi : i < (ws.map lvV).length := (List.getElem?_eq_some_iff.mp hx).1
      rw [List.length_map] at hi
      refine ⟨rfl, yesT (iteT ?_)⟩
      refine ⟨_, rfl, b, rfl, _, eD, ?_, fun c o e => ?_, ?_⟩
      · rw [List.length_map, List.length_replicate]
        exact sizeLine_ge (by omega)
      · rw [upd_ne (ne_of_none e hD)]
        exact sm _ _ e
      · rw [upd_same, List.replicate_succ', List.map_append]
        rfl
    · rintro H1 ⟨s1, eD⟩
      refine ⟨D, _, rfl, SqL.of eD, ?_⟩
      have ea : (List.replicate (ws.map lvV).length true).all id = true := by
        rw [List.all_replicate]
        simp
      rw [ea]
      exact c H1 s1
def spCheckLevels (K : PySem.W.Frag) : Sp := fun vs H Q _ => ∃ (q : Addr) (ws : List Bool), vs = [.ref q] ∧ SqL K H q (ws.map lvV) ∧ ws ≠ [] ∧ ws.length ≤ 60 ∧ ∀ H', Same H H' → Q .non H'
theorem ok_check_levels {f : Addr} {fd : FuncData} (F : Fun K "check_levels" "check_levels" s_check_levels f fd) (h1 : Has P w K mg base 3 "are_levels" ["given"] [] (spAreLevels K)) : FnOk P w K mg base CX0 4 f fd ["levels"] (spCheckLevels K) := by
  obtain ⟨f_are_levels, fd_are_levels, ds_are_levels, G_are_levels, m_are_levels, k_are_levels, b_are_levels, v_are_levels⟩ := h1
  refine F.ok sc_check_levels (fun vs H Q E h => ?_) (fun cdv A outer s H vs Q E hr h => ?_)
  · obtain ⟨q, ws, rfl, _⟩ := h
    rfl
  · obtain ⟨q, ws, rfl, hL, hne, h60, c⟩ := h
    refine ⟨_, (pss_one (ps_if (pt_not (pt_val (pe_call G_are_levels hr (by rfl) m_are_levels k_are_levels b_are_levels v_are_levels pass0 (pa_cons (pv 0) pa_nil))))
        (pss_one ps_never)
        pss_nil)), ?_⟩
    exact ⟨_, rfl, q, ws, rfl, hL, hne, h60, fun H1 s1 => ⟨true, rfl, iteF (c H1 s1)⟩⟩
end
section
variable {P : Program} {w : World} {K : PySem.W.Frag} {mg : Str → Option Value} {base : Heap}
def spFront (K : PySem.W.Frag) : Sp := fun vs H Q _ => ∃ (b n d lo : Nat) (q : Addr) (ws : List Bool), vs = [.int (b : Nat), .ref q, .int (n : Nat), .int (d : Nat), .int (lo : Nat)] ∧ 2 ≤ b ∧ b ≤ 64 ∧ n < d ∧ d < 2 ^ 250 ∧ SqL K H q (ws.map lvV) ∧ ws ≠ [] ∧
  ∀ k, IsLev b n d k → ∀ H', Same H H' → Q (.bl (frontOf ws lo (rowsOf b n d k))) H'
theorem ok_goes_in_front {f : Addr} {fd : FuncData} (F : Fun K "goes_in_front" "goes_in_front" s_goes_in_front f fd) (h1 : Has P w K mg base 2 "path" ["base", "now", "due"] [] spPath) (h2 : Has P w K mg base 1 "word_at" ["levels", "level"] [] (spWordAt K)) :
    FnOk P w K mg base CX0 3 f fd ["base", "levels", "now", "due", "lowest"] (spFront K) := by
  obtain ⟨f_path, fd_path, ds_path, G_path, m_path, k_path, b_path, v_path⟩ := h1
  obtain ⟨f_word_at, fd_word_at, ds_word_at, G_word_at, m_word_at, k_word_at, b_word_at, v_word_at⟩ := h2
  refine F.ok sc_goes_in_front (fun vs H Q E h => ?_) (fun cdv A outer s H vs Q E hr h => ?_)
  · obtain ⟨b, n, d, lo, q, ws, rfl, _⟩ := h
    rfl
  · obtain ⟨b, n, d, lo, q, ws, rfl, hb, hb64, hnd, hd, hL, hne, c⟩ := h
    refine ⟨_, (pss_cons (ps_set (i := 5) sc_goes_in_front.nd rfl (.inl rfl) pe_bl)
      (pss_cons (ps_for PassesOwn.never rfl (pi_list (pe_call G_path hr (by rfl) m_path k_path b_path v_path pass0 (pa_cons (pv 0) (pa_cons (pv 2) (pa_cons (pv 3) pa_nil))))) (pg_tupK (K := K) (n := 3) rfl rfl (pgs_cons (pg_name (i := 6) sc_goes_in_front.nd rfl (.inl rfl)) (pgs_cons (pg_name (i := 7) sc_goes_in_front.nd rfl (.inl rfl)) (pgs_cons (pg_name (i := 8) sc_goes_in_front.nd rfl (.inl rfl)) pgs_nil))))
        (pss_one (ps_if (PW.pt (pw_and (pt_cmpR op_ge (pv 6) (pv 4) (nomark _)) (pw_and1 (pt_cmpR op_eq (pe_call G_word_at (hr.mono (by decide)) (by rfl) m_word_at k_word_at b_word_at v_word_at pass0 (pa_cons (pv 1) (pa_cons (pv 6) pa_nil))) pe_str (nomark _)))))
          (pss_one (ps_set (i := 5) sc_goes_in_front.nd rfl (.inl rfl) (pe_not (pv 5))))
          pss_nil)))
      (pss_one (ps_ret (pv 5))))), ?_⟩
    refine ⟨_, rfl, _, rfl, _, rfl, b, n, d, rfl, hb, hb64, hnd, hd, fun k hk H1 p ts s1 hp0 hp R => ?_⟩
    refine ⟨p, rfl, ⟨_, SqL.of hp⟩, for_list (K := K) (a := p) (xs := ts.map V.ref) (fun i σ H' => ∃ y6 y7 y8, σ = [some (.int (b : Nat)), some (.ref q), some (.int (n : Nat)), some (.int (d : Nat)), some (.int (lo : Nat)), some (.bl (frontOf ws lo ((rowsOf b n d k).take i))), y6, y7, y8] ∧ H' = H1)
      ⟨none, none, none, rfl, rfl⟩ (fun i σ H' _ ⟨_, _, _, _, e⟩ => by rw [e]; exact SqL.of hp) ?_ ?_⟩
    · rintro i x σ H' hx ⟨y6, y7, y8, rfl, rfl⟩
      obtain ⟨ti, r, rfl, hti, hr, er⟩ := R.item hx
      have hstep : frontOf ws lo ((rowsOf b n d k).take (i + 1)) = if (decide (lo ≤ r.1) && wordAt ws r.1) = true then !frontOf ws lo ((rowsOf b n d k).take i) else frontOf ws lo ((rowsOf b n d k).take i) := by
        rw [List.take_add_one, hr]
        exact front_snoc ws lo _ r
      refine ⟨ti, _, rfl, .inl (.inl er), rfl, _, _, rfl, _, _, rfl, _, _, rfl, rfl, ?_⟩
      have hL1 := s1.seq hL
      by_cases hlo : lo ≤ r.1
      · refine ⟨_, rfl, _, rfl, _, _, rfl, rfl, true, dT (by omega), iteT ?_⟩
        refine ⟨_, rfl, _, rfl, q, ws, r.1, rfl, hL1, hne, ?_, wordAt ws r.1, congrArg V.bl (lv_dec _), ?_⟩
        · cases wordAt ws r.1 <;> rfl
        cases hw : wordAt ws r.1 with
        | true =>
          refine iteT ⟨_, rfl, _, rfl, ⟨some (.int (r.1 : Nat)), some (.int (r.2.1 : Nat)), some (.int (r.2.2 : Nat)), ?_, rfl⟩⟩
          rw [hstep, hw, decide_eq_true hlo]
          rfl
        | false =>
          refine iteF ⟨some (.int (r.1 : Nat)), some (.int (r.2.1 : Nat)), some (.int (r.2.2 : Nat)), ?_, rfl⟩
          rw [hstep, hw, decide_eq_true hlo]
          rfl
      · refine ⟨_, rfl, _, rfl, _, _, rfl, rfl, false, dF (by omega), iteF (iteF ⟨some (.int (r.1 : Nat)), some (.int (r.2.1 : Nat)), some (.int (r.2.2 : Nat)), ?_, rfl⟩)⟩
        rw [hstep, decide_eq_false hlo]
        rfl
    · rintro σ H' ⟨y6, y7, y8, rfl, rfl⟩
      have e : (rowsOf b n d k).take (ts.map V.ref).length = rowsOf b n d k := by
        refine List.take_of_length_le ?_
        rw [List.length_map]
        exact Nat.le_of_eq R.len.symm
      rw [e]
      exact ⟨_, rfl, c k hk _ s1⟩
end
/-! ### the dict of live timers -/
def LiveK (H : Hp) : List (Key × V) → List Tm → Prop
  | [], [] => True
  | kv :: kvs, m :: ms => kv.1 = Sum.inl (m.num : Int) ∧ (∃ t, kv.2 = .ref t ∧ H t = some (.tup (tmV m))) ∧ LiveK H kvs ms
  | _, _ => False
theorem LiveK.frame {H H' : Hp} (s : ∀ t m, H t = some (.tup (tmV m)) → H' t = some (.tup (tmV m))) : ∀ {kvs : List (Key × V)} {ms : List Tm}, LiveK H kvs ms → LiveK H' kvs ms
  | [], [], _ => trivial
  | _ :: _, _ :: _, ⟨h1, ⟨t, h2, h3⟩, h4⟩ => ⟨h1, ⟨t, h2, s _ _ h3⟩, h4.frame s⟩
  | [], _ :: _, h => h.elim
  | _ :: _, [], h => h.elim
theorem LiveK.same {H H' : Hp} (s : Same H H') {kvs : List (Key × V)} {ms : List Tm} (h : LiveK H kvs ms) : LiveK H' kvs ms := h.frame fun _ _ e => s _ _ e
/-- a place that holds no tuple may change -/
theorem LiveK.upd {H : Hp} {l : Addr} {o o' : HO} (hl : H l = some o) (hn : ∀ xs, o ≠ .tup xs) {kvs : List (Key × V)} {ms : List Tm} (h : LiveK H kvs ms) : LiveK (upd H l o') kvs ms := h.frame fun t m e => by
  rw [upd_ne fun z => ?_]
  · exact e
  · rw [z, hl] at e
    exact hn _ (Option.some.inj e)
theorem LiveK.len {H : Hp} : ∀ {kvs : List (Key × V)} {ms : List Tm}, LiveK H kvs ms → kvs.length = ms.length
  | [], [], _ => rfl
  | _ :: _, _ :: _, h => congrArg Nat.succ h.2.2.len
  | [], _ :: _, h => h.elim
  | _ :: _, [], h => h.elim
theorem LiveK.keys {H : Hp} : ∀ {kvs : List (Key × V)} {ms : List Tm}, LiveK H kvs ms → kvs.map (·.1) = ms.map fun m => Sum.inl (m.num : Int)
  | [], [], _ => rfl
  | kv :: kvs, m :: ms, h => by
    rw [List.map_cons, List.map_cons, h.1, h.2.2.keys]
  | [], _ :: _, h => h.elim
  | _ :: _, [], h => h.elim
theorem LiveK.get {H : Hp} : ∀ {kvs : List (Key × V)} {ms : List Tm} {i : Nat} {k : Key} {v : V}, LiveK H kvs ms → kvs[i]? = some (k, v) → ∃ m t, ms[i]? = some m ∧ k = Sum.inl (m.num : Int) ∧ v = .ref t ∧ H t = some (.tup (tmV m))
  | kv :: _, m :: _, 0, k, v, ⟨h1, ⟨t, h2, h3⟩, _⟩, e => by
    cases Option.some.inj e
    exact ⟨m, t, rfl, h1, h2, h3⟩
  | _ :: _, _ :: _, i + 1, _, _, h, e => h.2.2.get (i := i) e
  | [], _, _, _, _, _, e => by simp at e
  | _ :: _, [], _, _, _, h, _ => h.elim
theorem LiveK.snoc {H : Hp} {k : Key} {t : Addr} {m : Tm} : ∀ {kvs : List (Key × V)} {ms : List Tm}, LiveK H kvs ms → k = Sum.inl (m.num : Int) → H t = some (.tup (tmV m)) → LiveK H (kvs ++ [(k, .ref t)]) (ms ++ [m])
  | [], [], _, h1, h2 => ⟨h1, ⟨t, rfl, h2⟩, trivial⟩
  | _ :: _, _ :: _, h, h1, h2 => ⟨h.1, h.2.1, h.2.2.snoc h1 h2⟩
  | [], _ :: _, h, _, _ => h.elim
  | _ :: _, [], h, _, _ => h.elim
theorem inl_num {a b : Nat} : (Sum.inl (a : Int) : Key) = Sum.inl (b : Int) ↔ a = b := ⟨fun e => Int.ofNat.inj (Sum.inl.inj e), fun e => by rw [e]⟩
theorem LiveK.drop {H : Hp} {n : Nat} : ∀ {kvs : List (Key × V)} {ms : List Tm}, LiveK H kvs ms → LiveK H (dropK kvs (Sum.inl (n : Int))) (dropT n ms)
  | [], [], _ => trivial
  | kv :: kvs, m :: ms, h => by
    by_cases e : m.num = n
    · have e1 : kv.1 = (Sum.inl (n : Int) : Key) := by rw [h.1, e]
      have e2 : dropT n (m :: ms) = dropT n ms := by
        unfold dropT
        rw [List.filter_cons, if_neg (by simp [e])]
      rw [dropK_pos e1, e2]
      exact h.2.2.drop
    · have e1 : ¬ kv.1 = (Sum.inl (n : Int) : Key) := by
        rw [h.1]
        exact fun z => e (inl_num.mp z)
      have e2 : dropT n (m :: ms) = m :: dropT n ms := by
        unfold dropT
        rw [List.filter_cons, if_pos (by simp [e])]
      rw [dropK_neg e1, e2]
      exact ⟨h.1, h.2.1, h.2.2.drop⟩
  | [], _ :: _, h => h.elim
  | _ :: _, [], h => h.elim
theorem LiveK.val {H : Hp} {n : Nat} : ∀ {kvs : List (Key × V)} {ms : List Tm}, LiveK H kvs ms → match ms.find? fun m => decide (m.num = n) with
    | none => valV kvs (Sum.inl (n : Int)) = none
    | some m => ∃ t, valV kvs (Sum.inl (n : Int)) = some (.ref t) ∧ H t = some (.tup (tmV m))
  | [], [], _ => rfl
  | kv :: kvs, m :: ms, h => by
    by_cases e : m.num = n
    · have e1 : kv.1 = (Sum.inl (n : Int) : Key) := by rw [h.1, e]
      rw [List.find?_cons_of_pos (by simpa using e), valV_pos e1]
      obtain ⟨t, h2, h3⟩ := h.2.1
      exact ⟨t, by rw [h2], h3⟩
    · have e1 : ¬ kv.1 = (Sum.inl (n : Int) : Key) := by
        rw [h.1]
        exact fun z => e (inl_num.mp z)
      rw [List.find?_cons_of_neg (by simpa using e), valV_neg e1]
      exact h.2.2.val
  | [], _ :: _, h => h.elim
  | _ :: _, [], h => h.elim
theorem find_of {ms : List Tm} {m : Tm} (nd : (ms.map (·.num)).Nodup) (h : m ∈ ms) : ms.find? (fun x => decide (x.num = m.num)) = some m := by
  induction ms with
  | nil => cases h
  | cons a r ih =>
    rw [List.map_cons, List.nodup_cons] at nd
    rcases List.mem_cons.mp h with e | h
    · rw [e]
      exact List.find?_cons_of_pos (by simp)
    · have hne : ¬ a.num = m.num := fun e => nd.1 (by rw [e]; exact List.mem_map_of_mem h)
      rw [List.find?_cons_of_neg (by simpa using hne)]
      exact ih nd.2 h
theorem LiveK.val_of {H : Hp} {kvs : List (Key × V)} {ms : List Tm} {m : Tm} (h : LiveK H kvs ms) (nd : (ms.map (·.num)).Nodup) (hm : m ∈ ms) : ∃ t, valV kvs (Sum.inl (m.num : Int)) = some (.ref t) ∧ H t = some (.tup (tmV m)) := by
  have z := h.val (n := m.num)
  rw [find_of nd hm] at z
  exact z
theorem LiveK.val_not {H : Hp} {kvs : List (Key × V)} {ms : List Tm} {n : Nat} (h : LiveK H kvs ms) (hn : ∀ m ∈ ms, m.num ≠ n) : valV kvs (Sum.inl (n : Int)) = none := by
  have z := h.val (n := n)
  rw [List.find?_eq_none.mpr (fun m hm => by simpa using hn m hm)] at z
  exact z
theorem unlock {H H1 : Hp} {l : Addr} {u : HO} {od : Obj} (h : H l = some u) (s : Same (upd H l (.frz od u)) H1) : Same H (upd H1 l u) := fun c o e => by
  by_cases z : c = l
  · rw [z] at e ⊢
    rw [upd_same]
    exact h.symm.trans e
  · rw [upd_ne z]
    exact s c o (by rw [upd_ne z]; exact e)
theorem lock_same {H : Hp} {l : Addr} {u : HO} {o' : HO} {c : Addr} {o : HO} (h : H l = some u) (e : H c = some o) (hn : u ≠ o) : upd H l o' c = some o := by
  rw [upd_ne fun z => hn (by rw [z, h] at e; exact Option.some.inj e)]
  exact e
theorem sq_lock {K : PySem.W.Frag} {H : Hp} {l q : Addr} {kvs : List (Key × V)} {o' : HO} {xs : List V} (h : H l = some (.dK kvs)) (hq : SqL K H q xs) : SqL K (upd H l o') q xs := by
  rcases hq with (e | ⟨o, e⟩) | e
  · exact .inl (.inl (lock_same h e (by intro z; cases z)))
  · exact .inl (.inr ⟨o, lock_same h e (by intro z; cases z)⟩)
  · exact .inr e
/-- a loop over d.items() -/
theorem for_items {d : Addr} {o : Obj} {kvs : List (Key × V)} {g : TG} {tb : TS} {D : Ends} {σ : L2.St} {H : Hp} (Pv : Nat → L2.St → Hp → Prop) (h0 : Pv 0 σ H) (hq : ∀ i σ H, Pv i σ H → H d = some (.frz o (.dK kvs)))
    (hs : ∀ (i : Nat) (k : Key) (v : V) (T : Addr) (σ : L2.St) (H : Hp), kvs[i]? = some (k, v) → Pv i σ H → H T = none → g (.ref T) σ (upd H T (.tup [kV k, v])) fun σ2 H2 => tb { D with nx := Pv (i + 1), ct := Pv (i + 1), bk := D.nx } σ2 H2) (hd : ∀ σ H, Pv kvs.length σ H → D.nx σ H) :
    ∃ W : Nat → Nat → L2.St → Hp → Prop, (∃ m, W 0 m σ H) ∧ ∀ i m σ H, W i m σ H →
      ((Iti d o kvs).stop i H ∧ D.nx σ H) ∨ ((Iti d o kvs).go i H ∧ ∃ N : L2.St → Hp → Prop, (∀ σ' H', N σ' H' → ∃ m', m' < m ∧ W (i + 1) m' σ' H') ∧ ∀ v H', (Iti d o kvs).yld i H v H' → g v σ H' fun σ2 H2 => tb { D with nx := N, ct := N, bk := D.nx } σ2 H2) := by
  refine ⟨fun i m σ H => m = kvs.length - i ∧ i ≤ kvs.length ∧ Pv i σ H, ⟨kvs.length, rfl, Nat.zero_le _, h0⟩, ?_⟩
  rintro i m σ H ⟨rfl, hi, p⟩
  have qx := hq i σ H p
  by_cases hlt : i < kvs.length
  · refine .inr ⟨⟨qx, hlt⟩, Pv (i + 1), fun σ' H' p' => ⟨kvs.length - (i + 1), by omega, rfl, hlt, p'⟩, fun x H' y => ?_⟩
    obtain ⟨T, k, v, e, rfl, nT, rfl⟩ := y
    exact hs i k v T σ H e p nT
  · have e : i = kvs.length := by omega
    subst e
    exact .inl ⟨⟨qx, Nat.le_refl _⟩, hd σ H p⟩
/-- a loop over d.values() -/
theorem for_values {d : Addr} {o : Obj} {kvs : List (Key × V)} {g : TG} {tb : TS} {D : Ends} {σ : L2.St} {H : Hp} (Pv : Nat → L2.St → Hp → Prop) (h0 : Pv 0 σ H) (hq : ∀ i σ H, Pv i σ H → H d = some (.frz o (.dK kvs)))
    (hs : ∀ (i : Nat) (k : Key) (v : V) (σ : L2.St) (H : Hp), kvs[i]? = some (k, v) → Pv i σ H → g v σ H fun σ2 H2 => tb { D with nx := Pv (i + 1), ct := Pv (i + 1), bk := D.nx } σ2 H2) (hd : ∀ σ H, Pv kvs.length σ H → D.nx σ H) :
    ∃ W : Nat → Nat → L2.St → Hp → Prop, (∃ m, W 0 m σ H) ∧ ∀ i m σ H, W i m σ H →
      ((Itd d o kvs).stop i H ∧ D.nx σ H) ∨ ((Itd d o kvs).go i H ∧ ∃ N : L2.St → Hp → Prop, (∀ σ' H', N σ' H' → ∃ m', m' < m ∧ W (i + 1) m' σ' H') ∧ ∀ v H', (Itd d o kvs).yld i H v H' → g v σ H' fun σ2 H2 => tb { D with nx := N, ct := N, bk := D.nx } σ2 H2) := by
  refine ⟨fun i m σ H => m = kvs.length - i ∧ i ≤ kvs.length ∧ Pv i σ H, ⟨kvs.length, rfl, Nat.zero_le _, h0⟩, ?_⟩
  rintro i m σ H ⟨rfl, hi, p⟩
  have qx := hq i σ H p
  by_cases hlt : i < kvs.length
  · refine .inr ⟨⟨qx, hlt⟩, Pv (i + 1), fun σ' H' p' => ⟨kvs.length - (i + 1), by omega, rfl, hlt, p'⟩, fun x H' y => ?_⟩
    obtain ⟨rfl, k, e⟩ := y
    exact hs i k x σ H' e p
  · have e : i = kvs.length := by omega
    subst e
    exact .inl ⟨⟨qx, Nat.le_refl _⟩, hd σ H p⟩
/-- a comprehension over d.values() -/
theorem lc_values {d : Addr} {o : Obj} {kvs : List (Key × V)} {g : TG} {tt : TT} {te : TE} {vs : List Nat} {σ : L2.St} {H1 : Hp} {D : Addr} {Qd : Hp → Prop} (Pv : Nat → Hp → Prop) (h0 : Pv 0 (upd H1 D (.lst []))) (hq : ∀ i H, Pv i H → H d = some (.frz o (.dK kvs)))
    (hs : ∀ i k x H, kvs[i]? = some (k, x) → Pv i H → g x (wipe σ vs) H fun σ2 H2 => wipe σ2 vs = wipe σ vs ∧ tt σ2 H2 fun b H3 =>
      if b = true then te σ2 H3 fun y H4 => ∃ acc, H4 D = some (.lst acc) ∧ acc.length < sizeLine ∧ Pv (i + 1) (upd H4 D (.lst (acc ++ [y]))) else Pv (i + 1) H3) (hd : ∀ H, Pv kvs.length H → Qd H) :
    ∃ W : Nat → Nat → Hp → Prop, (∃ m, W 0 m (upd H1 D (.lst []))) ∧ ∀ i m H, W i m H →
      ((Itd d o kvs).stop i H ∧ Qd H) ∨ ((Itd d o kvs).go i H ∧ ∃ Nx : Hp → Prop, (∀ H', Nx H' → ∃ m', m' < m ∧ W (i + 1) m' H') ∧ ∀ x H', (Itd d o kvs).yld i H x H' → g x (wipe σ vs) H' fun σ2 H2 => wipe σ2 vs = wipe σ vs ∧ tt σ2 H2 fun b H3 =>
        if b = true then te σ2 H3 fun y H4 => ∃ acc, H4 D = some (.lst acc) ∧ acc.length < sizeLine ∧ Nx (upd H4 D (.lst (acc ++ [y]))) else Nx H3) := by
  refine ⟨fun i m H => m = kvs.length - i ∧ i ≤ kvs.length ∧ Pv i H, ⟨kvs.length, rfl, Nat.zero_le _, h0⟩, ?_⟩
  rintro i m H ⟨rfl, hi, p⟩
  have qx := hq i H p
  by_cases hlt : i < kvs.length
  · refine .inr ⟨⟨qx, hlt⟩, Pv (i + 1), fun H' p' => ⟨kvs.length - (i + 1), by omega, rfl, hlt, p'⟩, fun x H' y => ?_⟩
    obtain ⟨rfl, k, e⟩ := y
    exact hs i k x H' e p
  · have e : i = kvs.length := by omega
    subst e
    exact .inl ⟨⟨qx, Nat.le_refl _⟩, hd H p⟩
section
variable {P : Program} {w : World} {K : PySem.W.Frag} {mg : Str → Option Value} {base : Heap}
def spLeast : Sp := fun vs H Q _ => ∃ (l : Addr) (kvs : List (Key × V)) (ms : List Tm), vs = [.ref l] ∧ H l = some (.dK kvs) ∧ LiveK H kvs ms ∧ ms.length ≤ 1000 ∧ ∀ H', Same H H' → Q (perV (leastD ms)) H'
theorem min_least {ms : List Tm} {Q : V → Prop} (q : Q (perV (leastD ms))) : (ms.map (fun m => (m.due : Int)) = [] → Q .non) ∧ ∀ v ∈ ms.map (fun m => (m.due : Int)), (∀ x ∈ ms.map (fun m => (m.due : Int)), v ≤ x) → Q (.int v) := by
  refine ⟨fun e => ?_, fun v hv hx => ?_⟩
  · rw [least_none.mpr (List.map_eq_nil_iff.mp e)] at q
    exact q
  · obtain ⟨m, hm, rfl⟩ := List.mem_map.mp hv
    have e : leastD ms = some m.due := least_some.mpr ⟨List.mem_map_of_mem hm, fun x h => by
      obtain ⟨m', hm', rfl⟩ := List.mem_map.mp h
      exact Int.ofNat_le.mp (hx _ (List.mem_map_of_mem hm'))⟩
    rw [e] at q
    exact q
theorem ok_least_due {f : Addr} {fd : FuncData} (F : Fun K "least_due" "least_due" s_least_due f fd) (T : Tx K mg) : FnOk P w K mg base CX0 1 f fd ["live"] spLeast := by
  refine F.ok sc_least_due (fun vs H Q E h => ?_) (fun cdv A outer s H vs Q E hr h => ?_)
  · obtain ⟨l, kvs, ms, rfl, _⟩ := h
    rfl
  · obtain ⟨l, kvs, ms, rfl, hl, L, few, q⟩ := h
    refine ⟨_, (pss_one (ps_ret (pe_callBK (minDef (K := K) rfl rfl hr.units) (by rfl) T.b_min (by decide +kernel) (pa_cons (pe_lock (pe_lc (own := [("due", 1), ("period", 2), ("since", 3)]) (g := _) (tt := tYes) rfl sc_least_due.nd (pi_values (pv 0)) (blkOk_by (own := [("due", 1), ("period", 2), ("since", 3)]) (N := N_least_due) (sc := defScope s_least_due) (by decide +kernel)) (fun _ _ _ _ _ => (pg_tupK (K := K) (n := 3) rfl rfl (pgs_cons (pg_name (i := 1) sc_least_due.nd rfl (.inl rfl)) (pgs_cons (pg_name (i := 2) sc_least_due.nd rfl (.inl rfl)) (pgs_cons (pg_name (i := 3) sc_least_due.nd rfl (.inl rfl)) pgs_nil))))) (fun _ _ _ _ _ => pts_nil) (fun _ _ _ _ _ => (pv 1)))) pa_nil) (pk_cons pe_non pk_nil)))), ?_⟩
    refine ⟨l, _, hl, trivial, fun od => ?_⟩
    refine ⟨_, rfl, l, od, kvs, rfl, upd_same, fun D hD => lc_values (d := l) (o := od) (kvs := kvs) (fun i H' => Same (upd H l (.frz od (.dK kvs))) H' ∧ H' D = some (.lst ((ms.take i).map fun m => V.int (m.due : Nat))))
      ⟨same_upd hD, upd_same⟩ (fun i H' ⟨sm, _⟩ => sm _ _ upd_same) ?_ ?_⟩
    · rintro i k x H' hx ⟨sm, eD⟩
      have L' := L.upd (o' := .frz od (.dK kvs)) hl (fun xs z => by cases z)
      obtain ⟨m, t, hm, rfl, rfl, ht⟩ := L'.get hx
      refine ⟨t, _, rfl, .inl (.inl (sm _ _ ht)), rfl, _, _, rfl, _, _, rfl, _, _, rfl, rfl, rfl, yesT (iteT ?_)⟩
      refine ⟨_, rfl, _, eD, ?_, fun c o e => ?_, ?_⟩
      · rw [List.length_map, List.length_take]
        exact sizeLine_ge (by omega)
      · rw [upd_ne (ne_of_none e hD)]
        exact sm _ _ e
      · rw [upd_same, List.take_add_one, hm, List.map_append]
        rfl
    · rintro H1 ⟨sm, eD⟩
      rw [L.len, List.take_length] at eD
      have nDl : D ≠ l := fun e => by
        rw [e, upd_same] at hD
        cases hD
      have s2 := unlock hl sm
      have eD2 : (upd H1 l (.dK kvs)) D = some (.lst ((ms.map fun m => (m.due : Int)).map V.int)) := by
        rw [upd_ne nDl, eD, List.map_map]
        rfl
      refine ⟨sm _ _ upd_same, D, ms.map fun m => (m.due : Int), rfl, rfl, SqL.of eD2, ?_⟩
      exact min_least (Q := fun v => Q v (upd H1 l (.dK kvs))) (q _ s2)
end
/-! ### what fires, what is left -/
section
variable {P : Program} {w : World} {K : PySem.W.Frag} {mg : Str → Option Value} {base : Heap}
def spWithTimer : Sp := fun vs H Q _ => ∃ (a : Addr) (xs : List Nat) (n : Nat) (f : Bool), vs = [.ref a, .int (n : Nat), .bl f] ∧ H a = some (.lst (xs.map fun x => V.int (x : Nat))) ∧ xs.length ≤ 1000 ∧ ∀ H' p, Same H H' → H p = none → H' p = some (.lst ((insT f n xs).map fun x => V.int (x : Nat))) → Q (.ref p) H'
theorem ok_with_timer {f : Addr} {fd : FuncData} (F : Fun K "with_timer" "with_timer" s_with_timer f fd) : FnOk P w K mg base CX0 1 f fd ["numbers", "number", "front"] spWithTimer := by
  refine F.ok sc_with_timer (fun vs H Q E h => ?_) (fun cdv A outer s H vs Q E hr h => ?_)
  · obtain ⟨a, xs, n, fr, rfl, _⟩ := h
    rfl
  · obtain ⟨a, xs, n, fr, rfl, ha, hl, q⟩ := h
    refine ⟨_, (pss_cons (ps_if (pt_val (pv 2))
        (pss_one (ps_ret (pe_op op_cat (pe_lst (pa_cons (pv 1) pa_nil)) (pv 0))))
        pss_nil)
      (pss_one (ps_ret (pe_op op_cat (pv 0) (pe_lst (pa_cons (pv 1) pa_nil)))))), ?_⟩
    refine ⟨_, rfl, fr, rfl, ?_⟩
    cases fr with
    | true =>
      refine iteT ⟨_, rfl, by simp [sizeLine_eq], fun p1 h1 => ?_⟩
      have s1 := same_upd (o := .lst [.int (n : Nat)]) h1
      refine ⟨_, rfl, p1, a, _, _, rfl, rfl, upd_same, s1 _ _ ha, ?_, fun p hp => ?_⟩
      · rw [List.length_map]
        exact sizeLine_le (by show 1 + xs.length ≤ 1000000; omega)
      · exact q _ p (s1.trans (same_upd hp)) (s1.free hp) upd_same
    | false =>
      refine iteF ⟨_, rfl, _, rfl, by simp [sizeLine_eq], fun p1 h1 => ?_⟩
      have s1 := same_upd (o := .lst [.int (n : Nat)]) h1
      refine ⟨a, p1, _, _, rfl, rfl, s1 _ _ ha, upd_same, ?_, fun p hp => ?_⟩
      · rw [List.length_map]
        exact sizeLine_le (by show xs.length + 1 ≤ 1000000; omega)
      · refine q _ p (s1.trans (same_upd hp)) (s1.free hp) ?_
        rw [upd_same]
        unfold insT
        rw [if_neg (by decide), List.map_append]
        rfl
end
/-- the order of timers that are set at these ticks and due at one tick -/
noncomputable def orderP (b : Nat) (ws : List Bool) (d : Nat) (ps : List (Nat × Nat)) : List Nat := ps.foldl (fun acc r => insT (sideT b ws r.2 d 0) r.1 acc) []
theorem orderP_snoc (b : Nat) (ws : List Bool) (d : Nat) (ps : List (Nat × Nat)) (r : Nat × Nat) : orderP b ws d (ps ++ [r]) = insT (sideT b ws r.2 d 0) r.1 (orderP b ws d ps) := by
  unfold orderP
  rw [List.foldl_append]
  rfl
theorem orderP_len (b : Nat) (ws : List Bool) (d : Nat) (ps : List (Nat × Nat)) : (orderP b ws d ps).length = ps.length := by
  have H : ∀ (ps : List (Nat × Nat)) (acc : List Nat), (ps.foldl (fun acc r => insT (sideT b ws r.2 d 0) r.1 acc) acc).length = acc.length + ps.length := by
    intro ps
    induction ps with
    | nil => intro acc; rfl
    | cons r ps ih =>
      intro acc
      rw [List.foldl_cons, ih, insT_len, List.length_cons]
      omega
  have z := H ps []
  rw [List.length_nil, Nat.zero_add] at z
  exact z
def setsOf (t : Nat) (ms : List Tm) : List (Nat × Nat) := (ms.filter fun m => decide (m.due = t)).map fun m => (m.num, m.since)
theorem order_P (b : Nat) (ws : List Bool) (t : Nat) (ms : List Tm) : orderAt b ws t ms = orderP b ws t (setsOf t ms) := by
  have H : ∀ (ms : List Tm) (acc : List Nat), ms.foldl (fun acc m => if m.due = t then insT (sideT b ws m.since m.due 0) m.num acc else acc) acc = (setsOf t ms).foldl (fun acc r => insT (sideT b ws r.2 t 0) r.1 acc) acc := by
    intro ms
    induction ms with
    | nil => intro acc; rfl
    | cons m ms ih =>
      intro acc
      rw [List.foldl_cons, ih]
      by_cases e : m.due = t
      · have z : setsOf t (m :: ms) = (m.num, m.since) :: setsOf t ms := by
          unfold setsOf
          rw [List.filter_cons_of_pos (by simpa using e)]
          rfl
        rw [z, List.foldl_cons, if_pos e, e]
      · have z : setsOf t (m :: ms) = setsOf t ms := by
          unfold setsOf
          rw [List.filter_cons_of_neg (by simpa using e)]
        rw [z, if_neg e]
  exact H ms []
/-- at the places ts stand tuples of a number and a tick -/
def PrAt (H : Hp) : List Addr → List (Nat × Nat) → Prop
  | [], [] => True
  | t :: ts, r :: rs => H t = some (.tup [.int (r.1 : Nat), .int (r.2 : Nat)]) ∧ PrAt H ts rs
  | _, _ => False
theorem PrAt.frame {H H' : Hp} : ∀ {ts : List Addr} {rs : List (Nat × Nat)}, PrAt H ts rs → (∀ t xs, H t = some (.tup xs) → H' t = some (.tup xs)) → PrAt H' ts rs
  | [], [], _, _ => trivial
  | _ :: _, _ :: _, h, s => ⟨s _ _ h.1, h.2.frame s⟩
  | [], _ :: _, h, _ => h.elim
  | _ :: _, [], h, _ => h.elim
theorem PrAt.app {H : Hp} {t : Addr} {r : Nat × Nat} : ∀ {ts : List Addr} {rs : List (Nat × Nat)}, PrAt H ts rs → H t = some (.tup [.int (r.1 : Nat), .int (r.2 : Nat)]) → PrAt H (ts ++ [t]) (rs ++ [r])
  | [], [], _, h => ⟨h, trivial⟩
  | _ :: _, _ :: _, h, h2 => ⟨h.1, h.2.app h2⟩
  | [], _ :: _, h, _ => h.elim
  | _ :: _, [], h, _ => h.elim
theorem PrAt.len {H : Hp} : ∀ {ts : List Addr} {rs : List (Nat × Nat)}, PrAt H ts rs → ts.length = rs.length
  | [], [], _ => rfl
  | _ :: _, _ :: _, h => congrArg Nat.succ h.2.len
  | [], _ :: _, h => h.elim
  | _ :: _, [], h => h.elim
theorem PrAt.item {H : Hp} : ∀ {ts : List Addr} {rs : List (Nat × Nat)} {i : Nat} {x : V}, PrAt H ts rs → (ts.map V.ref)[i]? = some x → ∃ t r, x = V.ref t ∧ rs[i]? = some r ∧ H t = some (.tup [.int (r.1 : Nat), .int (r.2 : Nat)])
  | t :: _, r :: _, 0, x, h, e => ⟨t, r, (Option.some.inj e).symm, rfl, h.1⟩
  | _ :: _, _ :: _, i + 1, _, h, e => h.2.item (i := i) e
  | [], _, _, _, _, e => by simp at e
  | _ :: _, [], _, _, h, _ => h.elim
/-- a list made over the items of a dict -/
theorem lc_items {d : Addr} {o : Obj} {kvs : List (Key × V)} {g : TG} {tt : TT} {te : TE} {ws : List Nat} {σ : L2.St} {G : Hp} {D : Addr} {Qd : Hp → Prop} (Pv : Nat → Hp → Prop) (start : Pv 0 (upd G D (.lst []))) (lock : ∀ i G, Pv i G → G d = some (.frz o (.dK kvs)))
    (step : ∀ (i : Nat) (k : Key) (v : V) (T : Addr) (G : Hp), kvs[i]? = some (k, v) → Pv i G → G T = none → g (.ref T) (wipe σ ws) (upd G T (.tup [kV k, v])) fun τ G2 => wipe τ ws = wipe σ ws ∧ tt τ G2 fun c G3 => if c = true then te τ G3 fun z G4 => ∃ ac, G4 D = some (.lst ac) ∧ ac.length < sizeLine ∧ Pv (i + 1) (upd G4 D (.lst (ac ++ [z]))) else Pv (i + 1) G3)
    (last : ∀ G, Pv kvs.length G → Qd G) : ∃ W : Nat → Nat → Hp → Prop, (∃ m, W 0 m (upd G D (.lst []))) ∧ ∀ i m G, W i m G → ((Iti d o kvs).stop i G ∧ Qd G) ∨
      ((Iti d o kvs).go i G ∧ ∃ N : Hp → Prop, (∀ G', N G' → ∃ m', m' < m ∧ W (i + 1) m' G') ∧ ∀ x G', (Iti d o kvs).yld i G x G' → g x (wipe σ ws) G' fun τ G2 => wipe τ ws = wipe σ ws ∧ tt τ G2 fun c G3 => if c = true then te τ G3 fun z G4 => ∃ ac, G4 D = some (.lst ac) ∧ ac.length < sizeLine ∧ N (upd G4 D (.lst (ac ++ [z]))) else N G3) := by
  refine ⟨fun i m G => (m = kvs.length - i ∧ i ≤ kvs.length) ∧ Pv i G, ⟨kvs.length, ⟨rfl, Nat.zero_le _⟩, start⟩, ?_⟩
  rintro i m G ⟨⟨rfl, le⟩, pv⟩
  have here := lock i G pv
  rcases Nat.lt_or_ge i kvs.length with lt | ge
  · refine .inr ⟨⟨here, lt⟩, Pv (i + 1), fun G' p' => ⟨kvs.length - (i + 1), by omega, ⟨rfl, lt⟩, p'⟩, fun x G' y => ?_⟩
    obtain ⟨T, k, v, e, rfl, nT, rfl⟩ := y
    exact step i k v T G e pv nT
  · have e : i = kvs.length := Nat.le_antisymm le ge
    rw [e] at pv ⊢
    exact .inl ⟨⟨here, Nat.le_refl _⟩, last G pv⟩
section
variable {P : Program} {w : World} {K : PySem.W.Frag} {mg : Str → Option Value} {base : Heap}
def spFiringOrder (K : PySem.W.Frag) : Sp := fun vs H Q _ => ∃ (b d : Nat) (q S : Addr) (ws : List Bool) (ts : List Addr) (ps : List (Nat × Nat)), vs = [.int (b : Nat), .ref q, .int (d : Nat), .ref S] ∧ 2 ≤ b ∧ b ≤ 64 ∧ SqL K H q (ws.map lvV) ∧ ws ≠ [] ∧ H S = some (.lst (ts.map V.ref)) ∧ PrAt H ts ps ∧ ps.length ≤ 1000 ∧ (∀ r ∈ ps, r.2 < d ∧ d < 2 ^ 250) ∧
  ∀ H' p, Same H H' → H p = none → H' p = some (.lst ((orderP b ws d ps).map fun x => V.int (x : Nat))) → Q (.ref p) H'
theorem ok_firing_order {f : Addr} {fd : FuncData} (F : Fun K "firing_order" "firing_order" s_firing_order f fd) (h1 : Has P w K mg base 1 "with_timer" ["numbers", "number", "front"] [] spWithTimer)
    (h2 : Has P w K mg base 3 "goes_in_front" ["base", "levels", "now", "due", "lowest"] [] (spFront K)) : FnOk P w K mg base CX0 4 f fd ["base", "levels", "due", "settings"] (spFiringOrder K) := by
  obtain ⟨f_with_timer, fd_with_timer, ds_with_timer, G_with_timer, m_with_timer, k_with_timer, b_with_timer, v_with_timer⟩ := h1
  obtain ⟨f_goes_in_front, fd_goes_in_front, ds_goes_in_front, G_goes_in_front, m_goes_in_front, k_goes_in_front, b_goes_in_front, v_goes_in_front⟩ := h2
  refine F.ok sc_firing_order (fun vs H Q E h => ?_) (fun cdv A outer s H vs Q E hr h => ?_)
  · obtain ⟨b, d, q, S, ws, ts, ps, rfl, _⟩ := h
    rfl
  · obtain ⟨b, d, q, S, ws, ts, ps, rfl, hb, hb64, hL, hne, hS, hP, few, ok, c⟩ := h
    refine ⟨_, (pss_cons (ps_set (i := 4) sc_firing_order.nd rfl (.inl rfl) (pe_lst pa_nil))
      (pss_cons (ps_for PassesOwn.never rfl (pi_list (pv 3)) (pg_tupK (K := K) (n := 2) rfl rfl (pgs_cons (pg_name (i := 5) sc_firing_order.nd rfl (.inl rfl)) (pgs_cons (pg_name (i := 6) sc_firing_order.nd rfl (.inl rfl)) pgs_nil)))
        (pss_one (ps_set (i := 4) sc_firing_order.nd rfl (.inl rfl) (pe_call G_with_timer (hr.mono (by decide)) (by rfl) m_with_timer k_with_timer b_with_timer v_with_timer pass0 (pa_cons (pv 4) (pa_cons (pv 5) (pa_cons (pe_call G_goes_in_front hr (by rfl) m_goes_in_front k_goes_in_front b_goes_in_front v_goes_in_front pass0 (pa_cons (pv 0) (pa_cons (pv 1) (pa_cons (pv 6) (pa_cons (pv 2) (pa_cons pe_int pa_nil)))))) pa_nil)))))))
      (pss_one (ps_ret (pv 4))))), ?_⟩
    refine ⟨by simp [sizeLine_eq], fun p0 hp0 => ?_⟩
    have s0 := same_upd (o := .lst []) hp0
    have e0 : (upd H p0 (.lst [])) p0 = some (.lst []) := upd_same
    generalize upd H p0 (.lst []) = H0 at s0 e0 ⊢
    have hS0 := s0 _ _ hS
    refine ⟨_, rfl, S, rfl, ⟨_, SqL.of hS0⟩, for_list (K := K) (a := S) (xs := ts.map V.ref) (fun i σ H' => ∃ (p : Addr) (y5 y6 : Option V), σ = [some (.int (b : Nat)), some (.ref q), some (.int (d : Nat)), some (.ref S), some (.ref p), y5, y6] ∧ Same H0 H' ∧ H p = none ∧ H' p = some (.lst ((orderP b ws d (ps.take i)).map fun x => V.int (x : Nat))))
      ⟨p0, none, none, rfl, Same.refl _, hp0, e0⟩ (fun i σ H' _ ⟨_, _, _, _, sm, _⟩ => SqL.of (sm _ _ hS0)) ?_ ?_⟩
    · rintro i x σ H' hx ⟨p, y5, y6, rfl, sm, hp, eP⟩
      have hP' := hP.frame (H' := H') (fun t xs e => sm _ _ (s0 _ _ e))
      obtain ⟨t, r, rfl, hr2, ht⟩ := hP'.item hx
      obtain ⟨hrd, hd⟩ := ok r (List.mem_of_getElem? hr2)
      refine ⟨t, _, rfl, .inl (.inl ht), rfl, _, _, rfl, _, _, rfl, rfl, ?_⟩
      have hfew : (orderP b ws d (ps.take i)).length ≤ 1000 := by
        rw [orderP_len, List.length_take]
        omega
      refine ⟨_, rfl, _, rfl, _, rfl, _, rfl, _, rfl, _, rfl, b, r.2, d, 0, q, ws, rfl, hb, hb64, hrd, hd, (s0.trans sm).seq hL, hne, fun k2 hk2 H2 s2 => ?_⟩
      have eP2 := s2 _ _ eP
      refine ⟨p, orderP b ws d (ps.take i), r.1, frontOf ws 0 (rowsOf b r.2 d k2), rfl, eP2, hfew, fun H3 p3 s3 hp3 eP3 => ?_⟩
      refine ⟨p3, _, _, rfl, (sm.trans s2).trans s3, ((s0.trans sm).trans s2).free hp3, ?_⟩
      rw [List.take_add_one, hr2]
      show _ = some (HO.lst ((orderP b ws d (ps.take i ++ [r])).map fun x => V.int (x : Nat)))
      rw [orderP_snoc, sideT_eq hk2]
      exact eP3
    · rintro σ H' ⟨p, y5, y6, rfl, sm, hp, eP⟩
      rw [List.length_map, hP.len, List.take_length] at eP
      exact ⟨_, rfl, c _ p (s0.trans sm) hp eP⟩
end
/-! ### what fires, what is left -/
section
variable {P : Program} {w : World} {K : PySem.W.Frag} {mg : Str → Option Value} {base : Heap}
def spOrder (K : PySem.W.Frag) : Sp := fun vs H Q _ => ∃ (b t : Nat) (q l : Addr) (ws : List Bool) (kvs : List (Key × V)) (ms : List Tm), vs = [.int (b : Nat), .ref q, .ref l, .int (t : Nat)] ∧ 2 ≤ b ∧ b ≤ 64 ∧ SqL K H q (ws.map lvV) ∧ ws ≠ [] ∧ H l = some (.dK kvs) ∧ LiveK H kvs ms ∧ ms.length ≤ 1000 ∧ DuesOk ms ∧
  ∀ H' p, Same H H' → H p = none → H' p = some (.lst ((orderAt b ws t ms).map fun x => V.int (x : Nat))) → Q (.ref p) H'
theorem ok_order {f : Addr} {fd : FuncData} (F : Fun K "order_of_firing" "order_of_firing" s_order_of_firing f fd) (h1 : Has P w K mg base 4 "firing_order" ["base", "levels", "due", "settings"] [] (spFiringOrder K)) :
    FnOk P w K mg base CX0 5 f fd ["base", "levels", "live", "tick"] (spOrder K) := by
  obtain ⟨f_firing_order, fd_firing_order, ds_firing_order, G_firing_order, m_firing_order, k_firing_order, b_firing_order, v_firing_order⟩ := h1
  refine F.ok sc_order_of_firing (fun vs H Q E h => ?_) (fun cdv A outer s H vs Q E hr h => ?_)
  · obtain ⟨b, t, q, l, ws, kvs, ms, rfl, _⟩ := h
    rfl
  · obtain ⟨b, t, q, l, ws, kvs, ms, rfl, hb, hb64, hL, hne, hl, L, few, ok, c⟩ := h
    refine ⟨_, (pss_cons (ps_lock (ps_setLc (i := 4) (own := [("number", 5), ("due", 6), ("period", 7), ("since", 8)]) (g := _)  rfl sc_order_of_firing.nd rfl rfl (sw_true rfl rfl rfl (by decide +kernel)) (pi_items (pv 2)) (blkOk_by (own := [("number", 5), ("due", 6), ("period", 7), ("since", 8)]) (N := N_order_of_firing) (sc := defScope s_order_of_firing) (by decide +kernel)) (fun _ _ _ _ _ => (pg_tupK (K := K) (n := 2) rfl rfl (pgs_cons (pg_name (i := 5) sc_order_of_firing.nd rfl (.inl rfl)) (pgs_cons (pg_tupK (K := K) (n := 3) rfl rfl (pgs_cons (pg_name (i := 6) sc_order_of_firing.nd rfl (.inl rfl)) (pgs_cons (pg_name (i := 7) sc_order_of_firing.nd rfl (.inl rfl)) (pgs_cons (pg_name (i := 8) sc_order_of_firing.nd rfl (.inl rfl)) pgs_nil)))) pgs_nil)))) (fun _ _ _ _ _ => (pts_one (pt_cmpR op_eq (pv 6) (pv 3) (nomark _)))) (fun _ _ _ _ _ => (pe_tup (pa_cons (pv 5) (pa_cons (pv 8) pa_nil))))))
      (pss_one (ps_ret (pe_call G_firing_order hr (by rfl) m_firing_order k_firing_order b_firing_order v_firing_order pass0 (pa_cons (pv 0) (pa_cons (pv 1) (pa_cons (pv 3) (pa_cons (pv 4) pa_nil)))))))), ?_⟩
    refine ⟨l, _, hl, trivial, fun od => ?_⟩
    refine ⟨_, rfl, l, od, kvs, rfl, upd_same, fun D hD => lc_items (d := l) (o := od) (kvs := kvs) (fun i H' => Same (upd H l (.frz od (.dK kvs))) H' ∧ ∃ ts : List Addr, H' D = some (.lst (ts.map V.ref)) ∧ PrAt H' ts (setsOf t (ms.take i)))
      ⟨same_upd hD, [], upd_same, trivial⟩ (fun i H' ⟨sm, _⟩ => sm _ _ upd_same) ?_ ?_⟩
    · rintro i k v U H' hx ⟨sm, ts, eD, hP⟩ hU
      have L' := L.upd (o' := .frz od (.dK kvs)) hl (fun xs z => by cases z)
      obtain ⟨m, tt, hm, rfl, rfl, ht⟩ := L'.get hx
      have sU := same_upd (o := .tup [.int (m.num : Nat), .ref tt]) hU
      have ht' := sU _ _ (sm _ _ ht)
      have eD' := sU _ _ eD
      have hP' := hP.frame (H' := upd H' U (.tup [.int (m.num : Nat), .ref tt])) (fun t xs e => sU _ _ e)
      have hstep : setsOf t (ms.take (i + 1)) = setsOf t (ms.take i) ++ if m.due = t then [(m.num, m.since)] else [] := by
        rw [List.take_add_one, hm]
        show setsOf t (ms.take i ++ [m]) = _
        unfold setsOf
        rw [List.filter_append, List.map_append]
        by_cases e : m.due = t
        · rw [if_pos e, List.filter_cons_of_pos (by simpa using e)]
          rfl
        · rw [if_neg e, List.filter_cons_of_neg (by simpa using e)]
          rfl
      have hts : ts.length ≤ 1000 := by
        rw [hP.len]
        unfold setsOf
        rw [List.length_map]
        have z := List.length_filter_le (fun m : Tm => decide (m.due = t)) (ms.take i)
        rw [List.length_take] at z
        omega
      refine ⟨U, _, rfl, .inl (.inl upd_same), rfl, _, _, rfl, _, _, rfl, tt, _, rfl, .inl (.inl ht'), rfl, _, _, rfl, _, _, rfl, _, _, rfl, rfl, rfl, rfl, ?_⟩
      have sm1 := sm.trans sU
      by_cases e : m.due = t
      · refine ⟨_, rfl, _, rfl, rfl, true, dT (vE e), iteT ⟨_, rfl, _, rfl, by simp [sizeLine_eq], fun t3 ht3 => ?_⟩⟩
        have s3 := same_upd (o := .tup [.int (m.num : Nat), .int (m.since : Nat)]) ht3
        have eD3 := s3 _ _ eD'
        have n3 : t3 ≠ D := fun z => by
          rw [z] at ht3
          exact absurd (eD'.symm.trans ht3) (by intro y; cases y)
        refine ⟨_, eD3, ?_, fun c o e' => ?_, ts ++ [t3], ?_, ?_⟩
        · rw [List.length_map]
          exact sizeLine_ge (by omega)
        · rw [upd_ne (ne_of_none e' hD)]
          exact s3 _ _ (sm1 _ _ e')
        · rw [upd_same, List.map_append]
          rfl
        · rw [hstep, if_pos e]
          refine PrAt.app (r := (m.num, m.since)) (hP'.frame fun t' xs e' => ?_) ?_
          · rw [upd_ne (ne_of (s3 _ _ e') eD3 (by intro z; cases z))]
            exact s3 _ _ e'
          · rw [upd_ne n3]
            exact upd_same
      · refine ⟨_, rfl, _, rfl, rfl, false, dF (vN e), iteF ⟨sm1, ts, eD', ?_⟩⟩
        rw [hstep, if_neg e, List.append_nil]
        exact hP'
    · rintro H1 ⟨sm, ts, eD, hP⟩
      rw [L.len, List.take_length] at hP
      have nDl : D ≠ l := fun e => by
        rw [e, upd_same] at hD
        cases hD
      have s2 := unlock hl sm
      have hDn : H D = none := by
        rw [upd_ne nDl] at hD
        exact hD
      refine ⟨sm _ _ upd_same, ?_⟩
      have hP2 := hP.frame (H' := upd H1 l (.dK kvs)) (fun t' xs e' => by
        rw [upd_ne (ne_of e' (sm _ _ upd_same) (by intro z; cases z))]
        exact e')
      have eD2 : (upd H1 l (.dK kvs)) D = some (.lst (ts.map V.ref)) := by
        rw [upd_ne nDl]
        exact eD
      generalize upd H1 l (.dK kvs) = H2 at s2 hP2 eD2 ⊢
      refine ⟨_, rfl, _, rfl, _, rfl, _, rfl, b, t, q, D, ws, ts, setsOf t ms, rfl, hb, hb64, s2.seq hL, hne, eD2, hP2, ?_, ?_, fun H3 p s3 hp eP => ?_⟩
      · unfold setsOf
        rw [List.length_map]
        exact Nat.le_trans (List.length_filter_le _ _) few
      · intro r hr
        obtain ⟨m, hm, rfl⟩ := List.mem_map.mp hr
        have z := List.mem_filter.mp hm
        have e : m.due = t := by simpa using z.2
        rw [← e]
        exact ok m z.1
      · rw [← order_P] at eP
        exact c H3 p (s2.trans s3) (s2.free hp) eP
end
section
variable {P : Program} {w : World} {K : PySem.W.Frag} {mg : Str → Option Value} {base : Heap}
def spAfter : Sp := fun vs H Q _ => ∃ (l a : Addr) (t : Nat) (ns : List Nat) (kvs : List (Key × V)) (ms : List Tm), vs = [.ref l, .ref a, .int (t : Nat)] ∧ H l = some (.dK kvs) ∧ LiveK H kvs ms ∧ ms.length ≤ 1000 ∧ (ms.map (·.num)).Nodup ∧ H a = some (.lst (ns.map fun x => V.int (x : Nat))) ∧ Firing t ms ns ∧
  ∀ H' p kvs', Same H H' → H p = none → H' p = some (.dK kvs') → LiveK H' kvs' (afterF t ms ns) → Q (.ref p) H'
theorem ok_after {f : Addr} {fd : FuncData} (F : Fun K "after_firing" "after_firing" s_after_firing f fd) (T : Tx K mg) : FnOk P w K mg base CX0 1 f fd ["live", "numbers", "tick"] spAfter := by
  refine F.ok sc_after_firing (fun vs H Q E h => ?_) (fun cdv A outer s H vs Q E hr h => ?_)
  · obtain ⟨l, a, t, ns, kvs, ms, rfl, _⟩ := h
    rfl
  · obtain ⟨l, a, t, ns, kvs, ms, rfl, hl, L, few, nd, ha, fr, c⟩ := h
    have hu := hu_of hr
    refine ⟨_, (pss_cons (ps_set (i := 3) sc_after_firing.nd rfl (.inl rfl) (pe_callTy call_dictD (by rfl) T.b_dict (by decide +kernel) (pa_cons (pv 0) pa_nil)))
      (pss_cons (ps_for PassesOwn.never rfl (pi_list (pv 1)) (pg_name (i := 4) sc_after_firing.nd rfl (.inl rfl))
        (pss_cons (ps_asg (pe_dpop1 (pv 3) (pv 4) ⟨by rfl, by rfl, by rfl, by rfl⟩) (pg_tupK (K := K) (n := 3) rfl rfl (pgs_cons (pg_name (i := 5) sc_after_firing.nd rfl (.inl rfl)) (pgs_cons (pg_name (i := 6) sc_after_firing.nd rfl (.inl rfl)) (pgs_cons (pg_name (i := 7) sc_after_firing.nd rfl (.inl rfl)) pgs_nil)))))
        (pss_one (ps_if (pt_cmpR op_notN (pv 6) pe_non (nomark _))
          (pss_one (ps_dput hu (pv 3) (pv 4) (pe_tup (pa_cons (pe_op op_add (pv 2) (pv 6)) (pa_cons (pv 6) (pa_cons (pv 2) pa_nil)))) rfl))
          pss_nil))))
      (pss_one (ps_ret (pv 3))))), ?_⟩
    refine ⟨_, rfl, l, kvs, rfl, .inl hl, fun p hp => ?_⟩
    have s0 := same_upd (o := .dK kvs) hp
    have npa : p ≠ a := fun e => by
      rw [e, ha] at hp
      cases hp
    refine ⟨_, rfl, a, rfl, ⟨_, SqL.of (s0 _ _ ha)⟩, for_list (K := K) (a := a) (xs := ns.map fun x => V.int (x : Nat)) (fun i σ H' => ∃ (y4 y5 y6 y7 : Option V) (kvs' : List (Key × V)), σ = [some (.ref l), some (.ref a), some (.int (t : Nat)), some (.ref p), y4, y5, y6, y7] ∧ Same H H' ∧ H' p = some (.dK kvs') ∧ LiveK H' kvs' (afterF t ms (ns.take i)) ∧ ((afterF t ms (ns.take i)).map (·.num)).Nodup ∧ (afterF t ms (ns.take i)).length ≤ 1000 ∧ ∀ (x : Nat), (∃ j, i ≤ j ∧ ns[j]? = some x) → ∃ m ∈ afterF t ms (ns.take i), m.num = x)
      ⟨none, none, none, none, kvs, rfl, s0, upd_same, L.same s0, nd, few, fun x ⟨j, _, hj⟩ => fr.mem x (List.mem_of_getElem? hj)⟩ (fun i σ H' _ ⟨_, _, _, _, _, _, sm, _⟩ => SqL.of (sm _ _ ha)) ?_ ?_⟩
    · rintro i x σ H' hx ⟨y4, y5, y6, y7, kvs', rfl, sm, eP, L', nd', few', hin⟩
      rw [List.getElem?_map] at hx
      obtain ⟨n, hn, rfl⟩ : ∃ n, ns[i]? = some n ∧ x = V.int (n : Nat) := by
        cases e : ns[i]? with
        | none =>
          rw [e] at hx
          cases hx
        | some n =>
          rw [e] at hx
          exact ⟨n, rfl, (Option.some.inj hx).symm⟩
      obtain ⟨m, hm, en⟩ := hin n ⟨i, Nat.le_refl i, hn⟩
      have hfind := find_of nd' hm
      rw [en] at hfind
      obtain ⟨tt, hv, ht⟩ := L'.val_of nd' hm
      rw [en] at hv
      have estep : afterF t ms (ns.take (i + 1)) = fireT t (afterF t ms (ns.take i)) n := by
        unfold afterF
        rw [List.take_add_one, hn, List.foldl_append]
        rfl
      generalize hms : afterF t ms (ns.take i) = ms1 at L' nd' few' hin hm hfind estep
      have hnext : ∀ (x : Nat), (∃ j, i + 1 ≤ j ∧ ns[j]? = some x) → ∃ m ∈ fireT t ms1 n, m.num = x := fun x ⟨j, hj, ej⟩ => by
        refine fire_num (fun e => ?_) (hin x ⟨j, by omega, ej⟩)
        rw [e] at ej
        have hjl : j < ns.length := (List.getElem?_eq_some_iff.mp ej).1
        have := (List.getElem?_inj (i := i) (j := j) (List.getElem?_eq_some_iff.mp hn).1 fr.nd).mp (hn.trans ej.symm)
        omega
      refine ⟨_, rfl, p, rfl, .inl ⟨_, .inl eP⟩, _, rfl, kvs', Sum.inl (n : Int), _, eP, rfl, hv, ?_⟩
      have Ld := (L'.drop (n := n)).upd (o' := .dK (dropK kvs' (Sum.inl (n : Int)))) eP (fun xs z => by cases z)
      have ntp : tt ≠ p := ne_of ht eP (by intro z; cases z)
      have ht2 : (upd H' p (.dK (dropK kvs' (Sum.inl (n : Int))))) tt = some (.tup (tmV m)) := by
        rw [upd_ne ntp]
        exact ht
      have sd : Same H (upd H' p (.dK (dropK kvs' (Sum.inl (n : Int))))) := fun b o e => by
        rw [upd_ne (ne_of_none e hp)]
        exact sm _ _ e
      refine ⟨tt, _, rfl, .inl (.inl ht2), rfl, _, _, rfl, _, _, rfl, _, _, rfl, rfl, ?_⟩
      cases hper : m.per with
      | none =>
        have ef : fireT t ms1 n = dropT n ms1 := by rw [fire_some hfind, hper]
        refine ⟨perV none, rfl, rfl, false, ?_, iteF ?_⟩
        · rfl
        · refine ⟨_, _, _, _, _, rfl, sd, upd_same, ?_, ?_, ?_, ?_⟩
          · rw [estep, ef]
            exact Ld
          · rw [estep]
            exact fire_nodup nd'
          · rw [estep]
            exact Nat.le_trans fire_len few'
          · rw [estep]
            exact hnext
      | some k =>
        have ef : fireT t ms1 n = dropT n ms1 ++ [⟨n, t + k, some k, t⟩] := by rw [fire_some hfind, hper]
        refine ⟨perV (some k), rfl, rfl, true, ?_, iteT ?_⟩
        · rfl
        · have hvn := Ld.val_not (n := n) (fun m' hm' => drop_not m' hm')
          have hlen : (dropK kvs' (Sum.inl (n : Int))).length < sizeLine := by
            have z := dropK_le kvs' (Sum.inl (n : Int) : Key)
            rw [L'.len] at z
            exact sizeLine_ge (by omega)
          refine ⟨_, rfl, .int (k : Nat), rfl, _, _, rfl, rfl, .int (k : Nat), rfl, _, rfl, by simp [sizeLine_eq], fun u hu0 => ?_⟩
          have su := same_upd (o := .tup [.int ((t : Int) + (k : Int)), .int (k : Nat), .int (t : Nat)]) hu0
          have nup : p ≠ u := fun e => by
            rw [← e, upd_same] at hu0
            cases hu0
          refine ⟨_, rfl, _, rfl, p, _, rfl, DPut.k (k := Sum.inl (n : Int)) (su _ _ upd_same) hlen, ?_⟩
          rw [putK_new _ hvn]
          refine ⟨_, _, _, _, _, rfl, fun b o e => ?_, upd_same, ?_, ?_, ?_, ?_⟩
          · rw [upd_ne (ne_of_none e hp)]
            exact su _ _ (sd _ _ e)
          · rw [estep, ef]
            refine LiveK.upd (su _ _ upd_same) (fun xs z => by cases z) ?_
            exact (Ld.same su).snoc (m := ⟨n, t + k, some k, t⟩) rfl upd_same
          · rw [estep]
            exact fire_nodup nd'
          · rw [estep]
            exact Nat.le_trans fire_len few'
          · rw [estep]
            exact hnext
    · rintro σ H' ⟨y4, y5, y6, y7, kvs', rfl, sm, eP, L', _⟩
      rw [List.length_map, List.take_length] at L'
      exact ⟨_, rfl, c H' p kvs' sm hp eP L'⟩
end
/-! ### a wheel in the heap -/
def wfl (b : Nat) (q : Addr) (t f : Nat) (l : Addr) : List (Str × V) := [("base", .int (b : Nat)), ("words", .ref q), ("tick", .int (t : Nat)), ("following", .int (f : Nat)), ("live", .ref l)]
theorem ne_bw : ¬ (("base" : Str) = "words") := by decide +kernel
theorem ne_bt : ¬ (("base" : Str) = "tick") := by decide +kernel
theorem ne_bf : ¬ (("base" : Str) = "following") := by decide +kernel
theorem ne_bl : ¬ (("base" : Str) = "live") := by decide +kernel
theorem ne_wt : ¬ (("words" : Str) = "tick") := by decide +kernel
theorem ne_wf : ¬ (("words" : Str) = "following") := by decide +kernel
theorem ne_wl : ¬ (("words" : Str) = "live") := by decide +kernel
theorem ne_tf : ¬ (("tick" : Str) = "following") := by decide +kernel
theorem ne_tl : ¬ (("tick" : Str) = "live") := by decide +kernel
theorem ne_fl : ¬ (("following" : Str) = "live") := by decide +kernel
theorem lk_hit {k : Str} {v : V} {r : List (Str × V)} : List.lookup k ((k, v) :: r) = some v := by simp [List.lookup]
theorem lk_miss {k g : Str} {v : V} {r : List (Str × V)} (h : ¬ g = k) : List.lookup k ((g, v) :: r) = List.lookup k r := by
  have e : (k == g) = false := by simpa using fun z : k = g => h z.symm
  rw [List.lookup, e]
theorem pt_hit {k : Str} {v x : V} {r : List (Str × V)} : putF k v ((k, x) :: r) = (k, v) :: r := if_pos rfl
theorem pt_miss {k g : Str} {v x : V} {r : List (Str × V)} (h : ¬ g = k) : putF k v ((g, x) :: r) = (g, x) :: putF k v r := if_neg h
theorem pt_nil {k : Str} {v : V} : putF k v [] = [(k, v)] := rfl
section
variable {b : Nat} {q : Addr} {t f : Nat} {l : Addr}
theorem wf_b : (wfl b q t f l).lookup ("base" : Str) = some (.int (b : Nat)) := lk_hit
theorem wf_w : (wfl b q t f l).lookup ("words" : Str) = some (.ref q) := (lk_miss ne_bw).trans lk_hit
theorem wf_t : (wfl b q t f l).lookup ("tick" : Str) = some (.int (t : Nat)) := (lk_miss ne_bt).trans ((lk_miss ne_wt).trans lk_hit)
theorem wf_f : (wfl b q t f l).lookup ("following" : Str) = some (.int (f : Nat)) := (lk_miss ne_bf).trans ((lk_miss ne_wf).trans ((lk_miss ne_tf).trans lk_hit))
theorem wf_l : (wfl b q t f l).lookup ("live" : Str) = some (.ref l) := (lk_miss ne_bl).trans ((lk_miss ne_wl).trans ((lk_miss ne_tl).trans ((lk_miss ne_fl).trans lk_hit)))
theorem wf_no {m : Str} (h1 : ¬ ("base" : Str) = m) (h2 : ¬ ("words" : Str) = m) (h3 : ¬ ("tick" : Str) = m) (h4 : ¬ ("following" : Str) = m) (h5 : ¬ ("live" : Str) = m) : (wfl b q t f l).lookup m = none :=
  (lk_miss h1).trans ((lk_miss h2).trans ((lk_miss h3).trans ((lk_miss h4).trans ((lk_miss h5).trans rfl))))
theorem wf_pt {t' : Nat} : putF "tick" (.int (t' : Nat)) (wfl b q t f l) = wfl b q t' f l := by
  unfold wfl
  rw [pt_miss ne_bt, pt_miss ne_wt, pt_hit]
theorem wf_pf {f' : Nat} : putF "following" (.int (f' : Nat)) (wfl b q t f l) = wfl b q t f' l := by
  unfold wfl
  rw [pt_miss ne_bf, pt_miss ne_wf, pt_miss ne_tf, pt_hit]
theorem wf_pl {l' : Addr} : putF "live" (.ref l') (wfl b q t f l) = wfl b q t f l' := by
  unfold wfl
  rw [pt_miss ne_bl, pt_miss ne_wl, pt_miss ne_tl, pt_miss ne_fl, pt_hit]
end
structure WheelAt (C : Addr) (H : Hp) (p q l : Addr) (W : WS) : Prop where
  ins : ∃ dx, H p = some (.ins C dx (wfl W.b q W.tick W.fol l))
  words : H q = some (.lst (W.ws.map lvV))
  live : ∃ kvs, H l = some (.dK kvs) ∧ LiveK H kvs W.live
/-- all but the wheel (its object p, its dict l) stands as it was; its dict is the old one or a new one -/
structure Wk (p l : Addr) (H H' : Hp) (l' : Addr) : Prop where
  keep : ∀ c o, c ≠ p → c ≠ l → H c = some o → H' c = some o
  new : l' = l ∨ H l' = none
theorem WheelAt.same {C : Addr} {H H' : Hp} {p q l : Addr} {W : WS} (s : Same H H') (w : WheelAt C H p q l W) : WheelAt C H' p q l W := by
  obtain ⟨dx, h⟩ := w.ins
  obtain ⟨kvs, h2, L⟩ := w.live
  exact ⟨⟨dx, s _ _ h⟩, s _ _ w.words, ⟨kvs, s _ _ h2, L.same s⟩⟩
theorem WheelAt.frame {C : Addr} {H H' : Hp} {p q l a : Addr} {W : WS} {xs : List V} (w : WheelAt C H p q l W) (ha : H a = some (.lst xs)) (hq : a ≠ q) (s : ∀ c o, c ≠ a → H c = some o → H' c = some o) : WheelAt C H' p q l W := by
  obtain ⟨dx, h⟩ := w.ins
  obtain ⟨kvs, h2, L⟩ := w.live
  refine ⟨⟨dx, s _ _ (ne_of h ha (by intro z; cases z)) h⟩, s _ _ (Ne.symm hq) w.words, ⟨kvs, s _ _ (ne_of h2 ha (by intro z; cases z)) h2, L.frame fun t m e => s _ _ (ne_of e ha (by intro z; cases z)) e⟩⟩
structure TxW (K : PySem.W.Frag) (mg : Str → Option Value) (C : Addr) : Prop where
  cl : Cls K C
  nB : NoAttr K C "base"
  nW : NoAttr K C "words"
  nT : NoAttr K C "tick"
  nF : NoAttr K C "following"
  nL : NoAttr K C "live"
  mgC : mg "Wheel" = some (.ref C)
section
variable {P : Program} {w : World} {K : PySem.W.Frag} {mg : Str → Option Value} {base : Heap}
/-- a method that keeps its promise -/
def HasM (P : Program) (w : World) (K : PySem.W.Frag) (mg : Str → Option Value) (base : Heap) (k : Nat) (C : Addr) (m : Str) (ps : List Str) (dvs : List V) (sp : Sp) : Prop :=
  ∃ (f : Addr) (fd : FuncData) (ds : List Value), FnOk P w K mg base CX0 k f fd ps sp ∧ Meth K C m f ∧ Binds K fd ps ds ∧ Vals dvs ds
end
/-! ### a period, of an integer -/
section
variable {P : Program} {w : World} {K : PySem.W.Frag} {mg : Str → Option Value} {base : Heap}
def spIsPeriod : Sp := fun vs H Q _ => ∃ n : Int, vs = [.int n] ∧ 1 ≤ n ∧ Q (.bl true) H
theorem ok_is_period {f : Addr} {fd : FuncData} (F : Fun K "is_period" "is_period" s_is_period f fd) (h1 : Has P w K mg base 1 "is_integer" ["given"] [] spIsInt) : FnOk P w K mg base CX0 2 f fd ["given"] spIsPeriod := by
  obtain ⟨f_is_integer, fd_is_integer, ds_is_integer, G_is_integer, m_is_integer, k_is_integer, b_is_integer, v_is_integer⟩ := h1
  refine F.ok sc_is_period (fun vs H Q E h => ?_) (fun cdv A outer s H vs Q E hr h => ?_)
  · obtain ⟨n, rfl, _⟩ := h
    rfl
  · obtain ⟨n, rfl, l1, q⟩ := h
    refine ⟨_, (pss_one (ps_ret (pe_and (pe_call G_is_integer hr (by rfl) m_is_integer k_is_integer b_is_integer v_is_integer pass0 (pa_cons (pv 0) pa_nil)) (pe_one (pe_cmpR op_ge (pv 0) pe_int (nomark _)))))), ?_⟩
    refine ⟨.int n, rfl, n, rfl, true, rfl, iteT ?_⟩
    refine ⟨.int n, rfl, n, 1, rfl, rfl, ?_⟩
    have e : V.bl (decide (n ≥ 1)) = V.bl true := dT l1
    show Q (V.bl (decide (n ≥ 1))) H
    rw [e]
    exact q
end
section
variable {P : Program} {w : World} {K : PySem.W.Frag} {mg : Str → Option Value} {base : Heap}
def trimN (ws : List Bool) : Nat → Nat
  | 0 => 0
  | n + 1 => if 1 ≤ n ∧ ws[n]? = ws[n - 1]? then trimN ws n else n + 1
def trimW (ws : List Bool) : List Bool := ws.take (trimN ws ws.length)
theorem trimN_le (ws : List Bool) : ∀ n, trimN ws n ≤ n
  | 0 => Nat.le_refl _
  | n + 1 => by
    unfold trimN
    split
    · exact Nat.le_succ_of_le (trimN_le ws n)
    · exact Nat.le_refl _
theorem trimN_pos (ws : List Bool) : ∀ n, 1 ≤ n → 1 ≤ trimN ws n
  | 0, h => h
  | n + 1, _ => by
    unfold trimN
    split
    · rename_i h
      exact trimN_pos ws n h.1
    · omega
theorem trim_ne {ws : List Bool} (h : ws ≠ []) : trimW ws ≠ [] := by
  have hp : 0 < ws.length := List.length_pos_iff.mpr h
  have z := trimN_pos ws ws.length hp
  intro e
  have e2 := congrArg List.length e
  unfold trimW at e2
  rw [List.length_take] at e2
  have e3 : ([] : List Bool).length = 0 := rfl
  omega
theorem trim_len (ws : List Bool) : (trimW ws).length ≤ ws.length := by
  unfold trimW
  rw [List.length_take]
  omega
def spRepeats (K : PySem.W.Frag) : Sp := fun vs H Q _ => ∃ (q : Addr) (ws : List Bool), vs = [.ref q] ∧ SqL K H q (ws.map lvV) ∧ ws ≠ [] ∧ ws.length ≤ 60 ∧ ∀ H' p, Same H H' → H p = none → H' p = some (.lst ((trimW ws).map lvV)) → Q (.ref p) H'
theorem lv_inj {a b : Bool} : lvV a = lvV b ↔ a = b := by
  cases a <;> cases b <;> decide
theorem ok_repeats {f : Addr} {fd : FuncData} (F : Fun K "without_repeats" "without_repeats" s_without_repeats f fd) (T : Tx K mg) : FnOk P w K mg base CX0 1 f fd ["levels"] (spRepeats K) := by
  refine F.ok sc_without_repeats (fun vs H Q E h => ?_) (fun cdv A outer s H vs Q E hr h => ?_)
  · obtain ⟨q, ws, rfl, _⟩ := h
    rfl
  · obtain ⟨q, ws, rfl, hL, hne, h60, c⟩ := h
    refine ⟨_, (pss_cons (ps_set (i := 1) sc_without_repeats.nd rfl (.inl rfl) (pe_callB (lenK (K := K) rfl) (by rfl) T.b_len PySem.boot_len (pa_cons (pv 0) pa_nil)))
      (pss_cons (ps_while PassesOwn.never (PW.pt (pw_and (pt_cmpR op_gt (pv 1) pe_int (nomark _)) (pw_and1 (pt_cmpR op_eq (pe_ix (ix_listK (K := K) rfl) (pv 0) (pe_op op_subN (pv 1) pe_int) (fun _ _ => rfl)) (pe_ix (ix_listK (K := K) rfl) (pv 0) (pe_op op_subN (pv 1) pe_int) (fun _ _ => rfl)) (nomark _)))))
        (pss_one (ps_aug (i := 1) sc_without_repeats.nd rfl (.inl rfl) pe_int ip_sub)))
      (pss_one (ps_ret (pe_slice (sl_listK (K := K) rfl) (pv 0) po_none (po_some (pv 1))))))), ?_⟩
    refine ⟨.ref q, rfl, q, _, rfl, .inl hL, ?_⟩
    refine while_by (fun σ H' => ∃ n : Nat, σ = [some (.ref q), some (.int (n : Nat))] ∧ H' = H ∧ 1 ≤ n ∧ n ≤ ws.length ∧ trimN ws ws.length = trimN ws n) (fun σ _ => slotInt σ 1) ⟨ws.length, by rw [List.length_map]; rfl, rfl, List.length_pos_iff.mpr hne, Nat.le_refl _, rfl⟩ ?_ ?_
    · rintro σ H' ⟨n, rfl, rfl, h1, hn, et⟩
      have fin : n = trimN ws n → tRet (tSl (rSlL K) (tVar 0) tNoPart (tPart (tVar 1))) { nx := fun _ H' => Q .non H', rt := Q } [some (.ref q), some (.int (n : Nat))] H' := fun e => by
        refine ⟨_, rfl, _, rfl, _, rfl, q, _, rfl, hL, fun p hp => ?_⟩
        refine c _ p (same_upd hp) hp ?_
        rw [upd_same]
        have ec : cutV (ws.map lvV) none (some ((n : Nat) : Int)) = (trimW ws).map lvV := by
          unfold trimW cutV
          rw [HT.sIx_none, HT.sIx_nat, List.drop_zero, Nat.sub_zero, List.length_map, Nat.min_eq_left hn, List.map_take, et, ← e]
        rw [ec]
      obtain ⟨n, rfl⟩ : ∃ n', n = n' + 1 := ⟨n - 1, by omega⟩
      by_cases h2 : 1 < n + 1
      · have g1 : (ws.map lvV)[n]? = some (lvV (ws[n]'(by omega))) := by
          rw [List.getElem?_map, List.getElem?_eq_getElem]
          rfl
        have g2 : (ws.map lvV)[n - 1]? = some (lvV (ws[n - 1]'(by omega))) := by
          rw [List.getElem?_map, List.getElem?_eq_getElem]
          rfl
        refine ⟨_, rfl, _, _, rfl, rfl, true, dT (by omega), iteT ?_⟩
        refine ⟨_, rfl, _, rfl, n + 1, 1, rfl, rfl, Nat.le_add_left 1 n, q, _, _, _, rfl, rfl, hL, atI_nat (j := n) g1, _, rfl, _, rfl, n + 1, 2, rfl, rfl, (by show 2 ≤ n + 1; omega), q, _, _, _, rfl, rfl, hL, atI_nat (j := n - 1) g2, ?_, ?_⟩
        · cases ws[n]'(by omega) <;> cases ws[n - 1]'(by omega) <;> rfl
        · by_cases e : ws[n]'(by omega) = ws[n - 1]'(by omega)
          · have et2 : trimN ws (n + 1) = trimN ws n := by
              rw [trimN, if_pos]
              refine ⟨by omega, ?_⟩
              rw [List.getElem?_eq_getElem (by omega : n < ws.length), List.getElem?_eq_getElem (by omega : n - 1 < ws.length), e]
            refine ⟨true, dT (lv_inj.mpr e), iteT ⟨_, rfl, _, _, rfl, rfl, ⟨n, ?_, rfl, by omega, by omega, by rw [et, et2]⟩, ?_⟩⟩
            · show [some (V.ref q), some (V.int (((n + 1 : Nat) : Int) - 1))] = _
              rw [show ((n + 1 : Nat) : Int) - 1 = (n : Int) by omega]
            · show (((n + 1 : Nat) : Int) - 1).toNat < (((n + 1 : Nat) : Int)).toNat
              omega
          · refine ⟨false, dF (fun z => e (lv_inj.mp z)), iteF ?_⟩
            refine fin ?_
            rw [trimN, if_neg]
            rintro ⟨_, z⟩
            rw [List.getElem?_eq_getElem (by omega : n < ws.length), List.getElem?_eq_getElem (by omega : n - 1 < ws.length)] at z
            exact e (Option.some.inj z)
      · refine ⟨_, rfl, _, _, rfl, rfl, false, dF (by omega), iteF (iteF ?_)⟩
        refine fin ?_
        rw [trimN, if_neg]
        rintro ⟨z, _⟩
        omega
    · rintro σ H' Q1 Q2 h ⟨x, hx, i, j, e1, e2, k, e, z⟩
      refine ⟨x, hx, i, j, e1, e2, k, e, ?_⟩
      cases k with
      | false => exact iteF (h _ _ (by rw [if_neg Bool.false_ne_true] at z; exact z))
      | true =>
        rw [if_pos rfl] at z
        refine iteT ?_
        obtain ⟨x1, hx1, x2, hx2, a1, b1, e3, e4, c1, p1, i1, j1, v1, e5, e6, hs1, g1, y1, hy1, y2, hy2, a2, b2, e7, e8, c2, p2, i2, j2, v2, e9, e10, hs2, g2, hsc, k', ek, zz⟩ := z
        exact ⟨x1, hx1, x2, hx2, a1, b1, e3, e4, c1, p1, i1, j1, v1, e5, e6, hs1, g1, y1, hy1, y2, hy2, a2, b2, e7, e8, c2, p2, i2, j2, v2, e9, e10, hs2, g2, hsc, k', ek, h _ _ zz⟩
def spCheckPeriod : Sp := fun vs H Q _ => ∃ o : Option Nat, vs = [perV o] ∧ (∀ k, o = some k → 1 ≤ k) ∧ Q .non H
theorem ok_check_period {f : Addr} {fd : FuncData} (F : Fun K "check_period" "check_period" s_check_period f fd) (h1 : Has P w K mg base 2 "is_period" ["given"] [] spIsPeriod) : FnOk P w K mg base CX0 3 f fd ["period"] spCheckPeriod := by
  obtain ⟨f_is_period, fd_is_period, ds_is_period, G_is_period, m_is_period, k_is_period, b_is_period, v_is_period⟩ := h1
  refine F.ok sc_check_period (fun vs H Q E h => ?_) (fun cdv A outer s H vs Q E hr h => ?_)
  · obtain ⟨o, rfl, _⟩ := h
    rfl
  · obtain ⟨o, rfl, hp, q⟩ := h
    refine ⟨_, (pss_one (ps_if (PW.pt (pw_and (pt_cmpR op_notN (pv 0) pe_non (nomark _)) (pw_and1 (pt_not (pt_val (pe_call G_is_period hr (by rfl) m_is_period k_is_period b_is_period v_is_period pass0 (pa_cons (pv 0) pa_nil)))))))
        (pss_one ps_never)
        pss_nil)), ?_⟩
    cases o with
    | none => exact ⟨_, rfl, rfl, false, rfl, iteF (iteF q)⟩
    | some k =>
      have hk := hp k rfl
      refine ⟨_, rfl, rfl, true, rfl, iteT ?_⟩
      exact ⟨.int (k : Nat), rfl, (k : Nat), rfl, by omega, true, rfl, iteF q⟩
def spInit (C : Addr) (K : PySem.W.Frag) : Sp := fun vs H Q _ => ∃ (p dx q0 : Addr) (b t : Nat) (ws : List Bool), vs = [.ref p, .int (b : Nat), .ref q0, .int (t : Nat)] ∧ H p = some (.ins C dx []) ∧ SqL K H q0 (ws.map lvV) ∧ 2 ≤ b ∧ b ≤ 64 ∧ ws ≠ [] ∧ ws.length ≤ 60 ∧
  ∀ H' q l, (∀ c o, c ≠ p → H c = some o → H' c = some o) → H q = none → H l = none → WheelAt C H' p q l ⟨b, trimW ws, t, 0, []⟩ → Q .non H'
theorem ok_init {f C : Addr} {fd : FuncData} (F : FunD K "__init__" "Wheel.__init__" (defArgs s_Wheel___init__) (defBody s_Wheel___init__) (defScope s_Wheel___init__) [] [("start", .int 0)] f fd) (TW : TxW K mg C) (h1 : Has P w K mg base 3 "check_base" ["base"] [] spCheckBase)
    (h2 : Has P w K mg base 3 "check_tick" ["tick", "least"] [.int 0] spCheckTick) (h4 : Has P w K mg base 4 "check_levels" ["levels"] [] (spCheckLevels K)) (h5 : Has P w K mg base 1 "without_repeats" ["levels"] [] (spRepeats K)) :
    FnOk P w K mg base CX0 5 f fd ["self", "base", "levels", "start"] (spInit C K) := by
  obtain ⟨f_check_base, fd_check_base, ds_check_base, G_check_base, m_check_base, k_check_base, b_check_base, v_check_base⟩ := h1
  obtain ⟨f_check_tick1, fd_check_tick1, ds_check_tick1, G_check_tick1, m_check_tick1, k_check_tick1, b_check_tick1, v_check_tick1⟩ := h2
  obtain ⟨f_check_levels, fd_check_levels, ds_check_levels, G_check_levels, m_check_levels, k_check_levels, b_check_levels, v_check_levels⟩ := h4
  obtain ⟨f_without_repeats, fd_without_repeats, ds_without_repeats, G_without_repeats, m_without_repeats, k_without_repeats, b_without_repeats, v_without_repeats⟩ := h5
  refine F.ok sc_Wheel___init__ (fun vs H Q E h => ?_) (fun cdv A outer s H vs Q E hr h => ?_)
  · obtain ⟨p, dx, q0, b, t, ws, rfl, _⟩ := h
    rfl
  · obtain ⟨p, dx, q0, b, t, ws, rfl, hp, hL, hb, hb64, hne, h60, c⟩ := h
    refine ⟨_, PSs.nox (pss_cons (ps_expr (pe_call G_check_base (hr.mono (by decide)) (by rfl) m_check_base k_check_base b_check_base v_check_base pass0 (pa_cons (pv 1) pa_nil)))
      (pss_cons (ps_expr (pe_call G_check_levels hr (by rfl) m_check_levels k_check_levels b_check_levels v_check_levels pass0 (pa_cons (pv 2) pa_nil)))
      (pss_cons (ps_expr (pe_call G_check_tick1 (hr.mono (by decide)) (by rfl) m_check_tick1 k_check_tick1 b_check_tick1 v_check_tick1 pass0 (pa_cons (pv 3) pa_nil)))
      (pss_cons (ps_fld (pv 0) (pv 1) rfl)
      (pss_cons (ps_fld (pv 0) (pe_call G_without_repeats (hr.mono (by decide)) (by rfl) m_without_repeats k_without_repeats b_without_repeats v_without_repeats pass0 (pa_cons (pv 2) pa_nil)) rfl)
      (pss_cons (ps_fld (pv 0) (pv 3) rfl)
      (pss_cons (ps_fld (pv 0) pe_int rfl)
      (pss_one (ps_fld (pv 0) pe_dnewK rfl))))))))), ?_⟩
    refine ⟨_, rfl, b, rfl, by omega, by omega, ?_⟩
    refine ⟨_, rfl, q0, ws, rfl, hL, hne, h60, fun H1 s1 => ?_⟩
    refine ⟨_, rfl, t, 0, rfl, by omega, ?_⟩
    have hp1 := s1 _ _ hp
    refine ⟨_, rfl, _, rfl, p, C, dx, [], rfl, hp1, TW.cl, TW.nB, by simp, ?_⟩
    have k2 : ∀ c o, c ≠ p → H c = some o → (upd H1 p (.ins C dx (putF "base" (.int (b : Nat)) []))) c = some o := fun c o n e => by
      rw [upd_ne n]
      exact s1 _ _ e
    have hL2 : SqL K (upd H1 p (.ins C dx (putF "base" (.int (b : Nat)) []))) q0 (ws.map lvV) := by
      rcases s1.seq hL with (e | ⟨o, e⟩) | e
      · exact .inl (.inl (by rw [upd_ne (ne_of e hp1 (by intro z; cases z))]; exact e))
      · exact .inl (.inr ⟨o, by rw [upd_ne (ne_of e hp1 (by intro z; cases z))]; exact e⟩)
      · exact .inr e
    refine ⟨_, rfl, q0, ws, rfl, hL2, hne, h60, fun H3 q s3 hq0 hq3 => ?_⟩
    have hp3 := s3 _ _ (upd_same (H := H1) (a := p))
    have nqp : q ≠ p := fun e => by
      rw [e, upd_same] at hq0
      cases hq0
    have k3 : ∀ c o, c ≠ p → H c = some o → H3 c = some o := fun c o n e => s3 _ _ (k2 c o n e)
    have hqn : H q = none := by
      cases e : H q with
      | none => rfl
      | some o =>
        rw [k2 q o nqp e] at hq0
        cases hq0
    refine ⟨_, rfl, p, C, dx, _, rfl, hp3, TW.cl, TW.nW, by rw [pt_nil]; simp, ?_⟩
    refine ⟨_, rfl, _, rfl, p, C, dx, _, rfl, upd_same, TW.cl, TW.nT, by rw [pt_nil, pt_miss ne_bw, pt_nil]; simp, ?_⟩
    refine ⟨_, rfl, p, C, dx, _, rfl, upd_same, TW.cl, TW.nF, by rw [pt_nil, pt_miss ne_bw, pt_nil, pt_miss ne_bt, pt_miss ne_wt, pt_nil]; simp, ?_⟩
    refine fun l hl => ⟨_, rfl, p, C, dx, putF "following" (.int 0) (putF "tick" (.int (t : Nat)) (putF "words" (.ref q) (putF "base" (.int (b : Nat)) []))), rfl, ?_, TW.cl, TW.nL, by rw [pt_nil, pt_miss ne_bw, pt_nil, pt_miss ne_bt, pt_miss ne_wt, pt_nil, pt_miss ne_bf, pt_miss ne_wf, pt_miss ne_tf, pt_nil]; simp, ?_⟩
    · have nlp : p ≠ l := fun e => by
        rw [← e, upd_same] at hl
        cases hl
      rw [upd_ne nlp, upd_same]
    have nlp : l ≠ p := fun e => by
      rw [e, upd_same] at hl
      cases hl
    rw [upd_ne nlp, upd_ne nlp, upd_ne nlp] at hl
    have nlq : l ≠ q := fun e => by
      rw [e, hq3] at hl
      cases hl
    have hln : H l = none := by
      cases e : H l with
      | none => rfl
      | some o =>
        rw [k3 l o nlp e] at hl
        cases hl
    refine c _ q l (fun c o n e => ?_) hqn hln ⟨⟨dx, ?_⟩, ?_, ⟨[], ?_, trivial⟩⟩
    · rw [upd_ne n, upd_ne (fun z => by rw [z, hln] at e; cases e), upd_ne n, upd_ne n, upd_ne n]
      exact k3 c o n e
    · rw [upd_same, pt_nil, pt_miss ne_bw, pt_nil, pt_miss ne_bt, pt_miss ne_wt, pt_nil, pt_miss ne_bf, pt_miss ne_wf, pt_miss ne_tf, pt_nil, pt_miss ne_bl, pt_miss ne_wl, pt_miss ne_tl, pt_miss ne_fl, pt_nil]
      rfl
    · rw [upd_ne nqp, upd_ne (Ne.symm nlq), upd_ne nqp, upd_ne nqp, upd_ne nqp]
      exact hq3
    · rw [upd_ne nlp, upd_same]
end
/-! ### words at the end that only repeat tell nothing -/
theorem trimN_same {ws : List Bool} : ∀ n, 1 ≤ n → n ≤ ws.length → (∀ i, n - 1 ≤ i → i < ws.length → ws[i]? = ws[n - 1]?) → ∀ i, trimN ws n - 1 ≤ i → i < ws.length → ws[i]? = ws[trimN ws n - 1]?
  | 0, h, _, _ => by omega
  | n + 1, _, hl, h => by
    intro i h1 h2
    unfold trimN at h1 ⊢
    split at h1
    · rename_i c
      rw [if_pos c]
      refine trimN_same n c.1 (by omega) (fun j j1 j2 => ?_) i h1 h2
      by_cases e : j = n - 1
      · rw [e]
      · have z := h j (by omega) j2
        rw [Nat.add_sub_cancel] at z
        rw [z]
        exact c.2
    · rename_i c
      rw [if_neg c]
      exact h i h1 h2
theorem trim_word {ws : List Bool} (hne : ws ≠ []) (k : Nat) : wordAt (trimW ws) k = wordAt ws k := by
  have hp : 0 < ws.length := List.length_pos_iff.mpr hne
  have m0 := trimN_pos ws ws.length hp
  have m1 := trimN_le ws ws.length
  have same := trimN_same (ws := ws) ws.length hp (Nat.le_refl _) fun i h1 h2 => by
    rw [show i = ws.length - 1 by omega]
  unfold wordAt trimW
  have e1 : (ws.take (trimN ws ws.length)).length = trimN ws ws.length := by
    rw [List.length_take]
    omega
  rw [e1]
  rw [List.getD_eq_getElem?_getD, List.getD_eq_getElem?_getD, List.getElem?_take, if_pos (by omega)]
  by_cases c : k ≤ trimN ws ws.length - 1
  · rw [Nat.min_eq_left c, Nat.min_eq_left (by omega)]
  · rw [Nat.min_eq_right (by omega), ← same (min k (ws.length - 1)) (by omega) (by omega)]
theorem trim_side {ws : List Bool} (hne : ws ≠ []) (b n d lo : Nat) : sideT b (trimW ws) n d lo = sideT b ws n d lo := by
  unfold sideT
  split
  · unfold frontOf
    congr 3
    congr 1
    funext r
    rw [trim_word hne]
  · rfl
section
variable {P : Program} {w : World} {K : PySem.W.Frag} {mg : Str → Option Value} {base : Heap}
theorem no_ct {b : Nat} {q : Addr} {t f : Nat} {l : Addr} : (wfl b q t f l).lookup ("check_timer" : Str) = none := wf_no (by decide +kernel) (by decide +kernel) (by decide +kernel) (by decide +kernel) (by decide +kernel)
def spCheckTimer (C : Addr) : Sp := fun vs H Q _ => ∃ (p q l : Addr) (W : WS) (n : Nat), vs = [.ref p, .int (n : Nat)] ∧ WheelAt C H p q l W ∧ (W.live.map (·.num)).Nodup ∧ (∃ m ∈ W.live, m.num = n) ∧ Q .non H
theorem ok_check_timer {f C : Addr} {fd : FuncData} (F : Fun K "check_timer" "Wheel.check_timer" s_Wheel_check_timer f fd) (TW : TxW K mg C) (h1 : Has P w K mg base 1 "is_integer" ["given"] [] spIsInt) : FnOk P w K mg base CX0 2 f fd ["self", "timer"] (spCheckTimer C) := by
  obtain ⟨f_is_integer, fd_is_integer, ds_is_integer, G_is_integer, m_is_integer, k_is_integer, b_is_integer, v_is_integer⟩ := h1
  refine F.ok sc_Wheel_check_timer (fun vs H Q E h => ?_) (fun cdv A outer s H vs Q E hr h => ?_)
  · obtain ⟨p, q, l, W, n, rfl, _⟩ := h
    rfl
  · obtain ⟨p, q, l, W, n, rfl, hw, nd, ⟨m, hm, en⟩, c⟩ := h
    have hu := hu_of hr
    obtain ⟨dx, hp⟩ := hw.ins
    obtain ⟨kvs, hl, L⟩ := hw.live
    obtain ⟨tt, hv, ht⟩ := L.val_of nd hm
    rw [en] at hv
    refine ⟨_, (pss_one (ps_if (PW.pt (pw_or (pt_not (pt_val (pe_call G_is_integer hr (by rfl) m_is_integer k_is_integer b_is_integer v_is_integer pass0 (pa_cons (pv 1) pa_nil)))) (pw_or1 (pt_cmp (pc_dnotin hu (pv 1) (pe_fld (pv 0) rfl))))))
        (pss_one ps_never)
        pss_nil)), ?_⟩
    refine ⟨_, rfl, (n : Nat), rfl, true, rfl, iteF ?_⟩
    refine ⟨_, rfl, _, rfl, p, C, dx, _, _, rfl, hp, TW.cl, TW.nL, wf_l, l, some (.ref tt), rfl, ?_, false, rfl, iteF c⟩
    rw [← hv]
    exact DGet.k (k := Sum.inl (n : Int)) hl
def spNow (C : Addr) : Sp := fun vs H Q _ => ∃ (p q l : Addr) (W : WS), vs = [.ref p] ∧ WheelAt C H p q l W ∧ Q (.int (W.tick : Nat)) H
theorem ok_now {f C : Addr} {fd : FuncData} (F : Fun K "now" "Wheel.now" s_Wheel_now f fd) (TW : TxW K mg C) : FnOk P w K mg base CX0 1 f fd ["self"] (spNow C) := by
  refine F.ok sc_Wheel_now (fun vs H Q E h => ?_) (fun cdv A outer s H vs Q E hr h => ?_)
  · obtain ⟨p, q, l, W, rfl, _⟩ := h
    rfl
  · obtain ⟨p, q, l, W, rfl, hw, c⟩ := h
    obtain ⟨dx, hp⟩ := hw.ins
    refine ⟨_, (pss_one (ps_ret (pe_fld (pv 0) rfl))), ?_⟩
    exact ⟨_, rfl, p, C, dx, _, _, rfl, hp, TW.cl, TW.nT, wf_t, c⟩
def spPut (C : Addr) : Sp := fun vs H Q _ => ∃ (p q l : Addr) (W : WS) (d : Nat) (o : Option Nat), vs = [.ref p, .int (d : Nat), perV o] ∧ WheelAt C H p q l W ∧ WOk W ∧ W.live.length < 1000 ∧ W.tick < d ∧ (∀ k, o = some k → 1 ≤ k) ∧
  ∀ H', Wk p l H H' l → WheelAt C H' p q l { W with fol := W.fol + 1, live := W.live ++ [⟨W.fol, d, o, W.tick⟩] } → Q (.int (W.fol : Nat)) H'
theorem ok_put {f C : Addr} {fd : FuncData} (F : FunD K "put" "Wheel.put" (defArgs s_Wheel_put) (defBody s_Wheel_put) (defScope s_Wheel_put) [] [("period", .non)] f fd) (TW : TxW K mg C) (h1 : Has P w K mg base 3 "check_tick" ["tick", "least"] [] spCheckTick)
    (h2 : Has P w K mg base 3 "check_period" ["period"] [] spCheckPeriod) : FnOk P w K mg base CX0 4 f fd ["self", "due", "period"] (spPut C) := by
  obtain ⟨f_check_tick, fd_check_tick, ds_check_tick, G_check_tick, m_check_tick, k_check_tick, b_check_tick, v_check_tick⟩ := h1
  obtain ⟨f_check_period, fd_check_period, ds_check_period, G_check_period, m_check_period, k_check_period, b_check_period, v_check_period⟩ := h2
  refine F.ok sc_Wheel_put (fun vs H Q E h => ?_) (fun cdv A outer s H vs Q E hr h => ?_)
  · obtain ⟨p, q, l, W, d, o, rfl, _⟩ := h
    rfl
  · obtain ⟨p, q, l, W, d, o, rfl, hw, ok, few, htd, hper, c⟩ := h
    have hu := hu_of hr
    obtain ⟨dx, hp⟩ := hw.ins
    obtain ⟨kvs, hl, L⟩ := hw.live
    refine ⟨_, PSs.nox (pss_cons (ps_expr (pe_call G_check_tick hr (by rfl) m_check_tick k_check_tick b_check_tick v_check_tick pass0 (pa_cons (pv 1) (pa_cons (pe_op op_add (pe_fld (pv 0) rfl) pe_int) pa_nil))))
      (pss_cons (ps_expr (pe_call G_check_period hr (by rfl) m_check_period k_check_period b_check_period v_check_period pass0 (pa_cons (pv 2) pa_nil)))
      (pss_cons (ps_set (i := 3) sc_Wheel_put.nd rfl (.inl rfl) (pe_fld (pv 0) rfl))
      (pss_cons (ps_fldaug (pv 0) pe_int in_add)
      (pss_cons (ps_dput hu (pe_fld (pv 0) rfl) (pv 3) (pe_tup (pa_cons (pv 1) (pa_cons (pv 2) (pa_cons (pe_fld (pv 0) rfl) pa_nil)))) rfl)
      (pss_one (ps_ret (pv 3)))))))), ?_⟩
    refine ⟨_, rfl, _, rfl, p, C, dx, _, _, rfl, hp, TW.cl, TW.nT, wf_t, _, 1, rfl, rfl, (d : Nat), _, rfl, by omega, ?_⟩
    refine ⟨_, rfl, o, rfl, hper, ?_⟩
    refine ⟨_, rfl, p, C, dx, _, _, rfl, hp, TW.cl, TW.nF, wf_f, ?_⟩
    refine ⟨_, rfl, p, C, dx, _, _, rfl, hp, TW.cl, TW.nF, wf_f, (W.fol : Nat), 1, rfl, rfl, dx, _, hp, by simp [wfl], ?_⟩
    have e1 : putF "following" (.int ((W.fol : Int) + 1)) (wfl W.b q W.tick W.fol l) = wfl W.b q W.tick (W.fol + 1) l := wf_pf (f' := W.fol + 1)
    have npl : l ≠ p := ne_of hl hp (by intro z; cases z)
    have hp2 : (upd H p (.ins C dx (putF "following" (.int ((W.fol : Int) + 1)) (wfl W.b q W.tick W.fol l)))) p = some (.ins C dx (wfl W.b q W.tick (W.fol + 1) l)) := by rw [upd_same, e1]
    refine ⟨_, rfl, _, rfl, _, rfl, p, C, dx, _, _, rfl, hp2, TW.cl, TW.nT, wf_t, by simp [sizeLine_eq], fun u hu0 => ?_⟩
    have nup : u ≠ p := fun e => by
      rw [e, upd_same] at hu0
      cases hu0
    rw [upd_ne nup] at hu0
    have nul : u ≠ l := fun e => by
      rw [e, hl] at hu0
      cases hu0
    generalize hH2 : upd (upd H p (.ins C dx (putF "following" (.int ((W.fol : Int) + 1)) (wfl W.b q W.tick W.fol l)))) u (.tup [.int (d : Nat), perV o, .int (W.tick : Nat)]) = H2
    have a1 : H2 p = some (.ins C dx (wfl W.b q W.tick (W.fol + 1) l)) := by rw [← hH2, upd_ne (Ne.symm nup)]; exact hp2
    have a2 : H2 u = some (.tup (tmV ⟨W.fol, d, o, W.tick⟩)) := by rw [← hH2, upd_same]; rfl
    have a3 : ∀ c o, c ≠ p → H c = some o → H2 c = some o := fun c o n e => by
      rw [← hH2, upd_ne (ne_of_none e hu0), upd_ne n]
      exact e
    have a4 := a3 _ _ npl hl
    have L2' : LiveK H2 kvs W.live := L.frame fun t m e => a3 _ _ (ne_of e hp (by intro z; cases z)) e
    have hvn := L2'.val_not (n := W.fol) fun m hm => Nat.ne_of_lt (ok.tms m hm).num
    refine ⟨_, rfl, p, C, dx, _, _, rfl, a1, TW.cl, TW.nL, wf_l, _, rfl, l, _, rfl, DPut.k (k := Sum.inl (W.fol : Int)) a4 (by rw [L.len]; exact sizeLine_ge (by omega)), ?_⟩
    rw [putK_new _ hvn]
    refine ⟨_, rfl, c _ ⟨fun c o n1 n2 e => ?_, .inl rfl⟩ ⟨⟨dx, ?_⟩, ?_, ⟨_, upd_same, ?_⟩⟩⟩
    · rw [upd_ne n2]
      exact a3 c o n1 e
    · rw [upd_ne (Ne.symm npl)]
      exact a1
    · rw [upd_ne (ne_of hw.words hl (by intro z; cases z))]
      exact a3 _ _ (ne_of hw.words hp (by intro z; cases z)) hw.words
    · exact LiveK.upd a4 (fun xs z => by cases z) (L2'.snoc (m := ⟨W.fol, d, o, W.tick⟩) rfl a2)
end
section
variable {P : Program} {w : World} {K : PySem.W.Frag} {mg : Str → Option Value} {base : Heap}
def spCancel (C : Addr) : Sp := fun vs H Q _ => ∃ (p q l : Addr) (W : WS) (n : Nat), vs = [.ref p, .int (n : Nat)] ∧ WheelAt C H p q l W ∧ (W.live.map (·.num)).Nodup ∧ (∃ m ∈ W.live, m.num = n) ∧
  ∀ H', Wk p l H H' l → WheelAt C H' p q l { W with live := dropT n W.live } → Q .non H'
theorem ok_cancel {f C : Addr} {fd : FuncData} (F : Fun K "cancel" "Wheel.cancel" s_Wheel_cancel f fd) (TW : TxW K mg C) (h1 : HasM P w K mg base 2 C "check_timer" ["self", "timer"] [] (spCheckTimer C)) : FnOk P w K mg base CX0 3 f fd ["self", "timer"] (spCancel C) := by
  obtain ⟨f_ct, fd_ct, ds_ct, G_Wheel_check_timer, M_Wheel_check_timer, b_Wheel_check_timer, v_Wheel_check_timer⟩ := h1
  have cl_Wheel := TW.cl
  refine F.ok sc_Wheel_cancel (fun vs H Q E h => ?_) (fun cdv A outer s H vs Q E hr h => ?_)
  · obtain ⟨p, q, l, W, n, rfl, _⟩ := h
    rfl
  · obtain ⟨p, q, l, W, n, rfl, hw, nd, hin, c⟩ := h
    obtain ⟨dx, hp⟩ := hw.ins
    obtain ⟨kvs, hl, L⟩ := hw.live
    refine ⟨_, (pss_cons (ps_expr (pe_meth (pv 0) cl_Wheel M_Wheel_check_timer G_Wheel_check_timer hr b_Wheel_check_timer v_Wheel_check_timer pass0 (pa_cons (pv 1) pa_nil)))
      (pss_one (ps_ddel (pe_fld (pv 0) rfl) (pv 1)))), ?_⟩
    refine ⟨_, rfl, p, dx, _, rfl, hp, no_ct, _, rfl, p, q, l, W, n, rfl, hw, nd, hin, ?_⟩
    obtain ⟨m, hm, en⟩ := hin
    obtain ⟨tt, hv, ht⟩ := L.val_of nd hm
    rw [en] at hv
    have npl : l ≠ p := ne_of hl hp (by intro z; cases z)
    refine ⟨_, rfl, p, C, dx, _, _, rfl, hp, TW.cl, TW.nL, wf_l, _, rfl, l, kvs, Sum.inl (n : Int), rfl, hl, rfl, by rw [hv]; rfl, ?_⟩
    refine c _ ⟨fun c o n1 n2 e => ?_, .inl rfl⟩ ⟨⟨dx, ?_⟩, ?_, ⟨_, upd_same, ?_⟩⟩
    · rw [upd_ne n2]
      exact e
    · rw [upd_ne (Ne.symm npl)]
      exact hp
    · rw [upd_ne (ne_of hw.words hl (by intro z; cases z))]
      exact hw.words
    · exact LiveK.upd hl (fun xs z => by cases z) L.drop
end
section
variable {P : Program} {w : World} {K : PySem.W.Frag} {mg : Str → Option Value} {base : Heap}
def spReset (C : Addr) : Sp := fun vs H Q _ => ∃ (p q l : Addr) (W : WS) (m : Tm) (d : Nat), vs = [.ref p, .int (m.num : Nat), .int (d : Nat)] ∧ WheelAt C H p q l W ∧ (W.live.map (·.num)).Nodup ∧ W.live.length ≤ 1000 ∧ m ∈ W.live ∧ W.tick < d ∧
  ∀ H', Wk p l H H' l → WheelAt C H' p q l { W with live := dropT m.num W.live ++ [⟨m.num, d, m.per, W.tick⟩] } → Q .non H'
theorem ok_reset {f C : Addr} {fd : FuncData} (F : Fun K "reset" "Wheel.reset" s_Wheel_reset f fd) (TW : TxW K mg C) (h1 : HasM P w K mg base 2 C "check_timer" ["self", "timer"] [] (spCheckTimer C)) (h2 : Has P w K mg base 3 "check_tick" ["tick", "least"] [] spCheckTick) :
    FnOk P w K mg base CX0 4 f fd ["self", "timer", "due"] (spReset C) := by
  obtain ⟨f_ct, fd_ct, ds_ct, G_Wheel_check_timer, M_Wheel_check_timer, b_Wheel_check_timer, v_Wheel_check_timer⟩ := h1
  obtain ⟨f_check_tick, fd_check_tick, ds_check_tick, G_check_tick, m_check_tick, k_check_tick, b_check_tick, v_check_tick⟩ := h2
  have cl_Wheel := TW.cl
  refine F.ok sc_Wheel_reset (fun vs H Q E h => ?_) (fun cdv A outer s H vs Q E hr h => ?_)
  · obtain ⟨p, q, l, W, m, d, rfl, _⟩ := h
    rfl
  · obtain ⟨p, q, l, W, m, d, rfl, hw, nd, few, hm, htd, c⟩ := h
    have hu := hu_of hr
    obtain ⟨dx, hp⟩ := hw.ins
    obtain ⟨kvs, hl, L⟩ := hw.live
    obtain ⟨tt, hv, ht⟩ := L.val_of nd hm
    have npl : l ≠ p := ne_of hl hp (by intro z; cases z)
    refine ⟨_, (pss_cons (ps_expr (pe_meth (pv 0) cl_Wheel M_Wheel_check_timer G_Wheel_check_timer (hr.mono (by decide)) b_Wheel_check_timer v_Wheel_check_timer pass0 (pa_cons (pv 1) pa_nil)))
      (pss_cons (ps_expr (pe_call G_check_tick hr (by rfl) m_check_tick k_check_tick b_check_tick v_check_tick pass0 (pa_cons (pv 2) (pa_cons (pe_op op_add (pe_fld (pv 0) rfl) pe_int) pa_nil))))
      (pss_cons (ps_asg (pe_dpop1 (pe_fld (pv 0) rfl) (pv 1) ⟨by rfl, by rfl, by rfl, by rfl⟩) (pg_tupK (K := K) (n := 3) rfl rfl (pgs_cons (pg_name (i := 3) sc_Wheel_reset.nd rfl (.inl rfl)) (pgs_cons (pg_name (i := 4) sc_Wheel_reset.nd rfl (.inl rfl)) (pgs_cons (pg_name (i := 5) sc_Wheel_reset.nd rfl (.inl rfl)) pgs_nil)))))
      (pss_one (ps_dput hu (pe_fld (pv 0) rfl) (pv 1) (pe_tup (pa_cons (pv 2) (pa_cons (pv 4) (pa_cons (pe_fld (pv 0) rfl) pa_nil)))) rfl))))), ?_⟩
    refine ⟨_, rfl, p, dx, _, rfl, hp, no_ct, _, rfl, p, q, l, W, m.num, rfl, hw, nd, ⟨m, hm, rfl⟩, ?_⟩
    refine ⟨_, rfl, _, rfl, p, C, dx, _, _, rfl, hp, TW.cl, TW.nT, wf_t, _, 1, rfl, rfl, (d : Nat), _, rfl, by omega, ?_⟩
    refine ⟨_, rfl, p, C, dx, _, _, rfl, hp, TW.cl, TW.nL, wf_l, l, rfl, .inl ⟨_, .inl hl⟩, _, rfl, kvs, Sum.inl (m.num : Int), _, hl, rfl, hv, ?_⟩
    have hl1 : (upd H l (.dK (dropK kvs (Sum.inl (m.num : Int))))) l = some (.dK (dropK kvs (Sum.inl (m.num : Int)))) := upd_same
    have hp1 : (upd H l (.dK (dropK kvs (Sum.inl (m.num : Int))))) p = some (.ins C dx (wfl W.b q W.tick W.fol l)) := by rw [upd_ne (Ne.symm npl)]; exact hp
    have ht1 : (upd H l (.dK (dropK kvs (Sum.inl (m.num : Int))))) tt = some (.tup (tmV m)) := by rw [upd_ne (ne_of ht hl (by intro z; cases z))]; exact ht
    have Ld := (L.drop (n := m.num)).upd (o' := .dK (dropK kvs (Sum.inl (m.num : Int)))) hl (fun xs z => by cases z)
    refine ⟨tt, _, rfl, .inl (.inl ht1), rfl, _, _, rfl, _, _, rfl, _, _, rfl, rfl, ?_⟩
    refine ⟨_, rfl, _, rfl, _, rfl, p, C, dx, _, _, rfl, hp1, TW.cl, TW.nT, wf_t, by simp [sizeLine_eq], fun u hu0 => ?_⟩
    have su := same_upd (o := .tup (tmV ⟨m.num, d, m.per, W.tick⟩)) hu0
    have hvn := Ld.val_not (n := m.num) (fun m' hm' => drop_not m' hm')
    have hlen : (dropK kvs (Sum.inl (m.num : Int))).length < sizeLine := by
      have z := dropK_le kvs (Sum.inl (m.num : Int) : Key)
      rw [L.len] at z
      exact sizeLine_ge (by omega)
    refine ⟨_, rfl, p, C, dx, _, _, rfl, su _ _ hp1, TW.cl, TW.nL, wf_l, _, rfl, l, _, rfl, DPut.k (k := Sum.inl (m.num : Int)) (su _ _ hl1) hlen, ?_⟩
    rw [putK_new _ hvn]
    refine c _ ⟨fun c o n1 n2 e => ?_, .inl rfl⟩ ⟨⟨dx, ?_⟩, ?_, ⟨_, upd_same, ?_⟩⟩
    · rw [upd_ne n2]
      exact su _ _ (by rw [upd_ne n2]; exact e)
    · rw [upd_ne (Ne.symm npl)]
      exact su _ _ hp1
    · have n := ne_of hw.words hl (by intro z; cases z)
      rw [upd_ne n]
      exact su _ _ (by rw [upd_ne n]; exact hw.words)
    · exact LiveK.upd (su _ _ hl1) (fun xs z => by cases z) ((Ld.same su).snoc (m := ⟨m.num, d, m.per, W.tick⟩) rfl upd_same)
end
section
variable {P : Program} {w : World} {K : PySem.W.Frag} {mg : Str → Option Value} {base : Heap}
def spTimers (C : Addr) : Sp := fun vs H Q _ => ∃ (p q l : Addr) (W : WS), vs = [.ref p] ∧ WheelAt C H p q l W ∧ W.live.length < 64 ∧
  ∀ H' r (ns : List Nat), Same H H' → H r = none → H' r = some (.lst (ns.map fun x => V.int (x : Nat))) → ns.Perm (W.live.map (·.num)) → ns.Pairwise (· ≤ ·) → Q (.ref r) H'
theorem nats_of : ∀ {ys : List Int} {ns : List Nat}, (∀ y ∈ ys, 0 ≤ y) → (ys.map Int.toNat).map (fun n : Nat => (n : Int)) = ys
  | [], _, _ => rfl
  | y :: ys, _, h => by
    rw [List.map_cons, List.map_cons, nats_of (ns := []) fun z hz => h z (List.mem_cons_of_mem _ hz), Int.toNat_of_nonneg (h y (List.mem_cons_self ..))]
theorem ok_timers {f C : Addr} {fd : FuncData} (F : Fun K "timers" "Wheel.timers" s_Wheel_timers f fd) (T : Tx K mg) (TW : TxW K mg C) : FnOk P w K mg base CX0 1 f fd ["self"] (spTimers C) := by
  refine F.ok sc_Wheel_timers (fun vs H Q E h => ?_) (fun cdv A outer s H vs Q E hr h => ?_)
  · obtain ⟨p, q, l, W, rfl, _⟩ := h
    rfl
  · obtain ⟨p, q, l, W, rfl, hw, h64, c⟩ := h
    obtain ⟨dx, hp⟩ := hw.ins
    obtain ⟨kvs, hl, L⟩ := hw.live
    refine ⟨_, (pss_one (ps_ret (pe_callB (call_sortedDI rfl) (by rfl) T.b_sorted (by decide +kernel) (pa_cons (pe_fld (pv 0) rfl) pa_nil)))), ?_⟩
    refine ⟨_, rfl, p, C, dx, _, _, rfl, hp, TW.cl, TW.nL, wf_l, l, kvs, W.live.map fun m => (m.num : Int), rfl, .inl hl, ?_, by rw [List.length_map]; exact h64, fun ys r hperm hsort hr0 => ?_⟩
    · rw [L.keys, List.map_map]
      rfl
    · have hnn : ∀ y ∈ ys, 0 ≤ y := fun y hy => by
        obtain ⟨m, _, e⟩ := List.mem_map.mp (hperm.mem_iff.mp hy)
        rw [← e]
        omega
      have e := nats_of (ns := []) hnn
      refine c _ r (ys.map Int.toNat) (same_upd hr0) hr0 ?_ ?_ ?_
      · rw [upd_same]
        have e2 : (ys.map Int.toNat).map (fun x : Nat => V.int (x : Nat)) = ys.map V.int := by
          have z := congrArg (List.map V.int) e
          rw [List.map_map] at z
          exact z
        rw [e2]
      · have z := hperm.map Int.toNat
        rw [List.map_map] at z
        have e3 : (W.live.map (Int.toNat ∘ fun m => (m.num : Int))) = W.live.map (·.num) := List.map_congr_left fun m _ => Int.toNat_natCast m.num
        rw [e3] at z
        exact z
      · rw [List.pairwise_map]
        exact hsort.imp fun h => Int.toNat_le_toNat h
end
section
variable {P : Program} {w : World} {K : PySem.W.Frag} {mg : Str → Option Value} {base : Heap}
def spFiring (C : Addr) : Sp := fun vs H Q _ => ∃ (p q l : Addr) (W : WS) (t : Nat), vs = [.ref p, .int (t : Nat)] ∧ WheelAt C H p q l W ∧ WOk W ∧ W.tick < t ∧
  ∀ H' r, Same H H' → H r = none → H' r = some (.lst ((orderAt W.b W.ws t W.live).map fun x => V.int (x : Nat))) → Q (.ref r) H'
theorem ok_firing {f C : Addr} {fd : FuncData} (F : Fun K "firing" "Wheel.firing" s_Wheel_firing f fd) (TW : TxW K mg C) (h1 : Has P w K mg base 3 "check_tick" ["tick", "least"] [] spCheckTick)
    (h2 : Has P w K mg base 5 "order_of_firing" ["base", "levels", "live", "tick"] [] (spOrder K)) : FnOk P w K mg base CX0 6 f fd ["self", "tick"] (spFiring C) := by
  obtain ⟨f_check_tick, fd_check_tick, ds_check_tick, G_check_tick, m_check_tick, k_check_tick, b_check_tick, v_check_tick⟩ := h1
  obtain ⟨f_order_of_firing, fd_order_of_firing, ds_order_of_firing, G_order_of_firing, m_order_of_firing, k_order_of_firing, b_order_of_firing, v_order_of_firing⟩ := h2
  refine F.ok sc_Wheel_firing (fun vs H Q E h => ?_) (fun cdv A outer s H vs Q E hr h => ?_)
  · obtain ⟨p, q, l, W, t, rfl, _⟩ := h
    rfl
  · obtain ⟨p, q, l, W, t, rfl, hw, ok, htt, c⟩ := h
    obtain ⟨dx, hp⟩ := hw.ins
    obtain ⟨kvs, hl, L⟩ := hw.live
    refine ⟨_, (pss_cons (ps_expr (pe_call G_check_tick (hr.mono (by decide)) (by rfl) m_check_tick k_check_tick b_check_tick v_check_tick pass0 (pa_cons (pv 1) (pa_cons (pe_op op_add (pe_fld (pv 0) rfl) pe_int) pa_nil))))
      (pss_one (ps_ret (pe_call G_order_of_firing hr (by rfl) m_order_of_firing k_order_of_firing b_order_of_firing v_order_of_firing pass0 (pa_cons (pe_fld (pv 0) rfl) (pa_cons (pe_fld (pv 0) rfl) (pa_cons (pe_fld (pv 0) rfl) (pa_cons (pv 1) pa_nil)))))))), ?_⟩
    refine ⟨_, rfl, _, rfl, p, C, dx, _, _, rfl, hp, TW.cl, TW.nT, wf_t, _, 1, rfl, rfl, (t : Nat), _, rfl, by omega, ?_⟩
    refine ⟨_, rfl, p, C, dx, _, _, rfl, hp, TW.cl, TW.nB, wf_b, _, rfl, p, C, dx, _, _, rfl, hp, TW.cl, TW.nW, wf_w, _, rfl, p, C, dx, _, _, rfl, hp, TW.cl, TW.nL, wf_l, _, rfl, ?_⟩
    exact ⟨W.b, t, q, l, W.ws, kvs, W.live, rfl, ok.b2, ok.b64, SqL.of hw.words, ok.ne, hl, L, ok.few, fun m hm => ⟨by have := ok.tms m hm; exact Nat.lt_of_le_of_lt this.since this.due, (ok.tms m hm).big⟩, c⟩
end
/-! ### data equal to itself -/
theorem neq_refl {d : PyData} (h : d.canLay0 = true) : V.bl (!PyData.eqv d d) = V.bl false := by
  rw [SeqAt.eqv_refl d h]
  rfl
theorem eq_refl {d : PyData} (h : d.canLay0 = true) : V.bl (PyData.eqv d d) = V.bl true := by
  rw [SeqAt.eqv_refl d h]
/-! ### rows as data, walks with numbers -/
def rowD (r : Row3) : PyData := .tuple [.int (r.1 : Nat), .int (r.2.1 : Nat), .int (r.2.2 : Nat)]
theorem rows_dp {K : PySem.W.Frag} {H : Hp} : ∀ {ts : List Addr} {rs : List Row3}, RowsAt H ts rs → DpAll K H (ts.map V.ref) (rs.map rowD)
  | [], [], _ => .nil
  | _ :: _, _ :: _, h => .cons (.tup (.inl (.inl h.1)) (.cons (.int _) (.cons (.int _) (.cons (.int _) .nil)))) (rows_dp h.2)
  | [], _ :: _, h => h.elim
  | _ :: _, [], h => h.elim
theorem rowD_lay (r : Row3) : (rowD r).canLay0 = true := rfl
theorem rows_lay : ∀ rs : List Row3, PyData.canLayAll0 (rs.map rowD) = true
  | [] => rfl
  | r :: rs => by
    show ((rowD r).canLay0 && PyData.canLayAll0 (rs.map rowD)) = true
    rw [rowD_lay, rows_lay rs]
    rfl
theorem rows_depth : ∀ rs : List Row3, PyData.depthAll (rs.map rowD) ≤ 1
  | [] => Nat.zero_le _
  | r :: rs => by
    have ih := rows_depth rs
    show max (rowD r).depth (PyData.depthAll (rs.map rowD)) ≤ 1
    have e : (rowD r).depth = 1 := rfl
    rw [e]
    omega
theorem rows_shaped (rs : List Row3) : SeqAt.shaped (.list (rs.map rowD)) = true := by
  have h1 : (PyData.list (rs.map rowD)).canLay0 = true := by
    show PyData.canLayAll0 (rs.map rowD) = true
    exact rows_lay rs
  have h2 : (PyData.list (rs.map rowD)).depth ≤ 64 := by
    show PyData.depthAll (rs.map rowD) + 1 ≤ 64
    have := rows_depth rs
    omega
  unfold SeqAt.shaped
  rw [h1, decide_eq_true h2]
  rfl
theorem dp_nats {K : PySem.W.Frag} {H : Hp} : ∀ ns : List Nat, DpAll K H (ns.map fun x => V.int (x : Nat)) (ns.map fun x => PyData.int (x : Nat))
  | [] => .nil
  | _ :: r => .cons (.int _) (dp_nats r)
theorem nats_lay : ∀ ns : List Nat, PyData.canLayAll0 (ns.map fun x => PyData.int (x : Nat)) = true
  | [] => rfl
  | _ :: r => by
    show (PyData.canLay0 _ && PyData.canLayAll0 (r.map fun x => PyData.int (x : Nat))) = true
    rw [nats_lay r]
    rfl
theorem nats_depth : ∀ ns : List Nat, PyData.depthAll (ns.map fun x => PyData.int (x : Nat)) = 0
  | [] => rfl
  | _ :: r => by
    show max (PyData.depth _) (PyData.depthAll (r.map fun x => PyData.int (x : Nat))) = 0
    rw [nats_depth r]
    rfl
theorem nats_shaped (ns : List Nat) : SeqAt.shaped (.list (ns.map fun x => PyData.int (x : Nat))) = true := by
  have h1 : (PyData.list (ns.map fun x => PyData.int (x : Nat))).canLay0 = true := by
    show PyData.canLayAll0 _ = true
    exact nats_lay ns
  have h2 : (PyData.list (ns.map fun x => PyData.int (x : Nat))).depth ≤ 64 := by
    show PyData.depthAll _ + 1 ≤ 64
    rw [nats_depth ns]
    decide
  unfold SeqAt.shaped
  rw [h1, decide_eq_true h2]
  rfl
theorem cut1 (xs : List V) : cutV xs (some 1) none = xs.drop 1 := by
  unfold cutV
  rw [show HT.sIx xs.length 0 (some 1) = min 1 xs.length from HT.sIx_nat xs.length 0 1, HT.sIx_none]
  cases xs with
  | nil => rfl
  | cons x r =>
    rw [show min 1 (x :: r).length = 1 by
      rw [List.length_cons]
      omega]
    show (List.take ((x :: r).length - 1) r) = r
    rw [List.length_cons, Nat.add_sub_cancel]
    exact List.take_length
theorem cutTo {xs : List V} {k : Nat} : cutV xs none (some (k : Int)) = xs.take k := by
  unfold cutV
  rw [HT.sIx_none, HT.sIx_nat, List.drop_zero, Nat.sub_zero]
  by_cases h : k ≤ xs.length
  · rw [Nat.min_eq_left h]
  · rw [Nat.min_eq_right (by omega), List.take_length, List.take_of_length_le (by omega)]
theorem cutFrom {xs : List V} {k : Nat} : cutV xs (some (k : Int)) none = xs.drop k := by
  unfold cutV
  rw [HT.sIx_none, HT.sIx_nat]
  by_cases h : k ≤ xs.length
  · rw [Nat.min_eq_left h]
    exact List.take_of_length_le (by rw [List.length_drop]; exact Nat.le_refl _)
  · rw [Nat.min_eq_right (by omega), List.drop_length, List.drop_of_length_le (by omega)]
    simp
theorem cutLast {xs : List V} (h : xs ≠ []) : cutV xs (some (-1)) none = [xs.getLast h] := by
  have hp : 0 < xs.length := List.length_pos_iff.mpr h
  have e : HT.sIx xs.length 0 (some (-1)) = xs.length - 1 := by
    show (if (-1 : Int) < 0 then ((-1 : Int) + (xs.length : Int)).toNat else min (-1 : Int).toNat xs.length) = _
    rw [if_pos (by decide)]
    omega
  unfold cutV
  rw [e, HT.sIx_none, List.drop_eq_getElem_cons (show xs.length - 1 < xs.length by omega), List.getLast_eq_getElem]
  rw [show xs.length - 1 + 1 = xs.length by omega, List.drop_length]
  rw [show xs.length - (xs.length - 1) = 1 by omega]
  rfl
theorem RowsAt.frame {H H' : Hp} : ∀ {ts : List Addr} {rs : List Row3}, RowsAt H ts rs → (∀ t r, H t = some (.tup (rowV r)) → H' t = some (.tup (rowV r))) → RowsAt H' ts rs
  | [], [], _, _ => trivial
  | _ :: _, _ :: _, h, s => ⟨s _ _ h.1, h.2.frame s⟩
  | [], _ :: _, h, _ => h.elim
  | _ :: _, [], h, _ => h.elim
/-- the tick behind the first station -/
theorem behind_first (b d : Nat) : ∀ k, ((tailOf b d k).map (fun r => r.2.2) ++ [d])[0]? = some (d / b ^ k * b ^ k)
  | 0 => by
    show some d = some (d / b ^ 0 * b ^ 0)
    rw [Nat.pow_zero, Nat.div_one, Nat.mul_one]
  | k + 1 => by
    have e := cut_step b d k
    unfold tailOf
    split
    · rfl
    · rename_i h
      have h0 : d / b ^ k % b = 0 := Classical.byContradiction h
      rw [h0, Nat.zero_mul, Nat.add_zero] at e
      rw [behind_first b d k, e]
/-- a loop over enumerate(a list) -/
theorem for_enum {K : PySem.W.Frag} {a : Addr} {xs : List V} {g : TG} {tb : TS} {D : Ends} {σ : L2.St} {H : Hp} (Pv : Nat → L2.St → Hp → Prop) (h0 : Pv 0 σ H) (hq : ∀ i σ H, Pv i σ H → SqL K H a xs)
    (hs : ∀ (i : Nat) (x : V) (T : Addr) (σ : L2.St) (H : Hp), xs[i]? = some x → Pv i σ H → H T = none → g (.ref T) σ (upd H T (.tup [.int (i : Nat), x])) fun σ2 H2 => tb { D with nx := Pv (i + 1), ct := Pv (i + 1), bk := D.nx } σ2 H2) (hd : ∀ σ H, Pv xs.length σ H → D.nx σ H) :
    ∃ W : Nat → Nat → L2.St → Hp → Prop, (∃ m, W 0 m σ H) ∧ ∀ i m σ H, W i m σ H →
      ((Ite K a).stop i H ∧ D.nx σ H) ∨ ((Ite K a).go i H ∧ ∃ N : L2.St → Hp → Prop, (∀ σ' H', N σ' H' → ∃ m', m' < m ∧ W (i + 1) m' σ' H') ∧ ∀ v H', (Ite K a).yld i H v H' → g v σ H' fun σ2 H2 => tb { D with nx := N, ct := N, bk := D.nx } σ2 H2) := by
  refine ⟨fun i m σ H => m = xs.length - i ∧ i ≤ xs.length ∧ Pv i σ H, ⟨xs.length, rfl, Nat.zero_le _, h0⟩, ?_⟩
  rintro i m σ H ⟨rfl, hi, p⟩
  have qx := hq i σ H p
  by_cases hlt : i < xs.length
  · have hx : xs[i]? = some xs[i] := List.getElem?_eq_getElem hlt
    refine .inr ⟨⟨xs, xs[i], qx, hx⟩, Pv (i + 1), fun σ' H' p' => ⟨xs.length - (i + 1), by omega, rfl, hlt, p'⟩, fun v H' y => ?_⟩
    obtain ⟨T, x, rfl, nT, rfl, f⟩ := y
    have ex : x = xs[i] := Option.some.inj ((f xs qx).symm.trans hx)
    subst ex
    exact hs i _ T σ H hx p nT
  · have e : i = xs.length := by omega
    subst e
    exact .inl ⟨⟨xs, qx, Nat.le_refl _⟩, hd σ H p⟩
/-- a loop over zip(a list, a list), of any two lengths -/
theorem for_zip2 {K : PySem.W.Frag} {a b : Addr} {xs ys : List V} {g : TG} {tb : TS} {D : Ends} {σ : L2.St} {H : Hp} (Pv : Nat → L2.St → Hp → Prop) (h0 : Pv 0 σ H) (hq : ∀ i σ H, Pv i σ H → SqL K H a xs ∧ SqL K H b ys)
    (hs : ∀ (i : Nat) (x y : V) (T : Addr) (σ : L2.St) (H : Hp), xs[i]? = some x → ys[i]? = some y → Pv i σ H → H T = none → g (.ref T) σ (upd H T (.tup [x, y])) fun σ2 H2 => tb { D with nx := Pv (i + 1), ct := Pv (i + 1), bk := D.nx } σ2 H2) (hd : ∀ i σ H, Pv i σ H → D.nx σ H) :
    ∃ W : Nat → Nat → L2.St → Hp → Prop, (∃ m, W 0 m σ H) ∧ ∀ i m σ H, W i m σ H →
      ((Itz K a b).stop i H ∧ D.nx σ H) ∨ ((Itz K a b).go i H ∧ ∃ N : L2.St → Hp → Prop, (∀ σ' H', N σ' H' → ∃ m', m' < m ∧ W (i + 1) m' σ' H') ∧ ∀ v H', (Itz K a b).yld i H v H' → g v σ H' fun σ2 H2 => tb { D with nx := N, ct := N, bk := D.nx } σ2 H2) := by
  refine ⟨fun i m σ H => m = xs.length - i ∧ i ≤ xs.length ∧ Pv i σ H, ⟨xs.length, rfl, Nat.zero_le _, h0⟩, ?_⟩
  rintro i m σ H ⟨rfl, hi, p⟩
  obtain ⟨qx, qy⟩ := hq i σ H p
  by_cases hlt : i < xs.length ∧ i < ys.length
  · have hx : xs[i]? = some xs[i] := List.getElem?_eq_getElem hlt.1
    have hy : ys[i]? = some ys[i] := List.getElem?_eq_getElem hlt.2
    refine .inr ⟨⟨xs, ys, _, _, qx, qy, hx, hy⟩, Pv (i + 1), fun σ' H' p' => ⟨xs.length - (i + 1), by omega, rfl, hlt.1, p'⟩, fun v H' e => ?_⟩
    obtain ⟨T, x, y, rfl, nT, rfl, f, f2⟩ := e
    have ex : x = xs[i] := Option.some.inj ((f xs qx).symm.trans hx)
    have ey : y = ys[i] := Option.some.inj ((f2 ys qy).symm.trans hy)
    subst ex
    subst ey
    exact hs i _ _ T σ H hx hy p nT
  · refine .inl ⟨⟨xs, ys, qx, qy, ?_⟩, hd i σ H p⟩
    by_cases h1 : i < xs.length
    · right
      by_cases h2 : i < ys.length
      · exact absurd ⟨h1, h2⟩ hlt
      · omega
    · left
      omega
/-- the last item of a list that has one -/
theorem atI_neg1 {xs : List V} {x : V} (h : xs[xs.length - 1]? = some x) : atI xs (-1) = some x := by
  have hne : xs ≠ [] := fun e => by
    rw [e] at h
    simp at h
  have e : xs = xs.dropLast ++ [xs.getLast hne] := (List.dropLast_concat_getLast hne).symm
  have ex : x = xs.getLast hne := by
    have z := List.getLast?_eq_getElem? (l := xs)
    rw [h, List.getLast?_eq_some_getLast hne] at z
    exact (Option.some.inj z).symm
  rw [e, ex]
  exact atI_last _ _
/-! ### what fired, in the heap -/
/-- the list of what fired: tuples of the tick and a list of numbers -/
def FiredAt (r : Addr) (H : Hp) : List Addr → List (Nat × List Nat) → Prop
  | [], [] => True
  | t :: ts, f :: fs => (∃ u, H t = some (.tup [.int (f.1 : Nat), .ref u]) ∧ u ≠ r ∧ H u = some (.lst (f.2.map fun x => V.int (x : Nat)))) ∧ FiredAt r H ts fs
  | _, _ => False
theorem FiredAt.frame {r : Addr} {H H' : Hp} (s : ∀ t a u, H t = some (.tup [a, .ref u]) → H' t = some (.tup [a, .ref u])) (s2 : ∀ u (xs : List Nat), u ≠ r → H u = some (.lst (xs.map fun x => V.int (x : Nat))) → H' u = some (.lst (xs.map fun x => V.int (x : Nat)))) : ∀ {ts : List Addr} {fs : List (Nat × List Nat)}, FiredAt r H ts fs → FiredAt r H' ts fs
  | [], [], _ => trivial
  | _ :: _, _ :: _, ⟨⟨u, h1, hn, h2⟩, h3⟩ => ⟨⟨u, s _ _ _ h1, hn, s2 _ _ hn h2⟩, h3.frame s s2⟩
  | [], _ :: _, h => h.elim
  | _ :: _, [], h => h.elim
theorem FiredAt.same {r : Addr} {H H' : Hp} (s : Same H H') {ts : List Addr} {fs : List (Nat × List Nat)} (h : FiredAt r H ts fs) : FiredAt r H' ts fs := h.frame (fun _ _ _ e => s _ _ e) fun _ _ _ e => s _ _ e
theorem FiredAt.app {r : Addr} {H : Hp} {t : Addr} {f : Nat × List Nat} : ∀ {ts : List Addr} {fs : List (Nat × List Nat)}, FiredAt r H ts fs → (∃ u, H t = some (.tup [.int (f.1 : Nat), .ref u]) ∧ u ≠ r ∧ H u = some (.lst (f.2.map fun x => V.int (x : Nat)))) → FiredAt r H (ts ++ [t]) (fs ++ [f])
  | [], [], _, h => ⟨h, trivial⟩
  | _ :: _, _ :: _, h, h2 => ⟨h.1, h.2.app h2⟩
  | [], _ :: _, h, _ => h.elim
  | _ :: _, [], h, _ => h.elim
theorem FiredAt.len {r : Addr} {H : Hp} : ∀ {ts : List Addr} {fs : List (Nat × List Nat)}, FiredAt r H ts fs → ts.length = fs.length
  | [], [], _ => rfl
  | _ :: _, _ :: _, h => congrArg Nat.succ h.2.len
  | [], _ :: _, h => h.elim
  | _ :: _, [], h => h.elim
/-! ### advance -/
section
variable {P : Program} {w : World} {K : PySem.W.Frag} {mg : Str → Option Value} {base : Heap}
def spAdvance (C : Addr) : Sp := fun vs H Q _ => ∃ (p q l : Addr) (W : WS) (t : Nat) (fired : List (Nat × List Nat)) (ms' : List Tm), vs = [.ref p, .int (t : Nat)] ∧ WheelAt C H p q l W ∧ 2 ≤ W.b ∧ W.b ≤ 64 ∧ W.ws ≠ [] ∧ W.live.length ≤ 1000 ∧ W.tick ≤ t ∧ AdvTo W.b W.ws t W.live fired ms' ∧ total fired ≤ 2000 ∧
  ∀ H' r l' ts, Wk p l H H' l' → H r = none → H' r = some (.lst (ts.map V.ref)) → FiredAt r H' ts fired → WheelAt C H' p q l' { W with tick := t, live := ms' } → Q (.ref r) H'
theorem fire_tick (t : Nat) (ms : List Tm) (ns : List Nat) : (afterF t ms ns).length ≤ ms.length := by
  unfold afterF
  induction ns generalizing ms with
  | nil => exact Nat.le_refl _
  | cons n ns ih => exact Nat.le_trans (ih (fireT t ms n)) fire_len
theorem ok_advance {f C : Addr} {fd : FuncData} (F : Fun K "advance" "Wheel.advance" s_Wheel_advance f fd) (T : Tx K mg) (TW : TxW K mg C) (hM : ∃ t, mg "MOST_FIRINGS" = some (.int 2000 t)) (h1 : Has P w K mg base 3 "check_tick" ["tick", "least"] [] spCheckTick)
    (h2 : Has P w K mg base 1 "least_due" ["live"] [] spLeast) (h3 : Has P w K mg base 5 "order_of_firing" ["base", "levels", "live", "tick"] [] (spOrder K)) (h4 : Has P w K mg base 1 "after_firing" ["live", "numbers", "tick"] [] spAfter) :
    FnOk P w K mg base CX0 6 f fd ["self", "tick"] (spAdvance C) := by
  obtain ⟨f_check_tick, fd_check_tick, ds_check_tick, G_check_tick, m_check_tick, k_check_tick, b_check_tick, v_check_tick⟩ := h1
  obtain ⟨f_least_due, fd_least_due, ds_least_due, G_least_due, m_least_due, k_least_due, b_least_due, v_least_due⟩ := h2
  obtain ⟨f_order_of_firing, fd_order_of_firing, ds_order_of_firing, G_order_of_firing, m_order_of_firing, k_order_of_firing, b_order_of_firing, v_order_of_firing⟩ := h3
  obtain ⟨f_after_firing, fd_after_firing, ds_after_firing, G_after_firing, m_after_firing, k_after_firing, b_after_firing, v_after_firing⟩ := h4
  obtain ⟨tM, g_MOST_FIRINGS⟩ := hM
  refine F.ok sc_Wheel_advance (fun vs H Q E h => ?_) (fun cdv A outer s H vs Q E hr h => ?_)
  · obtain ⟨p, q, l, W, t, fired, ms', rfl, _⟩ := h
    rfl
  · obtain ⟨p, q, l, W, t, fired, ms', rfl, hw, hb, hb64, hne, few, htt, adv, tot, c⟩ := h
    obtain ⟨dx, hp⟩ := hw.ins
    obtain ⟨kvs, hl, L⟩ := hw.live
    refine ⟨_, (pss_cons (ps_expr (pe_call G_check_tick (hr.mono (by decide)) (by rfl) m_check_tick k_check_tick b_check_tick v_check_tick pass0 (pa_cons (pv 1) (pa_cons (pe_fld (pv 0) rfl) pa_nil))))
      (pss_cons (ps_set (i := 2) sc_Wheel_advance.nd rfl (.inl rfl) (pe_lst pa_nil))
      (pss_cons (ps_set (i := 3) sc_Wheel_advance.nd rfl (.inl rfl) pe_int)
      (pss_cons (ps_set (i := 4) sc_Wheel_advance.nd rfl (.inl rfl) (pe_fld (pv 0) rfl))
      (pss_cons (ps_set (i := 5) sc_Wheel_advance.nd rfl (.inl rfl) (pe_call G_least_due (hr.mono (by decide)) (by rfl) m_least_due k_least_due b_least_due v_least_due pass0 (pa_cons (pv 4) pa_nil)))
      (pss_cons (ps_while PassesOwn.never (PW.pt (pw_and (pt_cmpR op_notN (pv 5) pe_non (nomark _)) (pw_and1 (pt_cmpR op_le (pv 5) (pv 1) (nomark _)))))
        (pss_cons (ps_set (i := 6) sc_Wheel_advance.nd rfl (.inl rfl) (pe_call G_order_of_firing hr (by rfl) m_order_of_firing k_order_of_firing b_order_of_firing v_order_of_firing pass0 (pa_cons (pe_fld (pv 0) rfl) (pa_cons (pe_fld (pv 0) rfl) (pa_cons (pv 4) (pa_cons (pv 5) pa_nil))))))
        (pss_cons (ps_aug (i := 3) sc_Wheel_advance.nd rfl (.inl rfl) (pe_callB (lenK (K := K) rfl) (by rfl) T.b_len PySem.boot_len (pa_cons (pv 6) pa_nil)) ip_add)
        (pss_cons (ps_if (pt_cmpR op_gt (pv 3) (pe_glob (v := .int 2000) rfl g_MOST_FIRINGS ⟨_, rfl⟩) (nomark _))
          (pss_one ps_never)
          pss_nil)
        (pss_cons (ps_expr (pe_bm PySem.F.plainAttrs_list PySem.F.slot_list_append PySem.F.type_list_append mt_append (pv 2) (pa_cons (pe_tup (pa_cons (pv 5) (pa_cons (pv 6) pa_nil))) pa_nil)))
        (pss_cons (ps_set (i := 4) sc_Wheel_advance.nd rfl (.inl rfl) (pe_call G_after_firing (hr.mono (by decide)) (by rfl) m_after_firing k_after_firing b_after_firing v_after_firing pass0 (pa_cons (pv 4) (pa_cons (pv 6) (pa_cons (pv 5) pa_nil)))))
        (pss_one (ps_set (i := 5) sc_Wheel_advance.nd rfl (.inl rfl) (pe_call G_least_due (hr.mono (by decide)) (by rfl) m_least_due k_least_due b_least_due v_least_due pass0 (pa_cons (pv 4) pa_nil))))))))))
      (pss_cons (ps_fld (pv 0) (pv 4) rfl)
      (pss_cons (ps_fld (pv 0) (pv 1) rfl)
      (pss_one (ps_ret (pv 2))))))))))), ?_⟩
    refine ⟨_, rfl, _, rfl, p, C, dx, _, _, rfl, hp, TW.cl, TW.nT, wf_t, (t : Nat), _, rfl, by omega, ?_⟩
    refine ⟨by simp [sizeLine_eq], fun r hr0 => ?_⟩
    have s1 := same_upd (o := .lst []) hr0
    refine ⟨_, rfl, p, C, dx, _, _, rfl, s1 _ _ hp, TW.cl, TW.nL, wf_l, ?_⟩
    refine ⟨_, rfl, l, kvs, W.live, rfl, s1 _ _ hl, L.same s1, few, fun H2 s2 => ?_⟩
    have s12 := s1.trans s2
    refine while_by (fun σ H' => ∃ (lc : Addr) (kvc : List (Key × V)) (ms : List Tm) (rest done : List (Nat × List Nat)) (ts : List Addr) (many : Nat) (y6 : Option V), σ = [some (.ref p), some (.int (t : Nat)), some (.ref r), some (.int (many : Nat)), some (.ref lc), some (perV (leastD ms)), y6] ∧ Same H H' ∧ H' lc = some (.dK kvc) ∧ LiveK H' kvc ms ∧ ms.length ≤ 1000 ∧ AdvTo W.b W.ws t ms rest ms' ∧ many + total rest ≤ 2000 ∧ ts.length ≤ many ∧ fired = done ++ rest ∧ H' r = some (.lst (ts.map V.ref)) ∧ FiredAt r H' ts done ∧ (lc = l ∨ H lc = none))
      (fun σ _ => 3000 - slotInt σ 3) ⟨l, kvs, W.live, fired, [], [], 0, none, rfl, s12, s12 _ _ hl, L.same s12, few, adv, by omega, Nat.le_refl _, rfl, s2 _ _ upd_same, trivial, .inl rfl⟩ ?_ ?_
    · rintro σ H' ⟨lc, kvc, ms, rest, done, ts, many, y6, rfl, sm, elc, Lc, fewc, advc, totc, htsm, efd, er, FA, hlc⟩
      have hp' := sm _ _ hp
      have hw' := sm _ _ hw.words
      -- the end of it
      have fin : rest = [] → ms = ms' → tSeq (sFld K (tVar 0) (tVar 4) "live") (tSeq (sFld K (tVar 0) (tVar 1) "tick") (tRet (tVar 2))) { nx := fun _ H' => Q .non H', rt := Q } [some (.ref p), some (.int (t : Nat)), some (.ref r), some (.int (many : Nat)), some (.ref lc), some (perV (leastD ms)), y6] H' := by
        rintro rfl rfl
        rw [List.append_nil] at efd
        have npr : p ≠ r := fun e => by
          rw [e, hr0] at hp
          cases hp
        have npl : lc ≠ p := ne_of elc hp' (by intro z; cases z)
        have nqp : q ≠ p := ne_of hw' hp' (by intro z; cases z)
        refine ⟨_, rfl, _, rfl, p, C, dx, _, rfl, hp', TW.cl, TW.nL, by simp [wfl], ?_⟩
        rw [wf_pl]
        refine ⟨_, rfl, _, rfl, p, C, dx, _, rfl, upd_same, TW.cl, TW.nT, by simp [wfl], ?_⟩
        rw [wf_pt]
        have k' : ∀ c o, c ≠ p → H' c = some o → (upd (upd H' p (.ins C dx (wfl W.b q W.tick W.fol lc))) p (.ins C dx (wfl W.b q t W.fol lc))) c = some o := fun c o n e => by
          rw [upd_ne n, upd_ne n]
          exact e
        refine ⟨_, rfl, c _ r lc ts ⟨fun c o n1 n2 e => k' c o n1 (sm _ _ e), hlc⟩ hr0 (k' _ _ (Ne.symm npr) er) ?_ ⟨⟨dx, upd_same⟩, k' _ _ nqp hw', ⟨kvc, k' _ _ npl elc, ?_⟩⟩⟩
        · rw [efd]
          exact FA.frame (fun t a u e => k' _ _ (ne_of e hp' (by intro z; cases z)) e) fun u xs _ e => k' _ _ (ne_of e hp' (by intro z; cases z)) e
        · exact Lc.frame fun t m e => k' _ _ (ne_of e hp' (by intro z; cases z)) e
      cases advc with
      | done hdone =>
        cases hle : leastD ms' with
        | none => exact ⟨_, rfl, rfl, false, rfl, iteF (iteF (by rw [← hle]; exact fin rfl rfl))⟩
        | some v =>
          obtain ⟨m, hm, em⟩ := List.mem_map.mp (least_some.mp hle).1
          have hmt := hdone m hm
          have hvt : ¬ ((v : Int) ≤ (t : Int)) := by omega
          refine ⟨_, rfl, rfl, true, rfl, iteT ⟨_, rfl, _, rfl, (v : Nat), (t : Nat), rfl, rfl, false, dF hvt, iteF ?_⟩⟩
          rw [show perV (some v) = perV (leastD ms') from by rw [hle]]
          exact fin rfl rfl
      | @step _ _ at_ rest' hle hat okm ndm fewm radv =>
        rw [hle]
        have hat' : ((at_ : Int) ≤ (t : Int)) := by omega
        have etot : total ((at_, orderAt W.b W.ws at_ ms) :: rest') = (orderAt W.b W.ws at_ ms).length + total rest' := by
          unfold total
          rw [List.map_cons, List.sum_cons]
        rw [etot] at totc
        have hpos := order_pos (b := W.b) (ws := W.ws) hle
        refine ⟨_, rfl, rfl, true, rfl, iteT ⟨_, rfl, _, rfl, (at_ : Nat), (t : Nat), rfl, rfl, true, dT hat', iteT ?_⟩⟩
        refine ⟨_, rfl, p, C, dx, _, _, rfl, hp', TW.cl, TW.nB, wf_b, _, rfl, p, C, dx, _, _, rfl, hp', TW.cl, TW.nW, wf_w, _, rfl, _, rfl, W.b, at_, q, lc, W.ws, kvc, ms, rfl, hb, hb64, SqL.of hw', hne, elc, Lc, fewc, okm, fun H3 pn s3 hpn0 epn => ?_⟩
        refine ⟨_, rfl, _, rfl, pn, _, rfl, .inl (SqL.of epn), (many : Nat), ((orderAt W.b W.ws at_ ms).length : Nat), rfl, congrArg (fun k : Nat => V.int (k : Nat)) (List.length_map ..), ?_⟩
        refine ⟨_, rfl, _, _, rfl, rfl, false, dF (by show ¬ ((2000 : Int) < (many : Int) + ((orderAt W.b W.ws at_ ms).length : Nat)); omega), iteF ?_⟩
        have er3 := s3 _ _ er
        have nrp : r ≠ pn := fun e => by
          rw [← e, er] at hpn0
          cases hpn0
        refine ⟨_, rfl, .inl ⟨rfl, _, .inl (.inl er3)⟩, _, rfl, _, rfl, by simp [sizeLine_eq], fun u hu0 => ?_⟩
        have su := same_upd (o := .tup [perV (some at_), .ref pn]) hu0
        have eru := su _ _ er3
        refine ⟨r, _, _, rfl, rfl, eru, by rw [List.length_map]; exact sizeLine_ge (by omega), ?_⟩
        generalize hH4 : upd (upd H3 u (.tup [perV (some at_), .ref pn])) r (.lst (ts.map V.ref ++ [.ref u])) = H4
        have k4 : ∀ c o, c ≠ r → H3 c = some o → H4 c = some o := fun c o n e => by
          rw [← hH4, upd_ne n]
          exact su _ _ e
        have nur : u ≠ r := fun e => by
          rw [e, er3] at hu0
          cases hu0
        have eu4 : H4 u = some (.tup [.int (at_ : Nat), .ref pn]) := by
          rw [← hH4, upd_ne nur]
          exact upd_same
        have er4 : H4 r = some (.lst ((ts ++ [u]).map V.ref)) := by
          rw [← hH4, upd_same, List.map_append]
          rfl
        have epn4 := k4 _ _ (Ne.symm nrp) epn
        have sm4 : Same H H4 := fun c o e => k4 c o (ne_of_none e hr0) (s3 _ _ (sm _ _ e))
        have nlr : lc ≠ r := ne_of elc er (by intro z; cases z)
        have elc4 := k4 _ _ nlr (s3 _ _ elc)
        have Lc4 : LiveK H4 kvc ms := Lc.frame fun t m e => k4 _ _ (ne_of e er (by intro z; cases z)) (s3 _ _ e)
        have FA4 : FiredAt r H4 ts done := by
          exact FA.frame (fun t a u e => k4 _ _ (ne_of e er (by intro z; cases z)) (s3 _ _ e)) fun u xs hn e => k4 _ _ hn (s3 _ _ e)
        refine ⟨_, rfl, _, rfl, _, rfl, lc, pn, at_, orderAt W.b W.ws at_ ms, kvc, ms, rfl, elc4, Lc4, fewc, ndm, epn4, ⟨order_nodup ndm, fun n hn => by
          obtain ⟨m, h1, _, h3⟩ := order_mem.mp hn
          exact ⟨m, h1, h3⟩⟩, fun H5 lc5 kvc5 s5 hlc5 elc5 Lc5 => ?_⟩
        have few5 : (afterF at_ ms (orderAt W.b W.ws at_ ms)).length ≤ 1000 := Nat.le_trans (fire_tick _ _ _) fewc
        refine ⟨_, rfl, lc5, kvc5, _, rfl, elc5, Lc5, few5, fun H6 s6 => ?_⟩
        have s56 := s5.trans s6
        refine ⟨⟨lc5, kvc5, afterF at_ ms (orderAt W.b W.ws at_ ms), rest', done ++ [(at_, orderAt W.b W.ws at_ ms)], ts ++ [u], (many + (orderAt W.b W.ws at_ ms).length), _, rfl, sm4.trans s56, s6 _ _ elc5, Lc5.same s6, few5, radv, by omega, ?_, by rw [efd, List.append_assoc]; rfl, s56 _ _ er4, (FA4.app ⟨pn, eu4, Ne.symm nrp, epn4⟩).same s56, .inr (sm4.free hlc5)⟩, ?_⟩
        · rw [List.length_append, List.length_singleton]
          omega
        · show 3000 - (((many + (orderAt W.b W.ws at_ ms).length) : Int)).toNat < 3000 - ((many : Int)).toNat
          omega
    · rintro σ H' Q1 Q2 h ⟨x, hx, e1, k, e, z⟩
      refine ⟨x, hx, e1, k, e, ?_⟩
      cases k with
      | false => exact iteF (h _ _ (by rw [if_neg Bool.false_ne_true] at z; exact z))
      | true =>
        rw [if_pos rfl] at z
        refine iteT ?_
        obtain ⟨x1, hx1, x2, hx2, i, j, e2, e3, k', e4, zz⟩ := z
        exact ⟨x1, hx1, x2, hx2, i, j, e2, e3, k', e4, h _ _ zz⟩
end
/-! ### o.m(e, .., k = v, ..) -/
def tMethK (C : Addr) (m : Str) (sp : Sp) (n mk : Nat) (gV : List V → List V → List V) (E : XK) (ta : TE) (t tk : TA) : TE := fun σ H Q => ta σ H fun x H1 => ∃ (a dx : Addr) (fs : List (Str × V)), x = .ref a ∧ H1 a = some (.ins C dx fs) ∧ fs.lookup m = none ∧
  t σ H1 fun vs H2 => tk σ H2 fun zs H3 => vs.length + 1 = n ∧ zs.length = mk ∧ sp (gV (.ref a :: vs) zs) H3 Q E
section
variable {X : Cx} {CX : CXT} {k n : Nat} {C f : Addr} {fd : FuncData} {ps ks : List Str} {m : Str} {sp : Sp} {E : XK} {g : List Value → List Value → List Value} {gV : List V → List V → List V} {o e : Expr} {es : List Expr} {kws : List Keyword} {ta : TE} {t tk : TA} {apos pos : Pos}
theorem pe_methK {pl : Sem Bool} (he : PE X o ta) (c : Cls X.K C) (hm : Meth X.K C m f) (F : FnOk X.prog X.w X.K X.mg X.base CX k f fd ps sp) (hr : Room k X.A) (hb : KBn X.K fd ps n ks g gV) (hx : Passes CX X E) (ha : PA X (e :: es) t) (hkw : PK X kws tk)
    (hall : (backToKw pos (keywordEach kws X.env)).all (·.1.isSome) = true := by rfl) (hks : (backToKw pos (keywordEach kws X.env)).filterMap (·.1) = ks := by rfl)
    (hst : starEach (e :: es) X.env = (false, eval e X.env) :: starEach es X.env := by rfl)
    (hpl : ((backTo pos (starEach (e :: es) X.env)).any (·.1) || (backToKw pos (keywordEach kws X.env)).any (·.1.isNone)) = false := by rfl)
    (ht : eval (.Call (.Attribute o m apos) (e :: es) kws pos) X.env = (do
      let ov ← eval o X.env
      standAt apos.atName
      let (f, first) ← holding [ov] (getMethod ov m pl)
      callWith pos f first (backTo pos (starEach (e :: es) X.env)) (backToKw pos (keywordEach kws X.env))) := by rfl) :
    PE X (.Call (.Attribute o m apos) (e :: es) kws pos) (tMethK C m sp n ks.length gV E ta t tk) := by
  refine ⟨fun pins s σ H Q I h => ?_⟩
  refine PySem.W.methodCall_KW (pl := pl) (thn (he.run pins s σ H _ I h) fun u s1 ⟨x, H1, I1, rx, a, dx, fs, ex, ea, l, q⟩ => ?_) ht
  subst ex
  obtain rfl : u = Value.ref a := rx
  refine getmeth_ok I1 ea c hm l ?_
  refine PySem.W.callWith_KW (first := [.ref a]) (h₀ := X.base) I.ok.mod.kin hm.kp hall (thn (ha.run pos pins s1 σ H1 _ I1 q) fun us s2 ⟨vs, H2, I2, r, q2⟩ => ?_) hpl hst
  refine thn (hkw.run pos pins s2 σ H2 _ I2 q2) fun ws s3 ⟨zs, H3, I3, rz, l1, l2, q3⟩ => ⟨I3.kIn, ?_⟩
  rw [hks]
  exact run_fnN (us := .ref a :: us) (vs := .ref a :: vs) F hr hb hx I3 (.cons rfl r) rz (by rw [List.length_cons]; exact l1) l2 q3
end
/-! ### put, with its period told by name -/
section
variable {b : Nat} {q : Addr} {t f : Nat} {l : Addr}
theorem nm_put : (wfl b q t f l).lookup ("put" : Str) = none := wf_no (by decide +kernel) (by decide +kernel) (by decide +kernel) (by decide +kernel) (by decide +kernel)
theorem nm_timers : (wfl b q t f l).lookup ("timers" : Str) = none := wf_no (by decide +kernel) (by decide +kernel) (by decide +kernel) (by decide +kernel) (by decide +kernel)
theorem nm_cancel : (wfl b q t f l).lookup ("cancel" : Str) = none := wf_no (by decide +kernel) (by decide +kernel) (by decide +kernel) (by decide +kernel) (by decide +kernel)
theorem nm_reset : (wfl b q t f l).lookup ("reset" : Str) = none := wf_no (by decide +kernel) (by decide +kernel) (by decide +kernel) (by decide +kernel) (by decide +kernel)
theorem nm_now : (wfl b q t f l).lookup ("now" : Str) = none := wf_no (by decide +kernel) (by decide +kernel) (by decide +kernel) (by decide +kernel) (by decide +kernel)
theorem nm_lists : (wfl b q t f l).lookup ("lists" : Str) = none := wf_no (by decide +kernel) (by decide +kernel) (by decide +kernel) (by decide +kernel) (by decide +kernel)
theorem nm_lists_at : (wfl b q t f l).lookup ("lists_at" : Str) = none := wf_no (by decide +kernel) (by decide +kernel) (by decide +kernel) (by decide +kernel) (by decide +kernel)
theorem nm_advance : (wfl b q t f l).lookup ("advance" : Str) = none := wf_no (by decide +kernel) (by decide +kernel) (by decide +kernel) (by decide +kernel) (by decide +kernel)
theorem nm_next_event : (wfl b q t f l).lookup ("next_event" : Str) = none := wf_no (by decide +kernel) (by decide +kernel) (by decide +kernel) (by decide +kernel) (by decide +kernel)
theorem nm_next_firing : (wfl b q t f l).lookup ("next_firing" : Str) = none := wf_no (by decide +kernel) (by decide +kernel) (by decide +kernel) (by decide +kernel) (by decide +kernel)
end
section
variable {P : Program} {w : World} {K : PySem.W.Frag} {mg : Str → Option Value} {base : Heap}
def HasPut (P : Program) (w : World) (K : PySem.W.Frag) (mg : Str → Option Value) (base : Heap) (k : Nat) (C : Addr) : Prop :=
  ∃ (f : Addr) (fd : FuncData) (ds : List Value), FnOk P w K mg base CX0 k f fd ["self", "due", "period"] (spPut C) ∧ Meth K C "put" f ∧ L2.Binds K fd ["self", "due", "period"] ds ∧ Vals [.non] ds ∧ KBn K fd ["self", "due", "period"] 2 [Str.ofString "period"] (fun us ws => us ++ ws) (fun vs zs => vs ++ zs)
def HasInit (P : Program) (w : World) (K : PySem.W.Frag) (mg : Str → Option Value) (base : Heap) (k : Nat) (C : Addr) : Prop :=
  ∃ (fi : Addr) (fdi : FuncData), Mk K C fi ∧ FnOk P w K mg base CX0 k fi fdi ["self", "base", "levels", "start"] (spInit C K) ∧ KBn K fdi ["self", "base", "levels", "start"] 3 [Str.ofString "start"] (fun us ws => us ++ ws) (fun vs zs => vs ++ zs)
end
theorem okw_put {W : WS} (h : WOk W) (hl : W.live.length < 1000) {d : Nat} {o : Option Nat} (h1 : W.tick < d) (h2 : d < 2 ^ 250) (ho : ∀ k, o = some k → 1 ≤ k) : WOk { W with fol := W.fol + 1, live := W.live ++ [⟨W.fol, d, o, W.tick⟩] } := by
  refine ⟨h.b2, h.b64, h.ne, h.l60, fun m hm => ?_, ?_, ?_⟩
  · rcases List.mem_append.mp hm with z | z
    · have y := h.tms m z
      exact ⟨y.since, y.due, y.big, Nat.lt_succ_of_lt y.num, y.per⟩
    · rw [List.mem_singleton.mp z]
      exact ⟨Nat.le_refl _, h1, h2, Nat.lt_succ_self _, ho⟩
  · rw [List.map_append]
    refine L2.nd_snoc h.nd fun hm => ?_
    obtain ⟨m, hm, e⟩ := List.mem_map.mp hm
    have := (h.tms m hm).num
    have e' : m.num = W.fol := e
    omega
  · show (W.live ++ [_]).length ≤ 1000
    rw [List.length_append]
    show W.live.length + 1 ≤ 1000
    omega
/-! ### what a changed wheel leaves as it stands -/
theorem Wk.pre {p l l' : Addr} {H H1 H' : Hp} (s : Same H H1) (k : Wk p l H1 H' l') : Wk p l H H' l' := ⟨fun c o n1 n2 e => k.keep c o n1 n2 (s _ _ e), k.new.imp id s.free⟩
theorem Wk.post {p l l' : Addr} {H H1 H' : Hp} (k : Wk p l H H1 l') (s : Same H1 H') : Wk p l H H' l' := ⟨fun c o n1 n2 e => s _ _ (k.keep c o n1 n2 e), k.new⟩
/-- what stands in a heap beside wheels: lists and tuples stay -/
theorem Wk.lst {C p q l l' : Addr} {H H' : Hp} {W : WS} (k : Wk p l H H' l') (w : WheelAt C H p q l W) {c : Addr} {xs : List V} (e : H c = some (.lst xs)) : H' c = some (.lst xs) := by
  obtain ⟨dx, hp⟩ := w.ins
  obtain ⟨kvs, hl, _⟩ := w.live
  exact k.keep _ _ (ne_of e hp (by intro z; cases z)) (ne_of e hl (by intro z; cases z)) e
theorem Wk.tup {C p q l l' : Addr} {H H' : Hp} {W : WS} (k : Wk p l H H' l') (w : WheelAt C H p q l W) {c : Addr} {xs : List V} (e : H c = some (.tup xs)) : H' c = some (.tup xs) := by
  obtain ⟨dx, hp⟩ := w.ins
  obtain ⟨kvs, hl, _⟩ := w.live
  exact k.keep _ _ (ne_of e hp (by intro z; cases z)) (ne_of e hl (by intro z; cases z)) e
/-- the rows that tell the lists: the rows in H, what they hold in H0 -/
def CRows (H0 H : Hp) : List Addr → List Cell → Prop
  | [], [] => True
  | t :: ts, c :: cs => (∃ a, H t = some (.tup [.int (c.1.1 : Nat), .int (c.1.2 : Nat), .ref a]) ∧ H0 a = some (.lst (c.2.map fun x => V.int (x : Nat)))) ∧ CRows H0 H ts cs
  | _, _ => False
theorem CRows.frame {H0 H0' H H' : Hp} (s0 : ∀ a xs, H0 a = some (.lst xs) → H0' a = some (.lst xs)) (s : ∀ t xs, H t = some (.tup xs) → H' t = some (.tup xs)) : ∀ {ts : List Addr} {cs : List Cell}, CRows H0 H ts cs → CRows H0' H' ts cs
  | [], [], _ => trivial
  | _ :: _, _ :: _, ⟨⟨a, h1, h2⟩, h3⟩ => ⟨⟨a, s _ _ h1, s0 _ _ h2⟩, h3.frame s0 s⟩
  | [], _ :: _, h => h.elim
  | _ :: _, [], h => h.elim
theorem CRows.snoc {H0 H : Hp} {t a : Addr} {c : Cell} (h1 : H t = some (.tup [.int (c.1.1 : Nat), .int (c.1.2 : Nat), .ref a])) (h2 : H0 a = some (.lst (c.2.map fun x => V.int (x : Nat)))) : ∀ {ts : List Addr} {cs : List Cell}, CRows H0 H ts cs → CRows H0 H (ts ++ [t]) (cs ++ [c])
  | [], [], _ => ⟨⟨a, h1, h2⟩, trivial⟩
  | _ :: _, _ :: _, h => ⟨h.1, h.2.snoc h1 h2⟩
  | [], _ :: _, h => h.elim
  | _ :: _, [], h => h.elim
/-- the lists that the rows hold are new ones -/
def FRows (Hb H : Hp) : List Addr → Prop
  | [] => True
  | t :: ts => (∃ (x y : V) (a : Addr), H t = some (.tup [x, y, .ref a]) ∧ Hb a = none) ∧ FRows Hb H ts
theorem FRows.frame {Hb H H' : Hp} (s : ∀ t xs, H t = some (.tup xs) → H' t = some (.tup xs)) : ∀ {ts : List Addr}, FRows Hb H ts → FRows Hb H' ts
  | [], _ => trivial
  | _ :: _, ⟨⟨x, y, a, h1, h2⟩, h3⟩ => ⟨⟨x, y, a, s _ _ h1, h2⟩, h3.frame s⟩
theorem FRows.snoc {Hb H : Hp} {t a : Addr} {x y : V} (h1 : H t = some (.tup [x, y, .ref a])) (h2 : Hb a = none) : ∀ {ts : List Addr}, FRows Hb H ts → FRows Hb H (ts ++ [t])
  | [], _ => ⟨⟨x, y, a, h1, h2⟩, trivial⟩
  | _ :: _, h => ⟨h.1, h.2.snoc h1 h2⟩
/-- the rows stand on where all but old things stay -/
theorem CRows.keepF {Hb H H' : Hp} (s0 : ∀ c o, Hb c = none → H c = some o → H' c = some o) (s : ∀ t xs, H t = some (.tup xs) → H' t = some (.tup xs)) : ∀ {ts : List Addr} {cs : List Cell}, CRows H H ts cs → FRows Hb H ts → CRows H' H' ts cs
  | [], [], _, _ => trivial
  | _ :: _, _ :: _, ⟨⟨a, h1, h2⟩, h3⟩, ⟨⟨x, y, a', h4, h5⟩, h6⟩ => by
    rw [h1] at h4
    have e := HO.tup.inj (Option.some.inj h4)
    have ea : a = a' := by
      injection e with _ e
      injection e with _ e
      injection e with e _
      exact V.ref.inj e
    subst ea
    exact ⟨⟨a, s _ _ h1, s0 _ _ h5 h2⟩, h3.keepF s0 s h6⟩
  | [], _ :: _, h, _ => h.elim
  | _ :: _, [], h, _ => h.elim
theorem mem_putK {κ : Type} [DecidableEq κ] {kvs : List (κ × V)} {k : κ} {v : V} {kv : κ × V} (h : kv ∈ putK kvs k v) : kv ∈ kvs ∨ kv.2 = v := by
  unfold putK at h
  split at h
  · obtain ⟨x, hx, e⟩ := List.mem_map.mp h
    by_cases c : x.1 = k
    · rw [if_pos c] at e
      exact .inr (by rw [← e])
    · rw [if_neg c] at e
      exact .inl (by rw [← e]; exact hx)
  · rcases List.mem_append.mp h with h | h
    · exact .inl h
    · rw [List.mem_singleton.mp h]
      exact .inr rfl
theorem valV_mem2 {κ : Type} [DecidableEq κ] {k : κ} {v : V} : ∀ {kvs : List (κ × V)}, valV kvs k = some v → ∃ kv ∈ kvs, kv.2 = v
  | [], h => by cases h
  | kv :: kvs, h => by
    by_cases c : kv.1 = k
    · rw [valV_pos c] at h
      exact ⟨kv, List.mem_cons_self .., Option.some.inj h⟩
    · rw [valV_neg c] at h
      obtain ⟨x, hx, e⟩ := valV_mem2 h
      exact ⟨x, List.mem_cons_of_mem _ hx, e⟩
/-- what tells the lists, and nothing else does -/
structure IsLists (b : Nat) (ws : List Bool) (t : Nat) (ms : List Tm) (cs : List Cell) : Prop where
  perm : (cs.map (·.1)).Perm ((standD b ws t ms).map (·.1))
  sorted : (cs.map fun c => ((c.1.1 : Int), (c.1.2 : Int))).Pairwise (fun a b => SrtO.lexB b a = false)
  val : ∀ c ∈ cs, c.2 = cellV (standD b ws t ms) c.1
section
variable {P : Program} {w : World} {K : PySem.W.Frag} {mg : Str → Option Value} {base : Heap}
def spStanding (K : PySem.W.Frag) : Sp := fun vs H Q _ => ∃ (b t : Nat) (q l : Addr) (ws : List Bool) (kvs : List (Key × V)) (ms : List Tm), vs = [.int (b : Nat), .ref q, .ref l, .int (t : Nat)] ∧ 2 ≤ b ∧ b ≤ 64 ∧ SqL K H q (ws.map lvV) ∧ ws ≠ [] ∧ H l = some (.dK kvs) ∧ LiveK H kvs ms ∧ ms.length ≤ 1000 ∧ DuesOk ms ∧
  ∀ H' p ts cs, Same H H' → H p = none → H' p = some (.lst (ts.map V.ref)) → CRows H' H' ts cs → FRows H H' ts → IsLists b ws t ms cs → Q (.ref p) H'
theorem ok_standing {f : Addr} {fd : FuncData} (F : Fun K "standing" "standing" s_standing f fd) (T : Tx K mg) (h0 : Has P w K mg base 1 "level_and_size" ["base", "now", "due"] [] spLevel) (h1 : Has P w K mg base 1 "with_timer" ["numbers", "number", "front"] [] spWithTimer)
    (h2 : Has P w K mg base 3 "goes_in_front" ["base", "levels", "now", "due", "lowest"] [] (spFront K)) : FnOk P w K mg base CX0 4 f fd ["base", "levels", "live", "tick"] (spStanding K) := by
  obtain ⟨f_level_and_size, fd_level_and_size, ds_level_and_size, G_level_and_size, m_level_and_size, k_level_and_size, b_level_and_size, v_level_and_size⟩ := h0
  obtain ⟨f_with_timer, fd_with_timer, ds_with_timer, G_with_timer, m_with_timer, k_with_timer, b_with_timer, v_with_timer⟩ := h1
  obtain ⟨f_goes_in_front, fd_goes_in_front, ds_goes_in_front, G_goes_in_front, m_goes_in_front, k_goes_in_front, b_goes_in_front, v_goes_in_front⟩ := h2
  refine F.ok sc_standing (fun vs H Q E h => ?_) (fun cdv A outer s H vs Q E hr h => ?_)
  · obtain ⟨b, t, q, l, ws, kvs, ms, rfl, _⟩ := h
    rfl
  · obtain ⟨b, t, q, l, ws, kvs, ms, rfl, hb, hb64, hL, hne, hl, L, few, ok, c⟩ := h
    have hu := hu_of hr
    have hb0 : 0 < b := by omega
    refine ⟨_, (pss_cons (ps_set (i := 4) sc_standing.nd rfl (.inr rfl) pe_dnewT)
      (pss_cons (ps_lock (ps_for PassesOwn.never rfl (pi_items (pv 2)) (pg_tupK (K := K) (n := 2) rfl rfl (pgs_cons (pg_name (i := 5) sc_standing.nd rfl (.inl rfl)) (pgs_cons (pg_tupK (K := K) (n := 3) rfl rfl (pgs_cons (pg_name (i := 6) sc_standing.nd rfl (.inl rfl)) (pgs_cons (pg_name (i := 7) sc_standing.nd rfl (.inl rfl)) (pgs_cons (pg_name (i := 8) sc_standing.nd rfl (.inl rfl)) pgs_nil)))) pgs_nil)))
        (pss_one (ps_if (pt_cmpR op_gt (pv 6) (pv 3) (nomark _))
          (pss_cons (ps_asg (pe_call G_level_and_size (hr.mono (by decide)) (by rfl) m_level_and_size k_level_and_size b_level_and_size v_level_and_size pass0 (pa_cons (pv 0) (pa_cons (pv 3) (pa_cons (pv 6) pa_nil)))) (pg_tupK (K := K) (n := 2) rfl rfl (pgs_cons (pg_name (i := 9) sc_standing.nd rfl (.inl rfl)) (pgs_cons (pg_name (i := 10) sc_standing.nd rfl (.inl rfl)) pgs_nil))))
          (pss_cons (ps_set (i := 11) sc_standing.nd rfl (.inl rfl) (pe_tup (pa_cons (pv 9) (pa_cons (pe_op op_remN (pe_op op_divN (pv 6) (pv 10)) (pv 0)) pa_nil))))
          (pss_cons (ps_set (i := 12) sc_standing.nd rfl (.inl rfl) (pe_call G_goes_in_front hr (by rfl) m_goes_in_front k_goes_in_front b_goes_in_front v_goes_in_front pass0 (pa_cons (pv 0) (pa_cons (pv 1) (pa_cons (pv 8) (pa_cons (pv 6) (pa_cons (pv 9) pa_nil)))))))
          (pss_one (ps_asg (pe_call G_with_timer (hr.mono (by decide)) (by rfl) m_with_timer k_with_timer b_with_timer v_with_timer pass0 (pa_cons (pe_dget2 hu (pv 4) (pv 11) (pe_lst pa_nil) ⟨by rfl, by rfl, by rfl, by rfl⟩) (pa_cons (pv 5) (pa_cons (pv 12) pa_nil)))) (pg_sub (pv 4) (pv 11) (set_dict hu)))))))
          pss_nil))))
      (pss_one (ps_ret (pe_lc (own := [("level", 9), ("digit", 13)]) (g := _) (tt := tYes) rfl sc_standing.nd (pi_list (pe_callB (call_sortedDT rfl) (by rfl) T.b_sorted (by decide +kernel) (pa_cons (pv 4) pa_nil))) (blkOk_by (own := [("level", 9), ("digit", 13)]) (N := N_standing) (sc := defScope s_standing) (by decide +kernel)) (fun _ _ _ _ _ => (pg_tupK (K := K) (n := 2) rfl rfl (pgs_cons (pg_name (i := 9) sc_standing.nd rfl (.inl rfl)) (pgs_cons (pg_name (i := 13) sc_standing.nd rfl (.inl rfl)) pgs_nil)))) (fun _ _ _ _ _ => pts_nil) (fun _ _ _ _ _ => (pe_tup (pa_cons (pv 9) (pa_cons (pv 13) (pa_cons (pe_dget hu (pv 4) (pe_tup (pa_cons (pv 9) (pa_cons (pv 13) pa_nil))) (fun _ _ => rfl)) pa_nil)))))))))), ?_⟩
    refine fun R hR0 => ?_
    have s0 := same_upd (o := .dT []) hR0
    have hl0 := s0 _ _ hl
    refine ⟨l, _, hl0, trivial, fun od => ?_⟩
    have nR : R ≠ l := fun e => by
      rw [e, hl] at hR0
      cases hR0
    refine ⟨_, rfl, l, od, kvs, rfl, upd_same, for_items (d := l) (o := od) (kvs := kvs) (fun i σ H' => ∃ (kvd : List (List Key × V)) (y5 y6 y7 y8 y9 y10 y11 y12 y13 : Option V), σ = [some (.int (b : Nat)), some (.ref q), some (.ref l), some (.int (t : Nat)), some (.ref R), y5, y6, y7, y8, y9, y10, y11, y12, y13] ∧ (∀ c o, c ≠ R → (upd (upd H R (.dT [])) l (.frz od (.dK kvs))) c = some o → H' c = some o) ∧ H' R = some (.dT kvd) ∧ CellsAt H' kvd (standD b ws t (ms.take i)) ∧ ∀ kv ∈ kvd, ∀ a, kv.2 = .ref a → H a = none)
      ⟨[], none, none, none, none, none, none, none, none, none, rfl, fun _ _ _ e => e, by rw [upd_ne nR, upd_same], trivial, fun kv h => by cases h⟩ (fun i σ H' ⟨_, _, _, _, _, _, _, _, _, _, _, kp, _, _, _⟩ => kp _ _ (Ne.symm nR) upd_same) ?_ ?_⟩
    · rintro i k v U σ H' hx ⟨kvd, y5, y6, y7, y8, y9, y10, y11, y12, y13, rfl, kp, eR, CA, fr⟩ hU
      have L' := (L.same s0).upd (o' := .frz od (.dK kvs)) hl0 (fun xs z => by cases z)
      obtain ⟨m, tt, hm, rfl, rfl, ht⟩ := L'.get hx
      have sU := same_upd (o := .tup [.int (m.num : Nat), .ref tt]) hU
      have ntR : tt ≠ R := fun e => by
        rw [e, upd_ne nR, upd_same] at ht
        cases ht
      have ht' := sU _ _ (kp _ _ ntR ht)
      have eRU := sU _ _ eR
      have CAU := CA.frame (H' := upd H' U (.tup [.int (m.num : Nat), .ref tt])) fun a xs e => sU _ _ e
      have okm := ok m (List.mem_of_getElem? hm)
      have hi : i < ms.length := (List.getElem?_eq_some_iff.mp hm).1
      obtain ⟨bd1, bd2, bd3⟩ := stand_bounds b ws t ms i (by omega)
      have hstep : standD b ws t (ms.take (i + 1)) = standStep b ws t (standD b ws t (ms.take i)) m := by
        rw [List.take_add_one, hm]
        exact stand_snoc b ws t _ m
      refine ⟨U, _, rfl, .inl (.inl upd_same), rfl, _, _, rfl, _, _, rfl, tt, _, rfl, .inl (.inl ht'), rfl, _, _, rfl, _, _, rfl, _, _, rfl, rfl, rfl, ?_⟩
      by_cases e : t < m.due
      · refine ⟨_, rfl, _, rfl, (m.due : Nat), (t : Nat), rfl, rfl, true, dT (Int.ofNat_lt.mpr e), iteT ?_⟩
        refine ⟨_, rfl, _, rfl, _, rfl, b, t, m.due, rfl, hb, hb64, e, okm.2, fun k hk H2 t0 s2 ht0 eT0 => ?_⟩
        refine ⟨t0, _, rfl, .inl (.inl eT0), rfl, _, _, rfl, _, _, rfl, rfl, ?_⟩
        have hsz : b ^ k < 2 ^ 250 := Nat.lt_of_le_of_lt (hk.size hb e) okm.2
        refine ⟨_, rfl, _, rfl, _, rfl, m.due, b ^ k, rfl, rfl, ndiv 250 (pow_pos' hb k) hsz, _, rfl, _, _, rfl, rfl, hb0, by simp [sizeLine_eq], fun pl hpl => ?_⟩
        have s3 := same_upd (o := .tup [.int (k : Nat), .int ((m.due / b ^ k % b : Nat) : Int)]) hpl
        have epl : (upd H2 pl (.tup [.int (k : Nat), .int ((m.due / b ^ k % b : Nat) : Int)])) pl = some (.tup ((keyC (placeT b t m.due)).map kV)) := by
          rw [upd_same]
          unfold placeT
          rw [levT_eq hk]
          rfl
        have s13 := (sU.trans s2).trans s3
        generalize upd H2 pl (.tup [.int (k : Nat), .int ((m.due / b ^ k % b : Nat) : Int)]) = H3 at s3 epl s13 ⊢
        have hq3 : SqL K H3 q (ws.map lvV) := by
          have hq0 := sq_lock (o' := .frz od (.dK kvs)) hl0 (s0.seq hL)
          rcases hq0 with (e1 | ⟨o1, e1⟩) | e1
          · exact .inl (.inl (s13 _ _ (kp _ _ (fun z => by rw [z, upd_ne nR, upd_same] at e1; cases e1) e1)))
          · exact .inl (.inr ⟨o1, s13 _ _ (kp _ _ (fun z => by rw [z, upd_ne nR, upd_same] at e1; cases e1) e1)⟩)
          · exact .inr e1
        refine ⟨_, rfl, _, rfl, _, rfl, _, rfl, _, rfl, b, m.since, m.due, k, q, ws, rfl, hb, hb64, okm.1, okm.2, hq3, hne, fun k2 hk2 H4 s4 => ?_⟩
        have s14 := s13.trans s4
        have eR4 := s14 _ _ eR
        have CA4 := CA.frame (H' := H4) fun a xs e => s14 _ _ e
        have epl4 := s4 _ _ epl
        refine ⟨_, rfl, R, rfl, .inr ⟨_, .inl eR4⟩, _, rfl, by simp [sizeLine_eq], fun el hel => ?_⟩
        have s5 := same_upd (o := .lst []) hel
        have eel : (upd H4 el (.lst [])) el = some (.lst []) := upd_same
        have s15 := s14.trans s5
        generalize upd H4 el (.lst []) = H5 at s5 s15 eel ⊢
        have eR5 := s15 _ _ eR
        have CA5 := CA.frame (H' := H5) fun a xs e => s15 _ _ e
        have epl5 := s5 _ _ epl4
        obtain ⟨a, ea, hla⟩ : ∃ a, (valV kvd (keyC (placeT b t m.due))).getD (.ref el) = .ref a ∧ H5 a = some (.lst ((cellV (standD b ws t (ms.take i)) (placeT b t m.due)).map fun x => V.int (x : Nat))) := by
          rcases CA5.val (p := placeT b t m.due) with ⟨z1, z2⟩ | ⟨a, z1, z2⟩
          · exact ⟨el, by rw [z1]; rfl, by rw [z2]; exact eel⟩
          · exact ⟨a, by rw [z1]; rfl, z2⟩
        refine ⟨_, DGet.t eR5 epl5, _, rfl, _, rfl, a, cellV (standD b ws t (ms.take i)) (placeT b t m.due), m.num, frontOf ws k (rowsOf b m.since m.due k2), by rw [ea]; rfl, hla, ?_, fun H6 a6 s6 ha6 ea6 => ?_⟩
        · have z := bd2 (placeT b t m.due)
          omega
        have s16 := s15.trans s6
        have eR6 := s16 _ _ eR
        have epl6 := s6 _ _ epl5
        have CA6 := CA.frame (H' := H6) fun a xs e => s16 _ _ e
        refine ⟨_, rfl, _, rfl, R, _, rfl, DPut.t eR6 epl6 ?_, ?_⟩
        · rw [CA6.len]
          exact sizeLine_ge (by omega)
        · refine ⟨_, _, _, _, _, _, _, _, _, _, rfl, fun c o n e => ?_, upd_same, ?_⟩
          · rw [upd_ne n]
            exact s16 _ _ (kp _ _ n e)
          · refine ⟨?_, fun kv hkv a' ea' => ?_⟩
            rotate_left
            · rcases mem_putK hkv with h | h
              · exact fr kv h a' ea'
              · rw [ea'] at h
                rw [V.ref.inj h]
                have hf := s15.free ha6
                cases eh : H a6 with
                | none => rfl
                | some o =>
                  exfalso
                  by_cases n : a6 = l
                  · have z := kp l _ (Ne.symm nR) upd_same
                    rw [← n, hf] at z
                    cases z
                  · have z := kp a6 o (ne_of_none eh hR0) (by rw [upd_ne n]; exact s0 _ _ eh)
                    rw [hf] at z
                    cases z
            have eput := CA6.put (p := placeT b t m.due) ea6
            have e2 : standD b ws t (ms.take (i + 1)) = cellPut (standD b ws t (ms.take i)) (placeT b t m.due) (insT (frontOf ws k (rowsOf b m.since m.due k2)) m.num (cellV (standD b ws t (ms.take i)) (placeT b t m.due))) := by
              rw [hstep]
              unfold standStep
              rw [if_pos e, levT_eq hk, sideT_eq hk2]
            rw [e2]
            exact eput.frame fun a xs e => by
              rw [upd_ne fun z => ?_]
              · exact e
              · rw [z, eR6] at e
                cases e
      · refine ⟨_, rfl, _, rfl, (m.due : Nat), (t : Nat), rfl, rfl, false, dF (fun z => e (Int.ofNat_lt.mp z)), iteF ?_⟩
        refine ⟨kvd, _, _, _, _, _, _, _, _, _, rfl, fun c o n e => sU _ _ (kp _ _ n e), eRU, ?_⟩
        rw [hstep]
        unfold standStep
        rw [if_neg e]
        exact ⟨CAU, fr⟩
    · rintro σ H' ⟨kvd, y5, y6, y7, y8, y9, y10, y11, y12, y13, rfl, kp, eR, CA, fr⟩
      rw [L.len, List.take_length] at CA
      refine ⟨kp _ _ (Ne.symm nR) upd_same, ?_⟩
      obtain ⟨bd1, bd2, bd3⟩ := stand_bounds b ws t ms ms.length (Nat.le_refl _)
      rw [List.take_length] at bd1 bd2 bd3
      have nRl : R ≠ l := nR
      have hlz := kp l _ (Ne.symm nR) upd_same
      have eR1 : (upd H' l (.dK kvs)) R = some (.dT kvd) := by
        rw [upd_ne nR]
        exact eR
      have CA1 := CA.frame (H' := upd H' l (.dK kvs)) fun a xs e => by
        rw [upd_ne fun z => ?_]
        · exact e
        · rw [z, hlz] at e
          cases e
      have sAll : Same H (upd H' l (.dK kvs)) := fun c o e => by
        by_cases n : c = l
        · rw [n] at e ⊢
          rw [upd_same]
          exact hl.symm.trans e
        · rw [upd_ne n]
          exact kp _ _ (ne_of_none e hR0) (by rw [upd_ne n]; exact s0 _ _ e)
      generalize upd H' l (.dK kvs) = H1 at eR1 CA1 sAll ⊢
      generalize hrs : standD b ws t ms = rs at CA1 bd1 bd2 bd3
      refine ⟨_, rfl, R, kvd, _, rfl, .inl eR1, CA1.keys, fun p bs hp0 hperm hsort hbs => ?_⟩
      obtain ⟨ks, eks, hks⟩ : ∃ ks : List (Nat × Nat), (bs.map fun x => pairAt H1 (.ref x)) = ks.map (fun k => ((k.1 : Int), (k.2 : Int))) ∧ ks.Perm (rs.map (·.1)) := by
        refine ⟨(bs.map fun x => pairAt H1 (.ref x)).map fun z => (z.1.toNat, z.2.toNat), ?_, ?_⟩
        · rw [List.map_map]
          have e1 : (bs.map fun x => pairAt H1 (.ref x)).map id = _ := List.map_congr_left (f := id) (g := (fun k : Nat × Nat => ((k.1 : Int), (k.2 : Int))) ∘ fun z : Int × Int => (z.1.toNat, z.2.toNat)) fun z hz => by
            obtain ⟨cc, _, rfl⟩ := List.mem_map.mp (hperm.mem_iff.mp hz)
            rfl
          rw [List.map_id] at e1
          exact e1
        · have z := hperm.map fun z : Int × Int => (z.1.toNat, z.2.toNat)
          have e1 : (rs.map fun c => ((c.1.1 : Int), (c.1.2 : Int))).map (fun z : Int × Int => (z.1.toNat, z.2.toNat)) = rs.map (·.1) := by
            rw [List.map_map]
            exact List.map_congr_left fun c _ => rfl
          rw [e1] at z
          exact z
      have hbl : bs.length = ks.length := by
        have z := congrArg List.length eks
        rw [List.length_map, List.length_map] at z
        exact z
      have hkl : ks.length ≤ 1000 := by
        have z := hks.length_eq
        rw [List.length_map] at z
        omega
      have s2 := same_upd (o := .lst (bs.map V.ref)) hp0
      have ep : (upd H1 p (.lst (bs.map V.ref))) p = some (.lst (bs.map V.ref)) := upd_same
      generalize upd H1 p (.lst (bs.map V.ref)) = H2 at s2 ep ⊢
      have eR2 := s2 _ _ eR1
      have CA2 := CA1.frame (H' := H2) fun a xs e => s2 _ _ e
      refine ⟨p, rfl, ⟨_, SqL.of ep⟩, fun D hD => lc_list (K := K) (a := p) (xs := bs.map V.ref) (fun i H3 => Same H2 H3 ∧ ∃ ts, H3 D = some (.lst (ts.map V.ref)) ∧ ts.length = (ks.take i).length ∧ CRows H2 H3 ts ((ks.take i).map fun k => (k, cellV rs k)) ∧ FRows H H3 ts)
        ⟨same_upd hD, [], upd_same, rfl, trivial, trivial⟩ (fun i H3 _ ⟨sm, _⟩ => SqL.of (sm _ _ ep)) ?_ ?_⟩
      · rintro i x H3 hx ⟨sm, ts, eD, hts, CR, FR⟩
        rw [List.getElem?_map] at hx
        obtain ⟨x0, hx0, rfl⟩ : ∃ x0, bs[i]? = some x0 ∧ x = V.ref x0 := by
          cases e : bs[i]? with
          | none =>
            rw [e] at hx
            cases hx
          | some y =>
            rw [e] at hx
            exact ⟨y, rfl, (Option.some.inj hx).symm⟩
        have hlt : i < ks.length := by
          have z := (List.getElem?_eq_some_iff.mp hx0).1
          omega
        have hk : ks[i]? = some ks[i] := List.getElem?_eq_getElem hlt
        generalize ks[i] = kk at hk
        have epa : pairAt H1 (.ref x0) = ((kk.1 : Int), (kk.2 : Int)) := by
          have z := congrArg (fun l : List (Int × Int) => l[i]?) eks
          simp only [List.getElem?_map, hx0, hk] at z
          exact Option.some.inj z
        have ex0 := hbs x0 (List.mem_of_getElem? hx0)
        rw [epa] at ex0
        have ex3 := sm _ _ (s2 _ _ ex0)
        refine ⟨x0, _, rfl, .inl (.inl ex3), rfl, _, _, rfl, _, _, rfl, rfl, rfl, yesT (iteT ?_)⟩
        refine ⟨_, rfl, _, rfl, _, rfl, _, rfl, _, rfl, by simp [sizeLine_eq], fun kt hkt => ?_⟩
        have s4 := same_upd (o := .tup [.int (kk.1 : Int), .int (kk.2 : Int)]) hkt
        have ekt : (upd H3 kt (.tup [.int (kk.1 : Int), .int (kk.2 : Int)])) kt = some (.tup ((keyC kk).map kV)) := upd_same
        have eD4 := s4 _ _ eD
        have eR4 := s4 _ _ (sm _ _ eR2)
        obtain ⟨a, ha1, ha2⟩ := CA2.val_mem (p := kk) (hks.mem_iff.mp (List.mem_of_getElem? hk))
        have g := DGet.t eR4 ekt
        rw [ha1] at g
        refine ⟨R, .ref a, rfl, g, by simp [sizeLine_eq], fun tr htr => ?_⟩
        have s5 := same_upd (o := .tup [.int (kk.1 : Int), .int (kk.2 : Int), .ref a]) htr
        have eD5 := s5 _ _ eD4
        have nDr : tr ≠ D := fun z => by
          rw [z, eD4] at htr
          cases htr
        refine ⟨_, eD5, ?_, fun c o e => ?_, ts ++ [tr], ?_, ?_, ?_, ?_⟩
        · rw [List.length_map, hts, List.length_take]
          exact sizeLine_ge (by omega)
        · rw [upd_ne (ne_of_none e hD)]
          exact s5 _ _ (s4 _ _ (sm _ _ e))
        · rw [upd_same, List.map_append]
          rfl
        · rw [List.take_add_one, hk, List.length_append, List.length_append, hts]
          rfl
        · rw [List.take_add_one, hk, List.map_append]
          have CR5 := CR.frame (H0' := H2) (H' := upd (upd H3 kt (.tup [.int (kk.1 : Int), .int (kk.2 : Int)])) tr (.tup [.int (kk.1 : Int), .int (kk.2 : Int), .ref a])) (fun _ _ e => e) fun _ _ e => s5 _ _ (s4 _ _ e)
          have CR6 := CR5.snoc (t := tr) (a := a) (c := (kk, cellV rs kk)) upd_same ha2
          exact CR6.frame (fun _ _ e => e) fun t xs e => by
            rw [upd_ne fun z => ?_]
            · exact e
            · rw [z, eD5] at e
              cases e
        · obtain ⟨kv, hkv, ekv⟩ := valV_mem2 ha1
          have FR5 := (FR.frame (H' := upd (upd H3 kt (.tup [.int (kk.1 : Int), .int (kk.2 : Int)])) tr (.tup [.int (kk.1 : Int), .int (kk.2 : Int), .ref a])) fun _ _ e => s5 _ _ (s4 _ _ e)).snoc (t := tr) upd_same (fr kv hkv a ekv)
          exact FR5.frame fun t xs e => by
            rw [upd_ne fun z => ?_]
            · exact e
            · rw [z, eD5] at e
              cases e
      · rintro H3 ⟨s3, ts, eD, hts, CR, FR⟩
        rw [List.length_map, hbl, List.take_length] at CR
        refine c H3 D ts (ks.map fun k => (k, cellV rs k)) (sAll.trans (s2.trans s3)) ((sAll.trans s2).free hD) eD (CR.frame (fun _ _ e => s3 _ _ e) fun _ _ e => e) FR ⟨?_, ?_, ?_⟩
        · rw [List.map_map, hrs]
          have e1 : ks.map ((fun c : Cell => c.1) ∘ fun k => (k, cellV rs k)) = ks.map id := List.map_congr_left fun k _ => rfl
          rw [e1, List.map_id]
          exact hks
        · rw [List.map_map]
          rw [eks] at hsort
          exact hsort
        · intro cc hcc
          obtain ⟨k, _, rfl⟩ := List.mem_map.mp hcc
          rw [hrs]
end
section
variable {P : Program} {w : World} {K : PySem.W.Frag} {mg : Str → Option Value} {base : Heap}
def spLists (C : Addr) : Sp := fun vs H Q _ => ∃ (p q l : Addr) (W : WS), vs = [.ref p] ∧ WheelAt C H p q l W ∧ WOk W ∧ ∀ H' r ts cs, Same H H' → H r = none → H' r = some (.lst (ts.map V.ref)) → CRows H' H' ts cs → FRows H H' ts → IsLists W.b W.ws W.tick W.live cs → Q (.ref r) H'
theorem ok_lists {f C : Addr} {fd : FuncData} (F : Fun K "lists" "Wheel.lists" s_Wheel_lists f fd) (TW : TxW K mg C) (h1 : Has P w K mg base 4 "standing" ["base", "levels", "live", "tick"] [] (spStanding K)) : FnOk P w K mg base CX0 5 f fd ["self"] (spLists C) := by
  obtain ⟨f_standing, fd_standing, ds_standing, G_standing, m_standing, k_standing, b_standing, v_standing⟩ := h1
  refine F.ok sc_Wheel_lists (fun vs H Q E h => ?_) (fun cdv A outer s H vs Q E hr h => ?_)
  · obtain ⟨p, q, l, W, rfl, _⟩ := h
    rfl
  · obtain ⟨p, q, l, W, rfl, hw, ok, c⟩ := h
    obtain ⟨dx, hp⟩ := hw.ins
    obtain ⟨kvs, hl, L⟩ := hw.live
    refine ⟨_, (pss_one (ps_ret (pe_call G_standing hr (by rfl) m_standing k_standing b_standing v_standing pass0 (pa_cons (pe_fld (pv 0) rfl) (pa_cons (pe_fld (pv 0) rfl) (pa_cons (pe_fld (pv 0) rfl) (pa_cons (pe_fld (pv 0) rfl) pa_nil))))))), ?_⟩
    refine ⟨_, rfl, p, C, dx, _, _, rfl, hp, TW.cl, TW.nB, wf_b, _, rfl, p, C, dx, _, _, rfl, hp, TW.cl, TW.nW, wf_w, _, rfl, p, C, dx, _, _, rfl, hp, TW.cl, TW.nL, wf_l, _, rfl, p, C, dx, _, _, rfl, hp, TW.cl, TW.nT, wf_t, ?_⟩
    exact ⟨W.b, W.tick, q, l, W.ws, kvs, W.live, rfl, ok.b2, ok.b64, SqL.of hw.words, ok.ne, hl, L, ok.few, fun m hm => ⟨Nat.lt_of_le_of_lt (ok.tms m hm).since (ok.tms m hm).due, (ok.tms m hm).big⟩, c⟩
end
/-- the lists are told in one way -/
theorem IsLists.uniq {b : Nat} {ws : List Bool} {t : Nat} {ms : List Tm} {cs cs' : List Cell} (h : IsLists b ws t ms cs) (h' : IsLists b ws t ms cs') : cs = cs' := by
  have cast : ∀ l : List Cell, (l.map fun c => ((c.1.1 : Int), (c.1.2 : Int))) = (l.map (·.1)).map fun k => ((k.1 : Int), (k.2 : Int)) := fun l => by
    rw [List.map_map]
    rfl
  have hk : cs.map (·.1) = cs'.map (·.1) := by
    have z1 := h.sorted
    have z2 := h'.sorted
    rw [cast, List.pairwise_map] at z1 z2
    refine List.Perm.eq_of_pairwise (fun a c _ _ h1 h2 => ?_) z1 z2 (h.perm.trans h'.perm.symm)
    rw [SrtO.lexB_no] at h1 h2
    dsimp only at h1 h2
    refine Prod.ext ?_ ?_ <;> omega
  have hall : ∀ (l l' : List Cell), l.map (·.1) = l'.map (·.1) → (∀ c ∈ l, c.2 = cellV (standD b ws t ms) c.1) → (∀ c ∈ l', c.2 = cellV (standD b ws t ms) c.1) → l = l' := by
    intro l
    induction l with
    | nil =>
      intro l' e _ _
      cases l' with
      | nil => rfl
      | cons c l' => cases e
    | cons c l ih =>
      intro l' e h1 h2
      cases l' with
      | nil => cases e
      | cons c' l' =>
        rw [List.map_cons, List.map_cons] at e
        obtain ⟨e1, e2⟩ := List.cons.inj e
        rw [ih l' e2 (fun x hx => h1 x (List.mem_cons_of_mem _ hx)) fun x hx => h2 x (List.mem_cons_of_mem _ hx)]
        have a1 := h1 c (List.mem_cons_self ..)
        have a2 := h2 c' (List.mem_cons_self ..)
        rw [← e1, ← a1] at a2
        rw [Prod.ext e1 a2.symm]
  exact hall cs cs' hk h.val h'.val
section
variable {P : Program} {w : World} {K : PySem.W.Frag} {mg : Str → Option Value} {base : Heap}
def spListsAt (C : Addr) : Sp := fun vs H Q _ => ∃ (p q l : Addr) (W : WS) (t : Nat), vs = [.ref p, .int (t : Nat)] ∧ WheelAt C H p q l W ∧ WOk W ∧ W.tick ≤ t ∧ ∀ H' r ts cs, Same H H' → H r = none → H' r = some (.lst (ts.map V.ref)) → CRows H' H' ts cs → IsLists W.b W.ws t W.live cs → Q (.ref r) H'
theorem ok_lists_at {f C : Addr} {fd : FuncData} (F : Fun K "lists_at" "Wheel.lists_at" s_Wheel_lists_at f fd) (TW : TxW K mg C) (h0 : Has P w K mg base 3 "check_tick" ["tick", "least"] [] spCheckTick) (h1 : Has P w K mg base 4 "standing" ["base", "levels", "live", "tick"] [] (spStanding K)) : FnOk P w K mg base CX0 5 f fd ["self", "tick"] (spListsAt C) := by
  obtain ⟨f_check_tick, fd_check_tick, ds_check_tick, G_check_tick, m_check_tick, k_check_tick, b_check_tick, v_check_tick⟩ := h0
  obtain ⟨f_standing, fd_standing, ds_standing, G_standing, m_standing, k_standing, b_standing, v_standing⟩ := h1
  refine F.ok sc_Wheel_lists_at (fun vs H Q E h => ?_) (fun cdv A outer s H vs Q E hr h => ?_)
  · obtain ⟨p, q, l, W, t, rfl, _⟩ := h
    rfl
  · obtain ⟨p, q, l, W, t, rfl, hw, ok, htt, c⟩ := h
    obtain ⟨dx, hp⟩ := hw.ins
    obtain ⟨kvs, hl, L⟩ := hw.live
    refine ⟨_, (pss_cons (ps_expr (pe_call G_check_tick (hr.mono (by decide)) (by rfl) m_check_tick k_check_tick b_check_tick v_check_tick pass0 (pa_cons (pv 1) (pa_cons (pe_fld (pv 0) rfl) pa_nil))))
      (pss_one (ps_ret (pe_call G_standing hr (by rfl) m_standing k_standing b_standing v_standing pass0 (pa_cons (pe_fld (pv 0) rfl) (pa_cons (pe_fld (pv 0) rfl) (pa_cons (pe_fld (pv 0) rfl) (pa_cons (pv 1) pa_nil)))))))), ?_⟩
    refine ⟨_, rfl, _, rfl, p, C, dx, _, _, rfl, hp, TW.cl, TW.nT, wf_t, (t : Nat), _, rfl, by omega, ?_⟩
    refine ⟨_, rfl, p, C, dx, _, _, rfl, hp, TW.cl, TW.nB, wf_b, _, rfl, p, C, dx, _, _, rfl, hp, TW.cl, TW.nW, wf_w, _, rfl, p, C, dx, _, _, rfl, hp, TW.cl, TW.nL, wf_l, _, rfl, ?_⟩
    exact ⟨W.b, t, q, l, W.ws, kvs, W.live, rfl, ok.b2, ok.b64, SqL.of hw.words, ok.ne, hl, L, ok.few, fun m hm => ⟨Nat.lt_of_le_of_lt (ok.tms m hm).since (ok.tms m hm).due, (ok.tms m hm).big⟩, fun H9 p9 t9 c9 s9 h9 e9 C9 _ I9 => c H9 p9 t9 c9 s9 h9 e9 C9 I9⟩
end
/-! ### the lists as data -/
def cellD (c : Cell) : PyData := .tuple [.int (c.1.1 : Nat), .int (c.1.2 : Nat), .list (c.2.map fun x => PyData.int (x : Nat))]
theorem cells_dp {K : PySem.W.Frag} {H0 H : Hp} (s : ∀ a xs, H0 a = some (.lst xs) → H a = some (.lst xs)) : ∀ {ts : List Addr} {cs : List Cell}, CRows H0 H ts cs → DpAll K H (ts.map V.ref) (cs.map cellD)
  | [], [], _ => .nil
  | _ :: _, _ :: _, ⟨⟨a, h1, h2⟩, h3⟩ => .cons (.tup (SqT.of h1) (.cons (.int _) (.cons (.int _) (.cons (.lst (SqL.of (s _ _ h2)) (dp_nats _)) .nil)))) (cells_dp s h3)
  | [], _ :: _, h => h.elim
  | _ :: _, [], h => h.elim
theorem cellD_lay (c : Cell) : (cellD c).canLay0 = true := by
  simp [cellD, PyData.canLay0, PyData.canLayAll0, nats_lay]
theorem cells_lay : ∀ cs : List Cell, PyData.canLayAll0 (cs.map cellD) = true
  | [] => rfl
  | c :: cs => by
    show ((cellD c).canLay0 && PyData.canLayAll0 (cs.map cellD)) = true
    rw [cellD_lay, cells_lay cs]
    rfl
theorem cellD_depth (c : Cell) : (cellD c).depth ≤ 2 := by
  have h : (PyData.list (c.2.map fun x => PyData.int (x : Nat))).depth = 1 := by
    show PyData.depthAll _ + 1 = 1
    rw [nats_depth c.2]
  show max (PyData.depth _) (max (PyData.depth _) (max (PyData.depth (PyData.list (c.2.map fun x => PyData.int (x : Nat)))) (PyData.depthAll []))) + 1 ≤ 2
  rw [h]
  exact Nat.le_refl 2
theorem cells_depth : ∀ cs : List Cell, PyData.depthAll (cs.map cellD) ≤ 2
  | [] => Nat.zero_le _
  | c :: cs => by
    have ih := cells_depth cs
    have h := cellD_depth c
    show max (cellD c).depth (PyData.depthAll (cs.map cellD)) ≤ 2
    omega
theorem cells_shaped (cs : List Cell) : SeqAt.shaped (.list (cs.map cellD)) = true := by
  have h1 : (PyData.list (cs.map cellD)).canLay0 = true := by
    show PyData.canLayAll0 (cs.map cellD) = true
    exact cells_lay cs
  have h2 : (PyData.list (cs.map cellD)).depth ≤ 64 := by
    show PyData.depthAll (cs.map cellD) + 1 ≤ 64
    have := cells_depth cs
    omega
  unfold SeqAt.shaped
  rw [h1, decide_eq_true h2]
  rfl
/-! ### which timer stands in which list -/
theorem cell_mem {b : Nat} {ws : List Bool} {t : Nat} {ms : List Tm} {p : Nat × Nat} {x : Nat} : x ∈ cellV (standD b ws t ms) p ↔ ∃ m ∈ ms, t < m.due ∧ placeT b t m.due = p ∧ m.num = x := by
  suffices H : ∀ n : Nat, x ∈ cellV (standD b ws t (ms.take n)) p ↔ ∃ m ∈ ms.take n, t < m.due ∧ placeT b t m.due = p ∧ m.num = x by
    have z := H ms.length
    rw [List.take_length] at z
    exact z
  intro n
  induction n with
  | zero =>
    constructor
    · intro h
      cases h
    · rintro ⟨m, h, _⟩
      cases h
  | succ n ih =>
    cases e : ms[n]? with
    | none =>
      have hl : ms.length ≤ n := List.getElem?_eq_none_iff.mp e
      rw [List.take_of_length_le (by omega)]
      rw [List.take_of_length_le hl] at ih
      exact ih
    | some m =>
      rw [List.take_add_one, e, Option.toList_some]
      rw [stand_snoc]
      unfold standStep
      have split_ex : (∃ m' ∈ ms.take n ++ [m], t < m'.due ∧ placeT b t m'.due = p ∧ m'.num = x) ↔ (∃ m' ∈ ms.take n, t < m'.due ∧ placeT b t m'.due = p ∧ m'.num = x) ∨ (t < m.due ∧ placeT b t m.due = p ∧ m.num = x) := by
        constructor
        · rintro ⟨m', h, r⟩
          rcases List.mem_append.mp h with h | h
          · exact .inl ⟨m', h, r⟩
          · rw [List.mem_singleton.mp h] at r
            exact .inr r
        · rintro (⟨m', h, r⟩ | r)
          · exact ⟨m', List.mem_append_left _ h, r⟩
          · exact ⟨m, by simp, r⟩
      rw [split_ex, ← ih]
      by_cases h : t < m.due
      · rw [if_pos h, cellV_put]
        by_cases h2 : placeT b t m.due = p
        · rw [if_pos h2, insT_mem, h2]
          constructor
          · rintro (z | z)
            · exact .inr ⟨h, rfl, z.symm⟩
            · exact .inl z
          · rintro (z | ⟨_, _, z⟩)
            · exact .inr z
            · exact .inl z.symm
        · rw [if_neg h2]
          exact ⟨.inl, fun z => z.elim id fun y => absurd y.2.1 h2⟩
      · rw [if_neg h]
        exact ⟨.inl, fun z => z.elim id fun y => absurd y.1 h⟩
/-- the lists at two ticks at which all timers stand at the same levels -/
theorem stand_same {b : Nat} {ws : List Bool} {s t : Nat} {ms : List Tm} (h : ∀ m ∈ ms, s < m.due ∧ t < m.due ∧ levT b s m.due = levT b t m.due) : standD b ws s ms = standD b ws t ms := by
  suffices H : ∀ n : Nat, standD b ws s (ms.take n) = standD b ws t (ms.take n) by
    have z := H ms.length
    rw [List.take_length] at z
    exact z
  intro n
  induction n with
  | zero => rfl
  | succ n ih =>
    cases e : ms[n]? with
    | none =>
      have hl : ms.length ≤ n := List.getElem?_eq_none_iff.mp e
      rw [List.take_of_length_le (by omega)]
      rw [List.take_of_length_le hl] at ih
      exact ih
    | some m =>
      rw [List.take_add_one, e, Option.toList_some, stand_snoc, stand_snoc, ih]
      obtain ⟨h1, h2, h3⟩ := h m (List.mem_of_getElem? e)
      unfold standStep
      rw [if_pos h1, if_pos h2]
      unfold placeT
      rw [h3]
theorem IsLists.same {b : Nat} {ws : List Bool} {s t : Nat} {ms : List Tm} {cs : List Cell} (e : standD b ws s ms = standD b ws t ms) (h : IsLists b ws s ms cs) : IsLists b ws t ms cs := ⟨by rw [← e]; exact h.perm, h.sorted, by rw [← e]; exact h.val⟩
/-- the timers of a told cell -/
theorem IsLists.mem {b : Nat} {ws : List Bool} {t : Nat} {ms : List Tm} {cs : List Cell} (h : IsLists b ws t ms cs) {c : Cell} (hc : c ∈ cs) {x : Nat} : x ∈ c.2 ↔ ∃ m ∈ ms, t < m.due ∧ placeT b t m.due = c.1 ∧ m.num = x := by
  rw [h.val c hc]
  exact cell_mem
/-! ### the rows that tell the lists, row by row -/
theorem crow_item {Hb H0 H : Hp} : ∀ {ts : List Addr} {cs : List Cell} {i : Nat} {x : V}, CRows H0 H ts cs → FRows Hb H ts → (ts.map V.ref)[i]? = some x → ∃ t c a, x = .ref t ∧ ts[i]? = some t ∧ cs[i]? = some c ∧ H t = some (.tup [.int (c.1.1 : Nat), .int (c.1.2 : Nat), .ref a]) ∧ H0 a = some (.lst (c.2.map fun x => V.int (x : Nat))) ∧ Hb a = none
  | t :: ts, c :: cs, 0, x, ⟨⟨a, h1, h2⟩, _⟩, ⟨⟨y1, y2, a', h4, h5⟩, _⟩, e => by
    rw [h1] at h4
    have z := HO.tup.inj (Option.some.inj h4)
    have ea : a = a' := by
      injection z with _ z
      injection z with _ z
      injection z with z _
      exact V.ref.inj z
    subst ea
    exact ⟨t, c, a, (Option.some.inj e).symm, rfl, rfl, h1, h2, h5⟩
  | t :: ts, c :: cs, i + 1, x, h, f, e => crow_item (i := i) h.2 f.2 e
  | [], [], _, _, _, _, e => by cases e
  | [], _ :: _, _, _, h, _, _ => h.elim
  | _ :: _, [], _, _, h, _, _ => h.elim
theorem CRows.len {H0 H : Hp} : ∀ {ts : List Addr} {cs : List Cell}, CRows H0 H ts cs → ts.length = cs.length
  | [], [], _ => rfl
  | _ :: _, _ :: _, h => congrArg Nat.succ h.2.len
  | [], _ :: _, h => h.elim
  | _ :: _, [], h => h.elim
/-- the keys of the lists: each once, and those of all timers -/
theorem IsLists.keys {b : Nat} {ws : List Bool} {t : Nat} {ms : List Tm} {cs : List Cell} (h : IsLists b ws t ms cs) (hd : ∀ m ∈ ms, t < m.due) : (cs.map (·.1)).Nodup ∧ ∀ m ∈ ms, placeT b t m.due ∈ cs.map (·.1) := by
  have nd := (stand_bounds b ws t ms ms.length (Nat.le_refl _)).2.2
  rw [List.take_length] at nd
  refine ⟨h.perm.nodup_iff.mpr nd, fun m hm => h.perm.mem_iff.mpr (Classical.byContradiction fun no => ?_)⟩
  have hin : m.num ∈ cellV (standD b ws t ms) (placeT b t m.due) := cell_mem.mpr ⟨m, hm, hd m hm, rfl, rfl⟩
  have nk : ∀ (rs : List Cell) (p : Nat × Nat), p ∉ rs.map (·.1) → cellV rs p = [] := by
    intro rs p
    induction rs with
    | nil => exact fun _ => rfl
    | cons c rs ih =>
      intro h
      rw [List.map_cons, List.mem_cons, not_or] at h
      show (if c.1 = p then c.2 else cellV rs p) = []
      rw [if_neg fun z => h.1 z.symm]
      exact ih h.2
  rw [nk _ _ no] at hin
  cases hin
theorem IsLists.at_ {b : Nat} {ws : List Bool} {t : Nat} {ms : List Tm} {cs : List Cell} (h : IsLists b ws t ms cs) (hd : ∀ m ∈ ms, t < m.due) {c : Cell} (hc : c ∈ cs) : c.2 = (stM b ws t ms c.1).map (·.num) := by
  rw [h.val c hc]
  exact cell_st hd
/-! ### restoring -/
theorem PrAt.cat {H : Hp} : ∀ {ts us : List Addr} {rs qs : List (Nat × Nat)}, PrAt H ts rs → PrAt H us qs → PrAt H (ts ++ us) (rs ++ qs)
  | [], _, [], _, _, h => h
  | _ :: _, _, _ :: _, _, ⟨h1, h2⟩, h => ⟨h1, h2.cat h⟩
  | [], _, _ :: _, _, h, _ => h.elim
  | _ :: _, _, [], _, h, _ => h.elim
section
variable {P : Program} {w : World} {K : PySem.W.Frag} {mg : Str → Option Value} {base : Heap}
def rowND (m : Tm) : Nat × Nat := (m.num, m.due)
def spRestoring (C : Addr) : Sp := fun vs H Q _ => ∃ (p q l : Addr) (W : WS), vs = [.ref p] ∧ WheelAt C H p q l W ∧ WOk W ∧ ∀ H' r ts cs, Same H H' → H r = none → H' r = some (.lst (ts.map V.ref)) → PrAt H' ts ((toldT W.b W.ws W.tick W.live (cs.map (·.1))).map rowND) → IsLists W.b W.ws W.tick W.live cs → Q (.ref r) H'
theorem told_take {b : Nat} {ws : List Bool} {t : Nat} {ms : List Tm} {cs : List Cell} {i : Nat} {c : Cell} (hc : cs[i]? = some c) : toldT b ws t ms ((cs.take (i + 1)).map (·.1)) = toldT b ws t ms ((cs.take i).map (·.1)) ++ deq (fun _ => wordAt ws c.1.1) (stM b ws t ms c.1) := by
  unfold toldT
  rw [List.take_add_one, hc, Option.toList_some, List.map_append, List.flatMap_append]
  show _ ++ ([c].map (·.1)).flatMap _ = _
  rw [List.map_cons, List.map_nil, List.flatMap_cons, List.flatMap_nil, List.append_nil]
theorem told_len {b : Nat} {ws : List Bool} {t : Nat} {ms : List Tm} {cs : List Cell} (h : IsLists b ws t ms cs) (hd : ∀ m ∈ ms, t < m.due) (i : Nat) : (toldT b ws t ms ((cs.take i).map (·.1))).length ≤ ms.length := by
  obtain ⟨k1, k2⟩ := h.keys hd
  rw [← (told_perm (b := b) (ws := ws) (t := t) (ms := ms) k1 k2).length_eq]
  have e : toldT b ws t ms (cs.map (·.1)) = toldT b ws t ms ((cs.take i).map (·.1)) ++ toldT b ws t ms ((cs.drop i).map (·.1)) := by
    unfold toldT
    rw [← List.flatMap_append, ← List.map_append, List.take_append_drop]
  rw [e, List.length_append]
  omega
theorem ok_restoring {f C : Addr} {fd : FuncData} (F : Fun K "restoring" "Wheel.restoring" s_Wheel_restoring f fd) (TW : TxW K mg C) (m1 : HasM P w K mg base 5 C "lists" ["self"] [] (spLists C)) (h1 : Has P w K mg base 1 "word_at" ["levels", "level"] [] (spWordAt K)) : FnOk P w K mg base CX0 6 f fd ["self"] (spRestoring C) := by
  have cl_Wheel := TW.cl
  obtain ⟨g1, gd1, gs1, G_Wheel_lists, M_Wheel_lists, b_Wheel_lists, v_Wheel_lists⟩ := m1
  obtain ⟨f_word_at, fd_word_at, ds_word_at, G_word_at, m_word_at, k_word_at, b_word_at, v_word_at⟩ := h1
  refine F.ok sc_Wheel_restoring (fun vs H Q E h => ?_) (fun cdv A outer s H vs Q E hr h => ?_)
  · obtain ⟨p, q, l, W, rfl, _⟩ := h
    rfl
  · obtain ⟨p, q, l, W, rfl, hw, ok, c⟩ := h
    have hu := hu_of hr
    refine ⟨_, (pss_cons (ps_set (i := 1) sc_Wheel_restoring.nd rfl (.inl rfl) (pe_lst pa_nil))
      (pss_cons (ps_for PassesOwn.never rfl (pi_list (pe_meth0 (pv 0) cl_Wheel M_Wheel_lists G_Wheel_lists hr b_Wheel_lists v_Wheel_lists pass0)) (pg_tupK (K := K) (n := 3) rfl rfl (pgs_cons (pg_name (i := 2) sc_Wheel_restoring.nd rfl (.inl rfl)) (pgs_cons (pg_name (i := 3) sc_Wheel_restoring.nd rfl (.inl rfl)) (pgs_cons (pg_name (i := 4) sc_Wheel_restoring.nd rfl (.inl rfl)) pgs_nil))))
        (pss_cons (ps_if (pt_cmpR op_eq (pe_call G_word_at (hr.mono (by decide)) (by rfl) m_word_at k_word_at b_word_at v_word_at pass0 (pa_cons (pe_fld (pv 0) rfl) (pa_cons (pv 2) pa_nil))) pe_str (nomark _))
          (pss_one (ps_set (i := 4) sc_Wheel_restoring.nd rfl (.inl rfl) (pe_revL (pv 4))))
          pss_nil)
        (pss_one (ps_expr (pe_bm PySem.F.plainAttrs_list PySem.F.slot_list_extend PySem.F.type_list_extend mt_extend (pv 1) (pa_cons (pe_lc (own := [("number", 5)]) (g := gName 5) (tt := tYes) rfl sc_Wheel_restoring.nd (pi_list (pv 4)) (blkOk_by (own := [("number", 5)]) (N := N_Wheel_restoring) (sc := defScope s_Wheel_restoring) (by decide +kernel)) (fun _ _ _ _ _ => (pg_name (i := 5) sc_Wheel_restoring.nd rfl (.inl rfl))) (fun _ _ _ _ _ => pts_nil) (fun _ _ _ _ _ => (pe_tup (pa_cons (pv 5) (pa_cons (pe_ix (ix_tupK (K := K) rfl) (pe_dget hu (pe_fldK (K := K) rfl (pv 0) rfl) (pv 5) (fun _ _ => rfl)) pe_int (fun _ _ => rfl)) pa_nil))))) pa_nil))))))
      (pss_one (ps_ret (pv 1))))), ?_⟩
    have hd : ∀ m ∈ W.live, W.tick < m.due := fun m hm => (ok.tms m hm).due
    refine ⟨by simp [sizeLine_eq], fun r0 hr00 => ?_⟩
    have s0 := same_upd (o := .lst []) hr00
    have er0 := upd_same (H := H) (a := r0) (o := .lst [])
    generalize upd H r0 (.lst []) = H0 at s0 er0 ⊢
    have hw0 := hw.same s0
    obtain ⟨dx, hp⟩ := hw0.ins
    refine ⟨_, rfl, p, dx, _, rfl, hp, nm_lists, p, q, l, W, rfl, hw0, ok, fun H1 R tsR cs s1 hR0 eR hC hF hI => ?_⟩
    have hw1 := hw0.same s1
    obtain ⟨dx1, hp1⟩ := hw1.ins
    obtain ⟨kvs, hl1, L1⟩ := hw1.live
    have er1 := s1 _ _ er0
    have nR : R ≠ r0 := fun e => by
      rw [e, er0] at hR0
      cases hR0
    have hlen := hC.len
    have hfewl := ok.few
    refine ⟨R, rfl, ⟨_, SqL.of eR⟩, for_list (K := K) (a := R) (xs := tsR.map V.ref) (fun i σ H' => ∃ (ts : List Addr) (y2 y3 y4 : Option V), σ = [some (.ref p), some (.ref r0), y2, y3, y4, none] ∧ (∀ c o, c ≠ r0 → H1 c = some o → H' c = some o) ∧ H' r0 = some (.lst (ts.map V.ref)) ∧ PrAt H' ts ((toldT W.b W.ws W.tick W.live ((cs.take i).map (·.1))).map rowND)) ⟨[], none, none, none, rfl, fun _ _ _ e => e, er1, trivial⟩ (fun i σ H' _ ⟨_, _, _, _, _, k, _⟩ => SqL.of (k _ _ nR eR)) ?_ ?_⟩
    · rintro i x σ H' hx ⟨ts, y2, y3, y4, rfl, kp, er, hP⟩
      obtain ⟨t, cc, a, rfl, ht, hc, et, ea, ha0⟩ := crow_item hC hF hx
      have na : a ≠ r0 := fun e => by
        rw [e, er0] at ha0
        cases ha0
      have ntu : ∀ {c : Addr} {xs : List V}, H1 c = some (.tup xs) → c ≠ r0 := fun {c xs} e z => by
        rw [z, er1] at e
        cases e
      have et' := kp _ _ (ntu et) et
      have ea' := kp _ _ na ea
      have npr : p ≠ r0 := fun z => by
        rw [z, er1] at hp1
        cases hp1
      have nlr : l ≠ r0 := fun z => by
        rw [z, er1] at hl1
        cases hl1
      have nqr : q ≠ r0 := fun z => by
        have y := hw0.words
        rw [z, er0] at y
        have y2 := congrArg (fun o : Option HO => match o with | some (.lst xs) => xs.length | _ => 0) y
        simp at y2
        exact ok.ne (List.eq_nil_of_length_eq_zero y2.symm)
      have hp' := kp _ _ npr hp1
      have hq' := kp _ _ nqr hw1.words
      have hl' := kp _ _ nlr hl1
      have hcm := List.mem_of_getElem? hc
      have e2 := hI.at_ hd hcm
      have hlt := told_len hI hd (i + 1)
      rw [told_take hc, List.length_append, deq_len] at hlt
      have hPl := hP.len
      rw [List.length_map] at hPl
      refine ⟨t, _, rfl, .inl (.inl et'), rfl, _, _, rfl, _, _, rfl, _, _, rfl, rfl, ?_⟩
      -- the numbers, perhaps turned
      apply cut_at (I := fun (b2 : Addr) (H2 : Hp) => Same H' H2 ∧ H2 b2 = some (.lst (((deq (fun _ => wordAt W.ws cc.1.1) (stM W.b W.ws W.tick W.live cc.1)).map (·.num)).map fun x => V.int (x : Nat))))
      · intro fin
        refine ⟨_, rfl, p, C, dx1, _, _, rfl, hp', TW.cl, TW.nW, wf_w, _, rfl, q, W.ws, cc.1.1, rfl, SqL.of hq', ok.ne, ?_⟩
        cases hb : wordAt W.ws cc.1.1 with
        | true =>
          refine ⟨rfl, true, rfl, iteT ?_⟩
          refine ⟨_, rfl, a, _, rfl, SqL.of ea', fun b2 hb2 => ?_⟩
          refine fin b2 _ ⟨same_upd hb2, ?_⟩
          rw [upd_same, hb, deq_const, e2]
          show some (HO.lst (((stM W.b W.ws W.tick W.live cc.1).map (·.num)).map fun x => V.int (x : Nat)).reverse) = some (HO.lst (((stM W.b W.ws W.tick W.live cc.1).reverse.map (·.num)).map fun x => V.int (x : Nat)))
          rw [← List.map_reverse, ← List.map_reverse]
        | false =>
          refine ⟨rfl, false, rfl, iteF ?_⟩
          refine fin a H' ⟨fun _ _ e => e, ?_⟩
          rw [hb, deq_const, if_neg Bool.false_ne_true, ← e2]
          exact ea'
      · rintro b2 H2 ⟨s2, eb2⟩
        have eN : (deq (fun _ => wordAt W.ws cc.1.1) (stM W.b W.ws W.tick W.live cc.1)).map rowND = (deq (fun _ => wordAt W.ws cc.1.1) (stM W.b W.ws W.tick W.live cc.1)).map fun m => (m.num, m.due) := rfl
        obtain ⟨ml, eml⟩ : ∃ ml, ml = deq (fun _ => wordAt W.ws cc.1.1) (stM W.b W.ws W.tick W.live cc.1) := ⟨_, rfl⟩
        have hml : ∀ m ∈ ml, m ∈ W.live := fun m hm => by
          rw [eml] at hm
          exact (List.mem_filter.mp (mem_deq.mp (mem_deq.mp hm))).1
        have hmll : ml.length = (stM W.b W.ws W.tick W.live cc.1).length := by
          rw [eml, deq_len]
        rw [← eml] at eb2
        have er2 := s2 _ _ er
        have hp2 := s2 _ _ hp'
        have hl2 := s2 _ _ hl'
        have hP2 := hP.frame (H' := H2) fun t xs e => s2 _ _ e
        have L2' : LiveK H2 kvs W.live := L1.frame fun t m e => s2 _ _ (kp _ _ (ntu e) e)
        refine ⟨_, rfl, .inl ⟨rfl, _, SqL.of er2⟩, _, rfl, b2, rfl, ⟨_, SqL.of eb2⟩, fun D hD => lc_list (K := K) (a := b2) (xs := (ml.map (·.num)).map fun x => V.int (x : Nat)) (fun j H3 => Same H2 H3 ∧ ∃ us : List Addr, H3 D = some (.lst (us.map V.ref)) ∧ PrAt H3 us ((ml.take j).map rowND)) ⟨same_upd hD, [], upd_same, trivial⟩ (fun j H3 _ ⟨sm, _⟩ => SqL.of (sm _ _ eb2)) ?_ ?_⟩
        · rintro j v H3 hv ⟨sm, us, eD, hU⟩
          rw [List.getElem?_map, List.getElem?_map] at hv
          obtain ⟨m, hm, rfl⟩ : ∃ m, ml[j]? = some m ∧ v = V.int (m.num : Nat) := by
            cases e : ml[j]? with
            | none =>
              rw [e] at hv
              cases hv
            | some m =>
              rw [e] at hv
              exact ⟨m, rfl, (Option.some.inj hv).symm⟩
          obtain ⟨tt, hval, htt⟩ := L2'.val_of ok.nd (hml m (List.mem_of_getElem? hm))
          have hjl : j < ml.length := (List.getElem?_eq_some_iff.mp hm).1
          have hUl := hU.len
          rw [List.length_map, List.length_take] at hUl
          have hl3 := sm _ _ hl2
          have g := DGet.k (k := Sum.inl ((m.num : Nat) : Int)) hl3
          rw [hval] at g
          refine ⟨rfl, yesT (iteT ?_)⟩
          refine ⟨_, rfl, _, rfl, p, C, dx1, _, _, rfl, sm _ _ hp2, TW.cl, TW.nL, wf_l, _, rfl, l, .ref tt, rfl, g, tt, _, 0, _, rfl, rfl, .inl (.inl (sm _ _ htt)), atI_nat (j := 0) rfl, by simp [sizeLine_eq], fun u hu0 => ?_⟩
          have su := same_upd (o := .tup [.int (m.num : Nat), .int (m.due : Nat)]) hu0
          have eDu := su _ _ eD
          refine ⟨_, eDu, ?_, fun c o e => ?_, us ++ [u], ?_, ?_⟩
          · rw [List.length_map]
            exact sizeLine_ge (by omega)
          · rw [upd_ne (ne_of_none e hD)]
            exact su _ _ (sm _ _ e)
          · rw [upd_same, List.map_append]
            rfl
          · rw [List.take_add_one, hm, Option.toList_some, List.map_append]
            have kt : ∀ t' xs, H3 t' = some (.tup xs) → (upd (upd H3 u (.tup [.int (m.num : Nat), .int (m.due : Nat)])) D (.lst (us.map V.ref ++ [.ref u]))) t' = some (.tup xs) := fun t' xs e => by
              rw [upd_ne (ne_of (su _ _ e) eDu (by intro z; cases z))]
              exact su _ _ e
            refine (hU.frame kt).app (r := rowND m) ?_
            rw [upd_ne (ne_of upd_same eDu (by intro z; cases z))]
            exact upd_same
        · rintro H3 ⟨s3, us, eD, hU⟩
          rw [List.length_map, List.length_map, List.take_length] at hU
          have hUl := hU.len
          rw [List.length_map] at hUl
          have er3 := s3 _ _ er2
          refine ⟨r0, D, _, _, rfl, rfl, er3, eD, ?_, ?_⟩
          · rw [List.length_map, List.length_map]
            exact sizeLine_le (by omega)
          · refine ⟨ts ++ us, _, _, _, rfl, fun c o n e => ?_, ?_, ?_⟩
            · rw [upd_ne n]
              exact s3 _ _ (s2 _ _ (kp _ _ n e))
            · rw [upd_same, List.map_append]
            · rw [told_take hc, List.map_append, ← eml]
              have kt : ∀ t' xs, H3 t' = some (.tup xs) → (upd H3 r0 (.lst (ts.map V.ref ++ us.map V.ref))) t' = some (.tup xs) := fun t' xs e => by
                rw [upd_ne (ne_of e er3 (by intro z; cases z))]
                exact e
              exact ((hP2.frame (H' := H3) fun t xs e => s3 _ _ e).frame kt).cat (hU.frame kt)
    · rintro σ H' ⟨ts, y2, y3, y4, rfl, kp, er, hP⟩
      rw [List.length_map, hlen, List.take_length] at hP
      exact ⟨_, rfl, c H' r0 ts cs (fun c o e => kp c o (ne_of_none e hr00) (s1 _ _ (s0 _ _ e))) hr00 er hP hI⟩
end
/-! ### advancing any wheel: that it ends, and how often something fires -/
/-- how often a timer fires up to t -/
def frN (t : Nat) (m : Tm) : Nat := if t < m.due then 0 else match m.per with
  | none => 1
  | some k => 1 + (t - m.due) / k
theorem again_at {t : Nat} {m m' : Tm} (h : againM t m = some m') : ∃ k, m.per = some k ∧ m' = ⟨m.num, t + k, some k, t⟩ := by
  unfold againM at h
  cases ep : m.per with
  | none =>
    rw [ep] at h
    cases h
  | some k =>
    rw [ep] at h
    exact ⟨k, rfl, (Option.some.inj h).symm⟩
def sumF (t : Nat) (ms : List Tm) : Nat := (ms.map (frN t)).sum
theorem sumF_app (t : Nat) (a c : List Tm) : sumF t (a ++ c) = sumF t a + sumF t c := by
  unfold sumF
  rw [List.map_append, List.sum_append]
theorem sumF_cons (t : Nat) (m : Tm) (c : List Tm) : sumF t (m :: c) = frN t m + sumF t c := by
  unfold sumF
  rw [List.map_cons, List.sum_cons]
theorem sumF_perm {t : Nat} {a c : List Tm} (h : a.Perm c) : sumF t a = sumF t c := by
  induction h with
  | nil => rfl
  | cons m _ ih => rw [sumF_cons, sumF_cons, ih]
  | swap m n l =>
    rw [sumF_cons, sumF_cons, sumF_cons, sumF_cons]
    omega
  | trans _ _ h1 h2 => exact h1.trans h2
theorem sumF_split (t : Nat) (p : Tm → Bool) : ∀ l : List Tm, sumF t (l.filter fun m => !p m) + sumF t (l.filter p) = sumF t l
  | [] => rfl
  | m :: l => by
    have ih := sumF_split t p l
    cases c : p m with
    | true =>
      rw [List.filter_cons_of_neg (by simp [c]), List.filter_cons_of_pos c, sumF_cons, sumF_cons]
      omega
    | false =>
      rw [List.filter_cons_of_pos (by simp [c]), List.filter_cons_of_neg (by simp [c]), sumF_cons, sumF_cons]
      omega
theorem sumF_none {t : Nat} : ∀ {l : List Tm}, (∀ m ∈ l, t < m.due) → sumF t l = 0
  | [], _ => rfl
  | m :: l, h => by
    rw [sumF_cons, sumF_none fun x hx => h x (List.mem_cons_of_mem _ hx)]
    unfold frN
    rw [if_pos (h m (List.mem_cons_self ..))]
/-- those that fire at v fire once less from there on -/
theorem sumF_again {L v : Nat} (hv : v ≤ L) : ∀ {l : List Tm}, (∀ m ∈ l, m.due = v ∧ ∀ k, m.per = some k → 1 ≤ k) → sumF L (l.filterMap (againM v)) + l.length = sumF L l
  | [], _ => rfl
  | m :: l, h => by
    have ih := sumF_again hv (l := l) fun x hx => h x (List.mem_cons_of_mem _ hx)
    obtain ⟨hd, hp⟩ := h m (List.mem_cons_self ..)
    rw [sumF_cons, List.length_cons]
    have e0 : frN L m = match m.per with
      | none => 1
      | some k => 1 + (L - m.due) / k := by
      unfold frN
      rw [if_neg (by omega)]
    cases ep : m.per with
    | none =>
      have e1 : againM v m = none := by
        unfold againM
        rw [ep]
        rfl
      rw [List.filterMap_cons_none e1, e0, ep]
      show _ = 1 + _
      omega
    | some k =>
      have e1 : againM v m = some ⟨m.num, v + k, some k, v⟩ := by
        unfold againM
        rw [ep]
        rfl
      have hk := hp k ep
      rw [List.filterMap_cons_some e1, sumF_cons, e0, ep, hd]
      have e2 : frN L ⟨m.num, v + k, some k, v⟩ = (L - v) / k := by
        show (if L < v + k then 0 else 1 + (L - (v + k)) / k) = _
        by_cases c : L < v + k
        · rw [if_pos c, Nat.div_eq_of_lt (by omega)]
        · rw [if_neg c]
          have e3 : L - v = (L - (v + k)) + k := by omega
          rw [e3, Nat.add_div_right _ (by omega)]
          omega
      rw [e2]
      show _ = 1 + (L - v) / k + _
      omega
/-- timers that may be advanced up to L -/
structure AdvT (L : Nat) (m : Tm) : Prop where
  since : m.since < m.due
  due : m.due < 2 ^ 240
  per : ∀ k, m.per = some k → 1 ≤ k ∧ L + k < 2 ^ 240
theorem after_mem {b : Nat} {ws : List Bool} {v : Nat} {ms : List Tm} (nd : (ms.map (·.num)).Nodup) {m : Tm} (hm : m ∈ afterF v ms (orderAt b ws v ms)) : (m ∈ ms ∧ m.due ≠ v) ∨ ∃ m0 ∈ ms, m0.due = v ∧ ∃ k, m0.per = some k ∧ m = ⟨m0.num, v + k, some k, v⟩ := by
  rw [after_due nd] at hm
  rcases List.mem_append.mp hm with z | z
  · obtain ⟨z1, z2⟩ := List.mem_filter.mp z
    exact .inl ⟨z1, of_decide_eq_true z2⟩
  · obtain ⟨m0, z1, z2⟩ := List.mem_filterMap.mp z
    obtain ⟨z3, z4⟩ := List.mem_filter.mp (mem_deq.mp z1)
    obtain ⟨k, k1, k2⟩ := again_at z2
    exact .inr ⟨m0, z3, of_decide_eq_true z4, k, k1, k2⟩
theorem after_nodup {b : Nat} {ws : List Bool} {v : Nat} {ms : List Tm} (nd : (ms.map (·.num)).Nodup) : ((afterF v ms (orderAt b ws v ms)).map (·.num)).Nodup := by
  unfold afterF
  have all : ∀ (ns : List Nat) (l : List Tm), (l.map (·.num)).Nodup → ((ns.foldl (fireT v) l).map (·.num)).Nodup := by
    intro ns
    induction ns with
    | nil => exact fun l nd => nd
    | cons n ns ih => exact fun l nd => ih _ (fire_nodup nd)
  exact all _ _ nd
theorem after_sum {b : Nat} {ws : List Bool} {L v : Nat} {ms : List Tm} (hv : v ≤ L) (nd : (ms.map (·.num)).Nodup) (hp : ∀ m ∈ ms, ∀ k, m.per = some k → 1 ≤ k) : sumF L (afterF v ms (orderAt b ws v ms)) + (orderAt b ws v ms).length = sumF L ms := by
  rw [after_due nd, sumF_app, order_deq, List.length_map, Nat.add_assoc]
  rw [sumF_again hv (fun m hm => ?_)]
  · rw [sumF_perm (deq_perm _ _), ← sumF_split L (fun m => decide (m.due = v)) ms]
    congr 2
    refine List.filter_congr fun m _ => ?_
    by_cases c : m.due = v <;> simp [c]
  · obtain ⟨z3, z4⟩ := List.mem_filter.mp (mem_deq.mp hm)
    exact ⟨of_decide_eq_true z4, hp m z3⟩
theorem adv_gen (b : Nat) (ws : List Bool) {L t : Nat} (htL : t ≤ L) : ∀ (n : Nat) (ms : List Tm), sumF L ms ≤ n → (∀ m ∈ ms, AdvT L m) → (ms.map (·.num)).Nodup → ms.length ≤ 1000 →
    ∃ fired ms', AdvTo b ws t ms fired ms' ∧ total fired + sumF L ms' = sumF L ms ∧ (∀ m ∈ ms', AdvT L m ∧ t < m.due ∧ (m ∈ ms ∨ m.since ≤ t) ∧ ∃ m0 ∈ ms, m0.num = m.num ∧ m0.per = m.per) ∧ (ms'.map (·.num)).Nodup ∧ ms'.length ≤ ms.length ∧ fired.length ≤ total fired := by
  intro n
  induction n with
  | zero =>
    intro ms hs ok nd few
    refine ⟨[], ms, .done fun m hm => ?_, (by show 0 + _ = _; omega), fun m hm => ⟨ok m hm, ?_, .inl hm, m, hm, rfl, rfl⟩, nd, Nat.le_refl _, Nat.le_refl _⟩
    all_goals
      refine Classical.byContradiction fun no => ?_
      have pos : 0 < frN L m := by
        unfold frN
        rw [if_neg (by omega)]
        split
        · exact Nat.one_pos
        · exact Nat.lt_of_lt_of_le Nat.one_pos (Nat.le_add_right 1 _)
      have z : frN L m ≤ sumF L ms := by
        obtain ⟨a, c, e⟩ := List.append_of_mem hm
        rw [e, sumF_app, sumF_cons]
        omega
      omega
  | succ n ih =>
    intro ms hs ok nd few
    by_cases hd : ∀ m ∈ ms, t < m.due
    · exact ⟨[], ms, .done hd, (by show 0 + _ = _; omega), fun m hm => ⟨ok m hm, hd m hm, .inl hm, m, hm, rfl, rfl⟩, nd, Nat.le_refl _, Nat.le_refl _⟩
    · cases hl : leastD ms with
      | none =>
        rw [least_none.mp hl] at hd
        exact absurd (fun m hm => by cases hm) hd
      | some v =>
        obtain ⟨hv1, hv2⟩ := least_some.mp hl
        have hvt : v ≤ t := by
          refine Classical.byContradiction fun no => hd fun m hm => ?_
          have := hv2 _ (List.mem_map.mpr ⟨m, hm, rfl⟩)
          omega
        have hpos := order_pos (b := b) (ws := ws) hl
        have hsum := after_sum (b := b) (ws := ws) (L := L) (Nat.le_trans hvt htL) nd fun m hm k hk => ((ok m hm).per k hk).1
        obtain ⟨fired, ms', a1, a2, a3, a4, a5, a6⟩ := ih (afterF v ms (orderAt b ws v ms)) (by omega) (fun m hm => by
          rcases after_mem nd hm with ⟨z, _⟩ | ⟨m0, z1, z2, k, z3, rfl⟩
          · exact ok m z
          · obtain ⟨k1, k2⟩ := (ok m0 z1).per k z3
            exact ⟨(by show v < v + k; omega), (by show v + k < _; omega), fun k' e => by cases e; exact ⟨k1, k2⟩⟩) (after_nodup nd) (Nat.le_trans (fire_tick _ _ _) few)
        have etot : total ((v, orderAt b ws v ms) :: fired) = (orderAt b ws v ms).length + total fired := by
          unfold total
          rw [List.map_cons, List.sum_cons]
        refine ⟨(v, orderAt b ws v ms) :: fired, ms', .step hl hvt (fun m hm => ⟨(ok m hm).since, Nat.lt_trans (ok m hm).due (by decide)⟩) nd few a1, ?_, fun m hm => ?_, a4, Nat.le_trans a5 (fire_tick _ _ _), ?_⟩
        · rw [etot]
          omega
        · obtain ⟨b1, b2, b3, m1, b4, b5, b6⟩ := a3 m hm
          have src : ∀ {x : Tm}, x ∈ afterF v ms (orderAt b ws v ms) → (x ∈ ms ∨ x.since ≤ t) ∧ ∃ m0 ∈ ms, m0.num = x.num ∧ m0.per = x.per := fun {x} hx => by
            rcases after_mem nd hx with ⟨z, _⟩ | ⟨m0, z1, z2, k, z3, rfl⟩
            · exact ⟨.inl z, x, z, rfl, rfl⟩
            · exact ⟨.inr hvt, m0, z1, rfl, z3⟩
          refine ⟨b1, b2, ?_, ?_⟩
          · rcases b3 with c | c
            · exact (src c).1
            · exact .inr c
          · obtain ⟨m2, c1, c2, c3⟩ := (src b4).2
            exact ⟨m2, c1, c2.trans b5, c3.trans b6⟩
        · rw [List.length_cons, etot]
          omega
/-- a wheel that may be advanced up to L -/
structure FarW (L : Nat) (W : WS) : Prop where
  ok : WOk W
  adv : ∀ m ∈ W.live, AdvT L m
theorem FarW.go {L t : Nat} {W : WS} (h : FarW L W) (h1 : W.tick ≤ t) (h2 : t ≤ L) : ∃ fired ms', AdvTo W.b W.ws t W.live fired ms' ∧ total fired + sumF L ms' = sumF L W.live ∧ FarW L { W with tick := t, live := ms' } ∧ fired.length ≤ total fired ∧ ms'.length ≤ W.live.length := by
  obtain ⟨fired, ms', a1, a2, a3, a4, a5, a6⟩ := adv_gen W.b W.ws h2 _ W.live (Nat.le_refl _) h.adv h.ok.nd h.ok.few
  refine ⟨fired, ms', a1, a2, ⟨⟨h.ok.b2, h.ok.b64, h.ok.ne, h.ok.l60, fun m hm => ?_, a4, Nat.le_trans a5 h.ok.few⟩, fun m hm => (a3 m hm).1⟩, a6, a5⟩
  obtain ⟨b1, b2, b3, m0, b4, b5, b6⟩ := a3 m hm
  refine ⟨?_, b2, Nat.lt_trans b1.due (by decide), ?_, fun k hk => (b1.per k hk).1⟩
  · rcases b3 with c | c
    · exact Nat.le_trans (h.ok.tms m c).since h1
    · exact c
  · rw [← b5]
    exact (h.ok.tms m0 b4).num
/-! ### the keys of the lists -/
theorem put_keys {rs : List Cell} {p q : Nat × Nat} {ns : List Nat} (h : q ∈ (cellPut rs p ns).map (·.1)) : q ∈ rs.map (·.1) ∨ q = p := by
  unfold cellPut at h
  split at h
  · left
    obtain ⟨c, hc, rfl⟩ := List.mem_map.mp h
    obtain ⟨c', hc', rfl⟩ := List.mem_map.mp hc
    refine List.mem_map.mpr ⟨c', hc', ?_⟩
    split <;> rfl
  · rw [List.map_append, List.mem_append] at h
    rcases h with h | h
    · exact .inl h
    · exact .inr (List.mem_singleton.mp h)
theorem stand_key {b : Nat} {ws : List Bool} {t : Nat} {p : Nat × Nat} : ∀ {ms : List Tm} {acc : List Cell}, p ∈ (ms.foldl (standStep b ws t) acc).map (·.1) → p ∈ acc.map (·.1) ∨ ∃ m ∈ ms, placeT b t m.due = p
  | [], _, h => .inl h
  | m :: ms, acc, h => by
    rw [List.foldl_cons] at h
    rcases stand_key h with h | ⟨x, hx, e⟩
    · unfold standStep at h
      split at h
      · rcases put_keys h with h | h
        · exact .inl h
        · exact .inr ⟨m, List.mem_cons_self .., h.symm⟩
      · exact .inl h
    · exact .inr ⟨x, List.mem_cons_of_mem _ hx, e⟩
theorem stand_keys {b : Nat} {ws : List Bool} {t : Nat} {ms : List Tm} (hd : ∀ m ∈ ms, t < m.due) {p : Nat × Nat} : p ∈ (standD b ws t ms).map (·.1) ↔ ∃ m ∈ ms, placeT b t m.due = p := by
  constructor
  · intro h
    rcases stand_key (acc := []) h with h | h
    · cases h
    · exact h
  · rintro ⟨m, hm, rfl⟩
    refine Classical.byContradiction fun no => ?_
    have hin : m.num ∈ cellV (standD b ws t ms) (placeT b t m.due) := cell_mem.mpr ⟨m, hm, hd m hm, rfl, rfl⟩
    have nk : ∀ (rs : List Cell) (p : Nat × Nat), p ∉ rs.map (·.1) → cellV rs p = [] := by
      intro rs p
      induction rs with
      | nil => exact fun _ => rfl
      | cons c rs ih =>
        intro h
        rw [List.map_cons, List.mem_cons, not_or] at h
        show (if c.1 = p then c.2 else cellV rs p) = []
        rw [if_neg fun z => h.1 z.symm]
        exact ih h.2
    rw [nk _ _ no] at hin
    cases hin
/-- two sorted lists of the same numbers -/
theorem sorted_two {ns : List Int} {ks : List Nat} {l : List Nat} (hp : ns.Perm (l.map fun x => ((x : Nat) : Int))) (hs : ns.Pairwise (· ≤ ·)) (kp : ks.Perm l) (ks_ : ks.Pairwise (· ≤ ·)) : ns = ks.map fun x => ((x : Nat) : Int) := by
  refine List.Perm.eq_of_pairwise (fun a c _ _ h1 h2 => Int.le_antisymm h1 h2) hs ?_ (hp.trans (kp.symm.map _))
  rw [List.pairwise_map]
  exact ks_.imp fun {a c} h => by omega
/-! ### wheels that stand alike, one perhaps shifted -/
/-- a level by two quotients -/
theorem lev_of {b n d k : Nat} (h1 : n / b ^ (k + 1) = d / b ^ (k + 1)) (h2 : n / b ^ k ≠ d / b ^ k) : IsLev b n d k := by
  refine ⟨h1, fun j hj e => h2 ?_⟩
  have e1 : b ^ k = b ^ (j + 1) * b ^ (k - (j + 1)) := by
    rw [← Nat.pow_add]
    congr 1
    omega
  rw [e1, ← Nat.div_div_eq_div_mul, ← Nat.div_div_eq_div_mul, e]
theorem quot_up {b n d k j : Nat} (h : n / b ^ k = d / b ^ k) (hj : k ≤ j) : n / b ^ j = d / b ^ j := by
  have e1 : b ^ j = b ^ k * b ^ (j - k) := by
    rw [← Nat.pow_add]
    congr 1
    omega
  rw [e1, ← Nat.div_div_eq_div_mul, ← Nat.div_div_eq_div_mul, h]
/-- ticks that may be shifted by s: those below a power of the base that divides s -/
structure Sh (b s K : Nat) : Prop where
  div : ∃ c, s = b ^ K * c
theorem sh_quot {b s K : Nat} (h : Sh b s K) (hb : 2 ≤ b) {k : Nat} (hk : k ≤ K) (n : Nat) : (n + s) / b ^ k = n / b ^ k + s / b ^ k := by
  obtain ⟨c, rfl⟩ := h.div
  have e1 : b ^ K * c = b ^ k * (b ^ (K - k) * c) := by
    rw [← Nat.mul_assoc, ← Nat.pow_add]
    congr 2
    omega
  rw [e1, Nat.add_mul_div_left _ _ (pow_pos' hb k), Nat.mul_div_cancel_left _ (pow_pos' hb k)]
theorem sh_digit {b s K : Nat} (h : Sh b s K) (hb : 2 ≤ b) {k : Nat} (hk : k < K) (n : Nat) : (n + s) / b ^ k % b = n / b ^ k % b := by
  rw [sh_quot h hb (Nat.le_of_lt hk)]
  obtain ⟨c, rfl⟩ := h.div
  have e1 : b ^ K * c = b ^ k * (b * (b ^ (K - k - 1) * c)) := by
    rw [← Nat.mul_assoc b, ← Nat.mul_assoc (b ^ k), ← Nat.pow_succ', ← Nat.pow_add]
    congr 2
    omega
  rw [e1, Nat.mul_div_cancel_left _ (pow_pos' hb k), Nat.add_mul_mod_self_left]
theorem lev_below {b t d K : Nat} (hb : 2 ≤ b) (h : t < d) (hd : d < b ^ K) : levT b t d < K := by
  have h1 := (levT_is hb h).size hb h
  exact (Nat.pow_lt_pow_iff_right (by omega : 1 < b)).mp (Nat.lt_of_le_of_lt h1 hd)
theorem sh_lev {b s K t d : Nat} (hS : Sh b s K) (hb : 2 ≤ b) (h : t < d) (hd : d < b ^ K) : levT b (t + s) (d + s) = levT b t d := by
  have hk := levT_is hb h
  have hlt := lev_below hb h hd
  generalize levT b t d = k at hk hlt ⊢
  refine levT_eq (lev_of ?_ ?_)
  · rw [sh_quot hS hb hlt, sh_quot hS hb hlt, hk.1]
  · rw [sh_quot hS hb (Nat.le_of_lt hlt), sh_quot hS hb (Nat.le_of_lt hlt)]
    have := hk.ne h
    omega
theorem sh_place {b s K t d : Nat} (hS : Sh b s K) (hb : 2 ≤ b) (h : t < d) (hd : d < b ^ K) : placeT b (t + s) (d + s) = placeT b t d := by
  unfold placeT
  rw [sh_lev hS hb h hd, sh_digit hS hb (lev_below hb h hd)]
theorem cntS_congr {ws : List Bool} {b d d' lo : Nat} : ∀ k, (∀ i, lo ≤ i → i < k → d / b ^ i % b = d' / b ^ i % b) → cntS ws b d lo k = cntS ws b d' lo k
  | 0, _ => rfl
  | k + 1, h => by
    rw [cntS_succ, cntS_succ, cntS_congr k fun i h1 h2 => h i h1 (by omega)]
    by_cases c : lo ≤ k
    · rw [h k c (Nat.lt_succ_self k)]
    · rw [if_neg fun z => c z.2.1, if_neg fun z => c z.2.1]
/-- timers of one list came out of one list -/
theorem place_same {b t t' d d' : Nat} (hb : 2 ≤ b) (ht : t ≤ t') (h : t' < d) (h' : t' < d') (e : placeT b t' d = placeT b t' d') : d / b ^ levT b t' d = d' / b ^ levT b t' d ∧ placeT b t d = placeT b t d' := by
  have e1 : levT b t' d = levT b t' d' := congrArg Prod.fst e
  have e2 : d / b ^ levT b t' d % b = d' / b ^ levT b t' d' % b := congrArg Prod.snd e
  have k1 := levT_is hb h
  have k2 := levT_is hb h'
  have hm := lev_mono hb h ht
  have hk := levT_is hb (Nat.lt_of_le_of_lt ht h)
  rw [← e1] at e2 k2
  generalize levT b t' d = k at *
  have q : d / b ^ k = d' / b ^ k := by
    have a1 := Nat.div_add_mod (d / b ^ k) b
    have a2 := Nat.div_add_mod (d' / b ^ k) b
    rw [← div_succ] at a1 a2
    rw [← k1.1, e2] at a1
    rw [← k2.1] at a2
    omega
  refine ⟨q, ?_⟩
  have hd := hk.ne (Nat.lt_of_le_of_lt ht h)
  have e3 : levT b t d' = levT b t d := by
    generalize levT b t d = j at *
    refine levT_eq (lev_of ?_ ?_)
    · rw [hk.1, quot_up q (by omega)]
    · rw [← quot_up q hm]
      omega
  unfold placeT
  rw [e3, quot_up q hm]
/-- how often a timer is turned about between two levels -/
def turnC (ws : List Bool) (b d lo k : Nat) : Bool := decide (cntS ws b d lo k % 2 = 1)
theorem cntS_cut {ws : List Bool} {b d lo k : Nat} (hl : lo ≤ k) : ∀ L, k ≤ L → cntS ws b d lo L = cntS ws b d k L + cntS ws b d lo k
  | 0, h => by
    have e : k = 0 := by omega
    rw [e, cntS_high 0 (Nat.le_refl _), Nat.zero_add]
  | L + 1, h => by
    by_cases e : k = L + 1
    · rw [e, cntS_high (L + 1) (Nat.le_refl _), Nat.zero_add]
    · rw [cntS_succ, cntS_succ, cntS_cut hl L (by omega)]
      have e2 : (if d / b ^ L % b ≠ 0 ∧ lo ≤ L ∧ wordAt ws L = true then 1 else 0) = if d / b ^ L % b ≠ 0 ∧ k ≤ L ∧ wordAt ws L = true then 1 else 0 := by
        by_cases c : d / b ^ L % b ≠ 0 ∧ wordAt ws L = true
        · rw [if_pos ⟨c.1, by omega, c.2⟩, if_pos ⟨c.1, by omega, c.2⟩]
        · rw [if_neg fun z => c ⟨z.1, z.2.2⟩, if_neg fun z => c ⟨z.1, z.2.2⟩]
      rw [e2]
      omega
theorem side_cut {b : Nat} {ws : List Bool} {s t d lo : Nat} (hb : 2 ≤ b) (h : t < d) (hs : s ≤ t) (hlo : lo ≤ levT b t d) : sideT b ws s d lo = Bool.xor (sideT b ws s d (levT b t d)) (turnC ws b d lo (levT b t d)) := by
  have hsd : s < d := Nat.lt_of_le_of_lt hs h
  have hl := lev_mono hb h hs
  rw [side_cnt hb hsd (Nat.le_trans hlo hl), side_cnt hb hsd hl, cntS_cut hlo _ hl]
  unfold turnC
  generalize cntS ws b d (levT b t d) (levT b s d) = x
  generalize cntS ws b d lo (levT b t d) = y
  generalize (if wordAt ws (levT b s d) = true then 1 else 0) = z
  by_cases c1 : (x + z) % 2 = 1 <;> by_cases c2 : y % 2 = 1
  · rw [decide_eq_true c1, decide_eq_true c2, decide_eq_false (by omega)]
    rfl
  · rw [decide_eq_true c1, decide_eq_false c2, decide_eq_true (by omega)]
    rfl
  · rw [decide_eq_false c1, decide_eq_true c2, decide_eq_true (by omega)]
    rfl
  · rw [decide_eq_false c1, decide_eq_false c2, decide_eq_false (by omega)]
    rfl
/-- a list at a later tick comes out of one list at the earlier one -/
theorem st_later {b : Nat} {ws : List Bool} {t t' d0 : Nat} {ms : List Tm} (hb : 2 ≤ b) (ht : t ≤ t') (hd : ∀ m ∈ ms, t' < m.due ∧ m.since ≤ t) (h0 : t' < d0) :
    stM b ws t' ms (placeT b t' d0) = deq (fun _ => turnC ws b d0 (levT b t' d0) (levT b t d0)) ((stM b ws t ms (placeT b t d0)).filter fun m => decide (placeT b t' m.due = placeT b t' d0)) := by
  unfold stM
  rw [deq_filter, List.filter_filter, deq_deq]
  have e1 : ms.filter (fun m => decide (placeT b t' m.due = placeT b t' d0) && decide (placeT b t m.due = placeT b t d0)) = ms.filter fun m => decide (placeT b t' m.due = placeT b t' d0) := List.filter_congr fun m hm => by
    by_cases c : placeT b t' m.due = placeT b t' d0
    · have z := (place_same hb ht (hd m hm).1 h0 c).2
      simp [c, z]
    · simp [c]
  rw [e1]
  refine deq_congr fun m hm => ?_
  obtain ⟨h1, h2⟩ := List.mem_filter.mp hm
  have h2' := of_decide_eq_true h2
  obtain ⟨hdue, hs⟩ := hd m h1
  obtain ⟨z1, z2⟩ := place_same hb ht hdue h0 h2'
  have e2 : levT b t' m.due = levT b t' d0 := congrArg Prod.fst h2'
  have e3 : levT b t m.due = levT b t d0 := congrArg Prod.fst z2
  have hlo := lev_mono hb hdue ht
  have h := side_cut (b := b) (ws := ws) (s := m.since) (t := t) (d := m.due) (lo := levT b t' m.due) hb (Nat.lt_of_le_of_lt ht hdue) hs hlo
  rw [e2, e3] at h
  show sideT b ws m.since m.due (levT b t' d0) = Bool.xor (sideT b ws m.since m.due (levT b t d0)) _
  rw [h]
  congr 1
  unfold turnC
  rw [e2] at z1
  have e4 : cntS ws b m.due (levT b t' d0) (levT b t d0) = cntS ws b d0 (levT b t' d0) (levT b t d0) := cntS_congr _ fun i h1 _ => by rw [quot_up z1 h1]
  rw [e4]
/-- what a timer is, its tick of setting aside, shifted -/
def coreM (s : Nat) (m : Tm) : Nat × Nat × Option Nat := (m.num, m.due + s, m.per)
theorem core_filter {s : Nat} {p q : Tm → Bool} : ∀ {L L' : List Tm}, L'.map (coreM 0) = L.map (coreM s) → (∀ x ∈ L, ∀ y, coreM 0 y = coreM s x → q y = p x) → (L'.filter q).map (coreM 0) = (L.filter p).map (coreM s)
  | [], [], _, _ => rfl
  | [], _ :: _, h, _ => by cases h
  | _ :: _, [], h, _ => by cases h
  | x :: L, y :: L', h, hp => by
    rw [List.map_cons, List.map_cons] at h
    obtain ⟨h1, h2⟩ := List.cons.inj h
    have ih := core_filter h2 fun a ha => hp a (List.mem_cons_of_mem _ ha)
    have e := hp x (List.mem_cons_self ..) y h1
    cases c : p x with
    | true =>
      rw [List.filter_cons_of_pos (by rw [e]; exact c), List.filter_cons_of_pos c, List.map_cons, List.map_cons, h1, ih]
    | false =>
      rw [List.filter_cons_of_neg (by rw [e, c]; decide), List.filter_cons_of_neg (by rw [c]; decide), ih]
theorem core_deq {s : Nat} (c : Bool) {L L' : List Tm} (h : L'.map (coreM 0) = L.map (coreM s)) : (deq (fun _ => c) L').map (coreM 0) = (deq (fun _ => c) L).map (coreM s) := by
  rw [deq_const, deq_const]
  cases c with
  | true =>
    show L'.reverse.map _ = L.reverse.map _
    rw [List.map_reverse, List.map_reverse, h]
  | false => exact h
structure Alike (b : Nat) (ws : List Bool) (s t : Nat) (ms os : List Tm) : Prop where
  st : ∀ p, (stM b ws (t + s) os p).map (coreM 0) = (stM b ws t ms p).map (coreM s)
theorem mem_st {b : Nat} {ws : List Bool} {t : Nat} {ms : List Tm} {p : Nat × Nat} {m : Tm} : m ∈ stM b ws t ms p ↔ m ∈ ms ∧ placeT b t m.due = p := by
  unfold stM
  rw [mem_deq, List.mem_filter]
  simp
section
variable {b : Nat} {ws : List Bool} {s t K : Nat} {ms os : List Tm}
theorem Alike.old (A : Alike b ws s t ms os) {o : Tm} (ho : o ∈ os) : ∃ m ∈ ms, coreM 0 o = coreM s m := by
  have z : coreM 0 o ∈ (stM b ws (t + s) os (placeT b (t + s) o.due)).map (coreM 0) := List.mem_map.mpr ⟨o, mem_st.mpr ⟨ho, rfl⟩, rfl⟩
  rw [A.st] at z
  obtain ⟨m, h1, h2⟩ := List.mem_map.mp z
  exact ⟨m, (mem_st.mp h1).1, h2.symm⟩
theorem Alike.new (A : Alike b ws s t ms os) {m : Tm} (hm : m ∈ ms) : ∃ o ∈ os, coreM 0 o = coreM s m := by
  have z : coreM s m ∈ (stM b ws t ms (placeT b t m.due)).map (coreM s) := List.mem_map.mpr ⟨m, mem_st.mpr ⟨hm, rfl⟩, rfl⟩
  rw [← A.st] at z
  obtain ⟨o, h1, h2⟩ := List.mem_map.mp z
  exact ⟨o, (mem_st.mp h1).1, h2⟩
theorem core_inj {s : Nat} {m o : Tm} (h : coreM 0 o = coreM s m) : o.num = m.num ∧ o.due = m.due + s ∧ o.per = m.per := by
  unfold coreM at h
  have h1 := congrArg Prod.fst h
  have h2 := congrArg (fun x : Nat × Nat × Option Nat => x.2.1) h
  have h3 := congrArg (fun x : Nat × Nat × Option Nat => x.2.2) h
  exact ⟨h1, h2, h3⟩
theorem alike_refl (b : Nat) (ws : List Bool) (t : Nat) (ms : List Tm) : Alike b ws 0 t ms ms := ⟨fun _ => rfl⟩
theorem Alike.trans {ns : List Tm} (A : Alike b ws s t ms os) (B : Alike b ws 0 (t + s) os ns) : Alike b ws s t ms ns := ⟨fun p => (B.st p).trans (A.st p)⟩
theorem Alike.symm0 (A : Alike b ws 0 t ms os) : Alike b ws 0 t os ms := ⟨fun p => (A.st p).symm⟩
theorem Alike.mems (A : Alike b ws s t ms os) {n : Nat} : n ∈ os.map (·.num) ↔ n ∈ ms.map (·.num) := by
  constructor
  · intro h
    obtain ⟨o, ho, e⟩ := List.mem_map.mp h
    obtain ⟨m, hm, c⟩ := A.old ho
    exact List.mem_map.mpr ⟨m, hm, by rw [← e, (core_inj c).1]⟩
  · intro h
    obtain ⟨m, hm, e⟩ := List.mem_map.mp h
    obtain ⟨o, ho, c⟩ := A.new hm
    exact List.mem_map.mpr ⟨o, ho, by rw [← e, (core_inj c).1]⟩
theorem Alike.perm (A : Alike b ws s t ms os) (n1 : (ms.map (·.num)).Nodup) (n2 : (os.map (·.num)).Nodup) : (os.map (·.num)).Perm (ms.map (·.num)) := (List.perm_ext_iff_of_nodup n2 n1).mpr fun _ => A.mems
theorem Alike.len (A : Alike b ws s t ms os) (n1 : (ms.map (·.num)).Nodup) (n2 : (os.map (·.num)).Nodup) : os.length = ms.length := by
  have := (A.perm n1 n2).length_eq
  rw [List.length_map, List.length_map] at this
  exact this
theorem Alike.least (A : Alike b ws s t ms os) {v : Nat} (h : leastD ms = some v) : leastD os = some (v + s) := by
  obtain ⟨h1, h2⟩ := least_some.mp h
  refine least_some.mpr ⟨?_, fun x hx => ?_⟩
  · obtain ⟨m, hm, e⟩ := List.mem_map.mp h1
    obtain ⟨o, ho, c⟩ := A.new hm
    exact List.mem_map.mpr ⟨o, ho, by rw [← e]; exact (core_inj c).2.1⟩
  · obtain ⟨o, ho, e⟩ := List.mem_map.mp hx
    obtain ⟨m, hm, c⟩ := A.old ho
    have := h2 _ (List.mem_map.mpr ⟨m, hm, rfl⟩)
    have := (core_inj c).2.1
    omega
/-- ticks pass and nothing fires -/
theorem Alike.later (A : Alike b ws s t ms os) (hS : Sh b s K) (hb : 2 ≤ b) {t' : Nat} (ht : t ≤ t') (hd : ∀ m ∈ ms, t' < m.due ∧ m.since ≤ t ∧ m.due < b ^ K) (ho : ∀ o ∈ os, o.since ≤ t + s) : Alike b ws s t' ms os := by
  have hd2 : ∀ o ∈ os, t' + s < o.due ∧ o.since ≤ t + s := fun o h => by
    obtain ⟨m, hm, c⟩ := A.old h
    have := (hd m hm).1
    have := (core_inj c).2.1
    exact ⟨by omega, ho o h⟩
  have main : ∀ m ∈ ms, (stM b ws (t' + s) os (placeT b t' m.due)).map (coreM 0) = (stM b ws t' ms (placeT b t' m.due)).map (coreM s) := fun m hm => by
    obtain ⟨z1, z2, z3⟩ := hd m hm
    have e1 : placeT b t' m.due = placeT b (t' + s) (m.due + s) := (sh_place hS hb z1 z3).symm
    have l1 := sh_lev hS hb z1 z3
    have l2 := sh_lev hS hb (Nat.lt_of_le_of_lt ht z1) z3
    have e2 := sh_place hS hb (Nat.lt_of_le_of_lt ht z1) z3
    have r1 := st_later (ws := ws) (ms := ms) hb ht (fun m hm => ⟨(hd m hm).1, (hd m hm).2.1⟩) z1
    have r2 := st_later (ws := ws) (t := t + s) (t' := t' + s) (d0 := m.due + s) (ms := os) hb (by omega) hd2 (by omega)
    rw [r1, e1, r2, l1, l2, e2]
    have ec : turnC ws b (m.due + s) (levT b t' m.due) (levT b t m.due) = turnC ws b m.due (levT b t' m.due) (levT b t m.due) := by
      unfold turnC
      rw [cntS_congr _ fun i _ h2 => sh_digit hS hb (Nat.lt_trans h2 (lev_below hb (Nat.lt_of_le_of_lt ht z1) z3)) m.due]
    rw [ec]
    refine core_deq _ (core_filter (A.st _) fun x hx y c => ?_)
    obtain ⟨x1, x2, x3⟩ := hd x (mem_st.mp hx).1
    rw [(core_inj c).2.1, sh_place hS hb x1 x3]
  refine ⟨fun p => ?_⟩
  by_cases c : ∃ m ∈ ms, placeT b t' m.due = p
  · obtain ⟨m, hm, rfl⟩ := c
    exact main m hm
  · have n1 : stM b ws t' ms p = [] := List.eq_nil_iff_forall_not_mem.mpr fun m hm => c ⟨m, (mem_st.mp hm).1, (mem_st.mp hm).2⟩
    have n2 : stM b ws (t' + s) os p = [] := List.eq_nil_iff_forall_not_mem.mpr fun o hx => by
      obtain ⟨a1, a2⟩ := mem_st.mp hx
      obtain ⟨m, hm, c2⟩ := A.old a1
      obtain ⟨x1, x2, x3⟩ := hd m hm
      refine c ⟨m, hm, ?_⟩
      rw [← a2, (core_inj c2).2.1, sh_place hS hb x1 x3]
    rw [n1, n2]
    rfl
/-- timers taken out of both -/
theorem Alike.filt (A : Alike b ws s t ms os) {p q : Tm → Bool} (h : ∀ x ∈ ms, ∀ y, coreM 0 y = coreM s x → q y = p x) : Alike b ws s t (ms.filter p) (os.filter q) := by
  refine ⟨fun pl => ?_⟩
  have key : ∀ (t : Nat) (l : List Tm) (f : Tm → Bool), stM b ws t (l.filter f) pl = (stM b ws t l pl).filter f := fun t l f => by
    unfold stM
    rw [deq_filter, List.filter_filter, List.filter_filter]
    congr 1
    refine List.filter_congr fun m _ => Bool.and_comm _ _
  rw [key, key]
  exact core_filter (A.st pl) fun x hx => h x (mem_st.mp hx).1
theorem st_put {t : Nat} {l : List Tm} {m : Tm} (hb : 2 ≤ b) (hm : t < m.due) (hs : m.since = t) (p : Nat × Nat) : stM b ws t (l ++ [m]) p = if placeT b t m.due = p then insM (wordAt ws (levT b t m.due)) m (stM b ws t l p) else stM b ws t l p := by
  unfold stM
  rw [List.filter_append]
  by_cases c : placeT b t m.due = p
  · rw [if_pos c]
    have e : [m].filter (fun m => decide (placeT b t m.due = p)) = [m] := List.filter_cons_of_pos (by simpa using c)
    rw [e, deq_snoc]
    congr 1
    rw [← c, hs]
    exact side_new hb hm
  · rw [if_neg c]
    have e : [m].filter (fun m => decide (placeT b t m.due = p)) = [] := List.filter_cons_of_neg (by simpa using c)
    rw [e, List.append_nil]
theorem core_ins {s : Nat} (c : Bool) {m o : Tm} {L L' : List Tm} (h : L'.map (coreM 0) = L.map (coreM s)) (e : coreM 0 o = coreM s m) : (insM c o L').map (coreM 0) = (insM c m L).map (coreM s) := by
  unfold insM
  cases c with
  | true =>
    show (o :: L').map _ = (m :: L).map _
    rw [List.map_cons, List.map_cons, h, e]
  | false =>
    show (L' ++ [o]).map _ = (L ++ [m]).map _
    rw [List.map_append, List.map_append, h]
    show _ ++ [coreM 0 o] = _ ++ [coreM s m]
    rw [e]
/-- a timer set in both -/
theorem Alike.put (A : Alike b ws s t ms os) (hS : Sh b s K) (hb : 2 ≤ b) {m o : Tm} (h1 : t < m.due) (h2 : m.due < b ^ K) (h3 : m.since = t) (h4 : o.since = t + s) (e : coreM 0 o = coreM s m) : Alike b ws s t (ms ++ [m]) (os ++ [o]) := by
  refine ⟨fun p => ?_⟩
  have ed := (core_inj e).2.1
  rw [st_put hb h1 h3, st_put hb (by omega) h4, ed, sh_place hS hb h1 h2, sh_lev hS hb h1 h2]
  by_cases c : placeT b t m.due = p
  · rw [if_pos c, if_pos c]
    exact core_ins _ (A.st p) e
  · rw [if_neg c, if_neg c]
    exact A.st p
theorem Alike.puts (hS : Sh b s K) (hb : 2 ≤ b) : ∀ {L L' : List Tm} {ms os : List Tm}, Alike b ws s t ms os → L'.map (coreM 0) = L.map (coreM s) → (∀ m ∈ L, t < m.due ∧ m.due < b ^ K ∧ m.since = t) → (∀ o ∈ L', o.since = t + s) → Alike b ws s t (ms ++ L) (os ++ L')
  | [], [], ms, os, A, _, _, _ => by
    rw [List.append_nil, List.append_nil]
    exact A
  | [], _ :: _, _, _, _, h, _, _ => by cases h
  | _ :: _, [], _, _, _, h, _, _ => by cases h
  | x :: L, y :: L', ms, os, A, h, h1, h2 => by
    rw [List.map_cons, List.map_cons] at h
    obtain ⟨e1, e2⟩ := List.cons.inj h
    obtain ⟨a1, a2, a3⟩ := h1 x (List.mem_cons_self ..)
    have B := A.put hS hb a1 a2 a3 (h2 y (List.mem_cons_self ..)) e1
    have z := Alike.puts hS hb B e2 (fun m hm => h1 m (List.mem_cons_of_mem _ hm)) fun o ho => h2 o (List.mem_cons_of_mem _ ho)
    rw [List.append_assoc, List.append_assoc] at z
    exact z
/-- those due at a tick, as they fire -/
theorem fire_list {b : Nat} {ws : List Bool} {t d : Nat} {ms : List Tm} (hb : 2 ≤ b) (h : t < d) (hs : ∀ m ∈ ms, m.since ≤ t) : deq (fun m => sideT b ws m.since m.due 0) (ms.filter fun m => decide (m.due = d)) = deq (fun _ => turnB ws b d (levT b t d)) ((stM b ws t ms (placeT b t d)).filter fun m => decide (m.due = d)) := by
  unfold stM
  rw [deq_filter, List.filter_filter]
  have e1 : ms.filter (fun m => decide (m.due = d) && decide (placeT b t m.due = placeT b t d)) = ms.filter fun m => decide (m.due = d) := List.filter_congr fun m _ => by
    by_cases c : m.due = d
    · simp [c]
    · simp [c]
  rw [e1, deq_deq]
  refine deq_congr fun m hm => ?_
  obtain ⟨h1, h2⟩ := List.mem_filter.mp hm
  have h2' := of_decide_eq_true h2
  rw [h2']
  show sideT b ws m.since d 0 = Bool.xor (sideT b ws m.since d (placeT b t d).1) _
  exact side_turn hb h (hs m h1)
theorem Alike.fire (A : Alike b ws s t ms os) (hS : Sh b s K) (hb : 2 ≤ b) {d : Nat} (h : t < d) (hK : d < b ^ K) (hs : ∀ m ∈ ms, m.since ≤ t) (ho : ∀ o ∈ os, o.since ≤ t + s) :
    (deq (fun m => sideT b ws m.since m.due 0) (os.filter fun m => decide (m.due = d + s))).map (coreM 0) = (deq (fun m => sideT b ws m.since m.due 0) (ms.filter fun m => decide (m.due = d))).map (coreM s) := by
  rw [fire_list hb h hs, fire_list (t := t + s) (d := d + s) hb (by omega) ho, sh_place hS hb h hK, sh_lev hS hb h hK]
  have ec : turnB ws b (d + s) (levT b t d) = turnB ws b d (levT b t d) := by
    unfold turnB
    rw [cntS_congr _ fun i _ h2 => sh_digit hS hb (Nat.lt_trans h2 (lev_below hb h hK)) d]
  rw [ec]
  refine core_deq _ (core_filter (A.st _) fun x _ y c => ?_)
  rw [(core_inj c).2.1]
  by_cases e : x.due = d
  · rw [decide_eq_true e, decide_eq_true (by omega)]
  · rw [decide_eq_false e, decide_eq_false (by omega)]
theorem core_num {s : Nat} {L L' : List Tm} (h : L'.map (coreM 0) = L.map (coreM s)) : L'.map (·.num) = L.map (·.num) := by
  have e : ∀ (s : Nat) (l : List Tm), l.map (·.num) = (l.map (coreM s)).map (·.1) := fun s l => by
    rw [List.map_map]
    rfl
  rw [e 0, e s, h]
theorem Alike.order (A : Alike b ws s t ms os) (hS : Sh b s K) (hb : 2 ≤ b) {d : Nat} (h : t < d) (hK : d < b ^ K) (hs : ∀ m ∈ ms, m.since ≤ t) (ho : ∀ o ∈ os, o.since ≤ t + s) : orderAt b ws (d + s) os = orderAt b ws d ms := by
  rw [order_deq, order_deq]
  exact core_num (A.fire hS hb h hK hs ho)
theorem core_again {s v : Nat} : ∀ {L L' : List Tm}, L'.map (coreM 0) = L.map (coreM s) → (L'.filterMap (againM (v + s))).map (coreM 0) = (L.filterMap (againM v)).map (coreM s)
  | [], [], _ => rfl
  | [], _ :: _, h => by cases h
  | _ :: _, [], h => by cases h
  | x :: L, y :: L', h => by
    rw [List.map_cons, List.map_cons] at h
    obtain ⟨e1, e2⟩ := List.cons.inj h
    have ih := core_again (v := v) e2
    obtain ⟨c1, c2, c3⟩ := core_inj e1
    cases ep : x.per with
    | none =>
      have z1 : againM v x = none := by
        unfold againM
        rw [ep]
        rfl
      have z2 : againM (v + s) y = none := by
        unfold againM
        rw [c3, ep]
        rfl
      rw [List.filterMap_cons_none z1, List.filterMap_cons_none z2, ih]
    | some k =>
      have z1 : againM v x = some ⟨x.num, v + k, some k, v⟩ := by
        unfold againM
        rw [ep]
        rfl
      have z2 : againM (v + s) y = some ⟨y.num, v + s + k, some k, v + s⟩ := by
        unfold againM
        rw [c3, ep]
        rfl
      rw [List.filterMap_cons_some z1, List.filterMap_cons_some z2, List.map_cons, List.map_cons, ih]
      congr 1
      unfold coreM
      rw [c1]
      show (x.num, v + s + k + 0, some k) = (x.num, v + k + s, some k)
      congr 2
      omega
/-- timers that may be led on up to T -/
structure Below (B T : Nat) (m : Tm) : Prop where
  due : m.due < B
  per : ∀ k, m.per = some k → 1 ≤ k ∧ T + k < B
/-- one tick at which something fires -/
theorem Alike.step (A : Alike b ws s t ms os) (hS : Sh b s K) (hb : 2 ≤ b) {v T : Nat} (hv : leastD ms = some v) (hT : v ≤ T) (hm : ∀ m ∈ ms, t < m.due ∧ m.since ≤ t ∧ Below (b ^ K) T m) (ho : ∀ o ∈ os, o.since ≤ t + s) (n1 : (ms.map (·.num)).Nodup) (n2 : (os.map (·.num)).Nodup) :
    orderAt b ws (v + s) os = orderAt b ws v ms ∧ Alike b ws s v (afterF v ms (orderAt b ws v ms)) (afterF (v + s) os (orderAt b ws (v + s) os)) ∧ (∀ m ∈ afterF v ms (orderAt b ws v ms), v < m.due ∧ m.since ≤ v ∧ Below (b ^ K) T m) ∧ ∀ o ∈ afterF (v + s) os (orderAt b ws (v + s) os), o.since ≤ v + s := by
  obtain ⟨l1, l2⟩ := least_some.mp hv
  obtain ⟨m0, hm0, e0⟩ := List.mem_map.mp l1
  obtain ⟨z1, z2, z3⟩ := hm m0 hm0
  have htv : t < v := by omega
  have hvK : v < b ^ K := by
    have := z3.due
    omega
  have hs : ∀ m ∈ ms, m.since ≤ t := fun m h => (hm m h).2.1
  have F := A.fire hS hb htv hvK hs ho
  refine ⟨A.order hS hb htv hvK hs ho, ?_, fun m h => ?_, fun o h => ?_⟩
  · rw [after_due n1, after_due n2]
    have B1 := A.filt (p := fun m => decide (m.due ≠ v)) (q := fun m => decide (m.due ≠ v + s)) fun x _ y c => by
      have := (core_inj c).2.1
      exact decide_eq_decide.mpr (by omega)
    have B2 := B1.later hS hb (t' := v) (Nat.le_of_lt htv) (fun m h => by
      obtain ⟨h1, h2⟩ := List.mem_filter.mp h
      have h3 := l2 _ (List.mem_map.mpr ⟨m, h1, rfl⟩)
      have h4 : m.due ≠ v := of_decide_eq_true h2
      exact ⟨by omega, hs m h1, (hm m h1).2.2.due⟩) fun o h => ho o (List.mem_filter.mp h).1
    refine Alike.puts hS hb B2 (core_again F) (fun m h => ?_) fun o h => ?_
    · obtain ⟨m1, h1, h2⟩ := List.mem_filterMap.mp h
      obtain ⟨k, k1, rfl⟩ := again_of h2
      have h3 := (List.mem_filter.mp (mem_deq.mp h1)).1
      obtain ⟨p1, p2⟩ := (hm m1 h3).2.2.per k k1
      exact ⟨(by show v < v + k; omega), (by show v + k < _; omega), rfl⟩
    · obtain ⟨m1, h1, h2⟩ := List.mem_filterMap.mp h
      obtain ⟨k, k1, rfl⟩ := again_of h2
      rfl
  · rcases after_mem n1 h with ⟨h1, h2⟩ | ⟨m1, h1, h2, k, h3, rfl⟩
    · have h3 := l2 _ (List.mem_map.mpr ⟨m, h1, rfl⟩)
      have := hs m h1
      exact ⟨by omega, by omega, (hm m h1).2.2⟩
    · obtain ⟨p1, p2⟩ := (hm m1 h1).2.2.per k h3
      exact ⟨(by show v < v + k; omega), Nat.le_refl _, ⟨(by show v + k < _; omega), fun k' e => by cases e; exact ⟨p1, p2⟩⟩⟩
  · rcases after_mem n2 h with ⟨h1, h2⟩ | ⟨m1, h1, h2, k, h3, rfl⟩
    · have := ho o h1
      omega
    · exact Nat.le_refl _
end
/-- an advance of both -/
theorem alike_adv {b : Nat} {ws : List Bool} {s K T : Nat} {ms ms' os' : List Tm} {f f' : List (Nat × List Nat)} (hS : Sh b s K) (hb : 2 ≤ b) (h : AdvTo b ws T ms f ms') : ∀ {t : Nat} {os : List Tm}, t ≤ T → Alike b ws s t ms os → (∀ m ∈ ms, t < m.due ∧ m.since ≤ t ∧ Below (b ^ K) T m) → (∀ o ∈ os, o.since ≤ t + s) → AdvTo b ws (T + s) os f' os' →
    f' = f.map (fun r => (r.1 + s, r.2)) ∧ Alike b ws s T ms' os' := by
  induction h generalizing f' with
  | @done ms hd =>
    intro t os htT A hm ho h'
    cases h' with
    | done _ => exact ⟨rfl, A.later hS hb htT (fun m h => ⟨hd m h, (hm m h).2.1, (hm m h).2.2.due⟩) ho⟩
    | step h1 h2 _ _ _ _ =>
      obtain ⟨o, hx, e⟩ := List.mem_map.mp (least_some.mp h1).1
      obtain ⟨m, h3, c⟩ := A.old hx
      have := hd m h3
      have := (core_inj c).2.1
      omega
  | @step ms ms' at_ rest h1 h2 ok nd few r ih =>
    intro t os htT A hm ho h'
    have hl := A.least h1
    cases h' with
    | done hd =>
      obtain ⟨o, hx, e⟩ := List.mem_map.mp (least_some.mp hl).1
      have := hd o hx
      omega
    | @step _ _ at2 rest2 k1 k2 ok2 nd2 few2 r2 =>
      have e : at2 = at_ + s := Option.some.inj (k1.symm.trans hl)
      subst e
      obtain ⟨e1, B, b1, b2⟩ := A.step hS hb h1 h2 hm ho nd nd2
      obtain ⟨i1, i2⟩ := ih h2 B b1 b2 r2
      refine ⟨?_, i2⟩
      rw [i1, e1]
      rfl
/-- the lists that are shown -/
theorem alike_lists {b : Nat} {ws : List Bool} {s K t : Nat} {ms os : List Tm} {cs : List Cell} (hS : Sh b s K) (hb : 2 ≤ b) (A : Alike b ws s t ms os) (hd : ∀ m ∈ ms, t < m.due ∧ m.due < b ^ K) (h : IsLists b ws t ms cs) : IsLists b ws (t + s) os cs := by
  have hd1 : ∀ m ∈ ms, t < m.due := fun m hm => (hd m hm).1
  have hd2 : ∀ o ∈ os, t + s < o.due := fun o ho => by
    obtain ⟨m, hm, c⟩ := A.old ho
    have := hd1 m hm
    have := (core_inj c).2.1
    omega
  obtain ⟨k1, _⟩ := h.keys hd1
  refine ⟨?_, h.sorted, fun c hc => ?_⟩
  · have nd := (stand_bounds b ws (t + s) os _ (Nat.le_refl _)).2.2
    rw [List.take_length] at nd
    refine (List.perm_ext_iff_of_nodup k1 nd).mpr fun p => ?_
    rw [stand_keys hd2, h.perm.mem_iff, stand_keys hd1]
    constructor
    · rintro ⟨m, hm, e⟩
      obtain ⟨o, ho, c⟩ := A.new hm
      exact ⟨o, ho, by rw [(core_inj c).2.1, sh_place hS hb (hd m hm).1 (hd m hm).2, e]⟩
    · rintro ⟨o, ho, e⟩
      obtain ⟨m, hm, c⟩ := A.old ho
      exact ⟨m, hm, by rw [← e, (core_inj c).2.1, sh_place hS hb (hd m hm).1 (hd m hm).2]⟩
  · rw [cell_st hd2, h.at_ hd1 hc]
    exact (core_num (A.st c.1)).symm
/-- the order in which they are told -/
theorem alike_told {b : Nat} {ws : List Bool} {s t : Nat} {ms os : List Tm} (A : Alike b ws s t ms os) : ∀ ks : List (Nat × Nat), (toldT b ws (t + s) os ks).map (coreM 0) = (toldT b ws t ms ks).map (coreM s)
  | [] => rfl
  | k :: ks => by
    have ih := alike_told A ks
    unfold toldT at ih ⊢
    rw [List.flatMap_cons, List.flatMap_cons, List.map_append, List.map_append, ih, core_deq _ (A.st k)]
/-! ### a wheel made of a snapshot -/
def sinT (t : Nat) (m : Tm) : Tm := ⟨m.num, m.due, m.per, t⟩
theorem sin_core (s t : Nat) (l : List Tm) : (l.map (sinT t)).map (coreM s) = l.map (coreM s) := by
  rw [List.map_map]
  rfl
theorem sin_lists {b : Nat} {ws : List Bool} {t : Nat} {ms : List Tm} {ks : List (Nat × Nat)} (hb : 2 ≤ b) (nd : ks.Nodup) (hd : ∀ m ∈ ms, t < m.due) (hk : ∀ m ∈ ms, placeT b t m.due ∈ ks) (p : Nat × Nat) :
    stM b ws t ((toldT b ws t ms ks).map (sinT t)) p = (stM b ws t ms p).map (sinT t) := by
  have e1 : ((toldT b ws t ms ks).map (sinT t)).filter (fun m => decide (placeT b t m.due = p)) = ((toldT b ws t ms ks).filter fun m => decide (placeT b t m.due = p)).map (sinT t) := by
    rw [List.filter_map]
    rfl
  have e2 : stM b ws t ((toldT b ws t ms ks).map (sinT t)) p = deq (fun _ => wordAt ws p.1) (((toldT b ws t ms ks).filter fun m => decide (placeT b t m.due = p)).map (sinT t)) := by
    unfold stM
    rw [e1]
    refine deq_congr fun m hm => ?_
    obtain ⟨m0, hm0, rfl⟩ := List.mem_map.mp hm
    obtain ⟨h1, h2⟩ := List.mem_filter.mp hm0
    have h3 : placeT b t m0.due = p := of_decide_eq_true h2
    have h4 := hd m0 ((told_perm nd hk).mem_iff.mp h1)
    rw [← h3]
    exact side_new hb h4
  rw [e2, told_part p ks nd]
  by_cases c : p ∈ ks
  · rw [if_pos c, deq_map, deq_const, deq_const]
    cases wordAt ws p.1 with
    | true =>
      show ((stM b ws t ms p).reverse.reverse).map _ = _
      rw [List.reverse_reverse]
    | false => rfl
  · rw [if_neg c]
    have e3 : stM b ws t ms p = [] := by
      unfold stM
      rw [List.filter_eq_nil_iff.mpr fun m hm z => c (by rw [← of_decide_eq_true z]; exact hk m hm)]
      rfl
    rw [e3, deq_const]
    cases wordAt ws p.1 <;> rfl
theorem alike_restored {b : Nat} {ws : List Bool} {t : Nat} {ms : List Tm} {cs : List Cell} (hb : 2 ≤ b) (hd : ∀ m ∈ ms, t < m.due) (h : IsLists b ws t ms cs) : Alike b ws 0 t ms ((toldT b ws t ms (cs.map (·.1))).map (sinT t)) := by
  obtain ⟨k1, k2⟩ := h.keys hd
  refine ⟨fun p => ?_⟩
  rw [Nat.add_zero, sin_lists hb k1 hd k2, sin_core]
/-! ### a dict comprehension over a list that stays -/
theorem dc_list {K : PySem.W.Frag} {a : Addr} {xs : List V} {g : TG} {tt : TT} {tk tv : TE} {vs : List Nat} {σ : L2.St} {H1 : Hp} {D : Addr} {Qd : Hp → Prop} (Pv : Nat → Hp → Prop) (h0 : Pv 0 (upd H1 D (.dK []))) (hl : ∀ i H, i ≤ xs.length → Pv i H → SqL K H a xs)
    (hs : ∀ i x H, xs[i]? = some x → Pv i H → g x (wipe σ vs) H fun σ2 H2 => wipe σ2 vs = wipe σ vs ∧ tt σ2 H2 fun b H3 =>
      if b = true then tk σ2 H3 fun y H4 => tv σ2 H4 fun z H5 => ∃ kvs k, y = kV k ∧ H5 D = some (.dK kvs) ∧ kvs.length < sizeLine ∧ Pv (i + 1) (upd H5 D (.dK (putK kvs k z))) else Pv (i + 1) H3) (hd : ∀ H, Pv xs.length H → Qd H) :
    ∃ W : Nat → Nat → Hp → Prop, (∃ m, W 0 m (upd H1 D (.dK []))) ∧ ∀ i m H, W i m H →
      ((Itl K a).stop i H ∧ Qd H) ∨ ((Itl K a).go i H ∧ ∃ Nx : Hp → Prop, (∀ H', Nx H' → ∃ m', m' < m ∧ W (i + 1) m' H') ∧ ∀ x H', (Itl K a).yld i H x H' → g x (wipe σ vs) H' fun σ2 H2 => wipe σ2 vs = wipe σ vs ∧ tt σ2 H2 fun b H3 =>
        if b = true then tk σ2 H3 fun y H4 => tv σ2 H4 fun z H5 => ∃ kvs k, y = kV k ∧ H5 D = some (.dK kvs) ∧ kvs.length < sizeLine ∧ Nx (upd H5 D (.dK (putK kvs k z))) else Nx H3) := by
  refine ⟨fun i m H => m = xs.length - i ∧ i ≤ xs.length ∧ Pv i H, ⟨xs.length, by simp, Nat.zero_le _, h0⟩, ?_⟩
  rintro i m H ⟨rfl, hi, p⟩
  have q := hl i H hi p
  by_cases hlt : i < xs.length
  · refine .inr ⟨⟨xs, xs[i], q, by simp [hlt]⟩, Pv (i + 1), fun H' p' => ⟨xs.length - (i + 1), by omega, rfl, hlt, p'⟩, fun x H' y => ?_⟩
    obtain ⟨e, y⟩ := y
    subst e
    exact hs i x _ (y xs q) p
  · have e : i = xs.length := by omega
    subst e
    exact .inl ⟨⟨xs, q, Nat.le_refl _⟩, hd H p⟩
/-! ### levels as data -/
def lvD (b : Bool) : PyData := if b then .str "stack" else .str "queue"
theorem lvs_dp {K : PySem.W.Frag} {H : Hp} : ∀ ws : List Bool, DpAll K H (ws.map lvV) (ws.map lvD)
  | [] => .nil
  | true :: r => .cons (.str _) (lvs_dp r)
  | false :: r => .cons (.str _) (lvs_dp r)
theorem lvs_lay : ∀ ws : List Bool, PyData.canLayAll0 (ws.map lvD) = true
  | [] => rfl
  | b :: r => by
    show ((lvD b).canLay0 && PyData.canLayAll0 (r.map lvD)) = true
    rw [lvs_lay r]
    cases b <;> decide +kernel
theorem lvs_depth : ∀ ws : List Bool, PyData.depthAll (ws.map lvD) = 0
  | [] => rfl
  | b :: r => by
    show max (lvD b).depth (PyData.depthAll (r.map lvD)) = 0
    rw [lvs_depth r]
    cases b <;> rfl
theorem lvs_shaped (ws : List Bool) : SeqAt.shaped (.list (ws.map lvD)) = true := by
  have h1 : (PyData.list (ws.map lvD)).canLay0 = true := by
    show PyData.canLayAll0 _ = true
    exact lvs_lay ws
  have h2 : (PyData.list (ws.map lvD)).depth ≤ 64 := by
    show PyData.depthAll _ + 1 ≤ 64
    rw [lvs_depth ws]
    decide
  unfold SeqAt.shaped
  rw [h1, decide_eq_true h2]
  rfl
/-! ### rows of a snapshot, snapshots as data -/
abbrev RowP := Nat × Nat × Option Nat
def rowPV (r : RowP) : List V := [.int (r.1 : Nat), .int (r.2.1 : Nat), perV r.2.2]
def RpAt (H : Hp) : List Addr → List RowP → Prop
  | [], [] => True
  | t :: ts, r :: rs => H t = some (.tup (rowPV r)) ∧ RpAt H ts rs
  | _, _ => False
theorem RpAt.frame {H H' : Hp} (s : ∀ t xs, H t = some (.tup xs) → H' t = some (.tup xs)) : ∀ {ts : List Addr} {rs : List RowP}, RpAt H ts rs → RpAt H' ts rs
  | [], [], _ => trivial
  | _ :: _, _ :: _, h => ⟨s _ _ h.1, h.2.frame s⟩
  | [], _ :: _, h => h.elim
  | _ :: _, [], h => h.elim
theorem RpAt.same {H H' : Hp} (s : Same H H') {ts : List Addr} {rs : List RowP} (h : RpAt H ts rs) : RpAt H' ts rs := h.frame fun _ _ e => s _ _ e
theorem RpAt.len {H : Hp} : ∀ {ts : List Addr} {rs : List RowP}, RpAt H ts rs → ts.length = rs.length
  | [], [], _ => rfl
  | _ :: _, _ :: _, h => congrArg Nat.succ h.2.len
  | [], _ :: _, h => h.elim
  | _ :: _, [], h => h.elim
theorem RpAt.item {H : Hp} : ∀ {ts : List Addr} {rs : List RowP} {i : Nat} {x : V}, RpAt H ts rs → (ts.map V.ref)[i]? = some x → ∃ t r, x = .ref t ∧ rs[i]? = some r ∧ H t = some (.tup (rowPV r))
  | t :: ts, r :: rs, 0, x, h, e => ⟨t, r, (Option.some.inj e).symm, rfl, h.1⟩
  | t :: ts, r :: rs, i + 1, x, h, e => RpAt.item (i := i) h.2 e
  | [], [], _, _, _, e => by cases e
  | [], _ :: _, _, _, h, _ => h.elim
  | _ :: _, [], _, _, h, _ => h.elim
theorem RpAt.snoc {H : Hp} {t : Addr} {r : RowP} (e : H t = some (.tup (rowPV r))) : ∀ {ts : List Addr} {rs : List RowP}, RpAt H ts rs → RpAt H (ts ++ [t]) (rs ++ [r])
  | [], [], _ => ⟨e, trivial⟩
  | _ :: _, _ :: _, h => ⟨h.1, h.2.snoc e⟩
  | [], _ :: _, h => h.elim
  | _ :: _, [], h => h.elim
/-- a row that may stand in a snapshot -/
structure RowOk (t f : Nat) (r : RowP) : Prop where
  num : r.1 < f
  due : t < r.2.1
  per : ∀ k, r.2.2 = some k → 1 ≤ k
/-- a snapshot in the heap -/
structure SnapAt (K : PySem.W.Frag) (H : Hp) (u : Addr) (b : Nat) (ws : List Bool) (t f : Nat) (rs : List RowP) : Prop where
  tup : ∃ q R ts, H u = some (.tup [.int (b : Nat), .ref q, .int (t : Nat), .int (f : Nat), .ref R]) ∧ SqL K H q (ws.map lvV) ∧ SqL K H R (ts.map V.ref) ∧ RpAt H ts rs
theorem SnapAt.same {K : PySem.W.Frag} {H H' : Hp} {u : Addr} {b : Nat} {ws : List Bool} {t f : Nat} {rs : List RowP} (s : Same H H') (h : SnapAt K H u b ws t f rs) : SnapAt K H' u b ws t f rs := by
  obtain ⟨q, R, ts, h1, h2, h3, h4⟩ := h.tup
  exact ⟨⟨q, R, ts, s _ _ h1, s.seq h2, s.seq h3, h4.same s⟩⟩
structure SnapOk (b : Nat) (ws : List Bool) (t f : Nat) (rs : List RowP) : Prop where
  b2 : 2 ≤ b
  b64 : b ≤ 64
  ne : ws ≠ []
  l60 : ws.length ≤ 60
  rows : ∀ r ∈ rs, RowOk t f r
  nd : (rs.map (·.1)).Nodup
  few : rs.length ≤ 1000
def perD : Option Nat → PyData
  | none => .none
  | some k => .int (k : Nat)
def rowPD (r : RowP) : PyData := .tuple [.int (r.1 : Nat), .int (r.2.1 : Nat), perD r.2.2]
def snapD (b : Nat) (ws : List Bool) (t f : Nat) (rs : List RowP) : PyData := .tuple [.int (b : Nat), .list (ws.map lvD), .int (t : Nat), .int (f : Nat), .list (rs.map rowPD)]
theorem per_dp {K : PySem.W.Frag} {H : Hp} : ∀ o : Option Nat, Dp K H (perV o) (perD o)
  | none => .non
  | some _ => .int _
theorem rowp_dp {K : PySem.W.Frag} {H : Hp} : ∀ {ts : List Addr} {rs : List RowP}, RpAt H ts rs → DpAll K H (ts.map V.ref) (rs.map rowPD)
  | [], [], _ => .nil
  | _ :: _, r :: _, h => .cons (.tup (SqT.of h.1) (.cons (.int _) (.cons (.int _) (.cons (per_dp r.2.2) .nil)))) (rowp_dp h.2)
  | [], _ :: _, h => h.elim
  | _ :: _, [], h => h.elim
theorem snap_dp {K : PySem.W.Frag} {H : Hp} {u : Addr} {b : Nat} {ws : List Bool} {t f : Nat} {rs : List RowP} (h : SnapAt K H u b ws t f rs) : Dp K H (.ref u) (snapD b ws t f rs) := by
  obtain ⟨q, R, ts, h1, h2, h3, h4⟩ := h.tup
  exact .tup (SqT.of h1) (.cons (.int _) (.cons (.lst h2 (lvs_dp ws)) (.cons (.int _) (.cons (.int _) (.cons (.lst h3 (rowp_dp h4)) .nil)))))
theorem rowp_lay : ∀ rs : List RowP, PyData.canLayAll0 (rs.map rowPD) = true
  | [] => rfl
  | r :: rs => by
    show ((rowPD r).canLay0 && PyData.canLayAll0 (rs.map rowPD)) = true
    rw [rowp_lay rs]
    obtain ⟨a, c, o⟩ := r
    cases o <;> rfl
theorem rowp_depth : ∀ rs : List RowP, PyData.depthAll (rs.map rowPD) ≤ 1
  | [] => by decide
  | r :: rs => by
    show max (rowPD r).depth (PyData.depthAll (rs.map rowPD)) ≤ 1
    have h1 := rowp_depth rs
    have h2 : (rowPD r).depth = 1 := by
      obtain ⟨a, c, o⟩ := r
      cases o <;> rfl
    omega
theorem snap_lay (b : Nat) (ws : List Bool) (t f : Nat) (rs : List RowP) : (snapD b ws t f rs).canLay0 = true := by
  simp [snapD, PyData.canLay0, PyData.canLayAll0, lvs_lay, rowp_lay]
theorem snap_depth (b : Nat) (ws : List Bool) (t f : Nat) (rs : List RowP) : (snapD b ws t f rs).depth ≤ 64 := by
  have h1 : (PyData.list (ws.map lvD)).depth = 1 := by
    show PyData.depthAll _ + 1 = 1
    rw [lvs_depth ws]
  have h2 : (PyData.list (rs.map rowPD)).depth ≤ 2 := by
    show PyData.depthAll _ + 1 ≤ 2
    have := rowp_depth rs
    omega
  show max 0 (max (PyData.list (ws.map lvD)).depth (max 0 (max 0 (max (PyData.list (rs.map rowPD)).depth 0)))) + 1 ≤ 64
  omega
theorem snap_shaped (b : Nat) (ws : List Bool) (t f : Nat) (rs : List RowP) : SeqAt.shaped (snapD b ws t f rs) = true := by
  unfold SeqAt.shaped
  rw [snap_lay, decide_eq_true (snap_depth b ws t f rs)]
  rfl
/-! ### good snapshots -/
section
variable {P : Program} {w : World} {K : PySem.W.Frag} {mg : Str → Option Value} {base : Heap}
theorem tyx_tup1 {K : PySem.W.Frag} {H : Hp} {a : Addr} {xs : List V} (h : H a = some (.tup xs)) : TyX K H (.ref a) (.type "tuple") := .base (.tup h)
def spIsRow : Sp := fun vs H Q _ => ∃ (u : Addr) (t f : Nat) (r : RowP), vs = [.ref u, .int (t : Nat), .int (f : Nat)] ∧ H u = some (.tup (rowPV r)) ∧ RowOk t f r ∧ Q (.bl true) H
theorem ok_is_row {f : Addr} {fd : FuncData} (F : Fun K "is_row" "is_row" s_is_row f fd) (T : Tx K mg) (h0 : Has P w K mg base 1 "is_integer" ["given"] [] spIsInt) (h1 : Has P w K mg base 2 "is_tick" ["given", "least"] [] spIsTick) (h2 : Has P w K mg base 2 "is_period" ["given"] [] spIsPeriod) : FnOk P w K mg base CX0 3 f fd ["given", "now", "following"] spIsRow := by
  obtain ⟨f_is_integer, fd_is_integer, ds_is_integer, G_is_integer, m_is_integer, k_is_integer, b_is_integer, v_is_integer⟩ := h0
  obtain ⟨f_is_tick, fd_is_tick, ds_is_tick, G_is_tick, m_is_tick, k_is_tick, b_is_tick, v_is_tick⟩ := h1
  obtain ⟨f_is_period, fd_is_period, ds_is_period, G_is_period, m_is_period, k_is_period, b_is_period, v_is_period⟩ := h2
  refine F.ok sc_is_row (fun vs H Q E h => ?_) (fun cdv A outer s H vs Q E hr h => ?_)
  · obtain ⟨u, t, f, r, rfl, _⟩ := h
    rfl
  · obtain ⟨u, t, f, r, rfl, hu, ok, q⟩ := h
    refine ⟨_, (pss_cons (ps_if (PW.pt (pw_or (pt_not (pt_val (pe_callB (isiK (K := K) rfl) (by rfl) T.b_isinstance (by decide +kernel) (pa_cons (pv 0) (pa_cons (pe_bltn (v := .ty "tuple") (u := .type "tuple") (by rfl) T.b_tuple (by decide +kernel) rfl) pa_nil))))) (pw_or1 (pt_cmpR op_ne (pe_callB (lenK (K := K) rfl) (by rfl) T.b_len PySem.boot_len (pa_cons (pv 0) pa_nil)) pe_int (nomark _)))))
        (pss_one (ps_ret pe_bl))
        pss_nil)
      (pss_cons (ps_asg (pv 0) (pg_tupK (K := K) (n := 3) rfl rfl (pgs_cons (pg_name (i := 3) sc_is_row.nd rfl (.inl rfl)) (pgs_cons (pg_name (i := 4) sc_is_row.nd rfl (.inl rfl)) (pgs_cons (pg_name (i := 5) sc_is_row.nd rfl (.inl rfl)) pgs_nil)))))
      (pss_cons (ps_if (PW.pt (pw_or (pt_not (pt_val (pe_call G_is_integer (hr.mono (by decide)) (by rfl) m_is_integer k_is_integer b_is_integer v_is_integer pass0 (pa_cons (pv 3) pa_nil)))) (pw_or1 (pt_not (pt_chain op_le op_lt pe_int (pv 3) (pv 2))))))
        (pss_one (ps_ret pe_bl))
        pss_nil)
      (pss_one (ps_ret (pe_and (pe_call G_is_tick hr (by rfl) m_is_tick k_is_tick b_is_tick v_is_tick pass0 (pa_cons (pv 4) (pa_cons (pe_op op_add (pv 1) pe_int) pa_nil))) (pe_one (pe_or (pe_cmpR op_isN (pv 5) pe_non (nomark _)) (pe_one (pe_call G_is_period hr (by rfl) m_is_period k_is_period b_is_period v_is_period pass0 (pa_cons (pv 5) pa_nil))))))))))), ?_⟩
    refine ⟨.ref u, rfl, _, _, _, _, true, rfl, .ty "tuple", tyx_tup1 hu, kit_ty (by decide +kernel), true, rfl, iteF ?_⟩
    refine ⟨.ref u, rfl, u, _, rfl, .inr (.inl (.inl hu)), rfl, false, nF rfl, iteF ?_⟩
    refine ⟨.ref u, rfl, u, _, rfl, .inl (.inl hu), rfl, _, _, rfl, _, _, rfl, _, _, rfl, rfl, ?_⟩
    obtain ⟨n, d, o⟩ := r
    obtain ⟨h1, h2, h3⟩ := ok
    refine ⟨_, rfl, (n : Nat), rfl, true, rfl, iteF ?_⟩
    refine ⟨.int (n : Nat), rfl, 0, (n : Nat), rfl, rfl, true, dT (by omega), iteT ?_⟩
    refine ⟨.int (f : Nat), rfl, (n : Nat), (f : Nat), rfl, rfl, true, dT (by exact Int.ofNat_lt.mpr h1), iteF ?_⟩
    refine ⟨_, rfl, _, rfl, (t : Nat), 1, rfl, rfl, (d : Nat), _, rfl, (by have h2' : t < d := h2; omega), true, rfl, iteT ?_⟩
    cases o with
    | none => exact ⟨_, rfl, rfl, true, rfl, iteT q⟩
    | some k =>
      refine ⟨_, rfl, rfl, false, rfl, iteF ?_⟩
      exact ⟨.int (k : Nat), rfl, (k : Nat), rfl, (by have := h3 k rfl; omega), q⟩
def spIsSnap (K : PySem.W.Frag) : Sp := fun vs H Q _ => ∃ (u : Addr) (b : Nat) (ws : List Bool) (t f : Nat) (rs : List RowP), vs = [.ref u] ∧ SnapAt K H u b ws t f rs ∧ SnapOk b ws t f rs ∧ ∀ H', Same H H' → Q (.bl true) H'
theorem ok_is_snapshot {f : Addr} {fd : FuncData} (F : Fun K "is_snapshot" "is_snapshot" s_is_snapshot f fd) (T : Tx K mg) (h0 : Has P w K mg base 1 "is_integer" ["given"] [] spIsInt) (h1 : Has P w K mg base 2 "is_tick" ["given", "least"] [.int 0] spIsTick) (h2 : Has P w K mg base 2 "is_base" ["given"] [] spIsBase)
    (h3 : Has P w K mg base 3 "are_levels" ["given"] [] (spAreLevels K)) (h4 : Has P w K mg base 3 "is_row" ["given", "now", "following"] [] spIsRow) : FnOk P w K mg base CX0 4 f fd ["given"] (spIsSnap K) := by
  obtain ⟨f_is_integer, fd_is_integer, ds_is_integer, G_is_integer, m_is_integer, k_is_integer, b_is_integer, v_is_integer⟩ := h0
  obtain ⟨f_is_tick1, fd_is_tick1, ds_is_tick1, G_is_tick1, m_is_tick1, k_is_tick1, b_is_tick1, v_is_tick1⟩ := h1
  obtain ⟨f_is_base, fd_is_base, ds_is_base, G_is_base, m_is_base, k_is_base, b_is_base, v_is_base⟩ := h2
  obtain ⟨f_are_levels, fd_are_levels, ds_are_levels, G_are_levels, m_are_levels, k_are_levels, b_are_levels, v_are_levels⟩ := h3
  obtain ⟨f_is_row, fd_is_row, ds_is_row, G_is_row, m_is_row, k_is_row, b_is_row, v_is_row⟩ := h4
  refine F.ok sc_is_snapshot (fun vs H Q E h => ?_) (fun cdv A outer s H vs Q E hr h => ?_)
  · obtain ⟨u, b, ws, t, f, rs, rfl, _⟩ := h
    rfl
  · obtain ⟨u, b, ws, t, f, rs, rfl, hS, ok, c⟩ := h
    obtain ⟨q, R, ts, hu, hq, hR, hP⟩ := hS.tup
    obtain ⟨k1, k2, k3, k4, k5, k6, k7⟩ := ok
    have hlen := hP.len
    refine ⟨_, (pss_cons (ps_if (PW.pt (pw_or (pt_not (pt_val (pe_callB (isiK (K := K) rfl) (by rfl) T.b_isinstance (by decide +kernel) (pa_cons (pv 0) (pa_cons (pe_bltn (v := .ty "tuple") (u := .type "tuple") (by rfl) T.b_tuple (by decide +kernel) rfl) pa_nil))))) (pw_or1 (pt_cmpR op_ne (pe_callB (lenK (K := K) rfl) (by rfl) T.b_len PySem.boot_len (pa_cons (pv 0) pa_nil)) pe_int (nomark _)))))
        (pss_one (ps_ret pe_bl))
        pss_nil)
      (pss_cons (ps_asg (pv 0) (pg_tupK (K := K) (n := 5) rfl rfl (pgs_cons (pg_name (i := 1) sc_is_snapshot.nd rfl (.inl rfl)) (pgs_cons (pg_name (i := 2) sc_is_snapshot.nd rfl (.inl rfl)) (pgs_cons (pg_name (i := 3) sc_is_snapshot.nd rfl (.inr rfl)) (pgs_cons (pg_name (i := 4) sc_is_snapshot.nd rfl (.inr rfl)) (pgs_cons (pg_name (i := 5) sc_is_snapshot.nd rfl (.inl rfl)) pgs_nil)))))))
      (pss_cons (ps_if (PW.pt (pw_or (pt_not (pt_val (pe_call G_is_base (hr.mono (by decide)) (by rfl) m_is_base k_is_base b_is_base v_is_base pass0 (pa_cons (pv 1) pa_nil)))) (pw_or (pt_not (pt_val (pe_call G_are_levels hr (by rfl) m_are_levels k_are_levels b_are_levels v_are_levels pass0 (pa_cons (pv 2) pa_nil)))) (pw_or1 (pt_not (pt_val (pe_call G_is_tick1 (hr.mono (by decide)) (by rfl) m_is_tick1 k_is_tick1 b_is_tick1 v_is_tick1 pass0 (pa_cons (pv 3) pa_nil))))))))
        (pss_one (ps_ret pe_bl))
        pss_nil)
      (pss_cons (ps_if (PW.pt (pw_or (pt_not (pt_val (pe_call G_is_integer (hr.mono (by decide)) (by rfl) m_is_integer k_is_integer b_is_integer v_is_integer pass0 (pa_cons (pv 4) pa_nil)))) (pw_or (pt_cmpR op_lt (pv 4) pe_int (nomark _)) (pw_or1 (pt_not (pt_val (pe_callB (isiK (K := K) rfl) (by rfl) T.b_isinstance (by decide +kernel) (pa_cons (pv 5) (pa_cons (pe_bltn (v := .ty "list") (u := .type "list") (by rfl) T.b_list (by decide +kernel) rfl) pa_nil)))))))))
        (pss_one (ps_ret pe_bl))
        pss_nil)
      (pss_cons (ps_if (pt_not (pt_val (pe_callB (allK (K := K) rfl rfl) (by rfl) T.b_all (by decide +kernel) (pa_cons (pe_lc (own := [("row", 6)]) (g := gName 6) (tt := tYes) rfl sc_is_snapshot.nd (pi_list (pv 5)) (blkOk_by (own := [("row", 6)]) (N := N_is_snapshot) (sc := defScope s_is_snapshot) (by decide +kernel)) (fun _ _ _ _ _ => (pg_name (i := 6) sc_is_snapshot.nd rfl (.inl rfl))) (fun _ _ _ _ _ => pts_nil) (fun _ _ _ _ _ => (pe_call G_is_row hr (by rfl) m_is_row k_is_row b_is_row v_is_row pass0 (pa_cons (pv 6) (pa_cons (pv 3) (pa_cons (pv 4) pa_nil)))))) pa_nil))))
        (pss_one (ps_ret pe_bl))
        pss_nil)
      (pss_one (ps_ret (pe_cmpR op_eq (RZ.pe_lenSetI (by rfl) T.b_len (by rfl) T.b_set (pe_lc (own := [("number", 7), ("due", 8), ("period", 9)]) (g := _) (tt := tYes) rfl sc_is_snapshot.nd (pi_list (pv 5)) (blkOk_by (own := [("number", 7), ("due", 8), ("period", 9)]) (N := N_is_snapshot) (sc := defScope s_is_snapshot) (by decide +kernel)) (fun _ _ _ _ _ => (pg_tupK (K := K) (n := 3) rfl rfl (pgs_cons (pg_name (i := 7) sc_is_snapshot.nd rfl (.inl rfl)) (pgs_cons (pg_name (i := 8) sc_is_snapshot.nd rfl (.inl rfl)) (pgs_cons (pg_name (i := 9) sc_is_snapshot.nd rfl (.inl rfl)) pgs_nil))))) (fun _ _ _ _ _ => pts_nil) (fun _ _ _ _ _ => (pv 7)))) (pe_callB (lenK (K := K) rfl) (by rfl) T.b_len PySem.boot_len (pa_cons (pv 5) pa_nil)) (nomark _))))))))), ?_⟩
    refine ⟨.ref u, rfl, _, _, _, _, true, rfl, .ty "tuple", tyx_tup1 hu, kit_ty (by decide +kernel), true, rfl, iteF ?_⟩
    refine ⟨.ref u, rfl, u, _, rfl, .inr (.inl (.inl hu)), rfl, false, nF rfl, iteF ?_⟩
    refine ⟨.ref u, rfl, u, _, rfl, .inl (.inl hu), rfl, _, _, rfl, _, _, rfl, _, _, rfl, _, _, rfl, _, _, rfl, rfl, ?_⟩
    refine ⟨_, rfl, (b : Nat), rfl, by omega, by omega, true, rfl, iteF ?_⟩
    refine ⟨_, rfl, q, ws, rfl, hq, k3, k4, fun H1 s1 => ?_⟩
    refine ⟨true, rfl, iteF ?_⟩
    refine ⟨_, rfl, (t : Nat), 0, rfl, by omega, true, rfl, iteF ?_⟩
    refine ⟨_, rfl, (f : Nat), rfl, true, rfl, iteF ?_⟩
    refine ⟨.int (f : Nat), rfl, (f : Nat), 0, rfl, rfl, false, dF (by omega), iteF ?_⟩
    have hR1 := s1.seq hR
    refine ⟨.ref R, rfl, _, _, _, _, true, rfl, .ty "list", tyx_list hR1, kit_ty (by decide +kernel), true, rfl, iteF ?_⟩
    refine ⟨.ref R, rfl, R, rfl, ⟨_, hR1⟩, fun D hD => lc_list (K := K) (a := R) (xs := ts.map V.ref) (fun i H' => Same H1 H' ∧ H' D = some (.lst ((List.replicate i true).map V.bl)))
      ⟨same_upd hD, upd_same⟩ (fun i H' _ ⟨sm, _⟩ => sm.seq hR1) ?_ ?_⟩
    · rintro i x H' hx ⟨sm, eD⟩
      obtain ⟨a, r, rfl, hr, ha⟩ := hP.item hx
      have hi : i < rs.length := (List.getElem?_eq_some_iff.mp hr).1
      refine ⟨rfl, yesT (iteT ?_)⟩
      refine ⟨_, rfl, _, rfl, _, rfl, a, t, f, r, rfl, sm _ _ (s1 _ _ ha), k5 r (List.mem_of_getElem? hr), _, eD, ?_, fun c o e => ?_, ?_⟩
      · rw [List.length_map, List.length_replicate]
        exact sizeLine_ge (by omega)
      · rw [upd_ne (ne_of_none e hD)]
        exact sm _ _ e
      · rw [upd_same, List.replicate_succ', List.map_append]
        rfl
    · rintro H2 ⟨s2, eD⟩
      refine ⟨D, _, rfl, SqL.of eD, ?_⟩
      have ea : (List.replicate (ts.map V.ref).length true).all id = true := by
        rw [List.all_replicate]
        simp
      rw [ea]
      have hR2 := s2.seq hR1
      refine ⟨true, rfl, iteF ?_⟩
      refine ⟨.ref R, rfl, R, rfl, ⟨_, hR2⟩, fun D2 hD2 => lc_list (K := K) (a := R) (xs := ts.map V.ref) (fun i H3 => Same H2 H3 ∧ H3 D2 = some (.lst ((rs.take i).map fun r => V.int (r.1 : Nat)))) ⟨same_upd hD2, upd_same⟩ (fun i H3 _ ⟨sm, _⟩ => sm.seq hR2) ?_ ?_⟩
      · rintro i x H3 hx ⟨sm, eD2⟩
        obtain ⟨a, r, rfl, hr, ha⟩ := hP.item hx
        refine ⟨a, _, rfl, .inl (.inl (sm _ _ (s2 _ _ (s1 _ _ ha)))), rfl, _, _, rfl, _, _, rfl, _, _, rfl, rfl, rfl, yesT (iteT ?_)⟩
        refine ⟨_, rfl, _, eD2, ?_, fun c o e => ?_, ?_⟩
        · rw [List.length_map, List.length_take]
          exact sizeLine_ge (by omega)
        · rw [upd_ne (ne_of_none e hD2)]
          exact sm _ _ e
        · rw [upd_same, List.take_add_one, hr, List.map_append]
          rfl
      · rintro H3 ⟨s3, eD2⟩
        rw [List.length_map, hlen, List.take_length] at eD2
        have e1 : rs.map (fun r => V.int (r.1 : Nat)) = (rs.map fun r => ((r.1 : Nat) : Int)).map V.int := by
          rw [List.map_map]
          rfl
        rw [e1] at eD2
        have nd : (rs.map fun r => ((r.1 : Nat) : Int)).Nodup := by
          have z : (rs.map (·.1)).Pairwise (· ≠ ·) := k6
          rw [List.pairwise_map] at z
          show (rs.map fun r => ((r.1 : Nat) : Int)).Pairwise (· ≠ ·)
          rw [List.pairwise_map]
          exact z.imp fun h e => h (Int.ofNat.inj e)
        refine ⟨D2, _, rfl, SqL.of eD2, nd, by rw [List.length_map]; omega, .ref R, rfl, R, _, rfl, .inl (s3.seq hR2), ?_⟩
        have el : (V.bl (decide (V.int (((rs.map fun r => ((r.1 : Nat) : Int)).length : Nat) : Int) = V.int (((ts.map V.ref).length : Nat) : Int)))) = V.bl true := dT (by rw [List.length_map, List.length_map, hlen])
        refine ⟨rfl, ?_⟩
        show Q (V.bl (decide (V.int (((rs.map fun r => ((r.1 : Nat) : Int)).length : Nat) : Int) = V.int (((ts.map V.ref).length : Nat) : Int)))) H3
        rw [el]
        exact c H3 (s1.trans (s2.trans s3))
end
/-! ### a wheel made of a snapshot -/
section
variable {P : Program} {w : World} {K : PySem.W.Frag} {mg : Str → Option Value} {base : Heap}
def rowT (t : Nat) (r : RowP) : Tm := ⟨r.1, r.2.1, r.2.2, t⟩
def spRestored (C : Addr) (K : PySem.W.Frag) : Sp := fun vs H Q _ => ∃ (u : Addr) (b : Nat) (ws : List Bool) (t f : Nat) (rs : List RowP), vs = [.ref u] ∧ SnapAt K H u b ws t f rs ∧ SnapOk b ws t f rs ∧
  ∀ H' p q l, Same H H' → H p = none → H q = none → H l = none → WheelAt C H' p q l ⟨b, trimW ws, t, f, rs.map (rowT t)⟩ → Q (.ref p) H'
theorem ok_restored {f C : Addr} {fd : FuncData} (F : Fun K "restored" "restored" s_restored f fd) (TW : TxW K mg C) (hI : HasInit P w K mg base 5 C) (h1 : Has P w K mg base 4 "is_snapshot" ["given"] [] (spIsSnap K)) : FnOk P w K mg base CX0 7 f fd ["snapshot"] (spRestored C K) := by
  obtain ⟨fi, fdi, M_Wheel, G_Wheel_init, b_Wheel_init⟩ := hI
  have c_Wheel := TW.mgC
  have cl_Wheel := TW.cl
  obtain ⟨f_is_snapshot, fd_is_snapshot, ds_is_snapshot, G_is_snapshot, m_is_snapshot, k_is_snapshot, b_is_snapshot, v_is_snapshot⟩ := h1
  refine F.ok sc_restored (fun vs H Q E h => ?_) (fun cdv A outer s H vs Q E hr h => ?_)
  · obtain ⟨u, b, ws, t, f, rs, rfl, _⟩ := h
    rfl
  · obtain ⟨u, b, ws, t, f, rs, rfl, hS, ok, c⟩ := h
    refine ⟨_, (pss_cons (ps_if (pt_not (pt_val (pe_call G_is_snapshot (hr.mono (by decide)) (by rfl) m_is_snapshot k_is_snapshot b_is_snapshot v_is_snapshot pass0 (pa_cons (pv 0) pa_nil))))
        (pss_one ps_never)
        pss_nil)
      (pss_cons (ps_asg (pv 0) (pg_tupK (K := K) (n := 5) rfl rfl (pgs_cons (pg_name (i := 1) sc_restored.nd rfl (.inl rfl)) (pgs_cons (pg_name (i := 2) sc_restored.nd rfl (.inl rfl)) (pgs_cons (pg_name (i := 3) sc_restored.nd rfl (.inr rfl)) (pgs_cons (pg_name (i := 4) sc_restored.nd rfl (.inl rfl)) (pgs_cons (pg_name (i := 5) sc_restored.nd rfl (.inl rfl)) pgs_nil)))))))
      (pss_cons (ps_set (i := 6) sc_restored.nd rfl (.inl rfl) (pe_makeK M_Wheel G_Wheel_init hr (by rfl) c_Wheel b_Wheel_init pass0 (pa_cons (pv 1) (pa_cons (pv 2) pa_nil)) (pk_cons (pv 3) pk_nil)))
      (pss_cons (ps_fld (pv 6) (pv 4) rfl)
      (pss_cons (ps_fld (pv 6) (pe_dc (own := [("number", 7), ("due", 8), ("period", 9)]) (g := _) (tt := tYes) rfl sc_restored.nd (pi_list (pv 5)) (blkOk_by (own := [("number", 7), ("due", 8), ("period", 9)]) (N := N_restored) (sc := defScope s_restored) (by decide +kernel)) (fun _ _ _ _ _ => (pg_tupK (K := K) (n := 3) rfl rfl (pgs_cons (pg_name (i := 7) sc_restored.nd rfl (.inl rfl)) (pgs_cons (pg_name (i := 8) sc_restored.nd rfl (.inl rfl)) (pgs_cons (pg_name (i := 9) sc_restored.nd rfl (.inl rfl)) pgs_nil))))) (fun _ _ _ _ _ => pts_nil) (fun _ _ _ _ _ => (pv 7)) (fun _ _ _ _ _ => (pe_tup (pa_cons (pv 8) (pa_cons (pv 9) (pa_cons (pv 3) pa_nil)))))) rfl)
      (pss_one (ps_ret (pv 6)))))))), ?_⟩
    refine ⟨_, rfl, u, b, ws, t, f, rs, rfl, hS, ok, fun H1 s1 => ⟨true, rfl, iteF ?_⟩⟩
    obtain ⟨q0, R, ts, hu, hq, hR, hP⟩ := (hS.same s1).tup
    obtain ⟨k1, k2, k3, k4, k5, k6, k7⟩ := ok
    have hlen := hP.len
    refine ⟨.ref u, rfl, u, _, rfl, .inl (.inl hu), rfl, _, _, rfl, _, _, rfl, _, _, rfl, _, _, rfl, _, _, rfl, rfl, ?_⟩
    refine ⟨_, rfl, _, rfl, _, rfl, rfl, rfl, fun p dx hpn hdx0 nex => ?_⟩
    have u0 : Same H1 (upd (upd H1 dx (.own p)) p (.ins C dx [])) := fun c o e => by
      rw [upd_ne (ne_of_none e hpn), upd_ne (ne_of_none e hdx0)]
      exact e
    refine ⟨p, dx, q0, b, t, ws, rfl, upd_same, u0.seq hq, k1, k2, k3, k4, fun H2 q l kp hq1 hl1 hw1 => ⟨rfl, ?_⟩⟩
    have a1 : Same H1 H2 := fun c o e => kp _ _ (ne_of_none e hpn) (u0 _ _ e)
    have hq0 := u0.free hq1
    have hl0 := u0.free hl1
    obtain ⟨dx1, hp1⟩ := hw1.ins
    obtain ⟨kv0, hlv, _⟩ := hw1.live
    have nqp : q ≠ p := ne_of hw1.words hp1 (by intro z; cases z)
    refine ⟨_, rfl, _, rfl, p, C, dx1, _, rfl, hp1, TW.cl, TW.nF, by simp [wfl], ?_⟩
    rw [wf_pf]
    have s2 : Same H1 (upd H2 p (.ins C dx1 (wfl b q t f l))) := fun c o e => by
      rw [upd_ne (ne_of_none e hpn)]
      exact a1 _ _ e
    have hp2 := upd_same (H := H2) (a := p) (o := .ins C dx1 (wfl b q t f l))
    have hw2 : (upd H2 p (.ins C dx1 (wfl b q t f l))) q = some (.lst ((trimW ws).map lvV)) := by
      rw [upd_ne nqp]
      exact hw1.words
    generalize upd H2 p (.ins C dx1 (wfl b q t f l)) = H3 at s2 hp2 hw2 ⊢
    have hR3 := s2.seq hR
    refine ⟨.ref R, rfl, R, rfl, ⟨_, hR3⟩, fun D hD => dc_list (K := K) (a := R) (xs := ts.map V.ref) (fun i H' => Same H3 H' ∧ ∃ kvs, H' D = some (.dK kvs) ∧ LiveK H' kvs ((rs.take i).map (rowT t))) ⟨same_upd hD, [], upd_same, trivial⟩ (fun i H' _ ⟨sm, _⟩ => sm.seq hR3) ?_ ?_⟩
    · rintro i x H' hx ⟨sm, kvs, eD, L⟩
      obtain ⟨a, r, rfl, hr, ha⟩ := hP.item hx
      have hi : i < rs.length := (List.getElem?_eq_some_iff.mp hr).1
      have hL := L.len
      rw [List.length_map, List.length_take] at hL
      refine ⟨a, _, rfl, .inl (.inl (sm _ _ (s2 _ _ ha))), rfl, _, _, rfl, _, _, rfl, _, _, rfl, rfl, rfl, yesT (iteT ?_)⟩
      refine ⟨_, rfl, _, rfl, _, rfl, _, rfl, by simp [sizeLine_eq], fun v hv => ?_⟩
      have sv := same_upd (o := .tup (tmV (rowT t r))) hv
      have eD2 := sv _ _ eD
      have L2' := L.same sv
      have hno : ∀ m ∈ (rs.take i).map (rowT t), m.num ≠ r.1 := fun m hm e => by
        obtain ⟨r', hr', rfl⟩ := List.mem_map.mp hm
        obtain ⟨j, hj⟩ := List.getElem?_of_mem hr'
        rw [List.getElem?_take] at hj
        split at hj
        · rename_i hlt
          have z1 : (rs.map (·.1))[j]? = some r.1 := by
            rw [List.getElem?_map, hj]
            exact congrArg some e
          have z2 : (rs.map (·.1))[i]? = some r.1 := by
            rw [List.getElem?_map, hr]
            rfl
          have z := (List.getElem?_inj (List.getElem?_eq_some_iff.mp z1).1 k6).mp (z1.trans z2.symm)
          omega
        · cases hj
      have hvn := L2'.val_not hno
      refine ⟨kvs, Sum.inl (r.1 : Int), rfl, eD2, by rw [hL]; exact sizeLine_ge (by omega), fun c o e => ?_, _, upd_same, ?_⟩
      · rw [upd_ne (ne_of_none e hD)]
        exact sv _ _ (sm _ _ e)
      · rw [putK_new _ hvn, List.take_add_one, hr, Option.toList_some, List.map_append]
        refine LiveK.upd eD2 (fun xs z => by cases z) (L2'.snoc (m := rowT t r) rfl ?_)
        exact upd_same
    · rintro H4 ⟨s3, kvs, eD, L⟩
      rw [List.length_map, hlen, List.take_length] at L
      have hp4 := s3 _ _ hp2
      refine ⟨_, rfl, p, C, dx1, _, rfl, hp4, TW.cl, TW.nL, by simp [wfl], ?_⟩
      rw [wf_pl]
      have nDp : D ≠ p := ne_of eD hp4 (by intro z; cases z)
      have s4 : Same H1 (upd H4 p (.ins C dx1 (wfl b q t f D))) := fun c o e => by
        rw [upd_ne (ne_of_none e hpn)]
        exact s3 _ _ (s2 _ _ e)
      refine ⟨_, rfl, c _ p q D (s1.trans s4) (s1.free hpn) (s1.free hq0) (s1.free (s2.free hD)) ⟨⟨dx1, upd_same⟩, ?_, ⟨kvs, ?_, ?_⟩⟩⟩
      · rw [upd_ne nqp]
        exact s3 _ _ hw2
      · rw [upd_ne nDp]
        exact eD
      · exact L.frame fun t' m e => by
          rw [upd_ne (ne_of e hp4 (by intro z; cases z))]
          exact e
end
/-! ### snapshots -/
section
variable {P : Program} {w : World} {K : PySem.W.Frag} {mg : Str → Option Value} {base : Heap}
theorem nm_restoring {b : Nat} {q : Addr} {t f : Nat} {l : Addr} : (wfl b q t f l).lookup ("restoring" : Str) = none := wf_no (by decide +kernel) (by decide +kernel) (by decide +kernel) (by decide +kernel) (by decide +kernel)
def rowOf (m : Tm) : RowP := (m.num, m.due, m.per)
def spSnapshot (C : Addr) : Sp := fun vs H Q _ => ∃ (p q l : Addr) (W : WS), vs = [.ref p] ∧ WheelAt C H p q l W ∧ WOk W ∧
  ∀ H' u q' R ts cs, Same H H' → H u = none → H q' = none → H R = none → H' u = some (.tup [.int (W.b : Nat), .ref q', .int (W.tick : Nat), .int (W.fol : Nat), .ref R]) → H' q' = some (.lst (W.ws.map lvV)) → H' R = some (.lst (ts.map V.ref)) →
    RpAt H' ts ((toldT W.b W.ws W.tick W.live (cs.map (·.1))).map rowOf) → IsLists W.b W.ws W.tick W.live cs → Q (.ref u) H'
theorem ok_snapshot {f C : Addr} {fd : FuncData} (F : Fun K "snapshot" "Wheel.snapshot" s_Wheel_snapshot f fd) (T : Tx K mg) (TW : TxW K mg C) (m1 : HasM P w K mg base 6 C "restoring" ["self"] [] (spRestoring C)) : FnOk P w K mg base CX0 7 f fd ["self"] (spSnapshot C) := by
  have cl_Wheel := TW.cl
  obtain ⟨g1, gd1, gs1, G_Wheel_restoring, M_Wheel_restoring, b_Wheel_restoring, v_Wheel_restoring⟩ := m1
  refine F.ok sc_Wheel_snapshot (fun vs H Q E h => ?_) (fun cdv A outer s H vs Q E hr h => ?_)
  · obtain ⟨p, q, l, W, rfl, _⟩ := h
    rfl
  · obtain ⟨p, q, l, W, rfl, hw, ok, c⟩ := h
    have hu := hu_of hr
    obtain ⟨dx, hp⟩ := hw.ins
    refine ⟨_, (pss_cons (ps_setLc (i := 1) (own := [("number", 2), ("due", 3)]) (g := _) (tt := tYes) rfl sc_Wheel_snapshot.nd rfl rfl (sw_true rfl rfl rfl (by decide +kernel)) (pi_list (pe_meth0 (pv 0) cl_Wheel M_Wheel_restoring G_Wheel_restoring hr b_Wheel_restoring v_Wheel_restoring pass0)) (blkOk_by (own := [("number", 2), ("due", 3)]) (N := N_Wheel_snapshot) (sc := defScope s_Wheel_snapshot) (by decide +kernel)) (fun _ _ _ _ _ => (pg_tupK (K := K) (n := 2) rfl rfl (pgs_cons (pg_name (i := 2) sc_Wheel_snapshot.nd rfl (.inl rfl)) (pgs_cons (pg_name (i := 3) sc_Wheel_snapshot.nd rfl (.inl rfl)) pgs_nil)))) (fun _ _ _ _ _ => pts_nil) (fun _ _ _ _ _ => (pe_tup (pa_cons (pv 2) (pa_cons (pv 3) (pa_cons (pe_ix (ix_tupK (K := K) rfl) (pe_dget hu (pe_fldK (K := K) rfl (pv 0) rfl) (pv 2) (fun _ _ => rfl)) pe_int (fun _ _ => rfl)) pa_nil))))))
      (pss_one (ps_ret (pe_tup (pa_cons (pe_fld (pv 0) rfl) (pa_cons (pe_callTy call_list_of (by rfl) T.b_list (by decide +kernel) (pa_cons (pe_fld (pv 0) rfl) pa_nil)) (pa_cons (pe_fld (pv 0) rfl) (pa_cons (pe_fld (pv 0) rfl) (pa_cons (pv 1) pa_nil))))))))), ?_⟩
    have hd : ∀ m ∈ W.live, W.tick < m.due := fun m hm => (ok.tms m hm).due
    refine ⟨_, rfl, p, dx, _, rfl, hp, nm_restoring, p, q, l, W, rfl, hw, ok, fun H1 R ts cs s1 hR0 eR hP hI => ?_⟩
    have hw1 := hw.same s1
    obtain ⟨kvs, hl1, L1⟩ := hw1.live
    have hp1 := s1 _ _ hp
    obtain ⟨k1, k2⟩ := hI.keys hd
    obtain ⟨ml, eml⟩ : ∃ ml, ml = toldT W.b W.ws W.tick W.live (cs.map (·.1)) := ⟨_, rfl⟩
    have hpm : ml.Perm W.live := by
      rw [eml]
      exact told_perm k1 k2
    rw [← eml] at hP
    have hPl := hP.len
    rw [List.length_map] at hPl
    have hml : ml.length ≤ 1000 := by
      rw [hpm.length_eq]
      exact ok.few
    refine ⟨R, rfl, ⟨_, SqL.of eR⟩, fun D hD => lc_list (K := K) (a := R) (xs := ts.map V.ref) (fun j H2 => Same H1 H2 ∧ ∃ us : List Addr, H2 D = some (.lst (us.map V.ref)) ∧ RpAt H2 us ((ml.take j).map rowOf)) ⟨same_upd hD, [], upd_same, trivial⟩ (fun j H2 _ ⟨sm, _⟩ => SqL.of (sm _ _ eR)) ?_ ?_⟩
    · rintro j x H2 hx ⟨sm, us, eD, hU⟩
      obtain ⟨t, r, rfl, hr', ht⟩ := hP.item hx
      rw [List.getElem?_map] at hr'
      obtain ⟨m, hm, rfl⟩ : ∃ m, ml[j]? = some m ∧ r = rowND m := by
        cases e : ml[j]? with
        | none =>
          rw [e] at hr'
          cases hr'
        | some m =>
          rw [e] at hr'
          exact ⟨m, rfl, (Option.some.inj hr').symm⟩
      have hml' : m ∈ W.live := hpm.mem_iff.mp (List.mem_of_getElem? hm)
      obtain ⟨tt, hval, htt⟩ := L1.val_of ok.nd hml'
      have hj : j < ml.length := (List.getElem?_eq_some_iff.mp hm).1
      have hUl := hU.len
      rw [List.length_map, List.length_take] at hUl
      have hl2 := sm _ _ hl1
      have g := DGet.k (k := Sum.inl ((m.num : Nat) : Int)) hl2
      rw [hval] at g
      refine ⟨t, _, rfl, .inl (.inl (sm _ _ ht)), rfl, _, _, rfl, _, _, rfl, rfl, rfl, yesT (iteT ?_)⟩
      refine ⟨_, rfl, _, rfl, _, rfl, p, C, dx, _, _, rfl, sm _ _ hp1, TW.cl, TW.nL, wf_l, _, rfl, l, .ref tt, rfl, g, tt, _, 1, _, rfl, rfl, .inl (.inl (sm _ _ htt)), atI_nat (j := 1) rfl, by simp [sizeLine_eq], fun u hu0 => ?_⟩
      have su := same_upd (o := .tup (rowPV (rowOf m))) hu0
      have eDu := su _ _ eD
      refine ⟨_, eDu, ?_, fun c o e => ?_, us ++ [u], ?_, ?_⟩
      · rw [List.length_map]
        exact sizeLine_ge (by omega)
      · rw [upd_ne (ne_of_none e hD)]
        exact su _ _ (sm _ _ e)
      · rw [upd_same, List.map_append]
        rfl
      · rw [List.take_add_one, hm, Option.toList_some, List.map_append]
        have kt : ∀ t' xs, H2 t' = some (.tup xs) → (upd (upd H2 u (.tup (rowPV (rowOf m)))) D (.lst (us.map V.ref ++ [.ref u]))) t' = some (.tup xs) := fun t' xs e => by
          rw [upd_ne (ne_of (su _ _ e) eDu (by intro z; cases z))]
          exact su _ _ e
        refine (hU.frame kt).snoc (r := rowOf m) ?_
        rw [upd_ne (ne_of upd_same eDu (by intro z; cases z))]
        exact upd_same
    · rintro H2 ⟨s2, us, eD, hU⟩
      rw [List.length_map, hPl, List.take_length] at hU
      have hw2 := hw1.same s2
      have hp2 := s2 _ _ hp1
      refine ⟨_, rfl, p, C, dx, _, _, rfl, hp2, TW.cl, TW.nB, wf_b, ?_⟩
      refine ⟨_, rfl, p, C, dx, _, _, rfl, hp2, TW.cl, TW.nW, wf_w, q, _, rfl, .inl (SqL.of hw2.words), fun q' hq' => ?_⟩
      have s3 := same_upd (o := .lst (W.ws.map lvV)) hq'
      have hp3 := s3 _ _ hp2
      refine ⟨_, rfl, p, C, dx, _, _, rfl, hp3, TW.cl, TW.nT, wf_t, ?_⟩
      refine ⟨_, rfl, p, C, dx, _, _, rfl, hp3, TW.cl, TW.nF, wf_f, ?_⟩
      refine ⟨_, rfl, by simp [sizeLine_eq], fun u hu0 => ?_⟩
      have s4 := same_upd (o := .tup [.int (W.b : Nat), .ref q', .int (W.tick : Nat), .int (W.fol : Nat), .ref D]) hu0
      have s12 := s1.trans s2
      have s34 := s3.trans s4
      refine c _ u q' D us cs (s12.trans s34) (s12.free (s3.free hu0)) (s12.free hq') (s1.free hD) upd_same (s4 _ _ upd_same) (s34 _ _ eD) ?_ hI
      rw [← eml]
      exact hU.same s34
end
/-! ### the law's levels -/
section
variable {P : Program} {w : World} {K : PySem.W.Frag} {mg : Str → Option Value} {base : Heap}
def spLawLevel : Sp := fun vs H Q _ => ∃ b n d : Nat, vs = [.int (b : Nat), .int (n : Nat), .int (d : Nat)] ∧ 2 ≤ b ∧ b ≤ 64 ∧ n < d ∧ d < 2 ^ 250 ∧ ∀ k, IsLev b n d k → Q (.int (k : Nat)) H
theorem ok_law_level {f : Addr} {fd : FuncData} (F : Fun K "_law_level" "_law_level" s__law_level f fd)  : FnOk P w K mg base CX0 1 f fd ["_law_base_here", "_law_now", "_law_due"] spLawLevel := by
  refine F.ok sc__law_level (fun vs H Q E h => ?_) (fun cdv A outer s H vs Q E hr h => ?_)
  · obtain ⟨b, n, d, rfl, _⟩ := h
    rfl
  · obtain ⟨b, n, d, rfl, hb, hb64, hnd, hd, c⟩ := h
    have cb : ∀ x : Nat, NDiv x b := fun x => ndiv 7 (by omega) (by omega)
    have hb0 : 0 < b := by omega
    refine ⟨_, (pss_cons (ps_set (i := 3) sc__law_level.nd rfl (.inl rfl) pe_int)
      (pss_cons (ps_set (i := 4) sc__law_level.nd rfl (.inl rfl) pe_int)
      (pss_cons (ps_while PassesOwn.never (pt_cmpR op_ne (pv 1) (pv 2) (nomark _))
        (pss_cons (ps_if (pt_cmpR op_ne (pe_op op_remN (pv 1) (pv 0)) (pe_op op_remN (pv 2) (pv 0)) (nomark _))
          (pss_one (ps_set (i := 3) sc__law_level.nd rfl (.inl rfl) (pv 4)))
          pss_nil)
        (pss_cons (ps_set (i := 1) sc__law_level.nd rfl (.inl rfl) (pe_op op_divN (pv 1) (pv 0)))
        (pss_cons (ps_set (i := 2) sc__law_level.nd rfl (.inl rfl) (pe_op op_divN (pv 2) (pv 0)))
        (pss_one (ps_set (i := 4) sc__law_level.nd rfl (.inl rfl) (pe_op op_addN (pv 4) pe_int)))))))
      (pss_one (ps_ret (pv 3)))))), ?_⟩
    refine while_by (fun σ H' => ∃ j g : Nat, σ = [some (.int (b : Nat)), some (.int ((n / b ^ j : Nat) : Int)), some (.int ((d / b ^ j : Nat) : Int)), some (.int (g : Nat)), some (.int (j : Nat))] ∧ H' = H ∧ (∀ i, i < j → n / b ^ i ≠ d / b ^ i) ∧ ∀ i, j = i + 1 → n / b ^ j = d / b ^ j → g = i)
      (fun σ _ => slotInt σ 2) ⟨0, 0, ?_, rfl, fun j hj => absurd hj (Nat.not_lt_zero j), fun i e => by omega⟩ ?_ ?_
    · rw [Nat.pow_zero, Nat.div_one, Nat.div_one]
      rfl
    · rintro σ H' ⟨j, g, rfl, rfl, hj, hg⟩
      by_cases he : n / b ^ j = d / b ^ j
      · refine ⟨_, rfl, _, rfl, rfl, false, nF (vE he), iteF ?_⟩
        have hk0 : j ≠ 0 := fun z => by
          rw [z, Nat.pow_zero, Nat.div_one, Nat.div_one] at he
          omega
        obtain ⟨i, rfl⟩ : ∃ i, j = i + 1 := ⟨j - 1, by omega⟩
        have z := c i ⟨he, fun x hx => hj (x + 1) (by omega)⟩
        rw [← hg i rfl he] at z
        exact ⟨_, rfl, z⟩
      · have h2 : n / b ^ j ≤ d / b ^ j := Nat.div_le_div_right (Nat.le_of_lt hnd)
        have hpos : 0 < d / b ^ j := pos_of h2 he
        have hlt : d / b ^ j / b < d / b ^ j := Nat.div_lt_self hpos (by omega)
        refine ⟨_, rfl, _, rfl, rfl, true, nT (vN he), iteT ?_⟩
        have less : (((d / b ^ j / b : Nat) : Int)).toNat < (((d / b ^ j : Nat) : Int)).toNat := by
          rw [Int.toNat_natCast, Int.toNat_natCast]
          exact hlt
        have fin : ∀ g' : Nat, (n / b ^ j / b = d / b ^ j / b → g' = j) → ∃ j' g2 : Nat, ([some (.int (b : Nat)), some (.int ((n / b ^ j / b : Nat) : Int)), some (.int ((d / b ^ j / b : Nat) : Int)), some (.int (g' : Nat)), some (.int ((j + 1 : Nat) : Int))] : L2.St) = [some (.int (b : Nat)), some (.int ((n / b ^ j' : Nat) : Int)), some (.int ((d / b ^ j' : Nat) : Int)), some (.int (g2 : Nat)), some (.int (j' : Nat))] ∧ H' = H' ∧ (∀ i, i < j' → n / b ^ i ≠ d / b ^ i) ∧ ∀ i, j' = i + 1 → n / b ^ j' = d / b ^ j' → g2 = i := by
          intro g' hg'
          refine ⟨j + 1, g', ?_, rfl, fun i hi => ?_, fun i e z => ?_⟩
          · rw [div_succ, div_succ]
          · by_cases e : i = j
            · rw [e]
              exact he
            · exact hj i (by omega)
          · have e2 : j = i := by omega
            rw [div_succ, div_succ] at z
            rw [hg' z, e2]
        by_cases h0 : n / b ^ j % b = d / b ^ j % b
        · refine ⟨_, rfl, _, rfl, n / b ^ j, b, rfl, rfl, hb0, _, rfl, _, rfl, d / b ^ j, b, rfl, rfl, hb0, rfl, false, nF (vE h0), iteF ?_⟩
          refine ⟨_, rfl, _, rfl, n / b ^ j, b, rfl, rfl, cb _, _, rfl, _, rfl, d / b ^ j, b, rfl, rfl, cb _, _, rfl, j, 1, rfl, rfl, trivial, ⟨fin g fun z => ?_, less⟩⟩
          have e1 := Nat.div_add_mod (n / b ^ j) b
          have e2 := Nat.div_add_mod (d / b ^ j) b
          rw [z, h0] at e1
          exact absurd (e1.symm.trans e2) he
        · refine ⟨_, rfl, _, rfl, n / b ^ j, b, rfl, rfl, hb0, _, rfl, _, rfl, d / b ^ j, b, rfl, rfl, hb0, rfl, true, nT (vN h0), iteT ⟨_, rfl, ?_⟩⟩
          exact ⟨_, rfl, _, rfl, n / b ^ j, b, rfl, rfl, cb _, _, rfl, _, rfl, d / b ^ j, b, rfl, rfl, cb _, _, rfl, j, 1, rfl, rfl, trivial, ⟨fin j fun _ => rfl, less⟩⟩
    · rintro σ H' Q1 Q2 h ⟨x, hx, y, hy, hs, k, e, z⟩
      exact ⟨x, hx, y, hy, hs, k, e, h _ _ z⟩
end
/-! ### the law's digits and zeros -/
theorem zer_low {b e : Nat} (hb : 2 ≤ b) : ∀ j, (∀ i, i < j → e / b ^ i % b = 0) → e % b ^ j = 0
  | 0, _ => by rw [Nat.pow_zero, Nat.mod_one]
  | j + 1, h => by
    have ih := zer_low hb j fun i hi => h i (by omega)
    have h1 := h j (Nat.lt_succ_self j)
    have e1 := cut_step b e j
    rw [h1, Nat.zero_mul, Nat.add_zero] at e1
    have e2 : e / b ^ j * b ^ j = e := Nat.div_mul_cancel (Nat.dvd_of_mod_eq_zero ih)
    rw [e2] at e1
    rw [e1]
    exact Nat.mul_mod_left _ _
theorem zer_small {b e h t : Nat} (hb : 2 ≤ b) (z : IsZer b e h) (he : e < 2 ^ t) : h < t := by
  have h0 : 0 < e / b ^ h := by
    refine Nat.pos_of_ne_zero fun c => z.dig ?_
    rw [c, Nat.zero_mod]
  have h1 : b ^ h ≤ e := (Nat.div_pos_iff.mp h0).2
  exact (Nat.pow_lt_pow_iff_right (by decide : 1 < 2)).mp (Nat.lt_of_le_of_lt (Nat.le_trans (pow_two_le hb h) h1) he)
section
variable {P : Program} {w : World} {K : PySem.W.Frag} {mg : Str → Option Value} {base : Heap}
def spDigit : Sp := fun vs H Q _ => ∃ b t k : Nat, vs = [.int (b : Nat), .int (t : Nat), .int (k : Nat)] ∧ 2 ≤ b ∧ b ≤ 64 ∧ k ≤ 1000 ∧ Q (.int ((t / b ^ k % b : Nat) : Int)) H
theorem ok_law_digit {f : Addr} {fd : FuncData} (F : Fun K "_law_digit" "_law_digit" s__law_digit f fd) (T : Tx K mg) : FnOk P w K mg base CX0 1 f fd ["_law_base_here", "_law_tick_here", "_law_level_here"] spDigit := by
  refine F.ok sc__law_digit (fun vs H Q E h => ?_) (fun cdv A outer s H vs Q E hr h => ?_)
  · obtain ⟨b, t, k, rfl, _⟩ := h
    rfl
  · obtain ⟨b, t, k, rfl, hb, hb64, hk, q⟩ := h
    have cb : ∀ x : Nat, NDiv x b := fun x => ndiv 7 (by omega) (by omega)
    refine ⟨_, (pss_cons (ps_for PassesOwn.never rfl (pi_range1 (by rfl) T.b_range (pa_cons (pv 2) pa_nil)) (pg_name (i := 3) sc__law_digit.nd rfl (.inl rfl))
        (pss_one (ps_set (i := 1) sc__law_digit.nd rfl (.inl rfl) (pe_op op_divN (pv 1) (pv 0)))))
      (pss_one (ps_ret (pe_op op_remN (pv 1) (pv 0))))), ?_⟩
    refine ⟨_, rfl, _, rfl, by omega, by omega, for_range (Pv := fun i σ H' => H' = H ∧ ∃ y, σ = [some (.int (b : Nat)), some (.int ((t / b ^ i : Nat) : Int)), some (.int (k : Nat)), y]) ⟨rfl, none, ?_⟩ ?_ ?_⟩
    · rw [Nat.pow_zero, Nat.div_one]
      rfl
    · rintro i σ H' hi ⟨rfl, y, rfl⟩
      refine ⟨_, rfl, _, rfl, _, _, rfl, rfl, cb _, rfl, some (.int (0 + (i : Int))), ?_⟩
      rw [div_succ]
      rfl
    · rintro σ H' ⟨rfl, y, rfl⟩
      exact ⟨_, rfl, _, rfl, t / b ^ k, b, rfl, rfl, (by show 0 < b; omega), q⟩
def spZeros : Sp := fun vs H Q _ => ∃ b t : Nat, vs = [.int (b : Nat), .int (t : Nat)] ∧ 2 ≤ b ∧ b ≤ 64 ∧ 0 < t ∧ ∀ h, IsZer b t h → Q (.int (h : Nat)) H
theorem ok_law_zeros {f : Addr} {fd : FuncData} (F : Fun K "_law_zeros" "_law_zeros" s__law_zeros f fd)  : FnOk P w K mg base CX0 1 f fd ["_law_base_here", "_law_tick_here"] spZeros := by
  refine F.ok sc__law_zeros (fun vs H Q E h => ?_) (fun cdv A outer s H vs Q E hr h => ?_)
  · obtain ⟨b, t, rfl, _⟩ := h
    rfl
  · obtain ⟨b, t, rfl, hb, hb64, ht, c⟩ := h
    have hb0 : 0 < b := by omega
    have cb : ∀ x : Nat, NDiv x b := fun x => ndiv 7 (by omega) (by omega)
    refine ⟨_, (pss_cons (ps_set (i := 2) sc__law_zeros.nd rfl (.inl rfl) pe_int)
      (pss_cons (ps_while PassesOwn.never (pt_cmpR op_eq (pe_op op_remN (pv 1) (pv 0)) pe_int (nomark _))
        (pss_cons (ps_set (i := 1) sc__law_zeros.nd rfl (.inl rfl) (pe_op op_divN (pv 1) (pv 0)))
        (pss_one (ps_set (i := 2) sc__law_zeros.nd rfl (.inl rfl) (pe_op op_addN (pv 2) pe_int)))))
      (pss_one (ps_ret (pv 2))))), ?_⟩
    refine while_by (fun σ H' => ∃ j : Nat, σ = [some (.int (b : Nat)), some (.int ((t / b ^ j : Nat) : Int)), some (.int (j : Nat))] ∧ H' = H ∧ 0 < t / b ^ j ∧ ∀ i, i < j → t / b ^ i % b = 0) (fun σ _ => slotInt σ 1) ⟨0, ?_, rfl, ?_, fun i hi => absurd hi (Nat.not_lt_zero i)⟩ ?_ ?_
    · rw [Nat.pow_zero, Nat.div_one]
      rfl
    · rw [Nat.pow_zero, Nat.div_one]
      exact ht
    · rintro σ H' ⟨j, rfl, rfl, hj, hz⟩
      by_cases h0 : t / b ^ j % b = 0
      · have hlt : t / b ^ j / b < t / b ^ j := Nat.div_lt_self hj (by omega)
        refine ⟨_, rfl, _, rfl, t / b ^ j, b, rfl, rfl, hb0, rfl, true, dT (vE h0), iteT ?_⟩
        refine ⟨_, rfl, _, rfl, t / b ^ j, b, rfl, rfl, cb _, _, rfl, j, 1, rfl, rfl, trivial, ⟨j + 1, ?_, rfl, ?_, fun i hi => ?_⟩, ?_⟩
        · rw [div_succ]
          rfl
        · rw [div_succ]
          have e := Nat.div_add_mod (t / b ^ j) b
          refine Nat.pos_of_ne_zero fun z => ?_
          rw [z, h0, Nat.mul_zero] at e
          omega
        · by_cases e : i = j
          · rw [e]
            exact h0
          · exact hz i (by omega)
        · show (((t / b ^ j / b : Nat) : Int)).toNat < (((t / b ^ j : Nat) : Int)).toNat
          rw [Int.toNat_natCast, Int.toNat_natCast]
          exact hlt
      · refine ⟨_, rfl, _, rfl, t / b ^ j, b, rfl, rfl, hb0, rfl, false, dF (vN h0), iteF ?_⟩
        exact ⟨_, rfl, c j ⟨zer_low hb j hz, h0⟩⟩
    · rintro σ H' Q1 Q2 h ⟨x, hx, y, hy, a1, a2, e1, e2, e3, hs, k, e, z⟩
      exact ⟨x, hx, y, hy, a1, a2, e1, e2, e3, hs, k, e, h _ _ z⟩
end
/-! ### the law puts a timer into its list -/
theorem set_both {k : List Key} {kvs : List (List Key × V)} {el : Addr} {H H' : Hp} {Q : V → Hp → Prop} (I : Addr → Hp → Prop) (h : ∀ p H, I p H → Q (.ref p) H) (c1 : ∀ v, valV kvs k = some v → ∃ p, v = .ref p ∧ I p H) (c2 : valV kvs k = none → I el H') :
    (∀ v, valV kvs k = some v → Q v H) ∧ (valV kvs k = none → Q (.ref el) H') := ⟨fun v hv => by
  obtain ⟨p, e, i⟩ := c1 v hv
  rw [e]
  exact h p H i, fun hn => h _ _ (c2 hn)⟩
theorem valV_app {k : List Key} {v : V} : ∀ {kvs : List (List Key × V)}, valV kvs k = none → valV (kvs ++ [(k, v)]) k = some v
  | [], _ => valV_pos rfl
  | kv :: kvs, h => by
    by_cases e : kv.1 = k
    · rw [valV_pos e] at h
      cases h
    · rw [valV_neg e] at h
      show valV (kv :: (kvs ++ [(k, v)])) k = some v
      rw [valV_neg e]
      exact valV_app h
section
variable {P : Program} {w : World} {K : PySem.W.Frag} {mg : Str → Option Value} {base : Heap}
def spPlace (K : PySem.W.Frag) : Sp := fun vs H Q _ => ∃ (a q t : Addr) (b n : Nat) (ws : List Bool) (m : Tm) (cs : List LCell) (ps : List Addr), vs = [.ref a, .int (b : Nat), .ref q, .int (n : Nat), .ref t] ∧ 2 ≤ b ∧ b ≤ 64 ∧ SqL K H q (ws.map lvV) ∧ ws ≠ [] ∧
  H t = some (.tup (lrowV m)) ∧ n < m.due ∧ m.due < 2 ^ 250 ∧ LW H a cs ps ∧ cs.length ≤ 100000 ∧ (gv cs (placeT b n m.due)).length ≤ 100000 ∧
  ∀ H' ps', Lk a ps H H' ps' → LW H' a (lplace b ws n cs m) ps' → Q .non H'
theorem ok_law_place {f : Addr} {fd : FuncData} (F : Fun K "_law_place" "_law_place" s__law_place f fd) (T : Tx K mg) (h1 : Has P w K mg base 1 "_law_level" ["_law_base_here", "_law_now", "_law_due"] [] spLawLevel)
    (h2 : Has P w K mg base 1 "_law_digit" ["_law_base_here", "_law_tick_here", "_law_level_here"] [] spDigit) : FnOk P w K mg base CX0 2 f fd ["_law_lists", "_law_base_here", "_law_levels_here", "_law_now", "_law_row"] (spPlace K) := by
  obtain ⟨f__law_level, fd__law_level, ds__law_level, G__law_level, m__law_level, k__law_level, b__law_level, v__law_level⟩ := h1
  obtain ⟨f__law_digit, fd__law_digit, ds__law_digit, G__law_digit, m__law_digit, k__law_digit, b__law_digit, v__law_digit⟩ := h2
  refine F.ok sc__law_place (fun vs H Q E h => ?_) (fun cdv A outer s H vs Q E hr h => ?_)
  · obtain ⟨a, q, t, b, n, ws, m, cs, ps, rfl, _⟩ := h
    rfl
  · obtain ⟨a, q, t, b, n, ws, m, cs, ps, rfl, hb, hb64, hL, hne, ht, hnd, hd, hW, few, few2, c⟩ := h
    have hu := hu_of hr
    have g1 : atI (lrowV m) 1 = some (.int (m.due : Nat)) := atI_nat (j := 1) rfl
    refine ⟨_, (pss_cons (ps_set (i := 5) sc__law_place.nd rfl (.inl rfl) (pe_call G__law_level hr (by rfl) m__law_level k__law_level b__law_level v__law_level pass0 (pa_cons (pv 1) (pa_cons (pv 3) (pa_cons (pe_ix (ix_tupK (K := K) rfl) (pv 4) pe_int (fun _ _ => rfl)) pa_nil)))))
      (pss_cons (ps_set (i := 6) sc__law_place.nd rfl (.inl rfl) (pe_tup (pa_cons (pv 5) (pa_cons (pe_call G__law_digit hr (by rfl) m__law_digit k__law_digit b__law_digit v__law_digit pass0 (pa_cons (pv 1) (pa_cons (pe_ix (ix_tupK (K := K) rfl) (pv 4) pe_int (fun _ _ => rfl)) (pa_cons (pv 5) pa_nil)))) pa_nil))))
      (pss_cons (ps_set (i := 7) sc__law_place.nd rfl (.inl rfl) (pe_bm PySem.F.plainAttrs_dict PySem.F.slot_dict_setdefault PySem.F.type_dict_setdefault (mt_setT hu) (pv 0) (pa_cons (pv 6) (pa_cons (pe_lst pa_nil) pa_nil))))
      (pss_one (ps_if (pt_cmpR op_eq (pe_ix (ix_listK (K := K) rfl) (pv 2) (pe_callB (call_min2 rfl) (by rfl) T.b_min (by decide +kernel) (pa_cons (pv 5) (pa_cons (pe_op op_subN (pe_callB (lenK (K := K) rfl) (by rfl) T.b_len PySem.boot_len (pa_cons (pv 2) pa_nil)) pe_int) pa_nil))) (fun _ _ => rfl)) pe_str (nomark _))
        (pss_one (ps_expr (pe_bm PySem.F.plainAttrs_list PySem.F.slot_list_insert PySem.F.type_list_insert mt_insert (pv 7) (pa_cons pe_int (pa_cons (pv 4) pa_nil)))))
        (pss_one (ps_expr (pe_bm PySem.F.plainAttrs_list PySem.F.slot_list_append PySem.F.type_list_append mt_append (pv 7) (pa_cons (pv 4) pa_nil))))))))), ?_⟩
    refine ⟨_, rfl, _, rfl, .ref t, rfl, t, _, 1, _, rfl, rfl, .inl (.inl ht), g1, b, n, m.due, rfl, hb, hb64, hnd, hd, fun k hk => ?_⟩
    have hk250 : k < 250 := lev_small hk hb hnd hd
    refine ⟨_, rfl, _, rfl, .ref t, rfl, t, _, 1, _, rfl, rfl, .inl (.inl ht), g1, _, rfl, b, m.due, k, rfl, hb, hb64, by omega, by simp [sizeLine_eq], fun pk hpk => ?_⟩
    have eplace : placeT b n m.due = (k, m.due / b ^ k % b) := by
      unfold placeT
      rw [levT_eq hk]
    have s1 := same_upd (o := .tup [.int (k : Nat), .int ((m.due / b ^ k % b : Nat) : Int)]) hpk
    have epk : (upd H pk (.tup [.int (k : Nat), .int ((m.due / b ^ k % b : Nat) : Int)])) pk = some (.tup ((keyC (placeT b n m.due)).map kV)) := by
      rw [upd_same, eplace]
      rfl
    have hW1 := hW.same s1
    have hL1 := s1.seq hL
    have ht1 := s1 _ _ ht
    generalize upd H pk (.tup [.int (k : Nat), .int ((m.due / b ^ k % b : Nat) : Int)]) = H1 at s1 epk hW1 hL1 ht1 ⊢
    generalize eK : placeT b n m.due = kk at epk few2 eplace
    obtain ⟨kvs, hd1, hc1⟩ := hW1.dict
    refine ⟨.ref a, rfl, .inr (.inr (.inl ⟨rfl, .inr ⟨kvs, hd1⟩⟩)), .ref pk, rfl, by simp [sizeLine_eq], fun el hel => ?_⟩
    have s2 := same_upd (o := .lst []) hel
    have eel : (upd H1 el (.lst [])) el = some (.lst []) := upd_same
    have hW2 := hW1.same s2
    have hL2 := s2.seq hL1
    have ht2 := s2 _ _ ht1
    have epk2 := s2 _ _ epk
    generalize upd H1 el (.lst []) = H2 at s2 eel hW2 hL2 ht2 epk2 ⊢
    have hd2 := s2 _ _ hd1
    have hc2 := hc1.frame (fun _ _ e => s2 _ _ e) fun _ _ _ e => s2 _ _ e
    have nae : el ≠ a := fun z => by
      rw [z, hd1] at hel
      cases hel
    have nep : el ∉ ps := fun hm => by
      obtain ⟨ts, z⟩ := hc1.lst el hm
      rw [hel] at z
      cases z
    have hpos : 0 < ws.length := List.length_pos_iff.mpr hne
    have hpm : 1 ≤ (ws.map lvV).length := by
      rw [List.length_map]
      exact hpos
    have gw := word_get hne k
    have hwk : wordAt ws kk.1 = wordAt ws k := by rw [eplace]
    have hlen : kvs.length < sizeLine := by
      rw [hc1.len]
      exact sizeLine_ge (by omega)
    refine ⟨a, kvs, keyC kk, pk, .ref el, rfl, rfl, hd2, epk2, hlen, set_both (I := fun p H3 => ∃ (ps3 ts : List Addr) (kv3 : List (List Key × V)) (cs3 : List LCell), Lk a ps H H3 ps3 ∧ H3 a = some (.dT kv3) ∧ LCells H3 kv3 cs3 ps3 ∧ ps3.Nodup ∧ (cs3.map (·.1)).Nodup ∧ valV kv3 (keyC kk) = some (.ref p) ∧
        H3 p = some (.lst (ts.map V.ref)) ∧ LRows H3 ts (gv cs kk) ∧ SqL K H3 q (ws.map lvV) ∧ H3 t = some (.tup (lrowV m)) ∧ ∀ l, (cs3.map fun c => if c.1 = kk then (c.1, l) else c) = lput cs kk l) ?_ ?_ ?_⟩
    · rintro p H3 ⟨ps3, ts, kv3, cs3, lk, hd3, hc3, nd3, nk3, hv, hp, hR, hL3, ht3, hput⟩
      refine ⟨.ref q, rfl, _, rfl, .ref q, rfl, q, _, rfl, .inl hL3, (ws.map lvV).length, 1, rfl, rfl, hpm, k, _, rfl, q, _, ((min k (ws.length - 1) : Nat) : Int), _, rfl, congrArg V.int ?_, hL3, atI_nat gw, ?_⟩
      · dsimp only
        rw [List.length_map]
        split <;> omega
      have fin : ∀ (w : Bool), wordAt ws k = w → Q .non (upd H3 p (.lst ((if w then t :: ts else ts ++ [t]).map V.ref))) := fun w hw => by
        have hpp : p ∈ ps3 := by
          have hm : kk ∈ cs3.map (·.1) := Classical.byContradiction fun no => by
            have z : keyC kk ∉ kv3.map (·.1) := fun y => by
              rw [hc3.keys] at y
              obtain ⟨c', hc, ec⟩ := List.mem_map.mp y
              exact no (List.mem_map.mpr ⟨c', hc, keyC_inj.mp ec⟩)
            rw [keyC_not z] at hv
            cases hv
          obtain ⟨p', hp', _, b1, _⟩ := hc3.at hm
          rw [← V.ref.inj (Option.some.inj (b1.symm.trans hv))]
          exact hp'
        have npa : p ≠ a := fun z => by
          rw [z, hd3] at hp
          cases hp
        have hR2 := (hR.frame (H' := upd H3 p (.lst ((if w then t :: ts else ts ++ [t]).map V.ref))) fun t' xs e => by
          rw [upd_ne (ne_of e hp (by intro z; cases z))]
          exact e).ins (t := t) (m := m) (by rw [upd_ne (ne_of ht3 hp (by intro z; cases z))]; exact ht3) w
        have hc4 := hc3.set (k := kk) (H' := upd H3 p (.lst ((if w then t :: ts else ts ++ [t]).map V.ref))) (fun t' xs e => by rw [upd_ne (ne_of e hp (by intro z; cases z))]; exact e) (fun q' o n _ e => by rw [upd_ne n]; exact e) upd_same hR2 nd3 nk3 hv
        rw [hput] at hc4
        have lk2 : Lk a ps H (upd H3 p (.lst ((if w then t :: ts else ts ++ [t]).map V.ref))) ps3 := lk.trans ⟨fun c o n1 n2 e => by rw [upd_ne fun z => n2 (by rw [z]; exact hpp)]; exact e, fun p' hp' => .inl hp', fun c e => upd_none e⟩
        refine c _ ps3 lk2 ⟨⟨kv3, by rw [upd_ne (Ne.symm npa)]; exact hd3, ?_⟩, nd3, ?_⟩
        · unfold lplace
          rw [eK, hwk, hw]
          exact hc4
        · exact lput_keys hW.nk
      cases hw : wordAt ws k with
      | true =>
        refine ⟨rfl, true, rfl, iteT ?_⟩
        refine ⟨.ref p, rfl, .inl ⟨rfl, _, SqL.of hp⟩, .ref t, rfl, p, _, 0, _, rfl, rfl, hp, ?_, by omega, by omega, ?_⟩
        · rw [List.length_map, hR.len]
          exact sizeLine_ge (by omega)
        · have z := fin true hw
          exact z
      | false =>
        refine ⟨rfl, false, rfl, iteF ?_⟩
        refine ⟨.ref p, rfl, .inl ⟨rfl, _, SqL.of hp⟩, .ref t, rfl, p, _, _, rfl, rfl, hp, ?_, ?_⟩
        · rw [List.length_map, hR.len]
          exact sizeLine_ge (by omega)
        · have z := fin false hw
          rw [if_neg Bool.false_ne_true, List.map_append] at z
          exact z
    · intro v hv
      have hm : kk ∈ cs.map (·.1) := Classical.byContradiction fun no => by
        have z : keyC kk ∉ kvs.map (·.1) := fun y => by
          rw [hc1.keys] at y
          obtain ⟨c', hc, ec⟩ := List.mem_map.mp y
          exact no (List.mem_map.mpr ⟨c', hc, keyC_inj.mp ec⟩)
        rw [keyC_not z] at hv
        cases hv
      obtain ⟨p, hp, ts, b1, b2, b3⟩ := hc2.at hm
      refine ⟨p, Option.some.inj (hv.symm.trans b1), ps, ts, kvs, cs, .ofSame (s1.trans s2), hd2, hc2, hW.nd, hW.nk, b1, b2, b3, hL2, ht2, fun l => ?_⟩
      unfold lput
      rw [if_pos hm]
    · intro hv
      have hm : kk ∉ cs.map (·.1) := fun hm => by
        obtain ⟨p, _, _, b1, _⟩ := hc2.at hm
        rw [hv] at b1
        cases b1
      have hput2 : putK kvs (keyC kk) (.ref el) = kvs ++ [(keyC kk, .ref el)] := by
        unfold putK
        rw [if_neg]
        intro z
        obtain ⟨kv, hkv, ekv⟩ := List.any_eq_true.mp z
        have y : keyC kk ∈ kvs.map (·.1) := List.mem_map.mpr ⟨kv, hkv, of_decide_eq_true ekv⟩
        rw [hc1.keys] at y
        obtain ⟨c', hc, ec⟩ := List.mem_map.mp y
        exact hm (List.mem_map.mpr ⟨c', hc, keyC_inj.mp ec⟩)
      have k3 : ∀ c o, c ≠ a → H2 c = some o → (upd H2 a (.dT (putK kvs (keyC kk) (.ref el)))) c = some o := fun c o n e => by
        rw [upd_ne n]
        exact e
      have eel3 := k3 el _ nae eel
      have tup3 : ∀ t' xs, H2 t' = some (.tup xs) → (upd H2 a (.dT (putK kvs (keyC kk) (.ref el)))) t' = some (.tup xs) := fun t' xs e => k3 _ _ (ne_of e hd2 (by intro z; cases z)) e
      have hc3 := (hc2.frame (H' := upd H2 a (.dT (putK kvs (keyC kk) (.ref el)))) tup3 fun p hp o e => k3 p o (fun z => hW.ne (by rw [← z]; exact hp)) e).snoc (k := kk) (p := el) (ts := []) (l := []) eel3 trivial
      refine ⟨ps ++ [el], [], putK kvs (keyC kk) (.ref el), cs ++ [(kk, [])], ⟨fun c o n1 n2 e => k3 c o n1 ((s1.trans s2) _ _ e), fun p hp => ?_, fun c e => (s1.trans s2).free (upd_none e)⟩, upd_same, ?_, L2.nd_snoc hW.nd nep, ?_, ?_, eel3, ?_, ?_, tup3 _ _ ht2, fun l => ?_⟩
      · rcases List.mem_append.mp hp with z | z
        · exact .inl z
        · rw [List.mem_singleton.mp z]
          exact .inr (s1.free hel)
      · rw [hput2]
        rw [hput2] at hc3
        exact hc3
      · rw [List.map_append]
        exact L2.nd_snoc hW.nk hm
      · rw [hput2]
        exact valV_app hv
      · rw [gv_none hm]
        exact trivial
      · rcases hL2 with (e | ⟨o, e⟩) | e
        · exact .inl (.inl (k3 _ _ (ne_of e hd2 (by intro z; cases z)) e))
        · exact .inl (.inr ⟨o, k3 _ _ (ne_of e hd2 (by intro z; cases z)) e⟩)
        · exact .inr e
      · unfold lput
        rw [if_neg hm, List.map_append]
        have e1 : (cs.map fun c => if c.1 = kk then (c.1, l) else c) = cs := by
          have z : ∀ c ∈ cs, (if c.1 = kk then (c.1, l) else c) = c := fun c hc => if_neg fun y => hm (List.mem_map.mpr ⟨c, hc, y⟩)
          rw [List.map_congr_left (g := id) z, List.map_id]
        rw [e1]
        show cs ++ [if kk = kk then (kk, l) else (kk, [])] = _
        rw [if_pos rfl]
end
/-! ### the law lets one tick pass -/
theorem pop_both {a : Addr} {k : List Key} {kvs : List (List Key × V)} {el : Addr} {H : Hp} {Q : V → Hp → Prop} (I : Addr → Hp → Prop) (h : ∀ p H, I p H → Q (.ref p) H) (c1 : ∀ v, valV kvs k = some v → ∃ p, v = .ref p ∧ I p (upd H a (.dT (dropK kvs k)))) (c2 : valV kvs k = none → I el H) :
    (∀ v, valV kvs k = some v → Q v (upd H a (.dT (dropK kvs k)))) ∧ (valV kvs k = none → Q (.ref el) H) := ⟨fun v hv => by
  obtain ⟨p, e, i⟩ := c1 v hv
  rw [e]
  exact h p _ i, fun hn => h _ _ (c2 hn)⟩
theorem place_len {b : Nat} {ws : List Bool} {t : Nat} : ∀ (l : List Tm) (cs : List LCell), (l.foldl (lplace b ws t) cs).length ≤ cs.length + l.length
  | [], cs => Nat.le_refl _
  | m :: l, cs => by
    have ih := place_len (b := b) (ws := ws) (t := t) l (lplace b ws t cs m)
    have z : (lplace b ws t cs m).length ≤ cs.length + 1 := lput_len _ _ _
    rw [List.foldl_cons, List.length_cons]
    omega
theorem insfold_len (w : Bool) : ∀ (l : List Tm) (r : List Tm), (l.foldl (fun a m => insM w m a) r).length = r.length + l.length
  | [], r => rfl
  | m :: l, r => by
    rw [List.foldl_cons, insfold_len w l, ins_len, List.length_cons]
    omega
theorem place_gv_len {b : Nat} {ws : List Bool} {t : Nat} {p : Nat × Nat} (l : List Tm) (cs : List LCell) : (gv (l.foldl (lplace b ws t) cs) p).length ≤ (gv cs p).length + l.length := by
  rw [gv_places, insfold_len]
  have z := List.length_filter_le (fun m : Tm => decide (placeT b t m.due = p)) l
  omega
theorem drop_gv_len (cs : List LCell) (k p : Nat × Nat) : (gv (ldrop cs k) p).length ≤ (gv cs p).length := by
  rw [gv_drop]
  split
  · exact Nat.zero_le _
  · exact Nat.le_refl _
theorem LW.words {K : PySem.W.Frag} {H H' : Hp} {a q : Addr} {cs : List LCell} {ps ps' : List Addr} {ws : List Bool} (h : LW H a cs ps) (lk : Lk a ps H H' ps') (hne : ws ≠ []) (hL : SqL K H q (ws.map lvV)) : SqL K H' q (ws.map lvV) := by
  obtain ⟨kvs, h1, _⟩ := h.dict
  have n1 : ∀ o, H q = some o → (∀ xs, o ≠ .lst (List.map V.ref xs)) → (∀ k, o ≠ .dT k) → H' q = some o := fun o e n1 n2 => by
    refine lk.keep q o (fun z => ?_) (fun hm => ?_) e
    · rw [z, h1] at e
      exact n2 _ (Option.some.inj e).symm
    · obtain ⟨ts, z⟩ := h.lists q hm
      rw [e] at z
      exact n1 ts (Option.some.inj z)
  have n2 : ∀ xs : List Addr, ws.map lvV ≠ xs.map V.ref := fun xs e => by
    cases ws with
    | nil => exact hne rfl
    | cons x ws =>
      cases xs with
      | nil => cases e
      | cons y xs =>
        have z := (List.cons.inj e).1
        cases x <;> cases z
  rcases hL with (e | ⟨o, e⟩) | e
  · exact .inl (.inl (n1 _ e (fun xs z => n2 xs (HO.lst.inj z)) fun k z => by cases z))
  · exact .inl (.inr ⟨o, n1 _ e (fun xs z => by cases z) fun k z => by cases z⟩)
  · exact .inr e
theorem filter_take {p : Tm → Bool} {l : List Tm} {i : Nat} {m : Tm} (h : l[i]? = some m) : (l.take (i + 1)).filter p = (l.take i).filter p ++ if p m = true then [m] else [] := by
  rw [List.take_add_one, h, Option.toList_some, List.filter_append]
  congr 1
  by_cases c : p m = true
  · rw [if_pos c, List.filter_cons_of_pos c]
    rfl
  · rw [if_neg c, List.filter_cons_of_neg c]
    rfl
section
variable {P : Program} {w : World} {K : PySem.W.Frag} {mg : Str → Option Value} {base : Heap}
def spPass (K : PySem.W.Frag) : Sp := fun vs H Q _ => ∃ (a q : Addr) (b e h : Nat) (ws : List Bool) (cs : List LCell) (ps : List Addr), vs = [.ref a, .int (b : Nat), .ref q, .int (e : Nat)] ∧ 2 ≤ b ∧ b ≤ 64 ∧ SqL K H q (ws.map lvV) ∧ ws ≠ [] ∧ IsZer b e h ∧ e < 2 ^ 250 ∧ LW H a cs ps ∧ cs.length ≤ 10000 ∧ (∀ p, (gv cs p).length ≤ 10000) ∧
  (∀ m ∈ gv cs (keyE b e h), e ≤ m.due ∧ m.due < 2 ^ 250 ∧ (m.due = e → ∀ k, m.per = some k → 1 ≤ k ∧ e + k < 2 ^ 250)) ∧
  ∀ H' ps' r, Lk a ps H H' ps' → LW H' a (lpass b ws e h cs) ps' → H r = none → r ≠ a → r ∉ ps' → H' r = some (.lst (((gv cs (keyE b e h)).filter fun m => decide (m.due = e)).map fun m => V.int (m.num : Nat))) → Q (.ref r) H'
theorem ok_law_pass {f : Addr} {fd : FuncData} (F : Fun K "_law_pass" "_law_pass" s__law_pass f fd) (h0 : Has P w K mg base 1 "_law_zeros" ["_law_base_here", "_law_tick_here"] [] spZeros)
    (h2 : Has P w K mg base 1 "_law_digit" ["_law_base_here", "_law_tick_here", "_law_level_here"] [] spDigit) (h3 : Has P w K mg base 2 "_law_place" ["_law_lists", "_law_base_here", "_law_levels_here", "_law_now", "_law_row"] [] (spPlace K)) : FnOk P w K mg base CX0 3 f fd ["_law_lists", "_law_base_here", "_law_levels_here", "_law_tick_here"] (spPass K) := by
  obtain ⟨f__law_zeros, fd__law_zeros, ds__law_zeros, G__law_zeros, m__law_zeros, k__law_zeros, b__law_zeros, v__law_zeros⟩ := h0
  obtain ⟨f__law_digit, fd__law_digit, ds__law_digit, G__law_digit, m__law_digit, k__law_digit, b__law_digit, v__law_digit⟩ := h2
  obtain ⟨f__law_place, fd__law_place, ds__law_place, G__law_place, m__law_place, k__law_place, b__law_place, v__law_place⟩ := h3
  refine F.ok sc__law_pass (fun vs H Q E h => ?_) (fun cdv A outer s H vs Q E hr hh => ?_)
  · obtain ⟨a, q, b, e, h, ws, cs, ps, rfl, _⟩ := h
    rfl
  · obtain ⟨a, q, b, e, h, ws, cs, ps, rfl, hb, hb64, hL, hne, hz, hbig, hW, few, few2, hms, c⟩ := hh
    have hu := hu_of hr
    have he0 : 0 < e := Nat.pos_of_ne_zero fun z => hz.dig (by rw [z, Nat.zero_div, Nat.zero_mod])
    have hh250 : h < 250 := zer_small hb hz hbig
    refine ⟨_, (pss_cons (ps_set (i := 4) sc__law_pass.nd rfl (.inl rfl) (pe_call G__law_zeros (hr.mono (by decide)) (by rfl) m__law_zeros k__law_zeros b__law_zeros v__law_zeros pass0 (pa_cons (pv 1) (pa_cons (pv 3) pa_nil))))
      (pss_cons (ps_set (i := 5) sc__law_pass.nd rfl (.inl rfl) (pe_bm PySem.F.plainAttrs_dict PySem.F.slot_dict_pop PySem.F.type_dict_pop (L2.DX.mt_popT hu) (pv 0) (pa_cons (pe_tup (pa_cons (pv 4) (pa_cons (pe_call G__law_digit (hr.mono (by decide)) (by rfl) m__law_digit k__law_digit b__law_digit v__law_digit pass0 (pa_cons (pv 1) (pa_cons (pv 3) (pa_cons (pv 4) pa_nil)))) pa_nil))) (pa_cons (pe_lst pa_nil) pa_nil))))
      (pss_cons (ps_for PassesOwn.never rfl (pi_list (pv 5)) (pg_name (i := 6) sc__law_pass.nd rfl (.inl rfl))
        (pss_one (ps_if (pt_cmpR op_ne (pe_ix (ix_tupK (K := K) rfl) (pv 6) pe_int (fun _ _ => rfl)) (pv 3) (nomark _))
          (pss_one (ps_expr (pe_call G__law_place hr (by rfl) m__law_place k__law_place b__law_place v__law_place pass0 (pa_cons (pv 0) (pa_cons (pv 1) (pa_cons (pv 2) (pa_cons (pv 3) (pa_cons (pv 6) pa_nil))))))))
          pss_nil)))
      (pss_cons (ps_setLc (i := 7) (own := [("_law_row", 6)]) (g := gName 6)  rfl sc__law_pass.nd rfl rfl (sw_true rfl rfl rfl (by decide +kernel)) (pi_list (pv 5)) (blkOk_by (own := [("_law_row", 6)]) (N := N__law_pass) (sc := defScope s__law_pass) (by decide +kernel)) (fun _ _ _ _ _ => (pg_name (i := 6) sc__law_pass.nd rfl (.inl rfl))) (fun _ _ _ _ _ => (pts_one (pt_cmpR op_eq (pe_ix (ix_tupK (K := K) rfl) (pv 6) pe_int (fun _ _ => rfl)) (pv 3) (nomark _)))) (fun _ _ _ _ _ => (pv 6)))
      (pss_cons (ps_for PassesOwn.never rfl (pi_list (pv 7)) (pg_tupK (K := K) (n := 3) rfl rfl (pgs_cons (pg_name (i := 8) sc__law_pass.nd rfl (.inl rfl)) (pgs_cons (pg_name (i := 9) sc__law_pass.nd rfl (.inl rfl)) (pgs_cons (pg_name (i := 10) sc__law_pass.nd rfl (.inl rfl)) pgs_nil))))
        (pss_one (ps_if (pt_cmpR op_notN (pv 10) pe_non (nomark _))
          (pss_one (ps_expr (pe_call G__law_place hr (by rfl) m__law_place k__law_place b__law_place v__law_place pass0 (pa_cons (pv 0) (pa_cons (pv 1) (pa_cons (pv 2) (pa_cons (pv 3) (pa_cons (pe_tup (pa_cons (pv 8) (pa_cons (pe_op op_addN (pv 3) (pv 10)) (pa_cons (pv 10) pa_nil)))) pa_nil))))))))
          pss_nil)))
      (pss_one (ps_ret (pe_lc (own := [("_law_row", 6)]) (g := gName 6) (tt := tYes) rfl sc__law_pass.nd (pi_list (pv 7)) (blkOk_by (own := [("_law_row", 6)]) (N := N__law_pass) (sc := defScope s__law_pass) (by decide +kernel)) (fun _ _ _ _ _ => (pg_name (i := 6) sc__law_pass.nd rfl (.inl rfl))) (fun _ _ _ _ _ => pts_nil) (fun _ _ _ _ _ => (pe_ix (ix_tupK (K := K) rfl) (pv 6) pe_int (fun _ _ => rfl))))))))))), ?_⟩
    refine ⟨_, rfl, _, rfl, b, e, rfl, hb, hb64, he0, fun h' hz' => ?_⟩
    obtain rfl : h' = h := zer_uniq hz' hz
    obtain ⟨kvs, hd, hc⟩ := hW.dict
    refine ⟨.ref a, rfl, .inr (.inr (.inl ⟨rfl, .inr ⟨kvs, hd⟩⟩)), _, rfl, _, rfl, _, rfl, _, rfl, b, e, h', rfl, hb, hb64, by omega, by simp [sizeLine_eq], fun pk hpk => ?_⟩
    have s1 := same_upd (o := .tup [.int (h' : Nat), .int ((e / b ^ h' % b : Nat) : Int)]) hpk
    have epk : (upd H pk (.tup [.int (h' : Nat), .int ((e / b ^ h' % b : Nat) : Int)])) pk = some (.tup ((keyC (keyE b e h')).map kV)) := by
      rw [upd_same]
      rfl
    generalize upd H pk (.tup [.int (h' : Nat), .int ((e / b ^ h' % b : Nat) : Int)]) = H1 at s1 epk ⊢
    refine ⟨by simp [sizeLine_eq], fun el hel => ?_⟩
    have s2 := same_upd (o := .lst []) hel
    have eel : (upd H1 el (.lst [])) el = some (.lst []) := upd_same
    have epk2 := s2 _ _ epk
    have s12 := s1.trans s2
    generalize upd H1 el (.lst []) = H2 at s2 s12 eel epk2 ⊢
    have hd2 := s12 _ _ hd
    have hc2 := hc.frame (fun _ _ e => s12 _ _ e) fun _ _ _ e => s12 _ _ e
    have heln := s1.free hel
    generalize eL : gv cs (keyE b e h') = L at hms c
    have hLl : L.length ≤ 10000 := by
      rw [← eL]
      exact few2 _
    refine ⟨a, kvs, keyC (keyE b e h'), pk, .ref el, rfl, rfl, hd2, epk2, pop_both (I := fun p H3 => ∃ (ps3 ts : List Addr), Lk a ps H H3 ps3 ∧ LW H3 a (ldrop cs (keyE b e h')) ps3 ∧ p ∉ ps3 ∧ p ≠ a ∧ H3 p = some (.lst (ts.map V.ref)) ∧ LRows H3 ts L) ?_ ?_ ?_⟩
    · rintro p H3 ⟨ps3, ts, lk3, hW3, np3, npa, hp3, hR3⟩
      -- those that go on
      refine ⟨_, rfl, p, rfl, ⟨_, SqL.of hp3⟩, for_list (K := K) (a := p) (xs := ts.map V.ref) (fun i σ H' => ∃ (ps4 : List Addr) (y6 y7 y8 y9 y10 : Option V), σ = [some (.ref a), some (.int (b : Nat)), some (.ref q), some (.int (e : Nat)), some (.int (h' : Nat)), some (.ref p), y6, y7, y8, y9, y10] ∧ Lk a ps3 H3 H' ps4 ∧ LW H' a (((L.take i).filter fun m => decide (m.due ≠ e)).foldl (lplace b ws e) (ldrop cs (keyE b e h'))) ps4)
        ⟨ps3, none, none, none, none, none, rfl, .ofSame fun _ _ e => e, hW3⟩ (fun i σ H' _ ⟨_, _, _, _, _, _, _, lk, _⟩ => SqL.of (lk.keep _ _ npa np3 hp3)) ?_ ?_⟩
      · rintro i x σ H' hx ⟨ps4, y6, y7, y8, y9, y10, rfl, lk4, hW4⟩
        obtain ⟨t, m, rfl, hts, hm, ht⟩ := hR3.get hx
        have hmL := hms m (List.mem_of_getElem? hm)
        have tup4 : ∀ t' xs, H3 t' = some (.tup xs) → H' t' = some (.tup xs) := fun t' xs e => lk4.keep _ _ (fun z => by
          obtain ⟨kv, y, _⟩ := hW3.dict
          rw [z, y] at e
          cases e) (fun z => by
          obtain ⟨ts', y⟩ := hW3.lists _ z
          rw [y] at e
          cases e) e
        have ht4 := tup4 _ _ ht
        have g1 : atI (lrowV m) 1 = some (.int (m.due : Nat)) := atI_nat (j := 1) rfl
        by_cases c1 : m.due = e
        · refine ⟨.ref t, rfl, t, _, 1, _, rfl, rfl, .inl (.inl ht4), g1, _, rfl, rfl, false, nF (vE c1), iteF ?_⟩
          refine ⟨ps4, some (.ref t), y7, y8, y9, y10, rfl, lk4, ?_⟩
          rw [filter_take hm, if_neg (by simpa using c1), List.append_nil]
          exact hW4
        · refine ⟨.ref t, rfl, t, _, 1, _, rfl, rfl, .inl (.inl ht4), g1, _, rfl, rfl, true, nT (vN c1), iteT ?_⟩
          have hlt : (L.take i).length ≤ 10000 := by
            rw [List.length_take]
            omega
          have hfl := Nat.le_trans (List.length_filter_le (fun m : Tm => decide (m.due ≠ e)) (L.take i)) hlt
          refine ⟨_, rfl, _, rfl, _, rfl, _, rfl, _, rfl, a, q, t, b, e, ws, m, _, ps4, rfl, hb, hb64, hW3.words lk4 hne (hW.words lk3 hne hL), hne, ht4, by omega, hmL.2.1, hW4, ?_, ?_, fun H5 ps5 lk5 hW5 => ?_⟩
          · have z1 := place_len (b := b) (ws := ws) (t := e) ((L.take i).filter fun m => decide (m.due ≠ e)) (ldrop cs (keyE b e h'))
            have z2 := ldrop_len cs (keyE b e h')
            omega
          · have z1 := place_gv_len (b := b) (ws := ws) (t := e) (p := placeT b e m.due) ((L.take i).filter fun m => decide (m.due ≠ e)) (ldrop cs (keyE b e h'))
            have z2 := drop_gv_len cs (keyE b e h') (placeT b e m.due)
            have z3 := few2 (placeT b e m.due)
            omega
          · refine ⟨ps5, some (.ref t), y7, y8, y9, y10, rfl, lk4.trans lk5, ?_⟩
            rw [filter_take hm, if_pos (by simpa using c1), List.foldl_append]
            exact hW5
      · rintro σ H4 ⟨ps4, y6, y7, y8, y9, y10, rfl, lk4, hW4⟩
        rw [List.length_map, hR3.len, List.take_length] at hW4
        have hp4 := lk4.keep _ _ npa np3 hp3
        have np4 : p ∉ ps4 := fun hm => by
          rcases lk4.new p hm with z | z
          · exact np3 z
          · rw [hp3] at z
            cases z
        have hR4 := hR3.frame (H' := H4) fun t' xs e => lk4.keep _ _ (fun z => by
          obtain ⟨kv, y, _⟩ := hW3.dict
          rw [z, y] at e
          cases e) (fun z => by
          obtain ⟨ts', y⟩ := hW3.lists _ z
          rw [y] at e
          cases e) e
        have lk04 := lk3.trans lk4
        have g1 : ∀ m : Tm, atI (lrowV m) 1 = some (.int (m.due : Nat)) := fun m => atI_nat (j := 1) rfl
        have g0 : ∀ m : Tm, atI (lrowV m) 0 = some (.int (m.num : Nat)) := fun m => atI_nat (j := 0) rfl
        -- those that fire
        refine ⟨_, rfl, p, rfl, ⟨_, SqL.of hp4⟩, fun D hD => lc_list (K := K) (a := p) (xs := ts.map V.ref) (fun i H' => Same H4 H' ∧ ∃ fs : List Addr, H' D = some (.lst (fs.map V.ref)) ∧ LRows H' fs ((L.take i).filter fun m => decide (m.due = e)))
          ⟨same_upd hD, [], upd_same, trivial⟩ (fun i H' _ ⟨sm, _⟩ => SqL.of (sm _ _ hp4)) ?_ ?_⟩
        · rintro i x H' hx ⟨sm, fs, eD, hF⟩
          obtain ⟨t, m, rfl, hts, hm, ht⟩ := hR4.get hx
          have ht5 := sm _ _ ht
          have hfl : fs.length ≤ 10000 := by
            rw [hF.len]
            refine Nat.le_trans (List.length_filter_le _ _) ?_
            rw [List.length_take]
            omega
          refine ⟨rfl, .ref t, rfl, t, _, 1, _, rfl, rfl, .inl (.inl ht5), g1 m, _, rfl, rfl, ?_⟩
          by_cases c1 : m.due = e
          · refine ⟨true, dT (vE c1), iteT ?_⟩
            refine ⟨_, rfl, _, eD, ?_, fun c o e' => ?_, fs ++ [t], ?_, ?_⟩
            · rw [List.length_map]
              exact sizeLine_ge (by omega)
            · rw [upd_ne (ne_of_none e' hD)]
              exact sm _ _ e'
            · rw [upd_same, List.map_append]
              rfl
            · rw [filter_take hm, if_pos (by simpa using c1)]
              refine (hF.app (ts' := [t]) (ms' := [m]) ⟨ht5, trivial⟩).frame fun t' xs e' => ?_
              rw [upd_ne (ne_of e' eD (by intro z; cases z))]
              exact e'
          · refine ⟨false, dF (vN c1), iteF ⟨sm, fs, eD, ?_⟩⟩
            rw [filter_take hm, if_neg (by simpa using c1), List.append_nil]
            exact hF
        · rintro H5 ⟨s5, fs, eD, hF⟩
          rw [List.length_map, hR3.len, List.take_length] at hF
          have hW5 := hW4.same s5
          have nDa : D ≠ a := fun z => by
            obtain ⟨kv, y, _⟩ := hW4.dict
            rw [← z, hD] at y
            cases y
          have nDp : D ∉ ps4 := fun hm => by
            obtain ⟨ts', y⟩ := hW4.lists _ hm
            rw [hD] at y
            cases y
          have hFl : (L.filter fun m => decide (m.due = e)).length ≤ 10000 := Nat.le_trans (List.length_filter_le _ _) hLl
          have hAl : (L.filter fun m => decide (m.due ≠ e)).length ≤ 10000 := Nat.le_trans (List.length_filter_le _ _) hLl
          generalize eF : (L.filter fun m => decide (m.due = e)) = Fs at hF c hFl
          generalize eC : (L.filter fun m => decide (m.due ≠ e)).foldl (lplace b ws e) (ldrop cs (keyE b e h')) = c4 at hW4 hW5
          have hc4 : c4.length ≤ 20000 ∧ ∀ p, (gv c4 p).length ≤ 20000 := by
            rw [← eC]
            refine ⟨?_, fun p => ?_⟩
            · have z1 := place_len (b := b) (ws := ws) (t := e) (L.filter fun m => decide (m.due ≠ e)) (ldrop cs (keyE b e h'))
              have z2 := ldrop_len cs (keyE b e h')
              omega
            · have z1 := place_gv_len (b := b) (ws := ws) (t := e) (p := p) (L.filter fun m => decide (m.due ≠ e)) (ldrop cs (keyE b e h'))
              have z2 := drop_gv_len cs (keyE b e h') p
              have z3 := few2 p
              omega
          -- those that are set again
          refine ⟨_, rfl, D, rfl, ⟨_, SqL.of eD⟩, for_list (K := K) (a := D) (xs := fs.map V.ref) (fun i σ H' => ∃ (ps6 : List Addr) (y6 y8 y9 y10 : Option V), σ = [some (.ref a), some (.int (b : Nat)), some (.ref q), some (.int (e : Nat)), some (.int (h' : Nat)), some (.ref p), y6, some (.ref D), y8, y9, y10] ∧ Lk a ps4 H5 H' ps6 ∧ LW H' a (((Fs.take i).filterMap (againM e)).foldl (lplace b ws e) c4) ps6)
            ⟨ps4, y6, y8, y9, y10, rfl, .ofSame fun _ _ e => e, hW5⟩ (fun i σ H' _ ⟨_, _, _, _, _, _, lk, _⟩ => SqL.of (lk.keep _ _ nDa nDp eD)) ?_ ?_⟩
          · rintro i x σ H' hx ⟨ps6, z6, z8, z9, z10, rfl, lk6, hW6⟩
            obtain ⟨t, m, rfl, hts, hm, ht⟩ := hF.get hx
            have hmF : m ∈ Fs := List.mem_of_getElem? hm
            rw [← eF] at hmF
            obtain ⟨hmL0, hdue⟩ := List.mem_filter.mp hmF
            have hdue : m.due = e := of_decide_eq_true hdue
            have hmL := hms m hmL0
            have ht6 := lk6.keep t _ (fun z => by
              obtain ⟨kv, y, _⟩ := hW5.dict
              rw [z, y] at ht
              cases ht) (fun z => by
              obtain ⟨ts', y⟩ := hW5.lists _ z
              rw [y] at ht
              cases ht) ht
            have hstep : (Fs.take (i + 1)).filterMap (againM e) = (Fs.take i).filterMap (againM e) ++ (againM e m).toList := by
              rw [List.take_add_one, hm, Option.toList_some, List.filterMap_append]
              congr 1
            refine ⟨t, _, rfl, .inl (.inl ht6), rfl, _, _, rfl, _, _, rfl, _, _, rfl, rfl, ?_⟩
            cases ep : m.per with
            | none =>
              refine ⟨_, rfl, rfl, false, rfl, iteF ?_⟩
              refine ⟨ps6, z6, some (.int (m.num : Nat)), some (.int (m.due : Nat)), some .non, rfl, lk6, ?_⟩
              have ea : againM e m = none := by
                unfold againM
                rw [ep]
                rfl
              rw [hstep, ea]
              show LW H' a ((_ ++ []).foldl _ c4) ps6
              rw [List.append_nil]
              exact hW6
            | some k =>
              obtain ⟨hk1, hkb⟩ := hmL.2.2 hdue k ep
              refine ⟨_, rfl, rfl, true, rfl, iteT ?_⟩
              refine ⟨_, rfl, _, rfl, _, rfl, _, rfl, _, rfl, _, rfl, _, rfl, e, k, rfl, rfl, trivial, _, rfl, by simp [sizeLine_eq], fun tn htn => ?_⟩
              have s7 := same_upd (o := .tup [.int (m.num : Nat), .int ((e + k : Nat) : Int), .int (k : Nat)]) htn
              have etn : (upd H' tn (.tup [.int (m.num : Nat), .int ((e + k : Nat) : Int), .int (k : Nat)])) tn = some (.tup (lrowV ⟨m.num, e + k, some k, e⟩)) := upd_same
              have hW7 := hW6.same s7
              have lk7 := lk6.trans (.ofSame s7)
              have hfl : ((Fs.take i).filterMap (againM e)).length ≤ 10000 := by
                refine Nat.le_trans (List.length_filterMap_le _ _) ?_
                rw [List.length_take]
                omega
              refine ⟨a, q, tn, b, e, ws, ⟨m.num, e + k, some k, e⟩, _, ps6, rfl, hb, hb64, ?_, hne, etn, Nat.lt_add_of_pos_right hk1, hkb, hW7, ?_, ?_, fun H8 ps8 lk8 hW8 => ?_⟩
              · exact hW5.words lk7 hne (s5.seq (hW.words lk04 hne hL))
              · have z1 := place_len (b := b) (ws := ws) (t := e) ((Fs.take i).filterMap (againM e)) c4
                have z2 := hc4.1
                omega
              · have z1 := place_gv_len (b := b) (ws := ws) (t := e) (p := placeT b e (e + k)) ((Fs.take i).filterMap (againM e)) c4
                have z2 := hc4.2 (placeT b e (e + k))
                show (gv _ (placeT b e (e + k))).length ≤ _
                omega
              · refine ⟨ps8, z6, some (.int (m.num : Nat)), some (.int (m.due : Nat)), some (.int (k : Nat)), rfl, lk7.trans lk8, ?_⟩
                have ea : againM e m = some ⟨m.num, e + k, some k, e⟩ := by
                  unfold againM
                  rw [ep]
                  rfl
                rw [hstep, ea, Option.toList_some, List.foldl_append]
                exact hW8
          · rintro σ H6 ⟨ps6, z6, z8, z9, z10, rfl, lk6, hW6⟩
            rw [List.length_map, hF.len, List.take_length] at hW6
            have eD6 := lk6.keep _ _ nDa nDp eD
            have hF6 := hF.frame (H' := H6) fun t' xs e => lk6.keep _ _ (fun z => by
              obtain ⟨kv, y, _⟩ := hW5.dict
              rw [z, y] at e
              cases e) (fun z => by
              obtain ⟨ts', y⟩ := hW5.lists _ z
              rw [y] at e
              cases e) e
            have lk06 := (lk04.trans (.ofSame s5)).trans lk6
            refine ⟨_, rfl, D, rfl, ⟨_, SqL.of eD6⟩, fun R hR => lc_list (K := K) (a := D) (xs := fs.map V.ref) (fun i H' => Same H6 H' ∧ H' R = some (.lst ((Fs.take i).map fun m => V.int (m.num : Nat))))
              ⟨same_upd hR, upd_same⟩ (fun i H' _ ⟨sm, _⟩ => SqL.of (sm _ _ eD6)) ?_ ?_⟩
            · rintro i x H' hx ⟨sm, eR⟩
              obtain ⟨t, m, rfl, hts, hm, ht⟩ := hF6.get hx
              have ht7 := sm _ _ ht
              refine ⟨rfl, yesT (iteT ?_)⟩
              refine ⟨.ref t, rfl, t, _, 0, _, rfl, rfl, .inl (.inl ht7), g0 m, _, eR, ?_, fun c o e' => ?_, ?_⟩
              · rw [List.length_map, List.length_take]
                exact sizeLine_ge (by omega)
              · rw [upd_ne (ne_of_none e' hR)]
                exact sm _ _ e'
              · rw [upd_same, List.take_add_one, hm, List.map_append]
                rfl
            · rintro H7 ⟨s7, eR⟩
              rw [List.length_map, hF.len, List.take_length] at eR
              have hRa : R ≠ a := fun z => by
                obtain ⟨kv, y, _⟩ := hW6.dict
                rw [← z, hR] at y
                cases y
              have hRp : R ∉ ps6 := fun hm => by
                obtain ⟨ts', y⟩ := hW6.lists _ hm
                rw [hR] at y
                cases y
              refine c H7 ps6 R (lk06.trans (.ofSame s7)) ?_ ?_ hRa hRp eR
              · unfold lpass
                rw [eL, eF, eC]
                exact hW6.same s7
              · exact lk06.stay R hR
    · intro v hv
      have hm : keyE b e h' ∈ cs.map (·.1) := Classical.byContradiction fun no => by
        have z : keyC (keyE b e h') ∉ kvs.map (·.1) := fun y => by
          rw [hc.keys] at y
          obtain ⟨c', hc', ec⟩ := List.mem_map.mp y
          exact no (List.mem_map.mpr ⟨c', hc', keyC_inj.mp ec⟩)
        rw [keyC_not z] at hv
        cases hv
      obtain ⟨p, hp, ts, b1, b2, b3⟩ := hc2.at hm
      rw [eL] at b3
      obtain ⟨ps', d1, d2, d3⟩ := hc2.drop (k := keyE b e h') hW.nd hW.nk
      have npa : p ≠ a := fun z => by
        rw [z, hd2] at b2
        cases b2
      have k3 : ∀ c o, c ≠ a → H2 c = some o → (upd H2 a (.dT (dropK kvs (keyC (keyE b e h'))))) c = some o := fun c o n e => by
        rw [upd_ne n]
        exact e
      have tup3 : ∀ t' xs, H2 t' = some (.tup xs) → (upd H2 a (.dT (dropK kvs (keyC (keyE b e h'))))) t' = some (.tup xs) := fun t' xs e => k3 _ _ (ne_of e hd2 (by intro z; cases z)) e
      refine ⟨p, Option.some.inj (hv.symm.trans b1), ps', ts, ⟨fun c o n1 n2 e => k3 c o n1 (s12 _ _ e), fun p hp => .inl (d2.subset hp), fun c e => s12.free (upd_none e)⟩, ⟨⟨_, upd_same, ?_⟩, hW.nd.sublist d2, ldrop_keys hW.nk⟩, d3 p b1, npa, k3 _ _ npa b2, b3.frame tup3⟩
      exact d1.frame tup3 fun p hp o e => k3 p o (fun z => hW.ne (by rw [← z]; exact d2.subset hp)) e
    · intro hv
      have hm : keyE b e h' ∉ cs.map (·.1) := fun hm => by
        obtain ⟨p, _, _, b1, _⟩ := hc2.at hm
        rw [hv] at b1
        cases b1
      have e1 : ldrop cs (keyE b e h') = cs := List.filter_eq_self.mpr fun c hc' => decide_eq_true fun z => hm (List.mem_map.mpr ⟨c, hc', z⟩)
      have e2 : L = [] := by rw [← eL, gv_none hm]
      rw [e1, e2]
      have nea : el ≠ a := fun z => by
        rw [z, s1 _ _ hd] at hel
        cases hel
      refine ⟨ps, [], .ofSame s12, hW.same s12, fun hm => ?_, nea, eel, trivial⟩
      obtain ⟨ts, y⟩ := hW.lists _ hm
      rw [heln] at y
      cases y
end
/-! ### the law's next event -/
def lrowD (m : Tm) : PyData := .tuple [.int (m.num : Nat), .int (m.due : Nat), match m.per with | none => .none | some k => .int (k : Nat)]
theorem lrow_dp {K : PySem.W.Frag} {H : Hp} {t : Addr} {m : Tm} (h : H t = some (.tup (lrowV m))) : Dp K H (.ref t) (lrowD m) := by
  refine .tup (SqT.of h) (.cons (.int _) (.cons (.int _) (.cons ?_ .nil)))
  cases m.per with
  | none => exact .non
  | some k => exact .int _
theorem lrows_dp {K : PySem.W.Frag} {H : Hp} : ∀ {ts : List Addr} {ms : List Tm}, LRows H ts ms → DpAll K H (ts.map V.ref) (ms.map lrowD)
  | [], [], _ => .nil
  | _ :: _, _ :: _, h => .cons (lrow_dp h.1) (lrows_dp h.2)
  | [], _ :: _, h => h.elim
  | _ :: _, [], h => h.elim
theorem lrowD_lay (m : Tm) : (lrowD m).canLay0 = true := by
  unfold lrowD
  cases m.per with
  | none => rfl
  | some k => rfl
theorem lrows_lay : ∀ ms : List Tm, PyData.canLayAll0 (ms.map lrowD) = true
  | [] => rfl
  | m :: ms => by
    show ((lrowD m).canLay0 && PyData.canLayAll0 (ms.map lrowD)) = true
    rw [lrowD_lay, lrows_lay ms]
    rfl
theorem lrows_depth : ∀ ms : List Tm, PyData.depthAll (ms.map lrowD) ≤ 1
  | [] => Nat.zero_le _
  | m :: ms => by
    have ih := lrows_depth ms
    show max (lrowD m).depth (PyData.depthAll (ms.map lrowD)) ≤ 1
    have e : (lrowD m).depth = 1 := by
      unfold lrowD
      cases m.per <;> rfl
    rw [e]
    omega
theorem lrows_shaped (ms : List Tm) : SeqAt.shaped (.list (ms.map lrowD)) = true := by
  have h1 : (PyData.list (ms.map lrowD)).canLay0 = true := by
    show PyData.canLayAll0 (ms.map lrowD) = true
    exact lrows_lay ms
  have h2 : (PyData.list (ms.map lrowD)).depth ≤ 64 := by
    show PyData.depthAll (ms.map lrowD) + 1 ≤ 64
    have := lrows_depth ms
    omega
  unfold SeqAt.shaped
  rw [h1, decide_eq_true h2]
  rfl
/-- the least of some numbers, if there is one -/
def IsMin (S : Nat → Prop) : Option Nat → Prop
  | none => ∀ x, ¬ S x
  | some v => S v ∧ ∀ x, S x → v ≤ x
theorem IsMin.next {b n : Nat} {ms : List Tm} {o : Option Nat} (h : IsMin (fun x => ∃ m ∈ ms, evT b n m.due = x) o) : o = nextE b n ms := by
  unfold nextE
  cases o with
  | none =>
    symm
    rw [List.min?_eq_none_iff, List.map_eq_nil_iff]
    cases ms with
    | nil => rfl
    | cons m ms => exact absurd ⟨m, List.mem_cons_self .., rfl⟩ (h _)
  | some v =>
    symm
    obtain ⟨⟨m, hm, e⟩, h2⟩ := h
    refine List.min?_eq_some_iff.mpr ⟨List.mem_map.mpr ⟨m, hm, e⟩, fun x hx => ?_⟩
    obtain ⟨m', hm', e'⟩ := List.mem_map.mp hx
    exact h2 x ⟨m', hm', e'⟩
section
variable {P : Program} {w : World} {K : PySem.W.Frag} {mg : Str → Option Value} {base : Heap}
def spNextEv : Sp := fun vs H Q _ => ∃ (a : Addr) (v : V) (b t : Nat) (ws : List Bool) (ms : List Tm) (cs : List LCell) (ps : List Addr), vs = [.ref a, .int (b : Nat), v] ∧ 2 ≤ b ∧ b ≤ 64 ∧ LW H a cs ps ∧ cs.length ≤ 50000 ∧ (∀ p, gv cs p = stM b ws t ms p) ∧ (∀ m ∈ ms, t < m.due ∧ m.due < 2 ^ 250) ∧
  ∀ H', Same H H' → Q (perV (nextE b t ms)) H'
theorem ok_law_next_event {f : Addr} {fd : FuncData} (F : Fun K "_law_next_event" "_law_next_event" s__law_next_event f fd) (T : Tx K mg) : FnOk P w K mg base CX0 1 f fd ["_law_lists", "_law_base_here", "_law_now"] spNextEv := by
  refine F.ok sc__law_next_event (fun vs H Q E h => ?_) (fun cdv A outer s H vs Q E hr h => ?_)
  · obtain ⟨a, v, b, t, ws, ms, cs, ps, rfl, _⟩ := h
    rfl
  · obtain ⟨a, v, b, t, ws, ms, cs, ps, rfl, hb, hb64, hW, few, hcs, hms, c⟩ := h
    have hu := hu_of hr
    obtain ⟨kvs, hd, hc⟩ := hW.dict
    refine ⟨_, (pss_cons (ps_set (i := 3) sc__law_next_event.nd rfl (.inl rfl) pe_non)
      (pss_cons (ps_for PassesOwn.never rfl (pi_list (pe_callB (call_sortedDT rfl) (by rfl) T.b_sorted (by decide +kernel) (pa_cons (pv 0) pa_nil))) (pg_tupK (K := K) (n := 2) rfl rfl (pgs_cons (pg_name (i := 4) sc__law_next_event.nd rfl (.inl rfl)) (pgs_cons (pg_name (i := 5) sc__law_next_event.nd rfl (.inl rfl)) pgs_nil)))
        (pss_one (ps_if (pt_cmpR (op_neK (K := K) rfl hr.units) (pe_dget hu (pv 0) (pe_tup (pa_cons (pv 4) (pa_cons (pv 5) pa_nil))) (fun _ _ => rfl)) (pe_lst pa_nil) (nomark _))
          (pss_cons (ps_set (i := 6) sc__law_next_event.nd rfl (.inl rfl) pe_int)
          (pss_cons (ps_for PassesOwn.never rfl (pi_range1 (by rfl) T.b_range (pa_cons (pv 4) pa_nil)) (pg_name (i := 7) sc__law_next_event.nd rfl (.inl rfl))
            (pss_one (ps_set (i := 6) sc__law_next_event.nd rfl (.inl rfl) (pe_op op_mulN (pv 6) (pv 1)))))
          (pss_cons (ps_set (i := 8) sc__law_next_event.nd rfl (.inl rfl) (pe_op op_mulN (pe_op op_divN (pe_ix (ix_tupK (K := K) rfl) (pe_ix (ix_listK (K := K) rfl) (pe_dget hu (pv 0) (pe_tup (pa_cons (pv 4) (pa_cons (pv 5) pa_nil))) (fun _ _ => rfl)) pe_int (fun _ _ => rfl)) pe_int (fun _ _ => rfl)) (pv 6)) (pv 6)))
          (pss_one (ps_if (PW.pt (pw_or (pt_cmpR op_isN (pv 3) pe_non (nomark _)) (pw_or1 (pt_cmpR op_lt (pv 8) (pv 3) (nomark _)))))
            (pss_one (ps_set (i := 3) sc__law_next_event.nd rfl (.inl rfl) (pv 8)))
            pss_nil)))))
          pss_nil)))
      (pss_one (ps_ret (pv 3))))), ?_⟩
    have hkeys : kvs.map (·.1) = (cs.map fun c => ((c.1.1 : Int), (c.1.2 : Int))).map fun p => [Sum.inl p.1, Sum.inl p.2] := by
      rw [hc.keys, List.map_map]
      rfl
    refine ⟨_, rfl, a, kvs, _, rfl, .inl hd, hkeys, fun p bs hp0 hperm hsort hbs => ?_⟩
    obtain ⟨ks, eks, hks⟩ : ∃ ks : List (Nat × Nat), (bs.map fun x => pairAt H (.ref x)) = ks.map (fun k => ((k.1 : Int), (k.2 : Int))) ∧ ks.Perm (cs.map (·.1)) := by
      refine ⟨(bs.map fun x => pairAt H (.ref x)).map fun z => (z.1.toNat, z.2.toNat), ?_, ?_⟩
      · rw [List.map_map]
        have e1 : (bs.map fun x => pairAt H (.ref x)).map id = _ := List.map_congr_left (f := id) (g := (fun k : Nat × Nat => ((k.1 : Int), (k.2 : Int))) ∘ fun z : Int × Int => (z.1.toNat, z.2.toNat)) fun z hz => by
          obtain ⟨cc, _, rfl⟩ := List.mem_map.mp (hperm.mem_iff.mp hz)
          rfl
        rw [List.map_id] at e1
        exact e1
      · have z := hperm.map fun z : Int × Int => (z.1.toNat, z.2.toNat)
        have e1 : (cs.map fun c => ((c.1.1 : Int), (c.1.2 : Int))).map (fun z : Int × Int => (z.1.toNat, z.2.toNat)) = cs.map (·.1) := by
          rw [List.map_map]
          exact List.map_congr_left fun c _ => rfl
        rw [e1] at z
        exact z
    have hbl : bs.length = ks.length := by
      have z := congrArg List.length eks
      rw [List.length_map, List.length_map] at z
      exact z
    have s1 := same_upd (o := .lst (bs.map V.ref)) hp0
    have ep : (upd H p (.lst (bs.map V.ref))) p = some (.lst (bs.map V.ref)) := upd_same
    generalize upd H p (.lst (bs.map V.ref)) = H1 at s1 ep ⊢
    refine ⟨p, rfl, ⟨_, SqL.of ep⟩, for_list (K := K) (a := p) (xs := bs.map V.ref) (fun i σ H' => ∃ (o : Option Nat) (y4 y5 y6 y7 y8 : Option V), σ = [some (.ref a), some (.int (b : Nat)), some v, some (perV o), y4, y5, y6, y7, y8] ∧ Same H1 H' ∧ IsMin (fun x => ∃ m ∈ ms, placeT b t m.due ∈ ks.take i ∧ evT b t m.due = x) o)
      ⟨none, none, none, none, none, none, rfl, fun _ _ e => e, fun x ⟨m, _, h, _⟩ => by cases h⟩ (fun i σ H' _ ⟨_, _, _, _, _, _, _, sm, _⟩ => SqL.of (sm _ _ ep)) ?_ ?_⟩
    · rintro i x σ H' hx ⟨o, y4, y5, y6, y7, y8, rfl, sm, hmin⟩
      rw [List.getElem?_map] at hx
      obtain ⟨x0, hx0, rfl⟩ : ∃ x0, bs[i]? = some x0 ∧ x = V.ref x0 := by
        cases e : bs[i]? with
        | none =>
          rw [e] at hx
          cases hx
        | some y =>
          rw [e] at hx
          exact ⟨y, rfl, (Option.some.inj hx).symm⟩
      have hlt : i < ks.length := by
        have z := (List.getElem?_eq_some_iff.mp hx0).1
        omega
      have hk : ks[i]? = some ks[i] := List.getElem?_eq_getElem hlt
      generalize ks[i] = kk at hk
      have epa : pairAt H (.ref x0) = ((kk.1 : Int), (kk.2 : Int)) := by
        have z := congrArg (fun l : List (Int × Int) => l[i]?) eks
        simp only [List.getElem?_map, hx0, hk] at z
        exact Option.some.inj z
      have ex0 := hbs x0 (List.mem_of_getElem? hx0)
      rw [epa] at ex0
      have ex' := sm _ _ (s1 _ _ ex0)
      have hkm : kk ∈ cs.map (·.1) := hks.mem_iff.mp (List.mem_of_getElem? hk)
      have s01 := s1.trans sm
      refine ⟨x0, _, rfl, .inl (.inl ex'), rfl, _, _, rfl, _, _, rfl, rfl, ?_⟩
      refine ⟨_, rfl, _, rfl, _, rfl, by simp [sizeLine_eq], fun pk hpk => ?_⟩
      have s2 := same_upd (o := .tup [.int (kk.1 : Int), .int (kk.2 : Int)]) hpk
      have epk : (upd H' pk (.tup [.int (kk.1 : Int), .int (kk.2 : Int)])) pk = some (.tup ((keyC kk).map kV)) := upd_same
      have s02 := s01.trans s2
      have sm2 := sm.trans s2
      generalize upd H' pk (.tup [.int (kk.1 : Int), .int (kk.2 : Int)]) = H2 at s2 s02 sm2 epk ⊢
      have hc2 := hc.frame (H' := H2) (fun _ _ e => s02 _ _ e) fun _ _ _ e => s02 _ _ e
      obtain ⟨pl, hpl, ts, b1, b2, b3⟩ := hc2.at hkm
      have hd2 := s02 _ _ hd
      have g := DGet.t hd2 epk
      rw [b1] at g
      refine ⟨a, .ref pl, rfl, g, by simp [sizeLine_eq], fun el hel => ?_⟩
      have s3 := same_upd (o := .lst []) hel
      have eel : (upd H2 el (.lst [])) el = some (.lst []) := upd_same
      have s03 := s02.trans s3
      have sm3 := sm2.trans s3
      generalize upd H2 el (.lst []) = H3 at s3 s03 sm3 eel ⊢
      have b2' := s3 _ _ b2
      have b3' := b3.frame (H' := H3) fun _ _ e => s3 _ _ e
      refine ⟨.list ((gv cs kk).map lrowD), .list [], .lst (SqL.of b2') (lrows_dp b3'), .lst (SqL.of eel) .nil, lrows_shaped _, rfl, ?_⟩
      -- who stands in this list
      have mem : ∀ m, m ∈ gv cs kk ↔ m ∈ ms ∧ placeT b t m.due = kk := fun m => by
        rw [hcs]
        unfold stM
        rw [mem_deq, List.mem_filter]
        exact and_congr_right fun _ => decide_eq_true_iff
      have htake : ks.take (i + 1) = ks.take i ++ [kk] := by
        rw [List.take_add_one, hk]
        rfl
      cases eg : gv cs kk with
      | nil =>
        refine ⟨false, rfl, iteF ⟨o, some (.int (kk.1 : Int)), some (.int (kk.2 : Int)), y6, y7, y8, rfl, sm3, ?_⟩⟩
        have e : (fun x => ∃ m ∈ ms, placeT b t m.due ∈ ks.take (i + 1) ∧ evT b t m.due = x) = fun x => ∃ m ∈ ms, placeT b t m.due ∈ ks.take i ∧ evT b t m.due = x := by
          funext x
          refine propext ⟨fun ⟨m, h1, h2, h3⟩ => ?_, fun ⟨m, h1, h2, h3⟩ => ⟨m, h1, by rw [htake]; exact List.mem_append_left _ h2, h3⟩⟩
          rw [htake] at h2
          rcases List.mem_append.mp h2 with h2 | h2
          · exact ⟨m, h1, h2, h3⟩
          · have z := (mem m).mpr ⟨h1, List.mem_singleton.mp h2⟩
            rw [eg] at z
            cases z
        rw [e]
        exact hmin
      | cons m0 mr =>
        rw [eg] at b3' mem
        obtain ⟨hm0, hp0'⟩ := (mem m0).mp (List.mem_cons_self ..)
        have hdue := hms m0 hm0
        have hlev : levT b t m0.due = kk.1 := congrArg Prod.fst hp0'
        have hk250 : kk.1 < 250 := by
          rw [← hlev]
          exact lev_small (levT_is hb hdue.1) hb hdue.1 hdue.2
        obtain ⟨t0, tr, rfl⟩ : ∃ t0 tr, ts = t0 :: tr := by
          cases ts with
          | nil => exact b3'.elim
          | cons t0 tr => exact ⟨t0, tr, rfl⟩
        have ev0 : evT b t m0.due = m0.due / b ^ kk.1 * b ^ kk.1 := by rw [evT_is hb hdue.1, hlev]
        have evs : ∀ m ∈ ms, placeT b t m.due = kk → evT b t m.due = evT b t m0.due := fun m hm hp => by
          have hmd := hms m hm
          have l1 : levT b t m.due = kk.1 := congrArg Prod.fst hp
          have d1 : m.due / b ^ levT b t m.due % b = kk.2 := congrArg Prod.snd hp
          have d0 : m0.due / b ^ levT b t m0.due % b = kk.2 := congrArg Prod.snd hp0'
          have q1 := (levT_is hb hmd.1).1
          have q0 := (levT_is hb hdue.1).1
          rw [evT_is hb hmd.1, evT_is hb hdue.1]
          rw [l1] at d1 q1 ⊢
          rw [hlev] at d0 q0 ⊢
          have a5 := Nat.div_add_mod (m.due / b ^ kk.1) b
          have a6 := Nat.div_add_mod (m0.due / b ^ kk.1) b
          have a7 : m.due / b ^ kk.1 / b = m0.due / b ^ kk.1 / b := by
            rw [← div_succ, ← div_succ]
            exact q1.symm.trans q0
          rw [a7, d1] at a5
          rw [d0] at a6
          rw [a5.symm.trans a6]
        have hsz : b ^ kk.1 ≤ m0.due := by
          have z := (levT_is hb hdue.1).size hb hdue.1
          rw [hlev] at z
          exact z
        refine ⟨true, rfl, iteT ?_⟩
        refine ⟨_, rfl, _, rfl, (by show -2 ^ 62 ≤ ((kk.1 : Nat) : Int); omega), (by show ((kk.1 : Nat) : Int) < 2 ^ 62; omega), for_range (Pv := fun j σ H'' => H'' = H3 ∧ ∃ y, σ = [some (.ref a), some (.int (b : Nat)), some v, some (perV o), some (.int (kk.1 : Int)), some (.int (kk.2 : Int)), some (.int ((b ^ j : Nat) : Int)), y, y8]) ⟨rfl, y7, rfl⟩ ?_ ?_⟩
        · rintro j σ H'' hj ⟨rfl, y, rfl⟩
          refine ⟨_, rfl, _, rfl, _, _, rfl, rfl, nmul_r (by omega), rfl, some (.int (0 + (j : Int))), rfl⟩
        · rintro σ H'' ⟨rfl, y, rfl⟩
          refine ⟨_, rfl, _, rfl, _, rfl, by simp [sizeLine_eq], fun pk2 hpk2 => ?_⟩
          have s4 := same_upd (o := .tup [.int (kk.1 : Int), .int (kk.2 : Int)]) hpk2
          have epk4 : (upd H'' pk2 (.tup [.int (kk.1 : Int), .int (kk.2 : Int)])) pk2 = some (.tup ((keyC kk).map kV)) := upd_same
          have s04 := s03.trans s4
          have sm4 := sm3.trans s4
          have b24 := s4 _ _ b2'
          have b34 := b3'.frame (H' := upd H'' pk2 (.tup [.int (kk.1 : Int), .int (kk.2 : Int)])) fun _ _ e => s4 _ _ e
          generalize upd H'' pk2 (.tup [.int (kk.1 : Int), .int (kk.2 : Int)]) = H4 at s4 s04 sm4 epk4 b24 b34 ⊢
          have hc4 := hc.frame (H' := H4) (fun _ _ e => s04 _ _ e) fun _ _ _ e => s04 _ _ e
          have hd4 := s04 _ _ hd
          have g4 := DGet.t hd4 epk4
          obtain ⟨pl', _, ts', b1', c2, c3⟩ := hc4.at hkm
          have epl : pl' = pl := V.ref.inj (Option.some.inj (b1'.symm.trans b1))
          subst epl
          rw [b1'] at g4
          have g1 : atI (lrowV m0) 1 = some (.int (m0.due : Nat)) := atI_nat (j := 1) rfl
          refine ⟨a, .ref pl', rfl, g4, pl', _, 0, .ref t0, rfl, rfl, SqL.of b24, atI_nat (j := 0) rfl, t0, _, 1, _, rfl, rfl, .inl (.inl b34.1), g1, _, rfl, m0.due, b ^ kk.1, rfl, rfl, ndiv 250 (pow_pos' hb _) (Nat.lt_of_le_of_lt hsz hdue.2), _, rfl, m0.due / b ^ kk.1, b ^ kk.1, rfl, rfl, nmul_w 250 250 (Nat.lt_of_le_of_lt (Nat.div_le_self _ _) hdue.2) (Nat.lt_of_le_of_lt hsz hdue.2), ?_⟩
          have fin : ∀ o' : Option Nat, IsMin (fun x => ∃ m ∈ ms, placeT b t m.due ∈ ks.take (i + 1) ∧ evT b t m.due = x) o' → ∃ (o : Option Nat) (y4 y5 y6 y7 y8 : Option V), ([some (.ref a), some (.int (b : Nat)), some v, some (perV o'), some (.int (kk.1 : Int)), some (.int (kk.2 : Int)), some (.int ((b ^ kk.1 : Nat) : Int)), y, some (.int ((m0.due / b ^ kk.1 * b ^ kk.1 : Nat) : Int))] : L2.St) = [some (.ref a), some (.int (b : Nat)), some v, some (perV o), y4, y5, y6, y7, y8] ∧ Same H1 H4 ∧ IsMin (fun x => ∃ m ∈ ms, placeT b t m.due ∈ ks.take (i + 1) ∧ evT b t m.due = x) o := fun o' h => ⟨o', _, _, _, _, _, rfl, sm4, h⟩
          have split : ∀ x, (∃ m ∈ ms, placeT b t m.due ∈ ks.take (i + 1) ∧ evT b t m.due = x) ↔ (∃ m ∈ ms, placeT b t m.due ∈ ks.take i ∧ evT b t m.due = x) ∨ x = m0.due / b ^ kk.1 * b ^ kk.1 := fun x => by
            rw [htake]
            constructor
            · rintro ⟨m, h1, h2, h3⟩
              rcases List.mem_append.mp h2 with h2 | h2
              · exact .inl ⟨m, h1, h2, h3⟩
              · refine .inr ?_
                rw [← h3, evs m h1 (List.mem_singleton.mp h2), ev0]
            · rintro (⟨m, h1, h2, h3⟩ | h)
              · exact ⟨m, h1, List.mem_append_left _ h2, h3⟩
              · exact ⟨m0, hm0, List.mem_append_right _ (by rw [hp0']; exact List.mem_singleton.mpr rfl), by rw [ev0, h]⟩
          cases o with
          | none =>
            refine ⟨_, rfl, rfl, true, rfl, iteT (iteT ⟨_, rfl, ?_⟩)⟩
            refine fin (some _) ⟨(split _).mpr (.inr rfl), fun x hx => ?_⟩
            rcases (split x).mp hx with h | h
            · exact absurd h (hmin x)
            · rw [h]
              exact Nat.le_refl _
          | some v0 =>
            refine ⟨_, rfl, rfl, false, rfl, iteF ?_⟩
            by_cases c1 : m0.due / b ^ kk.1 * b ^ kk.1 < v0
            · refine ⟨_, rfl, _, rfl, _, _, rfl, rfl, true, dT (Int.ofNat_lt.mpr c1), iteT ⟨_, rfl, ?_⟩⟩
              refine fin (some _) ⟨(split _).mpr (.inr rfl), fun x hx => ?_⟩
              rcases (split x).mp hx with h | h
              · exact Nat.le_trans (Nat.le_of_lt c1) (hmin.2 x h)
              · rw [h]
                exact Nat.le_refl _
            · refine ⟨_, rfl, _, rfl, _, _, rfl, rfl, false, dF (fun z => c1 (Int.ofNat_lt.mp z)), iteF ?_⟩
              refine fin (some v0) ⟨(split _).mpr (.inl hmin.1), fun x hx => ?_⟩
              rcases (split x).mp hx with h | h
              · exact hmin.2 x h
              · rw [h]
                exact Nat.le_of_not_lt c1
    · rintro σ H' ⟨o, y4, y5, y6, y7, y8, rfl, sm, hmin⟩
      rw [List.length_map, hbl, List.take_length] at hmin
      have e : (fun x => ∃ m ∈ ms, placeT b t m.due ∈ ks ∧ evT b t m.due = x) = fun x => ∃ m ∈ ms, evT b t m.due = x := by
        funext x
        refine propext ⟨fun ⟨m, h1, _, h3⟩ => ⟨m, h1, h3⟩, fun ⟨m, h1, h3⟩ => ⟨m, h1, hks.mem_iff.mpr ?_, h3⟩⟩
        refine Classical.byContradiction fun no => ?_
        have z := gv_none no
        rw [hcs] at z
        have y : m ∈ stM b ws t ms (placeT b t m.due) := mem_deq.mpr (List.mem_filter.mpr ⟨h1, decide_eq_true rfl⟩)
        rw [z] at y
        cases y
      rw [e] at hmin
      rw [hmin.next]
      exact ⟨_, rfl, c H' (s1.trans sm)⟩
end
/-! ### the law's drawing of numbers -/
def SrcAt (H : Hp) (p : Addr) : Prop := ∃ a b c : Int, H p = some (.lst [.int a, .int b, .int c])
/-- all but the source p stands as it was; p is a source again -/
structure Stp (p : Addr) (H H' : Hp) : Prop where
  keep : ∀ q o, q ≠ p → H q = some o → H' q = some o
  src : SrcAt H' p
theorem Stp.refl {p : Addr} {H : Hp} (h : SrcAt H p) : Stp p H H := ⟨fun _ _ _ e => e, h⟩
theorem Stp.trans {p : Addr} {H H1 H2 : Hp} (a : Stp p H H1) (b : Stp p H1 H2) : Stp p H H2 := ⟨fun q o n e => b.keep q o n (a.keep q o n e), b.src⟩
theorem Stp.same {p : Addr} {H H1 H2 : Hp} (a : Stp p H H1) (b : Same H1 H2) : Stp p H H2 := by
  obtain ⟨x, y, z, e⟩ := a.src
  exact ⟨fun q o n e => b q o (a.keep q o n e), ⟨x, y, z, b _ _ e⟩⟩
theorem SrcAt.same {p : Addr} {H H' : Hp} (h : SrcAt H p) (s : Same H H') : SrcAt H' p := by
  obtain ⟨a, b, c, e⟩ := h
  exact ⟨a, b, c, s _ _ e⟩
theorem Stp.free {p q : Addr} {H H' : Hp} (a : Stp p H H') (hq : H' q = none) : H q = none := by
  cases e : H q with
  | none => rfl
  | some o =>
    by_cases z : q = p
    · obtain ⟨x, y, u, w⟩ := a.src
      rw [z, w] at hq
      cases hq
    · rw [a.keep q o z e] at hq
      cases hq
theorem SrcAt.ne {H : Hp} {p l : Addr} (h : SrcAt H p) (hl : H l = none) : l ≠ p := fun e => by
  obtain ⟨x, y, z, w⟩ := h
  rw [e, w] at hl
  cases hl
theorem SrcAt.stp_same {p : Addr} {H H' : Hp} (h : SrcAt H p) (s : Same H H') : Stp p H H' := (Stp.refl h).same s
theorem Stp.seqL {K : PySem.W.Frag} {p a : Addr} {xs : List V} {H H' : Hp} (s : Stp p H H') (n : a ≠ p) (h : SqL K H a xs) : SqL K H' a xs := by
  rcases h with (h | ⟨o, h⟩) | h
  · exact .inl (.inl (s.keep _ _ n h))
  · exact .inl (.inr ⟨o, s.keep _ _ n h⟩)
  · exact .inr h
section
variable {P : Program} {w : World} {K : PySem.W.Frag} {mg : Str → Option Value} {base : Heap}
def spCellAt (K : PySem.W.Frag) : Sp := fun vs H Q _ => ∃ (a : Addr) (ns : List Int) (k : Nat), vs = [.ref a, .int (k : Nat)] ∧ SqL K H a (ns.map V.int) ∧ ∀ v : Int, Q (.int v) H
theorem ok_cell_at {f : Addr} {fd : FuncData} (F : Fun K "_law_cell_at" "_law_cell_at" s__law_cell_at f fd) (T : Tx K mg) : FnOk P w K mg base CX0 1 f fd ["_law_script", "_law_k"] (spCellAt K) := by
  refine F.ok sc__law_cell_at (fun vs H Q E h => ?_) (fun cdv A outer s H vs Q E hr h => ?_)
  · obtain ⟨a, ns, k, rfl, _⟩ := h
    rfl
  · obtain ⟨a, ns, k, rfl, hS, q⟩ := h
    refine ⟨_, (pss_cons (ps_if (pt_cmpR op_lt (pv 1) (pe_callB (lenK (K := K) rfl) (by rfl) T.b_len PySem.boot_len (pa_cons (pv 0) pa_nil)) (nomark _))
        (pss_one (ps_ret (pe_ix (ix_listK (K := K) rfl) (pv 0) (pv 1) (fun _ _ => rfl))))
        pss_nil)
      (pss_one (ps_ret pe_int))), ?_⟩
    refine ⟨_, rfl, .ref a, rfl, a, ns.map V.int, rfl, .inl hS, _, _, rfl, rfl, _, rfl, ite2 (fun e => ?_) (fun e => ?_)⟩
    · have hk : k < ns.length := by
        have z := of_decide_eq_true e
        rw [List.length_map] at z
        omega
      have g : (ns.map V.int)[k]? = some (.int ns[k]) := by
        rw [List.getElem?_map, List.getElem?_eq_getElem hk]
        rfl
      exact ⟨.ref a, rfl, _, rfl, a, _, _, _, rfl, rfl, hS, atI_nat g, q _⟩
    · exact q 0
def spMixed : Sp := fun vs H Q _ => ∃ c k : Int, vs = [.int c, .int k] ∧ ∀ r : Int, 0 ≤ r → r < 2147483563 → Q (.int r) H
theorem ok_mixed {f : Addr} {fd : FuncData} (F : Fun K "_law_mixed" "_law_mixed" s__law_mixed f fd)  : FnOk P w K mg base CX0 1 f fd ["_law_cell", "_law_k"] spMixed := by
  refine F.ok sc__law_mixed (fun vs H Q E h => ?_) (fun cdv A outer s H vs Q E hr h => ?_)
  · obtain ⟨c, k, rfl, _⟩ := h
    rfl
  · obtain ⟨c, k, rfl, q⟩ := h
    refine ⟨_, (pss_cons (ps_set (i := 2) sc__law_mixed.nd rfl (.inl rfl) (pe_op op_add (pe_op op_mod (pv 0) pe_int) (pe_op op_mulA (pe_op op_fdivW (pv 0) pe_int) pe_int)))
      (pss_cons (ps_set (i := 2) sc__law_mixed.nd rfl (.inl rfl) (pe_op op_mod (pe_op op_mulA (pe_op op_add (pe_op op_add (pv 2) (pe_op op_mulA pe_int (pv 1))) pe_int) pe_int) pe_int))
      (pss_cons (ps_set (i := 2) sc__law_mixed.nd rfl (.inl rfl) (pe_op op_mod (pe_op op_mulA (pv 2) (pe_op op_add (pe_op op_add (pe_op op_fdivW (pv 2) pe_int) pe_int) (pv 1))) pe_int))
      (pss_one (ps_ret (pe_op op_mod (pe_op op_mulA (pv 2) (pe_op op_add (pe_op op_fdivW (pv 2) pe_int) pe_int)) pe_int)))))), ?_⟩
    refine ⟨_, rfl, c, 2147483629, rfl, rfl, (by decide : (0 : Int) < 2147483629), _, rfl, c, 2147483629, rfl, rfl, div_s (by decide) (by decide), _, 30011, rfl, rfl, mul_r (by decide) (by decide), _, _, rfl, rfl, ?_⟩
    refine ⟨_, rfl, _, rfl, 69621, k, rfl, rfl, mul_l (by decide) (by decide), _, _, rfl, rfl, _, 1, rfl, rfl, _, 48271, rfl, rfl, mul_r (by decide) (by decide), _, 2147483629, rfl, rfl, (by decide : (0 : Int) < 2147483629), ?_⟩
    generalize hl : (c % 2147483629 + c / 2147483629 * 30011 + 69621 * k + 1) * 48271 = l0
    have b1 : 0 ≤ l0 % 2147483629 := Int.emod_nonneg _ (by decide)
    have b2 : l0 % 2147483629 < 2147483629 := Int.emod_lt_of_pos _ (by decide)
    refine ⟨_, rfl, _, rfl, l0 % 2147483629, 907, rfl, rfl, div_s (by decide) (by decide), _, 16831, rfl, rfl, _, rfl, _, k, rfl, rfl, l0 % 2147483629, _, rfl, rfl, mul_l (by omega) (by omega), _, 2147483587, rfl, rfl, (by decide : (0 : Int) < 2147483587), ?_⟩
    generalize (l0 % 2147483629) * (l0 % 2147483629 / 907 + 16831 + k) = l1
    have b3 : 0 ≤ l1 % 2147483587 := Int.emod_nonneg _ (by decide)
    have b4 : l1 % 2147483587 < 2147483587 := Int.emod_lt_of_pos _ (by decide)
    refine ⟨_, rfl, _, rfl, _, 1201, rfl, rfl, div_s (by decide) (by decide), _, 30011, rfl, rfl, _, _, rfl, rfl, mul_l (i := l1 % 2147483587) (by omega) (by omega), _, 2147483563, rfl, rfl, (by decide : (0 : Int) < 2147483563), ?_⟩
    exact q _ (Int.emod_nonneg _ (by decide)) (Int.emod_lt_of_pos _ (by decide))
def spSource (K : PySem.W.Frag) : Sp := fun vs H Q _ => ∃ (a : Addr) (ns : List Int) (k : Nat), vs = [.ref a, .int (k : Nat)] ∧ SqL K H a (ns.map V.int) ∧ ∀ H' p, Same H H' → H p = none → SrcAt H' p → Q (.ref p) H'
theorem ok_source {f : Addr} {fd : FuncData} (F : Fun K "_law_source" "_law_source" s__law_source f fd) (T : Tx K mg) (h1 : Has P w K mg base 1 "_law_cell_at" ["_law_script", "_law_k"] [] (spCellAt K))
    (h2 : Has P w K mg base 1 "_law_mixed" ["_law_cell", "_law_k"] [] spMixed) : FnOk P w K mg base CX0 2 f fd ["_law_script", "_law_k"] (spSource K) := by
  obtain ⟨f__law_cell_at, fd__law_cell_at, ds__law_cell_at, G__law_cell_at, m__law_cell_at, k__law_cell_at, b__law_cell_at, v__law_cell_at⟩ := h1
  obtain ⟨f__law_mixed, fd__law_mixed, ds__law_mixed, G__law_mixed, m__law_mixed, k__law_mixed, b__law_mixed, v__law_mixed⟩ := h2
  refine F.ok sc__law_source (fun vs H Q E h => ?_) (fun cdv A outer s H vs Q E hr h => ?_)
  · obtain ⟨a, ns, k, rfl, _⟩ := h
    rfl
  · obtain ⟨a, ns, k, rfl, hS, q⟩ := h
    refine ⟨_, (pss_cons (ps_if (pt_cmpR op_lt (pv 1) (pe_callB (lenK (K := K) rfl) (by rfl) T.b_len PySem.boot_len (pa_cons (pv 0) pa_nil)) (nomark _))
        (pss_one (ps_ret (pe_lst (pa_cons (pe_ix (ix_listK (K := K) rfl) (pv 0) (pv 1) (fun _ _ => rfl)) (pa_cons (pe_ix (ix_listK (K := K) rfl) (pv 0) (pv 1) (fun _ _ => rfl)) (pa_cons pe_int pa_nil))))))
        pss_nil)
      (pss_cons (ps_set (i := 2) sc__law_source.nd rfl (.inl rfl) (pe_call G__law_mixed hr (by rfl) m__law_mixed k__law_mixed b__law_mixed v__law_mixed pass0 (pa_cons (pe_call G__law_cell_at hr (by rfl) m__law_cell_at k__law_cell_at b__law_cell_at v__law_cell_at pass0 (pa_cons (pv 0) (pa_cons pe_int pa_nil))) (pa_cons (pe_op op_add pe_int (pv 1)) pa_nil))))
      (pss_one (ps_ret (pe_lst (pa_cons (pv 2) (pa_cons (pv 2) (pa_cons pe_int pa_nil)))))))), ?_⟩
    refine ⟨_, rfl, .ref a, rfl, a, ns.map V.int, rfl, .inl hS, _, _, rfl, rfl, _, rfl, ite2 (fun e => ?_) (fun e => ?_)⟩
    · have hk : k < ns.length := by
        have z := of_decide_eq_true e
        rw [List.length_map] at z
        omega
      have g : (ns.map V.int)[k]? = some (.int ns[k]) := by
        rw [List.getElem?_map, List.getElem?_eq_getElem hk]
        rfl
      refine ⟨.ref a, rfl, _, rfl, a, _, _, _, rfl, rfl, hS, atI_nat g, .ref a, rfl, _, rfl, a, _, _, _, rfl, rfl, hS, atI_nat g, by simp [sizeLine_eq], fun p hp => ?_⟩
      exact q _ p (same_upd hp) hp ⟨_, _, _, upd_same⟩
    · refine ⟨.ref a, rfl, a, ns, 0, rfl, hS, fun v => ⟨_, rfl, 1000, _, rfl, rfl, v, _, rfl, fun r _ _ => ?_⟩⟩
      refine ⟨_, rfl, _, rfl, by simp [sizeLine_eq], fun p hp => ?_⟩
      exact q _ p (same_upd hp) hp ⟨_, _, _, upd_same⟩
def spNext : Sp := fun vs H Q _ => ∃ (p : Addr) (m : Int), vs = [.ref p, .int m] ∧ 0 < m ∧ m < 2 ^ 300 ∧ SrcAt H p ∧ ∀ (r : Nat) H', (r : Int) < m → Stp p H H' → Q (.int (r : Nat)) H'
theorem ok_next {f : Addr} {fd : FuncData} (F : Fun K "_law_next" "_law_next" s__law_next f fd)  (h2 : Has P w K mg base 1 "_law_mixed" ["_law_cell", "_law_k"] [] spMixed) : FnOk P w K mg base CX0 2 f fd ["_law_source_here", "_law_many"] spNext := by
  obtain ⟨f__law_mixed, fd__law_mixed, ds__law_mixed, G__law_mixed, m__law_mixed, k__law_mixed, b__law_mixed, v__law_mixed⟩ := h2
  refine F.ok sc__law_next (fun vs H Q E h => ?_) (fun cdv A outer s H vs Q E hr h => ?_)
  · obtain ⟨p, m, rfl, _⟩ := h
    rfl
  · obtain ⟨p, m, rfl, hm, hm2, ⟨a, b, c, hp⟩, q⟩ := h
    have fin : ∀ (x : Int) (H' : Hp), Stp p H H' → Q (.int (x % m)) H' := fun x H' s => by
      have h0 : 0 ≤ x % m := Int.emod_nonneg _ (by omega)
      have h1 : x % m < m := Int.emod_lt_of_pos _ hm
      have e : ((x % m).toNat : Int) = x % m := Int.toNat_of_nonneg h0
      have z := q (x % m).toNat H' (by omega) s
      rw [e] at z
      exact z
    have st : ∀ x y z : Int, Stp p H (upd H p (.lst [.int x, .int y, .int z])) := fun x y z => ⟨fun q o n e => by rw [upd_ne n]; exact e, ⟨x, y, z, upd_same⟩⟩
    refine ⟨_, (pss_cons (ps_if (pt_cmpR op_ge (pe_ix (ix_listK (K := K) rfl) (pv 0) pe_int (fun _ _ => rfl)) (pe_op op_pow pe_int pe_int) (nomark _))
        (pss_cons (ps_set (i := 2) sc__law_next.nd rfl (.inl rfl) (pe_op op_mod (pe_ix (ix_listK (K := K) rfl) (pv 0) pe_int (fun _ _ => rfl)) (pv 1)))
        (pss_cons (ps_asg (pe_op op_fdivW (pe_ix (ix_listK (K := K) rfl) (pv 0) pe_int (fun _ _ => rfl)) (pv 1)) (pg_sub (pv 0) pe_int set_list))
        (pss_one (ps_ret (pv 2)))))
        pss_nil)
      (pss_cons (ps_asg (pe_op op_add (pe_ix (ix_listK (K := K) rfl) (pv 0) pe_int (fun _ _ => rfl)) pe_int) (pg_sub (pv 0) pe_int set_list))
      (pss_one (ps_ret (pe_op op_mod (pe_call G__law_mixed hr (by rfl) m__law_mixed k__law_mixed b__law_mixed v__law_mixed pass0 (pa_cons (pe_ix (ix_listK (K := K) rfl) (pv 0) pe_int (fun _ _ => rfl)) (pa_cons (pe_ix (ix_listK (K := K) rfl) (pv 0) pe_int (fun _ _ => rfl)) pa_nil))) (pv 1)))))), ?_⟩
    refine ⟨.ref p, rfl, p, _, 0, .int a, rfl, rfl, SqL.of hp, atI_nat (j := 0) rfl, 10, 18, rfl, rfl, ⟨by decide, by decide, by decide⟩, a, _, rfl, rfl, _, rfl, ite2 (fun _ => ?_) (fun _ => ?_)⟩
    · refine ⟨.ref p, rfl, p, _, 0, .int a, rfl, rfl, SqL.of hp, atI_nat (j := 0) rfl, .int m, rfl, a, m, rfl, rfl, hm, ?_⟩
      refine ⟨.ref p, rfl, p, _, 0, .int a, rfl, rfl, SqL.of hp, atI_nat (j := 0) rfl, .int m, rfl, a, m, rfl, rfl, div_s hm hm2, ?_⟩
      refine ⟨.ref p, rfl, p, _, 0, 0, rfl, rfl, hp, rfl, ?_⟩
      exact ⟨_, rfl, fin a _ (st _ _ _)⟩
    · refine ⟨.ref p, rfl, p, _, 2, .int c, rfl, rfl, SqL.of hp, atI_nat (j := 2) rfl, c, 1, rfl, rfl, ?_⟩
      refine ⟨.ref p, rfl, p, _, 2, 2, rfl, rfl, hp, rfl, ?_⟩
      have h2 : (upd H p (.lst [.int a, .int b, .int (c + 1)])) p = some (.lst [.int a, .int b, .int (c + 1)]) := upd_same
      refine ⟨.ref p, rfl, p, _, 1, .int b, rfl, rfl, SqL.of h2, atI_nat (j := 1) rfl, .ref p, rfl, p, _, 2, .int (c + 1), rfl, rfl, SqL.of h2, atI_nat (j := 2) rfl, b, c + 1, rfl, fun r _ _ => ?_⟩
      exact ⟨.int m, rfl, r, m, rfl, rfl, hm, fin r _ (st _ _ _)⟩
end
/-! ### the law's bases -/
section
variable {P : Program} {w : World} {K : PySem.W.Frag} {mg : Str → Option Value} {base : Heap}
def spBase : Sp := fun vs H Q _ => ∃ (p : Addr), vs = [.ref p] ∧ SrcAt H p ∧ ∀ (b : Nat) H', 2 ≤ b → b ≤ 64 → Stp p H H' → Q (.int (b : Nat)) H'
theorem ok_base {f : Addr} {fd : FuncData} (F : Fun K "_law_base" "_law_base" s__law_base f fd) (h1 : Has P w K mg base 2 "_law_next" ["_law_source_here", "_law_many"] [] spNext) : FnOk P w K mg base CX0 3 f fd ["_law_source_here"] spBase := by
  obtain ⟨f__law_next, fd__law_next, ds__law_next, G__law_next, m__law_next, k__law_next, b__law_next, v__law_next⟩ := h1
  refine F.ok sc__law_base (fun vs H Q E h => ?_) (fun cdv A outer s H vs Q E hr h => ?_)
  · obtain ⟨p, rfl, _⟩ := h
    rfl
  · obtain ⟨p, rfl, hs, q⟩ := h
    refine ⟨_, (pss_one (ps_ret (pe_ix (ix_listK (K := K) rfl) (pe_lst (pa_cons pe_int (pa_cons pe_int (pa_cons pe_int (pa_cons pe_int (pa_cons pe_int (pa_cons pe_int (pa_cons pe_int (pa_cons pe_int (pa_cons pe_int pa_nil)))))))))) (pe_call G__law_next hr (by rfl) m__law_next k__law_next b__law_next v__law_next pass0 (pa_cons (pv 0) (pa_cons pe_int pa_nil))) (fun _ _ => rfl)))), ?_⟩
    refine ⟨by simp [sizeLine_eq], fun l hl => ?_⟩
    have s1 := same_upd (o := .lst [.int 2, .int 3, .int 4, .int 5, .int 7, .int 10, .int 16, .int 63, .int 64]) hl
    have nlp : l ≠ p := fun e => by
      obtain ⟨x, y, z, h⟩ := hs
      rw [e, h] at hl
      cases hl
    refine ⟨_, rfl, p, 9, rfl, by decide, by decide, hs.same s1, fun r H' hr9 st => ?_⟩
    have eL := st.keep _ _ nlp upd_same
    have hst : Stp p H H' := (hs.stp_same s1).trans st
    have hr : r < 9 := by omega
    have all : ∀ j : Nat, j < 9 → ∃ b : Nat, ([.int 2, .int 3, .int 4, .int 5, .int 7, .int 10, .int 16, .int 63, .int 64] : List V)[j]? = some (.int (b : Nat)) ∧ 2 ≤ b ∧ b ≤ 64 := by
      intro j hj
      match j, hj with
      | 0, _ => exact ⟨2, rfl, by decide, by decide⟩
      | 1, _ => exact ⟨3, rfl, by decide, by decide⟩
      | 2, _ => exact ⟨4, rfl, by decide, by decide⟩
      | 3, _ => exact ⟨5, rfl, by decide, by decide⟩
      | 4, _ => exact ⟨7, rfl, by decide, by decide⟩
      | 5, _ => exact ⟨10, rfl, by decide, by decide⟩
      | 6, _ => exact ⟨16, rfl, by decide, by decide⟩
      | 7, _ => exact ⟨63, rfl, by decide, by decide⟩
      | 8, _ => exact ⟨64, rfl, by decide, by decide⟩
      | j + 9, h => omega
    obtain ⟨b, eb, b2, b64⟩ := all r hr
    exact ⟨l, _, r, .int (b : Nat), rfl, rfl, SqL.of eL, atI_nat eb, q b H' b2 b64 hst⟩
end
/-! ### the law's ticks -/
theorem emod_le_self {a m : Int} (h : 0 ≤ a) (hm : 0 < m) : a % m ≤ a := by
  have e := Int.emod_add_mul_ediv a m
  have z : 0 ≤ m * (a / m) := Int.mul_nonneg (Int.le_of_lt hm) (Int.ediv_nonneg h (Int.le_of_lt hm))
  omega
theorem pow64_le {b j : Nat} (h : b ≤ 64) (hj : j ≤ 30) : b ^ j < 2 ^ 181 := by
  have h1 : b ^ j ≤ 64 ^ j := Nat.pow_le_pow_left h j
  have h2 : (64 : Nat) ^ j ≤ 64 ^ 30 := Nat.pow_le_pow_right (by decide) hj
  have h3 : (64 : Nat) ^ 30 < 2 ^ 181 := by decide
  omega
section
variable {P : Program} {w : World} {K : PySem.W.Frag} {mg : Str → Option Value} {base : Heap}
/-- a pick of a list of two, by a number less than 2 -/
theorem pick2 {x y : V} {r : Nat} (h : r < 2) : ([x, y] : List V)[r]? = some (if r = 0 then x else y) := by
  match r, h with
  | 0, _ => rfl
  | 1, _ => rfl
  | r + 2, h => omega
def spTick : Sp := fun vs H Q _ => ∃ (p : Addr) (b : Nat), vs = [.ref p, .int (b : Nat)] ∧ 2 ≤ b ∧ b ≤ 64 ∧ SrcAt H p ∧ ∀ (t : Nat) H', t < 2 ^ 190 → Stp p H H' → Q (.int (t : Nat)) H'
theorem ok_tick {f : Addr} {fd : FuncData} (F : Fun K "_law_tick" "_law_tick" s__law_tick f fd) (T : Tx K mg) (h1 : Has P w K mg base 2 "_law_next" ["_law_source_here", "_law_many"] [] spNext) : FnOk P w K mg base CX0 3 f fd ["_law_source_here", "_law_base_here"] spTick := by
  obtain ⟨f__law_next, fd__law_next, ds__law_next, G__law_next, m__law_next, k__law_next, b__law_next, v__law_next⟩ := h1
  refine F.ok sc__law_tick (fun vs H Q E h => ?_) (fun cdv A outer s H vs Q E hr h => ?_)
  · obtain ⟨p, b, rfl, _⟩ := h
    rfl
  · obtain ⟨p, b, rfl, hb2, hb64, hs, q⟩ := h
    have two : ∀ {H : Hp} {l : Addr} {o : HO}, SrcAt H p → H l = none → Stp p H (upd H l o) ∧ l ≠ p := fun {H l o} hs hl =>
      ⟨hs.stp_same (same_upd hl), fun e => by
        obtain ⟨x, y, z, h⟩ := hs
        rw [e, h] at hl
        cases hl⟩
    refine ⟨_, (pss_cons (ps_set (i := 2) sc__law_tick.nd rfl (.inl rfl) (pe_call G__law_next hr (by rfl) m__law_next k__law_next b__law_next v__law_next pass0 (pa_cons (pv 0) (pa_cons pe_int pa_nil))))
      (pss_cons (ps_if (pt_cmpR op_lt (pv 2) pe_int (nomark _))
        (pss_one (ps_ret (pe_call G__law_next hr (by rfl) m__law_next k__law_next b__law_next v__law_next pass0 (pa_cons (pv 0) (pa_cons (pe_ix (ix_listK (K := K) rfl) (pe_lst (pa_cons pe_int (pa_cons pe_int pa_nil))) (pv 2) (fun _ _ => rfl)) pa_nil)))))
        pss_nil)
      (pss_cons (ps_set (i := 3) sc__law_tick.nd rfl (.inl rfl) pe_int)
      (pss_cons (ps_for PassesOwn.never rfl (pi_range1 (by rfl) T.b_range (pa_cons (pe_call G__law_next hr (by rfl) m__law_next k__law_next b__law_next v__law_next pass0 (pa_cons (pv 0) (pa_cons (pe_ix (ix_listK (K := K) rfl) (pe_lst (pa_cons pe_int (pa_cons pe_int pa_nil))) (pe_call G__law_next hr (by rfl) m__law_next k__law_next b__law_next v__law_next pass0 (pa_cons (pv 0) (pa_cons pe_int pa_nil))) (fun _ _ => rfl)) pa_nil))) pa_nil)) (pg_name (i := 4) sc__law_tick.nd rfl (.inl rfl))
        (pss_one (ps_set (i := 3) sc__law_tick.nd rfl (.inl rfl) (pe_op op_mulA (pv 3) (pv 1)))))
      (pss_cons (ps_set (i := 3) sc__law_tick.nd rfl (.inl rfl) (pe_op op_mod (pv 3) (pe_op op_pow pe_int pe_int)))
      (pss_cons (ps_if (pt_cmpR op_eq (pv 2) pe_int (nomark _))
        (pss_one (ps_ret (pe_callB (call_max2 rfl) (by rfl) T.b_max (by decide +kernel) (pa_cons pe_int (pa_cons (pe_op op_sub (pe_op op_add (pv 3) (pe_call G__law_next hr (by rfl) m__law_next k__law_next b__law_next v__law_next pass0 (pa_cons (pv 0) (pa_cons pe_int pa_nil)))) pe_int) pa_nil)))))
        pss_nil)
      (pss_cons (ps_if (pt_cmpR op_eq (pv 2) pe_int (nomark _))
        (pss_one (ps_ret (pe_op op_add (pe_op op_mulA (pv 3) (pe_op op_add pe_int (pe_call G__law_next hr (by rfl) m__law_next k__law_next b__law_next v__law_next pass0 (pa_cons (pv 0) (pa_cons (pv 1) pa_nil))))) (pe_call G__law_next hr (by rfl) m__law_next k__law_next b__law_next v__law_next pass0 (pa_cons (pv 0) (pa_cons (pv 1) pa_nil))))))
        pss_nil)
      (pss_one (ps_ret (pe_op op_add (pe_op op_mulA (pe_call G__law_next hr (by rfl) m__law_next k__law_next b__law_next v__law_next pass0 (pa_cons (pv 0) (pa_cons (pe_op op_pow pe_int pe_int) pa_nil))) (pe_op op_pow pe_int pe_int)) (pe_call G__law_next hr (by rfl) m__law_next k__law_next b__law_next v__law_next pass0 (pa_cons (pv 0) (pa_cons (pe_op op_pow pe_int pe_int) pa_nil))))))))))))), ?_⟩
    -- sort = next(source, 5)
    refine ⟨_, rfl, p, 5, rfl, by decide, by decide, hs, fun r0 H1 hr0 s1 => ?_⟩
    refine ⟨_, rfl, _, 2, rfl, rfl, _, rfl, ite2 (fun e => ?_) (fun e0 => ?_)⟩
    · -- near ones
      have hr2 : r0 < 2 := by
        have z := of_decide_eq_true e
        omega
      refine ⟨_, rfl, by simp [sizeLine_eq], fun l hl => ?_⟩
      obtain ⟨s2, nl⟩ := two (o := .lst [.int 6, .int 400]) s1.src hl
      refine ⟨_, rfl, l, _, r0, _, rfl, rfl, SqL.of upd_same, atI_nat (pick2 hr2), p, if r0 = 0 then 6 else 400, ?_, ?_, ?_, s2.src, fun r H2 hr s3 => ?_⟩
      · show [V.ref p, if r0 = 0 then V.int 6 else V.int 400] = _
        split <;> rfl
      · split <;> decide
      · split <;> decide
      · refine q r H2 ?_ ((s1.trans s2).trans s3)
        have z : r < 400 := by
          split at hr <;> omega
        exact Nat.lt_trans z (by decide)
    · -- size = 1; for at in range(next(..)): size = size * base
      refine ⟨_, rfl, by simp [sizeLine_eq], fun l hl => ?_⟩
      obtain ⟨s2, nl⟩ := two (o := .lst [.int 4, .int 30]) s1.src hl
      refine ⟨_, rfl, p, 2, rfl, by decide, by decide, s2.src, fun r1 H2 hr1 s3 => ?_⟩
      have eL : H2 l = some (.lst [.int 4, .int 30]) := s3.keep _ _ nl upd_same
      refine ⟨l, _, r1, _, rfl, rfl, SqL.of eL, atI_nat (pick2 (by omega)), p, if r1 = 0 then 4 else 30, ?_, ?_, ?_, s3.src, fun r2 H3 hr2 s4 => ?_⟩
      · show [V.ref p, if r1 = 0 then V.int 4 else V.int 30] = _
        split <;> rfl
      · split <;> decide
      · split <;> decide
      have hr30 : r2 < 30 := by
        split at hr2 <;> omega
      have s14 := ((s1.trans s2).trans s3).trans s4
      refine ⟨_, rfl, by omega, by omega, for_range (Pv := fun i σ H' => H' = H3 ∧ ∃ y, σ = [some (.ref p), some (.int (b : Nat)), some (.int (r0 : Nat)), some (.int ((b ^ i : Nat) : Int)), y]) ⟨rfl, none, rfl⟩ ?_ ?_⟩
      · rintro i σ H' hi ⟨rfl, y, rfl⟩
        have hi30 : i < 30 := by omega
        have hb : b ^ i < 2 ^ 181 := pow64_le hb64 (by omega)
        refine ⟨_, rfl, _, rfl, _, _, rfl, rfl, mul_r (by omega) (by omega), ?_⟩
        refine ⟨rfl, some (.int (0 + (i : Int))), ?_⟩
        rw [Nat.pow_succ, Int.natCast_mul]
        rfl
      · rintro σ H' ⟨rfl, y, rfl⟩
        have h58 : (0 : Int) < (10 : Int) ^ (58 : Int).toNat := by decide
        refine ⟨_, rfl, 10, 58, rfl, rfl, ⟨by decide, by decide, by decide⟩, _, _, rfl, rfl, h58, ?_⟩
        generalize hz : (((b ^ ((r2 : Nat) : Int).toNat : Nat) : Int) % (10 : Int) ^ (58 : Int).toNat) = z
        have z0 : 0 ≤ z := by
          rw [← hz]
          exact Int.emod_nonneg _ (by decide)
        have z1 : z < 2 ^ 181 := by
          rw [← hz]
          refine Int.lt_of_le_of_lt (emod_le_self (by omega) (by decide)) ?_
          have := pow64_le (j := ((r2 : Nat) : Int).toNat) hb64 (by omega)
          omega
        -- sort == 2
        refine ⟨_, rfl, rfl, _, rfl, ite2 (fun _ => ?_) (fun _ => ?_)⟩
        · refine ⟨_, rfl, _, rfl, p, 3, rfl, by decide, by decide, s14.src, fun r3 H4 hr3 s5 => ?_⟩
          refine ⟨z, r3, congrArg V.int hz, rfl, _, 1, rfl, rfl, 0, _, rfl, ?_⟩
          have e3 : (if z + (r3 : Int) - 1 > 0 then z + (r3 : Int) - 1 else 0) = (((if z + (r3 : Int) - 1 > 0 then z + (r3 : Int) - 1 else 0).toNat : Nat) : Int) := by
            split <;> omega
          show Q (.int (if z + (r3 : Int) - 1 > 0 then z + (r3 : Int) - 1 else 0)) H4
          rw [e3]
          refine q _ H4 ?_ (s14.trans s5)
          split <;> omega
        · refine ⟨_, rfl, rfl, _, rfl, ite2 (fun _ => ?_) (fun _ => ?_)⟩
          · refine ⟨_, rfl, _, rfl, _, rfl, p, b, rfl, by omega, by omega, s14.src, fun r3 H4 hr3 s5 => ?_⟩
            refine ⟨1, r3, rfl, rfl, z, _, congrArg V.int hz, rfl, mul_r (by omega) (by omega), _, rfl, _, rfl, p, b, rfl, by omega, by omega, s5.src, fun r4 H5 hr4 s6 => ?_⟩
            refine ⟨_, _, rfl, rfl, ?_⟩
            have zr : z * (1 + (r3 : Int)) ≤ z * 65 := Int.mul_le_mul_of_nonneg_left (by omega) z0
            have zr0 : 0 ≤ z * (1 + (r3 : Int)) := Int.mul_nonneg z0 (by omega)
            have e3 : z * (1 + (r3 : Int)) + (r4 : Int) = (((z * (1 + (r3 : Int)) + (r4 : Int)).toNat : Nat) : Int) := by omega
            show Q (.int (z * (1 + (r3 : Int)) + (r4 : Int))) H5
            rw [e3]
            exact q _ H5 (by omega) ((s14.trans s5).trans s6)
          · refine ⟨_, rfl, 10, 9, rfl, rfl, ⟨by decide, by decide, by decide⟩, p, _, rfl, by decide, by decide, s14.src, fun r3 H4 hr3 s5 => ?_⟩
            have hr3' : r3 < 10 ^ 9 := by
              have q : (r3 : Int) < 10 ^ (9 : Int).toNat := hr3
              have e : (10 : Int) ^ (9 : Int).toNat = 1000000000 := by decide
              omega
            have e20 : (10 : Int) ^ (20 : Int).toNat = 100000000000000000000 := by decide
            refine ⟨10, 20, rfl, rfl, ⟨by decide, by decide, by decide⟩, _, _, rfl, rfl, mul_l (by omega) (by omega), _, rfl, 10, 6, rfl, rfl, ⟨by decide, by decide, by decide⟩, p, _, rfl, by decide, by decide, s5.src, fun r4 H5 hr4 s6 => ?_⟩
            have hr4' : r4 < 10 ^ 6 := by
              have q : (r4 : Int) < 10 ^ (6 : Int).toNat := hr4
              have e : (10 : Int) ^ (6 : Int).toNat = 1000000 := by decide
              omega
            refine ⟨_, _, rfl, rfl, ?_⟩
            show Q (.int ((r3 : Int) * (10 : Int) ^ (20 : Int).toNat + (r4 : Int))) H5
            rw [e20]
            have e3 : (r3 : Int) * 100000000000000000000 + (r4 : Int) = ((r3 * 100000000000000000000 + r4 : Nat) : Int) := by omega
            rw [e3]
            exact q _ H5 (by omega) ((s14.trans s5).trans s6)
end
section
variable {P : Program} {w : World} {K : PySem.W.Frag} {mg : Str → Option Value} {base : Heap}
theorem flat_rep {α : Type} (x : α) : ∀ n : Nat, (List.replicate n [x]).flatten = List.replicate n x
  | 0 => rfl
  | n + 1 => by
    rw [List.replicate_succ, List.flatten_cons, flat_rep x n, List.replicate_succ]
    rfl
theorem pick_lv {r : Nat} (h : r < 2) : ([.str "stack", .str "queue"] : List V)[r]? = some (lvV (decide (r = 0))) := by
  match r, h with
  | 0, _ => rfl
  | 1, _ => rfl
  | r + 2, h => omega
theorem pick_vl {r : Nat} (h : r < 2) : ([.str "queue", .str "stack"] : List V)[r]? = some (lvV (decide (r = 1))) := by
  match r, h with
  | 0, _ => rfl
  | 1, _ => rfl
  | r + 2, h => omega
def spLevels : Sp := fun vs H Q _ => ∃ (p : Addr), vs = [.ref p] ∧ SrcAt H p ∧ ∀ H' q (ws : List Bool), Stp p H H' → H q = none → H' q = some (.lst (ws.map lvV)) → ws ≠ [] → ws.length ≤ 60 → Q (.ref q) H'
theorem ok_levels {f : Addr} {fd : FuncData} (F : Fun K "_law_levels" "_law_levels" s__law_levels f fd) (T : Tx K mg) (h1 : Has P w K mg base 2 "_law_next" ["_law_source_here", "_law_many"] [] spNext) : FnOk P w K mg base CX0 3 f fd ["_law_source_here"] spLevels := by
  obtain ⟨f__law_next, fd__law_next, ds__law_next, G__law_next, m__law_next, k__law_next, b__law_next, v__law_next⟩ := h1
  refine F.ok sc__law_levels (fun vs H Q E h => ?_) (fun cdv A outer s H vs Q E hr h => ?_)
  · obtain ⟨p, rfl, _⟩ := h
    rfl
  · obtain ⟨p, rfl, hs, c⟩ := h
    refine ⟨_, (pss_cons (ps_set (i := 1) sc__law_levels.nd rfl (.inl rfl) (pe_ix (ix_listK (K := K) rfl) (pe_lst (pa_cons (pe_op op_add pe_int (pe_call G__law_next hr (by rfl) m__law_next k__law_next b__law_next v__law_next pass0 (pa_cons (pv 0) (pa_cons pe_int pa_nil)))) (pa_cons (pe_op op_add pe_int (pe_call G__law_next hr (by rfl) m__law_next k__law_next b__law_next v__law_next pass0 (pa_cons (pv 0) (pa_cons pe_int pa_nil)))) pa_nil))) (pe_callTy call_int1 (by rfl) T.b_int (by decide +kernel) (pa_cons (pe_cmpR op_eq (pe_call G__law_next hr (by rfl) m__law_next k__law_next b__law_next v__law_next pass0 (pa_cons (pv 0) (pa_cons pe_int pa_nil))) pe_int (nomark _)) pa_nil)) (fun _ _ => rfl)))
      (pss_cons (ps_set (i := 2) sc__law_levels.nd rfl (.inl rfl) (pe_call G__law_next hr (by rfl) m__law_next k__law_next b__law_next v__law_next pass0 (pa_cons (pv 0) (pa_cons pe_int pa_nil))))
      (pss_cons (ps_if (pt_cmpR op_lt (pv 2) pe_int (nomark _))
        (pss_one (ps_ret (pe_op op_rep (pe_lst (pa_cons (pe_ix (ix_listK (K := K) rfl) (pe_lst (pa_cons pe_str (pa_cons pe_str pa_nil))) (pv 2) (fun _ _ => rfl)) pa_nil)) (pv 1))))
        pss_nil)
      (pss_cons (ps_setLc (i := 3) (own := [("_law_at", 4)]) (g := gName 4) (tt := tYes) rfl sc__law_levels.nd rfl rfl (sw_true rfl rfl rfl (by decide +kernel)) (pi_range1 (by rfl) T.b_range (pa_cons (pv 1) pa_nil)) (blkOk_by (own := [("_law_at", 4)]) (N := N__law_levels) (sc := defScope s__law_levels) (by decide +kernel)) (fun _ _ _ _ _ => (pg_name (i := 4) sc__law_levels.nd rfl (.inl rfl))) (fun _ _ _ _ _ => pts_nil) (fun _ _ _ _ _ => (pe_ix (ix_listK (K := K) rfl) (pe_lst (pa_cons pe_str (pa_cons pe_str pa_nil))) (pe_call G__law_next hr (by rfl) m__law_next k__law_next b__law_next v__law_next pass0 (pa_cons (pv 0) (pa_cons pe_int pa_nil))) (fun _ _ => rfl))))
      (pss_cons (ps_if (pt_cmpR op_eq (pv 2) pe_int (nomark _))
        (pss_one (ps_setLc (i := 3) (own := [("_law_at", 4)]) (g := gName 4) (tt := tYes) rfl sc__law_levels.nd rfl rfl (sw_true rfl rfl rfl (by decide +kernel)) (pi_range1 (by rfl) T.b_range (pa_cons (pv 1) pa_nil)) (blkOk_by (own := [("_law_at", 4)]) (N := N__law_levels) (sc := defScope s__law_levels) (by decide +kernel)) (fun _ _ _ _ _ => (pg_name (i := 4) sc__law_levels.nd rfl (.inl rfl))) (fun _ _ _ _ _ => pts_nil) (fun _ _ _ _ _ => (pe_ix (ix_listK (K := K) rfl) (pe_lst (pa_cons pe_str (pa_cons pe_str pa_nil))) (pe_op op_mod (pv 4) pe_int) (fun _ _ => rfl)))))
        pss_nil)
      (pss_one (ps_ret (pv 3)))))))), ?_⟩
    -- many
    refine ⟨_, rfl, p, 6, rfl, by decide, by decide, hs, fun r1 H1 hr1 s1 => ⟨1, r1, rfl, rfl, _, rfl, p, 60, rfl, by decide, by decide, s1.src, fun r2 H2 hr2 s2 => ⟨1, r2, rfl, rfl, by simp [sizeLine_eq], fun l hl => ?_⟩⟩⟩
    have s3 : Stp p H2 (upd H2 l (.lst [.int (1 + (r1 : Int)), .int (1 + (r2 : Int))])) := s2.src.stp_same (same_upd hl)
    refine ⟨_, rfl, p, 5, rfl, by decide, by decide, s3.src, fun r3 H4 hr3 s4 => ⟨rfl, .inr ⟨_, rfl, ?_⟩⟩⟩
    have eL := s4.keep _ _ (s2.src.ne hl) upd_same
    obtain ⟨m, em, hm0, hm⟩ : ∃ m : Nat, ([.int (1 + (r1 : Int)), .int (1 + (r2 : Int))] : List V)[if decide (V.int (r3 : Nat) = V.int 4) = true then 1 else 0]? = some (.int (m : Nat)) ∧ 1 ≤ m ∧ m ≤ 60 := by
      split
      · exact ⟨1 + r2, rfl, by omega, by omega⟩
      · exact ⟨1 + r1, rfl, by omega, by omega⟩
    refine ⟨l, _, ((if decide (V.int (r3 : Nat) = V.int 4) = true then 1 else 0 : Nat) : Int), _, rfl, ?_, SqL.of eL, atI_nat em, ?_⟩
    · split <;> rfl
    have s04 := ((s1.trans s2).trans s3).trans s4
    -- sort
    refine ⟨_, rfl, p, 5, rfl, by decide, by decide, s4.src, fun r5 H5 hr5 s5 => ?_⟩
    have s05 := s04.trans s5
    refine ⟨_, rfl, _, 2, rfl, rfl, _, rfl, ite2 (fun e => ?_) (fun e0 => ?_)⟩
    · have hr2' : r5 < 2 := by
        have z := of_decide_eq_true e
        omega
      refine ⟨by simp [sizeLine_eq], fun l6 hl6 => ?_⟩
      refine ⟨_, rfl, l6, _, r5, _, rfl, rfl, SqL.of upd_same, atI_nat (pick_lv hr2'), by simp [sizeLine_eq], fun l7 hl7 => ?_⟩
      refine ⟨_, rfl, l7, (m : Nat), _, rfl, rfl, upd_same, by omega, by omega, ?_, fun q hq => ?_⟩
      · exact sizeLine_le (by show 1 * m ≤ 1000000; omega)
      · have s8 := ((s05.same (same_upd hl6)).same (same_upd hl7)).same (same_upd (o := .lst (List.replicate ((m : Nat) : Int).toNat [lvV (decide (r5 = 0))]).flatten) hq)
        refine c _ q (List.replicate m (decide (r5 = 0))) s8 ?_ ?_ ?_ ?_
        · exact ((s05.same (same_upd hl6)).same (same_upd hl7)).free hq
        · rw [upd_same, flat_rep, List.map_replicate]
          rfl
        · intro e
          have z := congrArg List.length e
          rw [List.length_replicate] at z
          exact absurd z (by show ¬ m = 0; omega)
        · rw [List.length_replicate]
          exact hm
    · -- drawn words
      refine ⟨_, rfl, m, rfl, by omega, by omega, fun D hD => lc_range (lo := 0) (n := ((m : Nat) : Int).toNat) (fun i H' => Stp p H5 H' ∧ ∃ ws : List Bool, ws.length = i ∧ H' D = some (.lst (ws.map lvV)))
        ⟨s5.src.stp_same (same_upd hD), [], rfl, upd_same⟩ ?_ ?_⟩
      · rintro i H' hi ⟨st, ws, hw, eD⟩
        have nDp : D ≠ p := s5.src.ne hD
        refine ⟨rfl, yesT (iteT ?_)⟩
        refine ⟨by simp [sizeLine_eq], fun l8 hl8 => ?_⟩
        have s8 : Stp p H' (upd H' l8 (.lst [.str "queue", .str "stack"])) := st.src.stp_same (same_upd hl8)
        refine ⟨_, rfl, p, 2, rfl, by decide, by decide, s8.src, fun r9 H9 hr9 s9 => ?_⟩
        have eL8 := s9.keep _ _ (st.src.ne hl8) upd_same
        have eD9 := s9.keep _ _ nDp (s8.keep _ _ nDp eD)
        refine ⟨l8, _, r9, _, rfl, rfl, SqL.of eL8, atI_nat (pick_vl (by omega)), _, eD9, ?_, ⟨fun b o n e => ?_, ?_⟩, ws ++ [decide (r9 = 1)], ?_, ?_⟩
        · rw [List.length_map, hw]
          exact sizeLine_ge (by omega)
        · rw [upd_ne (ne_of_none e hD)]
          exact s9.keep _ _ n (s8.keep _ _ n (st.keep _ _ n e))
        · obtain ⟨x, y, z, h⟩ := s9.src
          exact ⟨x, y, z, by rw [upd_ne nDp.symm]; exact h⟩
        · rw [List.length_append, hw]
          rfl
        · rw [upd_same, List.map_append]
          rfl
      rintro H6 ⟨s6, ws, hw, eD⟩
      have hw' : ws.length = m := by rw [hw]; exact Int.toNat_natCast m
      have s06 := s05.trans s6
      have last : ∀ H7 q (vs : List Bool), Stp p H H7 → H q = none → H7 q = some (.lst (vs.map lvV)) → vs.length = m → Q (.ref q) H7 := fun H7 q vs st hq eq hv =>
        c H7 q vs st hq eq (fun e => by
          rw [e] at hv
          exact absurd hv (by show ¬ 0 = m; omega)) (by omega)
      have hD0 : H D = none := s05.free hD
      refine ⟨_, rfl, rfl, _, rfl, ite2 (fun e => ?_) (fun e => ?_)⟩
      · refine ⟨_, rfl, m, rfl, by omega, by omega, fun D2 hD2 => lc_range (lo := 0) (n := ((m : Nat) : Int).toNat) (fun i H' => Same H6 H' ∧ ∃ ws : List Bool, ws.length = i ∧ H' D2 = some (.lst (ws.map lvV)))
          ⟨same_upd hD2, [], rfl, upd_same⟩ ?_ ?_⟩
        · rintro i H' hi ⟨st, ws2, hw2, eD2⟩
          refine ⟨rfl, yesT (iteT ?_)⟩
          refine ⟨by simp [sizeLine_eq], fun l8 hl8 => ?_⟩
          have s8 := same_upd (o := .lst [.str "queue", .str "stack"]) hl8
          have ei : (0 + (i : Int)) % 2 = ((i % 2 : Nat) : Int) := by omega
          refine ⟨_, rfl, _, 2, rfl, rfl, (by decide : (0 : Int) < 2), l8, _, ((i % 2 : Nat) : Int), _, rfl, congrArg V.int ei, SqL.of upd_same, atI_nat (pick_vl (Nat.mod_lt i (by decide))), _, s8 _ _ eD2, ?_, fun b o e => ?_, ws2 ++ [decide (i % 2 = 1)], ?_, ?_⟩
          · rw [List.length_map, hw2]
            exact sizeLine_ge (by omega)
          · rw [upd_ne (ne_of_none e hD2)]
            exact s8 _ _ (st _ _ e)
          · rw [List.length_append, hw2]
            rfl
          · rw [upd_same, List.map_append]
            rfl
        rintro H7 ⟨s7, ws2, hw2, eD2⟩
        refine ⟨_, rfl, last H7 D2 ws2 (s06.same s7) (s06.free hD2) eD2 ?_⟩
        rw [hw2]
        exact Int.toNat_natCast m
      · exact ⟨_, rfl, last H6 D ws s06 hD0 eD hw'⟩
end
/-! ### the law's loop over its numbers -/
theorem seq_new {K : PySem.W.Frag} {a p : Addr} {xs : List V} {H H1 H2 : Hp} (h : SqL K H a xs) (hp : H p = none) (s1 : Same H H1) (s2 : Stp p H1 H2) : SqL K H2 a xs := by
  rcases h with (h | ⟨o, h⟩) | h
  · exact .inl (.inl (s2.keep _ _ (ne_of_none h hp) (s1 _ _ h)))
  · exact .inl (.inr ⟨o, s2.keep _ _ (ne_of_none h hp) (s1 _ _ h)⟩)
  · exact .inr h
/-! ### the law goes from event to event -/
/-- timers as they may stand in the law's wheel -/
structure LOk (t top : Nat) (ms : List Tm) : Prop where
  tms : ∀ m ∈ ms, m.since ≤ t ∧ t < m.due ∧ m.due < 2 ^ 250
  per : ∀ m ∈ ms, ∀ k, m.per = some k → 1 ≤ k ∧ top + k < 2 ^ 250
  nd : (ms.map (·.num)).Nodup
  few : ms.length ≤ 1000
/-- behind an event the timers stand well again -/
theorem LOk.event {b : Nat} {ws : List Bool} {t e top : Nat} {ms : List Tm} (hb : 2 ≤ b) (h : LOk t top ms) (hte : t < e) (htop : e ≤ top) (he : ∀ m ∈ ms, e ≤ evT b t m.due) : LOk e top (afterF e ms (orderAt b ws e ms)) := by
  have hdue : ∀ m ∈ ms, e ≤ m.due := fun m hm => Nat.le_trans (he m hm) (evT_le hb (h.tms m hm).2.1)
  have hafter := after_due (b := b) (ws := ws) (t := e) h.nd
  have mem : ∀ m ∈ afterF e ms (orderAt b ws e ms), (m ∈ ms ∧ m.due ≠ e) ∨ ∃ m0 ∈ ms, ∃ k, m0.per = some k ∧ m = ⟨m0.num, e + k, some k, e⟩ := fun m hm => by
    rw [hafter] at hm
    rcases List.mem_append.mp hm with z | z
    · obtain ⟨z1, z2⟩ := List.mem_filter.mp z
      exact .inl ⟨z1, of_decide_eq_true z2⟩
    · obtain ⟨m0, z1, z2⟩ := List.mem_filterMap.mp z
      obtain ⟨k, k1, k2⟩ := again_of z2
      exact .inr ⟨m0, (List.mem_filter.mp (mem_deq.mp z1)).1, k, k1, k2⟩
  refine ⟨fun m hm => ?_, fun m hm k hk => ?_, ?_, ?_⟩
  · rcases mem m hm with ⟨z1, z2⟩ | ⟨m0, z1, k, z2, rfl⟩
    · have a := h.tms m z1
      have c := hdue m z1
      exact ⟨by omega, by omega, a.2.2⟩
    · have p := h.per m0 z1 k z2
      exact ⟨Nat.le_refl _, Nat.lt_add_of_pos_right p.1, (by show e + k < _; omega)⟩
  · rcases mem m hm with ⟨z1, z2⟩ | ⟨m0, z1, k', z2, rfl⟩
    · exact h.per m z1 k hk
    · have z3 : k' = k := Option.some.inj hk
      rw [← z3]
      exact h.per m0 z1 k' z2
  · unfold afterF
    have all : ∀ (ns : List Nat) (l : List Tm), (l.map (·.num)).Nodup → ((ns.foldl (fireT e) l).map (·.num)).Nodup := by
      intro ns
      induction ns with
      | nil => exact fun l nd => nd
      | cons n ns ih => exact fun l nd => ih _ (fireN_nodup nd)
    exact all _ _ h.nd
  · rw [hafter, List.length_append]
    have z1 := List.length_filterMap_le (againM e) (deq (fun m => sideT b ws m.since m.due 0) (ms.filter fun m => decide (m.due = e)))
    rw [deq_len] at z1
    have z2 : (ms.filter fun m => decide (m.due ≠ e)).length + (ms.filter fun m => decide (m.due = e)).length = ms.length := by
      have y := (List.filter_append_perm (fun m : Tm => decide (m.due = e)) ms).length_eq
      rw [List.length_append] at y
      have e1 : ms.filter (fun x => !decide (x.due = e)) = ms.filter fun m => decide (m.due ≠ e) := List.filter_congr fun m _ => by
        by_cases c : m.due = e
        · rw [decide_eq_true c, decide_eq_false (fun z => z c)]
          rfl
        · rw [decide_eq_false c, decide_eq_true c]
          rfl
      rw [e1] at y
      omega
    have := h.few
    omega
/-- when no list is emptied on the way, the lists stay -/
theorem stM_stay {b : Nat} {ws : List Bool} {t u : Nat} {ms : List Tm} {p : Nat × Nat} (hb : 2 ≤ b) (htu : t ≤ u) (h : ∀ m ∈ ms, t < m.due ∧ u < evT b t m.due) : stM b ws u ms p = stM b ws t ms p := by
  unfold stM
  congr 1
  refine List.filter_congr fun m hm => ?_
  have z := lev_stays hb (h m hm).1 htu (h m hm).2
  unfold placeT
  rw [z.2]
theorem stM_len (b : Nat) (ws : List Bool) (t : Nat) (ms : List Tm) (p : Nat × Nat) : (stM b ws t ms p).length ≤ ms.length := by
  unfold stM
  rw [deq_len]
  exact List.length_filter_le _ _
theorem exists_zer {b e : Nat} (hb : 2 ≤ b) (he : 0 < e) : ∃ h, IsZer b e h := by
  have z : ∃ h, e / b ^ h % b ≠ 0 ∧ ∀ i, i < h → e / b ^ i % b = 0 := by
    have l := levT_is hb he
    have dg := l.digit he
    obtain ⟨k, h1, h2⟩ := least_nat (p := fun k => e / b ^ k % b ≠ 0) (levT b 0 e) (by
      have z0 : e / b ^ levT b 0 e % b ≠ 0 := by omega
      exact z0)
    exact ⟨k, h1, fun i hi => Classical.byContradiction fun no => h2 i hi no⟩
  obtain ⟨h, h1, h2⟩ := z
  exact ⟨h, zer_low hb h h2, h1⟩
/-! how many cells there are: those that are empty, and those in which a timer stands -/
def emp (cs : List LCell) : Nat := (cs.filter fun c => c.2.isEmpty).length
theorem emp_app (cs cs' : List LCell) : emp (cs ++ cs') = emp cs + emp cs' := by
  unfold emp
  rw [List.filter_append, List.length_append]
theorem emp_cons (c : LCell) (cs : List LCell) : emp (c :: cs) = emp cs + if c.2.isEmpty = true then 1 else 0 := by
  unfold emp
  by_cases h : c.2.isEmpty = true
  · rw [List.filter_cons_of_pos (p := fun c : LCell => c.2.isEmpty) h, List.length_cons, if_pos h]
  · rw [List.filter_cons_of_neg (p := fun c : LCell => c.2.isEmpty) h, if_neg h, Nat.add_zero]
theorem emp_put {k : Nat × Nat} {l : List Tm} (hl : l ≠ []) (cs : List LCell) : emp (lput cs k l) ≤ emp cs := by
  have hl2 : ¬ l.isEmpty = true := fun z => hl (List.isEmpty_iff.mp z)
  unfold lput
  split
  · rename_i h
    clear h
    induction cs with
    | nil => exact Nat.le_refl _
    | cons c cs ih =>
      rw [List.map_cons, emp_cons, emp_cons]
      have z : (if (if c.1 = k then (c.1, l) else c).2.isEmpty = true then 1 else 0) ≤ if c.2.isEmpty = true then 1 else 0 := by
        by_cases e : c.1 = k
        · rw [if_pos e, if_neg hl2]
          exact Nat.zero_le _
        · rw [if_neg e]
          exact Nat.le_refl _
      exact Nat.add_le_add ih z
  · rw [emp_app, emp_cons, if_neg hl2]
    exact Nat.le_refl _
theorem emp_drop (cs : List LCell) (k : Nat × Nat) : emp (ldrop cs k) ≤ emp cs := by
  unfold emp ldrop
  rw [List.filter_filter]
  have e : cs.filter (fun c => c.2.isEmpty && decide (c.1 ≠ k)) = (cs.filter fun c => c.2.isEmpty).filter fun c => decide (c.1 ≠ k) := by
    rw [List.filter_filter]
    exact List.filter_congr fun c _ => Bool.and_comm _ _
  rw [e]
  exact List.length_filter_le _ _
theorem ins_ne (w : Bool) (m : Tm) (l : List Tm) : insM w m l ≠ [] := fun e => by
  have z := congrArg List.length e
  rw [ins_len] at z
  cases z
theorem emp_place {b : Nat} {ws : List Bool} {t : Nat} : ∀ (l : List Tm) (cs : List LCell), emp (l.foldl (lplace b ws t) cs) ≤ emp cs
  | [], _ => Nat.le_refl _
  | m :: l, cs => Nat.le_trans (emp_place l _) (emp_put (ins_ne _ _ _) cs)
theorem emp_pass {b : Nat} {ws : List Bool} {e h : Nat} (cs : List LCell) : emp (lpass b ws e h cs) ≤ emp cs := Nat.le_trans (emp_place _ _) (Nat.le_trans (emp_place _ _) (emp_drop _ _))
theorem cells_len {b : Nat} {ws : List Bool} {t : Nat} {ms : List Tm} {cs : List LCell} (nk : (cs.map (·.1)).Nodup) (hcs : ∀ p, gv cs p = stM b ws t ms p) : cs.length ≤ emp cs + ms.length := by
  have e1 : (cs.filter fun c => c.2.isEmpty).length + (cs.filter fun c => !c.2.isEmpty).length = cs.length := by
    have y := (List.filter_append_perm (fun c : LCell => c.2.isEmpty) cs).length_eq
    rw [List.length_append] at y
    exact y
  have e2 : (cs.filter fun c => !c.2.isEmpty).length ≤ ms.length := by
    have z := nodup_le ((cs.filter fun c => !c.2.isEmpty).map (·.1)) (ms.map fun m => placeT b t m.due) (nk.sublist (List.Sublist.map _ List.filter_sublist)) fun k hk => by
      obtain ⟨c, hc, e⟩ := List.mem_map.mp hk
      obtain ⟨h1, h2⟩ := List.mem_filter.mp hc
      have g := gv_mem nk h1
      rw [hcs] at g
      cases el : c.2 with
      | nil =>
        rw [el] at h2
        cases h2
      | cons m l =>
        have hm : m ∈ stM b ws t ms c.1 := by
          rw [g, el]
          exact List.mem_cons_self ..
        obtain ⟨h3, h4⟩ := List.mem_filter.mp (mem_deq.mp hm)
        exact List.mem_map.mpr ⟨m, h3, (of_decide_eq_true h4).trans e⟩
    rw [List.length_map, List.length_map] at z
    exact z
  unfold emp
  omega
/-! ### the law goes from event to event: the run -/
section
variable {P : Program} {w : World} {K : PySem.W.Frag} {mg : Str → Option Value} {base : Heap}
/-- what the law's run finds: rows of the tick and the numbers -/
def spRun (K : PySem.W.Frag) : Sp := fun vs H Q _ => ∃ (a q : Addr) (b t last : Nat) (ws : List Bool) (ms ms' : List Tm) (fs : List (Nat × List Nat)) (cs : List LCell) (ps : List Addr), vs = [.ref a, .int (b : Nat), .ref q, .int (t : Nat), .int (last : Nat)] ∧ 2 ≤ b ∧ b ≤ 64 ∧ SqL K H q (ws.map lvV) ∧ ws ≠ [] ∧ last < 2 ^ 250 ∧ t ≤ last ∧
  LW H a cs ps ∧ emp cs ≤ 5000 ∧ (∀ p, gv cs p = stM b ws t ms p) ∧ LOk t last ms ∧ AdvTo b ws last ms fs ms' ∧ fs.length ≤ 2000 ∧
  ∀ H' ps' cs' r ts, Lk a ps H H' ps' → LW H' a cs' ps' → emp cs' ≤ emp cs → (∀ p, gv cs' p = stM b ws last ms' p) → H r = none → r ≠ a → r ∉ ps' → H' r = some (.lst (ts.map V.ref)) → FiredAt r H' ts fs → LOk last last ms' → Q (.ref r) H'
theorem FiredAt.frameNE {r : Addr} {H H' : Hp} (s : ∀ t a u, H t = some (.tup [a, .ref u]) → H' t = some (.tup [a, .ref u])) (s2 : ∀ u (xs : List Nat), u ≠ r → xs ≠ [] → H u = some (.lst (xs.map fun x => V.int (x : Nat))) → H' u = some (.lst (xs.map fun x => V.int (x : Nat)))) : ∀ {ts : List Addr} {fs : List (Nat × List Nat)}, (∀ f ∈ fs, f.2 ≠ []) → FiredAt r H ts fs → FiredAt r H' ts fs
  | [], [], _, _ => trivial
  | _ :: _, f :: _, hn, ⟨⟨u, h1, hu, h2⟩, h3⟩ => ⟨⟨u, s _ _ _ h1, hu, s2 _ _ hu (hn f (List.mem_cons_self ..)) h2⟩, h3.frameNE s s2 fun g hg => hn g (List.mem_cons_of_mem _ hg)⟩
  | [], _ :: _, _, h => h.elim
  | _ :: _, [], _, h => h.elim
/-- a list of numbers that is not empty is none of the wheel's lists -/
theorem LW.nums {H : Hp} {a u : Addr} {cs : List LCell} {ps : List Addr} {xs : List Nat} (h : LW H a cs ps) (hne : xs ≠ []) (hu : H u = some (.lst (xs.map fun x => V.int (x : Nat)))) : u ≠ a ∧ u ∉ ps := by
  refine ⟨fun z => ?_, fun hm => ?_⟩
  · obtain ⟨kv, y, _⟩ := h.dict
    rw [z, y] at hu
    cases hu
  · obtain ⟨ts, y⟩ := h.lists _ hm
    rw [y] at hu
    have e := HO.lst.inj (Option.some.inj hu)
    cases xs with
    | nil => exact hne rfl
    | cons x xs =>
      cases ts with
      | nil => cases e
      | cons t ts => cases (List.cons.inj e).1
def tickLeft (last : Nat) (σ : L2.St) : Nat := match σ[(6 : Nat)]? with
  | some (some (.int z)) => last + 1 - z.toNat
  | _ => 0
theorem ok_law_run {f : Addr} {fd : FuncData} (F : Fun K "_law_run" "_law_run" s__law_run f fd) (T : Tx K mg) (h0 : Has P w K mg base 1 "_law_next_event" ["_law_lists", "_law_base_here", "_law_now"] [] spNextEv)
    (h2 : Has P w K mg base 3 "_law_pass" ["_law_lists", "_law_base_here", "_law_levels_here", "_law_tick_here"] [] (spPass K)) : FnOk P w K mg base CX0 4 f fd ["_law_lists", "_law_base_here", "_law_levels_here", "_law_now", "_law_last"] (spRun K) := by
  obtain ⟨f__law_next_event, fd__law_next_event, ds__law_next_event, G__law_next_event, m__law_next_event, k__law_next_event, b__law_next_event, v__law_next_event⟩ := h0
  obtain ⟨f__law_pass, fd__law_pass, ds__law_pass, G__law_pass, m__law_pass, k__law_pass, b__law_pass, v__law_pass⟩ := h2
  refine F.ok sc__law_run (fun vs H Q E h => ?_) (fun cdv A outer s H vs Q E hr h => ?_)
  · obtain ⟨a, q, b, t, last, ws, ms, ms', fs, cs, ps, rfl, _⟩ := h
    rfl
  · obtain ⟨a, q, b, t0, last, ws, ms0, msE, fs, cs, ps, rfl, hb, hb64, hL, hne, hbig, htl, hW, few, hcs, hok, hadv, hfs, c⟩ := h
    refine ⟨_, (pss_cons (ps_set (i := 5) sc__law_run.nd rfl (.inl rfl) (pe_lst pa_nil))
      (pss_cons (ps_set (i := 6) sc__law_run.nd rfl (.inl rfl) (pe_call G__law_next_event (hr.mono (by decide)) (by rfl) m__law_next_event k__law_next_event b__law_next_event v__law_next_event pass0 (pa_cons (pv 0) (pa_cons (pv 1) (pa_cons (pv 3) pa_nil)))))
      (pss_cons (ps_while PassesOwn.never (PW.pt (pw_and (pt_cmpR op_notN (pv 6) pe_non (nomark _)) (pw_and (pt_cmpR op_le (pv 6) (pv 4) (nomark _)) (pw_and1 (pt_cmpR op_lt (pe_callB (lenK (K := K) rfl) (by rfl) T.b_len PySem.boot_len (pa_cons (pv 5) pa_nil)) pe_int (nomark _))))))
        (pss_cons (ps_set (i := 7) sc__law_run.nd rfl (.inl rfl) (pe_call G__law_pass hr (by rfl) m__law_pass k__law_pass b__law_pass v__law_pass pass0 (pa_cons (pv 0) (pa_cons (pv 1) (pa_cons (pv 2) (pa_cons (pv 6) pa_nil))))))
        (pss_cons (ps_if (pt_cmpR (op_neK (K := K) rfl hr.units) (pv 7) (pe_lst pa_nil) (nomark _))
          (pss_one (ps_expr (pe_bm PySem.F.plainAttrs_list PySem.F.slot_list_append PySem.F.type_list_append mt_append (pv 5) (pa_cons (pe_tup (pa_cons (pv 6) (pa_cons (pv 7) pa_nil))) pa_nil))))
          pss_nil)
        (pss_one (ps_set (i := 6) sc__law_run.nd rfl (.inl rfl) (pe_call G__law_next_event (hr.mono (by decide)) (by rfl) m__law_next_event k__law_next_event b__law_next_event v__law_next_event pass0 (pa_cons (pv 0) (pa_cons (pv 1) (pa_cons (pv 6) pa_nil)))))))))
      (pss_one (ps_ret (pv 5)))))), ?_⟩
    refine ⟨by simp [sizeLine_eq], fun R hR0 => ?_⟩
    have s1 := same_upd (o := .lst []) hR0
    have eR1 : (upd H R (.lst [])) R = some (.lst []) := upd_same
    have hW1 := hW.same s1
    have hRa : R ≠ a := fun z => by
      obtain ⟨kv, y, _⟩ := hW.dict
      rw [← z, hR0] at y
      cases y
    have hRp : R ∉ ps := fun hm => by
      obtain ⟨ts', y⟩ := hW.lists _ hm
      rw [hR0] at y
      cases y
    generalize upd H R (.lst []) = H1 at s1 eR1 hW1 ⊢
    refine ⟨_, rfl, _, rfl, _, rfl, a, _, b, t0, ws, ms0, cs, ps, rfl, hb, hb64, hW1, ?_, hcs, fun m hm => (hok.tms m hm).2, fun H2 s2 => ?_⟩
    · have z := cells_len hW.nk hcs
      have := hok.few
      omega
    refine while_by (fun σ H' => ∃ (t : Nat) (msi : List Tm) (done rest : List (Nat × List Nat)) (csi : List LCell) (psi ts : List Addr) (y7 : Option V), σ = [some (.ref a), some (.int (b : Nat)), some (.ref q), some (.int (t0 : Nat)), some (.int (last : Nat)), some (.ref R), some (perV (nextE b t msi)), y7] ∧ fs = done ++ rest ∧ AdvTo b ws last msi rest msE ∧ t ≤ last ∧
        LOk t last msi ∧ (∀ p, gv csi p = stM b ws t msi p) ∧ emp csi ≤ emp cs ∧ Lk a ps H H' psi ∧ LW H' a csi psi ∧ R ∉ psi ∧ H' R = some (.lst (ts.map V.ref)) ∧ FiredAt R H' ts done ∧ ∀ f ∈ done, f.2 ≠ []) (fun σ _ => tickLeft last σ)
      ⟨t0, ms0, [], fs, cs, ps, [], none, rfl, rfl, hadv, htl, hok, hcs, Nat.le_refl _, .ofSame (s1.trans s2), hW1.same s2, hRp, s2 _ _ eR1, trivial, fun f hf => by cases hf⟩ ?_ ?_
    · rintro σ H' ⟨t, msi, done, rest, csi, psi, ts, y7, rfl, efs, advi, hti, oki, hci, hemp, lki, hWi, hRi, eR, hFA, hNE⟩
      -- the end: no event up to the last tick
      have fin : (∀ m ∈ msi, last < evT b t m.due) → Q (.ref R) H' := fun hev => by
        have hd : ∀ m ∈ msi, last < m.due := fun m hm => Nat.lt_of_lt_of_le (hev m hm) (evT_le hb (oki.tms m hm).2.1)
        obtain ⟨e1, e2⟩ := advi.none_due hd
        rw [e1, List.append_nil] at efs
        refine c H' psi csi R ts lki hWi hemp (fun p => ?_) hR0 hRa hRi eR (by rw [efs]; exact hFA) ?_
        · rw [hci, e2]
          exact (stM_stay hb hti fun m hm => ⟨(oki.tms m hm).2.1, hev m hm⟩).symm
        · rw [e2]
          exact ⟨fun m hm => ⟨Nat.le_trans (oki.tms m hm).1 hti, hd m hm, (oki.tms m hm).2.2⟩, oki.per, oki.nd, oki.few⟩
      cases hne' : nextE b t msi with
      | none =>
        have e : msi = [] := by
          unfold nextE at hne'
          rw [List.min?_eq_none_iff, List.map_eq_nil_iff] at hne'
          exact hne'
        exact ⟨_, rfl, rfl, false, rfl, iteF (iteF ⟨_, rfl, fin (by rw [e]; intro m hm; cases hm)⟩)⟩
      | some e =>
        obtain ⟨hmem, hmin⟩ := List.min?_eq_some_iff.mp hne'
        have hmin' : ∀ m ∈ msi, e ≤ evT b t m.due := fun m hm => hmin _ (List.mem_map.mpr ⟨m, hm, rfl⟩)
        obtain ⟨mE, hmE, eE⟩ := List.mem_map.mp hmem
        have hte : t < e := by
          rw [← eE]
          exact evT_gt hb (oki.tms mE hmE).2.1
        by_cases hel : e ≤ last
        · have hlen : done.length ≤ 2000 := by
            have z := congrArg List.length efs
            rw [List.length_append] at z
            omega
          have htsl : ts.length ≤ 2000 := by
            rw [hFA.len]
            exact hlen
          refine ⟨_, rfl, rfl, true, rfl, iteT ⟨_, rfl, _, rfl, (e : Nat), (last : Nat), rfl, rfl, true, dT (Int.ofNat_le.mpr hel), iteT ⟨.ref R, rfl, R, _, rfl, .inl (SqL.of eR), ((ts.map V.ref).length : Nat), 2001, rfl, rfl, true, dT ?_, iteT ?_⟩⟩⟩
          · rw [List.length_map]
            omega
          have he0 : 0 < e := Nat.lt_of_le_of_lt (Nat.zero_le _) hte
          obtain ⟨h, hz⟩ := exists_zer hb he0
          have hmem : ∀ p, ∀ m ∈ gv csi p, m ∈ msi := fun p m hm => by
            rw [hci] at hm
            exact (List.mem_filter.mp (mem_deq.mp hm)).1
          obtain ⟨pF, pS⟩ := lw_pass (ws := ws) hb hz hte (fun m hm => ⟨(oki.tms m hm).1, (oki.tms m hm).2.1, hmin' m hm⟩) hci
          have hord : ((gv csi (keyE b e h)).filter fun m => decide (m.due = e)).map (·.num) = orderAt b ws e msi := by
            rw [pF, order_deq]
          have haft := after_due (b := b) (ws := ws) (t := e) oki.nd
          have pS' : ∀ p, gv (lpass b ws e h csi) p = stM b ws e (afterF e msi (orderAt b ws e msi)) p := fun p => by
            rw [haft]
            exact pS p fun m hm k hk => (oki.per m hm k hk).1
          have ok' := oki.event (ws := ws) hb hte hel hmin'
          refine ⟨_, rfl, _, rfl, _, rfl, _, rfl, a, q, b, e, h, ws, csi, psi, rfl, hb, hb64, hW.words lki hne hL, hne, hz, Nat.lt_of_le_of_lt hel hbig, hWi, ?_, fun p => ?_, fun m hm => ?_, fun H3 ps3 r3 lk3 hW3 hr30 hr3a hr3p er3 => ?_⟩
          · have z := cells_len hWi.nk hci
            have := oki.few
            omega
          · rw [hci]
            have z := stM_len b ws t msi p
            have := oki.few
            omega
          · have hm' := hmem _ m hm
            have d1 := evT_le hb (oki.tms m hm').2.1
            have d2 := hmin' m hm'
            exact ⟨by omega, (oki.tms m hm').2.2, fun _ k hk => ⟨(oki.per m hm' k hk).1, by have := (oki.per m hm' k hk).2; omega⟩⟩
          have eR3 := lk3.keep R _ hRa hRi eR
          have er3' : H3 r3 = some (.lst ((orderAt b ws e msi).map fun x => V.int (x : Nat))) := by
            rw [er3, ← hord, List.map_map]
            rfl
          have lk03 := lki.trans lk3
          have nrR : r3 ≠ R := fun z => by
            rw [z, eR] at hr30
            cases hr30
          have hRp3 : R ∉ ps3 := fun hm => by
            rcases lk3.new R hm with z | z
            · exact hRi z
            · rw [eR] at z
              cases z
          have hFA3 : FiredAt R H3 ts done := hFA.frameNE (fun t' x u e => lk3.keep _ _ (fun z => by
            obtain ⟨kv, y, _⟩ := hWi.dict
            rw [z, y] at e
            cases e) (fun z => by
            obtain ⟨ts', y⟩ := hWi.lists _ z
            rw [y] at e
            cases e) e) (fun u xs hu hx e => lk3.keep u _ (hWi.nums hx e).1 (hWi.nums hx e).2 e) hNE
          have heE : emp (lpass b ws e h csi) ≤ emp cs := Nat.le_trans (emp_pass csi) hemp
          refine ⟨_, rfl, by simp [sizeLine_eq], fun el hel0 => ?_⟩
          have s4 := same_upd (o := .lst []) hel0
          have eel : (upd H3 el (.lst [])) el = some (.lst []) := upd_same
          have hW4 := hW3.same s4
          have eR4 := s4 _ _ eR3
          have er4 := s4 _ _ er3'
          have lk04 := lk03.trans (.ofSame s4)
          have hFA4 := hFA3.same s4
          generalize upd H3 el (.lst []) = H4 at s4 eel hW4 eR4 er4 lk04 hFA4 ⊢
          refine ⟨.list ((orderAt b ws e msi).map fun x => PyData.int (x : Nat)), .list [], .lst (SqL.of er4) (dp_nats _), .lst (SqL.of eel) .nil, nats_shaped _, rfl, ?_⟩
          -- what follows, however it went
          have nxt : ∀ (H5 H6 : Hp) (ts5 : List Addr) (done5 rest5 : List (Nat × List Nat)) (z7 : Option V), Lk a ps H H5 ps3 → LW H5 a (lpass b ws e h csi) ps3 → H5 R = some (.lst (ts5.map V.ref)) → FiredAt R H5 ts5 done5 → (∀ f ∈ done5, f.2 ≠ []) → fs = done5 ++ rest5 → AdvTo b ws last (afterF e msi (orderAt b ws e msi)) rest5 msE → Same H5 H6 →
              (∃ (t2 : Nat) (ms2 : List Tm) (done2 rest2 : List (Nat × List Nat)) (cs2 : List LCell) (ps2 ts2 : List Addr) (y2 : Option V), ([some (.ref a), some (.int (b : Nat)), some (.ref q), some (.int (t0 : Nat)), some (.int (last : Nat)), some (.ref R), some (perV (nextE b e (afterF e msi (orderAt b ws e msi)))), z7] : L2.St) = [some (.ref a), some (.int (b : Nat)), some (.ref q), some (.int (t0 : Nat)), some (.int (last : Nat)), some (.ref R), some (perV (nextE b t2 ms2)), y2] ∧ fs = done2 ++ rest2 ∧ AdvTo b ws last ms2 rest2 msE ∧ t2 ≤ last ∧
                LOk t2 last ms2 ∧ (∀ p, gv cs2 p = stM b ws t2 ms2 p) ∧ emp cs2 ≤ emp cs ∧ Lk a ps H H6 ps2 ∧ LW H6 a cs2 ps2 ∧ R ∉ ps2 ∧ H6 R = some (.lst (ts2.map V.ref)) ∧ FiredAt R H6 ts2 done2 ∧ ∀ f ∈ done2, f.2 ≠ []) ∧
              tickLeft last [some (.ref a), some (.int (b : Nat)), some (.ref q), some (.int (t0 : Nat)), some (.int (last : Nat)), some (.ref R), some (perV (nextE b e (afterF e msi (orderAt b ws e msi)))), z7] < tickLeft last [some (.ref a), some (.int (b : Nat)), some (.ref q), some (.int (t0 : Nat)), some (.int (last : Nat)), some (.ref R), some (perV (some e)), y7] := by
            intro H5 H6 ts5 done5 rest5 z7 lk5 hW5 eR5 hFA5 hNE5 efs5 adv5 s6
            refine ⟨⟨e, _, done5, rest5, _, ps3, ts5, z7, rfl, efs5, adv5, hel, ok', pS', heE, lk5.trans (.ofSame s6), hW5.same s6, hRp3, s6 _ _ eR5, hFA5.same s6, hNE5⟩, ?_⟩
            have e1 : tickLeft last [some (.ref a), some (.int (b : Nat)), some (.ref q), some (.int (t0 : Nat)), some (.int (last : Nat)), some (.ref R), some (perV (some e)), y7] = last + 1 - e := rfl
            rw [e1]
            cases en : nextE b e (afterF e msi (orderAt b ws e msi)) with
            | none =>
              show 0 < last + 1 - e
              omega
            | some e2 =>
              show last + 1 - e2 < last + 1 - e
              obtain ⟨m, hm, em⟩ := List.mem_map.mp (List.min?_eq_some_iff.mp en).1
              have := evT_gt hb (ok'.tms m hm).2.1
              omega
          have hcl : (lpass b ws e h csi).length ≤ 50000 := by
            have z := cells_len hW3.nk pS'
            have := ok'.few
            omega
          have hdl : ∀ m ∈ afterF e msi (orderAt b ws e msi), e < m.due ∧ m.due < 2 ^ 250 := fun m hm => (ok'.tms m hm).2
          by_cases hF : orderAt b ws e msi = []
          · -- nothing fires
            have e1 : afterF e msi (orderAt b ws e msi) = msi := by
              rw [hF]
              rfl
            refine ⟨false, by rw [hF]; rfl, iteF ?_⟩
            refine ⟨_, rfl, _, rfl, _, rfl, a, _, b, e, ws, _, _, ps3, rfl, hb, hb64, hW4, hcl, pS', hdl, fun H6 s6 => ?_⟩
            exact nxt H4 H6 ts done rest _ lk04 hW4 eR4 hFA4 hNE efs (by rw [e1]; exact advi) s6
          · obtain ⟨n0, hn0⟩ : ∃ n, n ∈ orderAt b ws e msi := by
              cases eo : orderAt b ws e msi with
              | nil => exact absurd eo hF
              | cons n l => exact ⟨n, List.mem_cons_self ..⟩
            obtain ⟨m0, hm0, hd0, _⟩ := order_mem.mp hn0
            have hleast : leastD msi = some e := least_some.mpr ⟨List.mem_map.mpr ⟨m0, hm0, hd0⟩, fun x hx => by
              obtain ⟨m, hm, rfl⟩ := List.mem_map.mp hx
              exact Nat.le_trans (hmin' m hm) (evT_le hb (oki.tms m hm).2.1)⟩
            have hstep : ∃ rest', rest = (e, orderAt b ws e msi) :: rest' ∧ AdvTo b ws last (afterF e msi (orderAt b ws e msi)) rest' msE := by
              cases advi with
              | done hd =>
                have := hd m0 hm0
                omega
              | @step _ _ at_ rest' hle hat okm ndm fewm radv =>
                have ee : at_ = e := Option.some.inj (hle.symm.trans hleast)
                subst ee
                exact ⟨rest', rfl, radv⟩
            obtain ⟨rest', erest, radv⟩ := hstep
            refine ⟨true, ?_, iteT ?_⟩
            · cases eo : orderAt b ws e msi with
              | nil => exact absurd eo hF
              | cons n l => rfl
            refine ⟨_, rfl, .inl ⟨rfl, _, .inl (.inl eR4)⟩, _, rfl, _, rfl, by simp [sizeLine_eq], fun u hu0 => ?_⟩
            have su := same_upd (o := .tup [perV (some e), .ref r3]) hu0
            have eRu := su _ _ eR4
            refine ⟨R, _, _, rfl, rfl, eRu, by rw [List.length_map]; exact sizeLine_ge (by omega), ?_⟩
            have k4 : ∀ c o, c ≠ R → H4 c = some o → (upd (upd H4 u (.tup [perV (some e), .ref r3])) R (.lst (ts.map V.ref ++ [.ref u]))) c = some o := fun c o n e => by
              rw [upd_ne n]
              exact su _ _ e
            have nuR : u ≠ R := fun z => by
              rw [z, eR4] at hu0
              cases hu0
            have eu : (upd (upd H4 u (.tup [perV (some e), .ref r3])) R (.lst (ts.map V.ref ++ [.ref u]))) u = some (.tup [.int (e : Nat), .ref r3]) := by
              rw [upd_ne nuR]
              exact upd_same
            have eR5 : (upd (upd H4 u (.tup [perV (some e), .ref r3])) R (.lst (ts.map V.ref ++ [.ref u]))) R = some (.lst ((ts ++ [u]).map V.ref)) := by
              rw [upd_same, List.map_append]
              rfl
            have hW5 : LW (upd (upd H4 u (.tup [perV (some e), .ref r3])) R (.lst (ts.map V.ref ++ [.ref u]))) a (lpass b ws e h csi) ps3 := hW4.frame fun c o hc e => by
              refine k4 c o (fun z => ?_) e
              rcases hc with hc | hc | ⟨xs, hc⟩
              · exact hRa (z.symm.trans hc)
              · exact hRp3 (by rw [← z]; exact hc)
              · rw [z, eR4, hc] at e
                cases e
            have hFA5 : FiredAt R (upd (upd H4 u (.tup [perV (some e), .ref r3])) R (.lst (ts.map V.ref ++ [.ref u]))) (ts ++ [u]) (done ++ [(e, orderAt b ws e msi)]) := by
              refine FiredAt.app (hFA4.frame (fun t' x u' e => k4 _ _ (ne_of e eR4 (by intro z; cases z)) e) fun u' xs hu' e => k4 _ _ hu' e) ⟨r3, eu, nrR, k4 _ _ nrR er4⟩
            have lk05 : Lk a ps H (upd (upd H4 u (.tup [perV (some e), .ref r3])) R (.lst (ts.map V.ref ++ [.ref u]))) ps3 := ⟨fun c o n1 n2 e => k4 c o (fun z => by rw [z, hR0] at e; cases e) (lk04.keep c o n1 n2 e), lk04.new, fun c e => lk04.stay c (upd_none (upd_none e))⟩
            generalize upd (upd H4 u (.tup [perV (some e), .ref r3])) R (.lst (ts.map V.ref ++ [.ref u])) = H5 at eu eR5 hW5 hFA5 lk05 ⊢
            refine ⟨_, rfl, _, rfl, _, rfl, a, _, b, e, ws, _, _, ps3, rfl, hb, hb64, hW5, hcl, pS', hdl, fun H6 s6 => ?_⟩
            refine nxt H5 H6 (ts ++ [u]) (done ++ [(e, orderAt b ws e msi)]) rest' _ lk05 hW5 eR5 hFA5 (fun f hf => ?_) ?_ radv s6
            · rcases List.mem_append.mp hf with hf | hf
              · exact hNE f hf
              · rw [List.mem_singleton.mp hf]
                exact hF
            · rw [efs, erest, List.append_assoc]
              rfl
        · refine ⟨_, rfl, rfl, true, rfl, iteT ⟨_, rfl, _, rfl, (e : Nat), (last : Nat), rfl, rfl, false, dF (fun z => hel (Int.ofNat_le.mp z)), iteF (iteF ⟨_, rfl, fin fun m hm => ?_⟩)⟩⟩
          have := hmin' m hm
          omega
    · rintro σ H' Q1 Q2 h ⟨x, hx, e1, k, e, z⟩
      refine ⟨x, hx, e1, k, e, ?_⟩
      cases k with
      | false => exact iteF (h _ _ (by rw [if_neg Bool.false_ne_true] at z; exact z))
      | true =>
        rw [if_pos rfl] at z
        refine iteT ?_
        obtain ⟨x1, hx1, x2, hx2, i, j, e2, e3, k', e4, zz⟩ := z
        refine ⟨x1, hx1, x2, hx2, i, j, e2, e3, k', e4, ?_⟩
        cases k' with
        | false => exact iteF (h _ _ (by rw [if_neg Bool.false_ne_true] at zz; exact zz))
        | true =>
          rw [if_pos rfl] at zz
          refine iteT ?_
          obtain ⟨x3, hx3, p3, ys3, e5, sq3, i3, j3, e6, e7, k3, e8, zzz⟩ := zz
          exact ⟨x3, hx3, p3, ys3, e5, sq3, i3, j3, e6, e7, k3, e8, h _ _ zzz⟩
end
/-! ### a law's wheel from the beginning -/
theorem LW.empty {H : Hp} {a : Addr} (h : H a = some (.dT [])) : LW H a [] [] := ⟨⟨[], h, trivial⟩, List.nodup_nil, List.nodup_nil⟩
theorem Lk.old {a : Addr} {H0 H H' : Hp} {ps' : List Addr} (ha : H0 a = none) (s : Same H0 H) (k : Lk a [] H H' ps') : Same H0 H' := fun c o e => k.keep c o (fun z => by rw [z, ha] at e; cases e) (fun h => by cases h) (s c o e)
/-- a new timer at the end -/
theorem st_new {b : Nat} {ws : List Bool} {t : Nat} {ms : List Tm} {cs : List LCell} {m : Tm} (hb : 2 ≤ b) (hcs : ∀ p, gv cs p = stM b ws t ms p) (hs : m.since = t) (hd : t < m.due) (p : Nat × Nat) : gv (lplace b ws t cs m) p = stM b ws t (ms ++ [m]) p := by
  rw [gv_place, hcs]
  unfold stM
  rw [List.filter_append]
  by_cases h : placeT b t m.due = p
  · have e1 : [m].filter (fun m => decide (placeT b t m.due = p)) = [m] := List.filter_cons_of_pos (by simpa using h)
    have e2 : levT b t m.due = p.1 := congrArg Prod.fst h
    have e3 : sideT b ws m.since m.due p.1 = wordAt ws p.1 := by
      rw [hs, ← e2]
      exact side_new hb hd
    rw [if_pos h, e1, deq_snoc, e3]
  · have e1 : [m].filter (fun m => decide (placeT b t m.due = p)) = [] := List.filter_cons_of_neg (by simpa using h)
    rw [if_neg h, e1, List.append_nil]
theorem emp_one {b : Nat} {ws : List Bool} {t : Nat} (cs : List LCell) (m : Tm) : emp (lplace b ws t cs m) ≤ emp cs := emp_put (ins_ne _ _ _) cs
theorem stM_nil {b : Nat} {ws : List Bool} {t : Nat} (p : Nat × Nat) : gv [] p = stM b ws t [] p := rfl
/-! ### the law's wheel, and draws beside it -/
/-- what stays but for what stands at xs and the wheel at a; its lists are new ones -/
structure LkX (xs : List Addr) (a : Addr) (H H' : Hp) (ps : List Addr) : Prop where
  keep : ∀ c o, c ∉ xs → c ≠ a → H c = some o → H' c = some o
  new : ∀ r ∈ ps, H r = none
  stay : ∀ c, H' c = none → H c = none
theorem LkX.lk {xs : List Addr} {a : Addr} {H H' H'' : Hp} {ps ps' : List Addr} (h : LkX xs a H H' ps) (k : Lk a ps H' H'' ps') : LkX xs a H H'' ps' := ⟨fun c o n1 n2 e => k.keep c o n2 (fun hm => by
    rw [h.new c hm] at e
    cases e) (h.keep c o n1 n2 e), fun r hr => (k.new r hr).elim (h.new r) (h.stay r), fun c e => h.stay c (k.stay c e)⟩
theorem LkX.draw {xs : List Addr} {a p : Addr} {H H' H'' : Hp} {ps : List Addr} (h : LkX xs a H H' ps) (k : Stp p H' H'') (hp : p ∈ xs) : LkX xs a H H'' ps := ⟨fun c o n1 n2 e => k.keep c o (fun z => n1 (by rw [z]; exact hp)) (h.keep c o n1 n2 e), h.new, fun c e => h.stay c (k.free e)⟩
theorem LkX.same {xs : List Addr} {a : Addr} {H H' H'' : Hp} {ps : List Addr} (h : LkX xs a H H' ps) (k : Same H' H'') : LkX xs a H H'' ps := ⟨fun c o n1 n2 e => k c o (h.keep c o n1 n2 e), h.new, fun c e => h.stay c (k.free e)⟩
theorem LkX.put {xs : List Addr} {a l : Addr} {H H' : Hp} {ps : List Addr} {o' : HO} (h : LkX xs a H H' ps) (hl : l ∈ xs) : LkX xs a H (upd H' l o') ps := ⟨fun c o n1 n2 e => by
    rw [upd_ne fun z => n1 (by rw [z]; exact hl)]
    exact h.keep c o n1 n2 e, h.new, fun c e => h.stay c (upd_none e)⟩
theorem LkX.not {xs : List Addr} {a c : Addr} {H H' : Hp} {ps : List Addr} {o : HO} (h : LkX xs a H H' ps) (hc : H c = some o) : c ∉ ps := fun hm => by
  rw [h.new c hm] at hc
  cases hc
theorem LW.draw {H H' : Hp} {a p : Addr} {cs : List LCell} {ps : List Addr} (h : LW H a cs ps) (k : Stp p H H') (hs : SrcAt H p) (n1 : p ≠ a) (n2 : p ∉ ps) : LW H' a cs ps := h.frame fun c o hc e => k.keep _ _ (fun z => by
  rcases hc with hc | hc | ⟨xs, hc⟩
  · exact n1 (z.symm.trans hc)
  · exact n2 (by rw [← z]; exact hc)
  · obtain ⟨x, y, w, h2⟩ := hs
    rw [z, h2, hc] at e
    cases e) e
theorem LW.put {H : Hp} {a l : Addr} {cs : List LCell} {ps : List Addr} {xs : List V} {o' : HO} (h : LW H a cs ps) (hl : H l = some (.lst xs)) (n1 : l ≠ a) (n2 : l ∉ ps) : LW (upd H l o') a cs ps := h.frame fun c o hc e => by
  rw [upd_ne fun z => ?_]
  · exact e
  rcases hc with hc | hc | ⟨ys, hc⟩
  · exact n1 (z.symm.trans hc)
  · exact n2 (by rw [← z]; exact hc)
  · rw [z, hl, hc] at e
    cases e
/-! ### xs.remove(y), over data -/
def rRemD (K : PySem.W.Frag) : V → List V → Hp → VK → Prop := fun x xs H Q => ∃ (l : Addr) (zs : List V) (ds : List PyData) (y : V) (d : PyData) (j : Nat), x = .ref l ∧ xs = [y] ∧ H l = some (.lst zs) ∧ DpAll K H zs ds ∧ Dp K H y d ∧ PyData.plainAll ds = true ∧ d.plain = true ∧ d.depth ≤ 60 ∧ SeqAt.dataPlace ds d = some j ∧ Q .non (upd H l (.lst (zs.eraseIdx j)))
section
variable {X : Cx} {K : PySem.W.Frag}
theorem mt_removeD (e : X.K = K) (hu : X.A.units + 64 < cLine) : MtM X "list.remove" (rRemD K) := by
  subst e
  intro pins s σ H x xs v us Q I rx rxs h
  obtain ⟨l, zs, ds, y, d, j, rfl, rfl, hH, hds, hd, p1, p2, hdep, hj, q⟩ := h
  cases rx
  obtain ⟨u, rfl, ru⟩ := rxs.one
  obtain ⟨z, its, n, r, hl, e⟩ := I.lstM hH
  obtain ⟨as, r1⟩ := Dp.readsAll I ds zs its hds r
  obtain ⟨bs, r2⟩ := Dp.reads I d y u hd ru
  refine SeqAt.remove_list_data (vs := its.toArray) (j := j) ⟨_, e, rfl, n, rfl⟩ (by simpa using r1) r2 p1 p2 (by omega) hj (by rw [List.size_toArray]; omega) ?_
  have rr := r.eraseIdx j
  refine ⟨.non, _, I.lset (its' := its.eraseIdx j) (t' := s.toks) hH e ?_ rr ?_, rfl, q⟩
  · show its.toArray.eraseIdxIfInBounds j = (its.eraseIdx j).toArray
    rw [List.eraseIdxIfInBounds_toArray]
  · have z2 := List.length_eraseIdx_le zs j
    omega
end
/-! ### a row of the law as data -/
def tmD (m : Tm) : PyData := .tuple [.int (m.num : Nat), .int (m.due : Nat), perD m.per]
theorem row_dp {K : PySem.W.Frag} {H : Hp} {t : Addr} {m : Tm} (h : H t = some (.tup (lrowV m))) : Dp K H (.ref t) (tmD m) := .tup (SqT.of h) (.cons (.int _) (.cons (.int _) (.cons (per_dp _) .nil)))
theorem tmrows_dp {K : PySem.W.Frag} {H : Hp} : ∀ {ts : List Addr} {ms : List Tm}, LRows H ts ms → DpAll K H (ts.map V.ref) (ms.map tmD)
  | [], [], _ => .nil
  | _ :: _, _ :: _, h => .cons (row_dp h.1) (tmrows_dp h.2)
  | [], _ :: _, h => h.elim
  | _ :: _, [], h => h.elim
theorem tmD_lay (m : Tm) : (tmD m).canLay0 = true := by
  cases m with
  | mk n d o s => cases o <;> rfl
theorem tms_lay : ∀ ms : List Tm, PyData.canLayAll0 (ms.map tmD) = true
  | [] => rfl
  | m :: ms => by
    show ((tmD m).canLay0 && PyData.canLayAll0 (ms.map tmD)) = true
    rw [tmD_lay, tms_lay ms]
    rfl
theorem tmD_plain (m : Tm) : (tmD m).plain = true := by
  cases m with
  | mk n d o s => cases o <;> rfl
theorem tms_plain : ∀ ms : List Tm, PyData.plainAll (ms.map tmD) = true
  | [] => rfl
  | m :: ms => by
    show ((tmD m).plain && PyData.plainAll (ms.map tmD)) = true
    rw [tmD_plain, tms_plain ms]
    rfl
theorem tmD_depth (m : Tm) : (tmD m).depth = 1 := by
  cases m with
  | mk n d o s => cases o <;> rfl
theorem tms_depth : ∀ ms : List Tm, PyData.depthAll (ms.map tmD) ≤ 1
  | [] => Nat.zero_le _
  | m :: ms => by
    have ih := tms_depth ms
    show max (tmD m).depth (PyData.depthAll (ms.map tmD)) ≤ 1
    rw [tmD_depth]
    omega
theorem tms_shaped (ms : List Tm) : SeqAt.shaped (.list (ms.map tmD)) = true := by
  have h1 : (PyData.list (ms.map tmD)).canLay0 = true := by
    show PyData.canLayAll0 (ms.map tmD) = true
    exact tms_lay ms
  have h2 : (PyData.list (ms.map tmD)).depth ≤ 64 := by
    show PyData.depthAll (ms.map tmD) + 1 ≤ 64
    have := tms_depth ms
    omega
  unfold SeqAt.shaped
  rw [h1, decide_eq_true h2]
  rfl
theorem tmD_num {m m' : Tm} (h : m.num ≠ m'.num) : PyData.eqv (tmD m) (tmD m') = false := by
  have e : PyData.eqv (.int (m.num : Nat)) (.int (m'.num : Nat)) = false := by
    show decide ((m.num : Int) = (m'.num : Int)) = false
    exact decide_eq_false fun z => h (Int.ofNat.inj z)
  show (PyData.eqv (.int (m.num : Nat)) (.int (m'.num : Nat)) && PyData.eqvAll [.int (m.due : Nat), perD m.per] [.int (m'.due : Nat), perD m'.per]) = false
  rw [e]
  rfl
/-- where the row of a number stands -/
theorem tm_place {ms : List Tm} {j : Nat} {m : Tm} (hj : ms[j]? = some m) (hno : ∀ i x, i < j → ms[i]? = some x → x.num ≠ m.num) : SeqAt.dataPlace (ms.map tmD) (tmD m) = some j := by
  unfold SeqAt.dataPlace
  have hl := (List.getElem?_eq_some_iff.mp hj).1
  have e := (List.getElem?_eq_some_iff.mp hj).2
  refine List.findIdx?_eq_some_iff_getElem.mpr ⟨by rw [List.length_map]; exact hl, ?_, fun i hi => ?_⟩
  · rw [List.getElem_map, e]
    exact SeqAt.eqv_refl _ (tmD_lay m)
  · have hil : i < ms.length := by omega
    rw [List.getElem_map, tmD_num (hno i ms[i] hi (List.getElem?_eq_getElem hil))]
    exact Bool.false_ne_true
/-- a list made over the keys of a dict whose keys are tuples -/
theorem lc_keysT {d : Addr} {o : Obj} {kvs : List (List Key × V)} {g : TG} {tt : TT} {te : TE} {ws : List Nat} {σ : L2.St} {G : Hp} {D : Addr} {Qd : Hp → Prop} (Pv : Nat → Hp → Prop) (start : Pv 0 (upd G D (.lst []))) (lock : ∀ i G, Pv i G → G d = some (.frz o (.dT kvs)))
    (step : ∀ (i : Nat) (k : List Key) (v : V) (q : Addr) (G : Hp), kvs[i]? = some (k, v) → Pv i G → G q = some (.tup (k.map kV)) → g (.ref q) (wipe σ ws) G fun τ G2 => wipe τ ws = wipe σ ws ∧ tt τ G2 fun c G3 => if c = true then te τ G3 fun z G4 => ∃ ac, G4 D = some (.lst ac) ∧ ac.length < sizeLine ∧ Pv (i + 1) (upd G4 D (.lst (ac ++ [z]))) else Pv (i + 1) G3)
    (last : ∀ G, Pv kvs.length G → Qd G) : ∃ W : Nat → Nat → Hp → Prop, (∃ m, W 0 m (upd G D (.lst []))) ∧ ∀ i m G, W i m G → ((Itkt d o kvs).stop i G ∧ Qd G) ∨
      ((Itkt d o kvs).go i G ∧ ∃ N : Hp → Prop, (∀ G', N G' → ∃ m', m' < m ∧ W (i + 1) m' G') ∧ ∀ x G', (Itkt d o kvs).yld i G x G' → g x (wipe σ ws) G' fun τ G2 => wipe τ ws = wipe σ ws ∧ tt τ G2 fun c G3 => if c = true then te τ G3 fun z G4 => ∃ ac, G4 D = some (.lst ac) ∧ ac.length < sizeLine ∧ N (upd G4 D (.lst (ac ++ [z]))) else N G3) := by
  refine ⟨fun i m G => (m = kvs.length - i ∧ i ≤ kvs.length) ∧ Pv i G, ⟨kvs.length, ⟨rfl, Nat.zero_le _⟩, start⟩, ?_⟩
  rintro i m G ⟨⟨rfl, le⟩, pv⟩
  have here := lock i G pv
  rcases Nat.lt_or_ge i kvs.length with lt | ge
  · refine .inr ⟨⟨here, lt⟩, Pv (i + 1), fun G' p' => ⟨kvs.length - (i + 1), by omega, ⟨rfl, lt⟩, p'⟩, fun x G' y => ?_⟩
    obtain ⟨rfl, k, v, q, e, rfl, hq⟩ := y
    exact step i k v q _ e pv hq
  · have e : i = kvs.length := Nat.le_antisymm le ge
    rw [e] at pv ⊢
    exact .inl ⟨⟨here, Nat.le_refl _⟩, last G pv⟩
theorem LCells.item {H : Hp} : ∀ {kvs : List (List Key × V)} {cs : List LCell} {ps : List Addr} {i : Nat} {k : List Key} {v : V}, LCells H kvs cs ps → kvs[i]? = some (k, v) → ∃ c p, cs[i]? = some c ∧ k = keyC c.1 ∧ v = .ref p ∧ p ∈ ps ∧ ∃ ts, H p = some (.lst (ts.map V.ref)) ∧ LRows H ts c.2
  | kv :: _, c :: _, p :: _, 0, k, v, ⟨h1, h2, ⟨ts, h3, h4⟩, _⟩, e => by
    cases Option.some.inj e
    exact ⟨c, p, rfl, h1, h2, List.mem_cons_self .., ts, h3, h4⟩
  | _ :: _, _ :: _, _ :: _, i + 1, _, _, h, e => by
    obtain ⟨c, p, h1, h2, h3, h4, h5⟩ := h.2.2.2.item (i := i) e
    exact ⟨c, p, h1, h2, h3, List.mem_cons_of_mem _ h4, h5⟩
  | [], _, _, _, _, _, _, e => by simp at e
  | _ :: _, [], [], _, _, _, h, _ => h.elim
  | _ :: _, [], _ :: _, _, _, _, h, _ => h.elim
  | _ :: _, _ :: _, [], _, _, _, h, _ => h.elim
/-! ### sorted pairs, told as numbers that are not negative -/
theorem refs_of_perm {ys : List V} {us : List Addr} (h : ys.Perm (us.map V.ref)) : ∃ zs : List Addr, ys = zs.map V.ref := by
  have all : ∀ y ∈ ys, ∃ z, y = V.ref z := fun y hy => by
    obtain ⟨z, _, e⟩ := List.mem_map.mp (h.mem_iff.mp hy)
    exact ⟨z, e.symm⟩
  clear h
  induction ys with
  | nil => exact ⟨[], rfl⟩
  | cons y ys ih =>
    obtain ⟨zs, e⟩ := ih fun x hx => all x (List.mem_cons_of_mem _ hx)
    obtain ⟨z, e2⟩ := all y (List.mem_cons_self ..)
    exact ⟨z :: zs, by rw [List.map_cons, e, e2]⟩
theorem PrAt.pairs {H : Hp} : ∀ {ts : List Addr} {rs : List (Nat × Nat)}, PrAt H ts rs → ((ts.map V.ref).map (pairV H)) = rs.map fun k => ((k.1 : Int), (k.2 : Int))
  | [], [], _ => rfl
  | t :: ts, r :: rs, h => by
    rw [List.map_cons, List.map_cons, List.map_cons, h.2.pairs, pairV_of h.1]
  | [], _ :: _, h => h.elim
  | _ :: _, [], h => h.elim
theorem pairs_back {l : List (Int × Int)} {xs : List (Int × Int)} {ks0 : List (Nat × Nat)} (hp : l.Perm xs) (hx : xs = ks0.map fun k => ((k.1 : Int), (k.2 : Int))) : ∃ ks : List (Nat × Nat), l = ks.map (fun k => ((k.1 : Int), (k.2 : Int))) ∧ ks.Perm ks0 := by
  refine ⟨l.map fun z => (z.1.toNat, z.2.toNat), ?_, ?_⟩
  · rw [List.map_map]
    have e1 : l.map id = _ := List.map_congr_left (f := id) (g := (fun k : Nat × Nat => ((k.1 : Int), (k.2 : Int))) ∘ fun z : Int × Int => (z.1.toNat, z.2.toNat)) fun z hz => by
      have hz2 := hp.mem_iff.mp hz
      rw [hx] at hz2
      obtain ⟨k, _, rfl⟩ := List.mem_map.mp hz2
      rfl
    rw [List.map_id] at e1
    exact e1
  · have z := hp.map fun z : Int × Int => (z.1.toNat, z.2.toNat)
    rw [hx, List.map_map] at z
    have e2 : (ks0.map ((fun z : Int × Int => (z.1.toNat, z.2.toNat)) ∘ fun k : Nat × Nat => ((k.1 : Int), (k.2 : Int)))) = ks0 := by
      have y : ks0.map ((fun z : Int × Int => (z.1.toNat, z.2.toNat)) ∘ fun k : Nat × Nat => ((k.1 : Int), (k.2 : Int))) = ks0.map id := List.map_congr_left fun k _ => rfl
      rw [y, List.map_id]
    rw [e2] at z
    exact z
theorem PrAt.of_pairs {H : Hp} : ∀ {zs : List Addr} {ks : List (Nat × Nat)}, (∀ z ∈ zs, ∃ r : Nat × Nat, H z = some (.tup [.int (r.1 : Nat), .int (r.2 : Nat)])) → (zs.map V.ref).map (pairV H) = ks.map (fun k => ((k.1 : Int), (k.2 : Int))) → PrAt H zs ks
  | [], [], _, _ => trivial
  | z :: zs, k :: ks, h, e => by
    rw [List.map_cons, List.map_cons, List.map_cons] at e
    obtain ⟨e1, e2⟩ := List.cons.inj e
    obtain ⟨r, hr⟩ := h z (List.mem_cons_self ..)
    rw [pairV_of hr] at e1
    refine ⟨?_, PrAt.of_pairs (fun x hx => h x (List.mem_cons_of_mem _ hx)) e2⟩
    have a1 : r.1 = k.1 := Int.ofNat.inj (congrArg Prod.fst e1)
    have a2 : r.2 = k.2 := Int.ofNat.inj (congrArg Prod.snd e1)
    rw [← a1, ← a2]
    exact hr
  | [], _ :: _, _, e => by cases e
  | _ :: _, [], _, e => by cases e
/-! ### rows whose lists are new ones -/
/-- rows of a list at D, their lists new ones since Hb -/
def ShRows (Hb : Hp) (D : Addr) (H : Hp) : List Addr → List Cell → Prop
  | [], [] => True
  | t :: ts, c :: cs => (∃ a, H t = some (.tup [.int (c.1.1 : Nat), .int (c.1.2 : Nat), .ref a]) ∧ H a = some (.lst (c.2.map fun x => V.int (x : Nat))) ∧ Hb a = none ∧ a ≠ D) ∧ ShRows Hb D H ts cs
  | _, _ => False
theorem ShRows.frame {Hb H H' : Hp} {D : Addr} {xs : List V} (hD : H D = some (.lst xs)) (s : ∀ c o, c ≠ D → H c = some o → H' c = some o) : ∀ {ts : List Addr} {cs : List Cell}, ShRows Hb D H ts cs → ShRows Hb D H' ts cs
  | [], [], _ => trivial
  | _ :: _, _ :: _, ⟨⟨a, h1, h2, h3, h4⟩, h5⟩ => ⟨⟨a, s _ _ (ne_of h1 hD (by intro z; cases z)) h1, s _ _ h4 h2, h3, h4⟩, h5.frame hD s⟩
  | [], _ :: _, h => h.elim
  | _ :: _, [], h => h.elim
theorem ShRows.snoc {Hb H : Hp} {D t : Addr} {c : Cell} (hn : ∃ a, H t = some (.tup [.int (c.1.1 : Nat), .int (c.1.2 : Nat), .ref a]) ∧ H a = some (.lst (c.2.map fun x => V.int (x : Nat))) ∧ Hb a = none ∧ a ≠ D) : ∀ {ts : List Addr} {cs : List Cell}, ShRows Hb D H ts cs → ShRows Hb D H (ts ++ [t]) (cs ++ [c])
  | [], [], _ => ⟨hn, trivial⟩
  | _ :: _, _ :: _, h => ⟨h.1, h.2.snoc hn⟩
  | [], _ :: _, h => h.elim
  | _ :: _, [], h => h.elim
theorem ShRows.len {Hb H : Hp} {D : Addr} : ∀ {ts : List Addr} {cs : List Cell}, ShRows Hb D H ts cs → ts.length = cs.length
  | [], [], _ => rfl
  | _ :: _, _ :: _, h => congrArg Nat.succ h.2.len
  | [], _ :: _, h => h.elim
  | _ :: _, [], h => h.elim
theorem ShRows.c {Hb H : Hp} {D : Addr} : ∀ {ts : List Addr} {cs : List Cell}, ShRows Hb D H ts cs → CRows H H ts cs
  | [], [], _ => trivial
  | _ :: _, _ :: _, ⟨⟨a, h1, h2, _⟩, h5⟩ => ⟨⟨a, h1, h2⟩, h5.c⟩
  | [], _ :: _, h => h.elim
  | _ :: _, [], h => h.elim
theorem ShRows.f {Hb H : Hp} {D : Addr} : ∀ {ts : List Addr} {cs : List Cell}, ShRows Hb D H ts cs → FRows Hb H ts
  | [], [], _ => trivial
  | _ :: _, _ :: _, ⟨⟨a, h1, _, h3, _⟩, h5⟩ => ⟨⟨_, _, a, h1, h3⟩, h5.f⟩
  | [], _ :: _, h => h.elim
  | _ :: _, [], h => h.elim
/-! ### the law shows its lists -/
def shownC (cs : List LCell) (ks : List (Nat × Nat)) : List Cell := ks.map fun k => (k, (gv cs k).map (·.num))
def keysOf (cs : List LCell) : List (Nat × Nat) := (cs.filter fun c => !c.2.isEmpty).map (·.1)
theorem keys_step {cs : List LCell} {i : Nat} {c : LCell} (h : cs[i]? = some c) : keysOf (cs.take (i + 1)) = keysOf (cs.take i) ++ if c.2.isEmpty = true then [] else [c.1] := by
  unfold keysOf
  rw [List.take_add_one, h, Option.toList_some, List.filter_append, List.map_append]
  congr 1
  by_cases e : c.2.isEmpty = true
  · rw [if_pos e, List.filter_cons_of_neg (p := fun c : LCell => !c.2.isEmpty) (by simp [e])]
    rfl
  · rw [if_neg e, List.filter_cons_of_pos (p := fun c : LCell => !c.2.isEmpty) (by simpa using e)]
    rfl
theorem keys_sub {cs : List LCell} {k : Nat × Nat} (h : k ∈ keysOf cs) : k ∈ cs.map (·.1) := by
  obtain ⟨c, hc, e⟩ := List.mem_map.mp h
  exact List.mem_map.mpr ⟨c, (List.mem_filter.mp hc).1, e⟩
section
variable {P : Program} {w : World} {K : PySem.W.Frag} {mg : Str → Option Value} {base : Heap}
def spShown : Sp := fun vs H Q _ => ∃ (a : Addr) (cs : List LCell) (ps : List Addr), vs = [.ref a] ∧ LW H a cs ps ∧ cs.length ≤ 10000 ∧ (∀ p, (gv cs p).length ≤ 10000) ∧
  ∀ H' r ts ks, Same H H' → H r = none → H' r = some (.lst (ts.map V.ref)) → CRows H' H' ts (shownC cs ks) → FRows H H' ts → ks.Perm (keysOf cs) → (ks.map fun k => ((k.1 : Int), (k.2 : Int))).Pairwise (fun a b => SrtO.lexB b a = false) → Q (.ref r) H'
theorem ok_law_shown {f : Addr} {fd : FuncData} (F : Fun K "_law_shown" "_law_shown" s__law_shown f fd) (T : Tx K mg) : FnOk P w K mg base CX0 1 f fd ["_law_lists"] spShown := by
  refine F.ok sc__law_shown (fun vs H Q E h => ?_) (fun cdv A outer s H vs Q E hr h => ?_)
  · obtain ⟨a, cs, ps, rfl, _⟩ := h
    rfl
  · obtain ⟨a, cs, ps, rfl, hW, few, few2, c⟩ := h
    have hu := hu_of hr
    refine ⟨_, (pss_cons (ps_set (i := 1) sc__law_shown.nd rfl (.inl rfl) (pe_callB cr_sortedPO (by rfl) T.b_sorted (by decide +kernel) (pa_cons (pe_lock (pe_lc (own := [("_law_key", 2)]) (g := gName 2)  rfl sc__law_shown.nd (pi_keys (pv 0)) (blkOk_by (own := [("_law_key", 2)]) (N := N__law_shown) (sc := defScope s__law_shown) (by decide +kernel)) (fun _ _ _ _ _ => (pg_name (i := 2) sc__law_shown.nd rfl (.inl rfl))) (fun _ _ _ _ _ => (pts_one (pt_cmpR (op_neK (K := K) rfl hr.units) (pe_dget hu (pv 0) (pv 2) (fun _ _ => rfl)) (pe_lst pa_nil) (nomark _)))) (fun _ _ _ _ _ => (pv 2)))) pa_nil)))
      (pss_one (ps_ret (pe_lc (own := [("_law_key", 2)]) (g := gName 2) (tt := tYes) rfl sc__law_shown.nd (pi_list (pv 1)) (blkOk_by (own := [("_law_key", 2)]) (N := N__law_shown) (sc := defScope s__law_shown) (by decide +kernel)) (fun _ _ _ _ _ => (pg_name (i := 2) sc__law_shown.nd rfl (.inl rfl))) (fun _ _ _ _ _ => pts_nil) (fun _ _ _ _ _ => (pe_tup (pa_cons (pe_ix (ix_tupK (K := K) rfl) (pv 2) pe_int (fun _ _ => rfl)) (pa_cons (pe_ix (ix_tupK (K := K) rfl) (pv 2) pe_int (fun _ _ => rfl)) (pa_cons (pe_lc (own := [("_law_row", 3)]) (g := gName 3) (tt := tYes) rfl sc__law_shown.nd (pi_listK (K := K) rfl (pe_dget hu (pv 0) (pv 2) (fun _ _ => rfl))) (blkOk_by (own := [("_law_row", 3)]) (N := N__law_shown) (sc := { kind := .function, names := [(".0", .local), ("_law_key", .local), ("_law_lists", .cell)], isGenerator := false, isCoroutine := false }) (by decide +kernel)) (fun _ _ _ _ _ => (pg_name (i := 3) sc__law_shown.nd rfl (.inl rfl))) (fun _ _ _ _ _ => pts_nil) (fun _ _ _ _ _ => (pe_ix (ix_tupK (K := K) rfl) (pv 3) pe_int (fun _ _ => rfl)))) pa_nil))))))))), ?_⟩
    obtain ⟨kvs, hd, hC⟩ := hW.dict
    have hlen := hC.len
    refine ⟨a, _, hd, trivial, fun od => ?_⟩
    have C0 : LCells (upd H a (.frz od (.dT kvs))) kvs cs ps := hC.frame (fun t xs e => lock_same hd e (by intro z; cases z)) fun p hp o e => by
      rw [upd_ne fun z => hW.ne (by rw [← z]; exact hp)]
      exact e
    refine ⟨_, rfl, a, od, rfl, .inr ⟨kvs, upd_same, fun D hD => lc_keysT (d := a) (o := od) (kvs := kvs) (fun i H' => Same (upd H a (.frz od (.dT kvs))) H' ∧ ∃ us : List Addr, H' D = some (.lst (us.map V.ref)) ∧ us.length ≤ i ∧ PrAt H' us (keysOf (cs.take i)))
      ⟨same_upd hD, [], upd_same, Nat.le_refl _, trivial⟩ (fun i H' ⟨sm, _⟩ => sm _ _ upd_same) ?_ ?_⟩⟩
    · rintro i k v q H' hx ⟨sm, us, eD, hul, hP⟩ hq
      have Ci := C0.frame (H' := H') (fun t xs e => sm _ _ e) fun p hp o e => sm _ _ e
      obtain ⟨cc, pl, hcc, rfl, rfl, hpl, ts, b1, b2⟩ := Ci.item hx
      have hic : i < cs.length := (List.getElem?_eq_some_iff.mp hcc).1
      have g : DGet H' a (.ref q) (valV kvs (keyC cc.1)) := .inr ⟨kvs, keyC cc.1, q, .inr ⟨od, sm _ _ upd_same⟩, rfl, hq, rfl⟩
      obtain ⟨pl', hpl', ts', d1, d2, d3⟩ := Ci.at (k := cc.1) (List.mem_map.mpr ⟨cc, List.mem_of_getElem? hcc, rfl⟩)
      have hgv : gv cs cc.1 = cc.2 := gv_mem hW.nk (List.mem_of_getElem? hcc)
      rw [hgv] at d3
      rw [d1] at g
      refine ⟨rfl, _, rfl, _, rfl, a, .ref pl', rfl, g, by simp [sizeLine_eq], fun l6 hl6 => ?_⟩
      have s6 := same_upd (o := .lst []) hl6
      have e6 := upd_same (H := H') (a := l6) (o := .lst [])
      generalize upd H' l6 (.lst []) = H6 at s6 e6 ⊢
      refine ⟨.list (cc.2.map tmD), .list [], .lst (SqL.of (s6 _ _ d2)) (tmrows_dp (d3.frame fun t xs e => s6 _ _ e)), .lst (SqL.of e6) .nil, tms_shaped _, rfl, ?_⟩
      have hstep := keys_step hcc
      have sm6 := sm.trans s6
      have hP6 := hP.frame (H' := H6) fun t xs e => s6 _ _ e
      cases el : cc.2 with
      | nil =>
        refine ⟨false, rfl, iteF ⟨sm6, us, s6 _ _ eD, by omega, ?_⟩⟩
        rw [hstep, el]
        show PrAt H6 us (keysOf (cs.take i) ++ [])
        rw [List.append_nil]
        exact hP6
      | cons m0 ml =>
        refine ⟨true, rfl, iteT ⟨_, rfl, _, s6 _ _ eD, ?_, fun c o e => ?_, us ++ [q], ?_, ?_, ?_⟩⟩
        · rw [List.length_map]
          exact sizeLine_ge (by omega)
        · rw [upd_ne (ne_of_none e hD)]
          exact sm6 _ _ e
        · rw [upd_same, List.map_append]
          rfl
        · rw [List.length_append, List.length_singleton]
          omega
        · rw [hstep, el]
          show PrAt _ (us ++ [q]) (keysOf (cs.take i) ++ [cc.1])
          have kt : ∀ t' xs, H6 t' = some (.tup xs) → (upd H6 D (.lst (us.map V.ref ++ [.ref q]))) t' = some (.tup xs) := fun t' xs e => by
            rw [upd_ne (ne_of e (s6 _ _ eD) (by intro z; cases z))]
            exact e
          exact (hP6.frame kt).app (r := cc.1) (kt _ _ (s6 _ _ hq))
    · rintro H1 ⟨sm, us, eD, hul, hP⟩
      rw [hlen, List.take_length] at hP
      have nDa : D ≠ a := fun e => by
        rw [e, upd_same] at hD
        cases hD
      have s2 := unlock hd sm
      have eD2 : (upd H1 a (.dT kvs)) D = some (.lst (us.map V.ref)) := by
        rw [upd_ne nDa]
        exact eD
      have hP2 : PrAt (upd H1 a (.dT kvs)) us (keysOf cs) := hP.frame fun t xs e => by
        rw [upd_ne fun z => by
          rw [z, sm _ _ upd_same] at e
          cases e]
        exact e
      refine ⟨sm _ _ upd_same, ?_⟩
      generalize upd H1 a (.dT kvs) = H2 at s2 eD2 hP2 ⊢
      refine ⟨D, us.map V.ref, pairV H2, rfl, SqL.of eD2, fun x hx => ?_, fun ys p hsrt hstb hp0 => ?_⟩
      · obtain ⟨i, hi⟩ := List.getElem?_of_mem hx
        obtain ⟨t, r, rfl, _, ht⟩ := hP2.item hi
        refine ⟨t, rfl, ?_⟩
        rw [pairV_of ht]
        exact ht
      obtain ⟨zs, rfl⟩ : ∃ zs : List Addr, ys = zs.map V.ref := refs_of_perm hstb.perm
      have hzp : (zs.map V.ref).Perm (us.map V.ref) := hstb.perm
      have hkeys : ((us.map V.ref).map (pairV H2)) = (keysOf cs).map fun k => ((k.1 : Int), (k.2 : Int)) := hP2.pairs
      obtain ⟨ks, eks, hks⟩ := pairs_back (hzp.map (pairV H2)) hkeys
      have hPz : PrAt H2 zs ks := PrAt.of_pairs (fun z hz => by
        obtain ⟨i, hi⟩ := List.getElem?_of_mem (hzp.mem_iff.mp (List.mem_map.mpr ⟨z, hz, rfl⟩))
        obtain ⟨t, r, e, _, ht⟩ := hP2.item hi
        cases e
        exact ⟨r, ht⟩) eks
      have hsorted : (ks.map fun k => ((k.1 : Int), (k.2 : Int))).Pairwise (fun a b => SrtO.lexB b a = false) := by
        rw [← eks, List.pairwise_map]
        exact hsrt
      have hzl := hPz.len
      have s3 := same_upd (o := .lst (zs.map V.ref)) hp0
      have ep := upd_same (H := H2) (a := p) (o := .lst (zs.map V.ref))
      have hPz3 := hPz.frame (H' := upd H2 p (.lst (zs.map V.ref))) fun t xs e => s3 _ _ e
      generalize upd H2 p (.lst (zs.map V.ref)) = H3 at s3 ep hPz3 ⊢
      have s03 : Same H H3 := s2.trans s3
      have hW3 := hW.same s03
      have hkl : ks.length ≤ cs.length := by
        rw [hks.length_eq]
        unfold keysOf
        rw [List.length_map]
        exact List.length_filter_le _ _
      refine ⟨_, rfl, p, rfl, ⟨_, SqL.of ep⟩, fun D2 hD2 => lc_list (K := K) (a := p) (xs := zs.map V.ref) (fun i H' => Same H3 H' ∧ ∃ us2 : List Addr, H' D2 = some (.lst (us2.map V.ref)) ∧ ShRows H D2 H' us2 (shownC cs (ks.take i))) ⟨same_upd hD2, [], upd_same, trivial⟩ (fun i H' _ ⟨sm, _⟩ => SqL.of (sm _ _ ep)) ?_ ?_⟩
      · rintro i v H4 hv ⟨sm, us2, eD, hR⟩
        obtain ⟨t, k, rfl, hk, ht⟩ := (hPz3.frame (H' := H4) fun t xs e => sm _ _ e).item hv
        have hik : i < ks.length := (List.getElem?_eq_some_iff.mp hk).1
        have hW4 := hW3.same sm
        obtain ⟨kv4, d4, C4⟩ := hW4.dict
        obtain ⟨pl, hpl, ts, b1, b2, b3⟩ := C4.at (keys_sub (hks.mem_iff.mp (List.mem_of_getElem? hk)))
        have htk : H4 t = some (.tup ((keyC k).map kV)) := ht
        have g := DGet.t d4 htk
        rw [b1] at g
        have hfew := few2 k
        have hb3 := b3.len
        refine ⟨rfl, yesT (iteT ⟨_, rfl, t, _, 0, _, rfl, rfl, .inl (.inl ht), atI_nat (j := 0) rfl, _, rfl, t, _, 1, _, rfl, rfl, .inl (.inl ht), atI_nat (j := 1) rfl, _, rfl, _, rfl, a, .ref pl, rfl, g, pl, rfl, ⟨_, SqL.of b2⟩, fun D3 hD3 => lc_list (K := K) (a := pl) (xs := ts.map V.ref) (fun j H' => Same H4 H' ∧ H' D3 = some (.lst ((((gv cs k).take j).map (·.num)).map fun x => V.int (x : Nat)))) ⟨same_upd hD3, upd_same⟩ (fun j H' _ ⟨sm, _⟩ => SqL.of (sm _ _ b2)) ?_ ?_⟩)⟩
        · rintro j v H5 hv5 ⟨sm5, eD5⟩
          obtain ⟨t5, m, rfl, _, hm, ht5⟩ := (b3.frame (H' := H5) fun t xs e => sm5 _ _ e).get hv5
          have hjl := (List.getElem?_eq_some_iff.mp hm).1
          refine ⟨rfl, yesT (iteT ⟨_, rfl, t5, _, 0, _, rfl, rfl, .inl (.inl ht5), atI_nat (j := 0) rfl, _, eD5, ?_, fun c o e => ?_, ?_⟩)⟩
          · rw [List.length_map, List.length_map, List.length_take]
            exact sizeLine_ge (by omega)
          · rw [upd_ne (ne_of_none e hD3)]
            exact sm5 _ _ e
          · rw [upd_same, List.take_add_one, hm, Option.toList_some, List.map_append, List.map_append]
            rfl
        · rintro H5 ⟨sm5, eD5⟩
          rw [List.length_map, hb3, List.take_length] at eD5
          refine ⟨by simp [sizeLine_eq], fun u hu0 => ?_⟩
          have su := same_upd (o := .tup [.int (k.1 : Nat), .int (k.2 : Nat), .ref D3]) hu0
          have eu := upd_same (H := H5) (a := u) (o := .tup [.int (k.1 : Nat), .int (k.2 : Nat), .ref D3])
          have eD6 := su _ _ (sm5 _ _ eD)
          have s6 := (sm.trans sm5).trans su
          have eD36 := su _ _ eD5
          have hR6 : ShRows H D2 _ us2 (shownC cs (ks.take i)) := hR.frame eD fun c o _ e => su _ _ (sm5 _ _ e)
          have hn3 : H D3 = none := (s03.trans sm).free hD3
          have nD : D3 ≠ D2 := fun z => by
            rw [z, eD] at hD3
            cases hD3
          have hul := hR.len
          have hsl : (shownC cs (ks.take i)).length ≤ i := by
            unfold shownC
            rw [List.length_map]
            exact List.length_take_le _ _
          refine ⟨_, eD6, ?_, fun c o e => ?_, us2 ++ [u], ?_, ?_⟩
          · rw [List.length_map]
            exact sizeLine_ge (by omega)
          · rw [upd_ne (ne_of_none e hD2)]
            exact s6 _ _ e
          · rw [upd_same, List.map_append]
            rfl
          · have e1 : shownC cs (ks.take (i + 1)) = shownC cs (ks.take i) ++ [(k, (gv cs k).map (·.num))] := by
              unfold shownC
              rw [List.take_add_one, hk, Option.toList_some, List.map_append]
              rfl
            rw [e1]
            refine (hR6.frame eD6 fun c o n e => ?_).snoc ⟨D3, ?_, ?_, hn3, nD⟩
            · rw [upd_ne n]
              exact e
            · rw [upd_ne (ne_of eu eD6 (by intro z; cases z))]
              exact eu
            · rw [upd_ne nD]
              exact eD36
      · rintro H4 ⟨sm, us2, eD, hR⟩
        rw [List.length_map, hzl, List.take_length] at hR
        exact c H4 D2 us2 ks (s03.trans sm) (s03.free hD2) eD hR.c hR.f hks hsorted
end
/-- the keys of the law's lists, sorted -/
theorem sorted_keys {H : Hp} {cs : List LCell} {bs : List Addr} (hperm : (bs.map fun x => pairAt H (.ref x)).Perm (cs.map fun c => ((c.1.1 : Int), (c.1.2 : Int)))) : ∃ ks : List (Nat × Nat), (bs.map fun x => pairAt H (.ref x)) = ks.map (fun k => ((k.1 : Int), (k.2 : Int))) ∧ ks.Perm (cs.map (·.1)) := by
  have hx : (cs.map fun c => ((c.1.1 : Int), (c.1.2 : Int))) = (cs.map (·.1)).map fun k => ((k.1 : Int), (k.2 : Int)) := by
    rw [List.map_map]
    rfl
  exact pairs_back hperm hx
theorem sorted_key {H : Hp} {bs : List Addr} {ks : List (Nat × Nat)} {i : Nat} {x : V} (eks : (bs.map fun x => pairAt H (.ref x)) = ks.map (fun k => ((k.1 : Int), (k.2 : Int)))) (hbs : ∀ b ∈ bs, H b = some (.tup [.int (pairAt H (.ref b)).1, .int (pairAt H (.ref b)).2])) (hx : (bs.map V.ref)[i]? = some x) : ∃ x0 kk, x = .ref x0 ∧ ks[i]? = some kk ∧ H x0 = some (.tup ((keyC kk).map kV)) := by
  rw [List.getElem?_map] at hx
  obtain ⟨x0, hx0, rfl⟩ : ∃ x0, bs[i]? = some x0 ∧ x = V.ref x0 := by
    cases e : bs[i]? with
    | none =>
      rw [e] at hx
      cases hx
    | some y =>
      rw [e] at hx
      exact ⟨y, rfl, (Option.some.inj hx).symm⟩
  have z := congrArg (fun l : List (Int × Int) => l[i]?) eks
  simp only [List.getElem?_map, hx0] at z
  cases hk : ks[i]? with
  | none =>
    rw [hk] at z
    cases z
  | some kk =>
    rw [hk] at z
    have epa : pairAt H (.ref x0) = ((kk.1 : Int), (kk.2 : Int)) := Option.some.inj z
    have ex0 := hbs x0 (List.mem_of_getElem? hx0)
    rw [epa] at ex0
    exact ⟨x0, kk, rfl, rfl, ex0⟩
/-! ### the law removes a timer -/
def remC (n : Nat) (c : LCell) : LCell := (c.1, c.2.filter fun m => decide (m.num ≠ n))
theorem gv_rem (n : Nat) (p : Nat × Nat) : ∀ cs : List LCell, gv (cs.map (remC n)) p = (gv cs p).filter fun m => decide (m.num ≠ n)
  | [] => rfl
  | c :: cs => by
    show (if c.1 = p then c.2.filter (fun m => decide (m.num ≠ n)) else gv (cs.map (remC n)) p) = (if c.1 = p then c.2 else gv cs p).filter _
    by_cases e : c.1 = p
    · rw [if_pos e, if_pos e]
    · rw [if_neg e, if_neg e]
      exact gv_rem n p cs
/-- the list at one key is another one, at another place -/
theorem LCells.renew {H H' : Hp} {k : Nat × Nat} {r : Addr} {us : List Addr} {l : List Tm} (s : ∀ t xs, H t = some (.tup xs) → H' t = some (.tup xs)) (s2 : ∀ q o, (∃ ts : List Addr, o = .lst (ts.map V.ref)) → H q = some o → H' q = some o)
    (h3 : H' r = some (.lst (us.map V.ref))) (h4 : LRows H' us l) : ∀ {kvs : List (List Key × V)} {cs : List LCell} {ps : List Addr}, LCells H kvs cs ps → ps.Nodup → (cs.map (·.1)).Nodup → r ∉ ps → k ∈ cs.map (·.1) → ∃ ps', LCells H' (kvs.map fun kv => if kv.1 = keyC k then (kv.1, .ref r) else kv) (cs.map fun c => if c.1 = k then (c.1, l) else c) ps' ∧ ps'.Nodup ∧ ∀ x ∈ ps', x ∈ ps ∨ x = r
  | [], [], [], _, _, _, _, hm => by cases hm
  | kv :: kvs, c :: cs, q :: ps, ⟨a1, a2, ⟨ts, a3, a4⟩, a5⟩, nd, nk, hr, hm => by
    rw [List.nodup_cons] at nd
    rw [List.map_cons, List.nodup_cons] at nk
    rw [List.mem_cons, not_or] at hr
    by_cases e : c.1 = k
    · have e2 : (cs.map fun c => if c.1 = k then (c.1, l) else c) = cs := by
        have z : ∀ c' ∈ cs, (if c'.1 = k then (c'.1, l) else c') = c' := fun c' hc => if_neg fun y => nk.1 (List.mem_map.mpr ⟨c', hc, y.trans e.symm⟩)
        rw [List.map_congr_left (g := id) z, List.map_id]
      have e3 : (kvs.map fun kv => if kv.1 = keyC k then (kv.1, V.ref r) else kv) = kvs := by
        have z : ∀ kv' ∈ kvs, (if kv'.1 = keyC k then (kv'.1, V.ref r) else kv') = kv' := fun kv' hk => if_neg fun y => by
          have w : kv'.1 ∈ kvs.map (·.1) := List.mem_map.mpr ⟨kv', hk, rfl⟩
          rw [a5.keys] at w
          obtain ⟨c', hc, ec⟩ := List.mem_map.mp w
          rw [y] at ec
          exact nk.1 (List.mem_map.mpr ⟨c', hc, (keyC_inj.mp ec).trans e.symm⟩)
        rw [List.map_congr_left (g := id) z, List.map_id]
      rw [List.map_cons, List.map_cons, if_pos e, if_pos (a1.trans (keyC_inj.mpr e)), e2, e3]
      refine ⟨r :: ps, ⟨a1, rfl, ⟨us, h3, h4⟩, a5.frame s fun x hx o ho => ?_⟩, List.nodup_cons.mpr ⟨hr.2, nd.2⟩, fun x hx => ?_⟩
      · obtain ⟨ts', hl⟩ := a5.lst x hx
        exact s2 x o ⟨ts', Option.some.inj (ho.symm.trans hl)⟩ ho
      · rcases List.mem_cons.mp hx with z | z
        · exact .inr z
        · exact .inl (List.mem_cons_of_mem _ z)
    · have hm' : k ∈ cs.map (·.1) := by
        rw [List.map_cons, List.mem_cons] at hm
        exact hm.resolve_left fun z => e z.symm
      obtain ⟨ps', b1, b2, b3⟩ := a5.renew s s2 h3 h4 nd.2 nk.2 hr.2 hm'
      rw [List.map_cons, List.map_cons, if_neg e, if_neg fun z => e (keyC_inj.mp (a1.symm.trans z))]
      refine ⟨q :: ps', ⟨a1, a2, ⟨ts, s2 q _ ⟨ts, rfl⟩ a3, a4.frame s⟩, b1⟩, List.nodup_cons.mpr ⟨fun hq => ?_, b2⟩, fun x hx => ?_⟩
      · rcases b3 q hq with z | z
        · exact nd.1 z
        · exact hr.1 z.symm
      · rcases List.mem_cons.mp hx with z | z
        · exact .inl (by rw [z]; exact List.mem_cons_self ..)
        · rcases b3 x z with w | w
          · exact .inl (List.mem_cons_of_mem _ w)
          · exact .inr w
  | [], [], _ :: _, h, _, _, _, _ => h.elim
  | [], _ :: _, [], h, _, _, _, _ => h.elim
  | [], _ :: _, _ :: _, h, _, _, _, _ => h.elim
  | _ :: _, [], [], h, _, _, _, _ => h.elim
  | _ :: _, [], _ :: _, h, _, _, _, _ => h.elim
  | _ :: _, _ :: _, [], h, _, _, _, _ => h.elim
def doneC (n : Nat) (ks : List (Nat × Nat)) (c : LCell) : LCell := if c.1 ∈ ks then remC n c else c
theorem done_key (n : Nat) (ks : List (Nat × Nat)) (c : LCell) : (doneC n ks c).1 = c.1 := by
  unfold doneC
  split <;> rfl
theorem done_keys (n : Nat) (ks : List (Nat × Nat)) (cs : List LCell) : (cs.map (doneC n ks)).map (·.1) = cs.map (·.1) := by
  rw [List.map_map]
  exact List.map_congr_left fun c _ => done_key n ks c
theorem done_gv {n : Nat} {ks : List (Nat × Nat)} {k : Nat × Nat} (hk : k ∉ ks) : ∀ cs : List LCell, gv (cs.map (doneC n ks)) k = gv cs k
  | [] => rfl
  | c :: cs => by
    show (if (doneC n ks c).1 = k then (doneC n ks c).2 else gv (cs.map (doneC n ks)) k) = if c.1 = k then c.2 else gv cs k
    rw [done_key]
    by_cases e : c.1 = k
    · rw [if_pos e, if_pos e]
      unfold doneC
      rw [if_neg (by rw [e]; exact hk)]
    · rw [if_neg e, if_neg e]
      exact done_gv hk cs
theorem done_step {n : Nat} {ks : List (Nat × Nat)} {k : Nat × Nat} {cs : List LCell} (nk : (cs.map (·.1)).Nodup) (hk : k ∉ ks) : (cs.map (doneC n ks)).map (fun c => if c.1 = k then (c.1, (gv cs k).filter fun m => decide (m.num ≠ n)) else c) = cs.map (doneC n (ks ++ [k])) := by
  rw [List.map_map]
  refine List.map_congr_left fun c hc => ?_
  show (if (doneC n ks c).1 = k then _ else _) = doneC n (ks ++ [k]) c
  rw [done_key]
  by_cases e : c.1 = k
  · rw [if_pos e]
    unfold doneC
    rw [if_pos (by rw [e]; simp)]
    unfold remC
    rw [← e, gv_mem nk hc]
  · rw [if_neg e]
    unfold doneC
    by_cases c2 : c.1 ∈ ks
    · rw [if_pos c2, if_pos (List.mem_append_left _ c2)]
    · rw [if_neg c2, if_neg fun z => ?_]
      rcases List.mem_append.mp z with z | z
      · exact c2 z
      · exact e (List.mem_singleton.mp z)
/-! ### law k01: a timer is taken out of its list -/
theorem erase_map {α β : Type} (f : α → β) : ∀ (l : List α) (j : Nat), (l.map f).eraseIdx j = (l.eraseIdx j).map f
  | [], _ => rfl
  | x :: l, 0 => rfl
  | x :: l, j + 1 => by
    show f x :: (l.map f).eraseIdx j = f x :: (l.eraseIdx j).map f
    rw [erase_map f l j]
theorem LRows.erase {H : Hp} : ∀ {ts : List Addr} {ms : List Tm} (j : Nat), LRows H ts ms → LRows H (ts.eraseIdx j) (ms.eraseIdx j)
  | [], [], _, _ => trivial
  | _ :: _, _ :: _, 0, h => h.2
  | _ :: _, _ :: _, j + 1, h => ⟨h.1, h.2.erase j⟩
  | [], _ :: _, _, h => h.elim
  | _ :: _, [], _, h => h.elim
theorem erase_num : ∀ {l : List Tm} {j : Nat} {m : Tm}, (l.map (·.num)).Nodup → l[j]? = some m → l.eraseIdx j = l.filter fun x => decide (x.num ≠ m.num)
  | [], _, _, _, e => by cases e
  | x :: l, 0, m, nd, e => by
    cases Option.some.inj e
    rw [List.map_cons, List.nodup_cons] at nd
    rw [List.filter_cons_of_neg (by simp)]
    exact (List.filter_eq_self.mpr fun y hy => decide_eq_true (show y.num ≠ x.num from fun z => nd.1 (by rw [← z]; exact List.mem_map.mpr ⟨y, hy, rfl⟩))).symm
  | x :: l, j + 1, m, nd, e => by
    rw [List.map_cons, List.nodup_cons] at nd
    have e' : l[j]? = some m := e
    have hne : x.num ≠ m.num := fun z => nd.1 (by rw [z]; exact List.mem_map.mpr ⟨m, List.mem_of_getElem? e', rfl⟩)
    rw [List.filter_cons_of_pos (p := fun y : Tm => decide (y.num ≠ m.num)) (decide_eq_true hne)]
    show x :: l.eraseIdx j = _
    rw [erase_num nd.2 e']
section
variable {P : Program} {w : World} {K : PySem.W.Frag} {mg : Str → Option Value} {base : Heap}
def spDropped : Sp := fun vs H Q _ => ∃ (a : Addr) (m : Tm) (pm : Nat × Nat) (cs : List LCell) (ps : List Addr), vs = [.ref a, .int (m.num : Nat)] ∧ LW H a cs ps ∧ cs.length ≤ 1000 ∧ (∀ p, (gv cs p).length ≤ 1000) ∧ m ∈ gv cs pm ∧ (∀ p, ∀ x ∈ gv cs p, x.num = m.num → x = m ∧ p = pm) ∧ (∀ p, ((gv cs p).map (·.num)).Nodup) ∧
  ∀ H' t, Lk a ps H H' ps → LW H' a (cs.map (remC m.num)) ps → H' t = some (.tup (lrowV m)) → Q (.ref t) H'
theorem ok_dropped {f : Addr} {fd : FuncData} (F : Fun K "_law_dropped" "_law_dropped" s__law_dropped f fd) (T : Tx K mg) : FnOk P w K mg base CX0 1 f fd ["_law_lists", "_law_number"] spDropped := by
  refine F.ok sc__law_dropped (fun vs H Q E h => ?_) (fun cdv A outer s H vs Q E hr h => ?_)
  · obtain ⟨a, m, pm, cs, ps, rfl, _⟩ := h
    rfl
  · obtain ⟨a, mm, pm, cs, ps, rfl, hW, few, few2, hpm, huniq, hnd, c⟩ := h
    have hu := hu_of hr
    refine ⟨_, (pss_cons (ps_for PassesOwn.never rfl (pi_list (pe_callB (call_sortedDT rfl) (by rfl) T.b_sorted (by decide +kernel) (pa_cons (pv 0) pa_nil))) (pg_name (i := 2) sc__law_dropped.nd rfl (.inl rfl))
        (pss_one (ps_for PassesOwn.never rfl (pi_list (pe_callTy call_list_of (by rfl) T.b_list (by decide +kernel) (pa_cons (pe_dget hu (pv 0) (pv 2) (fun _ _ => rfl)) pa_nil))) (pg_name (i := 3) sc__law_dropped.nd rfl (.inl rfl))
          (pss_one (ps_if (pt_cmpR op_eq (pe_ix (ix_tupK (K := K) rfl) (pv 3) pe_int (fun _ _ => rfl)) (pv 1) (nomark _))
            (pss_cons (ps_expr (pe_bm PySem.F.plainAttrs_list PySem.F.slot_list_remove PySem.F.type_list_remove (mt_removeD (K := K) rfl hr.units) (pe_dget hu (pv 0) (pv 2) (fun _ _ => rfl)) (pa_cons (pv 3) pa_nil)))
            (pss_one (ps_ret (pv 3))))
            pss_nil)))))
      (pss_one (ps_ret pe_non))), ?_⟩
    obtain ⟨kvs, hd, hC⟩ := hW.dict
    refine ⟨_, rfl, a, kvs, cs.map fun c => ((c.1.1 : Int), (c.1.2 : Int)), rfl, .inl hd, ?_, fun p bs hp0 hperm hsort hbs => ?_⟩
    · rw [hC.keys, List.map_map]
      rfl
    obtain ⟨ks, eks, hks⟩ := sorted_keys hperm
    have hbl : bs.length = ks.length := by
      have z := congrArg List.length eks
      rw [List.length_map, List.length_map] at z
      exact z
    have s1 := same_upd (o := .lst (bs.map V.ref)) hp0
    have ep := upd_same (H := H) (a := p) (o := .lst (bs.map V.ref))
    generalize upd H p (.lst (bs.map V.ref)) = H1 at s1 ep ⊢
    have hW1 := hW.same s1
    refine ⟨p, rfl, ⟨_, SqL.of ep⟩, for_list (K := K) (a := p) (xs := bs.map V.ref) (fun i σ H' => ∃ (y2 y3 : Option V), σ = [some (.ref a), some (.int (mm.num : Nat)), y2, y3] ∧ Same H1 H' ∧ ∀ kk ∈ ks.take i, ∀ x ∈ gv cs kk, x.num ≠ mm.num) ⟨none, none, rfl, fun _ _ e => e, fun kk hk => by simp at hk⟩ (fun i σ H' _ ⟨_, _, _, sm, _⟩ => SqL.of (sm _ _ ep)) ?_ ?_⟩
    · rintro i x σ H' hx ⟨y2, y3, rfl, sm, hno⟩
      obtain ⟨x0, kk, rfl, hk, ex0⟩ := sorted_key eks hbs hx
      have hkm : kk ∈ cs.map (·.1) := hks.mem_iff.mp (List.mem_of_getElem? hk)
      have epk := sm _ _ (s1 _ _ ex0)
      have hWi := hW1.same sm
      obtain ⟨kvi, di, Ci⟩ := hWi.dict
      obtain ⟨pl, hpl, ts, b1, b2, b3⟩ := Ci.at hkm
      have g := DGet.t di epk
      rw [b1] at g
      have hb3 := b3.len
      refine ⟨_, rfl, _, rfl, a, .ref pl, rfl, g, pl, _, rfl, .inl (SqL.of b2), fun p3 hp3 => ?_⟩
      have s3 := same_upd (o := .lst (ts.map V.ref)) hp3
      have e3 := upd_same (H := H') (a := p3) (o := .lst (ts.map V.ref))
      generalize upd H' p3 (.lst (ts.map V.ref)) = H3 at s3 e3 ⊢
      refine ⟨p3, rfl, ⟨_, SqL.of e3⟩, for_list (K := K) (a := p3) (xs := ts.map V.ref) (fun j σ H4 => ∃ (y3 : Option V), σ = [some (.ref a), some (.int (mm.num : Nat)), some (.ref x0), y3] ∧ Same H3 H4 ∧ ∀ x ∈ (gv cs kk).take j, x.num ≠ mm.num) ⟨_, rfl, fun _ _ e => e, fun x hx => by simp at hx⟩ (fun j σ H4 _ ⟨_, _, sm, _⟩ => SqL.of (sm _ _ e3)) ?_ ?_⟩
      · rintro j v σ H4 hv ⟨y3, rfl, sm4, hno2⟩
        have b34 := b3.frame (H' := H4) fun t xs e => sm4 _ _ (s3 _ _ e)
        obtain ⟨t, m, rfl, _, hm, ht⟩ := b34.get hv
        have hmm := List.mem_of_getElem? hm
        refine ⟨.ref t, rfl, t, _, 0, _, rfl, rfl, .inl (.inl ht), atI_nat (j := 0) rfl, _, rfl, rfl, ?_⟩
        by_cases c1 : m.num = mm.num
        · obtain ⟨em, ekk⟩ := huniq kk m hmm c1
          subst em
          subst ekk
          have b24 := sm4 _ _ (s3 _ _ b2)
          have hW4 := (hWi.same s3).same sm4
          have di4 := sm4 _ _ (s3 _ _ di)
          have Ci4 := Ci.frame (H' := H4) (fun t xs e => sm4 _ _ (s3 _ _ e)) fun p hp o e => sm4 _ _ (s3 _ _ e)
          have epk4 := sm4 _ _ (s3 _ _ epk)
          have g4 := DGet.t di4 epk4
          rw [b1] at g4
          have npa : pl ≠ a := fun z => hWi.ne (by rw [← z]; exact hpl)
          refine ⟨true, dT (by rw [c1]), iteT ?_⟩
          refine ⟨_, rfl, _, rfl, a, .ref pl, rfl, g4, .inl ⟨rfl, _, SqL.of b24⟩, _, rfl, pl, ts.map V.ref, (gv cs kk).map tmD, .ref t, tmD m, j, rfl, rfl, b24, tmrows_dp b34, row_dp ht, tms_plain _, tmD_plain _, ?_, tm_place hm fun i x hi hx z => ?_, ?_⟩
          · rw [tmD_depth]
            omega
          · have hx2 : x ∈ (gv cs kk).take j := by
              refine List.mem_of_getElem? (i := i) ?_
              rw [List.getElem?_take, if_pos hi]
              exact hx
            exact hno2 x hx2 z
          have kp : ∀ c o, c ≠ pl → H4 c = some o → (upd H4 pl (.lst ((ts.map V.ref).eraseIdx j))) c = some o := fun c o n e => by
            rw [upd_ne n]
            exact e
          have htp : ∀ {t : Addr} {xs : List V}, H4 t = some (.tup xs) → t ≠ pl := fun {t xs} e z => by
            rw [z, b24] at e
            cases e
          have hset := Ci4.set (H' := upd H4 pl (.lst ((ts.map V.ref).eraseIdx j))) (k := kk) (p := pl) (us := ts.eraseIdx j) (l := (gv cs kk).eraseIdx j) (fun t xs e => kp _ _ (htp e) e) (fun q o n _ e => kp _ _ n e) (by rw [upd_same, erase_map]) ((b34.erase j).frame fun t xs e => kp _ _ (htp e) e) hWi.nd hWi.nk b1
          have ecs : (cs.map fun c => if c.1 = kk then (c.1, (gv cs kk).eraseIdx j) else c) = cs.map (remC m.num) := List.map_congr_left fun c hc => by
            unfold remC
            by_cases e : c.1 = kk
            · rw [if_pos e, erase_num (hnd kk) hm, ← e, gv_mem hWi.nk hc]
            · rw [if_neg e]
              have z : c.2.filter (fun x => decide (x.num ≠ m.num)) = c.2 := List.filter_eq_self.mpr fun x hx => decide_eq_true fun y => e (huniq c.1 x (by rw [gv_mem hWi.nk hc]; exact hx) y).2
              rw [z]
          rw [ecs] at hset
          refine ⟨_, rfl, c _ t ⟨fun c o n1 n2 e => ?_, fun p hp => .inl hp, fun c e => ?_⟩ ⟨⟨kvi, ?_, hset⟩, hWi.nd, ?_⟩ (kp _ _ (htp ht) ht)⟩
          · exact kp _ _ (fun z => n2 (by rw [z]; exact hpl)) (sm4 _ _ (s3 _ _ (sm _ _ (s1 _ _ e))))
          · exact s1.free (sm.free (s3.free (sm4.free (upd_none e))))
          · exact kp _ _ (Ne.symm npa) di4
          · rw [List.map_map]
            exact hWi.nk
        · refine ⟨false, dF (vN c1), iteF ⟨_, rfl, sm4, fun x hx => ?_⟩⟩
          rw [List.take_add_one, hm, Option.toList_some] at hx
          rcases List.mem_append.mp hx with y | y
          · exact hno2 x y
          · rw [List.mem_singleton.mp y]
            exact c1
      · rintro σ H4 ⟨y3, rfl, sm4, hno2⟩
        rw [List.length_map, hb3, List.take_length] at hno2
        refine ⟨_, _, rfl, fun c o e => sm4 _ _ (s3 _ _ (sm _ _ e)), fun kk' hk' => ?_⟩
        rw [List.take_add_one, hk, Option.toList_some] at hk'
        rcases List.mem_append.mp hk' with h | h
        · exact hno kk' h
        · rw [List.mem_singleton.mp h]
          exact hno2
    · rintro σ H' ⟨y2, y3, rfl, sm, hno⟩
      exfalso
      rw [List.length_map, hbl, List.take_length] at hno
      refine hno pm (hks.mem_iff.mpr (Classical.byContradiction fun no => ?_)) mm hpm rfl
      rw [gv_none no] at hpm
      cases hpm
end
/-! ### a wheel and the law's own lists in one heap -/
theorem src_ref {H : Hp} {s c : Addr} {ts : List Addr} (h : SrcAt H s) (e : H c = some (.lst (ts.map V.ref))) : c ≠ s := fun z => by
  obtain ⟨x, y, v, k⟩ := h
  rw [z, k] at e
  cases ts with
  | nil => cases e
  | cons t ts => cases e
theorem src_str {H : Hp} {s c : Addr} {ws : List Bool} (h : SrcAt H s) (e : H c = some (.lst (ws.map lvV))) : c ≠ s := fun z => by
  obtain ⟨x, y, v, k⟩ := h
  rw [z, k] at e
  cases ws with
  | nil => cases e
  | cons t ts =>
    cases t <;> cases e
theorem str_ref {H : Hp} {c : Addr} {ws : List Bool} {ts : List Addr} (hne : ws ≠ []) (e : H c = some (.lst (ws.map lvV))) (e2 : H c = some (.lst (ts.map V.ref))) : False := by
  rw [e] at e2
  cases ws with
  | nil => exact hne rfl
  | cons t ws =>
    cases ts with
    | nil => cases e2
    | cons u ts => cases t <;> cases e2
structure Duo (C : Addr) (H0 H : Hp) (s p q l a ql : Addr) (ws : List Bool) (W : WS) (cs : List LCell) (ps : List Addr) : Prop where
  base : Same H0 H
  s0 : H0 s = none
  p0 : H0 p = none
  l0 : H0 l = none
  a0 : H0 a = none
  new : ∀ r ∈ ps, H0 r = none
  src : SrcAt H s
  ql_ : H ql = some (.lst (ws.map lvV))
  hne : ws ≠ []
  wne : W.ws ≠ []
  at_ : WheelAt C H p q l W
  lw : LW H a cs ps
section
variable {C : Addr} {H0 H H' : Hp} {s p q l a ql : Addr} {ws : List Bool} {W : WS} {cs : List LCell} {ps : List Addr}
theorem Duo.same (D : Duo C H0 H s p q l a ql ws W cs ps) (k : Same H H') : Duo C H0 H' s p q l a ql ws W cs ps :=
  ⟨D.base.trans k, D.s0, D.p0, D.l0, D.a0, D.new, D.src.same k, k _ _ D.ql_, D.hne, D.wne, D.at_.same k, D.lw.same k⟩
theorem Duo.source (D : Duo C H0 H s p q l a ql ws W cs ps) {s' : Addr} (k : Same H H') (h0 : H s' = none) (h : SrcAt H' s') : Duo C H0 H' s' p q l a ql ws W cs ps :=
  ⟨D.base.trans k, D.base.free h0, D.p0, D.l0, D.a0, D.new, h, k _ _ D.ql_, D.hne, D.wne, D.at_.same k, D.lw.same k⟩
theorem Duo.sa (D : Duo C H0 H s p q l a ql ws W cs ps) : s ≠ a ∧ s ∉ ps := by
  obtain ⟨x, y, v, k⟩ := D.src
  refine ⟨fun z => ?_, fun z => ?_⟩
  · obtain ⟨kv, e, _⟩ := D.lw.dict
    rw [← z, k] at e
    cases e
  · obtain ⟨ts, e⟩ := D.lw.lists _ z
    exact src_ref D.src e rfl
theorem Duo.draw (D : Duo C H0 H s p q l a ql ws W cs ps) (k : Stp s H H') : Duo C H0 H' s p q l a ql ws W cs ps := by
  have qs : q ≠ s := src_str D.src D.at_.words
  obtain ⟨x, y, v, ks⟩ := D.src
  exact ⟨fun c o e => k.keep _ _ (ne_of_none e D.s0) (D.base _ _ e), D.s0, D.p0, D.l0, D.a0, D.new, k.src, k.keep _ _ (src_str D.src D.ql_) D.ql_, D.hne, D.wne, D.at_.frame ks (Ne.symm qs) k.keep, D.lw.draw k D.src D.sa.1 D.sa.2⟩
/-- the wheel is changed -/
theorem Duo.wheel (D : Duo C H0 H s p q l a ql ws W cs ps) {l' : Addr} {W' : WS} (k : Wk p l H H' l') (w : WheelAt C H' p q l' W') (hw : W'.ws = W.ws) : Duo C H0 H' s p q l' a ql ws W' cs ps := by
  obtain ⟨dx, hp⟩ := D.at_.ins
  obtain ⟨kvs, hl, _⟩ := D.at_.live
  have kl : ∀ c xs, H c = some (.lst xs) → H' c = some (.lst xs) := fun c xs e => k.keep _ _ (ne_of e hp (by intro z; cases z)) (ne_of e hl (by intro z; cases z)) e
  refine ⟨fun c o e => k.keep _ _ (ne_of_none e D.p0) (ne_of_none e D.l0) (D.base _ _ e), D.s0, D.p0, ?_, D.a0, D.new, ?_, kl _ _ D.ql_, D.hne, by rw [hw]; exact D.wne, w, D.lw.frame fun c o hc e => ?_⟩
  · rcases k.new with e | e
    · rw [e]
      exact D.l0
    · exact D.base.free e
  · obtain ⟨x, y, v, h⟩ := D.src
    exact ⟨x, y, v, kl _ _ h⟩
  · rcases hc with hc | hc | ⟨xs, hc⟩
    · obtain ⟨kv, ea, _⟩ := D.lw.dict
      have eo : o = .dT kv := by
        rw [hc, ea] at e
        exact (Option.some.inj e).symm
      rw [eo] at e ⊢
      exact k.keep _ _ (ne_of e hp (by intro z; cases z)) (ne_of e hl (by intro z; cases z)) e
    · obtain ⟨ts, ea⟩ := D.lw.lists _ hc
      have eo : o = .lst (ts.map V.ref) := by
        rw [ea] at e
        exact (Option.some.inj e).symm
      rw [eo] at e ⊢
      exact kl _ _ e
    · rw [hc] at e ⊢
      exact k.keep _ _ (ne_of e hp (by intro z; cases z)) (ne_of e hl (by intro z; cases z)) e
/-- the law's lists are changed -/
theorem Duo.law (D : Duo C H0 H s p q l a ql ws W cs ps) {cs' : List LCell} {ps' : List Addr} (k : Lk a ps H H' ps') (w : LW H' a cs' ps') : Duo C H0 H' s p q l a ql ws W cs' ps' := by
  obtain ⟨kv, ea, _⟩ := D.lw.dict
  have nps : ∀ {c : Addr} {o : HO}, H c = some o → (∀ ts : List Addr, o ≠ .lst (ts.map V.ref)) → c ∉ ps := fun {c o} e h z => by
    obtain ⟨ts, y⟩ := D.lw.lists _ z
    rw [e] at y
    exact h ts (Option.some.inj y)
  have na : ∀ {c : Addr} {o : HO}, H c = some o → (∀ kv, o ≠ .dT kv) → c ≠ a := fun {c o} e h z => by
    rw [z, ea] at e
    exact h kv (Option.some.inj e).symm
  have ks : ∀ {c : Addr} {vs : List Bool}, vs ≠ [] → H c = some (.lst (vs.map lvV)) → H' c = some (.lst (vs.map lvV)) := fun {c vs} hv e => k.keep _ _ (na e (by intro _ z; cases z)) (fun z => by
    obtain ⟨ts, y⟩ := D.lw.lists _ z
    exact str_ref hv e y) e
  refine ⟨fun c o e => k.keep _ _ (ne_of_none e D.a0) (fun z => by rw [D.new c z] at e; cases e) (D.base _ _ e), D.s0, D.p0, D.l0, D.a0, fun r hr => (k.new r hr).elim (D.new r) D.base.free, ?_, ks D.hne D.ql_, D.hne, D.wne, ?_, w⟩
  · obtain ⟨x, y, v, h⟩ := D.src
    exact ⟨x, y, v, k.keep _ _ D.sa.1 D.sa.2 h⟩
  · obtain ⟨dx, h⟩ := D.at_.ins
    obtain ⟨kvs, h2, L⟩ := D.at_.live
    have kk : ∀ {c : Addr} {o : HO}, (∀ kv, o ≠ .dT kv) → (∀ ts : List Addr, o ≠ .lst (ts.map V.ref)) → H c = some o → H' c = some o := fun h1 h2 e => k.keep _ _ (na e h1) (nps e h2) e
    exact ⟨⟨dx, kk (by intro _ z; cases z) (by intro _ z; cases z) h⟩, ks D.wne D.at_.words, ⟨kvs, kk (by intro _ z; cases z) (by intro _ z; cases z) h2, L.frame fun t m e => kk (by intro _ z; cases z) (by intro _ z; cases z) e⟩⟩
end
/-! ### what both hold -/
theorem FarW.mono {L L' : Nat} {W : WS} (h : FarW L W) (hl : L' ≤ L) : FarW L' W := ⟨h.ok, fun m hm => ⟨(h.adv m hm).since, (h.adv m hm).due, fun k hk => by
  have := (h.adv m hm).per k hk
  exact ⟨this.1, by omega⟩⟩⟩
theorem one_sum {T : Nat} : ∀ {l : List Tm}, (∀ m ∈ l, T < m.due) → sumF (T + 1) l ≤ l.length
  | [], _ => Nat.le_refl _
  | m :: l, h => by
    have ih := one_sum (l := l) fun x hx => h x (List.mem_cons_of_mem _ hx)
    have hm := h m (List.mem_cons_self ..)
    rw [sumF_cons, List.length_cons]
    have y : frN (T + 1) m ≤ 1 := by
      unfold frN
      split
      · omega
      · split
        · omega
        · rw [show T + 1 - m.due = 0 by omega, Nat.zero_div]
          omega
    omega
/-- one tick: the lists of the law hold what the wheel holds -/
theorem pass_live {b : Nat} {ws : List Bool} {T h : Nat} {ms ms' : List Tm} {cs : List LCell} {fired : List (Nat × List Nat)} (hb : 2 ≤ b) (hne : ws ≠ []) (z : IsZer b (T + 1) h) (nd : (ms.map (·.num)).Nodup) (few : ms.length ≤ 1000) (hms : ∀ m ∈ ms, m.since ≤ T ∧ T < m.due ∧ m.due < 2 ^ 250) (hper : ∀ m ∈ ms, ∀ k, m.per = some k → 1 ≤ k) (hcs : ∀ p, gv cs p = stM b ws T ms p) (adv : AdvTo b (trimW ws) (T + 1) ms fired ms') (p : Nat × Nat) :
    gv (lpass b ws (T + 1) h cs) p = stM b ws (T + 1) ms' p := by
  have y := (lw_pass hb z (Nat.lt_succ_self T) (fun m hm => ⟨(hms m hm).1, (hms m hm).2.1, evT_gt hb (hms m hm).2.1⟩) hcs).2 p hper
  rw [y]
  congr 1
  have es : (fun m : Tm => sideT b (trimW ws) m.since m.due 0) = fun m => sideT b ws m.since m.due 0 := by
    funext m
    exact trim_side hne _ _ _ _
  have ea := after_due (b := b) (ws := trimW ws) (t := T + 1) nd
  rw [es] at ea
  cases hl : leastD ms with
  | none =>
    have e0 := least_none.mp hl
    subst e0
    rw [(adv.uniq (.done fun m hm => by cases hm)).2]
    rfl
  | some v =>
    obtain ⟨hv1, hv2⟩ := least_some.mp hl
    have hge : ∀ m ∈ ms, v ≤ m.due := fun m hm => hv2 _ (List.mem_map.mpr ⟨m, hm, rfl⟩)
    by_cases c : v = T + 1
    · subst c
      have st := AdvTo.step (b := b) (ws := trimW ws) hl (Nat.le_refl _) (fun m hm => ⟨by have := hms m hm; omega, (hms m hm).2.2⟩) nd few (.done fun m hm => ?_)
      · rw [(adv.uniq st).2, ea]
      · rcases after_mem nd hm with ⟨z1, z2⟩ | ⟨m0, z1, z2, k, z3, rfl⟩
        · have := hge m z1
          omega
        · have := hper m0 z1 k z3
          show T + 1 < T + 1 + k
          omega
    · have hno : ∀ m ∈ ms, T + 1 < m.due := fun m hm => by
        have h1 := hge m hm
        obtain ⟨m0, hm0, e0⟩ := List.mem_map.mp hv1
        have h2 := (hms m0 hm0).2.1
        omega
      rw [(adv.uniq (.done hno)).2]
      have e1 : ms.filter (fun m => decide (m.due ≠ T + 1)) = ms := List.filter_eq_self.mpr fun m hm => by
        have := hno m hm
        simp
        omega
      have e2 : ms.filter (fun m => decide (m.due = T + 1)) = [] := List.filter_eq_nil_iff.mpr fun m hm => by
        have := hno m hm
        simp
        omega
      rw [e1, e2]
      show ms ++ (deq _ ([] : List Tm)).filterMap _ = ms
      have e3 : ∀ f : Tm → Bool, deq f ([] : List Tm) = [] := fun f => rfl
      rw [e3, List.filterMap_nil, List.append_nil]
/-- a timer is taken out -/
theorem rem_live {b : Nat} {ws : List Bool} {T n : Nat} {ms : List Tm} {cs : List LCell} (hcs : ∀ p, gv cs p = stM b ws T ms p) (p : Nat × Nat) : gv (cs.map (remC n)) p = stM b ws T (dropT n ms) p := by
  rw [gv_rem, hcs]
  unfold stM dropT
  rw [deq_filter]
  congr 1
  rw [List.filter_filter, List.filter_filter]
  exact List.filter_congr fun m _ => Bool.and_comm _ _
theorem emp_rem_one {n : Nat} {k : Nat × Nat} : ∀ {cs : List LCell}, (cs.map (·.1)).Nodup → (∀ p, p ≠ k → ∀ m ∈ gv cs p, m.num ≠ n) → emp (cs.map (remC n)) ≤ emp cs + 1
  | [], _, _ => Nat.zero_le _
  | c :: cs, nd, h => by
    rw [List.map_cons, List.nodup_cons] at nd
    have hgc : gv (c :: cs) c.1 = c.2 := by
      show (if c.1 = c.1 then c.2 else _) = c.2
      rw [if_pos rfl]
    have hsub : ∀ p, p ≠ k → ∀ m ∈ gv cs p, m.num ≠ n := fun p hp m hm => by
      by_cases e : c.1 = p
      · rw [gv_none (by rw [← e]; exact nd.1)] at hm
        cases hm
      · refine h p hp m ?_
        show m ∈ (if c.1 = p then c.2 else gv cs p)
        rw [if_neg e]
        exact hm
    rw [List.map_cons, emp_cons, emp_cons]
    by_cases e : c.1 = k
    · have h0 : ∀ m ∈ cs, remC n m = m := fun d hd => by
        have hne : d.1 ≠ k := fun z => nd.1 (by rw [e, ← z]; exact List.mem_map.mpr ⟨d, hd, rfl⟩)
        have hg := gv_mem nd.2 hd
        have z : d.2.filter (fun m => decide (m.num ≠ n)) = d.2 := List.filter_eq_self.mpr fun m hm => decide_eq_true (hsub d.1 hne m (by rw [hg]; exact hm))
        unfold remC
        rw [z]
      have e1 : cs.map (remC n) = cs := by
        rw [List.map_congr_left (g := id) h0, List.map_id]
      rw [e1]
      split <;> split <;> omega
    · have z : c.2.filter (fun m => decide (m.num ≠ n)) = c.2 := List.filter_eq_self.mpr fun m hm => decide_eq_true (h c.1 e m (by rw [hgc]; exact hm))
      have e1 : remC n c = c := by
        unfold remC
        rw [z]
      have ih := emp_rem_one nd.2 hsub
      rw [e1]
      omega
theorem okw_drop {W : WS} {n : Nat} (ok : WOk W) : WOk { W with live := dropT n W.live } := by
  refine ⟨ok.b2, ok.b64, ok.ne, ok.l60, fun m hm => ok.tms m (List.mem_filter.mp hm).1, drop_nodup ok.nd, Nat.le_trans (List.length_filter_le _ _) ok.few⟩
theorem okw_reset {W : WS} {m : Tm} {d : Nat} (ok : WOk W) (hm : m ∈ W.live) (h1 : W.tick < d) (h2 : d < 2 ^ 250) : WOk { W with live := dropT m.num W.live ++ [⟨m.num, d, m.per, W.tick⟩] } := by
  refine ⟨ok.b2, ok.b64, ok.ne, ok.l60, fun m' hm' => ?_, ?_, ?_⟩
  · rcases List.mem_append.mp hm' with hm' | hm'
    · exact ok.tms m' (List.mem_filter.mp hm').1
    · rw [List.mem_singleton.mp hm']
      exact ⟨Nat.le_refl _, h1, h2, (ok.tms m hm).num, (ok.tms m hm).per⟩
  · rw [List.map_append]
    refine L2.nd_snoc (drop_nodup ok.nd) fun h => ?_
    obtain ⟨m', hm', e⟩ := List.mem_map.mp h
    exact drop_not m' hm' e
  · rw [List.length_append]
    have z := drop_len_lt (n := m.num) ⟨m, hm, rfl⟩
    have y := ok.few
    show (dropT m.num W.live).length + 1 ≤ 1000
    omega
/-! ### law k40: a timer put, cancelled or reset in both -/
structure St40 (L e m b : Nat) (ws : List Bool) (W : WS) (cs : List LCell) : Prop where
  base : W.b = b
  far : FarW L W
  gvs : ∀ pp, gv cs pp = stM b ws W.tick W.live pp
  em : emp cs ≤ e
  few : W.live.length ≤ m
theorem St40.cells {L e m b : Nat} {ws : List Bool} {W : WS} {cs : List LCell} (S : St40 L e m b ws W cs) (nk : (cs.map (·.1)).Nodup) : cs.length ≤ e + m := by
  have z := cells_len nk S.gvs
  have y := S.em
  have x := S.few
  omega
theorem St40.cell {L e m b : Nat} {ws : List Bool} {W : WS} {cs : List LCell} (S : St40 L e m b ws W cs) (p : Nat × Nat) : (gv cs p).length ≤ m := by
  rw [S.gvs]
  have z := stM_len b ws W.tick W.live p
  have x := S.few
  omega
theorem St40.mem {L e m b : Nat} {ws : List Bool} {W : WS} {cs : List LCell} (S : St40 L e m b ws W cs) {p : Nat × Nat} {x : Tm} (h : x ∈ gv cs p) : x ∈ W.live := by
  rw [S.gvs] at h
  exact (List.mem_filter.mp (mem_deq.mp h)).1
theorem num_one {ms : List Tm} (nd : (ms.map (·.num)).Nodup) {x m : Tm} (hx : x ∈ ms) (hm : m ∈ ms) (e : x.num = m.num) : x = m := by
  have a := find_of nd hx
  have c := find_of nd hm
  rw [e, c] at a
  exact (Option.some.inj a).symm
/-! ### the stations behind the first one -/
open Classical in
noncomputable def stT (b n d : Nat) : List Nat := if h : ∃ k, IsLev b n d k then (tailOf b d (Classical.choose h)).map fun r => r.2.2 else []
theorem stT_eq {b n d k : Nat} (h : IsLev b n d k) : stT b n d = (tailOf b d k).map fun r => r.2.2 := by
  have e : ∃ k, IsLev b n d k := ⟨k, h⟩
  unfold stT
  rw [dif_pos e, (Classical.choose_spec e).uniq h]
def cntLe (t : Nat) (l : List Nat) : Nat := (l.filter fun x => decide (x ≤ t)).length
noncomputable def movesT (b n t : Nat) (ms : List Tm) : Nat := (ms.map fun m => cntLe t (stT b n m.due)).sum
theorem moves_snoc (b n t : Nat) (ms : List Tm) (m : Tm) : movesT b n t (ms ++ [m]) = movesT b n t ms + cntLe t (stT b n m.due) := by
  unfold movesT
  rw [List.map_append, List.sum_append]
  rfl
theorem cnt_le_len (t : Nat) (l : List Nat) : cntLe t l ≤ l.length := List.length_filter_le _ _
theorem cnt_app (t : Nat) (l m : List Nat) : cntLe t (l ++ m) = cntLe t l + cntLe t m := by
  unfold cntLe
  rw [List.filter_append, List.length_append]
theorem cnt_mono {s t : Nat} (h : s ≤ t) (l : List Nat) : cntLe s l ≤ cntLe t l := by
  induction l with
  | nil => exact Nat.le_refl _
  | cons a r ih =>
    have z : ∀ u, cntLe u (a :: r) = cntLe u [a] + cntLe u r := fun u => cnt_app u [a] r
    rw [z s, z t]
    have y : ∀ u, cntLe u [a] = if a ≤ u then 1 else 0 := fun u => by
      unfold cntLe
      by_cases c : a ≤ u
      · rw [if_pos c, List.filter_cons_of_pos (by simpa using c)]
        rfl
      · rw [if_neg c, List.filter_cons_of_neg (by simpa using c)]
        rfl
    rw [y s, y t]
    split <;> split <;> omega
theorem cnt_all {t : Nat} {l : List Nat} (h : ∀ x ∈ l, x ≤ t) : cntLe t l = l.length := by
  unfold cntLe
  rw [List.filter_eq_self.mpr fun x hx => by simpa using h x hx]
theorem tail_le (b d : Nat) : ∀ k, ∀ r ∈ tailOf b d k, r.2.2 ≤ d
  | 0, r, h => by cases h
  | k + 1, r, h => by
    unfold tailOf at h
    split at h
    · rcases List.mem_cons.mp h with e | h
      · rw [e]
        exact Nat.div_mul_le_self _ _
      · exact tail_le b d k r h
    · exact tail_le b d k r h
theorem stT_le {b n d : Nat} : ∀ x ∈ stT b n d, x ≤ d := fun x h => by
  unfold stT at h
  split at h
  · obtain ⟨r, hr, e⟩ := List.mem_map.mp h
    rw [← e]
    exact tail_le b d _ r hr
  · cases h
theorem stT_len {b n d : Nat} (hb : 2 ≤ b) (hnd : n < d) (hd : d < 2 ^ 250) : (stT b n d).length ≤ 250 := by
  unfold stT
  split
  · rename_i h
    rw [List.length_map]
    exact Nat.le_trans (tail_len b d _) (Nat.le_of_lt (lev_small (Classical.choose_spec h) hb hnd hd))
  · exact Nat.zero_le _
theorem sum_perm {l m : List Nat} (h : l.Perm m) : l.sum = m.sum := by
  induction h with
  | nil => rfl
  | cons a _ ih => rw [List.sum_cons, List.sum_cons, ih]
  | swap a b l =>
    rw [List.sum_cons, List.sum_cons, List.sum_cons, List.sum_cons]
    omega
  | trans _ _ h1 h2 => exact h1.trans h2
theorem moves_perm {b n t : Nat} {ms : List Tm} {l : List Nat} (h : l.Perm (ms.map (·.due))) : (l.map fun d => cntLe t (stT b n d)).sum = movesT b n t ms := by
  have z := sum_perm (h.map fun d => cntLe t (stT b n d))
  rw [List.map_map] at z
  exact z
theorem cnt_flat (t : Nat) (f : Nat → List Nat) : ∀ l : List Nat, cntLe t (l.flatMap f) = (l.map fun d => cntLe t (f d)).sum
  | [] => rfl
  | d :: r => by
    rw [List.flatMap_cons, cnt_app, cnt_flat t f r, List.map_cons, List.sum_cons]
theorem moves_mono {b n s t : Nat} (h : s ≤ t) : ∀ ms : List Tm, movesT b n s ms ≤ movesT b n t ms
  | [] => Nat.le_refl _
  | m :: r => by
    have ih := moves_mono (b := b) (n := n) h r
    have z : ∀ u, movesT b n u (m :: r) = cntLe u (stT b n m.due) + movesT b n u r := fun u => by
      unfold movesT
      rw [List.map_cons, List.sum_cons]
    rw [z s, z t]
    have := cnt_mono h (stT b n m.due)
    omega
/-! ### law k03: names that the comparing of wheels has elsewhere -/
theorem nm_snapshot {b : Nat} {q : Addr} {t f : Nat} {l : Addr} : (wfl b q t f l).lookup ("snapshot" : Str) = none := wf_no (by decide +kernel) (by decide +kernel) (by decide +kernel) (by decide +kernel) (by decide +kernel)
noncomputable def snapOf (W : WS) (cs : List Cell) : PyData := snapD W.b W.ws W.tick W.fol ((toldT W.b W.ws W.tick W.live (cs.map (·.1))).map rowOf)
/-! ### wheels that stand alike, and what their snapshots are -/
/-- a wheel that stands as another one, s later -/
structure Al (s : Nat) (W V : WS) : Prop where
  b : V.b = W.b
  ws : V.ws = W.ws
  tick : V.tick = W.tick + s
  fol : V.fol = W.fol
  ok : WOk V
  al : Alike W.b W.ws s W.tick W.live V.live
theorem Al.core {s : Nat} {W V : WS} (A : Al s W V) {o : Tm} (ho : o ∈ V.live) : ∃ m ∈ W.live, o.num = m.num ∧ o.due = m.due + s ∧ o.per = m.per := by
  obtain ⟨m, hm, c⟩ := A.al.old ho
  exact ⟨m, hm, core_inj c⟩
theorem Al.len {s : Nat} {W V : WS} (A : Al s W V) (ok : WOk W) : V.live.length = W.live.length := A.al.len ok.nd A.ok.nd
theorem trimN_stop (ws : List Bool) : ∀ n m, trimN ws n = m + 1 → ¬ (1 ≤ m ∧ ws[m]? = ws[m - 1]?)
  | 0, m, h => by cases h
  | n + 1, m, h => by
    unfold trimN at h
    split at h
    · exact trimN_stop ws n m h
    · rename_i c
      have e : n = m := by omega
      rw [← e]
      exact c
theorem trim_twice (ws : List Bool) : trimW (trimW ws) = trimW ws := by
  have hle := trimN_le ws ws.length
  have hl : (trimW ws).length = trimN ws ws.length := by
    unfold trimW
    rw [List.length_take]
    omega
  have e : trimN (trimW ws) (trimW ws).length = (trimW ws).length := by
    rw [hl]
    cases h : trimN ws ws.length with
    | zero => rfl
    | succ m =>
      have z := trimN_stop ws _ m h
      unfold trimN
      rw [if_neg]
      rintro ⟨h1, h2⟩
      refine z ⟨h1, ?_⟩
      unfold trimW at h2
      rw [List.getElem?_take, List.getElem?_take, h, if_pos (by omega), if_pos (by omega)] at h2
      exact h2
  have e2 : trimW (trimW ws) = (trimW ws).take (trimN (trimW ws) (trimW ws).length) := rfl
  rw [e2, e, List.take_length]
/-- a wheel that is made anew stands as the old one -/
theorem Al.again {s : Nat} {W V : WS} {cs : List Cell} (A : Al s W V) (ht : trimW V.ws = V.ws) (hI : IsLists V.b V.ws V.tick V.live cs) : Al s W ⟨V.b, trimW V.ws, V.tick, V.fol, ((toldT V.b V.ws V.tick V.live (cs.map (·.1))).map rowOf).map (rowT V.tick)⟩ := by
  have hd : ∀ m ∈ V.live, V.tick < m.due := fun m hm => (A.ok.tms m hm).due
  obtain ⟨k1, k2⟩ := hI.keys hd
  have hp := told_perm (b := V.b) (ws := V.ws) (t := V.tick) (ms := V.live) k1 k2
  have e : ((toldT V.b V.ws V.tick V.live (cs.map (·.1))).map rowOf).map (rowT V.tick) = (toldT V.b V.ws V.tick V.live (cs.map (·.1))).map (sinT V.tick) := by
    rw [List.map_map]
    rfl
  rw [e, ht]
  have R := alike_restored A.ok.b2 hd hI
  have hn : ((toldT V.b V.ws V.tick V.live (cs.map (·.1))).map (sinT V.tick)).map (·.num) = (toldT V.b V.ws V.tick V.live (cs.map (·.1))).map (·.num) := by
    rw [List.map_map]
    rfl
  refine ⟨A.b, A.ws, A.tick, A.fol, ⟨A.ok.b2, A.ok.b64, A.ok.ne, A.ok.l60, fun m hm => ?_, ?_, ?_⟩, ?_⟩
  · obtain ⟨m0, h0, rfl⟩ := List.mem_map.mp hm
    have o := A.ok.tms m0 (hp.mem_iff.mp h0)
    exact ⟨Nat.le_refl _, o.due, o.big, o.num, o.per⟩
  · show (((toldT V.b V.ws V.tick V.live (cs.map (·.1))).map (sinT V.tick)).map (·.num)).Nodup
    rw [hn]
    exact (hp.map (·.num)).nodup_iff.mpr A.ok.nd
  · show ((toldT V.b V.ws V.tick V.live (cs.map (·.1))).map (sinT V.tick)).length ≤ 1000
    rw [List.length_map, hp.length_eq]
    exact A.ok.few
  · refine A.al.trans ?_
    rw [A.b, A.ws, A.tick] at R
    rw [A.b, A.ws, A.tick]
    exact R
theorem Al.refl {W : WS} (ok : WOk W) : Al 0 W W := ⟨rfl, rfl, rfl, rfl, ok, alike_refl _ _ _ _⟩
/-- the snapshot of a wheel may be made a wheel -/
theorem snap_ok {W : WS} {cs : List Cell} (ok : WOk W) (hI : IsLists W.b W.ws W.tick W.live cs) : SnapOk W.b W.ws W.tick W.fol ((toldT W.b W.ws W.tick W.live (cs.map (·.1))).map rowOf) := by
  have hd : ∀ m ∈ W.live, W.tick < m.due := fun m hm => (ok.tms m hm).due
  obtain ⟨k1, k2⟩ := hI.keys hd
  have hp := told_perm (b := W.b) (ws := W.ws) (t := W.tick) (ms := W.live) k1 k2
  refine ⟨ok.b2, ok.b64, ok.ne, ok.l60, fun r hr => ?_, ?_, ?_⟩
  · obtain ⟨m, hm, rfl⟩ := List.mem_map.mp hr
    have o := ok.tms m (hp.mem_iff.mp hm)
    exact ⟨o.num, o.due, o.per⟩
  · rw [List.map_map]
    have e : ((fun r : RowP => r.1) ∘ rowOf) = fun m => m.num := rfl
    rw [e]
    exact (hp.map (·.num)).nodup_iff.mpr ok.nd
  · rw [List.length_map, hp.length_eq]
    exact ok.few
/-- snapshots of wheels that stand alike are the same -/
theorem Al.snap {W V : WS} {cs cs2 : List Cell} (A : Al 0 W V) (ok : WOk W) (h1 : IsLists W.b W.ws W.tick W.live cs) (h2 : IsLists V.b V.ws V.tick V.live cs2) : snapOf V cs2 = snapOf W cs := by
  have hd : ∀ m ∈ W.live, W.tick < m.due := fun m hm => (ok.tms m hm).due
  obtain ⟨K, hK⟩ : ∃ K, ∀ m ∈ W.live, m.due < W.b ^ K := ⟨250, fun m hm => Nat.lt_of_lt_of_le (ok.tms m hm).big (pow_two_le ok.b2 250)⟩
  have hS : Sh W.b 0 K := ⟨⟨0, rfl⟩⟩
  have h3 := alike_lists hS ok.b2 A.al (fun m hm => ⟨hd m hm, hK m hm⟩) h1
  have et : V.tick = W.tick + 0 := A.tick
  rw [A.b, A.ws, et] at h2
  have ec := h2.uniq h3
  subst ec
  have ht := alike_told A.al (cs2.map (·.1))
  unfold snapOf
  rw [A.b, A.ws, et, A.fol]
  have er : ∀ l : List Tm, l.map rowOf = l.map (coreM 0) := fun l => rfl
  rw [er, er, ht]
  rfl
/-! ### what a wheel shows, told by the law's lists -/
theorem trim_st {b : Nat} {ws : List Bool} (hne : ws ≠ []) (t : Nat) (ms : List Tm) (p : Nat × Nat) : stM b (trimW ws) t ms p = stM b ws t ms p := by
  unfold stM
  have es : (fun m : Tm => sideT b (trimW ws) m.since m.due p.1) = fun m => sideT b ws m.since m.due p.1 := by
    funext m
    exact trim_side hne _ _ _ _
  rw [es]
theorem keysOf_mem {cs : List LCell} (nk : (cs.map (·.1)).Nodup) {k : Nat × Nat} : k ∈ keysOf cs ↔ gv cs k ≠ [] := by
  constructor
  · intro h
    obtain ⟨c, hc, rfl⟩ := List.mem_map.mp h
    obtain ⟨h1, h2⟩ := List.mem_filter.mp hc
    rw [gv_mem nk h1]
    intro z
    rw [z] at h2
    cases h2
  · intro h
    have hk : k ∈ cs.map (·.1) := Classical.byContradiction fun no => h (gv_none no)
    obtain ⟨c, hc, rfl⟩ := List.mem_map.mp hk
    rw [gv_mem nk hc] at h
    refine List.mem_map.mpr ⟨c, List.mem_filter.mpr ⟨hc, ?_⟩, rfl⟩
    cases e : c.2 with
    | nil => exact absurd e h
    | cons x xs => rfl
theorem shown_lists {b : Nat} {ws : List Bool} {t : Nat} {ms : List Tm} {cs : List LCell} {ks : List (Nat × Nat)} (hd : ∀ m ∈ ms, t < m.due) (nk : (cs.map (·.1)).Nodup) (hcs : ∀ p, gv cs p = stM b ws t ms p) (hne : ws ≠ []) (hp : ks.Perm (keysOf cs)) (hs : (ks.map fun k => ((k.1 : Int), (k.2 : Int))).Pairwise (fun a b => SrtO.lexB b a = false)) : IsLists b (trimW ws) t ms (shownC cs ks) := by
  have ek : (shownC cs ks).map (·.1) = ks := by
    unfold shownC
    rw [List.map_map]
    exact List.map_id ks
  refine ⟨?_, ?_, fun c hc => ?_⟩
  · rw [ek]
    have nd := (stand_bounds b (trimW ws) t ms ms.length (Nat.le_refl _)).2.2
    rw [List.take_length] at nd
    refine (List.perm_ext_iff_of_nodup (hp.nodup_iff.mpr ?_) nd).mpr fun p => ?_
    · unfold keysOf
      exact List.Nodup.sublist (List.Sublist.map _ List.filter_sublist) nk
    · rw [hp.mem_iff, keysOf_mem nk, stand_keys hd, hcs]
      constructor
      · intro h
        cases e : stM b ws t ms p with
        | nil => exact absurd e h
        | cons m l =>
          have hm : m ∈ stM b ws t ms p := by
            rw [e]
            exact List.mem_cons_self ..
          obtain ⟨h1, h2⟩ := List.mem_filter.mp (mem_deq.mp hm)
          exact ⟨m, h1, of_decide_eq_true h2⟩
      · rintro ⟨m, hm, e⟩ z
        have hm : m ∈ stM b ws t ms p := mem_deq.mpr (List.mem_filter.mpr ⟨hm, decide_eq_true e⟩)
        rw [z] at hm
        cases hm
  · unfold shownC
    rw [List.map_map]
    exact hs
  · obtain ⟨k, hk, rfl⟩ := List.mem_map.mp hc
    rw [cell_st hd, trim_st hne, hcs]
/-! ### law k65: the lists led on without periods -/
def strM (m : Tm) : Tm := ⟨m.num, m.due, none, m.since⟩
def strC (c : LCell) : LCell := (c.1, c.2.map strM)
theorem gv_str {p : Nat × Nat} : ∀ cs : List LCell, gv (cs.map strC) p = (gv cs p).map strM
  | [] => rfl
  | c :: cs => by
    show (if c.1 = p then c.2.map strM else gv (cs.map strC) p) = (if c.1 = p then c.2 else gv cs p).map strM
    rw [gv_str cs]
    split <;> rfl
theorem deq_str (f : Tm → Bool) (hf : ∀ m, f (strM m) = f m) (l : List Tm) : deq f (l.map strM) = (deq f l).map strM := by
  have e1 : (f ∘ strM) = f := funext hf
  have e2 : ((fun m => !f m) ∘ strM) = fun m => !f m := funext fun m => by
    show (!f (strM m)) = !f m
    rw [hf]
  unfold deq
  rw [List.filter_map, List.filter_map, e1, e2, List.map_append, List.map_reverse]
theorem st_str {b : Nat} {ws : List Bool} {t : Nat} {ms : List Tm} {p : Nat × Nat} : stM b ws t (ms.map strM) p = (stM b ws t ms p).map strM := by
  unfold stM
  rw [List.filter_map, deq_str _ fun _ => rfl]
  rfl
theorem order_str (b : Nat) (ws : List Bool) (t : Nat) (ms : List Tm) : orderAt b ws t (ms.map strM) = orderAt b ws t ms := by
  unfold orderAt
  rw [List.foldl_map]
  rfl
theorem moves_str (b n t : Nat) (ms : List Tm) : movesT b n t (ms.map strM) = movesT b n t ms := by
  unfold movesT
  rw [List.map_map]
  rfl
theorem stand_str (b : Nat) (ws : List Bool) (t : Nat) (ms : List Tm) : standD b ws t (ms.map strM) = standD b ws t ms := by
  unfold standD
  rw [List.foldl_map]
  rfl
/-- those that are due already stand nowhere -/
theorem stand_later (b : Nat) (ws : List Bool) (t : Nat) (ms : List Tm) : standD b ws t (ms.filter fun m => decide (t < m.due)) = standD b ws t ms := by
  unfold standD
  rw [List.foldl_filter]
  congr 1
  funext rs m
  unfold standStep
  by_cases c : t < m.due
  · rw [if_pos c, decide_eq_true c, if_pos rfl]
  · rw [if_neg c, decide_eq_false c, if_neg (by decide)]
theorem IsLists.str {b : Nat} {ws : List Bool} {t : Nat} {ms : List Tm} {cs : List Cell} (h : IsLists b ws t ((ms.map strM).filter fun m => decide (t < m.due)) cs) : IsLists b ws t ms cs := by
  have e : standD b ws t ((ms.map strM).filter fun m => decide (t < m.due)) = standD b ws t ms := by rw [stand_later, stand_str]
  exact ⟨by rw [← e]; exact h.perm, h.sorted, by rw [← e]; exact h.val⟩
/-- all that the lists hold -/
theorem cells_all {b : Nat} {ws : List Bool} {t : Nat} {ms : List Tm} {cs : List LCell} (nk : (cs.map (·.1)).Nodup) (hcs : ∀ p, gv cs p = stM b ws t ms p) : ((cs.map (·.1)).flatMap fun p => gv cs p).Perm ms := by
  refine (flat_perm _ fun k _ => ?_).trans (parts_perm (fun m : Tm => placeT b t m.due) (cs.map (·.1)) ms nk fun m hm => ?_)
  · rw [hcs]
    exact deq_perm _ _
  · refine Classical.byContradiction fun no => ?_
    have z := gv_none no
    rw [hcs] at z
    have y : m ∈ stM b ws t ms (placeT b t m.due) := mem_deq.mpr (List.mem_filter.mpr ⟨hm, decide_eq_true rfl⟩)
    rw [z] at y
    cases y
def totC (cs : List LCell) : Nat := (cs.map fun c => c.2.length).sum
theorem tot_len {b : Nat} {ws : List Bool} {t : Nat} {ms : List Tm} {cs : List LCell} (nk : (cs.map (·.1)).Nodup) (hcs : ∀ p, gv cs p = stM b ws t ms p) : totC cs = ms.length := by
  rw [← (cells_all nk hcs).length_eq, List.length_flatMap, List.map_map]
  unfold totC
  congr 1
  refine List.map_congr_left fun c hc => ?_
  show c.2.length = (gv cs c.1).length
  rw [gv_mem nk hc]
theorem tot_int (cs : List LCell) : (cs.map fun c => ((c.2.length : Nat) : Int)).sum = ((totC cs : Nat) : Int) := by
  unfold totC
  induction cs with
  | nil => rfl
  | cons c cs ih =>
    rw [List.map_cons, List.sum_cons, List.map_cons, List.sum_cons, ih]
    omega
/-- timers whose tick of setting aside is told otherwise -/
theorem LRows.core {H : Hp} {s : Nat} : ∀ {ts : List Addr} {ms os : List Tm}, os.map (coreM 0) = ms.map (coreM 0) → LRows H ts ms → LRows H ts os
  | [], [], [], _, _ => trivial
  | [], [], _ :: _, e, _ => by cases e
  | t :: ts, m :: ms, [], e, _ => by cases e
  | t :: ts, m :: ms, o :: os, e, h => by
    rw [List.map_cons, List.map_cons] at e
    obtain ⟨e1, e2⟩ := List.cons.inj e
    obtain ⟨c1, c2, c3⟩ := core_inj e1
    refine ⟨?_, LRows.core (s := s) e2 h.2⟩
    have z := h.1
    unfold lrowV at z ⊢
    rw [c1, c2, c3]
    exact z
  | [], _ :: _, _, _, h => h.elim
  | _ :: _, [], _, _, h => h.elim
theorem LCells.core {H : Hp} {g : Nat × Nat → List Tm} : ∀ {kvs : List (List Key × V)} {cs : List LCell} {ps : List Addr}, (∀ c ∈ cs, (g c.1).map (coreM 0) = c.2.map (coreM 0)) → LCells H kvs cs ps → LCells H kvs (cs.map fun c => (c.1, g c.1)) ps
  | [], [], [], _, _ => trivial
  | kv :: kvs, c :: cs, p :: ps, hg, ⟨h1, h2, ⟨ts, h3, h4⟩, h5⟩ => ⟨h1, h2, ⟨ts, h3, h4.core (s := 0) (hg c (List.mem_cons_self ..))⟩, h5.core fun c hc => hg c (List.mem_cons_of_mem _ hc)⟩
  | [], [], _ :: _, _, h => h.elim
  | [], _ :: _, [], _, h => h.elim
  | [], _ :: _, _ :: _, _, h => h.elim
  | _ :: _, [], [], _, h => h.elim
  | _ :: _, [], _ :: _, _, h => h.elim
  | _ :: _, _ :: _, [], _, h => h.elim
theorem gv_core {g : Nat × Nat → List Tm} {p : Nat × Nat} : ∀ cs : List LCell, p ∈ cs.map (·.1) → gv (cs.map fun c => (c.1, g c.1)) p = g p
  | [], h => by cases h
  | c :: cs, h => by
    show (if c.1 = p then g c.1 else gv (cs.map fun c => (c.1, g c.1)) p) = g p
    by_cases e : c.1 = p
    · rw [if_pos e, e]
    · rw [if_neg e]
      rw [List.map_cons] at h
      exact gv_core cs ((List.mem_cons.mp h).resolve_left fun z => e z.symm)
/-- the lists as a wheel that stands alike has them -/
theorem LW.alike {H : Hp} {a : Addr} {b t : Nat} {ws : List Bool} {ms os : List Tm} {cs : List LCell} {ps : List Addr} (h : LW H a cs ps) (hcs : ∀ p, gv cs p = stM b ws t ms p) (A : Alike b ws 0 t ms os) : ∃ cs' : List LCell, LW H a cs' ps ∧ (∀ p, gv cs' p = stM b ws t os p) ∧ cs'.length = cs.length ∧ emp cs' = emp cs := by
  obtain ⟨kvs, h1, h2⟩ := h.dict
  have hA : ∀ p, (stM b ws t os p).map (coreM 0) = (gv cs p).map (coreM 0) := fun p => by
    rw [hcs]
    exact A.st p
  have hk : ∀ c ∈ cs, (stM b ws t os c.1).map (coreM 0) = c.2.map (coreM 0) := fun c hc => by rw [hA, gv_mem h.nk hc]
  have e1 : (cs.map fun c => (c.1, stM b ws t os c.1)).map (·.1) = cs.map (·.1) := by
    rw [List.map_map]
    rfl
  refine ⟨cs.map fun c => (c.1, stM b ws t os c.1), ⟨⟨kvs, h1, h2.core hk⟩, h.nd, by rw [e1]; exact h.nk⟩, fun p => ?_, List.length_map .., ?_⟩
  · by_cases c : p ∈ cs.map (·.1)
    · exact gv_core cs c
    · have z : p ∉ (cs.map fun c => (c.1, stM b ws t os c.1)).map (·.1) := by
        rw [e1]
        exact c
      have y := hA p
      rw [gv_none c] at y
      rw [gv_none z]
      exact (List.map_eq_nil_iff.mp y).symm
  · unfold emp
    rw [List.filter_map, List.length_map]
    congr 1
    refine List.filter_congr fun c hc => ?_
    have z := congrArg List.length (hk c hc)
    rw [List.length_map, List.length_map] at z
    show (stM b ws t os c.1).isEmpty = c.2.isEmpty
    cases e3 : c.2 with
    | nil =>
      rw [e3] at z
      rw [List.eq_nil_of_length_eq_zero z]
    | cons x xs =>
      rw [e3] at z
      cases e4 : stM b ws t os c.1 with
      | nil =>
        rw [e4] at z
        cases z
      | cons y ys => rfl
theorem nat_list {ns : List Int} (h : ∀ y ∈ ns, ∃ x : Nat, y = ((x : Nat) : Int)) : ∃ ds : List Nat, ns = ds.map fun x => ((x : Nat) : Int) := by
  refine ⟨ns.map Int.toNat, ?_⟩
  rw [List.map_map]
  have e := List.map_congr_left (f := id) (g := (fun x : Nat => ((x : Nat) : Int)) ∘ Int.toNat) (l := ns) fun y hy => by
    obtain ⟨x, rfl⟩ := h y hy
    rfl
  rw [List.map_id] at e
  exact e
/-! ### trimmed words: the order of firing, the advance -/
theorem trim_order {b : Nat} {ws : List Bool} (hne : ws ≠ []) (t : Nat) (ms : List Tm) : orderAt b (trimW ws) t ms = orderAt b ws t ms := by
  rw [order_deq, order_deq]
  have es : (fun m : Tm => sideT b (trimW ws) m.since m.due 0) = fun m => sideT b ws m.since m.due 0 := by
    funext m
    exact trim_side hne _ _ _ _
  rw [es]
/-! ### what fired, as data -/
def firedD (f : Nat × List Nat) : PyData := .tuple [.int (f.1 : Nat), .list (f.2.map fun x => PyData.int (x : Nat))]
theorem fired_dp {K : PySem.W.Frag} {r : Addr} {H : Hp} : ∀ {ts : List Addr} {fs : List (Nat × List Nat)}, FiredAt r H ts fs → DpAll K H (ts.map V.ref) (fs.map firedD)
  | [], [], _ => .nil
  | _ :: _, _ :: _, ⟨⟨u, h1, _, h2⟩, h3⟩ => .cons (.tup (SqT.of h1) (.cons (.int _) (.cons (.lst (SqL.of h2) (dp_nats _)) .nil))) (fired_dp h3)
  | [], _ :: _, h => h.elim
  | _ :: _, [], h => h.elim
theorem firedD_lay (f : Nat × List Nat) : (firedD f).canLay0 = true := by
  simp [firedD, PyData.canLay0, PyData.canLayAll0, nats_lay]
theorem fired_lay : ∀ fs : List (Nat × List Nat), PyData.canLayAll0 (fs.map firedD) = true
  | [] => rfl
  | f :: fs => by
    show ((firedD f).canLay0 && PyData.canLayAll0 (fs.map firedD)) = true
    rw [firedD_lay, fired_lay fs]
    rfl
theorem firedD_depth (f : Nat × List Nat) : (firedD f).depth ≤ 2 := by
  have h : (PyData.list (f.2.map fun x => PyData.int (x : Nat))).depth = 1 := by
    show PyData.depthAll _ + 1 = 1
    rw [nats_depth f.2]
  show max (PyData.depth _) (max (PyData.depth (PyData.list (f.2.map fun x => PyData.int (x : Nat)))) (PyData.depthAll [])) + 1 ≤ 2
  rw [h]
  exact Nat.le_refl 2
theorem fired_depth : ∀ fs : List (Nat × List Nat), PyData.depthAll (fs.map firedD) ≤ 2
  | [] => by decide
  | f :: fs => by
    show max (firedD f).depth (PyData.depthAll (fs.map firedD)) ≤ 2
    have h1 := fired_depth fs
    have h2 := firedD_depth f
    omega
theorem fired_shaped (fs : List (Nat × List Nat)) : SeqAt.shaped (.list (fs.map firedD)) = true := by
  have h1 : (PyData.list (fs.map firedD)).canLay0 = true := by
    show PyData.canLayAll0 (fs.map firedD) = true
    exact fired_lay fs
  have h2 : (PyData.list (fs.map firedD)).depth ≤ 64 := by
    show PyData.depthAll (fs.map firedD) + 1 ≤ 64
    have := fired_depth fs
    omega
  unfold SeqAt.shaped
  rw [h1, decide_eq_true h2]
  rfl
/-! ### two wheels in one heap -/
theorem WheelAt.draw {C : Addr} {H H' : Hp} {s p q l : Addr} {W : WS} (w : WheelAt C H p q l W) (hs : SrcAt H s) (hq : q ≠ s) (k : Stp s H H') : WheelAt C H' p q l W := by
  obtain ⟨x, y, z, h⟩ := hs
  exact w.frame h (Ne.symm hq) k.keep
/-- a wheel is changed, the other one stands as it stood -/
theorem WheelAt.other {C : Addr} {H H' : Hp} {p q l l' p2 q2 l2 : Addr} {W W2 : WS} (w2 : WheelAt C H p2 q2 l2 W2) (w : WheelAt C H p q l W) (k : Wk p l H H' l') (n1 : p2 ≠ p) (n2 : l2 ≠ l) : WheelAt C H' p2 q2 l2 W2 := by
  obtain ⟨dx, hp⟩ := w.ins
  obtain ⟨kvs, hl, _⟩ := w.live
  obtain ⟨dx2, hp2⟩ := w2.ins
  obtain ⟨kvs2, hl2, L2'⟩ := w2.live
  refine ⟨⟨dx2, k.keep _ _ n1 (ne_of hp2 hl (by intro z; cases z)) hp2⟩, k.keep _ _ (ne_of w2.words hp (by intro z; cases z)) (ne_of w2.words hl (by intro z; cases z)) w2.words, ⟨kvs2, k.keep _ _ (ne_of hl2 hp (by intro z; cases z)) n2 hl2, L2'.frame fun t m e => k.keep _ _ (ne_of e hp (by intro z; cases z)) (ne_of e hl (by intro z; cases z)) e⟩⟩
theorem FiredAt.wk {C p q l l' r : Addr} {H H' : Hp} {W : WS} (k : Wk p l H H' l') (w : WheelAt C H p q l W) {ts : List Addr} {fs : List (Nat × List Nat)} (h : FiredAt r H ts fs) : FiredAt r H' ts fs := h.frame (fun _ _ _ e => k.tup w e) fun _ _ _ e => k.lst w e
/-- the rows told in another list -/
theorem FiredAt.to {r N : Addr} {H : Hp} {o : HO} (hN : H N = none) : ∀ {ts : List Addr} {fs : List (Nat × List Nat)}, FiredAt r H ts fs → FiredAt N (upd H N o) ts fs
  | [], [], _ => trivial
  | _ :: _, _ :: _, ⟨⟨u, h1, _, h2⟩, h3⟩ => ⟨⟨u, same_upd hN _ _ h1, ne_of_none h2 hN, same_upd hN _ _ h2⟩, h3.to hN⟩
  | [], _ :: _, h => h.elim
  | _ :: _, [], h => h.elim
theorem FiredAt.cat {r : Addr} {H : Hp} : ∀ {ts us : List Addr} {fs gs : List (Nat × List Nat)}, FiredAt r H ts fs → FiredAt r H us gs → FiredAt r H (ts ++ us) (fs ++ gs)
  | [], _, [], _, _, h => h
  | _ :: _, _, _ :: _, _, ⟨h1, h2⟩, h => ⟨h1, h2.cat h⟩
  | [], _, _ :: _, _, h, _ => h.elim
  | _ :: _, _, [], _, h, _ => h.elim
theorem fired_item {r : Addr} {H : Hp} : ∀ {ts : List Addr} {fs : List (Nat × List Nat)} {i : Nat} {x : V}, FiredAt r H ts fs → (ts.map V.ref)[i]? = some x → ∃ t f u, x = .ref t ∧ fs[i]? = some f ∧ H t = some (.tup [.int (f.1 : Nat), .ref u])
  | t :: ts, f :: fs, 0, x, h, e => by
    obtain ⟨u, h1, _⟩ := h.1
    exact ⟨t, f, u, (Option.some.inj e).symm, rfl, h1⟩
  | t :: ts, f :: fs, i + 1, x, h, e => fired_item (i := i) h.2 e
  | [], [], _, _, _, e => by cases e
  | [], _ :: _, _, _, h, _ => h.elim
  | _ :: _, [], _, _, h, _ => h.elim
/-- two wheels of the law, what they stand in since H0 -/
structure Two (C : Addr) (H0 H : Hp) (s p q l p2 q2 l2 : Addr) (W W2 : WS) : Prop where
  keep : ∀ c o, c ≠ s → H0 c = some o → H c = some o
  src : SrcAt H s
  src0 : SrcAt H0 s
  p0 : H0 p = none
  q0 : H0 q = none
  l0 : H0 l = none
  p20 : H0 p2 = none
  q20 : H0 q2 = none
  l20 : H0 l2 = none
  np : p ≠ p2
  nl : l ≠ l2
  at1 : WheelAt C H p q l W
  at2 : WheelAt C H p2 q2 l2 W2
section
variable {C : Addr} {H0 H H' : Hp} {s p q l p2 q2 l2 : Addr} {W W2 : WS}
theorem Two.stp (T : Two C H0 H s p q l p2 q2 l2 W W2) : Stp s H0 H := ⟨T.keep, T.src⟩
theorem Two.same (T : Two C H0 H s p q l p2 q2 l2 W W2) (k : Same H H') : Two C H0 H' s p q l p2 q2 l2 W W2 :=
  ⟨fun c o n e => k _ _ (T.keep c o n e), T.src.same k, T.src0, T.p0, T.q0, T.l0, T.p20, T.q20, T.l20, T.np, T.nl, T.at1.same k, T.at2.same k⟩
theorem src_no {c : Addr} (h : SrcAt H0 s) (hc : H0 c = none) : c ≠ s := fun e => by
  obtain ⟨x, y, z, h⟩ := h
  rw [e, h] at hc
  cases hc
theorem Two.draw (T : Two C H0 H s p q l p2 q2 l2 W W2) (k : Stp s H H') : Two C H0 H' s p q l p2 q2 l2 W W2 :=
  ⟨fun c o n e => k.keep _ _ n (T.keep c o n e), k.src, T.src0, T.p0, T.q0, T.l0, T.p20, T.q20, T.l20, T.np, T.nl, T.at1.draw T.src (src_no T.src0 T.q0) k, T.at2.draw T.src (src_no T.src0 T.q20) k⟩
theorem Two.swap (T : Two C H0 H s p q l p2 q2 l2 W W2) : Two C H0 H s p2 q2 l2 p q l W2 W := ⟨T.keep, T.src, T.src0, T.p20, T.q20, T.l20, T.p0, T.q0, T.l0, Ne.symm T.np, Ne.symm T.nl, T.at2, T.at1⟩
/-- the first one is changed -/
theorem Two.go (T : Two C H0 H s p q l p2 q2 l2 W W2) {l' : Addr} {W' : WS} (k : Wk p l H H' l') (w : WheelAt C H' p q l' W') : Two C H0 H' s p q l' p2 q2 l2 W' W2 := by
  have free : ∀ {c : Addr}, H c = none → c ≠ s → H0 c = none := fun {c} hc hn => by
    cases e : H0 c with
    | none => rfl
    | some o =>
      rw [T.keep c o hn e] at hc
      cases hc
  refine ⟨fun c o n e => k.keep _ _ (ne_of_none e T.p0) (ne_of_none e T.l0) (T.keep c o n e), ?_, T.src0, T.p0, T.q0, ?_, T.p20, T.q20, T.l20, T.np, ?_, w, T.at2.other T.at1 k (Ne.symm T.np) (Ne.symm T.nl)⟩
  · obtain ⟨x, y, z, h⟩ := T.src
    exact ⟨x, y, z, k.lst T.at1 h⟩
  · rcases k.new with e | e
    · rw [e]
      exact T.l0
    · refine free e fun z => ?_
      obtain ⟨x, y, v, h⟩ := T.src
      rw [z, h] at e
      cases e
  · rcases k.new with e | e
    · rw [e]
      exact T.nl
    · intro z
      obtain ⟨kvs, h, _⟩ := T.at2.live
      rw [z, h] at e
      cases e
end
/-! ### ticks let pass one by one -/
/-- what fires at one tick -/
theorem tick_fired {b : Nat} {ws : List Bool} {T : Nat} {ms ms' : List Tm} {fired : List (Nat × List Nat)} (hne : ws ≠ []) (nd : (ms.map (·.num)).Nodup) (few : ms.length ≤ 1000) (hms : ∀ m ∈ ms, m.since ≤ T ∧ T < m.due ∧ m.due < 2 ^ 250) (hper : ∀ m ∈ ms, ∀ k, m.per = some k → 1 ≤ k) (adv : AdvTo b (trimW ws) (T + 1) ms fired ms') :
    ms' = afterF (T + 1) ms (orderAt b ws (T + 1) ms) ∧ fired = if orderAt b ws (T + 1) ms = [] then [] else [(T + 1, orderAt b ws (T + 1) ms)] := by
  cases hl : leastD ms with
  | none =>
    have e0 := least_none.mp hl
    subst e0
    obtain ⟨e1, e2⟩ := adv.uniq (.done fun m hm => by cases hm)
    have eo : orderAt b ws (T + 1) [] = [] := List.eq_nil_of_length_eq_zero (by have := order_few b ws (T + 1) []; simpa using this)
    rw [eo, e1, e2]
    exact ⟨rfl, rfl⟩
  | some v =>
    obtain ⟨hv1, hv2⟩ := least_some.mp hl
    have hge : ∀ m ∈ ms, v ≤ m.due := fun m hm => hv2 _ (List.mem_map.mpr ⟨m, hm, rfl⟩)
    by_cases c : v = T + 1
    · subst c
      have hpos := order_pos (b := b) (ws := ws) hl
      have hnn : orderAt b ws (T + 1) ms ≠ [] := fun z => by
        rw [z] at hpos
        exact absurd hpos (Nat.lt_irrefl _)
      have st := AdvTo.step (b := b) (ws := trimW ws) hl (Nat.le_refl _) (fun m hm => ⟨by have := hms m hm; omega, (hms m hm).2.2⟩) nd few (.done fun m hm => ?_)
      · obtain ⟨e1, e2⟩ := adv.uniq st
        rw [e1, e2, trim_order hne, if_neg hnn]
        exact ⟨rfl, rfl⟩
      · rw [trim_order hne] at hm
        rcases after_mem nd hm with ⟨z1, z2⟩ | ⟨m0, z1, z2, k, z3, rfl⟩
        · have := hge m z1
          omega
        · have := hper m0 z1 k z3
          show T + 1 < T + 1 + k
          omega
    · have hno : ∀ m ∈ ms, T + 1 < m.due := fun m hm => by
        have h1 := hge m hm
        obtain ⟨m0, hm0, e0⟩ := List.mem_map.mp hv1
        have h2 := (hms m0 hm0).2.1
        omega
      obtain ⟨e1, e2⟩ := adv.uniq (.done hno)
      have eo : orderAt b ws (T + 1) ms = [] := List.eq_nil_iff_forall_not_mem.mpr fun x hx => by
        obtain ⟨m, h1, h2, _⟩ := order_mem.mp hx
        have := hno m h1
        omega
      rw [eo, e1, e2]
      exact ⟨rfl, rfl⟩
/-- the rows that fired stay when the law's lists change -/
theorem FiredAt.law {r a : Addr} {H H' : Hp} {ps ps' : List Addr} {kv : List (List Key × V)} (ha : H a = some (.dT kv)) (hl : ∀ p ∈ ps, ∃ ts : List Addr, H p = some (.lst (ts.map V.ref))) (k : Lk a ps H H' ps') : ∀ {ts : List Addr} {fs : List (Nat × List Nat)}, (∀ f ∈ fs, f.2 ≠ []) → FiredAt r H ts fs → FiredAt r H' ts fs
  | [], [], _, _ => trivial
  | t :: ts, f :: fs, hne, ⟨⟨u, h1, hn, h2⟩, h3⟩ => by
    have nt1 : t ≠ a := fun z => by
      rw [z, ha] at h1
      cases h1
    have nt2 : t ∉ ps := fun z => by
      obtain ⟨xs, e⟩ := hl t z
      rw [e] at h1
      cases h1
    have nu1 : u ≠ a := fun z => by
      rw [z, ha] at h2
      cases h2
    have nu2 : u ∉ ps := fun z => by
      obtain ⟨xs, e⟩ := hl u z
      rw [e] at h2
      have hf := hne f (List.mem_cons_self ..)
      cases hf2 : f.2 with
      | nil => exact hf hf2
      | cons y ys =>
        rw [hf2] at h2
        cases xs with
        | nil => cases h2
        | cons x xs => cases h2
    exact ⟨⟨u, k.keep _ _ nt1 nt2 h1, hn, k.keep _ _ nu1 nu2 h2⟩, FiredAt.law ha hl k (fun f hf => hne f (List.mem_cons_of_mem _ hf)) h3⟩
  | [], _ :: _, _, h => h.elim
  | _ :: _, [], _, h => h.elim
theorem FiredAt.but {r d : Addr} {H H' : Hp} {kv : List (Key × V)} (e : H d = some (.dK kv)) (k : ∀ c o, c ≠ d → H c = some o → H' c = some o) {ts : List Addr} {fs : List (Nat × List Nat)} (h : FiredAt r H ts fs) : FiredAt r H' ts fs := h.frame (fun _ _ _ h => k _ _ (ne_of h e (by intro z; cases z)) h) fun _ _ _ h => k _ _ (ne_of h e (by intro z; cases z)) h
theorem adv_le {b : Nat} {ws : List Bool} {t : Nat} {ms ms' : List Tm} {f : List (Nat × List Nat)} (h : AdvTo b ws t ms f ms') : ∀ r ∈ f, r.1 ≤ t := by
  induction h with
  | done _ => exact fun r hr => by cases hr
  | step h1 h2 ok nd few r ih =>
    intro x hx
    rcases List.mem_cons.mp hx with rfl | hx
    · exact h2
    · exact ih x hx
theorem total_app {a c : List (Nat × List Nat)} : total (a ++ c) = total a + total c := by
  unfold total
  rw [List.map_append, List.sum_append]
theorem adv_keep {b : Nat} {ws : List Bool} {t : Nat} {ms ms' : List Tm} {f : List (Nat × List Nat)} {Pm : Tm → Prop} (h : AdvTo b ws t ms f ms') (hs : ∀ m v k, Pm m → m.per = some k → v ≤ t → Pm ⟨m.num, v + k, some k, v⟩) : (∀ m ∈ ms, Pm m) → ∀ m ∈ ms', Pm m := by
  induction h with
  | done _ => exact fun h => h
  | @step ms ms' at_ rest h1 h2 ok nd few r ih =>
    intro h0
    refine ih fun m hm => ?_
    rcases after_mem nd hm with ⟨z, _⟩ | ⟨m0, z1, z2, k, z3, rfl⟩
    · exact h0 m z
    · exact hs m0 at_ k (h0 m0 z1) z3 h2
/-- a list of the law's own is changed -/
theorem Duo.lst {C : Addr} {H0 H : Hp} {s p q l a ql F : Addr} {ws : List Bool} {W : WS} {cs : List LCell} {ps : List Addr} {xs ys : List V} (D : Duo C H0 H s p q l a ql ws W cs ps) (e : H F = some (.lst xs)) (h0 : H0 F = none) (ns : F ≠ s) (nq : F ≠ q) (nql : F ≠ ql) (nps : F ∉ ps) : Duo C H0 (upd H F (.lst ys)) s p q l a ql ws W cs ps := by
  have kp : ∀ c o, c ≠ F → H c = some o → (upd H F (.lst ys)) c = some o := fun c o n e => by
    rw [upd_ne n]
    exact e
  refine ⟨fun c o e' => kp _ _ (ne_of_none e' h0) (D.base _ _ e'), D.s0, D.p0, D.l0, D.a0, D.new, ?_, kp _ _ (Ne.symm nql) D.ql_, D.hne, D.wne, D.at_.frame e nq kp, D.lw.frame fun c o hc e' => kp _ _ (fun z => ?_) e'⟩
  · obtain ⟨x, y, v, h⟩ := D.src
    exact ⟨x, y, v, kp _ _ (Ne.symm ns) h⟩
  · rcases hc with hc | hc | ⟨xs2, hc⟩
    · obtain ⟨kv, ea, _⟩ := D.lw.dict
      rw [← hc, z, e] at ea
      cases ea
    · exact nps (by rw [← z]; exact hc)
    · rw [z, e, hc] at e'
      cases e'
/-- one object more that stays -/
theorem Duo.more {C : Addr} {H0 H : Hp} {s p q l a ql c : Addr} {o : HO} {ws : List Bool} {W : WS} {cs : List LCell} {ps : List Addr} (D : Duo C H0 H s p q l a ql ws W cs ps) (h0 : H0 c = none) (e : H c = some o) (ns : c ≠ s) (np : c ≠ p) (nl : c ≠ l) (na : c ≠ a) (nps : c ∉ ps) : Duo C (upd H0 c o) H s p q l a ql ws W cs ps := by
  refine ⟨fun x y e' => ?_, ?_, ?_, ?_, ?_, fun r hr => ?_, D.src, D.ql_, D.hne, D.wne, D.at_, D.lw⟩
  · by_cases z : x = c
    · rw [z, upd_same] at e'
      rw [z, e, Option.some.inj e']
    · rw [upd_ne z] at e'
      exact D.base _ _ e'
  · rw [upd_ne (Ne.symm ns)]
    exact D.s0
  · rw [upd_ne (Ne.symm np)]
    exact D.p0
  · rw [upd_ne (Ne.symm nl)]
    exact D.l0
  · rw [upd_ne (Ne.symm na)]
    exact D.a0
  · rw [upd_ne fun z => nps (by rw [← z]; exact hr)]
    exact D.new r hr
/-! ### a dict of what fired -/
theorem merge_val (x : Nat) : ∀ (kvs acc : List (Key × V)), (∀ kv ∈ kvs, kv.1 ≠ Sum.inl ((x : Nat) : Int)) → valV (mergeK acc kvs) (Sum.inl ((x : Nat) : Int)) = valV acc (Sum.inl ((x : Nat) : Int))
  | [], _, _ => rfl
  | kv :: kvs, acc, h => by
    have z := merge_val x kvs (putK acc kv.1 kv.2) fun y hy => h y (List.mem_cons_of_mem _ hy)
    have e : mergeK acc (kv :: kvs) = mergeK (putK acc kv.1 kv.2) kvs := rfl
    rw [e, z, valV_put, if_neg fun e => h kv (List.mem_cons_self ..) e.symm]
theorem fired_dict {K : PySem.W.Frag} {r : Addr} {H : Hp} : ∀ {ts : List Addr} {fs : List (Nat × List Nat)}, FiredAt r H ts fs → (fs.map (·.1)).Nodup → ∃ kvs : List (Key × V), Paired (fun p kv => SqT K H p [kV kv.1, kv.2]) ts kvs ∧ (∀ kv ∈ kvs, ∃ f ∈ fs, kv.1 = Sum.inl ((f.1 : Nat) : Int)) ∧
    ∀ f ∈ fs, ∃ u, (∀ acc, valV (mergeK acc kvs) (Sum.inl ((f.1 : Nat) : Int)) = some (.ref u)) ∧ H u = some (.lst (f.2.map fun y => V.int (y : Nat)))
  | [], [], _, _ => ⟨[], .nil, (fun _ h => by cases h), fun _ h => by cases h⟩
  | t :: ts, f :: fs, ⟨⟨u, h1, _, h2⟩, h3⟩, nd => by
    rw [List.map_cons, List.nodup_cons] at nd
    obtain ⟨kvs, a1, a2, a3⟩ := fired_dict (K := K) h3 nd.2
    refine ⟨(Sum.inl ((f.1 : Nat) : Int), .ref u) :: kvs, .cons (SqT.of h1) a1, fun kv hkv => ?_, fun g hg => ?_⟩
    · rcases List.mem_cons.mp hkv with e | hkv
      · rw [e]
        exact ⟨f, List.mem_cons_self .., rfl⟩
      · obtain ⟨g, hg, e⟩ := a2 kv hkv
        exact ⟨g, List.mem_cons_of_mem _ hg, e⟩
    · rcases List.mem_cons.mp hg with e | hg
      · rw [e]
        refine ⟨u, fun acc => ?_, h2⟩
        have e1 : mergeK acc ((Sum.inl ((f.1 : Nat) : Int), .ref u) :: kvs) = mergeK (putK acc (Sum.inl ((f.1 : Nat) : Int)) (.ref u)) kvs := rfl
        rw [e1, merge_val f.1 kvs _ fun kv hkv e2 => ?_, valV_put, if_pos rfl]
        obtain ⟨g, hg, e3⟩ := a2 kv hkv
        rw [e2] at e3
        have e4 : f.1 = g.1 := Int.ofNat.inj (Sum.inl.inj e3)
        exact nd.1 (by rw [e4]; exact List.mem_map.mpr ⟨g, hg, rfl⟩)
      · obtain ⟨v, b1, b2⟩ := a3 g hg
        exact ⟨v, fun acc => b1 _, b2⟩
  | [], _ :: _, h, _ => h.elim
  | _ :: _, [], h, _ => h.elim
/-! ### law k03: timers that fire at most once up to a tick -/
theorem cnt_split {v top : Nat} (hv : v ≤ top) : ∀ ms : List Tm, ((ms.filter fun m => decide (m.due ≠ v)).filter fun m => decide (m.due ≤ top)).length + (ms.filter fun m => decide (m.due = v)).length = (ms.filter fun m => decide (m.due ≤ top)).length
  | [] => rfl
  | m :: ms => by
    have ih := cnt_split hv ms
    by_cases c : m.due = v
    · have c2 : m.due ≤ top := by omega
      rw [List.filter_cons_of_neg (by simp [c]), List.filter_cons_of_pos (by simp [c]), List.filter_cons_of_pos (by simp [c2]), List.length_cons, List.length_cons]
      omega
    · by_cases c2 : m.due ≤ top
      · rw [List.filter_cons_of_pos (by simp [c]), List.filter_cons_of_pos (by simp [c2]), List.filter_cons_of_neg (by simp [c]), List.filter_cons_of_pos (by simp [c2]), List.length_cons, List.length_cons]
        omega
      · rw [List.filter_cons_of_pos (by simp [c]), List.filter_cons_of_neg (by simp [c2]), List.filter_cons_of_neg (by simp [c]), List.filter_cons_of_neg (by simp [c2])]
        exact ih
theorem order_due {b : Nat} {ws : List Bool} {x : Nat} {ms ms' : List Tm} (h : (ms.filter fun m => decide (m.due = x)) = ms'.filter fun m => decide (m.due = x)) : orderAt b ws x ms = orderAt b ws x ms' := by
  rw [order_deq, order_deq, h]
theorem order_no {b : Nat} {ws : List Bool} {x : Nat} {ms : List Tm} (h : ∀ m ∈ ms, m.due ≠ x) : orderAt b ws x ms = [] := by
  refine List.eq_nil_iff_forall_not_mem.mpr fun n hn => ?_
  obtain ⟨m, hm, e, _⟩ := order_mem.mp hn
  exact h m hm e
structure Ran (b : Nat) (ws : List Bool) (top : Nat) (ms : List Tm) (fs : List (Nat × List Nat)) : Prop where
  asc : fs.Pairwise (fun f g => f.1 < g.1)
  told : ∀ f ∈ fs, f.1 ≤ top ∧ f.2 = orderAt b ws f.1 ms ∧ ∃ m ∈ ms, m.due = f.1
  all : ∀ m ∈ ms, m.due ≤ top → ∃ f ∈ fs, f.1 = m.due
theorem far_run (b : Nat) (ws : List Bool) (top : Nat) : ∀ (k : Nat) (ms : List Tm), (ms.filter fun m => decide (m.due ≤ top)).length ≤ k → (∀ m ∈ ms, m.since < m.due ∧ m.due < 2 ^ 250) → (∀ m ∈ ms, m.due ≤ top → ∀ p, m.per = some p → top < m.due + p ∧ m.due + p < 2 ^ 250) → (ms.map (·.num)).Nodup → ms.length ≤ 1000 →
    ∃ fs ms', AdvTo b ws top ms fs ms' ∧ fs.length ≤ (ms.filter fun m => decide (m.due ≤ top)).length ∧ total fs ≤ (ms.filter fun m => decide (m.due ≤ top)).length ∧ Ran b ws top ms fs := by
  intro k
  induction k with
  | zero =>
    intro ms hl ok _ nd _
    have h0 : ∀ m ∈ ms, top < m.due := fun m hm => Nat.lt_of_not_le fun c => by
      have z : m ∈ ms.filter fun m => decide (m.due ≤ top) := List.mem_filter.mpr ⟨hm, decide_eq_true c⟩
      rw [List.eq_nil_of_length_eq_zero (by omega : (ms.filter fun m => decide (m.due ≤ top)).length = 0)] at z
      cases z
    exact ⟨[], ms, .done h0, Nat.zero_le _, Nat.zero_le _, List.Pairwise.nil, (fun f h => by cases h), fun m hm c => absurd c (Nat.not_le_of_lt (h0 m hm))⟩
  | succ k ih =>
    intro ms hl ok hp nd few
    cases hle : leastD ms with
    | none =>
      have e := least_none.mp hle
      subst e
      exact ⟨[], [], .done (fun m h => by cases h), Nat.zero_le _, Nat.zero_le _, List.Pairwise.nil, (fun f h => by cases h), fun m h => by cases h⟩
    | some v =>
      obtain ⟨hv1, hv2⟩ := least_some.mp hle
      obtain ⟨mv, hmv, emv⟩ := List.mem_map.mp hv1
      have hge : ∀ m ∈ ms, v ≤ m.due := fun m hm => hv2 _ (List.mem_map.mpr ⟨m, hm, rfl⟩)
      by_cases hv : v ≤ top
      · have mem := fun {m : Tm} hm => after_mem (b := b) (ws := ws) (v := v) nd (m := m) hm
        have ea := after_due (b := b) (ws := ws) (t := v) nd
        have hnew : ∀ m ∈ (deq (fun m => sideT b ws m.since m.due 0) (ms.filter fun m => decide (m.due = v))).filterMap (againM v), top < m.due := fun m hm => by
          obtain ⟨m0, z1, z2⟩ := List.mem_filterMap.mp hm
          obtain ⟨p, z3, rfl⟩ := again_at z2
          obtain ⟨z4, z5⟩ := List.mem_filter.mp (mem_deq.mp z1)
          have z6 : m0.due = v := of_decide_eq_true z5
          have z7 := hp m0 z4 (by omega) p z3
          show top < v + p
          omega
        have ef : (afterF v ms (orderAt b ws v ms)).filter (fun m => decide (m.due ≤ top)) = (ms.filter fun m => decide (m.due ≠ v)).filter fun m => decide (m.due ≤ top) := by
          have z0 : ∀ l : List Tm, (∀ m ∈ l, top < m.due) → l.filter (fun m => decide (m.due ≤ top)) = [] := fun l h => List.filter_eq_nil_iff.mpr fun m hm => by
            have := h m hm
            simp
            omega
          rw [ea, List.filter_append, z0 _ hnew, List.append_nil]
        have hc := cnt_split hv ms
        have hol := order_len b ws v ms
        have hpos : 0 < (ms.filter fun m => decide (m.due = v)).length := List.length_pos_of_mem (List.mem_filter.mpr ⟨hmv, decide_eq_true emv⟩)
        have hal : (afterF v ms (orderAt b ws v ms)).length ≤ ms.length := by
          unfold afterF
          have all : ∀ (ns : List Nat) (l : List Tm), (ns.foldl (fireT v) l).length ≤ l.length := by
            intro ns
            induction ns with
            | nil => exact fun l => Nat.le_refl _
            | cons n ns ih => exact fun l => Nat.le_trans (ih _) fire_len
          exact all _ _
        have hok1 : ∀ m ∈ afterF v ms (orderAt b ws v ms), m.since < m.due ∧ m.due < 2 ^ 250 := fun m hm => by
          rcases mem hm with ⟨z1, _⟩ | ⟨m0, z1, z2, p, z3, rfl⟩
          · exact ok m z1
          · have z4 := hp m0 z1 (by omega) p z3
            exact ⟨by show v < v + p; omega, by show v + p < _; omega⟩
        have hper1 : ∀ m ∈ afterF v ms (orderAt b ws v ms), m.due ≤ top → ∀ p, m.per = some p → top < m.due + p ∧ m.due + p < 2 ^ 250 := fun m hm hd p e => by
          rcases mem hm with ⟨z1, _⟩ | ⟨m0, z1, z2, p', z3, rfl⟩
          · exact hp m z1 hd p e
          · have z4 := hp m0 z1 (by omega) p' z3
            have z5 : v + p' ≤ top := hd
            omega
        obtain ⟨fs, ms', r1, r2, r3, r4⟩ := ih (afterF v ms (orderAt b ws v ms)) (by rw [ef]; omega) hok1 hper1 (after_nodup nd) (by omega)
        rw [ef] at r2 r3
        refine ⟨(v, orderAt b ws v ms) :: fs, ms', .step hle hv ok nd few r1, ?_, ?_, ?_, fun f hf => ?_, fun m hm hd => ?_⟩
        · rw [List.length_cons]
          omega
        · show (orderAt b ws v ms).length + total fs ≤ _
          omega
        · refine List.pairwise_cons.mpr ⟨fun f hf => ?_, r4.asc⟩
          obtain ⟨y1, _, m, hm, e⟩ := r4.told f hf
          show v < f.1
          rcases mem hm with ⟨z1, z2⟩ | ⟨m0, z1, z2, p, z3, rfl⟩
          · have := hge m z1
            omega
          · have z4 := hp m0 z1 (by omega) p z3
            have z5 : v + p = f.1 := e
            omega
        · rcases List.mem_cons.mp hf with e | hf
          · rw [e]
            exact ⟨hv, rfl, mv, hmv, emv⟩
          · obtain ⟨h1, h2, m, hm, e⟩ := r4.told f hf
            have hm2 : m ∈ ms ∧ m.due ≠ v := by
              rcases mem hm with z | ⟨m0, z1, z2, p, z3, rfl⟩
              · exact z
              · have z4 := hp m0 z1 (by omega) p z3
                have z5 : v + p = f.1 := e
                omega
            refine ⟨h1, ?_, m, hm2.1, e⟩
            rw [h2]
            refine order_due ?_
            have z0 : ∀ l : List Tm, (∀ m ∈ l, top < m.due) → l.filter (fun m => decide (m.due = f.1)) = [] := fun l h => List.filter_eq_nil_iff.mpr fun m hm => by
              have := h m hm
              simp
              omega
            rw [ea, List.filter_append, z0 _ hnew, List.append_nil, List.filter_filter]
            refine List.filter_congr fun x _ => ?_
            by_cases c : x.due = f.1
            · have c2 : x.due ≠ v := by
                rw [c, ← e]
                exact hm2.2
              simp [c, ← e, hm2.2]
            · simp [c]
        · by_cases c : m.due = v
          · exact ⟨_, List.mem_cons_self .., c.symm⟩
          · obtain ⟨f, hf, e⟩ := r4.all m (by rw [ea]; exact List.mem_append.mpr (.inl (List.mem_filter.mpr ⟨hm, by simpa using c⟩))) hd
            exact ⟨f, List.mem_cons_of_mem _ hf, e⟩
      · refine ⟨[], ms, .done (fun m h => ?_), Nat.zero_le _, Nat.zero_le _, List.Pairwise.nil, (fun f h => by cases h), fun m hm hd => ?_⟩
        · have := hge m h
          omega
        · have := hge m hm
          omega
/-- where those that fire have no periods, those are left that are due later -/
theorem AdvTo.left2 {b : Nat} {ws : List Bool} {t : Nat} {ms ms' : List Tm} {f : List (Nat × List Nat)} (h : AdvTo b ws t ms f ms') (hp : ∀ m ∈ ms, m.due ≤ t → m.per = none) : ms' = ms.filter fun m => decide (t < m.due) := by
  induction h with
  | done hd =>
    rw [List.filter_eq_self.mpr]
    intro m hm
    simpa using hd m hm
  | @step ms ms' at_ rest h1 h2 ok nd few r ih =>
    have ea := after_due (b := b) (ws := ws) (t := at_) nd
    have en : (deq (fun m => sideT b ws m.since m.due 0) (ms.filter fun m => decide (m.due = at_))).filterMap (againM at_) = [] := List.filterMap_eq_nil_iff.mpr fun m hm => by
      obtain ⟨z1, z2⟩ := List.mem_filter.mp (mem_deq.mp hm)
      have z3 : m.due = at_ := of_decide_eq_true z2
      have z := hp m z1 (by omega)
      unfold againM
      rw [z]
      rfl
    rw [en, List.append_nil] at ea
    have i1 := ih fun m hm => by
      rw [ea] at hm
      exact hp m (List.mem_filter.mp hm).1
    rw [i1, ea, List.filter_filter]
    refine List.filter_congr fun m hmm => ?_
    by_cases c : t < m.due
    · have : m.due ≠ at_ := by omega
      simp [c, this]
    · simp [c]
/-- what a dict of the fired rows tells of a tick -/
theorem ran_get {K : PySem.W.Frag} {r : Addr} {H : Hp} {ts : List Addr} {fs : List (Nat × List Nat)} {b top t : Nat} {ws : List Bool} {ms : List Tm} (h : FiredAt r H ts fs) (R : Ran b ws top ms fs) (ht : t ≤ top) : ∃ kvs : List (Key × V), Paired (fun p kv => SqT K H p [kV kv.1, kv.2]) ts kvs ∧
    ∀ H' l, Same H H' → H' l = some (.lst []) → ∃ N, (valV (mergeK [] kvs) (Sum.inl ((t : Nat) : Int))).getD (.ref l) = .ref N ∧ H' N = some (.lst ((orderAt b ws t ms).map fun y => V.int (y : Nat))) ∧ (N = l ∨ orderAt b ws t ms ≠ []) := by
  have hnd : (fs.map (·.1)).Nodup := by
    show (fs.map (·.1)).Pairwise (· ≠ ·)
    rw [List.pairwise_map]
    exact R.asc.imp fun h => by omega
  obtain ⟨kvs, c1, c2, c3⟩ := fired_dict (K := K) h hnd
  refine ⟨kvs, c1, fun H' l s el => ?_⟩
  by_cases hx : ∃ f ∈ fs, f.1 = t
  · obtain ⟨f, hf, rfl⟩ := hx
    obtain ⟨N, d1, d2⟩ := c3 f hf
    refine ⟨N, by rw [d1]; rfl, ?_, .inr fun z => ?_⟩
    · rw [← (R.told f hf).2.1]
      exact s _ _ d2
    · obtain ⟨m, hm, e⟩ := (R.told f hf).2.2
      have y : m.num ∈ orderAt b ws f.1 ms := order_mem.mpr ⟨m, hm, e, rfl⟩
      rw [z] at y
      cases y
  · refine ⟨l, ?_, ?_, .inl rfl⟩
    · rw [merge_val t kvs [] fun kv hkv e => ?_]
      · rfl
      · obtain ⟨f, hf, e2⟩ := c2 kv hkv
        rw [e] at e2
        exact hx ⟨f, hf, (Int.ofNat.inj (Sum.inl.inj e2)).symm⟩
    · rw [order_no fun m hm e => ?_]
      · exact el
      · obtain ⟨f, hf, e2⟩ := R.all m hm (by omega)
        exact hx ⟨f, hf, e2.trans e⟩
/-- what the law's lists and the wheel hold: the law's rows have no periods -/
structure S03 (e m b : Nat) (ws : List Bool) (W : WS) (cs : List LCell) : Prop where
  base : W.b = b
  ok : WOk W
  gvs : ∀ pp, gv cs pp = stM b ws W.tick (W.live.map strM) pp
  em : emp cs ≤ e
  few : W.live.length ≤ m
  ww : W.ws = trimW ws
  due : ∀ x ∈ W.live, x.due < 2 ^ 200
  tick : W.tick < 2 ^ 200
theorem S03.cells {e m b : Nat} {ws : List Bool} {W : WS} {cs : List LCell} (S : S03 e m b ws W cs) (nk : (cs.map (·.1)).Nodup) : cs.length ≤ e + m := by
  have z := cells_len nk S.gvs
  rw [List.length_map] at z
  have y := S.em
  have x := S.few
  omega
theorem S03.cell {e m b : Nat} {ws : List Bool} {W : WS} {cs : List LCell} (S : S03 e m b ws W cs) (p : Nat × Nat) : (gv cs p).length ≤ m := by
  rw [S.gvs]
  have z := stM_len b ws W.tick (W.live.map strM) p
  rw [List.length_map] at z
  have x := S.few
  omega
theorem str_str (ms : List Tm) : (ms.map strM).map strM = ms.map strM := by
  rw [List.map_map]
  rfl
theorem str_nd {ms : List Tm} (nd : (ms.map (·.num)).Nodup) : ((ms.map strM).map (·.num)).Nodup := by
  rw [List.map_map]
  exact nd
theorem drop_str (n : Nat) (ms : List Tm) : dropT n (ms.map strM) = (dropT n ms).map strM := by
  unfold dropT
  rw [List.filter_map]
  rfl
/-! ### law k03: the law's lists copied, without periods -/
theorem PairT.frame {H H' : Hp} (s : ∀ t xs, H t = some (.tup xs) → H' t = some (.tup xs)) {us : List Addr} {kv : List (List Key × V)} (h : Paired (PairT H) us kv) : Paired (PairT H') us kv := Paired.mapP h fun _ _ ⟨b, h1, h2⟩ => ⟨b, s _ _ h1, s _ _ h2⟩
section
variable {P : Program} {w : World} {K : PySem.W.Frag} {mg : Str → Option Value} {base : Heap}
def spCopy (K : PySem.W.Frag) : Sp := fun vs H Q _ => ∃ (a : Addr) (cs : List LCell) (ps : List Addr), vs = [.ref a] ∧ LW H a cs ps ∧ cs.length ≤ 1000 ∧ (∀ p, (gv cs p).length ≤ 1000) ∧
  ∀ H' d ps', Same H H' → H d = none → (∀ p ∈ ps', H p = none) → LW H' d (cs.map strC) ps' → Q (.ref d) H'
set_option maxHeartbeats 40000000 in
theorem ok_copy03 {f0 : Addr} {fd : FuncData} (F : Fun K "_law_copy" "_law_copy" s__law_copy f0 fd) (T : Tx K mg) : FnOk P w K mg base CX0 1 f0 fd ["_law_lists"] (spCopy K) := by
  refine F.ok sc__law_copy (fun vs H Q E h => ?_) (fun cdv A outer s H vs Q E hr h => ?_)
  · obtain ⟨a, cs, ps, rfl, _⟩ := h
    rfl
  · obtain ⟨a, cs, ps, rfl, hW, few, hgl, c⟩ := h
    have hu := hu_of hr
    refine ⟨_, (pss_one (ps_ret (pe_callTy (call_dictPT rfl hr.units) (by rfl) T.b_dict (by decide +kernel) (pa_cons (pe_lock (pe_lc (own := [("_law_key", 1)]) (g := gName 1) (tt := tYes) rfl sc__law_copy.nd (pi_keys (pv 0)) (blkOk_by (own := [("_law_key", 1)]) (N := N__law_copy) (sc := defScope s__law_copy) (by decide +kernel)) (fun _ _ _ _ _ => (pg_name (i := 1) sc__law_copy.nd rfl (.inl rfl))) (fun _ _ _ _ _ => pts_nil) (fun _ _ _ _ _ => (pe_tup (pa_cons (pv 1) (pa_cons (pe_lc (own := [("_law_row", 2)]) (g := gName 2) (tt := tYes) rfl sc__law_copy.nd (pi_listK (K := K) rfl (pe_dget hu (pv 0) (pv 1) (fun _ _ => rfl))) (blkOk_by (own := [("_law_row", 2)]) (N := N__law_copy) (sc := { kind := .function, names := [(".0", .local), ("_law_key", .local), ("_law_lists", .cell)], isGenerator := false, isCoroutine := false }) (by decide +kernel)) (fun _ _ _ _ _ => (pg_name (i := 2) sc__law_copy.nd rfl (.inl rfl))) (fun _ _ _ _ _ => pts_nil) (fun _ _ _ _ _ => (pe_tup (pa_cons (pe_ix (ix_tupK (K := K) rfl) (pv 2) pe_int (fun _ _ => rfl)) (pa_cons (pe_ix (ix_tupK (K := K) rfl) (pv 2) pe_int (fun _ _ => rfl)) (pa_cons pe_non pa_nil)))))) pa_nil)))))) pa_nil)))), ?_⟩
    obtain ⟨kvs, hd, hC⟩ := hW.dict
    have hlen := hC.len
    refine ⟨a, _, hd, trivial, fun od => ?_⟩
    have C0 : LCells (upd H a (.frz od (.dT kvs))) kvs cs ps := hC.frame (fun t xs e => lock_same hd e (by intro z; cases z)) fun p hp o e => by
      rw [upd_ne fun z => hW.ne (by rw [← z]; exact hp)]
      exact e
    refine ⟨_, rfl, a, od, rfl, .inr ⟨kvs, upd_same, fun D hD => lc_keysT (d := a) (o := od) (kvs := kvs) (fun i H' => Same (upd H a (.frz od (.dT kvs))) H' ∧ ∃ (us : List Addr) (kv' : List (List Key × V)) (ps' : List Addr), H' D = some (.lst (us.map V.ref)) ∧ us.length = i ∧ Paired (PairT H') us kv' ∧ LCells H' kv' ((cs.take i).map strC) ps' ∧ ps'.Nodup ∧ ∀ p ∈ ps', H p = none ∧ p ≠ D)
      ⟨same_upd hD, [], [], [], upd_same, rfl, .nil, trivial, List.nodup_nil, fun p hp => by cases hp⟩ (fun i H' ⟨sm, _⟩ => sm _ _ upd_same) ?_ ?_⟩⟩
    · rintro i k v q H' hx ⟨sm, us, kv', ps', eD, hul, hP, hL, hnd, hnew⟩ hq
      have Ci := C0.frame (H' := H') (fun t xs e => sm _ _ e) fun p hp o e => sm _ _ e
      obtain ⟨cc, pl, hcc, rfl, rfl, hpl, ts, b1, b2⟩ := Ci.item hx
      have hic : i < cs.length := (List.getElem?_eq_some_iff.mp hcc).1
      have g : DGet H' a (.ref q) (valV kvs (keyC cc.1)) := .inr ⟨kvs, keyC cc.1, q, .inr ⟨od, sm _ _ upd_same⟩, rfl, hq, rfl⟩
      obtain ⟨pl', hpl', ts', d1, d2, d3⟩ := Ci.at (k := cc.1) (List.mem_map.mpr ⟨cc, List.mem_of_getElem? hcc, rfl⟩)
      have hgv : gv cs cc.1 = cc.2 := gv_mem hW.nk (List.mem_of_getElem? hcc)
      rw [hgv] at d3
      rw [d1] at g
      have hd3 := d3.len
      have hg1000 := hgl cc.1
      rw [hgv] at hg1000
      refine ⟨rfl, yesT (iteT ⟨_, rfl, _, rfl, _, rfl, a, .ref pl', rfl, g, pl', rfl, ⟨_, SqL.of d2⟩, fun D3 hD3 => lc_list (K := K) (a := pl') (xs := ts'.map V.ref) (fun j H5 => Same H' H5 ∧ ∃ us5 : List Addr, H5 D3 = some (.lst (us5.map V.ref)) ∧ LRows H5 us5 ((cc.2.take j).map strM)) ⟨same_upd hD3, [], upd_same, trivial⟩ (fun j H5 _ ⟨sm5, _⟩ => SqL.of (sm5 _ _ d2)) ?_ ?_⟩)⟩
      · rintro j v H5 hv5 ⟨sm5, us5, eD5, hR5⟩
        obtain ⟨t5, m, rfl, _, hm, ht5⟩ := (d3.frame (H' := H5) fun t xs e => sm5 _ _ e).get hv5
        have hjl := (List.getElem?_eq_some_iff.mp hm).1
        refine ⟨rfl, yesT (iteT ⟨_, rfl, t5, _, 0, _, rfl, rfl, .inl (.inl ht5), atI_nat (j := 0) rfl, _, rfl, t5, _, 1, _, rfl, rfl, .inl (.inl ht5), atI_nat (j := 1) rfl, by simp [sizeLine_eq], fun tn htn => ?_⟩)⟩
        have un := same_upd (o := .tup [.int (m.num : Nat), .int (m.due : Nat), .non]) htn
        have etn : (upd H5 tn (.tup [.int (m.num : Nat), .int (m.due : Nat), .non])) tn = some (.tup (lrowV (strM m))) := upd_same
        have hl5 := hR5.len
        rw [List.length_map, List.length_take] at hl5
        refine ⟨_, un _ _ eD5, ?_, fun c o e => ?_, us5 ++ [tn], ?_, ?_⟩
        · rw [List.length_map]
          exact sizeLine_ge (by omega)
        · rw [upd_ne (ne_of_none e hD3)]
          exact un _ _ (sm5 _ _ e)
        · rw [upd_same, List.map_append]
          rfl
        · rw [List.take_add_one, hm, Option.toList_some, List.map_append]
          refine LRows.app (hR5.frame fun t xs e => ?_) ⟨?_, trivial⟩
          · rw [upd_ne (ne_of (un _ _ e) (un _ _ eD5) (by intro z; cases z))]
            exact un _ _ e
          · rw [upd_ne (ne_of etn (un _ _ eD5) (by intro z; cases z))]
            exact etn
      · rintro H5 ⟨sm5, us5, eD5, hR5⟩
        rw [List.length_map, hd3, List.take_length] at hR5
        refine ⟨by simp [sizeLine_eq], fun u hu0 => ?_⟩
        have su := same_upd (o := .tup [.ref q, .ref D3]) hu0
        have eu := upd_same (H := H5) (a := u) (o := .tup [.ref q, .ref D3])
        generalize upd H5 u (.tup [.ref q, .ref D3]) = H6 at su eu ⊢
        have s56 := sm5.trans su
        have eD6 := s56 _ _ eD
        have eD36 := su _ _ eD5
        have nD : D3 ≠ D := fun z => by
          rw [z, eD] at hD3
          cases hD3
        have hn3 : H D3 = none := upd_none (sm.free hD3)
        have kt : ∀ t xs, H' t = some (.tup xs) → (upd H6 D (.lst (us.map V.ref ++ [.ref u]))) t = some (.tup xs) := fun t xs e => by
          rw [upd_ne (ne_of (s56 _ _ e) eD6 (by intro z; cases z))]
          exact s56 _ _ e
        refine ⟨_, eD6, ?_, fun c o e => ?_, us ++ [u], kv' ++ [(keyC cc.1, .ref D3)], ps' ++ [D3], ?_, ?_, ?_, ?_, ?_, ?_⟩
        · rw [List.length_map]
          exact sizeLine_ge (by omega)
        · rw [upd_ne (ne_of_none e hD)]
          exact s56 _ _ (sm _ _ e)
        · rw [upd_same, List.map_append]
          rfl
        · rw [List.length_append, hul]
          rfl
        · refine Paired.snoc (PairT.frame kt hP) ⟨q, ?_, kt _ _ hq⟩
          rw [upd_ne (ne_of eu eD6 (by intro z; cases z))]
          exact eu
        · have e1 : (cs.take (i + 1)).map strC = (cs.take i).map strC ++ [(cc.1, cc.2.map strM)] := by
            rw [List.take_add_one, hcc, Option.toList_some, List.map_append]
            rfl
          rw [e1]
          refine LCells.snoc (ts := us5) ?_ (hR5.frame fun t xs e => ?_) (hL.frame kt fun p hp o e => ?_)
          · rw [upd_ne nD]
            exact eD36
          · rw [upd_ne (ne_of (su _ _ e) eD6 (by intro z; cases z))]
            exact su _ _ e
          · rw [upd_ne (hnew p hp).2]
            exact s56 _ _ e
        · refine List.nodup_append.mpr ⟨hnd, (by simp), fun x hx y hy => ?_⟩
          rw [List.mem_singleton.mp hy]
          rintro rfl
          obtain ⟨ts, y⟩ := hL.lst _ hx
          rw [y] at hD3
          cases hD3
        · intro p hp
          rcases List.mem_append.mp hp with h | h
          · exact hnew p h
          · rw [List.mem_singleton.mp h]
            exact ⟨hn3, nD⟩
    rintro H1 ⟨sm, us, kv', ps', eD, hul, hP, hL, hnd, hnew⟩
    rw [hlen, List.take_length] at hL
    have nDa : D ≠ a := fun e => by
      rw [e, upd_same] at hD
      cases hD
    have s2 := unlock hd sm
    have kt : ∀ t xs, H1 t = some (.tup xs) → (upd H1 a (.dT kvs)) t = some (.tup xs) := fun t xs e => by
      rw [upd_ne fun z => by
        rw [z, sm _ _ upd_same] at e
        cases e]
      exact e
    have eD2 : (upd H1 a (.dT kvs)) D = some (.lst (us.map V.ref)) := by
      rw [upd_ne nDa]
      exact eD
    have hP2 := PairT.frame kt hP
    have hL2 := hL.frame (H' := upd H1 a (.dT kvs)) kt fun p hp o e => by
      rw [upd_ne fun z => by
        have y := (hnew p hp).1
        rw [z, hd] at y
        cases y]
      exact e
    refine ⟨sm _ _ upd_same, ?_⟩
    generalize upd H1 a (.dT kvs) = H2 at s2 eD2 hP2 hL2 ⊢
    have ek : ((cs.map strC).map fun c => keyC c.1) = (cs.map (·.1)).map keyC := by
      rw [List.map_map, List.map_map]
      rfl
    have hkn : (kv'.map (·.1)).Nodup := by
      rw [hL2.keys, ek]
      exact List.Pairwise.map keyC (fun _ _ h e => h (keyC_inj.mp e)) hW.nk
    refine ⟨D, us, kv', rfl, SqL.of eD2, hP2, hkn, fun d hd0 => ?_⟩
    have s3 := same_upd (o := .dT kv') hd0
    have ed3 := upd_same (H := H2) (a := d) (o := .dT kv')
    have hL3 := hL2.frame (H' := upd H2 d (.dT kv')) (fun t xs e => s3 _ _ e) fun p hp o e => s3 _ _ e
    generalize upd H2 d (.dT kv') = H3 at s3 ed3 hL3 ⊢
    have hW3 : LW H3 d (cs.map strC) ps' := ⟨⟨kv', ed3, hL3⟩, hnd, by
      rw [List.map_map]
      exact hW.nk⟩
    exact c _ d ps' (s2.trans s3) (s2.free hd0) (fun p hp => (hnew p hp).1) hW3
end
/-! ### a timer in the law's lists -/
theorem cells_nd {b : Nat} {ws : List Bool} {t : Nat} {ms : List Tm} {cs : List LCell} (nd : (ms.map (·.num)).Nodup) (h : ∀ p, gv cs p = stM b ws t ms p) (p : Nat × Nat) : ((gv cs p).map (·.num)).Nodup := by
  rw [h]
  unfold stM
  refine ((deq_perm _ _).map _).nodup_iff.mpr ?_
  exact List.Nodup.sublist (List.Sublist.map _ List.filter_sublist) nd
theorem cells_at {b : Nat} {ws : List Bool} {t : Nat} {ms : List Tm} {cs : List LCell} (nd : (ms.map (·.num)).Nodup) (h : ∀ p, gv cs p = stM b ws t ms p) {m : Tm} (hm : m ∈ ms) : m ∈ gv cs (placeT b t m.due) ∧ ∀ p, ∀ x ∈ gv cs p, x.num = m.num → x = m ∧ p = placeT b t m.due := by
  refine ⟨?_, fun p x hx e => ?_⟩
  · rw [h]
    exact mem_deq.mpr (List.mem_filter.mpr ⟨hm, decide_eq_true rfl⟩)
  · rw [h] at hx
    obtain ⟨h1, h2⟩ := List.mem_filter.mp (mem_deq.mp hx)
    have e2 := num_one nd h1 hm e
    exact ⟨e2, by rw [← of_decide_eq_true h2, e2]⟩
/-! ### law k03: a timer cancelled or reset, one put -/
section
variable {P : Program} {w : World} {K : PySem.W.Frag} {mg : Str → Option Value} {base : Heap}
def spChanged (C : Addr) : Sp := fun vs H Q _ => ∃ (H0 : Hp) (s p q l a ql : Addr) (ws : List Bool) (W : WS) (cs : List LCell) (ps : List Addr) (e m : Nat), vs = [.ref s, .ref p, .ref a, .int (W.b : Nat), .ref ql, .int (W.tick : Nat)] ∧ Duo C H0 H s p q l a ql ws W cs ps ∧ S03 e m W.b ws W cs ∧ e ≤ 400 ∧ m < 60 ∧ W.tick < 2 ^ 195 ∧ W.live ≠ [] ∧
  ∀ H' l' W' cs' ps' r (ml : List Nat), Duo C H0 H' s p q l' a ql ws W' cs' ps' → S03 (e + 1) (m + 1) W.b ws W' cs' → W'.tick = W.tick → H' r = some (.lst (ml.map fun x => V.int (x : Nat))) → ml.length = 3 → (∀ x ∈ ml, 1 ≤ x ∧ x < 2 ^ 200) → Q (.ref r) H'
set_option maxHeartbeats 40000000 in
theorem ok_changed03 {f C : Addr} {fd : FuncData} (F : Fun K "_law_changed" "_law_changed" s__law_changed f fd) (T : Tx K mg) (TW : TxW K mg C) (hP : HasPut P w K mg base 4 C)
    (m1 : HasM P w K mg base 1 C "timers" ["self"] [] (spTimers C)) (m2 : HasM P w K mg base 3 C "cancel" ["self", "timer"] [] (spCancel C)) (m3 : HasM P w K mg base 4 C "reset" ["self", "timer", "due"] [] (spReset C))
    (h1 : Has P w K mg base 2 "_law_next" ["_law_source_here", "_law_many"] [] spNext) (h2 : Has P w K mg base 2 "_law_place" ["_law_lists", "_law_base_here", "_law_levels_here", "_law_now", "_law_row"] [] (spPlace K)) (h3 : Has P w K mg base 1 "_law_dropped" ["_law_lists", "_law_number"] [] spDropped) :
    FnOk P w K mg base CX0 5 f fd ["_law_source_here", "_law_wheel", "_law_lists", "_law_base_here", "_law_levels_here", "_law_now"] (spChanged C) := by
  have cl_Wheel := TW.cl
  obtain ⟨g0, gd0, gs0, G_Wheel_put, M_Wheel_put, b_Wheel_put, v_Wheel_put, bK_Wheel_put⟩ := hP
  obtain ⟨g1, gd1, gs1, G_Wheel_timers, M_Wheel_timers, b_Wheel_timers, v_Wheel_timers⟩ := m1
  obtain ⟨g2, gd2, gs2, G_Wheel_cancel, M_Wheel_cancel, b_Wheel_cancel, v_Wheel_cancel⟩ := m2
  obtain ⟨g3, gd3, gs3, G_Wheel_reset, M_Wheel_reset, b_Wheel_reset, v_Wheel_reset⟩ := m3
  obtain ⟨f__law_next, fd__law_next, ds__law_next, G__law_next, m__law_next, k__law_next, b__law_next, v__law_next⟩ := h1
  obtain ⟨f__law_place, fd__law_place, ds__law_place, G__law_place, m__law_place, k__law_place, b__law_place, v__law_place⟩ := h2
  obtain ⟨f__law_dropped, fd__law_dropped, ds__law_dropped, G__law_dropped, m__law_dropped, k__law_dropped, b__law_dropped, v__law_dropped⟩ := h3
  refine F.ok sc__law_changed (fun vs H Q E h => ?_) (fun cdv A outer s0 H vs Q E hr h => ?_)
  · obtain ⟨H0, s, p, q, l, a, ql, ws, W, cs, ps, e, m, rfl, _⟩ := h
    rfl
  · obtain ⟨H0, s, p, q, l, a, ql, ws, W, cs, ps, e, m, rfl, D, S, he, hm, hT, hnl, c⟩ := h
    refine ⟨_, (pss_cons (ps_set (i := 6) sc__law_changed.nd rfl (.inl rfl) (pe_meth0 (pv 1) cl_Wheel M_Wheel_timers G_Wheel_timers (hr.mono (by decide)) b_Wheel_timers v_Wheel_timers pass0))
      (pss_cons (ps_set (i := 7) sc__law_changed.nd rfl (.inl rfl) (pe_ix (ix_listK (K := K) rfl) (pv 6) (pe_call G__law_next (hr.mono (by decide)) (by rfl) m__law_next k__law_next b__law_next v__law_next pass0 (pa_cons (pv 0) (pa_cons (pe_callB (lenK (K := K) rfl) (by rfl) T.b_len PySem.boot_len (pa_cons (pv 6) pa_nil)) pa_nil))) (fun _ _ => rfl)))
      (pss_cons (ps_set (i := 8) sc__law_changed.nd rfl (.inl rfl) (pe_call G__law_dropped (hr.mono (by decide)) (by rfl) m__law_dropped k__law_dropped b__law_dropped v__law_dropped pass0 (pa_cons (pv 2) (pa_cons (pv 7) pa_nil))))
      (pss_cons (ps_if (pt_cmpR op_eq (pe_call G__law_next (hr.mono (by decide)) (by rfl) m__law_next k__law_next b__law_next v__law_next pass0 (pa_cons (pv 0) (pa_cons pe_int pa_nil))) pe_int (nomark _))
        (pss_one (ps_expr (pe_meth (pv 1) cl_Wheel M_Wheel_cancel G_Wheel_cancel (hr.mono (by decide)) b_Wheel_cancel v_Wheel_cancel pass0 (pa_cons (pv 7) pa_nil))))
        (pss_cons (ps_expr (pe_meth (pv 1) cl_Wheel M_Wheel_reset G_Wheel_reset hr b_Wheel_reset v_Wheel_reset pass0 (pa_cons (pv 7) (pa_cons (pe_ix (ix_tupK (K := K) rfl) (pv 8) pe_int (fun _ _ => rfl)) pa_nil))))
        (pss_one (ps_expr (pe_call G__law_place (hr.mono (by decide)) (by rfl) m__law_place k__law_place b__law_place v__law_place pass0 (pa_cons (pv 2) (pa_cons (pv 3) (pa_cons (pv 4) (pa_cons (pv 5) (pa_cons (pv 8) pa_nil))))))))))
      (pss_cons (ps_par (i := 9) (j := 10) (by rfl) sc__law_changed.nd rfl rfl (by decide) rfl rfl (pa_cons (pe_op op_addN (pe_op op_addN (pv 5) pe_int) (pe_call G__law_next (hr.mono (by decide)) (by rfl) m__law_next k__law_next b__law_next v__law_next pass0 (pa_cons (pv 0) (pa_cons pe_int pa_nil)))) (pa_cons (pe_op op_addN pe_int (pe_call G__law_next (hr.mono (by decide)) (by rfl) m__law_next k__law_next b__law_next v__law_next pass0 (pa_cons (pv 0) (pa_cons pe_int pa_nil)))) pa_nil)) (by rfl))
      (pss_cons (ps_set (i := 7) sc__law_changed.nd rfl (.inl rfl) (pe_methK (pv 1) cl_Wheel M_Wheel_put G_Wheel_put hr bK_Wheel_put pass0 (pa_cons (pv 9) pa_nil) (pk_cons (pv 10) pk_nil)))
      (pss_cons (ps_expr (pe_call G__law_place (hr.mono (by decide)) (by rfl) m__law_place k__law_place b__law_place v__law_place pass0 (pa_cons (pv 2) (pa_cons (pv 3) (pa_cons (pv 4) (pa_cons (pv 5) (pa_cons (pe_tup (pa_cons (pv 7) (pa_cons (pv 9) (pa_cons pe_non pa_nil)))) pa_nil)))))))
      (pss_one (ps_ret (pe_lst (pa_cons (pv 9) (pa_cons (pe_op op_addN (pv 9) (pv 10)) (pa_cons (pe_op op_addN (pv 9) (pe_op op_mulN pe_int (pv 10))) pa_nil))))))))))))), ?_⟩
    have ok := S.ok
    have hb := ok.b2
    have hb64 := ok.b64
    have fewl := S.few
    obtain ⟨dx, hp⟩ := D.at_.ins
    have hpos : 0 < W.live.length := List.length_pos_iff.mpr hnl
    refine ⟨_, rfl, p, dx, _, rfl, hp, nm_timers, p, q, l, W, rfl, D.at_, by omega, fun H1 r1 ns s1 hr10 er1 hperm hsort => ?_⟩
    have D1 := D.same s1
    have nr1 : r1 ≠ s := D.src.ne hr10
    have hnsl : ns.length = W.live.length := by
      rw [hperm.length_eq, List.length_map]
    -- a timer is picked
    refine ⟨_, rfl, _, rfl, .ref r1, rfl, r1, _, rfl, .inl (SqL.of er1), s, ns.length, ?_, by omega, by omega, D1.src, fun r7 H7 hr7 s7 => ?_⟩
    · rw [List.length_map]
      rfl
    have D7 := D1.draw s7
    have er7 := s7.keep _ _ nr1 er1
    obtain ⟨num, hnum⟩ : ∃ num, ns[r7]? = some num := ⟨_, List.getElem?_eq_getElem (by omega)⟩
    obtain ⟨mm, hmm, emm⟩ := List.mem_map.mp (hperm.mem_iff.mp (List.mem_of_getElem? hnum))
    have emm' : mm.num = num := emm
    subst emm'
    refine ⟨r1, _, r7, _, rfl, rfl, SqL.of er7, atI_nat (by rw [List.getElem?_map, hnum]; rfl), ?_⟩
    have hmt := (ok.tms mm hmm).due
    have hmd := S.due mm hmm
    have hsm : strM mm ∈ W.live.map strM := List.mem_map.mpr ⟨mm, hmm, rfl⟩
    obtain ⟨hin, huniq⟩ := cells_at (str_nd ok.nd) S.gvs hsm
    have hcl := S.cells D7.lw.nk
    refine ⟨_, rfl, _, rfl, a, strM mm, placeT W.b W.tick mm.due, cs, ps, rfl, D7.lw, by omega, fun p => Nat.le_trans (S.cell p) (by omega), hin, huniq, cells_nd (str_nd ok.nd) S.gvs, fun H8 t8 lk8 lw8 et8 => ?_⟩
    have D8 := D7.law lk8 lw8
    have hemp : emp (cs.map (remC mm.num)) ≤ e + 1 := Nat.le_trans (emp_rem_one (k := placeT W.b W.tick mm.due) D7.lw.nk fun p hp x hx ex => hp (huniq p x hx ex).2) (Nat.add_le_add_right S.em 1)
    have hgr : ∀ pp, gv (cs.map (remC mm.num)) pp = stM W.b ws W.tick ((dropT mm.num W.live).map strM) pp := fun pp => by
      rw [← drop_str]
      exact rem_live S.gvs pp
    have hdl := drop_len_lt (n := mm.num) ⟨mm, hmm, rfl⟩
    have hb250 : ∀ x : Nat, x < 2 ^ 200 → x < 2 ^ 250 := fun x h => Nat.lt_trans h (by decide)
    have hclr : (cs.map (remC mm.num)).length = cs.length := List.length_map ..
    refine ⟨_, rfl, s, 2, rfl, by decide, by decide, D8.src, fun r9 H9 hr9 s9 => ?_⟩
    have D9 := D8.draw s9
    obtain ⟨sx, sy, sz, esrc8⟩ := D8.src
    have nt8 : t8 ≠ s := fun z => by
      rw [z, esrc8] at et8
      cases et8
    have et9 := s9.keep _ _ nt8 et8
    obtain ⟨dx9, hp9⟩ := D9.at_.ins
    -- behind the change
    apply cut_rest (I := fun H' => ∃ (l' : Addr) (W1 : WS) (cs1 : List LCell) (ps1 : List Addr), Duo C H0 H' s p q l' a ql ws W1 cs1 ps1 ∧ S03 (e + 1) m W.b ws W1 cs1 ∧ W1.tick = W.tick)
    · intro next
      by_cases c3 : r9 = 0
      · refine ⟨rfl, true, dT (vE (b := 0) c3), iteT ?_⟩
        refine ⟨_, rfl, p, dx9, _, rfl, hp9, nm_cancel, _, rfl, p, q, l, W, mm.num, rfl, D9.at_, ok.nd, ⟨mm, hmm, rfl⟩, fun H10 k10 w10 => ?_⟩
        exact next H10 ⟨l, { W with live := dropT mm.num W.live }, _, _, D9.wheel k10 w10 rfl, ⟨rfl, okw_drop ok, hgr, hemp, by show (dropT mm.num W.live).length ≤ m; omega, S.ww, fun x hx => S.due x (List.mem_filter.mp hx).1, S.tick⟩, rfl⟩
      · refine ⟨rfl, false, dF (vN (b := 0) c3), iteF ?_⟩
        refine ⟨_, rfl, p, dx9, _, rfl, hp9, nm_reset, _, rfl, .ref t8, rfl, t8, _, 1, _, rfl, rfl, .inl (.inl et9), atI_nat (j := 1) rfl, p, q, l, W, mm, mm.due, rfl, D9.at_, ok.nd, ok.few, hmm, hmt, fun H10 k10 w10 => ?_⟩
        have D10 := D9.wheel k10 w10 rfl
        obtain ⟨kvs9, hl9, _⟩ := D9.at_.live
        have et10 := k10.keep _ _ (ne_of et9 hp9 (by intro z; cases z)) (ne_of et9 hl9 (by intro z; cases z)) et9
        refine ⟨_, rfl, _, rfl, _, rfl, _, rfl, _, rfl, a, ql, t8, W.b, W.tick, ws, ⟨mm.num, mm.due, none, W.tick⟩, cs.map (remC mm.num), ps, rfl, hb, hb64, SqL.of D10.ql_, D10.hne, et10, hmt, hb250 _ hmd, D10.lw, by omega, ?_, fun H12 ps12 lk12 lw12 => ?_⟩
        · rw [hgr]
          have z := stM_len W.b ws W.tick ((dropT mm.num W.live).map strM) (placeT W.b W.tick mm.due)
          rw [List.length_map] at z
          show (stM W.b ws W.tick ((dropT mm.num W.live).map strM) (placeT W.b W.tick mm.due)).length ≤ _
          omega
        have D12 := D10.law lk12 lw12
        refine next H12 ⟨l, { W with live := dropT mm.num W.live ++ [⟨mm.num, mm.due, mm.per, W.tick⟩] }, _, _, D12, ⟨rfl, okw_reset ok hmm hmt (hb250 _ hmd), fun pp => ?_, Nat.le_trans (emp_one _ _) hemp, ?_, S.ww, fun x hx => ?_, S.tick⟩, rfl⟩
        · show _ = stM W.b ws W.tick ((dropT mm.num W.live ++ [_]).map strM) pp
          rw [List.map_append]
          exact st_new (m := ⟨mm.num, mm.due, none, W.tick⟩) hb hgr rfl hmt pp
        · show (dropT mm.num W.live ++ [_]).length ≤ m
          rw [List.length_append]
          show (dropT mm.num W.live).length + 1 ≤ m
          omega
        · rcases List.mem_append.mp hx with y | y
          · exact S.due x (List.mem_filter.mp y).1
          · rw [List.mem_singleton.mp y]
            exact hmd
    · rintro H13 ⟨l1, W1, cs1, ps1, D13, S13, ht13⟩
      have hWb := S13.base
      have ok13 := S13.ok
      have few13 := S13.few
      have htick : W.tick < 2 ^ 195 := hT
      -- a timer is put
      refine ⟨_, rfl, W.tick, 1, rfl, rfl, trivial, _, rfl, s, 400, rfl, by decide, by decide, D13.src, fun r14 H14 hr14 s14 => ⟨W.tick + 1, r14, rfl, rfl, trivial, ?_⟩⟩
      refine ⟨_, rfl, s, 9, rfl, by decide, by decide, (D13.draw s14).src, fun r15 H15 hr15 s15 => ⟨1, r15, rfl, rfl, trivial, _, _, rfl, ?_⟩⟩
      have D15 := (D13.draw s14).draw s15
      obtain ⟨dx15, hp15⟩ := D15.at_.ins
      obtain ⟨d, ed⟩ : ∃ d, d = W.tick + 1 + r14 := ⟨_, rfl⟩
      obtain ⟨k, ek⟩ : ∃ k, k = 1 + r15 := ⟨_, rfl⟩
      have ed2 : (fun a b : Nat => a + b) (W.tick + 1) r14 = d := ed.symm
      have ek2 : (fun a b : Nat => a + b) 1 r15 = k := ek.symm
      rw [ed2, ek2]
      have hd1 : W1.tick < d := by omega
      have hd3 : d < 2 ^ 195 + 500 := by omega
      have hd2 : d < 2 ^ 200 := Nat.lt_trans hd3 (by decide)
      refine ⟨_, rfl, p, dx15, _, rfl, hp15, nm_put, _, rfl, _, rfl, rfl, rfl, p, q, l1, W1, d, some k, rfl, D15.at_, ok13, by omega, hd1, (fun k' e => by cases e; omega), fun H16 k16 w16 => ?_⟩
      have D16 := D15.wheel k16 w16 rfl
      refine ⟨_, rfl, _, rfl, _, rfl, _, rfl, _, rfl, _, rfl, by simp [sizeLine_eq], fun t17 ht17 => ?_⟩
      have u17 := same_upd (o := .tup [.int (W1.fol : Nat), .int (d : Nat), .non]) ht17
      have D17 := D16.same u17
      have et17 : (upd H16 t17 (.tup [.int (W1.fol : Nat), .int (d : Nat), .non])) t17 = some (.tup (lrowV ⟨W1.fol, d, none, W.tick⟩)) := upd_same
      have hcl1 := S13.cells D17.lw.nk
      refine ⟨a, ql, t17, W.b, W.tick, ws, ⟨W1.fol, d, none, W.tick⟩, cs1, ps1, rfl, hb, hb64, SqL.of D17.ql_, D17.hne, et17, by show W.tick < d; omega, hb250 _ hd2, D17.lw, by omega, Nat.le_trans (S13.cell _) (by omega), fun H18 ps18 lk18 lw18 => ?_⟩
      have D18 := D17.law lk18 lw18
      refine ⟨_, rfl, _, rfl, _, rfl, d, k, rfl, rfl, trivial, _, rfl, _, rfl, 2, k, rfl, rfl, nmul_l (by decide), d, 2 * k, rfl, rfl, trivial, by simp [sizeLine_eq], fun r19 hr19 => ?_⟩
      have u19 := same_upd (o := .lst [.int (d : Nat), .int ((d + k : Nat) : Int), .int ((d + 2 * k : Nat) : Int)]) hr19
      have hd200 : d + 20 < 2 ^ 200 := Nat.lt_trans (show d + 20 < 2 ^ 195 + 520 by omega) (by decide)
      refine c _ l1 { W1 with fol := W1.fol + 1, live := W1.live ++ [⟨W1.fol, d, some k, W1.tick⟩] } _ _ r19 [d, d + k, d + 2 * k] (D18.same u19) ⟨hWb, okw_put ok13 (by omega) hd1 (hb250 _ hd2) (fun k' e => by cases e; omega), fun pp => ?_, Nat.le_trans (emp_one _ _) S13.em, ?_, S13.ww, fun x hx => ?_, S13.tick⟩ ht13 upd_same rfl fun x hx => ?_
      · show _ = stM W.b ws W1.tick ((W1.live ++ [_]).map strM) pp
        rw [List.map_append, ht13]
        exact st_new (m := ⟨W1.fol, d, none, W.tick⟩) hb (fun p => by rw [S13.gvs, ht13]) rfl (by show W.tick < d; omega) pp
      · show (W1.live ++ [_]).length ≤ m + 1
        rw [List.length_append]
        exact Nat.add_le_add_right few13 1
      · rcases List.mem_append.mp hx with y | y
        · exact S13.due x y
        · rw [List.mem_singleton.mp y]
          exact hd2
      · have hx2 : x = d ∨ x = d + k ∨ x = d + 2 * k := by simpa using hx
        omega
end
/-! ### law k03: whether a wheel tells what is ahead -/
theorem nm_firing {b : Nat} {q : Addr} {t f : Nat} {l : Addr} : (wfl b q t f l).lookup ("firing" : Str) = none := wf_no (by decide +kernel) (by decide +kernel) (by decide +kernel) (by decide +kernel) (by decide +kernel)
theorem lists_str {b : Nat} {ws : List Bool} {t : Nat} {ms : List Tm} {cs : List Cell} (h : IsLists b ws t (ms.map strM) cs) : IsLists b ws t ms cs :=
  ⟨by rw [← stand_str]; exact h.perm, h.sorted, by rw [← stand_str]; exact h.val⟩
section
variable {P : Program} {w : World} {K : PySem.W.Frag} {mg : Str → Option Value} {base : Heap}
def spLooks (C : Addr) : Sp := fun vs H Q _ => ∃ (H0 : Hp) (s p q l a ql sh : Addr) (ws : List Bool) (W : WS) (cs : List LCell) (ps : List Addr) (e m : Nat) (shl : List Nat), vs = [.ref s, .ref p, .ref a, .int (W.b : Nat), .ref ql, .int (W.tick : Nat), .ref sh] ∧ Duo C H0 H s p q l a ql ws W cs ps ∧ S03 e m W.b ws W cs ∧ e ≤ 400 ∧ m ≤ 60 ∧ H sh = some (.lst (shl.map fun x => V.int (x : Nat))) ∧ sh ≠ s ∧ shl.length ≤ 10 ∧ (∀ x ∈ shl, 1 ≤ x ∧ x < 2 ^ 200) ∧ ∀ H', Stp s H H' → Q (.bl true) H'
set_option maxHeartbeats 40000000 in
theorem ok_looks {f C : Addr} {fd : FuncData} (F : Fun K "_law_looks_right" "_law_looks_right" s__law_looks_right f fd) (T : Tx K mg) (TW : TxW K mg C)
    (m1 : HasM P w K mg base 6 C "firing" ["self", "tick"] [] (spFiring C)) (m2 : HasM P w K mg base 1 C "now" ["self"] [] (spNow C)) (m3 : HasM P w K mg base 5 C "lists_at" ["self", "tick"] [] (spListsAt C)) (m4 : HasM P w K mg base 5 C "lists" ["self"] [] (spLists C))
    (h1 : Has P w K mg base 4 "_law_run" ["_law_lists", "_law_base_here", "_law_levels_here", "_law_now", "_law_last"] [] (spRun K)) (h2 : Has P w K mg base 2 "_law_next" ["_law_source_here", "_law_many"] [] spNext) (h3 : Has P w K mg base 1 "_law_shown" ["_law_lists"] [] spShown)
    (h4 : Has P w K mg base 1 "_law_copy" ["_law_lists"] [] (spCopy K)) :
    FnOk P w K mg base CX0 7 f fd ["_law_source_here", "_law_wheel", "_law_lists", "_law_base_here", "_law_levels_here", "_law_now", "_law_shared"] (spLooks C) := by
  have cl_Wheel := TW.cl
  obtain ⟨g1, gd1, gs1, G_Wheel_firing, M_Wheel_firing, b_Wheel_firing, v_Wheel_firing⟩ := m1
  obtain ⟨g2, gd2, gs2, G_Wheel_now, M_Wheel_now, b_Wheel_now, v_Wheel_now⟩ := m2
  obtain ⟨g3, gd3, gs3, G_Wheel_lists_at, M_Wheel_lists_at, b_Wheel_lists_at, v_Wheel_lists_at⟩ := m3
  obtain ⟨g4, gd4, gs4, G_Wheel_lists, M_Wheel_lists, b_Wheel_lists, v_Wheel_lists⟩ := m4
  obtain ⟨f__law_run, fd__law_run, ds__law_run, G__law_run, m__law_run, k__law_run, b__law_run, v__law_run⟩ := h1
  obtain ⟨f__law_next, fd__law_next, ds__law_next, G__law_next, m__law_next, k__law_next, b__law_next, v__law_next⟩ := h2
  obtain ⟨f__law_shown, fd__law_shown, ds__law_shown, G__law_shown, m__law_shown, k__law_shown, b__law_shown, v__law_shown⟩ := h3
  obtain ⟨f__law_copy, fd__law_copy, ds__law_copy, G__law_copy, m__law_copy, k__law_copy, b__law_copy, v__law_copy⟩ := h4
  refine F.ok sc__law_looks_right (fun vs H Q E h => ?_) (fun cdv A outer s0 H vs Q E hr h => ?_)
  · obtain ⟨H0, s, p, q, l, a, ql, sh, ws, W, cs, ps, e, m, shl, rfl, _⟩ := h
    rfl
  · obtain ⟨H0, s, p, q, l, a, ql, sh, ws, W, cs, ps, e, m, shl, rfl, D, S, he, hm, hsh, nsh, hshl, hshx, c⟩ := h
    have hu := hu_of hr
    refine ⟨_, (pss_cons (ps_set (i := 7) sc__law_looks_right.nd rfl (.inl rfl) (pe_meth0 (pv 1) cl_Wheel M_Wheel_lists G_Wheel_lists (hr.mono (by decide)) b_Wheel_lists v_Wheel_lists pass0))
      (pss_cons (ps_if (pt_cmpR (op_neK (K := K) rfl hr.units) (pv 7) (pe_call G__law_shown (hr.mono (by decide)) (by rfl) m__law_shown k__law_shown b__law_shown v__law_shown pass0 (pa_cons (pv 2) pa_nil)) (nomark _))
        (pss_one (ps_ret pe_bl))
        pss_nil)
      (pss_cons (ps_set (i := 8) sc__law_looks_right.nd rfl (.inl rfl) (pe_lst (pa_cons (pv 5) (pa_cons (pe_op op_addN (pv 5) pe_int) (pa_cons (pe_op op_addN (pe_op op_addN (pv 5) pe_int) (pe_call G__law_next (hr.mono (by decide)) (by rfl) m__law_next k__law_next b__law_next v__law_next pass0 (pa_cons (pv 0) (pa_cons pe_int pa_nil)))) pa_nil)))))
      (pss_cons (ps_for PassesOwn.never rfl (pi_list (pv 6)) (pg_name (i := 9) sc__law_looks_right.nd rfl (.inl rfl))
        (pss_one (ps_set (i := 8) sc__law_looks_right.nd rfl (.inl rfl) (pe_op op_cat (pv 8) (pe_lst (pa_cons (pe_op op_subN (pv 9) pe_int) (pa_cons (pv 9) (pa_cons (pe_op op_mulN (pe_op op_divN (pv 9) (pv 3)) (pv 3)) (pa_cons (pe_op op_mulN (pe_op op_mulN (pe_op op_divN (pv 9) (pe_op op_mulN (pv 3) (pv 3))) (pv 3)) (pv 3)) (pa_cons (pe_op op_addN (pv 9) pe_int) pa_nil))))))))))
      (pss_cons (ps_for PassesOwn.never rfl (pi_list (pe_callB (cr_sortedSet rfl) (by rfl) T.b_sorted (by decide +kernel) (pa_cons (pe_callTy (call_setL rfl) (by rfl) T.b_set (by decide +kernel) (pa_cons (pe_lc (own := [("_law_one", 14)]) (g := gName 14) (tt := tYes) rfl sc__law_looks_right.nd (pi_list (pv 8)) (blkOk_by (own := [("_law_one", 14)]) (N := N__law_looks_right) (sc := defScope s__law_looks_right) (by decide +kernel)) (fun _ _ _ _ _ => (pg_name (i := 14) sc__law_looks_right.nd rfl (.inl rfl))) (fun _ _ _ _ _ => pts_nil) (fun _ _ _ _ _ => (pe_callB (max2N rfl) (by rfl) T.b_max (by decide +kernel) (pa_cons (pv 5) (pa_cons (pv 14) pa_nil))))) pa_nil)) pa_nil))) (pg_name (i := 10) sc__law_looks_right.nd rfl (.inl rfl))
        (pss_cons (ps_set (i := 11) sc__law_looks_right.nd rfl (.inl rfl) (pe_call G__law_copy (hr.mono (by decide)) (by rfl) m__law_copy k__law_copy b__law_copy v__law_copy pass0 (pa_cons (pv 2) pa_nil)))
        (pss_cons (ps_set (i := 12) sc__law_looks_right.nd rfl (.inl rfl) (pe_callTy (call_dictP rfl) (by rfl) T.b_dict (by decide +kernel) (pa_cons (pe_call G__law_run (hr.mono (by decide)) (by rfl) m__law_run k__law_run b__law_run v__law_run pass0 (pa_cons (pv 11) (pa_cons (pv 3) (pa_cons (pv 4) (pa_cons (pv 5) (pa_cons (pv 10) pa_nil)))))) pa_nil)))
        (pss_cons (ps_set (i := 13) sc__law_looks_right.nd rfl (.inl rfl) (pe_meth (pv 1) cl_Wheel M_Wheel_lists_at G_Wheel_lists_at (hr.mono (by decide)) b_Wheel_lists_at v_Wheel_lists_at pass0 (pa_cons (pv 10) pa_nil)))
        (pss_cons (ps_if (PW.pt (pw_or (pt_cmpR (op_neK (K := K) rfl hr.units) (pv 13) (pe_call G__law_shown (hr.mono (by decide)) (by rfl) m__law_shown k__law_shown b__law_shown v__law_shown pass0 (pa_cons (pv 11) pa_nil)) (nomark _)) (pw_or1 (PW.pt (pw_and (pt_cmpR op_gt (pv 10) (pv 5) (nomark _)) (pw_and1 (pt_cmpR (op_neK (K := K) rfl hr.units) (pe_meth (pv 1) cl_Wheel M_Wheel_firing G_Wheel_firing hr b_Wheel_firing v_Wheel_firing pass0 (pa_cons (pv 10) pa_nil)) (pe_dget2 hu (pv 12) (pv 10) (pe_lst pa_nil) ⟨by rfl, by rfl, by rfl, by rfl⟩) (nomark _))))))))
          (pss_one (ps_ret pe_bl))
          pss_nil)
        (pss_cons (ps_expr (pe_bm PySem.F.plainAttrs_list PySem.F.slot_list_append PySem.F.type_list_append mt_append (pv 13) (pa_cons pe_str pa_nil)))
        (pss_one (ps_if (pt_cmpR op_gt (pv 10) (pv 5) (nomark _))
          (pss_one (ps_expr (pe_bm PySem.F.plainAttrs_list PySem.F.slot_list_append PySem.F.type_list_append mt_append (pe_meth (pv 1) cl_Wheel M_Wheel_firing G_Wheel_firing hr b_Wheel_firing v_Wheel_firing pass0 (pa_cons (pv 10) pa_nil)) (pa_cons pe_str pa_nil))))
          pss_nil))))))))
      (pss_one (ps_ret (pe_and (pe_cmpR (op_eqK (K := K) rfl hr.units) (pe_meth0 (pv 1) cl_Wheel M_Wheel_lists G_Wheel_lists (hr.mono (by decide)) b_Wheel_lists v_Wheel_lists pass0) (pv 7) (nomark _)) (pe_and (pe_cmpR op_eq (pe_meth0 (pv 1) cl_Wheel M_Wheel_now G_Wheel_now (hr.mono (by decide)) b_Wheel_now v_Wheel_now pass0) (pv 5) (nomark _)) (pe_one (pe_cmpR (op_eqK (K := K) rfl hr.units) (pe_meth (pv 1) cl_Wheel M_Wheel_lists_at G_Wheel_lists_at (hr.mono (by decide)) b_Wheel_lists_at v_Wheel_lists_at pass0 (pa_cons (pv 5) pa_nil)) (pv 7) (nomark _)))))))))))), ?_⟩
    have ok := S.ok
    have hne := D.hne
    have hcl := S.cells D.lw.nk
    have fewl := S.few
    have hWw := S.ww
    have few2 : ∀ p, (gv cs p).length ≤ 1000 := fun p => Nat.le_trans (S.cell p) (by omega)
    have few2' : ∀ p, (gv cs p).length ≤ 10000 := fun p => Nat.le_trans (few2 p) (by decide)
    have hdus : ∀ m ∈ W.live.map strM, W.tick < m.due := fun m hm => by
      obtain ⟨x, hx, rfl⟩ := List.mem_map.mp hm
      exact (ok.tms x hx).due
    obtain ⟨dx, hp⟩ := D.at_.ins
    refine ⟨_, rfl, p, dx, _, rfl, hp, nm_lists, p, q, l, W, rfl, D.at_, ok, fun H1 R1 ts1 cs1 s1 hR10 eR1 hC1 hF1 hI1 => ?_⟩
    have D1 := D.same s1
    refine ⟨_, rfl, _, rfl, a, cs, ps, rfl, D1.lw, by omega, few2', fun H2 R2 ts2 ks2 s2 hR20 eR2 hC2 hF2 hks2 hsort2 => ?_⟩
    have e1 : cs1 = shownC cs ks2 := by
      rw [hWw] at hI1
      exact hI1.uniq (lists_str (shown_lists hdus D.lw.nk S.gvs hne hks2 hsort2))
    subst e1
    refine ⟨.list ((shownC cs ks2).map cellD), .list ((shownC cs ks2).map cellD), .lst (SqL.of (s2 _ _ eR1)) (cells_dp (fun _ _ e => e) (hC1.frame (H0' := H2) (H' := H2) (fun a xs e => s2 _ _ e) fun t xs e => s2 _ _ e)), .lst (SqL.of eR2) (cells_dp (fun _ _ e => e) hC2), cells_shaped _, cells_shaped _, false, neq_refl (d := .list ((shownC cs ks2).map cellD)) (cells_lay _), iteF ?_⟩
    have s02 := s1.trans s2
    have D2 := D.same s02
    have eR12 := s2 _ _ eR1
    have hC12 := hC1.frame (H0' := H2) (H' := H2) (fun a xs e => s2 _ _ e) fun t xs e => s2 _ _ e
    generalize shownC cs ks2 = cA at hC12 hI1
    have nR1 : R1 ≠ s := D.src.ne hR10
    -- the ticks
    refine ⟨_, rfl, _, rfl, W.tick, 1, rfl, rfl, trivial, _, rfl, W.tick, 1, rfl, rfl, trivial, _, rfl, s, 500, rfl, by decide, by decide, D2.src, fun r3 H3 hr3 s3 => ⟨W.tick + 1, r3, rfl, rfl, trivial, by simp [sizeLine_eq], fun L0 hL0 => ?_⟩⟩
    have st3 : Stp s H H3 := (D.src.stp_same s02).trans s3
    have D3 := D2.draw s3
    have eR3 := s3.keep _ _ nR1 eR12
    have hsh3 := st3.keep _ _ nsh hsh
    have hT := S.tick
    have hF2 := hF1.frame (H' := H2) fun t xs e => s2 _ _ e
    obtain ⟨sx, sy, sz, esrc⟩ := D.src
    have nsH : ∀ c, H c = none → c ≠ s := fun c h z => by
      rw [z, esrc] at h
      cases h
    have keepT : ∀ t xs, H2 t = some (.tup xs) → H3 t = some (.tup xs) := fun t xs e => s3.keep _ _ (fun z => by
      rw [z, s02 _ _ esrc] at e
      cases e) e
    have hC3 := hC12.keepF (H' := H3) (fun c o h e => s3.keep _ _ (nsH c h) e) keepT hF2
    have u4 := same_upd (o := .lst [.int (W.tick : Nat), .int ((W.tick + 1 : Nat) : Int), .int ((W.tick + 1 + r3 : Nat) : Int)]) hL0
    have eL4 : (upd H3 L0 (.lst [.int (W.tick : Nat), .int ((W.tick + 1 : Nat) : Int), .int ((W.tick + 1 + r3 : Nat) : Int)])) L0 = some (.lst ([W.tick, W.tick + 1, W.tick + 1 + r3].map fun x => V.int (x : Nat))) := upd_same
    have hb201 : ∀ x ∈ [W.tick, W.tick + 1, W.tick + 1 + r3], x < 2 ^ 201 := fun x hx => by
      have hx2 : x = W.tick ∨ x = W.tick + 1 ∨ x = W.tick + 1 + r3 := by simpa using hx
      omega
    have nL0 : L0 ≠ s := D3.src.ne hL0
    generalize upd H3 L0 (.lst [.int (W.tick : Nat), .int ((W.tick + 1 : Nat) : Int), .int ((W.tick + 1 + r3 : Nat) : Int)]) = H4 at u4 eL4 ⊢
    have hsh4 := u4 _ _ hsh3
    have eR4 := u4 _ _ eR3
    have hC4 := hC3.frame (H0' := H4) (H' := H4) (fun a xs e => u4 _ _ e) fun t xs e => u4 _ _ e
    have D4 := D3.same u4
    have st4 := st3.same u4
    have hb64 := ok.b64
    have hb2 := ok.b2
    refine ⟨_, rfl, sh, rfl, ⟨_, SqL.of hsh4⟩, for_list (K := K) (a := sh) (xs := shl.map fun x => V.int (x : Nat)) (fun i σ H' => ∃ (L : Addr) (tl : List Nat) (y9 : Option V), σ = [some (.ref s), some (.ref p), some (.ref a), some (.int (W.b : Nat)), some (.ref ql), some (.int (W.tick : Nat)), some (.ref sh), some (.ref R1), some (.ref L), y9, none, none, none, none, none] ∧ Same H4 H' ∧ H' L = some (.lst (tl.map fun x => V.int (x : Nat))) ∧ tl.length ≤ 3 + 5 * i ∧ ∀ x ∈ tl, x < 2 ^ 201)
      ⟨L0, _, none, rfl, fun _ _ e => e, eL4, Nat.le_refl _, hb201⟩ (fun i σ H' _ ⟨_, _, _, _, sm, _⟩ => SqL.of (sm _ _ hsh4)) ?_ ?_⟩
    · rintro i x σ H5 hx ⟨L, tl, y9, rfl, sm, eL, hll, hlx⟩
      obtain ⟨d, hd, rfl⟩ : ∃ d : Nat, shl[i]? = some d ∧ V.int (d : Nat) = x := by
        rw [List.getElem?_map] at hx
        cases hd : shl[i]? with
        | none =>
          rw [hd] at hx
          cases hx
        | some d =>
          rw [hd] at hx
          exact ⟨d, rfl, Option.some.inj hx⟩
      obtain ⟨hd1, hd200⟩ := hshx d (List.mem_of_getElem? hd)
      have hil := (List.getElem?_eq_some_iff.mp hd).1
      have hbb : W.b * W.b < 2 ^ 64 := Nat.lt_of_le_of_lt (Nat.mul_le_mul hb64 hb64) (by decide)
      have hbb0 : 0 < W.b * W.b := Nat.mul_pos (by omega) (by omega)
      refine ⟨_, rfl, _, rfl, d, 1, rfl, rfl, hd1, _, rfl, _, rfl, _, rfl, d, W.b, rfl, rfl, ndiv 64 (by omega) (by omega), _, rfl, d / W.b, W.b, rfl, rfl, nmul_r (by omega), _, rfl, _, rfl, _, rfl, W.b, W.b, rfl, rfl, nmul_r (by omega), d, W.b * W.b, rfl, rfl, ndiv 64 hbb0 hbb, _, rfl, d / (W.b * W.b), W.b, rfl, rfl, nmul_r (by omega), _, rfl, d / (W.b * W.b) * W.b, W.b, rfl, rfl, nmul_r (by omega), _, rfl, d, 1, rfl, rfl, trivial, by simp [sizeLine_eq], fun l6 hl6 => ?_⟩
      have hx3 : d / W.b * W.b ≤ d := Nat.div_mul_le_self _ _
      have hx4 : d / (W.b * W.b) * W.b * W.b ≤ d := by
        rw [Nat.mul_assoc]
        exact Nat.div_mul_le_self _ _
      obtain ⟨fl, efl⟩ : ∃ fl : List Nat, fl = [d - 1, d, d / W.b * W.b, d / (W.b * W.b) * W.b * W.b, d + 1] := ⟨_, rfl⟩
      have hfl : fl.length = 5 := by rw [efl]; rfl
      have hfx : ∀ x ∈ fl, x < 2 ^ 201 := fun x hx => by
        rw [efl] at hx
        have hx2 : x = d - 1 ∨ x = d ∨ x = d / W.b * W.b ∨ x = d / (W.b * W.b) * W.b * W.b ∨ x = d + 1 := by simpa using hx
        clear efl hfl
        omega
      have u6 := same_upd (o := .lst (fl.map fun x => V.int (x : Nat))) hl6
      have e6 : (upd H5 l6 (.lst (fl.map fun x => V.int (x : Nat)))) l6 = some (.lst (fl.map fun x => V.int (x : Nat))) := upd_same
      have ev : (.lst [.int ((d - 1 : Nat) : Int), .int (d : Nat), .int ((d / W.b * W.b : Nat) : Int), .int ((d / (W.b * W.b) * W.b * W.b : Nat) : Int), .int ((d + 1 : Nat) : Int)] : HO) = .lst (fl.map fun x => V.int (x : Nat)) := by
        rw [efl]
        rfl
      have ev2 : upd H5 l6 (.lst [.int ((d - 1 : Nat) : Int), .int (d : Nat), .int ((d / W.b * W.b : Nat) : Int), .int ((d / (W.b * W.b) * W.b * W.b : Nat) : Int), .int ((d + 1 : Nat) : Int)]) = upd H5 l6 (.lst (fl.map fun x => V.int (x : Nat))) := by rw [ev]
      refine ⟨L, l6, tl.map fun x => V.int (x : Nat), fl.map fun x => V.int (x : Nat), rfl, rfl, ?_, ?_, ?_, fun N hN => ?_⟩
      · exact (congrFun ev2 L).trans (u6 _ _ eL)
      · exact (congrFun ev2 l6).trans e6
      · rw [List.length_map, List.length_map]
        exact sizeLine_le (by omega)
      · have hN' : (upd H5 l6 (.lst (fl.map fun x => V.int (x : Nat)))) N = none := (congrFun ev2 N).symm.trans hN
        have uN := same_upd (o := .lst (tl.map (fun x => V.int (x : Nat)) ++ fl.map fun x => V.int (x : Nat))) hN'
        refine ⟨N, tl ++ fl, _, rfl, ?_, ?_, ?_, ?_⟩
        · intro c o e
          have z := uN _ _ (u6 _ _ (sm _ _ e))
          rw [← ev2] at z
          exact z
        · rw [upd_same, List.map_append]
        · rw [List.length_append]
          omega
        · intro x hx
          rcases List.mem_append.mp hx with h | h
          · exact hlx x h
          · exact hfx x h
    · rintro σ H5 ⟨L, tl, y9, rfl, sm5, eL, hll, hlx⟩
      rw [List.length_map] at hll
      have st5 := st4.same sm5
      have D5 := D4.same sm5
      have eR5 := sm5 _ _ eR4
      have hC5 := hC4.frame (H0' := H5) (H' := H5) (fun a xs e => sm5 _ _ e) fun t xs e => sm5 _ _ e
      refine ⟨_, rfl, L, rfl, ⟨_, SqL.of eL⟩, fun D6 hD6 => lc_list (K := K) (a := L) (xs := tl.map fun x => V.int (x : Nat)) (fun j H6 => Same H5 H6 ∧ H6 D6 = some (.lst (((tl.take j).map fun x => max W.tick x).map fun x => V.int (x : Nat)))) ⟨same_upd hD6, upd_same⟩ (fun j H6 _ ⟨sm, _⟩ => SqL.of (sm _ _ eL)) ?_ ?_⟩
      · rintro j v H6 hv ⟨sm6, eD6⟩
        obtain ⟨x, hx, rfl⟩ : ∃ x : Nat, tl[j]? = some x ∧ V.int (x : Nat) = v := by
          rw [List.getElem?_map] at hv
          cases hd : tl[j]? with
          | none =>
            rw [hd] at hv
            cases hv
          | some d =>
            rw [hd] at hv
            exact ⟨d, rfl, Option.some.inj hv⟩
        have hjl := (List.getElem?_eq_some_iff.mp hx).1
        refine ⟨rfl, yesT (iteT ⟨_, rfl, _, rfl, W.tick, x, rfl, _, eD6, ?_, fun c o e => ?_, ?_⟩)⟩
        · rw [List.length_map, List.length_map, List.length_take]
          exact sizeLine_ge (by omega)
        · rw [upd_ne (ne_of_none e hD6)]
          exact sm6 _ _ e
        · rw [upd_same, List.take_add_one, hx, Option.toList_some, List.map_append, List.map_append]
          rfl
      · rintro H6 ⟨sm6, eD6⟩
        rw [List.length_map, List.take_length] at eD6
        obtain ⟨dl, edl⟩ : ∃ dl, dl = tl.map fun x => max W.tick x := ⟨_, rfl⟩
        rw [← edl] at eD6
        have hdll : dl.length < 60 := by
          rw [edl, List.length_map]
          omega
        have hdlx : ∀ x ∈ dl, W.tick ≤ x ∧ x < 2 ^ 201 := fun x hx => by
          rw [edl] at hx
          obtain ⟨y, hy, rfl⟩ := List.mem_map.mp hx
          have := hlx y hy
          omega
        refine ⟨D6, dl.map fun x : Nat => (x : Int), rfl, ?_, by rw [List.length_map]; omega, fun p1 c1 hp1 hc1 => ?_⟩
        · rw [List.map_map]
          exact SqL.of eD6
        rw [List.length_map] at hc1
        refine ⟨p1, _, c1, rfl, upd_same, by omega, fun ns2 p2 hs2 hm2 hl2 hp2 => ?_⟩
        obtain ⟨xs, rfl⟩ := nat_list (ns := ns2) fun y hy => by
          have z := of_decide_eq_true ((hm2 y).mp hy)
          obtain ⟨x, _, e⟩ := List.mem_map.mp z
          exact ⟨x, e.symm⟩
        have hxs : ∀ x ∈ xs, W.tick ≤ x ∧ x < 2 ^ 201 := fun x hx => by
          have z := of_decide_eq_true ((hm2 ((x : Nat) : Int)).mp (List.mem_map.mpr ⟨x, hx, rfl⟩))
          obtain ⟨y, hy, e⟩ := List.mem_map.mp z
          rw [← Int.ofNat.inj e]
          exact hdlx y hy
        generalize SetO _ p1 _ c1 = so at hp2 ⊢
        have u1 := same_upd (o := so) hp1
        have u2 := same_upd (o := .lst ((xs.map fun x : Nat => (x : Int)).map V.int)) hp2
        have e7 : (upd (upd H6 p1 so) p2 (.lst ((xs.map fun x : Nat => (x : Int)).map V.int))) p2 = some (.lst (xs.map fun x => V.int (x : Nat))) := by
          rw [upd_same, List.map_map]
          rfl
        have u12 := u1.trans u2
        generalize upd (upd H6 p1 so) p2 (.lst ((xs.map fun x : Nat => (x : Int)).map V.int)) = H7 at u12 e7 ⊢
        have s57 := sm6.trans u12
        have D7 := D5.same s57
        have st7 := st5.same s57
        have eR7 := s57 _ _ eR5
        have hC7 := hC5.frame (H0' := H7) (H' := H7) (fun a xs e => s57 _ _ e) fun t xs e => s57 _ _ e
        refine ⟨p2, rfl, ⟨_, SqL.of e7⟩, for_list (K := K) (a := p2) (xs := xs.map fun x => V.int (x : Nat)) (fun i σ H' => ∃ (y9 y10 y11 y12 y13 : Option V), σ = [some (.ref s), some (.ref p), some (.ref a), some (.int (W.b : Nat)), some (.ref ql), some (.int (W.tick : Nat)), some (.ref sh), some (.ref R1), some (.ref L), y9, y10, y11, y12, y13, none] ∧ Same H7 H') ⟨_, _, _, _, _, rfl, fun _ _ e => e⟩ (fun i σ H' _ ⟨_, _, _, _, _, _, sm⟩ => SqL.of (sm _ _ e7)) ?_ ?_⟩
        · rintro i v σ H8 hv ⟨y9, y10, y11, y12, y13, rfl, s8⟩
          obtain ⟨t, ht, rfl⟩ : ∃ x : Nat, xs[i]? = some x ∧ V.int (x : Nat) = v := by
            rw [List.getElem?_map] at hv
            cases hd : xs[i]? with
            | none =>
              rw [hd] at hv
              cases hv
            | some d =>
              rw [hd] at hv
              exact ⟨d, rfl, Option.some.inj hv⟩
          obtain ⟨ht1, ht2⟩ := hxs t (List.mem_of_getElem? ht)
          have D8 := D7.same s8
          obtain ⟨mo, emo⟩ : ∃ mo, mo = W.live.map strM := ⟨_, rfl⟩
          have hmo : ∀ m ∈ mo, m.since ≤ W.tick ∧ W.tick < m.due ∧ m.due < 2 ^ 250 ∧ m.per = none := fun m hm => by
            rw [emo] at hm
            obtain ⟨x, hx, rfl⟩ := List.mem_map.mp hm
            have z := ok.tms x hx
            exact ⟨z.since, z.due, z.big, rfl⟩
          have hmol : mo.length ≤ 60 := by
            rw [emo, List.length_map]
            omega
          have hmond : (mo.map (·.num)).Nodup := by
            rw [emo]
            exact str_nd ok.nd
          have hb250 : ∀ x : Nat, x < 2 ^ 201 → x < 2 ^ 250 := fun x h => Nat.lt_trans h (by decide)
          obtain ⟨fs, ms', adv, hfl, htot, ran⟩ := far_run W.b ws t _ mo (Nat.le_refl _) (fun m hm => ⟨by have := hmo m hm; omega, (hmo m hm).2.2.1⟩) (fun m hm _ k e => by rw [(hmo m hm).2.2.2] at e; cases e) hmond (by omega)
          have hfl2 := List.length_filter_le (fun m : Tm => decide (m.due ≤ t)) mo
          have hleft := adv.left2 fun m hm _ => (hmo m hm).2.2.2
          refine ⟨_, rfl, a, cs, ps, rfl, D8.lw, by omega, few2, fun H9 d ps9 s9 hd0 hps9 lw9 => ?_⟩
          have D9 := D8.same s9
          have hemp : emp (cs.map strC) ≤ 5000 := by
            unfold emp
            have z := List.length_filter_le (fun c : LCell => c.2.isEmpty) (cs.map strC)
            rw [List.length_map] at z
            omega
          have hgs : ∀ pp, gv (cs.map strC) pp = stM W.b ws W.tick mo pp := fun pp => by
            rw [gv_str, S.gvs, ← st_str, str_str, emo]
          refine ⟨_, rfl, _, rfl, _, rfl, _, rfl, _, rfl, d, ql, W.b, W.tick, t, ws, mo, ms', fs, cs.map strC, ps9, rfl, hb2, hb64, SqL.of D9.ql_, hne, hb250 _ ht2, ht1, lw9, hemp, hgs, ⟨fun m hm => ⟨(hmo m hm).1, (hmo m hm).2.1, (hmo m hm).2.2.1⟩, fun m hm k e => (by rw [(hmo m hm).2.2.2] at e; cases e), hmond, by omega⟩, adv, by omega, fun H10 ps10 cs10 r10 ts10 lk10 lw10 em10 gv10 hr10 nra nrp er10 fat10 lok10 => ?_⟩
          have s710 : Same H7 H10 := fun c o e => lk10.keep _ _ (fun z => by
            have y := s8 _ _ e
            rw [z, hd0] at y
            cases y) (fun z => by
            have y := s8 _ _ e
            rw [hps9 _ z] at y
            cases y) (s9 _ _ (s8 _ _ e))
          obtain ⟨kvs, hpair, hget⟩ := ran_get (K := K) fat10 ran (Nat.le_refl t)
          refine ⟨r10, ts10, kvs, rfl, SqL.of er10, hpair, fun f11 hf11 => ?_⟩
          have u11 := same_upd (o := .dK (mergeK [] kvs)) hf11
          have ef11 := upd_same (H := H10) (a := f11) (o := .dK (mergeK [] kvs))
          generalize upd H10 f11 (.dK (mergeK [] kvs)) = H11 at u11 ef11 ⊢
          have s711 := s710.trans u11
          have D11 := D7.same s711
          obtain ⟨dx11, hp11⟩ := D11.at_.ins
          refine ⟨_, rfl, p, dx11, _, rfl, hp11, nm_lists_at, _, rfl, p, q, l, W, t, rfl, D11.at_, ok, ht1, fun H12 r12 ts12 cs12 s12 hr12 er12 hC12' hI12 => ?_⟩
          have lw12 := (lw10.same u11).same s12
          have hr12H : H7 r12 = none := s711.free hr12
          have hl12 := cells_len lw12.nk gv10
          have hms' : ms'.length ≤ 60 := by
            rw [hleft]
            exact Nat.le_trans (List.length_filter_le _ _) hmol
          have hgl : ∀ p, (gv cs10 p).length ≤ 10000 := fun p => by
            rw [gv10]
            have := stM_len W.b ws t ms' p
            omega
          refine ⟨_, rfl, _, rfl, d, cs10, ps10, rfl, lw12, by omega, hgl, fun H13 r13 ts13 ks13 s13 hr13 er13 hC13 hF13 hks13 hsort13 => ?_⟩
          have e12 : cs12 = shownC cs10 ks13 := by
            have z := shown_lists (b := W.b) (ws := ws) (t := t) (ms := ms') (fun m hm => by rw [hleft] at hm; exact of_decide_eq_true (List.mem_filter.mp hm).2) lw12.nk gv10 hne hks13 hsort13
            rw [hleft, emo] at z
            rw [hWw] at hI12
            exact hI12.uniq z.str
          subst e12
          refine ⟨.list ((shownC cs10 ks13).map cellD), .list ((shownC cs10 ks13).map cellD), .lst (SqL.of (s13 _ _ er12)) (cells_dp (fun _ _ e => e) (hC12'.frame (H0' := H13) (H' := H13) (fun a xs e => s13 _ _ e) fun t xs e => s13 _ _ e)), .lst (SqL.of er13) (cells_dp (fun _ _ e => e) hC13), cells_shaped _, cells_shaped _, false, neq_refl (d := .list ((shownC cs10 ks13).map cellD)) (cells_lay _), iteF ?_⟩
          have s713 := (s711.trans s12).trans s13
          have D13 := D7.same s713
          have ef13 := s13 _ _ (s12 _ _ ef11)
          have er13' := s13 _ _ er12
          have s1013 := (u11.trans s12).trans s13
          apply cut_rest (I := fun H' => Same H7 H' ∧ H' r12 = some (.lst (ts12.map V.ref)))
          · intro next
            by_cases c2 : W.tick < t
            · refine ⟨_, rfl, _, rfl, (t : Nat), (W.tick : Nat), rfl, rfl, true, dT (by omega), iteT ?_⟩
              obtain ⟨dx13, hp13⟩ := D13.at_.ins
              refine ⟨_, rfl, p, dx13, _, rfl, hp13, nm_firing, _, rfl, p, q, l, W, t, rfl, D13.at_, ok, c2, fun H14 r14 s14 hr14 er14 => ?_⟩
              refine ⟨_, rfl, f11, rfl, .inl ⟨_, .inl (s14 _ _ ef13)⟩, _, rfl, by simp [sizeLine_eq], fun l15 hl15 => ?_⟩
              have u15 := same_upd (o := .lst []) hl15
              have el15 := upd_same (H := H14) (a := l15) (o := .lst [])
              generalize upd H14 l15 (.lst []) = H15 at u15 el15 ⊢
              have s1315 := s14.trans u15
              obtain ⟨R2, eR2, eR3, _⟩ := hget H15 l15 (s1013.trans s1315) el15
              rw [emo, order_str] at eR3
              have er15 := u15 _ _ er14
              rw [hWw, trim_order hne] at er15
              refine ⟨_, DGet.k (k := Sum.inl ((t : Nat) : Int)) (s1315 _ _ ef13), ?_⟩
              rw [eR2]
              refine ⟨.list ((orderAt W.b ws t W.live).map fun x => PyData.int (x : Nat)), .list ((orderAt W.b ws t W.live).map fun x => PyData.int (x : Nat)), .lst (SqL.of er15) (dp_nats _), .lst (SqL.of eR3) (dp_nats _), nats_shaped _, nats_shaped _, false, neq_refl (d := .list ((orderAt W.b ws t W.live).map fun x => PyData.int (x : Nat))) (nats_lay _), iteF ?_⟩
              exact next H15 ⟨s713.trans s1315, s1315 _ _ er13'⟩
            · refine ⟨_, rfl, _, rfl, (t : Nat), (W.tick : Nat), rfl, rfl, false, dF (by omega), iteF (iteF ?_)⟩
              exact next H13 ⟨s713, er13'⟩
          · rintro H16 ⟨s716, er16⟩
            have nr12 : ∀ c o, H7 c = some o → c ≠ r12 := fun c o e z => by
              rw [z, hr12H] at e
              cases e
            have s7 : Same H7 (upd H16 r12 (.lst (ts12.map V.ref ++ [.str (Str.ofString "q")]))) := fun c o e => by
              rw [upd_ne (nr12 c o e)]
              exact s716 _ _ e
            refine ⟨_, rfl, .inl ⟨rfl, _, SqL.of er16⟩, r12, ts12.map V.ref, _, rfl, rfl, er16, ?_, ?_⟩
            · rw [List.length_map]
              have z1 := hC12'.len
              have z2 : (shownC cs10 ks13).length = ks13.length := List.length_map ..
              have z3 := hks13.length_eq
              have z4 : (keysOf cs10).length ≤ cs10.length := by
                unfold keysOf
                rw [List.length_map]
                exact List.length_filter_le _ _
              exact sizeLine_ge (by omega)
            generalize upd H16 r12 (.lst (ts12.map V.ref ++ [.str (Str.ofString "q")])) = H17 at s7 ⊢
            have D17 := D7.same s7
            by_cases c2 : W.tick < t
            · refine ⟨_, rfl, _, rfl, (t : Nat), (W.tick : Nat), rfl, rfl, true, dT (by omega), iteT ?_⟩
              obtain ⟨dx17, hp17⟩ := D17.at_.ins
              refine ⟨_, rfl, p, dx17, _, rfl, hp17, nm_firing, _, rfl, p, q, l, W, t, rfl, D17.at_, ok, c2, fun H18 r18 s18 hr18 er18 => ?_⟩
              have hol := order_few W.b W.ws t W.live
              refine ⟨.inl ⟨rfl, _, SqL.of er18⟩, r18, _, _, rfl, rfl, er18, ?_, ?_⟩
              · rw [List.length_map]
                exact sizeLine_ge (by omega)
              · refine ⟨_, _, _, _, _, rfl, fun c o e => ?_⟩
                rw [upd_ne (ne_of_none (s7 _ _ e) hr18)]
                exact s18 _ _ (s7 _ _ e)
            · refine ⟨_, rfl, _, rfl, (t : Nat), (W.tick : Nat), rfl, rfl, false, dF (by omega), iteF ?_⟩
              exact ⟨_, _, _, _, _, rfl, s7⟩
        · rintro σ H8 ⟨y9, y10, y11, y12, y13, rfl, s8⟩
          have D8 := D7.same s8
          have st8 := st7.same s8
          have eR8 := s8 _ _ eR7
          have hC8 := hC7.frame (H0' := H8) (H' := H8) (fun a xs e => s8 _ _ e) fun t xs e => s8 _ _ e
          obtain ⟨dx8, hp8⟩ := D8.at_.ins
          refine ⟨_, rfl, p, dx8, _, rfl, hp8, nm_lists, p, q, l, W, rfl, D8.at_, ok, fun H9 R9 ts9 cs9 s9 hR90 eR9 hC9 hF9 hI9 => ?_⟩
          have e9 : cs9 = cA := hI9.uniq hI1
          subst e9
          have s89 := s9
          have lay := cells_lay cs9
          refine ⟨_, rfl, .list (cs9.map cellD), .list (cs9.map cellD), .lst (SqL.of eR9) (cells_dp (fun _ _ e => e) hC9), .lst (SqL.of (s9 _ _ eR8)) (cells_dp (fun _ _ e => e) (hC8.frame (H0' := H9) (H' := H9) (fun a xs e => s9 _ _ e) fun t xs e => s9 _ _ e)), cells_shaped _, cells_shaped _, true, eq_refl (d := .list (cs9.map cellD)) lay, iteT ?_⟩
          have D9 := D8.same s9
          have eR9' := s9 _ _ eR8
          have hC9' := hC8.frame (H0' := H9) (H' := H9) (fun a xs e => s9 _ _ e) fun t xs e => s9 _ _ e
          obtain ⟨dx9, hp9⟩ := D9.at_.ins
          refine ⟨_, rfl, p, dx9, _, rfl, hp9, nm_now, p, q, l, W, rfl, D9.at_, ?_⟩
          refine ⟨_, rfl, rfl, true, dT rfl, iteT ?_⟩
          refine ⟨_, rfl, p, dx9, _, rfl, hp9, nm_lists_at, _, rfl, p, q, l, W, W.tick, rfl, D9.at_, ok, Nat.le_refl _, fun H10 r10 ts10 cs10 s10 hr10 er10 hC10 hI10 => ?_⟩
          have e10 : cs10 = cs9 := hI10.uniq hI1
          subst e10
          refine ⟨_, rfl, .list (cs10.map cellD), .list (cs10.map cellD), .lst (SqL.of er10) (cells_dp (fun _ _ e => e) hC10), .lst (SqL.of (s10 _ _ eR9')) (cells_dp (fun _ _ e => e) (hC9'.frame (H0' := H10) (H' := H10) (fun a xs e => s10 _ _ e) fun t xs e => s10 _ _ e)), cells_shaped _, cells_shaped _, ?_⟩
          rw [eq_refl (d := .list (cs10.map cellD)) lay]
          exact c H10 ((st8.same s9).same s10)
end
/-! ### law k03: a wheel with timers, and the law's lists -/
structure B03 (i b n : Nat) (ws : List Bool) (W : WS) (cs : List LCell) (shl : List Nat) : Prop where
  s : S03 0 i b ws W cs
  fol : W.fol = i
  from_ : n ≤ W.tick
  below : ∀ x ∈ shl, W.tick < x
  per : ∀ m ∈ W.live, ∀ k, m.per = some k → k = 10 ^ 58 ∧ m.due ∈ shl
theorem cut_at2 {A1 A2 : Type} {I : A1 → A2 → Hp → Prop} {G : Prop} (R : A1 → A2 → Hp → Prop) (h1 : (∀ a b H, I a b H → R a b H) → G) (h2 : ∀ a b H, I a b H → R a b H) : G := h1 h2
section
variable {P : Program} {w : World} {K : PySem.W.Frag} {mg : Str → Option Value} {base : Heap}
def spBuilt (C : Addr) : Sp := fun vs H Q _ => ∃ (H0 : Hp) (s ql : Addr) (b n : Nat) (ws : List Bool), vs = [.ref s, .int (b : Nat), .ref ql, .int (n : Nat)] ∧ Same H0 H ∧ H0 s = none ∧ SrcAt H s ∧ H ql = some (.lst (ws.map lvV)) ∧ 2 ≤ b ∧ b ≤ 64 ∧ ws ≠ [] ∧ ws.length ≤ 60 ∧ n < 2 ^ 133 ∧
  ∀ H1 H' u p q l a sh W cs ps i (shl : List Nat), Same H0 H1 → H1 sh = some (.lst (shl.map fun x => V.int (x : Nat))) → sh ≠ s → Duo C H1 H' s p q l a ql ws W cs ps → B03 i b n ws W cs shl → i ≤ 12 → shl.length = 3 → (∀ x ∈ shl, n + 400 ≤ x ∧ x < n + 2 ^ 191) → H' u = some (.tup [.ref p, .ref a, .int (W.tick : Nat), .ref sh]) → Q (.ref u) H'
set_option maxHeartbeats 40000000 in
theorem ok_built {f C : Addr} {fd : FuncData} (F : Fun K "_law_built" "_law_built" s__law_built f fd) (T : Tx K mg) (TW : TxW K mg C) (hI : HasInit P w K mg base 5 C) (hP : HasPut P w K mg base 4 C) (m1 : HasM P w K mg base 6 C "advance" ["self", "tick"] [] (spAdvance C))
    (h1 : Has P w K mg base 2 "_law_next" ["_law_source_here", "_law_many"] [] spNext) (h2 : Has P w K mg base 3 "_law_tick" ["_law_source_here", "_law_base_here"] [] spTick) (h3 : Has P w K mg base 4 "_law_run" ["_law_lists", "_law_base_here", "_law_levels_here", "_law_now", "_law_last"] [] (spRun K))
    (h4 : Has P w K mg base 2 "_law_place" ["_law_lists", "_law_base_here", "_law_levels_here", "_law_now", "_law_row"] [] (spPlace K)) :
    FnOk P w K mg base CX0 7 f fd ["_law_source_here", "_law_base_here", "_law_levels_here", "_law_now"] (spBuilt C) := by
  have cl_Wheel := TW.cl
  obtain ⟨fi, fdi, M_Wheel, G_Wheel_init, b_Wheel_init⟩ := hI
  have c_Wheel := TW.mgC
  obtain ⟨g0, gd0, gs0, G_Wheel_put, M_Wheel_put, b_Wheel_put, v_Wheel_put, bK_Wheel_put⟩ := hP
  obtain ⟨g1, gd1, gs1, G_Wheel_advance, M_Wheel_advance, b_Wheel_advance, v_Wheel_advance⟩ := m1
  obtain ⟨f__law_next, fd__law_next, ds__law_next, G__law_next, m__law_next, k__law_next, b__law_next, v__law_next⟩ := h1
  obtain ⟨f__law_tick, fd__law_tick, ds__law_tick, G__law_tick, m__law_tick, k__law_tick, b__law_tick, v__law_tick⟩ := h2
  obtain ⟨f__law_run, fd__law_run, ds__law_run, G__law_run, m__law_run, k__law_run, b__law_run, v__law_run⟩ := h3
  obtain ⟨f__law_place, fd__law_place, ds__law_place, G__law_place, m__law_place, k__law_place, b__law_place, v__law_place⟩ := h4
  refine F.ok sc__law_built (fun vs H Q E h => ?_) (fun cdv A outer s0 H vs Q E hr h => ?_)
  · obtain ⟨H0, s, ql, b, n, ws, rfl, _⟩ := h
    rfl
  · obtain ⟨H0, s, ql, b, n, ws, rfl, base0, hs0, hsrc, hql, hb, hb64, hne, h60, hn, c⟩ := h
    have hu := hu_of hr
    refine ⟨_, (pss_cons (ps_set (i := 4) sc__law_built.nd rfl (.inl rfl) (pe_makeK M_Wheel G_Wheel_init hr (by rfl) c_Wheel b_Wheel_init pass0 (pa_cons (pv 1) (pa_cons (pv 2) pa_nil)) (pk_cons (pv 3) pk_nil)))
      (pss_cons (ps_set (i := 5) sc__law_built.nd rfl (.inl rfl) pe_dnewT)
      (pss_cons (ps_setLc (i := 6) (own := [("_law_k", 10)]) (g := gName 10) (tt := tYes) rfl sc__law_built.nd rfl rfl (sw_true rfl rfl rfl (by decide +kernel)) (pi_range1 (by rfl) T.b_range (pa_cons pe_int pa_nil)) (blkOk_by (own := [("_law_k", 10)]) (N := N__law_built) (sc := defScope s__law_built) (by decide +kernel)) (fun _ _ _ _ _ => (pg_name (i := 10) sc__law_built.nd rfl (.inl rfl))) (fun _ _ _ _ _ => pts_nil) (fun _ _ _ _ _ => (pe_op op_addN (pe_op op_addN (pe_op op_addN (pv 3) pe_int) (pe_op op_mulN (pe_op op_mulN (pe_call G__law_next (hr.mono (by decide)) (by rfl) m__law_next k__law_next b__law_next v__law_next pass0 (pa_cons (pv 0) (pa_cons pe_int pa_nil))) (pv 1)) (pv 1))) (pe_call G__law_tick (hr.mono (by decide)) (by rfl) m__law_tick k__law_tick b__law_tick v__law_tick pass0 (pa_cons (pv 0) (pa_cons (pv 1) pa_nil))))))
      (pss_cons (ps_for PassesOwn.never rfl (pi_range1 (by rfl) T.b_range (pa_cons (pe_op op_addN pe_int (pe_call G__law_next (hr.mono (by decide)) (by rfl) m__law_next k__law_next b__law_next v__law_next pass0 (pa_cons (pv 0) (pa_cons pe_int pa_nil)))) pa_nil)) (pg_name (i := 7) sc__law_built.nd rfl (.inl rfl))
        (pss_cons (ps_if (pt_cmpR op_eq (pe_call G__law_next (hr.mono (by decide)) (by rfl) m__law_next k__law_next b__law_next v__law_next pass0 (pa_cons (pv 0) (pa_cons pe_int pa_nil))) pe_int (nomark _))
          (pss_cons (ps_set (i := 8) sc__law_built.nd rfl (.inl rfl) (pe_op op_addN (pv 3) (pe_ix (ix_listK (K := K) rfl) (pe_lst (pa_cons pe_int (pa_cons pe_int (pa_cons pe_int (pa_cons (pe_call G__law_next (hr.mono (by decide)) (by rfl) m__law_next k__law_next b__law_next v__law_next pass0 (pa_cons (pv 0) (pa_cons pe_int pa_nil))) pa_nil))))) (pe_call G__law_next (hr.mono (by decide)) (by rfl) m__law_next k__law_next b__law_next v__law_next pass0 (pa_cons (pv 0) (pa_cons pe_int pa_nil))) (fun _ _ => rfl))))
          (pss_cons (ps_set (i := 8) sc__law_built.nd rfl (.inl rfl) (pe_callB (max2N rfl) (by rfl) T.b_max (by decide +kernel) (pa_cons (pv 3) (pa_cons (pe_callB (min2N rfl) (by rfl) T.b_min (by decide +kernel) (pa_cons (pv 8) (pa_cons (pe_op op_subN (pe_callB (minK (K := K) rfl rfl) (by rfl) T.b_min (by decide +kernel) (pa_cons (pv 6) pa_nil)) pe_int) pa_nil))) pa_nil))))
          (pss_cons (ps_expr (pe_call G__law_run (hr.mono (by decide)) (by rfl) m__law_run k__law_run b__law_run v__law_run pass0 (pa_cons (pv 5) (pa_cons (pv 1) (pa_cons (pv 2) (pa_cons (pv 3) (pa_cons (pv 8) pa_nil)))))))
          (pss_cons (ps_expr (pe_meth (pv 4) cl_Wheel M_Wheel_advance G_Wheel_advance hr b_Wheel_advance v_Wheel_advance pass0 (pa_cons (pv 8) pa_nil)))
          (pss_one (ps_set (i := 3) sc__law_built.nd rfl (.inr rfl) (pv 8)))))))
          pss_nil)
        (pss_cons (ps_set (i := 9) sc__law_built.nd rfl (.inl rfl) (pe_ix (ix_listK (K := K) rfl) (pe_op op_cat (pv 6) (pe_lst (pa_cons (pe_op op_addN (pe_op op_addN (pv 3) pe_int) (pe_call G__law_next (hr.mono (by decide)) (by rfl) m__law_next k__law_next b__law_next v__law_next pass0 (pa_cons (pv 0) (pa_cons pe_int pa_nil)))) pa_nil))) (pe_call G__law_next (hr.mono (by decide)) (by rfl) m__law_next k__law_next b__law_next v__law_next pass0 (pa_cons (pv 0) (pa_cons pe_int pa_nil))) (fun _ _ => rfl)))
        (pss_cons (ps_expr (pe_methK (pv 4) cl_Wheel M_Wheel_put G_Wheel_put (hr.mono (by decide)) bK_Wheel_put pass0 (pa_cons (pv 9) pa_nil) (pk_cons (pe_ix (ix_listK (K := K) rfl) (pe_lst (pa_cons pe_non (pa_cons (pe_op op_pow pe_int pe_int) pa_nil))) (pe_callTy call_int1 (by rfl) T.b_int (by decide +kernel) (pa_cons (pe_and (pe_cmpR op_in_seq (pv 9) (pv 6) (by rfl)) (pe_one (pe_cmpR op_eq (pe_call G__law_next (hr.mono (by decide)) (by rfl) m__law_next k__law_next b__law_next v__law_next pass0 (pa_cons (pv 0) (pa_cons pe_int pa_nil))) pe_int (nomark _)))) pa_nil)) (fun _ _ => rfl)) pk_nil)))
        (pss_one (ps_expr (pe_call G__law_place (hr.mono (by decide)) (by rfl) m__law_place k__law_place b__law_place v__law_place pass0 (pa_cons (pv 5) (pa_cons (pv 1) (pa_cons (pv 2) (pa_cons (pv 3) (pa_cons (pe_tup (pa_cons (pv 7) (pa_cons (pv 9) (pa_cons pe_non pa_nil)))) pa_nil))))))))))))
      (pss_one (ps_ret (pe_tup (pa_cons (pv 4) (pa_cons (pv 5) (pa_cons (pv 3) (pa_cons (pv 6) pa_nil))))))))))), ?_⟩
    refine ⟨_, rfl, _, rfl, _, rfl, rfl, rfl, fun p dx hpn hdx0 nex => ?_⟩
    have u0 : Same H (upd (upd H dx (.own p)) p (.ins C dx [])) := fun c o e => by
      rw [upd_ne (ne_of_none e hpn), upd_ne (ne_of_none e hdx0)]
      exact e
    refine ⟨p, dx, ql, b, n, ws, rfl, upd_same, SqL.of (u0 _ _ hql), hb, hb64, hne, h60, fun H1 q l k1 hq1 hl1 hw1 => ⟨rfl, ?_⟩⟩
    have s1 : Same H H1 := fun c o e => k1 c o (ne_of_none e hpn) (u0 _ _ e)
    refine fun a ha0 => ?_
    have ua := same_upd (o := .dT []) ha0
    have ea := upd_same (H := H1) (a := a) (o := .dT [])
    have hneT := trim_ne hne
    have b01 := base0.trans s1
    have D0 : Duo C H0 (upd H1 a (.dT [])) s p q l a ql ws ⟨b, trimW ws, n, 0, []⟩ [] [] :=
      ⟨b01.trans ua, hs0, base0.free hpn, base0.free (u0.free hl1), b01.free ha0, (fun r hr => by cases hr), (hsrc.same s1).same ua, ua _ _ (s1 _ _ hql), hne, hneT, hw1.same ua, .empty ea⟩
    generalize upd H1 a (.dT []) = H2 at D0 ⊢
    -- the shared due ticks
    refine ⟨3, rfl, by decide, by decide, fun sh hsh0 => lc_range (lo := 0) (n := 3) (fun i H' => Stp s H2 H' ∧ ∃ shl : List Nat, shl.length = i ∧ (∀ x ∈ shl, n + 400 ≤ x ∧ x < n + 2 ^ 191) ∧ H' sh = some (.lst (shl.map fun x => V.int (x : Nat))))
      ⟨D0.src.stp_same (same_upd hsh0), [], rfl, (fun x hx => by cases hx), upd_same⟩ ?_ ?_⟩
    · rintro i H3 hi3 ⟨st, shl, hl, hx, eD⟩
      have nDs : sh ≠ s := D0.src.ne hsh0
      refine ⟨rfl, yesT (iteT ⟨_, rfl, n, 400, rfl, rfl, trivial, _, rfl, s, 9, rfl, by decide, by decide, st.src, fun r4 H4 hr4 k4 => ?_⟩)⟩
      refine ⟨_, rfl, r4, b, rfl, rfl, nmul_r (by omega), _, rfl, r4 * b, b, rfl, rfl, nmul_r (by omega), n + 400, r4 * b * b, rfl, rfl, trivial, _, rfl, _, rfl, s, b, rfl, hb, hb64, k4.src, fun t H5 ht k5 => ⟨n + 400 + r4 * b * b, t, rfl, rfl, trivial, _, k5.keep _ _ nDs (k4.keep _ _ nDs eD), ?_, ⟨fun b o n e => ?_, ?_⟩, shl ++ [n + 400 + r4 * b * b + t], ?_, fun x hx' => ?_, ?_⟩⟩
      · rw [List.length_map]
        exact sizeLine_ge (by omega)
      · rw [upd_ne (ne_of_none e hsh0)]
        exact k5.keep _ _ n (k4.keep _ _ n (st.keep _ _ n e))
      · obtain ⟨x, y, z, h⟩ := k5.src
        exact ⟨x, y, z, by rw [upd_ne nDs.symm]; exact h⟩
      · rw [List.length_append, hl]
        rfl
      · rcases List.mem_append.mp hx' with h | h
        · exact hx x h
        · rw [List.mem_singleton.mp h]
          have hz : r4 * b * b ≤ 8 * 64 * 64 := Nat.mul_le_mul (Nat.mul_le_mul (by omega) hb64) hb64
          omega
      · rw [upd_same, List.map_append]
        rfl
    rintro H3 ⟨k3, shl, hshl, hshx, esh3⟩
    have nsh : sh ≠ s := D0.src.ne hsh0
    have hshH : H0 sh = none := D0.base.free hsh0
    have D3 := (D0.draw k3).more hshH esh3 nsh (fun z => by
      obtain ⟨dx, e⟩ := D0.at_.ins
      rw [← z, hsh0] at e
      cases e) (fun z => by
      obtain ⟨kv, e, _⟩ := D0.at_.live
      rw [← z, hsh0] at e
      cases e) (fun z => by
      obtain ⟨kv, e, _⟩ := D0.lw.dict
      rw [← z, hsh0] at e
      cases e) (by simp)
    have hHb : (upd H0 sh (.lst (shl.map fun x => V.int (x : Nat)))) sh = some (.lst (shl.map fun x => V.int (x : Nat))) := upd_same
    have bHb : Same H0 (upd H0 sh (.lst (shl.map fun x => V.int (x : Nat)))) := same_upd hshH
    generalize upd H0 sh (.lst (shl.map fun x => V.int (x : Nat))) = Hb at D3 hHb bHb
    have S3 : B03 0 b n ws ⟨b, trimW ws, n, 0, []⟩ [] shl := ⟨⟨rfl, ⟨hb, hb64, hneT, Nat.le_trans (trim_len ws) h60, (fun m h => by cases h), List.nodup_nil, Nat.zero_le _⟩, fun pp => stM_nil pp, Nat.le_refl _, Nat.le_refl _, rfl, (fun m h => by cases h), Nat.lt_trans hn (by decide)⟩, rfl, Nat.le_refl _, (fun x hx => by have := (hshx x hx).1; show n < x; omega), fun m h => by cases h⟩
    refine ⟨_, rfl, s, 12, rfl, by decide, by decide, D3.src, fun r4 H4 hr4 k4 => ⟨1, r4, rfl, rfl, trivial, ((1 + r4 : Nat) : Int), rfl, by omega, by omega, for_range (Pv := fun i σ H' => ∃ (l : Addr) (W : WS) (cs : List LCell) (ps : List Addr) (y7 y8 y9 y10 : Option V), σ = [some (.ref s), some (.int (b : Nat)), some (.ref ql), some (.int (W.tick : Nat)), some (.ref p), some (.ref a), some (.ref sh), y7, y8, y9, y10] ∧ Duo C Hb H' s p q l a ql ws W cs ps ∧ B03 i b n ws W cs shl) ⟨l, _, [], [], none, none, none, _, rfl, D3.draw k4, S3⟩ ?_ ?_⟩⟩
    · rintro i σ H5 hi5 ⟨l, W, cs, ps, y7, y8, y9, y10, rfl, D5, B5⟩
      have hi12 : i < 12 := by omega
      have hWb := B5.s.base
      have hWw := B5.s.ww
      have ok := B5.s.ok
      have fewl := B5.s.few
      have hnear : ∀ x ∈ shl, x < 2 ^ 192 := fun x hx => Nat.lt_trans (hshx x hx).2 (Nat.lt_of_lt_of_le (Nat.add_lt_add_right hn _) (by decide))
      refine ⟨_, rfl, s, 2, rfl, by decide, by decide, D5.src, fun r6 H6 hr6 k6 => ?_⟩
      have D6 := D5.draw k6
      apply cut_at2 (I := fun (t' : Nat) (_ : Option V) (H' : Hp) => ∃ (l : Addr) (W : WS) (cs : List LCell) (ps : List Addr), W.tick = t' ∧ Duo C Hb H' s p q l a ql ws W cs ps ∧ B03 i b n ws W cs shl)
      · intro next
        by_cases c1 : ¬ r6 = 0
        · refine ⟨rfl, false, dF (vN (b := 0) c1), iteF ?_⟩
          obtain ⟨t', et'⟩ : ∃ t', t' = W.tick := ⟨_, rfl⟩
          obtain ⟨x8, ex8⟩ : ∃ y', y' = y8 := ⟨_, rfl⟩
          rw [← et', ← ex8]
          exact next t' x8 H6 ⟨l, W, cs, ps, et'.symm, D6, B5⟩
        · have c1 : r6 = 0 := Classical.byContradiction c1
          refine ⟨rfl, true, dT (vE (b := 0) c1), iteT ?_⟩
          refine ⟨_, rfl, _, rfl, s, 60, rfl, by decide, by decide, D6.src, fun r7 H7 hr7 k7 => ⟨by simp [sizeLine_eq], fun l8 hl8 => ?_⟩⟩
          have D7 := D6.draw k7
          have nl8 : l8 ≠ s := D7.src.ne hl8
          have D8 := D7.same (same_upd (o := .lst [.int 1, .int 3, .int 17, .int (r7 : Nat)]) hl8)
          have el8 := upd_same (H := H7) (a := l8) (o := .lst [.int 1, .int 3, .int 17, .int (r7 : Nat)])
          generalize upd H7 l8 (.lst [.int 1, .int 3, .int 17, .int (r7 : Nat)]) = H8 at D8 el8 ⊢
          refine ⟨_, rfl, s, 4, rfl, by decide, by decide, D8.src, fun r9 H9 hr9 k9 => ?_⟩
          have D9 := D8.draw k9
          have el9 := k9.keep _ _ nl8 el8
          obtain ⟨g, hg, eg⟩ : ∃ g : Nat, g < 60 ∧ ([.int 1, .int 3, .int 17, .int (r7 : Nat)] : List V)[r9]? = some (.int (g : Nat)) := by
            have z : r9 = 0 ∨ r9 = 1 ∨ r9 = 2 ∨ r9 = 3 := by omega
            rcases z with rfl | rfl | rfl | rfl
            · exact ⟨1, by decide, rfl⟩
            · exact ⟨3, by decide, rfl⟩
            · exact ⟨17, by decide, rfl⟩
            · exact ⟨r7, by omega, rfl⟩
          refine ⟨l8, _, r9, _, rfl, rfl, SqL.of el9, atI_nat eg, W.tick, g, rfl, rfl, trivial, ?_⟩
          refine ⟨_, rfl, _, rfl, _, rfl, sh, shl.map fun x : Nat => (x : Int), rfl, ?_, ?_, fun mi hmi hmin => ?_⟩
          · rw [List.map_map]
            exact SqL.of (D9.base _ _ hHb)
          · rw [List.length_map]
            omega
          obtain ⟨mn, hmn, rfl⟩ := List.mem_map.mp hmi
          have hmn2 : ∀ x ∈ shl, mn ≤ x := fun x hx => Int.ofNat_le.mp (hmin _ (List.mem_map.mpr ⟨x, hx, rfl⟩))
          have hlt := B5.below mn hmn
          obtain ⟨step, est⟩ : ∃ step, step = max W.tick (min (W.tick + g) (mn - 1)) := ⟨_, rfl⟩
          have hst1 : W.tick ≤ step := by omega
          have hst2 : step < mn := by omega
          have hst3 : step ≤ W.tick + 60 := by omega
          refine ⟨mn, 1, rfl, rfl, by show 1 ≤ mn; omega, W.tick + g, mn - 1, rfl, W.tick, min (W.tick + g) (mn - 1), rfl, ?_⟩
          rw [← est]
          -- the law lets its ticks pass
          obtain ⟨mo, emo⟩ : ∃ mo, mo = W.live.map strM := ⟨_, rfl⟩
          have hmo : ∀ m ∈ mo, m.since ≤ W.tick ∧ W.tick < m.due ∧ m.due < 2 ^ 250 ∧ m.per = none := fun m hm => by
            rw [emo] at hm
            obtain ⟨x, hx, rfl⟩ := List.mem_map.mp hm
            have z := ok.tms x hx
            exact ⟨z.since, z.due, z.big, rfl⟩
          have hmol : mo.length ≤ 60 := by
            rw [emo, List.length_map]
            omega
          have hmond : (mo.map (·.num)).Nodup := by
            rw [emo]
            exact str_nd ok.nd
          have hper : ∀ m ∈ W.live, m.due ≤ step → m.per = none := fun m hm hd => by
            cases e : m.per with
            | none => rfl
            | some k =>
              have := hmn2 _ (B5.per m hm k e).2
              omega
          have hb250 : ∀ x : Nat, x < 2 ^ 200 → x < 2 ^ 250 := fun x h => Nat.lt_trans h (by decide)
          have hst200 : step < 2 ^ 200 := by
            have := hnear mn hmn
            exact Nat.lt_trans hst2 (Nat.lt_trans this (by decide))
          obtain ⟨fs, ms', adv, hfl, htot, ran⟩ := far_run b ws step _ mo (Nat.le_refl _) (fun m hm => ⟨by have := hmo m hm; omega, (hmo m hm).2.2.1⟩) (fun m hm _ k e => by rw [(hmo m hm).2.2.2] at e; cases e) hmond (by omega)
          have hfl2 := List.length_filter_le (fun m : Tm => decide (m.due ≤ step)) mo
          have hleft := adv.left2 fun m hm _ => (hmo m hm).2.2.2
          have hemp : emp cs ≤ 5000 := Nat.le_trans B5.s.em (by decide)
          have hgs : ∀ pp, gv cs pp = stM b ws W.tick mo pp := fun pp => by rw [B5.s.gvs, emo]
          refine ⟨_, rfl, _, rfl, _, rfl, _, rfl, _, rfl, a, ql, b, W.tick, step, ws, mo, ms', fs, cs, ps, rfl, hb, hb64, SqL.of D9.ql_, hne, hb250 _ hst200, hst1, D9.lw, hemp, hgs, ⟨fun m hm => ⟨(hmo m hm).1, (hmo m hm).2.1, (hmo m hm).2.2.1⟩, fun m hm k e => (by rw [(hmo m hm).2.2.2] at e; cases e), hmond, by omega⟩, adv, by omega, fun H10 ps10 cs10 r10 ts10 lk10 lw10 em10 gv10 hr10 nra nrp er10 fat10 lok10 => ?_⟩
          have D10 := D9.law lk10 lw10
          obtain ⟨dx10, hp10⟩ := D10.at_.ins
          -- the wheel goes there
          obtain ⟨fs2, ms2, adv2, hfl3, htot2, ran2⟩ := far_run W.b W.ws step _ W.live (Nat.le_refl _) (fun m hm => ⟨by have := ok.tms m hm; have z1 := this.since; have z2 := this.due; omega, (ok.tms m hm).big⟩) (fun m hm hd k e => by rw [hper m hm hd] at e; cases e) ok.nd ok.few
          have hfl4 := List.length_filter_le (fun m : Tm => decide (m.due ≤ step)) W.live
          have hleft2 := adv2.left2 hper
          refine ⟨_, rfl, p, dx10, _, rfl, hp10, nm_advance, _, rfl, p, q, l, W, step, fs2, ms2, rfl, D10.at_, ok.b2, ok.b64, ok.ne, ok.few, hst1, adv2, by omega, fun H11 r11 l11 ts11 k11 hr11 er11 fat11 w11 => ?_⟩
          have D11 := D10.wheel k11 w11 rfl
          refine ⟨_, rfl, ?_⟩
          have hms2 : ∀ m ∈ ms2, m ∈ W.live ∧ step < m.due := fun m hm => by
            rw [hleft2] at hm
            obtain ⟨z1, z2⟩ := List.mem_filter.mp hm
            exact ⟨z1, of_decide_eq_true z2⟩
          refine next step _ H11 ⟨l11, { W with tick := step, live := ms2 }, cs10, ps10, rfl, D11, ⟨⟨hWb, ⟨ok.b2, ok.b64, ok.ne, ok.l60, fun m hm => ?_, ?_, ?_⟩, fun pp => ?_, Nat.le_trans em10 B5.s.em, ?_, hWw, fun m hm => B5.s.due m (hms2 m hm).1, hst200⟩, B5.fol, Nat.le_trans B5.from_ hst1, fun x hx => Nat.lt_of_lt_of_le hst2 (hmn2 x hx), fun m hm => B5.per m (hms2 m hm).1⟩⟩
          · obtain ⟨z1, z2⟩ := hms2 m hm
            have z := ok.tms m z1
            exact ⟨Nat.le_trans z.since hst1, z2, z.big, z.num, z.per⟩
          · show (ms2.map (·.num)).Nodup
            rw [hleft2]
            exact ok.nd.sublist (List.Sublist.map _ List.filter_sublist)
          · show ms2.length ≤ 1000
            rw [hleft2]
            exact Nat.le_trans (List.length_filter_le _ _) ok.few
          · rw [gv10]
            show stM b ws step ms' pp = stM b ws step (ms2.map strM) pp
            rw [hleft, hleft2, emo, List.filter_map]
            rfl
          · show ms2.length ≤ i
            rw [hleft2]
            exact Nat.le_trans (List.length_filter_le _ _) fewl
      · rintro t' x8 H7 ⟨l, W, cs, ps, rfl, D7, B7⟩
        refine ⟨_, rfl, _, rfl, W.tick, 1, rfl, rfl, trivial, _, rfl, s, 900, rfl, by decide, by decide, D7.src, fun r8 H8 hr8 k8 => ⟨W.tick + 1, r8, rfl, rfl, trivial, by simp [sizeLine_eq], fun l9 hl9 => ?_⟩⟩
        have D9 := (D7.draw k8).same (same_upd (o := .lst [.int ((W.tick + 1 + r8 : Nat) : Int)]) hl9)
        have nl9 : l9 ≠ s := (D7.draw k8).src.ne hl9
        have el9 : (upd H8 l9 (.lst [.int ((W.tick + 1 + r8 : Nat) : Int)])) l9 = some (.lst ([W.tick + 1 + r8].map fun x => V.int (x : Nat))) := upd_same
        refine ⟨sh, l9, shl.map fun x => V.int (x : Nat), [W.tick + 1 + r8].map fun x => V.int (x : Nat), rfl, rfl, D9.base _ _ hHb, el9, ?_, fun N hN => ?_⟩
        · rw [List.length_map, List.length_map]
          exact sizeLine_le (by simp; omega)
        have uN := same_upd (o := .lst ((shl.map fun x => V.int (x : Nat)) ++ [W.tick + 1 + r8].map fun x => V.int (x : Nat))) hN
        have eN := upd_same (H := upd H8 l9 (.lst ([W.tick + 1 + r8].map fun x => V.int (x : Nat)))) (a := N) (o := .lst ((shl.map fun x => V.int (x : Nat)) ++ [W.tick + 1 + r8].map fun x => V.int (x : Nat)))
        have D10 := D9.same uN
        have nN : N ≠ s := D9.src.ne hN
        refine ⟨_, rfl, s, 4, rfl, by decide, by decide, D10.src, fun r11 H11 hr11 k11 => ?_⟩
        have D11 := D10.draw k11
        have eN11 := k11.keep _ _ nN eN
        rw [← List.map_append] at eN11
        have hWb := B7.s.base
        have hWw := B7.s.ww
        have ok := B7.s.ok
        have fewl := B7.s.few
        obtain ⟨d, hd, hd1⟩ : ∃ d, (shl ++ [W.tick + 1 + r8])[r11]? = some d ∧ d ∈ shl ++ [W.tick + 1 + r8] := by
          have z : r11 < (shl ++ [W.tick + 1 + r8]).length := by
            rw [List.length_append, hshl]
            simp
            omega
          exact ⟨_, List.getElem?_eq_getElem z, List.getElem_mem z⟩
        refine ⟨N, _, r11, _, rfl, rfl, SqL.of eN11, atI_nat (by rw [List.getElem?_map, hd]; rfl), ?_⟩
        have hdt : W.tick < d := by
          rcases List.mem_append.mp hd1 with h | h
          · exact B7.below d h
          · rw [List.mem_singleton.mp h]
            omega
        obtain ⟨dx11, hp11⟩ := D11.at_.ins
        refine ⟨_, rfl, p, dx11, _, rfl, hp11, nm_put, _, rfl, 10, 58, rfl, rfl, ⟨by decide, by decide, by decide⟩, by simp [sizeLine_eq], fun l12 hl12 => ?_⟩
        have hv58 : (fun i j : Int => V.int (i ^ j.toNat)) 10 58 = V.int ((10 ^ 58 : Nat) : Int) := congrArg V.int (by decide)
        have D12 := D11.same (same_upd (o := .lst [.non, (fun i j : Int => V.int (i ^ j.toNat)) 10 58]) hl12)
        have el12 : (upd H11 l12 (.lst [.non, (fun i j : Int => V.int (i ^ j.toNat)) 10 58])) l12 = some (.lst [.non, .int ((10 ^ 58 : Nat) : Int)]) := by rw [upd_same, hv58]
        have nl12 : l12 ≠ s := D11.src.ne hl12
        generalize upd H11 l12 (.lst [.non, (fun i j : Int => V.int (i ^ j.toNat)) 10 58]) = H12 at D12 el12 ⊢
        have flats : ∀ l : List Nat, (l.map fun x => V.int (x : Nat)).all flatV = true := fun l => List.all_eq_true.mpr fun x hx => by
          obtain ⟨y, _, rfl⟩ := List.mem_map.mp hx
          rfl
        have iv : ∀ bb : Bool, decide (d ∈ shl) = bb → V.bl (inV (.int (d : Nat)) (shl.map fun y => V.int (y : Nat))) = V.bl bb := fun bb e => by rw [inV_nat, e]
        apply cut_at (I := fun (o : Option Nat) (H' : Hp) => Duo C Hb H' s p q l a ql ws W cs ps ∧ ∀ k, o = some k → k = 10 ^ 58 ∧ d ∈ shl)
        · intro next
          by_cases hin : d ∈ shl
          · refine ⟨_, rfl, _, rfl, sh, _, rfl, .inl (SqL.of (D12.base _ _ hHb)), rfl, flats _, true, iv true (decide_eq_true hin), iteT ?_⟩
            refine ⟨_, rfl, s, 4, rfl, by decide, by decide, D12.src, fun r13 H13 hr13 k13 => ?_⟩
            have D13 := D12.draw k13
            have el13 := k13.keep _ _ nl12 el12
            by_cases c2 : r13 = 0
            · refine ⟨rfl, .inr ⟨true, congrArg (fun v => [v]) (dT (vE (b := 0) c2)), ?_⟩⟩
              obtain ⟨o, eo⟩ : ∃ o : Option Nat, o = some (10 ^ 58) := ⟨_, rfl⟩
              refine ⟨l12, _, 1, perV o, rfl, rfl, SqL.of el13, atI_nat (j := 1) (by rw [eo]; rfl), ?_⟩
              exact next o H13 ⟨D13, fun k e => by rw [eo] at e; exact ⟨(Option.some.inj e).symm, hin⟩⟩
            · refine ⟨rfl, .inr ⟨false, congrArg (fun v => [v]) (dF (vN (b := 0) c2)), ?_⟩⟩
              obtain ⟨o, eo⟩ : ∃ o : Option Nat, o = none := ⟨_, rfl⟩
              refine ⟨l12, _, 0, perV o, rfl, rfl, SqL.of el13, atI_nat (j := 0) (by rw [eo]; rfl), ?_⟩
              exact next o H13 ⟨D13, fun k e => by rw [eo] at e; cases e⟩
          · refine ⟨_, rfl, _, rfl, sh, _, rfl, .inl (SqL.of (D12.base _ _ hHb)), rfl, flats _, false, iv false (decide_eq_false hin), iteF ?_⟩
            refine .inr ⟨false, rfl, ?_⟩
            obtain ⟨o, eo⟩ : ∃ o : Option Nat, o = none := ⟨_, rfl⟩
            refine ⟨l12, _, 0, perV o, rfl, rfl, SqL.of el12, atI_nat (j := 0) (by rw [eo]; rfl), ?_⟩
            exact next o H12 ⟨D12, fun k e => by rw [eo] at e; cases e⟩
        · rintro o H13 ⟨D13, ho⟩
          have hd200 : d < 2 ^ 200 := by
            rcases List.mem_append.mp hd1 with h | h
            · exact Nat.lt_trans (hnear d h) (by decide)
            · rw [List.mem_singleton.mp h]
              obtain ⟨x, hx⟩ : ∃ x, x ∈ shl := by
                cases shl with
                | nil => cases hshl
                | cons x _ => exact ⟨x, List.mem_cons_self ..⟩
              have z1 := B7.below x hx
              have z2 := hnear x hx
              have z3 : W.tick + 1 + r8 < 2 ^ 192 + 900 := by omega
              exact Nat.lt_trans z3 (by decide)
          have hd250 : d < 2 ^ 250 := Nat.lt_trans hd200 (by decide)
          have hop : ∀ k, o = some k → 1 ≤ k := fun k e => by
            rw [(ho k e).1]
            decide
          refine ⟨rfl, rfl, p, q, l, W, d, o, rfl, D13.at_, ok, by omega, hdt, hop, fun H14 k14 w14 => ?_⟩
          have D14 := D13.wheel k14 w14 rfl
          refine ⟨_, rfl, _, rfl, _, rfl, _, rfl, _, rfl, _, rfl, by simp [sizeLine_eq], fun t15 ht15 => ?_⟩
          have u15 := same_upd (o := .tup [.int ((0 : Int) + (i : Int)), .int (d : Nat), .non]) ht15
          have D15 := D14.same u15
          have et15 : (upd H14 t15 (.tup [.int ((0 : Int) + (i : Int)), .int (d : Nat), .non])) t15 = some (.tup (lrowV ⟨W.fol, d, none, W.tick⟩)) := by
            rw [upd_same, B7.fol, Int.zero_add]
            rfl
          have hcl := B7.s.cells D15.lw.nk
          refine ⟨a, ql, t15, b, W.tick, ws, ⟨W.fol, d, none, W.tick⟩, cs, ps, rfl, hb, hb64, SqL.of D15.ql_, hne, et15, hdt, hd250, D15.lw, by omega, Nat.le_trans (B7.s.cell _) (by omega), fun H16 ps16 lk16 lw16 => ?_⟩
          have D16 := D15.law lk16 lw16
          refine ⟨l, { W with fol := W.fol + 1, live := W.live ++ [⟨W.fol, d, o, W.tick⟩] }, _, ps16, _, _, _, _, rfl, D16, ⟨⟨hWb, okw_put ok (by omega) hdt hd250 hop, fun pp => ?_, Nat.le_trans (emp_one _ _) B7.s.em, ?_, hWw, fun x hx => ?_, B7.s.tick⟩, congrArg (· + 1) B7.fol, B7.from_, B7.below, fun x hx k hk => ?_⟩⟩
          · show _ = stM b ws W.tick ((W.live ++ [_]).map strM) pp
            rw [List.map_append]
            exact st_new (m := ⟨W.fol, d, none, W.tick⟩) hb B7.s.gvs rfl hdt pp
          · show (W.live ++ [_]).length ≤ i + 1
            rw [List.length_append]
            exact Nat.add_le_add_right fewl 1
          · rcases List.mem_append.mp hx with y | y
            · exact B7.s.due x y
            · rw [List.mem_singleton.mp y]
              exact hd200
          · rcases List.mem_append.mp hx with y | y
            · exact B7.per x y k hk
            · rw [List.mem_singleton.mp y] at hk ⊢
              exact ho k hk
    · rintro σ H5 ⟨l, W, cs, ps, y7, y8, y9, y10, rfl, D5, B5⟩
      refine ⟨_, rfl, _, rfl, _, rfl, _, rfl, by simp [sizeLine_eq], fun u6 hu6 => ?_⟩
      have hi : 1 + r4 ≤ 12 := by omega
      have e5 : (((1 + r4 : Nat) : Int) - 0).toNat = 1 + r4 := by omega
      exact c Hb _ u6 p q l a sh W cs ps (1 + r4) shl bHb hHb nsh (D5.same (same_upd hu6)) (by rw [← e5]; exact B5) hi hshl hshx upd_same
end
/-! ### law k03 -/
theorem nats_some03 (N : List Nat) : (!PyData.eqv (.list (N.map fun x => PyData.int (x : Nat))) (.list [])) = decide (N ≠ []) := by
  cases N <;> rfl
theorem S03.mono {e m e' m' b : Nat} {ws : List Bool} {W : WS} {cs : List LCell} (S : S03 e m b ws W cs) (h1 : e ≤ e') (h2 : m ≤ m') : S03 e' m' b ws W cs :=
  ⟨S.base, S.ok, S.gvs, Nat.le_trans S.em h1, Nat.le_trans S.few h2, S.ww, S.due, S.tick⟩
theorem no_shift (b K : Nat) : Sh b 0 K := ⟨0, (Nat.mul_zero _).symm⟩
section
variable {P : Program} {w : World} {K : PySem.W.Frag} {mg : Str → Option Value} {base : Heap}
def spLaw (K : PySem.W.Frag) : Sp := fun vs H Q _ => ∃ (a : Addr) (ns : List Int), vs = [.ref a] ∧ SqL K H a (ns.map V.int) ∧ ns.length ≤ 63 ∧ ∀ H', Q (.bl true) H'
set_option maxHeartbeats 40000000 in
theorem ok_law {f C : Addr} {fd : FuncData} (F : Fun K "law" "law" s_law f fd) (T : Tx K mg) (TW : TxW K mg C)
    (h1 : Has P w K mg base 2 "_law_source" ["_law_script", "_law_k"] [] (spSource K)) (h2 : Has P w K mg base 3 "_law_base" ["_law_source_here"] [] spBase) (h3 : Has P w K mg base 3 "_law_levels" ["_law_source_here"] [] spLevels)
    (h4 : Has P w K mg base 3 "_law_tick" ["_law_source_here", "_law_base_here"] [] spTick) (h5 : Has P w K mg base 7 "_law_built" ["_law_source_here", "_law_base_here", "_law_levels_here", "_law_now"] [] (spBuilt C))
    (h6 : Has P w K mg base 7 "_law_looks_right" ["_law_source_here", "_law_wheel", "_law_lists", "_law_base_here", "_law_levels_here", "_law_now", "_law_shared"] [] (spLooks C)) (h7 : Has P w K mg base 1 "_law_copy" ["_law_lists"] [] (spCopy K))
    (h8 : Has P w K mg base 4 "_law_run" ["_law_lists", "_law_base_here", "_law_levels_here", "_law_now", "_law_last"] [] (spRun K)) (h9 : Has P w K mg base 7 "restored" ["snapshot"] [] (spRestored C K))
    (h10 : Has P w K mg base 5 "_law_changed" ["_law_source_here", "_law_wheel", "_law_lists", "_law_base_here", "_law_levels_here", "_law_now"] [] (spChanged C))
    (m1 : HasM P w K mg base 6 C "advance" ["self", "tick"] [] (spAdvance C)) (m2 : HasM P w K mg base 7 C "snapshot" ["self"] [] (spSnapshot C)) (m3 : HasM P w K mg base 1 C "timers" ["self"] [] (spTimers C)) :
    FnOk P w K mg base CX0 8 f fd ["_law_script"] (spLaw K) := by
  have cl_Wheel := TW.cl
  obtain ⟨f__law_source, fd__law_source, ds__law_source, G__law_source, m__law_source, k__law_source, b__law_source, v__law_source⟩ := h1
  obtain ⟨f__law_base, fd__law_base, ds__law_base, G__law_base, m__law_base, k__law_base, b__law_base, v__law_base⟩ := h2
  obtain ⟨f__law_levels, fd__law_levels, ds__law_levels, G__law_levels, m__law_levels, k__law_levels, b__law_levels, v__law_levels⟩ := h3
  obtain ⟨f__law_tick, fd__law_tick, ds__law_tick, G__law_tick, m__law_tick, k__law_tick, b__law_tick, v__law_tick⟩ := h4
  obtain ⟨f__law_built, fd__law_built, ds__law_built, G__law_built, m__law_built, k__law_built, b__law_built, v__law_built⟩ := h5
  obtain ⟨f__law_looks_right, fd__law_looks_right, ds__law_looks_right, G__law_looks_right, m__law_looks_right, k__law_looks_right, b__law_looks_right, v__law_looks_right⟩ := h6
  obtain ⟨f__law_copy, fd__law_copy, ds__law_copy, G__law_copy, m__law_copy, k__law_copy, b__law_copy, v__law_copy⟩ := h7
  obtain ⟨f__law_run, fd__law_run, ds__law_run, G__law_run, m__law_run, k__law_run, b__law_run, v__law_run⟩ := h8
  obtain ⟨f_restored, fd_restored, ds_restored, G_restored, m_restored, k_restored, b_restored, v_restored⟩ := h9
  obtain ⟨f__law_changed, fd__law_changed, ds__law_changed, G__law_changed, m__law_changed, k__law_changed, b__law_changed, v__law_changed⟩ := h10
  obtain ⟨g1, gd1, gs1, G_Wheel_advance, M_Wheel_advance, b_Wheel_advance, v_Wheel_advance⟩ := m1
  obtain ⟨g2, gd2, gs2, G_Wheel_snapshot, M_Wheel_snapshot, b_Wheel_snapshot, v_Wheel_snapshot⟩ := m2
  obtain ⟨g3, gd3, gs3, G_Wheel_timers, M_Wheel_timers, b_Wheel_timers, v_Wheel_timers⟩ := m3
  refine F.ok sc_law (fun vs H Q E h => ?_) (fun cdv A outer s H vs Q E hr h => ?_)
  · obtain ⟨a, ns, rfl, _⟩ := h
    rfl
  · obtain ⟨sa, ns, rfl, hS, hlen, fin⟩ := h
    have hu := hu_of hr
    refine ⟨_, (pss_cons (ps_for PassesOwn.never rfl (pi_range1 (by rfl) T.b_range (pa_cons (pe_callB (max2N rfl) (by rfl) T.b_max (by decide +kernel) (pa_cons pe_int (pa_cons (pe_callB (min2N rfl) (by rfl) T.b_min (by decide +kernel) (pa_cons pe_int (pa_cons (pe_callB (lenK (K := K) rfl) (by rfl) T.b_len PySem.boot_len (pa_cons (pv 0) pa_nil)) pa_nil))) pa_nil))) pa_nil)) (pg_name (i := 1) sc_law.nd rfl (.inl rfl))
        (pss_cons (ps_set (i := 2) sc_law.nd rfl (.inl rfl) (pe_call G__law_source (hr.mono (by decide)) (by rfl) m__law_source k__law_source b__law_source v__law_source pass0 (pa_cons (pv 0) (pa_cons (pv 1) pa_nil))))
        (pss_cons (ps_par (i := 3) (j := 4) (by rfl) sc_law.nd rfl rfl (by decide) rfl rfl (pa_cons (pe_call G__law_base (hr.mono (by decide)) (by rfl) m__law_base k__law_base b__law_base v__law_base pass0 (pa_cons (pv 2) pa_nil)) (pa_cons (pe_call G__law_levels (hr.mono (by decide)) (by rfl) m__law_levels k__law_levels b__law_levels v__law_levels pass0 (pa_cons (pv 2) pa_nil)) pa_nil)) (by rfl))
        (pss_cons (ps_asg (pe_call G__law_built hr (by rfl) m__law_built k__law_built b__law_built v__law_built pass0 (pa_cons (pv 2) (pa_cons (pv 3) (pa_cons (pv 4) (pa_cons (pe_op op_remN (pe_call G__law_tick (hr.mono (by decide)) (by rfl) m__law_tick k__law_tick b__law_tick v__law_tick pass0 (pa_cons (pv 2) (pa_cons (pv 3) pa_nil))) (pe_op op_pow pe_int pe_int)) pa_nil))))) (pg_tupK (K := K) (n := 4) rfl rfl (pgs_cons (pg_name (i := 5) sc_law.nd rfl (.inl rfl)) (pgs_cons (pg_name (i := 6) sc_law.nd rfl (.inl rfl)) (pgs_cons (pg_name (i := 7) sc_law.nd rfl (.inl rfl)) (pgs_cons (pg_name (i := 8) sc_law.nd rfl (.inl rfl)) pgs_nil))))))
        (pss_cons (ps_if (pt_not (pt_val (pe_call G__law_looks_right hr (by rfl) m__law_looks_right k__law_looks_right b__law_looks_right v__law_looks_right pass0 (pa_cons (pv 2) (pa_cons (pv 5) (pa_cons (pv 6) (pa_cons (pv 3) (pa_cons (pv 4) (pa_cons (pv 7) (pa_cons (pv 8) pa_nil))))))))))
          (pss_one (ps_ret pe_bl))
          pss_nil)
        (pss_cons (ps_par3 (i := 9) (j := 10) (l := 11) (by rfl) sc_law.nd rfl rfl rfl (by decide) (by decide) (by decide) rfl rfl rfl (pa_cons (pe_call G_restored hr (by rfl) m_restored k_restored b_restored v_restored pass0 (pa_cons (pe_meth0 (pv 5) cl_Wheel M_Wheel_snapshot G_Wheel_snapshot hr b_Wheel_snapshot v_Wheel_snapshot pass0) pa_nil)) (pa_cons (pe_call G__law_copy (hr.mono (by decide)) (by rfl) m__law_copy k__law_copy b__law_copy v__law_copy pass0 (pa_cons (pv 6) pa_nil)) (pa_cons (pe_callB (maxK (K := K) rfl rfl) (by rfl) T.b_max (by decide +kernel) (pa_cons (pv 8) pa_nil)) pa_nil))) (by rfl))
        (pss_cons (ps_if (pt_cmpR (op_neK (K := K) rfl hr.units) (pe_dget2 hu (pe_callTy (call_dictP rfl) (by rfl) T.b_dict (by decide +kernel) (pa_cons (pe_meth (pv 9) cl_Wheel M_Wheel_advance G_Wheel_advance (hr.mono (by decide)) b_Wheel_advance v_Wheel_advance pass0 (pa_cons (pv 11) pa_nil)) pa_nil)) (pv 11) (pe_lst pa_nil) ⟨by rfl, by rfl, by rfl, by rfl⟩) (pe_dget2 hu (pe_callTy (call_dictP rfl) (by rfl) T.b_dict (by decide +kernel) (pa_cons (pe_call G__law_run (hr.mono (by decide)) (by rfl) m__law_run k__law_run b__law_run v__law_run pass0 (pa_cons (pv 10) (pa_cons (pv 3) (pa_cons (pv 4) (pa_cons (pv 7) (pa_cons (pv 11) pa_nil)))))) pa_nil)) (pv 11) (pe_lst pa_nil) ⟨by rfl, by rfl, by rfl, by rfl⟩) (nomark _))
          (pss_one (ps_ret pe_bl))
          pss_nil)
        (pss_one (ps_for PassesOwn.never rfl (pi_range1 (by rfl) T.b_range (pa_cons pe_int pa_nil)) (pg_name (i := 12) sc_law.nd rfl (.inl rfl))
          (pss_cons (ps_set (i := 13) sc_law.nd rfl (.inl rfl) (pe_lst pa_nil))
          (pss_cons (ps_if (pt_cmpR (op_neK (K := K) rfl hr.units) (pe_meth0 (pv 5) cl_Wheel M_Wheel_timers G_Wheel_timers (hr.mono (by decide)) b_Wheel_timers v_Wheel_timers pass0) (pe_lst pa_nil) (nomark _))
            (pss_one (ps_set (i := 13) sc_law.nd rfl (.inl rfl) (pe_call G__law_changed (hr.mono (by decide)) (by rfl) m__law_changed k__law_changed b__law_changed v__law_changed pass0 (pa_cons (pv 2) (pa_cons (pv 5) (pa_cons (pv 6) (pa_cons (pv 3) (pa_cons (pv 4) (pa_cons (pv 7) pa_nil)))))))))
            pss_nil)
          (pss_one (ps_if (pt_not (pt_val (pe_call G__law_looks_right hr (by rfl) m__law_looks_right k__law_looks_right b__law_looks_right v__law_looks_right pass0 (pa_cons (pv 2) (pa_cons (pv 5) (pa_cons (pv 6) (pa_cons (pv 3) (pa_cons (pv 4) (pa_cons (pv 7) (pa_cons (pe_op op_cat (pv 8) (pv 13)) pa_nil))))))))))
            (pss_one (ps_ret pe_bl))
            pss_nil)))))))))))))
      (pss_one (ps_ret pe_bl))), ?_⟩
    refine ⟨.ref sa, rfl, sa, ns.map V.int, rfl, .inl hS, 8, _, rfl, 1, _, rfl, _, rfl, by omega, by rw [List.length_map]; omega, for_range (Pv := fun i σ H' => Same H H' ∧ ∃ y1 y2 y3 y4 y5 y6 y7 y8 y9 y10 y11 y12 y13, σ = [some (.ref sa), y1, y2, y3, y4, y5, y6, y7, y8, y9, y10, y11, y12, y13]) ⟨Same.refl _, none, none, none, none, none, none, none, none, none, none, none, none, none, rfl⟩ ?_ ?_⟩
    · rintro i0 σ Hz hi ⟨bz, y1, y2, y3, y4, y5, y6, y7, y8, y9, y10, y11, y12, y13, rfl⟩
      refine ⟨_, rfl, _, rfl, sa, ns, 0 + i0, rfl, bz.seq hS, fun H1 ps0 s1 hp0 hsrc => ?_⟩
      have hps0 : H ps0 = none := bz.free hp0
      have b1 : Same H H1 := bz.trans s1
      refine ⟨_, rfl, ps0, rfl, hsrc, fun b H2 hb hb64 k2 => ⟨_, rfl, ps0, rfl, k2.src, fun H3 ql ws k3 hq0 hql hne h60 => ?_⟩⟩
      have k23 := k2.trans k3
      have nql : ql ≠ ps0 := k2.src.ne hq0
      refine ⟨_, _, rfl, ?_⟩
      refine ⟨_, rfl, _, rfl, _, rfl, _, rfl, _, rfl, ps0, b, rfl, hb, hb64, k3.src, fun n H4 hn k4 => ?_⟩
      refine ⟨10, 40, rfl, rfl, ⟨by decide, by decide, by decide⟩, n, 10 ^ 40, rfl, congrArg V.int (by decide), show 0 < 10 ^ 40 by decide, ?_⟩
      obtain ⟨n2, en2⟩ : ∃ n2, n2 = n % 10 ^ 40 := ⟨_, rfl⟩
      have en3 : (fun a b : Nat => a % b) n (10 ^ 40) = n2 := en2.symm
      rw [en3]
      have hn2 : n2 < 2 ^ 133 := by
        rw [en2]
        exact Nat.lt_of_lt_of_le (Nat.mod_lt _ (by decide)) (by decide)
      have k24 := k23.trans k4
      have hql4 := k4.keep _ _ nql hql
      have b04 : Same H H4 := fun c o e => k24.keep _ _ (ne_of_none e hps0) (b1 _ _ e)
      refine ⟨H, ps0, ql, b, n2, ws, rfl, b04, hps0, k4.src, hql4, hb, hb64, hne, h60, hn2, fun Hb H5 u5 p q l a sh W cs ps i shl sHb hsh nsh D5 B5 hi12 hshl hshx eu5 => ?_⟩
      refine ⟨u5, _, rfl, SqT.of eu5, rfl, _, _, rfl, _, _, rfl, _, _, rfl, _, _, rfl, rfl, ?_⟩
      have hWb := B5.s.base
      have hWw := B5.s.ww
      have ok := B5.s.ok
      have fewl := B5.s.few
      have hnear : ∀ x ∈ shl, n2 + 400 ≤ x ∧ x < 2 ^ 192 := fun x hx => ⟨(hshx x hx).1, Nat.lt_trans (hshx x hx).2 (Nat.lt_of_lt_of_le (Nat.add_lt_add_right hn2 _) (by decide))⟩
      obtain ⟨x0, hx0⟩ : ∃ x, x ∈ shl := by
        cases shl with
        | nil => cases hshl
        | cons x _ => exact ⟨x, List.mem_cons_self ..⟩
      have htick : W.tick < 2 ^ 192 := Nat.lt_trans (B5.below x0 hx0) (hnear x0 hx0).2
      have S5 : S03 0 12 W.b ws W cs := by
        rw [hWb]
        exact B5.s.mono (Nat.le_refl _) hi12
      have ht195 : W.tick < 2 ^ 195 := Nat.lt_trans htick (by decide)
      have hsh200 : ∀ x ∈ shl, 1 ≤ x ∧ x < 2 ^ 200 := fun x hx => ⟨by have := (hnear x hx).1; omega, Nat.lt_trans (hnear x hx).2 (by decide)⟩
      -- it looks right
      refine ⟨_, rfl, _, rfl, _, rfl, _, rfl, _, rfl, _, rfl, _, rfl, Hb, ps0, p, q, l, a, ql, sh, ws, W, cs, ps, 0, 12, shl, by rw [hWb]; rfl, D5, S5, by decide, by decide, D5.base _ _ hsh, nsh, by omega, hsh200, fun H6 st6 => ⟨true, rfl, iteF ?_⟩⟩
      have D6 := D5.draw st6
      obtain ⟨dx6, hp6⟩ := D6.at_.ins
      refine ⟨_, rfl, p, dx6, _, rfl, hp6, nm_snapshot, p, q, l, W, rfl, D6.at_, ok, fun H8 u8 q8 R8 ts8 cs8 s8 hu8 _ _ eu8 eq8 eR8 hP8 hI8 => ?_⟩
      refine ⟨u8, _, _, _, _, _, rfl, ⟨⟨q8, R8, ts8, eu8, SqL.of eq8, SqL.of eR8, hP8⟩⟩, snap_ok ok hI8, fun H9 p2 q2 l2 s9 hp2 hq2 hl2 w9 => ?_⟩
      have ht2 : trimW W.ws = W.ws := by
        rw [hWw]
        exact trim_twice ws
      have A1 := (Al.refl ok).again ht2 hI8
      generalize (⟨W.b, trimW W.ws, W.tick, W.fol, ((toldT W.b W.ws W.tick W.live (cs8.map (·.1))).map rowOf).map (rowT W.tick)⟩ : WS) = W2 at A1 w9
      have D9 := (D6.same s8).same s9
      have ok2 := A1.ok
      have s69 := s8.trans s9
      have hcl := B5.s.cells D9.lw.nk
      have few2 : ∀ p, (gv cs p).length ≤ 1000 := fun p => Nat.le_trans (B5.s.cell p) (by omega)
      -- the lists copied, the last tick
      refine ⟨_, rfl, a, cs, ps, rfl, D9.lw, by omega, few2, fun H10 d ps10 s10 hd0 hps10 lw10 => ?_⟩
      have D10 := D9.same s10
      refine ⟨_, rfl, sh, shl.map fun x : Nat => (x : Int), rfl, ?_, ?_, fun mi hmi hmax => ?_⟩
      · rw [List.map_map]
        exact SqL.of (D10.base _ _ hsh)
      · rw [List.length_map]
        omega
      obtain ⟨last, hlast, rfl⟩ := List.mem_map.mp hmi
      have hlx : ∀ x ∈ shl, x ≤ last := fun x hx => Int.ofNat_le.mp (hmax _ (List.mem_map.mpr ⟨x, hx, rfl⟩))
      refine ⟨_, _, _, rfl, ?_⟩
      have htl : W.tick < last := B5.below last hlast
      have hl192 : last < 2 ^ 192 := (hnear last hlast).2
      have hl250 : last < 2 ^ 250 := Nat.lt_trans hl192 (by decide)
      obtain ⟨c58, e58⟩ : ∃ c58, c58 = 10 ^ 58 := ⟨_, rfl⟩
      have h58a : 2 ^ 192 < c58 := by
        rw [e58]
        decide
      have h58b : c58 < 2 ^ 194 := by
        rw [e58]
        decide
      have hb2 := A1.b
      have hws2 := A1.ws
      have htk2 : W2.tick = W.tick := A1.tick
      have hl2len := A1.len ok
      have hper2 : ∀ m ∈ W2.live, m.due ≤ last → ∀ k, m.per = some k → last < m.due + k ∧ m.due + k < 2 ^ 250 := fun m hm hd k e => by
        obtain ⟨m0, z1, _, z3, z4⟩ := A1.core hm
        rw [z4] at e
        have z5 := (B5.per m0 z1 k e).1
        rw [← e58] at z5
        have z6 : m.due + k < 2 ^ 195 := by omega
        exact ⟨by omega, Nat.lt_trans z6 (by decide)⟩
      obtain ⟨fs, ms', adv, hfl, htot, ran⟩ := far_run W2.b W2.ws last _ W2.live (Nat.le_refl _) (fun m hm => ⟨by have := ok2.tms m hm; have z1 := this.since; have z2 := this.due; omega, (ok2.tms m hm).big⟩) hper2 ok2.nd ok2.few
      have hfl2 := List.length_filter_le (fun m : Tm => decide (m.due ≤ last)) W2.live
      have w10 := w9.same s10
      have new6 : ∀ c, H6 c = none → Hb c = none := fun c z => D6.base.free z
      have D2 : Duo C Hb H10 ps0 p2 q2 l2 d ql ws W2 (cs.map strC) ps10 := ⟨D10.base, D10.s0, new6 _ (s8.free hp2), new6 _ ((s8.free hl2)), new6 _ (s69.free hd0), (fun r hr => new6 _ (s69.free (hps10 r hr))), D10.src, D10.ql_, hne, ok2.ne, w10, lw10⟩
      obtain ⟨dx10, hp10⟩ := w10.ins
      refine ⟨_, rfl, p2, dx10, _, rfl, hp10, nm_advance, _, rfl, p2, q2, l2, W2, last, fs, ms', rfl, w10, ok2.b2, ok2.b64, ok2.ne, ok2.few, by omega, adv, by omega, fun H11 r11 l11 ts11 k11 hr11 er11 fat11 w11 => ?_⟩
      have D11 := D2.wheel k11 w11 rfl
      obtain ⟨kvs, hpair, hget⟩ := ran_get (K := K) fat11 ran (Nat.le_refl last)
      refine ⟨r11, ts11, kvs, rfl, SqL.of er11, hpair, fun f12 hf12 => ?_⟩
      have u12 := same_upd (o := .dK (mergeK [] kvs)) hf12
      have ef12 := upd_same (H := H11) (a := f12) (o := .dK (mergeK [] kvs))
      have D12 := D11.same u12
      generalize upd H11 f12 (.dK (mergeK [] kvs)) = H12 at u12 ef12 D12 ⊢
      refine ⟨f12, rfl, .inl ⟨_, .inl ef12⟩, _, rfl, by simp [sizeLine_eq], fun l13 hl13 => ?_⟩
      have u13 := same_upd (o := .lst []) hl13
      have el13 := upd_same (H := H12) (a := l13) (o := .lst [])
      have D13 := D12.same u13
      generalize upd H12 l13 (.lst []) = H13 at u13 el13 D13 ⊢
      obtain ⟨N1, eN1, eN2, hN⟩ := hget H13 l13 (u12.trans u13) el13
      refine ⟨_, DGet.k (k := Sum.inl ((last : Nat) : Int)) (u13 _ _ ef12), ?_⟩
      rw [eN1]
      -- the law's own run
      obtain ⟨mo, emo⟩ : ∃ mo, mo = W.live.map strM := ⟨_, rfl⟩
      have hmo : ∀ m ∈ mo, m.since ≤ W.tick ∧ W.tick < m.due ∧ m.due < 2 ^ 250 ∧ m.per = none := fun m hm => by
        rw [emo] at hm
        obtain ⟨x, hx, rfl⟩ := List.mem_map.mp hm
        have z := ok.tms x hx
        exact ⟨z.since, z.due, z.big, rfl⟩
      have hmol : mo.length ≤ 60 := by
        rw [emo, List.length_map]
        omega
      have hmond : (mo.map (·.num)).Nodup := by
        rw [emo]
        exact str_nd ok.nd
      obtain ⟨fs2, ms2, adv2, hfl3, htot2, ran2⟩ := far_run b ws last _ mo (Nat.le_refl _) (fun m hm => ⟨by have := hmo m hm; omega, (hmo m hm).2.2.1⟩) (fun m hm _ k e => by rw [(hmo m hm).2.2.2] at e; cases e) hmond (by omega)
      have hfl4 := List.length_filter_le (fun m : Tm => decide (m.due ≤ last)) mo
      have hemp : emp (cs.map strC) ≤ 5000 := by
        unfold emp
        have z := List.length_filter_le (fun c : LCell => c.2.isEmpty) (cs.map strC)
        rw [List.length_map] at z
        omega
      have hgs : ∀ pp, gv (cs.map strC) pp = stM b ws W.tick mo pp := fun pp => by
        rw [gv_str, B5.s.gvs, ← st_str, str_str, emo]
      refine ⟨_, rfl, _, rfl, _, rfl, _, rfl, _, rfl, d, ql, b, W.tick, last, ws, mo, ms2, fs2, cs.map strC, ps10, rfl, hb, hb64, SqL.of D13.ql_, hne, hl250, Nat.le_of_lt htl, D13.lw, hemp, hgs, ⟨fun m hm => ⟨(hmo m hm).1, (hmo m hm).2.1, (hmo m hm).2.2.1⟩, fun m hm k e => (by rw [(hmo m hm).2.2.2] at e; cases e), hmond, by omega⟩, adv2, by omega, fun H14 ps14 cs14 r14 ts14 lk14 lw14 em14 gv14 hr14 nra nrp er14 fat14 lok14 => ?_⟩
      have D14 := D13.law lk14 lw14
      have eN14 : H14 N1 = some (.lst ((orderAt W2.b W2.ws last W2.live).map fun y => V.int (y : Nat))) := by
        rcases hN with e | e
        · have z : N1 ≠ d ∧ N1 ∉ ps10 := by
            rw [e]
            refine ⟨fun z => ?_, fun z => ?_⟩
            · obtain ⟨kv, y, _⟩ := D12.lw.dict
              rw [← z, hl13] at y
              cases y
            · obtain ⟨xs, y⟩ := D12.lw.lists _ z
              rw [hl13] at y
              cases y
          exact lk14.keep _ _ z.1 z.2 eN2
        · have z := D13.lw.nums e eN2
          exact lk14.keep _ _ z.1 z.2 eN2
      obtain ⟨kvs2, hpair2, hget2⟩ := ran_get (K := K) fat14 ran2 (Nat.le_refl last)
      refine ⟨r14, ts14, kvs2, rfl, SqL.of er14, hpair2, fun f15 hf15 => ?_⟩
      have u15 := same_upd (o := .dK (mergeK [] kvs2)) hf15
      have ef15 := upd_same (H := H14) (a := f15) (o := .dK (mergeK [] kvs2))
      generalize upd H14 f15 (.dK (mergeK [] kvs2)) = H15 at u15 ef15 ⊢
      refine ⟨f15, rfl, .inl ⟨_, .inl ef15⟩, _, rfl, by simp [sizeLine_eq], fun l16 hl16 => ?_⟩
      have u16 := same_upd (o := .lst []) hl16
      have el16 := upd_same (H := H15) (a := l16) (o := .lst [])
      generalize upd H15 l16 (.lst []) = H16 at u16 el16 ⊢
      obtain ⟨N3, eN3, eN4, _⟩ := hget2 H16 l16 (u15.trans u16) el16
      refine ⟨_, DGet.k (k := Sum.inl ((last : Nat) : Int)) (u16 _ _ ef15), ?_⟩
      rw [eN3]
      have eo1 : orderAt W2.b W2.ws last W2.live = orderAt b ws last W.live := by
        have z := A1.al.order (K := 250) (no_shift W.b 250) ok.b2 htl (Nat.lt_of_lt_of_le hl250 (Nat.pow_le_pow_left ok.b2 250)) (fun m hm => (ok.tms m hm).since) (fun o ho => by have := (ok2.tms o ho).since; omega)
        rw [hb2, hws2]
        rw [hWw, trim_order hne, trim_order hne, hWb] at z
        rw [hWb, hWw, trim_order hne]
        exact z
      have eo2 : orderAt b ws last mo = orderAt b ws last W.live := by rw [emo, order_str]
      rw [eo1] at eN14
      rw [eo2] at eN4
      refine ⟨.list ((orderAt b ws last W.live).map fun x => PyData.int (x : Nat)), .list ((orderAt b ws last W.live).map fun x => PyData.int (x : Nat)), .lst (SqL.of ((u15.trans u16) _ _ eN14)) (dp_nats _), .lst (SqL.of eN4) (dp_nats _), nats_shaped _, nats_shaped _, false, neq_refl (d := .list ((orderAt b ws last W.live).map fun x => PyData.int (x : Nat))) (nats_lay _), iteF ?_⟩
      have hp26 := s8.free hp2
      have hl26 := s8.free hl2
      have s616 : Same H6 H16 := fun c o e => (u15.trans u16) _ _ (lk14.keep _ _ (fun z => by
          have y := s69 _ _ e
          rw [z, hd0] at y
          cases y) (fun z => by
          have y := s69 _ _ e
          rw [hps10 _ z] at y
          cases y) ((u12.trans u13) _ _ (k11.keep _ _ (ne_of_none e hp26) (ne_of_none e hl26) (s10 _ _ (s69 _ _ e)))))
      have D16 := D6.same s616
      have S16 : S03 0 12 b ws W cs := B5.s.mono (Nat.le_refl _) hi12
      clear D14 D13 D12 D11 D2 D10 D9 D6 D5 lok14 fat14 fat11 gv14 lw14 lk14 k11 w11 adv adv2 ran ran2 hget hget2 hpair hpair2 A1 w9 w10 lw10
      -- the turns
      refine ⟨2, rfl, by decide, by decide, for_range (Pv := fun j σ H' => ∃ (l : Addr) (W' : WS) (cs : List LCell) (ps : List Addr) (y12 y13 : Option V), σ = [some (.ref sa), some (.int ((0 : Int) + (i0 : Int))), some (.ref ps0), some (.int (b : Nat)), some (.ref ql), some (.ref p), some (.ref a), some (.int (W.tick : Nat)), some (.ref sh), some (.ref p2), some (.ref d), some (.int (last : Nat)), y12, y13] ∧ Duo C Hb H' ps0 p q l a ql ws W' cs ps ∧ S03 j (12 + j) b ws W' cs ∧ W'.tick = W.tick) ⟨l, W, cs, ps, y12, y13, rfl, D16, S16, rfl⟩ ?_ ?_⟩
      · rintro j σ H17 hj ⟨l3, W3, cs3, ps3, z12, z13, rfl, D17, S17, ht17⟩
        have hj2 : j < 2 := hj
        refine ⟨by simp [sizeLine_eq], fun mo0 hmo0 => ?_⟩
        have u18 := same_upd (o := .lst []) hmo0
        have D18 := D17.same u18
        have em18 : (upd H17 mo0 (.lst [])) mo0 = some (.lst (([] : List Nat).map fun x => V.int (x : Nat))) := upd_same
        generalize upd H17 mo0 (.lst []) = H18 at u18 D18 em18 ⊢
        have few17 := S17.few
        have hb17 := S17.base
        obtain ⟨dx18, hp18⟩ := D18.at_.ins
        refine ⟨_, rfl, p, dx18, _, rfl, hp18, nm_timers, p, q, l3, W3, rfl, D18.at_, by omega, fun H19 r19 nums s19 hr19 er19 hperm hsort => ⟨by simp [sizeLine_eq], fun l20 hl20 => ?_⟩⟩
        have u20 := same_upd (o := .lst []) hl20
        have el20 := upd_same (H := H19) (a := l20) (o := .lst [])
        have D20 := (D18.same s19).same u20
        have er20 := u20 _ _ er19
        have em20 := u20 _ _ (s19 _ _ em18)
        generalize upd H19 l20 (.lst []) = H20 at u20 el20 D20 er20 em20 ⊢
        apply cut_at (I := fun (mo : Addr) (H' : Hp) => ∃ (l : Addr) (W' : WS) (cs : List LCell) (ps : List Addr) (ml : List Nat), Duo C Hb H' ps0 p q l a ql ws W' cs ps ∧ S03 (j + 1) (13 + j) b ws W' cs ∧ W'.tick = W.tick ∧ H' mo = some (.lst (ml.map fun x => V.int (x : Nat))) ∧ ml.length ≤ 3 ∧ ∀ x ∈ ml, 1 ≤ x ∧ x < 2 ^ 200)
        · intro next
          refine ⟨.list (nums.map fun x => PyData.int (x : Nat)), .list [], .lst (SqL.of er20) (dp_nats _), .lst (SqL.of el20) .nil, nats_shaped _, rfl, ?_⟩
          cases ens : nums with
          | nil =>
            refine ⟨false, rfl, iteF ?_⟩
            obtain ⟨mo1, emo1⟩ : ∃ x, x = mo0 := ⟨_, rfl⟩
            obtain ⟨H20', eH20⟩ : ∃ x, x = H20 := ⟨_, rfl⟩
            rw [← eH20, ← emo1]
            rw [← eH20] at D20
            rw [← eH20, ← emo1] at em20
            exact next mo1 H20' ⟨l3, W3, cs3, ps3, [], D20, S17.mono (by omega) (by omega), ht17, em20, Nat.zero_le _, fun x hx => by cases hx⟩
          | cons n0 ns0 =>
            refine ⟨true, rfl, iteT ?_⟩
            have hlv : W3.live ≠ [] := fun z => by
              have y := hperm.length_eq
              rw [ens, z] at y
              cases y
            refine ⟨_, rfl, _, rfl, _, rfl, _, rfl, _, rfl, _, rfl, Hb, ps0, p, q, l3, a, ql, ws, W3, cs3, ps3, j, 12 + j, by rw [hb17, ht17]; rfl, D20, by rw [hb17]; exact S17, by omega, by omega, by rw [ht17]; exact ht195, hlv, fun H21 l4 W4 cs4 ps4 r21 ml D21 S21 ht21 er21 hml hmx => ?_⟩
            exact next r21 H21 ⟨l4, W4, cs4, ps4, ml, D21, by rw [hb17] at S21; exact S21.mono (by omega) (by omega), ht21.trans ht17, er21, by omega, hmx⟩
        · rintro mo H21 ⟨l4, W4, cs4, ps4, ml, D21, S21, ht21, em21, hml, hmx⟩
          have hb21 := S21.base
          refine ⟨_, rfl, _, rfl, _, rfl, _, rfl, _, rfl, _, rfl, _, rfl, _, rfl, sh, mo, shl.map fun x => V.int (x : Nat), ml.map fun x => V.int (x : Nat), rfl, rfl, D21.base _ _ hsh, em21, ?_, fun N hN => ?_⟩
          · rw [List.length_map, List.length_map]
            exact sizeLine_le (by omega)
          have uN := same_upd (o := .lst ((shl.map fun x => V.int (x : Nat)) ++ ml.map fun x => V.int (x : Nat))) hN
          have eN : (upd H21 N (.lst ((shl.map fun x => V.int (x : Nat)) ++ ml.map fun x => V.int (x : Nat)))) N = some (.lst ((shl ++ ml).map fun x => V.int (x : Nat))) := by
            rw [upd_same, List.map_append]
          have D22 := D21.same uN
          generalize upd H21 N (.lst ((shl.map fun x => V.int (x : Nat)) ++ ml.map fun x => V.int (x : Nat))) = H22 at D22 eN ⊢
          refine ⟨Hb, ps0, p, q, l4, a, ql, N, ws, W4, cs4, ps4, j + 1, 13 + j, shl ++ ml, by rw [hb21, ht21]; rfl, D22, by rw [hb21]; exact S21, by omega, by omega, eN, D21.src.ne hN, ?_, fun x hx => ?_, fun H23 st23 => ⟨true, rfl, iteF ?_⟩⟩
          · rw [List.length_append]
            omega
          · rcases List.mem_append.mp hx with h | h
            · exact hsh200 x h
            · exact hmx x h
          · exact ⟨l4, W4, cs4, ps4, _, _, rfl, D22.draw st23, S21.mono (Nat.le_refl _) (by omega), ht21⟩
      · rintro σ H17 ⟨l3, W3, cs3, ps3, z12, z13, rfl, D17, S17, ht17⟩
        exact ⟨fun c o e => D17.base _ _ (sHb _ _ e), _, _, _, _, _, _, _, _, _, _, _, _, _, rfl⟩
    · rintro σ H7 ⟨bz, _⟩
      exact fin H7
end
theorem all_mk {l : PySem.W.OpenLaw} {w : World} {K : PySem.W.Frag} {h : Heap} {mg : Str → Option Value} {fa : Addr} (X : K.In h) (G : h.Ns mainGlobals mg) (hfa : mg "law" = some (.ref fa))
    {f_WORDS : Addr} {od_WORDS : Option Addr} {tk0_WORDS tk1_WORDS : Tok} {tn_WORDS : Nat} {ts_WORDS : Array (Option Value)}
    {tk_MOST_LEVELS : Tok}
    {tk_MOST_FIRINGS : Tok}
    {f_wall f_is_integer f_is_word f_is_base f_is_length f_are_levels f_is_tick f_is_period f_check_base f_check_levels f_check_tick f_word_at f_level_and_size f_path f_goes_in_front f_with_timer f_firing_order f_without_repeats f_check_period f_order_of_firing f_standing f_least_due f_after_firing f_is_row f_is_snapshot f_restored f_law_cell_at f_law_mixed f_law_source f_law_next f_law_base f_law_levels f_law_tick f_law_level f_law_digit f_law_zeros f_law_place f_law_pass f_law_shown f_law_dropped f_law_next_event f_law_run f_law_copy f_law_built f_law_looks_right f_law_changed f_law : Addr}
    {od_wall an_wall od_is_integer an_is_integer od_is_word an_is_word od_is_base an_is_base od_is_length an_is_length od_are_levels an_are_levels od_is_tick an_is_tick od_is_period an_is_period od_check_base an_check_base od_check_levels an_check_levels od_check_tick an_check_tick od_word_at an_word_at od_level_and_size an_level_and_size od_path an_path od_goes_in_front an_goes_in_front od_with_timer an_with_timer od_firing_order an_firing_order od_without_repeats an_without_repeats od_check_period an_check_period od_order_of_firing an_order_of_firing od_standing an_standing od_least_due an_least_due od_after_firing an_after_firing od_is_row an_is_row od_is_snapshot an_is_snapshot od_restored an_restored od_law_cell_at an_law_cell_at od_law_mixed an_law_mixed od_law_source an_law_source od_law_next an_law_next od_law_base an_law_base od_law_levels an_law_levels od_law_tick an_law_tick od_law_level an_law_level od_law_digit an_law_digit od_law_zeros an_law_zeros od_law_place an_law_place od_law_pass an_law_pass od_law_shown an_law_shown od_law_dropped an_law_dropped od_law_next_event an_law_next_event od_law_run an_law_run od_law_copy an_law_copy od_law_built an_law_built od_law_looks_right an_law_looks_right od_law_changed an_law_changed od_law an_law : Option Addr}
    {sl_wall sl_is_integer sl_is_word sl_is_base sl_is_length sl_are_levels sl_is_tick sl_is_period sl_check_base sl_check_levels sl_check_tick sl_word_at sl_level_and_size sl_path sl_goes_in_front sl_with_timer sl_firing_order sl_without_repeats sl_check_period sl_order_of_firing sl_standing sl_least_due sl_after_firing sl_is_row sl_is_snapshot sl_restored sl_law_cell_at sl_law_mixed sl_law_source sl_law_next sl_law_base sl_law_levels sl_law_tick sl_law_level sl_law_digit sl_law_zeros sl_law_place sl_law_pass sl_law_shown sl_law_dropped sl_law_next_event sl_law_run sl_law_copy sl_law_built sl_law_looks_right sl_law_changed sl_law : Array (Option Value)}
    {oc_wall kV_wall dc_wall pm_wall cd_wall ct_wall oc_is_integer kV_is_integer dc_is_integer pm_is_integer cd_is_integer ct_is_integer oc_is_word kV_is_word dc_is_word pm_is_word cd_is_word ct_is_word oc_is_base kV_is_base dc_is_base pm_is_base cd_is_base ct_is_base oc_is_length kV_is_length dc_is_length pm_is_length cd_is_length ct_is_length oc_are_levels kV_are_levels dc_are_levels pm_are_levels cd_are_levels ct_are_levels oc_is_tick kV_is_tick dc_is_tick pm_is_tick cd_is_tick ct_is_tick oc_is_period kV_is_period dc_is_period pm_is_period cd_is_period ct_is_period oc_check_base kV_check_base dc_check_base pm_check_base cd_check_base ct_check_base oc_check_levels kV_check_levels dc_check_levels pm_check_levels cd_check_levels ct_check_levels oc_check_tick kV_check_tick dc_check_tick pm_check_tick cd_check_tick ct_check_tick oc_word_at kV_word_at dc_word_at pm_word_at cd_word_at ct_word_at oc_level_and_size kV_level_and_size dc_level_and_size pm_level_and_size cd_level_and_size ct_level_and_size oc_path kV_path dc_path pm_path cd_path ct_path oc_goes_in_front kV_goes_in_front dc_goes_in_front pm_goes_in_front cd_goes_in_front ct_goes_in_front oc_with_timer kV_with_timer dc_with_timer pm_with_timer cd_with_timer ct_with_timer oc_firing_order kV_firing_order dc_firing_order pm_firing_order cd_firing_order ct_firing_order oc_without_repeats kV_without_repeats dc_without_repeats pm_without_repeats cd_without_repeats ct_without_repeats oc_check_period kV_check_period dc_check_period pm_check_period cd_check_period ct_check_period oc_order_of_firing kV_order_of_firing dc_order_of_firing pm_order_of_firing cd_order_of_firing ct_order_of_firing oc_standing kV_standing dc_standing pm_standing cd_standing ct_standing oc_least_due kV_least_due dc_least_due pm_least_due cd_least_due ct_least_due oc_after_firing kV_after_firing dc_after_firing pm_after_firing cd_after_firing ct_after_firing oc_is_row kV_is_row dc_is_row pm_is_row cd_is_row ct_is_row oc_is_snapshot kV_is_snapshot dc_is_snapshot pm_is_snapshot cd_is_snapshot ct_is_snapshot oc_restored kV_restored dc_restored pm_restored cd_restored ct_restored oc_law_cell_at kV_law_cell_at dc_law_cell_at pm_law_cell_at cd_law_cell_at ct_law_cell_at oc_law_mixed kV_law_mixed dc_law_mixed pm_law_mixed cd_law_mixed ct_law_mixed oc_law_source kV_law_source dc_law_source pm_law_source cd_law_source ct_law_source oc_law_next kV_law_next dc_law_next pm_law_next cd_law_next ct_law_next oc_law_base kV_law_base dc_law_base pm_law_base cd_law_base ct_law_base oc_law_levels kV_law_levels dc_law_levels pm_law_levels cd_law_levels ct_law_levels oc_law_tick kV_law_tick dc_law_tick pm_law_tick cd_law_tick ct_law_tick oc_law_level kV_law_level dc_law_level pm_law_level cd_law_level ct_law_level oc_law_digit kV_law_digit dc_law_digit pm_law_digit cd_law_digit ct_law_digit oc_law_zeros kV_law_zeros dc_law_zeros pm_law_zeros cd_law_zeros ct_law_zeros oc_law_place kV_law_place dc_law_place pm_law_place cd_law_place ct_law_place oc_law_pass kV_law_pass dc_law_pass pm_law_pass cd_law_pass ct_law_pass oc_law_shown kV_law_shown dc_law_shown pm_law_shown cd_law_shown ct_law_shown oc_law_dropped kV_law_dropped dc_law_dropped pm_law_dropped cd_law_dropped ct_law_dropped oc_law_next_event kV_law_next_event dc_law_next_event pm_law_next_event cd_law_next_event ct_law_next_event oc_law_run kV_law_run dc_law_run pm_law_run cd_law_run ct_law_run oc_law_copy kV_law_copy dc_law_copy pm_law_copy cd_law_copy ct_law_copy oc_law_built kV_law_built dc_law_built pm_law_built cd_law_built ct_law_built oc_law_looks_right kV_law_looks_right dc_law_looks_right pm_law_looks_right cd_law_looks_right ct_law_looks_right oc_law_changed kV_law_changed dc_law_changed pm_law_changed cd_law_changed ct_law_changed oc_law kV_law dc_law pm_law cd_law ct_law : Value}
    {C_ : Addr}
    {f_m_init f_m_check_timer f_m_now f_m_put f_m_cancel f_m_reset f_m_timers f_m_advance f_m_lists f_m_lists_at f_m_firing f_m_restoring f_m_snapshot : Addr}
    {od_m_init an_m_init od_m_check_timer an_m_check_timer od_m_now an_m_now od_m_put an_m_put od_m_cancel an_m_cancel od_m_reset an_m_reset od_m_timers an_m_timers od_m_advance an_m_advance od_m_lists an_m_lists od_m_lists_at an_m_lists_at od_m_firing an_m_firing od_m_restoring an_m_restoring od_m_snapshot an_m_snapshot : Option Addr}
    {sl_m_init sl_m_check_timer sl_m_now sl_m_put sl_m_cancel sl_m_reset sl_m_timers sl_m_advance sl_m_lists sl_m_lists_at sl_m_firing sl_m_restoring sl_m_snapshot : Array (Option Value)}
    {oc_m_init dc_m_init pm_m_init cd_m_init ct_m_init oc_m_check_timer dc_m_check_timer pm_m_check_timer cd_m_check_timer ct_m_check_timer kV_m_check_timer oc_m_now dc_m_now pm_m_now cd_m_now ct_m_now kV_m_now oc_m_put dc_m_put pm_m_put cd_m_put ct_m_put oc_m_cancel dc_m_cancel pm_m_cancel cd_m_cancel ct_m_cancel kV_m_cancel oc_m_reset dc_m_reset pm_m_reset cd_m_reset ct_m_reset kV_m_reset oc_m_timers dc_m_timers pm_m_timers cd_m_timers ct_m_timers kV_m_timers oc_m_advance dc_m_advance pm_m_advance cd_m_advance ct_m_advance kV_m_advance oc_m_lists dc_m_lists pm_m_lists cd_m_lists ct_m_lists kV_m_lists oc_m_lists_at dc_m_lists_at pm_m_lists_at cd_m_lists_at ct_m_lists_at kV_m_lists_at oc_m_firing dc_m_firing pm_m_firing cd_m_firing ct_m_firing kV_m_firing oc_m_restoring dc_m_restoring pm_m_restoring cd_m_restoring ct_m_restoring kV_m_restoring oc_m_snapshot dc_m_snapshot pm_m_snapshot cd_m_snapshot ct_m_snapshot kV_m_snapshot : Value}
    {kD_m_init : Addr} {kt_m_init : Tok}
    {kD_m_put : Addr}
    {dT_is_tick : Addr} {tc_is_tick : Value} {td_is_tick : Option Addr} {tt_is_tick : Tok} {tn_is_tick : Nat} {ts_is_tick : Array (Option Value)}
    {dT_check_tick : Addr} {tc_check_tick : Value} {td_check_tick : Option Addr} {tt_check_tick : Tok} {tn_check_tick : Nat} {ts_check_tick : Array (Option Value)}
    (a_wall : PySem.W.nsIn K mainGlobals "_wall" = some (some (.ref f_wall)))
    (l_wall : K.lookup f_wall = some ⟨oc_wall, od_wall, .func (PySem.W.fnOf "_wall" "_wall" (defArgs s__wall) (defBody s__wall) (defScope s__wall) .none kV_wall dc_wall pm_wall an_wall cd_wall ct_wall), sl_wall⟩)
    (c_wall : PySem.W.codeIn K cd_wall "_wall" = true) (k_wall : PySem.W.keepIn K (.ref f_wall) = true)
    (a_is_integer : PySem.W.nsIn K mainGlobals "is_integer" = some (some (.ref f_is_integer)))
    (l_is_integer : K.lookup f_is_integer = some ⟨oc_is_integer, od_is_integer, .func (PySem.W.fnOf "is_integer" "is_integer" (defArgs s_is_integer) (defBody s_is_integer) (defScope s_is_integer) .none kV_is_integer dc_is_integer pm_is_integer an_is_integer cd_is_integer ct_is_integer), sl_is_integer⟩)
    (c_is_integer : PySem.W.codeIn K cd_is_integer "is_integer" = true) (k_is_integer : PySem.W.keepIn K (.ref f_is_integer) = true)
    (a_is_word : PySem.W.nsIn K mainGlobals "is_word" = some (some (.ref f_is_word)))
    (l_is_word : K.lookup f_is_word = some ⟨oc_is_word, od_is_word, .func (PySem.W.fnOf "is_word" "is_word" (defArgs s_is_word) (defBody s_is_word) (defScope s_is_word) .none kV_is_word dc_is_word pm_is_word an_is_word cd_is_word ct_is_word), sl_is_word⟩)
    (c_is_word : PySem.W.codeIn K cd_is_word "is_word" = true) (k_is_word : PySem.W.keepIn K (.ref f_is_word) = true)
    (a_is_base : PySem.W.nsIn K mainGlobals "is_base" = some (some (.ref f_is_base)))
    (l_is_base : K.lookup f_is_base = some ⟨oc_is_base, od_is_base, .func (PySem.W.fnOf "is_base" "is_base" (defArgs s_is_base) (defBody s_is_base) (defScope s_is_base) .none kV_is_base dc_is_base pm_is_base an_is_base cd_is_base ct_is_base), sl_is_base⟩)
    (c_is_base : PySem.W.codeIn K cd_is_base "is_base" = true) (k_is_base : PySem.W.keepIn K (.ref f_is_base) = true)
    (a_is_length : PySem.W.nsIn K mainGlobals "is_length" = some (some (.ref f_is_length)))
    (l_is_length : K.lookup f_is_length = some ⟨oc_is_length, od_is_length, .func (PySem.W.fnOf "is_length" "is_length" (defArgs s_is_length) (defBody s_is_length) (defScope s_is_length) .none kV_is_length dc_is_length pm_is_length an_is_length cd_is_length ct_is_length), sl_is_length⟩)
    (c_is_length : PySem.W.codeIn K cd_is_length "is_length" = true) (k_is_length : PySem.W.keepIn K (.ref f_is_length) = true)
    (a_are_levels : PySem.W.nsIn K mainGlobals "are_levels" = some (some (.ref f_are_levels)))
    (l_are_levels : K.lookup f_are_levels = some ⟨oc_are_levels, od_are_levels, .func (PySem.W.fnOf "are_levels" "are_levels" (defArgs s_are_levels) (defBody s_are_levels) (defScope s_are_levels) .none kV_are_levels dc_are_levels pm_are_levels an_are_levels cd_are_levels ct_are_levels), sl_are_levels⟩)
    (c_are_levels : PySem.W.codeIn K cd_are_levels "are_levels" = true) (k_are_levels : PySem.W.keepIn K (.ref f_are_levels) = true)
    (a_is_tick : PySem.W.nsIn K mainGlobals "is_tick" = some (some (.ref f_is_tick)))
    (l_is_tick : K.lookup f_is_tick = some ⟨oc_is_tick, od_is_tick, .func (PySem.W.fnOf "is_tick" "is_tick" (defArgs s_is_tick) (defBody s_is_tick) (defScope s_is_tick) (.ref dT_is_tick) kV_is_tick dc_is_tick pm_is_tick an_is_tick cd_is_tick ct_is_tick), sl_is_tick⟩)
    (t_is_tick : K.lookup dT_is_tick = some ⟨tc_is_tick, td_is_tick, .seq #[.int 0 tt_is_tick] tn_is_tick, ts_is_tick⟩)
    (c_is_tick : PySem.W.codeIn K cd_is_tick "is_tick" = true) (k_is_tick : PySem.W.keepIn K (.ref f_is_tick) = true)
    (a_is_period : PySem.W.nsIn K mainGlobals "is_period" = some (some (.ref f_is_period)))
    (l_is_period : K.lookup f_is_period = some ⟨oc_is_period, od_is_period, .func (PySem.W.fnOf "is_period" "is_period" (defArgs s_is_period) (defBody s_is_period) (defScope s_is_period) .none kV_is_period dc_is_period pm_is_period an_is_period cd_is_period ct_is_period), sl_is_period⟩)
    (c_is_period : PySem.W.codeIn K cd_is_period "is_period" = true) (k_is_period : PySem.W.keepIn K (.ref f_is_period) = true)
    (a_check_base : PySem.W.nsIn K mainGlobals "check_base" = some (some (.ref f_check_base)))
    (l_check_base : K.lookup f_check_base = some ⟨oc_check_base, od_check_base, .func (PySem.W.fnOf "check_base" "check_base" (defArgs s_check_base) (defBody s_check_base) (defScope s_check_base) .none kV_check_base dc_check_base pm_check_base an_check_base cd_check_base ct_check_base), sl_check_base⟩)
    (c_check_base : PySem.W.codeIn K cd_check_base "check_base" = true) (k_check_base : PySem.W.keepIn K (.ref f_check_base) = true)
    (a_check_levels : PySem.W.nsIn K mainGlobals "check_levels" = some (some (.ref f_check_levels)))
    (l_check_levels : K.lookup f_check_levels = some ⟨oc_check_levels, od_check_levels, .func (PySem.W.fnOf "check_levels" "check_levels" (defArgs s_check_levels) (defBody s_check_levels) (defScope s_check_levels) .none kV_check_levels dc_check_levels pm_check_levels an_check_levels cd_check_levels ct_check_levels), sl_check_levels⟩)
    (c_check_levels : PySem.W.codeIn K cd_check_levels "check_levels" = true) (k_check_levels : PySem.W.keepIn K (.ref f_check_levels) = true)
    (a_check_tick : PySem.W.nsIn K mainGlobals "check_tick" = some (some (.ref f_check_tick)))
    (l_check_tick : K.lookup f_check_tick = some ⟨oc_check_tick, od_check_tick, .func (PySem.W.fnOf "check_tick" "check_tick" (defArgs s_check_tick) (defBody s_check_tick) (defScope s_check_tick) (.ref dT_check_tick) kV_check_tick dc_check_tick pm_check_tick an_check_tick cd_check_tick ct_check_tick), sl_check_tick⟩)
    (t_check_tick : K.lookup dT_check_tick = some ⟨tc_check_tick, td_check_tick, .seq #[.int 0 tt_check_tick] tn_check_tick, ts_check_tick⟩)
    (c_check_tick : PySem.W.codeIn K cd_check_tick "check_tick" = true) (k_check_tick : PySem.W.keepIn K (.ref f_check_tick) = true)
    (a_word_at : PySem.W.nsIn K mainGlobals "word_at" = some (some (.ref f_word_at)))
    (l_word_at : K.lookup f_word_at = some ⟨oc_word_at, od_word_at, .func (PySem.W.fnOf "word_at" "word_at" (defArgs s_word_at) (defBody s_word_at) (defScope s_word_at) .none kV_word_at dc_word_at pm_word_at an_word_at cd_word_at ct_word_at), sl_word_at⟩)
    (c_word_at : PySem.W.codeIn K cd_word_at "word_at" = true) (k_word_at : PySem.W.keepIn K (.ref f_word_at) = true)
    (a_level_and_size : PySem.W.nsIn K mainGlobals "level_and_size" = some (some (.ref f_level_and_size)))
    (l_level_and_size : K.lookup f_level_and_size = some ⟨oc_level_and_size, od_level_and_size, .func (PySem.W.fnOf "level_and_size" "level_and_size" (defArgs s_level_and_size) (defBody s_level_and_size) (defScope s_level_and_size) .none kV_level_and_size dc_level_and_size pm_level_and_size an_level_and_size cd_level_and_size ct_level_and_size), sl_level_and_size⟩)
    (c_level_and_size : PySem.W.codeIn K cd_level_and_size "level_and_size" = true) (k_level_and_size : PySem.W.keepIn K (.ref f_level_and_size) = true)
    (a_path : PySem.W.nsIn K mainGlobals "path" = some (some (.ref f_path)))
    (l_path : K.lookup f_path = some ⟨oc_path, od_path, .func (PySem.W.fnOf "path" "path" (defArgs s_path) (defBody s_path) (defScope s_path) .none kV_path dc_path pm_path an_path cd_path ct_path), sl_path⟩)
    (c_path : PySem.W.codeIn K cd_path "path" = true) (k_path : PySem.W.keepIn K (.ref f_path) = true)
    (a_goes_in_front : PySem.W.nsIn K mainGlobals "goes_in_front" = some (some (.ref f_goes_in_front)))
    (l_goes_in_front : K.lookup f_goes_in_front = some ⟨oc_goes_in_front, od_goes_in_front, .func (PySem.W.fnOf "goes_in_front" "goes_in_front" (defArgs s_goes_in_front) (defBody s_goes_in_front) (defScope s_goes_in_front) .none kV_goes_in_front dc_goes_in_front pm_goes_in_front an_goes_in_front cd_goes_in_front ct_goes_in_front), sl_goes_in_front⟩)
    (c_goes_in_front : PySem.W.codeIn K cd_goes_in_front "goes_in_front" = true) (k_goes_in_front : PySem.W.keepIn K (.ref f_goes_in_front) = true)
    (a_with_timer : PySem.W.nsIn K mainGlobals "with_timer" = some (some (.ref f_with_timer)))
    (l_with_timer : K.lookup f_with_timer = some ⟨oc_with_timer, od_with_timer, .func (PySem.W.fnOf "with_timer" "with_timer" (defArgs s_with_timer) (defBody s_with_timer) (defScope s_with_timer) .none kV_with_timer dc_with_timer pm_with_timer an_with_timer cd_with_timer ct_with_timer), sl_with_timer⟩)
    (c_with_timer : PySem.W.codeIn K cd_with_timer "with_timer" = true) (k_with_timer : PySem.W.keepIn K (.ref f_with_timer) = true)
    (a_firing_order : PySem.W.nsIn K mainGlobals "firing_order" = some (some (.ref f_firing_order)))
    (l_firing_order : K.lookup f_firing_order = some ⟨oc_firing_order, od_firing_order, .func (PySem.W.fnOf "firing_order" "firing_order" (defArgs s_firing_order) (defBody s_firing_order) (defScope s_firing_order) .none kV_firing_order dc_firing_order pm_firing_order an_firing_order cd_firing_order ct_firing_order), sl_firing_order⟩)
    (c_firing_order : PySem.W.codeIn K cd_firing_order "firing_order" = true) (k_firing_order : PySem.W.keepIn K (.ref f_firing_order) = true)
    (a_without_repeats : PySem.W.nsIn K mainGlobals "without_repeats" = some (some (.ref f_without_repeats)))
    (l_without_repeats : K.lookup f_without_repeats = some ⟨oc_without_repeats, od_without_repeats, .func (PySem.W.fnOf "without_repeats" "without_repeats" (defArgs s_without_repeats) (defBody s_without_repeats) (defScope s_without_repeats) .none kV_without_repeats dc_without_repeats pm_without_repeats an_without_repeats cd_without_repeats ct_without_repeats), sl_without_repeats⟩)
    (c_without_repeats : PySem.W.codeIn K cd_without_repeats "without_repeats" = true) (k_without_repeats : PySem.W.keepIn K (.ref f_without_repeats) = true)
    (a_check_period : PySem.W.nsIn K mainGlobals "check_period" = some (some (.ref f_check_period)))
    (l_check_period : K.lookup f_check_period = some ⟨oc_check_period, od_check_period, .func (PySem.W.fnOf "check_period" "check_period" (defArgs s_check_period) (defBody s_check_period) (defScope s_check_period) .none kV_check_period dc_check_period pm_check_period an_check_period cd_check_period ct_check_period), sl_check_period⟩)
    (c_check_period : PySem.W.codeIn K cd_check_period "check_period" = true) (k_check_period : PySem.W.keepIn K (.ref f_check_period) = true)
    (a_order_of_firing : PySem.W.nsIn K mainGlobals "order_of_firing" = some (some (.ref f_order_of_firing)))
    (l_order_of_firing : K.lookup f_order_of_firing = some ⟨oc_order_of_firing, od_order_of_firing, .func (PySem.W.fnOf "order_of_firing" "order_of_firing" (defArgs s_order_of_firing) (defBody s_order_of_firing) (defScope s_order_of_firing) .none kV_order_of_firing dc_order_of_firing pm_order_of_firing an_order_of_firing cd_order_of_firing ct_order_of_firing), sl_order_of_firing⟩)
    (c_order_of_firing : PySem.W.codeIn K cd_order_of_firing "order_of_firing" = true) (k_order_of_firing : PySem.W.keepIn K (.ref f_order_of_firing) = true)
    (a_standing : PySem.W.nsIn K mainGlobals "standing" = some (some (.ref f_standing)))
    (l_standing : K.lookup f_standing = some ⟨oc_standing, od_standing, .func (PySem.W.fnOf "standing" "standing" (defArgs s_standing) (defBody s_standing) (defScope s_standing) .none kV_standing dc_standing pm_standing an_standing cd_standing ct_standing), sl_standing⟩)
    (c_standing : PySem.W.codeIn K cd_standing "standing" = true) (k_standing : PySem.W.keepIn K (.ref f_standing) = true)
    (a_least_due : PySem.W.nsIn K mainGlobals "least_due" = some (some (.ref f_least_due)))
    (l_least_due : K.lookup f_least_due = some ⟨oc_least_due, od_least_due, .func (PySem.W.fnOf "least_due" "least_due" (defArgs s_least_due) (defBody s_least_due) (defScope s_least_due) .none kV_least_due dc_least_due pm_least_due an_least_due cd_least_due ct_least_due), sl_least_due⟩)
    (c_least_due : PySem.W.codeIn K cd_least_due "least_due" = true) (k_least_due : PySem.W.keepIn K (.ref f_least_due) = true)
    (a_after_firing : PySem.W.nsIn K mainGlobals "after_firing" = some (some (.ref f_after_firing)))
    (l_after_firing : K.lookup f_after_firing = some ⟨oc_after_firing, od_after_firing, .func (PySem.W.fnOf "after_firing" "after_firing" (defArgs s_after_firing) (defBody s_after_firing) (defScope s_after_firing) .none kV_after_firing dc_after_firing pm_after_firing an_after_firing cd_after_firing ct_after_firing), sl_after_firing⟩)
    (c_after_firing : PySem.W.codeIn K cd_after_firing "after_firing" = true) (k_after_firing : PySem.W.keepIn K (.ref f_after_firing) = true)
    (a_is_row : PySem.W.nsIn K mainGlobals "is_row" = some (some (.ref f_is_row)))
    (l_is_row : K.lookup f_is_row = some ⟨oc_is_row, od_is_row, .func (PySem.W.fnOf "is_row" "is_row" (defArgs s_is_row) (defBody s_is_row) (defScope s_is_row) .none kV_is_row dc_is_row pm_is_row an_is_row cd_is_row ct_is_row), sl_is_row⟩)
    (c_is_row : PySem.W.codeIn K cd_is_row "is_row" = true) (k_is_row : PySem.W.keepIn K (.ref f_is_row) = true)
    (a_is_snapshot : PySem.W.nsIn K mainGlobals "is_snapshot" = some (some (.ref f_is_snapshot)))
    (l_is_snapshot : K.lookup f_is_snapshot = some ⟨oc_is_snapshot, od_is_snapshot, .func (PySem.W.fnOf "is_snapshot" "is_snapshot" (defArgs s_is_snapshot) (defBody s_is_snapshot) (defScope s_is_snapshot) .none kV_is_snapshot dc_is_snapshot pm_is_snapshot an_is_snapshot cd_is_snapshot ct_is_snapshot), sl_is_snapshot⟩)
    (c_is_snapshot : PySem.W.codeIn K cd_is_snapshot "is_snapshot" = true) (k_is_snapshot : PySem.W.keepIn K (.ref f_is_snapshot) = true)
    (a_restored : PySem.W.nsIn K mainGlobals "restored" = some (some (.ref f_restored)))
    (l_restored : K.lookup f_restored = some ⟨oc_restored, od_restored, .func (PySem.W.fnOf "restored" "restored" (defArgs s_restored) (defBody s_restored) (defScope s_restored) .none kV_restored dc_restored pm_restored an_restored cd_restored ct_restored), sl_restored⟩)
    (c_restored : PySem.W.codeIn K cd_restored "restored" = true) (k_restored : PySem.W.keepIn K (.ref f_restored) = true)
    (a_law_cell_at : PySem.W.nsIn K mainGlobals "_law_cell_at" = some (some (.ref f_law_cell_at)))
    (l_law_cell_at : K.lookup f_law_cell_at = some ⟨oc_law_cell_at, od_law_cell_at, .func (PySem.W.fnOf "_law_cell_at" "_law_cell_at" (defArgs s__law_cell_at) (defBody s__law_cell_at) (defScope s__law_cell_at) .none kV_law_cell_at dc_law_cell_at pm_law_cell_at an_law_cell_at cd_law_cell_at ct_law_cell_at), sl_law_cell_at⟩)
    (c_law_cell_at : PySem.W.codeIn K cd_law_cell_at "_law_cell_at" = true) (k_law_cell_at : PySem.W.keepIn K (.ref f_law_cell_at) = true)
    (a_law_mixed : PySem.W.nsIn K mainGlobals "_law_mixed" = some (some (.ref f_law_mixed)))
    (l_law_mixed : K.lookup f_law_mixed = some ⟨oc_law_mixed, od_law_mixed, .func (PySem.W.fnOf "_law_mixed" "_law_mixed" (defArgs s__law_mixed) (defBody s__law_mixed) (defScope s__law_mixed) .none kV_law_mixed dc_law_mixed pm_law_mixed an_law_mixed cd_law_mixed ct_law_mixed), sl_law_mixed⟩)
    (c_law_mixed : PySem.W.codeIn K cd_law_mixed "_law_mixed" = true) (k_law_mixed : PySem.W.keepIn K (.ref f_law_mixed) = true)
    (a_law_source : PySem.W.nsIn K mainGlobals "_law_source" = some (some (.ref f_law_source)))
    (l_law_source : K.lookup f_law_source = some ⟨oc_law_source, od_law_source, .func (PySem.W.fnOf "_law_source" "_law_source" (defArgs s__law_source) (defBody s__law_source) (defScope s__law_source) .none kV_law_source dc_law_source pm_law_source an_law_source cd_law_source ct_law_source), sl_law_source⟩)
    (c_law_source : PySem.W.codeIn K cd_law_source "_law_source" = true) (k_law_source : PySem.W.keepIn K (.ref f_law_source) = true)
    (a_law_next : PySem.W.nsIn K mainGlobals "_law_next" = some (some (.ref f_law_next)))
    (l_law_next : K.lookup f_law_next = some ⟨oc_law_next, od_law_next, .func (PySem.W.fnOf "_law_next" "_law_next" (defArgs s__law_next) (defBody s__law_next) (defScope s__law_next) .none kV_law_next dc_law_next pm_law_next an_law_next cd_law_next ct_law_next), sl_law_next⟩)
    (c_law_next : PySem.W.codeIn K cd_law_next "_law_next" = true) (k_law_next : PySem.W.keepIn K (.ref f_law_next) = true)
    (a_law_base : PySem.W.nsIn K mainGlobals "_law_base" = some (some (.ref f_law_base)))
    (l_law_base : K.lookup f_law_base = some ⟨oc_law_base, od_law_base, .func (PySem.W.fnOf "_law_base" "_law_base" (defArgs s__law_base) (defBody s__law_base) (defScope s__law_base) .none kV_law_base dc_law_base pm_law_base an_law_base cd_law_base ct_law_base), sl_law_base⟩)
    (c_law_base : PySem.W.codeIn K cd_law_base "_law_base" = true) (k_law_base : PySem.W.keepIn K (.ref f_law_base) = true)
    (a_law_levels : PySem.W.nsIn K mainGlobals "_law_levels" = some (some (.ref f_law_levels)))
    (l_law_levels : K.lookup f_law_levels = some ⟨oc_law_levels, od_law_levels, .func (PySem.W.fnOf "_law_levels" "_law_levels" (defArgs s__law_levels) (defBody s__law_levels) (defScope s__law_levels) .none kV_law_levels dc_law_levels pm_law_levels an_law_levels cd_law_levels ct_law_levels), sl_law_levels⟩)
    (c_law_levels : PySem.W.codeIn K cd_law_levels "_law_levels" = true) (k_law_levels : PySem.W.keepIn K (.ref f_law_levels) = true)
    (a_law_tick : PySem.W.nsIn K mainGlobals "_law_tick" = some (some (.ref f_law_tick)))
    (l_law_tick : K.lookup f_law_tick = some ⟨oc_law_tick, od_law_tick, .func (PySem.W.fnOf "_law_tick" "_law_tick" (defArgs s__law_tick) (defBody s__law_tick) (defScope s__law_tick) .none kV_law_tick dc_law_tick pm_law_tick an_law_tick cd_law_tick ct_law_tick), sl_law_tick⟩)
    (c_law_tick : PySem.W.codeIn K cd_law_tick "_law_tick" = true) (k_law_tick : PySem.W.keepIn K (.ref f_law_tick) = true)
    (a_law_level : PySem.W.nsIn K mainGlobals "_law_level" = some (some (.ref f_law_level)))
    (l_law_level : K.lookup f_law_level = some ⟨oc_law_level, od_law_level, .func (PySem.W.fnOf "_law_level" "_law_level" (defArgs s__law_level) (defBody s__law_level) (defScope s__law_level) .none kV_law_level dc_law_level pm_law_level an_law_level cd_law_level ct_law_level), sl_law_level⟩)
    (c_law_level : PySem.W.codeIn K cd_law_level "_law_level" = true) (k_law_level : PySem.W.keepIn K (.ref f_law_level) = true)
    (a_law_digit : PySem.W.nsIn K mainGlobals "_law_digit" = some (some (.ref f_law_digit)))
    (l_law_digit : K.lookup f_law_digit = some ⟨oc_law_digit, od_law_digit, .func (PySem.W.fnOf "_law_digit" "_law_digit" (defArgs s__law_digit) (defBody s__law_digit) (defScope s__law_digit) .none kV_law_digit dc_law_digit pm_law_digit an_law_digit cd_law_digit ct_law_digit), sl_law_digit⟩)
    (c_law_digit : PySem.W.codeIn K cd_law_digit "_law_digit" = true) (k_law_digit : PySem.W.keepIn K (.ref f_law_digit) = true)
    (a_law_zeros : PySem.W.nsIn K mainGlobals "_law_zeros" = some (some (.ref f_law_zeros)))
    (l_law_zeros : K.lookup f_law_zeros = some ⟨oc_law_zeros, od_law_zeros, .func (PySem.W.fnOf "_law_zeros" "_law_zeros" (defArgs s__law_zeros) (defBody s__law_zeros) (defScope s__law_zeros) .none kV_law_zeros dc_law_zeros pm_law_zeros an_law_zeros cd_law_zeros ct_law_zeros), sl_law_zeros⟩)
    (c_law_zeros : PySem.W.codeIn K cd_law_zeros "_law_zeros" = true) (k_law_zeros : PySem.W.keepIn K (.ref f_law_zeros) = true)
    (a_law_place : PySem.W.nsIn K mainGlobals "_law_place" = some (some (.ref f_law_place)))
    (l_law_place : K.lookup f_law_place = some ⟨oc_law_place, od_law_place, .func (PySem.W.fnOf "_law_place" "_law_place" (defArgs s__law_place) (defBody s__law_place) (defScope s__law_place) .none kV_law_place dc_law_place pm_law_place an_law_place cd_law_place ct_law_place), sl_law_place⟩)
    (c_law_place : PySem.W.codeIn K cd_law_place "_law_place" = true) (k_law_place : PySem.W.keepIn K (.ref f_law_place) = true)
    (a_law_pass : PySem.W.nsIn K mainGlobals "_law_pass" = some (some (.ref f_law_pass)))
    (l_law_pass : K.lookup f_law_pass = some ⟨oc_law_pass, od_law_pass, .func (PySem.W.fnOf "_law_pass" "_law_pass" (defArgs s__law_pass) (defBody s__law_pass) (defScope s__law_pass) .none kV_law_pass dc_law_pass pm_law_pass an_law_pass cd_law_pass ct_law_pass), sl_law_pass⟩)
    (c_law_pass : PySem.W.codeIn K cd_law_pass "_law_pass" = true) (k_law_pass : PySem.W.keepIn K (.ref f_law_pass) = true)
    (a_law_shown : PySem.W.nsIn K mainGlobals "_law_shown" = some (some (.ref f_law_shown)))
    (l_law_shown : K.lookup f_law_shown = some ⟨oc_law_shown, od_law_shown, .func (PySem.W.fnOf "_law_shown" "_law_shown" (defArgs s__law_shown) (defBody s__law_shown) (defScope s__law_shown) .none kV_law_shown dc_law_shown pm_law_shown an_law_shown cd_law_shown ct_law_shown), sl_law_shown⟩)
    (c_law_shown : PySem.W.codeIn K cd_law_shown "_law_shown" = true) (k_law_shown : PySem.W.keepIn K (.ref f_law_shown) = true)
    (a_law_dropped : PySem.W.nsIn K mainGlobals "_law_dropped" = some (some (.ref f_law_dropped)))
    (l_law_dropped : K.lookup f_law_dropped = some ⟨oc_law_dropped, od_law_dropped, .func (PySem.W.fnOf "_law_dropped" "_law_dropped" (defArgs s__law_dropped) (defBody s__law_dropped) (defScope s__law_dropped) .none kV_law_dropped dc_law_dropped pm_law_dropped an_law_dropped cd_law_dropped ct_law_dropped), sl_law_dropped⟩)
    (c_law_dropped : PySem.W.codeIn K cd_law_dropped "_law_dropped" = true) (k_law_dropped : PySem.W.keepIn K (.ref f_law_dropped) = true)
    (a_law_next_event : PySem.W.nsIn K mainGlobals "_law_next_event" = some (some (.ref f_law_next_event)))
    (l_law_next_event : K.lookup f_law_next_event = some ⟨oc_law_next_event, od_law_next_event, .func (PySem.W.fnOf "_law_next_event" "_law_next_event" (defArgs s__law_next_event) (defBody s__law_next_event) (defScope s__law_next_event) .none kV_law_next_event dc_law_next_event pm_law_next_event an_law_next_event cd_law_next_event ct_law_next_event), sl_law_next_event⟩)
    (c_law_next_event : PySem.W.codeIn K cd_law_next_event "_law_next_event" = true) (k_law_next_event : PySem.W.keepIn K (.ref f_law_next_event) = true)
    (a_law_run : PySem.W.nsIn K mainGlobals "_law_run" = some (some (.ref f_law_run)))
    (l_law_run : K.lookup f_law_run = some ⟨oc_law_run, od_law_run, .func (PySem.W.fnOf "_law_run" "_law_run" (defArgs s__law_run) (defBody s__law_run) (defScope s__law_run) .none kV_law_run dc_law_run pm_law_run an_law_run cd_law_run ct_law_run), sl_law_run⟩)
    (c_law_run : PySem.W.codeIn K cd_law_run "_law_run" = true) (k_law_run : PySem.W.keepIn K (.ref f_law_run) = true)
    (a_law_copy : PySem.W.nsIn K mainGlobals "_law_copy" = some (some (.ref f_law_copy)))
    (l_law_copy : K.lookup f_law_copy = some ⟨oc_law_copy, od_law_copy, .func (PySem.W.fnOf "_law_copy" "_law_copy" (defArgs s__law_copy) (defBody s__law_copy) (defScope s__law_copy) .none kV_law_copy dc_law_copy pm_law_copy an_law_copy cd_law_copy ct_law_copy), sl_law_copy⟩)
    (c_law_copy : PySem.W.codeIn K cd_law_copy "_law_copy" = true) (k_law_copy : PySem.W.keepIn K (.ref f_law_copy) = true)
    (a_law_built : PySem.W.nsIn K mainGlobals "_law_built" = some (some (.ref f_law_built)))
    (l_law_built : K.lookup f_law_built = some ⟨oc_law_built, od_law_built, .func (PySem.W.fnOf "_law_built" "_law_built" (defArgs s__law_built) (defBody s__law_built) (defScope s__law_built) .none kV_law_built dc_law_built pm_law_built an_law_built cd_law_built ct_law_built), sl_law_built⟩)
    (c_law_built : PySem.W.codeIn K cd_law_built "_law_built" = true) (k_law_built : PySem.W.keepIn K (.ref f_law_built) = true)
    (a_law_looks_right : PySem.W.nsIn K mainGlobals "_law_looks_right" = some (some (.ref f_law_looks_right)))
    (l_law_looks_right : K.lookup f_law_looks_right = some ⟨oc_law_looks_right, od_law_looks_right, .func (PySem.W.fnOf "_law_looks_right" "_law_looks_right" (defArgs s__law_looks_right) (defBody s__law_looks_right) (defScope s__law_looks_right) .none kV_law_looks_right dc_law_looks_right pm_law_looks_right an_law_looks_right cd_law_looks_right ct_law_looks_right), sl_law_looks_right⟩)
    (c_law_looks_right : PySem.W.codeIn K cd_law_looks_right "_law_looks_right" = true) (k_law_looks_right : PySem.W.keepIn K (.ref f_law_looks_right) = true)
    (a_law_changed : PySem.W.nsIn K mainGlobals "_law_changed" = some (some (.ref f_law_changed)))
    (l_law_changed : K.lookup f_law_changed = some ⟨oc_law_changed, od_law_changed, .func (PySem.W.fnOf "_law_changed" "_law_changed" (defArgs s__law_changed) (defBody s__law_changed) (defScope s__law_changed) .none kV_law_changed dc_law_changed pm_law_changed an_law_changed cd_law_changed ct_law_changed), sl_law_changed⟩)
    (c_law_changed : PySem.W.codeIn K cd_law_changed "_law_changed" = true) (k_law_changed : PySem.W.keepIn K (.ref f_law_changed) = true)
    (a_law : PySem.W.nsIn K mainGlobals "law" = some (some (.ref f_law)))
    (l_law : K.lookup f_law = some ⟨oc_law, od_law, .func (PySem.W.fnOf "law" "law" (defArgs s_law) (defBody s_law) (defScope s_law) .none kV_law dc_law pm_law an_law cd_law ct_law), sl_law⟩)
    (c_law : PySem.W.codeIn K cd_law "law" = true) (k_law : PySem.W.keepIn K (.ref f_law) = true)
    (a_Wheel : PySem.W.nsIn K mainGlobals "Wheel" = some (some (.ref C_)))
    (a_m_init : PySem.W.findIn K (.ref C_) "__init__" = some (some (.ref f_m_init))) (i_m_init : PySem.W.isFn K (.ref f_m_init) = true)
    (l_m_init : K.lookup f_m_init = some ⟨oc_m_init, od_m_init, .func (PySem.W.fnOf "__init__" "Wheel.__init__" (defArgs s_Wheel___init__) (defBody s_Wheel___init__) (defScope s_Wheel___init__) .none (.ref kD_m_init) dc_m_init pm_m_init an_m_init cd_m_init ct_m_init), sl_m_init⟩)
    (c_m_init : PySem.W.codeIn K cd_m_init "Wheel.__init__" = true) (k_m_init : PySem.W.keepIn K (.ref f_m_init) = true)
    (d_m_init : PySem.W.nsIn K kD_m_init "start" = some (some (.int 0 kt_m_init)))
    (a_m_check_timer : PySem.W.findIn K (.ref C_) "check_timer" = some (some (.ref f_m_check_timer))) (i_m_check_timer : PySem.W.isFn K (.ref f_m_check_timer) = true)
    (l_m_check_timer : K.lookup f_m_check_timer = some ⟨oc_m_check_timer, od_m_check_timer, .func (PySem.W.fnOf "check_timer" "Wheel.check_timer" (defArgs s_Wheel_check_timer) (defBody s_Wheel_check_timer) (defScope s_Wheel_check_timer) .none kV_m_check_timer dc_m_check_timer pm_m_check_timer an_m_check_timer cd_m_check_timer ct_m_check_timer), sl_m_check_timer⟩)
    (c_m_check_timer : PySem.W.codeIn K cd_m_check_timer "Wheel.check_timer" = true) (k_m_check_timer : PySem.W.keepIn K (.ref f_m_check_timer) = true)
    (a_m_now : PySem.W.findIn K (.ref C_) "now" = some (some (.ref f_m_now))) (i_m_now : PySem.W.isFn K (.ref f_m_now) = true)
    (l_m_now : K.lookup f_m_now = some ⟨oc_m_now, od_m_now, .func (PySem.W.fnOf "now" "Wheel.now" (defArgs s_Wheel_now) (defBody s_Wheel_now) (defScope s_Wheel_now) .none kV_m_now dc_m_now pm_m_now an_m_now cd_m_now ct_m_now), sl_m_now⟩)
    (c_m_now : PySem.W.codeIn K cd_m_now "Wheel.now" = true) (k_m_now : PySem.W.keepIn K (.ref f_m_now) = true)
    (a_m_put : PySem.W.findIn K (.ref C_) "put" = some (some (.ref f_m_put))) (i_m_put : PySem.W.isFn K (.ref f_m_put) = true)
    (l_m_put : K.lookup f_m_put = some ⟨oc_m_put, od_m_put, .func (PySem.W.fnOf "put" "Wheel.put" (defArgs s_Wheel_put) (defBody s_Wheel_put) (defScope s_Wheel_put) .none (.ref kD_m_put) dc_m_put pm_m_put an_m_put cd_m_put ct_m_put), sl_m_put⟩)
    (c_m_put : PySem.W.codeIn K cd_m_put "Wheel.put" = true) (k_m_put : PySem.W.keepIn K (.ref f_m_put) = true)
    (d_m_put : PySem.W.nsIn K kD_m_put "period" = some (some .none))
    (a_m_cancel : PySem.W.findIn K (.ref C_) "cancel" = some (some (.ref f_m_cancel))) (i_m_cancel : PySem.W.isFn K (.ref f_m_cancel) = true)
    (l_m_cancel : K.lookup f_m_cancel = some ⟨oc_m_cancel, od_m_cancel, .func (PySem.W.fnOf "cancel" "Wheel.cancel" (defArgs s_Wheel_cancel) (defBody s_Wheel_cancel) (defScope s_Wheel_cancel) .none kV_m_cancel dc_m_cancel pm_m_cancel an_m_cancel cd_m_cancel ct_m_cancel), sl_m_cancel⟩)
    (c_m_cancel : PySem.W.codeIn K cd_m_cancel "Wheel.cancel" = true) (k_m_cancel : PySem.W.keepIn K (.ref f_m_cancel) = true)
    (a_m_reset : PySem.W.findIn K (.ref C_) "reset" = some (some (.ref f_m_reset))) (i_m_reset : PySem.W.isFn K (.ref f_m_reset) = true)
    (l_m_reset : K.lookup f_m_reset = some ⟨oc_m_reset, od_m_reset, .func (PySem.W.fnOf "reset" "Wheel.reset" (defArgs s_Wheel_reset) (defBody s_Wheel_reset) (defScope s_Wheel_reset) .none kV_m_reset dc_m_reset pm_m_reset an_m_reset cd_m_reset ct_m_reset), sl_m_reset⟩)
    (c_m_reset : PySem.W.codeIn K cd_m_reset "Wheel.reset" = true) (k_m_reset : PySem.W.keepIn K (.ref f_m_reset) = true)
    (a_m_timers : PySem.W.findIn K (.ref C_) "timers" = some (some (.ref f_m_timers))) (i_m_timers : PySem.W.isFn K (.ref f_m_timers) = true)
    (l_m_timers : K.lookup f_m_timers = some ⟨oc_m_timers, od_m_timers, .func (PySem.W.fnOf "timers" "Wheel.timers" (defArgs s_Wheel_timers) (defBody s_Wheel_timers) (defScope s_Wheel_timers) .none kV_m_timers dc_m_timers pm_m_timers an_m_timers cd_m_timers ct_m_timers), sl_m_timers⟩)
    (c_m_timers : PySem.W.codeIn K cd_m_timers "Wheel.timers" = true) (k_m_timers : PySem.W.keepIn K (.ref f_m_timers) = true)
    (a_m_advance : PySem.W.findIn K (.ref C_) "advance" = some (some (.ref f_m_advance))) (i_m_advance : PySem.W.isFn K (.ref f_m_advance) = true)
    (l_m_advance : K.lookup f_m_advance = some ⟨oc_m_advance, od_m_advance, .func (PySem.W.fnOf "advance" "Wheel.advance" (defArgs s_Wheel_advance) (defBody s_Wheel_advance) (defScope s_Wheel_advance) .none kV_m_advance dc_m_advance pm_m_advance an_m_advance cd_m_advance ct_m_advance), sl_m_advance⟩)
    (c_m_advance : PySem.W.codeIn K cd_m_advance "Wheel.advance" = true) (k_m_advance : PySem.W.keepIn K (.ref f_m_advance) = true)
    (a_m_lists : PySem.W.findIn K (.ref C_) "lists" = some (some (.ref f_m_lists))) (i_m_lists : PySem.W.isFn K (.ref f_m_lists) = true)
    (l_m_lists : K.lookup f_m_lists = some ⟨oc_m_lists, od_m_lists, .func (PySem.W.fnOf "lists" "Wheel.lists" (defArgs s_Wheel_lists) (defBody s_Wheel_lists) (defScope s_Wheel_lists) .none kV_m_lists dc_m_lists pm_m_lists an_m_lists cd_m_lists ct_m_lists), sl_m_lists⟩)
    (c_m_lists : PySem.W.codeIn K cd_m_lists "Wheel.lists" = true) (k_m_lists : PySem.W.keepIn K (.ref f_m_lists) = true)
    (a_m_lists_at : PySem.W.findIn K (.ref C_) "lists_at" = some (some (.ref f_m_lists_at))) (i_m_lists_at : PySem.W.isFn K (.ref f_m_lists_at) = true)
    (l_m_lists_at : K.lookup f_m_lists_at = some ⟨oc_m_lists_at, od_m_lists_at, .func (PySem.W.fnOf "lists_at" "Wheel.lists_at" (defArgs s_Wheel_lists_at) (defBody s_Wheel_lists_at) (defScope s_Wheel_lists_at) .none kV_m_lists_at dc_m_lists_at pm_m_lists_at an_m_lists_at cd_m_lists_at ct_m_lists_at), sl_m_lists_at⟩)
    (c_m_lists_at : PySem.W.codeIn K cd_m_lists_at "Wheel.lists_at" = true) (k_m_lists_at : PySem.W.keepIn K (.ref f_m_lists_at) = true)
    (a_m_firing : PySem.W.findIn K (.ref C_) "firing" = some (some (.ref f_m_firing))) (i_m_firing : PySem.W.isFn K (.ref f_m_firing) = true)
    (l_m_firing : K.lookup f_m_firing = some ⟨oc_m_firing, od_m_firing, .func (PySem.W.fnOf "firing" "Wheel.firing" (defArgs s_Wheel_firing) (defBody s_Wheel_firing) (defScope s_Wheel_firing) .none kV_m_firing dc_m_firing pm_m_firing an_m_firing cd_m_firing ct_m_firing), sl_m_firing⟩)
    (c_m_firing : PySem.W.codeIn K cd_m_firing "Wheel.firing" = true) (k_m_firing : PySem.W.keepIn K (.ref f_m_firing) = true)
    (a_m_restoring : PySem.W.findIn K (.ref C_) "restoring" = some (some (.ref f_m_restoring))) (i_m_restoring : PySem.W.isFn K (.ref f_m_restoring) = true)
    (l_m_restoring : K.lookup f_m_restoring = some ⟨oc_m_restoring, od_m_restoring, .func (PySem.W.fnOf "restoring" "Wheel.restoring" (defArgs s_Wheel_restoring) (defBody s_Wheel_restoring) (defScope s_Wheel_restoring) .none kV_m_restoring dc_m_restoring pm_m_restoring an_m_restoring cd_m_restoring ct_m_restoring), sl_m_restoring⟩)
    (c_m_restoring : PySem.W.codeIn K cd_m_restoring "Wheel.restoring" = true) (k_m_restoring : PySem.W.keepIn K (.ref f_m_restoring) = true)
    (a_m_snapshot : PySem.W.findIn K (.ref C_) "snapshot" = some (some (.ref f_m_snapshot))) (i_m_snapshot : PySem.W.isFn K (.ref f_m_snapshot) = true)
    (l_m_snapshot : K.lookup f_m_snapshot = some ⟨oc_m_snapshot, od_m_snapshot, .func (PySem.W.fnOf "snapshot" "Wheel.snapshot" (defArgs s_Wheel_snapshot) (defBody s_Wheel_snapshot) (defScope s_Wheel_snapshot) .none kV_m_snapshot dc_m_snapshot pm_m_snapshot an_m_snapshot cd_m_snapshot ct_m_snapshot), sl_m_snapshot⟩)
    (c_m_snapshot : PySem.W.codeIn K cd_m_snapshot "Wheel.snapshot" = true) (k_m_snapshot : PySem.W.keepIn K (.ref f_m_snapshot) = true)
    (pg : PySem.W.plainGet K C_ Str.empty = true)
    (hd : PySem.W.hasDictIn K C_ = true)
    (po : PySem.W.plainOver K C_ = true)
    (sa : PySem.W.findIn K (.ref C_) "__setattr__" = some (some (.builtin "object.__setattr__")))
    (mkC : PySem.W.makesIn K C_ = true)
    (kc : PySem.W.keepIn K (.ref C_) = true)
    (n_base : PySem.W.findIn K (.ref C_) "base" = some none)
    (n_words : PySem.W.findIn K (.ref C_) "words" = some none)
    (n_tick : PySem.W.findIn K (.ref C_) "tick" = some none)
    (n_following : PySem.W.findIn K (.ref C_) "following" = some none)
    (n_live : PySem.W.findIn K (.ref C_) "live" = some none)
    (z_isinstance : PySem.W.nsIn K mainGlobals "isinstance" = some none)
    (z_int : PySem.W.nsIn K mainGlobals "int" = some none)
    (z_bool : PySem.W.nsIn K mainGlobals "bool" = some none)
    (z_str : PySem.W.nsIn K mainGlobals "str" = some none)
    (z_all : PySem.W.nsIn K mainGlobals "all" = some none)
    (z_list : PySem.W.nsIn K mainGlobals "list" = some none)
    (z_len : PySem.W.nsIn K mainGlobals "len" = some none)
    (z_min : PySem.W.nsIn K mainGlobals "min" = some none)
    (z_sorted : PySem.W.nsIn K mainGlobals "sorted" = some none)
    (z_dict : PySem.W.nsIn K mainGlobals "dict" = some none)
    (z_tuple : PySem.W.nsIn K mainGlobals "tuple" = some none)
    (z_set : PySem.W.nsIn K mainGlobals "set" = some none)
    (z_range : PySem.W.nsIn K mainGlobals "range" = some none)
    (z_max : PySem.W.nsIn K mainGlobals "max" = some none)
    (a_WORDS : PySem.W.nsIn K mainGlobals "WORDS" = some (some (.ref f_WORDS)))
    (l_WORDS : K.lookup f_WORDS = some ⟨.type "tuple", od_WORDS, .seq #[.str "stack" tk0_WORDS, .str "queue" tk1_WORDS] tn_WORDS, ts_WORDS⟩)
    (a_MOST_LEVELS : PySem.W.nsIn K mainGlobals "MOST_LEVELS" = some (some (.int 60 tk_MOST_LEVELS)))
    (a_MOST_FIRINGS : PySem.W.nsIn K mainGlobals "MOST_FIRINGS" = some (some (.int 2000 tk_MOST_FIRINGS)))
    : ∃ fd : FuncData, (∀ (s : Shared) (v : Value), BindsTo s fd ⟨[v], []⟩ [("_law_script", v)]) ∧ ∀ base : Heap, K.In base → base.Ns mainGlobals mg → FnOk l.prog w K mg base CX0 8 fa fd ["_law_script"] (spLaw K) := by
  have e := hfa.symm.trans (PySem.W.mg_of X G a_law)
  cases e
  have T : Tx K mg := ⟨PySem.W.mg_none_of X G z_isinstance, PySem.W.mg_none_of X G z_int, PySem.W.mg_none_of X G z_bool, PySem.W.mg_none_of X G z_str, PySem.W.mg_none_of X G z_all, PySem.W.mg_none_of X G z_list, PySem.W.mg_none_of X G z_len, PySem.W.mg_none_of X G z_min, PySem.W.mg_none_of X G z_sorted, PySem.W.mg_none_of X G z_dict, PySem.W.mg_none_of X G z_tuple, PySem.W.mg_none_of X G z_set, PySem.W.mg_none_of X G z_range, PySem.W.mg_none_of X G z_max⟩
  have h_WORDS : ∃ a, mg "WORDS" = some (.ref a) ∧ ∀ H, SqT K H a [.str "stack", .str "queue"] := ⟨f_WORDS, PySem.W.mg_of X G a_WORDS, fun H => .inr ⟨_, _, _, l_WORDS, rfl, rfl, by simp [sizeLine_eq], .cons ⟨_, rfl⟩ (.cons ⟨_, rfl⟩ (.nil))⟩⟩
  have h_MOST_LEVELS : mg "MOST_LEVELS" = some (.int 60 tk_MOST_LEVELS) := PySem.W.mg_of X G a_MOST_LEVELS
  have h_MOST_FIRINGS : mg "MOST_FIRINGS" = some (.int 2000 tk_MOST_FIRINGS) := PySem.W.mg_of X G a_MOST_FIRINGS
  have D_wall : Df K mg "_wall" s__wall ["k"] := by
    have F := fun_mk (st := s__wall) l_wall c_wall k_wall
    exact ⟨_, _, F, PySem.W.mg_of X G a_wall, F.binds (ps := ["k"]) fun _ _ _ _ _ _ us hl => match us, hl with | [_], _ => rfl⟩
  have D_is_integer : Df K mg "is_integer" s_is_integer ["given"] := by
    have F := fun_mk (st := s_is_integer) l_is_integer c_is_integer k_is_integer
    exact ⟨_, _, F, PySem.W.mg_of X G a_is_integer, F.binds (ps := ["given"]) fun _ _ _ _ _ _ us hl => match us, hl with | [_], _ => rfl⟩
  have D_is_word : Df K mg "is_word" s_is_word ["given"] := by
    have F := fun_mk (st := s_is_word) l_is_word c_is_word k_is_word
    exact ⟨_, _, F, PySem.W.mg_of X G a_is_word, F.binds (ps := ["given"]) fun _ _ _ _ _ _ us hl => match us, hl with | [_], _ => rfl⟩
  have D_is_base : Df K mg "is_base" s_is_base ["given"] := by
    have F := fun_mk (st := s_is_base) l_is_base c_is_base k_is_base
    exact ⟨_, _, F, PySem.W.mg_of X G a_is_base, F.binds (ps := ["given"]) fun _ _ _ _ _ _ us hl => match us, hl with | [_], _ => rfl⟩
  have D_is_length : Df K mg "is_length" s_is_length ["given"] := by
    have F := fun_mk (st := s_is_length) l_is_length c_is_length k_is_length
    exact ⟨_, _, F, PySem.W.mg_of X G a_is_length, F.binds (ps := ["given"]) fun _ _ _ _ _ _ us hl => match us, hl with | [_], _ => rfl⟩
  have D_are_levels : Df K mg "are_levels" s_are_levels ["given"] := by
    have F := fun_mk (st := s_are_levels) l_are_levels c_are_levels k_are_levels
    exact ⟨_, _, F, PySem.W.mg_of X G a_are_levels, F.binds (ps := ["given"]) fun _ _ _ _ _ _ us hl => match us, hl with | [_], _ => rfl⟩
  have D_is_tick : Dd K mg "is_tick" s_is_tick ["given", "least"] (.int 0) := by
    have F : FunD K "is_tick" "is_tick" (defArgs s_is_tick) (defBody s_is_tick) (defScope s_is_tick) [(.int 0)] [] _ _ := ⟨⟨_, _, _, _, _, _, _, _, _, _, rfl, l_is_tick, c_is_tick, .inr ⟨by simp, dT_is_tick, _, [_], _, rfl, t_is_tick, rfl, .cons ⟨_, rfl⟩ .nil⟩, .inl rfl⟩, k_is_tick⟩
    exact ⟨_, _, F, PySem.W.mg_of X G a_is_tick,
      FunD.binds1 (ps := ["given", "least"]) F 1 0 (by simp) rfl fun _ _ _ _ _ _ _ us its hu hi => match us, its, hu, hi with | [_], [_], _, _ => ⟨_, rfl, rfl⟩,
      by obtain ⟨ds, r, b⟩ := FunD.binds1 (ps := ["given", "least"]) F 2 1 (by simp) rfl fun _ _ _ _ _ _ _ us its hu hi => match us, its, hu, hi with | [_, _], [_], _, _ => ⟨_, rfl, rfl⟩
         cases r
         exact b⟩
  have D_is_period : Df K mg "is_period" s_is_period ["given"] := by
    have F := fun_mk (st := s_is_period) l_is_period c_is_period k_is_period
    exact ⟨_, _, F, PySem.W.mg_of X G a_is_period, F.binds (ps := ["given"]) fun _ _ _ _ _ _ us hl => match us, hl with | [_], _ => rfl⟩
  have D_check_base : Df K mg "check_base" s_check_base ["base"] := by
    have F := fun_mk (st := s_check_base) l_check_base c_check_base k_check_base
    exact ⟨_, _, F, PySem.W.mg_of X G a_check_base, F.binds (ps := ["base"]) fun _ _ _ _ _ _ us hl => match us, hl with | [_], _ => rfl⟩
  have D_check_levels : Df K mg "check_levels" s_check_levels ["levels"] := by
    have F := fun_mk (st := s_check_levels) l_check_levels c_check_levels k_check_levels
    exact ⟨_, _, F, PySem.W.mg_of X G a_check_levels, F.binds (ps := ["levels"]) fun _ _ _ _ _ _ us hl => match us, hl with | [_], _ => rfl⟩
  have D_check_tick : Dd K mg "check_tick" s_check_tick ["tick", "least"] (.int 0) := by
    have F : FunD K "check_tick" "check_tick" (defArgs s_check_tick) (defBody s_check_tick) (defScope s_check_tick) [(.int 0)] [] _ _ := ⟨⟨_, _, _, _, _, _, _, _, _, _, rfl, l_check_tick, c_check_tick, .inr ⟨by simp, dT_check_tick, _, [_], _, rfl, t_check_tick, rfl, .cons ⟨_, rfl⟩ .nil⟩, .inl rfl⟩, k_check_tick⟩
    exact ⟨_, _, F, PySem.W.mg_of X G a_check_tick,
      FunD.binds1 (ps := ["tick", "least"]) F 1 0 (by simp) rfl fun _ _ _ _ _ _ _ us its hu hi => match us, its, hu, hi with | [_], [_], _, _ => ⟨_, rfl, rfl⟩,
      by obtain ⟨ds, r, b⟩ := FunD.binds1 (ps := ["tick", "least"]) F 2 1 (by simp) rfl fun _ _ _ _ _ _ _ us its hu hi => match us, its, hu, hi with | [_, _], [_], _, _ => ⟨_, rfl, rfl⟩
         cases r
         exact b⟩
  have D_word_at : Df K mg "word_at" s_word_at ["levels", "level"] := by
    have F := fun_mk (st := s_word_at) l_word_at c_word_at k_word_at
    exact ⟨_, _, F, PySem.W.mg_of X G a_word_at, F.binds (ps := ["levels", "level"]) fun _ _ _ _ _ _ us hl => match us, hl with | [_, _], _ => rfl⟩
  have D_level_and_size : Df K mg "level_and_size" s_level_and_size ["base", "now", "due"] := by
    have F := fun_mk (st := s_level_and_size) l_level_and_size c_level_and_size k_level_and_size
    exact ⟨_, _, F, PySem.W.mg_of X G a_level_and_size, F.binds (ps := ["base", "now", "due"]) fun _ _ _ _ _ _ us hl => match us, hl with | [_, _, _], _ => rfl⟩
  have D_path : Df K mg "path" s_path ["base", "now", "due"] := by
    have F := fun_mk (st := s_path) l_path c_path k_path
    exact ⟨_, _, F, PySem.W.mg_of X G a_path, F.binds (ps := ["base", "now", "due"]) fun _ _ _ _ _ _ us hl => match us, hl with | [_, _, _], _ => rfl⟩
  have D_goes_in_front : Df K mg "goes_in_front" s_goes_in_front ["base", "levels", "now", "due", "lowest"] := by
    have F := fun_mk (st := s_goes_in_front) l_goes_in_front c_goes_in_front k_goes_in_front
    exact ⟨_, _, F, PySem.W.mg_of X G a_goes_in_front, F.binds (ps := ["base", "levels", "now", "due", "lowest"]) fun _ _ _ _ _ _ us hl => match us, hl with | [_, _, _, _, _], _ => rfl⟩
  have D_with_timer : Df K mg "with_timer" s_with_timer ["numbers", "number", "front"] := by
    have F := fun_mk (st := s_with_timer) l_with_timer c_with_timer k_with_timer
    exact ⟨_, _, F, PySem.W.mg_of X G a_with_timer, F.binds (ps := ["numbers", "number", "front"]) fun _ _ _ _ _ _ us hl => match us, hl with | [_, _, _], _ => rfl⟩
  have D_firing_order : Df K mg "firing_order" s_firing_order ["base", "levels", "due", "settings"] := by
    have F := fun_mk (st := s_firing_order) l_firing_order c_firing_order k_firing_order
    exact ⟨_, _, F, PySem.W.mg_of X G a_firing_order, F.binds (ps := ["base", "levels", "due", "settings"]) fun _ _ _ _ _ _ us hl => match us, hl with | [_, _, _, _], _ => rfl⟩
  have D_without_repeats : Df K mg "without_repeats" s_without_repeats ["levels"] := by
    have F := fun_mk (st := s_without_repeats) l_without_repeats c_without_repeats k_without_repeats
    exact ⟨_, _, F, PySem.W.mg_of X G a_without_repeats, F.binds (ps := ["levels"]) fun _ _ _ _ _ _ us hl => match us, hl with | [_], _ => rfl⟩
  have D_check_period : Df K mg "check_period" s_check_period ["period"] := by
    have F := fun_mk (st := s_check_period) l_check_period c_check_period k_check_period
    exact ⟨_, _, F, PySem.W.mg_of X G a_check_period, F.binds (ps := ["period"]) fun _ _ _ _ _ _ us hl => match us, hl with | [_], _ => rfl⟩
  have D_order_of_firing : Df K mg "order_of_firing" s_order_of_firing ["base", "levels", "live", "tick"] := by
    have F := fun_mk (st := s_order_of_firing) l_order_of_firing c_order_of_firing k_order_of_firing
    exact ⟨_, _, F, PySem.W.mg_of X G a_order_of_firing, F.binds (ps := ["base", "levels", "live", "tick"]) fun _ _ _ _ _ _ us hl => match us, hl with | [_, _, _, _], _ => rfl⟩
  have D_standing : Df K mg "standing" s_standing ["base", "levels", "live", "tick"] := by
    have F := fun_mk (st := s_standing) l_standing c_standing k_standing
    exact ⟨_, _, F, PySem.W.mg_of X G a_standing, F.binds (ps := ["base", "levels", "live", "tick"]) fun _ _ _ _ _ _ us hl => match us, hl with | [_, _, _, _], _ => rfl⟩
  have D_least_due : Df K mg "least_due" s_least_due ["live"] := by
    have F := fun_mk (st := s_least_due) l_least_due c_least_due k_least_due
    exact ⟨_, _, F, PySem.W.mg_of X G a_least_due, F.binds (ps := ["live"]) fun _ _ _ _ _ _ us hl => match us, hl with | [_], _ => rfl⟩
  have D_after_firing : Df K mg "after_firing" s_after_firing ["live", "numbers", "tick"] := by
    have F := fun_mk (st := s_after_firing) l_after_firing c_after_firing k_after_firing
    exact ⟨_, _, F, PySem.W.mg_of X G a_after_firing, F.binds (ps := ["live", "numbers", "tick"]) fun _ _ _ _ _ _ us hl => match us, hl with | [_, _, _], _ => rfl⟩
  have D_is_row : Df K mg "is_row" s_is_row ["given", "now", "following"] := by
    have F := fun_mk (st := s_is_row) l_is_row c_is_row k_is_row
    exact ⟨_, _, F, PySem.W.mg_of X G a_is_row, F.binds (ps := ["given", "now", "following"]) fun _ _ _ _ _ _ us hl => match us, hl with | [_, _, _], _ => rfl⟩
  have D_is_snapshot : Df K mg "is_snapshot" s_is_snapshot ["given"] := by
    have F := fun_mk (st := s_is_snapshot) l_is_snapshot c_is_snapshot k_is_snapshot
    exact ⟨_, _, F, PySem.W.mg_of X G a_is_snapshot, F.binds (ps := ["given"]) fun _ _ _ _ _ _ us hl => match us, hl with | [_], _ => rfl⟩
  have D_restored : Df K mg "restored" s_restored ["snapshot"] := by
    have F := fun_mk (st := s_restored) l_restored c_restored k_restored
    exact ⟨_, _, F, PySem.W.mg_of X G a_restored, F.binds (ps := ["snapshot"]) fun _ _ _ _ _ _ us hl => match us, hl with | [_], _ => rfl⟩
  have D_law_cell_at : Df K mg "_law_cell_at" s__law_cell_at ["_law_script", "_law_k"] := by
    have F := fun_mk (st := s__law_cell_at) l_law_cell_at c_law_cell_at k_law_cell_at
    exact ⟨_, _, F, PySem.W.mg_of X G a_law_cell_at, F.binds (ps := ["_law_script", "_law_k"]) fun _ _ _ _ _ _ us hl => match us, hl with | [_, _], _ => rfl⟩
  have D_law_mixed : Df K mg "_law_mixed" s__law_mixed ["_law_cell", "_law_k"] := by
    have F := fun_mk (st := s__law_mixed) l_law_mixed c_law_mixed k_law_mixed
    exact ⟨_, _, F, PySem.W.mg_of X G a_law_mixed, F.binds (ps := ["_law_cell", "_law_k"]) fun _ _ _ _ _ _ us hl => match us, hl with | [_, _], _ => rfl⟩
  have D_law_source : Df K mg "_law_source" s__law_source ["_law_script", "_law_k"] := by
    have F := fun_mk (st := s__law_source) l_law_source c_law_source k_law_source
    exact ⟨_, _, F, PySem.W.mg_of X G a_law_source, F.binds (ps := ["_law_script", "_law_k"]) fun _ _ _ _ _ _ us hl => match us, hl with | [_, _], _ => rfl⟩
  have D_law_next : Df K mg "_law_next" s__law_next ["_law_source_here", "_law_many"] := by
    have F := fun_mk (st := s__law_next) l_law_next c_law_next k_law_next
    exact ⟨_, _, F, PySem.W.mg_of X G a_law_next, F.binds (ps := ["_law_source_here", "_law_many"]) fun _ _ _ _ _ _ us hl => match us, hl with | [_, _], _ => rfl⟩
  have D_law_base : Df K mg "_law_base" s__law_base ["_law_source_here"] := by
    have F := fun_mk (st := s__law_base) l_law_base c_law_base k_law_base
    exact ⟨_, _, F, PySem.W.mg_of X G a_law_base, F.binds (ps := ["_law_source_here"]) fun _ _ _ _ _ _ us hl => match us, hl with | [_], _ => rfl⟩
  have D_law_levels : Df K mg "_law_levels" s__law_levels ["_law_source_here"] := by
    have F := fun_mk (st := s__law_levels) l_law_levels c_law_levels k_law_levels
    exact ⟨_, _, F, PySem.W.mg_of X G a_law_levels, F.binds (ps := ["_law_source_here"]) fun _ _ _ _ _ _ us hl => match us, hl with | [_], _ => rfl⟩
  have D_law_tick : Df K mg "_law_tick" s__law_tick ["_law_source_here", "_law_base_here"] := by
    have F := fun_mk (st := s__law_tick) l_law_tick c_law_tick k_law_tick
    exact ⟨_, _, F, PySem.W.mg_of X G a_law_tick, F.binds (ps := ["_law_source_here", "_law_base_here"]) fun _ _ _ _ _ _ us hl => match us, hl with | [_, _], _ => rfl⟩
  have D_law_level : Df K mg "_law_level" s__law_level ["_law_base_here", "_law_now", "_law_due"] := by
    have F := fun_mk (st := s__law_level) l_law_level c_law_level k_law_level
    exact ⟨_, _, F, PySem.W.mg_of X G a_law_level, F.binds (ps := ["_law_base_here", "_law_now", "_law_due"]) fun _ _ _ _ _ _ us hl => match us, hl with | [_, _, _], _ => rfl⟩
  have D_law_digit : Df K mg "_law_digit" s__law_digit ["_law_base_here", "_law_tick_here", "_law_level_here"] := by
    have F := fun_mk (st := s__law_digit) l_law_digit c_law_digit k_law_digit
    exact ⟨_, _, F, PySem.W.mg_of X G a_law_digit, F.binds (ps := ["_law_base_here", "_law_tick_here", "_law_level_here"]) fun _ _ _ _ _ _ us hl => match us, hl with | [_, _, _], _ => rfl⟩
  have D_law_zeros : Df K mg "_law_zeros" s__law_zeros ["_law_base_here", "_law_tick_here"] := by
    have F := fun_mk (st := s__law_zeros) l_law_zeros c_law_zeros k_law_zeros
    exact ⟨_, _, F, PySem.W.mg_of X G a_law_zeros, F.binds (ps := ["_law_base_here", "_law_tick_here"]) fun _ _ _ _ _ _ us hl => match us, hl with | [_, _], _ => rfl⟩
  have D_law_place : Df K mg "_law_place" s__law_place ["_law_lists", "_law_base_here", "_law_levels_here", "_law_now", "_law_row"] := by
    have F := fun_mk (st := s__law_place) l_law_place c_law_place k_law_place
    exact ⟨_, _, F, PySem.W.mg_of X G a_law_place, F.binds (ps := ["_law_lists", "_law_base_here", "_law_levels_here", "_law_now", "_law_row"]) fun _ _ _ _ _ _ us hl => match us, hl with | [_, _, _, _, _], _ => rfl⟩
  have D_law_pass : Df K mg "_law_pass" s__law_pass ["_law_lists", "_law_base_here", "_law_levels_here", "_law_tick_here"] := by
    have F := fun_mk (st := s__law_pass) l_law_pass c_law_pass k_law_pass
    exact ⟨_, _, F, PySem.W.mg_of X G a_law_pass, F.binds (ps := ["_law_lists", "_law_base_here", "_law_levels_here", "_law_tick_here"]) fun _ _ _ _ _ _ us hl => match us, hl with | [_, _, _, _], _ => rfl⟩
  have D_law_shown : Df K mg "_law_shown" s__law_shown ["_law_lists"] := by
    have F := fun_mk (st := s__law_shown) l_law_shown c_law_shown k_law_shown
    exact ⟨_, _, F, PySem.W.mg_of X G a_law_shown, F.binds (ps := ["_law_lists"]) fun _ _ _ _ _ _ us hl => match us, hl with | [_], _ => rfl⟩
  have D_law_dropped : Df K mg "_law_dropped" s__law_dropped ["_law_lists", "_law_number"] := by
    have F := fun_mk (st := s__law_dropped) l_law_dropped c_law_dropped k_law_dropped
    exact ⟨_, _, F, PySem.W.mg_of X G a_law_dropped, F.binds (ps := ["_law_lists", "_law_number"]) fun _ _ _ _ _ _ us hl => match us, hl with | [_, _], _ => rfl⟩
  have D_law_next_event : Df K mg "_law_next_event" s__law_next_event ["_law_lists", "_law_base_here", "_law_now"] := by
    have F := fun_mk (st := s__law_next_event) l_law_next_event c_law_next_event k_law_next_event
    exact ⟨_, _, F, PySem.W.mg_of X G a_law_next_event, F.binds (ps := ["_law_lists", "_law_base_here", "_law_now"]) fun _ _ _ _ _ _ us hl => match us, hl with | [_, _, _], _ => rfl⟩
  have D_law_run : Df K mg "_law_run" s__law_run ["_law_lists", "_law_base_here", "_law_levels_here", "_law_now", "_law_last"] := by
    have F := fun_mk (st := s__law_run) l_law_run c_law_run k_law_run
    exact ⟨_, _, F, PySem.W.mg_of X G a_law_run, F.binds (ps := ["_law_lists", "_law_base_here", "_law_levels_here", "_law_now", "_law_last"]) fun _ _ _ _ _ _ us hl => match us, hl with | [_, _, _, _, _], _ => rfl⟩
  have D_law_copy : Df K mg "_law_copy" s__law_copy ["_law_lists"] := by
    have F := fun_mk (st := s__law_copy) l_law_copy c_law_copy k_law_copy
    exact ⟨_, _, F, PySem.W.mg_of X G a_law_copy, F.binds (ps := ["_law_lists"]) fun _ _ _ _ _ _ us hl => match us, hl with | [_], _ => rfl⟩
  have D_law_built : Df K mg "_law_built" s__law_built ["_law_source_here", "_law_base_here", "_law_levels_here", "_law_now"] := by
    have F := fun_mk (st := s__law_built) l_law_built c_law_built k_law_built
    exact ⟨_, _, F, PySem.W.mg_of X G a_law_built, F.binds (ps := ["_law_source_here", "_law_base_here", "_law_levels_here", "_law_now"]) fun _ _ _ _ _ _ us hl => match us, hl with | [_, _, _, _], _ => rfl⟩
  have D_law_looks_right : Df K mg "_law_looks_right" s__law_looks_right ["_law_source_here", "_law_wheel", "_law_lists", "_law_base_here", "_law_levels_here", "_law_now", "_law_shared"] := by
    have F := fun_mk (st := s__law_looks_right) l_law_looks_right c_law_looks_right k_law_looks_right
    exact ⟨_, _, F, PySem.W.mg_of X G a_law_looks_right, F.binds (ps := ["_law_source_here", "_law_wheel", "_law_lists", "_law_base_here", "_law_levels_here", "_law_now", "_law_shared"]) fun _ _ _ _ _ _ us hl => match us, hl with | [_, _, _, _, _, _, _], _ => rfl⟩
  have D_law_changed : Df K mg "_law_changed" s__law_changed ["_law_source_here", "_law_wheel", "_law_lists", "_law_base_here", "_law_levels_here", "_law_now"] := by
    have F := fun_mk (st := s__law_changed) l_law_changed c_law_changed k_law_changed
    exact ⟨_, _, F, PySem.W.mg_of X G a_law_changed, F.binds (ps := ["_law_source_here", "_law_wheel", "_law_lists", "_law_base_here", "_law_levels_here", "_law_now"]) fun _ _ _ _ _ _ us hl => match us, hl with | [_, _, _, _, _, _], _ => rfl⟩
  have D_law : Df K mg "law" s_law ["_law_script"] := by
    have F := fun_mk (st := s_law) l_law c_law k_law
    exact ⟨_, _, F, PySem.W.mg_of X G a_law, F.binds (ps := ["_law_script"]) fun _ _ _ _ _ _ us hl => match us, hl with | [_], _ => rfl⟩
  have TW : TxW K mg C_ := ⟨⟨pg, hd, po, sa⟩, n_base, n_words, n_tick, n_following, n_live, PySem.W.mg_of X G a_Wheel⟩
  have F_m_init : FunD K "__init__" "Wheel.__init__" (defArgs s_Wheel___init__) (defBody s_Wheel___init__) (defScope s_Wheel___init__) [] [("start", .int 0)] _ _ := ⟨⟨_, _, _, _, _, _, _, _, _, _, rfl, l_m_init, c_m_init, .inl ⟨rfl, rfl⟩, .inr ⟨_, rfl, fun q hq => by rw [List.mem_singleton.mp hq]; exact ⟨_, d_m_init, ⟨_, rfl⟩⟩⟩⟩, k_m_init⟩
  obtain ⟨ds_m_init, V_m_init, B_m_init⟩ := FunD.binds0 (ps := ["self", "base", "levels", "start"]) F_m_init 3 (by simp) rfl fun _ _ _ _ _ _ us ks hl hk => match us, ks, hl, hk with | [_, _, _], [_], _, _ => ⟨_, _, _, _, _, _, rfl, rfl, rfl⟩
  have F_m_check_timer := fun_mk (st := s_Wheel_check_timer) l_m_check_timer c_m_check_timer k_m_check_timer
  have B_m_check_timer := F_m_check_timer.binds (ps := ["self", "timer"]) fun _ _ _ _ _ _ us hl => match us, hl with | [_, _], _ => rfl
  have F_m_now := fun_mk (st := s_Wheel_now) l_m_now c_m_now k_m_now
  have B_m_now := F_m_now.binds (ps := ["self"]) fun _ _ _ _ _ _ us hl => match us, hl with | [_], _ => rfl
  have F_m_put : FunD K "put" "Wheel.put" (defArgs s_Wheel_put) (defBody s_Wheel_put) (defScope s_Wheel_put) [] [("period", .non)] _ _ := ⟨⟨_, _, _, _, _, _, _, _, _, _, rfl, l_m_put, c_m_put, .inl ⟨rfl, rfl⟩, .inr ⟨_, rfl, fun q hq => by rw [List.mem_singleton.mp hq]; exact ⟨_, d_m_put, rfl⟩⟩⟩, k_m_put⟩
  obtain ⟨ds_m_put, V_m_put, B_m_put⟩ := FunD.binds0 (ps := ["self", "due", "period"]) F_m_put 2 (by simp) rfl fun _ _ _ _ _ _ us ks hl hk => match us, ks, hl, hk with | [_, _], [_], _, _ => ⟨_, _, _, _, _, _, rfl, rfl, rfl⟩
  have F_m_cancel := fun_mk (st := s_Wheel_cancel) l_m_cancel c_m_cancel k_m_cancel
  have B_m_cancel := F_m_cancel.binds (ps := ["self", "timer"]) fun _ _ _ _ _ _ us hl => match us, hl with | [_, _], _ => rfl
  have F_m_reset := fun_mk (st := s_Wheel_reset) l_m_reset c_m_reset k_m_reset
  have B_m_reset := F_m_reset.binds (ps := ["self", "timer", "due"]) fun _ _ _ _ _ _ us hl => match us, hl with | [_, _, _], _ => rfl
  have F_m_timers := fun_mk (st := s_Wheel_timers) l_m_timers c_m_timers k_m_timers
  have B_m_timers := F_m_timers.binds (ps := ["self"]) fun _ _ _ _ _ _ us hl => match us, hl with | [_], _ => rfl
  have F_m_advance := fun_mk (st := s_Wheel_advance) l_m_advance c_m_advance k_m_advance
  have B_m_advance := F_m_advance.binds (ps := ["self", "tick"]) fun _ _ _ _ _ _ us hl => match us, hl with | [_, _], _ => rfl
  have F_m_lists := fun_mk (st := s_Wheel_lists) l_m_lists c_m_lists k_m_lists
  have B_m_lists := F_m_lists.binds (ps := ["self"]) fun _ _ _ _ _ _ us hl => match us, hl with | [_], _ => rfl
  have F_m_lists_at := fun_mk (st := s_Wheel_lists_at) l_m_lists_at c_m_lists_at k_m_lists_at
  have B_m_lists_at := F_m_lists_at.binds (ps := ["self", "tick"]) fun _ _ _ _ _ _ us hl => match us, hl with | [_, _], _ => rfl
  have F_m_firing := fun_mk (st := s_Wheel_firing) l_m_firing c_m_firing k_m_firing
  have B_m_firing := F_m_firing.binds (ps := ["self", "tick"]) fun _ _ _ _ _ _ us hl => match us, hl with | [_, _], _ => rfl
  have F_m_restoring := fun_mk (st := s_Wheel_restoring) l_m_restoring c_m_restoring k_m_restoring
  have B_m_restoring := F_m_restoring.binds (ps := ["self"]) fun _ _ _ _ _ _ us hl => match us, hl with | [_], _ => rfl
  have F_m_snapshot := fun_mk (st := s_Wheel_snapshot) l_m_snapshot c_m_snapshot k_m_snapshot
  have B_m_snapshot := F_m_snapshot.binds (ps := ["self"]) fun _ _ _ _ _ _ us hl => match us, hl with | [_], _ => rfl
  refine ⟨PySem.W.fnOf "law" "law" (defArgs s_law) (defBody s_law) (defScope s_law) .none kV_law dc_law pm_law an_law cd_law ct_law, fun s v => .of_eq rfl, fun base _ _ => ?_⟩
  have h_is_integer : Has l.prog w K mg base 1 "is_integer" ["given"] [] spIsInt := D_is_integer.has fun _ _ F => ok_is_integer F T
  have h2_is_tick : Has l.prog w K mg base 2 "is_tick" ["given", "least"] [.int 0] spIsTick ∧ Has l.prog w K mg base 2 "is_tick" ["given", "least"] [] spIsTick := D_is_tick.has fun _ _ F => ok_is_tick F T h_is_integer
  have h_is_base : Has l.prog w K mg base 2 "is_base" ["given"] [] spIsBase := D_is_base.has fun _ _ F => ok_is_base F h_is_integer
  have h_check_base : Has l.prog w K mg base 3 "check_base" ["base"] [] spCheckBase := D_check_base.has fun _ _ F => ok_check_base F h_is_base
  have h2_check_tick : Has l.prog w K mg base 3 "check_tick" ["tick", "least"] [.int 0] spCheckTick ∧ Has l.prog w K mg base 3 "check_tick" ["tick", "least"] [] spCheckTick := D_check_tick.has fun _ _ F => ok_check_tick F h2_is_tick.2
  have h_level_and_size : Has l.prog w K mg base 1 "level_and_size" ["base", "now", "due"] [] spLevel := D_level_and_size.has fun _ _ F => ok_level_and_size F 
  have h_path : Has l.prog w K mg base 2 "path" ["base", "now", "due"] [] spPath := D_path.has fun _ _ F => ok_path F h_level_and_size
  have h_word_at : Has l.prog w K mg base 1 "word_at" ["levels", "level"] [] (spWordAt K) := D_word_at.has fun _ _ F => ok_word_at F T
  have h_is_word : Has l.prog w K mg base 1 "is_word" ["given"] [] spIsWord := D_is_word.has fun _ _ F => ok_is_word F T h_WORDS
  have h_is_length : Has l.prog w K mg base 2 "is_length" ["given"] [] spIsLength := D_is_length.has fun _ _ F => ok_is_length F ⟨_, h_MOST_LEVELS⟩ h_is_integer
  have h_are_levels : Has l.prog w K mg base 3 "are_levels" ["given"] [] (spAreLevels K) := D_are_levels.has fun _ _ F => ok_are_levels F T h_is_length h_is_word
  have h_check_levels : Has l.prog w K mg base 4 "check_levels" ["levels"] [] (spCheckLevels K) := D_check_levels.has fun _ _ F => ok_check_levels F h_are_levels
  have h_goes_in_front : Has l.prog w K mg base 3 "goes_in_front" ["base", "levels", "now", "due", "lowest"] [] (spFront K) := D_goes_in_front.has fun _ _ F => ok_goes_in_front F h_path h_word_at
  have h_without_repeats : Has l.prog w K mg base 1 "without_repeats" ["levels"] [] (spRepeats K) := D_without_repeats.has fun _ _ F => ok_repeats F T
  have h_is_period : Has l.prog w K mg base 2 "is_period" ["given"] [] spIsPeriod := D_is_period.has fun _ _ F => ok_is_period F h_is_integer
  have h_check_period : Has l.prog w K mg base 3 "check_period" ["period"] [] spCheckPeriod := D_check_period.has fun _ _ F => ok_check_period F h_is_period
  have h_with_timer : Has l.prog w K mg base 1 "with_timer" ["numbers", "number", "front"] [] spWithTimer := D_with_timer.has fun _ _ F => ok_with_timer F 
  have h_firing_order : Has l.prog w K mg base 4 "firing_order" ["base", "levels", "due", "settings"] [] (spFiringOrder K) := D_firing_order.has fun _ _ F => ok_firing_order F h_with_timer h_goes_in_front
  have h_order_of_firing : Has l.prog w K mg base 5 "order_of_firing" ["base", "levels", "live", "tick"] [] (spOrder K) := D_order_of_firing.has fun _ _ F => ok_order F h_firing_order
  have h_least_due : Has l.prog w K mg base 1 "least_due" ["live"] [] spLeast := D_least_due.has fun _ _ F => ok_least_due F T
  have h_after_firing : Has l.prog w K mg base 1 "after_firing" ["live", "numbers", "tick"] [] spAfter := D_after_firing.has fun _ _ F => ok_after F T
  have h_standing : Has l.prog w K mg base 4 "standing" ["base", "levels", "live", "tick"] [] (spStanding K) := D_standing.has fun _ _ F => ok_standing F T h_level_and_size h_with_timer h_goes_in_front
  have M_init : ∃ (fi : Addr) (fdi : FuncData), Mk K C_ fi ∧ FnOk l.prog w K mg base CX0 5 fi fdi ["self", "base", "levels", "start"] (spInit C_ K) ∧ KBn K fdi ["self", "base", "levels", "start"] 3 [Str.ofString "start"] (fun us ws => us ++ ws) (fun vs zs => vs ++ zs) := by
    obtain ⟨mv, hb⟩ := FunD.kbinds0 (ps := ["self", "base", "levels", "start"]) F_m_init 3 [Str.ofString "start"] [] (fun us _ ws => us ++ ws) (by simp) (fun q hq => by cases hq) (fun h1 _ h3 => h1.append h3) fun _ _ _ _ _ _ us mv ws h1 h2 h3 => match us, mv, ws, h1, h2, h3 with | [_, _, _], [], [_], _, _, _ => rfl
    exact ⟨_, _, ⟨mkC, a_m_init, i_m_init, kc⟩, ok_init F_m_init TW h_check_base h2_check_tick.1 h_check_levels h_without_repeats, hb⟩
  have M_check_timer : HasM l.prog w K mg base 2 C_ "check_timer" ["self", "timer"] [] (spCheckTimer C_) := ⟨_, _, [], ok_check_timer F_m_check_timer TW h_is_integer, ⟨a_m_check_timer, i_m_check_timer, k_m_check_timer⟩, B_m_check_timer, .nil⟩
  have M_now : HasM l.prog w K mg base 1 C_ "now" ["self"] [] (spNow C_) := ⟨_, _, [], ok_now F_m_now TW, ⟨a_m_now, i_m_now, k_m_now⟩, B_m_now, .nil⟩
  obtain ⟨mv_put, hb_put⟩ := FunD.kbinds0 (ps := ["self", "due", "period"]) F_m_put 2 [Str.ofString "period"] [] (fun us _ ws => us ++ ws) (by simp) (fun q hq => by cases hq) (fun h1 _ h3 => h1.append h3) fun _ _ _ _ _ _ us mv ws h1 h2 h3 => match us, mv, ws, h1, h2, h3 with | [_, _], [], [_], _, _, _ => rfl
  have MK_put : HasPut l.prog w K mg base 4 C_ := ⟨_, _, ds_m_put, ok_put F_m_put TW h2_check_tick.2 h_check_period, ⟨a_m_put, i_m_put, k_m_put⟩, B_m_put, V_m_put, hb_put⟩
  have M_cancel : HasM l.prog w K mg base 3 C_ "cancel" ["self", "timer"] [] (spCancel C_) := ⟨_, _, [], ok_cancel F_m_cancel TW M_check_timer, ⟨a_m_cancel, i_m_cancel, k_m_cancel⟩, B_m_cancel, .nil⟩
  have M_reset : HasM l.prog w K mg base 4 C_ "reset" ["self", "timer", "due"] [] (spReset C_) := ⟨_, _, [], ok_reset F_m_reset TW M_check_timer h2_check_tick.2, ⟨a_m_reset, i_m_reset, k_m_reset⟩, B_m_reset, .nil⟩
  have M_timers : HasM l.prog w K mg base 1 C_ "timers" ["self"] [] (spTimers C_) := ⟨_, _, [], ok_timers F_m_timers T TW, ⟨a_m_timers, i_m_timers, k_m_timers⟩, B_m_timers, .nil⟩
  have M_advance : HasM l.prog w K mg base 6 C_ "advance" ["self", "tick"] [] (spAdvance C_) := ⟨_, _, [], ok_advance F_m_advance T TW ⟨_, h_MOST_FIRINGS⟩ h2_check_tick.2 h_least_due h_order_of_firing h_after_firing, ⟨a_m_advance, i_m_advance, k_m_advance⟩, B_m_advance, .nil⟩
  have M_lists : HasM l.prog w K mg base 5 C_ "lists" ["self"] [] (spLists C_) := ⟨_, _, [], ok_lists F_m_lists TW h_standing, ⟨a_m_lists, i_m_lists, k_m_lists⟩, B_m_lists, .nil⟩
  have M_restoring : HasM l.prog w K mg base 6 C_ "restoring" ["self"] [] (spRestoring C_) := ⟨_, _, [], ok_restoring F_m_restoring TW M_lists h_word_at, ⟨a_m_restoring, i_m_restoring, k_m_restoring⟩, B_m_restoring, .nil⟩
  have M_snapshot : HasM l.prog w K mg base 7 C_ "snapshot" ["self"] [] (spSnapshot C_) := ⟨_, _, [], ok_snapshot F_m_snapshot T TW M_restoring, ⟨a_m_snapshot, i_m_snapshot, k_m_snapshot⟩, B_m_snapshot, .nil⟩
  have h_is_row : Has l.prog w K mg base 3 "is_row" ["given", "now", "following"] [] spIsRow := D_is_row.has fun _ _ F => ok_is_row F T h_is_integer h2_is_tick.2 h_is_period
  have h_is_snapshot : Has l.prog w K mg base 4 "is_snapshot" ["given"] [] (spIsSnap K) := D_is_snapshot.has fun _ _ F => ok_is_snapshot F T h_is_integer h2_is_tick.1 h_is_base h_are_levels h_is_row
  have h_restored : Has l.prog w K mg base 7 "restored" ["snapshot"] [] (spRestored C_ K) := D_restored.has fun _ _ F => ok_restored F TW M_init h_is_snapshot
  have M_lists_at : HasM l.prog w K mg base 5 C_ "lists_at" ["self", "tick"] [] (spListsAt C_) := ⟨_, _, [], ok_lists_at F_m_lists_at TW h2_check_tick.2 h_standing, ⟨a_m_lists_at, i_m_lists_at, k_m_lists_at⟩, B_m_lists_at, .nil⟩
  have M_firing : HasM l.prog w K mg base 6 C_ "firing" ["self", "tick"] [] (spFiring C_) := ⟨_, _, [], ok_firing F_m_firing TW h2_check_tick.2 h_order_of_firing, ⟨a_m_firing, i_m_firing, k_m_firing⟩, B_m_firing, .nil⟩
  have h_law_cell_at : Has l.prog w K mg base 1 "_law_cell_at" ["_law_script", "_law_k"] [] (spCellAt K) := D_law_cell_at.has fun _ _ F => ok_cell_at F T
  have h_law_mixed : Has l.prog w K mg base 1 "_law_mixed" ["_law_cell", "_law_k"] [] spMixed := D_law_mixed.has fun _ _ F => ok_mixed F 
  have h_law_source : Has l.prog w K mg base 2 "_law_source" ["_law_script", "_law_k"] [] (spSource K) := D_law_source.has fun _ _ F => ok_source F T h_law_cell_at h_law_mixed
  have h_law_next : Has l.prog w K mg base 2 "_law_next" ["_law_source_here", "_law_many"] [] spNext := D_law_next.has fun _ _ F => ok_next F  h_law_mixed
  have h_law_base : Has l.prog w K mg base 3 "_law_base" ["_law_source_here"] [] spBase := D_law_base.has fun _ _ F => ok_base F h_law_next
  have h_law_tick : Has l.prog w K mg base 3 "_law_tick" ["_law_source_here", "_law_base_here"] [] spTick := D_law_tick.has fun _ _ F => ok_tick F T h_law_next
  have h_law_levels : Has l.prog w K mg base 3 "_law_levels" ["_law_source_here"] [] spLevels := D_law_levels.has fun _ _ F => ok_levels F T h_law_next
  have h_law_level : Has l.prog w K mg base 1 "_law_level" ["_law_base_here", "_law_now", "_law_due"] [] spLawLevel := D_law_level.has fun _ _ F => ok_law_level F 
  have h_law_digit : Has l.prog w K mg base 1 "_law_digit" ["_law_base_here", "_law_tick_here", "_law_level_here"] [] spDigit := D_law_digit.has fun _ _ F => ok_law_digit F T
  have h_law_zeros : Has l.prog w K mg base 1 "_law_zeros" ["_law_base_here", "_law_tick_here"] [] spZeros := D_law_zeros.has fun _ _ F => ok_law_zeros F 
  have h_law_place : Has l.prog w K mg base 2 "_law_place" ["_law_lists", "_law_base_here", "_law_levels_here", "_law_now", "_law_row"] [] (spPlace K) := D_law_place.has fun _ _ F => ok_law_place F T h_law_level h_law_digit
  have h_law_pass : Has l.prog w K mg base 3 "_law_pass" ["_law_lists", "_law_base_here", "_law_levels_here", "_law_tick_here"] [] (spPass K) := D_law_pass.has fun _ _ F => ok_law_pass F h_law_zeros h_law_digit h_law_place
  have h_law_next_event : Has l.prog w K mg base 1 "_law_next_event" ["_law_lists", "_law_base_here", "_law_now"] [] spNextEv := D_law_next_event.has fun _ _ F => ok_law_next_event F T
  have h_law_run : Has l.prog w K mg base 4 "_law_run" ["_law_lists", "_law_base_here", "_law_levels_here", "_law_now", "_law_last"] [] (spRun K) := D_law_run.has fun _ _ F => ok_law_run F T h_law_next_event h_law_pass
  have h_law_shown : Has l.prog w K mg base 1 "_law_shown" ["_law_lists"] [] spShown := D_law_shown.has fun _ _ F => ok_law_shown F T
  have h_law_dropped : Has l.prog w K mg base 1 "_law_dropped" ["_law_lists", "_law_number"] [] spDropped := D_law_dropped.has fun _ _ F => ok_dropped F T
  have h_law_copy : Has l.prog w K mg base 1 "_law_copy" ["_law_lists"] [] (spCopy K) := D_law_copy.has fun _ _ F => ok_copy03 F T
  have h_law_built : Has l.prog w K mg base 7 "_law_built" ["_law_source_here", "_law_base_here", "_law_levels_here", "_law_now"] [] (spBuilt C_) := D_law_built.has fun _ _ F => ok_built F T TW M_init MK_put M_advance h_law_next h_law_tick h_law_run h_law_place
  have h_law_looks_right : Has l.prog w K mg base 7 "_law_looks_right" ["_law_source_here", "_law_wheel", "_law_lists", "_law_base_here", "_law_levels_here", "_law_now", "_law_shared"] [] (spLooks C_) := D_law_looks_right.has fun _ _ F => ok_looks F T TW M_firing M_now M_lists_at M_lists h_law_run h_law_next h_law_shown h_law_copy
  have h_law_changed : Has l.prog w K mg base 5 "_law_changed" ["_law_source_here", "_law_wheel", "_law_lists", "_law_base_here", "_law_levels_here", "_law_now"] [] (spChanged C_) := D_law_changed.has fun _ _ F => ok_changed03 F T TW MK_put M_timers M_cancel M_reset h_law_next h_law_place h_law_dropped
  exact ok_law (fun_mk (st := s_law) l_law c_law k_law) T TW h_law_source h_law_base h_law_levels h_law_tick h_law_built h_law_looks_right h_law_copy h_law_run h_restored h_law_changed M_advance M_snapshot M_timers
end Td
open PySem PySem.W PyProof.Rows in
set_option maxRecDepth 100000 in
set_option maxHeartbeats 0 in
theorem PySem.Challenge.cw_timerdeque_k03_looking_ahead_holds : PySem.Challenge.rw_timerdeque_k03_looking_ahead.Holds := by
  w_on; o_law; k_head; (case hw => w_witness2)
  k_fill
  refine L2.walk_of (l := PySem.Challenge.rw_timerdeque_k03_looking_ahead) (n := 63) (k := 8) (x := "_law_script") (CX := fun _ => L2.CX0) (sp := fun w => Td.spLaw _) rfl (by decide) rfl ⟨rfl, by decide, by decide⟩ (fun w h Y => PySem.W.kIn_of Y) ?F (fun _ _ a ns hl _ hS => ⟨a, ns, rfl, hS, hl, fun _ => rfl⟩) (fun _ _ _ _ _ h => h)
  case F =>
    intro w mg fa h KX G hmg
    refine' Td.all_mk KX G hmg ?a_wall ?l_wall ?c_wall ?k_wall ?a_is_integer ?l_is_integer ?c_is_integer ?k_is_integer ?a_is_word ?l_is_word ?c_is_word ?k_is_word ?a_is_base ?l_is_base ?c_is_base ?k_is_base ?a_is_length ?l_is_length ?c_is_length ?k_is_length ?a_are_levels ?l_are_levels ?c_are_levels ?k_are_levels ?a_is_tick ?l_is_tick ?t_is_tick ?c_is_tick ?k_is_tick ?a_is_period ?l_is_period ?c_is_period ?k_is_period ?a_check_base ?l_check_base ?c_check_base ?k_check_base ?a_check_levels ?l_check_levels ?c_check_levels ?k_check_levels ?a_check_tick ?l_check_tick ?t_check_tick ?c_check_tick ?k_check_tick ?a_word_at ?l_word_at ?c_word_at ?k_word_at ?a_level_and_size ?l_level_and_size ?c_level_and_size ?k_level_and_size ?a_path ?l_path ?c_path ?k_path ?a_goes_in_front ?l_goes_in_front ?c_goes_in_front ?k_goes_in_front ?a_with_timer ?l_with_timer ?c_with_timer ?k_with_timer ?a_firing_order ?l_firing_order ?c_firing_order ?k_firing_order ?a_without_repeats ?l_without_repeats ?c_without_repeats ?k_without_repeats ?a_check_period ?l_check_period ?c_check_period ?k_check_period ?a_order_of_firing ?l_order_of_firing ?c_order_of_firing ?k_order_of_firing ?a_standing ?l_standing ?c_standing ?k_standing ?a_least_due ?l_least_due ?c_least_due ?k_least_due ?a_after_firing ?l_after_firing ?c_after_firing ?k_after_firing ?a_is_row ?l_is_row ?c_is_row ?k_is_row ?a_is_snapshot ?l_is_snapshot ?c_is_snapshot ?k_is_snapshot ?a_restored ?l_restored ?c_restored ?k_restored ?a_law_cell_at ?l_law_cell_at ?c_law_cell_at ?k_law_cell_at ?a_law_mixed ?l_law_mixed ?c_law_mixed ?k_law_mixed ?a_law_source ?l_law_source ?c_law_source ?k_law_source ?a_law_next ?l_law_next ?c_law_next ?k_law_next ?a_law_base ?l_law_base ?c_law_base ?k_law_base ?a_law_levels ?l_law_levels ?c_law_levels ?k_law_levels ?a_law_tick ?l_law_tick ?c_law_tick ?k_law_tick ?a_law_level ?l_law_level ?c_law_level ?k_law_level ?a_law_digit ?l_law_digit ?c_law_digit ?k_law_digit ?a_law_zeros ?l_law_zeros ?c_law_zeros ?k_law_zeros ?a_law_place ?l_law_place ?c_law_place ?k_law_place ?a_law_pass ?l_law_pass ?c_law_pass ?k_law_pass ?a_law_shown ?l_law_shown ?c_law_shown ?k_law_shown ?a_law_dropped ?l_law_dropped ?c_law_dropped ?k_law_dropped ?a_law_next_event ?l_law_next_event ?c_law_next_event ?k_law_next_event ?a_law_run ?l_law_run ?c_law_run ?k_law_run ?a_law_copy ?l_law_copy ?c_law_copy ?k_law_copy ?a_law_built ?l_law_built ?c_law_built ?k_law_built ?a_law_looks_right ?l_law_looks_right ?c_law_looks_right ?k_law_looks_right ?a_law_changed ?l_law_changed ?c_law_changed ?k_law_changed ?a_law ?l_law ?c_law ?k_law ?a_Wheel ?a_m_init ?i_m_init ?l_m_init ?c_m_init ?k_m_init ?d_m_init ?a_m_check_timer ?i_m_check_timer ?l_m_check_timer ?c_m_check_timer ?k_m_check_timer ?a_m_now ?i_m_now ?l_m_now ?c_m_now ?k_m_now ?a_m_put ?i_m_put ?l_m_put ?c_m_put ?k_m_put ?d_m_put ?a_m_cancel ?i_m_cancel ?l_m_cancel ?c_m_cancel ?k_m_cancel ?a_m_reset ?i_m_reset ?l_m_reset ?c_m_reset ?k_m_reset ?a_m_timers ?i_m_timers ?l_m_timers ?c_m_timers ?k_m_timers ?a_m_advance ?i_m_advance ?l_m_advance ?c_m_advance ?k_m_advance ?a_m_lists ?i_m_lists ?l_m_lists ?c_m_lists ?k_m_lists ?a_m_lists_at ?i_m_lists_at ?l_m_lists_at ?c_m_lists_at ?k_m_lists_at ?a_m_firing ?i_m_firing ?l_m_firing ?c_m_firing ?k_m_firing ?a_m_restoring ?i_m_restoring ?l_m_restoring ?c_m_restoring ?k_m_restoring ?a_m_snapshot ?i_m_snapshot ?l_m_snapshot ?c_m_snapshot ?k_m_snapshot ?pg ?hd ?po ?sa ?mkC ?kc ?n_base ?n_words ?n_tick ?n_following ?n_live ?z_isinstance ?z_int ?z_bool ?z_str ?z_all ?z_list ?z_len ?z_min ?z_sorted ?z_dict ?z_tuple ?z_set ?z_range ?z_max ?a_WORDS ?l_WORDS ?a_MOST_LEVELS ?a_MOST_FIRINGS
    (case a_wall => k_is)
    (case l_wall => k_is)
    (case c_wall => k_is)
    (case k_wall => k_is)
    (case a_is_integer => k_is)
    (case l_is_integer => k_is)
    (case c_is_integer => k_is)
    (case k_is_integer => k_is)
    (case a_is_word => k_is)
    (case l_is_word => k_is)
    (case c_is_word => k_is)
    (case k_is_word => k_is)
    (case a_is_base => k_is)
    (case l_is_base => k_is)
    (case c_is_base => k_is)
    (case k_is_base => k_is)
    (case a_is_length => k_is)
    (case l_is_length => k_is)
    (case c_is_length => k_is)
    (case k_is_length => k_is)
    (case a_are_levels => k_is)
    (case l_are_levels => k_is)
    (case c_are_levels => k_is)
    (case k_are_levels => k_is)
    (case a_is_tick => k_is)
    (case l_is_tick => k_is)
    (case t_is_tick => k_is)
    (case c_is_tick => k_is)
    (case k_is_tick => k_is)
    (case a_is_period => k_is)
    (case l_is_period => k_is)
    (case c_is_period => k_is)
    (case k_is_period => k_is)
    (case a_check_base => k_is)
    (case l_check_base => k_is)
    (case c_check_base => k_is)
    (case k_check_base => k_is)
    (case a_check_levels => k_is)
    (case l_check_levels => k_is)
    (case c_check_levels => k_is)
    (case k_check_levels => k_is)
    (case a_check_tick => k_is)
    (case l_check_tick => k_is)
    (case t_check_tick => k_is)
    (case c_check_tick => k_is)
    (case k_check_tick => k_is)
    (case a_word_at => k_is)
    (case l_word_at => k_is)
    (case c_word_at => k_is)
    (case k_word_at => k_is)
    (case a_level_and_size => k_is)
    (case l_level_and_size => k_is)
    (case c_level_and_size => k_is)
    (case k_level_and_size => k_is)
    (case a_path => k_is)
    (case l_path => k_is)
    (case c_path => k_is)
    (case k_path => k_is)
    (case a_goes_in_front => k_is)
    (case l_goes_in_front => k_is)
    (case c_goes_in_front => k_is)
    (case k_goes_in_front => k_is)
    (case a_with_timer => k_is)
    (case l_with_timer => k_is)
    (case c_with_timer => k_is)
    (case k_with_timer => k_is)
    (case a_firing_order => k_is)
    (case l_firing_order => k_is)
    (case c_firing_order => k_is)
    (case k_firing_order => k_is)
    (case a_without_repeats => k_is)
    (case l_without_repeats => k_is)
    (case c_without_repeats => k_is)
    (case k_without_repeats => k_is)
    (case a_check_period => k_is)
    (case l_check_period => k_is)
    (case c_check_period => k_is)
    (case k_check_period => k_is)
    (case a_order_of_firing => k_is)
    (case l_order_of_firing => k_is)
    (case c_order_of_firing => k_is)
    (case k_order_of_firing => k_is)
    (case a_standing => k_is)
    (case l_standing => k_is)
    (case c_standing => k_is)
    (case k_standing => k_is)
    (case a_least_due => k_is)
    (case l_least_due => k_is)
    (case c_least_due => k_is)
    (case k_least_due => k_is)
    (case a_after_firing => k_is)
    (case l_after_firing => k_is)
    (case c_after_firing => k_is)
    (case k_after_firing => k_is)
    (case a_is_row => k_is)
    (case l_is_row => k_is)
    (case c_is_row => k_is)
    (case k_is_row => k_is)
    (case a_is_snapshot => k_is)
    (case l_is_snapshot => k_is)
    (case c_is_snapshot => k_is)
    (case k_is_snapshot => k_is)
    (case a_restored => k_is)
    (case l_restored => k_is)
    (case c_restored => k_is)
    (case k_restored => k_is)
    (case a_law_cell_at => k_is)
    (case l_law_cell_at => k_is)
    (case c_law_cell_at => k_is)
    (case k_law_cell_at => k_is)
    (case a_law_mixed => k_is)
    (case l_law_mixed => k_is)
    (case c_law_mixed => k_is)
    (case k_law_mixed => k_is)
    (case a_law_source => k_is)
    (case l_law_source => k_is)
    (case c_law_source => k_is)
    (case k_law_source => k_is)
    (case a_law_next => k_is)
    (case l_law_next => k_is)
    (case c_law_next => k_is)
    (case k_law_next => k_is)
    (case a_law_base => k_is)
    (case l_law_base => k_is)
    (case c_law_base => k_is)
    (case k_law_base => k_is)
    (case a_law_levels => k_is)
    (case l_law_levels => k_is)
    (case c_law_levels => k_is)
    (case k_law_levels => k_is)
    (case a_law_tick => k_is)
    (case l_law_tick => k_is)
    (case c_law_tick => k_is)
    (case k_law_tick => k_is)
    (case a_law_level => k_is)
    (case l_law_level => k_is)
    (case c_law_level => k_is)
    (case k_law_level => k_is)
    (case a_law_digit => k_is)
    (case l_law_digit => k_is)
    (case c_law_digit => k_is)
    (case k_law_digit => k_is)
    (case a_law_zeros => k_is)
    (case l_law_zeros => k_is)
    (case c_law_zeros => k_is)
    (case k_law_zeros => k_is)
    (case a_law_place => k_is)
    (case l_law_place => k_is)
    (case c_law_place => k_is)
    (case k_law_place => k_is)
    (case a_law_pass => k_is)
    (case l_law_pass => k_is)
    (case c_law_pass => k_is)
    (case k_law_pass => k_is)
    (case a_law_shown => k_is)
    (case l_law_shown => k_is)
    (case c_law_shown => k_is)
    (case k_law_shown => k_is)
    (case a_law_dropped => k_is)
    (case l_law_dropped => k_is)
    (case c_law_dropped => k_is)
    (case k_law_dropped => k_is)
    (case a_law_next_event => k_is)
    (case l_law_next_event => k_is)
    (case c_law_next_event => k_is)
    (case k_law_next_event => k_is)
    (case a_law_run => k_is)
    (case l_law_run => k_is)
    (case c_law_run => k_is)
    (case k_law_run => k_is)
    (case a_law_copy => k_is)
    (case l_law_copy => k_is)
    (case c_law_copy => k_is)
    (case k_law_copy => k_is)
    (case a_law_built => k_is)
    (case l_law_built => k_is)
    (case c_law_built => k_is)
    (case k_law_built => k_is)
    (case a_law_looks_right => k_is)
    (case l_law_looks_right => k_is)
    (case c_law_looks_right => k_is)
    (case k_law_looks_right => k_is)
    (case a_law_changed => k_is)
    (case l_law_changed => k_is)
    (case c_law_changed => k_is)
    (case k_law_changed => k_is)
    (case a_law => k_is)
    (case l_law => k_is)
    (case c_law => k_is)
    (case k_law => k_is)
    (case a_Wheel => k_is)
    (case a_m_init => k_is)
    (case i_m_init => k_is)
    (case l_m_init => k_is)
    (case c_m_init => k_is)
    (case k_m_init => k_is)
    (case d_m_init => k_is)
    (case a_m_check_timer => k_is)
    (case i_m_check_timer => k_is)
    (case l_m_check_timer => k_is)
    (case c_m_check_timer => k_is)
    (case k_m_check_timer => k_is)
    (case a_m_now => k_is)
    (case i_m_now => k_is)
    (case l_m_now => k_is)
    (case c_m_now => k_is)
    (case k_m_now => k_is)
    (case a_m_put => k_is)
    (case i_m_put => k_is)
    (case l_m_put => k_is)
    (case c_m_put => k_is)
    (case k_m_put => k_is)
    (case d_m_put => k_is)
    (case a_m_cancel => k_is)
    (case i_m_cancel => k_is)
    (case l_m_cancel => k_is)
    (case c_m_cancel => k_is)
    (case k_m_cancel => k_is)
    (case a_m_reset => k_is)
    (case i_m_reset => k_is)
    (case l_m_reset => k_is)
    (case c_m_reset => k_is)
    (case k_m_reset => k_is)
    (case a_m_timers => k_is)
    (case i_m_timers => k_is)
    (case l_m_timers => k_is)
    (case c_m_timers => k_is)
    (case k_m_timers => k_is)
    (case a_m_advance => k_is)
    (case i_m_advance => k_is)
    (case l_m_advance => k_is)
    (case c_m_advance => k_is)
    (case k_m_advance => k_is)
    (case a_m_lists => k_is)
    (case i_m_lists => k_is)
    (case l_m_lists => k_is)
    (case c_m_lists => k_is)
    (case k_m_lists => k_is)
    (case a_m_lists_at => k_is)
    (case i_m_lists_at => k_is)
    (case l_m_lists_at => k_is)
    (case c_m_lists_at => k_is)
    (case k_m_lists_at => k_is)
    (case a_m_firing => k_is)
    (case i_m_firing => k_is)
    (case l_m_firing => k_is)
    (case c_m_firing => k_is)
    (case k_m_firing => k_is)
    (case a_m_restoring => k_is)
    (case i_m_restoring => k_is)
    (case l_m_restoring => k_is)
    (case c_m_restoring => k_is)
    (case k_m_restoring => k_is)
    (case a_m_snapshot => k_is)
    (case i_m_snapshot => k_is)
    (case l_m_snapshot => k_is)
    (case c_m_snapshot => k_is)
    (case k_m_snapshot => k_is)
    (case pg => k_is)
    (case hd => k_is)
    (case po => k_is)
    (case sa => k_is)
    (case mkC => k_is)
    (case kc => k_is)
    (case n_base => k_is)
    (case n_words => k_is)
    (case n_tick => k_is)
    (case n_following => k_is)
    (case n_live => k_is)
    (case z_isinstance => k_is)
    (case z_int => k_is)
    (case z_bool => k_is)
    (case z_str => k_is)
    (case z_all => k_is)
    (case z_list => k_is)
    (case z_len => k_is)
    (case z_min => k_is)
    (case z_sorted => k_is)
    (case z_dict => k_is)
    (case z_tuple => k_is)
    (case z_set => k_is)
    (case z_range => k_is)
    (case z_max => k_is)
    (case a_WORDS => k_is)
    (case l_WORDS => k_is)
    (case a_MOST_LEVELS => k_is)
    (case a_MOST_FIRINGS => k_is)
