import PyProof.Rows.All
import Wide.All
import OpenK.AllK
import Wide.FinOn
import HandS.ForMost
import HandS.IsInst
import HandS.Wide
import HandS.WideBits
import HandS.Defaults
import HandS.Zip
import HandS.Flow
import HandS.SortKw
import HandS.SortOrd
import HandS.Conv
import HandS.More
import HandS.Small
import KE.DatumOrd
import HandS.DictTup
import PyProof.DictMoreH
import HandS.MakeKwOnly
import HandS.Style
import HandS.Iter
import HandS.WordsDict
import HandS.DictComp
import PyProof.InstNe
import HandS.Rev
import HandS.TupMul
import HandS.Exc
import HandS.ExcOwn
import HandS.ExcIs
import HandS.TryOnly
import HandS.WordsExc
import PySem.Challenge.RW_timerdeque_k08_what_are_no_snapshots
set_option Elab.async false
set_option linter.all false
set_option maxRecDepth 100000
set_option maxHeartbeats 4000000
set_option exponentiation.threshold 10000
namespace Td
open PySem PySem.Spec PyProof.Rows L2
/-! ### small things: promises by name, heaps, numbers -/
section
variable {P : Program} {w : World} {K : PySem.W.Frag} {mg : Str → Option Value} {base : Heap}
/-- the module's name x holds a def that keeps the promise sp, its last parameters filled up by dvs -/
def Has (P : Program) (w : World) (K : PySem.W.Frag) (mg : Str → Option Value) (base : Heap) (k : Nat) (x : Str) (ps : List Str) (dvs : List V) (sp : Sp) : Prop :=
  ∃ (f : Addr) (fd : FuncData) (ds : List Value), FnOk P w K mg base CX0 k f fd ps sp ∧ mg x = some (.ref f) ∧ PySem.W.keepIn K (.ref f) = true ∧ Binds K fd ps ds ∧ Vals dvs ds
/-- what the top says of a def without defaults -/
def Df (K : PySem.W.Frag) (mg : Str → Option Value) (x : Str) (st : Stmt) (ps : List Str) : Prop :=
  ∃ (f : Addr) (fd : FuncData), Fun K x x st f fd ∧ mg x = some (.ref f) ∧ Binds K fd ps []
theorem Df.has {k : Nat} {x : Str} {st : Stmt} {ps : List Str} {sp : Sp} (D : Df K mg x st ps) (ok : ∀ f fd, Fun K x x st f fd → FnOk P w K mg base CX0 k f fd ps sp) : Has P w K mg base k x ps [] sp := by
  obtain ⟨f, fd, F, m, b⟩ := D
  exact ⟨f, fd, [], ok f fd F, m, F.kp, b, .nil⟩
/-- a def with one default, the last parameter's -/
def Dd (K : PySem.W.Frag) (mg : Str → Option Value) (x : Str) (st : Stmt) (ps : List Str) (d : V) : Prop :=
  ∃ (f : Addr) (fd : FuncData), FunD K x x (defArgs st) (defBody st) (defScope st) [d] [] f fd ∧ mg x = some (.ref f) ∧ (∃ ds, Vals [d] ds ∧ Binds K fd ps ds) ∧ Binds K fd ps []
theorem Dd.has {k : Nat} {x : Str} {st : Stmt} {ps : List Str} {d : V} {sp : Sp} (D : Dd K mg x st ps d) (ok : ∀ f fd, FunD K x x (defArgs st) (defBody st) (defScope st) [d] [] f fd → FnOk P w K mg base CX0 k f fd ps sp) :
    Has P w K mg base k x ps [d] sp ∧ Has P w K mg base k x ps [] sp := by
  obtain ⟨f, fd, F, m, ⟨ds, r, b⟩, b0⟩ := D
  exact ⟨⟨f, fd, ds, ok f fd F, m, F.kp, b, r⟩, ⟨f, fd, [], ok f fd F, m, F.kp, b0, .nil⟩⟩
end
section
variable {X : Cx}
/-- a product of which one side is small, or both are not too great -/
def CMulA (i j : Int) : Prop := IntMulOk i j
theorem op_mulA : OpR X (binaryOp .Mult) (rI CMulA fun i j => .int (i * j)) := opI fun _ _ _ _ _ _ _ hc q => mul_int q hc
end
/-! x *= e, ints -/
section
variable {X : Cx}
def ipC (C : Int → Int → Prop) (f : Int → Int → Int) : TIp := fun x y H Q => ∃ i j, x = .int i ∧ y = .int j ∧ C i j ∧ Q (.int (f i j)) H
theorem ip_mulA : PIp X .Mult (ipC CMulA fun i j => i * j) := by
  intro pins s σ H x y v u Q I r1 r2 h
  obtain ⟨i, j, rfl, rfl, hm, q⟩ := h
  obtain ⟨t, rfl⟩ := r1
  obtain ⟨t', rfl⟩ := r2
  exact imul_int ⟨.int _, H, I.tok _, ⟨_, rfl⟩, q⟩ hm
end
theorem mul_l {i j : Int} (h1 : -(2 ^ 64) < i) (h2 : i < 2 ^ 64) : CMulA i j := CMul.ok (.inl ⟨h1, h2⟩)
theorem mul_r {i j : Int} (h1 : -(2 ^ 64) < j) (h2 : j < 2 ^ 64) : CMulA i j := CMul.ok (.inr ⟨h1, h2⟩)
theorem mul_w {i j : Int} (a b : Nat) (ha : i.natAbs < 2 ^ a) (hb : j.natAbs < 2 ^ b) (h0 : 0 < a := by decide) (h1 : 0 < b := by decide) (h : a + b ≤ 1000000 := by decide) : CMulA i j := (wide_mul ha hb h0 h1 h).ok
theorem div_s {i j : Int} (h : 0 < j) (h2 : j < 2 ^ 300) : CDivW i j := wide_div (b := 300) h (by omega) (by decide) (by decide)
theorem div_b {i j : Int} (b : Nat) (h : 0 < j) (h2 : j < 2 ^ b) (h0 : 0 < b := by decide) (h9 : b ≤ 9000 := by decide) : CDivW i j := by
  refine wide_div (b := b) h ?_ h0 h9
  have e : ((2 ^ b : Nat) : Int) = (2 : Int) ^ b := by
    rw [Int.natCast_pow]
    rfl
  omega
theorem same_upd {H : Hp} {p : Addr} {o : HO} (h : H p = none) : Same H (upd H p o) := fun b x e => by
  rw [upd_ne (ne_of_none e h)]
  exact e
theorem sizeLine_ge {n : Nat} (h : n ≤ 1000000) : n < sizeLine := by
  rw [sizeLine_eq]
  omega
theorem sizeLine_le {n : Nat} (h : n ≤ 1000000) : n ≤ sizeLine := Nat.le_of_lt (sizeLine_ge h)
theorem pos_of {a c : Nat} (h : a ≤ c) (n : ¬ a = c) : 0 < c := by omega
/-! ### operators on numbers that are not negative -/
def rN (C : Nat → Nat → Prop) (g : Nat → Nat → Nat) : R2 := fun x y H Q => ∃ a b : Nat, x = .int (a : Nat) ∧ y = .int (b : Nat) ∧ C a b ∧ Q (.int ((g a b : Nat) : Int)) H
section
variable {X : Cx}
theorem opN {f : Value → Value → Sem Value} {C : Nat → Nat → Prop} {g : Nat → Nat → Nat} {CI : Int → Int → Prop} {gI : Int → Int → V} (h : OpR X f (rI CI gI)) (e : ∀ a b : Nat, C a b → CI (a : Nat) (b : Nat) ∧ gI (a : Nat) (b : Nat) = .int ((g a b : Nat) : Int)) : OpR X f (rN C g) := by
  intro pins s σ H x y v u Q I rx ry hq
  obtain ⟨a, b, ex, ey, hc, q⟩ := hq
  obtain ⟨h1, h2⟩ := e a b hc
  exact h pins s σ H x y v u Q I rx ry ⟨_, _, ex, ey, h1, by rw [h2]; exact q⟩
theorem opN0 {f : Value → Value → Sem Value} {C : Nat → Nat → Prop} {g : Nat → Nat → Nat} {gI : Int → Int → V} (h : OpR X f (rI0 gI)) (e : ∀ a b : Nat, C a b → gI (a : Nat) (b : Nat) = .int ((g a b : Nat) : Int)) : OpR X f (rN C g) := by
  intro pins s σ H x y v u Q I rx ry hq
  obtain ⟨a, b, ex, ey, hc, q⟩ := hq
  exact h pins s σ H x y v u Q I rx ry ⟨_, _, ex, ey, by rw [e a b hc]; exact q⟩
def NDiv (_ b : Nat) : Prop := 0 < b ∧ b < 2 ^ 9000
def NMod (_ b : Nat) : Prop := 0 < b
def NSub (a b : Nat) : Prop := b ≤ a
def NMul (a b : Nat) : Prop := IntMulOk (a : Int) (b : Int)
def NAny (_ _ : Nat) : Prop := True
theorem op_divN : OpR X (binaryOp .FloorDiv) (rN NDiv fun a b => a / b) := opN op_fdivW fun a b h => ⟨wide_div (b := 9000) (Int.natCast_pos.mpr h.1) h.2 (by decide) (Nat.le_refl _), rfl⟩
theorem op_remN : OpR X (binaryOp .Mod) (rN NMod fun a b => a % b) := opN op_mod fun a b h => ⟨Int.natCast_pos.mpr h, rfl⟩
theorem op_mulN : OpR X (binaryOp .Mult) (rN NMul fun a b => a * b) := opN op_mulA fun a b h => ⟨h, congrArg V.int (Int.natCast_mul a b).symm⟩
theorem op_addN : OpR X (binaryOp .Add) (rN NAny fun a b => a + b) := opN0 op_add fun _ _ _ => rfl
theorem op_subN : OpR X (binaryOp .Sub) (rN NSub fun a b => a - b) := opN0 op_sub fun a b h => congrArg V.int (Int.natCast_sub h).symm
end
theorem ndiv {a b : Nat} (t : Nat) (h : 0 < b) (h2 : b < 2 ^ t) (ht : t ≤ 9000 := by decide) : NDiv a b := ⟨h, Nat.lt_of_lt_of_le h2 (Nat.pow_le_pow_right (by decide) ht)⟩
theorem nmul_l {a b : Nat} (h : a < 2 ^ 64) : NMul a b := mul_l (by omega) (by omega)
theorem nmul_r {a b : Nat} (h : b < 2 ^ 64) : NMul a b := mul_r (by omega) (by omega)
theorem nmul_w {a b : Nat} (i j : Nat) (ha : a < 2 ^ i) (hb : b < 2 ^ j) (h0 : 0 < i := by decide) (h1 : 0 < j := by decide) (h : i + j ≤ 1000000 := by decide) : NMul a b := mul_w i j ha hb h0 h1 h
theorem int_ne {a b : Nat} (h : a ≠ b) : decide (V.int (a : Nat) = V.int (b : Nat)) = false := decide_eq_false fun e => h (Int.ofNat.inj (V.int.inj e))
theorem dT {p : Prop} [Decidable p] (h : p) : V.bl (decide p) = V.bl true := congrArg V.bl (decide_eq_true h)
theorem dF {p : Prop} [Decidable p] (h : ¬ p) : V.bl (decide p) = V.bl false := congrArg V.bl (decide_eq_false h)
theorem nT {p : Prop} [Decidable p] (h : ¬ p) : V.bl (!decide p) = V.bl true := congrArg V.bl (congrArg (!·) (decide_eq_false h))
theorem nF {p : Prop} [Decidable p] (h : p) : V.bl (!decide p) = V.bl false := congrArg V.bl (congrArg (!·) (decide_eq_true h))
theorem vN {a b : Nat} (h : a ≠ b) : ¬ V.int (a : Nat) = V.int (b : Nat) := fun e => h (Int.ofNat.inj (V.int.inj e))
theorem vE {a b : Nat} (h : a = b) : V.int (a : Nat) = V.int (b : Nat) := congrArg (fun c : Nat => V.int (c : Nat)) h
theorem vI {a b : Int} (h : a ≠ b) : ¬ V.int a = V.int b := fun e => h (V.int.inj e)
/-! ### rules with the written part named (within a comprehension's block) -/
section
variable {X : Cx} {K : PySem.W.Frag}
theorem ix_tupK (e : X.K = K) : IxR X (rIxT K) := by subst e; exact ix_tup
theorem ix_listK (e : X.K = K) : IxR X (rIxL K) := by subst e; exact ix_list
theorem sl_tupK (e : X.K = K) : SlR X (rSlT K) := by subst e; exact sl_tup
theorem sl_listK (e : X.K = K) : SlR X (rSlL K) := by subst e; exact sl_list
theorem op_eqK (e : X.K = K) (hu : X.A.units + 64 < cLine) : OpR X (compareOp .Eq) (rEqD K) := by subst e; exact op_eqD hu
theorem op_neK (e : X.K = K) (hu : X.A.units + 64 < cLine) : OpR X (compareOp .NotEq) (rNeD K) := by subst e; exact op_neD hu
theorem isiK (e : X.K = K) : CallR X (.builtin "isinstance") (rIsi K) := by subst e; exact call_isi
def rLenK (K : PySem.W.Frag) : List V → Hp → VK → Prop := fun xs H Q => ∃ p ys, xs = [.ref p] ∧ (SqL K H p ys ∨ SqT K H p ys) ∧ Q (.int ys.length) H
theorem lenK (e : X.K = K) : CallR X (.builtin "len") (rLenK K) := by subst e; exact call_len_seq
theorem allK (e : X.K = K) (hc : X.calm = true) : CallR X (.builtin "all") (rAll K) := by subst e; exact cr_all hc
theorem sumK (e : X.K = K) (hc : X.calm = true) : CallR X (.builtin "sum") (rSum K) := by subst e; exact cr_sum hc
theorem maxK (e : X.K = K) (hc : X.calm = true) : CallR X (.builtin "max") (rMax K) := by subst e; exact cr_max hc
theorem minK (e : X.K = K) (hc : X.calm = true) : CallR X (.builtin "min") (rMin K) := by subst e; exact cr_min hc
theorem anyK (e : X.K = K) (hc : X.calm = true) : CallR X (.builtin "any") (rAny K) := by subst e; exact cr_any hc
end
section
variable {X : Cx} {K : PySem.W.Frag}
theorem ix_ltK (e : X.K = K) : IxR X (fun x y H Q => rIxL K x y H Q ∨ rIxT K x y H Q) := by subst e; exact ix_list.or ix_tup
theorem pe_orTK {a b : Expr} {ta tb : TE} {rest : List Expr} {pos : Pos} (e : X.K = K) (ha : PE X a ta) (hb : PE X (.BoolOp .Or (b :: rest) pos) tb) : PE X (.BoolOp .Or (a :: b :: rest) pos) (tOrT K ta tb) := by subst e; exact pe_orT ha hb
end
theorem yesT {σ : L2.St} {H : Hp} {Q : Bool → Hp → Prop} (h : Q true H) : tYes σ H Q := h
section
variable {X : Cx} {K : PySem.W.Frag}
theorem pg_tupK {es : List Expr} {k : Nat} {t : TGs} {n : Nat} {pos : Pos} (e : X.K = K) (hc : X.calm = true) (h : PGs X es t)
    (hn : (assignEach es X.env).length = n := by rfl) (hst : (assignEach es X.env).findIdx? (·.1) = none := by rfl) : PG X (.Tuple es k pos) (gTup K n t) := by
  subst e
  exact pg_tup hc h hn hst
end
theorem tyx_list {K : PySem.W.Frag} {H : Hp} {a : Addr} {xs : List V} (h : SqL K H a xs) : TyX K H (.ref a) (.type "list") := by
  rcases h with (h | ⟨o, h⟩) | ⟨o, its, n, h, hc, _⟩
  · exact .base (.lst h)
  · exact .base (.frz h)
  · exact .kList h hc
/-- max and min of two numbers that are not negative -/
def rNN (g : Nat → Nat → Nat) : List V → Hp → VK → Prop := fun xs H Q => ∃ a b : Nat, xs = [.int (a : Nat), .int (b : Nat)] ∧ Q (.int ((g a b : Nat) : Int)) H
section
variable {X : Cx}
theorem max2N (hc : X.calm = true) : CallR X (.builtin "max") (rNN max) := by
  intro pins s σ H xs us Q I r h
  obtain ⟨a, b, rfl, q⟩ := h
  refine call_max2 hc pins s σ H _ us Q I r ⟨_, _, rfl, ?_⟩
  have e : (if (b : Int) > (a : Int) then (b : Int) else (a : Int)) = ((max a b : Nat) : Int) := by split <;> omega
  rw [e]
  exact q
theorem max0N (hc : X.calm = true) : CallR X (.builtin "max") (fun xs H Q => ∃ (z : Int) (n : Nat), xs = [.int 0, .int z] ∧ (if z > 0 then z else 0) = (n : Int) ∧ Q (.int (n : Nat)) H) := by
  intro pins s σ H xs us Q I r h
  obtain ⟨z, n, rfl, e, q⟩ := h
  refine call_max2 hc pins s σ H _ us Q I r ⟨0, z, rfl, ?_⟩
  rw [e]
  exact q
theorem min2N (hc : X.calm = true) : CallR X (.builtin "min") (rNN min) := by
  intro pins s σ H xs us Q I r h
  obtain ⟨a, b, rfl, q⟩ := h
  refine call_min2 hc pins s σ H _ us Q I r ⟨_, _, rfl, ?_⟩
  have e : (if (b : Int) < (a : Int) then (b : Int) else (a : Int)) = ((min a b : Nat) : Int) := by split <;> omega
  rw [e]
  exact q
end
/-- one rest behind several ways -/
theorem cut_at {α : Type} {I : α → Hp → Prop} {G : Prop} (R : α → Hp → Prop) (h1 : (∀ a H, I a H → R a H) → G) (h2 : ∀ a H, I a H → R a H) : G := h1 h2
theorem cut_rest {I : Hp → Prop} {G : Prop} (R : Hp → Prop) (h1 : (∀ H, I H → R H) → G) (h2 : ∀ H, I H → R H) : G := h1 h2
/-! ### rules that the layer lacks: min(.., default=None), sorted of a dict with pairs of ints as its keys -/
theorem minOf_spec : ∀ (x : Int) (xs : List Int), PySem.W.minOf x xs ∈ x :: xs ∧ ∀ y ∈ x :: xs, PySem.W.minOf x xs ≤ y := by
  intro x xs
  unfold PySem.W.minOf
  induction xs generalizing x with
  | nil =>
    refine ⟨List.mem_cons_self .., fun y hy => ?_⟩
    rcases List.mem_cons.mp hy with e | hy
    · rw [e]
      exact Int.le_refl _
    · cases hy
  | cons z zs ih =>
    have e : (PySem.W.DatumOrd.lt z x = true) ↔ z < x := by
      show decide (z < x) = true ↔ z < x
      exact decide_eq_true_iff
    rw [List.foldl_cons]
    obtain ⟨h1, h2⟩ := ih (if PySem.W.DatumOrd.lt z x = true then z else x)
    refine ⟨?_, fun y hy => ?_⟩
    · rcases List.mem_cons.mp h1 with e1 | h1
      · rw [e1]
        split
        · exact List.mem_cons_of_mem _ (List.mem_cons_self ..)
        · exact List.mem_cons_self ..
      · exact List.mem_cons_of_mem _ (List.mem_cons_of_mem _ h1)
    · have h3 := h2 _ (List.mem_cons_self ..)
      rcases List.mem_cons.mp hy with e1 | hy
      · rw [e1]
        by_cases c : z < x
        · rw [if_pos (e.mpr c)] at h3 ⊢
          omega
        · rw [if_neg (fun q => c (e.mp q))] at h3 ⊢
          exact h3
      · rcases List.mem_cons.mp hy with e1 | hy
        · rw [e1]
          by_cases c : z < x
          · rw [if_pos (e.mpr c)] at h3 ⊢
            exact h3
          · rw [if_neg (fun q => c (e.mp q))] at h3 ⊢
            omega
        · exact h2 y (List.mem_cons_of_mem _ hy)
def rMinD (K : PySem.W.Frag) : List V → List V → Hp → VK → Prop := fun vs zs H Q => ∃ (a : Addr) (ns : List Int), vs = [V.ref a] ∧ zs = [.non] ∧ SqL K H a (ns.map V.int) ∧ (ns = [] → Q .non H) ∧ ∀ v ∈ ns, (∀ x ∈ ns, v ≤ x) → Q (.int v) H
section
variable {X : Cx} {K : PySem.W.Frag}
theorem minDef (e : X.K = K) (hc : X.calm = true) (hu : X.A.units + 64 < cLine) : CallRK X (.builtin "min") [Str.ofString "default"] (rMinD K) := by
  subst e
  intro pins s σ H vs zs us ws Q I r rz h
  obtain ⟨a, ns, rfl, rfl, hs, q0, q1⟩ := h
  obtain ⟨its, rv, hl, hz⟩ := I.list hs
  obtain ⟨w1, rfl, e1⟩ := vals1 rz
  obtain rfl : w1 = Value.none := e1
  rw [Vals.ref1 r]
  have hi := rv.ints
  refine PySem.W.min_list_datum_default (α := Int) (xs := ns) (I.ok.hd hc) hl.isList (PySem.W.HoldAll.of_ints hi) (by show X.A.units + 1 + 0 < cLine; omega) (fun en h' tk hk => ?_) (fun y ys i v h' tk en hv hh hk => ?_)
  · exact ⟨.non, H, I.kept hk, rfl, q0 en⟩
  · obtain ⟨as, hr⟩ := hh
    have hm := minOf_spec y ys
    have ev : ∃ t, v = Value.int (PySem.W.minOf y ys) t := by
      cases hr
      exact ⟨_, rfl⟩
    obtain ⟨t, rfl⟩ := ev
    subst en
    exact ⟨.int _, H, I.kept hk, ⟨_, rfl⟩, q1 _ hm.1 hm.2⟩
end
/-! ### sorted of a dict whose keys are pairs of whole numbers -/
def pairAt (H : Hp) : Value → Int × Int
  | .ref b => match H b with
    | some (.tup [.int i, .int j]) => (i, j)
    | _ => (0, 0)
  | _ => (0, 0)
theorem pairAt_of {H : Hp} {b : Addr} {i j : Int} (h : H b = some (.tup [.int i, .int j])) : pairAt H (.ref b) = (i, j) := by
  show (match H b with | some (.tup [.int i, .int j]) => (i, j) | _ => (0, 0)) = (i, j)
  rw [h]
def unRef : Value → Addr
  | .ref b => b
  | _ => 0
section
variable {X : Cx}
theorem call_sortedDT (hc : X.calm = true) : CallR X (.builtin "sorted") (fun xs H Q => ∃ (d : Addr) (kvs : List (List Key × V)) (ps : List (Int × Int)), xs = [V.ref d] ∧ Rd H d (.dT kvs) ∧ kvs.map (·.1) = ps.map (fun p => [Sum.inl p.1, Sum.inl p.2]) ∧
    ∀ (p : Addr) (bs : List Addr), H p = none → (bs.map fun b => pairAt H (.ref b)).Perm ps → (bs.map fun b => pairAt H (.ref b)).Pairwise (fun a b => SrtO.lexB b a = false) → (∀ b ∈ bs, H b = some (.tup [.int (pairAt H (.ref b)).1, .int (pairAt H (.ref b)).2])) → Q (.ref p) (upd H p (.lst (bs.map V.ref)))) := by
  intro pins s σ H xs us Q I r h
  obtain ⟨d, kvs, ps, rfl, hd, hps, q⟩ := h
  obtain ⟨u, rfl, rx⟩ := r.one
  cases rx
  obtain ⟨z, hs, ks, pr, o, es, ep, ho, hx, hdt, he, hn⟩ := (show ObjOk X.prog X.w H s.heap d (.dT kvs) from hd.ok I.hok)
  have l1 : es.size = ks.length := size_of_entries he
  have l2 : kvs.length = ks.length := Paired.length pr
  have ik : IsKeys H kvs (ks.map fun x => x.2.1) := isKeys_of pr
  -- what stands at the keys
  have keys : ∀ (kvs : List (List Key × V)) (ps : List (Int × Int)) (bs : List Addr), kvs.map (·.1) = ps.map (fun p => [Sum.inl p.1, Sum.inl p.2]) → IsKeys H kvs bs → bs.map (fun b => pairAt H (.ref b)) = ps ∧ ∀ b ∈ bs, H b = some (.tup [.int (pairAt H (.ref b)).1, .int (pairAt H (.ref b)).2]) := by
    intro kvs ps bs e1 e2
    induction e2 generalizing ps with
    | nil =>
      cases ps with
      | nil => exact ⟨rfl, fun b h => by cases h⟩
      | cons p ps => cases e1
    | cons h t ih =>
      cases ps with
      | nil => cases e1
      | cons p ps =>
        rw [List.map_cons, List.map_cons] at e1
        obtain ⟨e3, e4⟩ := List.cons.inj e1
        obtain ⟨i1, i2⟩ := ih ps e4
        rw [e3] at h
        have h' : H _ = some (.tup [.int p.1, .int p.2]) := h
        have hp := pairAt_of h'
        refine ⟨?_, fun b hb => ?_⟩
        · rw [List.map_cons, i1, hp]
        · rcases List.mem_cons.mp hb with e | hb
          · rw [e, hp]
            exact h'
          · exact i2 b hb
  obtain ⟨kp1, kp2⟩ := keys kvs ps _ hps ik
  refine Calls.call_function_entry PyProof.Rows.kind_sorted PyProof.Rows.plain_sorted PyProof.Rows.entry_sorted (PyProof.Rows.args_sorted1 _) ?_
  unfold Builtin.«sorted»
  refine wpAny_bind (m := checkCount "sorted" 1 1 _) (wpAny_pure ?_)
  refine wpAny_bind (PySem.W.kdu_collect (A := X.A.in1) (kdl_raw hs hx hdt) (I.ok.hd hc) ho (by omega) fun h' tk acc hk it => ?_)
  have ea : acc.toList = ks.map fun x => Value.ref x.2.1 := by
    have hl : acc.toList.length = ks.length := by rw [Array.length_toList, it.1]; exact l1
    apply List.ext_getElem?
    intro j
    rw [List.getElem?_map]
    cases hj : acc.toList[j]? with
    | none =>
      have h1 := List.getElem?_eq_none_iff.mp hj
      rw [List.getElem?_eq_none (by omega)]
      all_goals rfl
    | some v =>
      obtain ⟨en, hen, hv⟩ := it.2 j v (by rw [← Array.getElem?_toList]; exact hj)
      have qe := entry_at he j
      rw [hen] at qe
      cases hb : ks[j]? with
      | none =>
        rw [hb] at qe
        exact nomatch (show some en = none from qe)
      | some b =>
        rw [hb] at qe
        have e2 : en = entryOfKey (tupleKind (mixKind X.prog X.w)) b := Option.some.inj qe
        rw [hv, e2]
        all_goals rfl
  have I1 : Inv X pins σ H { s with heap := h', toks := tk } := I.kept hk
  have hal : acc.toList.length ≤ sizeLine := by
    rw [ea, List.length_map]
    omega
  refine wpAny_bind (wpAny_newList ?_ hal)
  have hoL : (h'.push (seqObj "list" acc.toList.toArray 0)).get? h'.objs.size = some (seqObj "list" acc.toList.toArray 0) := Heap.get?_push_size _ rfl
  show wpAny _ _ _ _ _ { s with heap := h'.push (seqObj "list" acc.toList.toArray 0), toks := tk }
  have hp : ∀ v ∈ acc.toList, Srt.IsPair (h'.push (seqObj "list" acc.toList.toArray 0)) v (pairAt H v).1 (pairAt H v).2 := fun v hv => by
    rw [ea] at hv
    obtain ⟨x, hxm, rfl⟩ := List.mem_map.mp hv
    have ht := kp2 x.2.1 (List.mem_map.mpr ⟨x, hxm, rfl⟩)
    obtain ⟨_, its2, r2, o2, ho2, hc2, n2, hd2⟩ := I1.hok _ _ ht
    obtain ⟨u1, u2, rfl, ri, rj⟩ := vals2 r2
    obtain ⟨t1, rfl⟩ := ri
    obtain ⟨t2, rfl⟩ := rj
    exact ⟨x.2.1, o2, t1, t2, n2, rfl, Heap.get?_push_of_some _ ho2, hc2, hd2⟩
  refine wpAny_bind (wpAny_holding (wpAny_call_entry PyProof.Rows.slot_list_sort ⟨_, hoL, rfl⟩ PyProof.Rows.entry_list_sort
    (SrtO.list_sort_ord (s := { s with heap := h'.push (seqObj "list" acc.toList.toArray 0), toks := tk }) (SrtO.swo_lex (pairAt H)) hoL hal (fun h2 => SrtO.pairs_sortableO (by omega) hp fun o e => ?_) fun out h1 h2 => ⟨_, rfl, ?_⟩) (PyProof.Rows.args_list_sort _)))
  · have e' : some o = some (seqObj "list" acc.toList.toArray 0) := e.symm.trans hoL
    cases e'
    intro c
    exact absurd (Value.type.inj c) (by decide)
  · obtain ⟨e', he'⟩ := PyProof.Rows.sortedHeap_at (vs := acc.toList) (out := out.toArray) hoL
    obtain ⟨bs, rfl, hbs⟩ : ∃ bs : List Addr, out = bs.map Value.ref ∧ bs.Perm (ks.map fun x => x.2.1) := by
      have hperm := h2.perm
      rw [ea] at hperm
      have e9 : (ks.map fun x => Value.ref x.2.1) = (ks.map fun x => x.2.1).map Value.ref := by rw [List.map_map]; rfl
      rw [e9] at hperm
      refine ⟨out.map unRef, ?_, ?_⟩
      · rw [List.map_map]
        have e11 : out.map (Value.ref ∘ unRef) = out.map id := List.map_congr_left fun v hv => by
          obtain ⟨b, _, rfl⟩ := List.mem_map.mp (hperm.mem_iff.mp hv)
          rfl
        rw [e11, List.map_id]
      · have z := hperm.map unRef
        rw [List.map_map] at z
        have e10 : ∀ l : List Addr, l.map (unRef ∘ Value.ref) = l := fun l => by
          induction l with
          | nil => rfl
          | cons a l ih => rw [List.map_cons, ih]; rfl
        rw [e10] at z
        exact z
    have hlen : (bs.map V.ref).length ≤ sizeLine := by
      rw [List.length_map, hbs.length_eq, List.length_map]
      omega
    have hkeys : (bs.map fun b => pairAt H (.ref b)).Perm ps := by
      have z := hbs.map fun b => pairAt H (.ref b)
      rw [kp1] at z
      exact z
    have hsort : (bs.map fun b => pairAt H (.ref b)).Pairwise (fun a b => SrtO.lexB b a = false) := by
      rw [List.pairwise_map]
      exact List.pairwise_map.mp h1
    refine wpAny_pure ⟨_, rfl, .ref h'.objs.size, upd H h'.objs.size (.lst (bs.map V.ref)), I1.laid (t' := tk) (fun b u e => ?_) (Nat.le_refl _)
      (show ObjOk X.prog X.w _ _ _ (.lst (bs.map V.ref)) from ⟨hlen, bs.map Value.ref, e', vals_refs bs, he'⟩), rfl, q _ bs (I1.hok.fresh (Nat.le_refl _)) hkeys hsort fun b hb => kp2 b (hbs.mem_iff.mp hb)⟩
    have hb : b < h'.objs.size := Heap.lt_size e
    rw [PyProof.Rows.sortedHeap_old (Nat.ne_of_lt hb) (by rw [size_push']; exact Nat.lt_succ_of_lt hb)]
    exact Heap.get?_push_of_some _ e
end
/-! ### digits: the mathematics -/
/-- k is the level of d at n -/
def IsLev (b n d k : Nat) : Prop := n / b ^ (k + 1) = d / b ^ (k + 1) ∧ ∀ j, j < k → n / b ^ (j + 1) ≠ d / b ^ (j + 1)
abbrev Row3 := Nat × Nat × Nat
/-- the stations below level k -/
def tailOf (b d : Nat) : Nat → List Row3
  | 0 => []
  | k + 1 => if d / b ^ k % b ≠ 0 then (k, d / b ^ k % b, d / b ^ (k + 1) * b ^ (k + 1)) :: tailOf b d k else tailOf b d k
/-- the stations of a timer set at n, k its level -/
def rowsOf (b n d k : Nat) : List Row3 := (k, d / b ^ k % b, n) :: tailOf b d k
theorem div_succ (n b k : Nat) : n / b ^ (k + 1) = n / b ^ k / b := by
  rw [Nat.pow_succ, Nat.div_div_eq_div_mul]
theorem pow_pos' {b : Nat} (h : 2 ≤ b) (k : Nat) : 0 < b ^ k := Nat.pow_pos (by omega)
theorem IsLev.uniq {b n d k k' : Nat} (h : IsLev b n d k) (h' : IsLev b n d k') : k = k' := by
  rcases Nat.lt_trichotomy k k' with l | l | l
  · exact absurd h.1 (h'.2 k l)
  · exact l
  · exact absurd h'.1 (h.2 k' l)
theorem IsLev.ne {b n d k : Nat} (h : IsLev b n d k) (hnd : n < d) : n / b ^ k < d / b ^ k := by
  cases k with
  | zero =>
    rw [Nat.pow_zero, Nat.div_one, Nat.div_one]
    exact hnd
  | succ j =>
    have h1 := h.2 j (Nat.lt_succ_self j)
    have h2 : n / b ^ (j + 1) ≤ d / b ^ (j + 1) := Nat.div_le_div_right (Nat.le_of_lt hnd)
    omega
theorem IsLev.size {b n d k : Nat} (h : IsLev b n d k) (hb : 2 ≤ b) (hnd : n < d) : b ^ k ≤ d := by
  have h1 := h.ne hnd
  have h2 : 0 < d / b ^ k := Nat.lt_of_le_of_lt (Nat.zero_le _) h1
  exact (Nat.div_pos_iff.mp h2).2
theorem IsLev.digit {b n d k : Nat} (h : IsLev b n d k) (hnd : n < d) : n / b ^ k % b < d / b ^ k % b := by
  have h1 := h.ne hnd
  have h2 := h.1
  rw [div_succ, div_succ] at h2
  have e1 := Nat.div_add_mod (n / b ^ k) b
  have e2 := Nat.div_add_mod (d / b ^ k) b
  rw [h2] at e1
  omega
theorem pow_two_le {b : Nat} (hb : 2 ≤ b) (k : Nat) : 2 ^ k ≤ b ^ k := Nat.pow_le_pow_left hb k
theorem lev_small {b n d k t : Nat} (h : IsLev b n d k) (hb : 2 ≤ b) (hnd : n < d) (hd : d < 2 ^ t) : k < t := by
  have h1 := h.size hb hnd
  have h2 := pow_two_le hb k
  exact (Nat.pow_lt_pow_iff_right (by decide : 1 < 2)).mp (Nat.lt_of_le_of_lt (Nat.le_trans h2 h1) hd)
/-- cutting below: what two cuts beside one another differ by -/
theorem cut_step (b d k : Nat) : d / b ^ k * b ^ k = d / b ^ (k + 1) * b ^ (k + 1) + d / b ^ k % b * b ^ k := by
  rw [div_succ]
  have e := Nat.div_add_mod (d / b ^ k) b
  have e2 : b ^ (k + 1) = b * b ^ k := by rw [Nat.pow_succ, Nat.mul_comm]
  rw [e2, ← Nat.mul_assoc, ← Nat.add_mul, Nat.mul_comm (d / b ^ k / b) b, e]
theorem cut_le (b d k : Nat) : d / b ^ k * b ^ k ≤ d := Nat.div_mul_le_self d (b ^ k)
theorem cut_mono (b d : Nat) {j k : Nat} (h : j ≤ k) : d / b ^ k * b ^ k ≤ d / b ^ j * b ^ j := by
  induction k with
  | zero =>
    have e : j = 0 := by omega
    rw [e]
    exact Nat.le_refl _
  | succ k ih =>
    by_cases e : j = k + 1
    · rw [e]
      exact Nat.le_refl _
    · have h1 := ih (by omega)
      have h2 := cut_step b d k
      omega
theorem lt_cut {b n d k : Nat} (hb : 2 ≤ b) (h : n / b ^ k < d / b ^ k) : n < d / b ^ k * b ^ k := by
  have hp := pow_pos' hb k
  exact (Nat.div_lt_iff_lt_mul hp).mp h
theorem tail_len (b d : Nat) : ∀ k, (tailOf b d k).length ≤ k
  | 0 => Nat.le_refl _
  | k + 1 => by
    have ih := tail_len b d k
    unfold tailOf
    split
    · rw [List.length_cons]
      omega
    · omega
/-- a later tick that lies ahead of the next cut has the same level -/
theorem IsLev.later {b n d k t : Nat} (hb : 2 ≤ b) (h : IsLev b n d k) (hnd : n < d) (h1 : n ≤ t) (h2 : t < d / b ^ k * b ^ k) : IsLev b t d k := by
  have hp := pow_pos' hb k
  have hp1 := pow_pos' hb (k + 1)
  have htd : t < d := Nat.lt_of_lt_of_le h2 (cut_le b d k)
  refine ⟨?_, fun j hj => ?_⟩
  · have a1 : n / b ^ (k + 1) ≤ t / b ^ (k + 1) := Nat.div_le_div_right h1
    have a2 : t / b ^ (k + 1) ≤ d / b ^ (k + 1) := Nat.div_le_div_right (Nat.le_of_lt htd)
    have a3 := h.1
    omega
  · have a1 : t / b ^ k < d / b ^ k := (Nat.div_lt_iff_lt_mul hp).mpr h2
    intro e
    have e2 : k = (j + 1) + (k - (j + 1)) := by omega
    rw [e2, Nat.pow_add, ← Nat.div_div_eq_div_mul, ← Nat.div_div_eq_div_mul, e] at a1
    omega
/-! ### exceptions: defs that may raise, any value as an argument -/
section
variable {P : Program} {w : World} {K : PySem.W.Frag} {mg : Str → Option Value} {base : Heap}
/-- as Has, for a def that may raise -/
def HasX (P : Program) (w : World) (K : PySem.W.Frag) (mg : Str → Option Value) (base : Heap) (k : Nat) (x : Str) (ps : List Str) (dvs : List V) (sp : Sp) : Prop :=
  ∃ (f : Addr) (fd : FuncData) (ds : List Value), FnOk P w K mg base (L2.CX P w) k f fd ps sp ∧ mg x = some (.ref f) ∧ PySem.W.keepIn K (.ref f) = true ∧ Binds K fd ps ds ∧ Vals dvs ds
def HasMX (P : Program) (w : World) (K : PySem.W.Frag) (mg : Str → Option Value) (base : Heap) (k : Nat) (C : Addr) (m : Str) (ps : List Str) (dvs : List V) (sp : Sp) : Prop :=
  ∃ (f : Addr) (fd : FuncData) (ds : List Value), FnOk P w K mg base (L2.CX P w) k f fd ps sp ∧ Meth K C m f ∧ Binds K fd ps ds ∧ Vals dvs ds
theorem Df.hasX {k : Nat} {x : Str} {st : Stmt} {ps : List Str} {sp : Sp} (D : Df K mg x st ps) (ok : ∀ f fd, Fun K x x st f fd → FnOk P w K mg base (L2.CX P w) k f fd ps sp) : HasX P w K mg base k x ps [] sp := by
  obtain ⟨f, fd, F, m, b⟩ := D
  exact ⟨f, fd, [], ok f fd F, m, F.kp, b, .nil⟩
theorem Dd.hasX {k : Nat} {x : Str} {st : Stmt} {ps : List Str} {d : V} {sp : Sp} (D : Dd K mg x st ps d) (ok : ∀ f fd, FunD K x x (defArgs st) (defBody st) (defScope st) [d] [] f fd → FnOk P w K mg base (L2.CX P w) k f fd ps sp) :
    HasX P w K mg base k x ps [d] sp ∧ HasX P w K mg base k x ps [] sp := by
  obtain ⟨f, fd, F, m, ⟨ds, r, b⟩, b0⟩ := D
  exact ⟨⟨f, fd, ds, ok f fd F, m, F.kp, b, r⟩, ⟨f, fd, [], ok f fd F, m, F.kp, b0, .nil⟩⟩
/-- what the top leaves of an error's class -/
structure EC (K : PySem.W.Frag) (mg : Str → Option Value) (x : Str) (C : Addr) : Prop where
  g : mg x = some (.ref C)
  x : PySem.W.excIn K C [.type "ValueError", .type "Exception", .type "BaseException", .type "object"] "ValueError.__new__" = true
  k : PySem.W.keepIn K (.ref C) = true
  b : PySem.W.subIn K (.ref C) (.type "BaseException") = some true
  t : PySem.W.typeIn K (.ref C) = some (.type "type")
/-- a class by its name alone -/
structure EG (mg : Str → Option Value) (x : Str) (C : Addr) : Prop where
  g : mg x = some (.ref C)
/-- of which types what is no integer may be -/
inductive NoIntT : Value → Prop where
  | non : NoIntT (.type "NoneType")
  | bool : NoIntT (.type "bool")
  | str : NoIntT (.type "str")
  | flt : NoIntT (.type "float")
  | byt : NoIntT (.type "bytes")
  | list : NoIntT (.type "list")
  | tup : NoIntT (.type "tuple")
  | dict : NoIntT (.type "dict")
  | set : NoIntT (.type "set")
/-- what is no integer: any value but an int, a bool too -/
def NoInt (K : PySem.W.Frag) (H : Hp) (x : V) : Prop := ∃ t, TyX K H x t ∧ NoIntT t
theorem NoIntT.kit {t : Value} (h : NoIntT t) : (∃ i b, PySem.W.kitOne K t (.type "int") = some i ∧ PySem.W.kitOne K t (.type "bool") = some b ∧ (i = true → b = true)) := by
  cases h <;> first
    | exact ⟨false, false, kit_ty (by decide +kernel), kit_ty (by decide +kernel), fun z => by cases z⟩
    | exact ⟨true, true, kit_ty (by decide +kernel), kit_ty (by decide +kernel), fun _ => rfl⟩
section
variable {H : Hp}
theorem NoInt.of_non : NoInt K H .non := ⟨_, .base .non, .non⟩
theorem NoInt.of_bl (b : Bool) : NoInt K H (.bl b) := ⟨_, .base (.bl b), .bool⟩
theorem NoInt.of_str (s : Str) : NoInt K H (.str s) := ⟨_, .base (.str s), .str⟩
theorem NoInt.of_lst {a : Addr} {xs : List V} (e : H a = some (.lst xs)) : NoInt K H (.ref a) := ⟨_, .base (.lst e), .list⟩
theorem NoInt.of_tup {a : Addr} {xs : List V} (e : H a = some (.tup xs)) : NoInt K H (.ref a) := ⟨_, .base (.tup e), .tup⟩
theorem NoInt.of_dK {a : Addr} {kvs : List (Key × V)} (e : H a = some (.dK kvs)) : NoInt K H (.ref a) := ⟨_, .base (.dK e), .dict⟩
end
end
section
variable {X : Cx} {K : PySem.W.Frag}
theorem op_notInK (e : X.K = K) : OpR X (compareOp .NotIn) (rIn K true) := by subst e; exact op_notIn_seq
end
/-- what an error was made of stands at a; isinstance(e, X) of it -/
def rIsEX (K : PySem.W.Frag) (cls : Value) (d : Option Addr) (a : Addr) : List V → Hp → VK → Prop := fun xs H Q => ∃ D, cls = .ref D ∧ d = none ∧ ExcC K D ∧ rIsE K D a xs H Q
theorem isiE {X : Cx} {a : Addr} {cls : Value} {d : Option Addr} {oe : Obj} {pn : List (Addr × Obj)} (hz : Zc cls d oe) (hf : ∃ vs, oe.data = .fields vs) : CallR (X.suite a ((a, oe) :: pn)) (.builtin "isinstance") (rIsEX X.K cls d a) := by
  intro pins s σ H xs us Q I r h
  obtain ⟨D, rfl, rfl, hC, h⟩ := h
  exact call_isE hC hz hf pins s σ H xs us Q I r h
section
variable {X : Cx} {CX : CXT} {k : Nat} {f C : Addr} {fd : FuncData} {ps : List Str} {sp : Sp} {E : L2.St → XK} {m : Str} {pos apos : Pos} {e o : Expr} {es : List Expr} {ta : TE} {t : TA}
/-- o.m(e, ..) that may raise, the wish told at the slots of the moment -/
def tMethS (C : Addr) (m : Str) (sp : Sp) (E : L2.St → XK) (ta : TE) (t : TA) : TE := fun σ H Q => ta σ H fun x H1 => ∃ a dx fs, x = .ref a ∧ H1 a = some (.ins C dx fs) ∧ fs.lookup m = none ∧
  t σ H1 fun vs H2 => sp (x :: vs) H2 Q (E σ)
theorem pe_methS {pl : Sem Bool} (he : PE X o ta) (c : Cls X.K C) (hm : Meth X.K C m f) (F : FnOk X.prog X.w X.K X.mg X.base CX k f fd ps sp) (hr : Room k X.A) (hb : Binds X.K fd ps []) (hx : ∀ σ, PassesAt CX X σ (E σ)) (ha : PA X (e :: es) t)
    (hst : starEach (e :: es) X.env = (false, eval e X.env) :: starEach es X.env := by rfl) (hpl : (backTo pos (starEach es X.env)).any (·.1) = false := by rfl)
    (ht : eval (.Call (.Attribute o m apos) (e :: es) [] pos) X.env = (do
      let ov ← eval o X.env
      standAt apos.atName
      let (f, first) ← holding [ov] (getMethod ov m pl)
      callWith pos f first (backTo pos (starEach (e :: es) X.env)) (backToKw pos (keywordEach [] X.env))) := by rfl) :
    PE X (.Call (.Attribute o m apos) (e :: es) [] pos) (tMethS C m sp E ta t) := by
  refine ⟨fun pins s σ H Q I h => ?_⟩
  refine PySem.W.methodCall_KW (pl := pl) (thn (he.run pins s σ H _ I h) fun u s1 ⟨x, H1, I1, rx, a, dx, fs, ex, ea, l, q⟩ => ?_) ht
  subst ex
  obtain rfl : u = Value.ref a := rx
  refine getmeth_ok I1 ea c hm l ?_
  refine PySem.W.callWith_K (first := [.ref a]) (h₀ := X.base) I.ok.mod.kin hm.kp (thn (ha.run pos pins s1 σ H1 _ I1 q) fun us s2 ⟨vs, H2, I2, r, q2⟩ => ⟨I2.kIn, ?_⟩) hst hpl
  exact run_fnS (us := .ref a :: us) (vs := .ref a :: vs) F hr hb (hx σ) I2 (.cons rfl r) q2
end
/-! ### len(set(xs)), xs any list of whole numbers -/
section
variable {ns : List Int}
theorem met_any : ∀ (i : Nat), i ≤ ns.length → ∀ x : Int, (PyProof.Rows.firstMet (fun i => ns.getD i 0) i).any (· == x) = (ns.take i).any (· == x)
  | 0, _, x => rfl
  | i + 1, h, x => by
    have hi : i < ns.length := h
    have e1 : ns[i]? = some (ns.getD i 0) := by
      rw [List.getD_eq_getElem?_getD, List.getElem?_eq_getElem hi]
      rfl
    have ih := met_any i (by omega)
    rw [PyProof.Rows.firstMet_succ, List.take_add_one, e1]
    unfold PyProof.Rows.step_dedup
    have last : ([ns.getD i 0] : List Int).any (· == x) = (ns.getD i 0 == x) := by
      rw [List.any_cons, List.any_nil, Bool.or_false]
    split
    · rename_i c
      rw [ih, List.any_append]
      rw [ih (ns.getD i 0)] at c
      show (ns.take i).any (· == x) = ((ns.take i).any (· == x) || ([ns.getD i 0] : List Int).any (· == x))
      rw [last]
      cases hx : (ns.getD i 0 == x) with
      | false => rw [Bool.or_false]
      | true =>
        rw [← beq_iff_eq.mp hx, c]
        rfl
    · rw [List.any_append, List.any_append, ih]
      rfl
theorem met_len : ∀ (i : Nat), i ≤ ns.length → (PyProof.Rows.firstMet (fun i => ns.getD i 0) i).length ≤ i ∧ ((ns.take i).Nodup → (PyProof.Rows.firstMet (fun i => ns.getD i 0) i).length = i) ∧ (¬ (ns.take i).Nodup → (PyProof.Rows.firstMet (fun i => ns.getD i 0) i).length < i)
  | 0, _ => ⟨Nat.le_refl _, fun _ => rfl, fun h => absurd (by rw [List.take_zero]; exact List.Pairwise.nil) h⟩
  | i + 1, h => by
    have hi : i < ns.length := h
    obtain ⟨h1, h2, h3⟩ := met_len i (by omega)
    have e1 : ns[i]? = some (ns.getD i 0) := by
      rw [List.getD_eq_getElem?_getD, List.getElem?_eq_getElem hi]
      rfl
    have ha := met_any (ns := ns) i (by omega) (ns.getD i 0)
    have ht : ns.take (i + 1) = ns.take i ++ [ns.getD i 0] := by
      rw [List.take_add_one, e1]
      rfl
    have hn : (ns.take i ++ [ns.getD i 0]).Nodup ↔ (ns.take i).Nodup ∧ ns.getD i 0 ∉ ns.take i := by
      rw [List.nodup_append]
      constructor
      · rintro ⟨a1, _, a3⟩
        exact ⟨a1, fun z => a3 _ z _ (List.mem_singleton.mpr rfl) rfl⟩
      · rintro ⟨a1, a2⟩
        refine ⟨a1, List.nodup_cons.mpr ⟨by simp, List.Pairwise.nil⟩, fun x hx y hy e => a2 ?_⟩
        rw [List.mem_singleton.mp hy] at e
        rw [← e]
        exact hx
    rw [PyProof.Rows.firstMet_succ, ht]
    unfold PyProof.Rows.step_dedup
    have hm : (ns.take i).any (· == ns.getD i 0) = true ↔ ns.getD i 0 ∈ ns.take i := by
      rw [List.any_eq_true]
      constructor
      · rintro ⟨y, hy, e⟩
        rw [← beq_iff_eq.mp e]
        exact hy
      · intro z
        exact ⟨_, z, beq_self_eq_true _⟩
    split
    · rename_i c
      rw [ha] at c
      have c2 := hm.mp c
      exact ⟨by omega, fun z => absurd c2 (hn.mp z).2, fun _ => by omega⟩
    · rename_i c
      rw [ha] at c
      have c2 : ns.getD i 0 ∉ ns.take i := fun z => c (hm.mpr z)
      rw [List.length_append, List.length_singleton]
      refine ⟨by omega, fun z => by rw [h2 (hn.mp z).1], fun z => ?_⟩
      have := h3 fun y => z (hn.mpr ⟨y, c2⟩)
      omega
end
def tLenSetN (K : PySem.W.Frag) (ta : TE) : TE := fun σ H Q => ta σ H fun x H1 => ∃ (l : Addr) (ns : List Int), x = .ref l ∧ SqL K H1 l (ns.map V.int) ∧ ns.length ≤ 4000 ∧ ∀ c : Nat, (ns.Nodup → c = ns.length) → (¬ ns.Nodup → c < ns.length) → Q (.int (c : Nat)) H1
theorem pe_lenSetN {X : Cx} {a : Expr} {ta : TE} {p p2 q pos : Pos} (hg : Gl X "len") (hm : X.mg "len" = none) (hg2 : Gl X "set") (hm2 : X.mg "set" = none) (ha : PE X a ta) (hc : X.calm = true := by rfl)
    (na : starEach [a] X.env = (false, eval a X.env) :: starEach [] X.env := by rfl) : PE X (.Call (.Name "len" p) [.Call (.Name "set" p2) [a] [] q] [] pos) (tLenSetN X.K ta) := by
  constructor
  intro pins s σ H Q I h
  refine Call_ (ld_blt I hg hm boot_len (PyProof.Rows.callWith_builtin1 (PyProof.Rows.args_cons (Call_ (ld_blt I hg2 hm2 boot_set ?_)) rfl) rfl rfl))
  refine PyProof.Rows.callWith_type1 (PyProof.Rows.args_cons (thn (ha.run pins s σ H _ I h) fun v s1 hv => PyProof.Rows.args_nil ?_) na) na rfl
  obtain ⟨x, H1, I1, r1, l, ns, e, hq, hl, q1⟩ := hv
  subst e
  cases r1
  obtain ⟨us, r, pl, _⟩ := I1.list hq
  have sz : us.toArray.size = ns.length := by
    have z := r.length
    rw [List.length_map] at z
    rw [List.size_toArray, ← z]
  refine call_set_list (ns := ns) (I1.ok.hd hc) pl.isList (by simpa using RZ.intsAre_vals r) (by unfold scanBound; omega) fun h2 tk hS keep => PyProof.Rows.args_nil ?_
  rw [sz] at hS
  obtain ⟨g1, g2, g3⟩ := met_len (ns := ns) ns.length (Nat.le_refl _)
  rw [List.take_length] at g2 g3
  obtain ⟨o, es, ep, t, a1, a2, a3, _, _, _, a4, a5⟩ := hS
  have I2 : Inv X pins σ H1 { s1 with heap := h2, toks := tk } := I1.kept fun b o' z => keep b o' (Heap.lt_size z) z
  exact call_len_set a1 a2 a3 a4 (by rw [a5]; omega) ⟨.int ((PyProof.Rows.firstMet (fun i => ns.getD i 0) ns.length).length : Nat), H1, I2.tok _, ⟨_, by rw [a5]⟩, q1 _ g2 g3⟩
/-! ### words of levels, sides -/
def lvV (b : Bool) : V := if b then .str "stack" else .str "queue"
def sdV (b : Bool) : V := if b then .str "front" else .str "back"
theorem lv_ne : ¬ (V.str "queue" = V.str "stack") := by decide
theorem lv_dec (b : Bool) : decide (lvV b = .str "stack") = b := by
  cases b
  · exact decide_eq_false lv_ne
  · exact decide_eq_true rfl
def wordAt (ws : List Bool) (k : Nat) : Bool := ws.getD (min k (ws.length - 1)) false
theorem word_get {ws : List Bool} (h : ws ≠ []) (k : Nat) : (ws.map lvV)[min k (ws.length - 1)]? = some (lvV (wordAt ws k)) := by
  have hl : min k (ws.length - 1) < ws.length := by
    have : 0 < ws.length := List.length_pos_iff.mpr h
    omega
  rw [List.getElem?_map, List.getElem?_eq_getElem hl]
  unfold wordAt
  rw [List.getD_eq_getElem?_getD, List.getElem?_eq_getElem hl]
  rfl
/-- whether an odd number of the rows, at levels from lo on, have the word stack -/
def frontOf (ws : List Bool) (lo : Nat) (rs : List Row3) : Bool := decide (rs.countP (fun r => decide (lo ≤ r.1) && wordAt ws r.1) % 2 = 1)
theorem odd_succ (c : Nat) : decide ((c + 1) % 2 = 1) = !decide (c % 2 = 1) := by
  by_cases h : c % 2 = 1
  · rw [decide_eq_true h, decide_eq_false (by omega)]
    rfl
  · rw [decide_eq_false h, decide_eq_true (by omega)]
    rfl
theorem front_snoc (ws : List Bool) (lo : Nat) (rs : List Row3) (r : Row3) : frontOf ws lo (rs ++ [r]) = if (decide (lo ≤ r.1) && wordAt ws r.1) = true then !frontOf ws lo rs else frontOf ws lo rs := by
  unfold frontOf
  rw [List.countP_append, List.countP_singleton]
  split
  · exact odd_succ _
  · rw [Nat.add_zero]
/-! ### the wheel as plain data -/
structure Tm where
  num : Nat
  due : Nat
  per : Option Nat
  since : Nat
def perV : Option Nat → V
  | none => .non
  | some k => .int (k : Nat)
def tmV (m : Tm) : List V := [.int (m.due : Nat), perV m.per, .int (m.since : Nat)]
open Classical in
noncomputable def sideT (b : Nat) (ws : List Bool) (n d lo : Nat) : Bool := if h : ∃ k, IsLev b n d k then frontOf ws lo (rowsOf b n d (Classical.choose h)) else false
theorem sideT_eq {b : Nat} {ws : List Bool} {n d lo k : Nat} (h : IsLev b n d k) : sideT b ws n d lo = frontOf ws lo (rowsOf b n d k) := by
  have e : ∃ k, IsLev b n d k := ⟨k, h⟩
  unfold sideT
  rw [dif_pos e, (Classical.choose_spec e).uniq h]
def insT (front : Bool) (n : Nat) (l : List Nat) : List Nat := if front then n :: l else l ++ [n]
noncomputable def orderAt (b : Nat) (ws : List Bool) (t : Nat) (ms : List Tm) : List Nat := ms.foldl (fun acc m => if m.due = t then insT (sideT b ws m.since m.due 0) m.num acc else acc) []
theorem order_snoc (b : Nat) (ws : List Bool) (t : Nat) (ms : List Tm) (m : Tm) : orderAt b ws t (ms ++ [m]) = if m.due = t then insT (sideT b ws m.since m.due 0) m.num (orderAt b ws t ms) else orderAt b ws t ms := by
  unfold orderAt
  rw [List.foldl_append]
  rfl
theorem insT_len (f : Bool) (n : Nat) (l : List Nat) : (insT f n l).length = l.length + 1 := by
  unfold insT
  split
  · rfl
  · rw [List.length_append]
    rfl
theorem insT_mem {f : Bool} {n x : Nat} {l : List Nat} : x ∈ insT f n l ↔ x = n ∨ x ∈ l := by
  unfold insT
  split
  · rw [List.mem_cons]
  · rw [List.mem_append, List.mem_singleton]
    exact Or.comm
theorem order_spec (b : Nat) (ws : List Bool) (t : Nat) (ms : List Tm) : ∀ n : Nat, (orderAt b ws t (ms.take n)).length = ((ms.take n).filter fun m => decide (m.due = t)).length ∧ ∀ x, x ∈ orderAt b ws t (ms.take n) ↔ ∃ m ∈ ms.take n, m.due = t ∧ m.num = x := by
  intro n
  induction n with
  | zero =>
    refine ⟨rfl, fun x => ?_⟩
    simp [orderAt]
  | succ n ih =>
    cases e : ms[n]? with
    | none =>
      have hl : ms.length ≤ n := List.getElem?_eq_none_iff.mp e
      rw [List.take_of_length_le (by omega)]
      rw [List.take_of_length_le hl] at ih
      exact ih
    | some m =>
      rw [List.take_add_one, e]
      show (orderAt b ws t (ms.take n ++ [m])).length = _ ∧ ∀ x, x ∈ orderAt b ws t (ms.take n ++ [m]) ↔ ∃ m' ∈ ms.take n ++ [m], _
      rw [order_snoc]
      rw [Option.toList_some, List.filter_append, List.length_append]
      by_cases h : m.due = t
      · rw [if_pos h, insT_len, ih.1]
        refine ⟨by simp [h], fun x => ?_⟩
        rw [insT_mem, ih.2 x]
        constructor
        · rintro (e | ⟨m', h1, h2⟩)
          · exact ⟨m, by simp, h, e.symm⟩
          · exact ⟨m', List.mem_append_left _ h1, h2⟩
        · rintro ⟨m', h1, h2, h3⟩
          rcases List.mem_append.mp h1 with h1 | h1
          · exact .inr ⟨m', h1, h2, h3⟩
          · rw [List.mem_singleton.mp h1] at h3
            exact .inl h3.symm
      · rw [if_neg h, ih.1]
        refine ⟨by simp [h], fun x => ?_⟩
        rw [ih.2 x]
        constructor
        · rintro ⟨m', h1, h2⟩
          exact ⟨m', List.mem_append_left _ h1, h2⟩
        · rintro ⟨m', h1, h2, h3⟩
          rcases List.mem_append.mp h1 with h1 | h1
          · exact ⟨m', h1, h2, h3⟩
          · rw [List.mem_singleton.mp h1] at h2
            exact absurd h2 h
theorem order_len (b : Nat) (ws : List Bool) (t : Nat) (ms : List Tm) : (orderAt b ws t ms).length = (ms.filter fun m => decide (m.due = t)).length := by
  have z := (order_spec b ws t ms ms.length).1
  rw [List.take_length] at z
  exact z
theorem order_mem {b : Nat} {ws : List Bool} {t : Nat} {ms : List Tm} {x : Nat} : x ∈ orderAt b ws t ms ↔ ∃ m ∈ ms, m.due = t ∧ m.num = x := by
  have z := (order_spec b ws t ms ms.length).2 x
  rw [List.take_length] at z
  exact z
def dropT (n : Nat) (ms : List Tm) : List Tm := ms.filter fun m => decide (m.num ≠ n)
/-- a timer fires: it goes, and comes back at the end if it has a period -/
def fireT (t : Nat) (ms : List Tm) (n : Nat) : List Tm := match ms.find? fun m => decide (m.num = n) with
  | none => ms
  | some m => match m.per with
    | none => dropT n ms
    | some k => dropT n ms ++ [⟨n, t + k, some k, t⟩]
def afterF (t : Nat) (ms : List Tm) (ns : List Nat) : List Tm := ns.foldl (fireT t) ms
def leastD (ms : List Tm) : Option Nat := (ms.map (·.due)).min?
theorem least_none {ms : List Tm} : leastD ms = none ↔ ms = [] := by
  unfold leastD
  rw [List.min?_eq_none_iff, List.map_eq_nil_iff]
theorem least_some {ms : List Tm} {v : Nat} : leastD ms = some v ↔ v ∈ ms.map (·.due) ∧ ∀ x ∈ ms.map (·.due), v ≤ x := by
  unfold leastD
  exact List.min?_eq_some_iff
structure WS where
  b : Nat
  ws : List Bool
  tick : Nat
  fol : Nat
  live : List Tm
/-- live timers as they may stand at a tick -/
structure TOk (tick fol : Nat) (m : Tm) : Prop where
  since : m.since ≤ tick
  due : tick < m.due
  big : m.due < 2 ^ 250
  num : m.num < fol
  per : ∀ k, m.per = some k → 1 ≤ k
structure WOk (W : WS) : Prop where
  b2 : 2 ≤ W.b
  b64 : W.b ≤ 64
  ne : W.ws ≠ []
  l60 : W.ws.length ≤ 60
  tms : ∀ m ∈ W.live, TOk W.tick W.fol m
  nd : (W.live.map (·.num)).Nodup
  few : W.live.length ≤ 1000
/-- what an advance to t lets fire, step by step -/
inductive AdvTo (b : Nat) (ws : List Bool) (t : Nat) : List Tm → List (Nat × List Nat) → List Tm → Prop where
  | done {ms : List Tm} (h : ∀ m ∈ ms, t < m.due) : AdvTo b ws t ms [] ms
  | step {ms ms' : List Tm} {at_ : Nat} {rest : List (Nat × List Nat)} (h : leastD ms = some at_) (hle : at_ ≤ t) (ok : ∀ m ∈ ms, m.since < m.due ∧ m.due < 2 ^ 250) (nd : (ms.map (·.num)).Nodup) (few : ms.length ≤ 1000)
    (r : AdvTo b ws t (afterF at_ ms (orderAt b ws at_ ms)) rest ms') : AdvTo b ws t ms ((at_, orderAt b ws at_ ms) :: rest) ms'
open Classical in
/-- the tick at which a timer leaves the list in which it stands at n -/
noncomputable def evT (b n d : Nat) : Nat := if h : ∃ k, IsLev b n d k then d / b ^ Classical.choose h * b ^ Classical.choose h else 0
theorem evT_eq {b n d k : Nat} (h : IsLev b n d k) : evT b n d = d / b ^ k * b ^ k := by
  have e : ∃ k, IsLev b n d k := ⟨k, h⟩
  unfold evT
  rw [dif_pos e, (Classical.choose_spec e).uniq h]
noncomputable def nextE (b n : Nat) (ms : List Tm) : Option Nat := (ms.map fun m => evT b n m.due).min?
def total (fs : List (Nat × List Nat)) : Nat := (fs.map fun f => f.2.length).sum
theorem order_pos {b : Nat} {ws : List Bool} {t : Nat} {ms : List Tm} (h : leastD ms = some t) : 0 < (orderAt b ws t ms).length := by
  obtain ⟨m, hm, e⟩ := List.mem_map.mp (least_some.mp h).1
  have z : m.num ∈ orderAt b ws t ms := order_mem.mpr ⟨m, hm, e, rfl⟩
  exact List.length_pos_of_mem z
theorem insT_nodup {f : Bool} {n : Nat} {l : List Nat} (h : l.Nodup) (hn : n ∉ l) : (insT f n l).Nodup := by
  unfold insT
  split
  · exact List.nodup_cons.mpr ⟨hn, h⟩
  · exact L2.nd_snoc h hn
theorem order_nodup {b : Nat} {ws : List Bool} {t : Nat} {ms : List Tm} (nd : (ms.map (·.num)).Nodup) : (orderAt b ws t ms).Nodup := by
  suffices H : ∀ n : Nat, (orderAt b ws t (ms.take n)).Nodup by
    have z := H ms.length
    rw [List.take_length] at z
    exact z
  intro n
  induction n with
  | zero => exact List.nodup_nil
  | succ n ih =>
    cases e : ms[n]? with
    | none =>
      have hl : ms.length ≤ n := List.getElem?_eq_none_iff.mp e
      rw [List.take_of_length_le (by omega)]
      rw [List.take_of_length_le hl] at ih
      exact ih
    | some m =>
      rw [List.take_add_one, e]
      show (orderAt b ws t (ms.take n ++ [m])).Nodup
      rw [order_snoc]
      split
      · refine insT_nodup ih fun hm => ?_
        obtain ⟨m', h1, _, h3⟩ := order_mem.mp hm
        obtain ⟨i, hi⟩ := List.getElem?_of_mem h1
        rw [List.getElem?_take] at hi
        split at hi
        · rename_i hlt
          have a1 : (ms.map (·.num))[i]? = some m.num := by rw [List.getElem?_map, hi, ← h3]; rfl
          have a2 : (ms.map (·.num))[n]? = some m.num := by rw [List.getElem?_map, e]; rfl
          have z := (List.getElem?_inj (List.getElem?_eq_some_iff.mp a1).1 nd).mp (a1.trans a2.symm)
          omega
        · cases hi
      · exact ih
def topS (i : Nat) : Stmt := PySem.Challenge.pw_timerdeque_k08_what_are_no_snapshots.main.body.getD i (.Pass ⟨0, 0, 0, 0⟩)
abbrev s__wall : Stmt := topS 0
abbrev N__wall : List Str := ["k"]
theorem sc__wall : FnScope N__wall ["k"] (defScope s__wall) := by
  refine ⟨rfl, rfl, rfl, ?_, rfl, ?_, ?_⟩ <;> decide +kernel
abbrev s_is_integer : Stmt := topS 16
abbrev N_is_integer : List Str := ["given"]
theorem sc_is_integer : FnScope N_is_integer ["given"] (defScope s_is_integer) := by
  refine ⟨rfl, rfl, rfl, ?_, rfl, ?_, ?_⟩ <;> decide +kernel
abbrev s_is_word : Stmt := topS 17
abbrev N_is_word : List Str := ["given"]
theorem sc_is_word : FnScope N_is_word ["given"] (defScope s_is_word) := by
  refine ⟨rfl, rfl, rfl, ?_, rfl, ?_, ?_⟩ <;> decide +kernel
abbrev s_is_base : Stmt := topS 18
abbrev N_is_base : List Str := ["given"]
theorem sc_is_base : FnScope N_is_base ["given"] (defScope s_is_base) := by
  refine ⟨rfl, rfl, rfl, ?_, rfl, ?_, ?_⟩ <;> decide +kernel
abbrev s_is_length : Stmt := topS 19
abbrev N_is_length : List Str := ["given"]
theorem sc_is_length : FnScope N_is_length ["given"] (defScope s_is_length) := by
  refine ⟨rfl, rfl, rfl, ?_, rfl, ?_, ?_⟩ <;> decide +kernel
abbrev s_are_levels : Stmt := topS 20
abbrev N_are_levels : List Str := ["given", "word"]
theorem sc_are_levels : FnScope N_are_levels ["given"] (defScope s_are_levels) := by
  refine ⟨rfl, rfl, rfl, ?_, rfl, ?_, ?_⟩ <;> decide +kernel
abbrev s_is_tick : Stmt := topS 21
abbrev N_is_tick : List Str := ["given", "least"]
theorem sc_is_tick : FnScope N_is_tick ["given", "least"] (defScope s_is_tick) := by
  refine ⟨rfl, rfl, rfl, ?_, rfl, ?_, ?_⟩ <;> decide +kernel
abbrev s_is_period : Stmt := topS 22
abbrev N_is_period : List Str := ["given"]
theorem sc_is_period : FnScope N_is_period ["given"] (defScope s_is_period) := by
  refine ⟨rfl, rfl, rfl, ?_, rfl, ?_, ?_⟩ <;> decide +kernel
abbrev s_check_base : Stmt := topS 23
abbrev N_check_base : List Str := ["base"]
theorem sc_check_base : FnScope N_check_base ["base"] (defScope s_check_base) := by
  refine ⟨rfl, rfl, rfl, ?_, rfl, ?_, ?_⟩ <;> decide +kernel
abbrev s_check_levels : Stmt := topS 24
abbrev N_check_levels : List Str := ["levels"]
theorem sc_check_levels : FnScope N_check_levels ["levels"] (defScope s_check_levels) := by
  refine ⟨rfl, rfl, rfl, ?_, rfl, ?_, ?_⟩ <;> decide +kernel
abbrev s_check_tick : Stmt := topS 25
abbrev N_check_tick : List Str := ["tick", "least"]
theorem sc_check_tick : FnScope N_check_tick ["tick", "least"] (defScope s_check_tick) := by
  refine ⟨rfl, rfl, rfl, ?_, rfl, ?_, ?_⟩ <;> decide +kernel
abbrev s_word_at : Stmt := topS 27
abbrev N_word_at : List Str := ["levels", "level"]
theorem sc_word_at : FnScope N_word_at ["levels", "level"] (defScope s_word_at) := by
  refine ⟨rfl, rfl, rfl, ?_, rfl, ?_, ?_⟩ <;> decide +kernel
abbrev s_level_and_size : Stmt := topS 28
abbrev N_level_and_size : List Str := ["base", "now", "due", "level", "size", "above_now", "above_due"]
theorem sc_level_and_size : FnScope N_level_and_size ["base", "now", "due"] (defScope s_level_and_size) := by
  refine ⟨rfl, rfl, rfl, ?_, rfl, ?_, ?_⟩ <;> decide +kernel
abbrev s_path : Stmt := topS 29
abbrev N_path : List Str := ["base", "now", "due", "level", "size", "rows", "tick", "digit"]
theorem sc_path : FnScope N_path ["base", "now", "due"] (defScope s_path) := by
  refine ⟨rfl, rfl, rfl, ?_, rfl, ?_, ?_⟩ <;> decide +kernel
abbrev s_goes_in_front : Stmt := topS 30
abbrev N_goes_in_front : List Str := ["base", "levels", "now", "due", "lowest", "front", "level", "digit", "tick"]
theorem sc_goes_in_front : FnScope N_goes_in_front ["base", "levels", "now", "due", "lowest"] (defScope s_goes_in_front) := by
  refine ⟨rfl, rfl, rfl, ?_, rfl, ?_, ?_⟩ <;> decide +kernel
abbrev s_with_timer : Stmt := topS 31
abbrev N_with_timer : List Str := ["numbers", "number", "front"]
theorem sc_with_timer : FnScope N_with_timer ["numbers", "number", "front"] (defScope s_with_timer) := by
  refine ⟨rfl, rfl, rfl, ?_, rfl, ?_, ?_⟩ <;> decide +kernel
abbrev s_without_repeats : Stmt := topS 33
abbrev N_without_repeats : List Str := ["levels", "many"]
theorem sc_without_repeats : FnScope N_without_repeats ["levels"] (defScope s_without_repeats) := by
  refine ⟨rfl, rfl, rfl, ?_, rfl, ?_, ?_⟩ <;> decide +kernel
abbrev s_standing : Stmt := topS 34
abbrev N_standing : List Str := ["base", "levels", "live", "tick", "rows", "number", "due", "period", "since", "level", "size", "place", "front", "digit"]
theorem sc_standing : FnScope N_standing ["base", "levels", "live", "tick"] (defScope s_standing) := by
  refine ⟨rfl, rfl, rfl, ?_, rfl, ?_, ?_⟩ <;> decide +kernel
abbrev s_is_row : Stmt := topS 37
abbrev N_is_row : List Str := ["given", "now", "following", "number", "due", "period"]
theorem sc_is_row : FnScope N_is_row ["given", "now", "following"] (defScope s_is_row) := by
  refine ⟨rfl, rfl, rfl, ?_, rfl, ?_, ?_⟩ <;> decide +kernel
abbrev s_is_snapshot : Stmt := topS 38
abbrev N_is_snapshot : List Str := ["given", "base", "levels", "now", "following", "rows", "row", "number", "due", "period"]
theorem sc_is_snapshot : FnScope N_is_snapshot ["given"] (defScope s_is_snapshot) := by
  refine ⟨rfl, rfl, rfl, ?_, rfl, ?_, ?_⟩ <;> decide +kernel
abbrev s_restored : Stmt := topS 39
abbrev N_restored : List Str := ["snapshot", "base", "levels", "now", "following", "rows", "wheel", "number", "due", "period"]
theorem sc_restored : FnScope N_restored ["snapshot"] (defScope s_restored) := by
  refine ⟨rfl, rfl, rfl, ?_, rfl, ?_, ?_⟩ <;> decide +kernel
abbrev s__law_cell_at : Stmt := topS 41
abbrev N__law_cell_at : List Str := ["_law_script", "_law_k"]
theorem sc__law_cell_at : FnScope N__law_cell_at ["_law_script", "_law_k"] (defScope s__law_cell_at) := by
  refine ⟨rfl, rfl, rfl, ?_, rfl, ?_, ?_⟩ <;> decide +kernel
abbrev s__law_mixed : Stmt := topS 42
abbrev N__law_mixed : List Str := ["_law_cell", "_law_k", "_law_low"]
theorem sc__law_mixed : FnScope N__law_mixed ["_law_cell", "_law_k"] (defScope s__law_mixed) := by
  refine ⟨rfl, rfl, rfl, ?_, rfl, ?_, ?_⟩ <;> decide +kernel
abbrev s__law_source : Stmt := topS 43
abbrev N__law_source : List Str := ["_law_script", "_law_k", "_law_cell"]
theorem sc__law_source : FnScope N__law_source ["_law_script", "_law_k"] (defScope s__law_source) := by
  refine ⟨rfl, rfl, rfl, ?_, rfl, ?_, ?_⟩ <;> decide +kernel
abbrev s__law_next : Stmt := topS 44
abbrev N__law_next : List Str := ["_law_source_here", "_law_many", "_law_found"]
theorem sc__law_next : FnScope N__law_next ["_law_source_here", "_law_many"] (defScope s__law_next) := by
  refine ⟨rfl, rfl, rfl, ?_, rfl, ?_, ?_⟩ <;> decide +kernel
abbrev s__law_base : Stmt := topS 45
abbrev N__law_base : List Str := ["_law_source_here"]
theorem sc__law_base : FnScope N__law_base ["_law_source_here"] (defScope s__law_base) := by
  refine ⟨rfl, rfl, rfl, ?_, rfl, ?_, ?_⟩ <;> decide +kernel
abbrev s__law_levels : Stmt := topS 46
abbrev N__law_levels : List Str := ["_law_source_here", "_law_many", "_law_sort", "_law_found", "_law_at"]
theorem sc__law_levels : FnScope N__law_levels ["_law_source_here"] (defScope s__law_levels) := by
  refine ⟨rfl, rfl, rfl, ?_, rfl, ?_, ?_⟩ <;> decide +kernel
abbrev s__law_tick : Stmt := topS 47
abbrev N__law_tick : List Str := ["_law_source_here", "_law_base_here", "_law_sort", "_law_size", "_law_at"]
theorem sc__law_tick : FnScope N__law_tick ["_law_source_here", "_law_base_here"] (defScope s__law_tick) := by
  refine ⟨rfl, rfl, rfl, ?_, rfl, ?_, ?_⟩ <;> decide +kernel
abbrev s__law_word : Stmt := topS 48
abbrev N__law_word : List Str := ["_law_thing", "e", "_law_others"]
theorem sc__law_word : FnScope N__law_word ["_law_thing"] (defScope s__law_word) := by
  refine ⟨rfl, rfl, rfl, ?_, rfl, ?_, ?_⟩ <;> decide +kernel
abbrev s__law_spoilt : Stmt := topS 49
abbrev N__law_spoilt : List Str := ["_law_source_here", "_law_good", "_law_base_here", "_law_levels_here", "_law_now", "_law_many", "_law_rows", "_law_branch", "_law_bad", "_law_at", "_law_number", "_law_due", "_law_lap", "_law_some"]
theorem sc__law_spoilt : FnScope N__law_spoilt ["_law_source_here", "_law_good"] (defScope s__law_spoilt) := by
  refine ⟨rfl, rfl, rfl, ?_, rfl, ?_, ?_⟩ <;> decide +kernel
abbrev s_law : Stmt := topS 50
abbrev N_law : List Str := ["_law_script", "_law_k", "_law_source_here", "_law_base_here", "_law_levels_here", "_law_now", "_law_many", "_law_rows", "_law_good", "_law_bad", "_law_odd", "_law_many_none", "_law_number"]
theorem sc_law : FnScope N_law ["_law_script"] (defScope s_law) := by
  refine ⟨rfl, rfl, rfl, ?_, rfl, ?_, ?_⟩ <;> decide +kernel
abbrev s_Wheel___init__ : Stmt := inClass (topS 35) 0
abbrev N_Wheel___init__ : List Str := ["self", "base", "levels", "start"]
theorem sc_Wheel___init__ : FnScope N_Wheel___init__ ["self", "base", "levels", "start"] (defScope s_Wheel___init__) := by
  refine ⟨rfl, rfl, rfl, ?_, rfl, ?_, ?_⟩ <;> decide +kernel
abbrev s_Wheel___len__ : Stmt := inClass (topS 35) 1
abbrev N_Wheel___len__ : List Str := ["self"]
theorem sc_Wheel___len__ : FnScope N_Wheel___len__ ["self"] (defScope s_Wheel___len__) := by
  refine ⟨rfl, rfl, rfl, ?_, rfl, ?_, ?_⟩ <;> decide +kernel
abbrev s_Wheel___eq__ : Stmt := inClass (topS 35) 2
abbrev N_Wheel___eq__ : List Str := ["self", "other"]
theorem sc_Wheel___eq__ : FnScope N_Wheel___eq__ ["self", "other"] (defScope s_Wheel___eq__) := by
  refine ⟨rfl, rfl, rfl, ?_, rfl, ?_, ?_⟩ <;> decide +kernel
abbrev s_Wheel_check_timer : Stmt := inClass (topS 35) 3
abbrev N_Wheel_check_timer : List Str := ["self", "timer"]
theorem sc_Wheel_check_timer : FnScope N_Wheel_check_timer ["self", "timer"] (defScope s_Wheel_check_timer) := by
  refine ⟨rfl, rfl, rfl, ?_, rfl, ?_, ?_⟩ <;> decide +kernel
abbrev s_Wheel_now : Stmt := inClass (topS 35) 4
abbrev N_Wheel_now : List Str := ["self"]
theorem sc_Wheel_now : FnScope N_Wheel_now ["self"] (defScope s_Wheel_now) := by
  refine ⟨rfl, rfl, rfl, ?_, rfl, ?_, ?_⟩ <;> decide +kernel
abbrev s_Wheel_put : Stmt := inClass (topS 35) 5
abbrev N_Wheel_put : List Str := ["self", "due", "period"]
theorem sc_Wheel_put : FnScope N_Wheel_put ["self", "due", "period"] (defScope s_Wheel_put) := by
  refine ⟨rfl, rfl, rfl, ?_, rfl, ?_, ?_⟩ <;> decide +kernel
abbrev s_Wheel_cancel : Stmt := inClass (topS 35) 6
abbrev N_Wheel_cancel : List Str := ["self", "timer"]
theorem sc_Wheel_cancel : FnScope N_Wheel_cancel ["self", "timer"] (defScope s_Wheel_cancel) := by
  refine ⟨rfl, rfl, rfl, ?_, rfl, ?_, ?_⟩ <;> decide +kernel
abbrev s_Wheel_reset : Stmt := inClass (topS 35) 7
abbrev N_Wheel_reset : List Str := ["self", "timer", "due"]
theorem sc_Wheel_reset : FnScope N_Wheel_reset ["self", "timer", "due"] (defScope s_Wheel_reset) := by
  refine ⟨rfl, rfl, rfl, ?_, rfl, ?_, ?_⟩ <;> decide +kernel
abbrev s_Wheel_due : Stmt := inClass (topS 35) 8
abbrev N_Wheel_due : List Str := ["self", "timer"]
theorem sc_Wheel_due : FnScope N_Wheel_due ["self", "timer"] (defScope s_Wheel_due) := by
  refine ⟨rfl, rfl, rfl, ?_, rfl, ?_, ?_⟩ <;> decide +kernel
abbrev s_Wheel_timers : Stmt := inClass (topS 35) 9
abbrev N_Wheel_timers : List Str := ["self"]
theorem sc_Wheel_timers : FnScope N_Wheel_timers ["self"] (defScope s_Wheel_timers) := by
  refine ⟨rfl, rfl, rfl, ?_, rfl, ?_, ?_⟩ <;> decide +kernel
abbrev s_Wheel_advance : Stmt := inClass (topS 35) 10
abbrev N_Wheel_advance : List Str := ["self", "tick"]
theorem sc_Wheel_advance : FnScope N_Wheel_advance ["self", "tick"] (defScope s_Wheel_advance) := by
  refine ⟨rfl, rfl, rfl, ?_, rfl, ?_, ?_⟩ <;> decide +kernel
abbrev s_Wheel_lists : Stmt := inClass (topS 35) 11
abbrev N_Wheel_lists : List Str := ["self"]
theorem sc_Wheel_lists : FnScope N_Wheel_lists ["self"] (defScope s_Wheel_lists) := by
  refine ⟨rfl, rfl, rfl, ?_, rfl, ?_, ?_⟩ <;> decide +kernel
abbrev s_Wheel_firing : Stmt := inClass (topS 35) 12
abbrev N_Wheel_firing : List Str := ["self", "tick"]
theorem sc_Wheel_firing : FnScope N_Wheel_firing ["self", "tick"] (defScope s_Wheel_firing) := by
  refine ⟨rfl, rfl, rfl, ?_, rfl, ?_, ?_⟩ <;> decide +kernel
abbrev s_Wheel_lists_at : Stmt := inClass (topS 35) 13
abbrev N_Wheel_lists_at : List Str := ["self", "tick"]
theorem sc_Wheel_lists_at : FnScope N_Wheel_lists_at ["self", "tick"] (defScope s_Wheel_lists_at) := by
  refine ⟨rfl, rfl, rfl, ?_, rfl, ?_, ?_⟩ <;> decide +kernel
abbrev s_Wheel_restoring : Stmt := inClass (topS 35) 14
abbrev N_Wheel_restoring : List Str := ["self", "rows", "level", "digit", "numbers", "number"]
theorem sc_Wheel_restoring : FnScope N_Wheel_restoring ["self"] (defScope s_Wheel_restoring) := by
  refine ⟨rfl, rfl, rfl, ?_, rfl, ?_, ?_⟩ <;> decide +kernel
abbrev s_Wheel_snapshot : Stmt := inClass (topS 35) 15
abbrev N_Wheel_snapshot : List Str := ["self", "rows", "number", "due"]
theorem sc_Wheel_snapshot : FnScope N_Wheel_snapshot ["self"] (defScope s_Wheel_snapshot) := by
  refine ⟨rfl, rfl, rfl, ?_, rfl, ?_, ?_⟩ <;> decide +kernel
abbrev s_Wheel_next_event : Stmt := inClass (topS 35) 16
abbrev N_Wheel_next_event : List Str := ["self"]
theorem sc_Wheel_next_event : FnScope N_Wheel_next_event ["self"] (defScope s_Wheel_next_event) := by
  refine ⟨rfl, rfl, rfl, ?_, rfl, ?_, ?_⟩ <;> decide +kernel
abbrev s_Wheel_next_firing : Stmt := inClass (topS 35) 17
abbrev N_Wheel_next_firing : List Str := ["self"]
theorem sc_Wheel_next_firing : FnScope N_Wheel_next_firing ["self"] (defScope s_Wheel_next_firing) := by
  refine ⟨rfl, rfl, rfl, ?_, rfl, ?_, ?_⟩ <;> decide +kernel
abbrev s_Wheel_moves_until : Stmt := inClass (topS 35) 18
abbrev N_Wheel_moves_until : List Str := ["self", "tick"]
theorem sc_Wheel_moves_until : FnScope N_Wheel_moves_until ["self", "tick"] (defScope s_Wheel_moves_until) := by
  refine ⟨rfl, rfl, rfl, ?_, rfl, ?_, ?_⟩ <;> decide +kernel
/-- what the top leaves of built-in names -/
structure Tx (K : PySem.W.Frag) (mg : Str → Option Value) : Prop where
  b_isinstance : mg "isinstance" = none
  b_int : mg "int" = none
  b_bool : mg "bool" = none
  b_str : mg "str" = none
  b_all : mg "all" = none
  b_list : mg "list" = none
  b_len : mg "len" = none
  b_min : mg "min" = none
  b_sorted : mg "sorted" = none
  b_tuple : mg "tuple" = none
  b_set : mg "set" = none
  b_range : mg "range" = none
  b_max : mg "max" = none
/-! ### the program: what an integer is, bases, ticks -/
def slotInt (σ : L2.St) (i : Nat) : Nat := match σ[i]? with
  | some (some (.int z)) => z.toNat
  | _ => 0
theorem cast_div (a b : Nat) : (a : Int) / (b : Int) = ((a / b : Nat) : Int) := rfl
theorem cast_mod (a b : Nat) : (a : Int) % (b : Int) = ((a % b : Nat) : Int) := rfl
theorem cast_mul (a b : Nat) : (a : Int) * (b : Int) = ((a * b : Nat) : Int) := (Int.natCast_mul a b).symm
theorem cast_add (a b : Nat) : (a : Int) + (b : Int) = ((a + b : Nat) : Int) := rfl
theorem natAbs_cast (a : Nat) : ((a : Nat) : Int).natAbs = a := rfl
theorem divp_s {i j : Int} (b : Nat) (hj : 0 < j) (hi : i.natAbs < 2 ^ b) (h : b ≤ 3000 := by decide) : CDivP i j := by
  refine divp_ok hj ?_
  have := PyProof.Rows.intBits_le hi
  omega
section
variable {P : Program} {w : World} {K : PySem.W.Frag} {mg : Str → Option Value} {base : Heap}
def spIsInt : Sp := fun vs H Q _ => ∃ n : Int, vs = [.int n] ∧ Q (.bl true) H
theorem ok_is_integer {f : Addr} {fd : FuncData} (F : Fun K "is_integer" "is_integer" s_is_integer f fd) (T : Tx K mg) : FnOk P w K mg base CX0 1 f fd ["given"] spIsInt := by
  refine F.ok sc_is_integer (fun vs H Q E h => ?_) (fun cdv A outer s H vs Q E hr h => ?_)
  · obtain ⟨n, rfl, _⟩ := h
    rfl
  · obtain ⟨n, rfl, q⟩ := h
    refine ⟨_, (pss_one (ps_ret (pe_and (pe_callB (isiK (K := K) rfl) (by rfl) T.b_isinstance (by decide +kernel) (pa_cons (pv 0) (pa_cons (pe_bltn (v := .ty "int") (u := .type "int") (by rfl) T.b_int (by decide +kernel) rfl) pa_nil))) (pe_one (pe_not (pe_callB (isiK (K := K) rfl) (by rfl) T.b_isinstance (by decide +kernel) (pa_cons (pv 0) (pa_cons (pe_bltn (v := .ty "bool") (u := .type "bool") (by rfl) T.b_bool (by decide +kernel) rfl) pa_nil)))))))), ?_⟩
    refine ⟨.int n, rfl, .int n, _, _, _, true, rfl, .ty "int", .base (.int n), kit_ty (by decide +kernel), true, rfl, iteT ?_⟩
    exact ⟨.int n, rfl, .int n, _, _, _, false, rfl, .ty "bool", .base (.int n), kit_ty (by decide +kernel), false, rfl, q⟩
end
/-! a tick, of an integer -/
section
variable {P : Program} {w : World} {K : PySem.W.Frag} {mg : Str → Option Value} {base : Heap}
def spIsTick : Sp := fun vs H Q _ => ∃ n l : Int, vs = [.int n, .int l] ∧ l ≤ n ∧ Q (.bl true) H
theorem ok_is_tick {f : Addr} {fd : FuncData} (F : FunD K "is_tick" "is_tick" (defArgs s_is_tick) (defBody s_is_tick) (defScope s_is_tick) [.int 0] [] f fd) (T : Tx K mg) (h1 : Has P w K mg base 1 "is_integer" ["given"] [] spIsInt) : FnOk P w K mg base CX0 2 f fd ["given", "least"] spIsTick := by
  obtain ⟨f_is_integer, fd_is_integer, ds_is_integer, G_is_integer, m_is_integer, k_is_integer, b_is_integer, v_is_integer⟩ := h1
  refine F.ok sc_is_tick (fun vs H Q E h => ?_) (fun cdv A outer s H vs Q E hr h => ?_)
  · obtain ⟨n, l, rfl, _⟩ := h
    rfl
  · obtain ⟨n, l, rfl, l1, q⟩ := h
    refine ⟨_, PSs.nox (pss_one (ps_ret (pe_and (pe_call G_is_integer hr (by rfl) m_is_integer k_is_integer b_is_integer v_is_integer pass0 (pa_cons (pv 0) pa_nil)) (pe_one (pe_cmpR op_ge (pv 0) (pv 1) (nomark _)))))), ?_⟩
    refine ⟨.int n, rfl, n, rfl, true, rfl, iteT ?_⟩
    refine ⟨.int n, rfl, .int l, rfl, n, l, rfl, rfl, ?_⟩
    have e : V.bl (decide (n ≥ l)) = V.bl true := dT l1
    show Q (V.bl (decide (n ≥ l))) H
    rw [e]
    exact q
end
/-! ### bases and ticks -/
section
variable {P : Program} {w : World} {K : PySem.W.Frag} {mg : Str → Option Value} {base : Heap}
def spIsBase : Sp := fun vs H Q _ => ∃ n : Int, vs = [.int n] ∧ 2 ≤ n ∧ n ≤ 64 ∧ Q (.bl true) H
theorem ok_is_base {f : Addr} {fd : FuncData} (F : Fun K "is_base" "is_base" s_is_base f fd) (h1 : Has P w K mg base 1 "is_integer" ["given"] [] spIsInt) : FnOk P w K mg base CX0 2 f fd ["given"] spIsBase := by
  obtain ⟨f_is_integer, fd_is_integer, ds_is_integer, G_is_integer, m_is_integer, k_is_integer, b_is_integer, v_is_integer⟩ := h1
  refine F.ok sc_is_base (fun vs H Q E h => ?_) (fun cdv A outer s H vs Q E hr h => ?_)
  · obtain ⟨n, rfl, _⟩ := h
    rfl
  · obtain ⟨n, rfl, l1, l2, q⟩ := h
    refine ⟨_, (pss_one (ps_ret (pe_and (pe_call G_is_integer hr (by rfl) m_is_integer k_is_integer b_is_integer v_is_integer pass0 (pa_cons (pv 0) pa_nil)) (pe_one (pe_chain op_le op_le pe_int (pv 0) pe_int))))), ?_⟩
    refine ⟨.int n, rfl, n, rfl, true, rfl, iteT ?_⟩
    refine ⟨.int n, rfl, 2, n, rfl, rfl, true, congrArg V.bl (decide_eq_true l1), iteT ?_⟩
    refine ⟨n, 64, rfl, rfl, ?_⟩
    have e : V.bl (decide (n ≤ 64)) = V.bl true := dT l2
    show Q (V.bl (decide (n ≤ 64))) H
    rw [e]
    exact q
def spCheckBase : Sp := fun vs H Q _ => ∃ n : Int, vs = [.int n] ∧ 2 ≤ n ∧ n ≤ 64 ∧ Q .non H
theorem ok_check_base {f : Addr} {fd : FuncData} (F : Fun K "check_base" "check_base" s_check_base f fd) (h1 : Has P w K mg base 2 "is_base" ["given"] [] spIsBase) : FnOk P w K mg base CX0 3 f fd ["base"] spCheckBase := by
  obtain ⟨f_is_base, fd_is_base, ds_is_base, G_is_base, m_is_base, k_is_base, b_is_base, v_is_base⟩ := h1
  refine F.ok sc_check_base (fun vs H Q E h => ?_) (fun cdv A outer s H vs Q E hr h => ?_)
  · obtain ⟨n, rfl, _⟩ := h
    rfl
  · obtain ⟨n, rfl, l1, l2, q⟩ := h
    refine ⟨_, (pss_one (ps_if (pt_not (pt_val (pe_call G_is_base hr (by rfl) m_is_base k_is_base b_is_base v_is_base pass0 (pa_cons (pv 0) pa_nil))))
        (pss_one ps_never)
        pss_nil)), ?_⟩
    exact ⟨.int n, rfl, n, rfl, l1, l2, true, rfl, iteF q⟩
def spCheckTick : Sp := fun vs H Q _ => ∃ n l : Int, vs = [.int n, .int l] ∧ l ≤ n ∧ Q .non H
theorem ok_check_tick {f : Addr} {fd : FuncData} (F : FunD K "check_tick" "check_tick" (defArgs s_check_tick) (defBody s_check_tick) (defScope s_check_tick) [.int 0] [] f fd) (h1 : Has P w K mg base 2 "is_tick" ["given", "least"] [] spIsTick) : FnOk P w K mg base CX0 3 f fd ["tick", "least"] spCheckTick := by
  obtain ⟨f_is_tick, fd_is_tick, ds_is_tick, G_is_tick, m_is_tick, k_is_tick, b_is_tick, v_is_tick⟩ := h1
  refine F.ok sc_check_tick (fun vs H Q E h => ?_) (fun cdv A outer s H vs Q E hr h => ?_)
  · obtain ⟨n, l, rfl, _⟩ := h
    rfl
  · obtain ⟨n, l, rfl, l1, q⟩ := h
    refine ⟨_, PSs.nox (pss_one (ps_if (pt_not (pt_val (pe_call G_is_tick hr (by rfl) m_is_tick k_is_tick b_is_tick v_is_tick pass0 (pa_cons (pv 0) (pa_cons (pv 1) pa_nil)))))
        (pss_one ps_never)
        pss_nil)), ?_⟩
    exact ⟨.int n, rfl, .int l, rfl, n, l, rfl, l1, true, rfl, iteF q⟩
end
/-! ### is_integer of any value; a tick that is none -/
section
variable {P : Program} {w : World} {K : PySem.W.Frag} {mg : Str → Option Value} {base : Heap}
def spIsIntX (K : PySem.W.Frag) : Sp := fun vs H Q _ => ∃ x : V, vs = [x] ∧ ((∃ n : Int, x = .int n ∧ Q (.bl true) H) ∨ (NoInt K H x ∧ Q (.bl false) H))
theorem okA_is_integer {f : Addr} {fd : FuncData} (F : Fun K "is_integer" "is_integer" s_is_integer f fd) (T : Tx K mg) : FnOk P w K mg base CX0 1 f fd ["given"] (spIsIntX K) := by
  refine F.ok sc_is_integer (fun vs H Q E h => ?_) (fun cdv A outer s H vs Q E hr h => ?_)
  · obtain ⟨x, rfl, _⟩ := h
    rfl
  · obtain ⟨x, rfl, hx⟩ := h
    refine ⟨_, (pss_one (ps_ret (pe_and (pe_callB (isiK (K := K) rfl) (by rfl) T.b_isinstance (by decide +kernel) (pa_cons (pv 0) (pa_cons (pe_bltn (v := .ty "int") (u := .type "int") (by rfl) T.b_int (by decide +kernel) rfl) pa_nil))) (pe_one (pe_not (pe_callB (isiK (K := K) rfl) (by rfl) T.b_isinstance (by decide +kernel) (pa_cons (pv 0) (pa_cons (pe_bltn (v := .ty "bool") (u := .type "bool") (by rfl) T.b_bool (by decide +kernel) rfl) pa_nil)))))))), ?_⟩
    rcases hx with ⟨n, rfl, q⟩ | ⟨⟨t, ht, hn⟩, q⟩
    · refine ⟨.int n, rfl, .int n, _, _, _, true, rfl, .ty "int", .base (.int n), kit_ty (by decide +kernel), true, rfl, iteT ?_⟩
      exact ⟨.int n, rfl, .int n, _, _, _, false, rfl, .ty "bool", .base (.int n), kit_ty (by decide +kernel), false, rfl, q⟩
    · obtain ⟨i, b, h1, h2, h3⟩ := hn.kit (K := K)
      cases i with
      | false => exact ⟨x, rfl, x, _, _, _, false, rfl, .ty "int", ht, h1, false, rfl, iteF q⟩
      | true =>
        refine ⟨x, rfl, x, _, _, _, true, rfl, .ty "int", ht, h1, true, rfl, iteT ?_⟩
        exact ⟨x, rfl, x, _, _, _, b, rfl, .ty "bool", ht, h2, b, rfl, by rw [h3 rfl]; exact q⟩
/-- what is no tick from l on -/
def BadTick (K : PySem.W.Frag) (H : Hp) (x : V) (l : Int) : Prop := NoInt K H x ∨ ∃ n : Int, x = .int n ∧ n < l
def spIsTickX (K : PySem.W.Frag) : Sp := fun vs H Q _ => ∃ (x : V) (l : Int), vs = [x, .int l] ∧ ((∃ n : Int, x = .int n ∧ l ≤ n ∧ Q (.bl true) H) ∨ (BadTick K H x l ∧ Q (.bl false) H))
theorem okA_is_tick {f : Addr} {fd : FuncData} (F : FunD K "is_tick" "is_tick" (defArgs s_is_tick) (defBody s_is_tick) (defScope s_is_tick) [.int 0] [] f fd) (h1 : Has P w K mg base 1 "is_integer" ["given"] [] (spIsIntX K)) : FnOk P w K mg base CX0 2 f fd ["given", "least"] (spIsTickX K) := by
  obtain ⟨f_is_integer, fd_is_integer, ds_is_integer, G_is_integer, m_is_integer, k_is_integer, b_is_integer, v_is_integer⟩ := h1
  refine F.ok sc_is_tick (fun vs H Q E h => ?_) (fun cdv A outer s H vs Q E hr h => ?_)
  · obtain ⟨x, l, rfl, _⟩ := h
    rfl
  · obtain ⟨x, l, rfl, hx⟩ := h
    refine ⟨_, PSs.nox (pss_one (ps_ret (pe_and (pe_call G_is_integer hr (by rfl) m_is_integer k_is_integer b_is_integer v_is_integer pass0 (pa_cons (pv 0) pa_nil)) (pe_one (pe_cmpR op_ge (pv 0) (pv 1) (nomark _)))))), ?_⟩
    have e1 : ∀ n : Int, l ≤ n → V.bl (decide (n ≥ l)) = V.bl true := fun n h => dT h
    have e2 : ∀ n : Int, n < l → V.bl (decide (n ≥ l)) = V.bl false := fun n h => dF (by omega)
    rcases hx with ⟨n, rfl, l1, q⟩ | ⟨hn | ⟨n, rfl, l1⟩, q⟩
    · refine ⟨.int n, rfl, .int n, rfl, .inl ⟨n, rfl, true, rfl, iteT ⟨.int n, rfl, .int l, rfl, n, l, rfl, rfl, ?_⟩⟩⟩
      show Q (V.bl (decide (n ≥ l))) H
      rw [e1 n l1]
      exact q
    · exact ⟨x, rfl, x, rfl, .inr ⟨hn, false, rfl, iteF q⟩⟩
    · refine ⟨.int n, rfl, .int n, rfl, .inl ⟨n, rfl, true, rfl, iteT ⟨.int n, rfl, .int l, rfl, n, l, rfl, rfl, ?_⟩⟩⟩
      show Q (V.bl (decide (n ≥ l))) H
      rw [e2 n l1]
      exact q
def spCheckTickX (K : PySem.W.Frag) (CN : Addr) : Sp := fun vs H Q E => ∃ (x : V) (l : Int), vs = [x, .int l] ∧ ((∃ n : Int, x = .int n ∧ l ≤ n ∧ Q .non H) ∨ (BadTick K H x l ∧ E (.ref CN) none H))
theorem okX_check_tick {f c_NoTick : Addr} {fd : FuncData} (F : FunD K "check_tick" "check_tick" (defArgs s_check_tick) (defBody s_check_tick) (defScope s_check_tick) [.int 0] [] f fd) (T : Tx K mg) (X_NoTick : EC K mg "NoTick" c_NoTick) (h1 : Has P w K mg base 2 "is_tick" ["given", "least"] [] (spIsTickX K)) : FnOk P w K mg base (L2.CX P w) 3 f fd ["tick", "least"] (spCheckTickX K c_NoTick) := by
  obtain ⟨f_is_tick, fd_is_tick, ds_is_tick, G_is_tick, m_is_tick, k_is_tick, b_is_tick, v_is_tick⟩ := h1
  refine F.ok sc_check_tick (fun vs H Q E h => ?_) (fun cdv A outer s H vs Q E hr h => ?_)
  · obtain ⟨x, l, rfl, _⟩ := h
    rfl
  · obtain ⟨x, l, rfl, hx⟩ := h
    refine ⟨_, (pss_one (ps_if (pt_not (pt_val (pe_call G_is_tick hr (by rfl) m_is_tick k_is_tick b_is_tick v_is_tick pass0 (pa_cons (pv 0) (pa_cons (pv 1) pa_nil)))))
        (pss_one (ps_raise rfl (takes_of rfl rfl rfl rfl) (pmk_own PySem.F.excBase_ValueError X_NoTick.x X_NoTick.g X_NoTick.k (raises_own X_NoTick.b X_NoTick.t) rfl)))
        pss_nil)), ?_⟩
    rcases hx with ⟨n, rfl, l1, q⟩ | ⟨hn, q⟩
    · exact ⟨.int n, rfl, .int l, rfl, .int n, l, rfl, .inl ⟨n, rfl, l1, true, rfl, iteF q⟩⟩
    · exact ⟨x, rfl, .int l, rfl, x, l, rfl, .inr ⟨hn, false, rfl, iteT q⟩⟩
end
/-! ### the program: level_and_size, path -/
section
variable {P : Program} {w : World} {K : PySem.W.Frag} {mg : Str → Option Value} {base : Heap}
/-! the level -/
def spLevel : Sp := fun vs H Q _ => ∃ b n d : Nat, vs = [.int b, .int n, .int d] ∧ 2 ≤ b ∧ b ≤ 64 ∧ n < d ∧ d < 2 ^ 250 ∧ ∀ k, IsLev b n d k → ∀ H' p, Same H H' → H p = none → H' p = some (.tup [.int (k : Nat), .int ((b ^ k : Nat) : Int)]) → Q (.ref p) H'
theorem ok_level_and_size {f : Addr} {fd : FuncData} (F : Fun K "level_and_size" "level_and_size" s_level_and_size f fd) : FnOk P w K mg base CX0 1 f fd ["base", "now", "due"] spLevel := by
  refine F.ok sc_level_and_size (fun vs H Q E h => ?_) (fun cdv A outer s H vs Q E hr h => ?_)
  · obtain ⟨b, n, d, rfl, _⟩ := h
    rfl
  · obtain ⟨b, n, d, rfl, hb, hb64, hnd, hd, q⟩ := h
    have cb : ∀ x : Nat, NDiv x b := fun x => ndiv 7 (by omega) (by omega)
    refine ⟨_, (pss_cons (ps_asg (pe_tup (pa_cons pe_int (pa_cons pe_int pa_nil))) (pg_tupK (K := K) (n := 2) rfl rfl (pgs_cons (pg_name (i := 3) sc_level_and_size.nd rfl (.inl rfl)) (pgs_cons (pg_name (i := 4) sc_level_and_size.nd rfl (.inl rfl)) pgs_nil))))
      (pss_cons (ps_par (i := 5) (j := 6) (by rfl) sc_level_and_size.nd rfl rfl (by decide) rfl rfl (pa_cons (pe_op op_divN (pv 1) (pv 0)) (pa_cons (pe_op op_divN (pv 2) (pv 0)) pa_nil)) (by rfl))
      (pss_cons (ps_while PassesOwn.never (pt_cmpR op_ne (pv 5) (pv 6) (nomark _))
        (pss_cons (ps_par (i := 5) (j := 6) (by rfl) sc_level_and_size.nd rfl rfl (by decide) rfl rfl (pa_cons (pe_op op_divN (pv 5) (pv 0)) (pa_cons (pe_op op_divN (pv 6) (pv 0)) pa_nil)) (by rfl))
        (pss_one (ps_par (i := 3) (j := 4) (by rfl) sc_level_and_size.nd rfl rfl (by decide) rfl rfl (pa_cons (pe_op op_addN (pv 3) pe_int) (pa_cons (pe_op op_mulN (pv 4) (pv 0)) pa_nil)) (by rfl)))))
      (pss_one (ps_ret (pe_tup (pa_cons (pv 3) (pa_cons (pv 4) pa_nil)))))))), ?_⟩
    refine ⟨by simp [sizeLine_eq], fun t hT => ⟨t, _, rfl, .inl (.inl upd_same), rfl, _, _, rfl, _, _, rfl, rfl, ?_⟩⟩
    refine ⟨_, rfl, _, rfl, _, _, rfl, rfl, cb _, _, rfl, _, rfl, _, _, rfl, rfl, cb _, _, _, rfl, ?_⟩
    refine while_by (fun σ H' => ∃ k : Nat, σ = [some (.int (b : Int)), some (.int (n : Int)), some (.int (d : Int)), some (.int (k : Int)), some (.int ((b ^ k : Nat) : Int)), some (.int ((n / b ^ (k + 1) : Nat) : Int)), some (.int ((d / b ^ (k + 1) : Nat) : Int))] ∧ Same H H' ∧ ∀ j, j < k → n / b ^ (j + 1) ≠ d / b ^ (j + 1))
      (fun σ _ => slotInt σ 6) ⟨0, ?_, same_upd hT, fun j hj => absurd hj (Nat.not_lt_zero j)⟩ ?_ ?_
    · rw [Nat.zero_add, Nat.pow_one]
      rfl
    · rintro σ H' ⟨k, rfl, sm, hk⟩
      by_cases hne : n / b ^ (k + 1) = d / b ^ (k + 1)
      · refine ⟨_, rfl, _, rfl, rfl, false, ?_, iteF ?_⟩
        · rw [hne, decide_eq_true rfl]
          rfl
        · refine ⟨_, rfl, _, rfl, by simp [sizeLine_eq], fun p hp => ?_⟩
          exact q k ⟨hne, hk⟩ _ p (sm.trans (same_upd hp)) (sm.free hp) upd_same
      · have h2 : n / b ^ (k + 1) ≤ d / b ^ (k + 1) := Nat.div_le_div_right (Nat.le_of_lt hnd)
        have hpos : 0 < d / b ^ (k + 1) := pos_of h2 hne
        refine ⟨_, rfl, _, rfl, rfl, true, ?_, iteT ?_⟩
        · rw [int_ne hne]
          rfl
        · refine ⟨_, rfl, _, rfl, _, _, rfl, rfl, cb _, _, rfl, _, rfl, _, _, rfl, rfl, cb _, _, _, rfl, ?_⟩
          refine ⟨_, rfl, k, 1, rfl, rfl, trivial, _, rfl, _, rfl, _, _, rfl, rfl, nmul_r (by omega), _, _, rfl, ?_⟩
          have hlt : d / b ^ (k + 1) / b < d / b ^ (k + 1) := Nat.div_lt_self hpos (by omega)
          refine ⟨⟨k + 1, ?_, sm, fun j hj => ?_⟩, ?_⟩
          · rw [div_succ n b (k + 1), div_succ d b (k + 1), Nat.pow_succ b k]
            rfl
          · by_cases e : j = k
            · rw [e]
              exact hne
            · exact hk j (by omega)
          · show (((d / b ^ (k + 1) / b : Nat) : Int)).toNat < (((d / b ^ (k + 1) : Nat) : Int)).toNat
            rw [Int.toNat_natCast, Int.toNat_natCast]
            exact hlt
    · rintro σ H' Q1 Q2 h ⟨x, hx, y, hy, hs, k, e, z⟩
      exact ⟨x, hx, y, hy, hs, k, e, h _ _ z⟩
/-! the stations -/
def rowV (r : Row3) : List V := [.int (r.1 : Nat), .int (r.2.1 : Nat), .int (r.2.2 : Nat)]
/-- at the places ts stand the rows rs, each a tuple of three -/
def RowsAt (H : Hp) : List Addr → List Row3 → Prop
  | [], [] => True
  | t :: ts, r :: rs => H t = some (.tup (rowV r)) ∧ RowsAt H ts rs
  | _, _ => False
theorem RowsAt.same {H H' : Hp} (s : Same H H') : ∀ {ts : List Addr} {rs : List Row3}, RowsAt H ts rs → RowsAt H' ts rs
  | [], [], h => h
  | _ :: _, _ :: _, h => ⟨s _ _ h.1, h.2.same s⟩
  | [], _ :: _, h => h
  | _ :: _, [], h => h
theorem RowsAt.app {H : Hp} {t : Addr} {r : Row3} : ∀ {ts : List Addr} {rs : List Row3}, RowsAt H ts rs → H t = some (.tup (rowV r)) → RowsAt H (ts ++ [t]) (rs ++ [r])
  | [], [], _, h => ⟨h, trivial⟩
  | _ :: _, _ :: _, h, h2 => ⟨h.1, h.2.app h2⟩
  | [], _ :: _, h, _ => h.elim
  | _ :: _, [], h, _ => h.elim
theorem RowsAt.len {H : Hp} : ∀ {ts : List Addr} {rs : List Row3}, RowsAt H ts rs → ts.length = rs.length
  | [], [], _ => rfl
  | _ :: _, _ :: _, h => congrArg Nat.succ h.2.len
  | [], _ :: _, h => h.elim
  | _ :: _, [], h => h.elim
theorem RowsAt.upd {H : Hp} {p : Addr} {xs : List V} {o : HO} (hp : H p = some (.lst xs)) : ∀ {ts : List Addr} {rs : List Row3}, RowsAt H ts rs → RowsAt (upd H p o) ts rs
  | [], [], h => h
  | t :: _, _ :: _, h => ⟨by rw [upd_ne (ne_of h.1 hp (by intro z; cases z))]; exact h.1, h.2.upd hp⟩
  | [], _ :: _, h => h
  | _ :: _, [], h => h
theorem RowsAt.get {H : Hp} : ∀ {ts : List Addr} {rs : List Row3} {i : Nat} {t : Addr}, RowsAt H ts rs → ts[i]? = some t → ∃ r, rs[i]? = some r ∧ H t = some (.tup (rowV r))
  | t :: _, r :: _, 0, _, h, e => ⟨r, rfl, by cases Option.some.inj e; exact h.1⟩
  | _ :: _, _ :: _, i + 1, _, h, e => h.2.get (i := i) e
  | [], _, _, _, _, e => by simp at e
  | _ :: _, [], _, _, h, _ => h.elim
def spPath : Sp := fun vs H Q _ => ∃ b n d : Nat, vs = [.int b, .int n, .int d] ∧ 2 ≤ b ∧ b ≤ 64 ∧ n < d ∧ d < 2 ^ 250 ∧ ∀ k, IsLev b n d k → ∀ H' p ts, Same H H' → H p = none → H' p = some (.lst (ts.map V.ref)) → RowsAt H' ts (rowsOf b n d k) → Q (.ref p) H'
theorem ok_path {f : Addr} {fd : FuncData} (F : Fun K "path" "path" s_path f fd) (h1 : Has P w K mg base 1 "level_and_size" ["base", "now", "due"] [] spLevel) : FnOk P w K mg base CX0 2 f fd ["base", "now", "due"] spPath := by
  obtain ⟨f_level_and_size, fd_level_and_size, ds_level_and_size, G_level_and_size, m_level_and_size, k_level_and_size, b_level_and_size, v_level_and_size⟩ := h1
  refine F.ok sc_path (fun vs H Q E h => ?_) (fun cdv A outer s H vs Q E hr h => ?_)
  · obtain ⟨b, n, d, rfl, _⟩ := h
    rfl
  · obtain ⟨b, n, d, rfl, hb, hb64, hnd, hd, q⟩ := h
    have cb : ∀ x : Nat, NDiv x b := fun x => ndiv 7 (by omega) (by omega)
    have hb0 : 0 < b := by omega
    refine ⟨_, (pss_cons (ps_asg (pe_call G_level_and_size hr (by rfl) m_level_and_size k_level_and_size b_level_and_size v_level_and_size pass0 (pa_cons (pv 0) (pa_cons (pv 1) (pa_cons (pv 2) pa_nil)))) (pg_tupK (K := K) (n := 2) rfl rfl (pgs_cons (pg_name (i := 3) sc_path.nd rfl (.inl rfl)) (pgs_cons (pg_name (i := 4) sc_path.nd rfl (.inl rfl)) pgs_nil))))
      (pss_cons (ps_set (i := 5) sc_path.nd rfl (.inl rfl) (pe_lst (pa_cons (pe_tup (pa_cons (pv 3) (pa_cons (pe_op op_remN (pe_op op_divN (pv 2) (pv 4)) (pv 0)) (pa_cons (pv 1) pa_nil)))) pa_nil)))
      (pss_cons (ps_while PassesOwn.never (pt_cmpR op_gt (pv 3) pe_int (nomark _))
        (pss_cons (ps_set (i := 6) sc_path.nd rfl (.inl rfl) (pe_op op_mulN (pe_op op_divN (pv 2) (pv 4)) (pv 4)))
        (pss_cons (ps_par (i := 3) (j := 4) (by rfl) sc_path.nd rfl rfl (by decide) rfl rfl (pa_cons (pe_op op_subN (pv 3) pe_int) (pa_cons (pe_op op_divN (pv 4) (pv 0)) pa_nil)) (by rfl))
        (pss_cons (ps_set (i := 7) sc_path.nd rfl (.inl rfl) (pe_op op_remN (pe_op op_divN (pv 2) (pv 4)) (pv 0)))
        (pss_one (ps_if (pt_cmpR op_ne (pv 7) pe_int (nomark _))
          (pss_one (ps_expr (pe_bm PySem.F.plainAttrs_list PySem.F.slot_list_append PySem.F.type_list_append mt_append (pv 5) (pa_cons (pe_tup (pa_cons (pv 3) (pa_cons (pv 7) (pa_cons (pv 6) pa_nil)))) pa_nil))))
          pss_nil))))))
      (pss_one (ps_ret (pv 5)))))), ?_⟩
    refine ⟨_, rfl, _, rfl, _, rfl, b, n, d, rfl, hb, hb64, hnd, hd, fun k hk H0 t0 s0 ht0 eT0 => ?_⟩
    have hkd : ∀ j, j ≤ k → b ^ j ≤ d := fun j hj => Nat.le_trans (Nat.pow_le_pow_right (by omega) hj) (hk.size hb hnd)
    have hk250 : k < 250 := lev_small hk hb hnd hd
    have cs : ∀ j, j ≤ k → ∀ x : Nat, NDiv x (b ^ j) := fun j hj x => ndiv 250 (pow_pos' hb j) (Nat.lt_of_le_of_lt (hkd j hj) hd)
    -- level, size = ..
    refine ⟨t0, _, rfl, .inl (.inl eT0), rfl, _, _, rfl, _, _, rfl, rfl, ?_⟩
    -- rows = [(level, due // size % base, now)]
    refine ⟨_, rfl, _, rfl, _, rfl, _, _, rfl, rfl, cs k (Nat.le_refl k) _, _, rfl, _, _, rfl, rfl, hb0, _, rfl, by simp [sizeLine_eq], fun t1 ht1 => ?_⟩
    have s1 := s0.trans (same_upd (o := .tup (rowV (k, d / b ^ k % b, n))) ht1)
    refine ⟨by simp [sizeLine_eq], fun p hp => ?_⟩
    have s2 := s1.trans (same_upd (o := .lst [.ref t1]) hp)
    have np1 : t1 ≠ p := fun e => by
      rw [← e, upd_same] at hp
      cases hp
    have hpH : H p = none := s1.free hp
    refine while_by (fun σ H' => ∃ (j : Nat) (ts : List Addr) (done : List Row3) (y6 y7 : Option V), σ = [some (.int (b : Int)), some (.int (n : Int)), some (.int (d : Int)), some (.int (j : Int)), some (.int ((b ^ j : Nat) : Int)), some (.ref p), y6, y7] ∧ j ≤ k ∧ ts.length + j ≤ k + 1 ∧ Same H H' ∧ H' p = some (.lst (ts.map V.ref)) ∧ RowsAt H' ts ((k, d / b ^ k % b, n) :: done) ∧ tailOf b d k = done ++ tailOf b d j)
      (fun σ _ => slotInt σ 3) ⟨k, [t1], [], none, none, rfl, Nat.le_refl k, by simp; omega, s2, upd_same, ⟨?_, trivial⟩, rfl⟩ ?_ ?_
    · rw [upd_ne np1, upd_same]
      rfl
    · rintro σ H' ⟨j, ts, done, y6, y7, rfl, hjk, hlen, sm, eL, R, et⟩
      cases j with
      | zero =>
        refine ⟨_, rfl, ((0 : Nat) : Int), 0, rfl, rfl, false, rfl, iteF ?_⟩
        refine ⟨_, rfl, q k hk H' p ts sm hpH eL ?_⟩
        have e : done = tailOf b d k := by
          rw [et]
          exact (List.append_nil done).symm
        rw [e] at R
        exact R
      | succ j =>
        have hj0 : (0 : Int) < ((j + 1 : Nat) : Int) := by omega
        refine ⟨_, rfl, _, _, rfl, rfl, true, congrArg V.bl (decide_eq_true hj0), iteT ?_⟩
        -- tick = due // size * size
        refine ⟨_, rfl, _, rfl, _, _, rfl, rfl, cs (j + 1) hjk _, _, rfl, _, _, rfl, rfl, nmul_w 250 250 (Nat.lt_of_le_of_lt (Nat.div_le_self d _) hd) (Nat.lt_of_le_of_lt (hkd (j + 1) hjk) hd), ?_⟩
        -- level, size = level - 1, size // base
        refine ⟨_, rfl, j + 1, 1, rfl, rfl, Nat.le_add_left 1 j, _, rfl, _, rfl, b ^ (j + 1), b, rfl, rfl, cb _, .int (j : Nat), .int ((b ^ j : Nat) : Int), ?_, ?_⟩
        · show [V.int ((j + 1 - 1 : Nat) : Int), V.int ((b ^ (j + 1) / b : Nat) : Int)] = _
          rw [Nat.pow_succ, Nat.mul_div_cancel _ hb0]
          rfl
        -- digit = due // size % base
        refine ⟨_, rfl, _, rfl, d, b ^ j, rfl, rfl, cs j (by omega) _, _, rfl, _, _, rfl, rfl, hb0, ?_⟩
        have lt : slotInt [some (.int (b : Int)), some (.int (n : Int)), some (.int (d : Int)), some (.int (j : Int)), some (.int ((b ^ j : Nat) : Int)), some (.ref p), some (.int ((d / b ^ (j + 1) * b ^ (j + 1) : Nat) : Int)), some (.int ((d / b ^ j % b : Nat) : Int))] 3 < ((j + 1 : Nat) : Int).toNat := by
          show ((j : Int)).toNat < _
          omega
        by_cases h0 : d / b ^ j % b = 0
        · refine ⟨_, rfl, rfl, false, nF (vE h0), iteF ?_⟩
          · refine ⟨⟨j, ts, done, _, _, rfl, by omega, by omega, sm, eL, R, ?_⟩, lt⟩
            rw [et]
            show done ++ tailOf b d (j + 1) = done ++ tailOf b d j
            have : tailOf b d (j + 1) = tailOf b d j := if_neg (fun z => z h0)
            rw [this]
        · refine ⟨_, rfl, rfl, true, nT (vN (b := 0) h0), iteT ?_⟩
          · -- rows.append((level, digit, tick))
            refine ⟨_, rfl, .inl ⟨rfl, _, .inl (.inl eL)⟩, _, rfl, _, rfl, _, rfl, by simp [sizeLine_eq], fun t2 ht2 => ?_⟩
            have s3 := same_upd (o := .tup (rowV (j, d / b ^ j % b, d / b ^ (j + 1) * b ^ (j + 1)))) ht2
            have npt : t2 ≠ p := fun e => by
              rw [e, eL] at ht2
              cases ht2
            have eL' := s3 _ _ eL
            refine ⟨p, _, _, rfl, rfl, eL', ?_, ?_⟩
            · rw [List.length_map]
              exact sizeLine_ge (by omega)
            · refine ⟨⟨j, ts ++ [t2], done ++ [(j, d / b ^ j % b, d / b ^ (j + 1) * b ^ (j + 1))], _, _, rfl, by omega, ?_, fun c o e => ?_, ?_, ?_, ?_⟩, lt⟩
              · rw [List.length_append, List.length_singleton]
                omega
              · rw [upd_ne (ne_of_none e hpH)]
                exact s3 _ _ (sm _ _ e)
              · rw [upd_same, List.map_append]
                rfl
              · refine RowsAt.upd eL' ?_
                exact RowsAt.app (r := (j, d / b ^ j % b, d / b ^ (j + 1) * b ^ (j + 1))) (rs := (k, d / b ^ k % b, n) :: done) (R.same s3) upd_same
              · rw [et, List.append_assoc]
                show done ++ tailOf b d (j + 1) = done ++ ((j, d / b ^ j % b, d / b ^ (j + 1) * b ^ (j + 1)) :: tailOf b d j)
                have : tailOf b d (j + 1) = (j, d / b ^ j % b, d / b ^ (j + 1) * b ^ (j + 1)) :: tailOf b d j := if_pos h0
                rw [this]
    · rintro σ H' Q1 Q2 h ⟨x, hx, i, j, e1, e2, k, e, z⟩
      exact ⟨x, hx, i, j, e1, e2, k, e, h _ _ z⟩
end
theorem RowsAt.item {H : Hp} {ts : List Addr} {rs : List Row3} (R : RowsAt H ts rs) {i : Nat} {x : V} (hx : (ts.map V.ref)[i]? = some x) : ∃ ti r, x = V.ref ti ∧ ts[i]? = some ti ∧ rs[i]? = some r ∧ H ti = some (.tup (rowV r)) := by
  rw [List.getElem?_map] at hx
  cases e : ts[i]? with
  | none =>
    rw [e] at hx
    cases hx
  | some ti =>
    rw [e] at hx
    obtain ⟨r, hr, er⟩ := R.get e
    exact ⟨ti, r, (Option.some.inj hx).symm, rfl, hr, er⟩
section
variable {P : Program} {w : World} {K : PySem.W.Frag} {mg : Str → Option Value} {base : Heap}
def spWordAt (K : PySem.W.Frag) : Sp := fun vs H Q _ => ∃ (q : Addr) (ws : List Bool) (k : Nat), vs = [.ref q, .int (k : Nat)] ∧ SqL K H q (ws.map lvV) ∧ ws ≠ [] ∧ Q (lvV (wordAt ws k)) H
theorem ok_word_at {f : Addr} {fd : FuncData} (F : Fun K "word_at" "word_at" s_word_at f fd) (T : Tx K mg) : FnOk P w K mg base CX0 1 f fd ["levels", "level"] (spWordAt K) := by
  refine F.ok sc_word_at (fun vs H Q E h => ?_) (fun cdv A outer s H vs Q E hr h => ?_)
  · obtain ⟨q, ws, k, rfl, _⟩ := h
    rfl
  · obtain ⟨q, ws, k, rfl, hL, hne, c⟩ := h
    have hp : 0 < ws.length := List.length_pos_iff.mpr hne
    have hpm : 1 ≤ (ws.map lvV).length := by
      rw [List.length_map]
      exact hp
    refine ⟨_, (pss_one (ps_ret (pe_ix (ix_listK (K := K) rfl) (pv 0) (pe_callB (call_min2 rfl) (by rfl) T.b_min (by decide +kernel) (pa_cons (pv 1) (pa_cons (pe_op op_subN (pe_callB (lenK (K := K) rfl) (by rfl) T.b_len PySem.boot_len (pa_cons (pv 0) pa_nil)) pe_int) pa_nil))) (fun _ _ => rfl)))), ?_⟩
    have g := word_get hne k
    refine ⟨.ref q, rfl, _, rfl, .ref q, rfl, q, _, rfl, .inl hL, (ws.map lvV).length, 1, rfl, rfl, hpm, k, _, rfl, q, _, ((min k (ws.length - 1) : Nat) : Int), _, rfl, congrArg V.int ?_, hL, atI_nat g, c⟩
    dsimp only
    rw [List.length_map]
    split <;> omega
def WordsAt (K : PySem.W.Frag) (mg : Str → Option Value) : Prop := ∃ a, mg "WORDS" = some (.ref a) ∧ ∀ H, SqT K H a [.str "stack", .str "queue"]
def MostAt (mg : Str → Option Value) : Prop := ∃ t, mg "MOST_LEVELS" = some (.int 60 t)
def spIsWord : Sp := fun vs H Q _ => ∃ b : Bool, vs = [lvV b] ∧ Q (.bl true) H
theorem ok_is_word {f : Addr} {fd : FuncData} (F : Fun K "is_word" "is_word" s_is_word f fd) (T : Tx K mg) (hW : WordsAt K mg) : FnOk P w K mg base CX0 1 f fd ["given"] spIsWord := by
  obtain ⟨a_WORDS, g_WORDS, sW⟩ := hW
  refine F.ok sc_is_word (fun vs H Q E h => ?_) (fun cdv A outer s H vs Q E hr h => ?_)
  · obtain ⟨b, rfl, _⟩ := h
    rfl
  · obtain ⟨b, rfl, c⟩ := h
    refine ⟨_, (pss_one (ps_ret (pe_and (pe_callB (isiK (K := K) rfl) (by rfl) T.b_isinstance (by decide +kernel) (pa_cons (pv 0) (pa_cons (pe_bltn (v := .ty "str") (u := .type "str") (by rfl) T.b_str (by decide +kernel) rfl) pa_nil))) (pe_one (pe_cmpR op_in_seq (pv 0) (pe_glob (v := .ref a_WORDS) rfl g_WORDS rfl) (by rfl)))))), ?_⟩
    obtain ⟨x, ex, hx⟩ : ∃ x : Str, lvV b = .str x ∧ (if false then !inV (V.str x) [.str "stack", .str "queue"] else inV (V.str x) [.str "stack", .str "queue"]) = true := by
      cases b
      · exact ⟨_, rfl, by decide⟩
      · exact ⟨_, rfl, by decide⟩
    rw [ex]
    refine ⟨.str x, rfl, _, _, _, _, true, rfl, .ty "str", .base (.str x), kit_ty (by decide +kernel), true, rfl, iteT ?_⟩
    refine ⟨.str x, rfl, a_WORDS, _, rfl, .inr (sW _), rfl, rfl, ?_⟩
    rw [hx]
    exact c
def spIsLength : Sp := fun vs H Q _ => ∃ n : Int, vs = [.int n] ∧ 1 ≤ n ∧ n ≤ 60 ∧ Q (.bl true) H
theorem ok_is_length {f : Addr} {fd : FuncData} (F : Fun K "is_length" "is_length" s_is_length f fd) (hM : MostAt mg) (h1 : Has P w K mg base 1 "is_integer" ["given"] [] spIsInt) : FnOk P w K mg base CX0 2 f fd ["given"] spIsLength := by
  obtain ⟨tM, g_MOST_LEVELS⟩ := hM
  obtain ⟨f_is_integer, fd_is_integer, ds_is_integer, G_is_integer, m_is_integer, k_is_integer, b_is_integer, v_is_integer⟩ := h1
  refine F.ok sc_is_length (fun vs H Q E h => ?_) (fun cdv A outer s H vs Q E hr h => ?_)
  · obtain ⟨n, rfl, _⟩ := h
    rfl
  · obtain ⟨n, rfl, l1, l2, q⟩ := h
    refine ⟨_, (pss_one (ps_ret (pe_and (pe_call G_is_integer hr (by rfl) m_is_integer k_is_integer b_is_integer v_is_integer pass0 (pa_cons (pv 0) pa_nil)) (pe_one (pe_chain op_le op_le pe_int (pv 0) (pe_glob (v := .int 60) rfl g_MOST_LEVELS ⟨_, rfl⟩)))))), ?_⟩
    refine ⟨.int n, rfl, n, rfl, true, rfl, iteT ?_⟩
    refine ⟨.int n, rfl, 1, n, rfl, rfl, true, congrArg V.bl (decide_eq_true l1), iteT ?_⟩
    refine ⟨n, 60, rfl, rfl, ?_⟩
    have e : V.bl (decide (n ≤ 60)) = V.bl true := dT l2
    show Q (V.bl (decide (n ≤ 60))) H
    rw [e]
    exact q
def spAreLevels (K : PySem.W.Frag) : Sp := fun vs H Q _ => ∃ (q : Addr) (ws : List Bool), vs = [.ref q] ∧ SqL K H q (ws.map lvV) ∧ ws ≠ [] ∧ ws.length ≤ 60 ∧ ∀ H', Same H H' → Q (.bl true) H'
theorem ok_are_levels {f : Addr} {fd : FuncData} (F : Fun K "are_levels" "are_levels" s_are_levels f fd) (T : Tx K mg) (h0 : Has P w K mg base 2 "is_length" ["given"] [] spIsLength) (h1 : Has P w K mg base 1 "is_word" ["given"] [] spIsWord) : FnOk P w K mg base CX0 3 f fd ["given"] (spAreLevels K) := by
  obtain ⟨f_is_length, fd_is_length, ds_is_length, G_is_length, m_is_length, k_is_length, b_is_length, v_is_length⟩ := h0
  obtain ⟨f_is_word, fd_is_word, ds_is_word, G_is_word, m_is_word, k_is_word, b_is_word, v_is_word⟩ := h1
  refine F.ok sc_are_levels (fun vs H Q E h => ?_) (fun cdv A outer s H vs Q E hr h => ?_)
  · obtain ⟨q, ws, rfl, _⟩ := h
    rfl
  · obtain ⟨q, ws, rfl, hL, hne, h60, c⟩ := h
    have hp : 0 < ws.length := List.length_pos_iff.mpr hne
    refine ⟨_, (pss_cons (ps_if (PW.pt (pw_or (pt_not (pt_val (pe_callB (isiK (K := K) rfl) (by rfl) T.b_isinstance (by decide +kernel) (pa_cons (pv 0) (pa_cons (pe_bltn (v := .ty "list") (u := .type "list") (by rfl) T.b_list (by decide +kernel) rfl) pa_nil))))) (pw_or1 (pt_not (pt_val (pe_call G_is_length hr (by rfl) m_is_length k_is_length b_is_length v_is_length pass0 (pa_cons (pe_callB (lenK (K := K) rfl) (by rfl) T.b_len PySem.boot_len (pa_cons (pv 0) pa_nil)) pa_nil)))))))
        (pss_one (ps_ret pe_bl))
        pss_nil)
      (pss_one (ps_ret (pe_callB (allK (K := K) rfl rfl) (by rfl) T.b_all (by decide +kernel) (pa_cons (pe_lc (own := [("word", 1)]) (g := gName 1) (tt := tYes) rfl sc_are_levels.nd (pi_list (pv 0)) (blkOk_by (own := [("word", 1)]) (N := N_are_levels) (sc := defScope s_are_levels) (by decide +kernel)) (fun _ _ _ _ _ => (pg_name (i := 1) sc_are_levels.nd rfl (.inl rfl))) (fun _ _ _ _ _ => pts_nil) (fun _ _ _ _ _ => (pe_call G_is_word (hr.mono (by decide)) (by rfl) m_is_word k_is_word b_is_word v_is_word pass0 (pa_cons (pv 1) pa_nil)))) pa_nil))))), ?_⟩
    refine ⟨.ref q, rfl, _, _, _, _, true, rfl, .ty "list", tyx_list hL, kit_ty (by decide +kernel), true, rfl, iteF ?_⟩
    refine ⟨.ref q, rfl, q, _, rfl, .inl hL, _, rfl, ?_, ?_, true, rfl, iteF ?_⟩
    · rw [List.length_map]
      omega
    · rw [List.length_map]
      omega
    refine ⟨.ref q, rfl, q, rfl, ⟨_, hL⟩, fun D hD => lc_list (K := K) (a := q) (xs := ws.map lvV) (fun i H' => Same H H' ∧ H' D = some (.lst ((List.replicate i true).map V.bl)))
      ⟨same_upd hD, upd_same⟩ (fun i H' _ ⟨sm, _⟩ => sm.seq hL) ?_ ?_⟩
    · rintro i x H' hx ⟨sm, eD⟩
      obtain ⟨b, rfl⟩ : ∃ b, x = lvV b := by
        rw [List.getElem?_map] at hx
        cases e : ws[i]? with
        | none =>
          rw [e] at hx
          cases hx
        | some b =>
          rw [e] at hx
          exact ⟨b, (Option.some.inj hx).symm⟩
      have hi : i < (ws.map lvV).length := (List.getElem?_eq_some_iff.mp hx).1
      rw [List.length_map] at hi
      refine ⟨rfl, yesT (iteT ?_)⟩
      refine ⟨_, rfl, b, rfl, _, eD, ?_, fun c o e => ?_, ?_⟩
      · rw [List.length_map, List.length_replicate]
        exact sizeLine_ge (by omega)
      · rw [upd_ne (ne_of_none e hD)]
        exact sm _ _ e
      · rw [upd_same, List.replicate_succ', List.map_append]
        rfl
    · rintro H1 ⟨s1, eD⟩
      refine ⟨D, _, rfl, SqL.of eD, ?_⟩
      have ea : (List.replicate (ws.map lvV).length true).all id = true := by
        rw [List.all_replicate]
        simp
      rw [ea]
      exact c H1 s1
def spCheckLevels (K : PySem.W.Frag) : Sp := fun vs H Q _ => ∃ (q : Addr) (ws : List Bool), vs = [.ref q] ∧ SqL K H q (ws.map lvV) ∧ ws ≠ [] ∧ ws.length ≤ 60 ∧ ∀ H', Same H H' → Q .non H'
theorem ok_check_levels {f : Addr} {fd : FuncData} (F : Fun K "check_levels" "check_levels" s_check_levels f fd) (h1 : Has P w K mg base 3 "are_levels" ["given"] [] (spAreLevels K)) : FnOk P w K mg base CX0 4 f fd ["levels"] (spCheckLevels K) := by
  obtain ⟨f_are_levels, fd_are_levels, ds_are_levels, G_are_levels, m_are_levels, k_are_levels, b_are_levels, v_are_levels⟩ := h1
  refine F.ok sc_check_levels (fun vs H Q E h => ?_) (fun cdv A outer s H vs Q E hr h => ?_)
  · obtain ⟨q, ws, rfl, _⟩ := h
    rfl
  · obtain ⟨q, ws, rfl, hL, hne, h60, c⟩ := h
    refine ⟨_, (pss_one (ps_if (pt_not (pt_val (pe_call G_are_levels hr (by rfl) m_are_levels k_are_levels b_are_levels v_are_levels pass0 (pa_cons (pv 0) pa_nil))))
        (pss_one ps_never)
        pss_nil)), ?_⟩
    exact ⟨_, rfl, q, ws, rfl, hL, hne, h60, fun H1 s1 => ⟨true, rfl, iteF (c H1 s1)⟩⟩
end
section
variable {P : Program} {w : World} {K : PySem.W.Frag} {mg : Str → Option Value} {base : Heap}
def spFront (K : PySem.W.Frag) : Sp := fun vs H Q _ => ∃ (b n d lo : Nat) (q : Addr) (ws : List Bool), vs = [.int (b : Nat), .ref q, .int (n : Nat), .int (d : Nat), .int (lo : Nat)] ∧ 2 ≤ b ∧ b ≤ 64 ∧ n < d ∧ d < 2 ^ 250 ∧ SqL K H q (ws.map lvV) ∧ ws ≠ [] ∧
  ∀ k, IsLev b n d k → ∀ H', Same H H' → Q (.bl (frontOf ws lo (rowsOf b n d k))) H'
theorem ok_goes_in_front {f : Addr} {fd : FuncData} (F : Fun K "goes_in_front" "goes_in_front" s_goes_in_front f fd) (h1 : Has P w K mg base 2 "path" ["base", "now", "due"] [] spPath) (h2 : Has P w K mg base 1 "word_at" ["levels", "level"] [] (spWordAt K)) :
    FnOk P w K mg base CX0 3 f fd ["base", "levels", "now", "due", "lowest"] (spFront K) := by
  obtain ⟨f_path, fd_path, ds_path, G_path, m_path, k_path, b_path, v_path⟩ := h1
  obtain ⟨f_word_at, fd_word_at, ds_word_at, G_word_at, m_word_at, k_word_at, b_word_at, v_word_at⟩ := h2
  refine F.ok sc_goes_in_front (fun vs H Q E h => ?_) (fun cdv A outer s H vs Q E hr h => ?_)
  · obtain ⟨b, n, d, lo, q, ws, rfl, _⟩ := h
    rfl
  · obtain ⟨b, n, d, lo, q, ws, rfl, hb, hb64, hnd, hd, hL, hne, c⟩ := h
    refine ⟨_, (pss_cons (ps_set (i := 5) sc_goes_in_front.nd rfl (.inl rfl) pe_bl)
      (pss_cons (ps_for PassesOwn.never rfl (pi_list (pe_call G_path hr (by rfl) m_path k_path b_path v_path pass0 (pa_cons (pv 0) (pa_cons (pv 2) (pa_cons (pv 3) pa_nil))))) (pg_tupK (K := K) (n := 3) rfl rfl (pgs_cons (pg_name (i := 6) sc_goes_in_front.nd rfl (.inl rfl)) (pgs_cons (pg_name (i := 7) sc_goes_in_front.nd rfl (.inl rfl)) (pgs_cons (pg_name (i := 8) sc_goes_in_front.nd rfl (.inl rfl)) pgs_nil))))
        (pss_one (ps_if (PW.pt (pw_and (pt_cmpR op_ge (pv 6) (pv 4) (nomark _)) (pw_and1 (pt_cmpR op_eq (pe_call G_word_at (hr.mono (by decide)) (by rfl) m_word_at k_word_at b_word_at v_word_at pass0 (pa_cons (pv 1) (pa_cons (pv 6) pa_nil))) pe_str (nomark _)))))
          (pss_one (ps_set (i := 5) sc_goes_in_front.nd rfl (.inl rfl) (pe_not (pv 5))))
          pss_nil)))
      (pss_one (ps_ret (pv 5))))), ?_⟩
    refine ⟨_, rfl, _, rfl, _, rfl, b, n, d, rfl, hb, hb64, hnd, hd, fun k hk H1 p ts s1 hp0 hp R => ?_⟩
    refine ⟨p, rfl, ⟨_, SqL.of hp⟩, for_list (K := K) (a := p) (xs := ts.map V.ref) (fun i σ H' => ∃ y6 y7 y8, σ = [some (.int (b : Nat)), some (.ref q), some (.int (n : Nat)), some (.int (d : Nat)), some (.int (lo : Nat)), some (.bl (frontOf ws lo ((rowsOf b n d k).take i))), y6, y7, y8] ∧ H' = H1)
      ⟨none, none, none, rfl, rfl⟩ (fun i σ H' _ ⟨_, _, _, _, e⟩ => by rw [e]; exact SqL.of hp) ?_ ?_⟩
    · rintro i x σ H' hx ⟨y6, y7, y8, rfl, rfl⟩
      obtain ⟨ti, r, rfl, hti, hr, er⟩ := R.item hx
      have hstep : frontOf ws lo ((rowsOf b n d k).take (i + 1)) = if (decide (lo ≤ r.1) && wordAt ws r.1) = true then !frontOf ws lo ((rowsOf b n d k).take i) else frontOf ws lo ((rowsOf b n d k).take i) := by
        rw [List.take_add_one, hr]
        exact front_snoc ws lo _ r
      refine ⟨ti, _, rfl, .inl (.inl er), rfl, _, _, rfl, _, _, rfl, _, _, rfl, rfl, ?_⟩
      have hL1 := s1.seq hL
      by_cases hlo : lo ≤ r.1
      · refine ⟨_, rfl, _, rfl, _, _, rfl, rfl, true, dT (by omega), iteT ?_⟩
        refine ⟨_, rfl, _, rfl, q, ws, r.1, rfl, hL1, hne, ?_, wordAt ws r.1, congrArg V.bl (lv_dec _), ?_⟩
        · cases wordAt ws r.1 <;> rfl
        cases hw : wordAt ws r.1 with
        | true =>
          refine iteT ⟨_, rfl, _, rfl, ⟨some (.int (r.1 : Nat)), some (.int (r.2.1 : Nat)), some (.int (r.2.2 : Nat)), ?_, rfl⟩⟩
          rw [hstep, hw, decide_eq_true hlo]
          rfl
        | false =>
          refine iteF ⟨some (.int (r.1 : Nat)), some (.int (r.2.1 : Nat)), some (.int (r.2.2 : Nat)), ?_, rfl⟩
          rw [hstep, hw, decide_eq_true hlo]
          rfl
      · refine ⟨_, rfl, _, rfl, _, _, rfl, rfl, false, dF (by omega), iteF (iteF ⟨some (.int (r.1 : Nat)), some (.int (r.2.1 : Nat)), some (.int (r.2.2 : Nat)), ?_, rfl⟩)⟩
        rw [hstep, decide_eq_false hlo]
        rfl
    · rintro σ H' ⟨y6, y7, y8, rfl, rfl⟩
      have e : (rowsOf b n d k).take (ts.map V.ref).length = rowsOf b n d k := by
        refine List.take_of_length_le ?_
        rw [List.length_map]
        exact Nat.le_of_eq R.len.symm
      rw [e]
      exact ⟨_, rfl, c k hk _ s1⟩
end
/-! ### bases and levels of any value -/
theorem tyOf_same {K : PySem.W.Frag} {H H' : Hp} (s : Same H H') {x : V} {t : Value} (h : TyOf K H x t) : TyOf K H' x t := by
  cases h with
  | non => exact .non
  | bl x => exact .bl x
  | int i => exact .int i
  | str x => exact .str x
  | flt x => exact .flt x
  | lst e => exact .lst (s _ _ e)
  | frz e => exact .frz (s _ _ e)
  | tup e => exact .tup (s _ _ e)
  | dK e => exact .dK (s _ _ e)
  | dT e => exact .dT (s _ _ e)
  | ins e cl ha hn htk hm => exact .ins (s _ _ e) cl ha hn htk hm
theorem tyX_same {K : PySem.W.Frag} {H H' : Hp} (s : Same H H') {x : V} {t : Value} (h : TyX K H x t) : TyX K H' x t := by
  cases h with
  | base h => exact .base (tyOf_same s h)
  | byt b => exact .byt b
  | set e => exact .set (s _ _ e)
  | kList e c => exact .kList e c
  | kTuple e c => exact .kTuple e c
  | kDict e c => exact .kDict e c
  | fTuple e => exact .fTuple (s _ _ e)
  | fDict e => exact .fDict (s _ _ e)
/-- x is of a built-in type, and of none that isinstance(x, c) would take -/
def NotA (K : PySem.W.Frag) (H : Hp) (c : String) (x : V) : Prop := ∃ a : String, TyX K H x (.type a) ∧ kitB a c = some false
theorem NotA.same {K : PySem.W.Frag} {H H' : Hp} {c : String} {x : V} (s : Same H H') (h : NotA K H c x) : NotA K H' c x := by
  obtain ⟨a, h1, h2⟩ := h
  exact ⟨a, tyX_same s h1, h2⟩
theorem NoInt.same {K : PySem.W.Frag} {H H' : Hp} {x : V} (s : Same H H') (h : NoInt K H x) : NoInt K H' x := by
  obtain ⟨t, h1, h2⟩ := h
  exact ⟨t, tyX_same s h1, h2⟩
theorem BadTick.same {K : PySem.W.Frag} {H H' : Hp} {x : V} {l : Int} (s : Same H H') (h : BadTick K H x l) : BadTick K H' x l := h.imp (·.same s) id
/-- whether x is one of the two words -/
def wordB (x : V) : Bool := inV x [.str "stack", .str "queue"]
/-- what is no word of levels -/
def NoWord (K : PySem.W.Frag) (H : Hp) (x : V) : Prop := NotA K H "str" x ∨ ∃ s : Str, x = .str s ∧ wordB x = false
theorem NoWord.same {K : PySem.W.Frag} {H H' : Hp} {x : V} (s : Same H H') (h : NoWord K H x) : NoWord K H' x := h.imp (·.same s) id
theorem word_lv (b : Bool) : wordB (lvV b) = true := by
  cases b <;> decide
theorem no_word {K : PySem.W.Frag} {H : Hp} {x : V} (h : NoWord K H x) : wordB x = false := by
  rcases h with ⟨a, h1, h2⟩ | ⟨s, _, h⟩
  · cases x with
    | str s =>
      cases h1 with
      | base h1 =>
        cases h1
        exact absurd h2 (by decide +kernel)
    | _ => rfl
  · exact h
/-- what is no base -/
def BadBase (K : PySem.W.Frag) (H : Hp) (x : V) : Prop := NoInt K H x ∨ ∃ n : Int, x = .int n ∧ (n < 2 ∨ 64 < n)
theorem BadBase.same {K : PySem.W.Frag} {H H' : Hp} {x : V} (s : Same H H') (h : BadBase K H x) : BadBase K H' x := h.imp (·.same s) id
/-- what are no levels -/
def BadLevels (K : PySem.W.Frag) (H : Hp) (x : V) : Prop := NotA K H "list" x ∨ ∃ (q : Addr) (xs : List V), x = .ref q ∧ SqL K H q xs ∧ (xs.length = 0 ∨ 60 < xs.length ∨ (xs.length ≤ 60 ∧ (∀ v ∈ xs, (∃ b, v = lvV b) ∨ NoWord K H v) ∧ ∃ v ∈ xs, NoWord K H v))
theorem BadLevels.same {K : PySem.W.Frag} {H H' : Hp} {x : V} (s : Same H H') (h : BadLevels K H x) : BadLevels K H' x := by
  rcases h with h | ⟨q, xs, e, hs, h⟩
  · exact .inl (h.same s)
  · refine .inr ⟨q, xs, e, s.seq hs, ?_⟩
    rcases h with h | h | ⟨h1, h2, v, hv, h3⟩
    · exact .inl h
    · exact .inr (.inl h)
    · exact .inr (.inr ⟨h1, fun v hv => (h2 v hv).imp id (·.same s), v, hv, h3.same s⟩)
section
variable {P : Program} {w : World} {K : PySem.W.Frag} {mg : Str → Option Value} {base : Heap}
def spIsWordX (K : PySem.W.Frag) : Sp := fun vs H Q _ => ∃ x : V, vs = [x] ∧ ((∃ b, x = lvV b ∧ Q (.bl true) H) ∨ (NoWord K H x ∧ Q (.bl false) H))
theorem okA_is_word {f : Addr} {fd : FuncData} (F : Fun K "is_word" "is_word" s_is_word f fd) (T : Tx K mg) (hW : WordsAt K mg) : FnOk P w K mg base CX0 1 f fd ["given"] (spIsWordX K) := by
  obtain ⟨a_WORDS, g_WORDS, sW⟩ := hW
  refine F.ok sc_is_word (fun vs H Q E h => ?_) (fun cdv A outer s H vs Q E hr h => ?_)
  · obtain ⟨x, rfl, _⟩ := h
    rfl
  · obtain ⟨x, rfl, hx⟩ := h
    refine ⟨_, (pss_one (ps_ret (pe_and (pe_callB (isiK (K := K) rfl) (by rfl) T.b_isinstance (by decide +kernel) (pa_cons (pv 0) (pa_cons (pe_bltn (v := .ty "str") (u := .type "str") (by rfl) T.b_str (by decide +kernel) rfl) pa_nil))) (pe_one (pe_cmpR op_in_seq (pv 0) (pe_glob (v := .ref a_WORDS) rfl g_WORDS rfl) (by rfl)))))), ?_⟩
    have word : ∀ (s : Str) (b : Bool), wordB (.str s) = b → Q (.bl b) H → ∃ (p : Addr) (xs : List V), V.ref a_WORDS = .ref p ∧ (SqL K H p xs ∨ SqT K H p xs) ∧ flatV (.str s) = true ∧ xs.all flatV = true ∧ Q (.bl (if false then !inV (.str s) xs else inV (.str s) xs)) H := fun s b e q => by
      refine ⟨a_WORDS, _, rfl, .inr (sW _), rfl, rfl, ?_⟩
      have e2 : (if false then !inV (V.str s) [.str "stack", .str "queue"] else inV (V.str s) [.str "stack", .str "queue"]) = b := e
      rw [e2]
      exact q
    rcases hx with ⟨b, rfl, q⟩ | ⟨⟨a, ht, hk⟩ | ⟨s, rfl, hs⟩, q⟩
    · obtain ⟨x, ex, hx⟩ : ∃ x : Str, lvV b = .str x ∧ wordB (.str x) = true := by
        cases b
        · exact ⟨_, rfl, by decide⟩
        · exact ⟨_, rfl, by decide⟩
      rw [ex]
      exact ⟨.str x, rfl, _, _, _, _, true, rfl, .ty "str", .base (.str x), kit_ty (by decide +kernel), true, rfl, iteT ⟨.str x, rfl, word x true hx q⟩⟩
    · exact ⟨x, rfl, x, _, _, _, false, rfl, .ty "str", ht, kit_ty hk, false, rfl, iteF q⟩
    · exact ⟨.str s, rfl, _, _, _, _, true, rfl, .ty "str", .base (.str s), kit_ty (by decide +kernel), true, rfl, iteT ⟨.str s, rfl, word s false hs q⟩⟩
def spIsBaseX (K : PySem.W.Frag) : Sp := fun vs H Q _ => ∃ x : V, vs = [x] ∧ ((∃ n : Int, x = .int n ∧ 2 ≤ n ∧ n ≤ 64 ∧ Q (.bl true) H) ∨ (BadBase K H x ∧ Q (.bl false) H))
theorem okA_is_base {f : Addr} {fd : FuncData} (F : Fun K "is_base" "is_base" s_is_base f fd) (h1 : Has P w K mg base 1 "is_integer" ["given"] [] (spIsIntX K)) : FnOk P w K mg base CX0 2 f fd ["given"] (spIsBaseX K) := by
  obtain ⟨f_is_integer, fd_is_integer, ds_is_integer, G_is_integer, m_is_integer, k_is_integer, b_is_integer, v_is_integer⟩ := h1
  refine F.ok sc_is_base (fun vs H Q E h => ?_) (fun cdv A outer s H vs Q E hr h => ?_)
  · obtain ⟨x, rfl, _⟩ := h
    rfl
  · obtain ⟨x, rfl, hx⟩ := h
    refine ⟨_, (pss_one (ps_ret (pe_and (pe_call G_is_integer hr (by rfl) m_is_integer k_is_integer b_is_integer v_is_integer pass0 (pa_cons (pv 0) pa_nil)) (pe_one (pe_chain op_le op_le pe_int (pv 0) pe_int))))), ?_⟩
    have e2 : ∀ (n : Int) (b : Bool), decide (n ≤ 64) = b → Q (.bl b) H → Q (V.bl (decide (n ≤ 64))) H := fun n b e q => by
      rw [e]
      exact q
    rcases hx with ⟨n, rfl, l1, l2, q⟩ | ⟨hn | ⟨n, rfl, hn⟩, q⟩
    · refine ⟨.int n, rfl, .int n, rfl, .inl ⟨n, rfl, true, rfl, iteT ?_⟩⟩
      refine ⟨.int n, rfl, 2, n, rfl, rfl, true, congrArg V.bl (decide_eq_true l1), iteT ?_⟩
      exact ⟨n, 64, rfl, rfl, e2 n true (decide_eq_true l2) q⟩
    · exact ⟨x, rfl, x, rfl, .inr ⟨hn, false, rfl, iteF q⟩⟩
    · refine ⟨.int n, rfl, .int n, rfl, .inl ⟨n, rfl, true, rfl, iteT ?_⟩⟩
      by_cases l1 : 2 ≤ n
      · refine ⟨.int n, rfl, 2, n, rfl, rfl, true, congrArg V.bl (decide_eq_true l1), iteT ?_⟩
        exact ⟨n, 64, rfl, rfl, e2 n false (decide_eq_false (by omega)) q⟩
      · exact ⟨.int n, rfl, 2, n, rfl, rfl, false, congrArg V.bl (decide_eq_false l1), iteF q⟩
def spCheckBaseX (K : PySem.W.Frag) (CN : Addr) : Sp := fun vs H Q E => ∃ x : V, vs = [x] ∧ ((∃ n : Int, x = .int n ∧ 2 ≤ n ∧ n ≤ 64 ∧ Q .non H) ∨ (BadBase K H x ∧ E (.ref CN) none H))
theorem okX_check_base {f c_NoBase : Addr} {fd : FuncData} (F : Fun K "check_base" "check_base" s_check_base f fd) (T : Tx K mg) (X_NoBase : EC K mg "NoBase" c_NoBase) (h1 : Has P w K mg base 2 "is_base" ["given"] [] (spIsBaseX K)) : FnOk P w K mg base (L2.CX P w) 3 f fd ["base"] (spCheckBaseX K c_NoBase) := by
  obtain ⟨f_is_base, fd_is_base, ds_is_base, G_is_base, m_is_base, k_is_base, b_is_base, v_is_base⟩ := h1
  refine F.okX sc_check_base (fun vs H Q E h => ?_) (fun cdv A outer s H vs Q E hr h => ?_)
  · obtain ⟨x, rfl, _⟩ := h
    rfl
  · obtain ⟨x, rfl, hx⟩ := h
    refine ⟨_, (pss_one (ps_if (pt_not (pt_val (pe_call G_is_base hr (by rfl) m_is_base k_is_base b_is_base v_is_base pass0 (pa_cons (pv 0) pa_nil))))
        (pss_one (ps_raise rfl (takes_of rfl rfl rfl rfl) (pmk_own PySem.F.excBase_ValueError X_NoBase.x X_NoBase.g X_NoBase.k (raises_own X_NoBase.b X_NoBase.t) rfl)))
        pss_nil)), ?_⟩
    rcases hx with ⟨n, rfl, l1, l2, q⟩ | ⟨hn, q⟩
    · exact ⟨.int n, rfl, .int n, rfl, .inl ⟨n, rfl, l1, l2, true, rfl, iteF q⟩⟩
    · exact ⟨x, rfl, x, rfl, .inr ⟨hn, false, rfl, iteT q⟩⟩
/-- what is no length of levels -/
def BadLength (K : PySem.W.Frag) (H : Hp) (x : V) : Prop := NoInt K H x ∨ ∃ n : Int, x = .int n ∧ (n < 1 ∨ 60 < n)
theorem BadLength.same {K : PySem.W.Frag} {H H' : Hp} {x : V} (s : Same H H') (h : BadLength K H x) : BadLength K H' x := h.imp (·.same s) id
def spIsLengthX (K : PySem.W.Frag) : Sp := fun vs H Q _ => ∃ x : V, vs = [x] ∧ ((∃ n : Int, x = .int n ∧ 1 ≤ n ∧ n ≤ 60 ∧ Q (.bl true) H) ∨ (BadLength K H x ∧ Q (.bl false) H))
theorem okA_is_length {f : Addr} {fd : FuncData} (F : Fun K "is_length" "is_length" s_is_length f fd) (hM : MostAt mg) (h1 : Has P w K mg base 1 "is_integer" ["given"] [] (spIsIntX K)) : FnOk P w K mg base CX0 2 f fd ["given"] (spIsLengthX K) := by
  obtain ⟨tM, g_MOST_LEVELS⟩ := hM
  obtain ⟨f_is_integer, fd_is_integer, ds_is_integer, G_is_integer, m_is_integer, k_is_integer, b_is_integer, v_is_integer⟩ := h1
  refine F.ok sc_is_length (fun vs H Q E h => ?_) (fun cdv A outer s H vs Q E hr h => ?_)
  · obtain ⟨x, rfl, _⟩ := h
    rfl
  · obtain ⟨x, rfl, hx⟩ := h
    refine ⟨_, (pss_one (ps_ret (pe_and (pe_call G_is_integer hr (by rfl) m_is_integer k_is_integer b_is_integer v_is_integer pass0 (pa_cons (pv 0) pa_nil)) (pe_one (pe_chain op_le op_le pe_int (pv 0) (pe_glob (v := .int 60) rfl g_MOST_LEVELS ⟨_, rfl⟩)))))), ?_⟩
    have e2 : ∀ (n : Int) (b : Bool), decide (n ≤ 60) = b → Q (.bl b) H → Q (V.bl (decide (n ≤ 60))) H := fun n b e q => by
      rw [e]
      exact q
    rcases hx with ⟨n, rfl, l1, l2, q⟩ | ⟨hn | ⟨n, rfl, hn⟩, q⟩
    · refine ⟨.int n, rfl, .int n, rfl, .inl ⟨n, rfl, true, rfl, iteT ?_⟩⟩
      refine ⟨.int n, rfl, 1, n, rfl, rfl, true, congrArg V.bl (decide_eq_true l1), iteT ?_⟩
      exact ⟨n, 60, rfl, rfl, e2 n true (decide_eq_true l2) q⟩
    · exact ⟨x, rfl, x, rfl, .inr ⟨hn, false, rfl, iteF q⟩⟩
    · refine ⟨.int n, rfl, .int n, rfl, .inl ⟨n, rfl, true, rfl, iteT ?_⟩⟩
      by_cases l1 : 1 ≤ n
      · refine ⟨.int n, rfl, 1, n, rfl, rfl, true, congrArg V.bl (decide_eq_true l1), iteT ?_⟩
        exact ⟨n, 60, rfl, rfl, e2 n false (decide_eq_false (by omega)) q⟩
      · exact ⟨.int n, rfl, 1, n, rfl, rfl, false, congrArg V.bl (decide_eq_false l1), iteF q⟩
def spAreLevelsX (K : PySem.W.Frag) : Sp := fun vs H Q _ => ∃ x : V, vs = [x] ∧ ((∃ (q : Addr) (ws : List Bool), x = .ref q ∧ SqL K H q (ws.map lvV) ∧ ws ≠ [] ∧ ws.length ≤ 60 ∧ ∀ H', Same H H' → Q (.bl true) H') ∨ (BadLevels K H x ∧ ∀ H', Same H H' → Q (.bl false) H'))
theorem okA_are_levels {f : Addr} {fd : FuncData} (F : Fun K "are_levels" "are_levels" s_are_levels f fd) (T : Tx K mg) (h0 : Has P w K mg base 2 "is_length" ["given"] [] (spIsLengthX K)) (h1 : Has P w K mg base 1 "is_word" ["given"] [] (spIsWordX K)) : FnOk P w K mg base CX0 3 f fd ["given"] (spAreLevelsX K) := by
  obtain ⟨f_is_length, fd_is_length, ds_is_length, G_is_length, m_is_length, k_is_length, b_is_length, v_is_length⟩ := h0
  obtain ⟨f_is_word, fd_is_word, ds_is_word, G_is_word, m_is_word, k_is_word, b_is_word, v_is_word⟩ := h1
  refine F.ok sc_are_levels (fun vs H Q E h => ?_) (fun cdv A outer s H vs Q E hr h => ?_)
  · obtain ⟨x, rfl, _⟩ := h
    rfl
  · obtain ⟨x, rfl, hx⟩ := h
    have hx2 : (NotA K H "list" x ∧ Q (.bl false) H) ∨ (∃ (q : Addr) (xs : List V), x = .ref q ∧ SqL K H q xs ∧ (xs.length = 0 ∨ 60 < xs.length) ∧ Q (.bl false) H) ∨
        (∃ (q : Addr) (xs : List V), x = .ref q ∧ SqL K H q xs ∧ 1 ≤ xs.length ∧ xs.length ≤ 60 ∧ (∀ v ∈ xs, (∃ b, v = lvV b) ∨ NoWord K H v) ∧ ∀ H', Same H H' → if xs.all wordB = true then Q (.bl true) H' else Q (.bl false) H') := by
      rcases hx with ⟨q, ws, rfl, hL, hne, h60, c⟩ | ⟨hn | ⟨q, xs, rfl, hL, hb | hb | ⟨h60, hw, v, hv, hno⟩⟩, c⟩
      · refine .inr (.inr ⟨q, _, rfl, hL, ?_, ?_, fun v hv => ?_, fun H' s1 => ?_⟩)
        · rw [List.length_map]
          exact List.length_pos_iff.mpr hne
        · rw [List.length_map]
          exact h60
        · obtain ⟨b, _, e⟩ := List.mem_map.mp hv
          exact .inl ⟨b, e.symm⟩
        · rw [if_pos (List.all_eq_true.mpr fun v hv => by obtain ⟨b, _, e⟩ := List.mem_map.mp hv; rw [← e]; exact word_lv b)]
          exact c H' s1
      · exact .inl ⟨hn, c H fun _ _ e => e⟩
      · exact .inr (.inl ⟨q, xs, rfl, hL, .inl hb, c H fun _ _ e => e⟩)
      · exact .inr (.inl ⟨q, xs, rfl, hL, .inr hb, c H fun _ _ e => e⟩)
      · refine .inr (.inr ⟨q, xs, rfl, hL, List.length_pos_of_mem hv, h60, hw, fun H' s1 => ?_⟩)
        rw [if_neg fun e => by
          have z := List.all_eq_true.mp e v hv
          rw [no_word hno] at z
          cases z]
        exact c H' s1
    clear hx
    refine ⟨_, (pss_cons (ps_if (PW.pt (pw_or (pt_not (pt_val (pe_callB (isiK (K := K) rfl) (by rfl) T.b_isinstance (by decide +kernel) (pa_cons (pv 0) (pa_cons (pe_bltn (v := .ty "list") (u := .type "list") (by rfl) T.b_list (by decide +kernel) rfl) pa_nil))))) (pw_or1 (pt_not (pt_val (pe_call G_is_length hr (by rfl) m_is_length k_is_length b_is_length v_is_length pass0 (pa_cons (pe_callB (lenK (K := K) rfl) (by rfl) T.b_len PySem.boot_len (pa_cons (pv 0) pa_nil)) pa_nil)))))))
        (pss_one (ps_ret pe_bl))
        pss_nil)
      (pss_one (ps_ret (pe_callB (allK (K := K) rfl rfl) (by rfl) T.b_all (by decide +kernel) (pa_cons (pe_lc (own := [("word", 1)]) (g := gName 1) (tt := tYes) rfl sc_are_levels.nd (pi_list (pv 0)) (blkOk_by (own := [("word", 1)]) (N := N_are_levels) (sc := defScope s_are_levels) (by decide +kernel)) (fun _ _ _ _ _ => (pg_name (i := 1) sc_are_levels.nd rfl (.inl rfl))) (fun _ _ _ _ _ => pts_nil) (fun _ _ _ _ _ => (pe_call G_is_word (hr.mono (by decide)) (by rfl) m_is_word k_is_word b_is_word v_is_word pass0 (pa_cons (pv 1) pa_nil)))) pa_nil))))), ?_⟩
    rcases hx2 with ⟨⟨a, ht, hk⟩, q⟩ | ⟨q, xs, rfl, hL, hb, c⟩ | ⟨q, xs, rfl, hL, h0, h60, hw, c⟩
    · exact ⟨x, rfl, _, _, _, _, false, rfl, .ty "list", ht, kit_ty hk, false, rfl, iteT q⟩
    · refine ⟨.ref q, rfl, _, _, _, _, true, rfl, .ty "list", tyx_list hL, kit_ty (by decide +kernel), true, rfl, iteF ?_⟩
      exact ⟨.ref q, rfl, q, _, rfl, .inl hL, _, rfl, .inr ⟨.inr ⟨_, rfl, by omega⟩, false, rfl, iteT c⟩⟩
    refine ⟨.ref q, rfl, _, _, _, _, true, rfl, .ty "list", tyx_list hL, kit_ty (by decide +kernel), true, rfl, iteF ?_⟩
    refine ⟨.ref q, rfl, q, _, rfl, .inl hL, _, rfl, .inl ⟨_, rfl, by omega, by omega, true, rfl, iteF ?_⟩⟩
    refine ⟨.ref q, rfl, q, rfl, ⟨_, hL⟩, fun D hD => lc_list (K := K) (a := q) (xs := xs) (fun i H' => Same H H' ∧ H' D = some (.lst (((xs.take i).map wordB).map V.bl)))
      ⟨same_upd hD, upd_same⟩ (fun i H' _ ⟨sm, _⟩ => sm.seq hL) ?_ ?_⟩
    · rintro i x H' hx ⟨sm, eD⟩
      have hi : i < xs.length := (List.getElem?_eq_some_iff.mp hx).1
      refine ⟨rfl, yesT (iteT ?_)⟩
      have fin : ∃ acc, H' D = some (.lst acc) ∧ acc.length < sizeLine ∧ (Same H (upd H' D (.lst (acc ++ [V.bl (wordB x)]))) ∧ (upd H' D (.lst (acc ++ [V.bl (wordB x)]))) D = some (.lst (((xs.take (i + 1)).map wordB).map V.bl))) := by
        refine ⟨_, eD, ?_, fun c o e => ?_, ?_⟩
        · rw [List.length_map, List.length_map, List.length_take]
          exact sizeLine_ge (by omega)
        · rw [upd_ne (ne_of_none e hD)]
          exact sm _ _ e
        · rw [upd_same, List.take_add_one, hx, List.map_append, List.map_append]
          rfl
      rcases hw x (List.mem_of_getElem? hx) with ⟨b, rfl⟩ | hno
      · rw [word_lv b] at fin
        exact ⟨_, rfl, _, rfl, .inl ⟨b, rfl, fin⟩⟩
      · rw [no_word hno] at fin
        exact ⟨_, rfl, _, rfl, .inr ⟨hno.same sm, fin⟩⟩
    · rintro H1 ⟨s1, eD⟩
      rw [List.take_length] at eD
      have c1 := c H1 s1
      refine ⟨D, _, rfl, SqL.of eD, ?_⟩
      have ea : (xs.map wordB).all id = xs.all wordB := by
        rw [List.all_map]
        rfl
      rw [ea]
      cases hb : xs.all wordB with
      | true =>
        rw [if_pos hb] at c1
        exact c1
      | false =>
        rw [if_neg (by rw [hb]; exact Bool.false_ne_true)] at c1
        exact c1
def spCheckLevelsX (K : PySem.W.Frag) (CN : Addr) : Sp := fun vs H Q E => ∃ x : V, vs = [x] ∧ ((∃ (q : Addr) (ws : List Bool), x = .ref q ∧ SqL K H q (ws.map lvV) ∧ ws ≠ [] ∧ ws.length ≤ 60 ∧ ∀ H', Same H H' → Q .non H') ∨ (BadLevels K H x ∧ ∀ H', Same H H' → E (.ref CN) none H'))
theorem okX_check_levels {f c_NoLevels : Addr} {fd : FuncData} (F : Fun K "check_levels" "check_levels" s_check_levels f fd) (T : Tx K mg) (X_NoLevels : EC K mg "NoLevels" c_NoLevels) (h1 : Has P w K mg base 3 "are_levels" ["given"] [] (spAreLevelsX K)) : FnOk P w K mg base (L2.CX P w) 4 f fd ["levels"] (spCheckLevelsX K c_NoLevels) := by
  obtain ⟨f_are_levels, fd_are_levels, ds_are_levels, G_are_levels, m_are_levels, k_are_levels, b_are_levels, v_are_levels⟩ := h1
  refine F.okX sc_check_levels (fun vs H Q E h => ?_) (fun cdv A outer s H vs Q E hr h => ?_)
  · obtain ⟨x, rfl, _⟩ := h
    rfl
  · obtain ⟨x, rfl, hx⟩ := h
    refine ⟨_, (pss_one (ps_if (pt_not (pt_val (pe_call G_are_levels hr (by rfl) m_are_levels k_are_levels b_are_levels v_are_levels pass0 (pa_cons (pv 0) pa_nil))))
        (pss_one (ps_raise rfl (takes_of rfl rfl rfl rfl) (pmk_own PySem.F.excBase_ValueError X_NoLevels.x X_NoLevels.g X_NoLevels.k (raises_own X_NoLevels.b X_NoLevels.t) rfl)))
        pss_nil)), ?_⟩
    rcases hx with ⟨q, ws, rfl, hL, hne, h60, c⟩ | ⟨hn, c⟩
    · exact ⟨_, rfl, _, rfl, .inl ⟨q, ws, rfl, hL, hne, h60, fun H1 s1 => ⟨true, rfl, iteF (c H1 s1)⟩⟩⟩
    · exact ⟨_, rfl, _, rfl, .inr ⟨hn, fun H1 s1 => ⟨false, rfl, iteT (c H1 s1)⟩⟩⟩
end
/-! ### data equal to itself -/
theorem neq_refl {d : PyData} (h : d.canLay0 = true) : V.bl (!PyData.eqv d d) = V.bl false := by
  rw [SeqAt.eqv_refl d h]
  rfl
theorem eq_refl {d : PyData} (h : d.canLay0 = true) : V.bl (PyData.eqv d d) = V.bl true := by
  rw [SeqAt.eqv_refl d h]
/-! ### levels as data -/
def lvD (b : Bool) : PyData := if b then .str "stack" else .str "queue"
theorem lvs_dp {K : PySem.W.Frag} {H : Hp} : ∀ ws : List Bool, DpAll K H (ws.map lvV) (ws.map lvD)
  | [] => .nil
  | true :: r => .cons (.str _) (lvs_dp r)
  | false :: r => .cons (.str _) (lvs_dp r)
theorem lvs_lay : ∀ ws : List Bool, PyData.canLayAll0 (ws.map lvD) = true
  | [] => rfl
  | b :: r => by
    show ((lvD b).canLay0 && PyData.canLayAll0 (r.map lvD)) = true
    rw [lvs_lay r]
    cases b <;> decide +kernel
theorem lvs_depth : ∀ ws : List Bool, PyData.depthAll (ws.map lvD) = 0
  | [] => rfl
  | b :: r => by
    show max (lvD b).depth (PyData.depthAll (r.map lvD)) = 0
    rw [lvs_depth r]
    cases b <;> rfl
theorem lvs_shaped (ws : List Bool) : SeqAt.shaped (.list (ws.map lvD)) = true := by
  have h1 : (PyData.list (ws.map lvD)).canLay0 = true := by
    show PyData.canLayAll0 _ = true
    exact lvs_lay ws
  have h2 : (PyData.list (ws.map lvD)).depth ≤ 64 := by
    show PyData.depthAll _ + 1 ≤ 64
    rw [lvs_depth ws]
    decide
  unfold SeqAt.shaped
  rw [h1, decide_eq_true h2]
  rfl
/-! ### rows of a snapshot, snapshots as data -/
abbrev RowP := Nat × Nat × Option Nat
def rowPV (r : RowP) : List V := [.int (r.1 : Nat), .int (r.2.1 : Nat), perV r.2.2]
def RpAt (H : Hp) : List Addr → List RowP → Prop
  | [], [] => True
  | t :: ts, r :: rs => H t = some (.tup (rowPV r)) ∧ RpAt H ts rs
  | _, _ => False
theorem RpAt.frame {H H' : Hp} (s : ∀ t xs, H t = some (.tup xs) → H' t = some (.tup xs)) : ∀ {ts : List Addr} {rs : List RowP}, RpAt H ts rs → RpAt H' ts rs
  | [], [], _ => trivial
  | _ :: _, _ :: _, h => ⟨s _ _ h.1, h.2.frame s⟩
  | [], _ :: _, h => h.elim
  | _ :: _, [], h => h.elim
theorem RpAt.same {H H' : Hp} (s : Same H H') {ts : List Addr} {rs : List RowP} (h : RpAt H ts rs) : RpAt H' ts rs := h.frame fun _ _ e => s _ _ e
theorem RpAt.len {H : Hp} : ∀ {ts : List Addr} {rs : List RowP}, RpAt H ts rs → ts.length = rs.length
  | [], [], _ => rfl
  | _ :: _, _ :: _, h => congrArg Nat.succ h.2.len
  | [], _ :: _, h => h.elim
  | _ :: _, [], h => h.elim
theorem RpAt.item {H : Hp} : ∀ {ts : List Addr} {rs : List RowP} {i : Nat} {x : V}, RpAt H ts rs → (ts.map V.ref)[i]? = some x → ∃ t r, x = .ref t ∧ rs[i]? = some r ∧ H t = some (.tup (rowPV r))
  | t :: ts, r :: rs, 0, x, h, e => ⟨t, r, (Option.some.inj e).symm, rfl, h.1⟩
  | t :: ts, r :: rs, i + 1, x, h, e => RpAt.item (i := i) h.2 e
  | [], [], _, _, _, e => by cases e
  | [], _ :: _, _, _, h, _ => h.elim
  | _ :: _, [], _, _, h, _ => h.elim
theorem RpAt.snoc {H : Hp} {t : Addr} {r : RowP} (e : H t = some (.tup (rowPV r))) : ∀ {ts : List Addr} {rs : List RowP}, RpAt H ts rs → RpAt H (ts ++ [t]) (rs ++ [r])
  | [], [], _ => ⟨e, trivial⟩
  | _ :: _, _ :: _, h => ⟨h.1, h.2.snoc e⟩
  | [], _ :: _, h => h.elim
  | _ :: _, [], h => h.elim
/-- a row that may stand in a snapshot -/
structure RowOk (t f : Nat) (r : RowP) : Prop where
  num : r.1 < f
  due : t < r.2.1
  per : ∀ k, r.2.2 = some k → 1 ≤ k
/-- a snapshot in the heap -/
structure SnapAt (K : PySem.W.Frag) (H : Hp) (u : Addr) (b : Nat) (ws : List Bool) (t f : Nat) (rs : List RowP) : Prop where
  tup : ∃ q R ts, H u = some (.tup [.int (b : Nat), .ref q, .int (t : Nat), .int (f : Nat), .ref R]) ∧ SqL K H q (ws.map lvV) ∧ SqL K H R (ts.map V.ref) ∧ RpAt H ts rs
theorem SnapAt.same {K : PySem.W.Frag} {H H' : Hp} {u : Addr} {b : Nat} {ws : List Bool} {t f : Nat} {rs : List RowP} (s : Same H H') (h : SnapAt K H u b ws t f rs) : SnapAt K H' u b ws t f rs := by
  obtain ⟨q, R, ts, h1, h2, h3, h4⟩ := h.tup
  exact ⟨⟨q, R, ts, s _ _ h1, s.seq h2, s.seq h3, h4.same s⟩⟩
structure SnapOk (b : Nat) (ws : List Bool) (t f : Nat) (rs : List RowP) : Prop where
  b2 : 2 ≤ b
  b64 : b ≤ 64
  ne : ws ≠ []
  l60 : ws.length ≤ 60
  rows : ∀ r ∈ rs, RowOk t f r
  nd : (rs.map (·.1)).Nodup
  few : rs.length ≤ 1000
def perD : Option Nat → PyData
  | none => .none
  | some k => .int (k : Nat)
def rowPD (r : RowP) : PyData := .tuple [.int (r.1 : Nat), .int (r.2.1 : Nat), perD r.2.2]
def snapD (b : Nat) (ws : List Bool) (t f : Nat) (rs : List RowP) : PyData := .tuple [.int (b : Nat), .list (ws.map lvD), .int (t : Nat), .int (f : Nat), .list (rs.map rowPD)]
theorem per_dp {K : PySem.W.Frag} {H : Hp} : ∀ o : Option Nat, Dp K H (perV o) (perD o)
  | none => .non
  | some _ => .int _
theorem rowp_dp {K : PySem.W.Frag} {H : Hp} : ∀ {ts : List Addr} {rs : List RowP}, RpAt H ts rs → DpAll K H (ts.map V.ref) (rs.map rowPD)
  | [], [], _ => .nil
  | _ :: _, r :: _, h => .cons (.tup (SqT.of h.1) (.cons (.int _) (.cons (.int _) (.cons (per_dp r.2.2) .nil)))) (rowp_dp h.2)
  | [], _ :: _, h => h.elim
  | _ :: _, [], h => h.elim
theorem snap_dp {K : PySem.W.Frag} {H : Hp} {u : Addr} {b : Nat} {ws : List Bool} {t f : Nat} {rs : List RowP} (h : SnapAt K H u b ws t f rs) : Dp K H (.ref u) (snapD b ws t f rs) := by
  obtain ⟨q, R, ts, h1, h2, h3, h4⟩ := h.tup
  exact .tup (SqT.of h1) (.cons (.int _) (.cons (.lst h2 (lvs_dp ws)) (.cons (.int _) (.cons (.int _) (.cons (.lst h3 (rowp_dp h4)) .nil)))))
theorem rowp_lay : ∀ rs : List RowP, PyData.canLayAll0 (rs.map rowPD) = true
  | [] => rfl
  | r :: rs => by
    show ((rowPD r).canLay0 && PyData.canLayAll0 (rs.map rowPD)) = true
    rw [rowp_lay rs]
    obtain ⟨a, c, o⟩ := r
    cases o <;> rfl
theorem rowp_depth : ∀ rs : List RowP, PyData.depthAll (rs.map rowPD) ≤ 1
  | [] => by decide
  | r :: rs => by
    show max (rowPD r).depth (PyData.depthAll (rs.map rowPD)) ≤ 1
    have h1 := rowp_depth rs
    have h2 : (rowPD r).depth = 1 := by
      obtain ⟨a, c, o⟩ := r
      cases o <;> rfl
    omega
theorem snap_lay (b : Nat) (ws : List Bool) (t f : Nat) (rs : List RowP) : (snapD b ws t f rs).canLay0 = true := by
  simp [snapD, PyData.canLay0, PyData.canLayAll0, lvs_lay, rowp_lay]
theorem snap_depth (b : Nat) (ws : List Bool) (t f : Nat) (rs : List RowP) : (snapD b ws t f rs).depth ≤ 64 := by
  have h1 : (PyData.list (ws.map lvD)).depth = 1 := by
    show PyData.depthAll _ + 1 = 1
    rw [lvs_depth ws]
  have h2 : (PyData.list (rs.map rowPD)).depth ≤ 2 := by
    show PyData.depthAll _ + 1 ≤ 2
    have := rowp_depth rs
    omega
  show max 0 (max (PyData.list (ws.map lvD)).depth (max 0 (max 0 (max (PyData.list (rs.map rowPD)).depth 0)))) + 1 ≤ 64
  omega
theorem snap_shaped (b : Nat) (ws : List Bool) (t f : Nat) (rs : List RowP) : SeqAt.shaped (snapD b ws t f rs) = true := by
  unfold SeqAt.shaped
  rw [snap_lay, decide_eq_true (snap_depth b ws t f rs)]
  rfl
/-! ### a period of any value -/
/-- what is no period -/
def BadPer (K : PySem.W.Frag) (H : Hp) (x : V) : Prop := NoInt K H x ∨ ∃ n : Int, x = .int n ∧ n < 1
theorem BadPer.same {K : PySem.W.Frag} {H H' : Hp} {x : V} (s : Same H H') (h : BadPer K H x) : BadPer K H' x := h.imp (·.same s) id
section
variable {P : Program} {w : World} {K : PySem.W.Frag} {mg : Str → Option Value} {base : Heap}
def spIsPeriodX (K : PySem.W.Frag) : Sp := fun vs H Q _ => ∃ x : V, vs = [x] ∧ ((∃ n : Int, x = .int n ∧ 1 ≤ n ∧ Q (.bl true) H) ∨ (BadPer K H x ∧ Q (.bl false) H))
theorem okA_is_period {f : Addr} {fd : FuncData} (F : Fun K "is_period" "is_period" s_is_period f fd) (h1 : Has P w K mg base 1 "is_integer" ["given"] [] (spIsIntX K)) : FnOk P w K mg base CX0 2 f fd ["given"] (spIsPeriodX K) := by
  obtain ⟨f_is_integer, fd_is_integer, ds_is_integer, G_is_integer, m_is_integer, k_is_integer, b_is_integer, v_is_integer⟩ := h1
  refine F.ok sc_is_period (fun vs H Q E h => ?_) (fun cdv A outer s H vs Q E hr h => ?_)
  · obtain ⟨x, rfl, _⟩ := h
    rfl
  · obtain ⟨x, rfl, hx⟩ := h
    refine ⟨_, (pss_one (ps_ret (pe_and (pe_call G_is_integer hr (by rfl) m_is_integer k_is_integer b_is_integer v_is_integer pass0 (pa_cons (pv 0) pa_nil)) (pe_one (pe_cmpR op_ge (pv 0) pe_int (nomark _)))))), ?_⟩
    have e2 : ∀ (n : Int) (b : Bool), decide (n ≥ 1) = b → Q (.bl b) H → Q (V.bl (decide (n ≥ 1))) H := fun n b e q => by
      rw [e]
      exact q
    rcases hx with ⟨n, rfl, l1, q⟩ | ⟨hn | ⟨n, rfl, hn⟩, q⟩
    · exact ⟨.int n, rfl, .int n, rfl, .inl ⟨n, rfl, true, rfl, iteT ⟨_, rfl, n, 1, rfl, rfl, e2 n true (decide_eq_true l1) q⟩⟩⟩
    · exact ⟨x, rfl, x, rfl, .inr ⟨hn, false, rfl, iteF q⟩⟩
    · exact ⟨.int n, rfl, .int n, rfl, .inl ⟨n, rfl, true, rfl, iteT ⟨_, rfl, n, 1, rfl, rfl, e2 n false (decide_eq_false (by omega)) q⟩⟩⟩
end
/-! ### snapshots of any value -/
theorem tyx_tup1 {K : PySem.W.Frag} {H : Hp} {a : Addr} {xs : List V} (h : H a = some (.tup xs)) : TyX K H (.ref a) (.type "tuple") := .base (.tup h)
def GoodRow (H : Hp) (t f : Nat) (v : V) : Prop := ∃ (a : Addr) (r : RowP), v = .ref a ∧ H a = some (.tup (rowPV r)) ∧ RowOk t f r
/-- what is no row -/
def BadRow (K : PySem.W.Frag) (H : Hp) (t f : Nat) (v : V) : Prop := NotA K H "tuple" v ∨ ∃ (a : Addr) (xs : List V), v = .ref a ∧ H a = some (.tup xs) ∧ (xs.length ≠ 3 ∨ ∃ x y z, xs = [x, y, z] ∧
  (NoInt K H x ∨ (∃ n : Int, x = .int n ∧ (n < 0 ∨ (f : Int) ≤ n)) ∨ ∃ n : Nat, x = .int (n : Nat) ∧ n < f ∧ (BadTick K H y ((t : Int) + 1) ∨ ∃ d : Nat, y = .int (d : Nat) ∧ t < d ∧ z ≠ .non ∧ BadPer K H z)))
/-- rows, good and bad ones -/
def RowsB (K : PySem.W.Frag) (H : Hp) (t f : Nat) : List V → List Bool → Prop
  | [], [] => True
  | x :: xs, b :: bs => ((b = true ∧ GoodRow H t f x) ∨ (b = false ∧ BadRow K H t f x)) ∧ RowsB K H t f xs bs
  | _, _ => False
/-- what are no rows -/
def BadRows (K : PySem.W.Frag) (H : Hp) (t f : Nat) (v : V) : Prop := NotA K H "list" v ∨ ∃ (A : Addr) (xs : List V), v = .ref A ∧ SqL K H A xs ∧ xs.length ≤ 1000 ∧ ((∃ bs, RowsB K H t f xs bs ∧ false ∈ bs) ∨
  ∃ (ts : List Addr) (rs : List RowP), xs = ts.map V.ref ∧ RpAt H ts rs ∧ (∀ r ∈ rs, RowOk t f r) ∧ ¬ (rs.map (·.1)).Nodup)
/-- what is no snapshot -/
def BadSnap (K : PySem.W.Frag) (H : Hp) (v : V) : Prop := NotA K H "tuple" v ∨ ∃ (a : Addr) (xs : List V), v = .ref a ∧ H a = some (.tup xs) ∧ (xs.length ≠ 5 ∨ ∃ x0 x1 x2 x3 x4, xs = [x0, x1, x2, x3, x4] ∧
  (BadBase K H x0 ∨ ∃ b : Nat, x0 = .int (b : Nat) ∧ 2 ≤ b ∧ b ≤ 64 ∧ (BadLevels K H x1 ∨ ∃ (q : Addr) (ws : List Bool), x1 = .ref q ∧ SqL K H q (ws.map lvV) ∧ ws ≠ [] ∧ ws.length ≤ 60 ∧
    (BadTick K H x2 0 ∨ ∃ t : Nat, x2 = .int (t : Nat) ∧ (NoInt K H x3 ∨ (∃ f : Int, x3 = .int f ∧ f < 0) ∨ ∃ f : Nat, x3 = .int (f : Nat) ∧ BadRows K H t f x4)))))
theorem GoodRow.same {H H' : Hp} {t f : Nat} {v : V} (s : Same H H') (h : GoodRow H t f v) : GoodRow H' t f v := by
  obtain ⟨a, r, e, h, ok⟩ := h
  exact ⟨a, r, e, s _ _ h, ok⟩
theorem BadRow.same {K : PySem.W.Frag} {H H' : Hp} {t f : Nat} {v : V} (s : Same H H') (h : BadRow K H t f v) : BadRow K H' t f v := by
  rcases h with h | ⟨a, xs, e, h, h2⟩
  · exact .inl (h.same s)
  refine .inr ⟨a, xs, e, s _ _ h, h2.imp id fun ⟨x, y, z, e2, h3⟩ => ⟨x, y, z, e2, ?_⟩⟩
  rcases h3 with h3 | h3 | ⟨n, e3, l, h4⟩
  · exact .inl (h3.same s)
  · exact .inr (.inl h3)
  · exact .inr (.inr ⟨n, e3, l, h4.imp (·.same s) fun ⟨d, e4, l2, z1, z2⟩ => ⟨d, e4, l2, z1, z2.same s⟩⟩)
theorem RowsB.same {K : PySem.W.Frag} {H H' : Hp} {t f : Nat} (s : Same H H') : ∀ {xs : List V} {bs : List Bool}, RowsB K H t f xs bs → RowsB K H' t f xs bs
  | [], [], _ => trivial
  | _ :: _, _ :: _, h => ⟨h.1.imp (fun z => ⟨z.1, z.2.same s⟩) (fun z => ⟨z.1, z.2.same s⟩), h.2.same s⟩
  | [], _ :: _, h => h.elim
  | _ :: _, [], h => h.elim
theorem RowsB.len {K : PySem.W.Frag} {H : Hp} {t f : Nat} : ∀ {xs : List V} {bs : List Bool}, RowsB K H t f xs bs → bs.length = xs.length
  | [], [], _ => rfl
  | _ :: _, _ :: _, h => congrArg Nat.succ h.2.len
  | [], _ :: _, h => h.elim
  | _ :: _, [], h => h.elim
theorem RowsB.item {K : PySem.W.Frag} {H : Hp} {t f : Nat} : ∀ {xs : List V} {bs : List Bool} {i : Nat} {x : V}, RowsB K H t f xs bs → xs[i]? = some x → ∃ b, bs[i]? = some b ∧ ((b = true ∧ GoodRow H t f x) ∨ (b = false ∧ BadRow K H t f x))
  | x :: xs, b :: bs, 0, y, h, e => by
    cases e
    exact ⟨b, rfl, h.1⟩
  | x :: xs, b :: bs, i + 1, y, h, e => RowsB.item (i := i) h.2 e
  | [], [], _, _, _, e => by cases e
  | [], _ :: _, _, _, h, _ => h.elim
  | _ :: _, [], _, _, h, _ => h.elim
theorem RowsB.append {K : PySem.W.Frag} {H : Hp} {t f : Nat} : ∀ {xs ys : List V} {bs cs : List Bool}, RowsB K H t f xs bs → RowsB K H t f ys cs → RowsB K H t f (xs ++ ys) (bs ++ cs)
  | [], _, [], _, _, h => h
  | _ :: _, _, _ :: _, _, h, h' => ⟨h.1, h.2.append h'⟩
  | [], _, _ :: _, _, h, _ => h.elim
  | _ :: _, _, [], _, h, _ => h.elim
theorem RowsB.good {K : PySem.W.Frag} {H : Hp} {t f : Nat} : ∀ {ts : List Addr} {rs : List RowP}, RpAt H ts rs → (∀ r ∈ rs, RowOk t f r) → RowsB K H t f (ts.map V.ref) (List.replicate rs.length true)
  | [], [], _, _ => trivial
  | a :: ts, r :: rs, h, ok => ⟨.inl ⟨rfl, a, r, rfl, h.1, ok r List.mem_cons_self⟩, RowsB.good h.2 fun r' hr => ok r' (List.mem_cons_of_mem _ hr)⟩
  | [], _ :: _, h, _ => h.elim
  | _ :: _, [], h, _ => h.elim
theorem BadRows.same {K : PySem.W.Frag} {H H' : Hp} {t f : Nat} {v : V} (s : Same H H') (h : BadRows K H t f v) : BadRows K H' t f v := by
  rcases h with h | ⟨A, xs, e, h, l, h2⟩
  · exact .inl (h.same s)
  refine .inr ⟨A, xs, e, s.seq h, l, ?_⟩
  rcases h2 with ⟨bs, h3, h4⟩ | ⟨ts, rs, e2, h3, h4⟩
  · exact .inl ⟨bs, h3.same s, h4⟩
  · exact .inr ⟨ts, rs, e2, h3.same s, h4⟩
theorem BadSnap.same {K : PySem.W.Frag} {H H' : Hp} {v : V} (s : Same H H') (h : BadSnap K H v) : BadSnap K H' v := by
  rcases h with h | ⟨a, xs, e, h, h2⟩
  · exact .inl (h.same s)
  refine .inr ⟨a, xs, e, s _ _ h, h2.imp id fun ⟨x0, x1, x2, x3, x4, e2, h3⟩ => ⟨x0, x1, x2, x3, x4, e2, ?_⟩⟩
  rcases h3 with h3 | ⟨b, e3, b2, b64, h4⟩
  · exact .inl (h3.same s)
  refine .inr ⟨b, e3, b2, b64, ?_⟩
  rcases h4 with h4 | ⟨q, ws, e4, hq, ne, l60, h5⟩
  · exact .inl (h4.same s)
  refine .inr ⟨q, ws, e4, s.seq hq, ne, l60, ?_⟩
  rcases h5 with h5 | ⟨t, e5, h6⟩
  · exact .inl (h5.same s)
  refine .inr ⟨t, e5, ?_⟩
  rcases h6 with h6 | h6 | ⟨f, e6, h7⟩
  · exact .inl (h6.same s)
  · exact .inr (.inl h6)
  · exact .inr (.inr ⟨f, e6, h7.same s⟩)
theorem noint_not {K : PySem.W.Frag} {H : Hp} {x : V} (h : NoInt K H x) : ∀ n : Int, x ≠ .int n := fun n e => by
  subst e
  obtain ⟨t, h1, h2⟩ := h
  have et : t = .type "int" := by
    cases h1 with
    | base h1 => cases h1; rfl
  subst et
  obtain ⟨i, b, k1, k2, k3⟩ := h2.kit (K := K)
  have e1 : PySem.W.kitOne K (.type "int") (.type "int") = some true := kit_ty (by decide +kernel)
  have e2 : PySem.W.kitOne K (.type "int") (.type "bool") = some false := kit_ty (by decide +kernel)
  rw [e1] at k1
  rw [e2] at k2
  cases k1
  cases k2
  cases k3 rfl
section
variable {P : Program} {w : World} {K : PySem.W.Frag} {mg : Str → Option Value} {base : Heap}
def spIsRowX (K : PySem.W.Frag) : Sp := fun vs H Q _ => ∃ (x : V) (t f : Nat), vs = [x, .int (t : Nat), .int (f : Nat)] ∧ ((GoodRow H t f x ∧ Q (.bl true) H) ∨ (BadRow K H t f x ∧ Q (.bl false) H))
theorem okA_is_row {f : Addr} {fd : FuncData} (F : Fun K "is_row" "is_row" s_is_row f fd) (T : Tx K mg) (h0 : Has P w K mg base 1 "is_integer" ["given"] [] (spIsIntX K)) (h1 : Has P w K mg base 2 "is_tick" ["given", "least"] [] (spIsTickX K)) (h2 : Has P w K mg base 2 "is_period" ["given"] [] (spIsPeriodX K)) : FnOk P w K mg base CX0 3 f fd ["given", "now", "following"] (spIsRowX K) := by
  obtain ⟨f_is_integer, fd_is_integer, ds_is_integer, G_is_integer, m_is_integer, k_is_integer, b_is_integer, v_is_integer⟩ := h0
  obtain ⟨f_is_tick, fd_is_tick, ds_is_tick, G_is_tick, m_is_tick, k_is_tick, b_is_tick, v_is_tick⟩ := h1
  obtain ⟨f_is_period, fd_is_period, ds_is_period, G_is_period, m_is_period, k_is_period, b_is_period, v_is_period⟩ := h2
  refine F.ok sc_is_row (fun vs H Q E h => ?_) (fun cdv A outer s H vs Q E hr h => ?_)
  · obtain ⟨x, t, f, rfl, _⟩ := h
    rfl
  · obtain ⟨x, t, f, rfl, h⟩ := h
    refine ⟨_, (pss_cons (ps_if (PW.pt (pw_or (pt_not (pt_val (pe_callB (isiK (K := K) rfl) (by rfl) T.b_isinstance (by decide +kernel) (pa_cons (pv 0) (pa_cons (pe_bltn (v := .ty "tuple") (u := .type "tuple") (by rfl) T.b_tuple (by decide +kernel) rfl) pa_nil))))) (pw_or1 (pt_cmpR op_ne (pe_callB (lenK (K := K) rfl) (by rfl) T.b_len PySem.boot_len (pa_cons (pv 0) pa_nil)) pe_int (nomark _)))))
        (pss_one (ps_ret pe_bl))
        pss_nil)
      (pss_cons (ps_asg (pv 0) (pg_tupK (K := K) (n := 3) rfl rfl (pgs_cons (pg_name (i := 3) sc_is_row.nd rfl (.inl rfl)) (pgs_cons (pg_name (i := 4) sc_is_row.nd rfl (.inl rfl)) (pgs_cons (pg_name (i := 5) sc_is_row.nd rfl (.inl rfl)) pgs_nil)))))
      (pss_cons (ps_if (PW.pt (pw_or (pt_not (pt_val (pe_call G_is_integer (hr.mono (by decide)) (by rfl) m_is_integer k_is_integer b_is_integer v_is_integer pass0 (pa_cons (pv 3) pa_nil)))) (pw_or1 (pt_not (pt_chain op_le op_lt pe_int (pv 3) (pv 2))))))
        (pss_one (ps_ret pe_bl))
        pss_nil)
      (pss_one (ps_ret (pe_and (pe_call G_is_tick hr (by rfl) m_is_tick k_is_tick b_is_tick v_is_tick pass0 (pa_cons (pv 4) (pa_cons (pe_op op_add (pv 1) pe_int) pa_nil))) (pe_one (pe_or (pe_cmpR op_isN (pv 5) pe_non (nomark _)) (pe_one (pe_call G_is_period hr (by rfl) m_is_period k_is_period b_is_period v_is_period pass0 (pa_cons (pv 5) pa_nil))))))))))), ?_⟩
    rcases h with ⟨⟨u, r, rfl, hu, ok⟩, q⟩ | ⟨⟨c, ht, hk⟩ | ⟨u, xs, rfl, hu, hb⟩, q⟩
    · refine ⟨.ref u, rfl, _, _, _, _, true, rfl, .ty "tuple", tyx_tup1 hu, kit_ty (by decide +kernel), true, rfl, iteF ?_⟩
      refine ⟨.ref u, rfl, u, _, rfl, .inr (.inl (.inl hu)), rfl, false, nF rfl, iteF ?_⟩
      refine ⟨.ref u, rfl, u, _, rfl, .inl (.inl hu), rfl, _, _, rfl, _, _, rfl, _, _, rfl, rfl, ?_⟩
      obtain ⟨n, d, o⟩ := r
      obtain ⟨h1, h2, h3⟩ := ok
      refine ⟨_, rfl, .int (n : Nat), rfl, .inl ⟨(n : Nat), rfl, true, rfl, iteF ?_⟩⟩
      refine ⟨.int (n : Nat), rfl, 0, (n : Nat), rfl, rfl, true, dT (by omega), iteT ?_⟩
      refine ⟨.int (f : Nat), rfl, (n : Nat), (f : Nat), rfl, rfl, true, dT (by exact Int.ofNat_lt.mpr h1), iteF ?_⟩
      refine ⟨_, rfl, _, rfl, (t : Nat), 1, rfl, rfl, .int (d : Nat), _, rfl, .inl ⟨(d : Nat), rfl, (by have h2' : t < d := h2; omega), true, rfl, iteT ?_⟩⟩
      cases o with
      | none => exact ⟨_, rfl, rfl, true, rfl, iteT q⟩
      | some k => exact ⟨_, rfl, rfl, false, rfl, iteF ⟨.int (k : Nat), rfl, .int (k : Nat), rfl, .inl ⟨(k : Nat), rfl, (by have := h3 k rfl; omega), q⟩⟩⟩
    · exact ⟨x, rfl, _, _, _, _, false, rfl, .ty "tuple", ht, kit_ty hk, false, rfl, iteT (iteT q)⟩
    · refine ⟨.ref u, rfl, _, _, _, _, true, rfl, .ty "tuple", tyx_tup1 hu, kit_ty (by decide +kernel), true, rfl, iteF ?_⟩
      rcases hb with hl | ⟨x, y, z, rfl, hb⟩
      · exact ⟨.ref u, rfl, u, _, rfl, .inr (.inl (.inl hu)), rfl, true, nT (vI fun e => hl (Int.ofNat.inj e)), iteT q⟩
      refine ⟨.ref u, rfl, u, _, rfl, .inr (.inl (.inl hu)), rfl, false, nF rfl, iteF ?_⟩
      refine ⟨.ref u, rfl, u, _, rfl, .inl (.inl hu), rfl, _, _, rfl, _, _, rfl, _, _, rfl, rfl, ?_⟩
      rcases hb with hn | ⟨n, rfl, hn⟩ | ⟨n, rfl, hn, hb⟩
      · exact ⟨_, rfl, x, rfl, .inr ⟨hn, false, rfl, iteT (iteT q)⟩⟩
      · refine ⟨_, rfl, .int n, rfl, .inl ⟨n, rfl, true, rfl, iteF ?_⟩⟩
        by_cases c : 0 ≤ n
        · refine ⟨.int n, rfl, 0, n, rfl, rfl, true, dT c, iteT ?_⟩
          exact ⟨.int (f : Nat), rfl, n, (f : Nat), rfl, rfl, false, dF (by omega), iteT q⟩
        · exact ⟨.int n, rfl, 0, n, rfl, rfl, false, dF c, iteF ⟨false, rfl, iteT q⟩⟩
      · refine ⟨_, rfl, .int (n : Nat), rfl, .inl ⟨(n : Nat), rfl, true, rfl, iteF ?_⟩⟩
        refine ⟨.int (n : Nat), rfl, 0, (n : Nat), rfl, rfl, true, dT (by omega), iteT ?_⟩
        refine ⟨.int (f : Nat), rfl, (n : Nat), (f : Nat), rfl, rfl, true, dT (by exact Int.ofNat_lt.mpr hn), iteF ?_⟩
        rcases hb with hb | ⟨d, rfl, hd, hz, hp⟩
        · exact ⟨_, rfl, _, rfl, (t : Nat), 1, rfl, rfl, y, _, rfl, .inr ⟨hb, false, rfl, iteF q⟩⟩
        · refine ⟨_, rfl, _, rfl, (t : Nat), 1, rfl, rfl, .int (d : Nat), _, rfl, .inl ⟨(d : Nat), rfl, by omega, true, rfl, iteT ?_⟩⟩
          exact ⟨_, rfl, rfl, false, dF hz, iteF ⟨z, rfl, z, rfl, .inr ⟨hp, q⟩⟩⟩
end
/-! ### is_snapshot of any value -/
section
variable {P : Program} {w : World} {K : PySem.W.Frag} {mg : Str → Option Value} {base : Heap}
def spIsSnapX (K : PySem.W.Frag) : Sp := fun vs H Q _ => ∃ x : V, vs = [x] ∧ ((∃ (u : Addr) (b : Nat) (ws : List Bool) (t f : Nat) (rs : List RowP), x = .ref u ∧ SnapAt K H u b ws t f rs ∧ SnapOk b ws t f rs ∧ ∀ H', Same H H' → Q (.bl true) H') ∨ (BadSnap K H x ∧ ∀ H', Same H H' → Q (.bl false) H'))
theorem okA_is_snapshot {f : Addr} {fd : FuncData} (F : Fun K "is_snapshot" "is_snapshot" s_is_snapshot f fd) (T : Tx K mg) (h0 : Has P w K mg base 1 "is_integer" ["given"] [] (spIsIntX K)) (h1 : Has P w K mg base 2 "is_tick" ["given", "least"] [.int 0] (spIsTickX K)) (h2 : Has P w K mg base 2 "is_base" ["given"] [] (spIsBaseX K))
    (h3 : Has P w K mg base 3 "are_levels" ["given"] [] (spAreLevelsX K)) (h4 : Has P w K mg base 3 "is_row" ["given", "now", "following"] [] (spIsRowX K)) : FnOk P w K mg base CX0 4 f fd ["given"] (spIsSnapX K) := by
  obtain ⟨f_is_integer, fd_is_integer, ds_is_integer, G_is_integer, m_is_integer, k_is_integer, b_is_integer, v_is_integer⟩ := h0
  obtain ⟨f_is_tick1, fd_is_tick1, ds_is_tick1, G_is_tick1, m_is_tick1, k_is_tick1, b_is_tick1, v_is_tick1⟩ := h1
  obtain ⟨f_is_base, fd_is_base, ds_is_base, G_is_base, m_is_base, k_is_base, b_is_base, v_is_base⟩ := h2
  obtain ⟨f_are_levels, fd_are_levels, ds_are_levels, G_are_levels, m_are_levels, k_are_levels, b_are_levels, v_are_levels⟩ := h3
  obtain ⟨f_is_row, fd_is_row, ds_is_row, G_is_row, m_is_row, k_is_row, b_is_row, v_is_row⟩ := h4
  refine F.ok sc_is_snapshot (fun vs H Q E h => ?_) (fun cdv A outer s H vs Q E hr h => ?_)
  · obtain ⟨x, rfl, _⟩ := h
    rfl
  · obtain ⟨x, rfl, h⟩ := h
    refine ⟨_, (pss_cons (ps_if (PW.pt (pw_or (pt_not (pt_val (pe_callB (isiK (K := K) rfl) (by rfl) T.b_isinstance (by decide +kernel) (pa_cons (pv 0) (pa_cons (pe_bltn (v := .ty "tuple") (u := .type "tuple") (by rfl) T.b_tuple (by decide +kernel) rfl) pa_nil))))) (pw_or1 (pt_cmpR op_ne (pe_callB (lenK (K := K) rfl) (by rfl) T.b_len PySem.boot_len (pa_cons (pv 0) pa_nil)) pe_int (nomark _)))))
        (pss_one (ps_ret pe_bl))
        pss_nil)
      (pss_cons (ps_asg (pv 0) (pg_tupK (K := K) (n := 5) rfl rfl (pgs_cons (pg_name (i := 1) sc_is_snapshot.nd rfl (.inl rfl)) (pgs_cons (pg_name (i := 2) sc_is_snapshot.nd rfl (.inl rfl)) (pgs_cons (pg_name (i := 3) sc_is_snapshot.nd rfl (.inr rfl)) (pgs_cons (pg_name (i := 4) sc_is_snapshot.nd rfl (.inr rfl)) (pgs_cons (pg_name (i := 5) sc_is_snapshot.nd rfl (.inl rfl)) pgs_nil)))))))
      (pss_cons (ps_if (PW.pt (pw_or (pt_not (pt_val (pe_call G_is_base (hr.mono (by decide)) (by rfl) m_is_base k_is_base b_is_base v_is_base pass0 (pa_cons (pv 1) pa_nil)))) (pw_or (pt_not (pt_val (pe_call G_are_levels hr (by rfl) m_are_levels k_are_levels b_are_levels v_are_levels pass0 (pa_cons (pv 2) pa_nil)))) (pw_or1 (pt_not (pt_val (pe_call G_is_tick1 (hr.mono (by decide)) (by rfl) m_is_tick1 k_is_tick1 b_is_tick1 v_is_tick1 pass0 (pa_cons (pv 3) pa_nil))))))))
        (pss_one (ps_ret pe_bl))
        pss_nil)
      (pss_cons (ps_if (PW.pt (pw_or (pt_not (pt_val (pe_call G_is_integer (hr.mono (by decide)) (by rfl) m_is_integer k_is_integer b_is_integer v_is_integer pass0 (pa_cons (pv 4) pa_nil)))) (pw_or (pt_cmpR op_lt (pv 4) pe_int (nomark _)) (pw_or1 (pt_not (pt_val (pe_callB (isiK (K := K) rfl) (by rfl) T.b_isinstance (by decide +kernel) (pa_cons (pv 5) (pa_cons (pe_bltn (v := .ty "list") (u := .type "list") (by rfl) T.b_list (by decide +kernel) rfl) pa_nil)))))))))
        (pss_one (ps_ret pe_bl))
        pss_nil)
      (pss_cons (ps_if (pt_not (pt_val (pe_callB (allK (K := K) rfl rfl) (by rfl) T.b_all (by decide +kernel) (pa_cons (pe_lc (own := [("row", 6)]) (g := gName 6) (tt := tYes) rfl sc_is_snapshot.nd (pi_list (pv 5)) (blkOk_by (own := [("row", 6)]) (N := N_is_snapshot) (sc := defScope s_is_snapshot) (by decide +kernel)) (fun _ _ _ _ _ => (pg_name (i := 6) sc_is_snapshot.nd rfl (.inl rfl))) (fun _ _ _ _ _ => pts_nil) (fun _ _ _ _ _ => (pe_call G_is_row hr (by rfl) m_is_row k_is_row b_is_row v_is_row pass0 (pa_cons (pv 6) (pa_cons (pv 3) (pa_cons (pv 4) pa_nil)))))) pa_nil))))
        (pss_one (ps_ret pe_bl))
        pss_nil)
      (pss_one (ps_ret (pe_cmpR op_eq (pe_lenSetN (by rfl) T.b_len (by rfl) T.b_set (pe_lc (own := [("number", 7), ("due", 8), ("period", 9)]) (g := _) (tt := tYes) rfl sc_is_snapshot.nd (pi_list (pv 5)) (blkOk_by (own := [("number", 7), ("due", 8), ("period", 9)]) (N := N_is_snapshot) (sc := defScope s_is_snapshot) (by decide +kernel)) (fun _ _ _ _ _ => (pg_tupK (K := K) (n := 3) rfl rfl (pgs_cons (pg_name (i := 7) sc_is_snapshot.nd rfl (.inl rfl)) (pgs_cons (pg_name (i := 8) sc_is_snapshot.nd rfl (.inl rfl)) (pgs_cons (pg_name (i := 9) sc_is_snapshot.nd rfl (.inl rfl)) pgs_nil))))) (fun _ _ _ _ _ => pts_nil) (fun _ _ _ _ _ => (pv 7)))) (pe_callB (lenK (K := K) rfl) (by rfl) T.b_len PySem.boot_len (pa_cons (pv 5) pa_nil)) (nomark _))))))))), ?_⟩
    -- whether there is a tuple of five
    have h' : (NotA K H "tuple" x ∧ Q (.bl false) H) ∨ (∃ u xs, x = .ref u ∧ H u = some (.tup xs) ∧ xs.length ≠ 5 ∧ Q (.bl false) H) ∨ ∃ u x0 x1 x2 x3 x4, x = .ref u ∧ H u = some (.tup [x0, x1, x2, x3, x4]) ∧
        ((BadBase K H x0 ∧ ∀ H', Same H H' → Q (.bl false) H') ∨ ∃ b : Nat, x0 = .int (b : Nat) ∧ 2 ≤ b ∧ b ≤ 64 ∧ ((BadLevels K H x1 ∧ ∀ H', Same H H' → Q (.bl false) H') ∨ ∃ (q : Addr) (ws : List Bool), x1 = .ref q ∧ SqL K H q (ws.map lvV) ∧ ws ≠ [] ∧ ws.length ≤ 60 ∧
          ((BadTick K H x2 0 ∧ ∀ H', Same H H' → Q (.bl false) H') ∨ ∃ t : Nat, x2 = .int (t : Nat) ∧ ((NoInt K H x3 ∧ ∀ H', Same H H' → Q (.bl false) H') ∨ (∃ f : Int, x3 = .int f ∧ f < 0 ∧ ∀ H', Same H H' → Q (.bl false) H') ∨ ∃ f : Nat, x3 = .int (f : Nat) ∧
            ((NotA K H "list" x4 ∧ ∀ H', Same H H' → Q (.bl false) H') ∨ ∃ (R : Addr) (xs : List V), x4 = .ref R ∧ SqL K H R xs ∧ xs.length ≤ 1000 ∧ ((∃ bs, RowsB K H t f xs bs ∧ false ∈ bs ∧ ∀ H', Same H H' → Q (.bl false) H') ∨
              ∃ (ts : List Addr) (rs : List RowP), xs = ts.map V.ref ∧ RpAt H ts rs ∧ (∀ r ∈ rs, RowOk t f r) ∧ ∀ c : Nat, ((rs.map (·.1)).Nodup → c = rs.length) → (¬ (rs.map (·.1)).Nodup → c < rs.length) → ∀ H', Same H H' → Q (.bl (decide (c = rs.length))) H')))))) := by
      rcases h with ⟨u, b, ws, t, f, rs, rfl, hS, ok, c⟩ | ⟨h | ⟨u, xs, rfl, hu, hl | ⟨x0, x1, x2, x3, x4, rfl, h⟩⟩, c⟩
      · obtain ⟨q, R, ts, hu, hq, hR, hP⟩ := hS.tup
        obtain ⟨k1, k2, k3, k4, k5, k6, k7⟩ := ok
        refine .inr (.inr ⟨u, _, _, _, _, _, rfl, hu, .inr ⟨b, rfl, k1, k2, .inr ⟨q, ws, rfl, hq, k3, k4, .inr ⟨t, rfl, .inr (.inr ⟨f, rfl, .inr ⟨R, _, rfl, hR, ?_, .inr ⟨ts, rs, rfl, hP, k5, fun n h1 _ H' s' => ?_⟩⟩⟩)⟩⟩⟩⟩)
        · rw [List.length_map, hP.len]
          exact k7
        · rw [decide_eq_true (h1 k6)]
          exact c H' s'
      · exact .inl ⟨h, c H fun _ _ e => e⟩
      · exact .inr (.inl ⟨u, xs, rfl, hu, hl, c H fun _ _ e => e⟩)
      · refine .inr (.inr ⟨u, x0, x1, x2, x3, x4, rfl, hu, ?_⟩)
        rcases h with h | ⟨b, rfl, b2, b64, h | ⟨q, ws, rfl, hq, ne, l60, h | ⟨t, rfl, h | ⟨f, rfl, h⟩ | ⟨f, rfl, h⟩⟩⟩⟩
        · exact .inl ⟨h, c⟩
        · exact .inr ⟨b, rfl, b2, b64, .inl ⟨h, c⟩⟩
        · exact .inr ⟨b, rfl, b2, b64, .inr ⟨q, ws, rfl, hq, ne, l60, .inl ⟨h, c⟩⟩⟩
        · exact .inr ⟨b, rfl, b2, b64, .inr ⟨q, ws, rfl, hq, ne, l60, .inr ⟨t, rfl, .inl ⟨h, c⟩⟩⟩⟩
        · exact .inr ⟨b, rfl, b2, b64, .inr ⟨q, ws, rfl, hq, ne, l60, .inr ⟨t, rfl, .inr (.inl ⟨f, rfl, h, c⟩)⟩⟩⟩
        · refine .inr ⟨b, rfl, b2, b64, .inr ⟨q, ws, rfl, hq, ne, l60, .inr ⟨t, rfl, .inr (.inr ⟨f, rfl, ?_⟩)⟩⟩⟩
          rcases h with h | ⟨R, xs, rfl, hR, hl, ⟨bs, hb, hf⟩ | ⟨ts, rs, rfl, hP, ok, nd⟩⟩
          · exact .inl ⟨h, c⟩
          · exact .inr ⟨R, xs, rfl, hR, hl, .inl ⟨bs, hb, hf, c⟩⟩
          · refine .inr ⟨R, _, rfl, hR, hl, .inr ⟨ts, rs, rfl, hP, ok, fun n _ h2 H' s' => ?_⟩⟩
            rw [decide_eq_false (Nat.ne_of_lt (h2 nd))]
            exact c H' s'
    clear h
    rcases h' with ⟨⟨c, ht, hk⟩, q⟩ | ⟨u, xs, rfl, hu, hl, q⟩ | ⟨u, x0, x1, x2, x3, x4, rfl, hu, h⟩
    · exact ⟨x, rfl, _, _, _, _, false, rfl, .ty "tuple", ht, kit_ty hk, false, rfl, iteT (iteT q)⟩
    · refine ⟨.ref u, rfl, _, _, _, _, true, rfl, .ty "tuple", tyx_tup1 hu, kit_ty (by decide +kernel), true, rfl, iteF ?_⟩
      exact ⟨.ref u, rfl, u, _, rfl, .inr (.inl (.inl hu)), rfl, true, nT (vI fun e => hl (Int.ofNat.inj e)), iteT q⟩
    refine ⟨.ref u, rfl, _, _, _, _, true, rfl, .ty "tuple", tyx_tup1 hu, kit_ty (by decide +kernel), true, rfl, iteF ?_⟩
    refine ⟨.ref u, rfl, u, _, rfl, .inr (.inl (.inl hu)), rfl, false, nF rfl, iteF ?_⟩
    refine ⟨.ref u, rfl, u, _, rfl, .inl (.inl hu), rfl, _, _, rfl, _, _, rfl, _, _, rfl, _, _, rfl, _, _, rfl, rfl, ?_⟩
    rcases h with ⟨hb, q⟩ | ⟨b, rfl, b2, b64, h⟩
    · exact ⟨_, rfl, x0, rfl, .inr ⟨hb, false, rfl, iteT (iteT (q H fun _ _ e => e))⟩⟩
    refine ⟨_, rfl, .int (b : Nat), rfl, .inl ⟨(b : Nat), rfl, by omega, by omega, true, rfl, iteF ?_⟩⟩
    rcases h with ⟨hb, q⟩ | ⟨q0, ws, rfl, hq, ne, l60, h⟩
    · exact ⟨_, rfl, x1, rfl, .inr ⟨hb, fun H1 s1 => ⟨false, rfl, iteT (iteT (q H1 s1))⟩⟩⟩
    refine ⟨_, rfl, .ref q0, rfl, .inl ⟨q0, ws, rfl, hq, ne, l60, fun H1 s1 => ⟨true, rfl, iteF ?_⟩⟩⟩
    rcases h with ⟨hb, q⟩ | ⟨t, rfl, h⟩
    · exact ⟨_, rfl, x2, 0, rfl, .inr ⟨hb.same s1, false, rfl, iteT (q H1 s1)⟩⟩
    refine ⟨_, rfl, .int (t : Nat), 0, rfl, .inl ⟨(t : Nat), rfl, by omega, true, rfl, iteF ?_⟩⟩
    rcases h with ⟨hb, q⟩ | ⟨f, rfl, hf, q⟩ | ⟨f, rfl, h⟩
    · exact ⟨_, rfl, x3, rfl, .inr ⟨hb.same s1, false, rfl, iteT (iteT (q H1 s1))⟩⟩
    · refine ⟨_, rfl, .int f, rfl, .inl ⟨f, rfl, true, rfl, iteF ?_⟩⟩
      exact ⟨.int f, rfl, f, 0, rfl, rfl, true, dT hf, iteT (iteT (q H1 s1))⟩
    refine ⟨_, rfl, .int (f : Nat), rfl, .inl ⟨(f : Nat), rfl, true, rfl, iteF ?_⟩⟩
    refine ⟨.int (f : Nat), rfl, (f : Nat), 0, rfl, rfl, false, dF (by omega), iteF ?_⟩
    rcases h with ⟨⟨c, ht, hk⟩, q⟩ | ⟨R, xs, rfl, hR, hl, h⟩
    · exact ⟨x4, rfl, _, _, _, _, false, rfl, .ty "list", tyX_same s1 ht, kit_ty hk, false, rfl, iteT (q H1 s1)⟩
    have hR1 := s1.seq hR
    refine ⟨.ref R, rfl, _, _, _, _, true, rfl, .ty "list", tyx_list hR1, kit_ty (by decide +kernel), true, rfl, iteF ?_⟩
    obtain ⟨bs, hB, hfin⟩ : ∃ bs, RowsB K H t f xs bs ∧ ((false ∈ bs ∧ ∀ H', Same H H' → Q (.bl false) H') ∨ (bs = List.replicate xs.length true ∧ ∃ (ts : List Addr) (rs : List RowP), xs = ts.map V.ref ∧ RpAt H ts rs ∧ (∀ r ∈ rs, RowOk t f r) ∧ ∀ c : Nat, ((rs.map (·.1)).Nodup → c = rs.length) → (¬ (rs.map (·.1)).Nodup → c < rs.length) → ∀ H', Same H H' → Q (.bl (decide (c = rs.length))) H')) := by
      rcases h with ⟨bs, hb, hf, q⟩ | ⟨ts, rs, rfl, hP, ok, q⟩
      · exact ⟨bs, hb, .inl ⟨hf, q⟩⟩
      · refine ⟨_, RowsB.good hP ok, .inr ⟨by rw [List.length_map, hP.len], ts, rs, rfl, hP, ok, q⟩⟩
    clear h
    have hbl := hB.len
    refine ⟨.ref R, rfl, R, rfl, ⟨_, hR1⟩, fun D hD => lc_list (K := K) (a := R) (xs := xs) (fun i H' => Same H1 H' ∧ H' D = some (.lst ((bs.take i).map V.bl)))
      ⟨same_upd hD, upd_same⟩ (fun i H' _ ⟨sm, _⟩ => sm.seq hR1) ?_ ?_⟩
    · rintro i x H' hx ⟨sm, eD⟩
      have hi : i < xs.length := (List.getElem?_eq_some_iff.mp hx).1
      obtain ⟨b', hb', hg⟩ := (hB.same (s1.trans sm)).item hx
      refine ⟨rfl, yesT (iteT ?_)⟩
      have fin : ∃ acc, H' D = some (.lst acc) ∧ acc.length < sizeLine ∧ Same H1 (upd H' D (.lst (acc ++ [V.bl b']))) ∧ (upd H' D (.lst (acc ++ [V.bl b']))) D = some (.lst ((bs.take (i + 1)).map V.bl)) := by
        refine ⟨_, eD, ?_, fun c o e => ?_, ?_⟩
        · rw [List.length_map, List.length_take]
          exact sizeLine_ge (by omega)
        · rw [upd_ne (ne_of_none e hD)]
          exact sm _ _ e
        · rw [upd_same, List.take_add_one, hb', List.map_append]
          rfl
      rcases hg with ⟨rfl, g⟩ | ⟨rfl, g⟩
      · exact ⟨_, rfl, _, rfl, _, rfl, x, t, f, rfl, .inl ⟨g, fin⟩⟩
      · exact ⟨_, rfl, _, rfl, _, rfl, x, t, f, rfl, .inr ⟨g, fin⟩⟩
    · rintro H2 ⟨s2, eD⟩
      rw [← hbl, List.take_length] at eD
      refine ⟨D, _, rfl, SqL.of eD, ?_⟩
      have s02 := s1.trans s2
      rcases hfin with ⟨hf, q⟩ | ⟨hb, ts, rs, rfl, hP, ok, q⟩
      · have ea : bs.all id = false := by
          cases hz : bs.all id with
          | false => rfl
          | true => exact absurd (List.all_eq_true.mp hz false hf) (by decide)
        rw [ea]
        exact ⟨false, rfl, iteT (q H2 s02)⟩
      have ea : bs.all id = true := by
        rw [hb, List.all_replicate]
        simp
      rw [ea]
      have hlen := hP.len
      rw [List.length_map] at hl
      have hR2 := s2.seq hR1
      refine ⟨true, rfl, iteF ?_⟩
      refine ⟨.ref R, rfl, R, rfl, ⟨_, hR2⟩, fun D2 hD2 => lc_list (K := K) (a := R) (xs := ts.map V.ref) (fun i H3 => Same H2 H3 ∧ H3 D2 = some (.lst ((rs.take i).map fun r => V.int (r.1 : Nat)))) ⟨same_upd hD2, upd_same⟩ (fun i H3 _ ⟨sm, _⟩ => sm.seq hR2) ?_ ?_⟩
      · rintro i x H3 hx ⟨sm, eD2⟩
        obtain ⟨a, r, rfl, hr, ha⟩ := hP.item hx
        have hi : i < rs.length := (List.getElem?_eq_some_iff.mp hr).1
        refine ⟨a, _, rfl, .inl (.inl (sm _ _ (s02 _ _ ha))), rfl, _, _, rfl, _, _, rfl, _, _, rfl, rfl, rfl, yesT (iteT ?_)⟩
        refine ⟨_, rfl, _, eD2, ?_, fun c o e => ?_, ?_⟩
        · rw [List.length_map, List.length_take]
          exact sizeLine_ge (by omega)
        · rw [upd_ne (ne_of_none e hD2)]
          exact sm _ _ e
        · rw [upd_same, List.take_add_one, hr, List.map_append]
          rfl
      · rintro H3 ⟨s3, eD2⟩
        rw [List.length_map, hlen, List.take_length] at eD2
        have e1 : rs.map (fun r => V.int (r.1 : Nat)) = (rs.map fun r => ((r.1 : Nat) : Int)).map V.int := by
          rw [List.map_map]
          rfl
        rw [e1] at eD2
        have nd : (rs.map fun r => ((r.1 : Nat) : Int)).Nodup ↔ (rs.map (·.1)).Nodup := by
          show (rs.map fun r => ((r.1 : Nat) : Int)).Pairwise (· ≠ ·) ↔ (rs.map (·.1)).Pairwise (· ≠ ·)
          rw [List.pairwise_map, List.pairwise_map]
          constructor
          · exact fun z => z.imp fun h e => h (congrArg Int.ofNat e)
          · exact fun z => z.imp fun h e => h (Int.ofNat.inj e)
        refine ⟨D2, _, rfl, SqL.of eD2, by rw [List.length_map]; omega, fun n h1 h2 => ⟨.ref R, rfl, R, _, rfl, .inl (s3.seq hR2), ?_⟩⟩
        refine ⟨rfl, ?_⟩
        rw [List.length_map] at h1 h2
        have z := q n (fun y => h1 (nd.mpr y)) (fun y => h2 fun y2 => y (nd.mp y2)) H3 (s02.trans s3)
        show Q (V.bl (decide (V.int (n : Nat) = V.int (((ts.map V.ref).length : Nat) : Int)))) H3
        have ed : decide (V.int (n : Nat) = V.int (((ts.map V.ref).length : Nat) : Int)) = decide (n = rs.length) := by
          rw [List.length_map, hlen]
          by_cases c : n = rs.length
          · rw [decide_eq_true c, decide_eq_true (vE c)]
          · rw [decide_eq_false c, decide_eq_false (vN c)]
        rw [ed]
        exact z
end
/-! ### the dict of live timers -/
def LiveK (H : Hp) : List (Key × V) → List Tm → Prop
  | [], [] => True
  | kv :: kvs, m :: ms => kv.1 = Sum.inl (m.num : Int) ∧ (∃ t, kv.2 = .ref t ∧ H t = some (.tup (tmV m))) ∧ LiveK H kvs ms
  | _, _ => False
theorem LiveK.frame {H H' : Hp} (s : ∀ t m, H t = some (.tup (tmV m)) → H' t = some (.tup (tmV m))) : ∀ {kvs : List (Key × V)} {ms : List Tm}, LiveK H kvs ms → LiveK H' kvs ms
  | [], [], _ => trivial
  | _ :: _, _ :: _, ⟨h1, ⟨t, h2, h3⟩, h4⟩ => ⟨h1, ⟨t, h2, s _ _ h3⟩, h4.frame s⟩
  | [], _ :: _, h => h.elim
  | _ :: _, [], h => h.elim
theorem LiveK.same {H H' : Hp} (s : Same H H') {kvs : List (Key × V)} {ms : List Tm} (h : LiveK H kvs ms) : LiveK H' kvs ms := h.frame fun _ _ e => s _ _ e
/-- a place that holds no tuple may change -/
theorem LiveK.upd {H : Hp} {l : Addr} {o o' : HO} (hl : H l = some o) (hn : ∀ xs, o ≠ .tup xs) {kvs : List (Key × V)} {ms : List Tm} (h : LiveK H kvs ms) : LiveK (upd H l o') kvs ms := h.frame fun t m e => by
  rw [upd_ne fun z => ?_]
  · exact e
  · rw [z, hl] at e
    exact hn _ (Option.some.inj e)
theorem LiveK.len {H : Hp} : ∀ {kvs : List (Key × V)} {ms : List Tm}, LiveK H kvs ms → kvs.length = ms.length
  | [], [], _ => rfl
  | _ :: _, _ :: _, h => congrArg Nat.succ h.2.2.len
  | [], _ :: _, h => h.elim
  | _ :: _, [], h => h.elim
theorem LiveK.keys {H : Hp} : ∀ {kvs : List (Key × V)} {ms : List Tm}, LiveK H kvs ms → kvs.map (·.1) = ms.map fun m => Sum.inl (m.num : Int)
  | [], [], _ => rfl
  | kv :: kvs, m :: ms, h => by
    rw [List.map_cons, List.map_cons, h.1, h.2.2.keys]
  | [], _ :: _, h => h.elim
  | _ :: _, [], h => h.elim
theorem LiveK.get {H : Hp} : ∀ {kvs : List (Key × V)} {ms : List Tm} {i : Nat} {k : Key} {v : V}, LiveK H kvs ms → kvs[i]? = some (k, v) → ∃ m t, ms[i]? = some m ∧ k = Sum.inl (m.num : Int) ∧ v = .ref t ∧ H t = some (.tup (tmV m))
  | kv :: _, m :: _, 0, k, v, ⟨h1, ⟨t, h2, h3⟩, _⟩, e => by
    cases Option.some.inj e
    exact ⟨m, t, rfl, h1, h2, h3⟩
  | _ :: _, _ :: _, i + 1, _, _, h, e => h.2.2.get (i := i) e
  | [], _, _, _, _, _, e => by simp at e
  | _ :: _, [], _, _, _, h, _ => h.elim
theorem LiveK.snoc {H : Hp} {k : Key} {t : Addr} {m : Tm} : ∀ {kvs : List (Key × V)} {ms : List Tm}, LiveK H kvs ms → k = Sum.inl (m.num : Int) → H t = some (.tup (tmV m)) → LiveK H (kvs ++ [(k, .ref t)]) (ms ++ [m])
  | [], [], _, h1, h2 => ⟨h1, ⟨t, rfl, h2⟩, trivial⟩
  | _ :: _, _ :: _, h, h1, h2 => ⟨h.1, h.2.1, h.2.2.snoc h1 h2⟩
  | [], _ :: _, h, _, _ => h.elim
  | _ :: _, [], h, _, _ => h.elim
theorem inl_num {a b : Nat} : (Sum.inl (a : Int) : Key) = Sum.inl (b : Int) ↔ a = b := ⟨fun e => Int.ofNat.inj (Sum.inl.inj e), fun e => by rw [e]⟩
theorem LiveK.drop {H : Hp} {n : Nat} : ∀ {kvs : List (Key × V)} {ms : List Tm}, LiveK H kvs ms → LiveK H (dropK kvs (Sum.inl (n : Int))) (dropT n ms)
  | [], [], _ => trivial
  | kv :: kvs, m :: ms, h => by
    by_cases e : m.num = n
    · have e1 : kv.1 = (Sum.inl (n : Int) : Key) := by rw [h.1, e]
      have e2 : dropT n (m :: ms) = dropT n ms := by
        unfold dropT
        rw [List.filter_cons, if_neg (by simp [e])]
      rw [dropK_pos e1, e2]
      exact h.2.2.drop
    · have e1 : ¬ kv.1 = (Sum.inl (n : Int) : Key) := by
        rw [h.1]
        exact fun z => e (inl_num.mp z)
      have e2 : dropT n (m :: ms) = m :: dropT n ms := by
        unfold dropT
        rw [List.filter_cons, if_pos (by simp [e])]
      rw [dropK_neg e1, e2]
      exact ⟨h.1, h.2.1, h.2.2.drop⟩
  | [], _ :: _, h => h.elim
  | _ :: _, [], h => h.elim
theorem LiveK.val {H : Hp} {n : Nat} : ∀ {kvs : List (Key × V)} {ms : List Tm}, LiveK H kvs ms → match ms.find? fun m => decide (m.num = n) with
    | none => valV kvs (Sum.inl (n : Int)) = none
    | some m => ∃ t, valV kvs (Sum.inl (n : Int)) = some (.ref t) ∧ H t = some (.tup (tmV m))
  | [], [], _ => rfl
  | kv :: kvs, m :: ms, h => by
    by_cases e : m.num = n
    · have e1 : kv.1 = (Sum.inl (n : Int) : Key) := by rw [h.1, e]
      rw [List.find?_cons_of_pos (by simpa using e), valV_pos e1]
      obtain ⟨t, h2, h3⟩ := h.2.1
      exact ⟨t, by rw [h2], h3⟩
    · have e1 : ¬ kv.1 = (Sum.inl (n : Int) : Key) := by
        rw [h.1]
        exact fun z => e (inl_num.mp z)
      rw [List.find?_cons_of_neg (by simpa using e), valV_neg e1]
      exact h.2.2.val
  | [], _ :: _, h => h.elim
  | _ :: _, [], h => h.elim
theorem find_of {ms : List Tm} {m : Tm} (nd : (ms.map (·.num)).Nodup) (h : m ∈ ms) : ms.find? (fun x => decide (x.num = m.num)) = some m := by
  induction ms with
  | nil => cases h
  | cons a r ih =>
    rw [List.map_cons, List.nodup_cons] at nd
    rcases List.mem_cons.mp h with e | h
    · rw [e]
      exact List.find?_cons_of_pos (by simp)
    · have hne : ¬ a.num = m.num := fun e => nd.1 (by rw [e]; exact List.mem_map_of_mem h)
      rw [List.find?_cons_of_neg (by simpa using hne)]
      exact ih nd.2 h
theorem LiveK.val_of {H : Hp} {kvs : List (Key × V)} {ms : List Tm} {m : Tm} (h : LiveK H kvs ms) (nd : (ms.map (·.num)).Nodup) (hm : m ∈ ms) : ∃ t, valV kvs (Sum.inl (m.num : Int)) = some (.ref t) ∧ H t = some (.tup (tmV m)) := by
  have z := h.val (n := m.num)
  rw [find_of nd hm] at z
  exact z
theorem LiveK.val_not {H : Hp} {kvs : List (Key × V)} {ms : List Tm} {n : Nat} (h : LiveK H kvs ms) (hn : ∀ m ∈ ms, m.num ≠ n) : valV kvs (Sum.inl (n : Int)) = none := by
  have z := h.val (n := n)
  rw [List.find?_eq_none.mpr (fun m hm => by simpa using hn m hm)] at z
  exact z
theorem unlock {H H1 : Hp} {l : Addr} {u : HO} {od : Obj} (h : H l = some u) (s : Same (upd H l (.frz od u)) H1) : Same H (upd H1 l u) := fun c o e => by
  by_cases z : c = l
  · rw [z] at e ⊢
    rw [upd_same]
    exact h.symm.trans e
  · rw [upd_ne z]
    exact s c o (by rw [upd_ne z]; exact e)
theorem lock_same {H : Hp} {l : Addr} {u : HO} {o' : HO} {c : Addr} {o : HO} (h : H l = some u) (e : H c = some o) (hn : u ≠ o) : upd H l o' c = some o := by
  rw [upd_ne fun z => hn (by rw [z, h] at e; exact Option.some.inj e)]
  exact e
theorem sq_lock {K : PySem.W.Frag} {H : Hp} {l q : Addr} {kvs : List (Key × V)} {o' : HO} {xs : List V} (h : H l = some (.dK kvs)) (hq : SqL K H q xs) : SqL K (upd H l o') q xs := by
  rcases hq with (e | ⟨o, e⟩) | e
  · exact .inl (.inl (lock_same h e (by intro z; cases z)))
  · exact .inl (.inr ⟨o, lock_same h e (by intro z; cases z)⟩)
  · exact .inr e
/-- a loop over d.items() -/
theorem for_items {d : Addr} {o : Obj} {kvs : List (Key × V)} {g : TG} {tb : TS} {D : Ends} {σ : L2.St} {H : Hp} (Pv : Nat → L2.St → Hp → Prop) (h0 : Pv 0 σ H) (hq : ∀ i σ H, Pv i σ H → H d = some (.frz o (.dK kvs)))
    (hs : ∀ (i : Nat) (k : Key) (v : V) (T : Addr) (σ : L2.St) (H : Hp), kvs[i]? = some (k, v) → Pv i σ H → H T = none → g (.ref T) σ (upd H T (.tup [kV k, v])) fun σ2 H2 => tb { D with nx := Pv (i + 1), ct := Pv (i + 1), bk := D.nx } σ2 H2) (hd : ∀ σ H, Pv kvs.length σ H → D.nx σ H) :
    ∃ W : Nat → Nat → L2.St → Hp → Prop, (∃ m, W 0 m σ H) ∧ ∀ i m σ H, W i m σ H →
      ((Iti d o kvs).stop i H ∧ D.nx σ H) ∨ ((Iti d o kvs).go i H ∧ ∃ N : L2.St → Hp → Prop, (∀ σ' H', N σ' H' → ∃ m', m' < m ∧ W (i + 1) m' σ' H') ∧ ∀ v H', (Iti d o kvs).yld i H v H' → g v σ H' fun σ2 H2 => tb { D with nx := N, ct := N, bk := D.nx } σ2 H2) := by
  refine ⟨fun i m σ H => m = kvs.length - i ∧ i ≤ kvs.length ∧ Pv i σ H, ⟨kvs.length, rfl, Nat.zero_le _, h0⟩, ?_⟩
  rintro i m σ H ⟨rfl, hi, p⟩
  have qx := hq i σ H p
  by_cases hlt : i < kvs.length
  · refine .inr ⟨⟨qx, hlt⟩, Pv (i + 1), fun σ' H' p' => ⟨kvs.length - (i + 1), by omega, rfl, hlt, p'⟩, fun x H' y => ?_⟩
    obtain ⟨T, k, v, e, rfl, nT, rfl⟩ := y
    exact hs i k v T σ H e p nT
  · have e : i = kvs.length := by omega
    subst e
    exact .inl ⟨⟨qx, Nat.le_refl _⟩, hd σ H p⟩
/-- a loop over d.values() -/
theorem for_values {d : Addr} {o : Obj} {kvs : List (Key × V)} {g : TG} {tb : TS} {D : Ends} {σ : L2.St} {H : Hp} (Pv : Nat → L2.St → Hp → Prop) (h0 : Pv 0 σ H) (hq : ∀ i σ H, Pv i σ H → H d = some (.frz o (.dK kvs)))
    (hs : ∀ (i : Nat) (k : Key) (v : V) (σ : L2.St) (H : Hp), kvs[i]? = some (k, v) → Pv i σ H → g v σ H fun σ2 H2 => tb { D with nx := Pv (i + 1), ct := Pv (i + 1), bk := D.nx } σ2 H2) (hd : ∀ σ H, Pv kvs.length σ H → D.nx σ H) :
    ∃ W : Nat → Nat → L2.St → Hp → Prop, (∃ m, W 0 m σ H) ∧ ∀ i m σ H, W i m σ H →
      ((Itd d o kvs).stop i H ∧ D.nx σ H) ∨ ((Itd d o kvs).go i H ∧ ∃ N : L2.St → Hp → Prop, (∀ σ' H', N σ' H' → ∃ m', m' < m ∧ W (i + 1) m' σ' H') ∧ ∀ v H', (Itd d o kvs).yld i H v H' → g v σ H' fun σ2 H2 => tb { D with nx := N, ct := N, bk := D.nx } σ2 H2) := by
  refine ⟨fun i m σ H => m = kvs.length - i ∧ i ≤ kvs.length ∧ Pv i σ H, ⟨kvs.length, rfl, Nat.zero_le _, h0⟩, ?_⟩
  rintro i m σ H ⟨rfl, hi, p⟩
  have qx := hq i σ H p
  by_cases hlt : i < kvs.length
  · refine .inr ⟨⟨qx, hlt⟩, Pv (i + 1), fun σ' H' p' => ⟨kvs.length - (i + 1), by omega, rfl, hlt, p'⟩, fun x H' y => ?_⟩
    obtain ⟨rfl, k, e⟩ := y
    exact hs i k x σ H' e p
  · have e : i = kvs.length := by omega
    subst e
    exact .inl ⟨⟨qx, Nat.le_refl _⟩, hd σ H p⟩
/-- a comprehension over d.values() -/
theorem lc_values {d : Addr} {o : Obj} {kvs : List (Key × V)} {g : TG} {tt : TT} {te : TE} {vs : List Nat} {σ : L2.St} {H1 : Hp} {D : Addr} {Qd : Hp → Prop} (Pv : Nat → Hp → Prop) (h0 : Pv 0 (upd H1 D (.lst []))) (hq : ∀ i H, Pv i H → H d = some (.frz o (.dK kvs)))
    (hs : ∀ i k x H, kvs[i]? = some (k, x) → Pv i H → g x (wipe σ vs) H fun σ2 H2 => wipe σ2 vs = wipe σ vs ∧ tt σ2 H2 fun b H3 =>
      if b = true then te σ2 H3 fun y H4 => ∃ acc, H4 D = some (.lst acc) ∧ acc.length < sizeLine ∧ Pv (i + 1) (upd H4 D (.lst (acc ++ [y]))) else Pv (i + 1) H3) (hd : ∀ H, Pv kvs.length H → Qd H) :
    ∃ W : Nat → Nat → Hp → Prop, (∃ m, W 0 m (upd H1 D (.lst []))) ∧ ∀ i m H, W i m H →
      ((Itd d o kvs).stop i H ∧ Qd H) ∨ ((Itd d o kvs).go i H ∧ ∃ Nx : Hp → Prop, (∀ H', Nx H' → ∃ m', m' < m ∧ W (i + 1) m' H') ∧ ∀ x H', (Itd d o kvs).yld i H x H' → g x (wipe σ vs) H' fun σ2 H2 => wipe σ2 vs = wipe σ vs ∧ tt σ2 H2 fun b H3 =>
        if b = true then te σ2 H3 fun y H4 => ∃ acc, H4 D = some (.lst acc) ∧ acc.length < sizeLine ∧ Nx (upd H4 D (.lst (acc ++ [y]))) else Nx H3) := by
  refine ⟨fun i m H => m = kvs.length - i ∧ i ≤ kvs.length ∧ Pv i H, ⟨kvs.length, rfl, Nat.zero_le _, h0⟩, ?_⟩
  rintro i m H ⟨rfl, hi, p⟩
  have qx := hq i H p
  by_cases hlt : i < kvs.length
  · refine .inr ⟨⟨qx, hlt⟩, Pv (i + 1), fun H' p' => ⟨kvs.length - (i + 1), by omega, rfl, hlt, p'⟩, fun x H' y => ?_⟩
    obtain ⟨rfl, k, e⟩ := y
    exact hs i k x H' e p
  · have e : i = kvs.length := by omega
    subst e
    exact .inl ⟨⟨qx, Nat.le_refl _⟩, hd H p⟩
/-! ### a wheel in the heap -/
def wfl (b : Nat) (q : Addr) (t f : Nat) (l : Addr) : List (Str × V) := [("base", .int (b : Nat)), ("words", .ref q), ("tick", .int (t : Nat)), ("following", .int (f : Nat)), ("live", .ref l)]
theorem ne_bw : ¬ (("base" : Str) = "words") := by decide +kernel
theorem ne_bt : ¬ (("base" : Str) = "tick") := by decide +kernel
theorem ne_bf : ¬ (("base" : Str) = "following") := by decide +kernel
theorem ne_bl : ¬ (("base" : Str) = "live") := by decide +kernel
theorem ne_wt : ¬ (("words" : Str) = "tick") := by decide +kernel
theorem ne_wf : ¬ (("words" : Str) = "following") := by decide +kernel
theorem ne_wl : ¬ (("words" : Str) = "live") := by decide +kernel
theorem ne_tf : ¬ (("tick" : Str) = "following") := by decide +kernel
theorem ne_tl : ¬ (("tick" : Str) = "live") := by decide +kernel
theorem ne_fl : ¬ (("following" : Str) = "live") := by decide +kernel
theorem lk_hit {k : Str} {v : V} {r : List (Str × V)} : List.lookup k ((k, v) :: r) = some v := by simp [List.lookup]
theorem lk_miss {k g : Str} {v : V} {r : List (Str × V)} (h : ¬ g = k) : List.lookup k ((g, v) :: r) = List.lookup k r := by
  have e : (k == g) = false := by simpa using fun z : k = g => h z.symm
  rw [List.lookup, e]
theorem pt_hit {k : Str} {v x : V} {r : List (Str × V)} : putF k v ((k, x) :: r) = (k, v) :: r := if_pos rfl
theorem pt_miss {k g : Str} {v x : V} {r : List (Str × V)} (h : ¬ g = k) : putF k v ((g, x) :: r) = (g, x) :: putF k v r := if_neg h
theorem pt_nil {k : Str} {v : V} : putF k v [] = [(k, v)] := rfl
section
variable {b : Nat} {q : Addr} {t f : Nat} {l : Addr}
theorem wf_b : (wfl b q t f l).lookup ("base" : Str) = some (.int (b : Nat)) := lk_hit
theorem wf_w : (wfl b q t f l).lookup ("words" : Str) = some (.ref q) := (lk_miss ne_bw).trans lk_hit
theorem wf_t : (wfl b q t f l).lookup ("tick" : Str) = some (.int (t : Nat)) := (lk_miss ne_bt).trans ((lk_miss ne_wt).trans lk_hit)
theorem wf_f : (wfl b q t f l).lookup ("following" : Str) = some (.int (f : Nat)) := (lk_miss ne_bf).trans ((lk_miss ne_wf).trans ((lk_miss ne_tf).trans lk_hit))
theorem wf_l : (wfl b q t f l).lookup ("live" : Str) = some (.ref l) := (lk_miss ne_bl).trans ((lk_miss ne_wl).trans ((lk_miss ne_tl).trans ((lk_miss ne_fl).trans lk_hit)))
theorem wf_no {m : Str} (h1 : ¬ ("base" : Str) = m) (h2 : ¬ ("words" : Str) = m) (h3 : ¬ ("tick" : Str) = m) (h4 : ¬ ("following" : Str) = m) (h5 : ¬ ("live" : Str) = m) : (wfl b q t f l).lookup m = none :=
  (lk_miss h1).trans ((lk_miss h2).trans ((lk_miss h3).trans ((lk_miss h4).trans ((lk_miss h5).trans rfl))))
theorem wf_pt {t' : Nat} : putF "tick" (.int (t' : Nat)) (wfl b q t f l) = wfl b q t' f l := by
  unfold wfl
  rw [pt_miss ne_bt, pt_miss ne_wt, pt_hit]
theorem wf_pf {f' : Nat} : putF "following" (.int (f' : Nat)) (wfl b q t f l) = wfl b q t f' l := by
  unfold wfl
  rw [pt_miss ne_bf, pt_miss ne_wf, pt_miss ne_tf, pt_hit]
theorem wf_pl {l' : Addr} : putF "live" (.ref l') (wfl b q t f l) = wfl b q t f l' := by
  unfold wfl
  rw [pt_miss ne_bl, pt_miss ne_wl, pt_miss ne_tl, pt_miss ne_fl, pt_hit]
end
structure WheelAt (C : Addr) (H : Hp) (p q l : Addr) (W : WS) : Prop where
  ins : ∃ dx, H p = some (.ins C dx (wfl W.b q W.tick W.fol l))
  words : H q = some (.lst (W.ws.map lvV))
  live : ∃ kvs, H l = some (.dK kvs) ∧ LiveK H kvs W.live
/-- all but the wheel (its object p, its dict l) stands as it was; its dict is the old one or a new one -/
structure Wk (p l : Addr) (H H' : Hp) (l' : Addr) : Prop where
  keep : ∀ c o, c ≠ p → c ≠ l → H c = some o → H' c = some o
  new : l' = l ∨ H l' = none
theorem WheelAt.same {C : Addr} {H H' : Hp} {p q l : Addr} {W : WS} (s : Same H H') (w : WheelAt C H p q l W) : WheelAt C H' p q l W := by
  obtain ⟨dx, h⟩ := w.ins
  obtain ⟨kvs, h2, L⟩ := w.live
  exact ⟨⟨dx, s _ _ h⟩, s _ _ w.words, ⟨kvs, s _ _ h2, L.same s⟩⟩
theorem WheelAt.frame {C : Addr} {H H' : Hp} {p q l a : Addr} {W : WS} {xs : List V} (w : WheelAt C H p q l W) (ha : H a = some (.lst xs)) (hq : a ≠ q) (s : ∀ c o, c ≠ a → H c = some o → H' c = some o) : WheelAt C H' p q l W := by
  obtain ⟨dx, h⟩ := w.ins
  obtain ⟨kvs, h2, L⟩ := w.live
  refine ⟨⟨dx, s _ _ (ne_of h ha (by intro z; cases z)) h⟩, s _ _ (Ne.symm hq) w.words, ⟨kvs, s _ _ (ne_of h2 ha (by intro z; cases z)) h2, L.frame fun t m e => s _ _ (ne_of e ha (by intro z; cases z)) e⟩⟩
structure TxW (K : PySem.W.Frag) (mg : Str → Option Value) (C : Addr) : Prop where
  cl : Cls K C
  nB : NoAttr K C "base"
  nW : NoAttr K C "words"
  nT : NoAttr K C "tick"
  nF : NoAttr K C "following"
  nL : NoAttr K C "live"
  mgC : mg "Wheel" = some (.ref C)
section
variable {P : Program} {w : World} {K : PySem.W.Frag} {mg : Str → Option Value} {base : Heap}
/-- a method that keeps its promise -/
def HasM (P : Program) (w : World) (K : PySem.W.Frag) (mg : Str → Option Value) (base : Heap) (k : Nat) (C : Addr) (m : Str) (ps : List Str) (dvs : List V) (sp : Sp) : Prop :=
  ∃ (f : Addr) (fd : FuncData) (ds : List Value), FnOk P w K mg base CX0 k f fd ps sp ∧ Meth K C m f ∧ Binds K fd ps ds ∧ Vals dvs ds
end
section
variable {P : Program} {w : World} {K : PySem.W.Frag} {mg : Str → Option Value} {base : Heap}
def trimN (ws : List Bool) : Nat → Nat
  | 0 => 0
  | n + 1 => if 1 ≤ n ∧ ws[n]? = ws[n - 1]? then trimN ws n else n + 1
def trimW (ws : List Bool) : List Bool := ws.take (trimN ws ws.length)
theorem trimN_le (ws : List Bool) : ∀ n, trimN ws n ≤ n
  | 0 => Nat.le_refl _
  | n + 1 => by
    unfold trimN
    split
    · exact Nat.le_succ_of_le (trimN_le ws n)
    · exact Nat.le_refl _
theorem trimN_pos (ws : List Bool) : ∀ n, 1 ≤ n → 1 ≤ trimN ws n
  | 0, h => h
  | n + 1, _ => by
    unfold trimN
    split
    · rename_i h
      exact trimN_pos ws n h.1
    · omega
theorem trim_ne {ws : List Bool} (h : ws ≠ []) : trimW ws ≠ [] := by
  have hp : 0 < ws.length := List.length_pos_iff.mpr h
  have z := trimN_pos ws ws.length hp
  intro e
  have e2 := congrArg List.length e
  unfold trimW at e2
  rw [List.length_take] at e2
  have e3 : ([] : List Bool).length = 0 := rfl
  omega
theorem trim_len (ws : List Bool) : (trimW ws).length ≤ ws.length := by
  unfold trimW
  rw [List.length_take]
  omega
def spRepeats (K : PySem.W.Frag) : Sp := fun vs H Q _ => ∃ (q : Addr) (ws : List Bool), vs = [.ref q] ∧ SqL K H q (ws.map lvV) ∧ ws ≠ [] ∧ ws.length ≤ 60 ∧ ∀ H' p, Same H H' → H p = none → H' p = some (.lst ((trimW ws).map lvV)) → Q (.ref p) H'
theorem lv_inj {a b : Bool} : lvV a = lvV b ↔ a = b := by
  cases a <;> cases b <;> decide
theorem ok_repeats {f : Addr} {fd : FuncData} (F : Fun K "without_repeats" "without_repeats" s_without_repeats f fd) (T : Tx K mg) : FnOk P w K mg base CX0 1 f fd ["levels"] (spRepeats K) := by
  refine F.ok sc_without_repeats (fun vs H Q E h => ?_) (fun cdv A outer s H vs Q E hr h => ?_)
  · obtain ⟨q, ws, rfl, _⟩ := h
    rfl
  · obtain ⟨q, ws, rfl, hL, hne, h60, c⟩ := h
    refine ⟨_, (pss_cons (ps_set (i := 1) sc_without_repeats.nd rfl (.inl rfl) (pe_callB (lenK (K := K) rfl) (by rfl) T.b_len PySem.boot_len (pa_cons (pv 0) pa_nil)))
      (pss_cons (ps_while PassesOwn.never (PW.pt (pw_and (pt_cmpR op_gt (pv 1) pe_int (nomark _)) (pw_and1 (pt_cmpR op_eq (pe_ix (ix_listK (K := K) rfl) (pv 0) (pe_op op_subN (pv 1) pe_int) (fun _ _ => rfl)) (pe_ix (ix_listK (K := K) rfl) (pv 0) (pe_op op_subN (pv 1) pe_int) (fun _ _ => rfl)) (nomark _)))))
        (pss_one (ps_aug (i := 1) sc_without_repeats.nd rfl (.inl rfl) pe_int ip_sub)))
      (pss_one (ps_ret (pe_slice (sl_listK (K := K) rfl) (pv 0) po_none (po_some (pv 1))))))), ?_⟩
    refine ⟨.ref q, rfl, q, _, rfl, .inl hL, ?_⟩
    refine while_by (fun σ H' => ∃ n : Nat, σ = [some (.ref q), some (.int (n : Nat))] ∧ H' = H ∧ 1 ≤ n ∧ n ≤ ws.length ∧ trimN ws ws.length = trimN ws n) (fun σ _ => slotInt σ 1) ⟨ws.length, by rw [List.length_map]; rfl, rfl, List.length_pos_iff.mpr hne, Nat.le_refl _, rfl⟩ ?_ ?_
    · rintro σ H' ⟨n, rfl, rfl, h1, hn, et⟩
      have fin : n = trimN ws n → tRet (tSl (rSlL K) (tVar 0) tNoPart (tPart (tVar 1))) { nx := fun _ H' => Q .non H', rt := Q } [some (.ref q), some (.int (n : Nat))] H' := fun e => by
        refine ⟨_, rfl, _, rfl, _, rfl, q, _, rfl, hL, fun p hp => ?_⟩
        refine c _ p (same_upd hp) hp ?_
        rw [upd_same]
        have ec : cutV (ws.map lvV) none (some ((n : Nat) : Int)) = (trimW ws).map lvV := by
          unfold trimW cutV
          rw [HT.sIx_none, HT.sIx_nat, List.drop_zero, Nat.sub_zero, List.length_map, Nat.min_eq_left hn, List.map_take, et, ← e]
        rw [ec]
      obtain ⟨n, rfl⟩ : ∃ n', n = n' + 1 := ⟨n - 1, by omega⟩
      by_cases h2 : 1 < n + 1
      · have g1 : (ws.map lvV)[n]? = some (lvV (ws[n]'(by omega))) := by
          rw [List.getElem?_map, List.getElem?_eq_getElem]
          rfl
        have g2 : (ws.map lvV)[n - 1]? = some (lvV (ws[n - 1]'(by omega))) := by
          rw [List.getElem?_map, List.getElem?_eq_getElem]
          rfl
        refine ⟨_, rfl, _, _, rfl, rfl, true, dT (by omega), iteT ?_⟩
        refine ⟨_, rfl, _, rfl, n + 1, 1, rfl, rfl, Nat.le_add_left 1 n, q, _, _, _, rfl, rfl, hL, atI_nat (j := n) g1, _, rfl, _, rfl, n + 1, 2, rfl, rfl, (by show 2 ≤ n + 1; omega), q, _, _, _, rfl, rfl, hL, atI_nat (j := n - 1) g2, ?_, ?_⟩
        · cases ws[n]'(by omega) <;> cases ws[n - 1]'(by omega) <;> rfl
        · by_cases e : ws[n]'(by omega) = ws[n - 1]'(by omega)
          · have et2 : trimN ws (n + 1) = trimN ws n := by
              rw [trimN, if_pos]
              refine ⟨by omega, ?_⟩
              rw [List.getElem?_eq_getElem (by omega : n < ws.length), List.getElem?_eq_getElem (by omega : n - 1 < ws.length), e]
            refine ⟨true, dT (lv_inj.mpr e), iteT ⟨_, rfl, _, _, rfl, rfl, ⟨n, ?_, rfl, by omega, by omega, by rw [et, et2]⟩, ?_⟩⟩
            · show [some (V.ref q), some (V.int (((n + 1 : Nat) : Int) - 1))] = _
              rw [show ((n + 1 : Nat) : Int) - 1 = (n : Int) by omega]
            · show (((n + 1 : Nat) : Int) - 1).toNat < (((n + 1 : Nat) : Int)).toNat
              omega
          · refine ⟨false, dF (fun z => e (lv_inj.mp z)), iteF ?_⟩
            refine fin ?_
            rw [trimN, if_neg]
            rintro ⟨_, z⟩
            rw [List.getElem?_eq_getElem (by omega : n < ws.length), List.getElem?_eq_getElem (by omega : n - 1 < ws.length)] at z
            exact e (Option.some.inj z)
      · refine ⟨_, rfl, _, _, rfl, rfl, false, dF (by omega), iteF (iteF ?_)⟩
        refine fin ?_
        rw [trimN, if_neg]
        rintro ⟨z, _⟩
        omega
    · rintro σ H' Q1 Q2 h ⟨x, hx, i, j, e1, e2, k, e, z⟩
      refine ⟨x, hx, i, j, e1, e2, k, e, ?_⟩
      cases k with
      | false => exact iteF (h _ _ (by rw [if_neg Bool.false_ne_true] at z; exact z))
      | true =>
        rw [if_pos rfl] at z
        refine iteT ?_
        obtain ⟨x1, hx1, x2, hx2, a1, b1, e3, e4, c1, p1, i1, j1, v1, e5, e6, hs1, g1, y1, hy1, y2, hy2, a2, b2, e7, e8, c2, p2, i2, j2, v2, e9, e10, hs2, g2, hsc, k', ek, zz⟩ := z
        exact ⟨x1, hx1, x2, hx2, a1, b1, e3, e4, c1, p1, i1, j1, v1, e5, e6, hs1, g1, y1, hy1, y2, hy2, a2, b2, e7, e8, c2, p2, i2, j2, v2, e9, e10, hs2, g2, hsc, k', ek, h _ _ zz⟩
def spInit (C : Addr) (K : PySem.W.Frag) : Sp := fun vs H Q _ => ∃ (p dx q0 : Addr) (b t : Nat) (ws : List Bool), vs = [.ref p, .int (b : Nat), .ref q0, .int (t : Nat)] ∧ H p = some (.ins C dx []) ∧ SqL K H q0 (ws.map lvV) ∧ 2 ≤ b ∧ b ≤ 64 ∧ ws ≠ [] ∧ ws.length ≤ 60 ∧
  ∀ H' q l, (∀ c o, c ≠ p → H c = some o → H' c = some o) → H q = none → H l = none → WheelAt C H' p q l ⟨b, trimW ws, t, 0, []⟩ → Q .non H'
theorem ok_init {f C : Addr} {fd : FuncData} (F : FunD K "__init__" "Wheel.__init__" (defArgs s_Wheel___init__) (defBody s_Wheel___init__) (defScope s_Wheel___init__) [] [("start", .int 0)] f fd) (TW : TxW K mg C) (h1 : Has P w K mg base 3 "check_base" ["base"] [] spCheckBase)
    (h2 : Has P w K mg base 3 "check_tick" ["tick", "least"] [.int 0] spCheckTick) (h4 : Has P w K mg base 4 "check_levels" ["levels"] [] (spCheckLevels K)) (h5 : Has P w K mg base 1 "without_repeats" ["levels"] [] (spRepeats K)) :
    FnOk P w K mg base CX0 5 f fd ["self", "base", "levels", "start"] (spInit C K) := by
  obtain ⟨f_check_base, fd_check_base, ds_check_base, G_check_base, m_check_base, k_check_base, b_check_base, v_check_base⟩ := h1
  obtain ⟨f_check_tick1, fd_check_tick1, ds_check_tick1, G_check_tick1, m_check_tick1, k_check_tick1, b_check_tick1, v_check_tick1⟩ := h2
  obtain ⟨f_check_levels, fd_check_levels, ds_check_levels, G_check_levels, m_check_levels, k_check_levels, b_check_levels, v_check_levels⟩ := h4
  obtain ⟨f_without_repeats, fd_without_repeats, ds_without_repeats, G_without_repeats, m_without_repeats, k_without_repeats, b_without_repeats, v_without_repeats⟩ := h5
  refine F.ok sc_Wheel___init__ (fun vs H Q E h => ?_) (fun cdv A outer s H vs Q E hr h => ?_)
  · obtain ⟨p, dx, q0, b, t, ws, rfl, _⟩ := h
    rfl
  · obtain ⟨p, dx, q0, b, t, ws, rfl, hp, hL, hb, hb64, hne, h60, c⟩ := h
    refine ⟨_, PSs.nox (pss_cons (ps_expr (pe_call G_check_base (hr.mono (by decide)) (by rfl) m_check_base k_check_base b_check_base v_check_base pass0 (pa_cons (pv 1) pa_nil)))
      (pss_cons (ps_expr (pe_call G_check_levels hr (by rfl) m_check_levels k_check_levels b_check_levels v_check_levels pass0 (pa_cons (pv 2) pa_nil)))
      (pss_cons (ps_expr (pe_call G_check_tick1 (hr.mono (by decide)) (by rfl) m_check_tick1 k_check_tick1 b_check_tick1 v_check_tick1 pass0 (pa_cons (pv 3) pa_nil)))
      (pss_cons (ps_fld (pv 0) (pv 1) rfl)
      (pss_cons (ps_fld (pv 0) (pe_call G_without_repeats (hr.mono (by decide)) (by rfl) m_without_repeats k_without_repeats b_without_repeats v_without_repeats pass0 (pa_cons (pv 2) pa_nil)) rfl)
      (pss_cons (ps_fld (pv 0) (pv 3) rfl)
      (pss_cons (ps_fld (pv 0) pe_int rfl)
      (pss_one (ps_fld (pv 0) pe_dnewK rfl))))))))), ?_⟩
    refine ⟨_, rfl, b, rfl, by omega, by omega, ?_⟩
    refine ⟨_, rfl, q0, ws, rfl, hL, hne, h60, fun H1 s1 => ?_⟩
    refine ⟨_, rfl, t, 0, rfl, by omega, ?_⟩
    have hp1 := s1 _ _ hp
    refine ⟨_, rfl, _, rfl, p, C, dx, [], rfl, hp1, TW.cl, TW.nB, by simp, ?_⟩
    have k2 : ∀ c o, c ≠ p → H c = some o → (upd H1 p (.ins C dx (putF "base" (.int (b : Nat)) []))) c = some o := fun c o n e => by
      rw [upd_ne n]
      exact s1 _ _ e
    have hL2 : SqL K (upd H1 p (.ins C dx (putF "base" (.int (b : Nat)) []))) q0 (ws.map lvV) := by
      rcases s1.seq hL with (e | ⟨o, e⟩) | e
      · exact .inl (.inl (by rw [upd_ne (ne_of e hp1 (by intro z; cases z))]; exact e))
      · exact .inl (.inr ⟨o, by rw [upd_ne (ne_of e hp1 (by intro z; cases z))]; exact e⟩)
      · exact .inr e
    refine ⟨_, rfl, q0, ws, rfl, hL2, hne, h60, fun H3 q s3 hq0 hq3 => ?_⟩
    have hp3 := s3 _ _ (upd_same (H := H1) (a := p))
    have nqp : q ≠ p := fun e => by
      rw [e, upd_same] at hq0
      cases hq0
    have k3 : ∀ c o, c ≠ p → H c = some o → H3 c = some o := fun c o n e => s3 _ _ (k2 c o n e)
    have hqn : H q = none := by
      cases e : H q with
      | none => rfl
      | some o =>
        rw [k2 q o nqp e] at hq0
        cases hq0
    refine ⟨_, rfl, p, C, dx, _, rfl, hp3, TW.cl, TW.nW, by rw [pt_nil]; simp, ?_⟩
    refine ⟨_, rfl, _, rfl, p, C, dx, _, rfl, upd_same, TW.cl, TW.nT, by rw [pt_nil, pt_miss ne_bw, pt_nil]; simp, ?_⟩
    refine ⟨_, rfl, p, C, dx, _, rfl, upd_same, TW.cl, TW.nF, by rw [pt_nil, pt_miss ne_bw, pt_nil, pt_miss ne_bt, pt_miss ne_wt, pt_nil]; simp, ?_⟩
    refine fun l hl => ⟨_, rfl, p, C, dx, putF "following" (.int 0) (putF "tick" (.int (t : Nat)) (putF "words" (.ref q) (putF "base" (.int (b : Nat)) []))), rfl, ?_, TW.cl, TW.nL, by rw [pt_nil, pt_miss ne_bw, pt_nil, pt_miss ne_bt, pt_miss ne_wt, pt_nil, pt_miss ne_bf, pt_miss ne_wf, pt_miss ne_tf, pt_nil]; simp, ?_⟩
    · have nlp : p ≠ l := fun e => by
        rw [← e, upd_same] at hl
        cases hl
      rw [upd_ne nlp, upd_same]
    have nlp : l ≠ p := fun e => by
      rw [e, upd_same] at hl
      cases hl
    rw [upd_ne nlp, upd_ne nlp, upd_ne nlp] at hl
    have nlq : l ≠ q := fun e => by
      rw [e, hq3] at hl
      cases hl
    have hln : H l = none := by
      cases e : H l with
      | none => rfl
      | some o =>
        rw [k3 l o nlp e] at hl
        cases hl
    refine c _ q l (fun c o n e => ?_) hqn hln ⟨⟨dx, ?_⟩, ?_, ⟨[], ?_, trivial⟩⟩
    · rw [upd_ne n, upd_ne (fun z => by rw [z, hln] at e; cases e), upd_ne n, upd_ne n, upd_ne n]
      exact k3 c o n e
    · rw [upd_same, pt_nil, pt_miss ne_bw, pt_nil, pt_miss ne_bt, pt_miss ne_wt, pt_nil, pt_miss ne_bf, pt_miss ne_wf, pt_miss ne_tf, pt_nil, pt_miss ne_bl, pt_miss ne_wl, pt_miss ne_tl, pt_miss ne_fl, pt_nil]
      rfl
    · rw [upd_ne nqp, upd_ne (Ne.symm nlq), upd_ne nqp, upd_ne nqp, upd_ne nqp]
      exact hq3
    · rw [upd_ne nlp, upd_same]
end
section
variable {P : Program} {w : World} {K : PySem.W.Frag} {mg : Str → Option Value} {base : Heap}
def HasInit (P : Program) (w : World) (K : PySem.W.Frag) (mg : Str → Option Value) (base : Heap) (k : Nat) (C : Addr) : Prop :=
  ∃ (fi : Addr) (fdi : FuncData), Mk K C fi ∧ FnOk P w K mg base CX0 k fi fdi ["self", "base", "levels", "start"] (spInit C K) ∧ KBn K fdi ["self", "base", "levels", "start"] 3 [Str.ofString "start"] (fun us ws => us ++ ws) (fun vs zs => vs ++ zs)
end
/-! ### a dict comprehension over a list that stays -/
theorem dc_list {K : PySem.W.Frag} {a : Addr} {xs : List V} {g : TG} {tt : TT} {tk tv : TE} {vs : List Nat} {σ : L2.St} {H1 : Hp} {D : Addr} {Qd : Hp → Prop} (Pv : Nat → Hp → Prop) (h0 : Pv 0 (upd H1 D (.dK []))) (hl : ∀ i H, i ≤ xs.length → Pv i H → SqL K H a xs)
    (hs : ∀ i x H, xs[i]? = some x → Pv i H → g x (wipe σ vs) H fun σ2 H2 => wipe σ2 vs = wipe σ vs ∧ tt σ2 H2 fun b H3 =>
      if b = true then tk σ2 H3 fun y H4 => tv σ2 H4 fun z H5 => ∃ kvs k, y = kV k ∧ H5 D = some (.dK kvs) ∧ kvs.length < sizeLine ∧ Pv (i + 1) (upd H5 D (.dK (putK kvs k z))) else Pv (i + 1) H3) (hd : ∀ H, Pv xs.length H → Qd H) :
    ∃ W : Nat → Nat → Hp → Prop, (∃ m, W 0 m (upd H1 D (.dK []))) ∧ ∀ i m H, W i m H →
      ((Itl K a).stop i H ∧ Qd H) ∨ ((Itl K a).go i H ∧ ∃ Nx : Hp → Prop, (∀ H', Nx H' → ∃ m', m' < m ∧ W (i + 1) m' H') ∧ ∀ x H', (Itl K a).yld i H x H' → g x (wipe σ vs) H' fun σ2 H2 => wipe σ2 vs = wipe σ vs ∧ tt σ2 H2 fun b H3 =>
        if b = true then tk σ2 H3 fun y H4 => tv σ2 H4 fun z H5 => ∃ kvs k, y = kV k ∧ H5 D = some (.dK kvs) ∧ kvs.length < sizeLine ∧ Nx (upd H5 D (.dK (putK kvs k z))) else Nx H3) := by
  refine ⟨fun i m H => m = xs.length - i ∧ i ≤ xs.length ∧ Pv i H, ⟨xs.length, by simp, Nat.zero_le _, h0⟩, ?_⟩
  rintro i m H ⟨rfl, hi, p⟩
  have q := hl i H hi p
  by_cases hlt : i < xs.length
  · refine .inr ⟨⟨xs, xs[i], q, by simp [hlt]⟩, Pv (i + 1), fun H' p' => ⟨xs.length - (i + 1), by omega, rfl, hlt, p'⟩, fun x H' y => ?_⟩
    obtain ⟨e, y⟩ := y
    subst e
    exact hs i x _ (y xs q) p
  · have e : i = xs.length := by omega
    subst e
    exact .inl ⟨⟨xs, q, Nat.le_refl _⟩, hd H p⟩
/-! ### restored, of any value -/
section
variable {P : Program} {w : World} {K : PySem.W.Frag} {mg : Str → Option Value} {base : Heap}
def rowT (t : Nat) (r : RowP) : Tm := ⟨r.1, r.2.1, r.2.2, t⟩
def spRestoredX (C : Addr) (K : PySem.W.Frag) (CN : Addr) : Sp := fun vs H Q E => ∃ x : V, vs = [x] ∧ ((∃ (u : Addr) (b : Nat) (ws : List Bool) (t f : Nat) (rs : List RowP), x = .ref u ∧ SnapAt K H u b ws t f rs ∧ SnapOk b ws t f rs ∧
  ∀ H' p q l, Same H H' → H p = none → H q = none → H l = none → WheelAt C H' p q l ⟨b, trimW ws, t, f, rs.map (rowT t)⟩ → Q (.ref p) H') ∨ (BadSnap K H x ∧ ∀ H', Same H H' → E (.ref CN) none H'))
theorem okX_restored {f C c_NoSnapshot : Addr} {fd : FuncData} (F : Fun K "restored" "restored" s_restored f fd) (TW : TxW K mg C) (X_NoSnapshot : EC K mg "NoSnapshot" c_NoSnapshot) (hI : HasInit P w K mg base 5 C) (h1 : Has P w K mg base 4 "is_snapshot" ["given"] [] (spIsSnapX K)) : FnOk P w K mg base (L2.CX P w) 7 f fd ["snapshot"] (spRestoredX C K c_NoSnapshot) := by
  obtain ⟨fi, fdi, M_Wheel, G_Wheel_init, b_Wheel_init⟩ := hI
  have c_Wheel := TW.mgC
  have cl_Wheel := TW.cl
  obtain ⟨f_is_snapshot, fd_is_snapshot, ds_is_snapshot, G_is_snapshot, m_is_snapshot, k_is_snapshot, b_is_snapshot, v_is_snapshot⟩ := h1
  refine F.okX sc_restored (fun vs H Q E h => ?_) (fun cdv A outer s H vs Q E hr h => ?_)
  · obtain ⟨x, rfl, _⟩ := h
    rfl
  · obtain ⟨x, rfl, h⟩ := h
    refine ⟨_, (pss_cons (ps_if (pt_not (pt_val (pe_call G_is_snapshot (hr.mono (by decide)) (by rfl) m_is_snapshot k_is_snapshot b_is_snapshot v_is_snapshot pass0 (pa_cons (pv 0) pa_nil))))
        (pss_one (ps_raise rfl (takes_of rfl rfl rfl rfl) (pmk_own PySem.F.excBase_ValueError X_NoSnapshot.x X_NoSnapshot.g X_NoSnapshot.k (raises_own X_NoSnapshot.b X_NoSnapshot.t) rfl)))
        pss_nil)
      (pss_cons (ps_asg (pv 0) (pg_tupK (K := K) (n := 5) rfl rfl (pgs_cons (pg_name (i := 1) sc_restored.nd rfl (.inl rfl)) (pgs_cons (pg_name (i := 2) sc_restored.nd rfl (.inl rfl)) (pgs_cons (pg_name (i := 3) sc_restored.nd rfl (.inr rfl)) (pgs_cons (pg_name (i := 4) sc_restored.nd rfl (.inl rfl)) (pgs_cons (pg_name (i := 5) sc_restored.nd rfl (.inl rfl)) pgs_nil)))))))
      (pss_cons (ps_set (i := 6) sc_restored.nd rfl (.inl rfl) (pe_makeK M_Wheel G_Wheel_init hr (by rfl) c_Wheel b_Wheel_init pass0 (pa_cons (pv 1) (pa_cons (pv 2) pa_nil)) (pk_cons (pv 3) pk_nil)))
      (pss_cons (ps_fld (pv 6) (pv 4) rfl)
      (pss_cons (ps_fld (pv 6) (pe_dc (own := [("number", 7), ("due", 8), ("period", 9)]) (g := _) (tt := tYes) rfl sc_restored.nd (pi_list (pv 5)) (blkOk_by (own := [("number", 7), ("due", 8), ("period", 9)]) (N := N_restored) (sc := defScope s_restored) (by decide +kernel)) (fun _ _ _ _ _ => (pg_tupK (K := K) (n := 3) rfl rfl (pgs_cons (pg_name (i := 7) sc_restored.nd rfl (.inl rfl)) (pgs_cons (pg_name (i := 8) sc_restored.nd rfl (.inl rfl)) (pgs_cons (pg_name (i := 9) sc_restored.nd rfl (.inl rfl)) pgs_nil))))) (fun _ _ _ _ _ => pts_nil) (fun _ _ _ _ _ => (pv 7)) (fun _ _ _ _ _ => (pe_tup (pa_cons (pv 8) (pa_cons (pv 9) (pa_cons (pv 3) pa_nil)))))) rfl)
      (pss_one (ps_ret (pv 6)))))))), ?_⟩
    rcases h with ⟨u, b, ws, t, f, rs, rfl, hS, ok, c⟩ | ⟨hb, c⟩
    rotate_left
    · exact ⟨_, rfl, x, rfl, .inr ⟨hb, fun H1 s1 => ⟨false, rfl, iteT (c H1 s1)⟩⟩⟩
    refine ⟨_, rfl, .ref u, rfl, .inl ⟨u, b, ws, t, f, rs, rfl, hS, ok, fun H1 s1 => ⟨true, rfl, iteF ?_⟩⟩⟩
    obtain ⟨q0, R, ts, hu, hq, hR, hP⟩ := (hS.same s1).tup
    obtain ⟨k1, k2, k3, k4, k5, k6, k7⟩ := ok
    have hlen := hP.len
    refine ⟨.ref u, rfl, u, _, rfl, .inl (.inl hu), rfl, _, _, rfl, _, _, rfl, _, _, rfl, _, _, rfl, _, _, rfl, rfl, ?_⟩
    refine ⟨_, rfl, _, rfl, _, rfl, rfl, rfl, fun p dx hpn hdx0 nex => ?_⟩
    have u0 : Same H1 (upd (upd H1 dx (.own p)) p (.ins C dx [])) := fun c o e => by
      rw [upd_ne (ne_of_none e hpn), upd_ne (ne_of_none e hdx0)]
      exact e
    refine ⟨p, dx, q0, b, t, ws, rfl, upd_same, u0.seq hq, k1, k2, k3, k4, fun H2 q l kp hq1 hl1 hw1 => ⟨rfl, ?_⟩⟩
    have a1 : Same H1 H2 := fun c o e => kp _ _ (ne_of_none e hpn) (u0 _ _ e)
    have hq0 := u0.free hq1
    have hl0 := u0.free hl1
    obtain ⟨dx1, hp1⟩ := hw1.ins
    obtain ⟨kv0, hlv, _⟩ := hw1.live
    have nqp : q ≠ p := ne_of hw1.words hp1 (by intro z; cases z)
    refine ⟨_, rfl, _, rfl, p, C, dx1, _, rfl, hp1, TW.cl, TW.nF, by simp [wfl], ?_⟩
    rw [wf_pf]
    have s2 : Same H1 (upd H2 p (.ins C dx1 (wfl b q t f l))) := fun c o e => by
      rw [upd_ne (ne_of_none e hpn)]
      exact a1 _ _ e
    have hp2 := upd_same (H := H2) (a := p) (o := .ins C dx1 (wfl b q t f l))
    have hw2 : (upd H2 p (.ins C dx1 (wfl b q t f l))) q = some (.lst ((trimW ws).map lvV)) := by
      rw [upd_ne nqp]
      exact hw1.words
    generalize upd H2 p (.ins C dx1 (wfl b q t f l)) = H3 at s2 hp2 hw2 ⊢
    have hR3 := s2.seq hR
    refine ⟨.ref R, rfl, R, rfl, ⟨_, hR3⟩, fun D hD => dc_list (K := K) (a := R) (xs := ts.map V.ref) (fun i H' => Same H3 H' ∧ ∃ kvs, H' D = some (.dK kvs) ∧ LiveK H' kvs ((rs.take i).map (rowT t))) ⟨same_upd hD, [], upd_same, trivial⟩ (fun i H' _ ⟨sm, _⟩ => sm.seq hR3) ?_ ?_⟩
    · rintro i x H' hx ⟨sm, kvs, eD, L⟩
      obtain ⟨a, r, rfl, hr, ha⟩ := hP.item hx
      have hi : i < rs.length := (List.getElem?_eq_some_iff.mp hr).1
      have hL := L.len
      rw [List.length_map, List.length_take] at hL
      refine ⟨a, _, rfl, .inl (.inl (sm _ _ (s2 _ _ ha))), rfl, _, _, rfl, _, _, rfl, _, _, rfl, rfl, rfl, yesT (iteT ?_)⟩
      refine ⟨_, rfl, _, rfl, _, rfl, _, rfl, by simp [sizeLine_eq], fun v hv => ?_⟩
      have sv := same_upd (o := .tup (tmV (rowT t r))) hv
      have eD2 := sv _ _ eD
      have L2' := L.same sv
      have hno : ∀ m ∈ (rs.take i).map (rowT t), m.num ≠ r.1 := fun m hm e => by
        obtain ⟨r', hr', rfl⟩ := List.mem_map.mp hm
        obtain ⟨j, hj⟩ := List.getElem?_of_mem hr'
        rw [List.getElem?_take] at hj
        split at hj
        · rename_i hlt
          have z1 : (rs.map (·.1))[j]? = some r.1 := by
            rw [List.getElem?_map, hj]
            exact congrArg some e
          have z2 : (rs.map (·.1))[i]? = some r.1 := by
            rw [List.getElem?_map, hr]
            rfl
          have z := (List.getElem?_inj (List.getElem?_eq_some_iff.mp z1).1 k6).mp (z1.trans z2.symm)
          omega
        · cases hj
      have hvn := L2'.val_not hno
      refine ⟨kvs, Sum.inl (r.1 : Int), rfl, eD2, by rw [hL]; exact sizeLine_ge (by omega), fun c o e => ?_, _, upd_same, ?_⟩
      · rw [upd_ne (ne_of_none e hD)]
        exact sv _ _ (sm _ _ e)
      · rw [putK_new _ hvn, List.take_add_one, hr, Option.toList_some, List.map_append]
        refine LiveK.upd eD2 (fun xs z => by cases z) (L2'.snoc (m := rowT t r) rfl ?_)
        exact upd_same
    · rintro H4 ⟨s3, kvs, eD, L⟩
      rw [List.length_map, hlen, List.take_length] at L
      have hp4 := s3 _ _ hp2
      refine ⟨_, rfl, p, C, dx1, _, rfl, hp4, TW.cl, TW.nL, by simp [wfl], ?_⟩
      rw [wf_pl]
      have nDp : D ≠ p := ne_of eD hp4 (by intro z; cases z)
      have s4 : Same H1 (upd H4 p (.ins C dx1 (wfl b q t f D))) := fun c o e => by
        rw [upd_ne (ne_of_none e hpn)]
        exact s3 _ _ (s2 _ _ e)
      refine ⟨_, rfl, c _ p q D (s1.trans s4) (s1.free hpn) (s1.free hq0) (s1.free (s2.free hD)) ⟨⟨dx1, upd_same⟩, ?_, ⟨kvs, ?_, ?_⟩⟩⟩
      · rw [upd_ne nqp]
        exact s3 _ _ hw2
      · rw [upd_ne nDp]
        exact eD
      · exact L.frame fun t' m e => by
          rw [upd_ne (ne_of e hp4 (by intro z; cases z))]
          exact e
end
/-! ### classes of errors, told apart -/
section
variable {K : PySem.W.Frag}
theorem cls_ok {O : Addr} (hd : PySem.W.hasDictIn K O = true) (ht : PySem.W.typeIn K (.ref O) = some (.type "type")) : ((PySem.W.clsIn K O).isSome && PySem.W.typeIn K (.ref O) == some (.type "type")) = true := by
  obtain ⟨cd, hc, _⟩ := PySem.W.any_some hd
  rw [hc, ht] <;> rfl
/-- an error of one class is none of another -/
theorem kit_no {N O : Addr} (hN : PySem.W.subIn K (.ref N) (.ref N) = some true) (hd : PySem.W.hasDictIn K O = true) (ht : PySem.W.typeIn K (.ref O) = some (.type "type")) (h : PySem.W.subIn K (.ref N) (.ref O) = some false) : PySem.W.kitOne K (.ref N) (.ref O) = some false := by
  have ne : ¬ (Value.ref N == Value.ref O) = true := fun q => by
    have e : N = O := Value.ref.inj (beq_iff_eq.mp q)
    subst e
    rw [hN] at h
    cases h
  have e2 := cls_ok hd ht
  unfold PySem.W.kitOne
  rw [if_neg ne]
  show (if ((PySem.W.clsIn K O).isSome && PySem.W.typeIn K (.ref O) == some (.type "type")) = true then PySem.W.subIn K (.ref N) (.ref O) else none) = some false
  rw [if_pos e2]
  exact h
end
section
variable {K : PySem.W.Frag}
theorem kit_self (N : Addr) : PySem.W.kitOne K (.ref N) (.ref N) = some true := by
  unfold PySem.W.kitOne
  rw [if_pos (beq_self_eq_true _)]
theorem kit_ve {N : Addr} (h : PySem.W.subIn K (.ref N) (.type "ValueError") = some true) : PySem.W.kitOne K (.ref N) (.type "ValueError") = some true := by
  have ne : ¬ (Value.ref N == Value.type "ValueError") = true := fun q => by
    have e : Value.ref N = Value.type "ValueError" := beq_iff_eq.mp q
    cases e
  unfold PySem.W.kitOne
  rw [if_neg ne]
  show (if PySem.W.kitMeta "ValueError" = true then PySem.W.subIn K (.ref N) (.type "ValueError") else none) = some true
  rw [if_pos (by decide +kernel)]
  exact h
end
/-! ### a method of a list inside a comprehension -/
section
variable {X : Cx} {K : PySem.W.Frag}
theorem mt_indexK (e : X.K = K) : MtR X "list.index" (rIndex K) := by subst e; exact mt_index
theorem op_in_seqK (e : X.K = K) : OpR X (compareOp .In) (rIn K false) := by subst e; exact op_in_seq
theorem pe_bmK {o e : Expr} {es : List Expr} {to : TE} {t : TA} {name : Str} {apos cpos : Pos} {T id : String} {r : V → List V → Hp → VK → Prop} (eK : X.K = K) (pa : PlainAttrs T) (slot : Slot T name id) (hty : typeOf (.builtin id) = pure (.type "method_descriptor")) (hm : MtR X id r) (ho : PE X o to) (ha : PA X (e :: es) t)
    (hbase : attributeBase o name X.env (eval o X.env) = eval o X.env := by rfl)
    (hfew : ((backTo cpos (starEach (e :: es) X.env)).all (fun x => !x.1) && (backToKw cpos (keywordEach [] X.env)).all (fun x => x.1.isSome)
      && decide ((e :: es).length + ([] : List Keyword).length + (if ([] : List Keyword).isEmpty then 0 else 1) < 30)) = true := by rfl)
    (hline : (apos.endLine == cpos.line) = true := by rfl) (hs : starEach (e :: es) X.env = (false, eval e X.env) :: starEach es X.env := by rfl) (hplain : (backTo cpos (starEach es X.env)).any (·.1) = false := by rfl) :
    PE X (.Call (.Attribute o name apos) (e :: es) [] cpos) (tBM K T r to t) := by
  subst eK
  exact pe_bm pa slot hty hm ho ha hbase hfew hline hs hplain
end
/-! ### law k08: the word for what restored does -/
section
variable {P : Program} {w : World} {K : PySem.W.Frag} {mg : Str → Option Value} {base : Heap}
def spWord08 (K : PySem.W.Frag) : Sp := fun vs H Q _ => ∃ (x : V) (s : Str), vs = [x] ∧ (((∃ (u : Addr) (b : Nat) (ws : List Bool) (t f : Nat) (rs : List RowP), x = .ref u ∧ SnapAt K H u b ws t f rs ∧ SnapOk b ws t f rs) ∧ s = "told") ∨ (BadSnap K H x ∧ s = "snapshot")) ∧ ∀ H', Same H H' → Q (.str s) H'
theorem ok_word08 {f C c_TimerError c_NoBase c_NoLevels c_NoTick c_NoPeriod c_NoTimer c_NoOrder c_NoSighting c_TooMany c_NoRow c_NoSnapshot : Addr} {fd : FuncData} (F : Fun K "_law_word" "_law_word" s__law_word f fd) (T : Tx K mg)
    (X_TimerError : EG mg "TimerError" c_TimerError) (X_NoBase : EG mg "NoBase" c_NoBase) (X_NoLevels : EG mg "NoLevels" c_NoLevels) (X_NoTick : EG mg "NoTick" c_NoTick) (X_NoPeriod : EG mg "NoPeriod" c_NoPeriod) (X_NoTimer : EG mg "NoTimer" c_NoTimer) (X_NoOrder : EG mg "NoOrder" c_NoOrder) (X_NoSighting : EG mg "NoSighting" c_NoSighting) (X_TooMany : EG mg "TooMany" c_TooMany) (X_NoRow : EG mg "NoRow" c_NoRow) (X_NoSnapshot : EG mg "NoSnapshot" c_NoSnapshot)
    (te : PySem.W.exmOne K (.ref c_NoSnapshot) (.ref c_TimerError) = some true) (hC : ExcC K c_NoSnapshot)
    (no : ∀ c ∈ [c_NoBase, c_NoLevels, c_NoTick, c_NoPeriod, c_NoTimer, c_NoOrder, c_NoSighting, c_TooMany, c_NoRow], PySem.W.kitOne K (.ref c_NoSnapshot) (.ref c) = some false)
    (h1 : HasX P w K mg base 7 "restored" ["snapshot"] [] (spRestoredX C K c_NoSnapshot)) : FnOk P w K mg base CX0 8 f fd ["_law_thing"] (spWord08 K) := by
  obtain ⟨f_restored, fd_restored, ds_restored, G_restored, m_restored, k_restored, b_restored, v_restored⟩ := h1
  cases v_restored
  refine F.ok sc__law_word (fun vs H Q E h => ?_) (fun cdv A outer s H vs Q E hr h => ?_)
  · obtain ⟨x, s, rfl, _⟩ := h
    rfl
  · obtain ⟨x, z, rfl, h, c⟩ := h
    refine ⟨_, (pss_cons (ps_try_as (i := 1) rfl rfl sc__law_word.nd rfl rfl ⟨rfl, by decide, .inl X_TimerError.g⟩ takes0 (fun W pn xe tk _ => 
        (pss_one (ps_expr (pe_callS G_restored hr (by rfl) m_restored k_restored b_restored (fun σ => passAt tk σ) (pa_cons (pv 0) pa_nil))))) (fun a oe cls d pn hz hf => 
        (pss_cons (ps_set (i := 2) sc__law_word.nd rfl (.inl rfl) (pe_lst (pa_cons (pe_callB (isiE hz hf) (by rfl) T.b_isinstance (by decide +kernel) (pa_cons (pv 1) (pa_cons (pe_glob (v := .ref c_NoBase) rfl X_NoBase.g rfl) pa_nil))) (pa_cons (pe_callB (isiE hz hf) (by rfl) T.b_isinstance (by decide +kernel) (pa_cons (pv 1) (pa_cons (pe_glob (v := .ref c_NoLevels) rfl X_NoLevels.g rfl) pa_nil))) (pa_cons (pe_callB (isiE hz hf) (by rfl) T.b_isinstance (by decide +kernel) (pa_cons (pv 1) (pa_cons (pe_glob (v := .ref c_NoTick) rfl X_NoTick.g rfl) pa_nil))) (pa_cons (pe_callB (isiE hz hf) (by rfl) T.b_isinstance (by decide +kernel) (pa_cons (pv 1) (pa_cons (pe_glob (v := .ref c_NoPeriod) rfl X_NoPeriod.g rfl) pa_nil))) pa_nil))))))
        (pss_cons (ps_set (i := 2) sc__law_word.nd rfl (.inl rfl) (pe_op op_cat (pv 2) (pe_lst (pa_cons (pe_callB (isiE hz hf) (by rfl) T.b_isinstance (by decide +kernel) (pa_cons (pv 1) (pa_cons (pe_glob (v := .ref c_NoTimer) rfl X_NoTimer.g rfl) pa_nil))) (pa_cons (pe_callB (isiE hz hf) (by rfl) T.b_isinstance (by decide +kernel) (pa_cons (pv 1) (pa_cons (pe_glob (v := .ref c_NoOrder) rfl X_NoOrder.g rfl) pa_nil))) (pa_cons (pe_callB (isiE hz hf) (by rfl) T.b_isinstance (by decide +kernel) (pa_cons (pv 1) (pa_cons (pe_glob (v := .ref c_NoSighting) rfl X_NoSighting.g rfl) pa_nil))) pa_nil))))))
        (pss_cons (ps_set (i := 2) sc__law_word.nd rfl (.inl rfl) (pe_op op_cat (pv 2) (pe_lst (pa_cons (pe_callB (isiE hz hf) (by rfl) T.b_isinstance (by decide +kernel) (pa_cons (pv 1) (pa_cons (pe_glob (v := .ref c_TooMany) rfl X_TooMany.g rfl) pa_nil))) (pa_cons (pe_callB (isiE hz hf) (by rfl) T.b_isinstance (by decide +kernel) (pa_cons (pv 1) (pa_cons (pe_glob (v := .ref c_NoRow) rfl X_NoRow.g rfl) pa_nil))) pa_nil)))))
        (pss_one (ps_ret (pe_ifExp (PW.pt (pw_or (pt_cmpR (op_in_seqK (K := K) rfl) pe_bl (pv 2) (by rfl)) (pw_or1 (pt_not (pt_val (pe_callB (isiE hz hf) (by rfl) T.b_isinstance (by decide +kernel) (pa_cons (pv 1) (pa_cons (pe_glob (v := .ref c_NoSnapshot) rfl X_NoSnapshot.g rfl) pa_nil)))))))) pe_str pe_str))))))))
      (pss_one (ps_ret pe_str))), ?_⟩
    rcases h with ⟨⟨u, b, ws, t, f, rs, rfl, hS, ok⟩, rfl⟩ | ⟨hb, rfl⟩
    · exact ⟨_, rfl, .ref u, rfl, .inl ⟨u, b, ws, t, f, rs, rfl, hS, ok, fun H' p q l s1 _ _ _ _ => c H' s1⟩⟩
    refine ⟨_, rfl, x, rfl, .inr ⟨hb, fun H1 s1 => ⟨true, te, fun _ a _ => ?_, fun q => nomatch q⟩⟩⟩
    have n := fun i => no i
    have k : ∀ i ∈ [c_NoBase, c_NoLevels, c_NoTick, c_NoPeriod, c_NoTimer, c_NoOrder, c_NoSighting, c_TooMany, c_NoRow], PySem.W.kitOne K (.ref c_NoSnapshot) (.ref i) = some false := no
    refine ⟨_, rfl, _, rfl, rfl, hC, _, _, _, rfl, fun _ h => h, no c_NoBase (by simp), _, rfl, _, rfl, rfl, hC, _, _, _, rfl, fun _ h => h, no c_NoLevels (by simp), _, rfl, _, rfl, rfl, hC, _, _, _, rfl, fun _ h => h, no c_NoTick (by simp), _, rfl, _, rfl, rfl, hC, _, _, _, rfl, fun _ h => h, no c_NoPeriod (by simp), by simp [sizeLine_eq], fun m1 hm1 => ?_⟩
    refine ⟨_, rfl, _, rfl, _, rfl, rfl, hC, _, _, _, rfl, fun _ h => h, no c_NoTimer (by simp), _, rfl, _, rfl, rfl, hC, _, _, _, rfl, fun _ h => h, no c_NoOrder (by simp), _, rfl, _, rfl, rfl, hC, _, _, _, rfl, fun _ h => h, no c_NoSighting (by simp), by simp [sizeLine_eq], fun m2 hm2 => ?_⟩
    have t2 := (same_upd (o := .lst [.bl false, .bl false, .bl false, .bl false]) hm1).trans (same_upd (o := .lst [.bl false, .bl false, .bl false]) hm2)
    refine ⟨m1, m2, _, _, rfl, rfl, (same_upd hm2) _ _ upd_same, upd_same, by simp [sizeLine_eq], fun m3 hm3 => ?_⟩
    have t3 := t2.trans (same_upd (o := .lst ([.bl false, .bl false, .bl false, .bl false] ++ [.bl false, .bl false, .bl false])) hm3)
    have e3 : (upd (upd (upd H1 m1 (.lst [.bl false, .bl false, .bl false, .bl false])) m2 (.lst [.bl false, .bl false, .bl false])) m3 (.lst ([.bl false, .bl false, .bl false, .bl false] ++ [.bl false, .bl false, .bl false]))) m3 = some (.lst ([.bl false, .bl false, .bl false, .bl false] ++ [.bl false, .bl false, .bl false])) := upd_same
    generalize upd (upd (upd H1 m1 (.lst [.bl false, .bl false, .bl false, .bl false])) m2 (.lst [.bl false, .bl false, .bl false])) m3 (.lst ([.bl false, .bl false, .bl false, .bl false] ++ [.bl false, .bl false, .bl false])) = H3 at t3 e3 ⊢
    refine ⟨_, rfl, _, rfl, _, rfl, rfl, hC, _, _, _, rfl, fun _ h => h, no c_TooMany (by simp), _, rfl, _, rfl, rfl, hC, _, _, _, rfl, fun _ h => h, no c_NoRow (by simp), by simp [sizeLine_eq], fun m4 hm4 => ?_⟩
    have t4 := t3.trans (same_upd (o := .lst [.bl false, .bl false]) hm4)
    refine ⟨m3, m4, _, _, rfl, rfl, (same_upd hm4) _ _ e3, upd_same, by simp [sizeLine_eq], fun m5 hm5 => ?_⟩
    have t5 := t4.trans (same_upd (o := .lst (([.bl false, .bl false, .bl false, .bl false] ++ [.bl false, .bl false, .bl false]) ++ [.bl false, .bl false])) hm5)
    refine ⟨_, rfl, m5, _, rfl, .inl (SqL.of upd_same), rfl, rfl, false, rfl, iteF ?_⟩
    exact ⟨_, rfl, _, rfl, rfl, hC, _, _, _, rfl, fun _ h => h, kit_self _, true, rfl, iteF (c _ (s1.trans t5))⟩
end
/-! ### the law's drawing of numbers -/
def SrcAt (H : Hp) (p : Addr) : Prop := ∃ a b c : Int, H p = some (.lst [.int a, .int b, .int c])
/-- all but the source p stands as it was; p is a source again -/
structure Stp (p : Addr) (H H' : Hp) : Prop where
  keep : ∀ q o, q ≠ p → H q = some o → H' q = some o
  src : SrcAt H' p
theorem Stp.refl {p : Addr} {H : Hp} (h : SrcAt H p) : Stp p H H := ⟨fun _ _ _ e => e, h⟩
theorem Stp.trans {p : Addr} {H H1 H2 : Hp} (a : Stp p H H1) (b : Stp p H1 H2) : Stp p H H2 := ⟨fun q o n e => b.keep q o n (a.keep q o n e), b.src⟩
theorem Stp.same {p : Addr} {H H1 H2 : Hp} (a : Stp p H H1) (b : Same H1 H2) : Stp p H H2 := by
  obtain ⟨x, y, z, e⟩ := a.src
  exact ⟨fun q o n e => b q o (a.keep q o n e), ⟨x, y, z, b _ _ e⟩⟩
theorem SrcAt.same {p : Addr} {H H' : Hp} (h : SrcAt H p) (s : Same H H') : SrcAt H' p := by
  obtain ⟨a, b, c, e⟩ := h
  exact ⟨a, b, c, s _ _ e⟩
theorem Stp.free {p q : Addr} {H H' : Hp} (a : Stp p H H') (hq : H' q = none) : H q = none := by
  cases e : H q with
  | none => rfl
  | some o =>
    by_cases z : q = p
    · obtain ⟨x, y, u, w⟩ := a.src
      rw [z, w] at hq
      cases hq
    · rw [a.keep q o z e] at hq
      cases hq
theorem SrcAt.ne {H : Hp} {p l : Addr} (h : SrcAt H p) (hl : H l = none) : l ≠ p := fun e => by
  obtain ⟨x, y, z, w⟩ := h
  rw [e, w] at hl
  cases hl
theorem SrcAt.stp_same {p : Addr} {H H' : Hp} (h : SrcAt H p) (s : Same H H') : Stp p H H' := (Stp.refl h).same s
theorem Stp.seqL {K : PySem.W.Frag} {p a : Addr} {xs : List V} {H H' : Hp} (s : Stp p H H') (n : a ≠ p) (h : SqL K H a xs) : SqL K H' a xs := by
  rcases h with (h | ⟨o, h⟩) | h
  · exact .inl (.inl (s.keep _ _ n h))
  · exact .inl (.inr ⟨o, s.keep _ _ n h⟩)
  · exact .inr h
section
variable {P : Program} {w : World} {K : PySem.W.Frag} {mg : Str → Option Value} {base : Heap}
def spCellAt (K : PySem.W.Frag) : Sp := fun vs H Q _ => ∃ (a : Addr) (ns : List Int) (k : Nat), vs = [.ref a, .int (k : Nat)] ∧ SqL K H a (ns.map V.int) ∧ ∀ v : Int, Q (.int v) H
theorem ok_cell_at {f : Addr} {fd : FuncData} (F : Fun K "_law_cell_at" "_law_cell_at" s__law_cell_at f fd) (T : Tx K mg) : FnOk P w K mg base CX0 1 f fd ["_law_script", "_law_k"] (spCellAt K) := by
  refine F.ok sc__law_cell_at (fun vs H Q E h => ?_) (fun cdv A outer s H vs Q E hr h => ?_)
  · obtain ⟨a, ns, k, rfl, _⟩ := h
    rfl
  · obtain ⟨a, ns, k, rfl, hS, q⟩ := h
    refine ⟨_, (pss_cons (ps_if (pt_cmpR op_lt (pv 1) (pe_callB (lenK (K := K) rfl) (by rfl) T.b_len PySem.boot_len (pa_cons (pv 0) pa_nil)) (nomark _))
        (pss_one (ps_ret (pe_ix (ix_listK (K := K) rfl) (pv 0) (pv 1) (fun _ _ => rfl))))
        pss_nil)
      (pss_one (ps_ret pe_int))), ?_⟩
    refine ⟨_, rfl, .ref a, rfl, a, ns.map V.int, rfl, .inl hS, _, _, rfl, rfl, _, rfl, ite2 (fun e => ?_) (fun e => ?_)⟩
    · have hk : k < ns.length := by
        have z := of_decide_eq_true e
        rw [List.length_map] at z
        omega
      have g : (ns.map V.int)[k]? = some (.int ns[k]) := by
        rw [List.getElem?_map, List.getElem?_eq_getElem hk]
        rfl
      exact ⟨.ref a, rfl, _, rfl, a, _, _, _, rfl, rfl, hS, atI_nat g, q _⟩
    · exact q 0
def spMixed : Sp := fun vs H Q _ => ∃ c k : Int, vs = [.int c, .int k] ∧ ∀ r : Int, 0 ≤ r → r < 2147483563 → Q (.int r) H
theorem ok_mixed {f : Addr} {fd : FuncData} (F : Fun K "_law_mixed" "_law_mixed" s__law_mixed f fd) : FnOk P w K mg base CX0 1 f fd ["_law_cell", "_law_k"] spMixed := by
  refine F.ok sc__law_mixed (fun vs H Q E h => ?_) (fun cdv A outer s H vs Q E hr h => ?_)
  · obtain ⟨c, k, rfl, _⟩ := h
    rfl
  · obtain ⟨c, k, rfl, q⟩ := h
    refine ⟨_, (pss_cons (ps_set (i := 2) sc__law_mixed.nd rfl (.inl rfl) (pe_op op_add (pe_op op_mod (pv 0) pe_int) (pe_op op_mulA (pe_op op_fdivW (pv 0) pe_int) pe_int)))
      (pss_cons (ps_set (i := 2) sc__law_mixed.nd rfl (.inl rfl) (pe_op op_mod (pe_op op_mulA (pe_op op_add (pe_op op_add (pv 2) (pe_op op_mulA pe_int (pv 1))) pe_int) pe_int) pe_int))
      (pss_cons (ps_set (i := 2) sc__law_mixed.nd rfl (.inl rfl) (pe_op op_mod (pe_op op_mulA (pv 2) (pe_op op_add (pe_op op_add (pe_op op_fdivW (pv 2) pe_int) pe_int) (pv 1))) pe_int))
      (pss_one (ps_ret (pe_op op_mod (pe_op op_mulA (pv 2) (pe_op op_add (pe_op op_fdivW (pv 2) pe_int) pe_int)) pe_int)))))), ?_⟩
    refine ⟨_, rfl, c, 2147483629, rfl, rfl, (by decide : (0 : Int) < 2147483629), _, rfl, c, 2147483629, rfl, rfl, div_s (by decide) (by decide), _, 30011, rfl, rfl, mul_r (by decide) (by decide), _, _, rfl, rfl, ?_⟩
    refine ⟨_, rfl, _, rfl, 69621, k, rfl, rfl, mul_l (by decide) (by decide), _, _, rfl, rfl, _, 1, rfl, rfl, _, 48271, rfl, rfl, mul_r (by decide) (by decide), _, 2147483629, rfl, rfl, (by decide : (0 : Int) < 2147483629), ?_⟩
    generalize hl : (c % 2147483629 + c / 2147483629 * 30011 + 69621 * k + 1) * 48271 = l0
    have b1 : 0 ≤ l0 % 2147483629 := Int.emod_nonneg _ (by decide)
    have b2 : l0 % 2147483629 < 2147483629 := Int.emod_lt_of_pos _ (by decide)
    refine ⟨_, rfl, _, rfl, l0 % 2147483629, 907, rfl, rfl, div_s (by decide) (by decide), _, 16831, rfl, rfl, _, rfl, _, k, rfl, rfl, l0 % 2147483629, _, rfl, rfl, mul_l (by omega) (by omega), _, 2147483587, rfl, rfl, (by decide : (0 : Int) < 2147483587), ?_⟩
    generalize (l0 % 2147483629) * (l0 % 2147483629 / 907 + 16831 + k) = l1
    have b3 : 0 ≤ l1 % 2147483587 := Int.emod_nonneg _ (by decide)
    have b4 : l1 % 2147483587 < 2147483587 := Int.emod_lt_of_pos _ (by decide)
    refine ⟨_, rfl, _, rfl, _, 1201, rfl, rfl, div_s (by decide) (by decide), _, 30011, rfl, rfl, _, _, rfl, rfl, mul_l (i := l1 % 2147483587) (by omega) (by omega), _, 2147483563, rfl, rfl, (by decide : (0 : Int) < 2147483563), ?_⟩
    exact q _ (Int.emod_nonneg _ (by decide)) (Int.emod_lt_of_pos _ (by decide))
def spSource (K : PySem.W.Frag) : Sp := fun vs H Q _ => ∃ (a : Addr) (ns : List Int) (k : Nat), vs = [.ref a, .int (k : Nat)] ∧ SqL K H a (ns.map V.int) ∧ ∀ H' p, Same H H' → H p = none → SrcAt H' p → Q (.ref p) H'
theorem ok_source {f : Addr} {fd : FuncData} (F : Fun K "_law_source" "_law_source" s__law_source f fd) (T : Tx K mg) (h1 : Has P w K mg base 1 "_law_cell_at" ["_law_script", "_law_k"] [] (spCellAt K))
    (h2 : Has P w K mg base 1 "_law_mixed" ["_law_cell", "_law_k"] [] spMixed) : FnOk P w K mg base CX0 2 f fd ["_law_script", "_law_k"] (spSource K) := by
  obtain ⟨f__law_cell_at, fd__law_cell_at, ds__law_cell_at, G__law_cell_at, m__law_cell_at, k__law_cell_at, b__law_cell_at, v__law_cell_at⟩ := h1
  obtain ⟨f__law_mixed, fd__law_mixed, ds__law_mixed, G__law_mixed, m__law_mixed, k__law_mixed, b__law_mixed, v__law_mixed⟩ := h2
  refine F.ok sc__law_source (fun vs H Q E h => ?_) (fun cdv A outer s H vs Q E hr h => ?_)
  · obtain ⟨a, ns, k, rfl, _⟩ := h
    rfl
  · obtain ⟨a, ns, k, rfl, hS, q⟩ := h
    refine ⟨_, (pss_cons (ps_if (pt_cmpR op_lt (pv 1) (pe_callB (lenK (K := K) rfl) (by rfl) T.b_len PySem.boot_len (pa_cons (pv 0) pa_nil)) (nomark _))
        (pss_one (ps_ret (pe_lst (pa_cons (pe_ix (ix_listK (K := K) rfl) (pv 0) (pv 1) (fun _ _ => rfl)) (pa_cons (pe_ix (ix_listK (K := K) rfl) (pv 0) (pv 1) (fun _ _ => rfl)) (pa_cons pe_int pa_nil))))))
        pss_nil)
      (pss_cons (ps_set (i := 2) sc__law_source.nd rfl (.inl rfl) (pe_call G__law_mixed hr (by rfl) m__law_mixed k__law_mixed b__law_mixed v__law_mixed pass0 (pa_cons (pe_call G__law_cell_at hr (by rfl) m__law_cell_at k__law_cell_at b__law_cell_at v__law_cell_at pass0 (pa_cons (pv 0) (pa_cons pe_int pa_nil))) (pa_cons (pe_op op_add pe_int (pv 1)) pa_nil))))
      (pss_one (ps_ret (pe_lst (pa_cons (pv 2) (pa_cons (pv 2) (pa_cons pe_int pa_nil)))))))), ?_⟩
    refine ⟨_, rfl, .ref a, rfl, a, ns.map V.int, rfl, .inl hS, _, _, rfl, rfl, _, rfl, ite2 (fun e => ?_) (fun e => ?_)⟩
    · have hk : k < ns.length := by
        have z := of_decide_eq_true e
        rw [List.length_map] at z
        omega
      have g : (ns.map V.int)[k]? = some (.int ns[k]) := by
        rw [List.getElem?_map, List.getElem?_eq_getElem hk]
        rfl
      refine ⟨.ref a, rfl, _, rfl, a, _, _, _, rfl, rfl, hS, atI_nat g, .ref a, rfl, _, rfl, a, _, _, _, rfl, rfl, hS, atI_nat g, by simp [sizeLine_eq], fun p hp => ?_⟩
      exact q _ p (same_upd hp) hp ⟨_, _, _, upd_same⟩
    · refine ⟨.ref a, rfl, a, ns, 0, rfl, hS, fun v => ⟨_, rfl, 1000, _, rfl, rfl, v, _, rfl, fun r _ _ => ?_⟩⟩
      refine ⟨_, rfl, _, rfl, by simp [sizeLine_eq], fun p hp => ?_⟩
      exact q _ p (same_upd hp) hp ⟨_, _, _, upd_same⟩
def spNext : Sp := fun vs H Q _ => ∃ (p : Addr) (m : Int), vs = [.ref p, .int m] ∧ 0 < m ∧ m < 2 ^ 300 ∧ SrcAt H p ∧ ∀ (r : Nat) H', (r : Int) < m → Stp p H H' → Q (.int (r : Nat)) H'
theorem ok_next {f : Addr} {fd : FuncData} (F : Fun K "_law_next" "_law_next" s__law_next f fd) (h2 : Has P w K mg base 1 "_law_mixed" ["_law_cell", "_law_k"] [] spMixed) : FnOk P w K mg base CX0 2 f fd ["_law_source_here", "_law_many"] spNext := by
  obtain ⟨f__law_mixed, fd__law_mixed, ds__law_mixed, G__law_mixed, m__law_mixed, k__law_mixed, b__law_mixed, v__law_mixed⟩ := h2
  refine F.ok sc__law_next (fun vs H Q E h => ?_) (fun cdv A outer s H vs Q E hr h => ?_)
  · obtain ⟨p, m, rfl, _⟩ := h
    rfl
  · obtain ⟨p, m, rfl, hm, hm2, ⟨a, b, c, hp⟩, q⟩ := h
    have fin : ∀ (x : Int) (H' : Hp), Stp p H H' → Q (.int (x % m)) H' := fun x H' s => by
      have h0 : 0 ≤ x % m := Int.emod_nonneg _ (by omega)
      have h1 : x % m < m := Int.emod_lt_of_pos _ hm
      have e : ((x % m).toNat : Int) = x % m := Int.toNat_of_nonneg h0
      have z := q (x % m).toNat H' (by omega) s
      rw [e] at z
      exact z
    have st : ∀ x y z : Int, Stp p H (upd H p (.lst [.int x, .int y, .int z])) := fun x y z => ⟨fun q o n e => by rw [upd_ne n]; exact e, ⟨x, y, z, upd_same⟩⟩
    refine ⟨_, (pss_cons (ps_if (pt_cmpR op_ge (pe_ix (ix_listK (K := K) rfl) (pv 0) pe_int (fun _ _ => rfl)) (pe_op op_pow pe_int pe_int) (nomark _))
        (pss_cons (ps_set (i := 2) sc__law_next.nd rfl (.inl rfl) (pe_op op_mod (pe_ix (ix_listK (K := K) rfl) (pv 0) pe_int (fun _ _ => rfl)) (pv 1)))
        (pss_cons (ps_asg (pe_op op_fdivW (pe_ix (ix_listK (K := K) rfl) (pv 0) pe_int (fun _ _ => rfl)) (pv 1)) (pg_sub (pv 0) pe_int set_list))
        (pss_one (ps_ret (pv 2)))))
        pss_nil)
      (pss_cons (ps_asg (pe_op op_add (pe_ix (ix_listK (K := K) rfl) (pv 0) pe_int (fun _ _ => rfl)) pe_int) (pg_sub (pv 0) pe_int set_list))
      (pss_one (ps_ret (pe_op op_mod (pe_call G__law_mixed hr (by rfl) m__law_mixed k__law_mixed b__law_mixed v__law_mixed pass0 (pa_cons (pe_ix (ix_listK (K := K) rfl) (pv 0) pe_int (fun _ _ => rfl)) (pa_cons (pe_ix (ix_listK (K := K) rfl) (pv 0) pe_int (fun _ _ => rfl)) pa_nil))) (pv 1)))))), ?_⟩
    refine ⟨.ref p, rfl, p, _, 0, .int a, rfl, rfl, SqL.of hp, atI_nat (j := 0) rfl, 10, 18, rfl, rfl, ⟨by decide, by decide, by decide⟩, a, _, rfl, rfl, _, rfl, ite2 (fun _ => ?_) (fun _ => ?_)⟩
    · refine ⟨.ref p, rfl, p, _, 0, .int a, rfl, rfl, SqL.of hp, atI_nat (j := 0) rfl, .int m, rfl, a, m, rfl, rfl, hm, ?_⟩
      refine ⟨.ref p, rfl, p, _, 0, .int a, rfl, rfl, SqL.of hp, atI_nat (j := 0) rfl, .int m, rfl, a, m, rfl, rfl, div_s hm hm2, ?_⟩
      refine ⟨.ref p, rfl, p, _, 0, 0, rfl, rfl, hp, rfl, ?_⟩
      exact ⟨_, rfl, fin a _ (st _ _ _)⟩
    · refine ⟨.ref p, rfl, p, _, 2, .int c, rfl, rfl, SqL.of hp, atI_nat (j := 2) rfl, c, 1, rfl, rfl, ?_⟩
      refine ⟨.ref p, rfl, p, _, 2, 2, rfl, rfl, hp, rfl, ?_⟩
      have h2 : (upd H p (.lst [.int a, .int b, .int (c + 1)])) p = some (.lst [.int a, .int b, .int (c + 1)]) := upd_same
      refine ⟨.ref p, rfl, p, _, 1, .int b, rfl, rfl, SqL.of h2, atI_nat (j := 1) rfl, .ref p, rfl, p, _, 2, .int (c + 1), rfl, rfl, SqL.of h2, atI_nat (j := 2) rfl, b, c + 1, rfl, fun r _ _ => ?_⟩
      exact ⟨.int m, rfl, r, m, rfl, rfl, hm, fin r _ (st _ _ _)⟩
end
/-! ### the law's bases -/
section
variable {P : Program} {w : World} {K : PySem.W.Frag} {mg : Str → Option Value} {base : Heap}
def spBase : Sp := fun vs H Q _ => ∃ (p : Addr), vs = [.ref p] ∧ SrcAt H p ∧ ∀ (b : Nat) H', 2 ≤ b → b ≤ 64 → Stp p H H' → Q (.int (b : Nat)) H'
theorem ok_base {f : Addr} {fd : FuncData} (F : Fun K "_law_base" "_law_base" s__law_base f fd) (h1 : Has P w K mg base 2 "_law_next" ["_law_source_here", "_law_many"] [] spNext) : FnOk P w K mg base CX0 3 f fd ["_law_source_here"] spBase := by
  obtain ⟨f__law_next, fd__law_next, ds__law_next, G__law_next, m__law_next, k__law_next, b__law_next, v__law_next⟩ := h1
  refine F.ok sc__law_base (fun vs H Q E h => ?_) (fun cdv A outer s H vs Q E hr h => ?_)
  · obtain ⟨p, rfl, _⟩ := h
    rfl
  · obtain ⟨p, rfl, hs, q⟩ := h
    refine ⟨_, (pss_one (ps_ret (pe_ix (ix_listK (K := K) rfl) (pe_lst (pa_cons pe_int (pa_cons pe_int (pa_cons pe_int (pa_cons pe_int (pa_cons pe_int (pa_cons pe_int (pa_cons pe_int (pa_cons pe_int (pa_cons pe_int pa_nil)))))))))) (pe_call G__law_next hr (by rfl) m__law_next k__law_next b__law_next v__law_next pass0 (pa_cons (pv 0) (pa_cons pe_int pa_nil))) (fun _ _ => rfl)))), ?_⟩
    refine ⟨by simp [sizeLine_eq], fun l hl => ?_⟩
    have s1 := same_upd (o := .lst [.int 2, .int 3, .int 4, .int 5, .int 7, .int 10, .int 16, .int 63, .int 64]) hl
    have nlp : l ≠ p := fun e => by
      obtain ⟨x, y, z, h⟩ := hs
      rw [e, h] at hl
      cases hl
    refine ⟨_, rfl, p, 9, rfl, by decide, by decide, hs.same s1, fun r H' hr9 st => ?_⟩
    have eL := st.keep _ _ nlp upd_same
    have hst : Stp p H H' := (hs.stp_same s1).trans st
    have hr : r < 9 := by omega
    have all : ∀ j : Nat, j < 9 → ∃ b : Nat, ([.int 2, .int 3, .int 4, .int 5, .int 7, .int 10, .int 16, .int 63, .int 64] : List V)[j]? = some (.int (b : Nat)) ∧ 2 ≤ b ∧ b ≤ 64 := by
      intro j hj
      match j, hj with
      | 0, _ => exact ⟨2, rfl, by decide, by decide⟩
      | 1, _ => exact ⟨3, rfl, by decide, by decide⟩
      | 2, _ => exact ⟨4, rfl, by decide, by decide⟩
      | 3, _ => exact ⟨5, rfl, by decide, by decide⟩
      | 4, _ => exact ⟨7, rfl, by decide, by decide⟩
      | 5, _ => exact ⟨10, rfl, by decide, by decide⟩
      | 6, _ => exact ⟨16, rfl, by decide, by decide⟩
      | 7, _ => exact ⟨63, rfl, by decide, by decide⟩
      | 8, _ => exact ⟨64, rfl, by decide, by decide⟩
      | j + 9, h => omega
    obtain ⟨b, eb, b2, b64⟩ := all r hr
    exact ⟨l, _, r, .int (b : Nat), rfl, rfl, SqL.of eL, atI_nat eb, q b H' b2 b64 hst⟩
end
section
variable {P : Program} {w : World} {K : PySem.W.Frag} {mg : Str → Option Value} {base : Heap}
theorem flat_rep {α : Type} (x : α) : ∀ n : Nat, (List.replicate n [x]).flatten = List.replicate n x
  | 0 => rfl
  | n + 1 => by
    rw [List.replicate_succ, List.flatten_cons, flat_rep x n, List.replicate_succ]
    rfl
theorem pick_lv {r : Nat} (h : r < 2) : ([.str "stack", .str "queue"] : List V)[r]? = some (lvV (decide (r = 0))) := by
  match r, h with
  | 0, _ => rfl
  | 1, _ => rfl
  | r + 2, h => omega
theorem pick_vl {r : Nat} (h : r < 2) : ([.str "queue", .str "stack"] : List V)[r]? = some (lvV (decide (r = 1))) := by
  match r, h with
  | 0, _ => rfl
  | 1, _ => rfl
  | r + 2, h => omega
def spLevels : Sp := fun vs H Q _ => ∃ (p : Addr), vs = [.ref p] ∧ SrcAt H p ∧ ∀ H' q (ws : List Bool), Stp p H H' → H q = none → H' q = some (.lst (ws.map lvV)) → ws ≠ [] → ws.length ≤ 60 → Q (.ref q) H'
theorem ok_levels {f : Addr} {fd : FuncData} (F : Fun K "_law_levels" "_law_levels" s__law_levels f fd) (T : Tx K mg) (h1 : Has P w K mg base 2 "_law_next" ["_law_source_here", "_law_many"] [] spNext) : FnOk P w K mg base CX0 3 f fd ["_law_source_here"] spLevels := by
  obtain ⟨f__law_next, fd__law_next, ds__law_next, G__law_next, m__law_next, k__law_next, b__law_next, v__law_next⟩ := h1
  refine F.ok sc__law_levels (fun vs H Q E h => ?_) (fun cdv A outer s H vs Q E hr h => ?_)
  · obtain ⟨p, rfl, _⟩ := h
    rfl
  · obtain ⟨p, rfl, hs, c⟩ := h
    refine ⟨_, (pss_cons (ps_set (i := 1) sc__law_levels.nd rfl (.inl rfl) (pe_ix (ix_listK (K := K) rfl) (pe_lst (pa_cons (pe_op op_add pe_int (pe_call G__law_next hr (by rfl) m__law_next k__law_next b__law_next v__law_next pass0 (pa_cons (pv 0) (pa_cons pe_int pa_nil)))) (pa_cons (pe_op op_add pe_int (pe_call G__law_next hr (by rfl) m__law_next k__law_next b__law_next v__law_next pass0 (pa_cons (pv 0) (pa_cons pe_int pa_nil)))) pa_nil))) (pe_callTy call_int1 (by rfl) T.b_int (by decide +kernel) (pa_cons (pe_cmpR op_eq (pe_call G__law_next hr (by rfl) m__law_next k__law_next b__law_next v__law_next pass0 (pa_cons (pv 0) (pa_cons pe_int pa_nil))) pe_int (nomark _)) pa_nil)) (fun _ _ => rfl)))
      (pss_cons (ps_set (i := 2) sc__law_levels.nd rfl (.inl rfl) (pe_call G__law_next hr (by rfl) m__law_next k__law_next b__law_next v__law_next pass0 (pa_cons (pv 0) (pa_cons pe_int pa_nil))))
      (pss_cons (ps_if (pt_cmpR op_lt (pv 2) pe_int (nomark _))
        (pss_one (ps_ret (pe_op op_rep (pe_lst (pa_cons (pe_ix (ix_listK (K := K) rfl) (pe_lst (pa_cons pe_str (pa_cons pe_str pa_nil))) (pv 2) (fun _ _ => rfl)) pa_nil)) (pv 1))))
        pss_nil)
      (pss_cons (ps_setLc (i := 3) (own := [("_law_at", 4)]) (g := gName 4) (tt := tYes) rfl sc__law_levels.nd rfl rfl (sw_true rfl rfl rfl (by decide +kernel)) (pi_range1 (by rfl) T.b_range (pa_cons (pv 1) pa_nil)) (blkOk_by (own := [("_law_at", 4)]) (N := N__law_levels) (sc := defScope s__law_levels) (by decide +kernel)) (fun _ _ _ _ _ => (pg_name (i := 4) sc__law_levels.nd rfl (.inl rfl))) (fun _ _ _ _ _ => pts_nil) (fun _ _ _ _ _ => (pe_ix (ix_listK (K := K) rfl) (pe_lst (pa_cons pe_str (pa_cons pe_str pa_nil))) (pe_call G__law_next hr (by rfl) m__law_next k__law_next b__law_next v__law_next pass0 (pa_cons (pv 0) (pa_cons pe_int pa_nil))) (fun _ _ => rfl))))
      (pss_cons (ps_if (pt_cmpR op_eq (pv 2) pe_int (nomark _))
        (pss_one (ps_setLc (i := 3) (own := [("_law_at", 4)]) (g := gName 4) (tt := tYes) rfl sc__law_levels.nd rfl rfl (sw_true rfl rfl rfl (by decide +kernel)) (pi_range1 (by rfl) T.b_range (pa_cons (pv 1) pa_nil)) (blkOk_by (own := [("_law_at", 4)]) (N := N__law_levels) (sc := defScope s__law_levels) (by decide +kernel)) (fun _ _ _ _ _ => (pg_name (i := 4) sc__law_levels.nd rfl (.inl rfl))) (fun _ _ _ _ _ => pts_nil) (fun _ _ _ _ _ => (pe_ix (ix_listK (K := K) rfl) (pe_lst (pa_cons pe_str (pa_cons pe_str pa_nil))) (pe_op op_mod (pv 4) pe_int) (fun _ _ => rfl)))))
        pss_nil)
      (pss_one (ps_ret (pv 3)))))))), ?_⟩
    -- many
    refine ⟨_, rfl, p, 6, rfl, by decide, by decide, hs, fun r1 H1 hr1 s1 => ⟨1, r1, rfl, rfl, _, rfl, p, 60, rfl, by decide, by decide, s1.src, fun r2 H2 hr2 s2 => ⟨1, r2, rfl, rfl, by simp [sizeLine_eq], fun l hl => ?_⟩⟩⟩
    have s3 : Stp p H2 (upd H2 l (.lst [.int (1 + (r1 : Int)), .int (1 + (r2 : Int))])) := s2.src.stp_same (same_upd hl)
    refine ⟨_, rfl, p, 5, rfl, by decide, by decide, s3.src, fun r3 H4 hr3 s4 => ⟨rfl, .inr ⟨_, rfl, ?_⟩⟩⟩
    have eL := s4.keep _ _ (s2.src.ne hl) upd_same
    obtain ⟨m, em, hm0, hm⟩ : ∃ m : Nat, ([.int (1 + (r1 : Int)), .int (1 + (r2 : Int))] : List V)[if decide (V.int (r3 : Nat) = V.int 4) = true then 1 else 0]? = some (.int (m : Nat)) ∧ 1 ≤ m ∧ m ≤ 60 := by
      split
      · exact ⟨1 + r2, rfl, by omega, by omega⟩
      · exact ⟨1 + r1, rfl, by omega, by omega⟩
    refine ⟨l, _, ((if decide (V.int (r3 : Nat) = V.int 4) = true then 1 else 0 : Nat) : Int), _, rfl, ?_, SqL.of eL, atI_nat em, ?_⟩
    · split <;> rfl
    have s04 := ((s1.trans s2).trans s3).trans s4
    -- sort
    refine ⟨_, rfl, p, 5, rfl, by decide, by decide, s4.src, fun r5 H5 hr5 s5 => ?_⟩
    have s05 := s04.trans s5
    refine ⟨_, rfl, _, 2, rfl, rfl, _, rfl, ite2 (fun e => ?_) (fun e0 => ?_)⟩
    · have hr2' : r5 < 2 := by
        have z := of_decide_eq_true e
        omega
      refine ⟨by simp [sizeLine_eq], fun l6 hl6 => ?_⟩
      refine ⟨_, rfl, l6, _, r5, _, rfl, rfl, SqL.of upd_same, atI_nat (pick_lv hr2'), by simp [sizeLine_eq], fun l7 hl7 => ?_⟩
      refine ⟨_, rfl, l7, (m : Nat), _, rfl, rfl, upd_same, by omega, by omega, ?_, fun q hq => ?_⟩
      · exact sizeLine_le (by show 1 * m ≤ 1000000; omega)
      · have s8 := ((s05.same (same_upd hl6)).same (same_upd hl7)).same (same_upd (o := .lst (List.replicate ((m : Nat) : Int).toNat [lvV (decide (r5 = 0))]).flatten) hq)
        refine c _ q (List.replicate m (decide (r5 = 0))) s8 ?_ ?_ ?_ ?_
        · exact ((s05.same (same_upd hl6)).same (same_upd hl7)).free hq
        · rw [upd_same, flat_rep, List.map_replicate]
          rfl
        · intro e
          have z := congrArg List.length e
          rw [List.length_replicate] at z
          exact absurd z (by show ¬ m = 0; omega)
        · rw [List.length_replicate]
          exact hm
    · -- drawn words
      refine ⟨_, rfl, m, rfl, by omega, by omega, fun D hD => lc_range (lo := 0) (n := ((m : Nat) : Int).toNat) (fun i H' => Stp p H5 H' ∧ ∃ ws : List Bool, ws.length = i ∧ H' D = some (.lst (ws.map lvV)))
        ⟨s5.src.stp_same (same_upd hD), [], rfl, upd_same⟩ ?_ ?_⟩
      · rintro i H' hi ⟨st, ws, hw, eD⟩
        have nDp : D ≠ p := s5.src.ne hD
        refine ⟨rfl, yesT (iteT ?_)⟩
        refine ⟨by simp [sizeLine_eq], fun l8 hl8 => ?_⟩
        have s8 : Stp p H' (upd H' l8 (.lst [.str "queue", .str "stack"])) := st.src.stp_same (same_upd hl8)
        refine ⟨_, rfl, p, 2, rfl, by decide, by decide, s8.src, fun r9 H9 hr9 s9 => ?_⟩
        have eL8 := s9.keep _ _ (st.src.ne hl8) upd_same
        have eD9 := s9.keep _ _ nDp (s8.keep _ _ nDp eD)
        refine ⟨l8, _, r9, _, rfl, rfl, SqL.of eL8, atI_nat (pick_vl (by omega)), _, eD9, ?_, ⟨fun b o n e => ?_, ?_⟩, ws ++ [decide (r9 = 1)], ?_, ?_⟩
        · rw [List.length_map, hw]
          exact sizeLine_ge (by omega)
        · rw [upd_ne (ne_of_none e hD)]
          exact s9.keep _ _ n (s8.keep _ _ n (st.keep _ _ n e))
        · obtain ⟨x, y, z, h⟩ := s9.src
          exact ⟨x, y, z, by rw [upd_ne nDp.symm]; exact h⟩
        · rw [List.length_append, hw]
          rfl
        · rw [upd_same, List.map_append]
          rfl
      rintro H6 ⟨s6, ws, hw, eD⟩
      have hw' : ws.length = m := by rw [hw]; exact Int.toNat_natCast m
      have s06 := s05.trans s6
      have last : ∀ H7 q (vs : List Bool), Stp p H H7 → H q = none → H7 q = some (.lst (vs.map lvV)) → vs.length = m → Q (.ref q) H7 := fun H7 q vs st hq eq hv =>
        c H7 q vs st hq eq (fun e => by
          rw [e] at hv
          exact absurd hv (by show ¬ 0 = m; omega)) (by omega)
      have hD0 : H D = none := s05.free hD
      refine ⟨_, rfl, rfl, _, rfl, ite2 (fun e => ?_) (fun e => ?_)⟩
      · refine ⟨_, rfl, m, rfl, by omega, by omega, fun D2 hD2 => lc_range (lo := 0) (n := ((m : Nat) : Int).toNat) (fun i H' => Same H6 H' ∧ ∃ ws : List Bool, ws.length = i ∧ H' D2 = some (.lst (ws.map lvV)))
          ⟨same_upd hD2, [], rfl, upd_same⟩ ?_ ?_⟩
        · rintro i H' hi ⟨st, ws2, hw2, eD2⟩
          refine ⟨rfl, yesT (iteT ?_)⟩
          refine ⟨by simp [sizeLine_eq], fun l8 hl8 => ?_⟩
          have s8 := same_upd (o := .lst [.str "queue", .str "stack"]) hl8
          have ei : (0 + (i : Int)) % 2 = ((i % 2 : Nat) : Int) := by omega
          refine ⟨_, rfl, _, 2, rfl, rfl, (by decide : (0 : Int) < 2), l8, _, ((i % 2 : Nat) : Int), _, rfl, congrArg V.int ei, SqL.of upd_same, atI_nat (pick_vl (Nat.mod_lt i (by decide))), _, s8 _ _ eD2, ?_, fun b o e => ?_, ws2 ++ [decide (i % 2 = 1)], ?_, ?_⟩
          · rw [List.length_map, hw2]
            exact sizeLine_ge (by omega)
          · rw [upd_ne (ne_of_none e hD2)]
            exact s8 _ _ (st _ _ e)
          · rw [List.length_append, hw2]
            rfl
          · rw [upd_same, List.map_append]
            rfl
        rintro H7 ⟨s7, ws2, hw2, eD2⟩
        refine ⟨_, rfl, last H7 D2 ws2 (s06.same s7) (s06.free hD2) eD2 ?_⟩
        rw [hw2]
        exact Int.toNat_natCast m
      · exact ⟨_, rfl, last H6 D ws s06 hD0 eD hw'⟩
end
/-! ### rows as data, walks with numbers -/
def rowD (r : Row3) : PyData := .tuple [.int (r.1 : Nat), .int (r.2.1 : Nat), .int (r.2.2 : Nat)]
theorem rows_dp {K : PySem.W.Frag} {H : Hp} : ∀ {ts : List Addr} {rs : List Row3}, RowsAt H ts rs → DpAll K H (ts.map V.ref) (rs.map rowD)
  | [], [], _ => .nil
  | _ :: _, _ :: _, h => .cons (.tup (.inl (.inl h.1)) (.cons (.int _) (.cons (.int _) (.cons (.int _) .nil)))) (rows_dp h.2)
  | [], _ :: _, h => h.elim
  | _ :: _, [], h => h.elim
theorem rowD_lay (r : Row3) : (rowD r).canLay0 = true := rfl
theorem rows_lay : ∀ rs : List Row3, PyData.canLayAll0 (rs.map rowD) = true
  | [] => rfl
  | r :: rs => by
    show ((rowD r).canLay0 && PyData.canLayAll0 (rs.map rowD)) = true
    rw [rowD_lay, rows_lay rs]
    rfl
theorem rows_depth : ∀ rs : List Row3, PyData.depthAll (rs.map rowD) ≤ 1
  | [] => Nat.zero_le _
  | r :: rs => by
    have ih := rows_depth rs
    show max (rowD r).depth (PyData.depthAll (rs.map rowD)) ≤ 1
    have e : (rowD r).depth = 1 := rfl
    rw [e]
    omega
theorem rows_shaped (rs : List Row3) : SeqAt.shaped (.list (rs.map rowD)) = true := by
  have h1 : (PyData.list (rs.map rowD)).canLay0 = true := by
    show PyData.canLayAll0 (rs.map rowD) = true
    exact rows_lay rs
  have h2 : (PyData.list (rs.map rowD)).depth ≤ 64 := by
    show PyData.depthAll (rs.map rowD) + 1 ≤ 64
    have := rows_depth rs
    omega
  unfold SeqAt.shaped
  rw [h1, decide_eq_true h2]
  rfl
theorem dp_nats {K : PySem.W.Frag} {H : Hp} : ∀ ns : List Nat, DpAll K H (ns.map fun x => V.int (x : Nat)) (ns.map fun x => PyData.int (x : Nat))
  | [] => .nil
  | _ :: r => .cons (.int _) (dp_nats r)
theorem nats_lay : ∀ ns : List Nat, PyData.canLayAll0 (ns.map fun x => PyData.int (x : Nat)) = true
  | [] => rfl
  | _ :: r => by
    show (PyData.canLay0 _ && PyData.canLayAll0 (r.map fun x => PyData.int (x : Nat))) = true
    rw [nats_lay r]
    rfl
theorem nats_depth : ∀ ns : List Nat, PyData.depthAll (ns.map fun x => PyData.int (x : Nat)) = 0
  | [] => rfl
  | _ :: r => by
    show max (PyData.depth _) (PyData.depthAll (r.map fun x => PyData.int (x : Nat))) = 0
    rw [nats_depth r]
    rfl
theorem nats_shaped (ns : List Nat) : SeqAt.shaped (.list (ns.map fun x => PyData.int (x : Nat))) = true := by
  have h1 : (PyData.list (ns.map fun x => PyData.int (x : Nat))).canLay0 = true := by
    show PyData.canLayAll0 _ = true
    exact nats_lay ns
  have h2 : (PyData.list (ns.map fun x => PyData.int (x : Nat))).depth ≤ 64 := by
    show PyData.depthAll _ + 1 ≤ 64
    rw [nats_depth ns]
    decide
  unfold SeqAt.shaped
  rw [h1, decide_eq_true h2]
  rfl
theorem cut1 (xs : List V) : cutV xs (some 1) none = xs.drop 1 := by
  unfold cutV
  rw [show HT.sIx xs.length 0 (some 1) = min 1 xs.length from HT.sIx_nat xs.length 0 1, HT.sIx_none]
  cases xs with
  | nil => rfl
  | cons x r =>
    rw [show min 1 (x :: r).length = 1 by
      rw [List.length_cons]
      omega]
    show (List.take ((x :: r).length - 1) r) = r
    rw [List.length_cons, Nat.add_sub_cancel]
    exact List.take_length
theorem cutTo {xs : List V} {k : Nat} : cutV xs none (some (k : Int)) = xs.take k := by
  unfold cutV
  rw [HT.sIx_none, HT.sIx_nat, List.drop_zero, Nat.sub_zero]
  by_cases h : k ≤ xs.length
  · rw [Nat.min_eq_left h]
  · rw [Nat.min_eq_right (by omega), List.take_length, List.take_of_length_le (by omega)]
theorem cutFrom {xs : List V} {k : Nat} : cutV xs (some (k : Int)) none = xs.drop k := by
  unfold cutV
  rw [HT.sIx_none, HT.sIx_nat]
  by_cases h : k ≤ xs.length
  · rw [Nat.min_eq_left h]
    exact List.take_of_length_le (by rw [List.length_drop]; exact Nat.le_refl _)
  · rw [Nat.min_eq_right (by omega), List.drop_length, List.drop_of_length_le (by omega)]
    simp
theorem cutLast {xs : List V} (h : xs ≠ []) : cutV xs (some (-1)) none = [xs.getLast h] := by
  have hp : 0 < xs.length := List.length_pos_iff.mpr h
  have e : HT.sIx xs.length 0 (some (-1)) = xs.length - 1 := by
    show (if (-1 : Int) < 0 then ((-1 : Int) + (xs.length : Int)).toNat else min (-1 : Int).toNat xs.length) = _
    rw [if_pos (by decide)]
    omega
  unfold cutV
  rw [e, HT.sIx_none, List.drop_eq_getElem_cons (show xs.length - 1 < xs.length by omega), List.getLast_eq_getElem]
  rw [show xs.length - 1 + 1 = xs.length by omega, List.drop_length]
  rw [show xs.length - (xs.length - 1) = 1 by omega]
  rfl
theorem RowsAt.frame {H H' : Hp} : ∀ {ts : List Addr} {rs : List Row3}, RowsAt H ts rs → (∀ t r, H t = some (.tup (rowV r)) → H' t = some (.tup (rowV r))) → RowsAt H' ts rs
  | [], [], _, _ => trivial
  | _ :: _, _ :: _, h, s => ⟨s _ _ h.1, h.2.frame s⟩
  | [], _ :: _, h, _ => h.elim
  | _ :: _, [], h, _ => h.elim
/-- the tick behind the first station -/
theorem behind_first (b d : Nat) : ∀ k, ((tailOf b d k).map (fun r => r.2.2) ++ [d])[0]? = some (d / b ^ k * b ^ k)
  | 0 => by
    show some d = some (d / b ^ 0 * b ^ 0)
    rw [Nat.pow_zero, Nat.div_one, Nat.mul_one]
  | k + 1 => by
    have e := cut_step b d k
    unfold tailOf
    split
    · rfl
    · rename_i h
      have h0 : d / b ^ k % b = 0 := Classical.byContradiction h
      rw [h0, Nat.zero_mul, Nat.add_zero] at e
      rw [behind_first b d k, e]
/-- a loop over enumerate(a list) -/
theorem for_enum {K : PySem.W.Frag} {a : Addr} {xs : List V} {g : TG} {tb : TS} {D : Ends} {σ : L2.St} {H : Hp} (Pv : Nat → L2.St → Hp → Prop) (h0 : Pv 0 σ H) (hq : ∀ i σ H, Pv i σ H → SqL K H a xs)
    (hs : ∀ (i : Nat) (x : V) (T : Addr) (σ : L2.St) (H : Hp), xs[i]? = some x → Pv i σ H → H T = none → g (.ref T) σ (upd H T (.tup [.int (i : Nat), x])) fun σ2 H2 => tb { D with nx := Pv (i + 1), ct := Pv (i + 1), bk := D.nx } σ2 H2) (hd : ∀ σ H, Pv xs.length σ H → D.nx σ H) :
    ∃ W : Nat → Nat → L2.St → Hp → Prop, (∃ m, W 0 m σ H) ∧ ∀ i m σ H, W i m σ H →
      ((Ite K a).stop i H ∧ D.nx σ H) ∨ ((Ite K a).go i H ∧ ∃ N : L2.St → Hp → Prop, (∀ σ' H', N σ' H' → ∃ m', m' < m ∧ W (i + 1) m' σ' H') ∧ ∀ v H', (Ite K a).yld i H v H' → g v σ H' fun σ2 H2 => tb { D with nx := N, ct := N, bk := D.nx } σ2 H2) := by
  refine ⟨fun i m σ H => m = xs.length - i ∧ i ≤ xs.length ∧ Pv i σ H, ⟨xs.length, rfl, Nat.zero_le _, h0⟩, ?_⟩
  rintro i m σ H ⟨rfl, hi, p⟩
  have qx := hq i σ H p
  by_cases hlt : i < xs.length
  · have hx : xs[i]? = some xs[i] := List.getElem?_eq_getElem hlt
    refine .inr ⟨⟨xs, xs[i], qx, hx⟩, Pv (i + 1), fun σ' H' p' => ⟨xs.length - (i + 1), by omega, rfl, hlt, p'⟩, fun v H' y => ?_⟩
    obtain ⟨T, x, rfl, nT, rfl, f⟩ := y
    have ex : x = xs[i] := Option.some.inj ((f xs qx).symm.trans hx)
    subst ex
    exact hs i _ T σ H hx p nT
  · have e : i = xs.length := by omega
    subst e
    exact .inl ⟨⟨xs, qx, Nat.le_refl _⟩, hd σ H p⟩
/-- a loop over zip(a list, a list), of any two lengths -/
theorem for_zip2 {K : PySem.W.Frag} {a b : Addr} {xs ys : List V} {g : TG} {tb : TS} {D : Ends} {σ : L2.St} {H : Hp} (Pv : Nat → L2.St → Hp → Prop) (h0 : Pv 0 σ H) (hq : ∀ i σ H, Pv i σ H → SqL K H a xs ∧ SqL K H b ys)
    (hs : ∀ (i : Nat) (x y : V) (T : Addr) (σ : L2.St) (H : Hp), xs[i]? = some x → ys[i]? = some y → Pv i σ H → H T = none → g (.ref T) σ (upd H T (.tup [x, y])) fun σ2 H2 => tb { D with nx := Pv (i + 1), ct := Pv (i + 1), bk := D.nx } σ2 H2) (hd : ∀ i σ H, Pv i σ H → D.nx σ H) :
    ∃ W : Nat → Nat → L2.St → Hp → Prop, (∃ m, W 0 m σ H) ∧ ∀ i m σ H, W i m σ H →
      ((Itz K a b).stop i H ∧ D.nx σ H) ∨ ((Itz K a b).go i H ∧ ∃ N : L2.St → Hp → Prop, (∀ σ' H', N σ' H' → ∃ m', m' < m ∧ W (i + 1) m' σ' H') ∧ ∀ v H', (Itz K a b).yld i H v H' → g v σ H' fun σ2 H2 => tb { D with nx := N, ct := N, bk := D.nx } σ2 H2) := by
  refine ⟨fun i m σ H => m = xs.length - i ∧ i ≤ xs.length ∧ Pv i σ H, ⟨xs.length, rfl, Nat.zero_le _, h0⟩, ?_⟩
  rintro i m σ H ⟨rfl, hi, p⟩
  obtain ⟨qx, qy⟩ := hq i σ H p
  by_cases hlt : i < xs.length ∧ i < ys.length
  · have hx : xs[i]? = some xs[i] := List.getElem?_eq_getElem hlt.1
    have hy : ys[i]? = some ys[i] := List.getElem?_eq_getElem hlt.2
    refine .inr ⟨⟨xs, ys, _, _, qx, qy, hx, hy⟩, Pv (i + 1), fun σ' H' p' => ⟨xs.length - (i + 1), by omega, rfl, hlt.1, p'⟩, fun v H' e => ?_⟩
    obtain ⟨T, x, y, rfl, nT, rfl, f, f2⟩ := e
    have ex : x = xs[i] := Option.some.inj ((f xs qx).symm.trans hx)
    have ey : y = ys[i] := Option.some.inj ((f2 ys qy).symm.trans hy)
    subst ex
    subst ey
    exact hs i _ _ T σ H hx hy p nT
  · refine .inl ⟨⟨xs, ys, qx, qy, ?_⟩, hd i σ H p⟩
    by_cases h1 : i < xs.length
    · right
      by_cases h2 : i < ys.length
      · exact absurd ⟨h1, h2⟩ hlt
      · omega
    · left
      omega
/-- the last item of a list that has one -/
theorem atI_neg1 {xs : List V} {x : V} (h : xs[xs.length - 1]? = some x) : atI xs (-1) = some x := by
  have hne : xs ≠ [] := fun e => by
    rw [e] at h
    simp at h
  have e : xs = xs.dropLast ++ [xs.getLast hne] := (List.dropLast_concat_getLast hne).symm
  have ex : x = xs.getLast hne := by
    have z := List.getLast?_eq_getElem? (l := xs)
    rw [h, List.getLast?_eq_some_getLast hne] at z
    exact (Option.some.inj z).symm
  rw [e, ex]
  exact atI_last _ _
/-! ### law k08: snapshots with a part spoilt -/
/-- a good snapshot, its parts -/
structure Good08 (K : PySem.W.Frag) (H : Hp) (g : Addr) (b : Nat) (q0 : Addr) (t f : Nat) (R : Addr) (ws : List Bool) (ts : List Addr) (rs : List RowP) : Prop where
  eg : H g = some (.tup [.int (b : Nat), .ref q0, .int (t : Nat), .int (f : Nat), .ref R])
  b2 : 2 ≤ b
  b64 : b ≤ 64
  hq : H q0 = some (.lst (ws.map lvV))
  ne : ws ≠ []
  l60 : ws.length ≤ 60
  hR : H R = some (.lst (ts.map V.ref))
  hP : RpAt H ts rs
  ok : ∀ r ∈ rs, RowOk t f r
  nd : (rs.map (·.1)).Nodup
  t2 : 2 ≤ t
  two : 2 ≤ rs.length
  few : rs.length ≤ 20
  top : ∃ r ∈ rs, r.1 + 1 = f
section
variable {K : PySem.W.Frag} {H H' : Hp} {g : Addr} {b : Nat} {q0 : Addr} {t f : Nat} {R ps : Addr} {ws : List Bool} {ts : List Addr} {rs : List RowP}
theorem Good08.same (h : Good08 K H g b q0 t f R ws ts rs) (s : Same H H') : Good08 K H' g b q0 t f R ws ts rs :=
  ⟨s _ _ h.eg, h.b2, h.b64, s _ _ h.hq, h.ne, h.l60, s _ _ h.hR, h.hP.same s, h.ok, h.nd, h.t2, h.two, h.few, h.top⟩
theorem Good08.stp (h : Good08 K H g b q0 t f R ws ts rs) (hs : SrcAt H ps) (s : Stp ps H H') : Good08 K H' g b q0 t f R ws ts rs := by
  obtain ⟨x, y, z, hx⟩ := hs
  have nT : ∀ u xs, H u = some (.tup xs) → u ≠ ps := fun u xs e z => by
    rw [z, hx] at e
    cases e
  have n1 : q0 ≠ ps := fun e => by
    have z := h.hq
    rw [e, hx] at z
    have z2 := HO.lst.inj (Option.some.inj z)
    cases ws with
    | nil => exact h.ne rfl
    | cons w0 wr =>
      have y := (List.cons.inj z2).1
      cases w0 <;> cases y
  have n2 : R ≠ ps := fun e => by
    have z := h.hR
    rw [e, hx] at z
    have z2 := HO.lst.inj (Option.some.inj z)
    have l := h.hP.len
    have l2 := h.two
    cases ts with
    | nil =>
      rw [← l] at l2
      exact absurd l2 (by decide)
    | cons a r => cases (List.cons.inj z2).1
  exact ⟨s.keep _ _ (nT _ _ h.eg) h.eg, h.b2, h.b64, s.keep _ _ n1 h.hq, h.ne, h.l60, s.keep _ _ n2 h.hR, h.hP.frame (fun u xs e => s.keep _ _ (nT _ _ e) e), h.ok, h.nd, h.t2, h.two, h.few, h.top⟩
theorem Good08.snap (h : Good08 K H g b q0 t f R ws ts rs) : SnapAt K H g b ws t f rs ∧ SnapOk b ws t f rs := by
  have := h.few
  exact ⟨⟨⟨q0, R, ts, h.eg, SqL.of h.hq, SqL.of h.hR, h.hP⟩⟩, h.b2, h.b64, h.ne, h.l60, h.ok, h.nd, by omega⟩
end
abbrev bs08 (a d : Addr) : List V := [.non, .int 1, .int 65, .bl true, .str "2", .ref a, .ref d]
theorem bad_bs08 {K : PySem.W.Frag} {H : Hp} {a d : Addr} {xs : List V} (ha : H a = some (.lst xs)) (hd : H d = some (.dK [])) : ∀ x ∈ bs08 a d, BadBase K H x := by
  intro x hx
  have hx1 : x = .non ∨ x = .int 1 ∨ x = .int 65 ∨ x = .bl true ∨ x = .str "2" ∨ x = .ref a ∨ x = .ref d := by
    simpa [bs08] using hx
  rcases hx1 with e | e | e | e | e | e | e <;> subst e
  · exact .inl .of_non
  · exact .inr ⟨1, rfl, .inl (by decide)⟩
  · exact .inr ⟨65, rfl, .inr (by decide)⟩
  · exact .inl (.of_bl true)
  · exact .inl (.of_str _)
  · exact .inl (.of_lst ha)
  · exact .inl (.of_dK hd)
abbrev ls08 (q1 q2 q3 q5 q7 q8 : Addr) : List V := [.non, .ref q1, .ref q2, .ref q3, .str "stack", .ref q5, .ref q7, .ref q8]
theorem bad_ls08 {K : PySem.W.Frag} {H : Hp} {q1 q2 q3 q5 q6 q7 q8 : Addr} (e1 : H q1 = some (.lst [])) (e2 : H q2 = some (.lst [.str "heap"])) (e3 : H q3 = some (.tup [.str "stack"])) (e5 : H q5 = some (.lst (List.replicate (61 : Int).toNat [V.str "stack"]).flatten)) (e6 : H q6 = some (.lst [.str "queue"])) (e7 : H q7 = some (.lst [.ref q6])) (e8 : H q8 = some (.dK [])) : ∀ x ∈ ls08 q1 q2 q3 q5 q7 q8, BadLevels K H x := by
  intro x hx
  have hx1 : x = .non ∨ x = .ref q1 ∨ x = .ref q2 ∨ x = .ref q3 ∨ x = .str "stack" ∨ x = .ref q5 ∨ x = .ref q7 ∨ x = .ref q8 := by
    simpa [ls08] using hx
  have hS : NoWord K H (.str "heap") := .inr ⟨_, rfl, by decide⟩
  have one : ∀ v, NoWord K H v → ∀ a, H a = some (.lst [v]) → BadLevels K H (.ref a) := fun v hv a ea => .inr ⟨a, _, rfl, SqL.of ea, .inr (.inr ⟨by simp, fun y hy => by rw [List.mem_singleton.mp hy]; exact .inr hv, v, List.mem_singleton.mpr rfl, hv⟩)⟩
  rcases hx1 with e | e | e | e | e | e | e | e <;> subst e
  · exact .inl ⟨_, .base .non, by decide +kernel⟩
  · exact .inr ⟨_, _, rfl, SqL.of e1, .inl rfl⟩
  · exact one _ hS _ e2
  · exact .inl ⟨_, .base (.tup e3), by decide +kernel⟩
  · exact .inl ⟨_, .base (.str _), by decide +kernel⟩
  · exact .inr ⟨_, _, rfl, SqL.of e5, .inr (.inl (by decide))⟩
  · exact one _ (.inl ⟨_, .base (.lst e6), by decide +kernel⟩) _ e7
  · exact .inl ⟨_, .base (.dK e8), by decide +kernel⟩
abbrev tk08 (a d : Addr) : List V := [.non, .int (-1), .bl true, .str "3", .ref a, .ref d]
theorem bad_tk08 {K : PySem.W.Frag} {H : Hp} {a d : Addr} {xs : List V} (ha : H a = some (.lst xs)) (hd : H d = some (.dK [])) : ∀ x ∈ tk08 a d, NoInt K H x ∨ x = .int (-1) := by
  intro x hx
  have hx1 : x = .non ∨ x = .int (-1) ∨ x = .bl true ∨ x = .str "3" ∨ x = .ref a ∨ x = .ref d := by
    simpa [tk08] using hx
  rcases hx1 with e | e | e | e | e | e <;> subst e
  · exact .inl .of_non
  · exact .inr rfl
  · exact .inl (.of_bl true)
  · exact .inl (.of_str _)
  · exact .inl (.of_lst ha)
  · exact .inl (.of_dK hd)
/-! ### law k08: the spoilt snapshot -/
section
variable {P : Program} {w : World} {K : PySem.W.Frag} {mg : Str → Option Value} {base : Heap}
def spSpoilt08 (K : PySem.W.Frag) : Sp := fun vs H Q _ => ∃ (ps g : Addr) (b : Nat) (q0 : Addr) (t f : Nat) (R : Addr) (ws : List Bool) (ts : List Addr) (rs : List RowP), vs = [.ref ps, .ref g] ∧ SrcAt H ps ∧ Good08 K H g b q0 t f R ws ts rs ∧ ∀ H' x, Stp ps H H' → BadSnap K H' x → Q x H'
/-- what a spoilt row may be: none at all, or one with the number of another one -/
def Spoilt (K : PySem.W.Frag) (H : Hp) (t f n2 d : Nat) (o : Option Nat) (x : V) : Prop := BadRow K H t f x ∨ ∃ a, x = .ref a ∧ H a = some (.tup [.int (n2 : Nat), .int (d : Nat), perV o])
abbrev rw08 (q1 q2 q3 q4 q5 q6 q7 q8 q9 qa qb qc qd qf qh qk : Addr) : List V := (([.ref q1, .ref q2, .ref q3, .ref q4, .ref q5] ++ [.ref q6, .ref q7, .ref q8, .ref q9, .ref qa]) ++ [.ref qb, .ref qc, .ref qd, .ref qf]) ++ [.ref qh, .ref qk]
theorem bad_rw08 {K : PySem.W.Frag} {H : Hp} {t f n n2 d : Nat} {o : Option Nat} (ht : 2 ≤ t) (hn : n < f) (hd : t < d) {q1 q2 q3 q4 q5 q6 q7 q8 q9 qa qb qc qd qe qf qg qh qj qk : Addr}
    (e1 : H q1 = some (.tup [.int (n : Nat), .int (t : Nat), perV o])) (e2 : H q2 = some (.tup [.int (n : Nat), .int ((t : Int) - 1), perV o])) (e3 : H q3 = some (.tup [.int (n : Nat), .int (d : Nat), .int 0])) (e4 : H q4 = some (.tup [.int (n : Nat), .int (d : Nat), .bl true])) (e5 : H q5 = some (.tup [.int (n : Nat), .int (d : Nat), .str "1"]))
    (e6 : H q6 = some (.tup [.int (f : Nat), .int (d : Nat), perV o])) (e7 : H q7 = some (.tup [.int (-1), .int (d : Nat), perV o])) (e8 : H q8 = some (.tup [.bl true, .int (d : Nat), perV o])) (e9 : H q9 = some (.tup [.int (n : Nat), .int (d : Nat)])) (ea : H qa = some (.lst [.int (n : Nat), .int (d : Nat), perV o]))
    (eb : H qb = some (.tup [.int (n : Nat), .non, perV o])) (ec : H qc = some (.tup [.int (n : Nat), .int (d : Nat), perV o, .int 1])) (ed : H qd = some (.tup [.int (n2 : Nat), .int (d : Nat), perV o])) (ee : H qe = some (.lst [])) (ef : H qf = some (.tup [.ref qe, .int (d : Nat), perV o]))
    (eg : H qg = some (.lst [])) (eh : H qh = some (.tup [.int (n : Nat), .ref qg, perV o])) (ej : H qj = some (.lst [])) (ek : H qk = some (.tup [.int (n : Nat), .int (d : Nat), .ref qj])) : ∀ x ∈ rw08 q1 q2 q3 q4 q5 q6 q7 q8 q9 qa qb qc qd qf qh qk, Spoilt K H t f n2 d o x := by
  intro x hx
  have hx1 : x = .ref q1 ∨ x = .ref q2 ∨ x = .ref q3 ∨ x = .ref q4 ∨ x = .ref q5 ∨ x = .ref q6 ∨ x = .ref q7 ∨ x = .ref q8 ∨ x = .ref q9 ∨ x = .ref qa ∨ x = .ref qb ∨ x = .ref qc ∨ x = .ref qd ∨ x = .ref qf ∨ x = .ref qh ∨ x = .ref qk := by
    simpa [rw08, or_assoc] using hx
  have three : ∀ {q : Addr} {x y z : V}, H q = some (.tup [x, y, z]) → (NoInt K H x ∨ (∃ m : Int, x = .int m ∧ (m < 0 ∨ (f : Int) ≤ m)) ∨ ∃ m : Nat, x = .int (m : Nat) ∧ m < f ∧ (BadTick K H y ((t : Int) + 1) ∨ ∃ d : Nat, y = .int (d : Nat) ∧ t < d ∧ z ≠ .non ∧ BadPer K H z)) → Spoilt K H t f n2 d o (.ref q) := fun h hb => .inl (.inr ⟨_, _, rfl, h, .inr ⟨_, _, _, rfl, hb⟩⟩)
  rcases hx1 with e | e | e | e | e | e | e | e | e | e | e | e | e | e | e | e <;> subst e
  · exact three e1 (.inr (.inr ⟨n, rfl, hn, .inl (.inr ⟨t, rfl, by omega⟩)⟩))
  · exact three e2 (.inr (.inr ⟨n, rfl, hn, .inl (.inr ⟨_, rfl, by omega⟩)⟩))
  · exact three e3 (.inr (.inr ⟨n, rfl, hn, .inr ⟨d, rfl, hd, (fun z => by cases z), .inr ⟨0, rfl, by decide⟩⟩⟩))
  · exact three e4 (.inr (.inr ⟨n, rfl, hn, .inr ⟨d, rfl, hd, (fun z => by cases z), .inl (.of_bl true)⟩⟩))
  · exact three e5 (.inr (.inr ⟨n, rfl, hn, .inr ⟨d, rfl, hd, (fun z => by cases z), .inl (.of_str _)⟩⟩))
  · exact three e6 (.inr (.inl ⟨_, rfl, .inr (Int.le_refl _)⟩))
  · exact three e7 (.inr (.inl ⟨-1, rfl, .inl (by decide)⟩))
  · exact three e8 (.inl (.of_bl true))
  · exact .inl (.inr ⟨_, _, rfl, e9, .inl (by simp)⟩)
  · exact .inl (.inl ⟨_, .base (.lst ea), by decide +kernel⟩)
  · exact three eb (.inr (.inr ⟨n, rfl, hn, .inl (.inl .of_non)⟩))
  · exact .inl (.inr ⟨_, _, rfl, ec, .inl (by simp)⟩)
  · exact .inr ⟨_, rfl, ed⟩
  · exact three ef (.inl (.of_lst ee))
  · exact three eh (.inr (.inr ⟨n, rfl, hn, .inl (.inl (.of_lst eg))⟩))
  · exact three ek (.inr (.inr ⟨n, rfl, hn, .inr ⟨d, rfl, hd, (fun z => by cases z), .inl (.of_lst ej)⟩⟩))
/-- rows around one -/
theorem RpAt.split {H : Hp} : ∀ {ts : List Addr} {rs : List RowP} (i : Nat), RpAt H ts rs → RpAt H (ts.take i) (rs.take i) ∧ RpAt H (ts.drop i) (rs.drop i)
  | _, _, 0, h => ⟨trivial, h⟩
  | [], [], i + 1, _ => ⟨trivial, trivial⟩
  | a :: ts, r :: rs, i + 1, h => ⟨⟨h.1, (RpAt.split i h.2).1⟩, (RpAt.split i h.2).2⟩
  | [], _ :: _, _ + 1, h => h.elim
  | _ :: _, [], _ + 1, h => h.elim
theorem RpAt.app {H : Hp} : ∀ {ts us : List Addr} {rs vs : List RowP}, RpAt H ts rs → RpAt H us vs → RpAt H (ts ++ us) (rs ++ vs)
  | [], _, [], _, _, h => h
  | _ :: _, _, _ :: _, _, h, h' => ⟨h.1, h.2.app h'⟩
  | [], _, _ :: _, _, h, _ => h.elim
  | _ :: _, _, [], _, h, _ => h.elim
/-- a row exchanged -/
theorem spoilt_rows {K : PySem.W.Frag} {H : Hp} {t f n2 d j : Nat} {o : Option Nat} {ts : List Addr} {rs : List RowP} {R2 : Addr} {v : V} (i : Nat) (hi : i < rs.length) (hj : j ≠ i) (hj2 : (rs.map (·.1))[j]? = some n2) (hd : t < d) (ho : ∀ k, o = some k → 1 ≤ k)
    (hP : RpAt H ts rs) (ok : ∀ r ∈ rs, RowOk t f r) (few : rs.length ≤ 20) (hv : Spoilt K H t f n2 d o v) (hR : H R2 = some (.lst (((ts.take i).map V.ref ++ [v]) ++ (ts.drop (i + 1)).map V.ref))) : BadRows K H t f (.ref R2) := by
  have hl := hP.len
  obtain ⟨p1, _⟩ := hP.split i
  obtain ⟨_, p2⟩ := hP.split (i + 1)
  have len : (((ts.take i).map V.ref ++ [v]) ++ (ts.drop (i + 1)).map V.ref).length ≤ 1000 := by
    rw [List.length_append, List.length_append, List.length_map, List.length_map, List.length_take, List.length_drop, List.length_singleton]
    omega
  refine .inr ⟨R2, _, rfl, SqL.of hR, len, ?_⟩
  rcases hv with hb | ⟨a, rfl, ha⟩
  · refine .inl ⟨_, ((RowsB.good p1 fun r hr => ok r (List.mem_of_mem_take hr)).append (bs := List.replicate (rs.take i).length true) (cs := [false]) (ys := [v]) ⟨.inr ⟨rfl, hb⟩, trivial⟩).append (RowsB.good p2 fun r hr => ok r (List.mem_of_mem_drop hr)), by simp⟩
  · have hn2 : n2 < f := by
      rw [List.getElem?_map] at hj2
      obtain ⟨r, hr, e⟩ := Option.map_eq_some_iff.mp hj2
      rw [← e]
      exact (ok r (List.mem_of_getElem? hr)).num
    refine .inr ⟨(ts.take i ++ [a]) ++ ts.drop (i + 1), (rs.take i ++ [(n2, d, o)]) ++ rs.drop (i + 1), by simp, (p1.app (us := [a]) (vs := [(n2, d, o)]) ⟨ha, trivial⟩).app p2, fun r hr => ?_, fun nd => ?_⟩
    · rcases List.mem_append.mp hr with hr | hr
      · rcases List.mem_append.mp hr with hr | hr
        · exact ok r (List.mem_of_mem_take hr)
        · rw [List.mem_singleton.mp hr]
          exact ⟨hn2, hd, ho⟩
      · exact ok r (List.mem_of_mem_drop hr)
    · rw [List.map_append, List.map_append] at nd
      have hjl := (List.getElem?_eq_some_iff.mp hj2).1
      rw [List.length_map] at hjl
      have at1 : ((rs.take i).map (·.1) ++ [n2] ++ (rs.drop (i + 1)).map (·.1))[i]? = some n2 := by
        have z : ((rs.take i).map (·.1)).length = i := by rw [List.length_map, List.length_take]; omega
        rw [List.append_assoc, List.getElem?_append_right (by omega), z, Nat.sub_self]
        rfl
      have at2 : ((rs.take i).map (·.1) ++ [n2] ++ (rs.drop (i + 1)).map (·.1))[j]? = some n2 := by
        have z : ((rs.take i).map (·.1)).length = i := by rw [List.length_map, List.length_take]; omega
        rw [List.getElem?_map] at hj2
        rcases Nat.lt_or_gt_of_ne hj with l | l
        · rw [List.append_assoc, List.getElem?_append_left (by omega), List.getElem?_map, List.getElem?_take, if_pos l]
          exact hj2
        · rw [List.getElem?_append_right (by rw [List.length_append, z]; exact l), List.length_append, z, List.getElem?_map, List.getElem?_drop]
          show Option.map _ rs[i + 1 + (j - (i + 1))]? = some n2
          rw [show i + 1 + (j - (i + 1)) = j by omega]
          exact hj2
      have nd2 : ((rs.take i).map (·.1) ++ [n2] ++ (rs.drop (i + 1)).map (·.1)).Nodup := nd
      exact hj ((List.getElem?_inj (List.getElem?_eq_some_iff.mp at2).1 nd2).mp (at2.trans at1.symm))
end
/-! ### the law's loop over its numbers -/
theorem seq_new {K : PySem.W.Frag} {a p : Addr} {xs : List V} {H H1 H2 : Hp} (h : SqL K H a xs) (hp : H p = none) (s1 : Same H H1) (s2 : Stp p H1 H2) : SqL K H2 a xs := by
  rcases h with (h | ⟨o, h⟩) | h
  · exact .inl (.inl (s2.keep _ _ (ne_of_none h hp) (s1 _ _ h)))
  · exact .inl (.inr ⟨o, s2.keep _ _ (ne_of_none h hp) (s1 _ _ h)⟩)
  · exact .inr h
/-! ### law k08: the law itself -/
theorem RpAt.rev {H : Hp} : ∀ {ts : List Addr} {rs : List RowP}, RpAt H ts rs → RpAt H ts.reverse rs.reverse
  | [], [], h => h
  | a :: ts, r :: rs, h => by
    rw [List.reverse_cons, List.reverse_cons]
    exact (RpAt.rev h.2).app (us := [a]) (vs := [r]) ⟨h.1, trivial⟩
  | [], _ :: _, h => h.elim
  | _ :: _, [], h => h.elim
abbrev od08 (o1 o2 o3 o4 o6 o7 oa : Addr) : List V := [.non, .int 5, .str "s", .ref o1, .ref o2, .ref o3, .ref o4, .ref o6, .ref o7, .bl true, .ref oa]
theorem bad_od08 {K : PySem.W.Frag} {H : Hp} {o1 o2 o3 o4 o6 o7 o8 oa : Addr} {x0 x1 x2 x3 x4 : V} (e1 : H o1 = some (.lst [])) (e2 : H o2 = some (.dK [])) (e3 : H o3 = some (.tup [])) (e4 : H o4 = some (.lst [x0, x1, x2, x3, x4])) (e6 : H o6 = some (.tup [x0, x1, x2, x3, x4, .int 1])) (e7 : H o7 = some (.tup [x0, x1, x2, x3]))
    (e8 : H o8 = some (.tup [])) (ea : H oa = some (.tup [.ref o8, .ref o8, .ref o8, .ref o8, .ref o8])) : ∀ x ∈ od08 o1 o2 o3 o4 o6 o7 oa, BadSnap K H x := by
  intro x hx
  have hx1 : x = .non ∨ x = .int 5 ∨ x = .str "s" ∨ x = .ref o1 ∨ x = .ref o2 ∨ x = .ref o3 ∨ x = .ref o4 ∨ x = .ref o6 ∨ x = .ref o7 ∨ x = .bl true ∨ x = .ref oa := by
    simpa using hx
  rcases hx1 with e | e | e | e | e | e | e | e | e | e | e <;> subst e
  · exact .inl ⟨_, .base .non, by decide +kernel⟩
  · exact .inl ⟨_, .base (.int 5), by decide +kernel⟩
  · exact .inl ⟨_, .base (.str _), by decide +kernel⟩
  · exact .inl ⟨_, .base (.lst e1), by decide +kernel⟩
  · exact .inl ⟨_, .base (.dK e2), by decide +kernel⟩
  · exact .inr ⟨_, _, rfl, e3, .inl (by simp)⟩
  · exact .inl ⟨_, .base (.lst e4), by decide +kernel⟩
  · exact .inr ⟨_, _, rfl, e6, .inl (by simp)⟩
  · exact .inr ⟨_, _, rfl, e7, .inl (by simp)⟩
  · exact .inl ⟨_, .base (.bl true), by decide +kernel⟩
  · exact .inr ⟨_, _, rfl, ea, .inr ⟨_, _, _, _, _, rfl, .inl (.inl (.of_tup e8))⟩⟩
abbrev no08 (v1 : Addr) : List V := [.bl true, .int (-1), .non, .str "0", .ref v1]
section
variable {P : Program} {w : World} {K : PySem.W.Frag} {mg : Str → Option Value} {base : Heap}
def spLaw (K : PySem.W.Frag) : Sp := fun vs H Q _ => ∃ (a : Addr) (ns : List Int), vs = [.ref a] ∧ SqL K H a (ns.map V.int) ∧ ns.length ≤ 63 ∧ ∀ H', Q (.bl true) H'
set_option maxHeartbeats 40000000 in
theorem ok_law {f : Addr} {fd : FuncData} (F : Fun K "law" "law" s_law f fd) (T : Tx K mg) (h1 : Has P w K mg base 2 "_law_source" ["_law_script", "_law_k"] [] (spSource K)) (h2 : Has P w K mg base 3 "_law_base" ["_law_source_here"] [] spBase)
    (h3 : Has P w K mg base 3 "_law_levels" ["_law_source_here"] [] spLevels) (h4 : Has P w K mg base 2 "_law_next" ["_law_source_here", "_law_many"] [] spNext) (h5 : Has P w K mg base 8 "_law_word" ["_law_thing"] [] (spWord08 K))
    (h6 : Has P w K mg base 3 "_law_spoilt" ["_law_source_here", "_law_good"] [] (spSpoilt08 K)) :
    FnOk P w K mg base CX0 9 f fd ["_law_script"] (spLaw K) := by
  obtain ⟨f__law_source, fd__law_source, ds__law_source, G__law_source, m__law_source, k__law_source, b__law_source, v__law_source⟩ := h1
  obtain ⟨f__law_base, fd__law_base, ds__law_base, G__law_base, m__law_base, k__law_base, b__law_base, v__law_base⟩ := h2
  obtain ⟨f__law_levels, fd__law_levels, ds__law_levels, G__law_levels, m__law_levels, k__law_levels, b__law_levels, v__law_levels⟩ := h3
  obtain ⟨f__law_next, fd__law_next, ds__law_next, G__law_next, m__law_next, k__law_next, b__law_next, v__law_next⟩ := h4
  obtain ⟨f__law_word, fd__law_word, ds__law_word, G__law_word, m__law_word, k__law_word, b__law_word, v__law_word⟩ := h5
  obtain ⟨f__law_spoilt, fd__law_spoilt, ds__law_spoilt, G__law_spoilt, m__law_spoilt, k__law_spoilt, b__law_spoilt, v__law_spoilt⟩ := h6
  refine F.ok sc_law (fun vs H Q E h => ?_) (fun cdv A outer s H vs Q E hr h => ?_)
  · obtain ⟨a, ns, rfl, _⟩ := h
    rfl
  · obtain ⟨a, ns, rfl, hS, hlen, q⟩ := h
    refine ⟨_, (pss_cons (ps_for PassesOwn.never rfl (pi_range1 (by rfl) T.b_range (pa_cons (pe_callB (call_max2 rfl) (by rfl) T.b_max (by decide +kernel) (pa_cons pe_int (pa_cons (pe_callB (call_min2 rfl) (by rfl) T.b_min (by decide +kernel) (pa_cons pe_int (pa_cons (pe_callB (lenK (K := K) rfl) (by rfl) T.b_len PySem.boot_len (pa_cons (pv 0) pa_nil)) pa_nil))) pa_nil))) pa_nil)) (pg_name (i := 1) sc_law.nd rfl (.inl rfl))
        (pss_cons (ps_set (i := 2) sc_law.nd rfl (.inr rfl) (pe_call G__law_source (hr.mono (by decide)) (by rfl) m__law_source k__law_source b__law_source v__law_source pass0 (pa_cons (pv 0) (pa_cons (pv 1) pa_nil))))
        (pss_cons (ps_par (i := 3) (j := 4) (by rfl) sc_law.nd rfl rfl (by decide) rfl rfl (pa_cons (pe_call G__law_base (hr.mono (by decide)) (by rfl) m__law_base k__law_base b__law_base v__law_base pass0 (pa_cons (pv 2) pa_nil)) (pa_cons (pe_call G__law_levels (hr.mono (by decide)) (by rfl) m__law_levels k__law_levels b__law_levels v__law_levels pass0 (pa_cons (pv 2) pa_nil)) pa_nil)) (by rfl))
        (pss_cons (ps_set (i := 5) sc_law.nd rfl (.inr rfl) (pe_op op_addN pe_int (pe_call G__law_next (hr.mono (by decide)) (by rfl) m__law_next k__law_next b__law_next v__law_next pass0 (pa_cons (pv 2) (pa_cons (pe_op op_pow pe_int pe_int) pa_nil)))))
        (pss_cons (ps_set (i := 6) sc_law.nd rfl (.inl rfl) (pe_op op_addN pe_int (pe_call G__law_next (hr.mono (by decide)) (by rfl) m__law_next k__law_next b__law_next v__law_next pass0 (pa_cons (pv 2) (pa_cons pe_int pa_nil)))))
        (pss_cons (ps_setLc (i := 7) (own := [("_law_number", 12)]) (g := gName 12) (tt := tYes) rfl sc_law.nd rfl rfl (sw_true rfl rfl rfl (by decide +kernel)) (pi_range1 (by rfl) T.b_range (pa_cons (pv 6) pa_nil)) (blkOk_by (own := [("_law_number", 12)]) (N := N_law) (sc := defScope s_law) (by decide +kernel)) (fun _ _ _ _ _ => (pg_name (i := 12) sc_law.nd rfl (.inl rfl))) (fun _ _ _ _ _ => pts_nil) (fun _ _ _ _ _ => (pe_tup (pa_cons (pv 12) (pa_cons (pe_op op_addN (pe_op op_addN (pv 5) pe_int) (pe_call G__law_next (hr.mono (by decide)) (by rfl) m__law_next k__law_next b__law_next v__law_next pass0 (pa_cons (pv 2) (pa_cons pe_int pa_nil)))) (pa_cons (pe_ix (ix_listK (K := K) rfl) (pe_lst (pa_cons pe_non (pa_cons pe_int pa_nil))) (pe_call G__law_next (hr.mono (by decide)) (by rfl) m__law_next k__law_next b__law_next v__law_next pass0 (pa_cons (pv 2) (pa_cons pe_int pa_nil))) (fun _ _ => rfl)) pa_nil))))))
        (pss_cons (ps_set (i := 7) sc_law.nd rfl (.inl rfl) (pe_slice (sl_listK (K := K) rfl) (pe_revL (pv 7)) po_none (po_some (pe_op op_addN pe_int (pe_call G__law_next (hr.mono (by decide)) (by rfl) m__law_next k__law_next b__law_next v__law_next pass0 (pa_cons (pv 2) (pa_cons (pe_op op_subN (pv 6) pe_int) pa_nil)))))))
        (pss_cons (ps_set (i := 8) sc_law.nd rfl (.inl rfl) (pe_tup (pa_cons (pv 3) (pa_cons (pv 4) (pa_cons (pv 5) (pa_cons (pv 6) (pa_cons (pv 7) pa_nil)))))))
        (pss_cons (ps_set (i := 9) sc_law.nd rfl (.inl rfl) (pe_call G__law_spoilt (hr.mono (by decide)) (by rfl) m__law_spoilt k__law_spoilt b__law_spoilt v__law_spoilt pass0 (pa_cons (pv 2) (pa_cons (pv 8) pa_nil))))
        (pss_cons (ps_if (PW.pt (pw_or (pt_cmpR op_ne (pe_call G__law_word hr (by rfl) m__law_word k__law_word b__law_word v__law_word pass0 (pa_cons (pv 9) pa_nil)) pe_str (nomark _)) (pw_or (pt_cmpR op_ne (pe_call G__law_word hr (by rfl) m__law_word k__law_word b__law_word v__law_word pass0 (pa_cons (pv 8) pa_nil)) pe_str (nomark _)) (pw_or1 (pt_cmpR op_ne (pe_call G__law_word hr (by rfl) m__law_word k__law_word b__law_word v__law_word pass0 (pa_cons (pe_op op_catT (pe_slice (sl_tupK (K := K) rfl) (pv 8) po_none (po_some pe_int)) (pe_tup (pa_cons (pe_revL (pv 7)) pa_nil))) pa_nil)) pe_str (nomark _))))))
          (pss_one (ps_ret pe_bl))
          pss_nil)
        (pss_cons (ps_set (i := 10) sc_law.nd rfl (.inl rfl) (pe_ix (ix_listK (K := K) rfl) (pe_lst (pa_cons pe_non (pa_cons pe_int (pa_cons pe_str (pa_cons (pe_lst pa_nil) (pa_cons pe_dnewK (pa_cons (pe_tup pa_nil) (pa_cons (pe_callTy call_list_of (by rfl) T.b_list (by decide +kernel) (pa_cons (pv 8) pa_nil)) (pa_cons (pe_op op_catT (pv 8) (pe_tup (pa_cons pe_int pa_nil))) (pa_cons (pe_slice (sl_tupK (K := K) rfl) (pv 8) po_none (po_some pe_int)) (pa_cons pe_bl (pa_cons (pe_op op_repT (pe_tup (pa_cons (pe_tup pa_nil) pa_nil)) pe_int) pa_nil)))))))))))) (pe_call G__law_next (hr.mono (by decide)) (by rfl) m__law_next k__law_next b__law_next v__law_next pass0 (pa_cons (pv 2) (pa_cons pe_int pa_nil))) (fun _ _ => rfl)))
        (pss_cons (ps_for PassesOwn.never rfl (pi_list (pe_lst (pa_cons pe_bl (pa_cons (pe_un un_neg pe_int) (pa_cons pe_non (pa_cons pe_str (pa_cons (pe_lst (pa_cons pe_int pa_nil)) pa_nil))))))) (pg_name (i := 11) sc_law.nd rfl (.inl rfl))
          (pss_one (ps_if (pt_cmpR op_ne (pe_call G__law_word hr (by rfl) m__law_word k__law_word b__law_word v__law_word pass0 (pa_cons (pe_tup (pa_cons (pv 3) (pa_cons (pv 4) (pa_cons (pv 5) (pa_cons (pv 11) (pa_cons (pe_lst pa_nil) pa_nil)))))) pa_nil)) pe_str (nomark _))
            (pss_one (ps_ret pe_bl))
            pss_nil)))
        (pss_cons (ps_if (pt_cmpR op_ne (pe_call G__law_word hr (by rfl) m__law_word k__law_word b__law_word v__law_word pass0 (pa_cons (pe_tup (pa_cons (pv 3) (pa_cons (pv 4) (pa_cons (pv 5) (pa_cons pe_int (pa_cons (pe_lst pa_nil) pa_nil)))))) pa_nil)) pe_str (nomark _))
          (pss_one (ps_ret pe_bl))
          pss_nil)
        (pss_one (ps_if (PW.pt (pw_or (pt_cmpR op_ne (pe_call G__law_word hr (by rfl) m__law_word k__law_word b__law_word v__law_word pass0 (pa_cons (pv 10) pa_nil)) pe_str (nomark _)) (pw_or1 (pt_cmpR (op_neK (K := K) rfl hr.units) (pv 8) (pe_tup (pa_cons (pv 3) (pa_cons (pv 4) (pa_cons (pv 5) (pa_cons (pv 6) (pa_cons (pv 7) pa_nil)))))) (nomark _)))))
          (pss_one (ps_ret pe_bl))
          pss_nil)))))))))))))))
      (pss_one (ps_ret pe_bl))), ?_⟩
    refine ⟨.ref a, rfl, a, ns.map V.int, rfl, .inl hS, 10, _, rfl, 1, _, rfl, _, rfl, ?_, ?_, for_range (Pv := fun i σ H' => SqL K H' a (ns.map V.int) ∧ ∃ y1 y2 y3 y4 y5 y6 y7 y8 y9 y10 y11 y12, σ = [some (.ref a), y1, y2, y3, y4, y5, y6, y7, y8, y9, y10, y11, y12]) ⟨hS, none, none, none, none, none, none, none, none, none, none, none, none, rfl⟩ ?_ ?_⟩
    · split <;> split <;> omega
    · rw [List.length_map]
      split <;> split <;> omega
    · rintro i0 σ H0 hi ⟨hS, y1, y2, y3, y4, y5, y6, y7, y8, y9, y10, y11, y12, rfl⟩
      refine ⟨_, rfl, _, rfl, a, ns, 0 + i0, rfl, hS, fun H1 p s1 hp0 hsrc => ?_⟩
      refine ⟨_, rfl, p, rfl, hsrc, fun b H2 hb hb64 s2 => ⟨_, rfl, p, rfl, s2.src, fun H3 q0 ws s3 hq00 hq0 hne h60 => ⟨.int (b : Nat), .ref q0, rfl, ?_⟩⟩⟩
      have nq0 : q0 ≠ p := s2.src.ne hq00
      -- now, how many
      refine ⟨_, rfl, 10, 9, rfl, rfl, ⟨by decide, by decide, by decide⟩, p, _, rfl, by decide, by decide, s3.src, fun r4 H4 hr4 s4 => ⟨2, r4, rfl, rfl, trivial, ?_⟩⟩
      refine ⟨_, rfl, p, 9, rfl, by decide, by decide, s4.src, fun r5 H5 hr5 s5 => ⟨2, r5, rfl, rfl, trivial, ?_⟩⟩
      have hr5' : r5 < 9 := by omega
      -- the rows
      refine ⟨_, rfl, ((2 + r5 : Nat) : Int), rfl, by omega, by omega, fun D hD => lc_range (lo := 0) (n := (((2 + r5 : Nat) : Nat) : Int).toNat) (fun i H' => Stp p H5 H' ∧ ∃ (ts : List Addr) (rs : List RowP), H' D = some (.lst (ts.map V.ref)) ∧ RpAt H' ts rs ∧ rs.map (·.1) = List.range i ∧ ∀ r ∈ rs, 2 + r4 < r.2.1 ∧ ∀ k, r.2.2 = some k → 1 ≤ k)
        ⟨s5.src.stp_same (same_upd hD), [], [], upd_same, trivial, rfl, fun r hr => by cases hr⟩ ?_ ?_⟩
      · rintro i H' hi ⟨st, ts, rs, eD, hP, hnum, hrs⟩
        have nD : D ≠ p := s5.src.ne hD
        refine ⟨rfl, yesT (iteT ?_)⟩
        refine ⟨_, rfl, _, rfl, 2 + r4, 1, rfl, rfl, trivial, _, rfl, p, 50, rfl, by decide, by decide, st.src, fun r6 H6 hr6 s6 => ⟨2 + r4 + 1, r6, rfl, rfl, trivial, by simp [sizeLine_eq], fun l hl => ?_⟩⟩
        have s7 : Stp p H6 (upd H6 l (.lst [.non, .int 4])) := s6.src.stp_same (same_upd hl)
        have nl := s6.src.ne hl
        refine ⟨_, rfl, p, 2, rfl, by decide, by decide, s7.src, fun r8 H8 hr8 s8 => ?_⟩
        have el := s8.keep _ _ nl upd_same
        obtain ⟨o, eo, ho⟩ : ∃ o : Option Nat, ([.non, .int 4] : List V)[r8]? = some (perV o) ∧ ∀ k, o = some k → 1 ≤ k := by
          have h2 : r8 < 2 := by omega
          match r8, h2 with
          | 0, _ => exact ⟨none, rfl, fun k z => by cases z⟩
          | 1, _ => exact ⟨some 4, rfl, fun k z => by cases z; decide⟩
          | c + 2, h => omega
        refine ⟨l, _, r8, _, rfl, rfl, SqL.of el, atI_nat eo, by simp [sizeLine_eq], fun u hu => ?_⟩
        have sa := (s6.trans s7).trans s8
        have su := same_upd (o := .tup [.int (0 + (i : Int)), .int ((2 + r4 + 1 + r6 : Nat) : Int), perV o]) hu
        have eu : (upd H8 u (.tup [.int (0 + (i : Int)), .int ((2 + r4 + 1 + r6 : Nat) : Int), perV o])) u = some (.tup (rowPV (i, 2 + r4 + 1 + r6, o))) := by
          rw [upd_same]
          show some (HO.tup [.int (0 + (i : Int)), _, _]) = some (HO.tup [.int ((i : Nat) : Int), _, _])
          rw [Int.zero_add]
        have eD8 := su _ _ (sa.keep _ _ nD eD)
        have sab : Stp p H' (upd H8 u (.tup [.int (0 + (i : Int)), .int ((2 + r4 + 1 + r6 : Nat) : Int), perV o])) := sa.same su
        generalize upd H8 u (.tup [.int (0 + (i : Int)), .int ((2 + r4 + 1 + r6 : Nat) : Int), perV o]) = H9 at eu eD8 sab ⊢
        have tupK : ∀ (u : Addr) (xs : List V), H' u = some (.tup xs) → u ≠ p := fun u xs e z => by
          obtain ⟨x, y, z2, h⟩ := st.src
          rw [z, h] at e
          cases e
        have hP9 : RpAt H9 ts rs := hP.frame fun u xs e => sab.keep _ _ (tupK _ _ e) e
        have frT : ∀ {v : Addr} {xs : List V} {z : HO}, H9 v = some (.tup xs) → upd H9 D z v = some (.tup xs) := fun {v xs z} e => by
          rw [upd_ne (ne_of e eD8 (by intro z; cases z))]
          exact e
        have hl2 : ts.length = i := by
          rw [hP.len, ← List.length_map (as := rs) (·.1), hnum, List.length_range]
        refine ⟨_, eD8, ?_, ⟨fun c o' n e => ?_, ?_⟩, ts ++ [u], rs ++ [(i, 2 + r4 + 1 + r6, o)], ?_, ?_, ?_, ?_⟩
        · rw [List.length_map]
          have : i < 2 + r5 := by
            have z : i < ((((2 + r5 : Nat) : Nat) : Int)).toNat := hi
            omega
          exact sizeLine_ge (by omega)
        · rw [upd_ne (ne_of_none e hD)]
          exact sab.keep _ _ n (st.keep _ _ n e)
        · obtain ⟨x, y, z, h⟩ := sab.src
          exact ⟨x, y, z, by rw [upd_ne nD.symm]; exact h⟩
        · rw [upd_same, List.map_append]
          rfl
        · exact RpAt.snoc (frT eu) (hP9.frame fun v xs e => frT e)
        · rw [List.map_append, hnum, List.range_succ]
          rfl
        · intro r hr
          rcases List.mem_append.mp hr with h | h
          · exact hrs r h
          · rw [List.mem_singleton.mp h]
            exact ⟨by show 2 + r4 < 2 + r4 + 1 + r6; omega, ho⟩
      rintro H6 ⟨s6, ts, rs, eD, hP, hnum, hrs⟩
      have em : ((((2 + r5 : Nat) : Nat) : Int)).toNat = 2 + r5 := Int.toNat_natCast _
      rw [em] at hnum
      have hrl : rs.length = 2 + r5 := by rw [← List.length_map (as := rs) (·.1), hnum, List.length_range]
      have hl := hP.len
      -- turned about, cut
      refine ⟨_, rfl, D, _, rfl, SqL.of eD, fun R1 hR1 => ?_⟩
      have s7 : Stp p H6 (upd H6 R1 (.lst (ts.map V.ref).reverse)) := s6.src.stp_same (same_upd hR1)
      have nR1 := s6.src.ne hR1
      refine ⟨_, rfl, _, rfl, 2 + r5, 1, rfl, rfl, (by show 1 ≤ 2 + r5; omega), p, ((2 + r5 - 1 : Nat) : Int), rfl, by omega, by omega, s7.src, fun r8 H8 hr8 s8 => ⟨2, r8, rfl, rfl, trivial, ?_⟩⟩
      have hr8' : r8 < 2 + r5 - 1 := by omega
      refine ⟨((2 + r8 : Nat) : Int), rfl, R1, _, rfl, SqL.of (s8.keep _ _ nR1 upd_same), fun R hR => ?_⟩
      have eR : (upd H8 R (.lst (cutV (ts.map V.ref).reverse none (some ((2 + r8 : Nat) : Int))))) R = some (.lst (((ts.reverse).take (2 + r8)).map V.ref)) := by
        rw [upd_same, cutTo, ← List.map_reverse, List.map_take]
      have s9 : Stp p H8 (upd H8 R (.lst (cutV (ts.map V.ref).reverse none (some ((2 + r8 : Nat) : Int))))) := s8.src.stp_same (same_upd hR)
      have nR := s8.src.ne hR
      generalize upd H8 R (.lst (cutV (ts.map V.ref).reverse none (some ((2 + r8 : Nat) : Int)))) = H9 at eR s9 ⊢
      have tupK : ∀ (u : Addr) (xs : List V), H6 u = some (.tup xs) → u ≠ p := fun u xs e z => by
        obtain ⟨x, y, z2, h⟩ := s6.src
        rw [z, h] at e
        cases e
      have s69 := (s7.trans s8).trans s9
      have hP9 : RpAt H9 ((ts.reverse).take (2 + r8)) ((rs.reverse).take (2 + r8)) := ((hP.frame fun u xs e => s69.keep _ _ (tupK _ _ e) e).rev.split (2 + r8)).1
      obtain ⟨us, hus⟩ : ∃ us, us = (ts.reverse).take (2 + r8) := ⟨_, rfl⟩
      obtain ⟨vs', hvs⟩ : ∃ vs', vs' = (rs.reverse).take (2 + r8) := ⟨_, rfl⟩
      rw [← hus] at eR hP9
      rw [← hvs] at hP9
      have hvl : vs'.length = 2 + r8 := by
        rw [hvs, List.length_take, List.length_reverse]
        omega
      have hmem : ∀ r ∈ vs', r ∈ rs := fun r hr => by
        rw [hvs] at hr
        exact List.mem_reverse.mp (List.mem_of_mem_take hr)
      have hnd : (vs'.map (·.1)).Nodup := by
        rw [hvs, List.map_take, List.map_reverse, hnum]
        exact (List.pairwise_reverse.mpr (List.nodup_range.imp fun h e => h e.symm)).sublist (List.take_sublist _ _)
      have hrok : ∀ r ∈ vs', RowOk (2 + r4) (2 + r5) r := fun r hr => by
        have h := hmem r hr
        have hn : r.1 ∈ List.range (2 + r5) := by
          rw [← hnum]
          exact List.mem_map_of_mem h
        exact ⟨List.mem_range.mp hn, (hrs r h).1, (hrs r h).2⟩
      have htop : ∃ r ∈ vs', r.1 + 1 = 2 + r5 := by
        have h0 : (vs'.map (·.1))[0]? = some (2 + r5 - 1) := by
          rw [hvs, List.map_take, List.map_reverse, hnum, List.getElem?_take, if_pos (by omega), List.getElem?_reverse (by rw [List.length_range]; omega), List.length_range, List.getElem?_range (by omega)]
          exact congrArg some (by omega)
        rw [List.getElem?_map] at h0
        obtain ⟨r, hr, e⟩ := Option.map_eq_some_iff.mp h0
        exact ⟨r, List.mem_of_getElem? hr, by omega⟩
      have s39 : Stp p H3 H9 := (((s4.trans s5).trans s6)).trans s69
      have hq9 := s39.keep _ _ nq0 hq0
      -- the good one
      refine ⟨_, rfl, _, rfl, _, rfl, _, rfl, _, rfl, by simp [sizeLine_eq], fun g hg => ?_⟩
      have sg := same_upd (o := .tup [.int (b : Nat), .ref q0, .int ((2 + r4 : Nat) : Int), .int ((2 + r5 : Nat) : Int), .ref R]) hg
      have eg : (upd H9 g (.tup [.int (b : Nat), .ref q0, .int ((2 + r4 : Nat) : Int), .int ((2 + r5 : Nat) : Int), .ref R])) g = some (.tup [.int (b : Nat), .ref q0, .int ((2 + r4 : Nat) : Int), .int ((2 + r5 : Nat) : Int), .ref R]) := upd_same
      generalize upd H9 g (.tup [.int (b : Nat), .ref q0, .int ((2 + r4 : Nat) : Int), .int ((2 + r5 : Nat) : Int), .ref R]) = HG at sg eg ⊢
      have hG : Good08 K HG g b q0 (2 + r4) (2 + r5) R ws us vs' := ⟨eg, hb, hb64, sg _ _ hq9, hne, h60, sg _ _ eR, hP9.same sg, hrok, hnd, by omega, by omega, by omega, htop⟩
      have cG := s9.src.same sg
      refine ⟨_, rfl, _, rfl, p, g, b, q0, 2 + r4, 2 + r5, R, ws, us, vs', rfl, cG, hG, fun HB x sB hbad => ?_⟩
      have hGB := hG.stp cG sB
      refine ⟨_, rfl, x, "snapshot", rfl, .inr ⟨hbad, rfl⟩, fun HC sC => ⟨rfl, false, nF rfl, iteF ?_⟩⟩
      have hGC := hGB.same sC
      refine ⟨_, rfl, .ref g, "told", rfl, .inl ⟨⟨g, b, ws, _, _, vs', rfl, hGC.snap.1, hGC.snap.2⟩, rfl⟩, fun HE sE => ⟨rfl, false, nF rfl, iteF ?_⟩⟩
      have hGE := hGC.same sE
      refine ⟨.ref g, rfl, 4, rfl, g, _, rfl, SqT.of hGE.eg, (fun z => absurd z.2 (by show ¬ HT.sIx 5 5 (some 4) = 5; decide)), fun g4 hg4 => ?_⟩
      have t1 := same_upd (o := .tup (cutV [.int (b : Nat), .ref q0, .int ((2 + r4 : Nat) : Int), .int ((2 + r5 : Nat) : Int), .ref R] none (some 4))) hg4
      have e1 : (upd HE g4 (.tup (cutV [.int (b : Nat), .ref q0, .int ((2 + r4 : Nat) : Int), .int ((2 + r5 : Nat) : Int), .ref R] none (some 4)))) g4 = some (.tup [.int (b : Nat), .ref q0, .int ((2 + r4 : Nat) : Int), .int ((2 + r5 : Nat) : Int)]) := upd_same
      generalize upd HE g4 (.tup (cutV [.int (b : Nat), .ref q0, .int ((2 + r4 : Nat) : Int), .int ((2 + r5 : Nat) : Int), .ref R] none (some 4))) = HF at t1 e1 ⊢
      refine ⟨_, rfl, R, _, rfl, SqL.of (t1 _ _ hGE.hR), fun R2 hR2 => ⟨by simp [sizeLine_eq], fun u2 hu2 => ?_⟩⟩
      have t2 := same_upd (o := .lst (us.map V.ref).reverse) hR2
      have e2 : (upd HF R2 (.lst (us.map V.ref).reverse)) R2 = some (.lst (us.reverse.map V.ref)) := by rw [upd_same, List.map_reverse]
      have t3 := same_upd (o := .tup [.ref R2]) hu2
      have e3 : (upd (upd HF R2 (.lst (us.map V.ref).reverse)) u2 (.tup [.ref R2])) u2 = some (.tup [.ref R2]) := upd_same
      refine ⟨g4, u2, _, _, rfl, rfl, SqT.of (t3 _ _ (t2 _ _ e1)), SqT.of e3, by simp, by simp [sizeLine_eq], (fun z => by cases z), fun _ u3 hu3 => ?_⟩
      have t4 := same_upd (o := .tup ([.int (b : Nat), .ref q0, .int ((2 + r4 : Nat) : Int), .int ((2 + r5 : Nat) : Int)] ++ [.ref R2])) hu3
      have e4 : (upd (upd (upd HF R2 (.lst (us.map V.ref).reverse)) u2 (.tup [.ref R2])) u3 (.tup ([.int (b : Nat), .ref q0, .int ((2 + r4 : Nat) : Int), .int ((2 + r5 : Nat) : Int)] ++ [.ref R2]))) u3 = some (.tup [.int (b : Nat), .ref q0, .int ((2 + r4 : Nat) : Int), .int ((2 + r5 : Nat) : Int), .ref R2]) := upd_same
      have t14 := ((t1.trans t2).trans t3).trans t4
      refine ⟨.ref u3, "told", rfl, .inl ⟨⟨u3, b, ws, 2 + r4, 2 + r5, vs'.reverse, rfl, ⟨⟨q0, R2, us.reverse, e4, SqL.of (t14 _ _ hGE.hq), SqL.of ((t3.trans t4) _ _ e2), (hGE.hP.same t14).rev⟩⟩, hb, hb64, hne, h60, fun r hr => hrok r (List.mem_reverse.mp hr), ?_, by rw [List.length_reverse]; omega⟩, rfl⟩, fun HI sI => ⟨rfl, false, nF rfl, iteF ?_⟩⟩
      · rw [List.map_reverse]
        exact List.pairwise_reverse.mpr (hnd.imp fun h e => h e.symm)
      have hGI := hGE.same (t14.trans sI)
      have cI : SrcAt HI p := (((sB.src.same sC).same sE).same t14).same sI
      -- odd things
      obtain ⟨eGI, hqI⟩ := And.intro hGI.eg hGI.hq
      refine ⟨by simp [sizeLine_eq], fun qo1 hqo1 => ?_⟩
      have so1 := same_upd (o := .lst []) hqo1
      have eo1 : (upd HI qo1 (.lst [])) qo1 = some (.lst []) := upd_same
      generalize upd HI qo1 (.lst []) = Ho1 at so1 eo1 ⊢
      have no1 := cI.ne hqo1
      have co1 := cI.same so1
      refine fun qo2 hqo2 => ?_
      have so2 := same_upd (o := .dK []) hqo2
      have eo2 : (upd Ho1 qo2 (.dK [])) qo2 = some (.dK []) := upd_same
      generalize upd Ho1 qo2 (.dK []) = Ho2 at so2 eo2 ⊢
      have no2 := co1.ne hqo2
      have co2 := co1.same so2
      refine ⟨by simp [sizeLine_eq], fun qo3 hqo3 => ?_⟩
      have so3 := same_upd (o := .tup []) hqo3
      have eo3 : (upd Ho2 qo3 (.tup [])) qo3 = some (.tup []) := upd_same
      generalize upd Ho2 qo3 (.tup []) = Ho3 at so3 eo3 ⊢
      have no3 := co2.ne hqo3
      have co3 := co2.same so3
      refine ⟨_, rfl, g, _, rfl, .inr (SqT.of (so3 _ _ (so2 _ _ (so1 _ _ eGI)))), fun qo4 hqo4 => ?_⟩
      have so4 := same_upd (o := .lst [.int (b : Nat), .ref q0, .int ((2 + r4 : Nat) : Int), .int ((2 + r5 : Nat) : Int), .ref R]) hqo4
      have eo4 : (upd Ho3 qo4 (.lst [.int (b : Nat), .ref q0, .int ((2 + r4 : Nat) : Int), .int ((2 + r5 : Nat) : Int), .ref R])) qo4 = some (.lst [.int (b : Nat), .ref q0, .int ((2 + r4 : Nat) : Int), .int ((2 + r5 : Nat) : Int), .ref R]) := upd_same
      generalize upd Ho3 qo4 (.lst [.int (b : Nat), .ref q0, .int ((2 + r4 : Nat) : Int), .int ((2 + r5 : Nat) : Int), .ref R]) = Ho4 at so4 eo4 ⊢
      have no4 := co3.ne hqo4
      have co4 := co3.same so4
      refine ⟨_, rfl, ?_⟩
      refine ⟨by simp [sizeLine_eq], fun qo5 hqo5 => ?_⟩
      have so5 := same_upd (o := .tup [.int 1]) hqo5
      have eo5 : (upd Ho4 qo5 (.tup [.int 1])) qo5 = some (.tup [.int 1]) := upd_same
      generalize upd Ho4 qo5 (.tup [.int 1]) = Ho5 at so5 eo5 ⊢
      have no5 := co4.ne hqo5
      have co5 := co4.same so5
      refine ⟨g, qo5, _, _, rfl, rfl, SqT.of (so5 _ _ (so4 _ _ (so3 _ _ (so2 _ _ (so1 _ _ eGI))))), SqT.of eo5, by simp, by simp [sizeLine_eq], (fun z => by cases z), fun _ qo6 hqo6 => ?_⟩
      have so6 := same_upd (o := .tup ([.int (b : Nat), .ref q0, .int ((2 + r4 : Nat) : Int), .int ((2 + r5 : Nat) : Int), .ref R] ++ [.int 1])) hqo6
      have eo6 : (upd Ho5 qo6 (.tup ([.int (b : Nat), .ref q0, .int ((2 + r4 : Nat) : Int), .int ((2 + r5 : Nat) : Int), .ref R] ++ [.int 1]))) qo6 = some (.tup ([.int (b : Nat), .ref q0, .int ((2 + r4 : Nat) : Int), .int ((2 + r5 : Nat) : Int), .ref R] ++ [.int 1])) := upd_same
      generalize upd Ho5 qo6 (.tup ([.int (b : Nat), .ref q0, .int ((2 + r4 : Nat) : Int), .int ((2 + r5 : Nat) : Int), .ref R] ++ [.int 1])) = Ho6 at so6 eo6 ⊢
      have no6 := co5.ne hqo6
      have co6 := co5.same so6
      refine ⟨_, rfl, 4, rfl, g, _, rfl, SqT.of (so6 _ _ (so5 _ _ (so4 _ _ (so3 _ _ (so2 _ _ (so1 _ _ eGI)))))), (fun z => absurd z.2 (by show ¬ HT.sIx 5 5 (some 4) = 5; decide)), fun qo7 hqo7 => ?_⟩
      have so7 := same_upd (o := .tup (cutV [.int (b : Nat), .ref q0, .int ((2 + r4 : Nat) : Int), .int ((2 + r5 : Nat) : Int), .ref R] none (some 4))) hqo7
      have eo7 : (upd Ho6 qo7 (.tup (cutV [.int (b : Nat), .ref q0, .int ((2 + r4 : Nat) : Int), .int ((2 + r5 : Nat) : Int), .ref R] none (some 4)))) qo7 = some (.tup (cutV [.int (b : Nat), .ref q0, .int ((2 + r4 : Nat) : Int), .int ((2 + r5 : Nat) : Int), .ref R] none (some 4))) := upd_same
      generalize upd Ho6 qo7 (.tup (cutV [.int (b : Nat), .ref q0, .int ((2 + r4 : Nat) : Int), .int ((2 + r5 : Nat) : Int), .ref R] none (some 4))) = Ho7 at so7 eo7 ⊢
      have no7 := co6.ne hqo7
      have co7 := co6.same so7
      refine ⟨by simp [sizeLine_eq], fun qo8 hqo8 => ?_⟩
      have so8 := same_upd (o := .tup []) hqo8
      have eo8 : (upd Ho7 qo8 (.tup [])) qo8 = some (.tup []) := upd_same
      generalize upd Ho7 qo8 (.tup []) = Ho8 at so8 eo8 ⊢
      have no8 := co7.ne hqo8
      have co8 := co7.same so8
      refine ⟨by simp [sizeLine_eq], fun qo9 hqo9 => ?_⟩
      have so9 := same_upd (o := .tup [.ref qo8]) hqo9
      have eo9 : (upd Ho8 qo9 (.tup [.ref qo8])) qo9 = some (.tup [.ref qo8]) := upd_same
      generalize upd Ho8 qo9 (.tup [.ref qo8]) = Ho9 at so9 eo9 ⊢
      have no9 := co8.ne hqo9
      have co9 := co8.same so9
      refine ⟨qo9, 5, _, rfl, rfl, SqT.of eo9, by simp, by decide, by decide, by simp, fun qoa hqoa => ?_⟩
      have soa := same_upd (o := .tup (List.replicate (5 : Int).toNat [V.ref qo8]).flatten) hqoa
      have eoa : (upd Ho9 qoa (.tup (List.replicate (5 : Int).toNat [V.ref qo8]).flatten)) qoa = some (.tup (List.replicate (5 : Int).toNat [V.ref qo8]).flatten) := upd_same
      generalize upd Ho9 qoa (.tup (List.replicate (5 : Int).toNat [V.ref qo8]).flatten) = Hoa at soa eoa ⊢
      have noa := co9.ne hqoa
      have coa := co9.same soa
      refine ⟨by simp [sizeLine_eq], fun qob hqob => ?_⟩
      have sob := same_upd (o := .lst (od08 qo1 qo2 qo3 qo4 qo6 qo7 qoa)) hqob
      have eob : (upd Hoa qob (.lst (od08 qo1 qo2 qo3 qo4 qo6 qo7 qoa))) qob = some (.lst (od08 qo1 qo2 qo3 qo4 qo6 qo7 qoa)) := upd_same
      generalize upd Hoa qob (.lst (od08 qo1 qo2 qo3 qo4 qo6 qo7 qoa)) = Hob at sob eob ⊢
      have nob := coa.ne hqob
      have cob := coa.same sob
      have kob : Same Hob Hob := fun _ _ e => e
      have koa := sob.trans kob
      have ko9 := soa.trans koa
      have ko8 := so9.trans ko9
      have ko7 := so8.trans ko8
      have ko6 := so7.trans ko7
      have ko5 := so6.trans ko6
      have ko4 := so5.trans ko5
      have ko3 := so4.trans ko4
      have ko2 := so3.trans ko3
      have ko1 := so2.trans ko2
      refine ⟨_, rfl, p, 11, rfl, by decide, by decide, cob, fun r HJ hr sJ => ?_⟩
      have hx : r < (od08 qo1 qo2 qo3 qo4 qo6 qo7 qoa).length := by show r < 11; omega
      have badO := bad_od08 (K := K) (sJ.keep _ _ no1 (ko1 _ _ eo1)) (sJ.keep _ _ no2 (ko2 _ _ eo2)) (sJ.keep _ _ no3 (ko3 _ _ eo3)) (sJ.keep _ _ no4 (ko4 _ _ eo4)) (sJ.keep _ _ no6 (ko6 _ _ eo6)) (sJ.keep _ _ no7 (ko7 _ _ eo7)) (sJ.keep _ _ no8 (ko8 _ _ eo8)) (sJ.keep _ _ noa (koa _ _ eoa)) _ (List.getElem_mem hx)
      refine ⟨qob, _, r, _, rfl, rfl, SqL.of (sJ.keep _ _ nob eob), atI_nat (List.getElem?_eq_getElem hx), ?_⟩
      generalize (od08 qo1 qo2 qo3 qo4 qo6 qo7 qoa)[r] = xo at badO ⊢
      have hGJ := (hGI.same (so1.trans ko1)).stp cob sJ
      have stJ : Stp p HG HJ := ((((sB.same sC).same sE).same (t14.trans sI)).same (so1.trans ko1)).trans sJ
      clear eoa eob eo9 eo8 eo7 eo6 eo5 eo4 eo3 eo2 eo1
      have cJ := sJ.src
      -- no numbers
      refine ⟨1, rfl, ?_⟩
      refine ⟨by simp [sizeLine_eq], fun qv1 hqv1 => ?_⟩
      have sv1 := same_upd (o := .lst [.int 0]) hqv1
      have ev1 : (upd HJ qv1 (.lst [.int 0])) qv1 = some (.lst [.int 0]) := upd_same
      generalize upd HJ qv1 (.lst [.int 0]) = Hv1 at sv1 ev1 ⊢
      have nv1 := cJ.ne hqv1
      have cv1 := cJ.same sv1
      refine ⟨by simp [sizeLine_eq], fun qv2 hqv2 => ?_⟩
      have sv2 := same_upd (o := .lst (no08 qv1)) hqv2
      have ev2 : (upd Hv1 qv2 (.lst (no08 qv1))) qv2 = some (.lst (no08 qv1)) := upd_same
      generalize upd Hv1 qv2 (.lst (no08 qv1)) = Hv2 at sv2 ev2 ⊢
      have nv2 := cv1.ne hqv2
      have cv2 := cv1.same sv2
      have sJ2 := sv1.trans sv2
      have hG2 := hGJ.same sJ2
      refine ⟨qv2, rfl, ⟨_, SqL.of ev2⟩, for_list (K := K) (a := qv2) (xs := no08 qv1) (fun i σ H' => (∃ y, σ = [some (.ref a), some (.int (0 + (i0 : Int))), some (.ref p), some (.int (b : Nat)), some (.ref q0), some (.int ((2 + r4 : Nat) : Int)), some (.int ((2 + r5 : Nat) : Int)), some (.ref R), some (.ref g), some x, some xo, y, y12]) ∧ Same Hv2 H') ⟨⟨_, rfl⟩, fun _ _ e => e⟩ (fun i σ H' _ ⟨_, sm⟩ => SqL.of (sm _ _ ev2)) ?_ ?_⟩
      · rintro i xn σ H' hxn ⟨⟨y, rfl⟩, sm⟩
        have hbad : NoInt K H' xn ∨ ∃ z : Int, xn = .int z ∧ z < 0 := by
          have hm := List.mem_of_getElem? hxn
          have hx1 : xn = .bl true ∨ xn = .int (-1) ∨ xn = .non ∨ xn = .str "0" ∨ xn = .ref qv1 := by simpa using hm
          rcases hx1 with e | e | e | e | e <;> subst e
          · exact .inl (.of_bl true)
          · exact .inr ⟨-1, rfl, by decide⟩
          · exact .inl .of_non
          · exact .inl (.of_str _)
          · exact .inl (.of_lst (sm _ _ (sv2 _ _ ev1)))
        refine ⟨_, rfl, _, rfl, _, rfl, _, rfl, by simp [sizeLine_eq], fun r1 hr1 => ?_⟩
        have w1 := same_upd (o := .lst []) hr1
        refine ⟨by simp [sizeLine_eq], fun u hu => ?_⟩
        have w2 := same_upd (o := .tup [.int (b : Nat), .ref q0, .int ((2 + r4 : Nat) : Int), xn, .ref r1]) hu
        have ew : (upd (upd H' r1 (.lst [])) u (.tup [.int (b : Nat), .ref q0, .int ((2 + r4 : Nat) : Int), xn, .ref r1])) u = some (.tup [.int (b : Nat), .ref q0, .int ((2 + r4 : Nat) : Int), xn, .ref r1]) := upd_same
        have w12 := w1.trans w2
        have hGw := (hG2.same sm).same w12
        refine ⟨.ref u, "snapshot", rfl, .inr ⟨.inr ⟨u, _, rfl, ew, .inr ⟨_, _, _, _, _, rfl, .inr ⟨b, rfl, hb, hb64, .inr ⟨q0, ws, rfl, SqL.of hGw.hq, hne, h60, .inr ⟨2 + r4, rfl, hbad.elim (fun z => .inl (z.same w12)) (fun z => .inr (.inl z))⟩⟩⟩⟩⟩, rfl⟩, fun HK sK => ⟨rfl, false, nF rfl, iteF ?_⟩⟩
        exact ⟨⟨_, rfl⟩, (sm.trans w12).trans sK⟩
      rintro σ HM ⟨⟨y, rfl⟩, sM⟩
      have hGM := hG2.same sM
      -- none at all
      refine ⟨_, rfl, _, rfl, _, rfl, by simp [sizeLine_eq], fun r1 hr1 => ?_⟩
      have w1 := same_upd (o := .lst []) hr1
      have er1 : (upd HM r1 (.lst [])) r1 = some (.lst []) := upd_same
      refine ⟨by simp [sizeLine_eq], fun u hu => ?_⟩
      have w2 := same_upd (o := .tup [.int (b : Nat), .ref q0, .int ((2 + r4 : Nat) : Int), .int 0, .ref r1]) hu
      have ew : (upd (upd HM r1 (.lst [])) u (.tup [.int (b : Nat), .ref q0, .int ((2 + r4 : Nat) : Int), .int 0, .ref r1])) u = some (.tup [.int (b : Nat), .ref q0, .int ((2 + r4 : Nat) : Int), .int ((0 : Nat) : Int), .ref r1]) := upd_same
      have w12 := w1.trans w2
      refine ⟨.ref u, "told", rfl, .inl ⟨⟨u, b, ws, 2 + r4, 0, [], rfl, ⟨⟨q0, r1, [], ew, SqL.of (w12 _ _ hGM.hq), SqL.of (w2 _ _ er1), trivial⟩⟩, hb, hb64, hne, h60, (fun r hr => by cases hr), List.Pairwise.nil, by simp⟩, rfl⟩, fun HN sN => ⟨rfl, false, nF rfl, iteF ?_⟩⟩
      have sJN := ((sJ2.trans sM).trans w12).trans sN
      refine ⟨_, rfl, xo, "snapshot", rfl, .inr ⟨badO.same sJN, rfl⟩, fun HO_ sO => ⟨rfl, false, nF rfl, iteF ?_⟩⟩
      have hGO := hGJ.same (sJN.trans sO)
      refine ⟨.ref g, rfl, _, rfl, _, rfl, _, rfl, _, rfl, _, rfl, by simp [sizeLine_eq], fun u5 hu5 => ?_⟩
      have w5 := same_upd (o := .tup [.int (b : Nat), .ref q0, .int ((2 + r4 : Nat) : Int), .int ((2 + r5 : Nat) : Int), .ref R]) hu5
      have hG5 := hGO.same w5
      have sn1 := hG5.snap.1
      have sn2 : SnapAt K (upd HO_ u5 (.tup [.int (b : Nat), .ref q0, .int ((2 + r4 : Nat) : Int), .int ((2 + r5 : Nat) : Int), .ref R])) u5 b ws (2 + r4) (2 + r5) vs' := ⟨⟨q0, R, us, upd_same, SqL.of hG5.hq, SqL.of hG5.hR, hG5.hP⟩⟩
      refine ⟨_, _, snap_dp sn1, snap_dp sn2, snap_shaped _ _ _ _ _, snap_shaped _ _ _ _ _, false, neq_refl (snap_lay _ _ _ _ _), iteF ?_⟩
      refine ⟨seq_new hS hp0 s1 ((((((s2.trans s3).trans s39).same sg).trans stJ).same (sJN.trans sO)).same w5), _, _, _, _, _, _, _, _, _, _, _, _, rfl⟩
    · rintro σ H' ⟨hS, y1, y2, y3, y4, y5, y6, y7, y8, y9, y10, y11, y12, rfl⟩
      exact q H'
end
section
variable {P : Program} {w : World} {K : PySem.W.Frag} {mg : Str → Option Value} {base : Heap}
set_option maxHeartbeats 40000000 in
theorem ok_spoilt08 {f : Addr} {fd : FuncData} (F : Fun K "_law_spoilt" "_law_spoilt" s__law_spoilt f fd) (T : Tx K mg) (h1 : Has P w K mg base 2 "_law_next" ["_law_source_here", "_law_many"] [] spNext) : FnOk P w K mg base CX0 3 f fd ["_law_source_here", "_law_good"] (spSpoilt08 K) := by
  obtain ⟨f__law_next, fd__law_next, ds__law_next, G__law_next, m__law_next, k__law_next, b__law_next, v__law_next⟩ := h1
  refine F.ok sc__law_spoilt (fun vs H Q E h => ?_) (fun cdv A outer s H0 vs Q E hr h => ?_)
  · obtain ⟨ps, g, b, q0, t, f, R, ws, ts, rs, rfl, _⟩ := h
    rfl
  · obtain ⟨ps, g, b, q0, t, f, R, ws, ts, rs, rfl, hs, hG, c⟩ := h
    refine ⟨_, (pss_cons (ps_asg (pv 1) (pg_tupK (K := K) (n := 5) rfl rfl (pgs_cons (pg_name (i := 2) sc__law_spoilt.nd rfl (.inl rfl)) (pgs_cons (pg_name (i := 3) sc__law_spoilt.nd rfl (.inl rfl)) (pgs_cons (pg_name (i := 4) sc__law_spoilt.nd rfl (.inl rfl)) (pgs_cons (pg_name (i := 5) sc__law_spoilt.nd rfl (.inl rfl)) (pgs_cons (pg_name (i := 6) sc__law_spoilt.nd rfl (.inl rfl)) pgs_nil)))))))
      (pss_cons (ps_set (i := 7) sc__law_spoilt.nd rfl (.inl rfl) (pe_call G__law_next hr (by rfl) m__law_next k__law_next b__law_next v__law_next pass0 (pa_cons (pv 0) (pa_cons pe_int pa_nil))))
      (pss_cons (ps_if (pt_cmpR op_eq (pv 7) pe_int (nomark _))
        (pss_one (ps_ret (pe_tup (pa_cons (pe_ix (ix_listK (K := K) rfl) (pe_lst (pa_cons pe_non (pa_cons pe_int (pa_cons pe_int (pa_cons pe_bl (pa_cons pe_str (pa_cons (pe_lst (pa_cons pe_int pa_nil)) (pa_cons pe_dnewK pa_nil)))))))) (pe_call G__law_next hr (by rfl) m__law_next k__law_next b__law_next v__law_next pass0 (pa_cons (pv 0) (pa_cons pe_int pa_nil))) (fun _ _ => rfl)) (pa_cons (pv 3) (pa_cons (pv 4) (pa_cons (pv 5) (pa_cons (pv 6) pa_nil))))))))
        pss_nil)
      (pss_cons (ps_if (pt_cmpR op_eq (pv 7) pe_int (nomark _))
        (pss_cons (ps_set (i := 8) sc__law_spoilt.nd rfl (.inl rfl) (pe_ix (ix_listK (K := K) rfl) (pe_lst (pa_cons pe_non (pa_cons (pe_lst pa_nil) (pa_cons (pe_lst (pa_cons pe_str pa_nil)) (pa_cons (pe_tup (pa_cons pe_str pa_nil)) (pa_cons pe_str (pa_cons (pe_op op_rep (pe_lst (pa_cons pe_str pa_nil)) pe_int) (pa_cons (pe_lst (pa_cons (pe_lst (pa_cons pe_str pa_nil)) pa_nil)) (pa_cons pe_dnewK pa_nil))))))))) (pe_call G__law_next hr (by rfl) m__law_next k__law_next b__law_next v__law_next pass0 (pa_cons (pv 0) (pa_cons pe_int pa_nil))) (fun _ _ => rfl)))
        (pss_one (ps_ret (pe_tup (pa_cons (pv 2) (pa_cons (pv 8) (pa_cons (pv 4) (pa_cons (pv 5) (pa_cons (pv 6) pa_nil)))))))))
        pss_nil)
      (pss_cons (ps_if (pt_cmpR op_eq (pv 7) pe_int (nomark _))
        (pss_one (ps_ret (pe_tup (pa_cons (pv 2) (pa_cons (pv 3) (pa_cons (pe_ix (ix_listK (K := K) rfl) (pe_lst (pa_cons pe_non (pa_cons (pe_un un_neg pe_int) (pa_cons pe_bl (pa_cons pe_str (pa_cons (pe_lst (pa_cons pe_int pa_nil)) (pa_cons pe_dnewK pa_nil))))))) (pe_call G__law_next hr (by rfl) m__law_next k__law_next b__law_next v__law_next pass0 (pa_cons (pv 0) (pa_cons pe_int pa_nil))) (fun _ _ => rfl)) (pa_cons (pv 5) (pa_cons (pv 6) pa_nil))))))))
        pss_nil)
      (pss_cons (ps_if (pt_cmpR op_eq (pv 7) pe_int (nomark _))
        (pss_one (ps_ret (pe_tup (pa_cons (pv 2) (pa_cons (pv 3) (pa_cons (pv 4) (pa_cons (pe_ix (ix_listK (K := K) rfl) (pe_lst (pa_cons pe_non (pa_cons (pe_un un_neg pe_int) (pa_cons pe_bl (pa_cons pe_str (pa_cons (pe_lst (pa_cons pe_int pa_nil)) (pa_cons pe_dnewK (pa_cons (pe_op op_sub (pv 5) pe_int) pa_nil)))))))) (pe_call G__law_next hr (by rfl) m__law_next k__law_next b__law_next v__law_next pass0 (pa_cons (pv 0) (pa_cons pe_int pa_nil))) (fun _ _ => rfl)) (pa_cons (pv 6) pa_nil))))))))
        pss_nil)
      (pss_cons (ps_if (pt_cmpR op_eq (pv 7) pe_int (nomark _))
        (pss_cons (ps_set (i := 8) sc__law_spoilt.nd rfl (.inl rfl) (pe_ix (ix_listK (K := K) rfl) (pe_lst (pa_cons pe_non (pa_cons (pe_callTy call_tuple_of (by rfl) T.b_tuple (by decide +kernel) (pa_cons (pv 6) pa_nil)) (pa_cons pe_int (pa_cons pe_str (pa_cons pe_dnewK (pa_cons (pe_op op_cat (pv 6) (pe_lst (pa_cons pe_non pa_nil))) (pa_cons (pe_op op_cat (pv 6) (pe_lst (pa_cons pe_int pa_nil))) pa_nil)))))))) (pe_call G__law_next hr (by rfl) m__law_next k__law_next b__law_next v__law_next pass0 (pa_cons (pv 0) (pa_cons pe_int pa_nil))) (fun _ _ => rfl)))
        (pss_one (ps_ret (pe_tup (pa_cons (pv 2) (pa_cons (pv 3) (pa_cons (pv 4) (pa_cons (pv 5) (pa_cons (pv 8) pa_nil)))))))))
        pss_nil)
      (pss_cons (ps_set (i := 9) sc__law_spoilt.nd rfl (.inl rfl) (pe_call G__law_next hr (by rfl) m__law_next k__law_next b__law_next v__law_next pass0 (pa_cons (pv 0) (pa_cons (pe_callB (lenK (K := K) rfl) (by rfl) T.b_len PySem.boot_len (pa_cons (pv 6) pa_nil)) pa_nil))))
      (pss_cons (ps_asg (pe_ix (ix_listK (K := K) rfl) (pv 6) (pv 9) (fun _ _ => rfl)) (pg_tupK (K := K) (n := 3) rfl rfl (pgs_cons (pg_name (i := 10) sc__law_spoilt.nd rfl (.inl rfl)) (pgs_cons (pg_name (i := 11) sc__law_spoilt.nd rfl (.inl rfl)) (pgs_cons (pg_name (i := 12) sc__law_spoilt.nd rfl (.inl rfl)) pgs_nil)))))
      (pss_cons (ps_set (i := 13) sc__law_spoilt.nd rfl (.inl rfl) (pe_lst (pa_cons (pe_tup (pa_cons (pv 10) (pa_cons (pv 4) (pa_cons (pv 12) pa_nil)))) (pa_cons (pe_tup (pa_cons (pv 10) (pa_cons (pe_op op_sub (pv 4) pe_int) (pa_cons (pv 12) pa_nil)))) (pa_cons (pe_tup (pa_cons (pv 10) (pa_cons (pv 11) (pa_cons pe_int pa_nil)))) (pa_cons (pe_tup (pa_cons (pv 10) (pa_cons (pv 11) (pa_cons pe_bl pa_nil)))) (pa_cons (pe_tup (pa_cons (pv 10) (pa_cons (pv 11) (pa_cons pe_str pa_nil)))) pa_nil)))))))
      (pss_cons (ps_set (i := 13) sc__law_spoilt.nd rfl (.inl rfl) (pe_op op_cat (pv 13) (pe_lst (pa_cons (pe_tup (pa_cons (pv 5) (pa_cons (pv 11) (pa_cons (pv 12) pa_nil)))) (pa_cons (pe_tup (pa_cons (pe_un un_neg pe_int) (pa_cons (pv 11) (pa_cons (pv 12) pa_nil)))) (pa_cons (pe_tup (pa_cons pe_bl (pa_cons (pv 11) (pa_cons (pv 12) pa_nil)))) (pa_cons (pe_tup (pa_cons (pv 10) (pa_cons (pv 11) pa_nil))) (pa_cons (pe_lst (pa_cons (pv 10) (pa_cons (pv 11) (pa_cons (pv 12) pa_nil)))) pa_nil))))))))
      (pss_cons (ps_set (i := 13) sc__law_spoilt.nd rfl (.inl rfl) (pe_op op_cat (pv 13) (pe_lst (pa_cons (pe_tup (pa_cons (pv 10) (pa_cons pe_non (pa_cons (pv 12) pa_nil)))) (pa_cons (pe_tup (pa_cons (pv 10) (pa_cons (pv 11) (pa_cons (pv 12) (pa_cons pe_int pa_nil))))) (pa_cons (pe_tup (pa_cons (pe_ix (ix_tupK (K := K) rfl) (pe_ix (ix_listK (K := K) rfl) (pv 6) (pe_op op_sub (pv 9) pe_int) (fun _ _ => rfl)) pe_int (fun _ _ => rfl)) (pa_cons (pv 11) (pa_cons (pv 12) pa_nil)))) (pa_cons (pe_tup (pa_cons (pe_lst pa_nil) (pa_cons (pv 11) (pa_cons (pv 12) pa_nil)))) pa_nil)))))))
      (pss_cons (ps_set (i := 13) sc__law_spoilt.nd rfl (.inl rfl) (pe_op op_cat (pv 13) (pe_lst (pa_cons (pe_tup (pa_cons (pv 10) (pa_cons (pe_lst pa_nil) (pa_cons (pv 12) pa_nil)))) (pa_cons (pe_tup (pa_cons (pv 10) (pa_cons (pv 11) (pa_cons (pe_lst pa_nil) pa_nil)))) pa_nil)))))
      (pss_one (ps_ret (pe_tup (pa_cons (pv 2) (pa_cons (pv 3) (pa_cons (pv 4) (pa_cons (pv 5) (pa_cons (pe_op op_cat (pe_op op_cat (pe_slice (sl_listK (K := K) rfl) (pv 6) po_none (po_some (pv 9))) (pe_lst (pa_cons (pe_ix (ix_listK (K := K) rfl) (pv 13) (pe_call G__law_next hr (by rfl) m__law_next k__law_next b__law_next v__law_next pass0 (pa_cons (pv 0) (pa_cons pe_int pa_nil))) (fun _ _ => rfl)) pa_nil))) (pe_slice (sl_listK (K := K) rfl) (pv 6) (po_some (pe_op op_add (pv 9) pe_int)) po_none)) pa_nil))))))))))))))))))))), ?_⟩
    refine ⟨.ref g, rfl, g, _, rfl, .inl (.inl hG.eg), rfl, _, _, rfl, _, _, rfl, _, _, rfl, _, _, rfl, _, _, rfl, rfl, ?_⟩
    refine ⟨_, rfl, ps, 6, rfl, by decide, by decide, hs, fun br Hs hbr ss => ?_⟩
    have hGs := hG.stp hs ss
    have cs := ss.src
    -- a new tuple, bad
    have fin : ∀ (H2 : Hp) (xs : List V), Stp ps Hs H2 → (∀ H3 u, Same H2 H3 → H3 u = some (.tup xs) → BadSnap K H3 (.ref u)) → ∀ u, H2 u = none → Q (.ref u) (upd H2 u (.tup xs)) := fun H2 xs st hb u hu => c _ _ ((ss.trans st).same (same_upd hu)) (hb _ u (same_upd hu) upd_same)
    by_cases b0 : br = 0
    · refine ⟨_, rfl, rfl, true, dT (by rw [b0]; rfl), iteT ?_⟩
      refine ⟨by simp [sizeLine_eq], fun q1 hq1 => ?_⟩
      have s1 := same_upd (o := .lst [.int 2]) hq1
      have e1 : (upd Hs q1 (.lst [.int 2])) q1 = some (.lst [.int 2]) := upd_same
      generalize upd Hs q1 (.lst [.int 2]) = H1 at s1 e1 ⊢
      have n1 := cs.ne hq1
      have c1 := cs.same s1
      refine fun q2 hq2 => ?_
      have s2 := same_upd (o := .dK []) hq2
      have e2 : (upd H1 q2 (.dK [])) q2 = some (.dK []) := upd_same
      generalize upd H1 q2 (.dK []) = H2 at s2 e2 ⊢
      have n2 := c1.ne hq2
      have c2 := c1.same s2
      refine ⟨by simp [sizeLine_eq], fun q3 hq3 => ?_⟩
      have s3 := same_upd (o := .lst (bs08 q1 q2)) hq3
      have e3 : (upd H2 q3 (.lst (bs08 q1 q2))) q3 = some (.lst (bs08 q1 q2)) := upd_same
      generalize upd H2 q3 (.lst (bs08 q1 q2)) = H3 at s3 e3 ⊢
      have n3 := c2.ne hq3
      have c3 := c2.same s3
      have k3 : Same H3 H3 := fun _ _ e => e
      have k2 := s3.trans k3
      have k1 := s2.trans k2
      refine ⟨_, rfl, ps, 7, rfl, by decide, by decide, c3, fun r H4 hr s4 => ?_⟩
      have st := (cs.stp_same (s1.trans k1)).trans s4
      have hG4 := hGs.stp cs st
      have hx : r < (bs08 q1 q2).length := by show r < 7; omega
      have bad := bad_bs08 (K := K) (s4.keep _ _ n1 (k1 _ _ e1)) (s4.keep _ _ n2 (k2 _ _ e2)) _ (List.getElem_mem hx)
      refine ⟨q3, _, r, _, rfl, rfl, SqL.of (s4.keep _ _ n3 e3), atI_nat (List.getElem?_eq_getElem hx), _, rfl, _, rfl, _, rfl, _, rfl, by simp [sizeLine_eq], fin H4 _ st fun H5 u s5 eu => ?_⟩
      exact .inr ⟨u, _, rfl, eu, .inr ⟨_, _, _, _, _, rfl, .inl (bad.same s5)⟩⟩
    refine ⟨_, rfl, rfl, false, dF (fun z => b0 (Int.ofNat.inj (V.int.inj z))), iteF ?_⟩
    by_cases b1 : br = 1
    · refine ⟨_, rfl, rfl, true, dT (by rw [b1]; rfl), iteT ?_⟩
      refine ⟨by simp [sizeLine_eq], fun q1 hq1 => ?_⟩
      have s1 := same_upd (o := .lst []) hq1
      have e1 : (upd Hs q1 (.lst [])) q1 = some (.lst []) := upd_same
      generalize upd Hs q1 (.lst []) = H1 at s1 e1 ⊢
      have n1 := cs.ne hq1
      have c1 := cs.same s1
      refine ⟨by simp [sizeLine_eq], fun q2 hq2 => ?_⟩
      have s2 := same_upd (o := .lst [.str "heap"]) hq2
      have e2 : (upd H1 q2 (.lst [.str "heap"])) q2 = some (.lst [.str "heap"]) := upd_same
      generalize upd H1 q2 (.lst [.str "heap"]) = H2 at s2 e2 ⊢
      have n2 := c1.ne hq2
      have c2 := c1.same s2
      refine ⟨by simp [sizeLine_eq], fun q3 hq3 => ?_⟩
      have s3 := same_upd (o := .tup [.str "stack"]) hq3
      have e3 : (upd H2 q3 (.tup [.str "stack"])) q3 = some (.tup [.str "stack"]) := upd_same
      generalize upd H2 q3 (.tup [.str "stack"]) = H3 at s3 e3 ⊢
      have n3 := c2.ne hq3
      have c3 := c2.same s3
      refine ⟨by simp [sizeLine_eq], fun q4 hq4 => ?_⟩
      have s4 := same_upd (o := .lst [.str "stack"]) hq4
      have e4 : (upd H3 q4 (.lst [.str "stack"])) q4 = some (.lst [.str "stack"]) := upd_same
      generalize upd H3 q4 (.lst [.str "stack"]) = H4 at s4 e4 ⊢
      have n4 := c3.ne hq4
      have c4 := c3.same s4
      refine ⟨q4, 61, _, rfl, rfl, e4, by decide, by decide, by simp [sizeLine_eq], fun q5 hq5 => ?_⟩
      have s5 := same_upd (o := .lst (List.replicate (61 : Int).toNat [V.str "stack"]).flatten) hq5
      have e5 : (upd H4 q5 (.lst (List.replicate (61 : Int).toNat [V.str "stack"]).flatten)) q5 = some (.lst (List.replicate (61 : Int).toNat [V.str "stack"]).flatten) := upd_same
      generalize upd H4 q5 (.lst (List.replicate (61 : Int).toNat [V.str "stack"]).flatten) = H5 at s5 e5 ⊢
      have n5 := c4.ne hq5
      have c5 := c4.same s5
      refine ⟨by simp [sizeLine_eq], fun q6 hq6 => ?_⟩
      have s6 := same_upd (o := .lst [.str "queue"]) hq6
      have e6 : (upd H5 q6 (.lst [.str "queue"])) q6 = some (.lst [.str "queue"]) := upd_same
      generalize upd H5 q6 (.lst [.str "queue"]) = H6 at s6 e6 ⊢
      have n6 := c5.ne hq6
      have c6 := c5.same s6
      refine ⟨by simp [sizeLine_eq], fun q7 hq7 => ?_⟩
      have s7 := same_upd (o := .lst [.ref q6]) hq7
      have e7 : (upd H6 q7 (.lst [.ref q6])) q7 = some (.lst [.ref q6]) := upd_same
      generalize upd H6 q7 (.lst [.ref q6]) = H7 at s7 e7 ⊢
      have n7 := c6.ne hq7
      have c7 := c6.same s7
      refine fun q8 hq8 => ?_
      have s8 := same_upd (o := .dK []) hq8
      have e8 : (upd H7 q8 (.dK [])) q8 = some (.dK []) := upd_same
      generalize upd H7 q8 (.dK []) = H8 at s8 e8 ⊢
      have n8 := c7.ne hq8
      have c8 := c7.same s8
      refine ⟨by simp [sizeLine_eq], fun q9 hq9 => ?_⟩
      have s9 := same_upd (o := .lst (ls08 q1 q2 q3 q5 q7 q8)) hq9
      have e9 : (upd H8 q9 (.lst (ls08 q1 q2 q3 q5 q7 q8))) q9 = some (.lst (ls08 q1 q2 q3 q5 q7 q8)) := upd_same
      generalize upd H8 q9 (.lst (ls08 q1 q2 q3 q5 q7 q8)) = H9 at s9 e9 ⊢
      have n9 := c8.ne hq9
      have c9 := c8.same s9
      have k9 : Same H9 H9 := fun _ _ e => e
      have k8 := s9.trans k9
      have k7 := s8.trans k8
      have k6 := s7.trans k7
      have k5 := s6.trans k6
      have k4 := s5.trans k5
      have k3 := s4.trans k4
      have k2 := s3.trans k3
      have k1 := s2.trans k2
      refine ⟨_, rfl, ps, 8, rfl, by decide, by decide, c9, fun r HA hr sA => ?_⟩
      have st := (cs.stp_same (s1.trans k1)).trans sA
      have hGA := hGs.stp cs st
      have hx : r < (ls08 q1 q2 q3 q5 q7 q8).length := by show r < 8; omega
      have bad := bad_ls08 (K := K) (sA.keep _ _ n1 (k1 _ _ e1)) (sA.keep _ _ n2 (k2 _ _ e2)) (sA.keep _ _ n3 (k3 _ _ e3)) (sA.keep _ _ n5 (k5 _ _ e5)) (sA.keep _ _ n6 (k6 _ _ e6)) (sA.keep _ _ n7 (k7 _ _ e7)) (sA.keep _ _ n8 (k8 _ _ e8)) _ (List.getElem_mem hx)
      refine ⟨q9, _, r, _, rfl, rfl, SqL.of (sA.keep _ _ n9 e9), atI_nat (List.getElem?_eq_getElem hx), ?_⟩
      refine ⟨_, rfl, _, rfl, _, rfl, _, rfl, _, rfl, by simp [sizeLine_eq], fin HA _ st fun H5 u s5 eu => ?_⟩
      exact .inr ⟨u, _, rfl, eu, .inr ⟨_, _, _, _, _, rfl, .inr ⟨b, rfl, hG.b2, hG.b64, .inl (bad.same s5)⟩⟩⟩
    refine ⟨_, rfl, rfl, false, dF (fun z => b1 (Int.ofNat.inj (V.int.inj z))), iteF ?_⟩
    by_cases b2 : br = 2
    · refine ⟨_, rfl, rfl, true, dT (by rw [b2]; rfl), iteT ?_⟩
      refine ⟨_, rfl, _, rfl, 1, rfl, ?_⟩
      refine ⟨by simp [sizeLine_eq], fun q1 hq1 => ?_⟩
      have s1 := same_upd (o := .lst [.int 3]) hq1
      have e1 : (upd Hs q1 (.lst [.int 3])) q1 = some (.lst [.int 3]) := upd_same
      generalize upd Hs q1 (.lst [.int 3]) = H1 at s1 e1 ⊢
      have n1 := cs.ne hq1
      have c1 := cs.same s1
      refine fun q2 hq2 => ?_
      have s2 := same_upd (o := .dK []) hq2
      have e2 : (upd H1 q2 (.dK [])) q2 = some (.dK []) := upd_same
      generalize upd H1 q2 (.dK []) = H2 at s2 e2 ⊢
      have n2 := c1.ne hq2
      have c2 := c1.same s2
      refine ⟨by simp [sizeLine_eq], fun q3 hq3 => ?_⟩
      have s3 := same_upd (o := .lst (tk08 q1 q2)) hq3
      have e3 : (upd H2 q3 (.lst (tk08 q1 q2))) q3 = some (.lst (tk08 q1 q2)) := upd_same
      generalize upd H2 q3 (.lst (tk08 q1 q2)) = H3 at s3 e3 ⊢
      have n3 := c2.ne hq3
      have c3 := c2.same s3
      have k3 : Same H3 H3 := fun _ _ e => e
      have k2 := s3.trans k3
      have k1 := s2.trans k2
      refine ⟨_, rfl, ps, 6, rfl, by decide, by decide, c3, fun r H4 hr s4 => ?_⟩
      have st := (cs.stp_same (s1.trans k1)).trans s4
      have hG4 := hGs.stp cs st
      have hx : r < (tk08 q1 q2).length := by show r < 6; omega
      have bad := bad_tk08 (K := K) (s4.keep _ _ n1 (k1 _ _ e1)) (s4.keep _ _ n2 (k2 _ _ e2)) _ (List.getElem_mem hx)
      have bad2 : BadTick K H4 (tk08 q1 q2)[r] 0 := bad.imp id fun e => ⟨-1, e, by decide⟩
      refine ⟨q3, _, r, _, rfl, rfl, SqL.of (s4.keep _ _ n3 e3), atI_nat (List.getElem?_eq_getElem hx), _, rfl, _, rfl, by simp [sizeLine_eq], fin H4 _ st fun H5 u s5 eu => ?_⟩
      exact .inr ⟨u, _, rfl, eu, .inr ⟨_, _, _, _, _, rfl, .inr ⟨b, rfl, hG.b2, hG.b64, .inr ⟨q0, ws, rfl, SqL.of (s5 _ _ hG4.hq), hG.ne, hG.l60, .inl (bad2.same s5)⟩⟩⟩⟩
    refine ⟨_, rfl, rfl, false, dF (fun z => b2 (Int.ofNat.inj (V.int.inj z))), iteF ?_⟩
    by_cases b3 : br = 3
    · refine ⟨_, rfl, rfl, true, dT (by rw [b3]; rfl), iteT ?_⟩
      refine ⟨_, rfl, _, rfl, _, rfl, 1, rfl, ?_⟩
      refine ⟨by simp [sizeLine_eq], fun q1 hq1 => ?_⟩
      have s1 := same_upd (o := .lst [.int 3]) hq1
      have e1 : (upd Hs q1 (.lst [.int 3])) q1 = some (.lst [.int 3]) := upd_same
      generalize upd Hs q1 (.lst [.int 3]) = H1 at s1 e1 ⊢
      have n1 := cs.ne hq1
      have c1 := cs.same s1
      refine fun q2 hq2 => ?_
      have s2 := same_upd (o := .dK []) hq2
      have e2 : (upd H1 q2 (.dK [])) q2 = some (.dK []) := upd_same
      generalize upd H1 q2 (.dK []) = H2 at s2 e2 ⊢
      have n2 := c1.ne hq2
      have c2 := c1.same s2
      refine ⟨_, rfl, (f : Nat), 1, rfl, rfl, by simp [sizeLine_eq], fun q3 hq3 => ?_⟩
      have s3 := same_upd (o := .lst [.non, .int (-1), .bl true, .str "3", .ref q1, .ref q2, .int ((f : Int) - 1)]) hq3
      have e3 : (upd H2 q3 (.lst [.non, .int (-1), .bl true, .str "3", .ref q1, .ref q2, .int ((f : Int) - 1)])) q3 = some (.lst [.non, .int (-1), .bl true, .str "3", .ref q1, .ref q2, .int ((f : Int) - 1)]) := upd_same
      generalize upd H2 q3 (.lst [.non, .int (-1), .bl true, .str "3", .ref q1, .ref q2, .int ((f : Int) - 1)]) = H3 at s3 e3 ⊢
      have n3 := c2.ne hq3
      have c3 := c2.same s3
      have k3 : Same H3 H3 := fun _ _ e => e
      have k2 := s3.trans k3
      have k1 := s2.trans k2
      refine ⟨_, rfl, ps, 7, rfl, by decide, by decide, c3, fun r H4 hr s4 => ?_⟩
      have st := (cs.stp_same (s1.trans k1)).trans s4
      have hG4 := hGs.stp cs st
      have hx : r < ([.non, .int (-1), .bl true, .str "3", .ref q1, .ref q2, .int ((f : Int) - 1)] : List V).length := by show r < 7; omega
      have hmem : ([.non, .int (-1), .bl true, .str "3", .ref q1, .ref q2, .int ((f : Int) - 1)] : List V)[r] ∈ tk08 q1 q2 ++ [.int ((f : Int) - 1)] := List.getElem_mem hx
      refine ⟨q3, _, r, _, rfl, rfl, SqL.of (s4.keep _ _ n3 e3), atI_nat (List.getElem?_eq_getElem hx), _, rfl, by simp [sizeLine_eq], fin H4 _ st fun H5 u s5 eu => ?_⟩
      have hG5 := hG4.same s5
      refine .inr ⟨u, _, rfl, eu, .inr ⟨_, _, _, _, _, rfl, .inr ⟨b, rfl, hG.b2, hG.b64, .inr ⟨q0, ws, rfl, SqL.of hG5.hq, hG.ne, hG.l60, .inr ⟨t, rfl, ?_⟩⟩⟩⟩⟩
      rcases List.mem_append.mp hmem with hm | hm
      · rcases bad_tk08 (K := K) (s4.keep _ _ n1 (k1 _ _ e1)) (s4.keep _ _ n2 (k2 _ _ e2)) _ hm with z | z
        · exact .inl (z.same s5)
        · exact .inr (.inl ⟨-1, z, by decide⟩)
      · rw [List.mem_singleton.mp hm]
        obtain ⟨r0, hr0, hr1⟩ := hG.top
        refine .inr (.inr ⟨f - 1, congrArg V.int (by omega), ?_⟩)
        obtain ⟨i, hi⟩ := List.mem_iff_getElem?.mp hr0
        have hil := (List.getElem?_eq_some_iff.mp hi).1
        have hl := hG.hP.len
        have few := hG.few
        refine .inr ⟨R, _, rfl, SqL.of hG5.hR, by rw [List.length_map]; omega, .inl ?_⟩
        -- the row with the greatest number is none, all others are rows
        have each : ∀ {us : List Addr} {vs : List RowP}, RpAt H5 us vs → (∀ r ∈ vs, RowOk t f r) → ∃ bs, RowsB K H5 t (f - 1) (us.map V.ref) bs ∧ ((∃ r ∈ vs, r.1 + 1 = f) → false ∈ bs) := by
          intro us vs
          induction us generalizing vs with
          | nil =>
            intro h _
            cases vs with
            | nil => exact ⟨[], trivial, fun ⟨r, hr, _⟩ => by cases hr⟩
            | cons _ _ => exact h.elim
          | cons a us ih =>
            intro h ok
            cases vs with
            | nil => exact h.elim
            | cons r vs =>
              obtain ⟨bs, hb1, hb2⟩ := ih h.2 fun r' h' => ok r' (List.mem_cons_of_mem _ h')
              have okr := ok r List.mem_cons_self
              by_cases hf : r.1 + 1 = f
              · refine ⟨false :: bs, ⟨.inr ⟨rfl, .inr ⟨a, _, rfl, h.1, .inr ⟨_, _, _, rfl, .inr (.inl ⟨_, rfl, .inr (by omega)⟩)⟩⟩⟩, hb1⟩, fun _ => List.mem_cons_self⟩
              · refine ⟨true :: bs, ⟨.inl ⟨rfl, a, r, rfl, h.1, by have := okr.num; omega, okr.due, okr.per⟩, hb1⟩, fun ⟨r', hr', e'⟩ => List.mem_cons_of_mem _ (hb2 ⟨r', ?_, e'⟩)⟩
                rcases List.mem_cons.mp hr' with z | z
                · rw [z] at e'
                  exact absurd e' hf
                · exact z
        obtain ⟨bs, hb1, hb2⟩ := each hG5.hP hG.ok
        exact ⟨bs, hb1, hb2 ⟨r0, hr0, hr1⟩⟩
    refine ⟨_, rfl, rfl, false, dF (fun z => b3 (Int.ofNat.inj (V.int.inj z))), iteF ?_⟩
    by_cases b4 : br = 4
    · refine ⟨_, rfl, rfl, true, dT (by rw [b4]; rfl), iteT ?_⟩
      have hl := hG.hP.len
      have few := hG.few
      have tlen : (ts.map V.ref).length ≤ 20 := by rw [List.length_map]; omega
      refine ⟨_, rfl, R, _, rfl, .inl ⟨SqL.of hGs.hR, fun q1 hq1 => ?_⟩⟩
      have s1 := same_upd (o := .tup (ts.map V.ref)) hq1
      have e1 : (upd Hs q1 (.tup (ts.map V.ref))) q1 = some (.tup (ts.map V.ref)) := upd_same
      generalize upd Hs q1 (.tup (ts.map V.ref)) = H1 at s1 e1 ⊢
      have n1 := cs.ne hq1
      have c1 := cs.same s1
      refine fun q2 hq2 => ?_
      have s2 := same_upd (o := .dK []) hq2
      have e2 : (upd H1 q2 (.dK [])) q2 = some (.dK []) := upd_same
      generalize upd H1 q2 (.dK []) = H2 at s2 e2 ⊢
      have n2 := c1.ne hq2
      have c2 := c1.same s2
      refine ⟨_, rfl, ?_⟩
      refine ⟨by simp [sizeLine_eq], fun q3 hq3 => ?_⟩
      have s3 := same_upd (o := .lst [.non]) hq3
      have e3 : (upd H2 q3 (.lst [.non])) q3 = some (.lst [.non]) := upd_same
      generalize upd H2 q3 (.lst [.non]) = H3 at s3 e3 ⊢
      have n3 := c2.ne hq3
      have c3 := c2.same s3
      refine ⟨R, q3, _, _, rfl, rfl, s3 _ _ (s2 _ _ (s1 _ _ hGs.hR)), e3, by show (ts.map V.ref).length + 1 ≤ sizeLine; exact sizeLine_le (by omega), fun q4 hq4 => ?_⟩
      have s4 := same_upd (o := .lst (ts.map V.ref ++ [.non])) hq4
      have e4 : (upd H3 q4 (.lst (ts.map V.ref ++ [.non]))) q4 = some (.lst (ts.map V.ref ++ [.non])) := upd_same
      generalize upd H3 q4 (.lst (ts.map V.ref ++ [.non])) = H4 at s4 e4 ⊢
      have n4 := c3.ne hq4
      have c4 := c3.same s4
      refine ⟨_, rfl, ?_⟩
      refine ⟨by simp [sizeLine_eq], fun q5 hq5 => ?_⟩
      have s5 := same_upd (o := .lst [.int 5]) hq5
      have e5 : (upd H4 q5 (.lst [.int 5])) q5 = some (.lst [.int 5]) := upd_same
      generalize upd H4 q5 (.lst [.int 5]) = H5 at s5 e5 ⊢
      have n5 := c4.ne hq5
      have c5 := c4.same s5
      refine ⟨R, q5, _, _, rfl, rfl, s5 _ _ (s4 _ _ (s3 _ _ (s2 _ _ (s1 _ _ hGs.hR)))), e5, by show (ts.map V.ref).length + 1 ≤ sizeLine; exact sizeLine_le (by omega), fun q6 hq6 => ?_⟩
      have s6 := same_upd (o := .lst (ts.map V.ref ++ [.int 5])) hq6
      have e6 : (upd H5 q6 (.lst (ts.map V.ref ++ [.int 5]))) q6 = some (.lst (ts.map V.ref ++ [.int 5])) := upd_same
      generalize upd H5 q6 (.lst (ts.map V.ref ++ [.int 5])) = H6 at s6 e6 ⊢
      have n6 := c5.ne hq6
      have c6 := c5.same s6
      refine ⟨by simp [sizeLine_eq], fun q7 hq7 => ?_⟩
      have s7 := same_upd (o := .lst [.non, .ref q1, .int 5, .str "r", .ref q2, .ref q4, .ref q6]) hq7
      have e7 : (upd H6 q7 (.lst [.non, .ref q1, .int 5, .str "r", .ref q2, .ref q4, .ref q6])) q7 = some (.lst [.non, .ref q1, .int 5, .str "r", .ref q2, .ref q4, .ref q6]) := upd_same
      generalize upd H6 q7 (.lst [.non, .ref q1, .int 5, .str "r", .ref q2, .ref q4, .ref q6]) = H7 at s7 e7 ⊢
      have n7 := c6.ne hq7
      have c7 := c6.same s7
      have k7 : Same H7 H7 := fun _ _ e => e
      have k6 := s7.trans k7
      have k5 := s6.trans k6
      have k4 := s5.trans k5
      have k3 := s4.trans k4
      have k2 := s3.trans k3
      have k1 := s2.trans k2
      refine ⟨_, rfl, ps, 7, rfl, by decide, by decide, c7, fun r H8 hr s8 => ?_⟩
      have st := (cs.stp_same (s1.trans k1)).trans s8
      have hG8 := hGs.stp cs st
      have hx : r < ([.non, .ref q1, .int 5, .str "r", .ref q2, .ref q4, .ref q6] : List V).length := by show r < 7; omega
      have more : ∀ (q : Addr) (v : V), H8 q = some (.lst (ts.map V.ref ++ [v])) → BadRow K H8 t f v → BadRows K H8 t f (.ref q) := fun q v eq hb => .inr ⟨q, _, rfl, SqL.of eq, by rw [List.length_append, List.length_singleton]; omega, .inl ⟨_, (RowsB.good hG8.hP hG.ok).append (ys := [v]) (cs := [false]) ⟨.inr ⟨rfl, hb⟩, trivial⟩, by simp⟩⟩
      have bad : BadRows K H8 t f ([.non, .ref q1, .int 5, .str "r", .ref q2, .ref q4, .ref q6] : List V)[r] := by
        have hm := List.getElem_mem hx
        generalize ([.non, .ref q1, .int 5, .str "r", .ref q2, .ref q4, .ref q6] : List V)[r] = x at hm ⊢
        have hx1 : x = .non ∨ x = .ref q1 ∨ x = .int 5 ∨ x = .str "r" ∨ x = .ref q2 ∨ x = .ref q4 ∨ x = .ref q6 := by simpa using hm
        rcases hx1 with e | e | e | e | e | e | e <;> subst e
        · exact .inl ⟨_, .base .non, by decide +kernel⟩
        · exact .inl ⟨_, .base (.tup (s8.keep _ _ n1 (k1 _ _ e1))), by decide +kernel⟩
        · exact .inl ⟨_, .base (.int 5), by decide +kernel⟩
        · exact .inl ⟨_, .base (.str _), by decide +kernel⟩
        · exact .inl ⟨_, .base (.dK (s8.keep _ _ n2 (k2 _ _ e2))), by decide +kernel⟩
        · exact more q4 _ (s8.keep _ _ n4 (k4 _ _ e4)) (.inl ⟨_, .base .non, by decide +kernel⟩)
        · exact more q6 _ (s8.keep _ _ n6 (k6 _ _ e6)) (.inl ⟨_, .base (.int 5), by decide +kernel⟩)
      refine ⟨q7, _, r, _, rfl, rfl, SqL.of (s8.keep _ _ n7 e7), atI_nat (List.getElem?_eq_getElem hx), ?_⟩
      refine ⟨_, rfl, _, rfl, _, rfl, _, rfl, _, rfl, by simp [sizeLine_eq], fin H8 _ st fun H9 u s9 eu => ?_⟩
      exact .inr ⟨u, _, rfl, eu, .inr ⟨_, _, _, _, _, rfl, .inr ⟨b, rfl, hG.b2, hG.b64, .inr ⟨q0, ws, rfl, SqL.of (s9 _ _ hG8.hq), hG.ne, hG.l60, .inr ⟨t, rfl, .inr (.inr ⟨f, rfl, bad.same s9⟩)⟩⟩⟩⟩⟩
    refine ⟨_, rfl, rfl, false, dF (fun z => b4 (Int.ofNat.inj (V.int.inj z))), iteF ?_⟩
    -- a row
    have hl := hG.hP.len
    have few := hG.few
    have two := hG.two
    have tlen : (ts.map V.ref).length = rs.length := by rw [List.length_map]; exact hl
    refine ⟨_, rfl, .ref R, rfl, R, _, rfl, .inl (SqL.of hGs.hR), ps, _, rfl, by rw [tlen]; omega, by rw [tlen]; omega, cs, fun i H1 hi s1 => ?_⟩
    have hi2 : i < rs.length := by rw [tlen] at hi; omega
    have hG1 := hGs.stp cs s1
    have c1 := s1.src
    obtain ⟨a, ha, er⟩ : ∃ a, ts[i]? = some a ∧ H1 a = some (.tup (rowPV rs[i])) := by
      obtain ⟨a, r, e, hr, h⟩ := hG1.hP.item (x := .ref (ts[i]'(by omega))) (i := i) (by rw [List.getElem?_map, List.getElem?_eq_getElem (by omega)]; rfl)
      cases e
      rw [List.getElem?_eq_getElem hi2] at hr
      cases hr
      exact ⟨_, List.getElem?_eq_getElem (by omega), h⟩
    obtain ⟨okn, okd, okp⟩ := hG.ok _ (List.getElem_mem hi2)
    generalize hri : rs[i] = ri at er okn okd okp
    obtain ⟨n, d, o⟩ := ri
    refine ⟨.ref R, rfl, _, rfl, R, _, (i : Nat), .ref a, rfl, rfl, SqL.of hG1.hR, atI_nat (by rw [List.getElem?_map, ha]; rfl), a, _, rfl, .inl (.inl er), rfl, _, _, rfl, _, _, rfl, _, _, rfl, rfl, ?_⟩
    -- the row ahead of it
    obtain ⟨j, n2, a2, hj, hj2, ha2, ea2, eat⟩ : ∃ (j n2 : Nat) (a2 : Addr), j ≠ i ∧ (rs.map (·.1))[j]? = some n2 ∧ (∃ d2 o2, ∀ H2, RpAt H2 ts rs → H2 a2 = some (.tup (rowPV (n2, d2, o2)))) ∧ ts[j]? = some a2 ∧ atI (ts.map V.ref) ((i : Int) - 1) = some (.ref a2) := by
      have item : ∀ j, j < rs.length → ∃ (n2 : Nat) (a2 : Addr), (rs.map (·.1))[j]? = some n2 ∧ (∃ d2 o2, ∀ H2, RpAt H2 ts rs → H2 a2 = some (.tup (rowPV (n2, d2, o2)))) ∧ ts[j]? = some a2 := fun j hj => by
        refine ⟨rs[j].1, ts[j]'(by omega), by rw [List.getElem?_map, List.getElem?_eq_getElem hj]; rfl, ⟨rs[j].2.1, rs[j].2.2, fun H2 h2 => ?_⟩, List.getElem?_eq_getElem (by omega)⟩
        obtain ⟨a, r, e, hr, h⟩ := h2.item (x := .ref (ts[j]'(by omega))) (i := j) (by rw [List.getElem?_map, List.getElem?_eq_getElem (by omega)]; rfl)
        cases e
        rw [List.getElem?_eq_getElem hj] at hr
        cases hr
        exact h
      by_cases z : i = 0
      · obtain ⟨n2, a2, h1, h2, h3⟩ := item (rs.length - 1) (by omega)
        refine ⟨rs.length - 1, n2, a2, by omega, h1, h2, h3, ?_⟩
        have hne : ts ≠ [] := fun e => by rw [e] at hl; have : ([] : List Addr).length = 0 := rfl; omega
        have el : ts = ts.dropLast ++ [a2] := by
          have y := List.dropLast_concat_getLast hne
          have y2 : ts.getLast hne = a2 := by
            rw [List.getLast_eq_getElem]
            rw [show rs.length - 1 = ts.length - 1 by omega, List.getElem?_eq_getElem (by omega)] at h3
            exact Option.some.inj h3
          rw [y2] at y
          exact y.symm
        rw [z, el, List.map_append]
        exact atI_last _ _
      · obtain ⟨n2, a2, h1, h2, h3⟩ := item (i - 1) (by omega)
        refine ⟨i - 1, n2, a2, by omega, h1, h2, h3, ?_⟩
        rw [show (i : Int) - 1 = ((i - 1 : Nat) : Int) by omega]
        exact atI_nat (by rw [List.getElem?_map, h3]; rfl)
    obtain ⟨d2, o2, ha2⟩ := ha2
    refine ⟨_, rfl, _, rfl, _, rfl, ?_⟩
    refine ⟨by simp [sizeLine_eq], fun qr1 hqr1 => ?_⟩
    have sr1 := same_upd (o := .tup [.int (n : Nat), .int (t : Nat), perV o]) hqr1
    have er1 : (upd H1 qr1 (.tup [.int (n : Nat), .int (t : Nat), perV o])) qr1 = some (.tup [.int (n : Nat), .int (t : Nat), perV o]) := upd_same
    generalize upd H1 qr1 (.tup [.int (n : Nat), .int (t : Nat), perV o]) = Hr1 at sr1 er1 ⊢
    have nr1 := c1.ne hqr1
    have cr1 := c1.same sr1
    refine ⟨_, rfl, _, rfl, (t : Nat), 1, rfl, rfl, _, rfl, ?_⟩
    refine ⟨by simp [sizeLine_eq], fun qr2 hqr2 => ?_⟩
    have sr2 := same_upd (o := .tup [.int (n : Nat), .int ((t : Int) - 1), perV o]) hqr2
    have er2 : (upd Hr1 qr2 (.tup [.int (n : Nat), .int ((t : Int) - 1), perV o])) qr2 = some (.tup [.int (n : Nat), .int ((t : Int) - 1), perV o]) := upd_same
    generalize upd Hr1 qr2 (.tup [.int (n : Nat), .int ((t : Int) - 1), perV o]) = Hr2 at sr2 er2 ⊢
    have nr2 := cr1.ne hqr2
    have cr2 := cr1.same sr2
    refine ⟨_, rfl, _, rfl, ?_⟩
    refine ⟨by simp [sizeLine_eq], fun qr3 hqr3 => ?_⟩
    have sr3 := same_upd (o := .tup [.int (n : Nat), .int (d : Nat), .int 0]) hqr3
    have er3 : (upd Hr2 qr3 (.tup [.int (n : Nat), .int (d : Nat), .int 0])) qr3 = some (.tup [.int (n : Nat), .int (d : Nat), .int 0]) := upd_same
    generalize upd Hr2 qr3 (.tup [.int (n : Nat), .int (d : Nat), .int 0]) = Hr3 at sr3 er3 ⊢
    have nr3 := cr2.ne hqr3
    have cr3 := cr2.same sr3
    refine ⟨_, rfl, _, rfl, ?_⟩
    refine ⟨by simp [sizeLine_eq], fun qr4 hqr4 => ?_⟩
    have sr4 := same_upd (o := .tup [.int (n : Nat), .int (d : Nat), .bl true]) hqr4
    have er4 : (upd Hr3 qr4 (.tup [.int (n : Nat), .int (d : Nat), .bl true])) qr4 = some (.tup [.int (n : Nat), .int (d : Nat), .bl true]) := upd_same
    generalize upd Hr3 qr4 (.tup [.int (n : Nat), .int (d : Nat), .bl true]) = Hr4 at sr4 er4 ⊢
    have nr4 := cr3.ne hqr4
    have cr4 := cr3.same sr4
    refine ⟨_, rfl, _, rfl, ?_⟩
    refine ⟨by simp [sizeLine_eq], fun qr5 hqr5 => ?_⟩
    have sr5 := same_upd (o := .tup [.int (n : Nat), .int (d : Nat), .str "1"]) hqr5
    have er5 : (upd Hr4 qr5 (.tup [.int (n : Nat), .int (d : Nat), .str "1"])) qr5 = some (.tup [.int (n : Nat), .int (d : Nat), .str "1"]) := upd_same
    generalize upd Hr4 qr5 (.tup [.int (n : Nat), .int (d : Nat), .str "1"]) = Hr5 at sr5 er5 ⊢
    have nr5 := cr4.ne hqr5
    have cr5 := cr4.same sr5
    refine ⟨by simp [sizeLine_eq], fun qla hqla => ?_⟩
    have sla := same_upd (o := .lst [.ref qr1, .ref qr2, .ref qr3, .ref qr4, .ref qr5]) hqla
    have ela : (upd Hr5 qla (.lst [.ref qr1, .ref qr2, .ref qr3, .ref qr4, .ref qr5])) qla = some (.lst [.ref qr1, .ref qr2, .ref qr3, .ref qr4, .ref qr5]) := upd_same
    generalize upd Hr5 qla (.lst [.ref qr1, .ref qr2, .ref qr3, .ref qr4, .ref qr5]) = Hla at sla ela ⊢
    have nla := cr5.ne hqla
    have cla := cr5.same sla
    refine ⟨_, rfl, ?_⟩
    refine ⟨_, rfl, _, rfl, _, rfl, ?_⟩
    refine ⟨by simp [sizeLine_eq], fun qr6 hqr6 => ?_⟩
    have sr6 := same_upd (o := .tup [.int (f : Nat), .int (d : Nat), perV o]) hqr6
    have er6 : (upd Hla qr6 (.tup [.int (f : Nat), .int (d : Nat), perV o])) qr6 = some (.tup [.int (f : Nat), .int (d : Nat), perV o]) := upd_same
    generalize upd Hla qr6 (.tup [.int (f : Nat), .int (d : Nat), perV o]) = Hr6 at sr6 er6 ⊢
    have nr6 := cla.ne hqr6
    have cr6 := cla.same sr6
    refine ⟨1, rfl, _, rfl, _, rfl, ?_⟩
    refine ⟨by simp [sizeLine_eq], fun qr7 hqr7 => ?_⟩
    have sr7 := same_upd (o := .tup [.int (-1), .int (d : Nat), perV o]) hqr7
    have er7 : (upd Hr6 qr7 (.tup [.int (-1), .int (d : Nat), perV o])) qr7 = some (.tup [.int (-1), .int (d : Nat), perV o]) := upd_same
    generalize upd Hr6 qr7 (.tup [.int (-1), .int (d : Nat), perV o]) = Hr7 at sr7 er7 ⊢
    have nr7 := cr6.ne hqr7
    have cr7 := cr6.same sr7
    refine ⟨_, rfl, _, rfl, ?_⟩
    refine ⟨by simp [sizeLine_eq], fun qr8 hqr8 => ?_⟩
    have sr8 := same_upd (o := .tup [.bl true, .int (d : Nat), perV o]) hqr8
    have er8 : (upd Hr7 qr8 (.tup [.bl true, .int (d : Nat), perV o])) qr8 = some (.tup [.bl true, .int (d : Nat), perV o]) := upd_same
    generalize upd Hr7 qr8 (.tup [.bl true, .int (d : Nat), perV o]) = Hr8 at sr8 er8 ⊢
    have nr8 := cr7.ne hqr8
    have cr8 := cr7.same sr8
    refine ⟨_, rfl, _, rfl, ?_⟩
    refine ⟨by simp [sizeLine_eq], fun qr9 hqr9 => ?_⟩
    have sr9 := same_upd (o := .tup [.int (n : Nat), .int (d : Nat)]) hqr9
    have er9 : (upd Hr8 qr9 (.tup [.int (n : Nat), .int (d : Nat)])) qr9 = some (.tup [.int (n : Nat), .int (d : Nat)]) := upd_same
    generalize upd Hr8 qr9 (.tup [.int (n : Nat), .int (d : Nat)]) = Hr9 at sr9 er9 ⊢
    have nr9 := cr8.ne hqr9
    have cr9 := cr8.same sr9
    refine ⟨_, rfl, _, rfl, _, rfl, ?_⟩
    refine ⟨by simp [sizeLine_eq], fun qra hqra => ?_⟩
    have sra := same_upd (o := .lst [.int (n : Nat), .int (d : Nat), perV o]) hqra
    have era : (upd Hr9 qra (.lst [.int (n : Nat), .int (d : Nat), perV o])) qra = some (.lst [.int (n : Nat), .int (d : Nat), perV o]) := upd_same
    generalize upd Hr9 qra (.lst [.int (n : Nat), .int (d : Nat), perV o]) = Hra at sra era ⊢
    have nra := cr9.ne hqra
    have cra := cr9.same sra
    refine ⟨by simp [sizeLine_eq], fun qlb hqlb => ?_⟩
    have slb := same_upd (o := .lst [.ref qr6, .ref qr7, .ref qr8, .ref qr9, .ref qra]) hqlb
    have elb : (upd Hra qlb (.lst [.ref qr6, .ref qr7, .ref qr8, .ref qr9, .ref qra])) qlb = some (.lst [.ref qr6, .ref qr7, .ref qr8, .ref qr9, .ref qra]) := upd_same
    generalize upd Hra qlb (.lst [.ref qr6, .ref qr7, .ref qr8, .ref qr9, .ref qra]) = Hlb at slb elb ⊢
    have nlb := cra.ne hqlb
    have clb := cra.same slb
    refine ⟨qla, qlb, _, _, rfl, rfl, (((((sr6.trans sr7).trans sr8).trans sr9).trans sra).trans slb) _ _ ela, elb, by simp [sizeLine_eq], fun qlc hqlc => ?_⟩
    have slc := same_upd (o := .lst ([.ref qr1, .ref qr2, .ref qr3, .ref qr4, .ref qr5] ++ [.ref qr6, .ref qr7, .ref qr8, .ref qr9, .ref qra])) hqlc
    have elc : (upd Hlb qlc (.lst ([.ref qr1, .ref qr2, .ref qr3, .ref qr4, .ref qr5] ++ [.ref qr6, .ref qr7, .ref qr8, .ref qr9, .ref qra]))) qlc = some (.lst ([.ref qr1, .ref qr2, .ref qr3, .ref qr4, .ref qr5] ++ [.ref qr6, .ref qr7, .ref qr8, .ref qr9, .ref qra])) := upd_same
    generalize upd Hlb qlc (.lst ([.ref qr1, .ref qr2, .ref qr3, .ref qr4, .ref qr5] ++ [.ref qr6, .ref qr7, .ref qr8, .ref qr9, .ref qra])) = Hlc at slc elc ⊢
    have nlc := clb.ne hqlc
    have clc := clb.same slc
    refine ⟨_, rfl, ?_⟩
    refine ⟨_, rfl, _, rfl, ?_⟩
    refine ⟨by simp [sizeLine_eq], fun qrb hqrb => ?_⟩
    have srb := same_upd (o := .tup [.int (n : Nat), .non, perV o]) hqrb
    have erb : (upd Hlc qrb (.tup [.int (n : Nat), .non, perV o])) qrb = some (.tup [.int (n : Nat), .non, perV o]) := upd_same
    generalize upd Hlc qrb (.tup [.int (n : Nat), .non, perV o]) = Hrb at srb erb ⊢
    have nrb := clc.ne hqrb
    have crb := clc.same srb
    refine ⟨_, rfl, _, rfl, _, rfl, ?_⟩
    refine ⟨by simp [sizeLine_eq], fun qrc hqrc => ?_⟩
    have src := same_upd (o := .tup [.int (n : Nat), .int (d : Nat), perV o, .int 1]) hqrc
    have erc : (upd Hrb qrc (.tup [.int (n : Nat), .int (d : Nat), perV o, .int 1])) qrc = some (.tup [.int (n : Nat), .int (d : Nat), perV o, .int 1]) := upd_same
    generalize upd Hrb qrc (.tup [.int (n : Nat), .int (d : Nat), perV o, .int 1]) = Hrc at src erc ⊢
    have nrc := crb.ne hqrc
    have crc := crb.same src
    have st1 : Same H1 Hrc := ((((((((((((((sr1.trans sr2).trans sr3).trans sr4).trans sr5).trans sla).trans sr6).trans sr7).trans sr8).trans sr9).trans sra).trans slb).trans slc).trans srb).trans src)
    have hGc := hG1.same st1
    refine ⟨.ref R, rfl, _, rfl, (i : Nat), 1, rfl, rfl, R, _, (i : Int) - 1, .ref a2, rfl, rfl, SqL.of hGc.hR, eat, a2, _, 0, _, rfl, rfl, .inl (.inl (ha2 _ hGc.hP)), atI_nat (j := 0) rfl, _, rfl, _, rfl, ?_⟩
    refine ⟨by simp [sizeLine_eq], fun qrd hqrd => ?_⟩
    have srd := same_upd (o := .tup [.int (n2 : Nat), .int (d : Nat), perV o]) hqrd
    have erd : (upd Hrc qrd (.tup [.int (n2 : Nat), .int (d : Nat), perV o])) qrd = some (.tup [.int (n2 : Nat), .int (d : Nat), perV o]) := upd_same
    generalize upd Hrc qrd (.tup [.int (n2 : Nat), .int (d : Nat), perV o]) = Hrd at srd erd ⊢
    have nrd := crc.ne hqrd
    have crd := crc.same srd
    refine ⟨by simp [sizeLine_eq], fun qre hqre => ?_⟩
    have sre := same_upd (o := .lst []) hqre
    have ere : (upd Hrd qre (.lst [])) qre = some (.lst []) := upd_same
    generalize upd Hrd qre (.lst []) = Hre at sre ere ⊢
    have nre := crd.ne hqre
    have cre := crd.same sre
    refine ⟨_, rfl, _, rfl, ?_⟩
    refine ⟨by simp [sizeLine_eq], fun qrf hqrf => ?_⟩
    have srf := same_upd (o := .tup [.ref qre, .int (d : Nat), perV o]) hqrf
    have erf : (upd Hre qrf (.tup [.ref qre, .int (d : Nat), perV o])) qrf = some (.tup [.ref qre, .int (d : Nat), perV o]) := upd_same
    generalize upd Hre qrf (.tup [.ref qre, .int (d : Nat), perV o]) = Hrf at srf erf ⊢
    have nrf := cre.ne hqrf
    have crf := cre.same srf
    refine ⟨by simp [sizeLine_eq], fun qld hqld => ?_⟩
    have sld := same_upd (o := .lst [.ref qrb, .ref qrc, .ref qrd, .ref qrf]) hqld
    have eld : (upd Hrf qld (.lst [.ref qrb, .ref qrc, .ref qrd, .ref qrf])) qld = some (.lst [.ref qrb, .ref qrc, .ref qrd, .ref qrf]) := upd_same
    generalize upd Hrf qld (.lst [.ref qrb, .ref qrc, .ref qrd, .ref qrf]) = Hld at sld eld ⊢
    have nld := crf.ne hqld
    have cld := crf.same sld
    refine ⟨qlc, qld, _, _, rfl, rfl, (((((srb.trans src).trans srd).trans sre).trans srf).trans sld) _ _ elc, eld, by simp [sizeLine_eq], fun qle hqle => ?_⟩
    have sle := same_upd (o := .lst (([.ref qr1, .ref qr2, .ref qr3, .ref qr4, .ref qr5] ++ [.ref qr6, .ref qr7, .ref qr8, .ref qr9, .ref qra]) ++ [.ref qrb, .ref qrc, .ref qrd, .ref qrf])) hqle
    have ele : (upd Hld qle (.lst (([.ref qr1, .ref qr2, .ref qr3, .ref qr4, .ref qr5] ++ [.ref qr6, .ref qr7, .ref qr8, .ref qr9, .ref qra]) ++ [.ref qrb, .ref qrc, .ref qrd, .ref qrf]))) qle = some (.lst (([.ref qr1, .ref qr2, .ref qr3, .ref qr4, .ref qr5] ++ [.ref qr6, .ref qr7, .ref qr8, .ref qr9, .ref qra]) ++ [.ref qrb, .ref qrc, .ref qrd, .ref qrf])) := upd_same
    generalize upd Hld qle (.lst (([.ref qr1, .ref qr2, .ref qr3, .ref qr4, .ref qr5] ++ [.ref qr6, .ref qr7, .ref qr8, .ref qr9, .ref qra]) ++ [.ref qrb, .ref qrc, .ref qrd, .ref qrf])) = Hle at sle ele ⊢
    have nle := cld.ne hqle
    have cle := cld.same sle
    refine ⟨_, rfl, _, rfl, ?_⟩
    refine ⟨by simp [sizeLine_eq], fun qrg hqrg => ?_⟩
    have srg := same_upd (o := .lst []) hqrg
    have erg : (upd Hle qrg (.lst [])) qrg = some (.lst []) := upd_same
    generalize upd Hle qrg (.lst []) = Hrg at srg erg ⊢
    have nrg := cle.ne hqrg
    have crg := cle.same srg
    refine ⟨_, rfl, ?_⟩
    refine ⟨by simp [sizeLine_eq], fun qrh hqrh => ?_⟩
    have srh := same_upd (o := .tup [.int (n : Nat), .ref qrg, perV o]) hqrh
    have erh : (upd Hrg qrh (.tup [.int (n : Nat), .ref qrg, perV o])) qrh = some (.tup [.int (n : Nat), .ref qrg, perV o]) := upd_same
    generalize upd Hrg qrh (.tup [.int (n : Nat), .ref qrg, perV o]) = Hrh at srh erh ⊢
    have nrh := crg.ne hqrh
    have crh := crg.same srh
    refine ⟨_, rfl, _, rfl, ?_⟩
    refine ⟨by simp [sizeLine_eq], fun qrj hqrj => ?_⟩
    have srj := same_upd (o := .lst []) hqrj
    have erj : (upd Hrh qrj (.lst [])) qrj = some (.lst []) := upd_same
    generalize upd Hrh qrj (.lst []) = Hrj at srj erj ⊢
    have nrj := crh.ne hqrj
    have crj := crh.same srj
    refine ⟨by simp [sizeLine_eq], fun qrk hqrk => ?_⟩
    have srk := same_upd (o := .tup [.int (n : Nat), .int (d : Nat), .ref qrj]) hqrk
    have erk : (upd Hrj qrk (.tup [.int (n : Nat), .int (d : Nat), .ref qrj])) qrk = some (.tup [.int (n : Nat), .int (d : Nat), .ref qrj]) := upd_same
    generalize upd Hrj qrk (.tup [.int (n : Nat), .int (d : Nat), .ref qrj]) = Hrk at srk erk ⊢
    have nrk := crj.ne hqrk
    have crk := crj.same srk
    refine ⟨by simp [sizeLine_eq], fun qlf hqlf => ?_⟩
    have slf := same_upd (o := .lst [.ref qrh, .ref qrk]) hqlf
    have elf : (upd Hrk qlf (.lst [.ref qrh, .ref qrk])) qlf = some (.lst [.ref qrh, .ref qrk]) := upd_same
    generalize upd Hrk qlf (.lst [.ref qrh, .ref qrk]) = Hlf at slf elf ⊢
    have nlf := crk.ne hqlf
    have clf := crk.same slf
    refine ⟨qle, qlf, _, _, rfl, rfl, ((((srg.trans srh).trans srj).trans srk).trans slf) _ _ ele, elf, by simp [sizeLine_eq], fun qlg hqlg => ?_⟩
    have slg := same_upd (o := .lst (rw08 qr1 qr2 qr3 qr4 qr5 qr6 qr7 qr8 qr9 qra qrb qrc qrd qrf qrh qrk)) hqlg
    have elg : (upd Hlf qlg (.lst (rw08 qr1 qr2 qr3 qr4 qr5 qr6 qr7 qr8 qr9 qra qrb qrc qrd qrf qrh qrk))) qlg = some (.lst (rw08 qr1 qr2 qr3 qr4 qr5 qr6 qr7 qr8 qr9 qra qrb qrc qrd qrf qrh qrk)) := upd_same
    generalize upd Hlf qlg (.lst (rw08 qr1 qr2 qr3 qr4 qr5 qr6 qr7 qr8 qr9 qra qrb qrc qrd qrf qrh qrk)) = Hlg at slg elg ⊢
    have nlg := clf.ne hqlg
    have clg := clf.same slg
    have klg : Same Hlg Hlg := fun _ _ e => e
    have klf := slg.trans klg
    have krk := slf.trans klf
    have krj := srk.trans krk
    have krh := srj.trans krj
    have krg := srh.trans krh
    have kle := srg.trans krg
    have kld := sle.trans kle
    have krf := sld.trans kld
    have kre := srf.trans krf
    have krd := sre.trans kre
    have krc := srd.trans krd
    have krb := src.trans krc
    have klc := srb.trans krb
    have klb := slc.trans klc
    have kra := slb.trans klb
    have kr9 := sra.trans kra
    have kr8 := sr9.trans kr9
    have kr7 := sr8.trans kr8
    have kr6 := sr7.trans kr7
    have kla := sr6.trans kr6
    have kr5 := sla.trans kla
    have kr4 := sr5.trans kr5
    have kr3 := sr4.trans kr4
    have kr2 := sr3.trans kr3
    have kr1 := sr2.trans kr2
    have kall : Same H1 Hlg := sr1.trans kr1
    have hGl := hG1.same kall
    -- the rows with it
    refine ⟨_, rfl, _, rfl, _, rfl, _, rfl, ?_⟩
    refine ⟨.ref R, rfl, _, rfl, (i : Nat), rfl, R, _, rfl, SqL.of hGl.hR, fun qy hqy => ?_⟩
    have sy := same_upd (o := .lst (cutV (ts.map V.ref) none (some (i : Nat)))) hqy
    have ey : (upd Hlg qy (.lst (cutV (ts.map V.ref) none (some (i : Nat))))) qy = some (.lst ((ts.take i).map V.ref)) := by
      rw [upd_same, cutTo, List.map_take]
    generalize upd Hlg qy (.lst (cutV (ts.map V.ref) none (some (i : Nat)))) = Hy at sy ey ⊢
    have ny := clg.ne hqy
    have cy := clg.same sy
    refine ⟨_, rfl, _, rfl, ps, 16, rfl, by decide, by decide, cy, fun r Hz hr sz => ?_⟩
    have hx : r < (rw08 qr1 qr2 qr3 qr4 qr5 qr6 qr7 qr8 qr9 qra qrb qrc qrd qrf qrh qrk).length := by show r < 16; omega
    have nn : ∀ {q : Addr} {o : HO}, q ≠ ps → Hlg q = some o → Hz q = some o := fun {q o} n e => sz.keep _ _ n (sy _ _ e)
    have bad := bad_rw08 (K := K) (n2 := n2) hG.t2 okn okd (nn nr1 (kr1 _ _ er1)) (nn nr2 (kr2 _ _ er2)) (nn nr3 (kr3 _ _ er3)) (nn nr4 (kr4 _ _ er4)) (nn nr5 (kr5 _ _ er5)) (nn nr6 (kr6 _ _ er6)) (nn nr7 (kr7 _ _ er7)) (nn nr8 (kr8 _ _ er8)) (nn nr9 (kr9 _ _ er9)) (nn nra (kra _ _ era)) (nn nrb (krb _ _ erb)) (nn nrc (krc _ _ erc)) (nn nrd (krd _ _ erd)) (nn nre (kre _ _ ere)) (nn nrf (krf _ _ erf)) (nn nrg (krg _ _ erg)) (nn nrh (krh _ _ erh)) (nn nrj (krj _ _ erj)) (nn nrk (krk _ _ erk)) _ (List.getElem_mem hx)
    have st : Stp ps Hs Hz := ((s1.same kall).same sy).trans sz
    have hGz := hGs.stp cs st
    have cz := sz.src
    refine ⟨qlg, _, r, _, rfl, rfl, SqL.of (nn nlg elg), atI_nat (List.getElem?_eq_getElem hx), by simp [sizeLine_eq], fun qu hqu => ?_⟩
    generalize (rw08 qr1 qr2 qr3 qr4 qr5 qr6 qr7 qr8 qr9 qra qrb qrc qrd qrf qrh qrk)[r] = v at bad ⊢
    have su := same_upd (o := .lst [v]) hqu
    have eu : (upd Hz qu (.lst [v])) qu = some (.lst [v]) := upd_same
    generalize upd Hz qu (.lst [v]) = Hu at su eu ⊢
    refine ⟨qy, qu, _, _, rfl, rfl, su _ _ (sz.keep _ _ ny ey), eu, ?_, fun qv hqv => ?_⟩
    · show ((ts.take i).map V.ref).length + 1 ≤ sizeLine
      rw [List.length_map, List.length_take]
      exact sizeLine_le (by omega)
    have sv := same_upd (o := .lst ((ts.take i).map V.ref ++ [v])) hqv
    have ev : (upd Hu qv (.lst ((ts.take i).map V.ref ++ [v]))) qv = some (.lst ((ts.take i).map V.ref ++ [v])) := upd_same
    generalize upd Hu qv (.lst ((ts.take i).map V.ref ++ [v])) = Hv at sv ev ⊢
    have szv := su.trans sv
    refine ⟨.ref R, rfl, _, rfl, (i : Nat), 1, rfl, rfl, (i : Int) + 1, rfl, R, _, rfl, SqL.of (szv _ _ hGz.hR), fun qw hqw => ?_⟩
    have sw := same_upd (o := .lst (cutV (ts.map V.ref) (some ((i : Int) + 1)) none)) hqw
    have ew : (upd Hv qw (.lst (cutV (ts.map V.ref) (some ((i : Int) + 1)) none))) qw = some (.lst ((ts.drop (i + 1)).map V.ref)) := by
      rw [upd_same, show ((i : Int) + 1) = ((i + 1 : Nat) : Int) from rfl, cutFrom, List.map_drop]
    generalize upd Hv qw (.lst (cutV (ts.map V.ref) (some ((i : Int) + 1)) none)) = Hw at sw ew ⊢
    refine ⟨qv, qw, _, _, rfl, rfl, sw _ _ ev, ew, ?_, fun qt hqt => ?_⟩
    · show ((ts.take i).map V.ref ++ [v]).length + ((ts.drop (i + 1)).map V.ref).length ≤ sizeLine
      rw [List.length_append, List.length_map, List.length_take, List.length_map, List.length_drop, List.length_singleton]
      exact sizeLine_le (by omega)
    have szt := (szv.trans sw).trans (same_upd (o := .lst (((ts.take i).map V.ref ++ [v]) ++ (ts.drop (i + 1)).map V.ref)) hqt)
    have et : (upd Hw qt (.lst (((ts.take i).map V.ref ++ [v]) ++ (ts.drop (i + 1)).map V.ref))) qt = some (.lst (((ts.take i).map V.ref ++ [v]) ++ (ts.drop (i + 1)).map V.ref)) := upd_same
    refine ⟨by simp [sizeLine_eq], fin _ _ (st.same szt) fun H5 u s5 eu => ?_⟩
    have hG5 := (hGz.same szt).same s5
    have sp5 : Spoilt K H5 t f n2 d o v := by
      rcases bad with hb | ⟨a0, e0, h0⟩
      · exact .inl (hb.same (szt.trans s5))
      · exact .inr ⟨a0, e0, s5 _ _ (szt _ _ h0)⟩
    exact .inr ⟨u, _, rfl, eu, .inr ⟨_, _, _, _, _, rfl, .inr ⟨b, rfl, hG.b2, hG.b64, .inr ⟨q0, ws, rfl, SqL.of hG5.hq, hG.ne, hG.l60, .inr ⟨t, rfl, .inr (.inr ⟨f, rfl, spoilt_rows i hi2 hj hj2 okd okp hG5.hP hG.ok hG.few sp5 (s5 _ _ et)⟩)⟩⟩⟩⟩⟩
end
theorem all_mk {l : PySem.W.OpenLaw} {w : World} {K : PySem.W.Frag} {h : Heap} {mg : Str → Option Value} {fa : Addr} (X : K.In h) (G : h.Ns mainGlobals mg) (hfa : mg "law" = some (.ref fa))
    {f_WORDS : Addr} {od_WORDS : Option Addr} {tk0_WORDS tk1_WORDS : Tok} {tn_WORDS : Nat} {ts_WORDS : Array (Option Value)}
    {tk_MOST_LEVELS : Tok}
    {f_wall f_is_integer f_is_word f_is_base f_is_length f_are_levels f_is_tick f_is_period f_check_base f_check_levels f_check_tick f_word_at f_level_and_size f_path f_goes_in_front f_with_timer f_without_repeats f_standing f_is_row f_is_snapshot f_restored f_law_cell_at f_law_mixed f_law_source f_law_next f_law_base f_law_levels f_law_word f_law_spoilt f_law : Addr}
    {od_wall an_wall od_is_integer an_is_integer od_is_word an_is_word od_is_base an_is_base od_is_length an_is_length od_are_levels an_are_levels od_is_tick an_is_tick od_is_period an_is_period od_check_base an_check_base od_check_levels an_check_levels od_check_tick an_check_tick od_word_at an_word_at od_level_and_size an_level_and_size od_path an_path od_goes_in_front an_goes_in_front od_with_timer an_with_timer od_without_repeats an_without_repeats od_standing an_standing od_is_row an_is_row od_is_snapshot an_is_snapshot od_restored an_restored od_law_cell_at an_law_cell_at od_law_mixed an_law_mixed od_law_source an_law_source od_law_next an_law_next od_law_base an_law_base od_law_levels an_law_levels od_law_word an_law_word od_law_spoilt an_law_spoilt od_law an_law : Option Addr}
    {sl_wall sl_is_integer sl_is_word sl_is_base sl_is_length sl_are_levels sl_is_tick sl_is_period sl_check_base sl_check_levels sl_check_tick sl_word_at sl_level_and_size sl_path sl_goes_in_front sl_with_timer sl_without_repeats sl_standing sl_is_row sl_is_snapshot sl_restored sl_law_cell_at sl_law_mixed sl_law_source sl_law_next sl_law_base sl_law_levels sl_law_word sl_law_spoilt sl_law : Array (Option Value)}
    {oc_wall kV_wall dc_wall pm_wall cd_wall ct_wall oc_is_integer kV_is_integer dc_is_integer pm_is_integer cd_is_integer ct_is_integer oc_is_word kV_is_word dc_is_word pm_is_word cd_is_word ct_is_word oc_is_base kV_is_base dc_is_base pm_is_base cd_is_base ct_is_base oc_is_length kV_is_length dc_is_length pm_is_length cd_is_length ct_is_length oc_are_levels kV_are_levels dc_are_levels pm_are_levels cd_are_levels ct_are_levels oc_is_tick kV_is_tick dc_is_tick pm_is_tick cd_is_tick ct_is_tick oc_is_period kV_is_period dc_is_period pm_is_period cd_is_period ct_is_period oc_check_base kV_check_base dc_check_base pm_check_base cd_check_base ct_check_base oc_check_levels kV_check_levels dc_check_levels pm_check_levels cd_check_levels ct_check_levels oc_check_tick kV_check_tick dc_check_tick pm_check_tick cd_check_tick ct_check_tick oc_word_at kV_word_at dc_word_at pm_word_at cd_word_at ct_word_at oc_level_and_size kV_level_and_size dc_level_and_size pm_level_and_size cd_level_and_size ct_level_and_size oc_path kV_path dc_path pm_path cd_path ct_path oc_goes_in_front kV_goes_in_front dc_goes_in_front pm_goes_in_front cd_goes_in_front ct_goes_in_front oc_with_timer kV_with_timer dc_with_timer pm_with_timer cd_with_timer ct_with_timer oc_without_repeats kV_without_repeats dc_without_repeats pm_without_repeats cd_without_repeats ct_without_repeats oc_standing kV_standing dc_standing pm_standing cd_standing ct_standing oc_is_row kV_is_row dc_is_row pm_is_row cd_is_row ct_is_row oc_is_snapshot kV_is_snapshot dc_is_snapshot pm_is_snapshot cd_is_snapshot ct_is_snapshot oc_restored kV_restored dc_restored pm_restored cd_restored ct_restored oc_law_cell_at kV_law_cell_at dc_law_cell_at pm_law_cell_at cd_law_cell_at ct_law_cell_at oc_law_mixed kV_law_mixed dc_law_mixed pm_law_mixed cd_law_mixed ct_law_mixed oc_law_source kV_law_source dc_law_source pm_law_source cd_law_source ct_law_source oc_law_next kV_law_next dc_law_next pm_law_next cd_law_next ct_law_next oc_law_base kV_law_base dc_law_base pm_law_base cd_law_base ct_law_base oc_law_levels kV_law_levels dc_law_levels pm_law_levels cd_law_levels ct_law_levels oc_law_word kV_law_word dc_law_word pm_law_word cd_law_word ct_law_word oc_law_spoilt kV_law_spoilt dc_law_spoilt pm_law_spoilt cd_law_spoilt ct_law_spoilt oc_law kV_law dc_law pm_law cd_law ct_law : Value}
    {C_ : Addr}
    {f_m_init : Addr}
    {od_m_init an_m_init : Option Addr}
    {sl_m_init : Array (Option Value)}
    {oc_m_init dc_m_init pm_m_init cd_m_init ct_m_init : Value}
    {kD_m_init : Addr} {kt_m_init : Tok}
    {c_NoSnapshot c_TimerError c_NoBase c_NoLevels c_NoTick c_NoPeriod c_NoTimer c_NoOrder c_NoSighting c_TooMany c_NoRow : Addr}
    {dT_is_tick : Addr} {tc_is_tick : Value} {td_is_tick : Option Addr} {tt_is_tick : Tok} {tn_is_tick : Nat} {ts_is_tick : Array (Option Value)}
    {dT_check_tick : Addr} {tc_check_tick : Value} {td_check_tick : Option Addr} {tt_check_tick : Tok} {tn_check_tick : Nat} {ts_check_tick : Array (Option Value)}
    (a_wall : PySem.W.nsIn K mainGlobals "_wall" = some (some (.ref f_wall)))
    (l_wall : K.lookup f_wall = some ⟨oc_wall, od_wall, .func (PySem.W.fnOf "_wall" "_wall" (defArgs s__wall) (defBody s__wall) (defScope s__wall) .none kV_wall dc_wall pm_wall an_wall cd_wall ct_wall), sl_wall⟩)
    (c_wall : PySem.W.codeIn K cd_wall "_wall" = true) (k_wall : PySem.W.keepIn K (.ref f_wall) = true)
    (a_is_integer : PySem.W.nsIn K mainGlobals "is_integer" = some (some (.ref f_is_integer)))
    (l_is_integer : K.lookup f_is_integer = some ⟨oc_is_integer, od_is_integer, .func (PySem.W.fnOf "is_integer" "is_integer" (defArgs s_is_integer) (defBody s_is_integer) (defScope s_is_integer) .none kV_is_integer dc_is_integer pm_is_integer an_is_integer cd_is_integer ct_is_integer), sl_is_integer⟩)
    (c_is_integer : PySem.W.codeIn K cd_is_integer "is_integer" = true) (k_is_integer : PySem.W.keepIn K (.ref f_is_integer) = true)
    (a_is_word : PySem.W.nsIn K mainGlobals "is_word" = some (some (.ref f_is_word)))
    (l_is_word : K.lookup f_is_word = some ⟨oc_is_word, od_is_word, .func (PySem.W.fnOf "is_word" "is_word" (defArgs s_is_word) (defBody s_is_word) (defScope s_is_word) .none kV_is_word dc_is_word pm_is_word an_is_word cd_is_word ct_is_word), sl_is_word⟩)
    (c_is_word : PySem.W.codeIn K cd_is_word "is_word" = true) (k_is_word : PySem.W.keepIn K (.ref f_is_word) = true)
    (a_is_base : PySem.W.nsIn K mainGlobals "is_base" = some (some (.ref f_is_base)))
    (l_is_base : K.lookup f_is_base = some ⟨oc_is_base, od_is_base, .func (PySem.W.fnOf "is_base" "is_base" (defArgs s_is_base) (defBody s_is_base) (defScope s_is_base) .none kV_is_base dc_is_base pm_is_base an_is_base cd_is_base ct_is_base), sl_is_base⟩)
    (c_is_base : PySem.W.codeIn K cd_is_base "is_base" = true) (k_is_base : PySem.W.keepIn K (.ref f_is_base) = true)
    (a_is_length : PySem.W.nsIn K mainGlobals "is_length" = some (some (.ref f_is_length)))
    (l_is_length : K.lookup f_is_length = some ⟨oc_is_length, od_is_length, .func (PySem.W.fnOf "is_length" "is_length" (defArgs s_is_length) (defBody s_is_length) (defScope s_is_length) .none kV_is_length dc_is_length pm_is_length an_is_length cd_is_length ct_is_length), sl_is_length⟩)
    (c_is_length : PySem.W.codeIn K cd_is_length "is_length" = true) (k_is_length : PySem.W.keepIn K (.ref f_is_length) = true)
    (a_are_levels : PySem.W.nsIn K mainGlobals "are_levels" = some (some (.ref f_are_levels)))
    (l_are_levels : K.lookup f_are_levels = some ⟨oc_are_levels, od_are_levels, .func (PySem.W.fnOf "are_levels" "are_levels" (defArgs s_are_levels) (defBody s_are_levels) (defScope s_are_levels) .none kV_are_levels dc_are_levels pm_are_levels an_are_levels cd_are_levels ct_are_levels), sl_are_levels⟩)
    (c_are_levels : PySem.W.codeIn K cd_are_levels "are_levels" = true) (k_are_levels : PySem.W.keepIn K (.ref f_are_levels) = true)
    (a_is_tick : PySem.W.nsIn K mainGlobals "is_tick" = some (some (.ref f_is_tick)))
    (l_is_tick : K.lookup f_is_tick = some ⟨oc_is_tick, od_is_tick, .func (PySem.W.fnOf "is_tick" "is_tick" (defArgs s_is_tick) (defBody s_is_tick) (defScope s_is_tick) (.ref dT_is_tick) kV_is_tick dc_is_tick pm_is_tick an_is_tick cd_is_tick ct_is_tick), sl_is_tick⟩)
    (t_is_tick : K.lookup dT_is_tick = some ⟨tc_is_tick, td_is_tick, .seq #[.int 0 tt_is_tick] tn_is_tick, ts_is_tick⟩)
    (c_is_tick : PySem.W.codeIn K cd_is_tick "is_tick" = true) (k_is_tick : PySem.W.keepIn K (.ref f_is_tick) = true)
    (a_is_period : PySem.W.nsIn K mainGlobals "is_period" = some (some (.ref f_is_period)))
    (l_is_period : K.lookup f_is_period = some ⟨oc_is_period, od_is_period, .func (PySem.W.fnOf "is_period" "is_period" (defArgs s_is_period) (defBody s_is_period) (defScope s_is_period) .none kV_is_period dc_is_period pm_is_period an_is_period cd_is_period ct_is_period), sl_is_period⟩)
    (c_is_period : PySem.W.codeIn K cd_is_period "is_period" = true) (k_is_period : PySem.W.keepIn K (.ref f_is_period) = true)
    (a_check_base : PySem.W.nsIn K mainGlobals "check_base" = some (some (.ref f_check_base)))
    (l_check_base : K.lookup f_check_base = some ⟨oc_check_base, od_check_base, .func (PySem.W.fnOf "check_base" "check_base" (defArgs s_check_base) (defBody s_check_base) (defScope s_check_base) .none kV_check_base dc_check_base pm_check_base an_check_base cd_check_base ct_check_base), sl_check_base⟩)
    (c_check_base : PySem.W.codeIn K cd_check_base "check_base" = true) (k_check_base : PySem.W.keepIn K (.ref f_check_base) = true)
    (a_check_levels : PySem.W.nsIn K mainGlobals "check_levels" = some (some (.ref f_check_levels)))
    (l_check_levels : K.lookup f_check_levels = some ⟨oc_check_levels, od_check_levels, .func (PySem.W.fnOf "check_levels" "check_levels" (defArgs s_check_levels) (defBody s_check_levels) (defScope s_check_levels) .none kV_check_levels dc_check_levels pm_check_levels an_check_levels cd_check_levels ct_check_levels), sl_check_levels⟩)
    (c_check_levels : PySem.W.codeIn K cd_check_levels "check_levels" = true) (k_check_levels : PySem.W.keepIn K (.ref f_check_levels) = true)
    (a_check_tick : PySem.W.nsIn K mainGlobals "check_tick" = some (some (.ref f_check_tick)))
    (l_check_tick : K.lookup f_check_tick = some ⟨oc_check_tick, od_check_tick, .func (PySem.W.fnOf "check_tick" "check_tick" (defArgs s_check_tick) (defBody s_check_tick) (defScope s_check_tick) (.ref dT_check_tick) kV_check_tick dc_check_tick pm_check_tick an_check_tick cd_check_tick ct_check_tick), sl_check_tick⟩)
    (t_check_tick : K.lookup dT_check_tick = some ⟨tc_check_tick, td_check_tick, .seq #[.int 0 tt_check_tick] tn_check_tick, ts_check_tick⟩)
    (c_check_tick : PySem.W.codeIn K cd_check_tick "check_tick" = true) (k_check_tick : PySem.W.keepIn K (.ref f_check_tick) = true)
    (a_word_at : PySem.W.nsIn K mainGlobals "word_at" = some (some (.ref f_word_at)))
    (l_word_at : K.lookup f_word_at = some ⟨oc_word_at, od_word_at, .func (PySem.W.fnOf "word_at" "word_at" (defArgs s_word_at) (defBody s_word_at) (defScope s_word_at) .none kV_word_at dc_word_at pm_word_at an_word_at cd_word_at ct_word_at), sl_word_at⟩)
    (c_word_at : PySem.W.codeIn K cd_word_at "word_at" = true) (k_word_at : PySem.W.keepIn K (.ref f_word_at) = true)
    (a_level_and_size : PySem.W.nsIn K mainGlobals "level_and_size" = some (some (.ref f_level_and_size)))
    (l_level_and_size : K.lookup f_level_and_size = some ⟨oc_level_and_size, od_level_and_size, .func (PySem.W.fnOf "level_and_size" "level_and_size" (defArgs s_level_and_size) (defBody s_level_and_size) (defScope s_level_and_size) .none kV_level_and_size dc_level_and_size pm_level_and_size an_level_and_size cd_level_and_size ct_level_and_size), sl_level_and_size⟩)
    (c_level_and_size : PySem.W.codeIn K cd_level_and_size "level_and_size" = true) (k_level_and_size : PySem.W.keepIn K (.ref f_level_and_size) = true)
    (a_path : PySem.W.nsIn K mainGlobals "path" = some (some (.ref f_path)))
    (l_path : K.lookup f_path = some ⟨oc_path, od_path, .func (PySem.W.fnOf "path" "path" (defArgs s_path) (defBody s_path) (defScope s_path) .none kV_path dc_path pm_path an_path cd_path ct_path), sl_path⟩)
    (c_path : PySem.W.codeIn K cd_path "path" = true) (k_path : PySem.W.keepIn K (.ref f_path) = true)
    (a_goes_in_front : PySem.W.nsIn K mainGlobals "goes_in_front" = some (some (.ref f_goes_in_front)))
    (l_goes_in_front : K.lookup f_goes_in_front = some ⟨oc_goes_in_front, od_goes_in_front, .func (PySem.W.fnOf "goes_in_front" "goes_in_front" (defArgs s_goes_in_front) (defBody s_goes_in_front) (defScope s_goes_in_front) .none kV_goes_in_front dc_goes_in_front pm_goes_in_front an_goes_in_front cd_goes_in_front ct_goes_in_front), sl_goes_in_front⟩)
    (c_goes_in_front : PySem.W.codeIn K cd_goes_in_front "goes_in_front" = true) (k_goes_in_front : PySem.W.keepIn K (.ref f_goes_in_front) = true)
    (a_with_timer : PySem.W.nsIn K mainGlobals "with_timer" = some (some (.ref f_with_timer)))
    (l_with_timer : K.lookup f_with_timer = some ⟨oc_with_timer, od_with_timer, .func (PySem.W.fnOf "with_timer" "with_timer" (defArgs s_with_timer) (defBody s_with_timer) (defScope s_with_timer) .none kV_with_timer dc_with_timer pm_with_timer an_with_timer cd_with_timer ct_with_timer), sl_with_timer⟩)
    (c_with_timer : PySem.W.codeIn K cd_with_timer "with_timer" = true) (k_with_timer : PySem.W.keepIn K (.ref f_with_timer) = true)
    (a_without_repeats : PySem.W.nsIn K mainGlobals "without_repeats" = some (some (.ref f_without_repeats)))
    (l_without_repeats : K.lookup f_without_repeats = some ⟨oc_without_repeats, od_without_repeats, .func (PySem.W.fnOf "without_repeats" "without_repeats" (defArgs s_without_repeats) (defBody s_without_repeats) (defScope s_without_repeats) .none kV_without_repeats dc_without_repeats pm_without_repeats an_without_repeats cd_without_repeats ct_without_repeats), sl_without_repeats⟩)
    (c_without_repeats : PySem.W.codeIn K cd_without_repeats "without_repeats" = true) (k_without_repeats : PySem.W.keepIn K (.ref f_without_repeats) = true)
    (a_standing : PySem.W.nsIn K mainGlobals "standing" = some (some (.ref f_standing)))
    (l_standing : K.lookup f_standing = some ⟨oc_standing, od_standing, .func (PySem.W.fnOf "standing" "standing" (defArgs s_standing) (defBody s_standing) (defScope s_standing) .none kV_standing dc_standing pm_standing an_standing cd_standing ct_standing), sl_standing⟩)
    (c_standing : PySem.W.codeIn K cd_standing "standing" = true) (k_standing : PySem.W.keepIn K (.ref f_standing) = true)
    (a_is_row : PySem.W.nsIn K mainGlobals "is_row" = some (some (.ref f_is_row)))
    (l_is_row : K.lookup f_is_row = some ⟨oc_is_row, od_is_row, .func (PySem.W.fnOf "is_row" "is_row" (defArgs s_is_row) (defBody s_is_row) (defScope s_is_row) .none kV_is_row dc_is_row pm_is_row an_is_row cd_is_row ct_is_row), sl_is_row⟩)
    (c_is_row : PySem.W.codeIn K cd_is_row "is_row" = true) (k_is_row : PySem.W.keepIn K (.ref f_is_row) = true)
    (a_is_snapshot : PySem.W.nsIn K mainGlobals "is_snapshot" = some (some (.ref f_is_snapshot)))
    (l_is_snapshot : K.lookup f_is_snapshot = some ⟨oc_is_snapshot, od_is_snapshot, .func (PySem.W.fnOf "is_snapshot" "is_snapshot" (defArgs s_is_snapshot) (defBody s_is_snapshot) (defScope s_is_snapshot) .none kV_is_snapshot dc_is_snapshot pm_is_snapshot an_is_snapshot cd_is_snapshot ct_is_snapshot), sl_is_snapshot⟩)
    (c_is_snapshot : PySem.W.codeIn K cd_is_snapshot "is_snapshot" = true) (k_is_snapshot : PySem.W.keepIn K (.ref f_is_snapshot) = true)
    (a_restored : PySem.W.nsIn K mainGlobals "restored" = some (some (.ref f_restored)))
    (l_restored : K.lookup f_restored = some ⟨oc_restored, od_restored, .func (PySem.W.fnOf "restored" "restored" (defArgs s_restored) (defBody s_restored) (defScope s_restored) .none kV_restored dc_restored pm_restored an_restored cd_restored ct_restored), sl_restored⟩)
    (c_restored : PySem.W.codeIn K cd_restored "restored" = true) (k_restored : PySem.W.keepIn K (.ref f_restored) = true)
    (a_law_cell_at : PySem.W.nsIn K mainGlobals "_law_cell_at" = some (some (.ref f_law_cell_at)))
    (l_law_cell_at : K.lookup f_law_cell_at = some ⟨oc_law_cell_at, od_law_cell_at, .func (PySem.W.fnOf "_law_cell_at" "_law_cell_at" (defArgs s__law_cell_at) (defBody s__law_cell_at) (defScope s__law_cell_at) .none kV_law_cell_at dc_law_cell_at pm_law_cell_at an_law_cell_at cd_law_cell_at ct_law_cell_at), sl_law_cell_at⟩)
    (c_law_cell_at : PySem.W.codeIn K cd_law_cell_at "_law_cell_at" = true) (k_law_cell_at : PySem.W.keepIn K (.ref f_law_cell_at) = true)
    (a_law_mixed : PySem.W.nsIn K mainGlobals "_law_mixed" = some (some (.ref f_law_mixed)))
    (l_law_mixed : K.lookup f_law_mixed = some ⟨oc_law_mixed, od_law_mixed, .func (PySem.W.fnOf "_law_mixed" "_law_mixed" (defArgs s__law_mixed) (defBody s__law_mixed) (defScope s__law_mixed) .none kV_law_mixed dc_law_mixed pm_law_mixed an_law_mixed cd_law_mixed ct_law_mixed), sl_law_mixed⟩)
    (c_law_mixed : PySem.W.codeIn K cd_law_mixed "_law_mixed" = true) (k_law_mixed : PySem.W.keepIn K (.ref f_law_mixed) = true)
    (a_law_source : PySem.W.nsIn K mainGlobals "_law_source" = some (some (.ref f_law_source)))
    (l_law_source : K.lookup f_law_source = some ⟨oc_law_source, od_law_source, .func (PySem.W.fnOf "_law_source" "_law_source" (defArgs s__law_source) (defBody s__law_source) (defScope s__law_source) .none kV_law_source dc_law_source pm_law_source an_law_source cd_law_source ct_law_source), sl_law_source⟩)
    (c_law_source : PySem.W.codeIn K cd_law_source "_law_source" = true) (k_law_source : PySem.W.keepIn K (.ref f_law_source) = true)
    (a_law_next : PySem.W.nsIn K mainGlobals "_law_next" = some (some (.ref f_law_next)))
    (l_law_next : K.lookup f_law_next = some ⟨oc_law_next, od_law_next, .func (PySem.W.fnOf "_law_next" "_law_next" (defArgs s__law_next) (defBody s__law_next) (defScope s__law_next) .none kV_law_next dc_law_next pm_law_next an_law_next cd_law_next ct_law_next), sl_law_next⟩)
    (c_law_next : PySem.W.codeIn K cd_law_next "_law_next" = true) (k_law_next : PySem.W.keepIn K (.ref f_law_next) = true)
    (a_law_base : PySem.W.nsIn K mainGlobals "_law_base" = some (some (.ref f_law_base)))
    (l_law_base : K.lookup f_law_base = some ⟨oc_law_base, od_law_base, .func (PySem.W.fnOf "_law_base" "_law_base" (defArgs s__law_base) (defBody s__law_base) (defScope s__law_base) .none kV_law_base dc_law_base pm_law_base an_law_base cd_law_base ct_law_base), sl_law_base⟩)
    (c_law_base : PySem.W.codeIn K cd_law_base "_law_base" = true) (k_law_base : PySem.W.keepIn K (.ref f_law_base) = true)
    (a_law_levels : PySem.W.nsIn K mainGlobals "_law_levels" = some (some (.ref f_law_levels)))
    (l_law_levels : K.lookup f_law_levels = some ⟨oc_law_levels, od_law_levels, .func (PySem.W.fnOf "_law_levels" "_law_levels" (defArgs s__law_levels) (defBody s__law_levels) (defScope s__law_levels) .none kV_law_levels dc_law_levels pm_law_levels an_law_levels cd_law_levels ct_law_levels), sl_law_levels⟩)
    (c_law_levels : PySem.W.codeIn K cd_law_levels "_law_levels" = true) (k_law_levels : PySem.W.keepIn K (.ref f_law_levels) = true)
    (a_law_word : PySem.W.nsIn K mainGlobals "_law_word" = some (some (.ref f_law_word)))
    (l_law_word : K.lookup f_law_word = some ⟨oc_law_word, od_law_word, .func (PySem.W.fnOf "_law_word" "_law_word" (defArgs s__law_word) (defBody s__law_word) (defScope s__law_word) .none kV_law_word dc_law_word pm_law_word an_law_word cd_law_word ct_law_word), sl_law_word⟩)
    (c_law_word : PySem.W.codeIn K cd_law_word "_law_word" = true) (k_law_word : PySem.W.keepIn K (.ref f_law_word) = true)
    (a_law_spoilt : PySem.W.nsIn K mainGlobals "_law_spoilt" = some (some (.ref f_law_spoilt)))
    (l_law_spoilt : K.lookup f_law_spoilt = some ⟨oc_law_spoilt, od_law_spoilt, .func (PySem.W.fnOf "_law_spoilt" "_law_spoilt" (defArgs s__law_spoilt) (defBody s__law_spoilt) (defScope s__law_spoilt) .none kV_law_spoilt dc_law_spoilt pm_law_spoilt an_law_spoilt cd_law_spoilt ct_law_spoilt), sl_law_spoilt⟩)
    (c_law_spoilt : PySem.W.codeIn K cd_law_spoilt "_law_spoilt" = true) (k_law_spoilt : PySem.W.keepIn K (.ref f_law_spoilt) = true)
    (a_law : PySem.W.nsIn K mainGlobals "law" = some (some (.ref f_law)))
    (l_law : K.lookup f_law = some ⟨oc_law, od_law, .func (PySem.W.fnOf "law" "law" (defArgs s_law) (defBody s_law) (defScope s_law) .none kV_law dc_law pm_law an_law cd_law ct_law), sl_law⟩)
    (c_law : PySem.W.codeIn K cd_law "law" = true) (k_law : PySem.W.keepIn K (.ref f_law) = true)
    (a_Wheel : PySem.W.nsIn K mainGlobals "Wheel" = some (some (.ref C_)))
    (a_m_init : PySem.W.findIn K (.ref C_) "__init__" = some (some (.ref f_m_init))) (i_m_init : PySem.W.isFn K (.ref f_m_init) = true)
    (l_m_init : K.lookup f_m_init = some ⟨oc_m_init, od_m_init, .func (PySem.W.fnOf "__init__" "Wheel.__init__" (defArgs s_Wheel___init__) (defBody s_Wheel___init__) (defScope s_Wheel___init__) .none (.ref kD_m_init) dc_m_init pm_m_init an_m_init cd_m_init ct_m_init), sl_m_init⟩)
    (c_m_init : PySem.W.codeIn K cd_m_init "Wheel.__init__" = true) (k_m_init : PySem.W.keepIn K (.ref f_m_init) = true)
    (d_m_init : PySem.W.nsIn K kD_m_init "start" = some (some (.int 0 kt_m_init)))
    (pg : PySem.W.plainGet K C_ Str.empty = true)
    (hd : PySem.W.hasDictIn K C_ = true)
    (po : PySem.W.plainOver K C_ = true)
    (sa : PySem.W.findIn K (.ref C_) "__setattr__" = some (some (.builtin "object.__setattr__")))
    (mkC : PySem.W.makesIn K C_ = true)
    (kc : PySem.W.keepIn K (.ref C_) = true)
    (n_base : PySem.W.findIn K (.ref C_) "base" = some none)
    (n_words : PySem.W.findIn K (.ref C_) "words" = some none)
    (n_tick : PySem.W.findIn K (.ref C_) "tick" = some none)
    (n_following : PySem.W.findIn K (.ref C_) "following" = some none)
    (n_live : PySem.W.findIn K (.ref C_) "live" = some none)
    (a_NoSnapshot : PySem.W.nsIn K mainGlobals "NoSnapshot" = some (some (.ref c_NoSnapshot)))
    (a_TimerError : PySem.W.nsIn K mainGlobals "TimerError" = some (some (.ref c_TimerError)))
    (a_NoBase : PySem.W.nsIn K mainGlobals "NoBase" = some (some (.ref c_NoBase)))
    (a_NoLevels : PySem.W.nsIn K mainGlobals "NoLevels" = some (some (.ref c_NoLevels)))
    (a_NoTick : PySem.W.nsIn K mainGlobals "NoTick" = some (some (.ref c_NoTick)))
    (a_NoPeriod : PySem.W.nsIn K mainGlobals "NoPeriod" = some (some (.ref c_NoPeriod)))
    (a_NoTimer : PySem.W.nsIn K mainGlobals "NoTimer" = some (some (.ref c_NoTimer)))
    (a_NoOrder : PySem.W.nsIn K mainGlobals "NoOrder" = some (some (.ref c_NoOrder)))
    (a_NoSighting : PySem.W.nsIn K mainGlobals "NoSighting" = some (some (.ref c_NoSighting)))
    (a_TooMany : PySem.W.nsIn K mainGlobals "TooMany" = some (some (.ref c_TooMany)))
    (a_NoRow : PySem.W.nsIn K mainGlobals "NoRow" = some (some (.ref c_NoRow)))
    (x_NoSnapshot : PySem.W.excIn K c_NoSnapshot [.type "ValueError", .type "Exception", .type "BaseException", .type "object"] "ValueError.__new__" = true)
    (kp_NoSnapshot : PySem.W.keepIn K (.ref c_NoSnapshot) = true)
    (bx_NoSnapshot : PySem.W.subIn K (.ref c_NoSnapshot) (.type "BaseException") = some true)
    (tx_NoSnapshot : PySem.W.typeIn K (.ref c_NoSnapshot) = some (.type "type"))
    (ga_NoSnapshot : PySem.W.findIn K (.ref c_NoSnapshot) "__getattribute__" = some (some (.builtin "BaseException.__getattribute__")))
    (gg_NoSnapshot : PySem.W.findIn K (.ref c_NoSnapshot) "__getattr__" = some none)
    (hx_NoSnapshot : PySem.W.hasDictIn K c_NoSnapshot = true)
    (cc_NoSnapshot : PySem.W.findIn K (.ref c_NoSnapshot) "__class__" = some (some (.builtin "object.__class__")))
    (mo_NoSnapshot : PySem.W.mroIn K c_NoSnapshot (.type "object") = some true)
    (ss_NoSnapshot : PySem.W.subIn K (.ref c_NoSnapshot) (.ref c_NoSnapshot) = some true)
    (sp_get : PySem.W.specialIn K (.builtin "object.__class__") "__get__" = some (some (.builtin "getset_descriptor.__get__")))
    (tk_cls : PySem.W.takesIn K (.builtin "object.__class__") = some true)
    (bx_TimerError : PySem.W.subIn K (.ref c_TimerError) (.type "BaseException") = some true)
    (hx_TimerError : PySem.W.hasDictIn K c_TimerError = true)
    (tx_TimerError : PySem.W.typeIn K (.ref c_TimerError) = some (.type "type"))
    (ss_NoSnapshot_TimerError : PySem.W.subIn K (.ref c_NoSnapshot) (.ref c_TimerError) = some true)
    (hx_NoBase : PySem.W.hasDictIn K c_NoBase = true)
    (tx_NoBase : PySem.W.typeIn K (.ref c_NoBase) = some (.type "type"))
    (ss_NoSnapshot_NoBase : PySem.W.subIn K (.ref c_NoSnapshot) (.ref c_NoBase) = some false)
    (hx_NoLevels : PySem.W.hasDictIn K c_NoLevels = true)
    (tx_NoLevels : PySem.W.typeIn K (.ref c_NoLevels) = some (.type "type"))
    (ss_NoSnapshot_NoLevels : PySem.W.subIn K (.ref c_NoSnapshot) (.ref c_NoLevels) = some false)
    (hx_NoTick : PySem.W.hasDictIn K c_NoTick = true)
    (tx_NoTick : PySem.W.typeIn K (.ref c_NoTick) = some (.type "type"))
    (ss_NoSnapshot_NoTick : PySem.W.subIn K (.ref c_NoSnapshot) (.ref c_NoTick) = some false)
    (hx_NoPeriod : PySem.W.hasDictIn K c_NoPeriod = true)
    (tx_NoPeriod : PySem.W.typeIn K (.ref c_NoPeriod) = some (.type "type"))
    (ss_NoSnapshot_NoPeriod : PySem.W.subIn K (.ref c_NoSnapshot) (.ref c_NoPeriod) = some false)
    (hx_NoTimer : PySem.W.hasDictIn K c_NoTimer = true)
    (tx_NoTimer : PySem.W.typeIn K (.ref c_NoTimer) = some (.type "type"))
    (ss_NoSnapshot_NoTimer : PySem.W.subIn K (.ref c_NoSnapshot) (.ref c_NoTimer) = some false)
    (hx_NoOrder : PySem.W.hasDictIn K c_NoOrder = true)
    (tx_NoOrder : PySem.W.typeIn K (.ref c_NoOrder) = some (.type "type"))
    (ss_NoSnapshot_NoOrder : PySem.W.subIn K (.ref c_NoSnapshot) (.ref c_NoOrder) = some false)
    (hx_NoSighting : PySem.W.hasDictIn K c_NoSighting = true)
    (tx_NoSighting : PySem.W.typeIn K (.ref c_NoSighting) = some (.type "type"))
    (ss_NoSnapshot_NoSighting : PySem.W.subIn K (.ref c_NoSnapshot) (.ref c_NoSighting) = some false)
    (hx_TooMany : PySem.W.hasDictIn K c_TooMany = true)
    (tx_TooMany : PySem.W.typeIn K (.ref c_TooMany) = some (.type "type"))
    (ss_NoSnapshot_TooMany : PySem.W.subIn K (.ref c_NoSnapshot) (.ref c_TooMany) = some false)
    (hx_NoRow : PySem.W.hasDictIn K c_NoRow = true)
    (tx_NoRow : PySem.W.typeIn K (.ref c_NoRow) = some (.type "type"))
    (ss_NoSnapshot_NoRow : PySem.W.subIn K (.ref c_NoSnapshot) (.ref c_NoRow) = some false)
    (z_isinstance : PySem.W.nsIn K mainGlobals "isinstance" = some none)
    (z_int : PySem.W.nsIn K mainGlobals "int" = some none)
    (z_bool : PySem.W.nsIn K mainGlobals "bool" = some none)
    (z_str : PySem.W.nsIn K mainGlobals "str" = some none)
    (z_all : PySem.W.nsIn K mainGlobals "all" = some none)
    (z_list : PySem.W.nsIn K mainGlobals "list" = some none)
    (z_len : PySem.W.nsIn K mainGlobals "len" = some none)
    (z_min : PySem.W.nsIn K mainGlobals "min" = some none)
    (z_sorted : PySem.W.nsIn K mainGlobals "sorted" = some none)
    (z_tuple : PySem.W.nsIn K mainGlobals "tuple" = some none)
    (z_set : PySem.W.nsIn K mainGlobals "set" = some none)
    (z_range : PySem.W.nsIn K mainGlobals "range" = some none)
    (z_max : PySem.W.nsIn K mainGlobals "max" = some none)
    (a_WORDS : PySem.W.nsIn K mainGlobals "WORDS" = some (some (.ref f_WORDS)))
    (l_WORDS : K.lookup f_WORDS = some ⟨.type "tuple", od_WORDS, .seq #[.str "stack" tk0_WORDS, .str "queue" tk1_WORDS] tn_WORDS, ts_WORDS⟩)
    (a_MOST_LEVELS : PySem.W.nsIn K mainGlobals "MOST_LEVELS" = some (some (.int 60 tk_MOST_LEVELS)))
    : ∃ fd : FuncData, (∀ (s : Shared) (v : Value), BindsTo s fd ⟨[v], []⟩ [("_law_script", v)]) ∧ ∀ base : Heap, K.In base → base.Ns mainGlobals mg → FnOk l.prog w K mg base CX0 9 fa fd ["_law_script"] (spLaw K) := by
  have e := hfa.symm.trans (PySem.W.mg_of X G a_law)
  cases e
  have T : Tx K mg := ⟨PySem.W.mg_none_of X G z_isinstance, PySem.W.mg_none_of X G z_int, PySem.W.mg_none_of X G z_bool, PySem.W.mg_none_of X G z_str, PySem.W.mg_none_of X G z_all, PySem.W.mg_none_of X G z_list, PySem.W.mg_none_of X G z_len, PySem.W.mg_none_of X G z_min, PySem.W.mg_none_of X G z_sorted, PySem.W.mg_none_of X G z_tuple, PySem.W.mg_none_of X G z_set, PySem.W.mg_none_of X G z_range, PySem.W.mg_none_of X G z_max⟩
  have h_WORDS : ∃ a, mg "WORDS" = some (.ref a) ∧ ∀ H, SqT K H a [.str "stack", .str "queue"] := ⟨f_WORDS, PySem.W.mg_of X G a_WORDS, fun H => .inr ⟨_, _, _, l_WORDS, rfl, rfl, by simp [sizeLine_eq], .cons ⟨_, rfl⟩ (.cons ⟨_, rfl⟩ (.nil))⟩⟩
  have h_MOST_LEVELS : mg "MOST_LEVELS" = some (.int 60 tk_MOST_LEVELS) := PySem.W.mg_of X G a_MOST_LEVELS
  have D_wall : Df K mg "_wall" s__wall ["k"] := by
    have F := fun_mk (st := s__wall) l_wall c_wall k_wall
    exact ⟨_, _, F, PySem.W.mg_of X G a_wall, F.binds (ps := ["k"]) fun _ _ _ _ _ _ us hl => match us, hl with | [_], _ => rfl⟩
  have D_is_integer : Df K mg "is_integer" s_is_integer ["given"] := by
    have F := fun_mk (st := s_is_integer) l_is_integer c_is_integer k_is_integer
    exact ⟨_, _, F, PySem.W.mg_of X G a_is_integer, F.binds (ps := ["given"]) fun _ _ _ _ _ _ us hl => match us, hl with | [_], _ => rfl⟩
  have D_is_word : Df K mg "is_word" s_is_word ["given"] := by
    have F := fun_mk (st := s_is_word) l_is_word c_is_word k_is_word
    exact ⟨_, _, F, PySem.W.mg_of X G a_is_word, F.binds (ps := ["given"]) fun _ _ _ _ _ _ us hl => match us, hl with | [_], _ => rfl⟩
  have D_is_base : Df K mg "is_base" s_is_base ["given"] := by
    have F := fun_mk (st := s_is_base) l_is_base c_is_base k_is_base
    exact ⟨_, _, F, PySem.W.mg_of X G a_is_base, F.binds (ps := ["given"]) fun _ _ _ _ _ _ us hl => match us, hl with | [_], _ => rfl⟩
  have D_is_length : Df K mg "is_length" s_is_length ["given"] := by
    have F := fun_mk (st := s_is_length) l_is_length c_is_length k_is_length
    exact ⟨_, _, F, PySem.W.mg_of X G a_is_length, F.binds (ps := ["given"]) fun _ _ _ _ _ _ us hl => match us, hl with | [_], _ => rfl⟩
  have D_are_levels : Df K mg "are_levels" s_are_levels ["given"] := by
    have F := fun_mk (st := s_are_levels) l_are_levels c_are_levels k_are_levels
    exact ⟨_, _, F, PySem.W.mg_of X G a_are_levels, F.binds (ps := ["given"]) fun _ _ _ _ _ _ us hl => match us, hl with | [_], _ => rfl⟩
  have D_is_tick : Dd K mg "is_tick" s_is_tick ["given", "least"] (.int 0) := by
    have F : FunD K "is_tick" "is_tick" (defArgs s_is_tick) (defBody s_is_tick) (defScope s_is_tick) [(.int 0)] [] _ _ := ⟨⟨_, _, _, _, _, _, _, _, _, _, rfl, l_is_tick, c_is_tick, .inr ⟨by simp, dT_is_tick, _, [_], _, rfl, t_is_tick, rfl, .cons ⟨_, rfl⟩ .nil⟩, .inl rfl⟩, k_is_tick⟩
    exact ⟨_, _, F, PySem.W.mg_of X G a_is_tick,
      FunD.binds1 (ps := ["given", "least"]) F 1 0 (by simp) rfl fun _ _ _ _ _ _ _ us its hu hi => match us, its, hu, hi with | [_], [_], _, _ => ⟨_, rfl, rfl⟩,
      by obtain ⟨ds, r, b⟩ := FunD.binds1 (ps := ["given", "least"]) F 2 1 (by simp) rfl fun _ _ _ _ _ _ _ us its hu hi => match us, its, hu, hi with | [_, _], [_], _, _ => ⟨_, rfl, rfl⟩
         cases r
         exact b⟩
  have D_is_period : Df K mg "is_period" s_is_period ["given"] := by
    have F := fun_mk (st := s_is_period) l_is_period c_is_period k_is_period
    exact ⟨_, _, F, PySem.W.mg_of X G a_is_period, F.binds (ps := ["given"]) fun _ _ _ _ _ _ us hl => match us, hl with | [_], _ => rfl⟩
  have D_check_base : Df K mg "check_base" s_check_base ["base"] := by
    have F := fun_mk (st := s_check_base) l_check_base c_check_base k_check_base
    exact ⟨_, _, F, PySem.W.mg_of X G a_check_base, F.binds (ps := ["base"]) fun _ _ _ _ _ _ us hl => match us, hl with | [_], _ => rfl⟩
  have D_check_levels : Df K mg "check_levels" s_check_levels ["levels"] := by
    have F := fun_mk (st := s_check_levels) l_check_levels c_check_levels k_check_levels
    exact ⟨_, _, F, PySem.W.mg_of X G a_check_levels, F.binds (ps := ["levels"]) fun _ _ _ _ _ _ us hl => match us, hl with | [_], _ => rfl⟩
  have D_check_tick : Dd K mg "check_tick" s_check_tick ["tick", "least"] (.int 0) := by
    have F : FunD K "check_tick" "check_tick" (defArgs s_check_tick) (defBody s_check_tick) (defScope s_check_tick) [(.int 0)] [] _ _ := ⟨⟨_, _, _, _, _, _, _, _, _, _, rfl, l_check_tick, c_check_tick, .inr ⟨by simp, dT_check_tick, _, [_], _, rfl, t_check_tick, rfl, .cons ⟨_, rfl⟩ .nil⟩, .inl rfl⟩, k_check_tick⟩
    exact ⟨_, _, F, PySem.W.mg_of X G a_check_tick,
      FunD.binds1 (ps := ["tick", "least"]) F 1 0 (by simp) rfl fun _ _ _ _ _ _ _ us its hu hi => match us, its, hu, hi with | [_], [_], _, _ => ⟨_, rfl, rfl⟩,
      by obtain ⟨ds, r, b⟩ := FunD.binds1 (ps := ["tick", "least"]) F 2 1 (by simp) rfl fun _ _ _ _ _ _ _ us its hu hi => match us, its, hu, hi with | [_, _], [_], _, _ => ⟨_, rfl, rfl⟩
         cases r
         exact b⟩
  have D_word_at : Df K mg "word_at" s_word_at ["levels", "level"] := by
    have F := fun_mk (st := s_word_at) l_word_at c_word_at k_word_at
    exact ⟨_, _, F, PySem.W.mg_of X G a_word_at, F.binds (ps := ["levels", "level"]) fun _ _ _ _ _ _ us hl => match us, hl with | [_, _], _ => rfl⟩
  have D_level_and_size : Df K mg "level_and_size" s_level_and_size ["base", "now", "due"] := by
    have F := fun_mk (st := s_level_and_size) l_level_and_size c_level_and_size k_level_and_size
    exact ⟨_, _, F, PySem.W.mg_of X G a_level_and_size, F.binds (ps := ["base", "now", "due"]) fun _ _ _ _ _ _ us hl => match us, hl with | [_, _, _], _ => rfl⟩
  have D_path : Df K mg "path" s_path ["base", "now", "due"] := by
    have F := fun_mk (st := s_path) l_path c_path k_path
    exact ⟨_, _, F, PySem.W.mg_of X G a_path, F.binds (ps := ["base", "now", "due"]) fun _ _ _ _ _ _ us hl => match us, hl with | [_, _, _], _ => rfl⟩
  have D_goes_in_front : Df K mg "goes_in_front" s_goes_in_front ["base", "levels", "now", "due", "lowest"] := by
    have F := fun_mk (st := s_goes_in_front) l_goes_in_front c_goes_in_front k_goes_in_front
    exact ⟨_, _, F, PySem.W.mg_of X G a_goes_in_front, F.binds (ps := ["base", "levels", "now", "due", "lowest"]) fun _ _ _ _ _ _ us hl => match us, hl with | [_, _, _, _, _], _ => rfl⟩
  have D_with_timer : Df K mg "with_timer" s_with_timer ["numbers", "number", "front"] := by
    have F := fun_mk (st := s_with_timer) l_with_timer c_with_timer k_with_timer
    exact ⟨_, _, F, PySem.W.mg_of X G a_with_timer, F.binds (ps := ["numbers", "number", "front"]) fun _ _ _ _ _ _ us hl => match us, hl with | [_, _, _], _ => rfl⟩
  have D_without_repeats : Df K mg "without_repeats" s_without_repeats ["levels"] := by
    have F := fun_mk (st := s_without_repeats) l_without_repeats c_without_repeats k_without_repeats
    exact ⟨_, _, F, PySem.W.mg_of X G a_without_repeats, F.binds (ps := ["levels"]) fun _ _ _ _ _ _ us hl => match us, hl with | [_], _ => rfl⟩
  have D_standing : Df K mg "standing" s_standing ["base", "levels", "live", "tick"] := by
    have F := fun_mk (st := s_standing) l_standing c_standing k_standing
    exact ⟨_, _, F, PySem.W.mg_of X G a_standing, F.binds (ps := ["base", "levels", "live", "tick"]) fun _ _ _ _ _ _ us hl => match us, hl with | [_, _, _, _], _ => rfl⟩
  have D_is_row : Df K mg "is_row" s_is_row ["given", "now", "following"] := by
    have F := fun_mk (st := s_is_row) l_is_row c_is_row k_is_row
    exact ⟨_, _, F, PySem.W.mg_of X G a_is_row, F.binds (ps := ["given", "now", "following"]) fun _ _ _ _ _ _ us hl => match us, hl with | [_, _, _], _ => rfl⟩
  have D_is_snapshot : Df K mg "is_snapshot" s_is_snapshot ["given"] := by
    have F := fun_mk (st := s_is_snapshot) l_is_snapshot c_is_snapshot k_is_snapshot
    exact ⟨_, _, F, PySem.W.mg_of X G a_is_snapshot, F.binds (ps := ["given"]) fun _ _ _ _ _ _ us hl => match us, hl with | [_], _ => rfl⟩
  have D_restored : Df K mg "restored" s_restored ["snapshot"] := by
    have F := fun_mk (st := s_restored) l_restored c_restored k_restored
    exact ⟨_, _, F, PySem.W.mg_of X G a_restored, F.binds (ps := ["snapshot"]) fun _ _ _ _ _ _ us hl => match us, hl with | [_], _ => rfl⟩
  have D_law_cell_at : Df K mg "_law_cell_at" s__law_cell_at ["_law_script", "_law_k"] := by
    have F := fun_mk (st := s__law_cell_at) l_law_cell_at c_law_cell_at k_law_cell_at
    exact ⟨_, _, F, PySem.W.mg_of X G a_law_cell_at, F.binds (ps := ["_law_script", "_law_k"]) fun _ _ _ _ _ _ us hl => match us, hl with | [_, _], _ => rfl⟩
  have D_law_mixed : Df K mg "_law_mixed" s__law_mixed ["_law_cell", "_law_k"] := by
    have F := fun_mk (st := s__law_mixed) l_law_mixed c_law_mixed k_law_mixed
    exact ⟨_, _, F, PySem.W.mg_of X G a_law_mixed, F.binds (ps := ["_law_cell", "_law_k"]) fun _ _ _ _ _ _ us hl => match us, hl with | [_, _], _ => rfl⟩
  have D_law_source : Df K mg "_law_source" s__law_source ["_law_script", "_law_k"] := by
    have F := fun_mk (st := s__law_source) l_law_source c_law_source k_law_source
    exact ⟨_, _, F, PySem.W.mg_of X G a_law_source, F.binds (ps := ["_law_script", "_law_k"]) fun _ _ _ _ _ _ us hl => match us, hl with | [_, _], _ => rfl⟩
  have D_law_next : Df K mg "_law_next" s__law_next ["_law_source_here", "_law_many"] := by
    have F := fun_mk (st := s__law_next) l_law_next c_law_next k_law_next
    exact ⟨_, _, F, PySem.W.mg_of X G a_law_next, F.binds (ps := ["_law_source_here", "_law_many"]) fun _ _ _ _ _ _ us hl => match us, hl with | [_, _], _ => rfl⟩
  have D_law_base : Df K mg "_law_base" s__law_base ["_law_source_here"] := by
    have F := fun_mk (st := s__law_base) l_law_base c_law_base k_law_base
    exact ⟨_, _, F, PySem.W.mg_of X G a_law_base, F.binds (ps := ["_law_source_here"]) fun _ _ _ _ _ _ us hl => match us, hl with | [_], _ => rfl⟩
  have D_law_levels : Df K mg "_law_levels" s__law_levels ["_law_source_here"] := by
    have F := fun_mk (st := s__law_levels) l_law_levels c_law_levels k_law_levels
    exact ⟨_, _, F, PySem.W.mg_of X G a_law_levels, F.binds (ps := ["_law_source_here"]) fun _ _ _ _ _ _ us hl => match us, hl with | [_], _ => rfl⟩
  have D_law_word : Df K mg "_law_word" s__law_word ["_law_thing"] := by
    have F := fun_mk (st := s__law_word) l_law_word c_law_word k_law_word
    exact ⟨_, _, F, PySem.W.mg_of X G a_law_word, F.binds (ps := ["_law_thing"]) fun _ _ _ _ _ _ us hl => match us, hl with | [_], _ => rfl⟩
  have D_law_spoilt : Df K mg "_law_spoilt" s__law_spoilt ["_law_source_here", "_law_good"] := by
    have F := fun_mk (st := s__law_spoilt) l_law_spoilt c_law_spoilt k_law_spoilt
    exact ⟨_, _, F, PySem.W.mg_of X G a_law_spoilt, F.binds (ps := ["_law_source_here", "_law_good"]) fun _ _ _ _ _ _ us hl => match us, hl with | [_, _], _ => rfl⟩
  have D_law : Df K mg "law" s_law ["_law_script"] := by
    have F := fun_mk (st := s_law) l_law c_law k_law
    exact ⟨_, _, F, PySem.W.mg_of X G a_law, F.binds (ps := ["_law_script"]) fun _ _ _ _ _ _ us hl => match us, hl with | [_], _ => rfl⟩
  have TW : TxW K mg C_ := ⟨⟨pg, hd, po, sa⟩, n_base, n_words, n_tick, n_following, n_live, PySem.W.mg_of X G a_Wheel⟩
  have F_m_init : FunD K "__init__" "Wheel.__init__" (defArgs s_Wheel___init__) (defBody s_Wheel___init__) (defScope s_Wheel___init__) [] [("start", .int 0)] _ _ := ⟨⟨_, _, _, _, _, _, _, _, _, _, rfl, l_m_init, c_m_init, .inl ⟨rfl, rfl⟩, .inr ⟨_, rfl, fun q hq => by rw [List.mem_singleton.mp hq]; exact ⟨_, d_m_init, ⟨_, rfl⟩⟩⟩⟩, k_m_init⟩
  obtain ⟨ds_m_init, V_m_init, B_m_init⟩ := FunD.binds0 (ps := ["self", "base", "levels", "start"]) F_m_init 3 (by simp) rfl fun _ _ _ _ _ _ us ks hl hk => match us, ks, hl, hk with | [_, _, _], [_], _, _ => ⟨_, _, _, _, _, _, rfl, rfl, rfl⟩
  have X_NoSnapshot : EC K mg "NoSnapshot" c_NoSnapshot := ⟨PySem.W.mg_of X G a_NoSnapshot, x_NoSnapshot, kp_NoSnapshot, bx_NoSnapshot, tx_NoSnapshot⟩
  have EX_NoSnapshot : ExcC K c_NoSnapshot := ⟨ga_NoSnapshot, gg_NoSnapshot, bx_NoSnapshot, hx_NoSnapshot, cc_NoSnapshot, sp_get, tk_cls, mo_NoSnapshot⟩
  have XG_TimerError : EG mg "TimerError" c_TimerError := ⟨PySem.W.mg_of X G a_TimerError⟩
  have XG_NoBase : EG mg "NoBase" c_NoBase := ⟨PySem.W.mg_of X G a_NoBase⟩
  have XG_NoLevels : EG mg "NoLevels" c_NoLevels := ⟨PySem.W.mg_of X G a_NoLevels⟩
  have XG_NoTick : EG mg "NoTick" c_NoTick := ⟨PySem.W.mg_of X G a_NoTick⟩
  have XG_NoPeriod : EG mg "NoPeriod" c_NoPeriod := ⟨PySem.W.mg_of X G a_NoPeriod⟩
  have XG_NoTimer : EG mg "NoTimer" c_NoTimer := ⟨PySem.W.mg_of X G a_NoTimer⟩
  have XG_NoOrder : EG mg "NoOrder" c_NoOrder := ⟨PySem.W.mg_of X G a_NoOrder⟩
  have XG_NoSighting : EG mg "NoSighting" c_NoSighting := ⟨PySem.W.mg_of X G a_NoSighting⟩
  have XG_TooMany : EG mg "TooMany" c_TooMany := ⟨PySem.W.mg_of X G a_TooMany⟩
  have XG_NoRow : EG mg "NoRow" c_NoRow := ⟨PySem.W.mg_of X G a_NoRow⟩
  refine ⟨PySem.W.fnOf "law" "law" (defArgs s_law) (defBody s_law) (defScope s_law) .none kV_law dc_law pm_law an_law cd_law ct_law, fun s v => .of_eq rfl, fun base _ _ => ?_⟩
  have h_is_integer : Has l.prog w K mg base 1 "is_integer" ["given"] [] spIsInt := D_is_integer.has fun _ _ F => ok_is_integer F T
  have h2_is_tick : Has l.prog w K mg base 2 "is_tick" ["given", "least"] [.int 0] spIsTick ∧ Has l.prog w K mg base 2 "is_tick" ["given", "least"] [] spIsTick := D_is_tick.has fun _ _ F => ok_is_tick F T h_is_integer
  have h_is_base : Has l.prog w K mg base 2 "is_base" ["given"] [] spIsBase := D_is_base.has fun _ _ F => ok_is_base F h_is_integer
  have h_check_base : Has l.prog w K mg base 3 "check_base" ["base"] [] spCheckBase := D_check_base.has fun _ _ F => ok_check_base F h_is_base
  have h2_check_tick : Has l.prog w K mg base 3 "check_tick" ["tick", "least"] [.int 0] spCheckTick ∧ Has l.prog w K mg base 3 "check_tick" ["tick", "least"] [] spCheckTick := D_check_tick.has fun _ _ F => ok_check_tick F h2_is_tick.2
  have h_level_and_size : Has l.prog w K mg base 1 "level_and_size" ["base", "now", "due"] [] spLevel := D_level_and_size.has fun _ _ F => ok_level_and_size F 
  have h_path : Has l.prog w K mg base 2 "path" ["base", "now", "due"] [] spPath := D_path.has fun _ _ F => ok_path F h_level_and_size
  have h_word_at : Has l.prog w K mg base 1 "word_at" ["levels", "level"] [] (spWordAt K) := D_word_at.has fun _ _ F => ok_word_at F T
  have h_is_word : Has l.prog w K mg base 1 "is_word" ["given"] [] spIsWord := D_is_word.has fun _ _ F => ok_is_word F T h_WORDS
  have h_is_length : Has l.prog w K mg base 2 "is_length" ["given"] [] spIsLength := D_is_length.has fun _ _ F => ok_is_length F ⟨_, h_MOST_LEVELS⟩ h_is_integer
  have h_are_levels : Has l.prog w K mg base 3 "are_levels" ["given"] [] (spAreLevels K) := D_are_levels.has fun _ _ F => ok_are_levels F T h_is_length h_is_word
  have h_check_levels : Has l.prog w K mg base 4 "check_levels" ["levels"] [] (spCheckLevels K) := D_check_levels.has fun _ _ F => ok_check_levels F h_are_levels
  have h_without_repeats : Has l.prog w K mg base 1 "without_repeats" ["levels"] [] (spRepeats K) := D_without_repeats.has fun _ _ F => ok_repeats F T
  have M_init : ∃ (fi : Addr) (fdi : FuncData), Mk K C_ fi ∧ FnOk l.prog w K mg base CX0 5 fi fdi ["self", "base", "levels", "start"] (spInit C_ K) ∧ KBn K fdi ["self", "base", "levels", "start"] 3 [Str.ofString "start"] (fun us ws => us ++ ws) (fun vs zs => vs ++ zs) := by
    obtain ⟨mv, hb⟩ := FunD.kbinds0 (ps := ["self", "base", "levels", "start"]) F_m_init 3 [Str.ofString "start"] [] (fun us _ ws => us ++ ws) (by simp) (fun q hq => by cases hq) (fun h1 _ h3 => h1.append h3) fun _ _ _ _ _ _ us mv ws h1 h2 h3 => match us, mv, ws, h1, h2, h3 with | [_, _, _], [], [_], _, _, _ => rfl
    exact ⟨_, _, ⟨mkC, a_m_init, i_m_init, kc⟩, ok_init F_m_init TW h_check_base h2_check_tick.1 h_check_levels h_without_repeats, hb⟩
  have hA_is_integer := D_is_integer.has (P := l.prog) (w := w) (base := base) (k := 1) (sp := spIsIntX K) fun _ _ F => okA_is_integer F T
  have hA_is_tick := D_is_tick.has (P := l.prog) (w := w) (base := base) (k := 2) (sp := spIsTickX K) fun _ _ F => okA_is_tick F hA_is_integer
  have hA_is_base := D_is_base.has (P := l.prog) (w := w) (base := base) (k := 2) (sp := spIsBaseX K) fun _ _ F => okA_is_base F hA_is_integer
  have hA_is_word := D_is_word.has (P := l.prog) (w := w) (base := base) (k := 1) (sp := spIsWordX K) fun _ _ F => okA_is_word F T h_WORDS
  have hA_is_length := D_is_length.has (P := l.prog) (w := w) (base := base) (k := 2) (sp := spIsLengthX K) fun _ _ F => okA_is_length F ⟨_, h_MOST_LEVELS⟩ hA_is_integer
  have hA_are_levels := D_are_levels.has (P := l.prog) (w := w) (base := base) (k := 3) (sp := spAreLevelsX K) fun _ _ F => okA_are_levels F T hA_is_length hA_is_word
  have hA_is_period := D_is_period.has (P := l.prog) (w := w) (base := base) (k := 2) (sp := spIsPeriodX K) fun _ _ F => okA_is_period F hA_is_integer
  have hA_is_row := D_is_row.has (P := l.prog) (w := w) (base := base) (k := 3) (sp := spIsRowX K) fun _ _ F => okA_is_row F T hA_is_integer hA_is_tick.2 hA_is_period
  have hA_is_snapshot := D_is_snapshot.has (P := l.prog) (w := w) (base := base) (k := 4) (sp := spIsSnapX K) fun _ _ F => okA_is_snapshot F T hA_is_integer hA_is_tick.1 hA_is_base hA_are_levels hA_is_row
  have hX_restored := D_restored.hasX (P := l.prog) (w := w) (base := base) (k := 7) (sp := spRestoredX C_ K c_NoSnapshot) fun _ _ F => okX_restored F TW X_NoSnapshot M_init hA_is_snapshot
  have te_NoSnapshot := PySem.W.exm_ref bx_TimerError hx_TimerError tx_TimerError ss_NoSnapshot_TimerError
  have no9 : ∀ c ∈ [c_NoBase, c_NoLevels, c_NoTick, c_NoPeriod, c_NoTimer, c_NoOrder, c_NoSighting, c_TooMany, c_NoRow], PySem.W.kitOne K (.ref c_NoSnapshot) (.ref c) = some false := List.forall_mem_cons.mpr ⟨kit_no ss_NoSnapshot hx_NoBase tx_NoBase ss_NoSnapshot_NoBase, List.forall_mem_cons.mpr ⟨kit_no ss_NoSnapshot hx_NoLevels tx_NoLevels ss_NoSnapshot_NoLevels, List.forall_mem_cons.mpr ⟨kit_no ss_NoSnapshot hx_NoTick tx_NoTick ss_NoSnapshot_NoTick, List.forall_mem_cons.mpr ⟨kit_no ss_NoSnapshot hx_NoPeriod tx_NoPeriod ss_NoSnapshot_NoPeriod, List.forall_mem_cons.mpr ⟨kit_no ss_NoSnapshot hx_NoTimer tx_NoTimer ss_NoSnapshot_NoTimer, List.forall_mem_cons.mpr ⟨kit_no ss_NoSnapshot hx_NoOrder tx_NoOrder ss_NoSnapshot_NoOrder, List.forall_mem_cons.mpr ⟨kit_no ss_NoSnapshot hx_NoSighting tx_NoSighting ss_NoSnapshot_NoSighting, List.forall_mem_cons.mpr ⟨kit_no ss_NoSnapshot hx_TooMany tx_TooMany ss_NoSnapshot_TooMany, List.forall_mem_cons.mpr ⟨kit_no ss_NoSnapshot hx_NoRow tx_NoRow ss_NoSnapshot_NoRow, (fun _ hh => nomatch hh)⟩⟩⟩⟩⟩⟩⟩⟩⟩
  have h_law_word : Has l.prog w K mg base 8 "_law_word" ["_law_thing"] [] (spWord08 K) := D_law_word.has fun _ _ F => ok_word08 F T XG_TimerError XG_NoBase XG_NoLevels XG_NoTick XG_NoPeriod XG_NoTimer XG_NoOrder XG_NoSighting XG_TooMany XG_NoRow ⟨X_NoSnapshot.g⟩ te_NoSnapshot EX_NoSnapshot no9 hX_restored
  have h_law_cell_at : Has l.prog w K mg base 1 "_law_cell_at" ["_law_script", "_law_k"] [] (spCellAt K) := D_law_cell_at.has fun _ _ F => ok_cell_at F T
  have h_law_mixed : Has l.prog w K mg base 1 "_law_mixed" ["_law_cell", "_law_k"] [] spMixed := D_law_mixed.has fun _ _ F => ok_mixed F 
  have h_law_source : Has l.prog w K mg base 2 "_law_source" ["_law_script", "_law_k"] [] (spSource K) := D_law_source.has fun _ _ F => ok_source F T h_law_cell_at h_law_mixed
  have h_law_next : Has l.prog w K mg base 2 "_law_next" ["_law_source_here", "_law_many"] [] spNext := D_law_next.has fun _ _ F => ok_next F h_law_mixed
  have h_law_base : Has l.prog w K mg base 3 "_law_base" ["_law_source_here"] [] spBase := D_law_base.has fun _ _ F => ok_base F h_law_next
  have h_law_levels : Has l.prog w K mg base 3 "_law_levels" ["_law_source_here"] [] spLevels := D_law_levels.has fun _ _ F => ok_levels F T h_law_next
  have h_law_spoilt : Has l.prog w K mg base 3 "_law_spoilt" ["_law_source_here", "_law_good"] [] (spSpoilt08 K) := D_law_spoilt.has fun _ _ F => ok_spoilt08 F T h_law_next
  exact ok_law (fun_mk (st := s_law) l_law c_law k_law) T h_law_source h_law_base h_law_levels h_law_next h_law_word h_law_spoilt
end Td
open PySem PySem.W PyProof.Rows in
set_option maxRecDepth 100000 in
set_option maxHeartbeats 0 in
theorem PySem.Challenge.cw_timerdeque_k08_what_are_no_snapshots_holds : PySem.Challenge.rw_timerdeque_k08_what_are_no_snapshots.Holds := by
  w_on; o_law; k_head; (case hw => w_witness2)
  k_fill
  refine L2.walk_of (l := PySem.Challenge.rw_timerdeque_k08_what_are_no_snapshots) (n := 63) (k := 9) (x := "_law_script") (CX := fun _ => L2.CX0) (sp := fun w => Td.spLaw _) rfl (by decide) rfl ⟨rfl, by decide, by decide⟩ (fun w h Y => PySem.W.kIn_of Y) ?F (fun _ _ a ns hl _ hS => ⟨a, ns, rfl, hS, hl, fun _ => rfl⟩) (fun _ _ _ _ _ h => h)
  case F =>
    intro w mg fa h KX G hmg
    refine' Td.all_mk KX G hmg ?a_wall ?l_wall ?c_wall ?k_wall ?a_is_integer ?l_is_integer ?c_is_integer ?k_is_integer ?a_is_word ?l_is_word ?c_is_word ?k_is_word ?a_is_base ?l_is_base ?c_is_base ?k_is_base ?a_is_length ?l_is_length ?c_is_length ?k_is_length ?a_are_levels ?l_are_levels ?c_are_levels ?k_are_levels ?a_is_tick ?l_is_tick ?t_is_tick ?c_is_tick ?k_is_tick ?a_is_period ?l_is_period ?c_is_period ?k_is_period ?a_check_base ?l_check_base ?c_check_base ?k_check_base ?a_check_levels ?l_check_levels ?c_check_levels ?k_check_levels ?a_check_tick ?l_check_tick ?t_check_tick ?c_check_tick ?k_check_tick ?a_word_at ?l_word_at ?c_word_at ?k_word_at ?a_level_and_size ?l_level_and_size ?c_level_and_size ?k_level_and_size ?a_path ?l_path ?c_path ?k_path ?a_goes_in_front ?l_goes_in_front ?c_goes_in_front ?k_goes_in_front ?a_with_timer ?l_with_timer ?c_with_timer ?k_with_timer ?a_without_repeats ?l_without_repeats ?c_without_repeats ?k_without_repeats ?a_standing ?l_standing ?c_standing ?k_standing ?a_is_row ?l_is_row ?c_is_row ?k_is_row ?a_is_snapshot ?l_is_snapshot ?c_is_snapshot ?k_is_snapshot ?a_restored ?l_restored ?c_restored ?k_restored ?a_law_cell_at ?l_law_cell_at ?c_law_cell_at ?k_law_cell_at ?a_law_mixed ?l_law_mixed ?c_law_mixed ?k_law_mixed ?a_law_source ?l_law_source ?c_law_source ?k_law_source ?a_law_next ?l_law_next ?c_law_next ?k_law_next ?a_law_base ?l_law_base ?c_law_base ?k_law_base ?a_law_levels ?l_law_levels ?c_law_levels ?k_law_levels ?a_law_word ?l_law_word ?c_law_word ?k_law_word ?a_law_spoilt ?l_law_spoilt ?c_law_spoilt ?k_law_spoilt ?a_law ?l_law ?c_law ?k_law ?a_Wheel ?a_m_init ?i_m_init ?l_m_init ?c_m_init ?k_m_init ?d_m_init ?pg ?hd ?po ?sa ?mkC ?kc ?n_base ?n_words ?n_tick ?n_following ?n_live ?a_NoSnapshot ?a_TimerError ?a_NoBase ?a_NoLevels ?a_NoTick ?a_NoPeriod ?a_NoTimer ?a_NoOrder ?a_NoSighting ?a_TooMany ?a_NoRow ?x_NoSnapshot ?kp_NoSnapshot ?bx_NoSnapshot ?tx_NoSnapshot ?ga_NoSnapshot ?gg_NoSnapshot ?hx_NoSnapshot ?cc_NoSnapshot ?mo_NoSnapshot ?ss_NoSnapshot ?sp_get ?tk_cls ?bx_TimerError ?hx_TimerError ?tx_TimerError ?ss_NoSnapshot_TimerError ?hx_NoBase ?tx_NoBase ?ss_NoSnapshot_NoBase ?hx_NoLevels ?tx_NoLevels ?ss_NoSnapshot_NoLevels ?hx_NoTick ?tx_NoTick ?ss_NoSnapshot_NoTick ?hx_NoPeriod ?tx_NoPeriod ?ss_NoSnapshot_NoPeriod ?hx_NoTimer ?tx_NoTimer ?ss_NoSnapshot_NoTimer ?hx_NoOrder ?tx_NoOrder ?ss_NoSnapshot_NoOrder ?hx_NoSighting ?tx_NoSighting ?ss_NoSnapshot_NoSighting ?hx_TooMany ?tx_TooMany ?ss_NoSnapshot_TooMany ?hx_NoRow ?tx_NoRow ?ss_NoSnapshot_NoRow ?z_isinstance ?z_int ?z_bool ?z_str ?z_all ?z_list ?z_len ?z_min ?z_sorted ?z_tuple ?z_set ?z_range ?z_max ?a_WORDS ?l_WORDS ?a_MOST_LEVELS
    (case a_wall => k_is)
    (case l_wall => k_is)
    (case c_wall => k_is)
    (case k_wall => k_is)
    (case a_is_integer => k_is)
    (case l_is_integer => k_is)
    (case c_is_integer => k_is)
    (case k_is_integer => k_is)
    (case a_is_word => k_is)
    (case l_is_word => k_is)
    (case c_is_word => k_is)
    (case k_is_word => k_is)
    (case a_is_base => k_is)
    (case l_is_base => k_is)
    (case c_is_base => k_is)
    (case k_is_base => k_is)
    (case a_is_length => k_is)
    (case l_is_length => k_is)
    (case c_is_length => k_is)
    (case k_is_length => k_is)
    (case a_are_levels => k_is)
    (case l_are_levels => k_is)
    (case c_are_levels => k_is)
    (case k_are_levels => k_is)
    (case a_is_tick => k_is)
    (case l_is_tick => k_is)
    (case t_is_tick => k_is)
    (case c_is_tick => k_is)
    (case k_is_tick => k_is)
    (case a_is_period => k_is)
    (case l_is_period => k_is)
    (case c_is_period => k_is)
    (case k_is_period => k_is)
    (case a_check_base => k_is)
    (case l_check_base => k_is)
    (case c_check_base => k_is)
    (case k_check_base => k_is)
    (case a_check_levels => k_is)
    (case l_check_levels => k_is)
    (case c_check_levels => k_is)
    (case k_check_levels => k_is)
    (case a_check_tick => k_is)
    (case l_check_tick => k_is)
    (case t_check_tick => k_is)
    (case c_check_tick => k_is)
    (case k_check_tick => k_is)
    (case a_word_at => k_is)
    (case l_word_at => k_is)
    (case c_word_at => k_is)
    (case k_word_at => k_is)
    (case a_level_and_size => k_is)
    (case l_level_and_size => k_is)
    (case c_level_and_size => k_is)
    (case k_level_and_size => k_is)
    (case a_path => k_is)
    (case l_path => k_is)
    (case c_path => k_is)
    (case k_path => k_is)
    (case a_goes_in_front => k_is)
    (case l_goes_in_front => k_is)
    (case c_goes_in_front => k_is)
    (case k_goes_in_front => k_is)
    (case a_with_timer => k_is)
    (case l_with_timer => k_is)
    (case c_with_timer => k_is)
    (case k_with_timer => k_is)
    (case a_without_repeats => k_is)
    (case l_without_repeats => k_is)
    (case c_without_repeats => k_is)
    (case k_without_repeats => k_is)
    (case a_standing => k_is)
    (case l_standing => k_is)
    (case c_standing => k_is)
    (case k_standing => k_is)
    (case a_is_row => k_is)
    (case l_is_row => k_is)
    (case c_is_row => k_is)
    (case k_is_row => k_is)
    (case a_is_snapshot => k_is)
    (case l_is_snapshot => k_is)
    (case c_is_snapshot => k_is)
    (case k_is_snapshot => k_is)
    (case a_restored => k_is)
    (case l_restored => k_is)
    (case c_restored => k_is)
    (case k_restored => k_is)
    (case a_law_cell_at => k_is)
    (case l_law_cell_at => k_is)
    (case c_law_cell_at => k_is)
    (case k_law_cell_at => k_is)
    (case a_law_mixed => k_is)
    (case l_law_mixed => k_is)
    (case c_law_mixed => k_is)
    (case k_law_mixed => k_is)
    (case a_law_source => k_is)
    (case l_law_source => k_is)
    (case c_law_source => k_is)
    (case k_law_source => k_is)
    (case a_law_next => k_is)
    (case l_law_next => k_is)
    (case c_law_next => k_is)
    (case k_law_next => k_is)
    (case a_law_base => k_is)
    (case l_law_base => k_is)
    (case c_law_base => k_is)
    (case k_law_base => k_is)
    (case a_law_levels => k_is)
    (case l_law_levels => k_is)
    (case c_law_levels => k_is)
    (case k_law_levels => k_is)
    (case a_law_word => k_is)
    (case l_law_word => k_is)
    (case c_law_word => k_is)
    (case k_law_word => k_is)
    (case a_law_spoilt => k_is)
    (case l_law_spoilt => k_is)
    (case c_law_spoilt => k_is)
    (case k_law_spoilt => k_is)
    (case a_law => k_is)
    (case l_law => k_is)
    (case c_law => k_is)
    (case k_law => k_is)
    (case a_Wheel => k_is)
    (case a_m_init => k_is)
    (case i_m_init => k_is)
    (case l_m_init => k_is)
    (case c_m_init => k_is)
    (case k_m_init => k_is)
    (case d_m_init => k_is)
    (case pg => k_is)
    (case hd => k_is)
    (case po => k_is)
    (case sa => k_is)
    (case mkC => k_is)
    (case kc => k_is)
    (case n_base => k_is)
    (case n_words => k_is)
    (case n_tick => k_is)
    (case n_following => k_is)
    (case n_live => k_is)
    (case a_NoSnapshot => k_is)
    (case a_TimerError => k_is)
    (case a_NoBase => k_is)
    (case a_NoLevels => k_is)
    (case a_NoTick => k_is)
    (case a_NoPeriod => k_is)
    (case a_NoTimer => k_is)
    (case a_NoOrder => k_is)
    (case a_NoSighting => k_is)
    (case a_TooMany => k_is)
    (case a_NoRow => k_is)
    (case x_NoSnapshot => k_exc)
    (case kp_NoSnapshot => k_is)
    (case bx_NoSnapshot => k_is)
    (case tx_NoSnapshot => k_is)
    (case ga_NoSnapshot => k_is)
    (case gg_NoSnapshot => k_is)
    (case hx_NoSnapshot => k_is)
    (case cc_NoSnapshot => k_is)
    (case mo_NoSnapshot => k_is)
    (case ss_NoSnapshot => k_is)
    (case sp_get => k_is)
    (case tk_cls => k_is)
    (case bx_TimerError => k_is)
    (case hx_TimerError => k_is)
    (case tx_TimerError => k_is)
    (case ss_NoSnapshot_TimerError => k_is)
    (case hx_NoBase => k_is)
    (case tx_NoBase => k_is)
    (case ss_NoSnapshot_NoBase => k_is)
    (case hx_NoLevels => k_is)
    (case tx_NoLevels => k_is)
    (case ss_NoSnapshot_NoLevels => k_is)
    (case hx_NoTick => k_is)
    (case tx_NoTick => k_is)
    (case ss_NoSnapshot_NoTick => k_is)
    (case hx_NoPeriod => k_is)
    (case tx_NoPeriod => k_is)
    (case ss_NoSnapshot_NoPeriod => k_is)
    (case hx_NoTimer => k_is)
    (case tx_NoTimer => k_is)
    (case ss_NoSnapshot_NoTimer => k_is)
    (case hx_NoOrder => k_is)
    (case tx_NoOrder => k_is)
    (case ss_NoSnapshot_NoOrder => k_is)
    (case hx_NoSighting => k_is)
    (case tx_NoSighting => k_is)
    (case ss_NoSnapshot_NoSighting => k_is)
    (case hx_TooMany => k_is)
    (case tx_TooMany => k_is)
    (case ss_NoSnapshot_TooMany => k_is)
    (case hx_NoRow => k_is)
    (case tx_NoRow => k_is)
    (case ss_NoSnapshot_NoRow => k_is)
    (case z_isinstance => k_is)
    (case z_int => k_is)
    (case z_bool => k_is)
    (case z_str => k_is)
    (case z_all => k_is)
    (case z_list => k_is)
    (case z_len => k_is)
    (case z_min => k_is)
    (case z_sorted => k_is)
    (case z_tuple => k_is)
    (case z_set => k_is)
    (case z_range => k_is)
    (case z_max => k_is)
    (case a_WORDS => k_is)
    (case l_WORDS => k_is)
    (case a_MOST_LEVELS => k_is)
