import PyProof.Rows.All
import Wide.All
import OpenK.AllK
import Wide.FinOn
import HandS.ForMost
import HandS.IsInst
import HandS.Wide
import HandS.WideBits
import HandS.Defaults
import HandS.Zip
import HandS.Flow
import HandS.SortKw
import HandS.SortOrd
import HandS.Conv
import HandS.More
import HandS.Small
import KE.DatumOrd
import HandS.DictTup
import PyProof.DictMoreH
import HandS.MakeKwOnly
import HandS.Style
import HandS.Iter
import HandS.WordsDict
import HandS.DictComp
import PyProof.InstNe
import PySem.Challenge.RW_timerdeque_k09_equal_wheels
set_option Elab.async false
set_option linter.all false
set_option maxRecDepth 100000
set_option maxHeartbeats 4000000
set_option exponentiation.threshold 10000
namespace Td
open PySem PySem.Spec PyProof.Rows L2
/-! ### small things: promises by name, heaps, numbers -/
section
variable {P : Program} {w : World} {K : PySem.W.Frag} {mg : Str → Option Value} {base : Heap}
/-- the module's name x holds a def that keeps the promise sp, its last parameters filled up by dvs -/
def Has (P : Program) (w : World) (K : PySem.W.Frag) (mg : Str → Option Value) (base : Heap) (k : Nat) (x : Str) (ps : List Str) (dvs : List V) (sp : Sp) : Prop :=
  ∃ (f : Addr) (fd : FuncData) (ds : List Value), FnOk P w K mg base CX0 k f fd ps sp ∧ mg x = some (.ref f) ∧ PySem.W.keepIn K (.ref f) = true ∧ Binds K fd ps ds ∧ Vals dvs ds
/-- what the top says of a def without defaults -/
def Df (K : PySem.W.Frag) (mg : Str → Option Value) (x : Str) (st : Stmt) (ps : List Str) : Prop :=
  ∃ (f : Addr) (fd : FuncData), Fun K x x st f fd ∧ mg x = some (.ref f) ∧ Binds K fd ps []
theorem Df.has {k : Nat} {x : Str} {st : Stmt} {ps : List Str} {sp : Sp} (D : Df K mg x st ps) (ok : ∀ f fd, Fun K x x st f fd → FnOk P w K mg base CX0 k f fd ps sp) : Has P w K mg base k x ps [] sp := by
  obtain ⟨f, fd, F, m, b⟩ := D
  exact ⟨f, fd, [], ok f fd F, m, F.kp, b, .nil⟩
/-- a def with one default, the last parameter's -/
def Dd (K : PySem.W.Frag) (mg : Str → Option Value) (x : Str) (st : Stmt) (ps : List Str) (d : V) : Prop :=
  ∃ (f : Addr) (fd : FuncData), FunD K x x (defArgs st) (defBody st) (defScope st) [d] [] f fd ∧ mg x = some (.ref f) ∧ (∃ ds, Vals [d] ds ∧ Binds K fd ps ds) ∧ Binds K fd ps []
theorem Dd.has {k : Nat} {x : Str} {st : Stmt} {ps : List Str} {d : V} {sp : Sp} (D : Dd K mg x st ps d) (ok : ∀ f fd, FunD K x x (defArgs st) (defBody st) (defScope st) [d] [] f fd → FnOk P w K mg base CX0 k f fd ps sp) :
    Has P w K mg base k x ps [d] sp ∧ Has P w K mg base k x ps [] sp := by
  obtain ⟨f, fd, F, m, ⟨ds, r, b⟩, b0⟩ := D
  exact ⟨⟨f, fd, ds, ok f fd F, m, F.kp, b, r⟩, ⟨f, fd, [], ok f fd F, m, F.kp, b0, .nil⟩⟩
end
section
variable {X : Cx}
/-- a product of which one side is small, or both are not too great -/
def CMulA (i j : Int) : Prop := IntMulOk i j
theorem op_mulA : OpR X (binaryOp .Mult) (rI CMulA fun i j => .int (i * j)) := opI fun _ _ _ _ _ _ _ hc q => mul_int q hc
end
/-! x *= e, ints -/
section
variable {X : Cx}
def ipC (C : Int → Int → Prop) (f : Int → Int → Int) : TIp := fun x y H Q => ∃ i j, x = .int i ∧ y = .int j ∧ C i j ∧ Q (.int (f i j)) H
theorem ip_mulA : PIp X .Mult (ipC CMulA fun i j => i * j) := by
  intro pins s σ H x y v u Q I r1 r2 h
  obtain ⟨i, j, rfl, rfl, hm, q⟩ := h
  obtain ⟨t, rfl⟩ := r1
  obtain ⟨t', rfl⟩ := r2
  exact imul_int ⟨.int _, H, I.tok _, ⟨_, rfl⟩, q⟩ hm
end
theorem mul_l {i j : Int} (h1 : -(2 ^ 64) < i) (h2 : i < 2 ^ 64) : CMulA i j := CMul.ok (.inl ⟨h1, h2⟩)
theorem mul_r {i j : Int} (h1 : -(2 ^ 64) < j) (h2 : j < 2 ^ 64) : CMulA i j := CMul.ok (.inr ⟨h1, h2⟩)
theorem mul_w {i j : Int} (a b : Nat) (ha : i.natAbs < 2 ^ a) (hb : j.natAbs < 2 ^ b) (h0 : 0 < a := by decide) (h1 : 0 < b := by decide) (h : a + b ≤ 1000000 := by decide) : CMulA i j := (wide_mul ha hb h0 h1 h).ok
theorem div_s {i j : Int} (h : 0 < j) (h2 : j < 2 ^ 300) : CDivW i j := wide_div (b := 300) h (by omega) (by decide) (by decide)
theorem div_b {i j : Int} (b : Nat) (h : 0 < j) (h2 : j < 2 ^ b) (h0 : 0 < b := by decide) (h9 : b ≤ 9000 := by decide) : CDivW i j := by
  refine wide_div (b := b) h ?_ h0 h9
  have e : ((2 ^ b : Nat) : Int) = (2 : Int) ^ b := by
    rw [Int.natCast_pow]
    rfl
  omega
theorem same_upd {H : Hp} {p : Addr} {o : HO} (h : H p = none) : Same H (upd H p o) := fun b x e => by
  rw [upd_ne (ne_of_none e h)]
  exact e
theorem sizeLine_ge {n : Nat} (h : n ≤ 1000000) : n < sizeLine := by
  rw [sizeLine_eq]
  omega
theorem sizeLine_le {n : Nat} (h : n ≤ 1000000) : n ≤ sizeLine := Nat.le_of_lt (sizeLine_ge h)
theorem pos_of {a c : Nat} (h : a ≤ c) (n : ¬ a = c) : 0 < c := by omega
/-! ### operators on numbers that are not negative -/
def rN (C : Nat → Nat → Prop) (g : Nat → Nat → Nat) : R2 := fun x y H Q => ∃ a b : Nat, x = .int (a : Nat) ∧ y = .int (b : Nat) ∧ C a b ∧ Q (.int ((g a b : Nat) : Int)) H
section
variable {X : Cx}
theorem opN {f : Value → Value → Sem Value} {C : Nat → Nat → Prop} {g : Nat → Nat → Nat} {CI : Int → Int → Prop} {gI : Int → Int → V} (h : OpR X f (rI CI gI)) (e : ∀ a b : Nat, C a b → CI (a : Nat) (b : Nat) ∧ gI (a : Nat) (b : Nat) = .int ((g a b : Nat) : Int)) : OpR X f (rN C g) := by
  intro pins s σ H x y v u Q I rx ry hq
  obtain ⟨a, b, ex, ey, hc, q⟩ := hq
  obtain ⟨h1, h2⟩ := e a b hc
  exact h pins s σ H x y v u Q I rx ry ⟨_, _, ex, ey, h1, by rw [h2]; exact q⟩
theorem opN0 {f : Value → Value → Sem Value} {C : Nat → Nat → Prop} {g : Nat → Nat → Nat} {gI : Int → Int → V} (h : OpR X f (rI0 gI)) (e : ∀ a b : Nat, C a b → gI (a : Nat) (b : Nat) = .int ((g a b : Nat) : Int)) : OpR X f (rN C g) := by
  intro pins s σ H x y v u Q I rx ry hq
  obtain ⟨a, b, ex, ey, hc, q⟩ := hq
  exact h pins s σ H x y v u Q I rx ry ⟨_, _, ex, ey, by rw [e a b hc]; exact q⟩
def NDiv (_ b : Nat) : Prop := 0 < b ∧ b < 2 ^ 9000
def NMod (_ b : Nat) : Prop := 0 < b
def NSub (a b : Nat) : Prop := b ≤ a
def NMul (a b : Nat) : Prop := IntMulOk (a : Int) (b : Int)
def NAny (_ _ : Nat) : Prop := True
theorem op_divN : OpR X (binaryOp .FloorDiv) (rN NDiv fun a b => a / b) := opN op_fdivW fun a b h => ⟨wide_div (b := 9000) (Int.natCast_pos.mpr h.1) h.2 (by decide) (Nat.le_refl _), rfl⟩
theorem op_remN : OpR X (binaryOp .Mod) (rN NMod fun a b => a % b) := opN op_mod fun a b h => ⟨Int.natCast_pos.mpr h, rfl⟩
theorem op_mulN : OpR X (binaryOp .Mult) (rN NMul fun a b => a * b) := opN op_mulA fun a b h => ⟨h, congrArg V.int (Int.natCast_mul a b).symm⟩
theorem op_addN : OpR X (binaryOp .Add) (rN NAny fun a b => a + b) := opN0 op_add fun _ _ _ => rfl
theorem op_subN : OpR X (binaryOp .Sub) (rN NSub fun a b => a - b) := opN0 op_sub fun a b h => congrArg V.int (Int.natCast_sub h).symm
end
theorem ndiv {a b : Nat} (t : Nat) (h : 0 < b) (h2 : b < 2 ^ t) (ht : t ≤ 9000 := by decide) : NDiv a b := ⟨h, Nat.lt_of_lt_of_le h2 (Nat.pow_le_pow_right (by decide) ht)⟩
theorem nmul_l {a b : Nat} (h : a < 2 ^ 64) : NMul a b := mul_l (by omega) (by omega)
theorem nmul_r {a b : Nat} (h : b < 2 ^ 64) : NMul a b := mul_r (by omega) (by omega)
theorem nmul_w {a b : Nat} (i j : Nat) (ha : a < 2 ^ i) (hb : b < 2 ^ j) (h0 : 0 < i := by decide) (h1 : 0 < j := by decide) (h : i + j ≤ 1000000 := by decide) : NMul a b := mul_w i j ha hb h0 h1 h
theorem int_ne {a b : Nat} (h : a ≠ b) : decide (V.int (a : Nat) = V.int (b : Nat)) = false := decide_eq_false fun e => h (Int.ofNat.inj (V.int.inj e))
theorem dT {p : Prop} [Decidable p] (h : p) : V.bl (decide p) = V.bl true := congrArg V.bl (decide_eq_true h)
theorem dF {p : Prop} [Decidable p] (h : ¬ p) : V.bl (decide p) = V.bl false := congrArg V.bl (decide_eq_false h)
theorem nT {p : Prop} [Decidable p] (h : ¬ p) : V.bl (!decide p) = V.bl true := congrArg V.bl (congrArg (!·) (decide_eq_false h))
theorem nF {p : Prop} [Decidable p] (h : p) : V.bl (!decide p) = V.bl false := congrArg V.bl (congrArg (!·) (decide_eq_true h))
theorem vN {a b : Nat} (h : a ≠ b) : ¬ V.int (a : Nat) = V.int (b : Nat) := fun e => h (Int.ofNat.inj (V.int.inj e))
theorem vE {a b : Nat} (h : a = b) : V.int (a : Nat) = V.int (b : Nat) := congrArg (fun c : Nat => V.int (c : Nat)) h
theorem vI {a b : Int} (h : a ≠ b) : ¬ V.int a = V.int b := fun e => h (V.int.inj e)
/-! ### rules with the written part named (within a comprehension's block) -/
section
variable {X : Cx} {K : PySem.W.Frag}
theorem ix_tupK (e : X.K = K) : IxR X (rIxT K) := by subst e; exact ix_tup
theorem ix_listK (e : X.K = K) : IxR X (rIxL K) := by subst e; exact ix_list
theorem sl_tupK (e : X.K = K) : SlR X (rSlT K) := by subst e; exact sl_tup
theorem sl_listK (e : X.K = K) : SlR X (rSlL K) := by subst e; exact sl_list
theorem op_eqK (e : X.K = K) (hu : X.A.units + 64 < cLine) : OpR X (compareOp .Eq) (rEqD K) := by subst e; exact op_eqD hu
theorem op_neK (e : X.K = K) (hu : X.A.units + 64 < cLine) : OpR X (compareOp .NotEq) (rNeD K) := by subst e; exact op_neD hu
theorem isiK (e : X.K = K) : CallR X (.builtin "isinstance") (rIsi K) := by subst e; exact call_isi
def rLenK (K : PySem.W.Frag) : List V → Hp → VK → Prop := fun xs H Q => ∃ p ys, xs = [.ref p] ∧ (SqL K H p ys ∨ SqT K H p ys) ∧ Q (.int ys.length) H
theorem lenK (e : X.K = K) : CallR X (.builtin "len") (rLenK K) := by subst e; exact call_len_seq
theorem allK (e : X.K = K) (hc : X.calm = true) : CallR X (.builtin "all") (rAll K) := by subst e; exact cr_all hc
theorem sumK (e : X.K = K) (hc : X.calm = true) : CallR X (.builtin "sum") (rSum K) := by subst e; exact cr_sum hc
theorem maxK (e : X.K = K) (hc : X.calm = true) : CallR X (.builtin "max") (rMax K) := by subst e; exact cr_max hc
theorem minK (e : X.K = K) (hc : X.calm = true) : CallR X (.builtin "min") (rMin K) := by subst e; exact cr_min hc
theorem anyK (e : X.K = K) (hc : X.calm = true) : CallR X (.builtin "any") (rAny K) := by subst e; exact cr_any hc
end
section
variable {X : Cx} {K : PySem.W.Frag}
theorem ix_ltK (e : X.K = K) : IxR X (fun x y H Q => rIxL K x y H Q ∨ rIxT K x y H Q) := by subst e; exact ix_list.or ix_tup
theorem pe_orTK {a b : Expr} {ta tb : TE} {rest : List Expr} {pos : Pos} (e : X.K = K) (ha : PE X a ta) (hb : PE X (.BoolOp .Or (b :: rest) pos) tb) : PE X (.BoolOp .Or (a :: b :: rest) pos) (tOrT K ta tb) := by subst e; exact pe_orT ha hb
end
theorem yesT {σ : L2.St} {H : Hp} {Q : Bool → Hp → Prop} (h : Q true H) : tYes σ H Q := h
section
variable {X : Cx} {K : PySem.W.Frag}
theorem pg_tupK {es : List Expr} {k : Nat} {t : TGs} {n : Nat} {pos : Pos} (e : X.K = K) (hc : X.calm = true) (h : PGs X es t)
    (hn : (assignEach es X.env).length = n := by rfl) (hst : (assignEach es X.env).findIdx? (·.1) = none := by rfl) : PG X (.Tuple es k pos) (gTup K n t) := by
  subst e
  exact pg_tup hc h hn hst
end
theorem tyx_list {K : PySem.W.Frag} {H : Hp} {a : Addr} {xs : List V} (h : SqL K H a xs) : TyX K H (.ref a) (.type "list") := by
  rcases h with (h | ⟨o, h⟩) | ⟨o, its, n, h, hc, _⟩
  · exact .base (.lst h)
  · exact .base (.frz h)
  · exact .kList h hc
/-- max and min of two numbers that are not negative -/
def rNN (g : Nat → Nat → Nat) : List V → Hp → VK → Prop := fun xs H Q => ∃ a b : Nat, xs = [.int (a : Nat), .int (b : Nat)] ∧ Q (.int ((g a b : Nat) : Int)) H
section
variable {X : Cx}
theorem max2N (hc : X.calm = true) : CallR X (.builtin "max") (rNN max) := by
  intro pins s σ H xs us Q I r h
  obtain ⟨a, b, rfl, q⟩ := h
  refine call_max2 hc pins s σ H _ us Q I r ⟨_, _, rfl, ?_⟩
  have e : (if (b : Int) > (a : Int) then (b : Int) else (a : Int)) = ((max a b : Nat) : Int) := by split <;> omega
  rw [e]
  exact q
theorem max0N (hc : X.calm = true) : CallR X (.builtin "max") (fun xs H Q => ∃ (z : Int) (n : Nat), xs = [.int 0, .int z] ∧ (if z > 0 then z else 0) = (n : Int) ∧ Q (.int (n : Nat)) H) := by
  intro pins s σ H xs us Q I r h
  obtain ⟨z, n, rfl, e, q⟩ := h
  refine call_max2 hc pins s σ H _ us Q I r ⟨0, z, rfl, ?_⟩
  rw [e]
  exact q
theorem min2N (hc : X.calm = true) : CallR X (.builtin "min") (rNN min) := by
  intro pins s σ H xs us Q I r h
  obtain ⟨a, b, rfl, q⟩ := h
  refine call_min2 hc pins s σ H _ us Q I r ⟨_, _, rfl, ?_⟩
  have e : (if (b : Int) < (a : Int) then (b : Int) else (a : Int)) = ((min a b : Nat) : Int) := by split <;> omega
  rw [e]
  exact q
end
/-- one rest behind several ways -/
theorem cut_at {α : Type} {I : α → Hp → Prop} {G : Prop} (R : α → Hp → Prop) (h1 : (∀ a H, I a H → R a H) → G) (h2 : ∀ a H, I a H → R a H) : G := h1 h2
theorem cut_rest {I : Hp → Prop} {G : Prop} (R : Hp → Prop) (h1 : (∀ H, I H → R H) → G) (h2 : ∀ H, I H → R H) : G := h1 h2
/-! ### rules that the layer lacks: min(.., default=None), sorted of a dict with pairs of ints as its keys -/
theorem minOf_spec : ∀ (x : Int) (xs : List Int), PySem.W.minOf x xs ∈ x :: xs ∧ ∀ y ∈ x :: xs, PySem.W.minOf x xs ≤ y := by
  intro x xs
  unfold PySem.W.minOf
  induction xs generalizing x with
  | nil =>
    refine ⟨List.mem_cons_self .., fun y hy => ?_⟩
    rcases List.mem_cons.mp hy with e | hy
    · rw [e]
      exact Int.le_refl _
    · cases hy
  | cons z zs ih =>
    have e : (PySem.W.DatumOrd.lt z x = true) ↔ z < x := by
      show decide (z < x) = true ↔ z < x
      exact decide_eq_true_iff
    rw [List.foldl_cons]
    obtain ⟨h1, h2⟩ := ih (if PySem.W.DatumOrd.lt z x = true then z else x)
    refine ⟨?_, fun y hy => ?_⟩
    · rcases List.mem_cons.mp h1 with e1 | h1
      · rw [e1]
        split
        · exact List.mem_cons_of_mem _ (List.mem_cons_self ..)
        · exact List.mem_cons_self ..
      · exact List.mem_cons_of_mem _ (List.mem_cons_of_mem _ h1)
    · have h3 := h2 _ (List.mem_cons_self ..)
      rcases List.mem_cons.mp hy with e1 | hy
      · rw [e1]
        by_cases c : z < x
        · rw [if_pos (e.mpr c)] at h3 ⊢
          omega
        · rw [if_neg (fun q => c (e.mp q))] at h3 ⊢
          exact h3
      · rcases List.mem_cons.mp hy with e1 | hy
        · rw [e1]
          by_cases c : z < x
          · rw [if_pos (e.mpr c)] at h3 ⊢
            exact h3
          · rw [if_neg (fun q => c (e.mp q))] at h3 ⊢
            omega
        · exact h2 y (List.mem_cons_of_mem _ hy)
def rMinD (K : PySem.W.Frag) : List V → List V → Hp → VK → Prop := fun vs zs H Q => ∃ (a : Addr) (ns : List Int), vs = [V.ref a] ∧ zs = [.non] ∧ SqL K H a (ns.map V.int) ∧ (ns = [] → Q .non H) ∧ ∀ v ∈ ns, (∀ x ∈ ns, v ≤ x) → Q (.int v) H
section
variable {X : Cx} {K : PySem.W.Frag}
theorem minDef (e : X.K = K) (hc : X.calm = true) (hu : X.A.units + 64 < cLine) : CallRK X (.builtin "min") [Str.ofString "default"] (rMinD K) := by
  subst e
  intro pins s σ H vs zs us ws Q I r rz h
  obtain ⟨a, ns, rfl, rfl, hs, q0, q1⟩ := h
  obtain ⟨its, rv, hl, hz⟩ := I.list hs
  obtain ⟨w1, rfl, e1⟩ := vals1 rz
  obtain rfl : w1 = Value.none := e1
  rw [Vals.ref1 r]
  have hi := rv.ints
  refine PySem.W.min_list_datum_default (α := Int) (xs := ns) (I.ok.hd hc) hl.isList (PySem.W.HoldAll.of_ints hi) (by show X.A.units + 1 + 0 < cLine; omega) (fun en h' tk hk => ?_) (fun y ys i v h' tk en hv hh hk => ?_)
  · exact ⟨.non, H, I.kept hk, rfl, q0 en⟩
  · obtain ⟨as, hr⟩ := hh
    have hm := minOf_spec y ys
    have ev : ∃ t, v = Value.int (PySem.W.minOf y ys) t := by
      cases hr
      exact ⟨_, rfl⟩
    obtain ⟨t, rfl⟩ := ev
    subst en
    exact ⟨.int _, H, I.kept hk, ⟨_, rfl⟩, q1 _ hm.1 hm.2⟩
end
/-! ### sorted of a dict whose keys are pairs of whole numbers -/
def pairAt (H : Hp) : Value → Int × Int
  | .ref b => match H b with
    | some (.tup [.int i, .int j]) => (i, j)
    | _ => (0, 0)
  | _ => (0, 0)
theorem pairAt_of {H : Hp} {b : Addr} {i j : Int} (h : H b = some (.tup [.int i, .int j])) : pairAt H (.ref b) = (i, j) := by
  show (match H b with | some (.tup [.int i, .int j]) => (i, j) | _ => (0, 0)) = (i, j)
  rw [h]
def unRef : Value → Addr
  | .ref b => b
  | _ => 0
section
variable {X : Cx}
theorem call_sortedDT (hc : X.calm = true) : CallR X (.builtin "sorted") (fun xs H Q => ∃ (d : Addr) (kvs : List (List Key × V)) (ps : List (Int × Int)), xs = [V.ref d] ∧ Rd H d (.dT kvs) ∧ kvs.map (·.1) = ps.map (fun p => [Sum.inl p.1, Sum.inl p.2]) ∧
    ∀ (p : Addr) (bs : List Addr), H p = none → (bs.map fun b => pairAt H (.ref b)).Perm ps → (bs.map fun b => pairAt H (.ref b)).Pairwise (fun a b => SrtO.lexB b a = false) → (∀ b ∈ bs, H b = some (.tup [.int (pairAt H (.ref b)).1, .int (pairAt H (.ref b)).2])) → Q (.ref p) (upd H p (.lst (bs.map V.ref)))) := by
  intro pins s σ H xs us Q I r h
  obtain ⟨d, kvs, ps, rfl, hd, hps, q⟩ := h
  obtain ⟨u, rfl, rx⟩ := r.one
  cases rx
  obtain ⟨z, hs, ks, pr, o, es, ep, ho, hx, hdt, he, hn⟩ := (show ObjOk X.prog X.w H s.heap d (.dT kvs) from hd.ok I.hok)
  have l1 : es.size = ks.length := size_of_entries he
  have l2 : kvs.length = ks.length := Paired.length pr
  have ik : IsKeys H kvs (ks.map fun x => x.2.1) := isKeys_of pr
  -- what stands at the keys
  have keys : ∀ (kvs : List (List Key × V)) (ps : List (Int × Int)) (bs : List Addr), kvs.map (·.1) = ps.map (fun p => [Sum.inl p.1, Sum.inl p.2]) → IsKeys H kvs bs → bs.map (fun b => pairAt H (.ref b)) = ps ∧ ∀ b ∈ bs, H b = some (.tup [.int (pairAt H (.ref b)).1, .int (pairAt H (.ref b)).2]) := by
    intro kvs ps bs e1 e2
    induction e2 generalizing ps with
    | nil =>
      cases ps with
      | nil => exact ⟨rfl, fun b h => by cases h⟩
      | cons p ps => cases e1
    | cons h t ih =>
      cases ps with
      | nil => cases e1
      | cons p ps =>
        rw [List.map_cons, List.map_cons] at e1
        obtain ⟨e3, e4⟩ := List.cons.inj e1
        obtain ⟨i1, i2⟩ := ih ps e4
        rw [e3] at h
        have h' : H _ = some (.tup [.int p.1, .int p.2]) := h
        have hp := pairAt_of h'
        refine ⟨?_, fun b hb => ?_⟩
        · rw [List.map_cons, i1, hp]
        · rcases List.mem_cons.mp hb with e | hb
          · rw [e, hp]
            exact h'
          · exact i2 b hb
  obtain ⟨kp1, kp2⟩ := keys kvs ps _ hps ik
  refine Calls.call_function_entry PyProof.Rows.kind_sorted PyProof.Rows.plain_sorted PyProof.Rows.entry_sorted (PyProof.Rows.args_sorted1 _) ?_
  unfold Builtin.«sorted»
  refine wpAny_bind (m := checkCount "sorted" 1 1 _) (wpAny_pure ?_)
  refine wpAny_bind (PySem.W.kdu_collect (A := X.A.in1) (kdl_raw hs hx hdt) (I.ok.hd hc) ho (by omega) fun h' tk acc hk it => ?_)
  have ea : acc.toList = ks.map fun x => Value.ref x.2.1 := by
    have hl : acc.toList.length = ks.length := by rw [Array.length_toList, it.1]; exact l1
    apply List.ext_getElem?
    intro j
    rw [List.getElem?_map]
    cases hj : acc.toList[j]? with
    | none =>
      have h1 := List.getElem?_eq_none_iff.mp hj
      rw [List.getElem?_eq_none (by omega)]
      all_goals rfl
    | some v =>
      obtain ⟨en, hen, hv⟩ := it.2 j v (by rw [← Array.getElem?_toList]; exact hj)
      have qe := entry_at he j
      rw [hen] at qe
      cases hb : ks[j]? with
      | none =>
        rw [hb] at qe
        exact nomatch (show some en = none from qe)
      | some b =>
        rw [hb] at qe
        have e2 : en = entryOfKey (tupleKind (mixKind X.prog X.w)) b := Option.some.inj qe
        rw [hv, e2]
        all_goals rfl
  have I1 : Inv X pins σ H { s with heap := h', toks := tk } := I.kept hk
  have hal : acc.toList.length ≤ sizeLine := by
    rw [ea, List.length_map]
    omega
  refine wpAny_bind (wpAny_newList ?_ hal)
  have hoL : (h'.push (seqObj "list" acc.toList.toArray 0)).get? h'.objs.size = some (seqObj "list" acc.toList.toArray 0) := Heap.get?_push_size _ rfl
  show wpAny _ _ _ _ _ { s with heap := h'.push (seqObj "list" acc.toList.toArray 0), toks := tk }
  have hp : ∀ v ∈ acc.toList, Srt.IsPair (h'.push (seqObj "list" acc.toList.toArray 0)) v (pairAt H v).1 (pairAt H v).2 := fun v hv => by
    rw [ea] at hv
    obtain ⟨x, hxm, rfl⟩ := List.mem_map.mp hv
    have ht := kp2 x.2.1 (List.mem_map.mpr ⟨x, hxm, rfl⟩)
    obtain ⟨_, its2, r2, o2, ho2, hc2, n2, hd2⟩ := I1.hok _ _ ht
    obtain ⟨u1, u2, rfl, ri, rj⟩ := vals2 r2
    obtain ⟨t1, rfl⟩ := ri
    obtain ⟨t2, rfl⟩ := rj
    exact ⟨x.2.1, o2, t1, t2, n2, rfl, Heap.get?_push_of_some _ ho2, hc2, hd2⟩
  refine wpAny_bind (wpAny_holding (wpAny_call_entry PyProof.Rows.slot_list_sort ⟨_, hoL, rfl⟩ PyProof.Rows.entry_list_sort
    (SrtO.list_sort_ord (s := { s with heap := h'.push (seqObj "list" acc.toList.toArray 0), toks := tk }) (SrtO.swo_lex (pairAt H)) hoL hal (fun h2 => SrtO.pairs_sortableO (by omega) hp fun o e => ?_) fun out h1 h2 => ⟨_, rfl, ?_⟩) (PyProof.Rows.args_list_sort _)))
  · have e' : some o = some (seqObj "list" acc.toList.toArray 0) := e.symm.trans hoL
    cases e'
    intro c
    exact absurd (Value.type.inj c) (by decide)
  · obtain ⟨e', he'⟩ := PyProof.Rows.sortedHeap_at (vs := acc.toList) (out := out.toArray) hoL
    obtain ⟨bs, rfl, hbs⟩ : ∃ bs : List Addr, out = bs.map Value.ref ∧ bs.Perm (ks.map fun x => x.2.1) := by
      have hperm := h2.perm
      rw [ea] at hperm
      have e9 : (ks.map fun x => Value.ref x.2.1) = (ks.map fun x => x.2.1).map Value.ref := by rw [List.map_map]; rfl
      rw [e9] at hperm
      refine ⟨out.map unRef, ?_, ?_⟩
      · rw [List.map_map]
        have e11 : out.map (Value.ref ∘ unRef) = out.map id := List.map_congr_left fun v hv => by
          obtain ⟨b, _, rfl⟩ := List.mem_map.mp (hperm.mem_iff.mp hv)
          rfl
        rw [e11, List.map_id]
      · have z := hperm.map unRef
        rw [List.map_map] at z
        have e10 : ∀ l : List Addr, l.map (unRef ∘ Value.ref) = l := fun l => by
          induction l with
          | nil => rfl
          | cons a l ih => rw [List.map_cons, ih]; rfl
        rw [e10] at z
        exact z
    have hlen : (bs.map V.ref).length ≤ sizeLine := by
      rw [List.length_map, hbs.length_eq, List.length_map]
      omega
    have hkeys : (bs.map fun b => pairAt H (.ref b)).Perm ps := by
      have z := hbs.map fun b => pairAt H (.ref b)
      rw [kp1] at z
      exact z
    have hsort : (bs.map fun b => pairAt H (.ref b)).Pairwise (fun a b => SrtO.lexB b a = false) := by
      rw [List.pairwise_map]
      exact List.pairwise_map.mp h1
    refine wpAny_pure ⟨_, rfl, .ref h'.objs.size, upd H h'.objs.size (.lst (bs.map V.ref)), I1.laid (t' := tk) (fun b u e => ?_) (Nat.le_refl _)
      (show ObjOk X.prog X.w _ _ _ (.lst (bs.map V.ref)) from ⟨hlen, bs.map Value.ref, e', vals_refs bs, he'⟩), rfl, q _ bs (I1.hok.fresh (Nat.le_refl _)) hkeys hsort fun b hb => kp2 b (hbs.mem_iff.mp hb)⟩
    have hb : b < h'.objs.size := Heap.lt_size e
    rw [PyProof.Rows.sortedHeap_old (Nat.ne_of_lt hb) (by rw [size_push']; exact Nat.lt_succ_of_lt hb)]
    exact Heap.get?_push_of_some _ e
end
/-! ### digits: the mathematics -/
/-- k is the level of d at n -/
def IsLev (b n d k : Nat) : Prop := n / b ^ (k + 1) = d / b ^ (k + 1) ∧ ∀ j, j < k → n / b ^ (j + 1) ≠ d / b ^ (j + 1)
abbrev Row3 := Nat × Nat × Nat
/-- the stations below level k -/
def tailOf (b d : Nat) : Nat → List Row3
  | 0 => []
  | k + 1 => if d / b ^ k % b ≠ 0 then (k, d / b ^ k % b, d / b ^ (k + 1) * b ^ (k + 1)) :: tailOf b d k else tailOf b d k
/-- the stations of a timer set at n, k its level -/
def rowsOf (b n d k : Nat) : List Row3 := (k, d / b ^ k % b, n) :: tailOf b d k
theorem div_succ (n b k : Nat) : n / b ^ (k + 1) = n / b ^ k / b := by
  rw [Nat.pow_succ, Nat.div_div_eq_div_mul]
theorem pow_pos' {b : Nat} (h : 2 ≤ b) (k : Nat) : 0 < b ^ k := Nat.pow_pos (by omega)
theorem IsLev.uniq {b n d k k' : Nat} (h : IsLev b n d k) (h' : IsLev b n d k') : k = k' := by
  rcases Nat.lt_trichotomy k k' with l | l | l
  · exact absurd h.1 (h'.2 k l)
  · exact l
  · exact absurd h'.1 (h.2 k' l)
theorem IsLev.ne {b n d k : Nat} (h : IsLev b n d k) (hnd : n < d) : n / b ^ k < d / b ^ k := by
  cases k with
  | zero =>
    rw [Nat.pow_zero, Nat.div_one, Nat.div_one]
    exact hnd
  | succ j =>
    have h1 := h.2 j (Nat.lt_succ_self j)
    have h2 : n / b ^ (j + 1) ≤ d / b ^ (j + 1) := Nat.div_le_div_right (Nat.le_of_lt hnd)
    omega
theorem IsLev.size {b n d k : Nat} (h : IsLev b n d k) (hb : 2 ≤ b) (hnd : n < d) : b ^ k ≤ d := by
  have h1 := h.ne hnd
  have h2 : 0 < d / b ^ k := Nat.lt_of_le_of_lt (Nat.zero_le _) h1
  exact (Nat.div_pos_iff.mp h2).2
theorem IsLev.digit {b n d k : Nat} (h : IsLev b n d k) (hnd : n < d) : n / b ^ k % b < d / b ^ k % b := by
  have h1 := h.ne hnd
  have h2 := h.1
  rw [div_succ, div_succ] at h2
  have e1 := Nat.div_add_mod (n / b ^ k) b
  have e2 := Nat.div_add_mod (d / b ^ k) b
  rw [h2] at e1
  omega
theorem pow_two_le {b : Nat} (hb : 2 ≤ b) (k : Nat) : 2 ^ k ≤ b ^ k := Nat.pow_le_pow_left hb k
theorem lev_small {b n d k t : Nat} (h : IsLev b n d k) (hb : 2 ≤ b) (hnd : n < d) (hd : d < 2 ^ t) : k < t := by
  have h1 := h.size hb hnd
  have h2 := pow_two_le hb k
  exact (Nat.pow_lt_pow_iff_right (by decide : 1 < 2)).mp (Nat.lt_of_le_of_lt (Nat.le_trans h2 h1) hd)
/-- cutting below: what two cuts beside one another differ by -/
theorem cut_step (b d k : Nat) : d / b ^ k * b ^ k = d / b ^ (k + 1) * b ^ (k + 1) + d / b ^ k % b * b ^ k := by
  rw [div_succ]
  have e := Nat.div_add_mod (d / b ^ k) b
  have e2 : b ^ (k + 1) = b * b ^ k := by rw [Nat.pow_succ, Nat.mul_comm]
  rw [e2, ← Nat.mul_assoc, ← Nat.add_mul, Nat.mul_comm (d / b ^ k / b) b, e]
theorem cut_le (b d k : Nat) : d / b ^ k * b ^ k ≤ d := Nat.div_mul_le_self d (b ^ k)
theorem cut_mono (b d : Nat) {j k : Nat} (h : j ≤ k) : d / b ^ k * b ^ k ≤ d / b ^ j * b ^ j := by
  induction k with
  | zero =>
    have e : j = 0 := by omega
    rw [e]
    exact Nat.le_refl _
  | succ k ih =>
    by_cases e : j = k + 1
    · rw [e]
      exact Nat.le_refl _
    · have h1 := ih (by omega)
      have h2 := cut_step b d k
      omega
theorem lt_cut {b n d k : Nat} (hb : 2 ≤ b) (h : n / b ^ k < d / b ^ k) : n < d / b ^ k * b ^ k := by
  have hp := pow_pos' hb k
  exact (Nat.div_lt_iff_lt_mul hp).mp h
theorem tail_len (b d : Nat) : ∀ k, (tailOf b d k).length ≤ k
  | 0 => Nat.le_refl _
  | k + 1 => by
    have ih := tail_len b d k
    unfold tailOf
    split
    · rw [List.length_cons]
      omega
    · omega
/-- a later tick that lies ahead of the next cut has the same level -/
theorem IsLev.later {b n d k t : Nat} (hb : 2 ≤ b) (h : IsLev b n d k) (hnd : n < d) (h1 : n ≤ t) (h2 : t < d / b ^ k * b ^ k) : IsLev b t d k := by
  have hp := pow_pos' hb k
  have hp1 := pow_pos' hb (k + 1)
  have htd : t < d := Nat.lt_of_lt_of_le h2 (cut_le b d k)
  refine ⟨?_, fun j hj => ?_⟩
  · have a1 : n / b ^ (k + 1) ≤ t / b ^ (k + 1) := Nat.div_le_div_right h1
    have a2 : t / b ^ (k + 1) ≤ d / b ^ (k + 1) := Nat.div_le_div_right (Nat.le_of_lt htd)
    have a3 := h.1
    omega
  · have a1 : t / b ^ k < d / b ^ k := (Nat.div_lt_iff_lt_mul hp).mpr h2
    intro e
    have e2 : k = (j + 1) + (k - (j + 1)) := by omega
    rw [e2, Nat.pow_add, ← Nat.div_div_eq_div_mul, ← Nat.div_div_eq_div_mul, e] at a1
    omega
/-! ### words of levels, sides -/
def lvV (b : Bool) : V := if b then .str "stack" else .str "queue"
def sdV (b : Bool) : V := if b then .str "front" else .str "back"
theorem lv_ne : ¬ (V.str "queue" = V.str "stack") := by decide
theorem lv_dec (b : Bool) : decide (lvV b = .str "stack") = b := by
  cases b
  · exact decide_eq_false lv_ne
  · exact decide_eq_true rfl
def wordAt (ws : List Bool) (k : Nat) : Bool := ws.getD (min k (ws.length - 1)) false
theorem word_get {ws : List Bool} (h : ws ≠ []) (k : Nat) : (ws.map lvV)[min k (ws.length - 1)]? = some (lvV (wordAt ws k)) := by
  have hl : min k (ws.length - 1) < ws.length := by
    have : 0 < ws.length := List.length_pos_iff.mpr h
    omega
  rw [List.getElem?_map, List.getElem?_eq_getElem hl]
  unfold wordAt
  rw [List.getD_eq_getElem?_getD, List.getElem?_eq_getElem hl]
  rfl
/-- whether an odd number of the rows, at levels from lo on, have the word stack -/
def frontOf (ws : List Bool) (lo : Nat) (rs : List Row3) : Bool := decide (rs.countP (fun r => decide (lo ≤ r.1) && wordAt ws r.1) % 2 = 1)
theorem odd_succ (c : Nat) : decide ((c + 1) % 2 = 1) = !decide (c % 2 = 1) := by
  by_cases h : c % 2 = 1
  · rw [decide_eq_true h, decide_eq_false (by omega)]
    rfl
  · rw [decide_eq_false h, decide_eq_true (by omega)]
    rfl
theorem front_snoc (ws : List Bool) (lo : Nat) (rs : List Row3) (r : Row3) : frontOf ws lo (rs ++ [r]) = if (decide (lo ≤ r.1) && wordAt ws r.1) = true then !frontOf ws lo rs else frontOf ws lo rs := by
  unfold frontOf
  rw [List.countP_append, List.countP_singleton]
  split
  · exact odd_succ _
  · rw [Nat.add_zero]
/-! ### the wheel as plain data -/
structure Tm where
  num : Nat
  due : Nat
  per : Option Nat
  since : Nat
def perV : Option Nat → V
  | none => .non
  | some k => .int (k : Nat)
def tmV (m : Tm) : List V := [.int (m.due : Nat), perV m.per, .int (m.since : Nat)]
open Classical in
noncomputable def sideT (b : Nat) (ws : List Bool) (n d lo : Nat) : Bool := if h : ∃ k, IsLev b n d k then frontOf ws lo (rowsOf b n d (Classical.choose h)) else false
theorem sideT_eq {b : Nat} {ws : List Bool} {n d lo k : Nat} (h : IsLev b n d k) : sideT b ws n d lo = frontOf ws lo (rowsOf b n d k) := by
  have e : ∃ k, IsLev b n d k := ⟨k, h⟩
  unfold sideT
  rw [dif_pos e, (Classical.choose_spec e).uniq h]
def insT (front : Bool) (n : Nat) (l : List Nat) : List Nat := if front then n :: l else l ++ [n]
noncomputable def orderAt (b : Nat) (ws : List Bool) (t : Nat) (ms : List Tm) : List Nat := ms.foldl (fun acc m => if m.due = t then insT (sideT b ws m.since m.due 0) m.num acc else acc) []
theorem order_snoc (b : Nat) (ws : List Bool) (t : Nat) (ms : List Tm) (m : Tm) : orderAt b ws t (ms ++ [m]) = if m.due = t then insT (sideT b ws m.since m.due 0) m.num (orderAt b ws t ms) else orderAt b ws t ms := by
  unfold orderAt
  rw [List.foldl_append]
  rfl
theorem insT_len (f : Bool) (n : Nat) (l : List Nat) : (insT f n l).length = l.length + 1 := by
  unfold insT
  split
  · rfl
  · rw [List.length_append]
    rfl
theorem insT_mem {f : Bool} {n x : Nat} {l : List Nat} : x ∈ insT f n l ↔ x = n ∨ x ∈ l := by
  unfold insT
  split
  · rw [List.mem_cons]
  · rw [List.mem_append, List.mem_singleton]
    exact Or.comm
theorem order_spec (b : Nat) (ws : List Bool) (t : Nat) (ms : List Tm) : ∀ n : Nat, (orderAt b ws t (ms.take n)).length = ((ms.take n).filter fun m => decide (m.due = t)).length ∧ ∀ x, x ∈ orderAt b ws t (ms.take n) ↔ ∃ m ∈ ms.take n, m.due = t ∧ m.num = x := by
  intro n
  induction n with
  | zero =>
    refine ⟨rfl, fun x => ?_⟩
    simp [orderAt]
  | succ n ih =>
    cases e : ms[n]? with
    | none =>
      have hl : ms.length ≤ n := List.getElem?_eq_none_iff.mp e
      rw [List.take_of_length_le (by omega)]
      rw [List.take_of_length_le hl] at ih
      exact ih
    | some m =>
      rw [List.take_add_one, e]
      show (orderAt b ws t (ms.take n ++ [m])).length = _ ∧ ∀ x, x ∈ orderAt b ws t (ms.take n ++ [m]) ↔ ∃ m' ∈ ms.take n ++ [m], _
      rw [order_snoc]
      rw [Option.toList_some, List.filter_append, List.length_append]
      by_cases h : m.due = t
      · rw [if_pos h, insT_len, ih.1]
        refine ⟨by simp [h], fun x => ?_⟩
        rw [insT_mem, ih.2 x]
        constructor
        · rintro (e | ⟨m', h1, h2⟩)
          · exact ⟨m, by simp, h, e.symm⟩
          · exact ⟨m', List.mem_append_left _ h1, h2⟩
        · rintro ⟨m', h1, h2, h3⟩
          rcases List.mem_append.mp h1 with h1 | h1
          · exact .inr ⟨m', h1, h2, h3⟩
          · rw [List.mem_singleton.mp h1] at h3
            exact .inl h3.symm
      · rw [if_neg h, ih.1]
        refine ⟨by simp [h], fun x => ?_⟩
        rw [ih.2 x]
        constructor
        · rintro ⟨m', h1, h2⟩
          exact ⟨m', List.mem_append_left _ h1, h2⟩
        · rintro ⟨m', h1, h2, h3⟩
          rcases List.mem_append.mp h1 with h1 | h1
          · exact ⟨m', h1, h2, h3⟩
          · rw [List.mem_singleton.mp h1] at h2
            exact absurd h2 h
theorem order_len (b : Nat) (ws : List Bool) (t : Nat) (ms : List Tm) : (orderAt b ws t ms).length = (ms.filter fun m => decide (m.due = t)).length := by
  have z := (order_spec b ws t ms ms.length).1
  rw [List.take_length] at z
  exact z
theorem order_mem {b : Nat} {ws : List Bool} {t : Nat} {ms : List Tm} {x : Nat} : x ∈ orderAt b ws t ms ↔ ∃ m ∈ ms, m.due = t ∧ m.num = x := by
  have z := (order_spec b ws t ms ms.length).2 x
  rw [List.take_length] at z
  exact z
def dropT (n : Nat) (ms : List Tm) : List Tm := ms.filter fun m => decide (m.num ≠ n)
/-- a timer fires: it goes, and comes back at the end if it has a period -/
def fireT (t : Nat) (ms : List Tm) (n : Nat) : List Tm := match ms.find? fun m => decide (m.num = n) with
  | none => ms
  | some m => match m.per with
    | none => dropT n ms
    | some k => dropT n ms ++ [⟨n, t + k, some k, t⟩]
def afterF (t : Nat) (ms : List Tm) (ns : List Nat) : List Tm := ns.foldl (fireT t) ms
def leastD (ms : List Tm) : Option Nat := (ms.map (·.due)).min?
theorem least_none {ms : List Tm} : leastD ms = none ↔ ms = [] := by
  unfold leastD
  rw [List.min?_eq_none_iff, List.map_eq_nil_iff]
theorem least_some {ms : List Tm} {v : Nat} : leastD ms = some v ↔ v ∈ ms.map (·.due) ∧ ∀ x ∈ ms.map (·.due), v ≤ x := by
  unfold leastD
  exact List.min?_eq_some_iff
structure WS where
  b : Nat
  ws : List Bool
  tick : Nat
  fol : Nat
  live : List Tm
/-- live timers as they may stand at a tick -/
structure TOk (tick fol : Nat) (m : Tm) : Prop where
  since : m.since ≤ tick
  due : tick < m.due
  big : m.due < 2 ^ 250
  num : m.num < fol
  per : ∀ k, m.per = some k → 1 ≤ k
structure WOk (W : WS) : Prop where
  b2 : 2 ≤ W.b
  b64 : W.b ≤ 64
  ne : W.ws ≠ []
  l60 : W.ws.length ≤ 60
  tms : ∀ m ∈ W.live, TOk W.tick W.fol m
  nd : (W.live.map (·.num)).Nodup
  few : W.live.length ≤ 1000
/-- what an advance to t lets fire, step by step -/
inductive AdvTo (b : Nat) (ws : List Bool) (t : Nat) : List Tm → List (Nat × List Nat) → List Tm → Prop where
  | done {ms : List Tm} (h : ∀ m ∈ ms, t < m.due) : AdvTo b ws t ms [] ms
  | step {ms ms' : List Tm} {at_ : Nat} {rest : List (Nat × List Nat)} (h : leastD ms = some at_) (hle : at_ ≤ t) (ok : ∀ m ∈ ms, m.since < m.due ∧ m.due < 2 ^ 250) (nd : (ms.map (·.num)).Nodup) (few : ms.length ≤ 1000)
    (r : AdvTo b ws t (afterF at_ ms (orderAt b ws at_ ms)) rest ms') : AdvTo b ws t ms ((at_, orderAt b ws at_ ms) :: rest) ms'
open Classical in
/-- the tick at which a timer leaves the list in which it stands at n -/
noncomputable def evT (b n d : Nat) : Nat := if h : ∃ k, IsLev b n d k then d / b ^ Classical.choose h * b ^ Classical.choose h else 0
theorem evT_eq {b n d k : Nat} (h : IsLev b n d k) : evT b n d = d / b ^ k * b ^ k := by
  have e : ∃ k, IsLev b n d k := ⟨k, h⟩
  unfold evT
  rw [dif_pos e, (Classical.choose_spec e).uniq h]
noncomputable def nextE (b n : Nat) (ms : List Tm) : Option Nat := (ms.map fun m => evT b n m.due).min?
def total (fs : List (Nat × List Nat)) : Nat := (fs.map fun f => f.2.length).sum
theorem order_pos {b : Nat} {ws : List Bool} {t : Nat} {ms : List Tm} (h : leastD ms = some t) : 0 < (orderAt b ws t ms).length := by
  obtain ⟨m, hm, e⟩ := List.mem_map.mp (least_some.mp h).1
  have z : m.num ∈ orderAt b ws t ms := order_mem.mpr ⟨m, hm, e, rfl⟩
  exact List.length_pos_of_mem z
theorem insT_nodup {f : Bool} {n : Nat} {l : List Nat} (h : l.Nodup) (hn : n ∉ l) : (insT f n l).Nodup := by
  unfold insT
  split
  · exact List.nodup_cons.mpr ⟨hn, h⟩
  · exact L2.nd_snoc h hn
theorem order_nodup {b : Nat} {ws : List Bool} {t : Nat} {ms : List Tm} (nd : (ms.map (·.num)).Nodup) : (orderAt b ws t ms).Nodup := by
  suffices H : ∀ n : Nat, (orderAt b ws t (ms.take n)).Nodup by
    have z := H ms.length
    rw [List.take_length] at z
    exact z
  intro n
  induction n with
  | zero => exact List.nodup_nil
  | succ n ih =>
    cases e : ms[n]? with
    | none =>
      have hl : ms.length ≤ n := List.getElem?_eq_none_iff.mp e
      rw [List.take_of_length_le (by omega)]
      rw [List.take_of_length_le hl] at ih
      exact ih
    | some m =>
      rw [List.take_add_one, e]
      show (orderAt b ws t (ms.take n ++ [m])).Nodup
      rw [order_snoc]
      split
      · refine insT_nodup ih fun hm => ?_
        obtain ⟨m', h1, _, h3⟩ := order_mem.mp hm
        obtain ⟨i, hi⟩ := List.getElem?_of_mem h1
        rw [List.getElem?_take] at hi
        split at hi
        · rename_i hlt
          have a1 : (ms.map (·.num))[i]? = some m.num := by rw [List.getElem?_map, hi, ← h3]; rfl
          have a2 : (ms.map (·.num))[n]? = some m.num := by rw [List.getElem?_map, e]; rfl
          have z := (List.getElem?_inj (List.getElem?_eq_some_iff.mp a1).1 nd).mp (a1.trans a2.symm)
          omega
        · cases hi
      · exact ih
/-! ### the lists of a wheel -/
abbrev Cell := (Nat × Nat) × List Nat
def keyC (p : Nat × Nat) : List Key := [Sum.inl (p.1 : Int), Sum.inl (p.2 : Int)]
theorem keyC_inj {p q : Nat × Nat} : keyC p = keyC q ↔ p = q := by
  constructor
  · intro h
    unfold keyC at h
    obtain ⟨h1, h2⟩ := List.cons.inj h
    have a := Int.ofNat.inj (Sum.inl.inj h1)
    have b := Int.ofNat.inj (Sum.inl.inj (List.cons.inj h2).1)
    exact Prod.ext a b
  · intro h
    rw [h]
def cellV : List Cell → Nat × Nat → List Nat
  | [], _ => []
  | c :: cs, p => if c.1 = p then c.2 else cellV cs p
def cellPut (rs : List Cell) (p : Nat × Nat) (ns : List Nat) : List Cell := if (rs.any fun c => decide (c.1 = p)) = true then rs.map (fun c => if c.1 = p then (c.1, ns) else c) else rs ++ [(p, ns)]
theorem cellV_map {p q : Nat × Nat} {ns : List Nat} : ∀ rs : List Cell, cellV (rs.map fun c => if c.1 = p then (c.1, ns) else c) q = if p = q ∧ (rs.any fun c => decide (c.1 = p)) = true then ns else cellV rs q
  | [] => by simp [cellV]
  | c :: cs => by
    have ih := cellV_map (p := p) (q := q) (ns := ns) cs
    rw [List.map_cons]
    by_cases h : c.1 = p
    · rw [if_pos h]
      by_cases h2 : p = q
      · have e : c.1 = q := h.trans h2
        rw [if_pos ⟨h2, by rw [List.any_cons, decide_eq_true h]; rfl⟩]
        show (if c.1 = q then ns else _) = ns
        rw [if_pos e]
      · have e : ¬ c.1 = q := fun z => h2 (h.symm.trans z)
        rw [if_neg (fun z => h2 z.1)]
        rw [if_neg (fun z => h2 z.1)] at ih
        show (if c.1 = q then ns else _) = if c.1 = q then c.2 else cellV cs q
        rw [if_neg e, if_neg e]
        exact ih
    · rw [if_neg h, List.any_cons, decide_eq_false h, Bool.false_or]
      show (if c.1 = q then c.2 else _) = _
      by_cases h2 : c.1 = q
      · have e : ¬ p = q := fun z => h (h2.trans z.symm)
        rw [if_pos h2, if_neg (fun z => e z.1)]
        show c.2 = if c.1 = q then c.2 else cellV cs q
        rw [if_pos h2]
      · rw [if_neg h2, ih]
        show _ = if _ then ns else (if c.1 = q then c.2 else cellV cs q)
        rw [if_neg h2]
theorem cellV_snoc {p q : Nat × Nat} {ns : List Nat} : ∀ rs : List Cell, (rs.any fun c => decide (c.1 = p)) = false → cellV (rs ++ [(p, ns)]) q = if p = q then ns else cellV rs q
  | [], _ => rfl
  | c :: cs, h => by
    rw [List.any_cons, Bool.or_eq_false_iff] at h
    have ih := cellV_snoc (q := q) (ns := ns) cs h.2
    have hc : ¬ c.1 = p := of_decide_eq_false h.1
    show (if c.1 = q then c.2 else cellV (cs ++ [(p, ns)]) q) = if p = q then ns else (if c.1 = q then c.2 else cellV cs q)
    rw [ih]
    by_cases h2 : p = q
    · rw [if_pos h2, if_pos h2, if_neg fun z => hc (z.trans h2.symm)]
    · rw [if_neg h2, if_neg h2]
theorem cellV_put {rs : List Cell} {p q : Nat × Nat} {ns : List Nat} : cellV (cellPut rs p ns) q = if p = q then ns else cellV rs q := by
  unfold cellPut
  by_cases h : (rs.any fun c => decide (c.1 = p)) = true
  · rw [if_pos h, cellV_map]
    by_cases h2 : p = q
    · rw [if_pos ⟨h2, h⟩, if_pos h2]
    · rw [if_neg (fun z => h2 z.1), if_neg h2]
  · rw [if_neg h]
    exact cellV_snoc rs (Bool.eq_false_iff.mpr h)
theorem cellPut_len (rs : List Cell) (p : Nat × Nat) (ns : List Nat) : (cellPut rs p ns).length ≤ rs.length + 1 := by
  unfold cellPut
  split
  · rw [List.length_map]
    omega
  · rw [List.length_append]
    exact Nat.le_refl _
theorem cellPut_keys {rs : List Cell} {p : Nat × Nat} {ns : List Nat} (nd : (rs.map (·.1)).Nodup) : ((cellPut rs p ns).map (·.1)).Nodup := by
  unfold cellPut
  by_cases h : (rs.any fun c => decide (c.1 = p)) = true
  · rw [if_pos h, List.map_map]
    have e : rs.map ((fun c : Cell => c.1) ∘ fun c => if c.1 = p then (c.1, ns) else c) = rs.map (·.1) := List.map_congr_left fun c _ => by
      show (if c.1 = p then (c.1, ns) else c).1 = c.1
      split <;> rfl
    rw [e]
    exact nd
  · rw [if_neg h, List.map_append]
    refine L2.nd_snoc nd fun hm => h ?_
    obtain ⟨c, hc, e⟩ := List.mem_map.mp hm
    exact List.any_eq_true.mpr ⟨c, hc, decide_eq_true e⟩
open Classical in
noncomputable def levT (b n d : Nat) : Nat := if h : ∃ k, IsLev b n d k then Classical.choose h else 0
theorem levT_eq {b n d k : Nat} (h : IsLev b n d k) : levT b n d = k := by
  have e : ∃ k, IsLev b n d k := ⟨k, h⟩
  unfold levT
  rw [dif_pos e]
  exact (Classical.choose_spec e).uniq h
noncomputable def placeT (b t d : Nat) : Nat × Nat := (levT b t d, d / b ^ levT b t d % b)
noncomputable def standStep (b : Nat) (ws : List Bool) (t : Nat) (rs : List Cell) (m : Tm) : List Cell :=
  if t < m.due then cellPut rs (placeT b t m.due) (insT (sideT b ws m.since m.due (levT b t m.due)) m.num (cellV rs (placeT b t m.due))) else rs
noncomputable def standD (b : Nat) (ws : List Bool) (t : Nat) (ms : List Tm) : List Cell := ms.foldl (standStep b ws t) []
theorem stand_snoc (b : Nat) (ws : List Bool) (t : Nat) (ms : List Tm) (m : Tm) : standD b ws t (ms ++ [m]) = standStep b ws t (standD b ws t ms) m := by
  unfold standD
  rw [List.foldl_append]
  rfl
theorem stand_bounds (b : Nat) (ws : List Bool) (t : Nat) (ms : List Tm) : ∀ n : Nat, n ≤ ms.length → (standD b ws t (ms.take n)).length ≤ n ∧ (∀ p, (cellV (standD b ws t (ms.take n)) p).length ≤ n) ∧ ((standD b ws t (ms.take n)).map (·.1)).Nodup := by
  intro n
  induction n with
  | zero => exact fun _ => ⟨Nat.le_refl _, fun p => Nat.le_refl _, List.nodup_nil⟩
  | succ n ih =>
    intro hn
    obtain ⟨h1, h2, h3⟩ := ih (by omega)
    have e : ms[n]? = some ms[n] := List.getElem?_eq_getElem (by omega)
    rw [List.take_add_one, e]
    show (standD b ws t (ms.take n ++ [ms[n]])).length ≤ _ ∧ (∀ p, (cellV (standD b ws t (ms.take n ++ [ms[n]])) p).length ≤ _) ∧ ((standD b ws t (ms.take n ++ [ms[n]])).map _).Nodup
    rw [stand_snoc]
    unfold standStep
    split
    · refine ⟨Nat.le_trans (cellPut_len _ _ _) (by omega), fun p => ?_, cellPut_keys h3⟩
      rw [cellV_put]
      split
      · rw [insT_len]
        have z := h2 (placeT b t (ms[n]).due)
        omega
      · have z := h2 p
        omega
    · exact ⟨by omega, fun p => by have z := h2 p; omega, h3⟩
/-- the cells of a dict on the heap -/
def CellsAt (H : Hp) : List (List Key × V) → List Cell → Prop
  | [], [] => True
  | kv :: kvs, c :: cs => kv.1 = keyC c.1 ∧ (∃ a, kv.2 = .ref a ∧ H a = some (.lst (c.2.map fun x => V.int (x : Nat)))) ∧ CellsAt H kvs cs
  | _, _ => False
theorem CellsAt.frame {H H' : Hp} (s : ∀ a xs, H a = some (.lst xs) → H' a = some (.lst xs)) : ∀ {kvs : List (List Key × V)} {rs : List Cell}, CellsAt H kvs rs → CellsAt H' kvs rs
  | [], [], _ => trivial
  | _ :: _, _ :: _, ⟨h1, ⟨a, h2, h3⟩, h4⟩ => ⟨h1, ⟨a, h2, s _ _ h3⟩, h4.frame s⟩
  | [], _ :: _, h => h.elim
  | _ :: _, [], h => h.elim
theorem CellsAt.len {H : Hp} : ∀ {kvs : List (List Key × V)} {rs : List Cell}, CellsAt H kvs rs → kvs.length = rs.length
  | [], [], _ => rfl
  | _ :: _, _ :: _, h => congrArg Nat.succ h.2.2.len
  | [], _ :: _, h => h.elim
  | _ :: _, [], h => h.elim
theorem CellsAt.keys {H : Hp} : ∀ {kvs : List (List Key × V)} {rs : List Cell}, CellsAt H kvs rs → kvs.map (·.1) = (rs.map fun c => ((c.1.1 : Int), (c.1.2 : Int))).map fun p => [Sum.inl p.1, Sum.inl p.2]
  | [], [], _ => rfl
  | kv :: kvs, c :: cs, h => by
    rw [List.map_cons, List.map_cons, List.map_cons, h.1, h.2.2.keys]
    rfl
  | [], _ :: _, h => h.elim
  | _ :: _, [], h => h.elim
theorem CellsAt.val {H : Hp} {p : Nat × Nat} : ∀ {kvs : List (List Key × V)} {rs : List Cell}, CellsAt H kvs rs → (valV kvs (keyC p) = none ∧ cellV rs p = []) ∨ ∃ a, valV kvs (keyC p) = some (.ref a) ∧ H a = some (.lst ((cellV rs p).map fun x => V.int (x : Nat)))
  | [], [], _ => .inl ⟨rfl, rfl⟩
  | kv :: kvs, c :: cs, h => by
    obtain ⟨h1, ⟨a, h2, h3⟩, h4⟩ := h
    by_cases e : c.1 = p
    · refine .inr ⟨a, ?_, ?_⟩
      · rw [valV_pos (h1.trans (keyC_inj.mpr e)), h2]
      · show H a = some (.lst ((if c.1 = p then c.2 else cellV cs p).map _))
        rw [if_pos e]
        exact h3
    · have e1 : ¬ kv.1 = keyC p := fun z => e (keyC_inj.mp (h1.symm.trans z))
      rw [valV_neg e1]
      show _ ∧ (if c.1 = p then c.2 else cellV cs p) = [] ∨ ∃ a, _ ∧ H a = some (.lst ((if c.1 = p then c.2 else cellV cs p).map _))
      rw [if_neg e]
      exact h4.val
  | [], _ :: _, h => h.elim
  | _ :: _, [], h => h.elim
theorem CellsAt.val_mem {H : Hp} {p : Nat × Nat} : ∀ {kvs : List (List Key × V)} {rs : List Cell}, CellsAt H kvs rs → p ∈ rs.map (·.1) → ∃ a, valV kvs (keyC p) = some (.ref a) ∧ H a = some (.lst ((cellV rs p).map fun x => V.int (x : Nat)))
  | [], [], _, h => by cases h
  | kv :: kvs, c :: cs, h, hm => by
    obtain ⟨h1, ⟨a, h2, h3⟩, h4⟩ := h
    by_cases e : c.1 = p
    · refine ⟨a, ?_, ?_⟩
      · rw [valV_pos (h1.trans (keyC_inj.mpr e)), h2]
      · show H a = some (.lst ((if c.1 = p then c.2 else cellV cs p).map _))
        rw [if_pos e]
        exact h3
    · have e1 : ¬ kv.1 = keyC p := fun z => e (keyC_inj.mp (h1.symm.trans z))
      rw [valV_neg e1]
      show ∃ a, _ ∧ H a = some (.lst ((if c.1 = p then c.2 else cellV cs p).map _))
      rw [if_neg e]
      refine h4.val_mem ?_
      rw [List.map_cons] at hm
      rcases List.mem_cons.mp hm with z | z
      · exact absurd z.symm e
      · exact z
  | [], _ :: _, h, _ => h.elim
  | _ :: _, [], h, _ => h.elim
theorem CellsAt.any {H : Hp} {p : Nat × Nat} : ∀ {kvs : List (List Key × V)} {rs : List Cell}, CellsAt H kvs rs → (kvs.any fun kv => decide (kv.1 = keyC p)) = rs.any fun c => decide (c.1 = p)
  | [], [], _ => rfl
  | kv :: kvs, c :: cs, h => by
    rw [List.any_cons, List.any_cons, h.2.2.any]
    have e : (decide (kv.1 = keyC p)) = decide (c.1 = p) := decide_eq_decide.mpr (by rw [h.1]; exact keyC_inj)
    rw [e]
  | [], _ :: _, h => h.elim
  | _ :: _, [], h => h.elim
theorem CellsAt.mapd {H : Hp} {p : Nat × Nat} {a : Addr} {ns : List Nat} (ha : H a = some (.lst (ns.map fun x => V.int (x : Nat)))) : ∀ {kvs : List (List Key × V)} {rs : List Cell}, CellsAt H kvs rs → CellsAt H (kvs.map fun kv => if kv.1 = keyC p then (kv.1, .ref a) else kv) (rs.map fun c => if c.1 = p then (c.1, ns) else c)
  | [], [], _ => trivial
  | kv :: kvs, c :: cs, h => by
    obtain ⟨h1, h2, h4⟩ := h
    rw [List.map_cons, List.map_cons]
    by_cases e : c.1 = p
    · rw [if_pos e, if_pos (h1.trans (keyC_inj.mpr e))]
      exact ⟨h1, ⟨a, rfl, ha⟩, h4.mapd ha⟩
    · rw [if_neg e, if_neg fun z => e (keyC_inj.mp (h1.symm.trans z))]
      exact ⟨h1, h2, h4.mapd ha⟩
  | [], _ :: _, h => h.elim
  | _ :: _, [], h => h.elim
theorem CellsAt.snoc {H : Hp} {p : Nat × Nat} {a : Addr} {ns : List Nat} (ha : H a = some (.lst (ns.map fun x => V.int (x : Nat)))) : ∀ {kvs : List (List Key × V)} {rs : List Cell}, CellsAt H kvs rs → CellsAt H (kvs ++ [(keyC p, .ref a)]) (rs ++ [(p, ns)])
  | [], [], _ => ⟨rfl, ⟨a, rfl, ha⟩, trivial⟩
  | _ :: _, _ :: _, h => ⟨h.1, h.2.1, h.2.2.snoc ha⟩
  | [], _ :: _, h => h.elim
  | _ :: _, [], h => h.elim
theorem CellsAt.put {H : Hp} {p : Nat × Nat} {a : Addr} {ns : List Nat} (ha : H a = some (.lst (ns.map fun x => V.int (x : Nat)))) {kvs : List (List Key × V)} {rs : List Cell} (h : CellsAt H kvs rs) : CellsAt H (putK kvs (keyC p) (.ref a)) (cellPut rs p ns) := by
  unfold putK cellPut
  rw [h.any]
  split
  · exact h.mapd ha
  · exact h.snoc ha
/-! ### levels and events of timers -/
theorem least_nat {p : Nat → Prop} : ∀ n : Nat, p n → ∃ k, p k ∧ ∀ j, j < k → ¬ p j
  | 0, h => ⟨0, h, fun j hj => absurd hj (Nat.not_lt_zero j)⟩
  | n + 1, h => by
    by_cases c : ∃ m, m ≤ n ∧ p m
    · obtain ⟨m, hm, hp⟩ := c
      exact Classical.byContradiction fun no => by
        have all : ∀ k, ∀ j, j < k → ¬ p j := fun k => by
          induction k with
          | zero => exact fun j hj => absurd hj (Nat.not_lt_zero j)
          | succ k ih =>
            intro j hj
            by_cases e : j = k
            · intro hp'
              exact no ⟨k, by rw [← e]; exact hp', ih⟩
            · exact ih j (by omega)
        exact all (m + 1) m (Nat.lt_succ_self m) hp
    · exact ⟨n + 1, h, fun j hj hp => c ⟨j, Nat.le_of_lt_succ hj, hp⟩⟩
theorem lev_exists {b n d : Nat} (hb : 2 ≤ b) (h : n < d) : ∃ k, IsLev b n d k := by
  have big : d < b ^ (d + 1) := Nat.lt_of_lt_of_le (Nat.lt_of_lt_of_le Nat.lt_two_pow_self (Nat.pow_le_pow_right (by decide) (Nat.le_succ d))) (pow_two_le hb (d + 1))
  obtain ⟨k, h1, h2⟩ := least_nat (p := fun k => n / b ^ (k + 1) = d / b ^ (k + 1)) d (by
    show n / b ^ (d + 1) = d / b ^ (d + 1)
    rw [Nat.div_eq_of_lt big, Nat.div_eq_of_lt (Nat.lt_trans h big)])
  exact ⟨k, h1, h2⟩
theorem levT_is {b n d : Nat} (hb : 2 ≤ b) (h : n < d) : IsLev b n d (levT b n d) := by
  obtain ⟨k, hk⟩ := lev_exists hb h
  rw [levT_eq hk]
  exact hk
theorem evT_is {b n d : Nat} (hb : 2 ≤ b) (h : n < d) : evT b n d = d / b ^ levT b n d * b ^ levT b n d := evT_eq (levT_is hb h)
theorem evT_le {b n d : Nat} (hb : 2 ≤ b) (h : n < d) : evT b n d ≤ d := by
  rw [evT_is hb h]
  exact cut_le b d _
theorem evT_gt {b n d : Nat} (hb : 2 ≤ b) (h : n < d) : n < evT b n d := by
  rw [evT_is hb h]
  have hk := levT_is hb h
  generalize levT b n d = k at hk ⊢
  exact (Nat.div_lt_iff_lt_mul (pow_pos' hb k)).mp (hk.ne h)
/-- ahead of its event a timer stands where it stood -/
theorem lev_stays {b n d t : Nat} (hb : 2 ≤ b) (h : n < d) (h1 : n ≤ t) (h2 : t < evT b n d) : t < d ∧ levT b t d = levT b n d := by
  refine ⟨Nat.lt_of_lt_of_le h2 (evT_le hb h), ?_⟩
  rw [evT_is hb h] at h2
  exact levT_eq ((levT_is hb h).later hb h h1 h2)
/-- at its event it stands at a lower level -/
theorem lev_drops {b n d : Nat} (hb : 2 ≤ b) (h : n < d) (h2 : evT b n d < d) : levT b (evT b n d) d < levT b n d := by
  have hk := levT_is hb h
  have hk' := levT_is hb h2
  have e := evT_is hb h
  generalize levT b n d = k at hk e ⊢
  generalize levT b (evT b n d) d = k' at hk' ⊢
  have same : evT b n d / b ^ k = d / b ^ k := by
    rw [e, Nat.mul_div_cancel _ (pow_pos' hb k)]
  refine Classical.byContradiction fun no => ?_
  by_cases c : k' = k
  · subst c
    have z := hk'.ne h2
    omega
  · cases k with
    | zero =>
      rw [Nat.pow_zero, Nat.div_one, Nat.div_one] at same
      omega
    | succ j => exact hk'.2 j (by omega) same
/-! ### the law's own wheel: lists built at two ends -/
def insM (w : Bool) (m : Tm) (l : List Tm) : List Tm := if w then m :: l else l ++ [m]
def deq (f : Tm → Bool) (l : List Tm) : List Tm := (l.filter f).reverse ++ l.filter fun m => !f m
theorem deq_snoc (f : Tm → Bool) (l : List Tm) (m : Tm) : deq f (l ++ [m]) = insM (f m) m (deq f l) := by
  unfold deq insM
  rw [List.filter_append, List.filter_append]
  cases h : f m with
  | true => simp [h]
  | false => simp [h]
theorem deq_filter (f p : Tm → Bool) (l : List Tm) : (deq f l).filter p = deq f (l.filter p) := by
  unfold deq
  rw [List.filter_append, List.filter_reverse, List.filter_filter, List.filter_filter, List.filter_filter, List.filter_filter]
  have e : ∀ q : Tm → Bool, (fun m => p m && q m) = fun m => q m && p m := fun q => funext fun m => Bool.and_comm _ _
  rw [e, e]
theorem deq_false (l : List Tm) : deq (fun _ => false) l = l := by
  show (l.filter fun _ => false).reverse ++ l.filter (fun _ => true) = l
  rw [List.filter_eq_nil_iff.mpr (fun _ _ => Bool.false_ne_true), List.filter_eq_self.mpr (fun _ _ => rfl)]
  rfl
theorem deq_true (l : List Tm) : deq (fun _ => true) l = l.reverse := by
  show (l.filter fun _ => true).reverse ++ l.filter (fun _ => false) = _
  rw [List.filter_eq_nil_iff.mpr (fun _ _ => Bool.false_ne_true), List.filter_eq_self.mpr (fun _ _ => rfl), List.append_nil]
theorem deq_congr {f g : Tm → Bool} {l : List Tm} (h : ∀ m ∈ l, f m = g m) : deq f l = deq g l := by
  unfold deq
  rw [List.filter_congr h, List.filter_congr (p := fun m => !f m) (q := fun m => !g m) fun m hm => by rw [h m hm]]
theorem deq_deq (w : Bool) (f : Tm → Bool) (l : List Tm) : deq (fun _ => w) (deq f l) = deq (fun m => Bool.xor (f m) w) l := by
  cases w with
  | false =>
    rw [deq_false]
    exact deq_congr fun m _ => (Bool.xor_false _).symm
  | true =>
    rw [deq_true]
    unfold deq
    rw [List.reverse_append, List.reverse_reverse]
    have e1 : l.filter (fun m => Bool.xor (f m) true) = l.filter fun m => !f m := List.filter_congr fun m _ => Bool.xor_true _
    have e2 : l.filter (fun m => !Bool.xor (f m) true) = l.filter f := List.filter_congr fun m _ => by rw [Bool.xor_true, Bool.not_not]
    rw [e1, e2]
theorem mem_deq {f : Tm → Bool} {l : List Tm} {m : Tm} : m ∈ deq f l ↔ m ∈ l := by
  unfold deq
  rw [List.mem_append, List.mem_reverse, List.mem_filter, List.mem_filter]
  cases h : f m <;> simp
theorem deq_perm (f : Tm → Bool) (l : List Tm) : (deq f l).Perm l := by
  unfold deq
  exact ((List.reverse_perm _).append_right _).trans (List.filter_append_perm f l)
theorem deq_len (f : Tm → Bool) (l : List Tm) : (deq f l).length = l.length := (deq_perm f l).length_eq
theorem ins_len (w : Bool) (m : Tm) (l : List Tm) : (insM w m l).length = l.length + 1 := by
  unfold insM
  split
  · rfl
  · rw [List.length_append]
    rfl
theorem ins_fold (w : Bool) (l : List Tm) : l.foldl (fun a m => insM w m a) [] = deq (fun _ => w) l := by
  suffices H : ∀ (r : List Tm), l.foldl (fun a m => insM w m a) (deq (fun _ => w) r) = deq (fun _ => w) (r ++ l) by
    have z := H []
    rw [List.nil_append] at z
    exact z
  induction l with
  | nil =>
    intro r
    rw [List.append_nil]
    rfl
  | cons m l ih =>
    intro r
    rw [List.foldl_cons, ← deq_snoc (fun _ => w), ih, List.append_assoc]
    rfl
theorem ins_deq (f : Tm → Bool) (w : Bool) (l : List Tm) (h : ∀ m ∈ l, f m = w) : ∀ r : List Tm, l.foldl (fun a m => insM w m a) (deq f r) = deq f (r ++ l) := by
  induction l with
  | nil =>
    intro r
    rw [List.append_nil]
    rfl
  | cons m l ih =>
    intro r
    rw [List.foldl_cons, ← h m (List.mem_cons_self ..), ← deq_snoc, h m (List.mem_cons_self ..), ih fun x hx => h x (List.mem_cons_of_mem _ hx)]
    rw [List.append_assoc]
    rfl
/-! ### sides, digit by digit -/
def cntS (ws : List Bool) (b d lo k : Nat) : Nat := (tailOf b d k).countP fun r => decide (lo ≤ r.1) && wordAt ws r.1
theorem cntS_succ (ws : List Bool) (b d lo k : Nat) : cntS ws b d lo (k + 1) = cntS ws b d lo k + if d / b ^ k % b ≠ 0 ∧ lo ≤ k ∧ wordAt ws k = true then 1 else 0 := by
  unfold cntS
  show (if d / b ^ k % b ≠ 0 then (k, d / b ^ k % b, d / b ^ (k + 1) * b ^ (k + 1)) :: tailOf b d k else tailOf b d k).countP _ = _
  by_cases h : d / b ^ k % b ≠ 0
  · rw [if_pos h, List.countP_cons]
    congr 1
    by_cases h1 : lo ≤ k
    · cases h2 : wordAt ws k with
      | true => rw [if_pos (by simp [h1, h2]), if_pos ⟨h, h1, rfl⟩]
      | false => rw [if_neg (by simp [h2]), if_neg (fun z => by cases z.2.2)]
    · rw [if_neg (by simp [h1]), if_neg (fun z => h1 z.2.1)]
  · rw [if_neg h, if_neg fun z => h z.1, Nat.add_zero]
theorem cntS_high {ws : List Bool} {b d lo : Nat} : ∀ k, k ≤ lo → cntS ws b d lo k = 0
  | 0, _ => rfl
  | k + 1, h => by
    rw [cntS_succ, cntS_high k (by omega), if_neg (fun z => by omega)]
theorem cntS_skip {ws : List Bool} {b d lo lo' : Nat} (h : lo ≤ lo') (h0 : ∀ i, lo ≤ i → i < lo' → d / b ^ i % b = 0) : ∀ k, cntS ws b d lo k = cntS ws b d lo' k
  | 0 => rfl
  | k + 1 => by
    rw [cntS_succ, cntS_succ, cntS_skip h h0 k]
    congr 1
    by_cases c : lo' ≤ k
    · by_cases e : d / b ^ k % b ≠ 0 ∧ wordAt ws k = true
      · rw [if_pos ⟨e.1, by omega, e.2⟩, if_pos ⟨e.1, c, e.2⟩]
      · rw [if_neg fun z => e ⟨z.1, z.2.2⟩, if_neg fun z => e ⟨z.1, z.2.2⟩]
    · rw [if_neg (c := d / b ^ k % b ≠ 0 ∧ lo' ≤ k ∧ wordAt ws k = true) fun z => c z.2.1]
      refine if_neg fun z => z.1 (h0 k z.2.1 (by omega))
theorem cntS_one {ws : List Bool} {b d lo : Nat} (h : d / b ^ lo % b ≠ 0) : ∀ k, lo < k → cntS ws b d lo k = cntS ws b d (lo + 1) k + if wordAt ws lo = true then 1 else 0
  | 0, hk => absurd hk (Nat.not_lt_zero _)
  | k + 1, hk => by
    rw [cntS_succ, cntS_succ]
    by_cases e : k = lo
    · subst e
      rw [cntS_high k (Nat.le_refl _), cntS_high k (Nat.le_succ _), if_neg (c := d / b ^ k % b ≠ 0 ∧ k + 1 ≤ k ∧ wordAt ws k = true) fun z => by omega]
      by_cases c : wordAt ws k = true
      · rw [if_pos ⟨h, Nat.le_refl _, c⟩, if_pos c]
      · rw [if_neg fun z => c z.2.2, if_neg c]
    · rw [cntS_one h k (by omega)]
      have e2 : (if d / b ^ k % b ≠ 0 ∧ lo ≤ k ∧ wordAt ws k = true then 1 else 0) = if d / b ^ k % b ≠ 0 ∧ lo + 1 ≤ k ∧ wordAt ws k = true then 1 else 0 := by
        by_cases c : d / b ^ k % b ≠ 0 ∧ wordAt ws k = true
        · rw [if_pos ⟨c.1, by omega, c.2⟩, if_pos ⟨c.1, by omega, c.2⟩]
        · rw [if_neg fun z => c ⟨z.1, z.2.2⟩, if_neg fun z => c ⟨z.1, z.2.2⟩]
      rw [e2]
      omega
theorem front_cntS (ws : List Bool) (b n d lo k : Nat) (h : lo ≤ k) : frontOf ws lo (rowsOf b n d k) = decide ((cntS ws b d lo k + if wordAt ws k = true then 1 else 0) % 2 = 1) := by
  unfold frontOf rowsOf cntS
  rw [List.countP_cons]
  cases h2 : wordAt ws k with
  | true => rw [if_pos (by simp [h, h2])]; rfl
  | false => rw [if_neg (by simp [h2])]; rfl
theorem side_cnt {b : Nat} {ws : List Bool} {n d lo : Nat} (hb : 2 ≤ b) (h : n < d) (hl : lo ≤ levT b n d) : sideT b ws n d lo = decide ((cntS ws b d lo (levT b n d) + if wordAt ws (levT b n d) = true then 1 else 0) % 2 = 1) := by
  rw [sideT_eq (levT_is hb h)]
  exact front_cntS ws b n d lo _ hl
theorem odd_add (c : Nat) (w : Bool) : decide ((c + if w = true then 1 else 0) % 2 = 1) = Bool.xor (decide (c % 2 = 1)) w := by
  cases w with
  | false =>
    rw [if_neg (by decide), Bool.xor_false]
    rfl
  | true =>
    rw [if_pos rfl, Bool.xor_true]
    exact odd_succ c
theorem side_new {b : Nat} {ws : List Bool} {n d : Nat} (hb : 2 ≤ b) (h : n < d) : sideT b ws n d (levT b n d) = wordAt ws (levT b n d) := by
  rw [side_cnt hb h (Nat.le_refl _), cntS_high _ (Nat.le_refl _), odd_add]
  cases wordAt ws (levT b n d) <;> rfl
theorem lev_mono {b s n d : Nat} (hb : 2 ≤ b) (h : n < d) (hs : s ≤ n) : levT b n d ≤ levT b s d := by
  have k1 := levT_is hb h
  have k2 := levT_is hb (Nat.lt_of_le_of_lt hs h)
  generalize levT b n d = k at k1 ⊢
  generalize levT b s d = k0 at k2 ⊢
  refine Nat.le_of_not_lt fun c => k1.2 k0 c ?_
  have a1 : s / b ^ (k0 + 1) ≤ n / b ^ (k0 + 1) := Nat.div_le_div_right hs
  have a2 : n / b ^ (k0 + 1) ≤ d / b ^ (k0 + 1) := Nat.div_le_div_right (Nat.le_of_lt h)
  have a3 := k2.1
  omega
/-- the digits of a multiple -/
theorem dig_mul {b q h i : Nat} (hb : 2 ≤ b) (hi : i < h) : q * b ^ h / b ^ i % b = 0 := by
  have e : b ^ h = b ^ (h - i - 1) * b * b ^ i := by
    rw [← Nat.pow_succ, ← Nat.pow_add]
    congr 1
    omega
  rw [e, ← Nat.mul_assoc, Nat.mul_div_cancel _ (pow_pos' hb i), ← Nat.mul_assoc, Nat.mul_mod_left]
/-- where a timer goes on, its side turns with the word there -/
theorem side_drop {b : Nat} {ws : List Bool} {s n d : Nat} (hb : 2 ≤ b) (h : n < d) (hs : s ≤ n) (he : evT b n d < d) :
    sideT b ws s d (levT b (evT b n d) d) = Bool.xor (sideT b ws s d (levT b n d)) (wordAt ws (levT b (evT b n d) d)) := by
  have hm := lev_mono hb h hs
  have hd := lev_drops hb h he
  have hk := levT_is hb h
  have hj := levT_is hb he
  have ee := evT_is hb h
  have hsd := Nat.lt_of_le_of_lt hs h
  have hdj : d / b ^ levT b (evT b n d) d % b ≠ 0 := by
    have := hj.digit he
    omega
  rw [side_cnt hb hsd (by omega), side_cnt hb hsd hm, cntS_one hdj _ (by omega)]
  have e2 : cntS ws b d (levT b (evT b n d) d + 1) (levT b s d) = cntS ws b d (levT b n d) (levT b s d) := by
    refine cntS_skip (by omega) (fun i h1 h2 => ?_) _
    have a1 : evT b n d / b ^ (levT b (evT b n d) d + 1) = d / b ^ (levT b (evT b n d) d + 1) := hj.1
    have a2 : evT b n d / b ^ i = d / b ^ i := by
      have e3 : i = (levT b (evT b n d) d + 1) + (i - (levT b (evT b n d) d + 1)) := by omega
      rw [e3, Nat.pow_add, ← Nat.div_div_eq_div_mul, ← Nat.div_div_eq_div_mul, a1]
    rw [← a2, ee]
    exact dig_mul hb h2
  rw [e2, Nat.add_right_comm, odd_add]
/-- where it fires, the side is the one at the last list -/
theorem side_last {b : Nat} {ws : List Bool} {s n d : Nat} (hb : 2 ≤ b) (h : n < d) (hs : s ≤ n) (he : evT b n d = d) : sideT b ws s d (levT b n d) = sideT b ws s d 0 := by
  have hm := lev_mono hb h hs
  have hsd := Nat.lt_of_le_of_lt hs h
  rw [side_cnt hb hsd hm, side_cnt hb hsd (Nat.zero_le _)]
  rw [cntS_skip (lo := 0) (lo' := levT b n d) (Nat.zero_le _) (fun i _ h2 => ?_) _]
  have ee := evT_is hb h
  rw [he] at ee
  rw [ee]
  have e4 : levT b n (d / b ^ levT b n d * b ^ levT b n d) = levT b n d := by rw [← ee]
  exact dig_mul hb h2
/-! ### the law's own wheel: cells -/
abbrev LCell := (Nat × Nat) × List Tm
def gv : List LCell → Nat × Nat → List Tm
  | [], _ => []
  | c :: cs, p => if c.1 = p then c.2 else gv cs p
def lput (cs : List LCell) (p : Nat × Nat) (l : List Tm) : List LCell := if p ∈ cs.map (·.1) then cs.map (fun c => if c.1 = p then (c.1, l) else c) else cs ++ [(p, l)]
def ldrop (cs : List LCell) (p : Nat × Nat) : List LCell := cs.filter fun c => decide (c.1 ≠ p)
theorem gv_none {p : Nat × Nat} : ∀ {cs : List LCell}, p ∉ cs.map (·.1) → gv cs p = []
  | [], _ => rfl
  | c :: cs, h => by
    rw [List.map_cons, List.mem_cons, not_or] at h
    show (if c.1 = p then c.2 else gv cs p) = []
    rw [if_neg fun z => h.1 z.symm]
    exact gv_none h.2
theorem gv_map {p q : Nat × Nat} {l : List Tm} : ∀ cs : List LCell, p ∈ cs.map (·.1) → gv (cs.map fun c => if c.1 = p then (c.1, l) else c) q = if p = q then l else gv cs q
  | [], h => by cases h
  | c :: cs, h => by
    rw [List.map_cons]
    by_cases e : c.1 = p
    · rw [if_pos e]
      by_cases e2 : p = q
      · rw [if_pos e2]
        show (if c.1 = q then l else _) = l
        rw [if_pos (e.trans e2)]
      · rw [if_neg e2]
        show (if c.1 = q then l else gv _ q) = if c.1 = q then c.2 else gv cs q
        rw [if_neg fun z => e2 (e.symm.trans z), if_neg fun z => e2 (e.symm.trans z)]
        by_cases hm : p ∈ cs.map (·.1)
        · rw [gv_map cs hm, if_neg e2]
        · have e3 : (cs.map fun c => if c.1 = p then (c.1, l) else c) = cs := by
            have z : ∀ c ∈ cs, (if c.1 = p then (c.1, l) else c) = c := fun c hc => if_neg fun y => hm (List.mem_map.mpr ⟨c, hc, y⟩)
            rw [List.map_congr_left (g := id) z, List.map_id]
          rw [e3]
    · rw [if_neg e]
      rw [List.map_cons, List.mem_cons] at h
      have hm := h.resolve_left fun z => e z.symm
      show (if c.1 = q then c.2 else gv _ q) = if p = q then l else (if c.1 = q then c.2 else gv cs q)
      rw [gv_map cs hm]
      by_cases e2 : c.1 = q
      · rw [if_pos e2, if_neg fun z => e (e2.trans z.symm), if_pos e2]
      · rw [if_neg e2, if_neg e2]
theorem gv_snoc {p q : Nat × Nat} {l : List Tm} : ∀ cs : List LCell, p ∉ cs.map (·.1) → gv (cs ++ [(p, l)]) q = if p = q then l else gv cs q
  | [], _ => rfl
  | c :: cs, h => by
    rw [List.map_cons, List.mem_cons, not_or] at h
    show (if c.1 = q then c.2 else gv (cs ++ [(p, l)]) q) = if p = q then l else (if c.1 = q then c.2 else gv cs q)
    rw [gv_snoc cs h.2]
    by_cases e : p = q
    · rw [if_pos e, if_pos e, if_neg fun z => h.1 (e.trans z.symm)]
    · rw [if_neg e, if_neg e]
theorem gv_put {cs : List LCell} {p q : Nat × Nat} {l : List Tm} : gv (lput cs p l) q = if p = q then l else gv cs q := by
  unfold lput
  split
  · rename_i h
    exact gv_map cs h
  · rename_i h
    exact gv_snoc cs h
theorem gv_drop {p q : Nat × Nat} : ∀ cs : List LCell, gv (ldrop cs p) q = if p = q then [] else gv cs q
  | [] => by
    show [] = if p = q then [] else []
    split <;> rfl
  | c :: cs => by
    have ih := gv_drop (p := p) (q := q) cs
    by_cases e : c.1 = p
    · have z : ldrop (c :: cs) p = ldrop cs p := List.filter_cons_of_neg (by simp [e])
      rw [z, ih]
      by_cases e2 : p = q
      · rw [if_pos e2, if_pos e2]
      · rw [if_neg e2, if_neg e2]
        show _ = if c.1 = q then c.2 else gv cs q
        rw [if_neg fun z => e2 (e.symm.trans z)]
    · have z : ldrop (c :: cs) p = c :: ldrop cs p := List.filter_cons_of_pos (by simp [e])
      rw [z]
      show (if c.1 = q then c.2 else gv (ldrop cs p) q) = if p = q then [] else (if c.1 = q then c.2 else gv cs q)
      rw [ih]
      by_cases e2 : p = q
      · rw [if_pos e2, if_pos e2, if_neg fun z => e (z.trans e2.symm)]
      · rw [if_neg e2, if_neg e2]
theorem lput_keys {cs : List LCell} {p : Nat × Nat} {l : List Tm} (nd : (cs.map (·.1)).Nodup) : ((lput cs p l).map (·.1)).Nodup := by
  unfold lput
  split
  · rw [List.map_map]
    have e : cs.map ((fun c : LCell => c.1) ∘ fun c => if c.1 = p then (c.1, l) else c) = cs.map (·.1) := List.map_congr_left fun c _ => by
      show (if c.1 = p then (c.1, l) else c).1 = c.1
      split <;> rfl
    rw [e]
    exact nd
  · rename_i h
    rw [List.map_append]
    exact L2.nd_snoc nd h
theorem lput_len (cs : List LCell) (p : Nat × Nat) (l : List Tm) : (lput cs p l).length ≤ cs.length + 1 := by
  unfold lput
  split
  · rw [List.length_map]
    omega
  · rw [List.length_append]
    exact Nat.le_refl _
theorem ldrop_keys {cs : List LCell} {p : Nat × Nat} (nd : (cs.map (·.1)).Nodup) : ((ldrop cs p).map (·.1)).Nodup := List.Nodup.sublist (List.Sublist.map _ List.filter_sublist) nd
theorem ldrop_len (cs : List LCell) (p : Nat × Nat) : (ldrop cs p).length ≤ cs.length := List.length_filter_le _ _
theorem gv_mem {cs : List LCell} (nd : (cs.map (·.1)).Nodup) {c : LCell} (h : c ∈ cs) : gv cs c.1 = c.2 := by
  induction cs with
  | nil => cases h
  | cons x cs ih =>
    rw [List.map_cons, List.nodup_cons] at nd
    show (if x.1 = c.1 then x.2 else gv cs c.1) = c.2
    rcases List.mem_cons.mp h with e | h
    · rw [e, if_pos rfl]
    · rw [if_neg fun z => nd.1 (List.mem_map.mpr ⟨c, h, z.symm⟩)]
      exact ih nd.2 h
/-- what the law's wheel does with one timer, and with all of a list -/
noncomputable def lplace (b : Nat) (ws : List Bool) (t : Nat) (cs : List LCell) (m : Tm) : List LCell := lput cs (placeT b t m.due) (insM (wordAt ws (placeT b t m.due).1) m (gv cs (placeT b t m.due)))
theorem gv_place {b : Nat} {ws : List Bool} {t : Nat} {cs : List LCell} {m : Tm} {p : Nat × Nat} : gv (lplace b ws t cs m) p = if placeT b t m.due = p then insM (wordAt ws p.1) m (gv cs p) else gv cs p := by
  unfold lplace
  rw [gv_put]
  split
  · rename_i e
    rw [e]
  · rfl
theorem gv_places {b : Nat} {ws : List Bool} {t : Nat} {p : Nat × Nat} : ∀ (l : List Tm) (cs : List LCell), gv (l.foldl (lplace b ws t) cs) p = (l.filter fun m => decide (placeT b t m.due = p)).foldl (fun a m => insM (wordAt ws p.1) m a) (gv cs p)
  | [], _ => rfl
  | m :: l, cs => by
    rw [List.foldl_cons, gv_places l, gv_place]
    by_cases e : placeT b t m.due = p
    · rw [if_pos e, List.filter_cons_of_pos (by simpa using e), List.foldl_cons]
    · rw [if_neg e, List.filter_cons_of_neg (by simpa using e)]
/-- the list p at the tick t, of the timers ms in the order in which they were set -/
noncomputable def stM (b : Nat) (ws : List Bool) (t : Nat) (ms : List Tm) (p : Nat × Nat) : List Tm := deq (fun m => sideT b ws m.since m.due p.1) (ms.filter fun m => decide (placeT b t m.due = p))
def againM (t : Nat) (m : Tm) : Option Tm := m.per.map fun k => ⟨m.num, t + k, some k, t⟩
structure IsZer (b e h : Nat) : Prop where
  low : e % b ^ h = 0
  dig : e / b ^ h % b ≠ 0
theorem zer_uniq {b e h h' : Nat} (z : IsZer b e h) (z' : IsZer b e h') : h = h' := by
  have main : ∀ {i j : Nat}, IsZer b e i → IsZer b e j → ¬ i < j := fun {i j} zi zj c => by
    refine zi.dig ?_
    have e1 : b ^ j = b ^ i * (b * b ^ (j - i - 1)) := by
      rw [← Nat.mul_assoc, ← Nat.pow_succ, ← Nat.pow_add]
      congr 1
      omega
    have e2 : b ^ j ∣ e := Nat.dvd_of_mod_eq_zero zj.low
    rw [e1] at e2
    obtain ⟨q, hq⟩ := e2
    have hp : 0 < b ^ i := by
      rcases Nat.eq_zero_or_pos (b ^ i) with c0 | c0
      · exfalso
        rw [c0, Nat.zero_mul, Nat.zero_mul] at hq
        refine zi.dig ?_
        rw [hq, Nat.zero_div, Nat.zero_mod]
      · exact c0
    rw [hq, Nat.mul_assoc, Nat.mul_div_cancel_left _ hp, Nat.mul_assoc, Nat.mul_mod_right]
  have a1 := main z z'
  have a2 := main z' z
  omega
/-- the key of the list that is emptied at e -/
def keyE (b e h : Nat) : Nat × Nat := (h, e / b ^ h % b)
noncomputable def lpass (b : Nat) (ws : List Bool) (e h : Nat) (cs : List LCell) : List LCell :=
  ((((gv cs (keyE b e h)).filter fun m => decide (m.due = e)).filterMap (againM e))).foldl (lplace b ws e) (((gv cs (keyE b e h)).filter fun m => decide (m.due ≠ e)).foldl (lplace b ws e) (ldrop cs (keyE b e h)))
section
variable {b e h n d : Nat}
theorem ev_key (hb : 2 ≤ b) (z : IsZer b e h) (hnd : n < d) (he : evT b n d = e) : placeT b n d = keyE b e h := by
  have hk := levT_is hb hnd
  have ee := evT_is hb hnd
  rw [he] at ee
  have hp := pow_pos' hb (levT b n d)
  have e1 : e / b ^ levT b n d = d / b ^ levT b n d := by
    rw [ee, Nat.mul_div_cancel _ hp]
  have dg := hk.digit hnd
  have z2 : IsZer b e (levT b n d) := ⟨by rw [ee]; exact Nat.mul_mod_left _ _, by rw [e1]; omega⟩
  unfold placeT keyE
  rw [zer_uniq z z2, e1]
theorem key_ev (hb : 2 ≤ b) (z : e % b ^ h = 0) (hnd : n < d) (hne : n < e) (hle : e ≤ evT b n d) (hk : placeT b n d = keyE b e h) : evT b n d = e := by
  have k1 : levT b n d = h := congrArg Prod.fst hk
  have k2 : d / b ^ levT b n d % b = e / b ^ h % b := congrArg Prod.snd hk
  have hl := levT_is hb hnd
  have ee := evT_is hb hnd
  have hed := Nat.le_trans hle (evT_le hb hnd)
  rw [k1] at k2 hl ee
  have a1 : n / b ^ (h + 1) ≤ e / b ^ (h + 1) := Nat.div_le_div_right (Nat.le_of_lt hne)
  have a2 : e / b ^ (h + 1) ≤ d / b ^ (h + 1) := Nat.div_le_div_right hed
  have a3 := hl.1
  have a4 : e / b ^ h / b = d / b ^ h / b := by
    rw [← div_succ, ← div_succ]
    omega
  have a5 := Nat.div_add_mod (e / b ^ h) b
  have a6 := Nat.div_add_mod (d / b ^ h) b
  have a7 : e / b ^ h = d / b ^ h := by
    rw [a4] at a5
    omega
  rw [ee, ← a7]
  exact Nat.div_mul_cancel (Nat.dvd_of_mod_eq_zero z)
theorem low_none (hb : 2 ≤ b) (z : e % b ^ h = 0) (hnd : n < d) (hne : n < e) (hle : e < evT b n d) : h ≤ levT b n d := by
  refine Nat.le_of_not_lt fun c => ?_
  obtain ⟨s1, s2⟩ := lev_stays hb hnd (Nat.le_of_lt hne) hle
  have k1 := levT_is hb hnd
  have k2 := levT_is hb s1
  rw [s2] at k2
  generalize levT b n d = j at c k1 k2
  have a1 : n / b ^ (j + 1) = e / b ^ (j + 1) := k1.1.trans k2.1.symm
  have hp := pow_pos' hb (j + 1)
  have dv : b ^ (j + 1) ∣ e := Nat.dvd_trans (Nat.pow_dvd_pow b (by omega)) (Nat.dvd_of_mod_eq_zero z)
  have a2 : e / b ^ (j + 1) * b ^ (j + 1) = e := Nat.div_mul_cancel dv
  have a3 : n / b ^ (j + 1) < e / b ^ (j + 1) := (Nat.div_lt_iff_lt_mul hp).mpr (by rw [a2]; exact hne)
  omega
theorem not_key (hb : 2 ≤ b) (hed : e < d) : placeT b e d ≠ keyE b e h := fun hk => by
  have k1 : levT b e d = h := congrArg Prod.fst hk
  have k2 : d / b ^ levT b e d % b = e / b ^ h % b := congrArg Prod.snd hk
  have dg := (levT_is hb hed).digit hed
  rw [k1] at k2 dg
  omega
end
/-- one tick at which a list may be emptied: the lists behind, and what fires -/
theorem lw_pass {b : Nat} {ws : List Bool} {t e h : Nat} {ms : List Tm} {cs : List LCell} (hb : 2 ≤ b) (z : IsZer b e h) (hte : t < e) (hms : ∀ m ∈ ms, m.since ≤ t ∧ t < m.due ∧ e ≤ evT b t m.due) (hcs : ∀ p, gv cs p = stM b ws t ms p) :
    (gv cs (keyE b e h)).filter (fun m => decide (m.due = e)) = deq (fun m => sideT b ws m.since m.due 0) (ms.filter fun m => decide (m.due = e)) ∧
    ∀ p, (∀ m ∈ ms, ∀ k, m.per = some k → 1 ≤ k) → gv (lpass b ws e h cs) p = stM b ws e (ms.filter (fun m => decide (m.due ≠ e)) ++ (deq (fun m => sideT b ws m.since m.due 0) (ms.filter fun m => decide (m.due = e))).filterMap (againM e)) p := by
  have ev : ∀ m ∈ ms, m.due = e → evT b t m.due = e := fun m hm hd => Nat.le_antisymm (by rw [← hd] at *; exact evT_le hb (hms m hm).2.1) (hms m hm).2.2
  -- who stands in the list that is emptied
  have hkey : ∀ m ∈ ms, placeT b t m.due = keyE b e h ↔ evT b t m.due = e := fun m hm => ⟨key_ev hb z.low (hms m hm).2.1 hte (hms m hm).2.2, ev_key hb z (hms m hm).2.1⟩
  have hF : (gv cs (keyE b e h)).filter (fun m => decide (m.due = e)) = deq (fun m => sideT b ws m.since m.due 0) (ms.filter fun m => decide (m.due = e)) := by
    rw [hcs]
    unfold stM
    rw [deq_filter, List.filter_filter]
    have e1 : ms.filter (fun m => decide (m.due = e) && decide (placeT b t m.due = keyE b e h)) = ms.filter fun m => decide (m.due = e) := List.filter_congr fun m hm => by
      by_cases c : m.due = e
      · rw [decide_eq_true c, decide_eq_true ((hkey m hm).mpr (ev m hm c))]
        rfl
      · rw [decide_eq_false c]
        rfl
    rw [e1]
    refine deq_congr fun m hm => ?_
    obtain ⟨hm, hd⟩ := List.mem_filter.mp hm
    have hd : m.due = e := of_decide_eq_true hd
    have hev := ev m hm hd
    have hk := (hkey m hm).mpr hev
    have k1 : levT b t m.due = h := congrArg Prod.fst hk
    show sideT b ws m.since m.due h = _
    rw [← k1]
    exact side_last hb (hms m hm).2.1 (hms m hm).1 (hev.trans hd.symm)
  refine ⟨hF, fun p hper => ?_⟩
  unfold lpass
  rw [gv_places, gv_places, gv_drop, hF]
  -- the timers that go on
  have hA : ((((gv cs (keyE b e h)).filter fun m => decide (m.due ≠ e)).filter fun m => decide (placeT b e m.due = p)).foldl (fun a m => insM (wordAt ws p.1) m a) (if keyE b e h = p then [] else gv cs p))
      = deq (fun m => sideT b ws m.since m.due p.1) ((ms.filter fun m => decide (m.due ≠ e)).filter fun m => decide (placeT b e m.due = p)) := by
    have hL : ((gv cs (keyE b e h)).filter fun m => decide (m.due ≠ e)).filter (fun m => decide (placeT b e m.due = p)) = deq (fun m => sideT b ws m.since m.due h) (ms.filter fun m => decide (placeT b t m.due = keyE b e h) && decide (m.due ≠ e) && decide (placeT b e m.due = p)) := by
      rw [hcs]
      unfold stM
      rw [deq_filter, deq_filter, List.filter_filter, List.filter_filter]
      congr 1
      exact List.filter_congr fun m _ => by
        cases decide (placeT b t m.due = keyE b e h) <;> cases decide (m.due ≠ e) <;> cases decide (placeT b e m.due = p) <;> rfl
    have lt_due : ∀ m ∈ ms, m.due ≠ e → e < m.due := fun m hm hd => by
      have := Nat.le_trans (hms m hm).2.2 (evT_le hb (hms m hm).2.1)
      omega
    have drops : ∀ m ∈ ms, m.due ≠ e → evT b t m.due = e → levT b e m.due < h := fun m hm hd hev => by
      have z1 := lev_drops hb (hms m hm).2.1 (by rw [hev]; exact lt_due m hm hd)
      have k1 : levT b t m.due = h := congrArg Prod.fst ((hkey m hm).mpr hev)
      rw [hev, k1] at z1
      exact z1
    have stays : ∀ m ∈ ms, evT b t m.due ≠ e → placeT b e m.due = placeT b t m.due ∧ h ≤ levT b t m.due := fun m hm hev => by
      have hlt : e < evT b t m.due := by
        have := (hms m hm).2.2
        omega
      refine ⟨?_, low_none hb z.low (hms m hm).2.1 hte hlt⟩
      unfold placeT
      rw [(lev_stays hb (hms m hm).2.1 (Nat.le_of_lt hte) hlt).2]
    rw [hL, List.filter_filter]
    by_cases c1 : keyE b e h = p
    · rw [if_pos c1]
      have n1 : ms.filter (fun m => decide (placeT b t m.due = keyE b e h) && decide (m.due ≠ e) && decide (placeT b e m.due = p)) = [] := List.filter_eq_nil_iff.mpr fun m hm x => by
        simp only [Bool.and_eq_true, decide_eq_true_eq] at x
        exact not_key hb (lt_due m hm x.1.2) (x.2.trans c1.symm)
      have n2 : ms.filter (fun m => decide (placeT b e m.due = p) && decide (m.due ≠ e)) = [] := List.filter_eq_nil_iff.mpr fun m hm x => by
        simp only [Bool.and_eq_true, decide_eq_true_eq] at x
        exact not_key hb (lt_due m hm x.2) (x.1.trans c1.symm)
      rw [n1, n2]
      rfl
    · rw [if_neg c1, hcs]
      by_cases c2 : p.1 < h
      · -- a lower list: it was empty, and takes what comes down
        have n1 : ms.filter (fun m => decide (placeT b t m.due = p)) = [] := List.filter_eq_nil_iff.mpr fun m hm x => by
          have x : placeT b t m.due = p := of_decide_eq_true x
          by_cases c3 : evT b t m.due = e
          · exact c1 (((hkey m hm).mpr c3).symm.trans x)
          · have y := (stays m hm c3).2
            have y2 : levT b t m.due = p.1 := congrArg Prod.fst x
            omega
        have n2 : stM b ws t ms p = [] := by
          unfold stM
          rw [n1]
          rfl
        rw [n2, ins_fold, deq_deq]
        have e1 : ms.filter (fun m => decide (placeT b t m.due = keyE b e h) && decide (m.due ≠ e) && decide (placeT b e m.due = p)) = ms.filter (fun m => decide (placeT b e m.due = p) && decide (m.due ≠ e)) := List.filter_congr fun m hm => by
          by_cases c4 : m.due ≠ e ∧ placeT b e m.due = p
          · have c3 : evT b t m.due = e := Classical.byContradiction fun no => by
              obtain ⟨y1, y2⟩ := stays m hm no
              have y3 : levT b e m.due = p.1 := congrArg Prod.fst c4.2
              have y4 : levT b e m.due = levT b t m.due := congrArg Prod.fst y1
              omega
            rw [decide_eq_true ((hkey m hm).mpr c3), decide_eq_true c4.1, decide_eq_true c4.2]
            rfl
          · by_cases c5 : m.due ≠ e
            · rw [decide_eq_false (fun x => c4 ⟨c5, x⟩), Bool.and_false, Bool.false_and]
            · rw [decide_eq_false c5, Bool.and_false, Bool.false_and, Bool.and_false]
        rw [e1]
        refine deq_congr fun m hm => ?_
        obtain ⟨hm, x⟩ := List.mem_filter.mp hm
        simp only [Bool.and_eq_true, decide_eq_true_eq] at x
        have c3 : evT b t m.due = e := Classical.byContradiction fun no => by
          obtain ⟨y1, y2⟩ := stays m hm no
          have y3 : levT b e m.due = p.1 := congrArg Prod.fst x.1
          have y4 : levT b e m.due = levT b t m.due := congrArg Prod.fst y1
          omega
        have k1 : levT b t m.due = h := congrArg Prod.fst ((hkey m hm).mpr c3)
        have k2 : levT b e m.due = p.1 := congrArg Prod.fst x.1
        have sd := side_drop (ws := ws) hb (hms m hm).2.1 (hms m hm).1 (by rw [c3]; exact lt_due m hm x.2)
        rw [c3, k1, k2] at sd
        exact sd.symm
      · -- another list: it stays
        have n1 : ms.filter (fun m => decide (placeT b t m.due = keyE b e h) && decide (m.due ≠ e) && decide (placeT b e m.due = p)) = [] := List.filter_eq_nil_iff.mpr fun m hm x => by
          simp only [Bool.and_eq_true, decide_eq_true_eq] at x
          have y := drops m hm x.1.2 ((hkey m hm).mp x.1.1)
          have y3 : levT b e m.due = p.1 := congrArg Prod.fst x.2
          omega
        rw [n1]
        show stM b ws t ms p = _
        unfold stM
        congr 1
        refine List.filter_congr fun m hm => ?_
        by_cases c3 : evT b t m.due = e
        · have x1 : ¬ placeT b t m.due = p := fun x => c1 (((hkey m hm).mpr c3).symm.trans x)
          rw [decide_eq_false x1]
          by_cases c5 : m.due ≠ e
          · have x2 : ¬ placeT b e m.due = p := fun x => by
              have y := drops m hm c5 c3
              have y3 : levT b e m.due = p.1 := congrArg Prod.fst x
              omega
            rw [decide_eq_false x2, Bool.false_and]
          · rw [decide_eq_false c5, Bool.and_false]
        · have c5 : m.due ≠ e := fun x => c3 (ev m hm x)
          rw [decide_eq_true c5, (stays m hm c3).1, Bool.and_true]
  rw [hA]
  have hB : ∀ m ∈ ((deq (fun m => sideT b ws m.since m.due 0) (ms.filter fun m => decide (m.due = e))).filterMap (againM e)).filter (fun m => decide (placeT b e m.due = p)), sideT b ws m.since m.due p.1 = wordAt ws p.1 := fun m hm => by
    obtain ⟨hm, x⟩ := List.mem_filter.mp hm
    have x : placeT b e m.due = p := of_decide_eq_true x
    obtain ⟨m0, h0, h1⟩ := List.mem_filterMap.mp hm
    have h0' := (List.mem_filter.mp (mem_deq.mp h0)).1
    unfold againM at h1
    cases ep : m0.per with
    | none =>
      rw [ep] at h1
      cases h1
    | some k =>
      rw [ep] at h1
      have h2 := (Option.some.inj h1).symm
      have hk := hper m0 h0' k ep
      subst h2
      have k2 : levT b e (e + k) = p.1 := congrArg Prod.fst x
      show sideT b ws e (e + k) p.1 = wordAt ws p.1
      rw [← k2]
      exact side_new hb (Nat.lt_add_of_pos_right hk)
  rw [ins_deq _ _ _ hB]
  unfold stM
  rw [List.filter_append]
/-- the order of firing, the lists, what is live behind it: as the program has them -/
theorem order_deq (b : Nat) (ws : List Bool) (t : Nat) (ms : List Tm) : orderAt b ws t ms = (deq (fun m => sideT b ws m.since m.due 0) (ms.filter fun m => decide (m.due = t))).map (·.num) := by
  suffices H : ∀ n : Nat, orderAt b ws t (ms.take n) = (deq (fun m => sideT b ws m.since m.due 0) ((ms.take n).filter fun m => decide (m.due = t))).map (·.num) by
    have z := H ms.length
    rw [List.take_length] at z
    exact z
  intro n
  induction n with
  | zero => rfl
  | succ n ih =>
    cases e : ms[n]? with
    | none =>
      have hl : ms.length ≤ n := List.getElem?_eq_none_iff.mp e
      rw [List.take_of_length_le (by omega)]
      rw [List.take_of_length_le hl] at ih
      exact ih
    | some m =>
      rw [List.take_add_one, e, Option.toList_some, order_snoc, List.filter_append]
      by_cases h : m.due = t
      · have e1 : [m].filter (fun m => decide (m.due = t)) = [m] := List.filter_cons_of_pos (by simpa using h)
        rw [if_pos h, e1, deq_snoc, ih]
        unfold insT insM
        cases sideT b ws m.since m.due 0 with
        | true => rfl
        | false =>
          show _ ++ [m.num] = List.map _ (_ ++ [m])
          rw [List.map_append]
          rfl
      · have e1 : [m].filter (fun m => decide (m.due = t)) = [] := List.filter_cons_of_neg (by simpa using h)
        rw [if_neg h, e1, List.append_nil, ih]
theorem cell_st {b : Nat} {ws : List Bool} {t : Nat} {ms : List Tm} {p : Nat × Nat} (hd : ∀ m ∈ ms, t < m.due) : cellV (standD b ws t ms) p = (stM b ws t ms p).map (·.num) := by
  suffices H : ∀ n : Nat, cellV (standD b ws t (ms.take n)) p = (stM b ws t (ms.take n) p).map (·.num) by
    have z := H ms.length
    rw [List.take_length] at z
    exact z
  intro n
  induction n with
  | zero => rfl
  | succ n ih =>
    cases e : ms[n]? with
    | none =>
      have hl : ms.length ≤ n := List.getElem?_eq_none_iff.mp e
      rw [List.take_of_length_le (by omega)]
      rw [List.take_of_length_le hl] at ih
      exact ih
    | some m =>
      rw [List.take_add_one, e, Option.toList_some, stand_snoc]
      unfold standStep
      rw [if_pos (hd m (List.mem_of_getElem? e)), cellV_put]
      unfold stM at ih ⊢
      rw [List.filter_append]
      by_cases h : placeT b t m.due = p
      · have e1 : [m].filter (fun m => decide (placeT b t m.due = p)) = [m] := List.filter_cons_of_pos (by simpa using h)
        rw [if_pos h, e1, deq_snoc, h, ih]
        have e2 : levT b t m.due = p.1 := congrArg Prod.fst h
        rw [e2]
        unfold insT insM
        cases sideT b ws m.since m.due p.1 with
        | true => rfl
        | false =>
          show _ ++ [m.num] = List.map _ (_ ++ [m])
          rw [List.map_append]
          rfl
      · have e1 : [m].filter (fun m => decide (placeT b t m.due = p)) = [] := List.filter_cons_of_neg (by simpa using h)
        rw [if_neg h, e1, List.append_nil, ih]
theorem find_one {ms : List Tm} {m : Tm} (nd : (ms.map (·.num)).Nodup) (h : m ∈ ms) : ms.find? (fun x => decide (x.num = m.num)) = some m := by
  induction ms with
  | nil => cases h
  | cons x ms ih =>
    rw [List.map_cons, List.nodup_cons] at nd
    rw [List.find?_cons]
    rcases List.mem_cons.mp h with e | h
    · rw [← e, decide_eq_true rfl]
    · have n : ¬ x.num = m.num := fun z => nd.1 (List.mem_map.mpr ⟨m, h, z.symm⟩)
      rw [decide_eq_false n]
      exact ih nd.2 h
/-- a new timer, or an old one set anew, at the end -/
theorem nodup_end {ms : List Tm} {m : Tm} (nd : (ms.map (·.num)).Nodup) (h : ∀ x ∈ ms, x.num ≠ m.num) : ((ms ++ [m]).map (·.num)).Nodup := by
  rw [List.map_append]
  refine L2.nd_snoc nd fun hm => ?_
  obtain ⟨x, hx, e⟩ := List.mem_map.mp hm
  exact h x hx e
/-- firing a list of timers, one after the other -/
theorem after_list {t : Nat} : ∀ (F ms : List Tm), (ms.map (·.num)).Nodup → (F.map (·.num)).Nodup → (∀ m ∈ F, m ∈ ms) → afterF t ms (F.map (·.num)) = ms.filter (fun m => decide (m.num ∉ F.map (·.num))) ++ F.filterMap (againM t)
  | [], ms, _, _, _ => by
    show ms = ms.filter _ ++ []
    rw [List.append_nil, List.filter_eq_self.mpr fun m _ => by simp]
  | m :: F, ms, nd, ndF, hF => by
    rw [List.map_cons, List.nodup_cons] at ndF
    have hm := hF m (List.mem_cons_self ..)
    have key : fireT t ms m.num = dropT m.num ms ++ (againM t m).toList := by
      unfold fireT
      rw [find_one nd hm]
      show (match m.per with | none => dropT m.num ms | some k => dropT m.num ms ++ [(⟨m.num, t + k, some k, t⟩ : Tm)]) = _
      unfold againM
      cases m.per with
      | none =>
        show dropT m.num ms = dropT m.num ms ++ []
        rw [List.append_nil]
      | some k => rfl
    show afterF t (fireT t ms m.num) (F.map (·.num)) = _
    have nd1 : ((fireT t ms m.num).map (·.num)).Nodup := by
      rw [key]
      have nd0 : ((dropT m.num ms).map (·.num)).Nodup := List.Nodup.sublist (List.Sublist.map _ List.filter_sublist) nd
      cases ea : againM t m with
      | none => simpa using nd0
      | some m' =>
        have en : m'.num = m.num := by
          unfold againM at ea
          cases ep : m.per with
          | none =>
            rw [ep] at ea
            cases ea
          | some k =>
            rw [ep] at ea
            rw [← Option.some.inj ea]
        refine nodup_end nd0 fun x hx => ?_
        rw [en]
        simpa using (List.mem_filter.mp hx).2
    have mem1 : ∀ x ∈ F, x ∈ fireT t ms m.num := fun x hx => by
      rw [key]
      refine List.mem_append_left _ (List.mem_filter.mpr ⟨hF x (List.mem_cons_of_mem _ hx), ?_⟩)
      have n : ¬ x.num = m.num := fun z => ndF.1 (List.mem_map.mpr ⟨x, hx, z⟩)
      simpa using n
    rw [after_list F _ nd1 ndF.2 mem1, key, List.filter_append]
    have e1 : ((againM t m).toList).filter (fun x => decide (x.num ∉ F.map (·.num))) = (againM t m).toList := List.filter_eq_self.mpr fun x hx => by
      cases ea : againM t m with
      | none =>
        rw [ea] at hx
        cases hx
      | some m' =>
        rw [ea] at hx
        have en : m'.num = m.num := by
          unfold againM at ea
          cases ep : m.per with
          | none =>
            rw [ep] at ea
            cases ea
          | some k =>
            rw [ep] at ea
            rw [← Option.some.inj ea]
        have ex : x = m' := List.mem_singleton.mp hx
        rw [ex, en]
        exact decide_eq_true ndF.1
    rw [e1]
    unfold dropT
    rw [List.filter_filter]
    have e2 : ms.filter (fun x => decide (x.num ∉ F.map (·.num)) && decide (x.num ≠ m.num)) = ms.filter fun x => decide (x.num ∉ (m :: F).map (·.num)) := List.filter_congr fun x _ => by
      rw [List.map_cons]
      by_cases c : x.num = m.num
      · have c1 : decide (x.num ≠ m.num) = false := decide_eq_false fun z => z c
        have c2 : decide (x.num ∉ m.num :: F.map (·.num)) = false := decide_eq_false fun z => z (by rw [c]; exact List.mem_cons_self ..)
        rw [c1, c2, Bool.and_false]
      · have c1 : decide (x.num ≠ m.num) = true := decide_eq_true c
        rw [c1, Bool.and_true]
        exact decide_eq_decide.mpr ⟨fun z y => (List.mem_cons.mp y).elim c z, fun z y => z (List.mem_cons_of_mem _ y)⟩
    rw [e2, List.append_assoc]
    congr 1
    cases ea : againM t m with
    | none => rw [List.filterMap_cons_none ea]; rfl
    | some m' => rw [List.filterMap_cons_some ea]; rfl
theorem after_due {b : Nat} {ws : List Bool} {t : Nat} {ms : List Tm} (nd : (ms.map (·.num)).Nodup) : afterF t ms (orderAt b ws t ms) = ms.filter (fun m => decide (m.due ≠ t)) ++ (deq (fun m => sideT b ws m.since m.due 0) (ms.filter fun m => decide (m.due = t))).filterMap (againM t) := by
  rw [order_deq, after_list _ ms nd]
  · congr 1
    refine List.filter_congr fun m hm => ?_
    by_cases c : m.due = t
    · have c1 : decide (m.due ≠ t) = false := decide_eq_false fun z => z c
      rw [c1]
      exact decide_eq_false fun z => z (List.mem_map.mpr ⟨m, mem_deq.mpr (List.mem_filter.mpr ⟨hm, decide_eq_true c⟩), rfl⟩)
    · have c1 : decide (m.due ≠ t) = true := decide_eq_true c
      rw [c1]
      refine decide_eq_true ?_
      intro z
      obtain ⟨x, hx, e⟩ := List.mem_map.mp z
      obtain ⟨h1, h2⟩ := List.mem_filter.mp (mem_deq.mp hx)
      have f1 := find_one nd h1
      have f2 := find_one nd hm
      rw [e, f2] at f1
      have e3 : m = x := Option.some.inj f1
      rw [e3] at c
      exact c (of_decide_eq_true h2)
  · rw [List.Perm.nodup_iff ((deq_perm _ _).map _)]
    exact List.Nodup.sublist (List.Sublist.map _ List.filter_sublist) nd
  · exact fun m hm => (List.mem_filter.mp (mem_deq.mp hm)).1
/-! ### timers that fire again -/
theorem again_of {t : Nat} {m m' : Tm} (h : againM t m = some m') : ∃ k, m.per = some k ∧ m' = ⟨m.num, t + k, some k, t⟩ := by
  unfold againM at h
  cases ep : m.per with
  | none =>
    rw [ep] at h
    cases h
  | some k =>
    rw [ep] at h
    exact ⟨k, rfl, (Option.some.inj h).symm⟩
theorem fireN_nodup {t n : Nat} {ms : List Tm} (nd : (ms.map (·.num)).Nodup) : ((fireT t ms n).map (·.num)).Nodup := by
  have nd0 : ((dropT n ms).map (·.num)).Nodup := List.Nodup.sublist (List.Sublist.map _ List.filter_sublist) nd
  unfold fireT
  split
  · exact nd
  · split
    · exact nd0
    · exact nodup_end nd0 fun x hx => by simpa using (List.mem_filter.mp hx).2
theorem nodup_le {α : Type} [DecidableEq α] : ∀ (l l' : List α), l.Nodup → (∀ x ∈ l, x ∈ l') → l.length ≤ l'.length
  | [], _, _, _ => Nat.zero_le _
  | a :: l, l', nd, h => by
    rw [List.nodup_cons] at nd
    have ha := h a (List.mem_cons_self ..)
    have ih := nodup_le l (l'.erase a) nd.2 fun x hx => (List.mem_erase_of_ne fun e => nd.1 (by rw [← e]; exact hx)).mpr (h x (List.mem_cons_of_mem _ hx))
    rw [List.length_erase_of_mem ha] at ih
    have := List.length_pos_of_mem ha
    rw [List.length_cons]
    omega
/-! ### timers taken out, and fired -/
def DuesOk (ms : List Tm) : Prop := ∀ m ∈ ms, m.since < m.due ∧ m.due < 2 ^ 250
theorem order_few (b : Nat) (ws : List Bool) (t : Nat) (ms : List Tm) : (orderAt b ws t ms).length ≤ ms.length := by
  rw [order_len]
  exact List.length_filter_le _ _
/-- the timers that fire stand in the list, each once -/
structure Firing (t : Nat) (ms : List Tm) (ns : List Nat) : Prop where
  nd : ns.Nodup
  mem : ∀ n ∈ ns, ∃ m ∈ ms, m.num = n
theorem drop_mem {n : Nat} {ms : List Tm} {m : Tm} (h : m ∈ ms) (hn : m.num ≠ n) : m ∈ dropT n ms := List.mem_filter.mpr ⟨h, by simpa using hn⟩
theorem drop_len_lt {n : Nat} {ms : List Tm} (h : ∃ m ∈ ms, m.num = n) : (dropT n ms).length < ms.length := by
  obtain ⟨m, hm, e⟩ := h
  unfold dropT
  exact List.length_filter_lt_length_iff_exists.mpr ⟨m, hm, by simp [e]⟩
theorem fire_some {t n : Nat} {ms : List Tm} {m : Tm} (h : ms.find? (fun x => decide (x.num = n)) = some m) : fireT t ms n = match m.per with
    | none => dropT n ms
    | some k => dropT n ms ++ [⟨n, t + k, some k, t⟩] := by
  unfold fireT
  rw [h]
  try rfl
theorem drop_nodup {n : Nat} {ms : List Tm} (nd : (ms.map (·.num)).Nodup) : ((dropT n ms).map (·.num)).Nodup := by
  unfold dropT
  exact nd.sublist (List.Sublist.map _ List.filter_sublist)
theorem drop_not {n : Nat} {ms : List Tm} : ∀ m ∈ dropT n ms, m.num ≠ n := fun m hm => by simpa using (List.mem_filter.mp hm).2
theorem fire_nodup {t n : Nat} {ms : List Tm} (nd : (ms.map (·.num)).Nodup) : ((fireT t ms n).map (·.num)).Nodup := by
  unfold fireT
  split
  · exact nd
  · split
    · exact drop_nodup nd
    · rw [List.map_append]
      refine nd_snoc (drop_nodup nd) fun h => ?_
      obtain ⟨m, hm, e⟩ := List.mem_map.mp h
      exact drop_not m hm e
theorem fire_num {t n x : Nat} {ms : List Tm} (hx : x ≠ n) (h : ∃ m ∈ ms, m.num = x) : ∃ m ∈ fireT t ms n, m.num = x := by
  obtain ⟨m, hm, e⟩ := h
  unfold fireT
  split
  · exact ⟨m, hm, e⟩
  · split
    · exact ⟨m, drop_mem hm (by omega), e⟩
    · exact ⟨m, List.mem_append_left _ (drop_mem hm (by omega)), e⟩
theorem fire_len {t n : Nat} {ms : List Tm} : (fireT t ms n).length ≤ ms.length := by
  unfold fireT
  split
  · exact Nat.le_refl _
  · rename_i m hf
    have hm := List.mem_of_find?_eq_some hf
    have e : m.num = n := by simpa using List.find?_some hf
    have z := drop_len_lt (n := n) ⟨m, hm, e⟩
    split
    · omega
    · rw [List.length_append]
      show (dropT n ms).length + 1 ≤ _
      omega
/-! ### advancing in parts -/
theorem AdvTo.trans {b : Nat} {ws : List Bool} {s t : Nat} (hst : s ≤ t) {ms ms' ms'' : List Tm} {f f' : List (Nat × List Nat)} (h : AdvTo b ws s ms f ms') (h' : AdvTo b ws t ms' f' ms'') : AdvTo b ws t ms (f ++ f') ms'' := by
  induction h with
  | done _ => exact h'
  | step h1 h2 ok nd few _ ih => exact .step h1 (Nat.le_trans h2 hst) ok nd few (ih h')
theorem AdvTo.uniq {b : Nat} {ws : List Bool} {t : Nat} {ms ms' ms'' : List Tm} {f f' : List (Nat × List Nat)} (h : AdvTo b ws t ms f ms') (h' : AdvTo b ws t ms f' ms'') : f = f' ∧ ms' = ms'' := by
  induction h generalizing f' with
  | done hd =>
    cases h' with
    | done _ => exact ⟨rfl, rfl⟩
    | step h1 h2 _ _ _ _ =>
      obtain ⟨m, hm, e⟩ := List.mem_map.mp (least_some.mp h1).1
      have z := hd m hm
      omega
  | step h1 h2 ok nd few r ih =>
    cases h' with
    | done hd =>
      obtain ⟨m, hm, e⟩ := List.mem_map.mp (least_some.mp h1).1
      have z := hd m hm
      omega
    | step k1 k2 _ _ _ r' =>
      have e := Option.some.inj (h1.symm.trans k1)
      subst e
      obtain ⟨e1, e2⟩ := ih r'
      exact ⟨by rw [e1], e2⟩
/-- advancing to the tick ahead of all due ticks changes nothing -/
theorem AdvTo.none_due {b : Nat} {ws : List Bool} {t : Nat} {ms ms' : List Tm} {f : List (Nat × List Nat)} (h : AdvTo b ws t ms f ms') (hd : ∀ m ∈ ms, t < m.due) : f = [] ∧ ms' = ms := by
  obtain ⟨e1, e2⟩ := h.uniq (.done hd)
  exact ⟨e1, e2⟩
/-- in two parts or in one -/
theorem AdvTo.parts {b : Nat} {ws : List Bool} {s t : Nat} (hst : s ≤ t) {ms ms1 ms2 ms3 : List Tm} {f1 f2 f3 : List (Nat × List Nat)} (h1 : AdvTo b ws s ms f1 ms1) (h2 : AdvTo b ws t ms1 f2 ms2) (h3 : AdvTo b ws t ms f3 ms3) : f3 = f1 ++ f2 ∧ ms3 = ms2 := h3.uniq (h1.trans hst h2)
/-! ### parts of a list put together again -/
theorem min_perm2 {l m : List Nat} (h : l.Perm m) : l.min? = m.min? := by
  cases e : m.min? with
  | none =>
    rw [List.min?_eq_none_iff] at e ⊢
    rw [e] at h
    exact h.eq_nil
  | some x =>
    rw [List.min?_eq_some_iff] at e ⊢
    exact ⟨h.mem_iff.mpr e.1, fun y hy => e.2 y (h.mem_iff.mp hy)⟩
theorem parts_perm {α β : Type} [DecidableEq β] (f : α → β) : ∀ (ks : List β) (l : List α), ks.Nodup → (∀ m ∈ l, f m ∈ ks) → (ks.flatMap fun p => l.filter fun m => decide (f m = p)).Perm l
  | [], [], _, _ => List.Perm.refl _
  | [], m :: _, _, h => by cases h m (List.mem_cons_self ..)
  | k :: ks, l, nd, h => by
    rw [List.nodup_cons] at nd
    rw [List.flatMap_cons]
    have ih := parts_perm f ks (l.filter fun m => !decide (f m = k)) nd.2 fun m hm => by
      obtain ⟨h1, h2⟩ := List.mem_filter.mp hm
      rcases List.mem_cons.mp (h m h1) with e | e
      · rw [decide_eq_true e] at h2
        cases h2
      · exact e
    have e : (ks.flatMap fun p => l.filter fun m => decide (f m = p)) = ks.flatMap fun p => (l.filter fun m => !decide (f m = k)).filter fun m => decide (f m = p) := by
      have z : ∀ (qs : List β), (∀ p ∈ qs, p ≠ k) → (qs.flatMap fun p => l.filter fun m => decide (f m = p)) = qs.flatMap fun p => (l.filter fun m => !decide (f m = k)).filter fun m => decide (f m = p) := by
        intro qs
        induction qs with
        | nil => exact fun _ => rfl
        | cons p qs ih =>
          intro hq
          rw [List.flatMap_cons, List.flatMap_cons, ih fun x hx => hq x (List.mem_cons_of_mem _ hx), List.filter_filter]
          congr 1
          refine List.filter_congr fun m _ => ?_
          have hp := hq p (List.mem_cons_self ..)
          by_cases c : f m = p
          · have c2 : ¬ f m = k := fun y => hp (c.symm.trans y)
            simp [c, hp]
          · simp [c]
      exact z ks fun p hp y => nd.1 (by rw [← y]; exact hp)
    rw [e]
    exact (List.Perm.append_left _ ih).trans (List.filter_append_perm _ _)
theorem flat_perm {α β : Type} {f g : α → List β} : ∀ (ks : List α), (∀ k ∈ ks, (f k).Perm (g k)) → (ks.flatMap f).Perm (ks.flatMap g)
  | [], _ => List.Perm.refl _
  | k :: ks, h => by
    rw [List.flatMap_cons, List.flatMap_cons]
    exact (h k (List.mem_cons_self ..)).append (flat_perm ks fun x hx => h x (List.mem_cons_of_mem _ hx))
/-! ### a wheel made anew from its lists -/
theorem cntS_split {ws : List Bool} {b d k : Nat} : ∀ L, k ≤ L → cntS ws b d 0 L = cntS ws b d k L + cntS ws b d 0 k
  | 0, h => by
    have e : k = 0 := by omega
    rw [e, cntS_high 0 (Nat.le_refl _)]
  | L + 1, h => by
    by_cases e : k = L + 1
    · rw [e, cntS_high (L + 1) (Nat.le_refl _), Nat.zero_add]
    · rw [cntS_succ, cntS_succ, cntS_split (k := k) L (by omega)]
      have e2 : (if d / b ^ L % b ≠ 0 ∧ 0 ≤ L ∧ wordAt ws L = true then 1 else 0) = if d / b ^ L % b ≠ 0 ∧ k ≤ L ∧ wordAt ws L = true then 1 else 0 := by
        by_cases c : d / b ^ L % b ≠ 0 ∧ wordAt ws L = true
        · rw [if_pos ⟨c.1, Nat.zero_le _, c.2⟩, if_pos ⟨c.1, by omega, c.2⟩]
        · rw [if_neg fun z => c ⟨z.1, z.2.2⟩, if_neg fun z => c ⟨z.1, z.2.2⟩]
      rw [e2]
      omega
/-- how often the stacks below a level turn a timer about -/
def turnB (ws : List Bool) (b d k : Nat) : Bool := decide (cntS ws b d 0 k % 2 = 1)
theorem side_turn {b : Nat} {ws : List Bool} {s t d : Nat} (hb : 2 ≤ b) (h : t < d) (hs : s ≤ t) : sideT b ws s d 0 = Bool.xor (sideT b ws s d (levT b t d)) (turnB ws b d (levT b t d)) := by
  have hsd : s < d := Nat.lt_of_le_of_lt hs h
  have hl := lev_mono hb h hs
  rw [side_cnt hb hsd (Nat.zero_le _), side_cnt hb hsd hl, cntS_split _ hl]
  unfold turnB
  generalize cntS ws b d (levT b t d) (levT b s d) = x
  generalize cntS ws b d 0 (levT b t d) = y
  generalize (if wordAt ws (levT b s d) = true then 1 else 0) = z
  by_cases c1 : (x + z) % 2 = 1 <;> by_cases c2 : y % 2 = 1
  · rw [decide_eq_true c1, decide_eq_true c2, decide_eq_false (by omega)]
    rfl
  · rw [decide_eq_true c1, decide_eq_false c2, decide_eq_true (by omega)]
    rfl
  · rw [decide_eq_false c1, decide_eq_true c2, decide_eq_true (by omega)]
    rfl
  · rw [decide_eq_false c1, decide_eq_false c2, decide_eq_false (by omega)]
    rfl
theorem deq_const (c : Bool) (l : List Tm) : deq (fun _ => c) l = if c then l.reverse else l := by
  cases c with
  | true => exact deq_true l
  | false => exact deq_false l
/-- the order of firing, by the list in which the timers stand -/
theorem order_list {b : Nat} {ws : List Bool} {t d : Nat} {ms : List Tm} (hb : 2 ≤ b) (h : t < d) (hs : ∀ m ∈ ms, m.since ≤ t) : orderAt b ws d ms = (deq (fun _ => turnB ws b d (levT b t d)) ((stM b ws t ms (placeT b t d)).filter fun m => decide (m.due = d))).map (·.num) := by
  rw [order_deq]
  congr 1
  unfold stM
  rw [deq_filter, List.filter_filter]
  have e1 : ms.filter (fun m => decide (m.due = d) && decide (placeT b t m.due = placeT b t d)) = ms.filter fun m => decide (m.due = d) := List.filter_congr fun m _ => by
    by_cases c : m.due = d
    · simp [c]
    · simp [c]
  rw [e1, deq_deq]
  refine deq_congr fun m hm => ?_
  obtain ⟨h1, h2⟩ := List.mem_filter.mp hm
  have h2' := of_decide_eq_true h2
  rw [h2']
  show sideT b ws m.since d 0 = Bool.xor (sideT b ws m.since d (placeT b t d).1) _
  exact side_turn hb h (hs m h1)
/-- timers told anew: other numbers, set now -/
def renT (by_ : Nat → Nat) (t : Nat) (m : Tm) : Tm := ⟨by_ m.num, m.due, none, t⟩
theorem deq_map (c : Bool) (g : Tm → Tm) (l : List Tm) : deq (fun _ => c) (l.map g) = (deq (fun _ => c) l).map g := by
  rw [deq_const, deq_const]
  cases c with
  | true =>
    show (l.map g).reverse = l.reverse.map g
    rw [List.map_reverse]
  | false => rfl
/-- the order in which the timers are told: list by list -/
noncomputable def toldT (b : Nat) (ws : List Bool) (t : Nat) (ms : List Tm) (ks : List (Nat × Nat)) : List Tm := ks.flatMap fun k => deq (fun _ => wordAt ws k.1) (stM b ws t ms k)
theorem told_part {b : Nat} {ws : List Bool} {t : Nat} {ms : List Tm} (p : Nat × Nat) : ∀ ks : List (Nat × Nat), ks.Nodup → (toldT b ws t ms ks).filter (fun m => decide (placeT b t m.due = p)) = if p ∈ ks then deq (fun _ => wordAt ws p.1) (stM b ws t ms p) else []
  | [], _ => rfl
  | k :: ks, nd => by
    rw [List.nodup_cons] at nd
    unfold toldT
    rw [List.flatMap_cons, List.filter_append]
    have ih := told_part (b := b) (ws := ws) (t := t) (ms := ms) p ks nd.2
    unfold toldT at ih
    rw [ih]
    have hk : ∀ m ∈ deq (fun _ => wordAt ws k.1) (stM b ws t ms k), placeT b t m.due = k := fun m hm => of_decide_eq_true (List.mem_filter.mp (mem_deq.mp (mem_deq.mp hm))).2
    by_cases c : k = p
    · subst c
      rw [List.filter_eq_self.mpr fun m hm => decide_eq_true (hk m hm), if_neg nd.1, if_pos (List.mem_cons_self ..), List.append_nil]
    · rw [List.filter_eq_nil_iff.mpr fun m hm => by
        rw [hk m hm]
        simpa using c, List.nil_append]
      by_cases c2 : p ∈ ks
      · rw [if_pos c2, if_pos (List.mem_cons_of_mem _ c2)]
      · rw [if_neg c2, if_neg fun z => (List.mem_cons.mp z).elim (fun e => c e.symm) c2]
theorem told_perm {b : Nat} {ws : List Bool} {t : Nat} {ms : List Tm} {ks : List (Nat × Nat)} (nd : ks.Nodup) (hk : ∀ m ∈ ms, placeT b t m.due ∈ ks) : (toldT b ws t ms ks).Perm ms := by
  unfold toldT
  refine (flat_perm ks fun k _ => ?_).trans (parts_perm (fun m : Tm => placeT b t m.due) ks ms nd hk)
  exact (deq_perm _ _).trans (deq_perm _ _)
/-- the lists of the wheel made anew -/
theorem told_lists {b : Nat} {ws : List Bool} {t : Nat} {ms : List Tm} {ks : List (Nat × Nat)} {by_ : Nat → Nat} (hb : 2 ≤ b) (nd : ks.Nodup) (hd : ∀ m ∈ ms, t < m.due) (hk : ∀ m ∈ ms, placeT b t m.due ∈ ks) (p : Nat × Nat) :
    stM b ws t ((toldT b ws t ms ks).map (renT by_ t)) p = (stM b ws t ms p).map (renT by_ t) := by
  have e1 : ((toldT b ws t ms ks).map (renT by_ t)).filter (fun m => decide (placeT b t m.due = p)) = ((toldT b ws t ms ks).filter fun m => decide (placeT b t m.due = p)).map (renT by_ t) := by
    rw [List.filter_map]
    rfl
  have e2 : stM b ws t ((toldT b ws t ms ks).map (renT by_ t)) p = deq (fun _ => wordAt ws p.1) (((toldT b ws t ms ks).filter fun m => decide (placeT b t m.due = p)).map (renT by_ t)) := by
    unfold stM
    rw [e1]
    refine deq_congr fun m hm => ?_
    obtain ⟨m0, hm0, rfl⟩ := List.mem_map.mp hm
    obtain ⟨h1, h2⟩ := List.mem_filter.mp hm0
    have h3 : placeT b t m0.due = p := of_decide_eq_true h2
    have h4 := hd m0 ((told_perm nd hk).mem_iff.mp h1)
    rw [← h3]
    exact side_new hb h4
  rw [e2, told_part p ks nd]
  by_cases c : p ∈ ks
  · rw [if_pos c, deq_map, deq_const, deq_const]
    cases wordAt ws p.1 with
    | true =>
      show ((stM b ws t ms p).reverse.reverse).map _ = _
      rw [List.reverse_reverse]
    | false => rfl
  · rw [if_neg c]
    have e3 : stM b ws t ms p = [] := by
      unfold stM
      rw [List.filter_eq_nil_iff.mpr fun m hm z => c (by rw [← of_decide_eq_true z]; exact hk m hm)]
      rfl
    rw [e3, deq_const]
    cases wordAt ws p.1 <;> rfl
/-- two wheels of which one is the other one told anew -/
structure Twin (b : Nat) (ws : List Bool) (by_ : Nat → Nat) (ms os : List Tm) : Prop where
  dues : (os.map (·.due)).Perm (ms.map (·.due))
  ord : ∀ d, orderAt b ws d os = (orderAt b ws d ms).map by_
  p1 : ∀ m ∈ ms, m.per = none
  p2 : ∀ m ∈ os, m.per = none
theorem twin_made {b : Nat} {ws : List Bool} {t : Nat} {ms : List Tm} {ks : List (Nat × Nat)} {by_ : Nat → Nat} (hb : 2 ≤ b) (nd : ks.Nodup) (hd : ∀ m ∈ ms, t < m.due ∧ m.since ≤ t ∧ m.per = none) (hk : ∀ m ∈ ms, placeT b t m.due ∈ ks) : Twin b ws by_ ms ((toldT b ws t ms ks).map (renT by_ t)) := by
  refine ⟨?_, fun d => ?_, fun m hm => (hd m hm).2.2, fun m hm => ?_⟩
  · rw [List.map_map]
    exact (told_perm nd hk).map _
  · by_cases h : t < d
    · rw [order_list hb h (fun m hm => (hd m hm).2.1), order_list (t := t) hb h (fun m hm => ?_), told_lists hb nd (fun m hm => (hd m hm).1) hk]
      · have e1 : ((stM b ws t ms (placeT b t d)).map (renT by_ t)).filter (fun m => decide (m.due = d)) = ((stM b ws t ms (placeT b t d)).filter fun m => decide (m.due = d)).map (renT by_ t) := by
          rw [List.filter_map]
          rfl
        rw [e1, deq_map, List.map_map, List.map_map]
        rfl
      · obtain ⟨m0, _, rfl⟩ := List.mem_map.mp hm
        exact Nat.le_refl _
    · have z : ∀ l : List Tm, (∀ m ∈ l, t < m.due) → orderAt b ws d l = [] := fun l hl => List.eq_nil_iff_forall_not_mem.mpr fun x hx => by
        obtain ⟨m, h1, h2, _⟩ := order_mem.mp hx
        have := hl m h1
        omega
      rw [z ms fun m hm => (hd m hm).1, z _ fun m hm => ?_]
      · rfl
      · obtain ⟨m0, h0, rfl⟩ := List.mem_map.mp hm
        exact (hd m0 ((told_perm nd hk).mem_iff.mp h0)).1
  · obtain ⟨m0, _, rfl⟩ := List.mem_map.mp hm
    rfl
theorem after_np {b : Nat} {ws : List Bool} {v : Nat} {ms : List Tm} (nd : (ms.map (·.num)).Nodup) (hp : ∀ m ∈ ms, m.per = none) : afterF v ms (orderAt b ws v ms) = ms.filter fun m => decide (m.due ≠ v) := by
  rw [after_due nd]
  have e : (deq (fun m => sideT b ws m.since m.due 0) (ms.filter fun m => decide (m.due = v))).filterMap (againM v) = [] := by
    rw [List.filterMap_eq_nil_iff]
    intro m hm
    unfold againM
    rw [hp m (List.mem_filter.mp (mem_deq.mp hm)).1]
    rfl
  rw [e, List.append_nil]
theorem order_ne {b : Nat} {ws : List Bool} {v d : Nat} {ms : List Tm} : orderAt b ws d (ms.filter fun m => decide (m.due ≠ v)) = if d = v then [] else orderAt b ws d ms := by
  rw [order_deq, order_deq, List.filter_filter]
  by_cases c : d = v
  · rw [if_pos c]
    have e : ms.filter (fun m => decide (m.due = d) && decide (m.due ≠ v)) = [] := List.filter_eq_nil_iff.mpr fun m _ => by
      simp [c]
    rw [e]
    rfl
  · rw [if_neg c]
    congr 2
    refine List.filter_congr fun m _ => ?_
    by_cases c2 : m.due = d
    · simp [c2, c]
    · simp [c2]
theorem Twin.cut {b : Nat} {ws : List Bool} {by_ : Nat → Nat} {ms os : List Tm} (T : Twin b ws by_ ms os) (v : Nat) : Twin b ws by_ (ms.filter fun m => decide (m.due ≠ v)) (os.filter fun m => decide (m.due ≠ v)) := by
  refine ⟨?_, fun d => ?_, fun m hm => T.p1 m (List.mem_filter.mp hm).1, fun m hm => T.p2 m (List.mem_filter.mp hm).1⟩
  · have e : ∀ l : List Tm, (l.filter fun m => decide (m.due ≠ v)).map (·.due) = (l.map (·.due)).filter fun x => decide (x ≠ v) := fun l => by
      rw [List.filter_map]
      rfl
    rw [e, e]
    exact T.dues.filter _
  · rw [order_ne, order_ne]
    by_cases c : d = v
    · rw [if_pos c, if_pos c]
      rfl
    · rw [if_neg c, if_neg c]
      exact T.ord d
theorem twin_adv {b : Nat} {ws : List Bool} {t : Nat} {by_ : Nat → Nat} {ms ms' os os' : List Tm} {f f' : List (Nat × List Nat)} (T : Twin b ws by_ ms os) (h : AdvTo b ws t ms f ms') (h' : AdvTo b ws t os f' os') : f' = f.map (fun r => (r.1, r.2.map by_)) ∧ Twin b ws by_ ms' os' := by
  have lst : ∀ {ms os : List Tm}, Twin b ws by_ ms os → leastD os = leastD ms := fun T => min_perm2 T.dues
  induction h generalizing os f' with
  | done hd =>
    cases h' with
    | done _ => exact ⟨rfl, T⟩
    | step h1 h2 _ _ _ _ =>
      rw [lst T] at h1
      obtain ⟨m, hm, e⟩ := List.mem_map.mp (least_some.mp h1).1
      have z := hd m hm
      omega
  | @step ms ms' at_ rest h1 h2 ok nd few r ih =>
    cases h' with
    | done hd =>
      rw [← lst T] at h1
      obtain ⟨m, hm, e⟩ := List.mem_map.mp (least_some.mp h1).1
      have z := hd m hm
      omega
    | step k1 k2 ok2 nd2 few2 r' =>
      rw [lst T] at k1
      have e := Option.some.inj (h1.symm.trans k1)
      subst e
      rw [after_np nd T.p1] at r ih
      rw [after_np nd2 T.p2] at r'
      obtain ⟨e1, e2⟩ := ih (T.cut at_) r'
      refine ⟨?_, e2⟩
      rw [e1, T.ord at_]
      rfl
def topS (i : Nat) : Stmt := PySem.Challenge.pw_timerdeque_k09_equal_wheels.main.body.getD i (.Pass ⟨0, 0, 0, 0⟩)
abbrev s__wall : Stmt := topS 0
abbrev N__wall : List Str := ["k"]
theorem sc__wall : FnScope N__wall ["k"] (defScope s__wall) := by
  refine ⟨rfl, rfl, rfl, ?_, rfl, ?_, ?_⟩ <;> decide +kernel
abbrev s_is_integer : Stmt := topS 13
abbrev N_is_integer : List Str := ["given"]
theorem sc_is_integer : FnScope N_is_integer ["given"] (defScope s_is_integer) := by
  refine ⟨rfl, rfl, rfl, ?_, rfl, ?_, ?_⟩ <;> decide +kernel
abbrev s_is_word : Stmt := topS 14
abbrev N_is_word : List Str := ["given"]
theorem sc_is_word : FnScope N_is_word ["given"] (defScope s_is_word) := by
  refine ⟨rfl, rfl, rfl, ?_, rfl, ?_, ?_⟩ <;> decide +kernel
abbrev s_is_base : Stmt := topS 15
abbrev N_is_base : List Str := ["given"]
theorem sc_is_base : FnScope N_is_base ["given"] (defScope s_is_base) := by
  refine ⟨rfl, rfl, rfl, ?_, rfl, ?_, ?_⟩ <;> decide +kernel
abbrev s_is_length : Stmt := topS 16
abbrev N_is_length : List Str := ["given"]
theorem sc_is_length : FnScope N_is_length ["given"] (defScope s_is_length) := by
  refine ⟨rfl, rfl, rfl, ?_, rfl, ?_, ?_⟩ <;> decide +kernel
abbrev s_are_levels : Stmt := topS 17
abbrev N_are_levels : List Str := ["given", "word"]
theorem sc_are_levels : FnScope N_are_levels ["given"] (defScope s_are_levels) := by
  refine ⟨rfl, rfl, rfl, ?_, rfl, ?_, ?_⟩ <;> decide +kernel
abbrev s_is_tick : Stmt := topS 18
abbrev N_is_tick : List Str := ["given", "least"]
theorem sc_is_tick : FnScope N_is_tick ["given", "least"] (defScope s_is_tick) := by
  refine ⟨rfl, rfl, rfl, ?_, rfl, ?_, ?_⟩ <;> decide +kernel
abbrev s_is_period : Stmt := topS 19
abbrev N_is_period : List Str := ["given"]
theorem sc_is_period : FnScope N_is_period ["given"] (defScope s_is_period) := by
  refine ⟨rfl, rfl, rfl, ?_, rfl, ?_, ?_⟩ <;> decide +kernel
abbrev s_check_base : Stmt := topS 20
abbrev N_check_base : List Str := ["base"]
theorem sc_check_base : FnScope N_check_base ["base"] (defScope s_check_base) := by
  refine ⟨rfl, rfl, rfl, ?_, rfl, ?_, ?_⟩ <;> decide +kernel
abbrev s_check_levels : Stmt := topS 21
abbrev N_check_levels : List Str := ["levels"]
theorem sc_check_levels : FnScope N_check_levels ["levels"] (defScope s_check_levels) := by
  refine ⟨rfl, rfl, rfl, ?_, rfl, ?_, ?_⟩ <;> decide +kernel
abbrev s_check_tick : Stmt := topS 22
abbrev N_check_tick : List Str := ["tick", "least"]
theorem sc_check_tick : FnScope N_check_tick ["tick", "least"] (defScope s_check_tick) := by
  refine ⟨rfl, rfl, rfl, ?_, rfl, ?_, ?_⟩ <;> decide +kernel
abbrev s_word_at : Stmt := topS 24
abbrev N_word_at : List Str := ["levels", "level"]
theorem sc_word_at : FnScope N_word_at ["levels", "level"] (defScope s_word_at) := by
  refine ⟨rfl, rfl, rfl, ?_, rfl, ?_, ?_⟩ <;> decide +kernel
abbrev s_level_and_size : Stmt := topS 25
abbrev N_level_and_size : List Str := ["base", "now", "due", "level", "size", "above_now", "above_due"]
theorem sc_level_and_size : FnScope N_level_and_size ["base", "now", "due"] (defScope s_level_and_size) := by
  refine ⟨rfl, rfl, rfl, ?_, rfl, ?_, ?_⟩ <;> decide +kernel
abbrev s_path : Stmt := topS 26
abbrev N_path : List Str := ["base", "now", "due", "level", "size", "rows", "tick", "digit"]
theorem sc_path : FnScope N_path ["base", "now", "due"] (defScope s_path) := by
  refine ⟨rfl, rfl, rfl, ?_, rfl, ?_, ?_⟩ <;> decide +kernel
abbrev s_goes_in_front : Stmt := topS 27
abbrev N_goes_in_front : List Str := ["base", "levels", "now", "due", "lowest", "front", "level", "digit", "tick"]
theorem sc_goes_in_front : FnScope N_goes_in_front ["base", "levels", "now", "due", "lowest"] (defScope s_goes_in_front) := by
  refine ⟨rfl, rfl, rfl, ?_, rfl, ?_, ?_⟩ <;> decide +kernel
abbrev s_with_timer : Stmt := topS 28
abbrev N_with_timer : List Str := ["numbers", "number", "front"]
theorem sc_with_timer : FnScope N_with_timer ["numbers", "number", "front"] (defScope s_with_timer) := by
  refine ⟨rfl, rfl, rfl, ?_, rfl, ?_, ?_⟩ <;> decide +kernel
abbrev s_firing_order : Stmt := topS 29
abbrev N_firing_order : List Str := ["base", "levels", "due", "settings", "numbers", "number", "now"]
theorem sc_firing_order : FnScope N_firing_order ["base", "levels", "due", "settings"] (defScope s_firing_order) := by
  refine ⟨rfl, rfl, rfl, ?_, rfl, ?_, ?_⟩ <;> decide +kernel
abbrev s_without_repeats : Stmt := topS 32
abbrev N_without_repeats : List Str := ["levels", "many"]
theorem sc_without_repeats : FnScope N_without_repeats ["levels"] (defScope s_without_repeats) := by
  refine ⟨rfl, rfl, rfl, ?_, rfl, ?_, ?_⟩ <;> decide +kernel
abbrev s_check_period : Stmt := topS 33
abbrev N_check_period : List Str := ["period"]
theorem sc_check_period : FnScope N_check_period ["period"] (defScope s_check_period) := by
  refine ⟨rfl, rfl, rfl, ?_, rfl, ?_, ?_⟩ <;> decide +kernel
abbrev s_order_of_firing : Stmt := topS 34
abbrev N_order_of_firing : List Str := ["base", "levels", "live", "tick", "settings", "number", "due", "period", "since"]
theorem sc_order_of_firing : FnScope N_order_of_firing ["base", "levels", "live", "tick"] (defScope s_order_of_firing) := by
  refine ⟨rfl, rfl, rfl, ?_, rfl, ?_, ?_⟩ <;> decide +kernel
abbrev s_standing : Stmt := topS 35
abbrev N_standing : List Str := ["base", "levels", "live", "tick", "rows", "number", "due", "period", "since", "level", "size", "place", "front", "digit"]
theorem sc_standing : FnScope N_standing ["base", "levels", "live", "tick"] (defScope s_standing) := by
  refine ⟨rfl, rfl, rfl, ?_, rfl, ?_, ?_⟩ <;> decide +kernel
abbrev s_least_due : Stmt := topS 36
abbrev N_least_due : List Str := ["live", "due", "period", "since"]
theorem sc_least_due : FnScope N_least_due ["live"] (defScope s_least_due) := by
  refine ⟨rfl, rfl, rfl, ?_, rfl, ?_, ?_⟩ <;> decide +kernel
abbrev s_after_firing : Stmt := topS 37
abbrev N_after_firing : List Str := ["live", "numbers", "tick", "left", "number", "due", "period", "since"]
theorem sc_after_firing : FnScope N_after_firing ["live", "numbers", "tick"] (defScope s_after_firing) := by
  refine ⟨rfl, rfl, rfl, ?_, rfl, ?_, ?_⟩ <;> decide +kernel
abbrev s_is_row : Stmt := topS 40
abbrev N_is_row : List Str := ["given", "now", "following", "number", "due", "period"]
theorem sc_is_row : FnScope N_is_row ["given", "now", "following"] (defScope s_is_row) := by
  refine ⟨rfl, rfl, rfl, ?_, rfl, ?_, ?_⟩ <;> decide +kernel
abbrev s_is_snapshot : Stmt := topS 41
abbrev N_is_snapshot : List Str := ["given", "base", "levels", "now", "following", "rows", "row", "number", "due", "period"]
theorem sc_is_snapshot : FnScope N_is_snapshot ["given"] (defScope s_is_snapshot) := by
  refine ⟨rfl, rfl, rfl, ?_, rfl, ?_, ?_⟩ <;> decide +kernel
abbrev s_restored : Stmt := topS 42
abbrev N_restored : List Str := ["snapshot", "base", "levels", "now", "following", "rows", "wheel", "number", "due", "period"]
theorem sc_restored : FnScope N_restored ["snapshot"] (defScope s_restored) := by
  refine ⟨rfl, rfl, rfl, ?_, rfl, ?_, ?_⟩ <;> decide +kernel
abbrev s__law_cell_at : Stmt := topS 44
abbrev N__law_cell_at : List Str := ["_law_script", "_law_k"]
theorem sc__law_cell_at : FnScope N__law_cell_at ["_law_script", "_law_k"] (defScope s__law_cell_at) := by
  refine ⟨rfl, rfl, rfl, ?_, rfl, ?_, ?_⟩ <;> decide +kernel
abbrev s__law_mixed : Stmt := topS 45
abbrev N__law_mixed : List Str := ["_law_cell", "_law_k", "_law_low"]
theorem sc__law_mixed : FnScope N__law_mixed ["_law_cell", "_law_k"] (defScope s__law_mixed) := by
  refine ⟨rfl, rfl, rfl, ?_, rfl, ?_, ?_⟩ <;> decide +kernel
abbrev s__law_source : Stmt := topS 46
abbrev N__law_source : List Str := ["_law_script", "_law_k", "_law_cell"]
theorem sc__law_source : FnScope N__law_source ["_law_script", "_law_k"] (defScope s__law_source) := by
  refine ⟨rfl, rfl, rfl, ?_, rfl, ?_, ?_⟩ <;> decide +kernel
abbrev s__law_next : Stmt := topS 47
abbrev N__law_next : List Str := ["_law_source_here", "_law_many", "_law_found"]
theorem sc__law_next : FnScope N__law_next ["_law_source_here", "_law_many"] (defScope s__law_next) := by
  refine ⟨rfl, rfl, rfl, ?_, rfl, ?_, ?_⟩ <;> decide +kernel
abbrev s__law_base : Stmt := topS 48
abbrev N__law_base : List Str := ["_law_source_here"]
theorem sc__law_base : FnScope N__law_base ["_law_source_here"] (defScope s__law_base) := by
  refine ⟨rfl, rfl, rfl, ?_, rfl, ?_, ?_⟩ <;> decide +kernel
abbrev s__law_levels : Stmt := topS 49
abbrev N__law_levels : List Str := ["_law_source_here", "_law_many", "_law_sort", "_law_found", "_law_at"]
theorem sc__law_levels : FnScope N__law_levels ["_law_source_here"] (defScope s__law_levels) := by
  refine ⟨rfl, rfl, rfl, ?_, rfl, ?_, ?_⟩ <;> decide +kernel
abbrev s__law_tick : Stmt := topS 50
abbrev N__law_tick : List Str := ["_law_source_here", "_law_base_here", "_law_sort", "_law_size", "_law_at"]
theorem sc__law_tick : FnScope N__law_tick ["_law_source_here", "_law_base_here"] (defScope s__law_tick) := by
  refine ⟨rfl, rfl, rfl, ?_, rfl, ?_, ?_⟩ <;> decide +kernel
abbrev s__law_call : Stmt := topS 51
abbrev N__law_call : List Str := ["_law_source_here", "_law_wheel", "_law_span", "_law_branch", "_law_live", "_law_step", "_law_due", "_law_number"]
theorem sc__law_call : FnScope N__law_call ["_law_source_here", "_law_wheel", "_law_span"] (defScope s__law_call) := by
  refine ⟨rfl, rfl, rfl, ?_, rfl, ?_, ?_⟩ <;> decide +kernel
abbrev s__law_made : Stmt := topS 52
abbrev N__law_made : List Str := ["_law_wheel", "_law_call_here"]
theorem sc__law_made : FnScope N__law_made ["_law_wheel", "_law_call_here"] (defScope s__law_made) := by
  refine ⟨rfl, rfl, rfl, ?_, rfl, ?_, ?_⟩ <;> decide +kernel
abbrev s__law_others : Stmt := topS 53
abbrev N__law_others : List Str := ["_law_source_here", "_law_told", "_law_base_here", "_law_levels_here", "_law_now", "_law_many", "_law_rows", "_law_at", "_law_turned", "_law_found", "_law_spot", "_law_number", "_law_due", "_law_lap", "_law_row"]
theorem sc__law_others : FnScope N__law_others ["_law_source_here", "_law_told"] (defScope s__law_others) := by
  refine ⟨rfl, rfl, rfl, ?_, rfl, ?_, ?_⟩ <;> decide +kernel
abbrev s_law : Stmt := topS 54
abbrev N_law : List Str := ["_law_script", "_law_k", "_law_source_here", "_law_base_here", "_law_levels_here", "_law_wheel", "_law_turn", "_law_told", "_law_same", "_law_other", "_law_others_here", "_law_numbers", "_law_things", "_law_one", "_law_row", "_law_thing"]
theorem sc_law : FnScope N_law ["_law_script"] (defScope s_law) := by
  refine ⟨rfl, rfl, rfl, ?_, rfl, ?_, ?_⟩ <;> decide +kernel
abbrev s_Wheel___init__ : Stmt := inClass (topS 38) 0
abbrev N_Wheel___init__ : List Str := ["self", "base", "levels", "start"]
theorem sc_Wheel___init__ : FnScope N_Wheel___init__ ["self", "base", "levels", "start"] (defScope s_Wheel___init__) := by
  refine ⟨rfl, rfl, rfl, ?_, rfl, ?_, ?_⟩ <;> decide +kernel
abbrev s_Wheel___len__ : Stmt := inClass (topS 38) 1
abbrev N_Wheel___len__ : List Str := ["self"]
theorem sc_Wheel___len__ : FnScope N_Wheel___len__ ["self"] (defScope s_Wheel___len__) := by
  refine ⟨rfl, rfl, rfl, ?_, rfl, ?_, ?_⟩ <;> decide +kernel
abbrev s_Wheel___eq__ : Stmt := inClass (topS 38) 2
abbrev N_Wheel___eq__ : List Str := ["self", "other"]
theorem sc_Wheel___eq__ : FnScope N_Wheel___eq__ ["self", "other"] (defScope s_Wheel___eq__) := by
  refine ⟨rfl, rfl, rfl, ?_, rfl, ?_, ?_⟩ <;> decide +kernel
abbrev s_Wheel_check_timer : Stmt := inClass (topS 38) 3
abbrev N_Wheel_check_timer : List Str := ["self", "timer"]
theorem sc_Wheel_check_timer : FnScope N_Wheel_check_timer ["self", "timer"] (defScope s_Wheel_check_timer) := by
  refine ⟨rfl, rfl, rfl, ?_, rfl, ?_, ?_⟩ <;> decide +kernel
abbrev s_Wheel_now : Stmt := inClass (topS 38) 4
abbrev N_Wheel_now : List Str := ["self"]
theorem sc_Wheel_now : FnScope N_Wheel_now ["self"] (defScope s_Wheel_now) := by
  refine ⟨rfl, rfl, rfl, ?_, rfl, ?_, ?_⟩ <;> decide +kernel
abbrev s_Wheel_put : Stmt := inClass (topS 38) 5
abbrev N_Wheel_put : List Str := ["self", "due", "period", "number"]
theorem sc_Wheel_put : FnScope N_Wheel_put ["self", "due", "period"] (defScope s_Wheel_put) := by
  refine ⟨rfl, rfl, rfl, ?_, rfl, ?_, ?_⟩ <;> decide +kernel
abbrev s_Wheel_cancel : Stmt := inClass (topS 38) 6
abbrev N_Wheel_cancel : List Str := ["self", "timer"]
theorem sc_Wheel_cancel : FnScope N_Wheel_cancel ["self", "timer"] (defScope s_Wheel_cancel) := by
  refine ⟨rfl, rfl, rfl, ?_, rfl, ?_, ?_⟩ <;> decide +kernel
abbrev s_Wheel_reset : Stmt := inClass (topS 38) 7
abbrev N_Wheel_reset : List Str := ["self", "timer", "due", "before", "period", "since"]
theorem sc_Wheel_reset : FnScope N_Wheel_reset ["self", "timer", "due"] (defScope s_Wheel_reset) := by
  refine ⟨rfl, rfl, rfl, ?_, rfl, ?_, ?_⟩ <;> decide +kernel
abbrev s_Wheel_due : Stmt := inClass (topS 38) 8
abbrev N_Wheel_due : List Str := ["self", "timer"]
theorem sc_Wheel_due : FnScope N_Wheel_due ["self", "timer"] (defScope s_Wheel_due) := by
  refine ⟨rfl, rfl, rfl, ?_, rfl, ?_, ?_⟩ <;> decide +kernel
abbrev s_Wheel_timers : Stmt := inClass (topS 38) 9
abbrev N_Wheel_timers : List Str := ["self"]
theorem sc_Wheel_timers : FnScope N_Wheel_timers ["self"] (defScope s_Wheel_timers) := by
  refine ⟨rfl, rfl, rfl, ?_, rfl, ?_, ?_⟩ <;> decide +kernel
abbrev s_Wheel_advance : Stmt := inClass (topS 38) 10
abbrev N_Wheel_advance : List Str := ["self", "tick", "fired", "many", "live", "at", "numbers"]
theorem sc_Wheel_advance : FnScope N_Wheel_advance ["self", "tick"] (defScope s_Wheel_advance) := by
  refine ⟨rfl, rfl, rfl, ?_, rfl, ?_, ?_⟩ <;> decide +kernel
abbrev s_Wheel_lists : Stmt := inClass (topS 38) 11
abbrev N_Wheel_lists : List Str := ["self"]
theorem sc_Wheel_lists : FnScope N_Wheel_lists ["self"] (defScope s_Wheel_lists) := by
  refine ⟨rfl, rfl, rfl, ?_, rfl, ?_, ?_⟩ <;> decide +kernel
abbrev s_Wheel_firing : Stmt := inClass (topS 38) 12
abbrev N_Wheel_firing : List Str := ["self", "tick"]
theorem sc_Wheel_firing : FnScope N_Wheel_firing ["self", "tick"] (defScope s_Wheel_firing) := by
  refine ⟨rfl, rfl, rfl, ?_, rfl, ?_, ?_⟩ <;> decide +kernel
abbrev s_Wheel_lists_at : Stmt := inClass (topS 38) 13
abbrev N_Wheel_lists_at : List Str := ["self", "tick"]
theorem sc_Wheel_lists_at : FnScope N_Wheel_lists_at ["self", "tick"] (defScope s_Wheel_lists_at) := by
  refine ⟨rfl, rfl, rfl, ?_, rfl, ?_, ?_⟩ <;> decide +kernel
abbrev s_Wheel_restoring : Stmt := inClass (topS 38) 14
abbrev N_Wheel_restoring : List Str := ["self", "rows", "level", "digit", "numbers", "number"]
theorem sc_Wheel_restoring : FnScope N_Wheel_restoring ["self"] (defScope s_Wheel_restoring) := by
  refine ⟨rfl, rfl, rfl, ?_, rfl, ?_, ?_⟩ <;> decide +kernel
abbrev s_Wheel_snapshot : Stmt := inClass (topS 38) 15
abbrev N_Wheel_snapshot : List Str := ["self", "rows", "number", "due"]
theorem sc_Wheel_snapshot : FnScope N_Wheel_snapshot ["self"] (defScope s_Wheel_snapshot) := by
  refine ⟨rfl, rfl, rfl, ?_, rfl, ?_, ?_⟩ <;> decide +kernel
abbrev s_Wheel_next_event : Stmt := inClass (topS 38) 16
abbrev N_Wheel_next_event : List Str := ["self"]
theorem sc_Wheel_next_event : FnScope N_Wheel_next_event ["self"] (defScope s_Wheel_next_event) := by
  refine ⟨rfl, rfl, rfl, ?_, rfl, ?_, ?_⟩ <;> decide +kernel
abbrev s_Wheel_next_firing : Stmt := inClass (topS 38) 17
abbrev N_Wheel_next_firing : List Str := ["self"]
theorem sc_Wheel_next_firing : FnScope N_Wheel_next_firing ["self"] (defScope s_Wheel_next_firing) := by
  refine ⟨rfl, rfl, rfl, ?_, rfl, ?_, ?_⟩ <;> decide +kernel
abbrev s_Wheel_moves_until : Stmt := inClass (topS 38) 18
abbrev N_Wheel_moves_until : List Str := ["self", "tick"]
theorem sc_Wheel_moves_until : FnScope N_Wheel_moves_until ["self", "tick"] (defScope s_Wheel_moves_until) := by
  refine ⟨rfl, rfl, rfl, ?_, rfl, ?_, ?_⟩ <;> decide +kernel
/-- what the top leaves of built-in names -/
structure Tx (K : PySem.W.Frag) (mg : Str → Option Value) : Prop where
  b_isinstance : mg "isinstance" = none
  b_int : mg "int" = none
  b_bool : mg "bool" = none
  b_str : mg "str" = none
  b_all : mg "all" = none
  b_list : mg "list" = none
  b_len : mg "len" = none
  b_min : mg "min" = none
  b_sorted : mg "sorted" = none
  b_dict : mg "dict" = none
  b_tuple : mg "tuple" = none
  b_set : mg "set" = none
  b_range : mg "range" = none
  b_max : mg "max" = none
/-! ### the program: what an integer is, bases, ticks -/
def slotInt (σ : L2.St) (i : Nat) : Nat := match σ[i]? with
  | some (some (.int z)) => z.toNat
  | _ => 0
theorem cast_div (a b : Nat) : (a : Int) / (b : Int) = ((a / b : Nat) : Int) := rfl
theorem cast_mod (a b : Nat) : (a : Int) % (b : Int) = ((a % b : Nat) : Int) := rfl
theorem cast_mul (a b : Nat) : (a : Int) * (b : Int) = ((a * b : Nat) : Int) := (Int.natCast_mul a b).symm
theorem cast_add (a b : Nat) : (a : Int) + (b : Int) = ((a + b : Nat) : Int) := rfl
theorem natAbs_cast (a : Nat) : ((a : Nat) : Int).natAbs = a := rfl
theorem divp_s {i j : Int} (b : Nat) (hj : 0 < j) (hi : i.natAbs < 2 ^ b) (h : b ≤ 3000 := by decide) : CDivP i j := by
  refine divp_ok hj ?_
  have := PyProof.Rows.intBits_le hi
  omega
section
variable {P : Program} {w : World} {K : PySem.W.Frag} {mg : Str → Option Value} {base : Heap}
def spIsInt : Sp := fun vs H Q _ => ∃ n : Int, vs = [.int n] ∧ Q (.bl true) H
theorem ok_is_integer {f : Addr} {fd : FuncData} (F : Fun K "is_integer" "is_integer" s_is_integer f fd) (T : Tx K mg) : FnOk P w K mg base CX0 1 f fd ["given"] spIsInt := by
  refine F.ok sc_is_integer (fun vs H Q E h => ?_) (fun cdv A outer s H vs Q E hr h => ?_)
  · obtain ⟨n, rfl, _⟩ := h
    rfl
  · obtain ⟨n, rfl, q⟩ := h
    refine ⟨_, (pss_one (ps_ret (pe_and (pe_callB (isiK (K := K) rfl) (by rfl) T.b_isinstance (by decide +kernel) (pa_cons (pv 0) (pa_cons (pe_bltn (v := .ty "int") (u := .type "int") (by rfl) T.b_int (by decide +kernel) rfl) pa_nil))) (pe_one (pe_not (pe_callB (isiK (K := K) rfl) (by rfl) T.b_isinstance (by decide +kernel) (pa_cons (pv 0) (pa_cons (pe_bltn (v := .ty "bool") (u := .type "bool") (by rfl) T.b_bool (by decide +kernel) rfl) pa_nil)))))))), ?_⟩
    refine ⟨.int n, rfl, .int n, _, _, _, true, rfl, .ty "int", .base (.int n), kit_ty (by decide +kernel), true, rfl, iteT ?_⟩
    exact ⟨.int n, rfl, .int n, _, _, _, false, rfl, .ty "bool", .base (.int n), kit_ty (by decide +kernel), false, rfl, q⟩
end
/-! a tick, of an integer -/
section
variable {P : Program} {w : World} {K : PySem.W.Frag} {mg : Str → Option Value} {base : Heap}
def spIsTick : Sp := fun vs H Q _ => ∃ n l : Int, vs = [.int n, .int l] ∧ l ≤ n ∧ Q (.bl true) H
theorem ok_is_tick {f : Addr} {fd : FuncData} (F : FunD K "is_tick" "is_tick" (defArgs s_is_tick) (defBody s_is_tick) (defScope s_is_tick) [.int 0] [] f fd) (T : Tx K mg) (h1 : Has P w K mg base 1 "is_integer" ["given"] [] spIsInt) : FnOk P w K mg base CX0 2 f fd ["given", "least"] spIsTick := by
  obtain ⟨f_is_integer, fd_is_integer, ds_is_integer, G_is_integer, m_is_integer, k_is_integer, b_is_integer, v_is_integer⟩ := h1
  refine F.ok sc_is_tick (fun vs H Q E h => ?_) (fun cdv A outer s H vs Q E hr h => ?_)
  · obtain ⟨n, l, rfl, _⟩ := h
    rfl
  · obtain ⟨n, l, rfl, l1, q⟩ := h
    refine ⟨_, PSs.nox (pss_one (ps_ret (pe_and (pe_call G_is_integer hr (by rfl) m_is_integer k_is_integer b_is_integer v_is_integer pass0 (pa_cons (pv 0) pa_nil)) (pe_one (pe_cmpR op_ge (pv 0) (pv 1) (nomark _)))))), ?_⟩
    refine ⟨.int n, rfl, n, rfl, true, rfl, iteT ?_⟩
    refine ⟨.int n, rfl, .int l, rfl, n, l, rfl, rfl, ?_⟩
    have e : V.bl (decide (n ≥ l)) = V.bl true := dT l1
    show Q (V.bl (decide (n ≥ l))) H
    rw [e]
    exact q
end
/-! ### bases and ticks -/
section
variable {P : Program} {w : World} {K : PySem.W.Frag} {mg : Str → Option Value} {base : Heap}
def spIsBase : Sp := fun vs H Q _ => ∃ n : Int, vs = [.int n] ∧ 2 ≤ n ∧ n ≤ 64 ∧ Q (.bl true) H
theorem ok_is_base {f : Addr} {fd : FuncData} (F : Fun K "is_base" "is_base" s_is_base f fd) (h1 : Has P w K mg base 1 "is_integer" ["given"] [] spIsInt) : FnOk P w K mg base CX0 2 f fd ["given"] spIsBase := by
  obtain ⟨f_is_integer, fd_is_integer, ds_is_integer, G_is_integer, m_is_integer, k_is_integer, b_is_integer, v_is_integer⟩ := h1
  refine F.ok sc_is_base (fun vs H Q E h => ?_) (fun cdv A outer s H vs Q E hr h => ?_)
  · obtain ⟨n, rfl, _⟩ := h
    rfl
  · obtain ⟨n, rfl, l1, l2, q⟩ := h
    refine ⟨_, (pss_one (ps_ret (pe_and (pe_call G_is_integer hr (by rfl) m_is_integer k_is_integer b_is_integer v_is_integer pass0 (pa_cons (pv 0) pa_nil)) (pe_one (pe_chain op_le op_le pe_int (pv 0) pe_int))))), ?_⟩
    refine ⟨.int n, rfl, n, rfl, true, rfl, iteT ?_⟩
    refine ⟨.int n, rfl, 2, n, rfl, rfl, true, congrArg V.bl (decide_eq_true l1), iteT ?_⟩
    refine ⟨n, 64, rfl, rfl, ?_⟩
    have e : V.bl (decide (n ≤ 64)) = V.bl true := dT l2
    show Q (V.bl (decide (n ≤ 64))) H
    rw [e]
    exact q
def spCheckBase : Sp := fun vs H Q _ => ∃ n : Int, vs = [.int n] ∧ 2 ≤ n ∧ n ≤ 64 ∧ Q .non H
theorem ok_check_base {f : Addr} {fd : FuncData} (F : Fun K "check_base" "check_base" s_check_base f fd) (h1 : Has P w K mg base 2 "is_base" ["given"] [] spIsBase) : FnOk P w K mg base CX0 3 f fd ["base"] spCheckBase := by
  obtain ⟨f_is_base, fd_is_base, ds_is_base, G_is_base, m_is_base, k_is_base, b_is_base, v_is_base⟩ := h1
  refine F.ok sc_check_base (fun vs H Q E h => ?_) (fun cdv A outer s H vs Q E hr h => ?_)
  · obtain ⟨n, rfl, _⟩ := h
    rfl
  · obtain ⟨n, rfl, l1, l2, q⟩ := h
    refine ⟨_, (pss_one (ps_if (pt_not (pt_val (pe_call G_is_base hr (by rfl) m_is_base k_is_base b_is_base v_is_base pass0 (pa_cons (pv 0) pa_nil))))
        (pss_one ps_never)
        pss_nil)), ?_⟩
    exact ⟨.int n, rfl, n, rfl, l1, l2, true, rfl, iteF q⟩
def spCheckTick : Sp := fun vs H Q _ => ∃ n l : Int, vs = [.int n, .int l] ∧ l ≤ n ∧ Q .non H
theorem ok_check_tick {f : Addr} {fd : FuncData} (F : FunD K "check_tick" "check_tick" (defArgs s_check_tick) (defBody s_check_tick) (defScope s_check_tick) [.int 0] [] f fd) (h1 : Has P w K mg base 2 "is_tick" ["given", "least"] [] spIsTick) : FnOk P w K mg base CX0 3 f fd ["tick", "least"] spCheckTick := by
  obtain ⟨f_is_tick, fd_is_tick, ds_is_tick, G_is_tick, m_is_tick, k_is_tick, b_is_tick, v_is_tick⟩ := h1
  refine F.ok sc_check_tick (fun vs H Q E h => ?_) (fun cdv A outer s H vs Q E hr h => ?_)
  · obtain ⟨n, l, rfl, _⟩ := h
    rfl
  · obtain ⟨n, l, rfl, l1, q⟩ := h
    refine ⟨_, PSs.nox (pss_one (ps_if (pt_not (pt_val (pe_call G_is_tick hr (by rfl) m_is_tick k_is_tick b_is_tick v_is_tick pass0 (pa_cons (pv 0) (pa_cons (pv 1) pa_nil)))))
        (pss_one ps_never)
        pss_nil)), ?_⟩
    exact ⟨.int n, rfl, .int l, rfl, n, l, rfl, l1, true, rfl, iteF q⟩
end
/-! ### the program: level_and_size, path -/
section
variable {P : Program} {w : World} {K : PySem.W.Frag} {mg : Str → Option Value} {base : Heap}
/-! the level -/
def spLevel : Sp := fun vs H Q _ => ∃ b n d : Nat, vs = [.int b, .int n, .int d] ∧ 2 ≤ b ∧ b ≤ 64 ∧ n < d ∧ d < 2 ^ 250 ∧ ∀ k, IsLev b n d k → ∀ H' p, Same H H' → H p = none → H' p = some (.tup [.int (k : Nat), .int ((b ^ k : Nat) : Int)]) → Q (.ref p) H'
theorem ok_level_and_size {f : Addr} {fd : FuncData} (F : Fun K "level_and_size" "level_and_size" s_level_and_size f fd) : FnOk P w K mg base CX0 1 f fd ["base", "now", "due"] spLevel := by
  refine F.ok sc_level_and_size (fun vs H Q E h => ?_) (fun cdv A outer s H vs Q E hr h => ?_)
  · obtain ⟨b, n, d, rfl, _⟩ := h
    rfl
  · obtain ⟨b, n, d, rfl, hb, hb64, hnd, hd, q⟩ := h
    have cb : ∀ x : Nat, NDiv x b := fun x => ndiv 7 (by omega) (by omega)
    refine ⟨_, (pss_cons (ps_asg (pe_tup (pa_cons pe_int (pa_cons pe_int pa_nil))) (pg_tupK (K := K) (n := 2) rfl rfl (pgs_cons (pg_name (i := 3) sc_level_and_size.nd rfl (.inl rfl)) (pgs_cons (pg_name (i := 4) sc_level_and_size.nd rfl (.inl rfl)) pgs_nil))))
      (pss_cons (ps_par (i := 5) (j := 6) (by rfl) sc_level_and_size.nd rfl rfl (by decide) rfl rfl (pa_cons (pe_op op_divN (pv 1) (pv 0)) (pa_cons (pe_op op_divN (pv 2) (pv 0)) pa_nil)) (by rfl))
      (pss_cons (ps_while PassesOwn.never (pt_cmpR op_ne (pv 5) (pv 6) (nomark _))
        (pss_cons (ps_par (i := 5) (j := 6) (by rfl) sc_level_and_size.nd rfl rfl (by decide) rfl rfl (pa_cons (pe_op op_divN (pv 5) (pv 0)) (pa_cons (pe_op op_divN (pv 6) (pv 0)) pa_nil)) (by rfl))
        (pss_one (ps_par (i := 3) (j := 4) (by rfl) sc_level_and_size.nd rfl rfl (by decide) rfl rfl (pa_cons (pe_op op_addN (pv 3) pe_int) (pa_cons (pe_op op_mulN (pv 4) (pv 0)) pa_nil)) (by rfl)))))
      (pss_one (ps_ret (pe_tup (pa_cons (pv 3) (pa_cons (pv 4) pa_nil)))))))), ?_⟩
    refine ⟨by simp [sizeLine_eq], fun t hT => ⟨t, _, rfl, .inl (.inl upd_same), rfl, _, _, rfl, _, _, rfl, rfl, ?_⟩⟩
    refine ⟨_, rfl, _, rfl, _, _, rfl, rfl, cb _, _, rfl, _, rfl, _, _, rfl, rfl, cb _, _, _, rfl, ?_⟩
    refine while_by (fun σ H' => ∃ k : Nat, σ = [some (.int (b : Int)), some (.int (n : Int)), some (.int (d : Int)), some (.int (k : Int)), some (.int ((b ^ k : Nat) : Int)), some (.int ((n / b ^ (k + 1) : Nat) : Int)), some (.int ((d / b ^ (k + 1) : Nat) : Int))] ∧ Same H H' ∧ ∀ j, j < k → n / b ^ (j + 1) ≠ d / b ^ (j + 1))
      (fun σ _ => slotInt σ 6) ⟨0, ?_, same_upd hT, fun j hj => absurd hj (Nat.not_lt_zero j)⟩ ?_ ?_
    · rw [Nat.zero_add, Nat.pow_one]
      rfl
    · rintro σ H' ⟨k, rfl, sm, hk⟩
      by_cases hne : n / b ^ (k + 1) = d / b ^ (k + 1)
      · refine ⟨_, rfl, _, rfl, rfl, false, ?_, iteF ?_⟩
        · rw [hne, decide_eq_true rfl]
          rfl
        · refine ⟨_, rfl, _, rfl, by simp [sizeLine_eq], fun p hp => ?_⟩
          exact q k ⟨hne, hk⟩ _ p (sm.trans (same_upd hp)) (sm.free hp) upd_same
      · have h2 : n / b ^ (k + 1) ≤ d / b ^ (k + 1) := Nat.div_le_div_right (Nat.le_of_lt hnd)
        have hpos : 0 < d / b ^ (k + 1) := pos_of h2 hne
        refine ⟨_, rfl, _, rfl, rfl, true, ?_, iteT ?_⟩
        · rw [int_ne hne]
          rfl
        · refine ⟨_, rfl, _, rfl, _, _, rfl, rfl, cb _, _, rfl, _, rfl, _, _, rfl, rfl, cb _, _, _, rfl, ?_⟩
          refine ⟨_, rfl, k, 1, rfl, rfl, trivial, _, rfl, _, rfl, _, _, rfl, rfl, nmul_r (by omega), _, _, rfl, ?_⟩
          have hlt : d / b ^ (k + 1) / b < d / b ^ (k + 1) := Nat.div_lt_self hpos (by omega)
          refine ⟨⟨k + 1, ?_, sm, fun j hj => ?_⟩, ?_⟩
          · rw [div_succ n b (k + 1), div_succ d b (k + 1), Nat.pow_succ b k]
            rfl
          · by_cases e : j = k
            · rw [e]
              exact hne
            · exact hk j (by omega)
          · show (((d / b ^ (k + 1) / b : Nat) : Int)).toNat < (((d / b ^ (k + 1) : Nat) : Int)).toNat
            rw [Int.toNat_natCast, Int.toNat_natCast]
            exact hlt
    · rintro σ H' Q1 Q2 h ⟨x, hx, y, hy, hs, k, e, z⟩
      exact ⟨x, hx, y, hy, hs, k, e, h _ _ z⟩
/-! the stations -/
def rowV (r : Row3) : List V := [.int (r.1 : Nat), .int (r.2.1 : Nat), .int (r.2.2 : Nat)]
/-- at the places ts stand the rows rs, each a tuple of three -/
def RowsAt (H : Hp) : List Addr → List Row3 → Prop
  | [], [] => True
  | t :: ts, r :: rs => H t = some (.tup (rowV r)) ∧ RowsAt H ts rs
  | _, _ => False
theorem RowsAt.same {H H' : Hp} (s : Same H H') : ∀ {ts : List Addr} {rs : List Row3}, RowsAt H ts rs → RowsAt H' ts rs
  | [], [], h => h
  | _ :: _, _ :: _, h => ⟨s _ _ h.1, h.2.same s⟩
  | [], _ :: _, h => h
  | _ :: _, [], h => h
theorem RowsAt.app {H : Hp} {t : Addr} {r : Row3} : ∀ {ts : List Addr} {rs : List Row3}, RowsAt H ts rs → H t = some (.tup (rowV r)) → RowsAt H (ts ++ [t]) (rs ++ [r])
  | [], [], _, h => ⟨h, trivial⟩
  | _ :: _, _ :: _, h, h2 => ⟨h.1, h.2.app h2⟩
  | [], _ :: _, h, _ => h.elim
  | _ :: _, [], h, _ => h.elim
theorem RowsAt.len {H : Hp} : ∀ {ts : List Addr} {rs : List Row3}, RowsAt H ts rs → ts.length = rs.length
  | [], [], _ => rfl
  | _ :: _, _ :: _, h => congrArg Nat.succ h.2.len
  | [], _ :: _, h => h.elim
  | _ :: _, [], h => h.elim
theorem RowsAt.upd {H : Hp} {p : Addr} {xs : List V} {o : HO} (hp : H p = some (.lst xs)) : ∀ {ts : List Addr} {rs : List Row3}, RowsAt H ts rs → RowsAt (upd H p o) ts rs
  | [], [], h => h
  | t :: _, _ :: _, h => ⟨by rw [upd_ne (ne_of h.1 hp (by intro z; cases z))]; exact h.1, h.2.upd hp⟩
  | [], _ :: _, h => h
  | _ :: _, [], h => h
theorem RowsAt.get {H : Hp} : ∀ {ts : List Addr} {rs : List Row3} {i : Nat} {t : Addr}, RowsAt H ts rs → ts[i]? = some t → ∃ r, rs[i]? = some r ∧ H t = some (.tup (rowV r))
  | t :: _, r :: _, 0, _, h, e => ⟨r, rfl, by cases Option.some.inj e; exact h.1⟩
  | _ :: _, _ :: _, i + 1, _, h, e => h.2.get (i := i) e
  | [], _, _, _, _, e => by simp at e
  | _ :: _, [], _, _, h, _ => h.elim
def spPath : Sp := fun vs H Q _ => ∃ b n d : Nat, vs = [.int b, .int n, .int d] ∧ 2 ≤ b ∧ b ≤ 64 ∧ n < d ∧ d < 2 ^ 250 ∧ ∀ k, IsLev b n d k → ∀ H' p ts, Same H H' → H p = none → H' p = some (.lst (ts.map V.ref)) → RowsAt H' ts (rowsOf b n d k) → Q (.ref p) H'
theorem ok_path {f : Addr} {fd : FuncData} (F : Fun K "path" "path" s_path f fd) (h1 : Has P w K mg base 1 "level_and_size" ["base", "now", "due"] [] spLevel) : FnOk P w K mg base CX0 2 f fd ["base", "now", "due"] spPath := by
  obtain ⟨f_level_and_size, fd_level_and_size, ds_level_and_size, G_level_and_size, m_level_and_size, k_level_and_size, b_level_and_size, v_level_and_size⟩ := h1
  refine F.ok sc_path (fun vs H Q E h => ?_) (fun cdv A outer s H vs Q E hr h => ?_)
  · obtain ⟨b, n, d, rfl, _⟩ := h
    rfl
  · obtain ⟨b, n, d, rfl, hb, hb64, hnd, hd, q⟩ := h
    have cb : ∀ x : Nat, NDiv x b := fun x => ndiv 7 (by omega) (by omega)
    have hb0 : 0 < b := by omega
    refine ⟨_, (pss_cons (ps_asg (pe_call G_level_and_size hr (by rfl) m_level_and_size k_level_and_size b_level_and_size v_level_and_size pass0 (pa_cons (pv 0) (pa_cons (pv 1) (pa_cons (pv 2) pa_nil)))) (pg_tupK (K := K) (n := 2) rfl rfl (pgs_cons (pg_name (i := 3) sc_path.nd rfl (.inl rfl)) (pgs_cons (pg_name (i := 4) sc_path.nd rfl (.inl rfl)) pgs_nil))))
      (pss_cons (ps_set (i := 5) sc_path.nd rfl (.inl rfl) (pe_lst (pa_cons (pe_tup (pa_cons (pv 3) (pa_cons (pe_op op_remN (pe_op op_divN (pv 2) (pv 4)) (pv 0)) (pa_cons (pv 1) pa_nil)))) pa_nil)))
      (pss_cons (ps_while PassesOwn.never (pt_cmpR op_gt (pv 3) pe_int (nomark _))
        (pss_cons (ps_set (i := 6) sc_path.nd rfl (.inl rfl) (pe_op op_mulN (pe_op op_divN (pv 2) (pv 4)) (pv 4)))
        (pss_cons (ps_par (i := 3) (j := 4) (by rfl) sc_path.nd rfl rfl (by decide) rfl rfl (pa_cons (pe_op op_subN (pv 3) pe_int) (pa_cons (pe_op op_divN (pv 4) (pv 0)) pa_nil)) (by rfl))
        (pss_cons (ps_set (i := 7) sc_path.nd rfl (.inl rfl) (pe_op op_remN (pe_op op_divN (pv 2) (pv 4)) (pv 0)))
        (pss_one (ps_if (pt_cmpR op_ne (pv 7) pe_int (nomark _))
          (pss_one (ps_expr (pe_bm PySem.F.plainAttrs_list PySem.F.slot_list_append PySem.F.type_list_append mt_append (pv 5) (pa_cons (pe_tup (pa_cons (pv 3) (pa_cons (pv 7) (pa_cons (pv 6) pa_nil)))) pa_nil))))
          pss_nil))))))
      (pss_one (ps_ret (pv 5)))))), ?_⟩
    refine ⟨_, rfl, _, rfl, _, rfl, b, n, d, rfl, hb, hb64, hnd, hd, fun k hk H0 t0 s0 ht0 eT0 => ?_⟩
    have hkd : ∀ j, j ≤ k → b ^ j ≤ d := fun j hj => Nat.le_trans (Nat.pow_le_pow_right (by omega) hj) (hk.size hb hnd)
    have hk250 : k < 250 := lev_small hk hb hnd hd
    have cs : ∀ j, j ≤ k → ∀ x : Nat, NDiv x (b ^ j) := fun j hj x => ndiv 250 (pow_pos' hb j) (Nat.lt_of_le_of_lt (hkd j hj) hd)
    -- level, size = ..
    refine ⟨t0, _, rfl, .inl (.inl eT0), rfl, _, _, rfl, _, _, rfl, rfl, ?_⟩
    -- rows = [(level, due // size % base, now)]
    refine ⟨_, rfl, _, rfl, _, rfl, _, _, rfl, rfl, cs k (Nat.le_refl k) _, _, rfl, _, _, rfl, rfl, hb0, _, rfl, by simp [sizeLine_eq], fun t1 ht1 => ?_⟩
    have s1 := s0.trans (same_upd (o := .tup (rowV (k, d / b ^ k % b, n))) ht1)
    refine ⟨by simp [sizeLine_eq], fun p hp => ?_⟩
    have s2 := s1.trans (same_upd (o := .lst [.ref t1]) hp)
    have np1 : t1 ≠ p := fun e => by
      rw [← e, upd_same] at hp
      cases hp
    have hpH : H p = none := s1.free hp
    refine while_by (fun σ H' => ∃ (j : Nat) (ts : List Addr) (done : List Row3) (y6 y7 : Option V), σ = [some (.int (b : Int)), some (.int (n : Int)), some (.int (d : Int)), some (.int (j : Int)), some (.int ((b ^ j : Nat) : Int)), some (.ref p), y6, y7] ∧ j ≤ k ∧ ts.length + j ≤ k + 1 ∧ Same H H' ∧ H' p = some (.lst (ts.map V.ref)) ∧ RowsAt H' ts ((k, d / b ^ k % b, n) :: done) ∧ tailOf b d k = done ++ tailOf b d j)
      (fun σ _ => slotInt σ 3) ⟨k, [t1], [], none, none, rfl, Nat.le_refl k, by simp; omega, s2, upd_same, ⟨?_, trivial⟩, rfl⟩ ?_ ?_
    · rw [upd_ne np1, upd_same]
      rfl
    · rintro σ H' ⟨j, ts, done, y6, y7, rfl, hjk, hlen, sm, eL, R, et⟩
      cases j with
      | zero =>
        refine ⟨_, rfl, ((0 : Nat) : Int), 0, rfl, rfl, false, rfl, iteF ?_⟩
        refine ⟨_, rfl, q k hk H' p ts sm hpH eL ?_⟩
        have e : done = tailOf b d k := by
          rw [et]
          exact (List.append_nil done).symm
        rw [e] at R
        exact R
      | succ j =>
        have hj0 : (0 : Int) < ((j + 1 : Nat) : Int) := by omega
        refine ⟨_, rfl, _, _, rfl, rfl, true, congrArg V.bl (decide_eq_true hj0), iteT ?_⟩
        -- tick = due // size * size
        refine ⟨_, rfl, _, rfl, _, _, rfl, rfl, cs (j + 1) hjk _, _, rfl, _, _, rfl, rfl, nmul_w 250 250 (Nat.lt_of_le_of_lt (Nat.div_le_self d _) hd) (Nat.lt_of_le_of_lt (hkd (j + 1) hjk) hd), ?_⟩
        -- level, size = level - 1, size // base
        refine ⟨_, rfl, j + 1, 1, rfl, rfl, Nat.le_add_left 1 j, _, rfl, _, rfl, b ^ (j + 1), b, rfl, rfl, cb _, .int (j : Nat), .int ((b ^ j : Nat) : Int), ?_, ?_⟩
        · show [V.int ((j + 1 - 1 : Nat) : Int), V.int ((b ^ (j + 1) / b : Nat) : Int)] = _
          rw [Nat.pow_succ, Nat.mul_div_cancel _ hb0]
          rfl
        -- digit = due // size % base
        refine ⟨_, rfl, _, rfl, d, b ^ j, rfl, rfl, cs j (by omega) _, _, rfl, _, _, rfl, rfl, hb0, ?_⟩
        have lt : slotInt [some (.int (b : Int)), some (.int (n : Int)), some (.int (d : Int)), some (.int (j : Int)), some (.int ((b ^ j : Nat) : Int)), some (.ref p), some (.int ((d / b ^ (j + 1) * b ^ (j + 1) : Nat) : Int)), some (.int ((d / b ^ j % b : Nat) : Int))] 3 < ((j + 1 : Nat) : Int).toNat := by
          show ((j : Int)).toNat < _
          omega
        by_cases h0 : d / b ^ j % b = 0
        · refine ⟨_, rfl, rfl, false, nF (vE h0), iteF ?_⟩
          · refine ⟨⟨j, ts, done, _, _, rfl, by omega, by omega, sm, eL, R, ?_⟩, lt⟩
            rw [et]
            show done ++ tailOf b d (j + 1) = done ++ tailOf b d j
            have : tailOf b d (j + 1) = tailOf b d j := if_neg (fun z => z h0)
            rw [this]
        · refine ⟨_, rfl, rfl, true, nT (vN (b := 0) h0), iteT ?_⟩
          · -- rows.append((level, digit, tick))
            refine ⟨_, rfl, .inl ⟨rfl, _, .inl (.inl eL)⟩, _, rfl, _, rfl, _, rfl, by simp [sizeLine_eq], fun t2 ht2 => ?_⟩
            have s3 := same_upd (o := .tup (rowV (j, d / b ^ j % b, d / b ^ (j + 1) * b ^ (j + 1)))) ht2
            have npt : t2 ≠ p := fun e => by
              rw [e, eL] at ht2
              cases ht2
            have eL' := s3 _ _ eL
            refine ⟨p, _, _, rfl, rfl, eL', ?_, ?_⟩
            · rw [List.length_map]
              exact sizeLine_ge (by omega)
            · refine ⟨⟨j, ts ++ [t2], done ++ [(j, d / b ^ j % b, d / b ^ (j + 1) * b ^ (j + 1))], _, _, rfl, by omega, ?_, fun c o e => ?_, ?_, ?_, ?_⟩, lt⟩
              · rw [List.length_append, List.length_singleton]
                omega
              · rw [upd_ne (ne_of_none e hpH)]
                exact s3 _ _ (sm _ _ e)
              · rw [upd_same, List.map_append]
                rfl
              · refine RowsAt.upd eL' ?_
                exact RowsAt.app (r := (j, d / b ^ j % b, d / b ^ (j + 1) * b ^ (j + 1))) (rs := (k, d / b ^ k % b, n) :: done) (R.same s3) upd_same
              · rw [et, List.append_assoc]
                show done ++ tailOf b d (j + 1) = done ++ ((j, d / b ^ j % b, d / b ^ (j + 1) * b ^ (j + 1)) :: tailOf b d j)
                have : tailOf b d (j + 1) = (j, d / b ^ j % b, d / b ^ (j + 1) * b ^ (j + 1)) :: tailOf b d j := if_pos h0
                rw [this]
    · rintro σ H' Q1 Q2 h ⟨x, hx, i, j, e1, e2, k, e, z⟩
      exact ⟨x, hx, i, j, e1, e2, k, e, h _ _ z⟩
end
theorem RowsAt.item {H : Hp} {ts : List Addr} {rs : List Row3} (R : RowsAt H ts rs) {i : Nat} {x : V} (hx : (ts.map V.ref)[i]? = some x) : ∃ ti r, x = V.ref ti ∧ ts[i]? = some ti ∧ rs[i]? = some r ∧ H ti = some (.tup (rowV r)) := by
  rw [List.getElem?_map] at hx
  cases e : ts[i]? with
  | none =>
    rw [e] at hx
    cases hx
  | some ti =>
    rw [e] at hx
    obtain ⟨r, hr, er⟩ := R.get e
    exact ⟨ti, r, (Option.some.inj hx).symm, rfl, hr, er⟩
section
variable {P : Program} {w : World} {K : PySem.W.Frag} {mg : Str → Option Value} {base : Heap}
def spWordAt (K : PySem.W.Frag) : Sp := fun vs H Q _ => ∃ (q : Addr) (ws : List Bool) (k : Nat), vs = [.ref q, .int (k : Nat)] ∧ SqL K H q (ws.map lvV) ∧ ws ≠ [] ∧ Q (lvV (wordAt ws k)) H
theorem ok_word_at {f : Addr} {fd : FuncData} (F : Fun K "word_at" "word_at" s_word_at f fd) (T : Tx K mg) : FnOk P w K mg base CX0 1 f fd ["levels", "level"] (spWordAt K) := by
  refine F.ok sc_word_at (fun vs H Q E h => ?_) (fun cdv A outer s H vs Q E hr h => ?_)
  · obtain ⟨q, ws, k, rfl, _⟩ := h
    rfl
  · obtain ⟨q, ws, k, rfl, hL, hne, c⟩ := h
    have hp : 0 < ws.length := List.length_pos_iff.mpr hne
    have hpm : 1 ≤ (ws.map lvV).length := by
      rw [List.length_map]
      exact hp
    refine ⟨_, (pss_one (ps_ret (pe_ix (ix_listK (K := K) rfl) (pv 0) (pe_callB (call_min2 rfl) (by rfl) T.b_min (by decide +kernel) (pa_cons (pv 1) (pa_cons (pe_op op_subN (pe_callB (lenK (K := K) rfl) (by rfl) T.b_len PySem.boot_len (pa_cons (pv 0) pa_nil)) pe_int) pa_nil))) (fun _ _ => rfl)))), ?_⟩
    have g := word_get hne k
    refine ⟨.ref q, rfl, _, rfl, .ref q, rfl, q, _, rfl, .inl hL, (ws.map lvV).length, 1, rfl, rfl, hpm, k, _, rfl, q, _, ((min k (ws.length - 1) : Nat) : Int), _, rfl, congrArg V.int ?_, hL, atI_nat g, c⟩
    dsimp only
    rw [List.length_map]
    split <;> omega
def WordsAt (K : PySem.W.Frag) (mg : Str → Option Value) : Prop := ∃ a, mg "WORDS" = some (.ref a) ∧ ∀ H, SqT K H a [.str "stack", .str "queue"]
def MostAt (mg : Str → Option Value) : Prop := ∃ t, mg "MOST_LEVELS" = some (.int 60 t)
def spIsWord : Sp := fun vs H Q _ => ∃ b : Bool, vs = [lvV b] ∧ Q (.bl true) H
theorem ok_is_word {f : Addr} {fd : FuncData} (F : Fun K "is_word" "is_word" s_is_word f fd) (T : Tx K mg) (hW : WordsAt K mg) : FnOk P w K mg base CX0 1 f fd ["given"] spIsWord := by
  obtain ⟨a_WORDS, g_WORDS, sW⟩ := hW
  refine F.ok sc_is_word (fun vs H Q E h => ?_) (fun cdv A outer s H vs Q E hr h => ?_)
  · obtain ⟨b, rfl, _⟩ := h
    rfl
  · obtain ⟨b, rfl, c⟩ := h
    refine ⟨_, (pss_one (ps_ret (pe_and (pe_callB (isiK (K := K) rfl) (by rfl) T.b_isinstance (by decide +kernel) (pa_cons (pv 0) (pa_cons (pe_bltn (v := .ty "str") (u := .type "str") (by rfl) T.b_str (by decide +kernel) rfl) pa_nil))) (pe_one (pe_cmpR op_in_seq (pv 0) (pe_glob (v := .ref a_WORDS) rfl g_WORDS rfl) (by rfl)))))), ?_⟩
    obtain ⟨x, ex, hx⟩ : ∃ x : Str, lvV b = .str x ∧ (if false then !inV (V.str x) [.str "stack", .str "queue"] else inV (V.str x) [.str "stack", .str "queue"]) = true := by
      cases b
      · exact ⟨_, rfl, by decide⟩
      · exact ⟨_, rfl, by decide⟩
    rw [ex]
    refine ⟨.str x, rfl, _, _, _, _, true, rfl, .ty "str", .base (.str x), kit_ty (by decide +kernel), true, rfl, iteT ?_⟩
    refine ⟨.str x, rfl, a_WORDS, _, rfl, .inr (sW _), rfl, rfl, ?_⟩
    rw [hx]
    exact c
def spIsLength : Sp := fun vs H Q _ => ∃ n : Int, vs = [.int n] ∧ 1 ≤ n ∧ n ≤ 60 ∧ Q (.bl true) H
theorem ok_is_length {f : Addr} {fd : FuncData} (F : Fun K "is_length" "is_length" s_is_length f fd) (hM : MostAt mg) (h1 : Has P w K mg base 1 "is_integer" ["given"] [] spIsInt) : FnOk P w K mg base CX0 2 f fd ["given"] spIsLength := by
  obtain ⟨tM, g_MOST_LEVELS⟩ := hM
  obtain ⟨f_is_integer, fd_is_integer, ds_is_integer, G_is_integer, m_is_integer, k_is_integer, b_is_integer, v_is_integer⟩ := h1
  refine F.ok sc_is_length (fun vs H Q E h => ?_) (fun cdv A outer s H vs Q E hr h => ?_)
  · obtain ⟨n, rfl, _⟩ := h
    rfl
  · obtain ⟨n, rfl, l1, l2, q⟩ := h
    refine ⟨_, (pss_one (ps_ret (pe_and (pe_call G_is_integer hr (by rfl) m_is_integer k_is_integer b_is_integer v_is_integer pass0 (pa_cons (pv 0) pa_nil)) (pe_one (pe_chain op_le op_le pe_int (pv 0) (pe_glob (v := .int 60) rfl g_MOST_LEVELS ⟨_, rfl⟩)))))), ?_⟩
    refine ⟨.int n, rfl, n, rfl, true, rfl, iteT ?_⟩
    refine ⟨.int n, rfl, 1, n, rfl, rfl, true, congrArg V.bl (decide_eq_true l1), iteT ?_⟩
    refine ⟨n, 60, rfl, rfl, ?_⟩
    have e : V.bl (decide (n ≤ 60)) = V.bl true := dT l2
    show Q (V.bl (decide (n ≤ 60))) H
    rw [e]
    exact q
def spAreLevels (K : PySem.W.Frag) : Sp := fun vs H Q _ => ∃ (q : Addr) (ws : List Bool), vs = [.ref q] ∧ SqL K H q (ws.map lvV) ∧ ws ≠ [] ∧ ws.length ≤ 60 ∧ ∀ H', Same H H' → Q (.bl true) H'
theorem ok_are_levels {f : Addr} {fd : FuncData} (F : Fun K "are_levels" "are_levels" s_are_levels f fd) (T : Tx K mg) (h0 : Has P w K mg base 2 "is_length" ["given"] [] spIsLength) (h1 : Has P w K mg base 1 "is_word" ["given"] [] spIsWord) : FnOk P w K mg base CX0 3 f fd ["given"] (spAreLevels K) := by
  obtain ⟨f_is_length, fd_is_length, ds_is_length, G_is_length, m_is_length, k_is_length, b_is_length, v_is_length⟩ := h0
  obtain ⟨f_is_word, fd_is_word, ds_is_word, G_is_word, m_is_word, k_is_word, b_is_word, v_is_word⟩ := h1
  refine F.ok sc_are_levels (fun vs H Q E h => ?_) (fun cdv A outer s H vs Q E hr h => ?_)
  · obtain ⟨q, ws, rfl, _⟩ := h
    rfl
  · obtain ⟨q, ws, rfl, hL, hne, h60, c⟩ := h
    have hp : 0 < ws.length := List.length_pos_iff.mpr hne
    refine ⟨_, (pss_cons (ps_if (PW.pt (pw_or (pt_not (pt_val (pe_callB (isiK (K := K) rfl) (by rfl) T.b_isinstance (by decide +kernel) (pa_cons (pv 0) (pa_cons (pe_bltn (v := .ty "list") (u := .type "list") (by rfl) T.b_list (by decide +kernel) rfl) pa_nil))))) (pw_or1 (pt_not (pt_val (pe_call G_is_length hr (by rfl) m_is_length k_is_length b_is_length v_is_length pass0 (pa_cons (pe_callB (lenK (K := K) rfl) (by rfl) T.b_len PySem.boot_len (pa_cons (pv 0) pa_nil)) pa_nil)))))))
        (pss_one (ps_ret pe_bl))
        pss_nil)
      (pss_one (ps_ret (pe_callB (allK (K := K) rfl rfl) (by rfl) T.b_all (by decide +kernel) (pa_cons (pe_lc (own := [("word", 1)]) (g := gName 1) (tt := tYes) rfl sc_are_levels.nd (pi_list (pv 0)) (blkOk_by (own := [("word", 1)]) (N := N_are_levels) (sc := defScope s_are_levels) (by decide +kernel)) (fun _ _ _ _ _ => (pg_name (i := 1) sc_are_levels.nd rfl (.inl rfl))) (fun _ _ _ _ _ => pts_nil) (fun _ _ _ _ _ => (pe_call G_is_word (hr.mono (by decide)) (by rfl) m_is_word k_is_word b_is_word v_is_word pass0 (pa_cons (pv 1) pa_nil)))) pa_nil))))), ?_⟩
    refine ⟨.ref q, rfl, _, _, _, _, true, rfl, .ty "list", tyx_list hL, kit_ty (by decide +kernel), true, rfl, iteF ?_⟩
    refine ⟨.ref q, rfl, q, _, rfl, .inl hL, _, rfl, ?_, ?_, true, rfl, iteF ?_⟩
    · rw [List.length_map]
      omega
    · rw [List.length_map]
      omega
    refine ⟨.ref q, rfl, q, rfl, ⟨_, hL⟩, fun D hD => lc_list (K := K) (a := q) (xs := ws.map lvV) (fun i H' => Same H H' ∧ H' D = some (.lst ((List.replicate i true).map V.bl)))
      ⟨same_upd hD, upd_same⟩ (fun i H' _ ⟨sm, _⟩ => sm.seq hL) ?_ ?_⟩
    · rintro i x H' hx ⟨sm, eD⟩
      obtain ⟨b, rfl⟩ : ∃ b, x = lvV b := by
        rw [List.getElem?_map] at hx
        cases e : ws[i]? with
        | none =>
          rw [e] at hx
          cases hx
        | some b =>
          rw [e] at hx
          exact ⟨b, (Option.some.inj hx).symm⟩
      have hi : i < (ws.map lvV).length := (List.getElem?_eq_some_iff.mp hx).1
      rw [List.length_map] at hi
      refine ⟨rfl, yesT (iteT ?_)⟩
      refine ⟨_, rfl, b, rfl, _, eD, ?_, fun c o e => ?_, ?_⟩
      · rw [List.length_map, List.length_replicate]
        exact sizeLine_ge (by omega)
      · rw [upd_ne (ne_of_none e hD)]
        exact sm _ _ e
      · rw [upd_same, List.replicate_succ', List.map_append]
        rfl
    · rintro H1 ⟨s1, eD⟩
      refine ⟨D, _, rfl, SqL.of eD, ?_⟩
      have ea : (List.replicate (ws.map lvV).length true).all id = true := by
        rw [List.all_replicate]
        simp
      rw [ea]
      exact c H1 s1
def spCheckLevels (K : PySem.W.Frag) : Sp := fun vs H Q _ => ∃ (q : Addr) (ws : List Bool), vs = [.ref q] ∧ SqL K H q (ws.map lvV) ∧ ws ≠ [] ∧ ws.length ≤ 60 ∧ ∀ H', Same H H' → Q .non H'
theorem ok_check_levels {f : Addr} {fd : FuncData} (F : Fun K "check_levels" "check_levels" s_check_levels f fd) (h1 : Has P w K mg base 3 "are_levels" ["given"] [] (spAreLevels K)) : FnOk P w K mg base CX0 4 f fd ["levels"] (spCheckLevels K) := by
  obtain ⟨f_are_levels, fd_are_levels, ds_are_levels, G_are_levels, m_are_levels, k_are_levels, b_are_levels, v_are_levels⟩ := h1
  refine F.ok sc_check_levels (fun vs H Q E h => ?_) (fun cdv A outer s H vs Q E hr h => ?_)
  · obtain ⟨q, ws, rfl, _⟩ := h
    rfl
  · obtain ⟨q, ws, rfl, hL, hne, h60, c⟩ := h
    refine ⟨_, (pss_one (ps_if (pt_not (pt_val (pe_call G_are_levels hr (by rfl) m_are_levels k_are_levels b_are_levels v_are_levels pass0 (pa_cons (pv 0) pa_nil))))
        (pss_one ps_never)
        pss_nil)), ?_⟩
    exact ⟨_, rfl, q, ws, rfl, hL, hne, h60, fun H1 s1 => ⟨true, rfl, iteF (c H1 s1)⟩⟩
end
section
variable {P : Program} {w : World} {K : PySem.W.Frag} {mg : Str → Option Value} {base : Heap}
def spFront (K : PySem.W.Frag) : Sp := fun vs H Q _ => ∃ (b n d lo : Nat) (q : Addr) (ws : List Bool), vs = [.int (b : Nat), .ref q, .int (n : Nat), .int (d : Nat), .int (lo : Nat)] ∧ 2 ≤ b ∧ b ≤ 64 ∧ n < d ∧ d < 2 ^ 250 ∧ SqL K H q (ws.map lvV) ∧ ws ≠ [] ∧
  ∀ k, IsLev b n d k → ∀ H', Same H H' → Q (.bl (frontOf ws lo (rowsOf b n d k))) H'
theorem ok_goes_in_front {f : Addr} {fd : FuncData} (F : Fun K "goes_in_front" "goes_in_front" s_goes_in_front f fd) (h1 : Has P w K mg base 2 "path" ["base", "now", "due"] [] spPath) (h2 : Has P w K mg base 1 "word_at" ["levels", "level"] [] (spWordAt K)) :
    FnOk P w K mg base CX0 3 f fd ["base", "levels", "now", "due", "lowest"] (spFront K) := by
  obtain ⟨f_path, fd_path, ds_path, G_path, m_path, k_path, b_path, v_path⟩ := h1
  obtain ⟨f_word_at, fd_word_at, ds_word_at, G_word_at, m_word_at, k_word_at, b_word_at, v_word_at⟩ := h2
  refine F.ok sc_goes_in_front (fun vs H Q E h => ?_) (fun cdv A outer s H vs Q E hr h => ?_)
  · obtain ⟨b, n, d, lo, q, ws, rfl, _⟩ := h
    rfl
  · obtain ⟨b, n, d, lo, q, ws, rfl, hb, hb64, hnd, hd, hL, hne, c⟩ := h
    refine ⟨_, (pss_cons (ps_set (i := 5) sc_goes_in_front.nd rfl (.inl rfl) pe_bl)
      (pss_cons (ps_for PassesOwn.never rfl (pi_list (pe_call G_path hr (by rfl) m_path k_path b_path v_path pass0 (pa_cons (pv 0) (pa_cons (pv 2) (pa_cons (pv 3) pa_nil))))) (pg_tupK (K := K) (n := 3) rfl rfl (pgs_cons (pg_name (i := 6) sc_goes_in_front.nd rfl (.inl rfl)) (pgs_cons (pg_name (i := 7) sc_goes_in_front.nd rfl (.inl rfl)) (pgs_cons (pg_name (i := 8) sc_goes_in_front.nd rfl (.inl rfl)) pgs_nil))))
        (pss_one (ps_if (PW.pt (pw_and (pt_cmpR op_ge (pv 6) (pv 4) (nomark _)) (pw_and1 (pt_cmpR op_eq (pe_call G_word_at (hr.mono (by decide)) (by rfl) m_word_at k_word_at b_word_at v_word_at pass0 (pa_cons (pv 1) (pa_cons (pv 6) pa_nil))) pe_str (nomark _)))))
          (pss_one (ps_set (i := 5) sc_goes_in_front.nd rfl (.inl rfl) (pe_not (pv 5))))
          pss_nil)))
      (pss_one (ps_ret (pv 5))))), ?_⟩
    refine ⟨_, rfl, _, rfl, _, rfl, b, n, d, rfl, hb, hb64, hnd, hd, fun k hk H1 p ts s1 hp0 hp R => ?_⟩
    refine ⟨p, rfl, ⟨_, SqL.of hp⟩, for_list (K := K) (a := p) (xs := ts.map V.ref) (fun i σ H' => ∃ y6 y7 y8, σ = [some (.int (b : Nat)), some (.ref q), some (.int (n : Nat)), some (.int (d : Nat)), some (.int (lo : Nat)), some (.bl (frontOf ws lo ((rowsOf b n d k).take i))), y6, y7, y8] ∧ H' = H1)
      ⟨none, none, none, rfl, rfl⟩ (fun i σ H' _ ⟨_, _, _, _, e⟩ => by rw [e]; exact SqL.of hp) ?_ ?_⟩
    · rintro i x σ H' hx ⟨y6, y7, y8, rfl, rfl⟩
      obtain ⟨ti, r, rfl, hti, hr, er⟩ := R.item hx
      have hstep : frontOf ws lo ((rowsOf b n d k).take (i + 1)) = if (decide (lo ≤ r.1) && wordAt ws r.1) = true then !frontOf ws lo ((rowsOf b n d k).take i) else frontOf ws lo ((rowsOf b n d k).take i) := by
        rw [List.take_add_one, hr]
        exact front_snoc ws lo _ r
      refine ⟨ti, _, rfl, .inl (.inl er), rfl, _, _, rfl, _, _, rfl, _, _, rfl, rfl, ?_⟩
      have hL1 := s1.seq hL
      by_cases hlo : lo ≤ r.1
      · refine ⟨_, rfl, _, rfl, _, _, rfl, rfl, true, dT (by omega), iteT ?_⟩
        refine ⟨_, rfl, _, rfl, q, ws, r.1, rfl, hL1, hne, ?_, wordAt ws r.1, congrArg V.bl (lv_dec _), ?_⟩
        · cases wordAt ws r.1 <;> rfl
        cases hw : wordAt ws r.1 with
        | true =>
          refine iteT ⟨_, rfl, _, rfl, ⟨some (.int (r.1 : Nat)), some (.int (r.2.1 : Nat)), some (.int (r.2.2 : Nat)), ?_, rfl⟩⟩
          rw [hstep, hw, decide_eq_true hlo]
          rfl
        | false =>
          refine iteF ⟨some (.int (r.1 : Nat)), some (.int (r.2.1 : Nat)), some (.int (r.2.2 : Nat)), ?_, rfl⟩
          rw [hstep, hw, decide_eq_true hlo]
          rfl
      · refine ⟨_, rfl, _, rfl, _, _, rfl, rfl, false, dF (by omega), iteF (iteF ⟨some (.int (r.1 : Nat)), some (.int (r.2.1 : Nat)), some (.int (r.2.2 : Nat)), ?_, rfl⟩)⟩
        rw [hstep, decide_eq_false hlo]
        rfl
    · rintro σ H' ⟨y6, y7, y8, rfl, rfl⟩
      have e : (rowsOf b n d k).take (ts.map V.ref).length = rowsOf b n d k := by
        refine List.take_of_length_le ?_
        rw [List.length_map]
        exact Nat.le_of_eq R.len.symm
      rw [e]
      exact ⟨_, rfl, c k hk _ s1⟩
end
/-! ### the dict of live timers -/
def LiveK (H : Hp) : List (Key × V) → List Tm → Prop
  | [], [] => True
  | kv :: kvs, m :: ms => kv.1 = Sum.inl (m.num : Int) ∧ (∃ t, kv.2 = .ref t ∧ H t = some (.tup (tmV m))) ∧ LiveK H kvs ms
  | _, _ => False
theorem LiveK.frame {H H' : Hp} (s : ∀ t m, H t = some (.tup (tmV m)) → H' t = some (.tup (tmV m))) : ∀ {kvs : List (Key × V)} {ms : List Tm}, LiveK H kvs ms → LiveK H' kvs ms
  | [], [], _ => trivial
  | _ :: _, _ :: _, ⟨h1, ⟨t, h2, h3⟩, h4⟩ => ⟨h1, ⟨t, h2, s _ _ h3⟩, h4.frame s⟩
  | [], _ :: _, h => h.elim
  | _ :: _, [], h => h.elim
theorem LiveK.same {H H' : Hp} (s : Same H H') {kvs : List (Key × V)} {ms : List Tm} (h : LiveK H kvs ms) : LiveK H' kvs ms := h.frame fun _ _ e => s _ _ e
/-- a place that holds no tuple may change -/
theorem LiveK.upd {H : Hp} {l : Addr} {o o' : HO} (hl : H l = some o) (hn : ∀ xs, o ≠ .tup xs) {kvs : List (Key × V)} {ms : List Tm} (h : LiveK H kvs ms) : LiveK (upd H l o') kvs ms := h.frame fun t m e => by
  rw [upd_ne fun z => ?_]
  · exact e
  · rw [z, hl] at e
    exact hn _ (Option.some.inj e)
theorem LiveK.len {H : Hp} : ∀ {kvs : List (Key × V)} {ms : List Tm}, LiveK H kvs ms → kvs.length = ms.length
  | [], [], _ => rfl
  | _ :: _, _ :: _, h => congrArg Nat.succ h.2.2.len
  | [], _ :: _, h => h.elim
  | _ :: _, [], h => h.elim
theorem LiveK.keys {H : Hp} : ∀ {kvs : List (Key × V)} {ms : List Tm}, LiveK H kvs ms → kvs.map (·.1) = ms.map fun m => Sum.inl (m.num : Int)
  | [], [], _ => rfl
  | kv :: kvs, m :: ms, h => by
    rw [List.map_cons, List.map_cons, h.1, h.2.2.keys]
  | [], _ :: _, h => h.elim
  | _ :: _, [], h => h.elim
theorem LiveK.get {H : Hp} : ∀ {kvs : List (Key × V)} {ms : List Tm} {i : Nat} {k : Key} {v : V}, LiveK H kvs ms → kvs[i]? = some (k, v) → ∃ m t, ms[i]? = some m ∧ k = Sum.inl (m.num : Int) ∧ v = .ref t ∧ H t = some (.tup (tmV m))
  | kv :: _, m :: _, 0, k, v, ⟨h1, ⟨t, h2, h3⟩, _⟩, e => by
    cases Option.some.inj e
    exact ⟨m, t, rfl, h1, h2, h3⟩
  | _ :: _, _ :: _, i + 1, _, _, h, e => h.2.2.get (i := i) e
  | [], _, _, _, _, _, e => by simp at e
  | _ :: _, [], _, _, _, h, _ => h.elim
theorem LiveK.snoc {H : Hp} {k : Key} {t : Addr} {m : Tm} : ∀ {kvs : List (Key × V)} {ms : List Tm}, LiveK H kvs ms → k = Sum.inl (m.num : Int) → H t = some (.tup (tmV m)) → LiveK H (kvs ++ [(k, .ref t)]) (ms ++ [m])
  | [], [], _, h1, h2 => ⟨h1, ⟨t, rfl, h2⟩, trivial⟩
  | _ :: _, _ :: _, h, h1, h2 => ⟨h.1, h.2.1, h.2.2.snoc h1 h2⟩
  | [], _ :: _, h, _, _ => h.elim
  | _ :: _, [], h, _, _ => h.elim
theorem inl_num {a b : Nat} : (Sum.inl (a : Int) : Key) = Sum.inl (b : Int) ↔ a = b := ⟨fun e => Int.ofNat.inj (Sum.inl.inj e), fun e => by rw [e]⟩
theorem LiveK.drop {H : Hp} {n : Nat} : ∀ {kvs : List (Key × V)} {ms : List Tm}, LiveK H kvs ms → LiveK H (dropK kvs (Sum.inl (n : Int))) (dropT n ms)
  | [], [], _ => trivial
  | kv :: kvs, m :: ms, h => by
    by_cases e : m.num = n
    · have e1 : kv.1 = (Sum.inl (n : Int) : Key) := by rw [h.1, e]
      have e2 : dropT n (m :: ms) = dropT n ms := by
        unfold dropT
        rw [List.filter_cons, if_neg (by simp [e])]
      rw [dropK_pos e1, e2]
      exact h.2.2.drop
    · have e1 : ¬ kv.1 = (Sum.inl (n : Int) : Key) := by
        rw [h.1]
        exact fun z => e (inl_num.mp z)
      have e2 : dropT n (m :: ms) = m :: dropT n ms := by
        unfold dropT
        rw [List.filter_cons, if_pos (by simp [e])]
      rw [dropK_neg e1, e2]
      exact ⟨h.1, h.2.1, h.2.2.drop⟩
  | [], _ :: _, h => h.elim
  | _ :: _, [], h => h.elim
theorem LiveK.val {H : Hp} {n : Nat} : ∀ {kvs : List (Key × V)} {ms : List Tm}, LiveK H kvs ms → match ms.find? fun m => decide (m.num = n) with
    | none => valV kvs (Sum.inl (n : Int)) = none
    | some m => ∃ t, valV kvs (Sum.inl (n : Int)) = some (.ref t) ∧ H t = some (.tup (tmV m))
  | [], [], _ => rfl
  | kv :: kvs, m :: ms, h => by
    by_cases e : m.num = n
    · have e1 : kv.1 = (Sum.inl (n : Int) : Key) := by rw [h.1, e]
      rw [List.find?_cons_of_pos (by simpa using e), valV_pos e1]
      obtain ⟨t, h2, h3⟩ := h.2.1
      exact ⟨t, by rw [h2], h3⟩
    · have e1 : ¬ kv.1 = (Sum.inl (n : Int) : Key) := by
        rw [h.1]
        exact fun z => e (inl_num.mp z)
      rw [List.find?_cons_of_neg (by simpa using e), valV_neg e1]
      exact h.2.2.val
  | [], _ :: _, h => h.elim
  | _ :: _, [], h => h.elim
theorem find_of {ms : List Tm} {m : Tm} (nd : (ms.map (·.num)).Nodup) (h : m ∈ ms) : ms.find? (fun x => decide (x.num = m.num)) = some m := by
  induction ms with
  | nil => cases h
  | cons a r ih =>
    rw [List.map_cons, List.nodup_cons] at nd
    rcases List.mem_cons.mp h with e | h
    · rw [e]
      exact List.find?_cons_of_pos (by simp)
    · have hne : ¬ a.num = m.num := fun e => nd.1 (by rw [e]; exact List.mem_map_of_mem h)
      rw [List.find?_cons_of_neg (by simpa using hne)]
      exact ih nd.2 h
theorem LiveK.val_of {H : Hp} {kvs : List (Key × V)} {ms : List Tm} {m : Tm} (h : LiveK H kvs ms) (nd : (ms.map (·.num)).Nodup) (hm : m ∈ ms) : ∃ t, valV kvs (Sum.inl (m.num : Int)) = some (.ref t) ∧ H t = some (.tup (tmV m)) := by
  have z := h.val (n := m.num)
  rw [find_of nd hm] at z
  exact z
theorem LiveK.val_not {H : Hp} {kvs : List (Key × V)} {ms : List Tm} {n : Nat} (h : LiveK H kvs ms) (hn : ∀ m ∈ ms, m.num ≠ n) : valV kvs (Sum.inl (n : Int)) = none := by
  have z := h.val (n := n)
  rw [List.find?_eq_none.mpr (fun m hm => by simpa using hn m hm)] at z
  exact z
theorem unlock {H H1 : Hp} {l : Addr} {u : HO} {od : Obj} (h : H l = some u) (s : Same (upd H l (.frz od u)) H1) : Same H (upd H1 l u) := fun c o e => by
  by_cases z : c = l
  · rw [z] at e ⊢
    rw [upd_same]
    exact h.symm.trans e
  · rw [upd_ne z]
    exact s c o (by rw [upd_ne z]; exact e)
theorem lock_same {H : Hp} {l : Addr} {u : HO} {o' : HO} {c : Addr} {o : HO} (h : H l = some u) (e : H c = some o) (hn : u ≠ o) : upd H l o' c = some o := by
  rw [upd_ne fun z => hn (by rw [z, h] at e; exact Option.some.inj e)]
  exact e
theorem sq_lock {K : PySem.W.Frag} {H : Hp} {l q : Addr} {kvs : List (Key × V)} {o' : HO} {xs : List V} (h : H l = some (.dK kvs)) (hq : SqL K H q xs) : SqL K (upd H l o') q xs := by
  rcases hq with (e | ⟨o, e⟩) | e
  · exact .inl (.inl (lock_same h e (by intro z; cases z)))
  · exact .inl (.inr ⟨o, lock_same h e (by intro z; cases z)⟩)
  · exact .inr e
/-- a loop over d.items() -/
theorem for_items {d : Addr} {o : Obj} {kvs : List (Key × V)} {g : TG} {tb : TS} {D : Ends} {σ : L2.St} {H : Hp} (Pv : Nat → L2.St → Hp → Prop) (h0 : Pv 0 σ H) (hq : ∀ i σ H, Pv i σ H → H d = some (.frz o (.dK kvs)))
    (hs : ∀ (i : Nat) (k : Key) (v : V) (T : Addr) (σ : L2.St) (H : Hp), kvs[i]? = some (k, v) → Pv i σ H → H T = none → g (.ref T) σ (upd H T (.tup [kV k, v])) fun σ2 H2 => tb { D with nx := Pv (i + 1), ct := Pv (i + 1), bk := D.nx } σ2 H2) (hd : ∀ σ H, Pv kvs.length σ H → D.nx σ H) :
    ∃ W : Nat → Nat → L2.St → Hp → Prop, (∃ m, W 0 m σ H) ∧ ∀ i m σ H, W i m σ H →
      ((Iti d o kvs).stop i H ∧ D.nx σ H) ∨ ((Iti d o kvs).go i H ∧ ∃ N : L2.St → Hp → Prop, (∀ σ' H', N σ' H' → ∃ m', m' < m ∧ W (i + 1) m' σ' H') ∧ ∀ v H', (Iti d o kvs).yld i H v H' → g v σ H' fun σ2 H2 => tb { D with nx := N, ct := N, bk := D.nx } σ2 H2) := by
  refine ⟨fun i m σ H => m = kvs.length - i ∧ i ≤ kvs.length ∧ Pv i σ H, ⟨kvs.length, rfl, Nat.zero_le _, h0⟩, ?_⟩
  rintro i m σ H ⟨rfl, hi, p⟩
  have qx := hq i σ H p
  by_cases hlt : i < kvs.length
  · refine .inr ⟨⟨qx, hlt⟩, Pv (i + 1), fun σ' H' p' => ⟨kvs.length - (i + 1), by omega, rfl, hlt, p'⟩, fun x H' y => ?_⟩
    obtain ⟨T, k, v, e, rfl, nT, rfl⟩ := y
    exact hs i k v T σ H e p nT
  · have e : i = kvs.length := by omega
    subst e
    exact .inl ⟨⟨qx, Nat.le_refl _⟩, hd σ H p⟩
/-- a loop over d.values() -/
theorem for_values {d : Addr} {o : Obj} {kvs : List (Key × V)} {g : TG} {tb : TS} {D : Ends} {σ : L2.St} {H : Hp} (Pv : Nat → L2.St → Hp → Prop) (h0 : Pv 0 σ H) (hq : ∀ i σ H, Pv i σ H → H d = some (.frz o (.dK kvs)))
    (hs : ∀ (i : Nat) (k : Key) (v : V) (σ : L2.St) (H : Hp), kvs[i]? = some (k, v) → Pv i σ H → g v σ H fun σ2 H2 => tb { D with nx := Pv (i + 1), ct := Pv (i + 1), bk := D.nx } σ2 H2) (hd : ∀ σ H, Pv kvs.length σ H → D.nx σ H) :
    ∃ W : Nat → Nat → L2.St → Hp → Prop, (∃ m, W 0 m σ H) ∧ ∀ i m σ H, W i m σ H →
      ((Itd d o kvs).stop i H ∧ D.nx σ H) ∨ ((Itd d o kvs).go i H ∧ ∃ N : L2.St → Hp → Prop, (∀ σ' H', N σ' H' → ∃ m', m' < m ∧ W (i + 1) m' σ' H') ∧ ∀ v H', (Itd d o kvs).yld i H v H' → g v σ H' fun σ2 H2 => tb { D with nx := N, ct := N, bk := D.nx } σ2 H2) := by
  refine ⟨fun i m σ H => m = kvs.length - i ∧ i ≤ kvs.length ∧ Pv i σ H, ⟨kvs.length, rfl, Nat.zero_le _, h0⟩, ?_⟩
  rintro i m σ H ⟨rfl, hi, p⟩
  have qx := hq i σ H p
  by_cases hlt : i < kvs.length
  · refine .inr ⟨⟨qx, hlt⟩, Pv (i + 1), fun σ' H' p' => ⟨kvs.length - (i + 1), by omega, rfl, hlt, p'⟩, fun x H' y => ?_⟩
    obtain ⟨rfl, k, e⟩ := y
    exact hs i k x σ H' e p
  · have e : i = kvs.length := by omega
    subst e
    exact .inl ⟨⟨qx, Nat.le_refl _⟩, hd σ H p⟩
/-- a comprehension over d.values() -/
theorem lc_values {d : Addr} {o : Obj} {kvs : List (Key × V)} {g : TG} {tt : TT} {te : TE} {vs : List Nat} {σ : L2.St} {H1 : Hp} {D : Addr} {Qd : Hp → Prop} (Pv : Nat → Hp → Prop) (h0 : Pv 0 (upd H1 D (.lst []))) (hq : ∀ i H, Pv i H → H d = some (.frz o (.dK kvs)))
    (hs : ∀ i k x H, kvs[i]? = some (k, x) → Pv i H → g x (wipe σ vs) H fun σ2 H2 => wipe σ2 vs = wipe σ vs ∧ tt σ2 H2 fun b H3 =>
      if b = true then te σ2 H3 fun y H4 => ∃ acc, H4 D = some (.lst acc) ∧ acc.length < sizeLine ∧ Pv (i + 1) (upd H4 D (.lst (acc ++ [y]))) else Pv (i + 1) H3) (hd : ∀ H, Pv kvs.length H → Qd H) :
    ∃ W : Nat → Nat → Hp → Prop, (∃ m, W 0 m (upd H1 D (.lst []))) ∧ ∀ i m H, W i m H →
      ((Itd d o kvs).stop i H ∧ Qd H) ∨ ((Itd d o kvs).go i H ∧ ∃ Nx : Hp → Prop, (∀ H', Nx H' → ∃ m', m' < m ∧ W (i + 1) m' H') ∧ ∀ x H', (Itd d o kvs).yld i H x H' → g x (wipe σ vs) H' fun σ2 H2 => wipe σ2 vs = wipe σ vs ∧ tt σ2 H2 fun b H3 =>
        if b = true then te σ2 H3 fun y H4 => ∃ acc, H4 D = some (.lst acc) ∧ acc.length < sizeLine ∧ Nx (upd H4 D (.lst (acc ++ [y]))) else Nx H3) := by
  refine ⟨fun i m H => m = kvs.length - i ∧ i ≤ kvs.length ∧ Pv i H, ⟨kvs.length, rfl, Nat.zero_le _, h0⟩, ?_⟩
  rintro i m H ⟨rfl, hi, p⟩
  have qx := hq i H p
  by_cases hlt : i < kvs.length
  · refine .inr ⟨⟨qx, hlt⟩, Pv (i + 1), fun H' p' => ⟨kvs.length - (i + 1), by omega, rfl, hlt, p'⟩, fun x H' y => ?_⟩
    obtain ⟨rfl, k, e⟩ := y
    exact hs i k x H' e p
  · have e : i = kvs.length := by omega
    subst e
    exact .inl ⟨⟨qx, Nat.le_refl _⟩, hd H p⟩
section
variable {P : Program} {w : World} {K : PySem.W.Frag} {mg : Str → Option Value} {base : Heap}
def spLeast : Sp := fun vs H Q _ => ∃ (l : Addr) (kvs : List (Key × V)) (ms : List Tm), vs = [.ref l] ∧ H l = some (.dK kvs) ∧ LiveK H kvs ms ∧ ms.length ≤ 1000 ∧ ∀ H', Same H H' → Q (perV (leastD ms)) H'
theorem min_least {ms : List Tm} {Q : V → Prop} (q : Q (perV (leastD ms))) : (ms.map (fun m => (m.due : Int)) = [] → Q .non) ∧ ∀ v ∈ ms.map (fun m => (m.due : Int)), (∀ x ∈ ms.map (fun m => (m.due : Int)), v ≤ x) → Q (.int v) := by
  refine ⟨fun e => ?_, fun v hv hx => ?_⟩
  · rw [least_none.mpr (List.map_eq_nil_iff.mp e)] at q
    exact q
  · obtain ⟨m, hm, rfl⟩ := List.mem_map.mp hv
    have e : leastD ms = some m.due := least_some.mpr ⟨List.mem_map_of_mem hm, fun x h => by
      obtain ⟨m', hm', rfl⟩ := List.mem_map.mp h
      exact Int.ofNat_le.mp (hx _ (List.mem_map_of_mem hm'))⟩
    rw [e] at q
    exact q
theorem ok_least_due {f : Addr} {fd : FuncData} (F : Fun K "least_due" "least_due" s_least_due f fd) (T : Tx K mg) : FnOk P w K mg base CX0 1 f fd ["live"] spLeast := by
  refine F.ok sc_least_due (fun vs H Q E h => ?_) (fun cdv A outer s H vs Q E hr h => ?_)
  · obtain ⟨l, kvs, ms, rfl, _⟩ := h
    rfl
  · obtain ⟨l, kvs, ms, rfl, hl, L, few, q⟩ := h
    refine ⟨_, (pss_one (ps_ret (pe_callBK (minDef (K := K) rfl rfl hr.units) (by rfl) T.b_min (by decide +kernel) (pa_cons (pe_lock (pe_lc (own := [("due", 1), ("period", 2), ("since", 3)]) (g := _) (tt := tYes) rfl sc_least_due.nd (pi_values (pv 0)) (blkOk_by (own := [("due", 1), ("period", 2), ("since", 3)]) (N := N_least_due) (sc := defScope s_least_due) (by decide +kernel)) (fun _ _ _ _ _ => (pg_tupK (K := K) (n := 3) rfl rfl (pgs_cons (pg_name (i := 1) sc_least_due.nd rfl (.inl rfl)) (pgs_cons (pg_name (i := 2) sc_least_due.nd rfl (.inl rfl)) (pgs_cons (pg_name (i := 3) sc_least_due.nd rfl (.inl rfl)) pgs_nil))))) (fun _ _ _ _ _ => pts_nil) (fun _ _ _ _ _ => (pv 1)))) pa_nil) (pk_cons pe_non pk_nil)))), ?_⟩
    refine ⟨l, _, hl, trivial, fun od => ?_⟩
    refine ⟨_, rfl, l, od, kvs, rfl, upd_same, fun D hD => lc_values (d := l) (o := od) (kvs := kvs) (fun i H' => Same (upd H l (.frz od (.dK kvs))) H' ∧ H' D = some (.lst ((ms.take i).map fun m => V.int (m.due : Nat))))
      ⟨same_upd hD, upd_same⟩ (fun i H' ⟨sm, _⟩ => sm _ _ upd_same) ?_ ?_⟩
    · rintro i k x H' hx ⟨sm, eD⟩
      have L' := L.upd (o' := .frz od (.dK kvs)) hl (fun xs z => by cases z)
      obtain ⟨m, t, hm, rfl, rfl, ht⟩ := L'.get hx
      refine ⟨t, _, rfl, .inl (.inl (sm _ _ ht)), rfl, _, _, rfl, _, _, rfl, _, _, rfl, rfl, rfl, yesT (iteT ?_)⟩
      refine ⟨_, rfl, _, eD, ?_, fun c o e => ?_, ?_⟩
      · rw [List.length_map, List.length_take]
        exact sizeLine_ge (by omega)
      · rw [upd_ne (ne_of_none e hD)]
        exact sm _ _ e
      · rw [upd_same, List.take_add_one, hm, List.map_append]
        rfl
    · rintro H1 ⟨sm, eD⟩
      rw [L.len, List.take_length] at eD
      have nDl : D ≠ l := fun e => by
        rw [e, upd_same] at hD
        cases hD
      have s2 := unlock hl sm
      have eD2 : (upd H1 l (.dK kvs)) D = some (.lst ((ms.map fun m => (m.due : Int)).map V.int)) := by
        rw [upd_ne nDl, eD, List.map_map]
        rfl
      refine ⟨sm _ _ upd_same, D, ms.map fun m => (m.due : Int), rfl, rfl, SqL.of eD2, ?_⟩
      exact min_least (Q := fun v => Q v (upd H1 l (.dK kvs))) (q _ s2)
end
/-! ### what fires, what is left -/
section
variable {P : Program} {w : World} {K : PySem.W.Frag} {mg : Str → Option Value} {base : Heap}
def spWithTimer : Sp := fun vs H Q _ => ∃ (a : Addr) (xs : List Nat) (n : Nat) (f : Bool), vs = [.ref a, .int (n : Nat), .bl f] ∧ H a = some (.lst (xs.map fun x => V.int (x : Nat))) ∧ xs.length ≤ 1000 ∧ ∀ H' p, Same H H' → H p = none → H' p = some (.lst ((insT f n xs).map fun x => V.int (x : Nat))) → Q (.ref p) H'
theorem ok_with_timer {f : Addr} {fd : FuncData} (F : Fun K "with_timer" "with_timer" s_with_timer f fd) : FnOk P w K mg base CX0 1 f fd ["numbers", "number", "front"] spWithTimer := by
  refine F.ok sc_with_timer (fun vs H Q E h => ?_) (fun cdv A outer s H vs Q E hr h => ?_)
  · obtain ⟨a, xs, n, fr, rfl, _⟩ := h
    rfl
  · obtain ⟨a, xs, n, fr, rfl, ha, hl, q⟩ := h
    refine ⟨_, (pss_cons (ps_if (pt_val (pv 2))
        (pss_one (ps_ret (pe_op op_cat (pe_lst (pa_cons (pv 1) pa_nil)) (pv 0))))
        pss_nil)
      (pss_one (ps_ret (pe_op op_cat (pv 0) (pe_lst (pa_cons (pv 1) pa_nil)))))), ?_⟩
    refine ⟨_, rfl, fr, rfl, ?_⟩
    cases fr with
    | true =>
      refine iteT ⟨_, rfl, by simp [sizeLine_eq], fun p1 h1 => ?_⟩
      have s1 := same_upd (o := .lst [.int (n : Nat)]) h1
      refine ⟨_, rfl, p1, a, _, _, rfl, rfl, upd_same, s1 _ _ ha, ?_, fun p hp => ?_⟩
      · rw [List.length_map]
        exact sizeLine_le (by show 1 + xs.length ≤ 1000000; omega)
      · exact q _ p (s1.trans (same_upd hp)) (s1.free hp) upd_same
    | false =>
      refine iteF ⟨_, rfl, _, rfl, by simp [sizeLine_eq], fun p1 h1 => ?_⟩
      have s1 := same_upd (o := .lst [.int (n : Nat)]) h1
      refine ⟨a, p1, _, _, rfl, rfl, s1 _ _ ha, upd_same, ?_, fun p hp => ?_⟩
      · rw [List.length_map]
        exact sizeLine_le (by show xs.length + 1 ≤ 1000000; omega)
      · refine q _ p (s1.trans (same_upd hp)) (s1.free hp) ?_
        rw [upd_same]
        unfold insT
        rw [if_neg (by decide), List.map_append]
        rfl
end
/-- the order of timers that are set at these ticks and due at one tick -/
noncomputable def orderP (b : Nat) (ws : List Bool) (d : Nat) (ps : List (Nat × Nat)) : List Nat := ps.foldl (fun acc r => insT (sideT b ws r.2 d 0) r.1 acc) []
theorem orderP_snoc (b : Nat) (ws : List Bool) (d : Nat) (ps : List (Nat × Nat)) (r : Nat × Nat) : orderP b ws d (ps ++ [r]) = insT (sideT b ws r.2 d 0) r.1 (orderP b ws d ps) := by
  unfold orderP
  rw [List.foldl_append]
  rfl
theorem orderP_len (b : Nat) (ws : List Bool) (d : Nat) (ps : List (Nat × Nat)) : (orderP b ws d ps).length = ps.length := by
  have H : ∀ (ps : List (Nat × Nat)) (acc : List Nat), (ps.foldl (fun acc r => insT (sideT b ws r.2 d 0) r.1 acc) acc).length = acc.length + ps.length := by
    intro ps
    induction ps with
    | nil => intro acc; rfl
    | cons r ps ih =>
      intro acc
      rw [List.foldl_cons, ih, insT_len, List.length_cons]
      omega
  have z := H ps []
  rw [List.length_nil, Nat.zero_add] at z
  exact z
def setsOf (t : Nat) (ms : List Tm) : List (Nat × Nat) := (ms.filter fun m => decide (m.due = t)).map fun m => (m.num, m.since)
theorem order_P (b : Nat) (ws : List Bool) (t : Nat) (ms : List Tm) : orderAt b ws t ms = orderP b ws t (setsOf t ms) := by
  have H : ∀ (ms : List Tm) (acc : List Nat), ms.foldl (fun acc m => if m.due = t then insT (sideT b ws m.since m.due 0) m.num acc else acc) acc = (setsOf t ms).foldl (fun acc r => insT (sideT b ws r.2 t 0) r.1 acc) acc := by
    intro ms
    induction ms with
    | nil => intro acc; rfl
    | cons m ms ih =>
      intro acc
      rw [List.foldl_cons, ih]
      by_cases e : m.due = t
      · have z : setsOf t (m :: ms) = (m.num, m.since) :: setsOf t ms := by
          unfold setsOf
          rw [List.filter_cons_of_pos (by simpa using e)]
          rfl
        rw [z, List.foldl_cons, if_pos e, e]
      · have z : setsOf t (m :: ms) = setsOf t ms := by
          unfold setsOf
          rw [List.filter_cons_of_neg (by simpa using e)]
        rw [z, if_neg e]
  exact H ms []
/-- at the places ts stand tuples of a number and a tick -/
def PrAt (H : Hp) : List Addr → List (Nat × Nat) → Prop
  | [], [] => True
  | t :: ts, r :: rs => H t = some (.tup [.int (r.1 : Nat), .int (r.2 : Nat)]) ∧ PrAt H ts rs
  | _, _ => False
theorem PrAt.frame {H H' : Hp} : ∀ {ts : List Addr} {rs : List (Nat × Nat)}, PrAt H ts rs → (∀ t xs, H t = some (.tup xs) → H' t = some (.tup xs)) → PrAt H' ts rs
  | [], [], _, _ => trivial
  | _ :: _, _ :: _, h, s => ⟨s _ _ h.1, h.2.frame s⟩
  | [], _ :: _, h, _ => h.elim
  | _ :: _, [], h, _ => h.elim
theorem PrAt.app {H : Hp} {t : Addr} {r : Nat × Nat} : ∀ {ts : List Addr} {rs : List (Nat × Nat)}, PrAt H ts rs → H t = some (.tup [.int (r.1 : Nat), .int (r.2 : Nat)]) → PrAt H (ts ++ [t]) (rs ++ [r])
  | [], [], _, h => ⟨h, trivial⟩
  | _ :: _, _ :: _, h, h2 => ⟨h.1, h.2.app h2⟩
  | [], _ :: _, h, _ => h.elim
  | _ :: _, [], h, _ => h.elim
theorem PrAt.len {H : Hp} : ∀ {ts : List Addr} {rs : List (Nat × Nat)}, PrAt H ts rs → ts.length = rs.length
  | [], [], _ => rfl
  | _ :: _, _ :: _, h => congrArg Nat.succ h.2.len
  | [], _ :: _, h => h.elim
  | _ :: _, [], h => h.elim
theorem PrAt.item {H : Hp} : ∀ {ts : List Addr} {rs : List (Nat × Nat)} {i : Nat} {x : V}, PrAt H ts rs → (ts.map V.ref)[i]? = some x → ∃ t r, x = V.ref t ∧ rs[i]? = some r ∧ H t = some (.tup [.int (r.1 : Nat), .int (r.2 : Nat)])
  | t :: _, r :: _, 0, x, h, e => ⟨t, r, (Option.some.inj e).symm, rfl, h.1⟩
  | _ :: _, _ :: _, i + 1, _, h, e => h.2.item (i := i) e
  | [], _, _, _, _, e => by simp at e
  | _ :: _, [], _, _, h, _ => h.elim
/-- a list made over the items of a dict -/
theorem lc_items {d : Addr} {o : Obj} {kvs : List (Key × V)} {g : TG} {tt : TT} {te : TE} {ws : List Nat} {σ : L2.St} {G : Hp} {D : Addr} {Qd : Hp → Prop} (Pv : Nat → Hp → Prop) (start : Pv 0 (upd G D (.lst []))) (lock : ∀ i G, Pv i G → G d = some (.frz o (.dK kvs)))
    (step : ∀ (i : Nat) (k : Key) (v : V) (T : Addr) (G : Hp), kvs[i]? = some (k, v) → Pv i G → G T = none → g (.ref T) (wipe σ ws) (upd G T (.tup [kV k, v])) fun τ G2 => wipe τ ws = wipe σ ws ∧ tt τ G2 fun c G3 => if c = true then te τ G3 fun z G4 => ∃ ac, G4 D = some (.lst ac) ∧ ac.length < sizeLine ∧ Pv (i + 1) (upd G4 D (.lst (ac ++ [z]))) else Pv (i + 1) G3)
    (last : ∀ G, Pv kvs.length G → Qd G) : ∃ W : Nat → Nat → Hp → Prop, (∃ m, W 0 m (upd G D (.lst []))) ∧ ∀ i m G, W i m G → ((Iti d o kvs).stop i G ∧ Qd G) ∨
      ((Iti d o kvs).go i G ∧ ∃ N : Hp → Prop, (∀ G', N G' → ∃ m', m' < m ∧ W (i + 1) m' G') ∧ ∀ x G', (Iti d o kvs).yld i G x G' → g x (wipe σ ws) G' fun τ G2 => wipe τ ws = wipe σ ws ∧ tt τ G2 fun c G3 => if c = true then te τ G3 fun z G4 => ∃ ac, G4 D = some (.lst ac) ∧ ac.length < sizeLine ∧ N (upd G4 D (.lst (ac ++ [z]))) else N G3) := by
  refine ⟨fun i m G => (m = kvs.length - i ∧ i ≤ kvs.length) ∧ Pv i G, ⟨kvs.length, ⟨rfl, Nat.zero_le _⟩, start⟩, ?_⟩
  rintro i m G ⟨⟨rfl, le⟩, pv⟩
  have here := lock i G pv
  rcases Nat.lt_or_ge i kvs.length with lt | ge
  · refine .inr ⟨⟨here, lt⟩, Pv (i + 1), fun G' p' => ⟨kvs.length - (i + 1), by omega, ⟨rfl, lt⟩, p'⟩, fun x G' y => ?_⟩
    obtain ⟨T, k, v, e, rfl, nT, rfl⟩ := y
    exact step i k v T G e pv nT
  · have e : i = kvs.length := Nat.le_antisymm le ge
    rw [e] at pv ⊢
    exact .inl ⟨⟨here, Nat.le_refl _⟩, last G pv⟩
section
variable {P : Program} {w : World} {K : PySem.W.Frag} {mg : Str → Option Value} {base : Heap}
def spFiringOrder (K : PySem.W.Frag) : Sp := fun vs H Q _ => ∃ (b d : Nat) (q S : Addr) (ws : List Bool) (ts : List Addr) (ps : List (Nat × Nat)), vs = [.int (b : Nat), .ref q, .int (d : Nat), .ref S] ∧ 2 ≤ b ∧ b ≤ 64 ∧ SqL K H q (ws.map lvV) ∧ ws ≠ [] ∧ H S = some (.lst (ts.map V.ref)) ∧ PrAt H ts ps ∧ ps.length ≤ 1000 ∧ (∀ r ∈ ps, r.2 < d ∧ d < 2 ^ 250) ∧
  ∀ H' p, Same H H' → H p = none → H' p = some (.lst ((orderP b ws d ps).map fun x => V.int (x : Nat))) → Q (.ref p) H'
theorem ok_firing_order {f : Addr} {fd : FuncData} (F : Fun K "firing_order" "firing_order" s_firing_order f fd) (h1 : Has P w K mg base 1 "with_timer" ["numbers", "number", "front"] [] spWithTimer)
    (h2 : Has P w K mg base 3 "goes_in_front" ["base", "levels", "now", "due", "lowest"] [] (spFront K)) : FnOk P w K mg base CX0 4 f fd ["base", "levels", "due", "settings"] (spFiringOrder K) := by
  obtain ⟨f_with_timer, fd_with_timer, ds_with_timer, G_with_timer, m_with_timer, k_with_timer, b_with_timer, v_with_timer⟩ := h1
  obtain ⟨f_goes_in_front, fd_goes_in_front, ds_goes_in_front, G_goes_in_front, m_goes_in_front, k_goes_in_front, b_goes_in_front, v_goes_in_front⟩ := h2
  refine F.ok sc_firing_order (fun vs H Q E h => ?_) (fun cdv A outer s H vs Q E hr h => ?_)
  · obtain ⟨b, d, q, S, ws, ts, ps, rfl, _⟩ := h
    rfl
  · obtain ⟨b, d, q, S, ws, ts, ps, rfl, hb, hb64, hL, hne, hS, hP, few, ok, c⟩ := h
    refine ⟨_, (pss_cons (ps_set (i := 4) sc_firing_order.nd rfl (.inl rfl) (pe_lst pa_nil))
      (pss_cons (ps_for PassesOwn.never rfl (pi_list (pv 3)) (pg_tupK (K := K) (n := 2) rfl rfl (pgs_cons (pg_name (i := 5) sc_firing_order.nd rfl (.inl rfl)) (pgs_cons (pg_name (i := 6) sc_firing_order.nd rfl (.inl rfl)) pgs_nil)))
        (pss_one (ps_set (i := 4) sc_firing_order.nd rfl (.inl rfl) (pe_call G_with_timer (hr.mono (by decide)) (by rfl) m_with_timer k_with_timer b_with_timer v_with_timer pass0 (pa_cons (pv 4) (pa_cons (pv 5) (pa_cons (pe_call G_goes_in_front hr (by rfl) m_goes_in_front k_goes_in_front b_goes_in_front v_goes_in_front pass0 (pa_cons (pv 0) (pa_cons (pv 1) (pa_cons (pv 6) (pa_cons (pv 2) (pa_cons pe_int pa_nil)))))) pa_nil)))))))
      (pss_one (ps_ret (pv 4))))), ?_⟩
    refine ⟨by simp [sizeLine_eq], fun p0 hp0 => ?_⟩
    have s0 := same_upd (o := .lst []) hp0
    have e0 : (upd H p0 (.lst [])) p0 = some (.lst []) := upd_same
    generalize upd H p0 (.lst []) = H0 at s0 e0 ⊢
    have hS0 := s0 _ _ hS
    refine ⟨_, rfl, S, rfl, ⟨_, SqL.of hS0⟩, for_list (K := K) (a := S) (xs := ts.map V.ref) (fun i σ H' => ∃ (p : Addr) (y5 y6 : Option V), σ = [some (.int (b : Nat)), some (.ref q), some (.int (d : Nat)), some (.ref S), some (.ref p), y5, y6] ∧ Same H0 H' ∧ H p = none ∧ H' p = some (.lst ((orderP b ws d (ps.take i)).map fun x => V.int (x : Nat))))
      ⟨p0, none, none, rfl, Same.refl _, hp0, e0⟩ (fun i σ H' _ ⟨_, _, _, _, sm, _⟩ => SqL.of (sm _ _ hS0)) ?_ ?_⟩
    · rintro i x σ H' hx ⟨p, y5, y6, rfl, sm, hp, eP⟩
      have hP' := hP.frame (H' := H') (fun t xs e => sm _ _ (s0 _ _ e))
      obtain ⟨t, r, rfl, hr2, ht⟩ := hP'.item hx
      obtain ⟨hrd, hd⟩ := ok r (List.mem_of_getElem? hr2)
      refine ⟨t, _, rfl, .inl (.inl ht), rfl, _, _, rfl, _, _, rfl, rfl, ?_⟩
      have hfew : (orderP b ws d (ps.take i)).length ≤ 1000 := by
        rw [orderP_len, List.length_take]
        omega
      refine ⟨_, rfl, _, rfl, _, rfl, _, rfl, _, rfl, _, rfl, b, r.2, d, 0, q, ws, rfl, hb, hb64, hrd, hd, (s0.trans sm).seq hL, hne, fun k2 hk2 H2 s2 => ?_⟩
      have eP2 := s2 _ _ eP
      refine ⟨p, orderP b ws d (ps.take i), r.1, frontOf ws 0 (rowsOf b r.2 d k2), rfl, eP2, hfew, fun H3 p3 s3 hp3 eP3 => ?_⟩
      refine ⟨p3, _, _, rfl, (sm.trans s2).trans s3, ((s0.trans sm).trans s2).free hp3, ?_⟩
      rw [List.take_add_one, hr2]
      show _ = some (HO.lst ((orderP b ws d (ps.take i ++ [r])).map fun x => V.int (x : Nat)))
      rw [orderP_snoc, sideT_eq hk2]
      exact eP3
    · rintro σ H' ⟨p, y5, y6, rfl, sm, hp, eP⟩
      rw [List.length_map, hP.len, List.take_length] at eP
      exact ⟨_, rfl, c _ p (s0.trans sm) hp eP⟩
end
/-! ### what fires, what is left -/
section
variable {P : Program} {w : World} {K : PySem.W.Frag} {mg : Str → Option Value} {base : Heap}
def spOrder (K : PySem.W.Frag) : Sp := fun vs H Q _ => ∃ (b t : Nat) (q l : Addr) (ws : List Bool) (kvs : List (Key × V)) (ms : List Tm), vs = [.int (b : Nat), .ref q, .ref l, .int (t : Nat)] ∧ 2 ≤ b ∧ b ≤ 64 ∧ SqL K H q (ws.map lvV) ∧ ws ≠ [] ∧ H l = some (.dK kvs) ∧ LiveK H kvs ms ∧ ms.length ≤ 1000 ∧ DuesOk ms ∧
  ∀ H' p, Same H H' → H p = none → H' p = some (.lst ((orderAt b ws t ms).map fun x => V.int (x : Nat))) → Q (.ref p) H'
theorem ok_order {f : Addr} {fd : FuncData} (F : Fun K "order_of_firing" "order_of_firing" s_order_of_firing f fd) (h1 : Has P w K mg base 4 "firing_order" ["base", "levels", "due", "settings"] [] (spFiringOrder K)) :
    FnOk P w K mg base CX0 5 f fd ["base", "levels", "live", "tick"] (spOrder K) := by
  obtain ⟨f_firing_order, fd_firing_order, ds_firing_order, G_firing_order, m_firing_order, k_firing_order, b_firing_order, v_firing_order⟩ := h1
  refine F.ok sc_order_of_firing (fun vs H Q E h => ?_) (fun cdv A outer s H vs Q E hr h => ?_)
  · obtain ⟨b, t, q, l, ws, kvs, ms, rfl, _⟩ := h
    rfl
  · obtain ⟨b, t, q, l, ws, kvs, ms, rfl, hb, hb64, hL, hne, hl, L, few, ok, c⟩ := h
    refine ⟨_, (pss_cons (ps_lock (ps_setLc (i := 4) (own := [("number", 5), ("due", 6), ("period", 7), ("since", 8)]) (g := _)  rfl sc_order_of_firing.nd rfl rfl (sw_true rfl rfl rfl (by decide +kernel)) (pi_items (pv 2)) (blkOk_by (own := [("number", 5), ("due", 6), ("period", 7), ("since", 8)]) (N := N_order_of_firing) (sc := defScope s_order_of_firing) (by decide +kernel)) (fun _ _ _ _ _ => (pg_tupK (K := K) (n := 2) rfl rfl (pgs_cons (pg_name (i := 5) sc_order_of_firing.nd rfl (.inl rfl)) (pgs_cons (pg_tupK (K := K) (n := 3) rfl rfl (pgs_cons (pg_name (i := 6) sc_order_of_firing.nd rfl (.inl rfl)) (pgs_cons (pg_name (i := 7) sc_order_of_firing.nd rfl (.inl rfl)) (pgs_cons (pg_name (i := 8) sc_order_of_firing.nd rfl (.inl rfl)) pgs_nil)))) pgs_nil)))) (fun _ _ _ _ _ => (pts_one (pt_cmpR op_eq (pv 6) (pv 3) (nomark _)))) (fun _ _ _ _ _ => (pe_tup (pa_cons (pv 5) (pa_cons (pv 8) pa_nil))))))
      (pss_one (ps_ret (pe_call G_firing_order hr (by rfl) m_firing_order k_firing_order b_firing_order v_firing_order pass0 (pa_cons (pv 0) (pa_cons (pv 1) (pa_cons (pv 3) (pa_cons (pv 4) pa_nil)))))))), ?_⟩
    refine ⟨l, _, hl, trivial, fun od => ?_⟩
    refine ⟨_, rfl, l, od, kvs, rfl, upd_same, fun D hD => lc_items (d := l) (o := od) (kvs := kvs) (fun i H' => Same (upd H l (.frz od (.dK kvs))) H' ∧ ∃ ts : List Addr, H' D = some (.lst (ts.map V.ref)) ∧ PrAt H' ts (setsOf t (ms.take i)))
      ⟨same_upd hD, [], upd_same, trivial⟩ (fun i H' ⟨sm, _⟩ => sm _ _ upd_same) ?_ ?_⟩
    · rintro i k v U H' hx ⟨sm, ts, eD, hP⟩ hU
      have L' := L.upd (o' := .frz od (.dK kvs)) hl (fun xs z => by cases z)
      obtain ⟨m, tt, hm, rfl, rfl, ht⟩ := L'.get hx
      have sU := same_upd (o := .tup [.int (m.num : Nat), .ref tt]) hU
      have ht' := sU _ _ (sm _ _ ht)
      have eD' := sU _ _ eD
      have hP' := hP.frame (H' := upd H' U (.tup [.int (m.num : Nat), .ref tt])) (fun t xs e => sU _ _ e)
      have hstep : setsOf t (ms.take (i + 1)) = setsOf t (ms.take i) ++ if m.due = t then [(m.num, m.since)] else [] := by
        rw [List.take_add_one, hm]
        show setsOf t (ms.take i ++ [m]) = _
        unfold setsOf
        rw [List.filter_append, List.map_append]
        by_cases e : m.due = t
        · rw [if_pos e, List.filter_cons_of_pos (by simpa using e)]
          rfl
        · rw [if_neg e, List.filter_cons_of_neg (by simpa using e)]
          rfl
      have hts : ts.length ≤ 1000 := by
        rw [hP.len]
        unfold setsOf
        rw [List.length_map]
        have z := List.length_filter_le (fun m : Tm => decide (m.due = t)) (ms.take i)
        rw [List.length_take] at z
        omega
      refine ⟨U, _, rfl, .inl (.inl upd_same), rfl, _, _, rfl, _, _, rfl, tt, _, rfl, .inl (.inl ht'), rfl, _, _, rfl, _, _, rfl, _, _, rfl, rfl, rfl, rfl, ?_⟩
      have sm1 := sm.trans sU
      by_cases e : m.due = t
      · refine ⟨_, rfl, _, rfl, rfl, true, dT (vE e), iteT ⟨_, rfl, _, rfl, by simp [sizeLine_eq], fun t3 ht3 => ?_⟩⟩
        have s3 := same_upd (o := .tup [.int (m.num : Nat), .int (m.since : Nat)]) ht3
        have eD3 := s3 _ _ eD'
        have n3 : t3 ≠ D := fun z => by
          rw [z] at ht3
          exact absurd (eD'.symm.trans ht3) (by intro y; cases y)
        refine ⟨_, eD3, ?_, fun c o e' => ?_, ts ++ [t3], ?_, ?_⟩
        · rw [List.length_map]
          exact sizeLine_ge (by omega)
        · rw [upd_ne (ne_of_none e' hD)]
          exact s3 _ _ (sm1 _ _ e')
        · rw [upd_same, List.map_append]
          rfl
        · rw [hstep, if_pos e]
          refine PrAt.app (r := (m.num, m.since)) (hP'.frame fun t' xs e' => ?_) ?_
          · rw [upd_ne (ne_of (s3 _ _ e') eD3 (by intro z; cases z))]
            exact s3 _ _ e'
          · rw [upd_ne n3]
            exact upd_same
      · refine ⟨_, rfl, _, rfl, rfl, false, dF (vN e), iteF ⟨sm1, ts, eD', ?_⟩⟩
        rw [hstep, if_neg e, List.append_nil]
        exact hP'
    · rintro H1 ⟨sm, ts, eD, hP⟩
      rw [L.len, List.take_length] at hP
      have nDl : D ≠ l := fun e => by
        rw [e, upd_same] at hD
        cases hD
      have s2 := unlock hl sm
      have hDn : H D = none := by
        rw [upd_ne nDl] at hD
        exact hD
      refine ⟨sm _ _ upd_same, ?_⟩
      have hP2 := hP.frame (H' := upd H1 l (.dK kvs)) (fun t' xs e' => by
        rw [upd_ne (ne_of e' (sm _ _ upd_same) (by intro z; cases z))]
        exact e')
      have eD2 : (upd H1 l (.dK kvs)) D = some (.lst (ts.map V.ref)) := by
        rw [upd_ne nDl]
        exact eD
      generalize upd H1 l (.dK kvs) = H2 at s2 hP2 eD2 ⊢
      refine ⟨_, rfl, _, rfl, _, rfl, _, rfl, b, t, q, D, ws, ts, setsOf t ms, rfl, hb, hb64, s2.seq hL, hne, eD2, hP2, ?_, ?_, fun H3 p s3 hp eP => ?_⟩
      · unfold setsOf
        rw [List.length_map]
        exact Nat.le_trans (List.length_filter_le _ _) few
      · intro r hr
        obtain ⟨m, hm, rfl⟩ := List.mem_map.mp hr
        have z := List.mem_filter.mp hm
        have e : m.due = t := by simpa using z.2
        rw [← e]
        exact ok m z.1
      · rw [← order_P] at eP
        exact c H3 p (s2.trans s3) (s2.free hp) eP
end
section
variable {P : Program} {w : World} {K : PySem.W.Frag} {mg : Str → Option Value} {base : Heap}
def spAfter : Sp := fun vs H Q _ => ∃ (l a : Addr) (t : Nat) (ns : List Nat) (kvs : List (Key × V)) (ms : List Tm), vs = [.ref l, .ref a, .int (t : Nat)] ∧ H l = some (.dK kvs) ∧ LiveK H kvs ms ∧ ms.length ≤ 1000 ∧ (ms.map (·.num)).Nodup ∧ H a = some (.lst (ns.map fun x => V.int (x : Nat))) ∧ Firing t ms ns ∧
  ∀ H' p kvs', Same H H' → H p = none → H' p = some (.dK kvs') → LiveK H' kvs' (afterF t ms ns) → Q (.ref p) H'
theorem ok_after {f : Addr} {fd : FuncData} (F : Fun K "after_firing" "after_firing" s_after_firing f fd) (T : Tx K mg) : FnOk P w K mg base CX0 1 f fd ["live", "numbers", "tick"] spAfter := by
  refine F.ok sc_after_firing (fun vs H Q E h => ?_) (fun cdv A outer s H vs Q E hr h => ?_)
  · obtain ⟨l, a, t, ns, kvs, ms, rfl, _⟩ := h
    rfl
  · obtain ⟨l, a, t, ns, kvs, ms, rfl, hl, L, few, nd, ha, fr, c⟩ := h
    have hu := hu_of hr
    refine ⟨_, (pss_cons (ps_set (i := 3) sc_after_firing.nd rfl (.inl rfl) (pe_callTy call_dictD (by rfl) T.b_dict (by decide +kernel) (pa_cons (pv 0) pa_nil)))
      (pss_cons (ps_for PassesOwn.never rfl (pi_list (pv 1)) (pg_name (i := 4) sc_after_firing.nd rfl (.inl rfl))
        (pss_cons (ps_asg (pe_dpop1 (pv 3) (pv 4) ⟨by rfl, by rfl, by rfl, by rfl⟩) (pg_tupK (K := K) (n := 3) rfl rfl (pgs_cons (pg_name (i := 5) sc_after_firing.nd rfl (.inl rfl)) (pgs_cons (pg_name (i := 6) sc_after_firing.nd rfl (.inl rfl)) (pgs_cons (pg_name (i := 7) sc_after_firing.nd rfl (.inl rfl)) pgs_nil)))))
        (pss_one (ps_if (pt_cmpR op_notN (pv 6) pe_non (nomark _))
          (pss_one (ps_dput hu (pv 3) (pv 4) (pe_tup (pa_cons (pe_op op_add (pv 2) (pv 6)) (pa_cons (pv 6) (pa_cons (pv 2) pa_nil)))) rfl))
          pss_nil))))
      (pss_one (ps_ret (pv 3))))), ?_⟩
    refine ⟨_, rfl, l, kvs, rfl, .inl hl, fun p hp => ?_⟩
    have s0 := same_upd (o := .dK kvs) hp
    have npa : p ≠ a := fun e => by
      rw [e, ha] at hp
      cases hp
    refine ⟨_, rfl, a, rfl, ⟨_, SqL.of (s0 _ _ ha)⟩, for_list (K := K) (a := a) (xs := ns.map fun x => V.int (x : Nat)) (fun i σ H' => ∃ (y4 y5 y6 y7 : Option V) (kvs' : List (Key × V)), σ = [some (.ref l), some (.ref a), some (.int (t : Nat)), some (.ref p), y4, y5, y6, y7] ∧ Same H H' ∧ H' p = some (.dK kvs') ∧ LiveK H' kvs' (afterF t ms (ns.take i)) ∧ ((afterF t ms (ns.take i)).map (·.num)).Nodup ∧ (afterF t ms (ns.take i)).length ≤ 1000 ∧ ∀ (x : Nat), (∃ j, i ≤ j ∧ ns[j]? = some x) → ∃ m ∈ afterF t ms (ns.take i), m.num = x)
      ⟨none, none, none, none, kvs, rfl, s0, upd_same, L.same s0, nd, few, fun x ⟨j, _, hj⟩ => fr.mem x (List.mem_of_getElem? hj)⟩ (fun i σ H' _ ⟨_, _, _, _, _, _, sm, _⟩ => SqL.of (sm _ _ ha)) ?_ ?_⟩
    · rintro i x σ H' hx ⟨y4, y5, y6, y7, kvs', rfl, sm, eP, L', nd', few', hin⟩
      rw [List.getElem?_map] at hx
      obtain ⟨n, hn, rfl⟩ : ∃ n, ns[i]? = some n ∧ x = V.int (n : Nat) := by
        cases e : ns[i]? with
        | none =>
          rw [e] at hx
          cases hx
        | some n =>
          rw [e] at hx
          exact ⟨n, rfl, (Option.some.inj hx).symm⟩
      obtain ⟨m, hm, en⟩ := hin n ⟨i, Nat.le_refl i, hn⟩
      have hfind := find_of nd' hm
      rw [en] at hfind
      obtain ⟨tt, hv, ht⟩ := L'.val_of nd' hm
      rw [en] at hv
      have estep : afterF t ms (ns.take (i + 1)) = fireT t (afterF t ms (ns.take i)) n := by
        unfold afterF
        rw [List.take_add_one, hn, List.foldl_append]
        rfl
      generalize hms : afterF t ms (ns.take i) = ms1 at L' nd' few' hin hm hfind estep
      have hnext : ∀ (x : Nat), (∃ j, i + 1 ≤ j ∧ ns[j]? = some x) → ∃ m ∈ fireT t ms1 n, m.num = x := fun x ⟨j, hj, ej⟩ => by
        refine fire_num (fun e => ?_) (hin x ⟨j, by omega, ej⟩)
        rw [e] at ej
        have hjl : j < ns.length := (List.getElem?_eq_some_iff.mp ej).1
        have := (List.getElem?_inj (i := i) (j := j) (List.getElem?_eq_some_iff.mp hn).1 fr.nd).mp (hn.trans ej.symm)
        omega
      refine ⟨_, rfl, p, rfl, .inl ⟨_, .inl eP⟩, _, rfl, kvs', Sum.inl (n : Int), _, eP, rfl, hv, ?_⟩
      have Ld := (L'.drop (n := n)).upd (o' := .dK (dropK kvs' (Sum.inl (n : Int)))) eP (fun xs z => by cases z)
      have ntp : tt ≠ p := ne_of ht eP (by intro z; cases z)
      have ht2 : (upd H' p (.dK (dropK kvs' (Sum.inl (n : Int))))) tt = some (.tup (tmV m)) := by
        rw [upd_ne ntp]
        exact ht
      have sd : Same H (upd H' p (.dK (dropK kvs' (Sum.inl (n : Int))))) := fun b o e => by
        rw [upd_ne (ne_of_none e hp)]
        exact sm _ _ e
      refine ⟨tt, _, rfl, .inl (.inl ht2), rfl, _, _, rfl, _, _, rfl, _, _, rfl, rfl, ?_⟩
      cases hper : m.per with
      | none =>
        have ef : fireT t ms1 n = dropT n ms1 := by rw [fire_some hfind, hper]
        refine ⟨perV none, rfl, rfl, false, ?_, iteF ?_⟩
        · rfl
        · refine ⟨_, _, _, _, _, rfl, sd, upd_same, ?_, ?_, ?_, ?_⟩
          · rw [estep, ef]
            exact Ld
          · rw [estep]
            exact fire_nodup nd'
          · rw [estep]
            exact Nat.le_trans fire_len few'
          · rw [estep]
            exact hnext
      | some k =>
        have ef : fireT t ms1 n = dropT n ms1 ++ [⟨n, t + k, some k, t⟩] := by rw [fire_some hfind, hper]
        refine ⟨perV (some k), rfl, rfl, true, ?_, iteT ?_⟩
        · rfl
        · have hvn := Ld.val_not (n := n) (fun m' hm' => drop_not m' hm')
          have hlen : (dropK kvs' (Sum.inl (n : Int))).length < sizeLine := by
            have z := dropK_le kvs' (Sum.inl (n : Int) : Key)
            rw [L'.len] at z
            exact sizeLine_ge (by omega)
          refine ⟨_, rfl, .int (k : Nat), rfl, _, _, rfl, rfl, .int (k : Nat), rfl, _, rfl, by simp [sizeLine_eq], fun u hu0 => ?_⟩
          have su := same_upd (o := .tup [.int ((t : Int) + (k : Int)), .int (k : Nat), .int (t : Nat)]) hu0
          have nup : p ≠ u := fun e => by
            rw [← e, upd_same] at hu0
            cases hu0
          refine ⟨_, rfl, _, rfl, p, _, rfl, DPut.k (k := Sum.inl (n : Int)) (su _ _ upd_same) hlen, ?_⟩
          rw [putK_new _ hvn]
          refine ⟨_, _, _, _, _, rfl, fun b o e => ?_, upd_same, ?_, ?_, ?_, ?_⟩
          · rw [upd_ne (ne_of_none e hp)]
            exact su _ _ (sd _ _ e)
          · rw [estep, ef]
            refine LiveK.upd (su _ _ upd_same) (fun xs z => by cases z) ?_
            exact (Ld.same su).snoc (m := ⟨n, t + k, some k, t⟩) rfl upd_same
          · rw [estep]
            exact fire_nodup nd'
          · rw [estep]
            exact Nat.le_trans fire_len few'
          · rw [estep]
            exact hnext
    · rintro σ H' ⟨y4, y5, y6, y7, kvs', rfl, sm, eP, L', _⟩
      rw [List.length_map, List.take_length] at L'
      exact ⟨_, rfl, c H' p kvs' sm hp eP L'⟩
end
/-! ### a wheel in the heap -/
def wfl (b : Nat) (q : Addr) (t f : Nat) (l : Addr) : List (Str × V) := [("base", .int (b : Nat)), ("words", .ref q), ("tick", .int (t : Nat)), ("following", .int (f : Nat)), ("live", .ref l)]
theorem ne_bw : ¬ (("base" : Str) = "words") := by decide +kernel
theorem ne_bt : ¬ (("base" : Str) = "tick") := by decide +kernel
theorem ne_bf : ¬ (("base" : Str) = "following") := by decide +kernel
theorem ne_bl : ¬ (("base" : Str) = "live") := by decide +kernel
theorem ne_wt : ¬ (("words" : Str) = "tick") := by decide +kernel
theorem ne_wf : ¬ (("words" : Str) = "following") := by decide +kernel
theorem ne_wl : ¬ (("words" : Str) = "live") := by decide +kernel
theorem ne_tf : ¬ (("tick" : Str) = "following") := by decide +kernel
theorem ne_tl : ¬ (("tick" : Str) = "live") := by decide +kernel
theorem ne_fl : ¬ (("following" : Str) = "live") := by decide +kernel
theorem lk_hit {k : Str} {v : V} {r : List (Str × V)} : List.lookup k ((k, v) :: r) = some v := by simp [List.lookup]
theorem lk_miss {k g : Str} {v : V} {r : List (Str × V)} (h : ¬ g = k) : List.lookup k ((g, v) :: r) = List.lookup k r := by
  have e : (k == g) = false := by simpa using fun z : k = g => h z.symm
  rw [List.lookup, e]
theorem pt_hit {k : Str} {v x : V} {r : List (Str × V)} : putF k v ((k, x) :: r) = (k, v) :: r := if_pos rfl
theorem pt_miss {k g : Str} {v x : V} {r : List (Str × V)} (h : ¬ g = k) : putF k v ((g, x) :: r) = (g, x) :: putF k v r := if_neg h
theorem pt_nil {k : Str} {v : V} : putF k v [] = [(k, v)] := rfl
section
variable {b : Nat} {q : Addr} {t f : Nat} {l : Addr}
theorem wf_b : (wfl b q t f l).lookup ("base" : Str) = some (.int (b : Nat)) := lk_hit
theorem wf_w : (wfl b q t f l).lookup ("words" : Str) = some (.ref q) := (lk_miss ne_bw).trans lk_hit
theorem wf_t : (wfl b q t f l).lookup ("tick" : Str) = some (.int (t : Nat)) := (lk_miss ne_bt).trans ((lk_miss ne_wt).trans lk_hit)
theorem wf_f : (wfl b q t f l).lookup ("following" : Str) = some (.int (f : Nat)) := (lk_miss ne_bf).trans ((lk_miss ne_wf).trans ((lk_miss ne_tf).trans lk_hit))
theorem wf_l : (wfl b q t f l).lookup ("live" : Str) = some (.ref l) := (lk_miss ne_bl).trans ((lk_miss ne_wl).trans ((lk_miss ne_tl).trans ((lk_miss ne_fl).trans lk_hit)))
theorem wf_no {m : Str} (h1 : ¬ ("base" : Str) = m) (h2 : ¬ ("words" : Str) = m) (h3 : ¬ ("tick" : Str) = m) (h4 : ¬ ("following" : Str) = m) (h5 : ¬ ("live" : Str) = m) : (wfl b q t f l).lookup m = none :=
  (lk_miss h1).trans ((lk_miss h2).trans ((lk_miss h3).trans ((lk_miss h4).trans ((lk_miss h5).trans rfl))))
theorem wf_pt {t' : Nat} : putF "tick" (.int (t' : Nat)) (wfl b q t f l) = wfl b q t' f l := by
  unfold wfl
  rw [pt_miss ne_bt, pt_miss ne_wt, pt_hit]
theorem wf_pf {f' : Nat} : putF "following" (.int (f' : Nat)) (wfl b q t f l) = wfl b q t f' l := by
  unfold wfl
  rw [pt_miss ne_bf, pt_miss ne_wf, pt_miss ne_tf, pt_hit]
theorem wf_pl {l' : Addr} : putF "live" (.ref l') (wfl b q t f l) = wfl b q t f l' := by
  unfold wfl
  rw [pt_miss ne_bl, pt_miss ne_wl, pt_miss ne_tl, pt_miss ne_fl, pt_hit]
end
structure WheelAt (C : Addr) (H : Hp) (p q l : Addr) (W : WS) : Prop where
  ins : ∃ dx, H p = some (.ins C dx (wfl W.b q W.tick W.fol l))
  words : H q = some (.lst (W.ws.map lvV))
  live : ∃ kvs, H l = some (.dK kvs) ∧ LiveK H kvs W.live
/-- all but the wheel (its object p, its dict l) stands as it was; its dict is the old one or a new one -/
structure Wk (p l : Addr) (H H' : Hp) (l' : Addr) : Prop where
  keep : ∀ c o, c ≠ p → c ≠ l → H c = some o → H' c = some o
  new : l' = l ∨ H l' = none
theorem WheelAt.same {C : Addr} {H H' : Hp} {p q l : Addr} {W : WS} (s : Same H H') (w : WheelAt C H p q l W) : WheelAt C H' p q l W := by
  obtain ⟨dx, h⟩ := w.ins
  obtain ⟨kvs, h2, L⟩ := w.live
  exact ⟨⟨dx, s _ _ h⟩, s _ _ w.words, ⟨kvs, s _ _ h2, L.same s⟩⟩
theorem WheelAt.frame {C : Addr} {H H' : Hp} {p q l a : Addr} {W : WS} {xs : List V} (w : WheelAt C H p q l W) (ha : H a = some (.lst xs)) (hq : a ≠ q) (s : ∀ c o, c ≠ a → H c = some o → H' c = some o) : WheelAt C H' p q l W := by
  obtain ⟨dx, h⟩ := w.ins
  obtain ⟨kvs, h2, L⟩ := w.live
  refine ⟨⟨dx, s _ _ (ne_of h ha (by intro z; cases z)) h⟩, s _ _ (Ne.symm hq) w.words, ⟨kvs, s _ _ (ne_of h2 ha (by intro z; cases z)) h2, L.frame fun t m e => s _ _ (ne_of e ha (by intro z; cases z)) e⟩⟩
structure TxW (K : PySem.W.Frag) (mg : Str → Option Value) (C : Addr) : Prop where
  cl : Cls K C
  nB : NoAttr K C "base"
  nW : NoAttr K C "words"
  nT : NoAttr K C "tick"
  nF : NoAttr K C "following"
  nL : NoAttr K C "live"
  mgC : mg "Wheel" = some (.ref C)
section
variable {P : Program} {w : World} {K : PySem.W.Frag} {mg : Str → Option Value} {base : Heap}
/-- a method that keeps its promise -/
def HasM (P : Program) (w : World) (K : PySem.W.Frag) (mg : Str → Option Value) (base : Heap) (k : Nat) (C : Addr) (m : Str) (ps : List Str) (dvs : List V) (sp : Sp) : Prop :=
  ∃ (f : Addr) (fd : FuncData) (ds : List Value), FnOk P w K mg base CX0 k f fd ps sp ∧ Meth K C m f ∧ Binds K fd ps ds ∧ Vals dvs ds
end
/-! ### a period, of an integer -/
section
variable {P : Program} {w : World} {K : PySem.W.Frag} {mg : Str → Option Value} {base : Heap}
def spIsPeriod : Sp := fun vs H Q _ => ∃ n : Int, vs = [.int n] ∧ 1 ≤ n ∧ Q (.bl true) H
theorem ok_is_period {f : Addr} {fd : FuncData} (F : Fun K "is_period" "is_period" s_is_period f fd) (h1 : Has P w K mg base 1 "is_integer" ["given"] [] spIsInt) : FnOk P w K mg base CX0 2 f fd ["given"] spIsPeriod := by
  obtain ⟨f_is_integer, fd_is_integer, ds_is_integer, G_is_integer, m_is_integer, k_is_integer, b_is_integer, v_is_integer⟩ := h1
  refine F.ok sc_is_period (fun vs H Q E h => ?_) (fun cdv A outer s H vs Q E hr h => ?_)
  · obtain ⟨n, rfl, _⟩ := h
    rfl
  · obtain ⟨n, rfl, l1, q⟩ := h
    refine ⟨_, (pss_one (ps_ret (pe_and (pe_call G_is_integer hr (by rfl) m_is_integer k_is_integer b_is_integer v_is_integer pass0 (pa_cons (pv 0) pa_nil)) (pe_one (pe_cmpR op_ge (pv 0) pe_int (nomark _)))))), ?_⟩
    refine ⟨.int n, rfl, n, rfl, true, rfl, iteT ?_⟩
    refine ⟨.int n, rfl, n, 1, rfl, rfl, ?_⟩
    have e : V.bl (decide (n ≥ 1)) = V.bl true := dT l1
    show Q (V.bl (decide (n ≥ 1))) H
    rw [e]
    exact q
end
section
variable {P : Program} {w : World} {K : PySem.W.Frag} {mg : Str → Option Value} {base : Heap}
def trimN (ws : List Bool) : Nat → Nat
  | 0 => 0
  | n + 1 => if 1 ≤ n ∧ ws[n]? = ws[n - 1]? then trimN ws n else n + 1
def trimW (ws : List Bool) : List Bool := ws.take (trimN ws ws.length)
theorem trimN_le (ws : List Bool) : ∀ n, trimN ws n ≤ n
  | 0 => Nat.le_refl _
  | n + 1 => by
    unfold trimN
    split
    · exact Nat.le_succ_of_le (trimN_le ws n)
    · exact Nat.le_refl _
theorem trimN_pos (ws : List Bool) : ∀ n, 1 ≤ n → 1 ≤ trimN ws n
  | 0, h => h
  | n + 1, _ => by
    unfold trimN
    split
    · rename_i h
      exact trimN_pos ws n h.1
    · omega
theorem trim_ne {ws : List Bool} (h : ws ≠ []) : trimW ws ≠ [] := by
  have hp : 0 < ws.length := List.length_pos_iff.mpr h
  have z := trimN_pos ws ws.length hp
  intro e
  have e2 := congrArg List.length e
  unfold trimW at e2
  rw [List.length_take] at e2
  have e3 : ([] : List Bool).length = 0 := rfl
  omega
theorem trim_len (ws : List Bool) : (trimW ws).length ≤ ws.length := by
  unfold trimW
  rw [List.length_take]
  omega
def spRepeats (K : PySem.W.Frag) : Sp := fun vs H Q _ => ∃ (q : Addr) (ws : List Bool), vs = [.ref q] ∧ SqL K H q (ws.map lvV) ∧ ws ≠ [] ∧ ws.length ≤ 60 ∧ ∀ H' p, Same H H' → H p = none → H' p = some (.lst ((trimW ws).map lvV)) → Q (.ref p) H'
theorem lv_inj {a b : Bool} : lvV a = lvV b ↔ a = b := by
  cases a <;> cases b <;> decide
theorem ok_repeats {f : Addr} {fd : FuncData} (F : Fun K "without_repeats" "without_repeats" s_without_repeats f fd) (T : Tx K mg) : FnOk P w K mg base CX0 1 f fd ["levels"] (spRepeats K) := by
  refine F.ok sc_without_repeats (fun vs H Q E h => ?_) (fun cdv A outer s H vs Q E hr h => ?_)
  · obtain ⟨q, ws, rfl, _⟩ := h
    rfl
  · obtain ⟨q, ws, rfl, hL, hne, h60, c⟩ := h
    refine ⟨_, (pss_cons (ps_set (i := 1) sc_without_repeats.nd rfl (.inl rfl) (pe_callB (lenK (K := K) rfl) (by rfl) T.b_len PySem.boot_len (pa_cons (pv 0) pa_nil)))
      (pss_cons (ps_while PassesOwn.never (PW.pt (pw_and (pt_cmpR op_gt (pv 1) pe_int (nomark _)) (pw_and1 (pt_cmpR op_eq (pe_ix (ix_listK (K := K) rfl) (pv 0) (pe_op op_subN (pv 1) pe_int) (fun _ _ => rfl)) (pe_ix (ix_listK (K := K) rfl) (pv 0) (pe_op op_subN (pv 1) pe_int) (fun _ _ => rfl)) (nomark _)))))
        (pss_one (ps_aug (i := 1) sc_without_repeats.nd rfl (.inl rfl) pe_int ip_sub)))
      (pss_one (ps_ret (pe_slice (sl_listK (K := K) rfl) (pv 0) po_none (po_some (pv 1))))))), ?_⟩
    refine ⟨.ref q, rfl, q, _, rfl, .inl hL, ?_⟩
    refine while_by (fun σ H' => ∃ n : Nat, σ = [some (.ref q), some (.int (n : Nat))] ∧ H' = H ∧ 1 ≤ n ∧ n ≤ ws.length ∧ trimN ws ws.length = trimN ws n) (fun σ _ => slotInt σ 1) ⟨ws.length, by rw [List.length_map]; rfl, rfl, List.length_pos_iff.mpr hne, Nat.le_refl _, rfl⟩ ?_ ?_
    · rintro σ H' ⟨n, rfl, rfl, h1, hn, et⟩
      have fin : n = trimN ws n → tRet (tSl (rSlL K) (tVar 0) tNoPart (tPart (tVar 1))) { nx := fun _ H' => Q .non H', rt := Q } [some (.ref q), some (.int (n : Nat))] H' := fun e => by
        refine ⟨_, rfl, _, rfl, _, rfl, q, _, rfl, hL, fun p hp => ?_⟩
        refine c _ p (same_upd hp) hp ?_
        rw [upd_same]
        have ec : cutV (ws.map lvV) none (some ((n : Nat) : Int)) = (trimW ws).map lvV := by
          unfold trimW cutV
          rw [HT.sIx_none, HT.sIx_nat, List.drop_zero, Nat.sub_zero, List.length_map, Nat.min_eq_left hn, List.map_take, et, ← e]
        rw [ec]
      obtain ⟨n, rfl⟩ : ∃ n', n = n' + 1 := ⟨n - 1, by omega⟩
      by_cases h2 : 1 < n + 1
      · have g1 : (ws.map lvV)[n]? = some (lvV (ws[n]'(by omega))) := by
          rw [List.getElem?_map, List.getElem?_eq_getElem]
          rfl
        have g2 : (ws.map lvV)[n - 1]? = some (lvV (ws[n - 1]'(by omega))) := by
          rw [List.getElem?_map, List.getElem?_eq_getElem]
          rfl
        refine ⟨_, rfl, _, _, rfl, rfl, true, dT (by omega), iteT ?_⟩
        refine ⟨_, rfl, _, rfl, n + 1, 1, rfl, rfl, Nat.le_add_left 1 n, q, _, _, _, rfl, rfl, hL, atI_nat (j := n) g1, _, rfl, _, rfl, n + 1, 2, rfl, rfl, (by show 2 ≤ n + 1; omega), q, _, _, _, rfl, rfl, hL, atI_nat (j := n - 1) g2, ?_, ?_⟩
        · cases ws[n]'(by omega) <;> cases ws[n - 1]'(by omega) <;> rfl
        · by_cases e : ws[n]'(by omega) = ws[n - 1]'(by omega)
          · have et2 : trimN ws (n + 1) = trimN ws n := by
              rw [trimN, if_pos]
              refine ⟨by omega, ?_⟩
              rw [List.getElem?_eq_getElem (by omega : n < ws.length), List.getElem?_eq_getElem (by omega : n - 1 < ws.length), e]
            refine ⟨true, dT (lv_inj.mpr e), iteT ⟨_, rfl, _, _, rfl, rfl, ⟨n, ?_, rfl, by omega, by omega, by rw [et, et2]⟩, ?_⟩⟩
            · show [some (V.ref q), some (V.int (((n + 1 : Nat) : Int) - 1))] = _
              rw [show ((n + 1 : Nat) : Int) - 1 = (n : Int) by omega]
            · show (((n + 1 : Nat) : Int) - 1).toNat < (((n + 1 : Nat) : Int)).toNat
              omega
          · refine ⟨false, dF (fun z => e (lv_inj.mp z)), iteF ?_⟩
            refine fin ?_
            rw [trimN, if_neg]
            rintro ⟨_, z⟩
            rw [List.getElem?_eq_getElem (by omega : n < ws.length), List.getElem?_eq_getElem (by omega : n - 1 < ws.length)] at z
            exact e (Option.some.inj z)
      · refine ⟨_, rfl, _, _, rfl, rfl, false, dF (by omega), iteF (iteF ?_)⟩
        refine fin ?_
        rw [trimN, if_neg]
        rintro ⟨z, _⟩
        omega
    · rintro σ H' Q1 Q2 h ⟨x, hx, i, j, e1, e2, k, e, z⟩
      refine ⟨x, hx, i, j, e1, e2, k, e, ?_⟩
      cases k with
      | false => exact iteF (h _ _ (by rw [if_neg Bool.false_ne_true] at z; exact z))
      | true =>
        rw [if_pos rfl] at z
        refine iteT ?_
        obtain ⟨x1, hx1, x2, hx2, a1, b1, e3, e4, c1, p1, i1, j1, v1, e5, e6, hs1, g1, y1, hy1, y2, hy2, a2, b2, e7, e8, c2, p2, i2, j2, v2, e9, e10, hs2, g2, hsc, k', ek, zz⟩ := z
        exact ⟨x1, hx1, x2, hx2, a1, b1, e3, e4, c1, p1, i1, j1, v1, e5, e6, hs1, g1, y1, hy1, y2, hy2, a2, b2, e7, e8, c2, p2, i2, j2, v2, e9, e10, hs2, g2, hsc, k', ek, h _ _ zz⟩
def spCheckPeriod : Sp := fun vs H Q _ => ∃ o : Option Nat, vs = [perV o] ∧ (∀ k, o = some k → 1 ≤ k) ∧ Q .non H
theorem ok_check_period {f : Addr} {fd : FuncData} (F : Fun K "check_period" "check_period" s_check_period f fd) (h1 : Has P w K mg base 2 "is_period" ["given"] [] spIsPeriod) : FnOk P w K mg base CX0 3 f fd ["period"] spCheckPeriod := by
  obtain ⟨f_is_period, fd_is_period, ds_is_period, G_is_period, m_is_period, k_is_period, b_is_period, v_is_period⟩ := h1
  refine F.ok sc_check_period (fun vs H Q E h => ?_) (fun cdv A outer s H vs Q E hr h => ?_)
  · obtain ⟨o, rfl, _⟩ := h
    rfl
  · obtain ⟨o, rfl, hp, q⟩ := h
    refine ⟨_, (pss_one (ps_if (PW.pt (pw_and (pt_cmpR op_notN (pv 0) pe_non (nomark _)) (pw_and1 (pt_not (pt_val (pe_call G_is_period hr (by rfl) m_is_period k_is_period b_is_period v_is_period pass0 (pa_cons (pv 0) pa_nil)))))))
        (pss_one ps_never)
        pss_nil)), ?_⟩
    cases o with
    | none => exact ⟨_, rfl, rfl, false, rfl, iteF (iteF q)⟩
    | some k =>
      have hk := hp k rfl
      refine ⟨_, rfl, rfl, true, rfl, iteT ?_⟩
      exact ⟨.int (k : Nat), rfl, (k : Nat), rfl, by omega, true, rfl, iteF q⟩
def spInit (C : Addr) (K : PySem.W.Frag) : Sp := fun vs H Q _ => ∃ (p dx q0 : Addr) (b t : Nat) (ws : List Bool), vs = [.ref p, .int (b : Nat), .ref q0, .int (t : Nat)] ∧ H p = some (.ins C dx []) ∧ SqL K H q0 (ws.map lvV) ∧ 2 ≤ b ∧ b ≤ 64 ∧ ws ≠ [] ∧ ws.length ≤ 60 ∧
  ∀ H' q l, (∀ c o, c ≠ p → H c = some o → H' c = some o) → H q = none → H l = none → WheelAt C H' p q l ⟨b, trimW ws, t, 0, []⟩ → Q .non H'
theorem ok_init {f C : Addr} {fd : FuncData} (F : FunD K "__init__" "Wheel.__init__" (defArgs s_Wheel___init__) (defBody s_Wheel___init__) (defScope s_Wheel___init__) [] [("start", .int 0)] f fd) (TW : TxW K mg C) (h1 : Has P w K mg base 3 "check_base" ["base"] [] spCheckBase)
    (h2 : Has P w K mg base 3 "check_tick" ["tick", "least"] [.int 0] spCheckTick) (h4 : Has P w K mg base 4 "check_levels" ["levels"] [] (spCheckLevels K)) (h5 : Has P w K mg base 1 "without_repeats" ["levels"] [] (spRepeats K)) :
    FnOk P w K mg base CX0 5 f fd ["self", "base", "levels", "start"] (spInit C K) := by
  obtain ⟨f_check_base, fd_check_base, ds_check_base, G_check_base, m_check_base, k_check_base, b_check_base, v_check_base⟩ := h1
  obtain ⟨f_check_tick1, fd_check_tick1, ds_check_tick1, G_check_tick1, m_check_tick1, k_check_tick1, b_check_tick1, v_check_tick1⟩ := h2
  obtain ⟨f_check_levels, fd_check_levels, ds_check_levels, G_check_levels, m_check_levels, k_check_levels, b_check_levels, v_check_levels⟩ := h4
  obtain ⟨f_without_repeats, fd_without_repeats, ds_without_repeats, G_without_repeats, m_without_repeats, k_without_repeats, b_without_repeats, v_without_repeats⟩ := h5
  refine F.ok sc_Wheel___init__ (fun vs H Q E h => ?_) (fun cdv A outer s H vs Q E hr h => ?_)
  · obtain ⟨p, dx, q0, b, t, ws, rfl, _⟩ := h
    rfl
  · obtain ⟨p, dx, q0, b, t, ws, rfl, hp, hL, hb, hb64, hne, h60, c⟩ := h
    refine ⟨_, PSs.nox (pss_cons (ps_expr (pe_call G_check_base (hr.mono (by decide)) (by rfl) m_check_base k_check_base b_check_base v_check_base pass0 (pa_cons (pv 1) pa_nil)))
      (pss_cons (ps_expr (pe_call G_check_levels hr (by rfl) m_check_levels k_check_levels b_check_levels v_check_levels pass0 (pa_cons (pv 2) pa_nil)))
      (pss_cons (ps_expr (pe_call G_check_tick1 (hr.mono (by decide)) (by rfl) m_check_tick1 k_check_tick1 b_check_tick1 v_check_tick1 pass0 (pa_cons (pv 3) pa_nil)))
      (pss_cons (ps_fld (pv 0) (pv 1) rfl)
      (pss_cons (ps_fld (pv 0) (pe_call G_without_repeats (hr.mono (by decide)) (by rfl) m_without_repeats k_without_repeats b_without_repeats v_without_repeats pass0 (pa_cons (pv 2) pa_nil)) rfl)
      (pss_cons (ps_fld (pv 0) (pv 3) rfl)
      (pss_cons (ps_fld (pv 0) pe_int rfl)
      (pss_one (ps_fld (pv 0) pe_dnewK rfl))))))))), ?_⟩
    refine ⟨_, rfl, b, rfl, by omega, by omega, ?_⟩
    refine ⟨_, rfl, q0, ws, rfl, hL, hne, h60, fun H1 s1 => ?_⟩
    refine ⟨_, rfl, t, 0, rfl, by omega, ?_⟩
    have hp1 := s1 _ _ hp
    refine ⟨_, rfl, _, rfl, p, C, dx, [], rfl, hp1, TW.cl, TW.nB, by simp, ?_⟩
    have k2 : ∀ c o, c ≠ p → H c = some o → (upd H1 p (.ins C dx (putF "base" (.int (b : Nat)) []))) c = some o := fun c o n e => by
      rw [upd_ne n]
      exact s1 _ _ e
    have hL2 : SqL K (upd H1 p (.ins C dx (putF "base" (.int (b : Nat)) []))) q0 (ws.map lvV) := by
      rcases s1.seq hL with (e | ⟨o, e⟩) | e
      · exact .inl (.inl (by rw [upd_ne (ne_of e hp1 (by intro z; cases z))]; exact e))
      · exact .inl (.inr ⟨o, by rw [upd_ne (ne_of e hp1 (by intro z; cases z))]; exact e⟩)
      · exact .inr e
    refine ⟨_, rfl, q0, ws, rfl, hL2, hne, h60, fun H3 q s3 hq0 hq3 => ?_⟩
    have hp3 := s3 _ _ (upd_same (H := H1) (a := p))
    have nqp : q ≠ p := fun e => by
      rw [e, upd_same] at hq0
      cases hq0
    have k3 : ∀ c o, c ≠ p → H c = some o → H3 c = some o := fun c o n e => s3 _ _ (k2 c o n e)
    have hqn : H q = none := by
      cases e : H q with
      | none => rfl
      | some o =>
        rw [k2 q o nqp e] at hq0
        cases hq0
    refine ⟨_, rfl, p, C, dx, _, rfl, hp3, TW.cl, TW.nW, by rw [pt_nil]; simp, ?_⟩
    refine ⟨_, rfl, _, rfl, p, C, dx, _, rfl, upd_same, TW.cl, TW.nT, by rw [pt_nil, pt_miss ne_bw, pt_nil]; simp, ?_⟩
    refine ⟨_, rfl, p, C, dx, _, rfl, upd_same, TW.cl, TW.nF, by rw [pt_nil, pt_miss ne_bw, pt_nil, pt_miss ne_bt, pt_miss ne_wt, pt_nil]; simp, ?_⟩
    refine fun l hl => ⟨_, rfl, p, C, dx, putF "following" (.int 0) (putF "tick" (.int (t : Nat)) (putF "words" (.ref q) (putF "base" (.int (b : Nat)) []))), rfl, ?_, TW.cl, TW.nL, by rw [pt_nil, pt_miss ne_bw, pt_nil, pt_miss ne_bt, pt_miss ne_wt, pt_nil, pt_miss ne_bf, pt_miss ne_wf, pt_miss ne_tf, pt_nil]; simp, ?_⟩
    · have nlp : p ≠ l := fun e => by
        rw [← e, upd_same] at hl
        cases hl
      rw [upd_ne nlp, upd_same]
    have nlp : l ≠ p := fun e => by
      rw [e, upd_same] at hl
      cases hl
    rw [upd_ne nlp, upd_ne nlp, upd_ne nlp] at hl
    have nlq : l ≠ q := fun e => by
      rw [e, hq3] at hl
      cases hl
    have hln : H l = none := by
      cases e : H l with
      | none => rfl
      | some o =>
        rw [k3 l o nlp e] at hl
        cases hl
    refine c _ q l (fun c o n e => ?_) hqn hln ⟨⟨dx, ?_⟩, ?_, ⟨[], ?_, trivial⟩⟩
    · rw [upd_ne n, upd_ne (fun z => by rw [z, hln] at e; cases e), upd_ne n, upd_ne n, upd_ne n]
      exact k3 c o n e
    · rw [upd_same, pt_nil, pt_miss ne_bw, pt_nil, pt_miss ne_bt, pt_miss ne_wt, pt_nil, pt_miss ne_bf, pt_miss ne_wf, pt_miss ne_tf, pt_nil, pt_miss ne_bl, pt_miss ne_wl, pt_miss ne_tl, pt_miss ne_fl, pt_nil]
      rfl
    · rw [upd_ne nqp, upd_ne (Ne.symm nlq), upd_ne nqp, upd_ne nqp, upd_ne nqp]
      exact hq3
    · rw [upd_ne nlp, upd_same]
end
/-! ### words at the end that only repeat tell nothing -/
theorem trimN_same {ws : List Bool} : ∀ n, 1 ≤ n → n ≤ ws.length → (∀ i, n - 1 ≤ i → i < ws.length → ws[i]? = ws[n - 1]?) → ∀ i, trimN ws n - 1 ≤ i → i < ws.length → ws[i]? = ws[trimN ws n - 1]?
  | 0, h, _, _ => by omega
  | n + 1, _, hl, h => by
    intro i h1 h2
    unfold trimN at h1 ⊢
    split at h1
    · rename_i c
      rw [if_pos c]
      refine trimN_same n c.1 (by omega) (fun j j1 j2 => ?_) i h1 h2
      by_cases e : j = n - 1
      · rw [e]
      · have z := h j (by omega) j2
        rw [Nat.add_sub_cancel] at z
        rw [z]
        exact c.2
    · rename_i c
      rw [if_neg c]
      exact h i h1 h2
theorem trim_word {ws : List Bool} (hne : ws ≠ []) (k : Nat) : wordAt (trimW ws) k = wordAt ws k := by
  have hp : 0 < ws.length := List.length_pos_iff.mpr hne
  have m0 := trimN_pos ws ws.length hp
  have m1 := trimN_le ws ws.length
  have same := trimN_same (ws := ws) ws.length hp (Nat.le_refl _) fun i h1 h2 => by
    rw [show i = ws.length - 1 by omega]
  unfold wordAt trimW
  have e1 : (ws.take (trimN ws ws.length)).length = trimN ws ws.length := by
    rw [List.length_take]
    omega
  rw [e1]
  rw [List.getD_eq_getElem?_getD, List.getD_eq_getElem?_getD, List.getElem?_take, if_pos (by omega)]
  by_cases c : k ≤ trimN ws ws.length - 1
  · rw [Nat.min_eq_left c, Nat.min_eq_left (by omega)]
  · rw [Nat.min_eq_right (by omega), ← same (min k (ws.length - 1)) (by omega) (by omega)]
theorem trim_side {ws : List Bool} (hne : ws ≠ []) (b n d lo : Nat) : sideT b (trimW ws) n d lo = sideT b ws n d lo := by
  unfold sideT
  split
  · unfold frontOf
    congr 3
    congr 1
    funext r
    rw [trim_word hne]
  · rfl
section
variable {P : Program} {w : World} {K : PySem.W.Frag} {mg : Str → Option Value} {base : Heap}
theorem no_ct {b : Nat} {q : Addr} {t f : Nat} {l : Addr} : (wfl b q t f l).lookup ("check_timer" : Str) = none := wf_no (by decide +kernel) (by decide +kernel) (by decide +kernel) (by decide +kernel) (by decide +kernel)
def spCheckTimer (C : Addr) : Sp := fun vs H Q _ => ∃ (p q l : Addr) (W : WS) (n : Nat), vs = [.ref p, .int (n : Nat)] ∧ WheelAt C H p q l W ∧ (W.live.map (·.num)).Nodup ∧ (∃ m ∈ W.live, m.num = n) ∧ Q .non H
theorem ok_check_timer {f C : Addr} {fd : FuncData} (F : Fun K "check_timer" "Wheel.check_timer" s_Wheel_check_timer f fd) (TW : TxW K mg C) (h1 : Has P w K mg base 1 "is_integer" ["given"] [] spIsInt) : FnOk P w K mg base CX0 2 f fd ["self", "timer"] (spCheckTimer C) := by
  obtain ⟨f_is_integer, fd_is_integer, ds_is_integer, G_is_integer, m_is_integer, k_is_integer, b_is_integer, v_is_integer⟩ := h1
  refine F.ok sc_Wheel_check_timer (fun vs H Q E h => ?_) (fun cdv A outer s H vs Q E hr h => ?_)
  · obtain ⟨p, q, l, W, n, rfl, _⟩ := h
    rfl
  · obtain ⟨p, q, l, W, n, rfl, hw, nd, ⟨m, hm, en⟩, c⟩ := h
    have hu := hu_of hr
    obtain ⟨dx, hp⟩ := hw.ins
    obtain ⟨kvs, hl, L⟩ := hw.live
    obtain ⟨tt, hv, ht⟩ := L.val_of nd hm
    rw [en] at hv
    refine ⟨_, (pss_one (ps_if (PW.pt (pw_or (pt_not (pt_val (pe_call G_is_integer hr (by rfl) m_is_integer k_is_integer b_is_integer v_is_integer pass0 (pa_cons (pv 1) pa_nil)))) (pw_or1 (pt_cmp (pc_dnotin hu (pv 1) (pe_fld (pv 0) rfl))))))
        (pss_one ps_never)
        pss_nil)), ?_⟩
    refine ⟨_, rfl, (n : Nat), rfl, true, rfl, iteF ?_⟩
    refine ⟨_, rfl, _, rfl, p, C, dx, _, _, rfl, hp, TW.cl, TW.nL, wf_l, l, some (.ref tt), rfl, ?_, false, rfl, iteF c⟩
    rw [← hv]
    exact DGet.k (k := Sum.inl (n : Int)) hl
def spNow (C : Addr) : Sp := fun vs H Q _ => ∃ (p q l : Addr) (W : WS), vs = [.ref p] ∧ WheelAt C H p q l W ∧ Q (.int (W.tick : Nat)) H
theorem ok_now {f C : Addr} {fd : FuncData} (F : Fun K "now" "Wheel.now" s_Wheel_now f fd) (TW : TxW K mg C) : FnOk P w K mg base CX0 1 f fd ["self"] (spNow C) := by
  refine F.ok sc_Wheel_now (fun vs H Q E h => ?_) (fun cdv A outer s H vs Q E hr h => ?_)
  · obtain ⟨p, q, l, W, rfl, _⟩ := h
    rfl
  · obtain ⟨p, q, l, W, rfl, hw, c⟩ := h
    obtain ⟨dx, hp⟩ := hw.ins
    refine ⟨_, (pss_one (ps_ret (pe_fld (pv 0) rfl))), ?_⟩
    exact ⟨_, rfl, p, C, dx, _, _, rfl, hp, TW.cl, TW.nT, wf_t, c⟩
def spPut (C : Addr) : Sp := fun vs H Q _ => ∃ (p q l : Addr) (W : WS) (d : Nat) (o : Option Nat), vs = [.ref p, .int (d : Nat), perV o] ∧ WheelAt C H p q l W ∧ WOk W ∧ W.live.length < 1000 ∧ W.tick < d ∧ (∀ k, o = some k → 1 ≤ k) ∧
  ∀ H', Wk p l H H' l → WheelAt C H' p q l { W with fol := W.fol + 1, live := W.live ++ [⟨W.fol, d, o, W.tick⟩] } → Q (.int (W.fol : Nat)) H'
theorem ok_put {f C : Addr} {fd : FuncData} (F : FunD K "put" "Wheel.put" (defArgs s_Wheel_put) (defBody s_Wheel_put) (defScope s_Wheel_put) [] [("period", .non)] f fd) (TW : TxW K mg C) (h1 : Has P w K mg base 3 "check_tick" ["tick", "least"] [] spCheckTick)
    (h2 : Has P w K mg base 3 "check_period" ["period"] [] spCheckPeriod) : FnOk P w K mg base CX0 4 f fd ["self", "due", "period"] (spPut C) := by
  obtain ⟨f_check_tick, fd_check_tick, ds_check_tick, G_check_tick, m_check_tick, k_check_tick, b_check_tick, v_check_tick⟩ := h1
  obtain ⟨f_check_period, fd_check_period, ds_check_period, G_check_period, m_check_period, k_check_period, b_check_period, v_check_period⟩ := h2
  refine F.ok sc_Wheel_put (fun vs H Q E h => ?_) (fun cdv A outer s H vs Q E hr h => ?_)
  · obtain ⟨p, q, l, W, d, o, rfl, _⟩ := h
    rfl
  · obtain ⟨p, q, l, W, d, o, rfl, hw, ok, few, htd, hper, c⟩ := h
    have hu := hu_of hr
    obtain ⟨dx, hp⟩ := hw.ins
    obtain ⟨kvs, hl, L⟩ := hw.live
    refine ⟨_, PSs.nox (pss_cons (ps_expr (pe_call G_check_tick hr (by rfl) m_check_tick k_check_tick b_check_tick v_check_tick pass0 (pa_cons (pv 1) (pa_cons (pe_op op_add (pe_fld (pv 0) rfl) pe_int) pa_nil))))
      (pss_cons (ps_expr (pe_call G_check_period hr (by rfl) m_check_period k_check_period b_check_period v_check_period pass0 (pa_cons (pv 2) pa_nil)))
      (pss_cons (ps_set (i := 3) sc_Wheel_put.nd rfl (.inl rfl) (pe_fld (pv 0) rfl))
      (pss_cons (ps_fldaug (pv 0) pe_int in_add)
      (pss_cons (ps_dput hu (pe_fld (pv 0) rfl) (pv 3) (pe_tup (pa_cons (pv 1) (pa_cons (pv 2) (pa_cons (pe_fld (pv 0) rfl) pa_nil)))) rfl)
      (pss_one (ps_ret (pv 3)))))))), ?_⟩
    refine ⟨_, rfl, _, rfl, p, C, dx, _, _, rfl, hp, TW.cl, TW.nT, wf_t, _, 1, rfl, rfl, (d : Nat), _, rfl, by omega, ?_⟩
    refine ⟨_, rfl, o, rfl, hper, ?_⟩
    refine ⟨_, rfl, p, C, dx, _, _, rfl, hp, TW.cl, TW.nF, wf_f, ?_⟩
    refine ⟨_, rfl, p, C, dx, _, _, rfl, hp, TW.cl, TW.nF, wf_f, (W.fol : Nat), 1, rfl, rfl, dx, _, hp, by simp [wfl], ?_⟩
    have e1 : putF "following" (.int ((W.fol : Int) + 1)) (wfl W.b q W.tick W.fol l) = wfl W.b q W.tick (W.fol + 1) l := wf_pf (f' := W.fol + 1)
    have npl : l ≠ p := ne_of hl hp (by intro z; cases z)
    have hp2 : (upd H p (.ins C dx (putF "following" (.int ((W.fol : Int) + 1)) (wfl W.b q W.tick W.fol l)))) p = some (.ins C dx (wfl W.b q W.tick (W.fol + 1) l)) := by rw [upd_same, e1]
    refine ⟨_, rfl, _, rfl, _, rfl, p, C, dx, _, _, rfl, hp2, TW.cl, TW.nT, wf_t, by simp [sizeLine_eq], fun u hu0 => ?_⟩
    have nup : u ≠ p := fun e => by
      rw [e, upd_same] at hu0
      cases hu0
    rw [upd_ne nup] at hu0
    have nul : u ≠ l := fun e => by
      rw [e, hl] at hu0
      cases hu0
    generalize hH2 : upd (upd H p (.ins C dx (putF "following" (.int ((W.fol : Int) + 1)) (wfl W.b q W.tick W.fol l)))) u (.tup [.int (d : Nat), perV o, .int (W.tick : Nat)]) = H2
    have a1 : H2 p = some (.ins C dx (wfl W.b q W.tick (W.fol + 1) l)) := by rw [← hH2, upd_ne (Ne.symm nup)]; exact hp2
    have a2 : H2 u = some (.tup (tmV ⟨W.fol, d, o, W.tick⟩)) := by rw [← hH2, upd_same]; rfl
    have a3 : ∀ c o, c ≠ p → H c = some o → H2 c = some o := fun c o n e => by
      rw [← hH2, upd_ne (ne_of_none e hu0), upd_ne n]
      exact e
    have a4 := a3 _ _ npl hl
    have L2' : LiveK H2 kvs W.live := L.frame fun t m e => a3 _ _ (ne_of e hp (by intro z; cases z)) e
    have hvn := L2'.val_not (n := W.fol) fun m hm => Nat.ne_of_lt (ok.tms m hm).num
    refine ⟨_, rfl, p, C, dx, _, _, rfl, a1, TW.cl, TW.nL, wf_l, _, rfl, l, _, rfl, DPut.k (k := Sum.inl (W.fol : Int)) a4 (by rw [L.len]; exact sizeLine_ge (by omega)), ?_⟩
    rw [putK_new _ hvn]
    refine ⟨_, rfl, c _ ⟨fun c o n1 n2 e => ?_, .inl rfl⟩ ⟨⟨dx, ?_⟩, ?_, ⟨_, upd_same, ?_⟩⟩⟩
    · rw [upd_ne n2]
      exact a3 c o n1 e
    · rw [upd_ne (Ne.symm npl)]
      exact a1
    · rw [upd_ne (ne_of hw.words hl (by intro z; cases z))]
      exact a3 _ _ (ne_of hw.words hp (by intro z; cases z)) hw.words
    · exact LiveK.upd a4 (fun xs z => by cases z) (L2'.snoc (m := ⟨W.fol, d, o, W.tick⟩) rfl a2)
end
section
variable {P : Program} {w : World} {K : PySem.W.Frag} {mg : Str → Option Value} {base : Heap}
def spCancel (C : Addr) : Sp := fun vs H Q _ => ∃ (p q l : Addr) (W : WS) (n : Nat), vs = [.ref p, .int (n : Nat)] ∧ WheelAt C H p q l W ∧ (W.live.map (·.num)).Nodup ∧ (∃ m ∈ W.live, m.num = n) ∧
  ∀ H', Wk p l H H' l → WheelAt C H' p q l { W with live := dropT n W.live } → Q .non H'
theorem ok_cancel {f C : Addr} {fd : FuncData} (F : Fun K "cancel" "Wheel.cancel" s_Wheel_cancel f fd) (TW : TxW K mg C) (h1 : HasM P w K mg base 2 C "check_timer" ["self", "timer"] [] (spCheckTimer C)) : FnOk P w K mg base CX0 3 f fd ["self", "timer"] (spCancel C) := by
  obtain ⟨f_ct, fd_ct, ds_ct, G_Wheel_check_timer, M_Wheel_check_timer, b_Wheel_check_timer, v_Wheel_check_timer⟩ := h1
  have cl_Wheel := TW.cl
  refine F.ok sc_Wheel_cancel (fun vs H Q E h => ?_) (fun cdv A outer s H vs Q E hr h => ?_)
  · obtain ⟨p, q, l, W, n, rfl, _⟩ := h
    rfl
  · obtain ⟨p, q, l, W, n, rfl, hw, nd, hin, c⟩ := h
    obtain ⟨dx, hp⟩ := hw.ins
    obtain ⟨kvs, hl, L⟩ := hw.live
    refine ⟨_, (pss_cons (ps_expr (pe_meth (pv 0) cl_Wheel M_Wheel_check_timer G_Wheel_check_timer hr b_Wheel_check_timer v_Wheel_check_timer pass0 (pa_cons (pv 1) pa_nil)))
      (pss_one (ps_ddel (pe_fld (pv 0) rfl) (pv 1)))), ?_⟩
    refine ⟨_, rfl, p, dx, _, rfl, hp, no_ct, _, rfl, p, q, l, W, n, rfl, hw, nd, hin, ?_⟩
    obtain ⟨m, hm, en⟩ := hin
    obtain ⟨tt, hv, ht⟩ := L.val_of nd hm
    rw [en] at hv
    have npl : l ≠ p := ne_of hl hp (by intro z; cases z)
    refine ⟨_, rfl, p, C, dx, _, _, rfl, hp, TW.cl, TW.nL, wf_l, _, rfl, l, kvs, Sum.inl (n : Int), rfl, hl, rfl, by rw [hv]; rfl, ?_⟩
    refine c _ ⟨fun c o n1 n2 e => ?_, .inl rfl⟩ ⟨⟨dx, ?_⟩, ?_, ⟨_, upd_same, ?_⟩⟩
    · rw [upd_ne n2]
      exact e
    · rw [upd_ne (Ne.symm npl)]
      exact hp
    · rw [upd_ne (ne_of hw.words hl (by intro z; cases z))]
      exact hw.words
    · exact LiveK.upd hl (fun xs z => by cases z) L.drop
end
section
variable {P : Program} {w : World} {K : PySem.W.Frag} {mg : Str → Option Value} {base : Heap}
def spReset (C : Addr) : Sp := fun vs H Q _ => ∃ (p q l : Addr) (W : WS) (m : Tm) (d : Nat), vs = [.ref p, .int (m.num : Nat), .int (d : Nat)] ∧ WheelAt C H p q l W ∧ (W.live.map (·.num)).Nodup ∧ W.live.length ≤ 1000 ∧ m ∈ W.live ∧ W.tick < d ∧
  ∀ H', Wk p l H H' l → WheelAt C H' p q l { W with live := dropT m.num W.live ++ [⟨m.num, d, m.per, W.tick⟩] } → Q .non H'
theorem ok_reset {f C : Addr} {fd : FuncData} (F : Fun K "reset" "Wheel.reset" s_Wheel_reset f fd) (TW : TxW K mg C) (h1 : HasM P w K mg base 2 C "check_timer" ["self", "timer"] [] (spCheckTimer C)) (h2 : Has P w K mg base 3 "check_tick" ["tick", "least"] [] spCheckTick) :
    FnOk P w K mg base CX0 4 f fd ["self", "timer", "due"] (spReset C) := by
  obtain ⟨f_ct, fd_ct, ds_ct, G_Wheel_check_timer, M_Wheel_check_timer, b_Wheel_check_timer, v_Wheel_check_timer⟩ := h1
  obtain ⟨f_check_tick, fd_check_tick, ds_check_tick, G_check_tick, m_check_tick, k_check_tick, b_check_tick, v_check_tick⟩ := h2
  have cl_Wheel := TW.cl
  refine F.ok sc_Wheel_reset (fun vs H Q E h => ?_) (fun cdv A outer s H vs Q E hr h => ?_)
  · obtain ⟨p, q, l, W, m, d, rfl, _⟩ := h
    rfl
  · obtain ⟨p, q, l, W, m, d, rfl, hw, nd, few, hm, htd, c⟩ := h
    have hu := hu_of hr
    obtain ⟨dx, hp⟩ := hw.ins
    obtain ⟨kvs, hl, L⟩ := hw.live
    obtain ⟨tt, hv, ht⟩ := L.val_of nd hm
    have npl : l ≠ p := ne_of hl hp (by intro z; cases z)
    refine ⟨_, (pss_cons (ps_expr (pe_meth (pv 0) cl_Wheel M_Wheel_check_timer G_Wheel_check_timer (hr.mono (by decide)) b_Wheel_check_timer v_Wheel_check_timer pass0 (pa_cons (pv 1) pa_nil)))
      (pss_cons (ps_expr (pe_call G_check_tick hr (by rfl) m_check_tick k_check_tick b_check_tick v_check_tick pass0 (pa_cons (pv 2) (pa_cons (pe_op op_add (pe_fld (pv 0) rfl) pe_int) pa_nil))))
      (pss_cons (ps_asg (pe_dpop1 (pe_fld (pv 0) rfl) (pv 1) ⟨by rfl, by rfl, by rfl, by rfl⟩) (pg_tupK (K := K) (n := 3) rfl rfl (pgs_cons (pg_name (i := 3) sc_Wheel_reset.nd rfl (.inl rfl)) (pgs_cons (pg_name (i := 4) sc_Wheel_reset.nd rfl (.inl rfl)) (pgs_cons (pg_name (i := 5) sc_Wheel_reset.nd rfl (.inl rfl)) pgs_nil)))))
      (pss_one (ps_dput hu (pe_fld (pv 0) rfl) (pv 1) (pe_tup (pa_cons (pv 2) (pa_cons (pv 4) (pa_cons (pe_fld (pv 0) rfl) pa_nil)))) rfl))))), ?_⟩
    refine ⟨_, rfl, p, dx, _, rfl, hp, no_ct, _, rfl, p, q, l, W, m.num, rfl, hw, nd, ⟨m, hm, rfl⟩, ?_⟩
    refine ⟨_, rfl, _, rfl, p, C, dx, _, _, rfl, hp, TW.cl, TW.nT, wf_t, _, 1, rfl, rfl, (d : Nat), _, rfl, by omega, ?_⟩
    refine ⟨_, rfl, p, C, dx, _, _, rfl, hp, TW.cl, TW.nL, wf_l, l, rfl, .inl ⟨_, .inl hl⟩, _, rfl, kvs, Sum.inl (m.num : Int), _, hl, rfl, hv, ?_⟩
    have hl1 : (upd H l (.dK (dropK kvs (Sum.inl (m.num : Int))))) l = some (.dK (dropK kvs (Sum.inl (m.num : Int)))) := upd_same
    have hp1 : (upd H l (.dK (dropK kvs (Sum.inl (m.num : Int))))) p = some (.ins C dx (wfl W.b q W.tick W.fol l)) := by rw [upd_ne (Ne.symm npl)]; exact hp
    have ht1 : (upd H l (.dK (dropK kvs (Sum.inl (m.num : Int))))) tt = some (.tup (tmV m)) := by rw [upd_ne (ne_of ht hl (by intro z; cases z))]; exact ht
    have Ld := (L.drop (n := m.num)).upd (o' := .dK (dropK kvs (Sum.inl (m.num : Int)))) hl (fun xs z => by cases z)
    refine ⟨tt, _, rfl, .inl (.inl ht1), rfl, _, _, rfl, _, _, rfl, _, _, rfl, rfl, ?_⟩
    refine ⟨_, rfl, _, rfl, _, rfl, p, C, dx, _, _, rfl, hp1, TW.cl, TW.nT, wf_t, by simp [sizeLine_eq], fun u hu0 => ?_⟩
    have su := same_upd (o := .tup (tmV ⟨m.num, d, m.per, W.tick⟩)) hu0
    have hvn := Ld.val_not (n := m.num) (fun m' hm' => drop_not m' hm')
    have hlen : (dropK kvs (Sum.inl (m.num : Int))).length < sizeLine := by
      have z := dropK_le kvs (Sum.inl (m.num : Int) : Key)
      rw [L.len] at z
      exact sizeLine_ge (by omega)
    refine ⟨_, rfl, p, C, dx, _, _, rfl, su _ _ hp1, TW.cl, TW.nL, wf_l, _, rfl, l, _, rfl, DPut.k (k := Sum.inl (m.num : Int)) (su _ _ hl1) hlen, ?_⟩
    rw [putK_new _ hvn]
    refine c _ ⟨fun c o n1 n2 e => ?_, .inl rfl⟩ ⟨⟨dx, ?_⟩, ?_, ⟨_, upd_same, ?_⟩⟩
    · rw [upd_ne n2]
      exact su _ _ (by rw [upd_ne n2]; exact e)
    · rw [upd_ne (Ne.symm npl)]
      exact su _ _ hp1
    · have n := ne_of hw.words hl (by intro z; cases z)
      rw [upd_ne n]
      exact su _ _ (by rw [upd_ne n]; exact hw.words)
    · exact LiveK.upd (su _ _ hl1) (fun xs z => by cases z) ((Ld.same su).snoc (m := ⟨m.num, d, m.per, W.tick⟩) rfl upd_same)
end
section
variable {P : Program} {w : World} {K : PySem.W.Frag} {mg : Str → Option Value} {base : Heap}
def spTimers (C : Addr) : Sp := fun vs H Q _ => ∃ (p q l : Addr) (W : WS), vs = [.ref p] ∧ WheelAt C H p q l W ∧ W.live.length < 64 ∧
  ∀ H' r (ns : List Nat), Same H H' → H r = none → H' r = some (.lst (ns.map fun x => V.int (x : Nat))) → ns.Perm (W.live.map (·.num)) → ns.Pairwise (· ≤ ·) → Q (.ref r) H'
theorem nats_of : ∀ {ys : List Int} {ns : List Nat}, (∀ y ∈ ys, 0 ≤ y) → (ys.map Int.toNat).map (fun n : Nat => (n : Int)) = ys
  | [], _, _ => rfl
  | y :: ys, _, h => by
    rw [List.map_cons, List.map_cons, nats_of (ns := []) fun z hz => h z (List.mem_cons_of_mem _ hz), Int.toNat_of_nonneg (h y (List.mem_cons_self ..))]
theorem ok_timers {f C : Addr} {fd : FuncData} (F : Fun K "timers" "Wheel.timers" s_Wheel_timers f fd) (T : Tx K mg) (TW : TxW K mg C) : FnOk P w K mg base CX0 1 f fd ["self"] (spTimers C) := by
  refine F.ok sc_Wheel_timers (fun vs H Q E h => ?_) (fun cdv A outer s H vs Q E hr h => ?_)
  · obtain ⟨p, q, l, W, rfl, _⟩ := h
    rfl
  · obtain ⟨p, q, l, W, rfl, hw, h64, c⟩ := h
    obtain ⟨dx, hp⟩ := hw.ins
    obtain ⟨kvs, hl, L⟩ := hw.live
    refine ⟨_, (pss_one (ps_ret (pe_callB (call_sortedDI rfl) (by rfl) T.b_sorted (by decide +kernel) (pa_cons (pe_fld (pv 0) rfl) pa_nil)))), ?_⟩
    refine ⟨_, rfl, p, C, dx, _, _, rfl, hp, TW.cl, TW.nL, wf_l, l, kvs, W.live.map fun m => (m.num : Int), rfl, .inl hl, ?_, by rw [List.length_map]; exact h64, fun ys r hperm hsort hr0 => ?_⟩
    · rw [L.keys, List.map_map]
      rfl
    · have hnn : ∀ y ∈ ys, 0 ≤ y := fun y hy => by
        obtain ⟨m, _, e⟩ := List.mem_map.mp (hperm.mem_iff.mp hy)
        rw [← e]
        omega
      have e := nats_of (ns := []) hnn
      refine c _ r (ys.map Int.toNat) (same_upd hr0) hr0 ?_ ?_ ?_
      · rw [upd_same]
        have e2 : (ys.map Int.toNat).map (fun x : Nat => V.int (x : Nat)) = ys.map V.int := by
          have z := congrArg (List.map V.int) e
          rw [List.map_map] at z
          exact z
        rw [e2]
      · have z := hperm.map Int.toNat
        rw [List.map_map] at z
        have e3 : (W.live.map (Int.toNat ∘ fun m => (m.num : Int))) = W.live.map (·.num) := List.map_congr_left fun m _ => Int.toNat_natCast m.num
        rw [e3] at z
        exact z
      · rw [List.pairwise_map]
        exact hsort.imp fun h => Int.toNat_le_toNat h
end
section
variable {P : Program} {w : World} {K : PySem.W.Frag} {mg : Str → Option Value} {base : Heap}
def spDue (C : Addr) : Sp := fun vs H Q _ => ∃ (p q l : Addr) (W : WS) (m : Tm), vs = [.ref p, .int (m.num : Nat)] ∧ WheelAt C H p q l W ∧ (W.live.map (·.num)).Nodup ∧ m ∈ W.live ∧ Q (.int (m.due : Nat)) H
theorem ok_due {f C : Addr} {fd : FuncData} (F : Fun K "due" "Wheel.due" s_Wheel_due f fd) (TW : TxW K mg C) (h1 : HasM P w K mg base 2 C "check_timer" ["self", "timer"] [] (spCheckTimer C)) : FnOk P w K mg base CX0 3 f fd ["self", "timer"] (spDue C) := by
  obtain ⟨f_ct, fd_ct, ds_ct, G_Wheel_check_timer, M_Wheel_check_timer, b_Wheel_check_timer, v_Wheel_check_timer⟩ := h1
  have cl_Wheel := TW.cl
  refine F.ok sc_Wheel_due (fun vs H Q E h => ?_) (fun cdv A outer s H vs Q E hr h => ?_)
  · obtain ⟨p, q, l, W, m, rfl, _⟩ := h
    rfl
  · obtain ⟨p, q, l, W, m, rfl, hw, nd, hm, c⟩ := h
    have hu := hu_of hr
    obtain ⟨dx, hp⟩ := hw.ins
    obtain ⟨kvs, hl, L⟩ := hw.live
    obtain ⟨tt, hv, ht⟩ := L.val_of nd hm
    refine ⟨_, (pss_cons (ps_expr (pe_meth (pv 0) cl_Wheel M_Wheel_check_timer G_Wheel_check_timer hr b_Wheel_check_timer v_Wheel_check_timer pass0 (pa_cons (pv 1) pa_nil)))
      (pss_one (ps_ret (pe_ix (ix_tupK (K := K) rfl) (pe_dget hu (pe_fld (pv 0) rfl) (pv 1) (fun _ _ => rfl)) pe_int (fun _ _ => rfl))))), ?_⟩
    refine ⟨_, rfl, p, dx, _, rfl, hp, no_ct, _, rfl, p, q, l, W, m.num, rfl, hw, nd, ⟨m, hm, rfl⟩, ?_⟩
    refine ⟨_, rfl, p, C, dx, _, _, rfl, hp, TW.cl, TW.nL, wf_l, _, rfl, l, .ref tt, rfl, ?_, tt, _, 0, _, rfl, rfl, SqT.of ht, atI_nat (j := 0) rfl, c⟩
    rw [← hv]
    exact DGet.k (k := Sum.inl (m.num : Int)) hl
end
/-! ### what fired, in the heap -/
/-- the list of what fired: tuples of the tick and a list of numbers -/
def FiredAt (r : Addr) (H : Hp) : List Addr → List (Nat × List Nat) → Prop
  | [], [] => True
  | t :: ts, f :: fs => (∃ u, H t = some (.tup [.int (f.1 : Nat), .ref u]) ∧ u ≠ r ∧ H u = some (.lst (f.2.map fun x => V.int (x : Nat)))) ∧ FiredAt r H ts fs
  | _, _ => False
theorem FiredAt.frame {r : Addr} {H H' : Hp} (s : ∀ t a u, H t = some (.tup [a, .ref u]) → H' t = some (.tup [a, .ref u])) (s2 : ∀ u (xs : List Nat), u ≠ r → H u = some (.lst (xs.map fun x => V.int (x : Nat))) → H' u = some (.lst (xs.map fun x => V.int (x : Nat)))) : ∀ {ts : List Addr} {fs : List (Nat × List Nat)}, FiredAt r H ts fs → FiredAt r H' ts fs
  | [], [], _ => trivial
  | _ :: _, _ :: _, ⟨⟨u, h1, hn, h2⟩, h3⟩ => ⟨⟨u, s _ _ _ h1, hn, s2 _ _ hn h2⟩, h3.frame s s2⟩
  | [], _ :: _, h => h.elim
  | _ :: _, [], h => h.elim
theorem FiredAt.same {r : Addr} {H H' : Hp} (s : Same H H') {ts : List Addr} {fs : List (Nat × List Nat)} (h : FiredAt r H ts fs) : FiredAt r H' ts fs := h.frame (fun _ _ _ e => s _ _ e) fun _ _ _ e => s _ _ e
theorem FiredAt.app {r : Addr} {H : Hp} {t : Addr} {f : Nat × List Nat} : ∀ {ts : List Addr} {fs : List (Nat × List Nat)}, FiredAt r H ts fs → (∃ u, H t = some (.tup [.int (f.1 : Nat), .ref u]) ∧ u ≠ r ∧ H u = some (.lst (f.2.map fun x => V.int (x : Nat)))) → FiredAt r H (ts ++ [t]) (fs ++ [f])
  | [], [], _, h => ⟨h, trivial⟩
  | _ :: _, _ :: _, h, h2 => ⟨h.1, h.2.app h2⟩
  | [], _ :: _, h, _ => h.elim
  | _ :: _, [], h, _ => h.elim
theorem FiredAt.len {r : Addr} {H : Hp} : ∀ {ts : List Addr} {fs : List (Nat × List Nat)}, FiredAt r H ts fs → ts.length = fs.length
  | [], [], _ => rfl
  | _ :: _, _ :: _, h => congrArg Nat.succ h.2.len
  | [], _ :: _, h => h.elim
  | _ :: _, [], h => h.elim
/-! ### advance -/
section
variable {P : Program} {w : World} {K : PySem.W.Frag} {mg : Str → Option Value} {base : Heap}
def spAdvance (C : Addr) : Sp := fun vs H Q _ => ∃ (p q l : Addr) (W : WS) (t : Nat) (fired : List (Nat × List Nat)) (ms' : List Tm), vs = [.ref p, .int (t : Nat)] ∧ WheelAt C H p q l W ∧ 2 ≤ W.b ∧ W.b ≤ 64 ∧ W.ws ≠ [] ∧ W.live.length ≤ 1000 ∧ W.tick ≤ t ∧ AdvTo W.b W.ws t W.live fired ms' ∧ total fired ≤ 2000 ∧
  ∀ H' r l' ts, Wk p l H H' l' → H r = none → H' r = some (.lst (ts.map V.ref)) → FiredAt r H' ts fired → WheelAt C H' p q l' { W with tick := t, live := ms' } → Q (.ref r) H'
theorem fire_tick (t : Nat) (ms : List Tm) (ns : List Nat) : (afterF t ms ns).length ≤ ms.length := by
  unfold afterF
  induction ns generalizing ms with
  | nil => exact Nat.le_refl _
  | cons n ns ih => exact Nat.le_trans (ih (fireT t ms n)) fire_len
theorem ok_advance {f C : Addr} {fd : FuncData} (F : Fun K "advance" "Wheel.advance" s_Wheel_advance f fd) (T : Tx K mg) (TW : TxW K mg C) (hM : ∃ t, mg "MOST_FIRINGS" = some (.int 2000 t)) (h1 : Has P w K mg base 3 "check_tick" ["tick", "least"] [] spCheckTick)
    (h2 : Has P w K mg base 1 "least_due" ["live"] [] spLeast) (h3 : Has P w K mg base 5 "order_of_firing" ["base", "levels", "live", "tick"] [] (spOrder K)) (h4 : Has P w K mg base 1 "after_firing" ["live", "numbers", "tick"] [] spAfter) :
    FnOk P w K mg base CX0 6 f fd ["self", "tick"] (spAdvance C) := by
  obtain ⟨f_check_tick, fd_check_tick, ds_check_tick, G_check_tick, m_check_tick, k_check_tick, b_check_tick, v_check_tick⟩ := h1
  obtain ⟨f_least_due, fd_least_due, ds_least_due, G_least_due, m_least_due, k_least_due, b_least_due, v_least_due⟩ := h2
  obtain ⟨f_order_of_firing, fd_order_of_firing, ds_order_of_firing, G_order_of_firing, m_order_of_firing, k_order_of_firing, b_order_of_firing, v_order_of_firing⟩ := h3
  obtain ⟨f_after_firing, fd_after_firing, ds_after_firing, G_after_firing, m_after_firing, k_after_firing, b_after_firing, v_after_firing⟩ := h4
  obtain ⟨tM, g_MOST_FIRINGS⟩ := hM
  refine F.ok sc_Wheel_advance (fun vs H Q E h => ?_) (fun cdv A outer s H vs Q E hr h => ?_)
  · obtain ⟨p, q, l, W, t, fired, ms', rfl, _⟩ := h
    rfl
  · obtain ⟨p, q, l, W, t, fired, ms', rfl, hw, hb, hb64, hne, few, htt, adv, tot, c⟩ := h
    obtain ⟨dx, hp⟩ := hw.ins
    obtain ⟨kvs, hl, L⟩ := hw.live
    refine ⟨_, (pss_cons (ps_expr (pe_call G_check_tick (hr.mono (by decide)) (by rfl) m_check_tick k_check_tick b_check_tick v_check_tick pass0 (pa_cons (pv 1) (pa_cons (pe_fld (pv 0) rfl) pa_nil))))
      (pss_cons (ps_set (i := 2) sc_Wheel_advance.nd rfl (.inl rfl) (pe_lst pa_nil))
      (pss_cons (ps_set (i := 3) sc_Wheel_advance.nd rfl (.inl rfl) pe_int)
      (pss_cons (ps_set (i := 4) sc_Wheel_advance.nd rfl (.inl rfl) (pe_fld (pv 0) rfl))
      (pss_cons (ps_set (i := 5) sc_Wheel_advance.nd rfl (.inl rfl) (pe_call G_least_due (hr.mono (by decide)) (by rfl) m_least_due k_least_due b_least_due v_least_due pass0 (pa_cons (pv 4) pa_nil)))
      (pss_cons (ps_while PassesOwn.never (PW.pt (pw_and (pt_cmpR op_notN (pv 5) pe_non (nomark _)) (pw_and1 (pt_cmpR op_le (pv 5) (pv 1) (nomark _)))))
        (pss_cons (ps_set (i := 6) sc_Wheel_advance.nd rfl (.inl rfl) (pe_call G_order_of_firing hr (by rfl) m_order_of_firing k_order_of_firing b_order_of_firing v_order_of_firing pass0 (pa_cons (pe_fld (pv 0) rfl) (pa_cons (pe_fld (pv 0) rfl) (pa_cons (pv 4) (pa_cons (pv 5) pa_nil))))))
        (pss_cons (ps_aug (i := 3) sc_Wheel_advance.nd rfl (.inl rfl) (pe_callB (lenK (K := K) rfl) (by rfl) T.b_len PySem.boot_len (pa_cons (pv 6) pa_nil)) ip_add)
        (pss_cons (ps_if (pt_cmpR op_gt (pv 3) (pe_glob (v := .int 2000) rfl g_MOST_FIRINGS ⟨_, rfl⟩) (nomark _))
          (pss_one ps_never)
          pss_nil)
        (pss_cons (ps_expr (pe_bm PySem.F.plainAttrs_list PySem.F.slot_list_append PySem.F.type_list_append mt_append (pv 2) (pa_cons (pe_tup (pa_cons (pv 5) (pa_cons (pv 6) pa_nil))) pa_nil)))
        (pss_cons (ps_set (i := 4) sc_Wheel_advance.nd rfl (.inl rfl) (pe_call G_after_firing (hr.mono (by decide)) (by rfl) m_after_firing k_after_firing b_after_firing v_after_firing pass0 (pa_cons (pv 4) (pa_cons (pv 6) (pa_cons (pv 5) pa_nil)))))
        (pss_one (ps_set (i := 5) sc_Wheel_advance.nd rfl (.inl rfl) (pe_call G_least_due (hr.mono (by decide)) (by rfl) m_least_due k_least_due b_least_due v_least_due pass0 (pa_cons (pv 4) pa_nil))))))))))
      (pss_cons (ps_fld (pv 0) (pv 4) rfl)
      (pss_cons (ps_fld (pv 0) (pv 1) rfl)
      (pss_one (ps_ret (pv 2))))))))))), ?_⟩
    refine ⟨_, rfl, _, rfl, p, C, dx, _, _, rfl, hp, TW.cl, TW.nT, wf_t, (t : Nat), _, rfl, by omega, ?_⟩
    refine ⟨by simp [sizeLine_eq], fun r hr0 => ?_⟩
    have s1 := same_upd (o := .lst []) hr0
    refine ⟨_, rfl, p, C, dx, _, _, rfl, s1 _ _ hp, TW.cl, TW.nL, wf_l, ?_⟩
    refine ⟨_, rfl, l, kvs, W.live, rfl, s1 _ _ hl, L.same s1, few, fun H2 s2 => ?_⟩
    have s12 := s1.trans s2
    refine while_by (fun σ H' => ∃ (lc : Addr) (kvc : List (Key × V)) (ms : List Tm) (rest done : List (Nat × List Nat)) (ts : List Addr) (many : Nat) (y6 : Option V), σ = [some (.ref p), some (.int (t : Nat)), some (.ref r), some (.int (many : Nat)), some (.ref lc), some (perV (leastD ms)), y6] ∧ Same H H' ∧ H' lc = some (.dK kvc) ∧ LiveK H' kvc ms ∧ ms.length ≤ 1000 ∧ AdvTo W.b W.ws t ms rest ms' ∧ many + total rest ≤ 2000 ∧ ts.length ≤ many ∧ fired = done ++ rest ∧ H' r = some (.lst (ts.map V.ref)) ∧ FiredAt r H' ts done ∧ (lc = l ∨ H lc = none))
      (fun σ _ => 3000 - slotInt σ 3) ⟨l, kvs, W.live, fired, [], [], 0, none, rfl, s12, s12 _ _ hl, L.same s12, few, adv, by omega, Nat.le_refl _, rfl, s2 _ _ upd_same, trivial, .inl rfl⟩ ?_ ?_
    · rintro σ H' ⟨lc, kvc, ms, rest, done, ts, many, y6, rfl, sm, elc, Lc, fewc, advc, totc, htsm, efd, er, FA, hlc⟩
      have hp' := sm _ _ hp
      have hw' := sm _ _ hw.words
      -- the end of it
      have fin : rest = [] → ms = ms' → tSeq (sFld K (tVar 0) (tVar 4) "live") (tSeq (sFld K (tVar 0) (tVar 1) "tick") (tRet (tVar 2))) { nx := fun _ H' => Q .non H', rt := Q } [some (.ref p), some (.int (t : Nat)), some (.ref r), some (.int (many : Nat)), some (.ref lc), some (perV (leastD ms)), y6] H' := by
        rintro rfl rfl
        rw [List.append_nil] at efd
        have npr : p ≠ r := fun e => by
          rw [e, hr0] at hp
          cases hp
        have npl : lc ≠ p := ne_of elc hp' (by intro z; cases z)
        have nqp : q ≠ p := ne_of hw' hp' (by intro z; cases z)
        refine ⟨_, rfl, _, rfl, p, C, dx, _, rfl, hp', TW.cl, TW.nL, by simp [wfl], ?_⟩
        rw [wf_pl]
        refine ⟨_, rfl, _, rfl, p, C, dx, _, rfl, upd_same, TW.cl, TW.nT, by simp [wfl], ?_⟩
        rw [wf_pt]
        have k' : ∀ c o, c ≠ p → H' c = some o → (upd (upd H' p (.ins C dx (wfl W.b q W.tick W.fol lc))) p (.ins C dx (wfl W.b q t W.fol lc))) c = some o := fun c o n e => by
          rw [upd_ne n, upd_ne n]
          exact e
        refine ⟨_, rfl, c _ r lc ts ⟨fun c o n1 n2 e => k' c o n1 (sm _ _ e), hlc⟩ hr0 (k' _ _ (Ne.symm npr) er) ?_ ⟨⟨dx, upd_same⟩, k' _ _ nqp hw', ⟨kvc, k' _ _ npl elc, ?_⟩⟩⟩
        · rw [efd]
          exact FA.frame (fun t a u e => k' _ _ (ne_of e hp' (by intro z; cases z)) e) fun u xs _ e => k' _ _ (ne_of e hp' (by intro z; cases z)) e
        · exact Lc.frame fun t m e => k' _ _ (ne_of e hp' (by intro z; cases z)) e
      cases advc with
      | done hdone =>
        cases hle : leastD ms' with
        | none => exact ⟨_, rfl, rfl, false, rfl, iteF (iteF (by rw [← hle]; exact fin rfl rfl))⟩
        | some v =>
          obtain ⟨m, hm, em⟩ := List.mem_map.mp (least_some.mp hle).1
          have hmt := hdone m hm
          have hvt : ¬ ((v : Int) ≤ (t : Int)) := by omega
          refine ⟨_, rfl, rfl, true, rfl, iteT ⟨_, rfl, _, rfl, (v : Nat), (t : Nat), rfl, rfl, false, dF hvt, iteF ?_⟩⟩
          rw [show perV (some v) = perV (leastD ms') from by rw [hle]]
          exact fin rfl rfl
      | @step _ _ at_ rest' hle hat okm ndm fewm radv =>
        rw [hle]
        have hat' : ((at_ : Int) ≤ (t : Int)) := by omega
        have etot : total ((at_, orderAt W.b W.ws at_ ms) :: rest') = (orderAt W.b W.ws at_ ms).length + total rest' := by
          unfold total
          rw [List.map_cons, List.sum_cons]
        rw [etot] at totc
        have hpos := order_pos (b := W.b) (ws := W.ws) hle
        refine ⟨_, rfl, rfl, true, rfl, iteT ⟨_, rfl, _, rfl, (at_ : Nat), (t : Nat), rfl, rfl, true, dT hat', iteT ?_⟩⟩
        refine ⟨_, rfl, p, C, dx, _, _, rfl, hp', TW.cl, TW.nB, wf_b, _, rfl, p, C, dx, _, _, rfl, hp', TW.cl, TW.nW, wf_w, _, rfl, _, rfl, W.b, at_, q, lc, W.ws, kvc, ms, rfl, hb, hb64, SqL.of hw', hne, elc, Lc, fewc, okm, fun H3 pn s3 hpn0 epn => ?_⟩
        refine ⟨_, rfl, _, rfl, pn, _, rfl, .inl (SqL.of epn), (many : Nat), ((orderAt W.b W.ws at_ ms).length : Nat), rfl, congrArg (fun k : Nat => V.int (k : Nat)) (List.length_map ..), ?_⟩
        refine ⟨_, rfl, _, _, rfl, rfl, false, dF (by show ¬ ((2000 : Int) < (many : Int) + ((orderAt W.b W.ws at_ ms).length : Nat)); omega), iteF ?_⟩
        have er3 := s3 _ _ er
        have nrp : r ≠ pn := fun e => by
          rw [← e, er] at hpn0
          cases hpn0
        refine ⟨_, rfl, .inl ⟨rfl, _, .inl (.inl er3)⟩, _, rfl, _, rfl, by simp [sizeLine_eq], fun u hu0 => ?_⟩
        have su := same_upd (o := .tup [perV (some at_), .ref pn]) hu0
        have eru := su _ _ er3
        refine ⟨r, _, _, rfl, rfl, eru, by rw [List.length_map]; exact sizeLine_ge (by omega), ?_⟩
        generalize hH4 : upd (upd H3 u (.tup [perV (some at_), .ref pn])) r (.lst (ts.map V.ref ++ [.ref u])) = H4
        have k4 : ∀ c o, c ≠ r → H3 c = some o → H4 c = some o := fun c o n e => by
          rw [← hH4, upd_ne n]
          exact su _ _ e
        have nur : u ≠ r := fun e => by
          rw [e, er3] at hu0
          cases hu0
        have eu4 : H4 u = some (.tup [.int (at_ : Nat), .ref pn]) := by
          rw [← hH4, upd_ne nur]
          exact upd_same
        have er4 : H4 r = some (.lst ((ts ++ [u]).map V.ref)) := by
          rw [← hH4, upd_same, List.map_append]
          rfl
        have epn4 := k4 _ _ (Ne.symm nrp) epn
        have sm4 : Same H H4 := fun c o e => k4 c o (ne_of_none e hr0) (s3 _ _ (sm _ _ e))
        have nlr : lc ≠ r := ne_of elc er (by intro z; cases z)
        have elc4 := k4 _ _ nlr (s3 _ _ elc)
        have Lc4 : LiveK H4 kvc ms := Lc.frame fun t m e => k4 _ _ (ne_of e er (by intro z; cases z)) (s3 _ _ e)
        have FA4 : FiredAt r H4 ts done := by
          exact FA.frame (fun t a u e => k4 _ _ (ne_of e er (by intro z; cases z)) (s3 _ _ e)) fun u xs hn e => k4 _ _ hn (s3 _ _ e)
        refine ⟨_, rfl, _, rfl, _, rfl, lc, pn, at_, orderAt W.b W.ws at_ ms, kvc, ms, rfl, elc4, Lc4, fewc, ndm, epn4, ⟨order_nodup ndm, fun n hn => by
          obtain ⟨m, h1, _, h3⟩ := order_mem.mp hn
          exact ⟨m, h1, h3⟩⟩, fun H5 lc5 kvc5 s5 hlc5 elc5 Lc5 => ?_⟩
        have few5 : (afterF at_ ms (orderAt W.b W.ws at_ ms)).length ≤ 1000 := Nat.le_trans (fire_tick _ _ _) fewc
        refine ⟨_, rfl, lc5, kvc5, _, rfl, elc5, Lc5, few5, fun H6 s6 => ?_⟩
        have s56 := s5.trans s6
        refine ⟨⟨lc5, kvc5, afterF at_ ms (orderAt W.b W.ws at_ ms), rest', done ++ [(at_, orderAt W.b W.ws at_ ms)], ts ++ [u], (many + (orderAt W.b W.ws at_ ms).length), _, rfl, sm4.trans s56, s6 _ _ elc5, Lc5.same s6, few5, radv, by omega, ?_, by rw [efd, List.append_assoc]; rfl, s56 _ _ er4, (FA4.app ⟨pn, eu4, Ne.symm nrp, epn4⟩).same s56, .inr (sm4.free hlc5)⟩, ?_⟩
        · rw [List.length_append, List.length_singleton]
          omega
        · show 3000 - (((many + (orderAt W.b W.ws at_ ms).length) : Int)).toNat < 3000 - ((many : Int)).toNat
          omega
    · rintro σ H' Q1 Q2 h ⟨x, hx, e1, k, e, z⟩
      refine ⟨x, hx, e1, k, e, ?_⟩
      cases k with
      | false => exact iteF (h _ _ (by rw [if_neg Bool.false_ne_true] at z; exact z))
      | true =>
        rw [if_pos rfl] at z
        refine iteT ?_
        obtain ⟨x1, hx1, x2, hx2, i, j, e2, e3, k', e4, zz⟩ := z
        exact ⟨x1, hx1, x2, hx2, i, j, e2, e3, k', e4, h _ _ zz⟩
end
/-! ### o.m(e, .., k = v, ..) -/
def tMethK (C : Addr) (m : Str) (sp : Sp) (n mk : Nat) (gV : List V → List V → List V) (E : XK) (ta : TE) (t tk : TA) : TE := fun σ H Q => ta σ H fun x H1 => ∃ (a dx : Addr) (fs : List (Str × V)), x = .ref a ∧ H1 a = some (.ins C dx fs) ∧ fs.lookup m = none ∧
  t σ H1 fun vs H2 => tk σ H2 fun zs H3 => vs.length + 1 = n ∧ zs.length = mk ∧ sp (gV (.ref a :: vs) zs) H3 Q E
section
variable {X : Cx} {CX : CXT} {k n : Nat} {C f : Addr} {fd : FuncData} {ps ks : List Str} {m : Str} {sp : Sp} {E : XK} {g : List Value → List Value → List Value} {gV : List V → List V → List V} {o e : Expr} {es : List Expr} {kws : List Keyword} {ta : TE} {t tk : TA} {apos pos : Pos}
theorem pe_methK {pl : Sem Bool} (he : PE X o ta) (c : Cls X.K C) (hm : Meth X.K C m f) (F : FnOk X.prog X.w X.K X.mg X.base CX k f fd ps sp) (hr : Room k X.A) (hb : KBn X.K fd ps n ks g gV) (hx : Passes CX X E) (ha : PA X (e :: es) t) (hkw : PK X kws tk)
    (hall : (backToKw pos (keywordEach kws X.env)).all (·.1.isSome) = true := by rfl) (hks : (backToKw pos (keywordEach kws X.env)).filterMap (·.1) = ks := by rfl)
    (hst : starEach (e :: es) X.env = (false, eval e X.env) :: starEach es X.env := by rfl)
    (hpl : ((backTo pos (starEach (e :: es) X.env)).any (·.1) || (backToKw pos (keywordEach kws X.env)).any (·.1.isNone)) = false := by rfl)
    (ht : eval (.Call (.Attribute o m apos) (e :: es) kws pos) X.env = (do
      let ov ← eval o X.env
      standAt apos.atName
      let (f, first) ← holding [ov] (getMethod ov m pl)
      callWith pos f first (backTo pos (starEach (e :: es) X.env)) (backToKw pos (keywordEach kws X.env))) := by rfl) :
    PE X (.Call (.Attribute o m apos) (e :: es) kws pos) (tMethK C m sp n ks.length gV E ta t tk) := by
  refine ⟨fun pins s σ H Q I h => ?_⟩
  refine PySem.W.methodCall_KW (pl := pl) (thn (he.run pins s σ H _ I h) fun u s1 ⟨x, H1, I1, rx, a, dx, fs, ex, ea, l, q⟩ => ?_) ht
  subst ex
  obtain rfl : u = Value.ref a := rx
  refine getmeth_ok I1 ea c hm l ?_
  refine PySem.W.callWith_KW (first := [.ref a]) (h₀ := X.base) I.ok.mod.kin hm.kp hall (thn (ha.run pos pins s1 σ H1 _ I1 q) fun us s2 ⟨vs, H2, I2, r, q2⟩ => ?_) hpl hst
  refine thn (hkw.run pos pins s2 σ H2 _ I2 q2) fun ws s3 ⟨zs, H3, I3, rz, l1, l2, q3⟩ => ⟨I3.kIn, ?_⟩
  rw [hks]
  exact run_fnN (us := .ref a :: us) (vs := .ref a :: vs) F hr hb hx I3 (.cons rfl r) rz (by rw [List.length_cons]; exact l1) l2 q3
end
/-! ### put, with its period told by name -/
section
variable {b : Nat} {q : Addr} {t f : Nat} {l : Addr}
theorem nm_put : (wfl b q t f l).lookup ("put" : Str) = none := wf_no (by decide +kernel) (by decide +kernel) (by decide +kernel) (by decide +kernel) (by decide +kernel)
theorem nm_timers : (wfl b q t f l).lookup ("timers" : Str) = none := wf_no (by decide +kernel) (by decide +kernel) (by decide +kernel) (by decide +kernel) (by decide +kernel)
theorem nm_cancel : (wfl b q t f l).lookup ("cancel" : Str) = none := wf_no (by decide +kernel) (by decide +kernel) (by decide +kernel) (by decide +kernel) (by decide +kernel)
theorem nm_reset : (wfl b q t f l).lookup ("reset" : Str) = none := wf_no (by decide +kernel) (by decide +kernel) (by decide +kernel) (by decide +kernel) (by decide +kernel)
theorem nm_now : (wfl b q t f l).lookup ("now" : Str) = none := wf_no (by decide +kernel) (by decide +kernel) (by decide +kernel) (by decide +kernel) (by decide +kernel)
theorem nm_lists : (wfl b q t f l).lookup ("lists" : Str) = none := wf_no (by decide +kernel) (by decide +kernel) (by decide +kernel) (by decide +kernel) (by decide +kernel)
theorem nm_lists_at : (wfl b q t f l).lookup ("lists_at" : Str) = none := wf_no (by decide +kernel) (by decide +kernel) (by decide +kernel) (by decide +kernel) (by decide +kernel)
theorem nm_advance : (wfl b q t f l).lookup ("advance" : Str) = none := wf_no (by decide +kernel) (by decide +kernel) (by decide +kernel) (by decide +kernel) (by decide +kernel)
theorem nm_next_event : (wfl b q t f l).lookup ("next_event" : Str) = none := wf_no (by decide +kernel) (by decide +kernel) (by decide +kernel) (by decide +kernel) (by decide +kernel)
theorem nm_next_firing : (wfl b q t f l).lookup ("next_firing" : Str) = none := wf_no (by decide +kernel) (by decide +kernel) (by decide +kernel) (by decide +kernel) (by decide +kernel)
end
section
variable {P : Program} {w : World} {K : PySem.W.Frag} {mg : Str → Option Value} {base : Heap}
def HasPut (P : Program) (w : World) (K : PySem.W.Frag) (mg : Str → Option Value) (base : Heap) (k : Nat) (C : Addr) : Prop :=
  ∃ (f : Addr) (fd : FuncData) (ds : List Value), FnOk P w K mg base CX0 k f fd ["self", "due", "period"] (spPut C) ∧ Meth K C "put" f ∧ L2.Binds K fd ["self", "due", "period"] ds ∧ Vals [.non] ds ∧ KBn K fd ["self", "due", "period"] 2 [Str.ofString "period"] (fun us ws => us ++ ws) (fun vs zs => vs ++ zs)
def HasInit (P : Program) (w : World) (K : PySem.W.Frag) (mg : Str → Option Value) (base : Heap) (k : Nat) (C : Addr) : Prop :=
  ∃ (fi : Addr) (fdi : FuncData), Mk K C fi ∧ FnOk P w K mg base CX0 k fi fdi ["self", "base", "levels", "start"] (spInit C K) ∧ KBn K fdi ["self", "base", "levels", "start"] 3 [Str.ofString "start"] (fun us ws => us ++ ws) (fun vs zs => vs ++ zs)
end
theorem okw_put {W : WS} (h : WOk W) (hl : W.live.length < 1000) {d : Nat} {o : Option Nat} (h1 : W.tick < d) (h2 : d < 2 ^ 250) (ho : ∀ k, o = some k → 1 ≤ k) : WOk { W with fol := W.fol + 1, live := W.live ++ [⟨W.fol, d, o, W.tick⟩] } := by
  refine ⟨h.b2, h.b64, h.ne, h.l60, fun m hm => ?_, ?_, ?_⟩
  · rcases List.mem_append.mp hm with z | z
    · have y := h.tms m z
      exact ⟨y.since, y.due, y.big, Nat.lt_succ_of_lt y.num, y.per⟩
    · rw [List.mem_singleton.mp z]
      exact ⟨Nat.le_refl _, h1, h2, Nat.lt_succ_self _, ho⟩
  · rw [List.map_append]
    refine L2.nd_snoc h.nd fun hm => ?_
    obtain ⟨m, hm, e⟩ := List.mem_map.mp hm
    have := (h.tms m hm).num
    have e' : m.num = W.fol := e
    omega
  · show (W.live ++ [_]).length ≤ 1000
    rw [List.length_append]
    show W.live.length + 1 ≤ 1000
    omega
/-! ### what a changed wheel leaves as it stands -/
theorem Wk.pre {p l l' : Addr} {H H1 H' : Hp} (s : Same H H1) (k : Wk p l H1 H' l') : Wk p l H H' l' := ⟨fun c o n1 n2 e => k.keep c o n1 n2 (s _ _ e), k.new.imp id s.free⟩
theorem Wk.post {p l l' : Addr} {H H1 H' : Hp} (k : Wk p l H H1 l') (s : Same H1 H') : Wk p l H H' l' := ⟨fun c o n1 n2 e => s _ _ (k.keep c o n1 n2 e), k.new⟩
/-- what stands in a heap beside wheels: lists and tuples stay -/
theorem Wk.lst {C p q l l' : Addr} {H H' : Hp} {W : WS} (k : Wk p l H H' l') (w : WheelAt C H p q l W) {c : Addr} {xs : List V} (e : H c = some (.lst xs)) : H' c = some (.lst xs) := by
  obtain ⟨dx, hp⟩ := w.ins
  obtain ⟨kvs, hl, _⟩ := w.live
  exact k.keep _ _ (ne_of e hp (by intro z; cases z)) (ne_of e hl (by intro z; cases z)) e
theorem Wk.tup {C p q l l' : Addr} {H H' : Hp} {W : WS} (k : Wk p l H H' l') (w : WheelAt C H p q l W) {c : Addr} {xs : List V} (e : H c = some (.tup xs)) : H' c = some (.tup xs) := by
  obtain ⟨dx, hp⟩ := w.ins
  obtain ⟨kvs, hl, _⟩ := w.live
  exact k.keep _ _ (ne_of e hp (by intro z; cases z)) (ne_of e hl (by intro z; cases z)) e
/-- the rows that tell the lists: the rows in H, what they hold in H0 -/
def CRows (H0 H : Hp) : List Addr → List Cell → Prop
  | [], [] => True
  | t :: ts, c :: cs => (∃ a, H t = some (.tup [.int (c.1.1 : Nat), .int (c.1.2 : Nat), .ref a]) ∧ H0 a = some (.lst (c.2.map fun x => V.int (x : Nat)))) ∧ CRows H0 H ts cs
  | _, _ => False
theorem CRows.frame {H0 H0' H H' : Hp} (s0 : ∀ a xs, H0 a = some (.lst xs) → H0' a = some (.lst xs)) (s : ∀ t xs, H t = some (.tup xs) → H' t = some (.tup xs)) : ∀ {ts : List Addr} {cs : List Cell}, CRows H0 H ts cs → CRows H0' H' ts cs
  | [], [], _ => trivial
  | _ :: _, _ :: _, ⟨⟨a, h1, h2⟩, h3⟩ => ⟨⟨a, s _ _ h1, s0 _ _ h2⟩, h3.frame s0 s⟩
  | [], _ :: _, h => h.elim
  | _ :: _, [], h => h.elim
theorem CRows.snoc {H0 H : Hp} {t a : Addr} {c : Cell} (h1 : H t = some (.tup [.int (c.1.1 : Nat), .int (c.1.2 : Nat), .ref a])) (h2 : H0 a = some (.lst (c.2.map fun x => V.int (x : Nat)))) : ∀ {ts : List Addr} {cs : List Cell}, CRows H0 H ts cs → CRows H0 H (ts ++ [t]) (cs ++ [c])
  | [], [], _ => ⟨⟨a, h1, h2⟩, trivial⟩
  | _ :: _, _ :: _, h => ⟨h.1, h.2.snoc h1 h2⟩
  | [], _ :: _, h => h.elim
  | _ :: _, [], h => h.elim
/-- the lists that the rows hold are new ones -/
def FRows (Hb H : Hp) : List Addr → Prop
  | [] => True
  | t :: ts => (∃ (x y : V) (a : Addr), H t = some (.tup [x, y, .ref a]) ∧ Hb a = none) ∧ FRows Hb H ts
theorem FRows.frame {Hb H H' : Hp} (s : ∀ t xs, H t = some (.tup xs) → H' t = some (.tup xs)) : ∀ {ts : List Addr}, FRows Hb H ts → FRows Hb H' ts
  | [], _ => trivial
  | _ :: _, ⟨⟨x, y, a, h1, h2⟩, h3⟩ => ⟨⟨x, y, a, s _ _ h1, h2⟩, h3.frame s⟩
theorem FRows.snoc {Hb H : Hp} {t a : Addr} {x y : V} (h1 : H t = some (.tup [x, y, .ref a])) (h2 : Hb a = none) : ∀ {ts : List Addr}, FRows Hb H ts → FRows Hb H (ts ++ [t])
  | [], _ => ⟨⟨x, y, a, h1, h2⟩, trivial⟩
  | _ :: _, h => ⟨h.1, h.2.snoc h1 h2⟩
/-- the rows stand on where all but old things stay -/
theorem CRows.keepF {Hb H H' : Hp} (s0 : ∀ c o, Hb c = none → H c = some o → H' c = some o) (s : ∀ t xs, H t = some (.tup xs) → H' t = some (.tup xs)) : ∀ {ts : List Addr} {cs : List Cell}, CRows H H ts cs → FRows Hb H ts → CRows H' H' ts cs
  | [], [], _, _ => trivial
  | _ :: _, _ :: _, ⟨⟨a, h1, h2⟩, h3⟩, ⟨⟨x, y, a', h4, h5⟩, h6⟩ => by
    rw [h1] at h4
    have e := HO.tup.inj (Option.some.inj h4)
    have ea : a = a' := by
      injection e with _ e
      injection e with _ e
      injection e with e _
      exact V.ref.inj e
    subst ea
    exact ⟨⟨a, s _ _ h1, s0 _ _ h5 h2⟩, h3.keepF s0 s h6⟩
  | [], _ :: _, h, _ => h.elim
  | _ :: _, [], h, _ => h.elim
theorem mem_putK {κ : Type} [DecidableEq κ] {kvs : List (κ × V)} {k : κ} {v : V} {kv : κ × V} (h : kv ∈ putK kvs k v) : kv ∈ kvs ∨ kv.2 = v := by
  unfold putK at h
  split at h
  · obtain ⟨x, hx, e⟩ := List.mem_map.mp h
    by_cases c : x.1 = k
    · rw [if_pos c] at e
      exact .inr (by rw [← e])
    · rw [if_neg c] at e
      exact .inl (by rw [← e]; exact hx)
  · rcases List.mem_append.mp h with h | h
    · exact .inl h
    · rw [List.mem_singleton.mp h]
      exact .inr rfl
theorem valV_mem2 {κ : Type} [DecidableEq κ] {k : κ} {v : V} : ∀ {kvs : List (κ × V)}, valV kvs k = some v → ∃ kv ∈ kvs, kv.2 = v
  | [], h => by cases h
  | kv :: kvs, h => by
    by_cases c : kv.1 = k
    · rw [valV_pos c] at h
      exact ⟨kv, List.mem_cons_self .., Option.some.inj h⟩
    · rw [valV_neg c] at h
      obtain ⟨x, hx, e⟩ := valV_mem2 h
      exact ⟨x, List.mem_cons_of_mem _ hx, e⟩
/-- what tells the lists, and nothing else does -/
structure IsLists (b : Nat) (ws : List Bool) (t : Nat) (ms : List Tm) (cs : List Cell) : Prop where
  perm : (cs.map (·.1)).Perm ((standD b ws t ms).map (·.1))
  sorted : (cs.map fun c => ((c.1.1 : Int), (c.1.2 : Int))).Pairwise (fun a b => SrtO.lexB b a = false)
  val : ∀ c ∈ cs, c.2 = cellV (standD b ws t ms) c.1
section
variable {P : Program} {w : World} {K : PySem.W.Frag} {mg : Str → Option Value} {base : Heap}
def spStanding (K : PySem.W.Frag) : Sp := fun vs H Q _ => ∃ (b t : Nat) (q l : Addr) (ws : List Bool) (kvs : List (Key × V)) (ms : List Tm), vs = [.int (b : Nat), .ref q, .ref l, .int (t : Nat)] ∧ 2 ≤ b ∧ b ≤ 64 ∧ SqL K H q (ws.map lvV) ∧ ws ≠ [] ∧ H l = some (.dK kvs) ∧ LiveK H kvs ms ∧ ms.length ≤ 1000 ∧ DuesOk ms ∧
  ∀ H' p ts cs, Same H H' → H p = none → H' p = some (.lst (ts.map V.ref)) → CRows H' H' ts cs → FRows H H' ts → IsLists b ws t ms cs → Q (.ref p) H'
theorem ok_standing {f : Addr} {fd : FuncData} (F : Fun K "standing" "standing" s_standing f fd) (T : Tx K mg) (h0 : Has P w K mg base 1 "level_and_size" ["base", "now", "due"] [] spLevel) (h1 : Has P w K mg base 1 "with_timer" ["numbers", "number", "front"] [] spWithTimer)
    (h2 : Has P w K mg base 3 "goes_in_front" ["base", "levels", "now", "due", "lowest"] [] (spFront K)) : FnOk P w K mg base CX0 4 f fd ["base", "levels", "live", "tick"] (spStanding K) := by
  obtain ⟨f_level_and_size, fd_level_and_size, ds_level_and_size, G_level_and_size, m_level_and_size, k_level_and_size, b_level_and_size, v_level_and_size⟩ := h0
  obtain ⟨f_with_timer, fd_with_timer, ds_with_timer, G_with_timer, m_with_timer, k_with_timer, b_with_timer, v_with_timer⟩ := h1
  obtain ⟨f_goes_in_front, fd_goes_in_front, ds_goes_in_front, G_goes_in_front, m_goes_in_front, k_goes_in_front, b_goes_in_front, v_goes_in_front⟩ := h2
  refine F.ok sc_standing (fun vs H Q E h => ?_) (fun cdv A outer s H vs Q E hr h => ?_)
  · obtain ⟨b, t, q, l, ws, kvs, ms, rfl, _⟩ := h
    rfl
  · obtain ⟨b, t, q, l, ws, kvs, ms, rfl, hb, hb64, hL, hne, hl, L, few, ok, c⟩ := h
    have hu := hu_of hr
    have hb0 : 0 < b := by omega
    refine ⟨_, (pss_cons (ps_set (i := 4) sc_standing.nd rfl (.inr rfl) pe_dnewT)
      (pss_cons (ps_lock (ps_for PassesOwn.never rfl (pi_items (pv 2)) (pg_tupK (K := K) (n := 2) rfl rfl (pgs_cons (pg_name (i := 5) sc_standing.nd rfl (.inl rfl)) (pgs_cons (pg_tupK (K := K) (n := 3) rfl rfl (pgs_cons (pg_name (i := 6) sc_standing.nd rfl (.inl rfl)) (pgs_cons (pg_name (i := 7) sc_standing.nd rfl (.inl rfl)) (pgs_cons (pg_name (i := 8) sc_standing.nd rfl (.inl rfl)) pgs_nil)))) pgs_nil)))
        (pss_one (ps_if (pt_cmpR op_gt (pv 6) (pv 3) (nomark _))
          (pss_cons (ps_asg (pe_call G_level_and_size (hr.mono (by decide)) (by rfl) m_level_and_size k_level_and_size b_level_and_size v_level_and_size pass0 (pa_cons (pv 0) (pa_cons (pv 3) (pa_cons (pv 6) pa_nil)))) (pg_tupK (K := K) (n := 2) rfl rfl (pgs_cons (pg_name (i := 9) sc_standing.nd rfl (.inl rfl)) (pgs_cons (pg_name (i := 10) sc_standing.nd rfl (.inl rfl)) pgs_nil))))
          (pss_cons (ps_set (i := 11) sc_standing.nd rfl (.inl rfl) (pe_tup (pa_cons (pv 9) (pa_cons (pe_op op_remN (pe_op op_divN (pv 6) (pv 10)) (pv 0)) pa_nil))))
          (pss_cons (ps_set (i := 12) sc_standing.nd rfl (.inl rfl) (pe_call G_goes_in_front hr (by rfl) m_goes_in_front k_goes_in_front b_goes_in_front v_goes_in_front pass0 (pa_cons (pv 0) (pa_cons (pv 1) (pa_cons (pv 8) (pa_cons (pv 6) (pa_cons (pv 9) pa_nil)))))))
          (pss_one (ps_asg (pe_call G_with_timer (hr.mono (by decide)) (by rfl) m_with_timer k_with_timer b_with_timer v_with_timer pass0 (pa_cons (pe_dget2 hu (pv 4) (pv 11) (pe_lst pa_nil) ⟨by rfl, by rfl, by rfl, by rfl⟩) (pa_cons (pv 5) (pa_cons (pv 12) pa_nil)))) (pg_sub (pv 4) (pv 11) (set_dict hu)))))))
          pss_nil))))
      (pss_one (ps_ret (pe_lc (own := [("level", 9), ("digit", 13)]) (g := _) (tt := tYes) rfl sc_standing.nd (pi_list (pe_callB (call_sortedDT rfl) (by rfl) T.b_sorted (by decide +kernel) (pa_cons (pv 4) pa_nil))) (blkOk_by (own := [("level", 9), ("digit", 13)]) (N := N_standing) (sc := defScope s_standing) (by decide +kernel)) (fun _ _ _ _ _ => (pg_tupK (K := K) (n := 2) rfl rfl (pgs_cons (pg_name (i := 9) sc_standing.nd rfl (.inl rfl)) (pgs_cons (pg_name (i := 13) sc_standing.nd rfl (.inl rfl)) pgs_nil)))) (fun _ _ _ _ _ => pts_nil) (fun _ _ _ _ _ => (pe_tup (pa_cons (pv 9) (pa_cons (pv 13) (pa_cons (pe_dget hu (pv 4) (pe_tup (pa_cons (pv 9) (pa_cons (pv 13) pa_nil))) (fun _ _ => rfl)) pa_nil)))))))))), ?_⟩
    refine fun R hR0 => ?_
    have s0 := same_upd (o := .dT []) hR0
    have hl0 := s0 _ _ hl
    refine ⟨l, _, hl0, trivial, fun od => ?_⟩
    have nR : R ≠ l := fun e => by
      rw [e, hl] at hR0
      cases hR0
    refine ⟨_, rfl, l, od, kvs, rfl, upd_same, for_items (d := l) (o := od) (kvs := kvs) (fun i σ H' => ∃ (kvd : List (List Key × V)) (y5 y6 y7 y8 y9 y10 y11 y12 y13 : Option V), σ = [some (.int (b : Nat)), some (.ref q), some (.ref l), some (.int (t : Nat)), some (.ref R), y5, y6, y7, y8, y9, y10, y11, y12, y13] ∧ (∀ c o, c ≠ R → (upd (upd H R (.dT [])) l (.frz od (.dK kvs))) c = some o → H' c = some o) ∧ H' R = some (.dT kvd) ∧ CellsAt H' kvd (standD b ws t (ms.take i)) ∧ ∀ kv ∈ kvd, ∀ a, kv.2 = .ref a → H a = none)
      ⟨[], none, none, none, none, none, none, none, none, none, rfl, fun _ _ _ e => e, by rw [upd_ne nR, upd_same], trivial, fun kv h => by cases h⟩ (fun i σ H' ⟨_, _, _, _, _, _, _, _, _, _, _, kp, _, _, _⟩ => kp _ _ (Ne.symm nR) upd_same) ?_ ?_⟩
    · rintro i k v U σ H' hx ⟨kvd, y5, y6, y7, y8, y9, y10, y11, y12, y13, rfl, kp, eR, CA, fr⟩ hU
      have L' := (L.same s0).upd (o' := .frz od (.dK kvs)) hl0 (fun xs z => by cases z)
      obtain ⟨m, tt, hm, rfl, rfl, ht⟩ := L'.get hx
      have sU := same_upd (o := .tup [.int (m.num : Nat), .ref tt]) hU
      have ntR : tt ≠ R := fun e => by
        rw [e, upd_ne nR, upd_same] at ht
        cases ht
      have ht' := sU _ _ (kp _ _ ntR ht)
      have eRU := sU _ _ eR
      have CAU := CA.frame (H' := upd H' U (.tup [.int (m.num : Nat), .ref tt])) fun a xs e => sU _ _ e
      have okm := ok m (List.mem_of_getElem? hm)
      have hi : i < ms.length := (List.getElem?_eq_some_iff.mp hm).1
      obtain ⟨bd1, bd2, bd3⟩ := stand_bounds b ws t ms i (by omega)
      have hstep : standD b ws t (ms.take (i + 1)) = standStep b ws t (standD b ws t (ms.take i)) m := by
        rw [List.take_add_one, hm]
        exact stand_snoc b ws t _ m
      refine ⟨U, _, rfl, .inl (.inl upd_same), rfl, _, _, rfl, _, _, rfl, tt, _, rfl, .inl (.inl ht'), rfl, _, _, rfl, _, _, rfl, _, _, rfl, rfl, rfl, ?_⟩
      by_cases e : t < m.due
      · refine ⟨_, rfl, _, rfl, (m.due : Nat), (t : Nat), rfl, rfl, true, dT (Int.ofNat_lt.mpr e), iteT ?_⟩
        refine ⟨_, rfl, _, rfl, _, rfl, b, t, m.due, rfl, hb, hb64, e, okm.2, fun k hk H2 t0 s2 ht0 eT0 => ?_⟩
        refine ⟨t0, _, rfl, .inl (.inl eT0), rfl, _, _, rfl, _, _, rfl, rfl, ?_⟩
        have hsz : b ^ k < 2 ^ 250 := Nat.lt_of_le_of_lt (hk.size hb e) okm.2
        refine ⟨_, rfl, _, rfl, _, rfl, m.due, b ^ k, rfl, rfl, ndiv 250 (pow_pos' hb k) hsz, _, rfl, _, _, rfl, rfl, hb0, by simp [sizeLine_eq], fun pl hpl => ?_⟩
        have s3 := same_upd (o := .tup [.int (k : Nat), .int ((m.due / b ^ k % b : Nat) : Int)]) hpl
        have epl : (upd H2 pl (.tup [.int (k : Nat), .int ((m.due / b ^ k % b : Nat) : Int)])) pl = some (.tup ((keyC (placeT b t m.due)).map kV)) := by
          rw [upd_same]
          unfold placeT
          rw [levT_eq hk]
          rfl
        have s13 := (sU.trans s2).trans s3
        generalize upd H2 pl (.tup [.int (k : Nat), .int ((m.due / b ^ k % b : Nat) : Int)]) = H3 at s3 epl s13 ⊢
        have hq3 : SqL K H3 q (ws.map lvV) := by
          have hq0 := sq_lock (o' := .frz od (.dK kvs)) hl0 (s0.seq hL)
          rcases hq0 with (e1 | ⟨o1, e1⟩) | e1
          · exact .inl (.inl (s13 _ _ (kp _ _ (fun z => by rw [z, upd_ne nR, upd_same] at e1; cases e1) e1)))
          · exact .inl (.inr ⟨o1, s13 _ _ (kp _ _ (fun z => by rw [z, upd_ne nR, upd_same] at e1; cases e1) e1)⟩)
          · exact .inr e1
        refine ⟨_, rfl, _, rfl, _, rfl, _, rfl, _, rfl, b, m.since, m.due, k, q, ws, rfl, hb, hb64, okm.1, okm.2, hq3, hne, fun k2 hk2 H4 s4 => ?_⟩
        have s14 := s13.trans s4
        have eR4 := s14 _ _ eR
        have CA4 := CA.frame (H' := H4) fun a xs e => s14 _ _ e
        have epl4 := s4 _ _ epl
        refine ⟨_, rfl, R, rfl, .inr ⟨_, .inl eR4⟩, _, rfl, by simp [sizeLine_eq], fun el hel => ?_⟩
        have s5 := same_upd (o := .lst []) hel
        have eel : (upd H4 el (.lst [])) el = some (.lst []) := upd_same
        have s15 := s14.trans s5
        generalize upd H4 el (.lst []) = H5 at s5 s15 eel ⊢
        have eR5 := s15 _ _ eR
        have CA5 := CA.frame (H' := H5) fun a xs e => s15 _ _ e
        have epl5 := s5 _ _ epl4
        obtain ⟨a, ea, hla⟩ : ∃ a, (valV kvd (keyC (placeT b t m.due))).getD (.ref el) = .ref a ∧ H5 a = some (.lst ((cellV (standD b ws t (ms.take i)) (placeT b t m.due)).map fun x => V.int (x : Nat))) := by
          rcases CA5.val (p := placeT b t m.due) with ⟨z1, z2⟩ | ⟨a, z1, z2⟩
          · exact ⟨el, by rw [z1]; rfl, by rw [z2]; exact eel⟩
          · exact ⟨a, by rw [z1]; rfl, z2⟩
        refine ⟨_, DGet.t eR5 epl5, _, rfl, _, rfl, a, cellV (standD b ws t (ms.take i)) (placeT b t m.due), m.num, frontOf ws k (rowsOf b m.since m.due k2), by rw [ea]; rfl, hla, ?_, fun H6 a6 s6 ha6 ea6 => ?_⟩
        · have z := bd2 (placeT b t m.due)
          omega
        have s16 := s15.trans s6
        have eR6 := s16 _ _ eR
        have epl6 := s6 _ _ epl5
        have CA6 := CA.frame (H' := H6) fun a xs e => s16 _ _ e
        refine ⟨_, rfl, _, rfl, R, _, rfl, DPut.t eR6 epl6 ?_, ?_⟩
        · rw [CA6.len]
          exact sizeLine_ge (by omega)
        · refine ⟨_, _, _, _, _, _, _, _, _, _, rfl, fun c o n e => ?_, upd_same, ?_⟩
          · rw [upd_ne n]
            exact s16 _ _ (kp _ _ n e)
          · refine ⟨?_, fun kv hkv a' ea' => ?_⟩
            rotate_left
            · rcases mem_putK hkv with h | h
              · exact fr kv h a' ea'
              · rw [ea'] at h
                rw [V.ref.inj h]
                have hf := s15.free ha6
                cases eh : H a6 with
                | none => rfl
                | some o =>
                  exfalso
                  by_cases n : a6 = l
                  · have z := kp l _ (Ne.symm nR) upd_same
                    rw [← n, hf] at z
                    cases z
                  · have z := kp a6 o (ne_of_none eh hR0) (by rw [upd_ne n]; exact s0 _ _ eh)
                    rw [hf] at z
                    cases z
            have eput := CA6.put (p := placeT b t m.due) ea6
            have e2 : standD b ws t (ms.take (i + 1)) = cellPut (standD b ws t (ms.take i)) (placeT b t m.due) (insT (frontOf ws k (rowsOf b m.since m.due k2)) m.num (cellV (standD b ws t (ms.take i)) (placeT b t m.due))) := by
              rw [hstep]
              unfold standStep
              rw [if_pos e, levT_eq hk, sideT_eq hk2]
            rw [e2]
            exact eput.frame fun a xs e => by
              rw [upd_ne fun z => ?_]
              · exact e
              · rw [z, eR6] at e
                cases e
      · refine ⟨_, rfl, _, rfl, (m.due : Nat), (t : Nat), rfl, rfl, false, dF (fun z => e (Int.ofNat_lt.mp z)), iteF ?_⟩
        refine ⟨kvd, _, _, _, _, _, _, _, _, _, rfl, fun c o n e => sU _ _ (kp _ _ n e), eRU, ?_⟩
        rw [hstep]
        unfold standStep
        rw [if_neg e]
        exact ⟨CAU, fr⟩
    · rintro σ H' ⟨kvd, y5, y6, y7, y8, y9, y10, y11, y12, y13, rfl, kp, eR, CA, fr⟩
      rw [L.len, List.take_length] at CA
      refine ⟨kp _ _ (Ne.symm nR) upd_same, ?_⟩
      obtain ⟨bd1, bd2, bd3⟩ := stand_bounds b ws t ms ms.length (Nat.le_refl _)
      rw [List.take_length] at bd1 bd2 bd3
      have nRl : R ≠ l := nR
      have hlz := kp l _ (Ne.symm nR) upd_same
      have eR1 : (upd H' l (.dK kvs)) R = some (.dT kvd) := by
        rw [upd_ne nR]
        exact eR
      have CA1 := CA.frame (H' := upd H' l (.dK kvs)) fun a xs e => by
        rw [upd_ne fun z => ?_]
        · exact e
        · rw [z, hlz] at e
          cases e
      have sAll : Same H (upd H' l (.dK kvs)) := fun c o e => by
        by_cases n : c = l
        · rw [n] at e ⊢
          rw [upd_same]
          exact hl.symm.trans e
        · rw [upd_ne n]
          exact kp _ _ (ne_of_none e hR0) (by rw [upd_ne n]; exact s0 _ _ e)
      generalize upd H' l (.dK kvs) = H1 at eR1 CA1 sAll ⊢
      generalize hrs : standD b ws t ms = rs at CA1 bd1 bd2 bd3
      refine ⟨_, rfl, R, kvd, _, rfl, .inl eR1, CA1.keys, fun p bs hp0 hperm hsort hbs => ?_⟩
      obtain ⟨ks, eks, hks⟩ : ∃ ks : List (Nat × Nat), (bs.map fun x => pairAt H1 (.ref x)) = ks.map (fun k => ((k.1 : Int), (k.2 : Int))) ∧ ks.Perm (rs.map (·.1)) := by
        refine ⟨(bs.map fun x => pairAt H1 (.ref x)).map fun z => (z.1.toNat, z.2.toNat), ?_, ?_⟩
        · rw [List.map_map]
          have e1 : (bs.map fun x => pairAt H1 (.ref x)).map id = _ := List.map_congr_left (f := id) (g := (fun k : Nat × Nat => ((k.1 : Int), (k.2 : Int))) ∘ fun z : Int × Int => (z.1.toNat, z.2.toNat)) fun z hz => by
            obtain ⟨cc, _, rfl⟩ := List.mem_map.mp (hperm.mem_iff.mp hz)
            rfl
          rw [List.map_id] at e1
          exact e1
        · have z := hperm.map fun z : Int × Int => (z.1.toNat, z.2.toNat)
          have e1 : (rs.map fun c => ((c.1.1 : Int), (c.1.2 : Int))).map (fun z : Int × Int => (z.1.toNat, z.2.toNat)) = rs.map (·.1) := by
            rw [List.map_map]
            exact List.map_congr_left fun c _ => rfl
          rw [e1] at z
          exact z
      have hbl : bs.length = ks.length := by
        have z := congrArg List.length eks
        rw [List.length_map, List.length_map] at z
        exact z
      have hkl : ks.length ≤ 1000 := by
        have z := hks.length_eq
        rw [List.length_map] at z
        omega
      have s2 := same_upd (o := .lst (bs.map V.ref)) hp0
      have ep : (upd H1 p (.lst (bs.map V.ref))) p = some (.lst (bs.map V.ref)) := upd_same
      generalize upd H1 p (.lst (bs.map V.ref)) = H2 at s2 ep ⊢
      have eR2 := s2 _ _ eR1
      have CA2 := CA1.frame (H' := H2) fun a xs e => s2 _ _ e
      refine ⟨p, rfl, ⟨_, SqL.of ep⟩, fun D hD => lc_list (K := K) (a := p) (xs := bs.map V.ref) (fun i H3 => Same H2 H3 ∧ ∃ ts, H3 D = some (.lst (ts.map V.ref)) ∧ ts.length = (ks.take i).length ∧ CRows H2 H3 ts ((ks.take i).map fun k => (k, cellV rs k)) ∧ FRows H H3 ts)
        ⟨same_upd hD, [], upd_same, rfl, trivial, trivial⟩ (fun i H3 _ ⟨sm, _⟩ => SqL.of (sm _ _ ep)) ?_ ?_⟩
      · rintro i x H3 hx ⟨sm, ts, eD, hts, CR, FR⟩
        rw [List.getElem?_map] at hx
        obtain ⟨x0, hx0, rfl⟩ : ∃ x0, bs[i]? = some x0 ∧ x = V.ref x0 := by
          cases e : bs[i]? with
          | none =>
            rw [e] at hx
            cases hx
          | some y =>
            rw [e] at hx
            exact ⟨y, rfl, (Option.some.inj hx).symm⟩
        have hlt : i < ks.length := by
          have z := (List.getElem?_eq_some_iff.mp hx0).1
          omega
        have hk : ks[i]? = some ks[i] := List.getElem?_eq_getElem hlt
        generalize ks[i] = kk at hk
        have epa : pairAt H1 (.ref x0) = ((kk.1 : Int), (kk.2 : Int)) := by
          have z := congrArg (fun l : List (Int × Int) => l[i]?) eks
          simp only [List.getElem?_map, hx0, hk] at z
          exact Option.some.inj z
        have ex0 := hbs x0 (List.mem_of_getElem? hx0)
        rw [epa] at ex0
        have ex3 := sm _ _ (s2 _ _ ex0)
        refine ⟨x0, _, rfl, .inl (.inl ex3), rfl, _, _, rfl, _, _, rfl, rfl, rfl, yesT (iteT ?_)⟩
        refine ⟨_, rfl, _, rfl, _, rfl, _, rfl, _, rfl, by simp [sizeLine_eq], fun kt hkt => ?_⟩
        have s4 := same_upd (o := .tup [.int (kk.1 : Int), .int (kk.2 : Int)]) hkt
        have ekt : (upd H3 kt (.tup [.int (kk.1 : Int), .int (kk.2 : Int)])) kt = some (.tup ((keyC kk).map kV)) := upd_same
        have eD4 := s4 _ _ eD
        have eR4 := s4 _ _ (sm _ _ eR2)
        obtain ⟨a, ha1, ha2⟩ := CA2.val_mem (p := kk) (hks.mem_iff.mp (List.mem_of_getElem? hk))
        have g := DGet.t eR4 ekt
        rw [ha1] at g
        refine ⟨R, .ref a, rfl, g, by simp [sizeLine_eq], fun tr htr => ?_⟩
        have s5 := same_upd (o := .tup [.int (kk.1 : Int), .int (kk.2 : Int), .ref a]) htr
        have eD5 := s5 _ _ eD4
        have nDr : tr ≠ D := fun z => by
          rw [z, eD4] at htr
          cases htr
        refine ⟨_, eD5, ?_, fun c o e => ?_, ts ++ [tr], ?_, ?_, ?_, ?_⟩
        · rw [List.length_map, hts, List.length_take]
          exact sizeLine_ge (by omega)
        · rw [upd_ne (ne_of_none e hD)]
          exact s5 _ _ (s4 _ _ (sm _ _ e))
        · rw [upd_same, List.map_append]
          rfl
        · rw [List.take_add_one, hk, List.length_append, List.length_append, hts]
          rfl
        · rw [List.take_add_one, hk, List.map_append]
          have CR5 := CR.frame (H0' := H2) (H' := upd (upd H3 kt (.tup [.int (kk.1 : Int), .int (kk.2 : Int)])) tr (.tup [.int (kk.1 : Int), .int (kk.2 : Int), .ref a])) (fun _ _ e => e) fun _ _ e => s5 _ _ (s4 _ _ e)
          have CR6 := CR5.snoc (t := tr) (a := a) (c := (kk, cellV rs kk)) upd_same ha2
          exact CR6.frame (fun _ _ e => e) fun t xs e => by
            rw [upd_ne fun z => ?_]
            · exact e
            · rw [z, eD5] at e
              cases e
        · obtain ⟨kv, hkv, ekv⟩ := valV_mem2 ha1
          have FR5 := (FR.frame (H' := upd (upd H3 kt (.tup [.int (kk.1 : Int), .int (kk.2 : Int)])) tr (.tup [.int (kk.1 : Int), .int (kk.2 : Int), .ref a])) fun _ _ e => s5 _ _ (s4 _ _ e)).snoc (t := tr) upd_same (fr kv hkv a ekv)
          exact FR5.frame fun t xs e => by
            rw [upd_ne fun z => ?_]
            · exact e
            · rw [z, eD5] at e
              cases e
      · rintro H3 ⟨s3, ts, eD, hts, CR, FR⟩
        rw [List.length_map, hbl, List.take_length] at CR
        refine c H3 D ts (ks.map fun k => (k, cellV rs k)) (sAll.trans (s2.trans s3)) ((sAll.trans s2).free hD) eD (CR.frame (fun _ _ e => s3 _ _ e) fun _ _ e => e) FR ⟨?_, ?_, ?_⟩
        · rw [List.map_map, hrs]
          have e1 : ks.map ((fun c : Cell => c.1) ∘ fun k => (k, cellV rs k)) = ks.map id := List.map_congr_left fun k _ => rfl
          rw [e1, List.map_id]
          exact hks
        · rw [List.map_map]
          rw [eks] at hsort
          exact hsort
        · intro cc hcc
          obtain ⟨k, _, rfl⟩ := List.mem_map.mp hcc
          rw [hrs]
end
/-! ### data equal to itself -/
theorem neq_refl {d : PyData} (h : d.canLay0 = true) : V.bl (!PyData.eqv d d) = V.bl false := by
  rw [SeqAt.eqv_refl d h]
  rfl
theorem eq_refl {d : PyData} (h : d.canLay0 = true) : V.bl (PyData.eqv d d) = V.bl true := by
  rw [SeqAt.eqv_refl d h]
/-! ### rows as data, walks with numbers -/
def rowD (r : Row3) : PyData := .tuple [.int (r.1 : Nat), .int (r.2.1 : Nat), .int (r.2.2 : Nat)]
theorem rows_dp {K : PySem.W.Frag} {H : Hp} : ∀ {ts : List Addr} {rs : List Row3}, RowsAt H ts rs → DpAll K H (ts.map V.ref) (rs.map rowD)
  | [], [], _ => .nil
  | _ :: _, _ :: _, h => .cons (.tup (.inl (.inl h.1)) (.cons (.int _) (.cons (.int _) (.cons (.int _) .nil)))) (rows_dp h.2)
  | [], _ :: _, h => h.elim
  | _ :: _, [], h => h.elim
theorem rowD_lay (r : Row3) : (rowD r).canLay0 = true := rfl
theorem rows_lay : ∀ rs : List Row3, PyData.canLayAll0 (rs.map rowD) = true
  | [] => rfl
  | r :: rs => by
    show ((rowD r).canLay0 && PyData.canLayAll0 (rs.map rowD)) = true
    rw [rowD_lay, rows_lay rs]
    rfl
theorem rows_depth : ∀ rs : List Row3, PyData.depthAll (rs.map rowD) ≤ 1
  | [] => Nat.zero_le _
  | r :: rs => by
    have ih := rows_depth rs
    show max (rowD r).depth (PyData.depthAll (rs.map rowD)) ≤ 1
    have e : (rowD r).depth = 1 := rfl
    rw [e]
    omega
theorem rows_shaped (rs : List Row3) : SeqAt.shaped (.list (rs.map rowD)) = true := by
  have h1 : (PyData.list (rs.map rowD)).canLay0 = true := by
    show PyData.canLayAll0 (rs.map rowD) = true
    exact rows_lay rs
  have h2 : (PyData.list (rs.map rowD)).depth ≤ 64 := by
    show PyData.depthAll (rs.map rowD) + 1 ≤ 64
    have := rows_depth rs
    omega
  unfold SeqAt.shaped
  rw [h1, decide_eq_true h2]
  rfl
theorem dp_nats {K : PySem.W.Frag} {H : Hp} : ∀ ns : List Nat, DpAll K H (ns.map fun x => V.int (x : Nat)) (ns.map fun x => PyData.int (x : Nat))
  | [] => .nil
  | _ :: r => .cons (.int _) (dp_nats r)
theorem nats_lay : ∀ ns : List Nat, PyData.canLayAll0 (ns.map fun x => PyData.int (x : Nat)) = true
  | [] => rfl
  | _ :: r => by
    show (PyData.canLay0 _ && PyData.canLayAll0 (r.map fun x => PyData.int (x : Nat))) = true
    rw [nats_lay r]
    rfl
theorem nats_depth : ∀ ns : List Nat, PyData.depthAll (ns.map fun x => PyData.int (x : Nat)) = 0
  | [] => rfl
  | _ :: r => by
    show max (PyData.depth _) (PyData.depthAll (r.map fun x => PyData.int (x : Nat))) = 0
    rw [nats_depth r]
    rfl
theorem nats_shaped (ns : List Nat) : SeqAt.shaped (.list (ns.map fun x => PyData.int (x : Nat))) = true := by
  have h1 : (PyData.list (ns.map fun x => PyData.int (x : Nat))).canLay0 = true := by
    show PyData.canLayAll0 _ = true
    exact nats_lay ns
  have h2 : (PyData.list (ns.map fun x => PyData.int (x : Nat))).depth ≤ 64 := by
    show PyData.depthAll _ + 1 ≤ 64
    rw [nats_depth ns]
    decide
  unfold SeqAt.shaped
  rw [h1, decide_eq_true h2]
  rfl
theorem cut1 (xs : List V) : cutV xs (some 1) none = xs.drop 1 := by
  unfold cutV
  rw [show HT.sIx xs.length 0 (some 1) = min 1 xs.length from HT.sIx_nat xs.length 0 1, HT.sIx_none]
  cases xs with
  | nil => rfl
  | cons x r =>
    rw [show min 1 (x :: r).length = 1 by
      rw [List.length_cons]
      omega]
    show (List.take ((x :: r).length - 1) r) = r
    rw [List.length_cons, Nat.add_sub_cancel]
    exact List.take_length
theorem cutTo {xs : List V} {k : Nat} : cutV xs none (some (k : Int)) = xs.take k := by
  unfold cutV
  rw [HT.sIx_none, HT.sIx_nat, List.drop_zero, Nat.sub_zero]
  by_cases h : k ≤ xs.length
  · rw [Nat.min_eq_left h]
  · rw [Nat.min_eq_right (by omega), List.take_length, List.take_of_length_le (by omega)]
theorem cutFrom {xs : List V} {k : Nat} : cutV xs (some (k : Int)) none = xs.drop k := by
  unfold cutV
  rw [HT.sIx_none, HT.sIx_nat]
  by_cases h : k ≤ xs.length
  · rw [Nat.min_eq_left h]
    exact List.take_of_length_le (by rw [List.length_drop]; exact Nat.le_refl _)
  · rw [Nat.min_eq_right (by omega), List.drop_length, List.drop_of_length_le (by omega)]
    simp
theorem cutLast {xs : List V} (h : xs ≠ []) : cutV xs (some (-1)) none = [xs.getLast h] := by
  have hp : 0 < xs.length := List.length_pos_iff.mpr h
  have e : HT.sIx xs.length 0 (some (-1)) = xs.length - 1 := by
    show (if (-1 : Int) < 0 then ((-1 : Int) + (xs.length : Int)).toNat else min (-1 : Int).toNat xs.length) = _
    rw [if_pos (by decide)]
    omega
  unfold cutV
  rw [e, HT.sIx_none, List.drop_eq_getElem_cons (show xs.length - 1 < xs.length by omega), List.getLast_eq_getElem]
  rw [show xs.length - 1 + 1 = xs.length by omega, List.drop_length]
  rw [show xs.length - (xs.length - 1) = 1 by omega]
  rfl
theorem RowsAt.frame {H H' : Hp} : ∀ {ts : List Addr} {rs : List Row3}, RowsAt H ts rs → (∀ t r, H t = some (.tup (rowV r)) → H' t = some (.tup (rowV r))) → RowsAt H' ts rs
  | [], [], _, _ => trivial
  | _ :: _, _ :: _, h, s => ⟨s _ _ h.1, h.2.frame s⟩
  | [], _ :: _, h, _ => h.elim
  | _ :: _, [], h, _ => h.elim
/-- the tick behind the first station -/
theorem behind_first (b d : Nat) : ∀ k, ((tailOf b d k).map (fun r => r.2.2) ++ [d])[0]? = some (d / b ^ k * b ^ k)
  | 0 => by
    show some d = some (d / b ^ 0 * b ^ 0)
    rw [Nat.pow_zero, Nat.div_one, Nat.mul_one]
  | k + 1 => by
    have e := cut_step b d k
    unfold tailOf
    split
    · rfl
    · rename_i h
      have h0 : d / b ^ k % b = 0 := Classical.byContradiction h
      rw [h0, Nat.zero_mul, Nat.add_zero] at e
      rw [behind_first b d k, e]
/-- a loop over enumerate(a list) -/
theorem for_enum {K : PySem.W.Frag} {a : Addr} {xs : List V} {g : TG} {tb : TS} {D : Ends} {σ : L2.St} {H : Hp} (Pv : Nat → L2.St → Hp → Prop) (h0 : Pv 0 σ H) (hq : ∀ i σ H, Pv i σ H → SqL K H a xs)
    (hs : ∀ (i : Nat) (x : V) (T : Addr) (σ : L2.St) (H : Hp), xs[i]? = some x → Pv i σ H → H T = none → g (.ref T) σ (upd H T (.tup [.int (i : Nat), x])) fun σ2 H2 => tb { D with nx := Pv (i + 1), ct := Pv (i + 1), bk := D.nx } σ2 H2) (hd : ∀ σ H, Pv xs.length σ H → D.nx σ H) :
    ∃ W : Nat → Nat → L2.St → Hp → Prop, (∃ m, W 0 m σ H) ∧ ∀ i m σ H, W i m σ H →
      ((Ite K a).stop i H ∧ D.nx σ H) ∨ ((Ite K a).go i H ∧ ∃ N : L2.St → Hp → Prop, (∀ σ' H', N σ' H' → ∃ m', m' < m ∧ W (i + 1) m' σ' H') ∧ ∀ v H', (Ite K a).yld i H v H' → g v σ H' fun σ2 H2 => tb { D with nx := N, ct := N, bk := D.nx } σ2 H2) := by
  refine ⟨fun i m σ H => m = xs.length - i ∧ i ≤ xs.length ∧ Pv i σ H, ⟨xs.length, rfl, Nat.zero_le _, h0⟩, ?_⟩
  rintro i m σ H ⟨rfl, hi, p⟩
  have qx := hq i σ H p
  by_cases hlt : i < xs.length
  · have hx : xs[i]? = some xs[i] := List.getElem?_eq_getElem hlt
    refine .inr ⟨⟨xs, xs[i], qx, hx⟩, Pv (i + 1), fun σ' H' p' => ⟨xs.length - (i + 1), by omega, rfl, hlt, p'⟩, fun v H' y => ?_⟩
    obtain ⟨T, x, rfl, nT, rfl, f⟩ := y
    have ex : x = xs[i] := Option.some.inj ((f xs qx).symm.trans hx)
    subst ex
    exact hs i _ T σ H hx p nT
  · have e : i = xs.length := by omega
    subst e
    exact .inl ⟨⟨xs, qx, Nat.le_refl _⟩, hd σ H p⟩
/-- a loop over zip(a list, a list), of any two lengths -/
theorem for_zip2 {K : PySem.W.Frag} {a b : Addr} {xs ys : List V} {g : TG} {tb : TS} {D : Ends} {σ : L2.St} {H : Hp} (Pv : Nat → L2.St → Hp → Prop) (h0 : Pv 0 σ H) (hq : ∀ i σ H, Pv i σ H → SqL K H a xs ∧ SqL K H b ys)
    (hs : ∀ (i : Nat) (x y : V) (T : Addr) (σ : L2.St) (H : Hp), xs[i]? = some x → ys[i]? = some y → Pv i σ H → H T = none → g (.ref T) σ (upd H T (.tup [x, y])) fun σ2 H2 => tb { D with nx := Pv (i + 1), ct := Pv (i + 1), bk := D.nx } σ2 H2) (hd : ∀ i σ H, Pv i σ H → D.nx σ H) :
    ∃ W : Nat → Nat → L2.St → Hp → Prop, (∃ m, W 0 m σ H) ∧ ∀ i m σ H, W i m σ H →
      ((Itz K a b).stop i H ∧ D.nx σ H) ∨ ((Itz K a b).go i H ∧ ∃ N : L2.St → Hp → Prop, (∀ σ' H', N σ' H' → ∃ m', m' < m ∧ W (i + 1) m' σ' H') ∧ ∀ v H', (Itz K a b).yld i H v H' → g v σ H' fun σ2 H2 => tb { D with nx := N, ct := N, bk := D.nx } σ2 H2) := by
  refine ⟨fun i m σ H => m = xs.length - i ∧ i ≤ xs.length ∧ Pv i σ H, ⟨xs.length, rfl, Nat.zero_le _, h0⟩, ?_⟩
  rintro i m σ H ⟨rfl, hi, p⟩
  obtain ⟨qx, qy⟩ := hq i σ H p
  by_cases hlt : i < xs.length ∧ i < ys.length
  · have hx : xs[i]? = some xs[i] := List.getElem?_eq_getElem hlt.1
    have hy : ys[i]? = some ys[i] := List.getElem?_eq_getElem hlt.2
    refine .inr ⟨⟨xs, ys, _, _, qx, qy, hx, hy⟩, Pv (i + 1), fun σ' H' p' => ⟨xs.length - (i + 1), by omega, rfl, hlt.1, p'⟩, fun v H' e => ?_⟩
    obtain ⟨T, x, y, rfl, nT, rfl, f, f2⟩ := e
    have ex : x = xs[i] := Option.some.inj ((f xs qx).symm.trans hx)
    have ey : y = ys[i] := Option.some.inj ((f2 ys qy).symm.trans hy)
    subst ex
    subst ey
    exact hs i _ _ T σ H hx hy p nT
  · refine .inl ⟨⟨xs, ys, qx, qy, ?_⟩, hd i σ H p⟩
    by_cases h1 : i < xs.length
    · right
      by_cases h2 : i < ys.length
      · exact absurd ⟨h1, h2⟩ hlt
      · omega
    · left
      omega
/-- the last item of a list that has one -/
theorem atI_neg1 {xs : List V} {x : V} (h : xs[xs.length - 1]? = some x) : atI xs (-1) = some x := by
  have hne : xs ≠ [] := fun e => by
    rw [e] at h
    simp at h
  have e : xs = xs.dropLast ++ [xs.getLast hne] := (List.dropLast_concat_getLast hne).symm
  have ex : x = xs.getLast hne := by
    have z := List.getLast?_eq_getElem? (l := xs)
    rw [h, List.getLast?_eq_some_getLast hne] at z
    exact (Option.some.inj z).symm
  rw [e, ex]
  exact atI_last _ _
section
variable {P : Program} {w : World} {K : PySem.W.Frag} {mg : Str → Option Value} {base : Heap}
def spLists (C : Addr) : Sp := fun vs H Q _ => ∃ (p q l : Addr) (W : WS), vs = [.ref p] ∧ WheelAt C H p q l W ∧ WOk W ∧ ∀ H' r ts cs, Same H H' → H r = none → H' r = some (.lst (ts.map V.ref)) → CRows H' H' ts cs → FRows H H' ts → IsLists W.b W.ws W.tick W.live cs → Q (.ref r) H'
theorem ok_lists {f C : Addr} {fd : FuncData} (F : Fun K "lists" "Wheel.lists" s_Wheel_lists f fd) (TW : TxW K mg C) (h1 : Has P w K mg base 4 "standing" ["base", "levels", "live", "tick"] [] (spStanding K)) : FnOk P w K mg base CX0 5 f fd ["self"] (spLists C) := by
  obtain ⟨f_standing, fd_standing, ds_standing, G_standing, m_standing, k_standing, b_standing, v_standing⟩ := h1
  refine F.ok sc_Wheel_lists (fun vs H Q E h => ?_) (fun cdv A outer s H vs Q E hr h => ?_)
  · obtain ⟨p, q, l, W, rfl, _⟩ := h
    rfl
  · obtain ⟨p, q, l, W, rfl, hw, ok, c⟩ := h
    obtain ⟨dx, hp⟩ := hw.ins
    obtain ⟨kvs, hl, L⟩ := hw.live
    refine ⟨_, (pss_one (ps_ret (pe_call G_standing hr (by rfl) m_standing k_standing b_standing v_standing pass0 (pa_cons (pe_fld (pv 0) rfl) (pa_cons (pe_fld (pv 0) rfl) (pa_cons (pe_fld (pv 0) rfl) (pa_cons (pe_fld (pv 0) rfl) pa_nil))))))), ?_⟩
    refine ⟨_, rfl, p, C, dx, _, _, rfl, hp, TW.cl, TW.nB, wf_b, _, rfl, p, C, dx, _, _, rfl, hp, TW.cl, TW.nW, wf_w, _, rfl, p, C, dx, _, _, rfl, hp, TW.cl, TW.nL, wf_l, _, rfl, p, C, dx, _, _, rfl, hp, TW.cl, TW.nT, wf_t, ?_⟩
    exact ⟨W.b, W.tick, q, l, W.ws, kvs, W.live, rfl, ok.b2, ok.b64, SqL.of hw.words, ok.ne, hl, L, ok.few, fun m hm => ⟨Nat.lt_of_le_of_lt (ok.tms m hm).since (ok.tms m hm).due, (ok.tms m hm).big⟩, c⟩
end
/-- the lists are told in one way -/
theorem IsLists.uniq {b : Nat} {ws : List Bool} {t : Nat} {ms : List Tm} {cs cs' : List Cell} (h : IsLists b ws t ms cs) (h' : IsLists b ws t ms cs') : cs = cs' := by
  have cast : ∀ l : List Cell, (l.map fun c => ((c.1.1 : Int), (c.1.2 : Int))) = (l.map (·.1)).map fun k => ((k.1 : Int), (k.2 : Int)) := fun l => by
    rw [List.map_map]
    rfl
  have hk : cs.map (·.1) = cs'.map (·.1) := by
    have z1 := h.sorted
    have z2 := h'.sorted
    rw [cast, List.pairwise_map] at z1 z2
    refine List.Perm.eq_of_pairwise (fun a c _ _ h1 h2 => ?_) z1 z2 (h.perm.trans h'.perm.symm)
    rw [SrtO.lexB_no] at h1 h2
    dsimp only at h1 h2
    refine Prod.ext ?_ ?_ <;> omega
  have hall : ∀ (l l' : List Cell), l.map (·.1) = l'.map (·.1) → (∀ c ∈ l, c.2 = cellV (standD b ws t ms) c.1) → (∀ c ∈ l', c.2 = cellV (standD b ws t ms) c.1) → l = l' := by
    intro l
    induction l with
    | nil =>
      intro l' e _ _
      cases l' with
      | nil => rfl
      | cons c l' => cases e
    | cons c l ih =>
      intro l' e h1 h2
      cases l' with
      | nil => cases e
      | cons c' l' =>
        rw [List.map_cons, List.map_cons] at e
        obtain ⟨e1, e2⟩ := List.cons.inj e
        rw [ih l' e2 (fun x hx => h1 x (List.mem_cons_of_mem _ hx)) fun x hx => h2 x (List.mem_cons_of_mem _ hx)]
        have a1 := h1 c (List.mem_cons_self ..)
        have a2 := h2 c' (List.mem_cons_self ..)
        rw [← e1, ← a1] at a2
        rw [Prod.ext e1 a2.symm]
  exact hall cs cs' hk h.val h'.val
/-! ### the lists as data -/
def cellD (c : Cell) : PyData := .tuple [.int (c.1.1 : Nat), .int (c.1.2 : Nat), .list (c.2.map fun x => PyData.int (x : Nat))]
theorem cells_dp {K : PySem.W.Frag} {H0 H : Hp} (s : ∀ a xs, H0 a = some (.lst xs) → H a = some (.lst xs)) : ∀ {ts : List Addr} {cs : List Cell}, CRows H0 H ts cs → DpAll K H (ts.map V.ref) (cs.map cellD)
  | [], [], _ => .nil
  | _ :: _, _ :: _, ⟨⟨a, h1, h2⟩, h3⟩ => .cons (.tup (SqT.of h1) (.cons (.int _) (.cons (.int _) (.cons (.lst (SqL.of (s _ _ h2)) (dp_nats _)) .nil)))) (cells_dp s h3)
  | [], _ :: _, h => h.elim
  | _ :: _, [], h => h.elim
theorem cellD_lay (c : Cell) : (cellD c).canLay0 = true := by
  simp [cellD, PyData.canLay0, PyData.canLayAll0, nats_lay]
theorem cells_lay : ∀ cs : List Cell, PyData.canLayAll0 (cs.map cellD) = true
  | [] => rfl
  | c :: cs => by
    show ((cellD c).canLay0 && PyData.canLayAll0 (cs.map cellD)) = true
    rw [cellD_lay, cells_lay cs]
    rfl
theorem cellD_depth (c : Cell) : (cellD c).depth ≤ 2 := by
  have h : (PyData.list (c.2.map fun x => PyData.int (x : Nat))).depth = 1 := by
    show PyData.depthAll _ + 1 = 1
    rw [nats_depth c.2]
  show max (PyData.depth _) (max (PyData.depth _) (max (PyData.depth (PyData.list (c.2.map fun x => PyData.int (x : Nat)))) (PyData.depthAll []))) + 1 ≤ 2
  rw [h]
  exact Nat.le_refl 2
theorem cells_depth : ∀ cs : List Cell, PyData.depthAll (cs.map cellD) ≤ 2
  | [] => Nat.zero_le _
  | c :: cs => by
    have ih := cells_depth cs
    have h := cellD_depth c
    show max (cellD c).depth (PyData.depthAll (cs.map cellD)) ≤ 2
    omega
theorem cells_shaped (cs : List Cell) : SeqAt.shaped (.list (cs.map cellD)) = true := by
  have h1 : (PyData.list (cs.map cellD)).canLay0 = true := by
    show PyData.canLayAll0 (cs.map cellD) = true
    exact cells_lay cs
  have h2 : (PyData.list (cs.map cellD)).depth ≤ 64 := by
    show PyData.depthAll (cs.map cellD) + 1 ≤ 64
    have := cells_depth cs
    omega
  unfold SeqAt.shaped
  rw [h1, decide_eq_true h2]
  rfl
/-! ### which timer stands in which list -/
theorem cell_mem {b : Nat} {ws : List Bool} {t : Nat} {ms : List Tm} {p : Nat × Nat} {x : Nat} : x ∈ cellV (standD b ws t ms) p ↔ ∃ m ∈ ms, t < m.due ∧ placeT b t m.due = p ∧ m.num = x := by
  suffices H : ∀ n : Nat, x ∈ cellV (standD b ws t (ms.take n)) p ↔ ∃ m ∈ ms.take n, t < m.due ∧ placeT b t m.due = p ∧ m.num = x by
    have z := H ms.length
    rw [List.take_length] at z
    exact z
  intro n
  induction n with
  | zero =>
    constructor
    · intro h
      cases h
    · rintro ⟨m, h, _⟩
      cases h
  | succ n ih =>
    cases e : ms[n]? with
    | none =>
      have hl : ms.length ≤ n := List.getElem?_eq_none_iff.mp e
      rw [List.take_of_length_le (by omega)]
      rw [List.take_of_length_le hl] at ih
      exact ih
    | some m =>
      rw [List.take_add_one, e, Option.toList_some]
      rw [stand_snoc]
      unfold standStep
      have split_ex : (∃ m' ∈ ms.take n ++ [m], t < m'.due ∧ placeT b t m'.due = p ∧ m'.num = x) ↔ (∃ m' ∈ ms.take n, t < m'.due ∧ placeT b t m'.due = p ∧ m'.num = x) ∨ (t < m.due ∧ placeT b t m.due = p ∧ m.num = x) := by
        constructor
        · rintro ⟨m', h, r⟩
          rcases List.mem_append.mp h with h | h
          · exact .inl ⟨m', h, r⟩
          · rw [List.mem_singleton.mp h] at r
            exact .inr r
        · rintro (⟨m', h, r⟩ | r)
          · exact ⟨m', List.mem_append_left _ h, r⟩
          · exact ⟨m, by simp, r⟩
      rw [split_ex, ← ih]
      by_cases h : t < m.due
      · rw [if_pos h, cellV_put]
        by_cases h2 : placeT b t m.due = p
        · rw [if_pos h2, insT_mem, h2]
          constructor
          · rintro (z | z)
            · exact .inr ⟨h, rfl, z.symm⟩
            · exact .inl z
          · rintro (z | ⟨_, _, z⟩)
            · exact .inr z
            · exact .inl z.symm
        · rw [if_neg h2]
          exact ⟨.inl, fun z => z.elim id fun y => absurd y.2.1 h2⟩
      · rw [if_neg h]
        exact ⟨.inl, fun z => z.elim id fun y => absurd y.1 h⟩
/-- the lists at two ticks at which all timers stand at the same levels -/
theorem stand_same {b : Nat} {ws : List Bool} {s t : Nat} {ms : List Tm} (h : ∀ m ∈ ms, s < m.due ∧ t < m.due ∧ levT b s m.due = levT b t m.due) : standD b ws s ms = standD b ws t ms := by
  suffices H : ∀ n : Nat, standD b ws s (ms.take n) = standD b ws t (ms.take n) by
    have z := H ms.length
    rw [List.take_length] at z
    exact z
  intro n
  induction n with
  | zero => rfl
  | succ n ih =>
    cases e : ms[n]? with
    | none =>
      have hl : ms.length ≤ n := List.getElem?_eq_none_iff.mp e
      rw [List.take_of_length_le (by omega)]
      rw [List.take_of_length_le hl] at ih
      exact ih
    | some m =>
      rw [List.take_add_one, e, Option.toList_some, stand_snoc, stand_snoc, ih]
      obtain ⟨h1, h2, h3⟩ := h m (List.mem_of_getElem? e)
      unfold standStep
      rw [if_pos h1, if_pos h2]
      unfold placeT
      rw [h3]
theorem IsLists.same {b : Nat} {ws : List Bool} {s t : Nat} {ms : List Tm} {cs : List Cell} (e : standD b ws s ms = standD b ws t ms) (h : IsLists b ws s ms cs) : IsLists b ws t ms cs := ⟨by rw [← e]; exact h.perm, h.sorted, by rw [← e]; exact h.val⟩
/-- the timers of a told cell -/
theorem IsLists.mem {b : Nat} {ws : List Bool} {t : Nat} {ms : List Tm} {cs : List Cell} (h : IsLists b ws t ms cs) {c : Cell} (hc : c ∈ cs) {x : Nat} : x ∈ c.2 ↔ ∃ m ∈ ms, t < m.due ∧ placeT b t m.due = c.1 ∧ m.num = x := by
  rw [h.val c hc]
  exact cell_mem
section
variable {X : Cx} {K : PySem.W.Frag}
theorem pe_fldK {o : Expr} {ta : TE} {f : Str} {pos : Pos} (e : X.K = K) (ho : PE X o ta) (hb : attributeBase o f X.env (eval o X.env) = eval o X.env) : PE X (.Attribute o f pos) (tFld K ta f) := by subst e; exact pe_fld ho hb
theorem pi_listK {l tg : Expr} {tl : TE} (e : X.K = K) (hl : PE X l tl) : PI X tg l (iList K tl) := by subst e; exact pi_list hl
end
section
variable {X : Cx} {K : PySem.W.Frag}
theorem op_catTK (e : X.K = K) : OpR X (binaryOp .Add) (rCatT K) := by subst e; exact op_catT
end
/-! ### the rows that tell the lists, row by row -/
theorem crow_item {Hb H0 H : Hp} : ∀ {ts : List Addr} {cs : List Cell} {i : Nat} {x : V}, CRows H0 H ts cs → FRows Hb H ts → (ts.map V.ref)[i]? = some x → ∃ t c a, x = .ref t ∧ ts[i]? = some t ∧ cs[i]? = some c ∧ H t = some (.tup [.int (c.1.1 : Nat), .int (c.1.2 : Nat), .ref a]) ∧ H0 a = some (.lst (c.2.map fun x => V.int (x : Nat))) ∧ Hb a = none
  | t :: ts, c :: cs, 0, x, ⟨⟨a, h1, h2⟩, _⟩, ⟨⟨y1, y2, a', h4, h5⟩, _⟩, e => by
    rw [h1] at h4
    have z := HO.tup.inj (Option.some.inj h4)
    have ea : a = a' := by
      injection z with _ z
      injection z with _ z
      injection z with z _
      exact V.ref.inj z
    subst ea
    exact ⟨t, c, a, (Option.some.inj e).symm, rfl, rfl, h1, h2, h5⟩
  | t :: ts, c :: cs, i + 1, x, h, f, e => crow_item (i := i) h.2 f.2 e
  | [], [], _, _, _, _, e => by cases e
  | [], _ :: _, _, _, h, _, _ => h.elim
  | _ :: _, [], _, _, h, _, _ => h.elim
theorem CRows.len {H0 H : Hp} : ∀ {ts : List Addr} {cs : List Cell}, CRows H0 H ts cs → ts.length = cs.length
  | [], [], _ => rfl
  | _ :: _, _ :: _, h => congrArg Nat.succ h.2.len
  | [], _ :: _, h => h.elim
  | _ :: _, [], h => h.elim
/-- the keys of the lists: each once, and those of all timers -/
theorem IsLists.keys {b : Nat} {ws : List Bool} {t : Nat} {ms : List Tm} {cs : List Cell} (h : IsLists b ws t ms cs) (hd : ∀ m ∈ ms, t < m.due) : (cs.map (·.1)).Nodup ∧ ∀ m ∈ ms, placeT b t m.due ∈ cs.map (·.1) := by
  have nd := (stand_bounds b ws t ms ms.length (Nat.le_refl _)).2.2
  rw [List.take_length] at nd
  refine ⟨h.perm.nodup_iff.mpr nd, fun m hm => h.perm.mem_iff.mpr (Classical.byContradiction fun no => ?_)⟩
  have hin : m.num ∈ cellV (standD b ws t ms) (placeT b t m.due) := cell_mem.mpr ⟨m, hm, hd m hm, rfl, rfl⟩
  have nk : ∀ (rs : List Cell) (p : Nat × Nat), p ∉ rs.map (·.1) → cellV rs p = [] := by
    intro rs p
    induction rs with
    | nil => exact fun _ => rfl
    | cons c rs ih =>
      intro h
      rw [List.map_cons, List.mem_cons, not_or] at h
      show (if c.1 = p then c.2 else cellV rs p) = []
      rw [if_neg fun z => h.1 z.symm]
      exact ih h.2
  rw [nk _ _ no] at hin
  cases hin
theorem IsLists.at_ {b : Nat} {ws : List Bool} {t : Nat} {ms : List Tm} {cs : List Cell} (h : IsLists b ws t ms cs) (hd : ∀ m ∈ ms, t < m.due) {c : Cell} (hc : c ∈ cs) : c.2 = (stM b ws t ms c.1).map (·.num) := by
  rw [h.val c hc]
  exact cell_st hd
/-! ### restoring -/
theorem PrAt.cat {H : Hp} : ∀ {ts us : List Addr} {rs qs : List (Nat × Nat)}, PrAt H ts rs → PrAt H us qs → PrAt H (ts ++ us) (rs ++ qs)
  | [], _, [], _, _, h => h
  | _ :: _, _, _ :: _, _, ⟨h1, h2⟩, h => ⟨h1, h2.cat h⟩
  | [], _, _ :: _, _, h, _ => h.elim
  | _ :: _, _, [], _, h, _ => h.elim
section
variable {P : Program} {w : World} {K : PySem.W.Frag} {mg : Str → Option Value} {base : Heap}
def rowND (m : Tm) : Nat × Nat := (m.num, m.due)
def spRestoring (C : Addr) : Sp := fun vs H Q _ => ∃ (p q l : Addr) (W : WS), vs = [.ref p] ∧ WheelAt C H p q l W ∧ WOk W ∧ ∀ H' r ts cs, Same H H' → H r = none → H' r = some (.lst (ts.map V.ref)) → PrAt H' ts ((toldT W.b W.ws W.tick W.live (cs.map (·.1))).map rowND) → IsLists W.b W.ws W.tick W.live cs → Q (.ref r) H'
theorem told_take {b : Nat} {ws : List Bool} {t : Nat} {ms : List Tm} {cs : List Cell} {i : Nat} {c : Cell} (hc : cs[i]? = some c) : toldT b ws t ms ((cs.take (i + 1)).map (·.1)) = toldT b ws t ms ((cs.take i).map (·.1)) ++ deq (fun _ => wordAt ws c.1.1) (stM b ws t ms c.1) := by
  unfold toldT
  rw [List.take_add_one, hc, Option.toList_some, List.map_append, List.flatMap_append]
  show _ ++ ([c].map (·.1)).flatMap _ = _
  rw [List.map_cons, List.map_nil, List.flatMap_cons, List.flatMap_nil, List.append_nil]
theorem told_len {b : Nat} {ws : List Bool} {t : Nat} {ms : List Tm} {cs : List Cell} (h : IsLists b ws t ms cs) (hd : ∀ m ∈ ms, t < m.due) (i : Nat) : (toldT b ws t ms ((cs.take i).map (·.1))).length ≤ ms.length := by
  obtain ⟨k1, k2⟩ := h.keys hd
  rw [← (told_perm (b := b) (ws := ws) (t := t) (ms := ms) k1 k2).length_eq]
  have e : toldT b ws t ms (cs.map (·.1)) = toldT b ws t ms ((cs.take i).map (·.1)) ++ toldT b ws t ms ((cs.drop i).map (·.1)) := by
    unfold toldT
    rw [← List.flatMap_append, ← List.map_append, List.take_append_drop]
  rw [e, List.length_append]
  omega
theorem ok_restoring {f C : Addr} {fd : FuncData} (F : Fun K "restoring" "Wheel.restoring" s_Wheel_restoring f fd) (TW : TxW K mg C) (m1 : HasM P w K mg base 5 C "lists" ["self"] [] (spLists C)) (h1 : Has P w K mg base 1 "word_at" ["levels", "level"] [] (spWordAt K)) : FnOk P w K mg base CX0 6 f fd ["self"] (spRestoring C) := by
  have cl_Wheel := TW.cl
  obtain ⟨g1, gd1, gs1, G_Wheel_lists, M_Wheel_lists, b_Wheel_lists, v_Wheel_lists⟩ := m1
  obtain ⟨f_word_at, fd_word_at, ds_word_at, G_word_at, m_word_at, k_word_at, b_word_at, v_word_at⟩ := h1
  refine F.ok sc_Wheel_restoring (fun vs H Q E h => ?_) (fun cdv A outer s H vs Q E hr h => ?_)
  · obtain ⟨p, q, l, W, rfl, _⟩ := h
    rfl
  · obtain ⟨p, q, l, W, rfl, hw, ok, c⟩ := h
    have hu := hu_of hr
    refine ⟨_, (pss_cons (ps_set (i := 1) sc_Wheel_restoring.nd rfl (.inl rfl) (pe_lst pa_nil))
      (pss_cons (ps_for PassesOwn.never rfl (pi_list (pe_meth0 (pv 0) cl_Wheel M_Wheel_lists G_Wheel_lists hr b_Wheel_lists v_Wheel_lists pass0)) (pg_tupK (K := K) (n := 3) rfl rfl (pgs_cons (pg_name (i := 2) sc_Wheel_restoring.nd rfl (.inl rfl)) (pgs_cons (pg_name (i := 3) sc_Wheel_restoring.nd rfl (.inl rfl)) (pgs_cons (pg_name (i := 4) sc_Wheel_restoring.nd rfl (.inl rfl)) pgs_nil))))
        (pss_cons (ps_if (pt_cmpR op_eq (pe_call G_word_at (hr.mono (by decide)) (by rfl) m_word_at k_word_at b_word_at v_word_at pass0 (pa_cons (pe_fld (pv 0) rfl) (pa_cons (pv 2) pa_nil))) pe_str (nomark _))
          (pss_one (ps_set (i := 4) sc_Wheel_restoring.nd rfl (.inl rfl) (pe_revL (pv 4))))
          pss_nil)
        (pss_one (ps_expr (pe_bm PySem.F.plainAttrs_list PySem.F.slot_list_extend PySem.F.type_list_extend mt_extend (pv 1) (pa_cons (pe_lc (own := [("number", 5)]) (g := gName 5) (tt := tYes) rfl sc_Wheel_restoring.nd (pi_list (pv 4)) (blkOk_by (own := [("number", 5)]) (N := N_Wheel_restoring) (sc := defScope s_Wheel_restoring) (by decide +kernel)) (fun _ _ _ _ _ => (pg_name (i := 5) sc_Wheel_restoring.nd rfl (.inl rfl))) (fun _ _ _ _ _ => pts_nil) (fun _ _ _ _ _ => (pe_tup (pa_cons (pv 5) (pa_cons (pe_ix (ix_tupK (K := K) rfl) (pe_dget hu (pe_fldK (K := K) rfl (pv 0) rfl) (pv 5) (fun _ _ => rfl)) pe_int (fun _ _ => rfl)) pa_nil))))) pa_nil))))))
      (pss_one (ps_ret (pv 1))))), ?_⟩
    have hd : ∀ m ∈ W.live, W.tick < m.due := fun m hm => (ok.tms m hm).due
    refine ⟨by simp [sizeLine_eq], fun r0 hr00 => ?_⟩
    have s0 := same_upd (o := .lst []) hr00
    have er0 := upd_same (H := H) (a := r0) (o := .lst [])
    generalize upd H r0 (.lst []) = H0 at s0 er0 ⊢
    have hw0 := hw.same s0
    obtain ⟨dx, hp⟩ := hw0.ins
    refine ⟨_, rfl, p, dx, _, rfl, hp, nm_lists, p, q, l, W, rfl, hw0, ok, fun H1 R tsR cs s1 hR0 eR hC hF hI => ?_⟩
    have hw1 := hw0.same s1
    obtain ⟨dx1, hp1⟩ := hw1.ins
    obtain ⟨kvs, hl1, L1⟩ := hw1.live
    have er1 := s1 _ _ er0
    have nR : R ≠ r0 := fun e => by
      rw [e, er0] at hR0
      cases hR0
    have hlen := hC.len
    have hfewl := ok.few
    refine ⟨R, rfl, ⟨_, SqL.of eR⟩, for_list (K := K) (a := R) (xs := tsR.map V.ref) (fun i σ H' => ∃ (ts : List Addr) (y2 y3 y4 : Option V), σ = [some (.ref p), some (.ref r0), y2, y3, y4, none] ∧ (∀ c o, c ≠ r0 → H1 c = some o → H' c = some o) ∧ H' r0 = some (.lst (ts.map V.ref)) ∧ PrAt H' ts ((toldT W.b W.ws W.tick W.live ((cs.take i).map (·.1))).map rowND)) ⟨[], none, none, none, rfl, fun _ _ _ e => e, er1, trivial⟩ (fun i σ H' _ ⟨_, _, _, _, _, k, _⟩ => SqL.of (k _ _ nR eR)) ?_ ?_⟩
    · rintro i x σ H' hx ⟨ts, y2, y3, y4, rfl, kp, er, hP⟩
      obtain ⟨t, cc, a, rfl, ht, hc, et, ea, ha0⟩ := crow_item hC hF hx
      have na : a ≠ r0 := fun e => by
        rw [e, er0] at ha0
        cases ha0
      have ntu : ∀ {c : Addr} {xs : List V}, H1 c = some (.tup xs) → c ≠ r0 := fun {c xs} e z => by
        rw [z, er1] at e
        cases e
      have et' := kp _ _ (ntu et) et
      have ea' := kp _ _ na ea
      have npr : p ≠ r0 := fun z => by
        rw [z, er1] at hp1
        cases hp1
      have nlr : l ≠ r0 := fun z => by
        rw [z, er1] at hl1
        cases hl1
      have nqr : q ≠ r0 := fun z => by
        have y := hw0.words
        rw [z, er0] at y
        have y2 := congrArg (fun o : Option HO => match o with | some (.lst xs) => xs.length | _ => 0) y
        simp at y2
        exact ok.ne (List.eq_nil_of_length_eq_zero y2.symm)
      have hp' := kp _ _ npr hp1
      have hq' := kp _ _ nqr hw1.words
      have hl' := kp _ _ nlr hl1
      have hcm := List.mem_of_getElem? hc
      have e2 := hI.at_ hd hcm
      have hlt := told_len hI hd (i + 1)
      rw [told_take hc, List.length_append, deq_len] at hlt
      have hPl := hP.len
      rw [List.length_map] at hPl
      refine ⟨t, _, rfl, .inl (.inl et'), rfl, _, _, rfl, _, _, rfl, _, _, rfl, rfl, ?_⟩
      -- the numbers, perhaps turned
      apply cut_at (I := fun (b2 : Addr) (H2 : Hp) => Same H' H2 ∧ H2 b2 = some (.lst (((deq (fun _ => wordAt W.ws cc.1.1) (stM W.b W.ws W.tick W.live cc.1)).map (·.num)).map fun x => V.int (x : Nat))))
      · intro fin
        refine ⟨_, rfl, p, C, dx1, _, _, rfl, hp', TW.cl, TW.nW, wf_w, _, rfl, q, W.ws, cc.1.1, rfl, SqL.of hq', ok.ne, ?_⟩
        cases hb : wordAt W.ws cc.1.1 with
        | true =>
          refine ⟨rfl, true, rfl, iteT ?_⟩
          refine ⟨_, rfl, a, _, rfl, SqL.of ea', fun b2 hb2 => ?_⟩
          refine fin b2 _ ⟨same_upd hb2, ?_⟩
          rw [upd_same, hb, deq_const, e2]
          show some (HO.lst (((stM W.b W.ws W.tick W.live cc.1).map (·.num)).map fun x => V.int (x : Nat)).reverse) = some (HO.lst (((stM W.b W.ws W.tick W.live cc.1).reverse.map (·.num)).map fun x => V.int (x : Nat)))
          rw [← List.map_reverse, ← List.map_reverse]
        | false =>
          refine ⟨rfl, false, rfl, iteF ?_⟩
          refine fin a H' ⟨fun _ _ e => e, ?_⟩
          rw [hb, deq_const, if_neg Bool.false_ne_true, ← e2]
          exact ea'
      · rintro b2 H2 ⟨s2, eb2⟩
        have eN : (deq (fun _ => wordAt W.ws cc.1.1) (stM W.b W.ws W.tick W.live cc.1)).map rowND = (deq (fun _ => wordAt W.ws cc.1.1) (stM W.b W.ws W.tick W.live cc.1)).map fun m => (m.num, m.due) := rfl
        obtain ⟨ml, eml⟩ : ∃ ml, ml = deq (fun _ => wordAt W.ws cc.1.1) (stM W.b W.ws W.tick W.live cc.1) := ⟨_, rfl⟩
        have hml : ∀ m ∈ ml, m ∈ W.live := fun m hm => by
          rw [eml] at hm
          exact (List.mem_filter.mp (mem_deq.mp (mem_deq.mp hm))).1
        have hmll : ml.length = (stM W.b W.ws W.tick W.live cc.1).length := by
          rw [eml, deq_len]
        rw [← eml] at eb2
        have er2 := s2 _ _ er
        have hp2 := s2 _ _ hp'
        have hl2 := s2 _ _ hl'
        have hP2 := hP.frame (H' := H2) fun t xs e => s2 _ _ e
        have L2' : LiveK H2 kvs W.live := L1.frame fun t m e => s2 _ _ (kp _ _ (ntu e) e)
        refine ⟨_, rfl, .inl ⟨rfl, _, SqL.of er2⟩, _, rfl, b2, rfl, ⟨_, SqL.of eb2⟩, fun D hD => lc_list (K := K) (a := b2) (xs := (ml.map (·.num)).map fun x => V.int (x : Nat)) (fun j H3 => Same H2 H3 ∧ ∃ us : List Addr, H3 D = some (.lst (us.map V.ref)) ∧ PrAt H3 us ((ml.take j).map rowND)) ⟨same_upd hD, [], upd_same, trivial⟩ (fun j H3 _ ⟨sm, _⟩ => SqL.of (sm _ _ eb2)) ?_ ?_⟩
        · rintro j v H3 hv ⟨sm, us, eD, hU⟩
          rw [List.getElem?_map, List.getElem?_map] at hv
          obtain ⟨m, hm, rfl⟩ : ∃ m, ml[j]? = some m ∧ v = V.int (m.num : Nat) := by
            cases e : ml[j]? with
            | none =>
              rw [e] at hv
              cases hv
            | some m =>
              rw [e] at hv
              exact ⟨m, rfl, (Option.some.inj hv).symm⟩
          obtain ⟨tt, hval, htt⟩ := L2'.val_of ok.nd (hml m (List.mem_of_getElem? hm))
          have hjl : j < ml.length := (List.getElem?_eq_some_iff.mp hm).1
          have hUl := hU.len
          rw [List.length_map, List.length_take] at hUl
          have hl3 := sm _ _ hl2
          have g := DGet.k (k := Sum.inl ((m.num : Nat) : Int)) hl3
          rw [hval] at g
          refine ⟨rfl, yesT (iteT ?_)⟩
          refine ⟨_, rfl, _, rfl, p, C, dx1, _, _, rfl, sm _ _ hp2, TW.cl, TW.nL, wf_l, _, rfl, l, .ref tt, rfl, g, tt, _, 0, _, rfl, rfl, .inl (.inl (sm _ _ htt)), atI_nat (j := 0) rfl, by simp [sizeLine_eq], fun u hu0 => ?_⟩
          have su := same_upd (o := .tup [.int (m.num : Nat), .int (m.due : Nat)]) hu0
          have eDu := su _ _ eD
          refine ⟨_, eDu, ?_, fun c o e => ?_, us ++ [u], ?_, ?_⟩
          · rw [List.length_map]
            exact sizeLine_ge (by omega)
          · rw [upd_ne (ne_of_none e hD)]
            exact su _ _ (sm _ _ e)
          · rw [upd_same, List.map_append]
            rfl
          · rw [List.take_add_one, hm, Option.toList_some, List.map_append]
            have kt : ∀ t' xs, H3 t' = some (.tup xs) → (upd (upd H3 u (.tup [.int (m.num : Nat), .int (m.due : Nat)])) D (.lst (us.map V.ref ++ [.ref u]))) t' = some (.tup xs) := fun t' xs e => by
              rw [upd_ne (ne_of (su _ _ e) eDu (by intro z; cases z))]
              exact su _ _ e
            refine (hU.frame kt).app (r := rowND m) ?_
            rw [upd_ne (ne_of upd_same eDu (by intro z; cases z))]
            exact upd_same
        · rintro H3 ⟨s3, us, eD, hU⟩
          rw [List.length_map, List.length_map, List.take_length] at hU
          have hUl := hU.len
          rw [List.length_map] at hUl
          have er3 := s3 _ _ er2
          refine ⟨r0, D, _, _, rfl, rfl, er3, eD, ?_, ?_⟩
          · rw [List.length_map, List.length_map]
            exact sizeLine_le (by omega)
          · refine ⟨ts ++ us, _, _, _, rfl, fun c o n e => ?_, ?_, ?_⟩
            · rw [upd_ne n]
              exact s3 _ _ (s2 _ _ (kp _ _ n e))
            · rw [upd_same, List.map_append]
            · rw [told_take hc, List.map_append, ← eml]
              have kt : ∀ t' xs, H3 t' = some (.tup xs) → (upd H3 r0 (.lst (ts.map V.ref ++ us.map V.ref))) t' = some (.tup xs) := fun t' xs e => by
                rw [upd_ne (ne_of e er3 (by intro z; cases z))]
                exact e
              exact ((hP2.frame (H' := H3) fun t xs e => s3 _ _ e).frame kt).cat (hU.frame kt)
    · rintro σ H' ⟨ts, y2, y3, y4, rfl, kp, er, hP⟩
      rw [List.length_map, hlen, List.take_length] at hP
      exact ⟨_, rfl, c H' r0 ts cs (fun c o e => kp c o (ne_of_none e hr00) (s1 _ _ (s0 _ _ e))) hr00 er hP hI⟩
end
/-! ### advancing any wheel: that it ends, and how often something fires -/
/-- how often a timer fires up to t -/
def frN (t : Nat) (m : Tm) : Nat := if t < m.due then 0 else match m.per with
  | none => 1
  | some k => 1 + (t - m.due) / k
theorem again_at {t : Nat} {m m' : Tm} (h : againM t m = some m') : ∃ k, m.per = some k ∧ m' = ⟨m.num, t + k, some k, t⟩ := by
  unfold againM at h
  cases ep : m.per with
  | none =>
    rw [ep] at h
    cases h
  | some k =>
    rw [ep] at h
    exact ⟨k, rfl, (Option.some.inj h).symm⟩
def sumF (t : Nat) (ms : List Tm) : Nat := (ms.map (frN t)).sum
theorem sumF_app (t : Nat) (a c : List Tm) : sumF t (a ++ c) = sumF t a + sumF t c := by
  unfold sumF
  rw [List.map_append, List.sum_append]
theorem sumF_cons (t : Nat) (m : Tm) (c : List Tm) : sumF t (m :: c) = frN t m + sumF t c := by
  unfold sumF
  rw [List.map_cons, List.sum_cons]
theorem sumF_perm {t : Nat} {a c : List Tm} (h : a.Perm c) : sumF t a = sumF t c := by
  induction h with
  | nil => rfl
  | cons m _ ih => rw [sumF_cons, sumF_cons, ih]
  | swap m n l =>
    rw [sumF_cons, sumF_cons, sumF_cons, sumF_cons]
    omega
  | trans _ _ h1 h2 => exact h1.trans h2
theorem sumF_split (t : Nat) (p : Tm → Bool) : ∀ l : List Tm, sumF t (l.filter fun m => !p m) + sumF t (l.filter p) = sumF t l
  | [] => rfl
  | m :: l => by
    have ih := sumF_split t p l
    cases c : p m with
    | true =>
      rw [List.filter_cons_of_neg (by simp [c]), List.filter_cons_of_pos c, sumF_cons, sumF_cons]
      omega
    | false =>
      rw [List.filter_cons_of_pos (by simp [c]), List.filter_cons_of_neg (by simp [c]), sumF_cons, sumF_cons]
      omega
theorem sumF_none {t : Nat} : ∀ {l : List Tm}, (∀ m ∈ l, t < m.due) → sumF t l = 0
  | [], _ => rfl
  | m :: l, h => by
    rw [sumF_cons, sumF_none fun x hx => h x (List.mem_cons_of_mem _ hx)]
    unfold frN
    rw [if_pos (h m (List.mem_cons_self ..))]
/-- those that fire at v fire once less from there on -/
theorem sumF_again {L v : Nat} (hv : v ≤ L) : ∀ {l : List Tm}, (∀ m ∈ l, m.due = v ∧ ∀ k, m.per = some k → 1 ≤ k) → sumF L (l.filterMap (againM v)) + l.length = sumF L l
  | [], _ => rfl
  | m :: l, h => by
    have ih := sumF_again hv (l := l) fun x hx => h x (List.mem_cons_of_mem _ hx)
    obtain ⟨hd, hp⟩ := h m (List.mem_cons_self ..)
    rw [sumF_cons, List.length_cons]
    have e0 : frN L m = match m.per with
      | none => 1
      | some k => 1 + (L - m.due) / k := by
      unfold frN
      rw [if_neg (by omega)]
    cases ep : m.per with
    | none =>
      have e1 : againM v m = none := by
        unfold againM
        rw [ep]
        rfl
      rw [List.filterMap_cons_none e1, e0, ep]
      show _ = 1 + _
      omega
    | some k =>
      have e1 : againM v m = some ⟨m.num, v + k, some k, v⟩ := by
        unfold againM
        rw [ep]
        rfl
      have hk := hp k ep
      rw [List.filterMap_cons_some e1, sumF_cons, e0, ep, hd]
      have e2 : frN L ⟨m.num, v + k, some k, v⟩ = (L - v) / k := by
        show (if L < v + k then 0 else 1 + (L - (v + k)) / k) = _
        by_cases c : L < v + k
        · rw [if_pos c, Nat.div_eq_of_lt (by omega)]
        · rw [if_neg c]
          have e3 : L - v = (L - (v + k)) + k := by omega
          rw [e3, Nat.add_div_right _ (by omega)]
          omega
      rw [e2]
      show _ = 1 + (L - v) / k + _
      omega
/-- timers that may be advanced up to L -/
structure AdvT (L : Nat) (m : Tm) : Prop where
  since : m.since < m.due
  due : m.due < 2 ^ 240
  per : ∀ k, m.per = some k → 1 ≤ k ∧ L + k < 2 ^ 240
theorem after_mem {b : Nat} {ws : List Bool} {v : Nat} {ms : List Tm} (nd : (ms.map (·.num)).Nodup) {m : Tm} (hm : m ∈ afterF v ms (orderAt b ws v ms)) : (m ∈ ms ∧ m.due ≠ v) ∨ ∃ m0 ∈ ms, m0.due = v ∧ ∃ k, m0.per = some k ∧ m = ⟨m0.num, v + k, some k, v⟩ := by
  rw [after_due nd] at hm
  rcases List.mem_append.mp hm with z | z
  · obtain ⟨z1, z2⟩ := List.mem_filter.mp z
    exact .inl ⟨z1, of_decide_eq_true z2⟩
  · obtain ⟨m0, z1, z2⟩ := List.mem_filterMap.mp z
    obtain ⟨z3, z4⟩ := List.mem_filter.mp (mem_deq.mp z1)
    obtain ⟨k, k1, k2⟩ := again_at z2
    exact .inr ⟨m0, z3, of_decide_eq_true z4, k, k1, k2⟩
theorem after_nodup {b : Nat} {ws : List Bool} {v : Nat} {ms : List Tm} (nd : (ms.map (·.num)).Nodup) : ((afterF v ms (orderAt b ws v ms)).map (·.num)).Nodup := by
  unfold afterF
  have all : ∀ (ns : List Nat) (l : List Tm), (l.map (·.num)).Nodup → ((ns.foldl (fireT v) l).map (·.num)).Nodup := by
    intro ns
    induction ns with
    | nil => exact fun l nd => nd
    | cons n ns ih => exact fun l nd => ih _ (fire_nodup nd)
  exact all _ _ nd
theorem after_sum {b : Nat} {ws : List Bool} {L v : Nat} {ms : List Tm} (hv : v ≤ L) (nd : (ms.map (·.num)).Nodup) (hp : ∀ m ∈ ms, ∀ k, m.per = some k → 1 ≤ k) : sumF L (afterF v ms (orderAt b ws v ms)) + (orderAt b ws v ms).length = sumF L ms := by
  rw [after_due nd, sumF_app, order_deq, List.length_map, Nat.add_assoc]
  rw [sumF_again hv (fun m hm => ?_)]
  · rw [sumF_perm (deq_perm _ _), ← sumF_split L (fun m => decide (m.due = v)) ms]
    congr 2
    refine List.filter_congr fun m _ => ?_
    by_cases c : m.due = v <;> simp [c]
  · obtain ⟨z3, z4⟩ := List.mem_filter.mp (mem_deq.mp hm)
    exact ⟨of_decide_eq_true z4, hp m z3⟩
theorem adv_gen (b : Nat) (ws : List Bool) {L t : Nat} (htL : t ≤ L) : ∀ (n : Nat) (ms : List Tm), sumF L ms ≤ n → (∀ m ∈ ms, AdvT L m) → (ms.map (·.num)).Nodup → ms.length ≤ 1000 →
    ∃ fired ms', AdvTo b ws t ms fired ms' ∧ total fired + sumF L ms' = sumF L ms ∧ (∀ m ∈ ms', AdvT L m ∧ t < m.due ∧ (m ∈ ms ∨ m.since ≤ t) ∧ ∃ m0 ∈ ms, m0.num = m.num ∧ m0.per = m.per) ∧ (ms'.map (·.num)).Nodup ∧ ms'.length ≤ ms.length ∧ fired.length ≤ total fired := by
  intro n
  induction n with
  | zero =>
    intro ms hs ok nd few
    refine ⟨[], ms, .done fun m hm => ?_, (by show 0 + _ = _; omega), fun m hm => ⟨ok m hm, ?_, .inl hm, m, hm, rfl, rfl⟩, nd, Nat.le_refl _, Nat.le_refl _⟩
    all_goals
      refine Classical.byContradiction fun no => ?_
      have pos : 0 < frN L m := by
        unfold frN
        rw [if_neg (by omega)]
        split
        · exact Nat.one_pos
        · exact Nat.lt_of_lt_of_le Nat.one_pos (Nat.le_add_right 1 _)
      have z : frN L m ≤ sumF L ms := by
        obtain ⟨a, c, e⟩ := List.append_of_mem hm
        rw [e, sumF_app, sumF_cons]
        omega
      omega
  | succ n ih =>
    intro ms hs ok nd few
    by_cases hd : ∀ m ∈ ms, t < m.due
    · exact ⟨[], ms, .done hd, (by show 0 + _ = _; omega), fun m hm => ⟨ok m hm, hd m hm, .inl hm, m, hm, rfl, rfl⟩, nd, Nat.le_refl _, Nat.le_refl _⟩
    · cases hl : leastD ms with
      | none =>
        rw [least_none.mp hl] at hd
        exact absurd (fun m hm => by cases hm) hd
      | some v =>
        obtain ⟨hv1, hv2⟩ := least_some.mp hl
        have hvt : v ≤ t := by
          refine Classical.byContradiction fun no => hd fun m hm => ?_
          have := hv2 _ (List.mem_map.mpr ⟨m, hm, rfl⟩)
          omega
        have hpos := order_pos (b := b) (ws := ws) hl
        have hsum := after_sum (b := b) (ws := ws) (L := L) (Nat.le_trans hvt htL) nd fun m hm k hk => ((ok m hm).per k hk).1
        obtain ⟨fired, ms', a1, a2, a3, a4, a5, a6⟩ := ih (afterF v ms (orderAt b ws v ms)) (by omega) (fun m hm => by
          rcases after_mem nd hm with ⟨z, _⟩ | ⟨m0, z1, z2, k, z3, rfl⟩
          · exact ok m z
          · obtain ⟨k1, k2⟩ := (ok m0 z1).per k z3
            exact ⟨(by show v < v + k; omega), (by show v + k < _; omega), fun k' e => by cases e; exact ⟨k1, k2⟩⟩) (after_nodup nd) (Nat.le_trans (fire_tick _ _ _) few)
        have etot : total ((v, orderAt b ws v ms) :: fired) = (orderAt b ws v ms).length + total fired := by
          unfold total
          rw [List.map_cons, List.sum_cons]
        refine ⟨(v, orderAt b ws v ms) :: fired, ms', .step hl hvt (fun m hm => ⟨(ok m hm).since, Nat.lt_trans (ok m hm).due (by decide)⟩) nd few a1, ?_, fun m hm => ?_, a4, Nat.le_trans a5 (fire_tick _ _ _), ?_⟩
        · rw [etot]
          omega
        · obtain ⟨b1, b2, b3, m1, b4, b5, b6⟩ := a3 m hm
          have src : ∀ {x : Tm}, x ∈ afterF v ms (orderAt b ws v ms) → (x ∈ ms ∨ x.since ≤ t) ∧ ∃ m0 ∈ ms, m0.num = x.num ∧ m0.per = x.per := fun {x} hx => by
            rcases after_mem nd hx with ⟨z, _⟩ | ⟨m0, z1, z2, k, z3, rfl⟩
            · exact ⟨.inl z, x, z, rfl, rfl⟩
            · exact ⟨.inr hvt, m0, z1, rfl, z3⟩
          refine ⟨b1, b2, ?_, ?_⟩
          · rcases b3 with c | c
            · exact (src c).1
            · exact .inr c
          · obtain ⟨m2, c1, c2, c3⟩ := (src b4).2
            exact ⟨m2, c1, c2.trans b5, c3.trans b6⟩
        · rw [List.length_cons, etot]
          omega
/-- a wheel that may be advanced up to L -/
structure FarW (L : Nat) (W : WS) : Prop where
  ok : WOk W
  adv : ∀ m ∈ W.live, AdvT L m
theorem FarW.go {L t : Nat} {W : WS} (h : FarW L W) (h1 : W.tick ≤ t) (h2 : t ≤ L) : ∃ fired ms', AdvTo W.b W.ws t W.live fired ms' ∧ total fired + sumF L ms' = sumF L W.live ∧ FarW L { W with tick := t, live := ms' } ∧ fired.length ≤ total fired ∧ ms'.length ≤ W.live.length := by
  obtain ⟨fired, ms', a1, a2, a3, a4, a5, a6⟩ := adv_gen W.b W.ws h2 _ W.live (Nat.le_refl _) h.adv h.ok.nd h.ok.few
  refine ⟨fired, ms', a1, a2, ⟨⟨h.ok.b2, h.ok.b64, h.ok.ne, h.ok.l60, fun m hm => ?_, a4, Nat.le_trans a5 h.ok.few⟩, fun m hm => (a3 m hm).1⟩, a6, a5⟩
  obtain ⟨b1, b2, b3, m0, b4, b5, b6⟩ := a3 m hm
  refine ⟨?_, b2, Nat.lt_trans b1.due (by decide), ?_, fun k hk => (b1.per k hk).1⟩
  · rcases b3 with c | c
    · exact Nat.le_trans (h.ok.tms m c).since h1
    · exact c
  · rw [← b5]
    exact (h.ok.tms m0 b4).num
/-! ### the keys of the lists -/
theorem put_keys {rs : List Cell} {p q : Nat × Nat} {ns : List Nat} (h : q ∈ (cellPut rs p ns).map (·.1)) : q ∈ rs.map (·.1) ∨ q = p := by
  unfold cellPut at h
  split at h
  · left
    obtain ⟨c, hc, rfl⟩ := List.mem_map.mp h
    obtain ⟨c', hc', rfl⟩ := List.mem_map.mp hc
    refine List.mem_map.mpr ⟨c', hc', ?_⟩
    split <;> rfl
  · rw [List.map_append, List.mem_append] at h
    rcases h with h | h
    · exact .inl h
    · exact .inr (List.mem_singleton.mp h)
theorem stand_key {b : Nat} {ws : List Bool} {t : Nat} {p : Nat × Nat} : ∀ {ms : List Tm} {acc : List Cell}, p ∈ (ms.foldl (standStep b ws t) acc).map (·.1) → p ∈ acc.map (·.1) ∨ ∃ m ∈ ms, placeT b t m.due = p
  | [], _, h => .inl h
  | m :: ms, acc, h => by
    rw [List.foldl_cons] at h
    rcases stand_key h with h | ⟨x, hx, e⟩
    · unfold standStep at h
      split at h
      · rcases put_keys h with h | h
        · exact .inl h
        · exact .inr ⟨m, List.mem_cons_self .., h.symm⟩
      · exact .inl h
    · exact .inr ⟨x, List.mem_cons_of_mem _ hx, e⟩
theorem stand_keys {b : Nat} {ws : List Bool} {t : Nat} {ms : List Tm} (hd : ∀ m ∈ ms, t < m.due) {p : Nat × Nat} : p ∈ (standD b ws t ms).map (·.1) ↔ ∃ m ∈ ms, placeT b t m.due = p := by
  constructor
  · intro h
    rcases stand_key (acc := []) h with h | h
    · cases h
    · exact h
  · rintro ⟨m, hm, rfl⟩
    refine Classical.byContradiction fun no => ?_
    have hin : m.num ∈ cellV (standD b ws t ms) (placeT b t m.due) := cell_mem.mpr ⟨m, hm, hd m hm, rfl, rfl⟩
    have nk : ∀ (rs : List Cell) (p : Nat × Nat), p ∉ rs.map (·.1) → cellV rs p = [] := by
      intro rs p
      induction rs with
      | nil => exact fun _ => rfl
      | cons c rs ih =>
        intro h
        rw [List.map_cons, List.mem_cons, not_or] at h
        show (if c.1 = p then c.2 else cellV rs p) = []
        rw [if_neg fun z => h.1 z.symm]
        exact ih h.2
    rw [nk _ _ no] at hin
    cases hin
/-- two sorted lists of the same numbers -/
theorem sorted_two {ns : List Int} {ks : List Nat} {l : List Nat} (hp : ns.Perm (l.map fun x => ((x : Nat) : Int))) (hs : ns.Pairwise (· ≤ ·)) (kp : ks.Perm l) (ks_ : ks.Pairwise (· ≤ ·)) : ns = ks.map fun x => ((x : Nat) : Int) := by
  refine List.Perm.eq_of_pairwise (fun a c _ _ h1 h2 => Int.le_antisymm h1 h2) hs ?_ (hp.trans (kp.symm.map _))
  rw [List.pairwise_map]
  exact ks_.imp fun {a c} h => by omega
/-! ### wheels that stand alike, one perhaps shifted -/
/-- a level by two quotients -/
theorem lev_of {b n d k : Nat} (h1 : n / b ^ (k + 1) = d / b ^ (k + 1)) (h2 : n / b ^ k ≠ d / b ^ k) : IsLev b n d k := by
  refine ⟨h1, fun j hj e => h2 ?_⟩
  have e1 : b ^ k = b ^ (j + 1) * b ^ (k - (j + 1)) := by
    rw [← Nat.pow_add]
    congr 1
    omega
  rw [e1, ← Nat.div_div_eq_div_mul, ← Nat.div_div_eq_div_mul, e]
theorem quot_up {b n d k j : Nat} (h : n / b ^ k = d / b ^ k) (hj : k ≤ j) : n / b ^ j = d / b ^ j := by
  have e1 : b ^ j = b ^ k * b ^ (j - k) := by
    rw [← Nat.pow_add]
    congr 1
    omega
  rw [e1, ← Nat.div_div_eq_div_mul, ← Nat.div_div_eq_div_mul, h]
/-- ticks that may be shifted by s: those below a power of the base that divides s -/
structure Sh (b s K : Nat) : Prop where
  div : ∃ c, s = b ^ K * c
theorem sh_quot {b s K : Nat} (h : Sh b s K) (hb : 2 ≤ b) {k : Nat} (hk : k ≤ K) (n : Nat) : (n + s) / b ^ k = n / b ^ k + s / b ^ k := by
  obtain ⟨c, rfl⟩ := h.div
  have e1 : b ^ K * c = b ^ k * (b ^ (K - k) * c) := by
    rw [← Nat.mul_assoc, ← Nat.pow_add]
    congr 2
    omega
  rw [e1, Nat.add_mul_div_left _ _ (pow_pos' hb k), Nat.mul_div_cancel_left _ (pow_pos' hb k)]
theorem sh_digit {b s K : Nat} (h : Sh b s K) (hb : 2 ≤ b) {k : Nat} (hk : k < K) (n : Nat) : (n + s) / b ^ k % b = n / b ^ k % b := by
  rw [sh_quot h hb (Nat.le_of_lt hk)]
  obtain ⟨c, rfl⟩ := h.div
  have e1 : b ^ K * c = b ^ k * (b * (b ^ (K - k - 1) * c)) := by
    rw [← Nat.mul_assoc b, ← Nat.mul_assoc (b ^ k), ← Nat.pow_succ', ← Nat.pow_add]
    congr 2
    omega
  rw [e1, Nat.mul_div_cancel_left _ (pow_pos' hb k), Nat.add_mul_mod_self_left]
theorem lev_below {b t d K : Nat} (hb : 2 ≤ b) (h : t < d) (hd : d < b ^ K) : levT b t d < K := by
  have h1 := (levT_is hb h).size hb h
  exact (Nat.pow_lt_pow_iff_right (by omega : 1 < b)).mp (Nat.lt_of_le_of_lt h1 hd)
theorem sh_lev {b s K t d : Nat} (hS : Sh b s K) (hb : 2 ≤ b) (h : t < d) (hd : d < b ^ K) : levT b (t + s) (d + s) = levT b t d := by
  have hk := levT_is hb h
  have hlt := lev_below hb h hd
  generalize levT b t d = k at hk hlt ⊢
  refine levT_eq (lev_of ?_ ?_)
  · rw [sh_quot hS hb hlt, sh_quot hS hb hlt, hk.1]
  · rw [sh_quot hS hb (Nat.le_of_lt hlt), sh_quot hS hb (Nat.le_of_lt hlt)]
    have := hk.ne h
    omega
theorem sh_place {b s K t d : Nat} (hS : Sh b s K) (hb : 2 ≤ b) (h : t < d) (hd : d < b ^ K) : placeT b (t + s) (d + s) = placeT b t d := by
  unfold placeT
  rw [sh_lev hS hb h hd, sh_digit hS hb (lev_below hb h hd)]
theorem cntS_congr {ws : List Bool} {b d d' lo : Nat} : ∀ k, (∀ i, lo ≤ i → i < k → d / b ^ i % b = d' / b ^ i % b) → cntS ws b d lo k = cntS ws b d' lo k
  | 0, _ => rfl
  | k + 1, h => by
    rw [cntS_succ, cntS_succ, cntS_congr k fun i h1 h2 => h i h1 (by omega)]
    by_cases c : lo ≤ k
    · rw [h k c (Nat.lt_succ_self k)]
    · rw [if_neg fun z => c z.2.1, if_neg fun z => c z.2.1]
/-- timers of one list came out of one list -/
theorem place_same {b t t' d d' : Nat} (hb : 2 ≤ b) (ht : t ≤ t') (h : t' < d) (h' : t' < d') (e : placeT b t' d = placeT b t' d') : d / b ^ levT b t' d = d' / b ^ levT b t' d ∧ placeT b t d = placeT b t d' := by
  have e1 : levT b t' d = levT b t' d' := congrArg Prod.fst e
  have e2 : d / b ^ levT b t' d % b = d' / b ^ levT b t' d' % b := congrArg Prod.snd e
  have k1 := levT_is hb h
  have k2 := levT_is hb h'
  have hm := lev_mono hb h ht
  have hk := levT_is hb (Nat.lt_of_le_of_lt ht h)
  rw [← e1] at e2 k2
  generalize levT b t' d = k at *
  have q : d / b ^ k = d' / b ^ k := by
    have a1 := Nat.div_add_mod (d / b ^ k) b
    have a2 := Nat.div_add_mod (d' / b ^ k) b
    rw [← div_succ] at a1 a2
    rw [← k1.1, e2] at a1
    rw [← k2.1] at a2
    omega
  refine ⟨q, ?_⟩
  have hd := hk.ne (Nat.lt_of_le_of_lt ht h)
  have e3 : levT b t d' = levT b t d := by
    generalize levT b t d = j at *
    refine levT_eq (lev_of ?_ ?_)
    · rw [hk.1, quot_up q (by omega)]
    · rw [← quot_up q hm]
      omega
  unfold placeT
  rw [e3, quot_up q hm]
/-- how often a timer is turned about between two levels -/
def turnC (ws : List Bool) (b d lo k : Nat) : Bool := decide (cntS ws b d lo k % 2 = 1)
theorem cntS_cut {ws : List Bool} {b d lo k : Nat} (hl : lo ≤ k) : ∀ L, k ≤ L → cntS ws b d lo L = cntS ws b d k L + cntS ws b d lo k
  | 0, h => by
    have e : k = 0 := by omega
    rw [e, cntS_high 0 (Nat.le_refl _), Nat.zero_add]
  | L + 1, h => by
    by_cases e : k = L + 1
    · rw [e, cntS_high (L + 1) (Nat.le_refl _), Nat.zero_add]
    · rw [cntS_succ, cntS_succ, cntS_cut hl L (by omega)]
      have e2 : (if d / b ^ L % b ≠ 0 ∧ lo ≤ L ∧ wordAt ws L = true then 1 else 0) = if d / b ^ L % b ≠ 0 ∧ k ≤ L ∧ wordAt ws L = true then 1 else 0 := by
        by_cases c : d / b ^ L % b ≠ 0 ∧ wordAt ws L = true
        · rw [if_pos ⟨c.1, by omega, c.2⟩, if_pos ⟨c.1, by omega, c.2⟩]
        · rw [if_neg fun z => c ⟨z.1, z.2.2⟩, if_neg fun z => c ⟨z.1, z.2.2⟩]
      rw [e2]
      omega
theorem side_cut {b : Nat} {ws : List Bool} {s t d lo : Nat} (hb : 2 ≤ b) (h : t < d) (hs : s ≤ t) (hlo : lo ≤ levT b t d) : sideT b ws s d lo = Bool.xor (sideT b ws s d (levT b t d)) (turnC ws b d lo (levT b t d)) := by
  have hsd : s < d := Nat.lt_of_le_of_lt hs h
  have hl := lev_mono hb h hs
  rw [side_cnt hb hsd (Nat.le_trans hlo hl), side_cnt hb hsd hl, cntS_cut hlo _ hl]
  unfold turnC
  generalize cntS ws b d (levT b t d) (levT b s d) = x
  generalize cntS ws b d lo (levT b t d) = y
  generalize (if wordAt ws (levT b s d) = true then 1 else 0) = z
  by_cases c1 : (x + z) % 2 = 1 <;> by_cases c2 : y % 2 = 1
  · rw [decide_eq_true c1, decide_eq_true c2, decide_eq_false (by omega)]
    rfl
  · rw [decide_eq_true c1, decide_eq_false c2, decide_eq_true (by omega)]
    rfl
  · rw [decide_eq_false c1, decide_eq_true c2, decide_eq_true (by omega)]
    rfl
  · rw [decide_eq_false c1, decide_eq_false c2, decide_eq_false (by omega)]
    rfl
/-- a list at a later tick comes out of one list at the earlier one -/
theorem st_later {b : Nat} {ws : List Bool} {t t' d0 : Nat} {ms : List Tm} (hb : 2 ≤ b) (ht : t ≤ t') (hd : ∀ m ∈ ms, t' < m.due ∧ m.since ≤ t) (h0 : t' < d0) :
    stM b ws t' ms (placeT b t' d0) = deq (fun _ => turnC ws b d0 (levT b t' d0) (levT b t d0)) ((stM b ws t ms (placeT b t d0)).filter fun m => decide (placeT b t' m.due = placeT b t' d0)) := by
  unfold stM
  rw [deq_filter, List.filter_filter, deq_deq]
  have e1 : ms.filter (fun m => decide (placeT b t' m.due = placeT b t' d0) && decide (placeT b t m.due = placeT b t d0)) = ms.filter fun m => decide (placeT b t' m.due = placeT b t' d0) := List.filter_congr fun m hm => by
    by_cases c : placeT b t' m.due = placeT b t' d0
    · have z := (place_same hb ht (hd m hm).1 h0 c).2
      simp [c, z]
    · simp [c]
  rw [e1]
  refine deq_congr fun m hm => ?_
  obtain ⟨h1, h2⟩ := List.mem_filter.mp hm
  have h2' := of_decide_eq_true h2
  obtain ⟨hdue, hs⟩ := hd m h1
  obtain ⟨z1, z2⟩ := place_same hb ht hdue h0 h2'
  have e2 : levT b t' m.due = levT b t' d0 := congrArg Prod.fst h2'
  have e3 : levT b t m.due = levT b t d0 := congrArg Prod.fst z2
  have hlo := lev_mono hb hdue ht
  have h := side_cut (b := b) (ws := ws) (s := m.since) (t := t) (d := m.due) (lo := levT b t' m.due) hb (Nat.lt_of_le_of_lt ht hdue) hs hlo
  rw [e2, e3] at h
  show sideT b ws m.since m.due (levT b t' d0) = Bool.xor (sideT b ws m.since m.due (levT b t d0)) _
  rw [h]
  congr 1
  unfold turnC
  rw [e2] at z1
  have e4 : cntS ws b m.due (levT b t' d0) (levT b t d0) = cntS ws b d0 (levT b t' d0) (levT b t d0) := cntS_congr _ fun i h1 _ => by rw [quot_up z1 h1]
  rw [e4]
/-- what a timer is, its tick of setting aside, shifted -/
def coreM (s : Nat) (m : Tm) : Nat × Nat × Option Nat := (m.num, m.due + s, m.per)
theorem core_filter {s : Nat} {p q : Tm → Bool} : ∀ {L L' : List Tm}, L'.map (coreM 0) = L.map (coreM s) → (∀ x ∈ L, ∀ y, coreM 0 y = coreM s x → q y = p x) → (L'.filter q).map (coreM 0) = (L.filter p).map (coreM s)
  | [], [], _, _ => rfl
  | [], _ :: _, h, _ => by cases h
  | _ :: _, [], h, _ => by cases h
  | x :: L, y :: L', h, hp => by
    rw [List.map_cons, List.map_cons] at h
    obtain ⟨h1, h2⟩ := List.cons.inj h
    have ih := core_filter h2 fun a ha => hp a (List.mem_cons_of_mem _ ha)
    have e := hp x (List.mem_cons_self ..) y h1
    cases c : p x with
    | true =>
      rw [List.filter_cons_of_pos (by rw [e]; exact c), List.filter_cons_of_pos c, List.map_cons, List.map_cons, h1, ih]
    | false =>
      rw [List.filter_cons_of_neg (by rw [e, c]; decide), List.filter_cons_of_neg (by rw [c]; decide), ih]
theorem core_deq {s : Nat} (c : Bool) {L L' : List Tm} (h : L'.map (coreM 0) = L.map (coreM s)) : (deq (fun _ => c) L').map (coreM 0) = (deq (fun _ => c) L).map (coreM s) := by
  rw [deq_const, deq_const]
  cases c with
  | true =>
    show L'.reverse.map _ = L.reverse.map _
    rw [List.map_reverse, List.map_reverse, h]
  | false => exact h
structure Alike (b : Nat) (ws : List Bool) (s t : Nat) (ms os : List Tm) : Prop where
  st : ∀ p, (stM b ws (t + s) os p).map (coreM 0) = (stM b ws t ms p).map (coreM s)
theorem mem_st {b : Nat} {ws : List Bool} {t : Nat} {ms : List Tm} {p : Nat × Nat} {m : Tm} : m ∈ stM b ws t ms p ↔ m ∈ ms ∧ placeT b t m.due = p := by
  unfold stM
  rw [mem_deq, List.mem_filter]
  simp
section
variable {b : Nat} {ws : List Bool} {s t K : Nat} {ms os : List Tm}
theorem Alike.old (A : Alike b ws s t ms os) {o : Tm} (ho : o ∈ os) : ∃ m ∈ ms, coreM 0 o = coreM s m := by
  have z : coreM 0 o ∈ (stM b ws (t + s) os (placeT b (t + s) o.due)).map (coreM 0) := List.mem_map.mpr ⟨o, mem_st.mpr ⟨ho, rfl⟩, rfl⟩
  rw [A.st] at z
  obtain ⟨m, h1, h2⟩ := List.mem_map.mp z
  exact ⟨m, (mem_st.mp h1).1, h2.symm⟩
theorem Alike.new (A : Alike b ws s t ms os) {m : Tm} (hm : m ∈ ms) : ∃ o ∈ os, coreM 0 o = coreM s m := by
  have z : coreM s m ∈ (stM b ws t ms (placeT b t m.due)).map (coreM s) := List.mem_map.mpr ⟨m, mem_st.mpr ⟨hm, rfl⟩, rfl⟩
  rw [← A.st] at z
  obtain ⟨o, h1, h2⟩ := List.mem_map.mp z
  exact ⟨o, (mem_st.mp h1).1, h2⟩
theorem core_inj {s : Nat} {m o : Tm} (h : coreM 0 o = coreM s m) : o.num = m.num ∧ o.due = m.due + s ∧ o.per = m.per := by
  unfold coreM at h
  have h1 := congrArg Prod.fst h
  have h2 := congrArg (fun x : Nat × Nat × Option Nat => x.2.1) h
  have h3 := congrArg (fun x : Nat × Nat × Option Nat => x.2.2) h
  exact ⟨h1, h2, h3⟩
theorem alike_refl (b : Nat) (ws : List Bool) (t : Nat) (ms : List Tm) : Alike b ws 0 t ms ms := ⟨fun _ => rfl⟩
theorem Alike.trans {ns : List Tm} (A : Alike b ws s t ms os) (B : Alike b ws 0 (t + s) os ns) : Alike b ws s t ms ns := ⟨fun p => (B.st p).trans (A.st p)⟩
theorem Alike.symm0 (A : Alike b ws 0 t ms os) : Alike b ws 0 t os ms := ⟨fun p => (A.st p).symm⟩
theorem Alike.mems (A : Alike b ws s t ms os) {n : Nat} : n ∈ os.map (·.num) ↔ n ∈ ms.map (·.num) := by
  constructor
  · intro h
    obtain ⟨o, ho, e⟩ := List.mem_map.mp h
    obtain ⟨m, hm, c⟩ := A.old ho
    exact List.mem_map.mpr ⟨m, hm, by rw [← e, (core_inj c).1]⟩
  · intro h
    obtain ⟨m, hm, e⟩ := List.mem_map.mp h
    obtain ⟨o, ho, c⟩ := A.new hm
    exact List.mem_map.mpr ⟨o, ho, by rw [← e, (core_inj c).1]⟩
theorem Alike.perm (A : Alike b ws s t ms os) (n1 : (ms.map (·.num)).Nodup) (n2 : (os.map (·.num)).Nodup) : (os.map (·.num)).Perm (ms.map (·.num)) := (List.perm_ext_iff_of_nodup n2 n1).mpr fun _ => A.mems
theorem Alike.len (A : Alike b ws s t ms os) (n1 : (ms.map (·.num)).Nodup) (n2 : (os.map (·.num)).Nodup) : os.length = ms.length := by
  have := (A.perm n1 n2).length_eq
  rw [List.length_map, List.length_map] at this
  exact this
theorem Alike.least (A : Alike b ws s t ms os) {v : Nat} (h : leastD ms = some v) : leastD os = some (v + s) := by
  obtain ⟨h1, h2⟩ := least_some.mp h
  refine least_some.mpr ⟨?_, fun x hx => ?_⟩
  · obtain ⟨m, hm, e⟩ := List.mem_map.mp h1
    obtain ⟨o, ho, c⟩ := A.new hm
    exact List.mem_map.mpr ⟨o, ho, by rw [← e]; exact (core_inj c).2.1⟩
  · obtain ⟨o, ho, e⟩ := List.mem_map.mp hx
    obtain ⟨m, hm, c⟩ := A.old ho
    have := h2 _ (List.mem_map.mpr ⟨m, hm, rfl⟩)
    have := (core_inj c).2.1
    omega
/-- ticks pass and nothing fires -/
theorem Alike.later (A : Alike b ws s t ms os) (hS : Sh b s K) (hb : 2 ≤ b) {t' : Nat} (ht : t ≤ t') (hd : ∀ m ∈ ms, t' < m.due ∧ m.since ≤ t ∧ m.due < b ^ K) (ho : ∀ o ∈ os, o.since ≤ t + s) : Alike b ws s t' ms os := by
  have hd2 : ∀ o ∈ os, t' + s < o.due ∧ o.since ≤ t + s := fun o h => by
    obtain ⟨m, hm, c⟩ := A.old h
    have := (hd m hm).1
    have := (core_inj c).2.1
    exact ⟨by omega, ho o h⟩
  have main : ∀ m ∈ ms, (stM b ws (t' + s) os (placeT b t' m.due)).map (coreM 0) = (stM b ws t' ms (placeT b t' m.due)).map (coreM s) := fun m hm => by
    obtain ⟨z1, z2, z3⟩ := hd m hm
    have e1 : placeT b t' m.due = placeT b (t' + s) (m.due + s) := (sh_place hS hb z1 z3).symm
    have l1 := sh_lev hS hb z1 z3
    have l2 := sh_lev hS hb (Nat.lt_of_le_of_lt ht z1) z3
    have e2 := sh_place hS hb (Nat.lt_of_le_of_lt ht z1) z3
    have r1 := st_later (ws := ws) (ms := ms) hb ht (fun m hm => ⟨(hd m hm).1, (hd m hm).2.1⟩) z1
    have r2 := st_later (ws := ws) (t := t + s) (t' := t' + s) (d0 := m.due + s) (ms := os) hb (by omega) hd2 (by omega)
    rw [r1, e1, r2, l1, l2, e2]
    have ec : turnC ws b (m.due + s) (levT b t' m.due) (levT b t m.due) = turnC ws b m.due (levT b t' m.due) (levT b t m.due) := by
      unfold turnC
      rw [cntS_congr _ fun i _ h2 => sh_digit hS hb (Nat.lt_trans h2 (lev_below hb (Nat.lt_of_le_of_lt ht z1) z3)) m.due]
    rw [ec]
    refine core_deq _ (core_filter (A.st _) fun x hx y c => ?_)
    obtain ⟨x1, x2, x3⟩ := hd x (mem_st.mp hx).1
    rw [(core_inj c).2.1, sh_place hS hb x1 x3]
  refine ⟨fun p => ?_⟩
  by_cases c : ∃ m ∈ ms, placeT b t' m.due = p
  · obtain ⟨m, hm, rfl⟩ := c
    exact main m hm
  · have n1 : stM b ws t' ms p = [] := List.eq_nil_iff_forall_not_mem.mpr fun m hm => c ⟨m, (mem_st.mp hm).1, (mem_st.mp hm).2⟩
    have n2 : stM b ws (t' + s) os p = [] := List.eq_nil_iff_forall_not_mem.mpr fun o hx => by
      obtain ⟨a1, a2⟩ := mem_st.mp hx
      obtain ⟨m, hm, c2⟩ := A.old a1
      obtain ⟨x1, x2, x3⟩ := hd m hm
      refine c ⟨m, hm, ?_⟩
      rw [← a2, (core_inj c2).2.1, sh_place hS hb x1 x3]
    rw [n1, n2]
    rfl
/-- timers taken out of both -/
theorem Alike.filt (A : Alike b ws s t ms os) {p q : Tm → Bool} (h : ∀ x ∈ ms, ∀ y, coreM 0 y = coreM s x → q y = p x) : Alike b ws s t (ms.filter p) (os.filter q) := by
  refine ⟨fun pl => ?_⟩
  have key : ∀ (t : Nat) (l : List Tm) (f : Tm → Bool), stM b ws t (l.filter f) pl = (stM b ws t l pl).filter f := fun t l f => by
    unfold stM
    rw [deq_filter, List.filter_filter, List.filter_filter]
    congr 1
    refine List.filter_congr fun m _ => Bool.and_comm _ _
  rw [key, key]
  exact core_filter (A.st pl) fun x hx => h x (mem_st.mp hx).1
theorem st_put {t : Nat} {l : List Tm} {m : Tm} (hb : 2 ≤ b) (hm : t < m.due) (hs : m.since = t) (p : Nat × Nat) : stM b ws t (l ++ [m]) p = if placeT b t m.due = p then insM (wordAt ws (levT b t m.due)) m (stM b ws t l p) else stM b ws t l p := by
  unfold stM
  rw [List.filter_append]
  by_cases c : placeT b t m.due = p
  · rw [if_pos c]
    have e : [m].filter (fun m => decide (placeT b t m.due = p)) = [m] := List.filter_cons_of_pos (by simpa using c)
    rw [e, deq_snoc]
    congr 1
    rw [← c, hs]
    exact side_new hb hm
  · rw [if_neg c]
    have e : [m].filter (fun m => decide (placeT b t m.due = p)) = [] := List.filter_cons_of_neg (by simpa using c)
    rw [e, List.append_nil]
theorem core_ins {s : Nat} (c : Bool) {m o : Tm} {L L' : List Tm} (h : L'.map (coreM 0) = L.map (coreM s)) (e : coreM 0 o = coreM s m) : (insM c o L').map (coreM 0) = (insM c m L).map (coreM s) := by
  unfold insM
  cases c with
  | true =>
    show (o :: L').map _ = (m :: L).map _
    rw [List.map_cons, List.map_cons, h, e]
  | false =>
    show (L' ++ [o]).map _ = (L ++ [m]).map _
    rw [List.map_append, List.map_append, h]
    show _ ++ [coreM 0 o] = _ ++ [coreM s m]
    rw [e]
/-- a timer set in both -/
theorem Alike.put (A : Alike b ws s t ms os) (hS : Sh b s K) (hb : 2 ≤ b) {m o : Tm} (h1 : t < m.due) (h2 : m.due < b ^ K) (h3 : m.since = t) (h4 : o.since = t + s) (e : coreM 0 o = coreM s m) : Alike b ws s t (ms ++ [m]) (os ++ [o]) := by
  refine ⟨fun p => ?_⟩
  have ed := (core_inj e).2.1
  rw [st_put hb h1 h3, st_put hb (by omega) h4, ed, sh_place hS hb h1 h2, sh_lev hS hb h1 h2]
  by_cases c : placeT b t m.due = p
  · rw [if_pos c, if_pos c]
    exact core_ins _ (A.st p) e
  · rw [if_neg c, if_neg c]
    exact A.st p
theorem Alike.puts (hS : Sh b s K) (hb : 2 ≤ b) : ∀ {L L' : List Tm} {ms os : List Tm}, Alike b ws s t ms os → L'.map (coreM 0) = L.map (coreM s) → (∀ m ∈ L, t < m.due ∧ m.due < b ^ K ∧ m.since = t) → (∀ o ∈ L', o.since = t + s) → Alike b ws s t (ms ++ L) (os ++ L')
  | [], [], ms, os, A, _, _, _ => by
    rw [List.append_nil, List.append_nil]
    exact A
  | [], _ :: _, _, _, _, h, _, _ => by cases h
  | _ :: _, [], _, _, _, h, _, _ => by cases h
  | x :: L, y :: L', ms, os, A, h, h1, h2 => by
    rw [List.map_cons, List.map_cons] at h
    obtain ⟨e1, e2⟩ := List.cons.inj h
    obtain ⟨a1, a2, a3⟩ := h1 x (List.mem_cons_self ..)
    have B := A.put hS hb a1 a2 a3 (h2 y (List.mem_cons_self ..)) e1
    have z := Alike.puts hS hb B e2 (fun m hm => h1 m (List.mem_cons_of_mem _ hm)) fun o ho => h2 o (List.mem_cons_of_mem _ ho)
    rw [List.append_assoc, List.append_assoc] at z
    exact z
/-- those due at a tick, as they fire -/
theorem fire_list {b : Nat} {ws : List Bool} {t d : Nat} {ms : List Tm} (hb : 2 ≤ b) (h : t < d) (hs : ∀ m ∈ ms, m.since ≤ t) : deq (fun m => sideT b ws m.since m.due 0) (ms.filter fun m => decide (m.due = d)) = deq (fun _ => turnB ws b d (levT b t d)) ((stM b ws t ms (placeT b t d)).filter fun m => decide (m.due = d)) := by
  unfold stM
  rw [deq_filter, List.filter_filter]
  have e1 : ms.filter (fun m => decide (m.due = d) && decide (placeT b t m.due = placeT b t d)) = ms.filter fun m => decide (m.due = d) := List.filter_congr fun m _ => by
    by_cases c : m.due = d
    · simp [c]
    · simp [c]
  rw [e1, deq_deq]
  refine deq_congr fun m hm => ?_
  obtain ⟨h1, h2⟩ := List.mem_filter.mp hm
  have h2' := of_decide_eq_true h2
  rw [h2']
  show sideT b ws m.since d 0 = Bool.xor (sideT b ws m.since d (placeT b t d).1) _
  exact side_turn hb h (hs m h1)
theorem Alike.fire (A : Alike b ws s t ms os) (hS : Sh b s K) (hb : 2 ≤ b) {d : Nat} (h : t < d) (hK : d < b ^ K) (hs : ∀ m ∈ ms, m.since ≤ t) (ho : ∀ o ∈ os, o.since ≤ t + s) :
    (deq (fun m => sideT b ws m.since m.due 0) (os.filter fun m => decide (m.due = d + s))).map (coreM 0) = (deq (fun m => sideT b ws m.since m.due 0) (ms.filter fun m => decide (m.due = d))).map (coreM s) := by
  rw [fire_list hb h hs, fire_list (t := t + s) (d := d + s) hb (by omega) ho, sh_place hS hb h hK, sh_lev hS hb h hK]
  have ec : turnB ws b (d + s) (levT b t d) = turnB ws b d (levT b t d) := by
    unfold turnB
    rw [cntS_congr _ fun i _ h2 => sh_digit hS hb (Nat.lt_trans h2 (lev_below hb h hK)) d]
  rw [ec]
  refine core_deq _ (core_filter (A.st _) fun x _ y c => ?_)
  rw [(core_inj c).2.1]
  by_cases e : x.due = d
  · rw [decide_eq_true e, decide_eq_true (by omega)]
  · rw [decide_eq_false e, decide_eq_false (by omega)]
theorem core_num {s : Nat} {L L' : List Tm} (h : L'.map (coreM 0) = L.map (coreM s)) : L'.map (·.num) = L.map (·.num) := by
  have e : ∀ (s : Nat) (l : List Tm), l.map (·.num) = (l.map (coreM s)).map (·.1) := fun s l => by
    rw [List.map_map]
    rfl
  rw [e 0, e s, h]
theorem Alike.order (A : Alike b ws s t ms os) (hS : Sh b s K) (hb : 2 ≤ b) {d : Nat} (h : t < d) (hK : d < b ^ K) (hs : ∀ m ∈ ms, m.since ≤ t) (ho : ∀ o ∈ os, o.since ≤ t + s) : orderAt b ws (d + s) os = orderAt b ws d ms := by
  rw [order_deq, order_deq]
  exact core_num (A.fire hS hb h hK hs ho)
theorem core_again {s v : Nat} : ∀ {L L' : List Tm}, L'.map (coreM 0) = L.map (coreM s) → (L'.filterMap (againM (v + s))).map (coreM 0) = (L.filterMap (againM v)).map (coreM s)
  | [], [], _ => rfl
  | [], _ :: _, h => by cases h
  | _ :: _, [], h => by cases h
  | x :: L, y :: L', h => by
    rw [List.map_cons, List.map_cons] at h
    obtain ⟨e1, e2⟩ := List.cons.inj h
    have ih := core_again (v := v) e2
    obtain ⟨c1, c2, c3⟩ := core_inj e1
    cases ep : x.per with
    | none =>
      have z1 : againM v x = none := by
        unfold againM
        rw [ep]
        rfl
      have z2 : againM (v + s) y = none := by
        unfold againM
        rw [c3, ep]
        rfl
      rw [List.filterMap_cons_none z1, List.filterMap_cons_none z2, ih]
    | some k =>
      have z1 : againM v x = some ⟨x.num, v + k, some k, v⟩ := by
        unfold againM
        rw [ep]
        rfl
      have z2 : againM (v + s) y = some ⟨y.num, v + s + k, some k, v + s⟩ := by
        unfold againM
        rw [c3, ep]
        rfl
      rw [List.filterMap_cons_some z1, List.filterMap_cons_some z2, List.map_cons, List.map_cons, ih]
      congr 1
      unfold coreM
      rw [c1]
      show (x.num, v + s + k + 0, some k) = (x.num, v + k + s, some k)
      congr 2
      omega
/-- timers that may be led on up to T -/
structure Below (B T : Nat) (m : Tm) : Prop where
  due : m.due < B
  per : ∀ k, m.per = some k → 1 ≤ k ∧ T + k < B
/-- one tick at which something fires -/
theorem Alike.step (A : Alike b ws s t ms os) (hS : Sh b s K) (hb : 2 ≤ b) {v T : Nat} (hv : leastD ms = some v) (hT : v ≤ T) (hm : ∀ m ∈ ms, t < m.due ∧ m.since ≤ t ∧ Below (b ^ K) T m) (ho : ∀ o ∈ os, o.since ≤ t + s) (n1 : (ms.map (·.num)).Nodup) (n2 : (os.map (·.num)).Nodup) :
    orderAt b ws (v + s) os = orderAt b ws v ms ∧ Alike b ws s v (afterF v ms (orderAt b ws v ms)) (afterF (v + s) os (orderAt b ws (v + s) os)) ∧ (∀ m ∈ afterF v ms (orderAt b ws v ms), v < m.due ∧ m.since ≤ v ∧ Below (b ^ K) T m) ∧ ∀ o ∈ afterF (v + s) os (orderAt b ws (v + s) os), o.since ≤ v + s := by
  obtain ⟨l1, l2⟩ := least_some.mp hv
  obtain ⟨m0, hm0, e0⟩ := List.mem_map.mp l1
  obtain ⟨z1, z2, z3⟩ := hm m0 hm0
  have htv : t < v := by omega
  have hvK : v < b ^ K := by
    have := z3.due
    omega
  have hs : ∀ m ∈ ms, m.since ≤ t := fun m h => (hm m h).2.1
  have F := A.fire hS hb htv hvK hs ho
  refine ⟨A.order hS hb htv hvK hs ho, ?_, fun m h => ?_, fun o h => ?_⟩
  · rw [after_due n1, after_due n2]
    have B1 := A.filt (p := fun m => decide (m.due ≠ v)) (q := fun m => decide (m.due ≠ v + s)) fun x _ y c => by
      have := (core_inj c).2.1
      exact decide_eq_decide.mpr (by omega)
    have B2 := B1.later hS hb (t' := v) (Nat.le_of_lt htv) (fun m h => by
      obtain ⟨h1, h2⟩ := List.mem_filter.mp h
      have h3 := l2 _ (List.mem_map.mpr ⟨m, h1, rfl⟩)
      have h4 : m.due ≠ v := of_decide_eq_true h2
      exact ⟨by omega, hs m h1, (hm m h1).2.2.due⟩) fun o h => ho o (List.mem_filter.mp h).1
    refine Alike.puts hS hb B2 (core_again F) (fun m h => ?_) fun o h => ?_
    · obtain ⟨m1, h1, h2⟩ := List.mem_filterMap.mp h
      obtain ⟨k, k1, rfl⟩ := again_of h2
      have h3 := (List.mem_filter.mp (mem_deq.mp h1)).1
      obtain ⟨p1, p2⟩ := (hm m1 h3).2.2.per k k1
      exact ⟨(by show v < v + k; omega), (by show v + k < _; omega), rfl⟩
    · obtain ⟨m1, h1, h2⟩ := List.mem_filterMap.mp h
      obtain ⟨k, k1, rfl⟩ := again_of h2
      rfl
  · rcases after_mem n1 h with ⟨h1, h2⟩ | ⟨m1, h1, h2, k, h3, rfl⟩
    · have h3 := l2 _ (List.mem_map.mpr ⟨m, h1, rfl⟩)
      have := hs m h1
      exact ⟨by omega, by omega, (hm m h1).2.2⟩
    · obtain ⟨p1, p2⟩ := (hm m1 h1).2.2.per k h3
      exact ⟨(by show v < v + k; omega), Nat.le_refl _, ⟨(by show v + k < _; omega), fun k' e => by cases e; exact ⟨p1, p2⟩⟩⟩
  · rcases after_mem n2 h with ⟨h1, h2⟩ | ⟨m1, h1, h2, k, h3, rfl⟩
    · have := ho o h1
      omega
    · exact Nat.le_refl _
end
/-- an advance of both -/
theorem alike_adv {b : Nat} {ws : List Bool} {s K T : Nat} {ms ms' os' : List Tm} {f f' : List (Nat × List Nat)} (hS : Sh b s K) (hb : 2 ≤ b) (h : AdvTo b ws T ms f ms') : ∀ {t : Nat} {os : List Tm}, t ≤ T → Alike b ws s t ms os → (∀ m ∈ ms, t < m.due ∧ m.since ≤ t ∧ Below (b ^ K) T m) → (∀ o ∈ os, o.since ≤ t + s) → AdvTo b ws (T + s) os f' os' →
    f' = f.map (fun r => (r.1 + s, r.2)) ∧ Alike b ws s T ms' os' := by
  induction h generalizing f' with
  | @done ms hd =>
    intro t os htT A hm ho h'
    cases h' with
    | done _ => exact ⟨rfl, A.later hS hb htT (fun m h => ⟨hd m h, (hm m h).2.1, (hm m h).2.2.due⟩) ho⟩
    | step h1 h2 _ _ _ _ =>
      obtain ⟨o, hx, e⟩ := List.mem_map.mp (least_some.mp h1).1
      obtain ⟨m, h3, c⟩ := A.old hx
      have := hd m h3
      have := (core_inj c).2.1
      omega
  | @step ms ms' at_ rest h1 h2 ok nd few r ih =>
    intro t os htT A hm ho h'
    have hl := A.least h1
    cases h' with
    | done hd =>
      obtain ⟨o, hx, e⟩ := List.mem_map.mp (least_some.mp hl).1
      have := hd o hx
      omega
    | @step _ _ at2 rest2 k1 k2 ok2 nd2 few2 r2 =>
      have e : at2 = at_ + s := Option.some.inj (k1.symm.trans hl)
      subst e
      obtain ⟨e1, B, b1, b2⟩ := A.step hS hb h1 h2 hm ho nd nd2
      obtain ⟨i1, i2⟩ := ih h2 B b1 b2 r2
      refine ⟨?_, i2⟩
      rw [i1, e1]
      rfl
/-- the lists that are shown -/
theorem alike_lists {b : Nat} {ws : List Bool} {s K t : Nat} {ms os : List Tm} {cs : List Cell} (hS : Sh b s K) (hb : 2 ≤ b) (A : Alike b ws s t ms os) (hd : ∀ m ∈ ms, t < m.due ∧ m.due < b ^ K) (h : IsLists b ws t ms cs) : IsLists b ws (t + s) os cs := by
  have hd1 : ∀ m ∈ ms, t < m.due := fun m hm => (hd m hm).1
  have hd2 : ∀ o ∈ os, t + s < o.due := fun o ho => by
    obtain ⟨m, hm, c⟩ := A.old ho
    have := hd1 m hm
    have := (core_inj c).2.1
    omega
  obtain ⟨k1, _⟩ := h.keys hd1
  refine ⟨?_, h.sorted, fun c hc => ?_⟩
  · have nd := (stand_bounds b ws (t + s) os _ (Nat.le_refl _)).2.2
    rw [List.take_length] at nd
    refine (List.perm_ext_iff_of_nodup k1 nd).mpr fun p => ?_
    rw [stand_keys hd2, h.perm.mem_iff, stand_keys hd1]
    constructor
    · rintro ⟨m, hm, e⟩
      obtain ⟨o, ho, c⟩ := A.new hm
      exact ⟨o, ho, by rw [(core_inj c).2.1, sh_place hS hb (hd m hm).1 (hd m hm).2, e]⟩
    · rintro ⟨o, ho, e⟩
      obtain ⟨m, hm, c⟩ := A.old ho
      exact ⟨m, hm, by rw [← e, (core_inj c).2.1, sh_place hS hb (hd m hm).1 (hd m hm).2]⟩
  · rw [cell_st hd2, h.at_ hd1 hc]
    exact (core_num (A.st c.1)).symm
/-- the order in which they are told -/
theorem alike_told {b : Nat} {ws : List Bool} {s t : Nat} {ms os : List Tm} (A : Alike b ws s t ms os) : ∀ ks : List (Nat × Nat), (toldT b ws (t + s) os ks).map (coreM 0) = (toldT b ws t ms ks).map (coreM s)
  | [] => rfl
  | k :: ks => by
    have ih := alike_told A ks
    unfold toldT at ih ⊢
    rw [List.flatMap_cons, List.flatMap_cons, List.map_append, List.map_append, ih, core_deq _ (A.st k)]
/-! ### a wheel made of a snapshot -/
def sinT (t : Nat) (m : Tm) : Tm := ⟨m.num, m.due, m.per, t⟩
theorem sin_core (s t : Nat) (l : List Tm) : (l.map (sinT t)).map (coreM s) = l.map (coreM s) := by
  rw [List.map_map]
  rfl
theorem sin_lists {b : Nat} {ws : List Bool} {t : Nat} {ms : List Tm} {ks : List (Nat × Nat)} (hb : 2 ≤ b) (nd : ks.Nodup) (hd : ∀ m ∈ ms, t < m.due) (hk : ∀ m ∈ ms, placeT b t m.due ∈ ks) (p : Nat × Nat) :
    stM b ws t ((toldT b ws t ms ks).map (sinT t)) p = (stM b ws t ms p).map (sinT t) := by
  have e1 : ((toldT b ws t ms ks).map (sinT t)).filter (fun m => decide (placeT b t m.due = p)) = ((toldT b ws t ms ks).filter fun m => decide (placeT b t m.due = p)).map (sinT t) := by
    rw [List.filter_map]
    rfl
  have e2 : stM b ws t ((toldT b ws t ms ks).map (sinT t)) p = deq (fun _ => wordAt ws p.1) (((toldT b ws t ms ks).filter fun m => decide (placeT b t m.due = p)).map (sinT t)) := by
    unfold stM
    rw [e1]
    refine deq_congr fun m hm => ?_
    obtain ⟨m0, hm0, rfl⟩ := List.mem_map.mp hm
    obtain ⟨h1, h2⟩ := List.mem_filter.mp hm0
    have h3 : placeT b t m0.due = p := of_decide_eq_true h2
    have h4 := hd m0 ((told_perm nd hk).mem_iff.mp h1)
    rw [← h3]
    exact side_new hb h4
  rw [e2, told_part p ks nd]
  by_cases c : p ∈ ks
  · rw [if_pos c, deq_map, deq_const, deq_const]
    cases wordAt ws p.1 with
    | true =>
      show ((stM b ws t ms p).reverse.reverse).map _ = _
      rw [List.reverse_reverse]
    | false => rfl
  · rw [if_neg c]
    have e3 : stM b ws t ms p = [] := by
      unfold stM
      rw [List.filter_eq_nil_iff.mpr fun m hm z => c (by rw [← of_decide_eq_true z]; exact hk m hm)]
      rfl
    rw [e3, deq_const]
    cases wordAt ws p.1 <;> rfl
theorem alike_restored {b : Nat} {ws : List Bool} {t : Nat} {ms : List Tm} {cs : List Cell} (hb : 2 ≤ b) (hd : ∀ m ∈ ms, t < m.due) (h : IsLists b ws t ms cs) : Alike b ws 0 t ms ((toldT b ws t ms (cs.map (·.1))).map (sinT t)) := by
  obtain ⟨k1, k2⟩ := h.keys hd
  refine ⟨fun p => ?_⟩
  rw [Nat.add_zero, sin_lists hb k1 hd k2, sin_core]
/-! ### wheel == other and wheel != other, by the class's own __eq__ -/
end Td
namespace PySem.W
open PySem PySem.Calls PyProof.Rows Builtin
section
variable {prog : Program} {w : World} {A : Around} {E : Value → Shared → Prop} {s : Shared} {K : Frag} {x C L f : Addr} {h₀ : Heap} {m : Str → Option Value} {ox : Obj} {od : Option Obj} {name : Str} {b tb : Value}
theorem ifBound_B {M : Model} {id : String} {args : List Value} {Q : Option Value → Shared → Prop} (X : K.In s.heap) (I : InstAt s.heap x ox C od) (hs : findIn K (.ref C) name = some (some (.builtin id))) (hb : ∀ v, bindSpecial (.builtin id) v = pure (.builtin id, [v]))
    (h : wpAny M A (call (.builtin id) (.ref x :: args)) (fun v => Q (some v)) E s) : wpAny M A (callSpecialIfBound? (.ref x) name args) Q E s := by
  simp only [callSpecialIfBound?, bindSpecialIfBound?]
  refine wpAny_holding (wpAny_bind (wpAny_bind (wpAny_bind (I.type.here ((looks_findIn X hs).here ?_)))))
  simp only [hb]
  refine wpAny_bind (wpAny_askSetting (wpAny_ite ?_))
  have fin : wpAny M A (call (.builtin id) ([.ref x] ++ args) >>= fun v => pure (some v)) Q E s := wpAny_bind (wpAny_mono h (fun v s' h' => wpAny_pure h') fun _ _ h' => h')
  split
  · exact wpAny_bind (wpAny_pure (wpAny_pure fin))
  · exact wpAny_tryCatch (wpAny_bind (wpAny_pure (wpAny_pure fin)))
theorem objNe_entry {Q : Fin → Shared → Prop} (hu : A.units < cLine) (X : K.In s.heap) (I : InstAt s.heap x ox C od) (hs : findIn K (.ref C) "__eq__" = some (some (.ref f))) (hf : isFn K (.ref f) = true)
    (h : wpAny (model prog w) A (call (.ref f) [.ref x, b]) (fun v s' => ∃ r, v = .bool r ∧ Q (.done (.ret (.bool (!r)))) s') E s) :
    wpAny (model prog w) A (Builtin.«object.__ne__» ⟨[.ref x, b], []⟩) Q E s := by
  unfold Builtin.«object.__ne__»
  repeat (first
    | with_reducible refine wpAny_cRoomFor hu ?_
    | (refine wpAny_bind (m := callSpecialIfBound? (.ref x) (Str.ofString "__eq__") [b])
        (ifBound_K X I hs hf (wpAny_mono h (fun r s' hr => by
          obtain ⟨b, rfl, hq⟩ := hr
          repeat (first | exact hq | exact wpAny_pure hq | exact wpAny_truthy_bool hq | (refine wpAny_bind (m := truthy (.bool _)) (wpAny_truthy_bool ?_)) | wp_step)) fun _ _ e => e)))
    | wp_step)
theorem ne_K {Q : Value → Shared → Prop} (hu : A.units + 1 < cLine) (Fh : Fr h₀ L s.heap m) (X₀ : K.In h₀) (I : InstAt s.heap x ox C od) (hb : Looks (model prog w) s.heap (typeOf b) tb) (hn : notFirst K C tb = true)
    (hne : findIn K (.ref C) "__ne__" = some (some (.builtin "object.__ne__"))) (hm : mroIn K C (.type "object") = some true) (hs : findIn K (.ref C) "__eq__" = some (some (.ref f))) (hf : isFn K (.ref f) = true)
    (h : wpAny (model prog w) A.in1 (call (.ref f) [.ref x, b]) (fun v s' => ∃ r, v = .bool r ∧ Q (.bool (!r)) s') E s) : wpAny (model prog w) A (richCompare .NotEq (.ref x) b) Q E s := by
  have X := X₀.keeps Fh.keep
  have sub : Looks (model prog w) s.heap (isInstance (.ref x) (.type "object")) true := I.type.andThen (looks_mroIn X hm)
  have one : wpAny (model prog w) A (tryCompare (.ref x) "__ne__" b) (fun r s' => ∃ v, r = some v ∧ Q v s') E s := by
    unfold tryCompare
    refine wpAny_bind (ifBound_B X I hne F.cmp_object.ne.bind (wpAny_call (codeAny_call_builtin F.cmp_object.ne.plain F.cmpEntry_ne (check_slot F.cmpKind_ne F.cmpSplit_ne sub (F.cmpArgs_ne _ _) ?_))))
    refine objNe_entry hu X I hs hf (wpAny_mono h (fun v s' hv => ?_) fun _ _ e => e)
    obtain ⟨r, rfl, hq⟩ := hv
    exact ⟨r, rfl, wpAny_pure ⟨_, rfl, hq⟩⟩
  unfold richCompare
  simp only [oneThing_ref]
  refine wpAny_holding (wpAny_bind (wpAny_cRoomFor (Nat.lt_of_succ_lt hu) ?_))
  rw [cmpInfo_NotEq]
  dsimp only
  refine wpAny_bind (I.type.here (wpAny_bind (hb.here ?_)))
  split
  · rename_i q
    have e : subIn K tb (.ref C) = some false := by
      rcases Bool.or_eq_true_iff.mp hn with e | e
      · rw [beq_iff_eq.mp e] at q; simp at q
      · exact beq_iff_eq.mp e
    refine wpAny_bind ((looks_subIn X e).here ?_)
    simp only [Bool.false_eq_true, if_false]
    refine wpAny_bind (wpAny_mono one (fun r s' z => ?_) fun _ _ e => e)
    obtain ⟨v, rfl, hq⟩ := z
    exact wpAny_pure hq
  · refine wpAny_bind (wpAny_pure ?_)
    simp only [Bool.false_eq_true, if_false]
    refine wpAny_bind (wpAny_mono one (fun r s' z => ?_) fun _ _ e => e)
    obtain ⟨v, rfl, hq⟩ := z
    exact wpAny_pure hq
end
end PySem.W
namespace Td
open PySem PySem.Spec PyProof.Rows L2
/-- the class's own ==, and what object's != asks -/
def HasEqW (P : Program) (w : World) (K : PySem.W.Frag) (mg : Str → Option Value) (base : Heap) (k : Nat) (C : Addr) (sp : Sp) : Prop :=
  ∃ (f : Addr) (fd : FuncData), FnOk P w K mg base CX0 k f fd ["self", "other"] sp ∧ PySem.W.findIn K (.ref C) "__eq__" = some (some (.ref f)) ∧ PySem.W.isFn K (.ref f) = true ∧ Binds K fd ["self", "other"] [] ∧
    PySem.W.findIn K (.ref C) "__ne__" = some (some (.builtin "object.__ne__")) ∧ PySem.W.mroIn K C (.type "object") = some true
/-- what the other one is: its type is not below the class -/
def NotSub (K : PySem.W.Frag) (C : Addr) (y : V) (H : Hp) : Prop := (∃ b dy gs, y = .ref b ∧ H b = some (.ins C dy gs)) ∨ ∃ t, TyX K H y t ∧ PySem.W.notFirst K C t = true
def rEqW (K : PySem.W.Frag) (C : Addr) (sp : Sp) (E : XK) : R2 := fun x y H Q => ∃ a dx fs, x = .ref a ∧ H a = some (.ins C dx fs) ∧ NotSub K C y H ∧ sp [x, y] H (fun z H' => ∃ b, z = .bl b ∧ Q z H') E
def rNeW (K : PySem.W.Frag) (C : Addr) (sp : Sp) (E : XK) : R2 := fun x y H Q => ∃ a dx fs, x = .ref a ∧ H a = some (.ins C dx fs) ∧ NotSub K C y H ∧ sp [x, y] H (fun z H' => ∃ b, z = .bl b ∧ Q (.bl (!b)) H') E
section
variable {X : Cx} {C : Addr} {sp : Sp} {n : Nat} {E : XK}
theorem op_eqW (h : HasEqW X.prog X.w X.K X.mg X.base n C sp) (hr : Room n X.A) (hx : Passes CX0 X E := by exact pass0) : OpR X (compareOp .Eq) (rEqW X.K C sp E) := by
  obtain ⟨f, fd, F, hs, hf, hb, _, _⟩ := h
  intro pins s σ H x y v u Q I rx ry h
  obtain ⟨a, dx, fs, rfl, ha, hy, hsp⟩ := h
  cases (show v = Value.ref a from rx)
  obtain ⟨mA, J, _⟩ := ins_get I.hok ha
  obtain ⟨od, J, _⟩ := J.look
  obtain ⟨m, hF⟩ := I.fr
  have key : ∀ tb, PySem.W.Looks (model X.prog X.w) s.heap (typeOf u) tb → PySem.W.notFirst X.K C tb = true → wpAny (model X.prog X.w) X.A (richCompare .Eq (.ref a) u) (EP X pins σ Q) X.xe s := fun tb L hn => by
    refine PySem.W.cmp_K (op := .Eq) (tb := tb) hr.units0 hF I.ok.mod.kin J L hn hs hf ?_
    refine wpAny_mono (run_fn (ds := []) (dvs := []) (us := [.ref a, u]) (vs := [.ref a, y]) F hr hb .nil hx I (.cons rfl (.cons ry .nil)) hsp) (fun w s' z => ?_) fun _ _ x => x
    obtain ⟨z', H', I', rz, b', ez, q⟩ := z
    subst ez
    cases (show w = Value.bool b' from rz)
    exact ⟨.bl b', H', I', rfl, q⟩
  show wpAny _ _ (richCompare .Eq _ _) _ _ _
  rcases hy with ⟨b, dy, gs, rfl, hb'⟩ | ⟨t, ty, hn⟩
  · cases (show u = Value.ref b from ry)
    obtain ⟨mB, J', _⟩ := ins_get I.hok hb'
    obtain ⟨od', J', _⟩ := J'.look
    exact key (.ref C) J'.type (by simp [PySem.W.notFirst])
  · obtain ⟨P, Z, p, _⟩ := kit_of I ry ty
    exact key t (Z.ty _ _ I.kIn p) hn
theorem op_neW (h : HasEqW X.prog X.w X.K X.mg X.base n C sp) (hr : Room (n + 1) X.A) (hx : Passes CX0 X E := by exact pass0) : OpR X (compareOp .NotEq) (rNeW X.K C sp E) := by
  obtain ⟨f, fd, F, hs, hf, hb, hne, hm⟩ := h
  intro pins s σ H x y v u Q I rx ry h
  obtain ⟨a, dx, fs, rfl, ha, hy, hsp⟩ := h
  cases (show v = Value.ref a from rx)
  obtain ⟨mA, J, _⟩ := ins_get I.hok ha
  obtain ⟨od, J, _⟩ := J.look
  obtain ⟨m, hF⟩ := I.fr
  have key : ∀ tb, PySem.W.Looks (model X.prog X.w) s.heap (typeOf u) tb → PySem.W.notFirst X.K C tb = true → wpAny (model X.prog X.w) X.A (richCompare .NotEq (.ref a) u) (EP X pins σ Q) X.xe s := fun tb L hn => by
    refine PySem.W.ne_K (tb := tb) hr.in1.units0 hF I.ok.mod.kin J L hn hne hm hs hf ?_
    have r2 : Vals [V.ref a, y] [Value.ref a, u] := .cons rfl (.cons ry .nil)
    have hl := F.len _ _ _ _ hsp
    refine wpAny_call (codeAny_mono (F.run X.A.in1 X.stack s H ⟨[.ref a, u], []⟩ [.ref a, u] [.ref a, y] _ E hr.in1 I.env0.in1 (by
      have := hb s [.ref a, u] I.kIn (by simpa using hl)
      simpa using this) r2 hsp) fun r s' hq => ?_)
    cases r with
    | error e => exact hx pins σ H s e s' I hq
    | ok fl =>
      cases fl with
      | ret w =>
        obtain ⟨z, H', I', rz, b', ez, q⟩ := I.after hq
        subst ez
        cases (show w = Value.bool b' from rz)
        exact ⟨b', rfl, .bl (!b'), H', I', rfl, q⟩
      | next => exact False.elim hq
      | brk => exact False.elim hq
      | cont => exact False.elim hq
  show wpAny _ _ (richCompare .NotEq _ _) _ _ _
  rcases hy with ⟨b, dy, gs, rfl, hb'⟩ | ⟨t, ty, hn⟩
  · cases (show u = Value.ref b from ry)
    obtain ⟨mB, J', _⟩ := ins_get I.hok hb'
    obtain ⟨od', J', _⟩ := J'.look
    exact key (.ref C) J'.type (by simp [PySem.W.notFirst])
  · obtain ⟨P, Z, p, _⟩ := kit_of I ry ty
    exact key t (Z.ty _ _ I.kIn p) hn
theorem op_eqWK {K : PySem.W.Frag} (e : X.K = K) (h : HasEqW X.prog X.w X.K X.mg X.base n C sp) (hr : Room n X.A) (hx : Passes CX0 X E := by exact pass0) : OpR X (compareOp .Eq) (rEqW K C sp E) := by subst e; exact op_eqW h hr hx
theorem op_neWK {K : PySem.W.Frag} (e : X.K = K) (h : HasEqW X.prog X.w X.K X.mg X.base n C sp) (hr : Room (n + 1) X.A) (hx : Passes CX0 X E := by exact pass0) : OpR X (compareOp .NotEq) (rNeW K C sp E) := by subst e; exact op_neW h hr hx
end
/-! ### a dict comprehension over a list that stays -/
theorem dc_list {K : PySem.W.Frag} {a : Addr} {xs : List V} {g : TG} {tt : TT} {tk tv : TE} {vs : List Nat} {σ : L2.St} {H1 : Hp} {D : Addr} {Qd : Hp → Prop} (Pv : Nat → Hp → Prop) (h0 : Pv 0 (upd H1 D (.dK []))) (hl : ∀ i H, i ≤ xs.length → Pv i H → SqL K H a xs)
    (hs : ∀ i x H, xs[i]? = some x → Pv i H → g x (wipe σ vs) H fun σ2 H2 => wipe σ2 vs = wipe σ vs ∧ tt σ2 H2 fun b H3 =>
      if b = true then tk σ2 H3 fun y H4 => tv σ2 H4 fun z H5 => ∃ kvs k, y = kV k ∧ H5 D = some (.dK kvs) ∧ kvs.length < sizeLine ∧ Pv (i + 1) (upd H5 D (.dK (putK kvs k z))) else Pv (i + 1) H3) (hd : ∀ H, Pv xs.length H → Qd H) :
    ∃ W : Nat → Nat → Hp → Prop, (∃ m, W 0 m (upd H1 D (.dK []))) ∧ ∀ i m H, W i m H →
      ((Itl K a).stop i H ∧ Qd H) ∨ ((Itl K a).go i H ∧ ∃ Nx : Hp → Prop, (∀ H', Nx H' → ∃ m', m' < m ∧ W (i + 1) m' H') ∧ ∀ x H', (Itl K a).yld i H x H' → g x (wipe σ vs) H' fun σ2 H2 => wipe σ2 vs = wipe σ vs ∧ tt σ2 H2 fun b H3 =>
        if b = true then tk σ2 H3 fun y H4 => tv σ2 H4 fun z H5 => ∃ kvs k, y = kV k ∧ H5 D = some (.dK kvs) ∧ kvs.length < sizeLine ∧ Nx (upd H5 D (.dK (putK kvs k z))) else Nx H3) := by
  refine ⟨fun i m H => m = xs.length - i ∧ i ≤ xs.length ∧ Pv i H, ⟨xs.length, by simp, Nat.zero_le _, h0⟩, ?_⟩
  rintro i m H ⟨rfl, hi, p⟩
  have q := hl i H hi p
  by_cases hlt : i < xs.length
  · refine .inr ⟨⟨xs, xs[i], q, by simp [hlt]⟩, Pv (i + 1), fun H' p' => ⟨xs.length - (i + 1), by omega, rfl, hlt, p'⟩, fun x H' y => ?_⟩
    obtain ⟨e, y⟩ := y
    subst e
    exact hs i x _ (y xs q) p
  · have e : i = xs.length := by omega
    subst e
    exact .inl ⟨⟨xs, q, Nat.le_refl _⟩, hd H p⟩
/-! ### levels as data -/
def lvD (b : Bool) : PyData := if b then .str "stack" else .str "queue"
theorem lvs_dp {K : PySem.W.Frag} {H : Hp} : ∀ ws : List Bool, DpAll K H (ws.map lvV) (ws.map lvD)
  | [] => .nil
  | true :: r => .cons (.str _) (lvs_dp r)
  | false :: r => .cons (.str _) (lvs_dp r)
theorem lvs_lay : ∀ ws : List Bool, PyData.canLayAll0 (ws.map lvD) = true
  | [] => rfl
  | b :: r => by
    show ((lvD b).canLay0 && PyData.canLayAll0 (r.map lvD)) = true
    rw [lvs_lay r]
    cases b <;> decide +kernel
theorem lvs_depth : ∀ ws : List Bool, PyData.depthAll (ws.map lvD) = 0
  | [] => rfl
  | b :: r => by
    show max (lvD b).depth (PyData.depthAll (r.map lvD)) = 0
    rw [lvs_depth r]
    cases b <;> rfl
theorem lvs_shaped (ws : List Bool) : SeqAt.shaped (.list (ws.map lvD)) = true := by
  have h1 : (PyData.list (ws.map lvD)).canLay0 = true := by
    show PyData.canLayAll0 _ = true
    exact lvs_lay ws
  have h2 : (PyData.list (ws.map lvD)).depth ≤ 64 := by
    show PyData.depthAll _ + 1 ≤ 64
    rw [lvs_depth ws]
    decide
  unfold SeqAt.shaped
  rw [h1, decide_eq_true h2]
  rfl
/-! ### rows of a snapshot, snapshots as data -/
abbrev RowP := Nat × Nat × Option Nat
def rowPV (r : RowP) : List V := [.int (r.1 : Nat), .int (r.2.1 : Nat), perV r.2.2]
def RpAt (H : Hp) : List Addr → List RowP → Prop
  | [], [] => True
  | t :: ts, r :: rs => H t = some (.tup (rowPV r)) ∧ RpAt H ts rs
  | _, _ => False
theorem RpAt.frame {H H' : Hp} (s : ∀ t xs, H t = some (.tup xs) → H' t = some (.tup xs)) : ∀ {ts : List Addr} {rs : List RowP}, RpAt H ts rs → RpAt H' ts rs
  | [], [], _ => trivial
  | _ :: _, _ :: _, h => ⟨s _ _ h.1, h.2.frame s⟩
  | [], _ :: _, h => h.elim
  | _ :: _, [], h => h.elim
theorem RpAt.same {H H' : Hp} (s : Same H H') {ts : List Addr} {rs : List RowP} (h : RpAt H ts rs) : RpAt H' ts rs := h.frame fun _ _ e => s _ _ e
theorem RpAt.len {H : Hp} : ∀ {ts : List Addr} {rs : List RowP}, RpAt H ts rs → ts.length = rs.length
  | [], [], _ => rfl
  | _ :: _, _ :: _, h => congrArg Nat.succ h.2.len
  | [], _ :: _, h => h.elim
  | _ :: _, [], h => h.elim
theorem RpAt.item {H : Hp} : ∀ {ts : List Addr} {rs : List RowP} {i : Nat} {x : V}, RpAt H ts rs → (ts.map V.ref)[i]? = some x → ∃ t r, x = .ref t ∧ rs[i]? = some r ∧ H t = some (.tup (rowPV r))
  | t :: ts, r :: rs, 0, x, h, e => ⟨t, r, (Option.some.inj e).symm, rfl, h.1⟩
  | t :: ts, r :: rs, i + 1, x, h, e => RpAt.item (i := i) h.2 e
  | [], [], _, _, _, e => by cases e
  | [], _ :: _, _, _, h, _ => h.elim
  | _ :: _, [], _, _, h, _ => h.elim
theorem RpAt.snoc {H : Hp} {t : Addr} {r : RowP} (e : H t = some (.tup (rowPV r))) : ∀ {ts : List Addr} {rs : List RowP}, RpAt H ts rs → RpAt H (ts ++ [t]) (rs ++ [r])
  | [], [], _ => ⟨e, trivial⟩
  | _ :: _, _ :: _, h => ⟨h.1, h.2.snoc e⟩
  | [], _ :: _, h => h.elim
  | _ :: _, [], h => h.elim
/-- a row that may stand in a snapshot -/
structure RowOk (t f : Nat) (r : RowP) : Prop where
  num : r.1 < f
  due : t < r.2.1
  per : ∀ k, r.2.2 = some k → 1 ≤ k
/-- a snapshot in the heap -/
structure SnapAt (K : PySem.W.Frag) (H : Hp) (u : Addr) (b : Nat) (ws : List Bool) (t f : Nat) (rs : List RowP) : Prop where
  tup : ∃ q R ts, H u = some (.tup [.int (b : Nat), .ref q, .int (t : Nat), .int (f : Nat), .ref R]) ∧ SqL K H q (ws.map lvV) ∧ SqL K H R (ts.map V.ref) ∧ RpAt H ts rs
theorem SnapAt.same {K : PySem.W.Frag} {H H' : Hp} {u : Addr} {b : Nat} {ws : List Bool} {t f : Nat} {rs : List RowP} (s : Same H H') (h : SnapAt K H u b ws t f rs) : SnapAt K H' u b ws t f rs := by
  obtain ⟨q, R, ts, h1, h2, h3, h4⟩ := h.tup
  exact ⟨⟨q, R, ts, s _ _ h1, s.seq h2, s.seq h3, h4.same s⟩⟩
structure SnapOk (b : Nat) (ws : List Bool) (t f : Nat) (rs : List RowP) : Prop where
  b2 : 2 ≤ b
  b64 : b ≤ 64
  ne : ws ≠ []
  l60 : ws.length ≤ 60
  rows : ∀ r ∈ rs, RowOk t f r
  nd : (rs.map (·.1)).Nodup
  few : rs.length ≤ 1000
def perD : Option Nat → PyData
  | none => .none
  | some k => .int (k : Nat)
def rowPD (r : RowP) : PyData := .tuple [.int (r.1 : Nat), .int (r.2.1 : Nat), perD r.2.2]
def snapD (b : Nat) (ws : List Bool) (t f : Nat) (rs : List RowP) : PyData := .tuple [.int (b : Nat), .list (ws.map lvD), .int (t : Nat), .int (f : Nat), .list (rs.map rowPD)]
theorem per_dp {K : PySem.W.Frag} {H : Hp} : ∀ o : Option Nat, Dp K H (perV o) (perD o)
  | none => .non
  | some _ => .int _
theorem rowp_dp {K : PySem.W.Frag} {H : Hp} : ∀ {ts : List Addr} {rs : List RowP}, RpAt H ts rs → DpAll K H (ts.map V.ref) (rs.map rowPD)
  | [], [], _ => .nil
  | _ :: _, r :: _, h => .cons (.tup (SqT.of h.1) (.cons (.int _) (.cons (.int _) (.cons (per_dp r.2.2) .nil)))) (rowp_dp h.2)
  | [], _ :: _, h => h.elim
  | _ :: _, [], h => h.elim
theorem snap_dp {K : PySem.W.Frag} {H : Hp} {u : Addr} {b : Nat} {ws : List Bool} {t f : Nat} {rs : List RowP} (h : SnapAt K H u b ws t f rs) : Dp K H (.ref u) (snapD b ws t f rs) := by
  obtain ⟨q, R, ts, h1, h2, h3, h4⟩ := h.tup
  exact .tup (SqT.of h1) (.cons (.int _) (.cons (.lst h2 (lvs_dp ws)) (.cons (.int _) (.cons (.int _) (.cons (.lst h3 (rowp_dp h4)) .nil)))))
theorem rowp_lay : ∀ rs : List RowP, PyData.canLayAll0 (rs.map rowPD) = true
  | [] => rfl
  | r :: rs => by
    show ((rowPD r).canLay0 && PyData.canLayAll0 (rs.map rowPD)) = true
    rw [rowp_lay rs]
    obtain ⟨a, c, o⟩ := r
    cases o <;> rfl
theorem rowp_depth : ∀ rs : List RowP, PyData.depthAll (rs.map rowPD) ≤ 1
  | [] => by decide
  | r :: rs => by
    show max (rowPD r).depth (PyData.depthAll (rs.map rowPD)) ≤ 1
    have h1 := rowp_depth rs
    have h2 : (rowPD r).depth = 1 := by
      obtain ⟨a, c, o⟩ := r
      cases o <;> rfl
    omega
theorem snap_lay (b : Nat) (ws : List Bool) (t f : Nat) (rs : List RowP) : (snapD b ws t f rs).canLay0 = true := by
  simp [snapD, PyData.canLay0, PyData.canLayAll0, lvs_lay, rowp_lay]
theorem snap_depth (b : Nat) (ws : List Bool) (t f : Nat) (rs : List RowP) : (snapD b ws t f rs).depth ≤ 64 := by
  have h1 : (PyData.list (ws.map lvD)).depth = 1 := by
    show PyData.depthAll _ + 1 = 1
    rw [lvs_depth ws]
  have h2 : (PyData.list (rs.map rowPD)).depth ≤ 2 := by
    show PyData.depthAll _ + 1 ≤ 2
    have := rowp_depth rs
    omega
  show max 0 (max (PyData.list (ws.map lvD)).depth (max 0 (max 0 (max (PyData.list (rs.map rowPD)).depth 0)))) + 1 ≤ 64
  omega
theorem snap_shaped (b : Nat) (ws : List Bool) (t f : Nat) (rs : List RowP) : SeqAt.shaped (snapD b ws t f rs) = true := by
  unfold SeqAt.shaped
  rw [snap_lay, decide_eq_true (snap_depth b ws t f rs)]
  rfl
/-! ### good snapshots -/
section
variable {P : Program} {w : World} {K : PySem.W.Frag} {mg : Str → Option Value} {base : Heap}
theorem tyx_tup1 {K : PySem.W.Frag} {H : Hp} {a : Addr} {xs : List V} (h : H a = some (.tup xs)) : TyX K H (.ref a) (.type "tuple") := .base (.tup h)
def spIsRow : Sp := fun vs H Q _ => ∃ (u : Addr) (t f : Nat) (r : RowP), vs = [.ref u, .int (t : Nat), .int (f : Nat)] ∧ H u = some (.tup (rowPV r)) ∧ RowOk t f r ∧ Q (.bl true) H
theorem ok_is_row {f : Addr} {fd : FuncData} (F : Fun K "is_row" "is_row" s_is_row f fd) (T : Tx K mg) (h0 : Has P w K mg base 1 "is_integer" ["given"] [] spIsInt) (h1 : Has P w K mg base 2 "is_tick" ["given", "least"] [] spIsTick) (h2 : Has P w K mg base 2 "is_period" ["given"] [] spIsPeriod) : FnOk P w K mg base CX0 3 f fd ["given", "now", "following"] spIsRow := by
  obtain ⟨f_is_integer, fd_is_integer, ds_is_integer, G_is_integer, m_is_integer, k_is_integer, b_is_integer, v_is_integer⟩ := h0
  obtain ⟨f_is_tick, fd_is_tick, ds_is_tick, G_is_tick, m_is_tick, k_is_tick, b_is_tick, v_is_tick⟩ := h1
  obtain ⟨f_is_period, fd_is_period, ds_is_period, G_is_period, m_is_period, k_is_period, b_is_period, v_is_period⟩ := h2
  refine F.ok sc_is_row (fun vs H Q E h => ?_) (fun cdv A outer s H vs Q E hr h => ?_)
  · obtain ⟨u, t, f, r, rfl, _⟩ := h
    rfl
  · obtain ⟨u, t, f, r, rfl, hu, ok, q⟩ := h
    refine ⟨_, (pss_cons (ps_if (PW.pt (pw_or (pt_not (pt_val (pe_callB (isiK (K := K) rfl) (by rfl) T.b_isinstance (by decide +kernel) (pa_cons (pv 0) (pa_cons (pe_bltn (v := .ty "tuple") (u := .type "tuple") (by rfl) T.b_tuple (by decide +kernel) rfl) pa_nil))))) (pw_or1 (pt_cmpR op_ne (pe_callB (lenK (K := K) rfl) (by rfl) T.b_len PySem.boot_len (pa_cons (pv 0) pa_nil)) pe_int (nomark _)))))
        (pss_one (ps_ret pe_bl))
        pss_nil)
      (pss_cons (ps_asg (pv 0) (pg_tupK (K := K) (n := 3) rfl rfl (pgs_cons (pg_name (i := 3) sc_is_row.nd rfl (.inl rfl)) (pgs_cons (pg_name (i := 4) sc_is_row.nd rfl (.inl rfl)) (pgs_cons (pg_name (i := 5) sc_is_row.nd rfl (.inl rfl)) pgs_nil)))))
      (pss_cons (ps_if (PW.pt (pw_or (pt_not (pt_val (pe_call G_is_integer (hr.mono (by decide)) (by rfl) m_is_integer k_is_integer b_is_integer v_is_integer pass0 (pa_cons (pv 3) pa_nil)))) (pw_or1 (pt_not (pt_chain op_le op_lt pe_int (pv 3) (pv 2))))))
        (pss_one (ps_ret pe_bl))
        pss_nil)
      (pss_one (ps_ret (pe_and (pe_call G_is_tick hr (by rfl) m_is_tick k_is_tick b_is_tick v_is_tick pass0 (pa_cons (pv 4) (pa_cons (pe_op op_add (pv 1) pe_int) pa_nil))) (pe_one (pe_or (pe_cmpR op_isN (pv 5) pe_non (nomark _)) (pe_one (pe_call G_is_period hr (by rfl) m_is_period k_is_period b_is_period v_is_period pass0 (pa_cons (pv 5) pa_nil))))))))))), ?_⟩
    refine ⟨.ref u, rfl, _, _, _, _, true, rfl, .ty "tuple", tyx_tup1 hu, kit_ty (by decide +kernel), true, rfl, iteF ?_⟩
    refine ⟨.ref u, rfl, u, _, rfl, .inr (.inl (.inl hu)), rfl, false, nF rfl, iteF ?_⟩
    refine ⟨.ref u, rfl, u, _, rfl, .inl (.inl hu), rfl, _, _, rfl, _, _, rfl, _, _, rfl, rfl, ?_⟩
    obtain ⟨n, d, o⟩ := r
    obtain ⟨h1, h2, h3⟩ := ok
    refine ⟨_, rfl, (n : Nat), rfl, true, rfl, iteF ?_⟩
    refine ⟨.int (n : Nat), rfl, 0, (n : Nat), rfl, rfl, true, dT (by omega), iteT ?_⟩
    refine ⟨.int (f : Nat), rfl, (n : Nat), (f : Nat), rfl, rfl, true, dT (by exact Int.ofNat_lt.mpr h1), iteF ?_⟩
    refine ⟨_, rfl, _, rfl, (t : Nat), 1, rfl, rfl, (d : Nat), _, rfl, (by have h2' : t < d := h2; omega), true, rfl, iteT ?_⟩
    cases o with
    | none => exact ⟨_, rfl, rfl, true, rfl, iteT q⟩
    | some k =>
      refine ⟨_, rfl, rfl, false, rfl, iteF ?_⟩
      exact ⟨.int (k : Nat), rfl, (k : Nat), rfl, (by have := h3 k rfl; omega), q⟩
def spIsSnap (K : PySem.W.Frag) : Sp := fun vs H Q _ => ∃ (u : Addr) (b : Nat) (ws : List Bool) (t f : Nat) (rs : List RowP), vs = [.ref u] ∧ SnapAt K H u b ws t f rs ∧ SnapOk b ws t f rs ∧ ∀ H', Same H H' → Q (.bl true) H'
theorem ok_is_snapshot {f : Addr} {fd : FuncData} (F : Fun K "is_snapshot" "is_snapshot" s_is_snapshot f fd) (T : Tx K mg) (h0 : Has P w K mg base 1 "is_integer" ["given"] [] spIsInt) (h1 : Has P w K mg base 2 "is_tick" ["given", "least"] [.int 0] spIsTick) (h2 : Has P w K mg base 2 "is_base" ["given"] [] spIsBase)
    (h3 : Has P w K mg base 3 "are_levels" ["given"] [] (spAreLevels K)) (h4 : Has P w K mg base 3 "is_row" ["given", "now", "following"] [] spIsRow) : FnOk P w K mg base CX0 4 f fd ["given"] (spIsSnap K) := by
  obtain ⟨f_is_integer, fd_is_integer, ds_is_integer, G_is_integer, m_is_integer, k_is_integer, b_is_integer, v_is_integer⟩ := h0
  obtain ⟨f_is_tick1, fd_is_tick1, ds_is_tick1, G_is_tick1, m_is_tick1, k_is_tick1, b_is_tick1, v_is_tick1⟩ := h1
  obtain ⟨f_is_base, fd_is_base, ds_is_base, G_is_base, m_is_base, k_is_base, b_is_base, v_is_base⟩ := h2
  obtain ⟨f_are_levels, fd_are_levels, ds_are_levels, G_are_levels, m_are_levels, k_are_levels, b_are_levels, v_are_levels⟩ := h3
  obtain ⟨f_is_row, fd_is_row, ds_is_row, G_is_row, m_is_row, k_is_row, b_is_row, v_is_row⟩ := h4
  refine F.ok sc_is_snapshot (fun vs H Q E h => ?_) (fun cdv A outer s H vs Q E hr h => ?_)
  · obtain ⟨u, b, ws, t, f, rs, rfl, _⟩ := h
    rfl
  · obtain ⟨u, b, ws, t, f, rs, rfl, hS, ok, c⟩ := h
    obtain ⟨q, R, ts, hu, hq, hR, hP⟩ := hS.tup
    obtain ⟨k1, k2, k3, k4, k5, k6, k7⟩ := ok
    have hlen := hP.len
    refine ⟨_, (pss_cons (ps_if (PW.pt (pw_or (pt_not (pt_val (pe_callB (isiK (K := K) rfl) (by rfl) T.b_isinstance (by decide +kernel) (pa_cons (pv 0) (pa_cons (pe_bltn (v := .ty "tuple") (u := .type "tuple") (by rfl) T.b_tuple (by decide +kernel) rfl) pa_nil))))) (pw_or1 (pt_cmpR op_ne (pe_callB (lenK (K := K) rfl) (by rfl) T.b_len PySem.boot_len (pa_cons (pv 0) pa_nil)) pe_int (nomark _)))))
        (pss_one (ps_ret pe_bl))
        pss_nil)
      (pss_cons (ps_asg (pv 0) (pg_tupK (K := K) (n := 5) rfl rfl (pgs_cons (pg_name (i := 1) sc_is_snapshot.nd rfl (.inl rfl)) (pgs_cons (pg_name (i := 2) sc_is_snapshot.nd rfl (.inl rfl)) (pgs_cons (pg_name (i := 3) sc_is_snapshot.nd rfl (.inr rfl)) (pgs_cons (pg_name (i := 4) sc_is_snapshot.nd rfl (.inr rfl)) (pgs_cons (pg_name (i := 5) sc_is_snapshot.nd rfl (.inl rfl)) pgs_nil)))))))
      (pss_cons (ps_if (PW.pt (pw_or (pt_not (pt_val (pe_call G_is_base (hr.mono (by decide)) (by rfl) m_is_base k_is_base b_is_base v_is_base pass0 (pa_cons (pv 1) pa_nil)))) (pw_or (pt_not (pt_val (pe_call G_are_levels hr (by rfl) m_are_levels k_are_levels b_are_levels v_are_levels pass0 (pa_cons (pv 2) pa_nil)))) (pw_or1 (pt_not (pt_val (pe_call G_is_tick1 (hr.mono (by decide)) (by rfl) m_is_tick1 k_is_tick1 b_is_tick1 v_is_tick1 pass0 (pa_cons (pv 3) pa_nil))))))))
        (pss_one (ps_ret pe_bl))
        pss_nil)
      (pss_cons (ps_if (PW.pt (pw_or (pt_not (pt_val (pe_call G_is_integer (hr.mono (by decide)) (by rfl) m_is_integer k_is_integer b_is_integer v_is_integer pass0 (pa_cons (pv 4) pa_nil)))) (pw_or (pt_cmpR op_lt (pv 4) pe_int (nomark _)) (pw_or1 (pt_not (pt_val (pe_callB (isiK (K := K) rfl) (by rfl) T.b_isinstance (by decide +kernel) (pa_cons (pv 5) (pa_cons (pe_bltn (v := .ty "list") (u := .type "list") (by rfl) T.b_list (by decide +kernel) rfl) pa_nil)))))))))
        (pss_one (ps_ret pe_bl))
        pss_nil)
      (pss_cons (ps_if (pt_not (pt_val (pe_callB (allK (K := K) rfl rfl) (by rfl) T.b_all (by decide +kernel) (pa_cons (pe_lc (own := [("row", 6)]) (g := gName 6) (tt := tYes) rfl sc_is_snapshot.nd (pi_list (pv 5)) (blkOk_by (own := [("row", 6)]) (N := N_is_snapshot) (sc := defScope s_is_snapshot) (by decide +kernel)) (fun _ _ _ _ _ => (pg_name (i := 6) sc_is_snapshot.nd rfl (.inl rfl))) (fun _ _ _ _ _ => pts_nil) (fun _ _ _ _ _ => (pe_call G_is_row hr (by rfl) m_is_row k_is_row b_is_row v_is_row pass0 (pa_cons (pv 6) (pa_cons (pv 3) (pa_cons (pv 4) pa_nil)))))) pa_nil))))
        (pss_one (ps_ret pe_bl))
        pss_nil)
      (pss_one (ps_ret (pe_cmpR op_eq (RZ.pe_lenSetI (by rfl) T.b_len (by rfl) T.b_set (pe_lc (own := [("number", 7), ("due", 8), ("period", 9)]) (g := _) (tt := tYes) rfl sc_is_snapshot.nd (pi_list (pv 5)) (blkOk_by (own := [("number", 7), ("due", 8), ("period", 9)]) (N := N_is_snapshot) (sc := defScope s_is_snapshot) (by decide +kernel)) (fun _ _ _ _ _ => (pg_tupK (K := K) (n := 3) rfl rfl (pgs_cons (pg_name (i := 7) sc_is_snapshot.nd rfl (.inl rfl)) (pgs_cons (pg_name (i := 8) sc_is_snapshot.nd rfl (.inl rfl)) (pgs_cons (pg_name (i := 9) sc_is_snapshot.nd rfl (.inl rfl)) pgs_nil))))) (fun _ _ _ _ _ => pts_nil) (fun _ _ _ _ _ => (pv 7)))) (pe_callB (lenK (K := K) rfl) (by rfl) T.b_len PySem.boot_len (pa_cons (pv 5) pa_nil)) (nomark _))))))))), ?_⟩
    refine ⟨.ref u, rfl, _, _, _, _, true, rfl, .ty "tuple", tyx_tup1 hu, kit_ty (by decide +kernel), true, rfl, iteF ?_⟩
    refine ⟨.ref u, rfl, u, _, rfl, .inr (.inl (.inl hu)), rfl, false, nF rfl, iteF ?_⟩
    refine ⟨.ref u, rfl, u, _, rfl, .inl (.inl hu), rfl, _, _, rfl, _, _, rfl, _, _, rfl, _, _, rfl, _, _, rfl, rfl, ?_⟩
    refine ⟨_, rfl, (b : Nat), rfl, by omega, by omega, true, rfl, iteF ?_⟩
    refine ⟨_, rfl, q, ws, rfl, hq, k3, k4, fun H1 s1 => ?_⟩
    refine ⟨true, rfl, iteF ?_⟩
    refine ⟨_, rfl, (t : Nat), 0, rfl, by omega, true, rfl, iteF ?_⟩
    refine ⟨_, rfl, (f : Nat), rfl, true, rfl, iteF ?_⟩
    refine ⟨.int (f : Nat), rfl, (f : Nat), 0, rfl, rfl, false, dF (by omega), iteF ?_⟩
    have hR1 := s1.seq hR
    refine ⟨.ref R, rfl, _, _, _, _, true, rfl, .ty "list", tyx_list hR1, kit_ty (by decide +kernel), true, rfl, iteF ?_⟩
    refine ⟨.ref R, rfl, R, rfl, ⟨_, hR1⟩, fun D hD => lc_list (K := K) (a := R) (xs := ts.map V.ref) (fun i H' => Same H1 H' ∧ H' D = some (.lst ((List.replicate i true).map V.bl)))
      ⟨same_upd hD, upd_same⟩ (fun i H' _ ⟨sm, _⟩ => sm.seq hR1) ?_ ?_⟩
    · rintro i x H' hx ⟨sm, eD⟩
      obtain ⟨a, r, rfl, hr, ha⟩ := hP.item hx
      have hi : i < rs.length := (List.getElem?_eq_some_iff.mp hr).1
      refine ⟨rfl, yesT (iteT ?_)⟩
      refine ⟨_, rfl, _, rfl, _, rfl, a, t, f, r, rfl, sm _ _ (s1 _ _ ha), k5 r (List.mem_of_getElem? hr), _, eD, ?_, fun c o e => ?_, ?_⟩
      · rw [List.length_map, List.length_replicate]
        exact sizeLine_ge (by omega)
      · rw [upd_ne (ne_of_none e hD)]
        exact sm _ _ e
      · rw [upd_same, List.replicate_succ', List.map_append]
        rfl
    · rintro H2 ⟨s2, eD⟩
      refine ⟨D, _, rfl, SqL.of eD, ?_⟩
      have ea : (List.replicate (ts.map V.ref).length true).all id = true := by
        rw [List.all_replicate]
        simp
      rw [ea]
      have hR2 := s2.seq hR1
      refine ⟨true, rfl, iteF ?_⟩
      refine ⟨.ref R, rfl, R, rfl, ⟨_, hR2⟩, fun D2 hD2 => lc_list (K := K) (a := R) (xs := ts.map V.ref) (fun i H3 => Same H2 H3 ∧ H3 D2 = some (.lst ((rs.take i).map fun r => V.int (r.1 : Nat)))) ⟨same_upd hD2, upd_same⟩ (fun i H3 _ ⟨sm, _⟩ => sm.seq hR2) ?_ ?_⟩
      · rintro i x H3 hx ⟨sm, eD2⟩
        obtain ⟨a, r, rfl, hr, ha⟩ := hP.item hx
        refine ⟨a, _, rfl, .inl (.inl (sm _ _ (s2 _ _ (s1 _ _ ha)))), rfl, _, _, rfl, _, _, rfl, _, _, rfl, rfl, rfl, yesT (iteT ?_)⟩
        refine ⟨_, rfl, _, eD2, ?_, fun c o e => ?_, ?_⟩
        · rw [List.length_map, List.length_take]
          exact sizeLine_ge (by omega)
        · rw [upd_ne (ne_of_none e hD2)]
          exact sm _ _ e
        · rw [upd_same, List.take_add_one, hr, List.map_append]
          rfl
      · rintro H3 ⟨s3, eD2⟩
        rw [List.length_map, hlen, List.take_length] at eD2
        have e1 : rs.map (fun r => V.int (r.1 : Nat)) = (rs.map fun r => ((r.1 : Nat) : Int)).map V.int := by
          rw [List.map_map]
          rfl
        rw [e1] at eD2
        have nd : (rs.map fun r => ((r.1 : Nat) : Int)).Nodup := by
          have z : (rs.map (·.1)).Pairwise (· ≠ ·) := k6
          rw [List.pairwise_map] at z
          show (rs.map fun r => ((r.1 : Nat) : Int)).Pairwise (· ≠ ·)
          rw [List.pairwise_map]
          exact z.imp fun h e => h (Int.ofNat.inj e)
        refine ⟨D2, _, rfl, SqL.of eD2, nd, by rw [List.length_map]; omega, .ref R, rfl, R, _, rfl, .inl (s3.seq hR2), ?_⟩
        have el : (V.bl (decide (V.int (((rs.map fun r => ((r.1 : Nat) : Int)).length : Nat) : Int) = V.int (((ts.map V.ref).length : Nat) : Int)))) = V.bl true := dT (by rw [List.length_map, List.length_map, hlen])
        refine ⟨rfl, ?_⟩
        show Q (V.bl (decide (V.int (((rs.map fun r => ((r.1 : Nat) : Int)).length : Nat) : Int) = V.int (((ts.map V.ref).length : Nat) : Int)))) H3
        rw [el]
        exact c H3 (s1.trans (s2.trans s3))
end
/-! ### a wheel made of a snapshot -/
section
variable {P : Program} {w : World} {K : PySem.W.Frag} {mg : Str → Option Value} {base : Heap}
def rowT (t : Nat) (r : RowP) : Tm := ⟨r.1, r.2.1, r.2.2, t⟩
def spRestored (C : Addr) (K : PySem.W.Frag) : Sp := fun vs H Q _ => ∃ (u : Addr) (b : Nat) (ws : List Bool) (t f : Nat) (rs : List RowP), vs = [.ref u] ∧ SnapAt K H u b ws t f rs ∧ SnapOk b ws t f rs ∧
  ∀ H' p q l, Same H H' → H p = none → H q = none → H l = none → WheelAt C H' p q l ⟨b, trimW ws, t, f, rs.map (rowT t)⟩ → Q (.ref p) H'
theorem ok_restored {f C : Addr} {fd : FuncData} (F : Fun K "restored" "restored" s_restored f fd) (TW : TxW K mg C) (hI : HasInit P w K mg base 5 C) (h1 : Has P w K mg base 4 "is_snapshot" ["given"] [] (spIsSnap K)) : FnOk P w K mg base CX0 7 f fd ["snapshot"] (spRestored C K) := by
  obtain ⟨fi, fdi, M_Wheel, G_Wheel_init, b_Wheel_init⟩ := hI
  have c_Wheel := TW.mgC
  have cl_Wheel := TW.cl
  obtain ⟨f_is_snapshot, fd_is_snapshot, ds_is_snapshot, G_is_snapshot, m_is_snapshot, k_is_snapshot, b_is_snapshot, v_is_snapshot⟩ := h1
  refine F.ok sc_restored (fun vs H Q E h => ?_) (fun cdv A outer s H vs Q E hr h => ?_)
  · obtain ⟨u, b, ws, t, f, rs, rfl, _⟩ := h
    rfl
  · obtain ⟨u, b, ws, t, f, rs, rfl, hS, ok, c⟩ := h
    refine ⟨_, (pss_cons (ps_if (pt_not (pt_val (pe_call G_is_snapshot (hr.mono (by decide)) (by rfl) m_is_snapshot k_is_snapshot b_is_snapshot v_is_snapshot pass0 (pa_cons (pv 0) pa_nil))))
        (pss_one ps_never)
        pss_nil)
      (pss_cons (ps_asg (pv 0) (pg_tupK (K := K) (n := 5) rfl rfl (pgs_cons (pg_name (i := 1) sc_restored.nd rfl (.inl rfl)) (pgs_cons (pg_name (i := 2) sc_restored.nd rfl (.inl rfl)) (pgs_cons (pg_name (i := 3) sc_restored.nd rfl (.inr rfl)) (pgs_cons (pg_name (i := 4) sc_restored.nd rfl (.inl rfl)) (pgs_cons (pg_name (i := 5) sc_restored.nd rfl (.inl rfl)) pgs_nil)))))))
      (pss_cons (ps_set (i := 6) sc_restored.nd rfl (.inl rfl) (pe_makeK M_Wheel G_Wheel_init hr (by rfl) c_Wheel b_Wheel_init pass0 (pa_cons (pv 1) (pa_cons (pv 2) pa_nil)) (pk_cons (pv 3) pk_nil)))
      (pss_cons (ps_fld (pv 6) (pv 4) rfl)
      (pss_cons (ps_fld (pv 6) (pe_dc (own := [("number", 7), ("due", 8), ("period", 9)]) (g := _) (tt := tYes) rfl sc_restored.nd (pi_list (pv 5)) (blkOk_by (own := [("number", 7), ("due", 8), ("period", 9)]) (N := N_restored) (sc := defScope s_restored) (by decide +kernel)) (fun _ _ _ _ _ => (pg_tupK (K := K) (n := 3) rfl rfl (pgs_cons (pg_name (i := 7) sc_restored.nd rfl (.inl rfl)) (pgs_cons (pg_name (i := 8) sc_restored.nd rfl (.inl rfl)) (pgs_cons (pg_name (i := 9) sc_restored.nd rfl (.inl rfl)) pgs_nil))))) (fun _ _ _ _ _ => pts_nil) (fun _ _ _ _ _ => (pv 7)) (fun _ _ _ _ _ => (pe_tup (pa_cons (pv 8) (pa_cons (pv 9) (pa_cons (pv 3) pa_nil)))))) rfl)
      (pss_one (ps_ret (pv 6)))))))), ?_⟩
    refine ⟨_, rfl, u, b, ws, t, f, rs, rfl, hS, ok, fun H1 s1 => ⟨true, rfl, iteF ?_⟩⟩
    obtain ⟨q0, R, ts, hu, hq, hR, hP⟩ := (hS.same s1).tup
    obtain ⟨k1, k2, k3, k4, k5, k6, k7⟩ := ok
    have hlen := hP.len
    refine ⟨.ref u, rfl, u, _, rfl, .inl (.inl hu), rfl, _, _, rfl, _, _, rfl, _, _, rfl, _, _, rfl, _, _, rfl, rfl, ?_⟩
    refine ⟨_, rfl, _, rfl, _, rfl, rfl, rfl, fun p dx hpn hdx0 nex => ?_⟩
    have u0 : Same H1 (upd (upd H1 dx (.own p)) p (.ins C dx [])) := fun c o e => by
      rw [upd_ne (ne_of_none e hpn), upd_ne (ne_of_none e hdx0)]
      exact e
    refine ⟨p, dx, q0, b, t, ws, rfl, upd_same, u0.seq hq, k1, k2, k3, k4, fun H2 q l kp hq1 hl1 hw1 => ⟨rfl, ?_⟩⟩
    have a1 : Same H1 H2 := fun c o e => kp _ _ (ne_of_none e hpn) (u0 _ _ e)
    have hq0 := u0.free hq1
    have hl0 := u0.free hl1
    obtain ⟨dx1, hp1⟩ := hw1.ins
    obtain ⟨kv0, hlv, _⟩ := hw1.live
    have nqp : q ≠ p := ne_of hw1.words hp1 (by intro z; cases z)
    refine ⟨_, rfl, _, rfl, p, C, dx1, _, rfl, hp1, TW.cl, TW.nF, by simp [wfl], ?_⟩
    rw [wf_pf]
    have s2 : Same H1 (upd H2 p (.ins C dx1 (wfl b q t f l))) := fun c o e => by
      rw [upd_ne (ne_of_none e hpn)]
      exact a1 _ _ e
    have hp2 := upd_same (H := H2) (a := p) (o := .ins C dx1 (wfl b q t f l))
    have hw2 : (upd H2 p (.ins C dx1 (wfl b q t f l))) q = some (.lst ((trimW ws).map lvV)) := by
      rw [upd_ne nqp]
      exact hw1.words
    generalize upd H2 p (.ins C dx1 (wfl b q t f l)) = H3 at s2 hp2 hw2 ⊢
    have hR3 := s2.seq hR
    refine ⟨.ref R, rfl, R, rfl, ⟨_, hR3⟩, fun D hD => dc_list (K := K) (a := R) (xs := ts.map V.ref) (fun i H' => Same H3 H' ∧ ∃ kvs, H' D = some (.dK kvs) ∧ LiveK H' kvs ((rs.take i).map (rowT t))) ⟨same_upd hD, [], upd_same, trivial⟩ (fun i H' _ ⟨sm, _⟩ => sm.seq hR3) ?_ ?_⟩
    · rintro i x H' hx ⟨sm, kvs, eD, L⟩
      obtain ⟨a, r, rfl, hr, ha⟩ := hP.item hx
      have hi : i < rs.length := (List.getElem?_eq_some_iff.mp hr).1
      have hL := L.len
      rw [List.length_map, List.length_take] at hL
      refine ⟨a, _, rfl, .inl (.inl (sm _ _ (s2 _ _ ha))), rfl, _, _, rfl, _, _, rfl, _, _, rfl, rfl, rfl, yesT (iteT ?_)⟩
      refine ⟨_, rfl, _, rfl, _, rfl, _, rfl, by simp [sizeLine_eq], fun v hv => ?_⟩
      have sv := same_upd (o := .tup (tmV (rowT t r))) hv
      have eD2 := sv _ _ eD
      have L2' := L.same sv
      have hno : ∀ m ∈ (rs.take i).map (rowT t), m.num ≠ r.1 := fun m hm e => by
        obtain ⟨r', hr', rfl⟩ := List.mem_map.mp hm
        obtain ⟨j, hj⟩ := List.getElem?_of_mem hr'
        rw [List.getElem?_take] at hj
        split at hj
        · rename_i hlt
          have z1 : (rs.map (·.1))[j]? = some r.1 := by
            rw [List.getElem?_map, hj]
            exact congrArg some e
          have z2 : (rs.map (·.1))[i]? = some r.1 := by
            rw [List.getElem?_map, hr]
            rfl
          have z := (List.getElem?_inj (List.getElem?_eq_some_iff.mp z1).1 k6).mp (z1.trans z2.symm)
          omega
        · cases hj
      have hvn := L2'.val_not hno
      refine ⟨kvs, Sum.inl (r.1 : Int), rfl, eD2, by rw [hL]; exact sizeLine_ge (by omega), fun c o e => ?_, _, upd_same, ?_⟩
      · rw [upd_ne (ne_of_none e hD)]
        exact sv _ _ (sm _ _ e)
      · rw [putK_new _ hvn, List.take_add_one, hr, Option.toList_some, List.map_append]
        refine LiveK.upd eD2 (fun xs z => by cases z) (L2'.snoc (m := rowT t r) rfl ?_)
        exact upd_same
    · rintro H4 ⟨s3, kvs, eD, L⟩
      rw [List.length_map, hlen, List.take_length] at L
      have hp4 := s3 _ _ hp2
      refine ⟨_, rfl, p, C, dx1, _, rfl, hp4, TW.cl, TW.nL, by simp [wfl], ?_⟩
      rw [wf_pl]
      have nDp : D ≠ p := ne_of eD hp4 (by intro z; cases z)
      have s4 : Same H1 (upd H4 p (.ins C dx1 (wfl b q t f D))) := fun c o e => by
        rw [upd_ne (ne_of_none e hpn)]
        exact s3 _ _ (s2 _ _ e)
      refine ⟨_, rfl, c _ p q D (s1.trans s4) (s1.free hpn) (s1.free hq0) (s1.free (s2.free hD)) ⟨⟨dx1, upd_same⟩, ?_, ⟨kvs, ?_, ?_⟩⟩⟩
      · rw [upd_ne nqp]
        exact s3 _ _ hw2
      · rw [upd_ne nDp]
        exact eD
      · exact L.frame fun t' m e => by
          rw [upd_ne (ne_of e hp4 (by intro z; cases z))]
          exact e
end
/-! ### snapshots -/
section
variable {P : Program} {w : World} {K : PySem.W.Frag} {mg : Str → Option Value} {base : Heap}
theorem nm_restoring {b : Nat} {q : Addr} {t f : Nat} {l : Addr} : (wfl b q t f l).lookup ("restoring" : Str) = none := wf_no (by decide +kernel) (by decide +kernel) (by decide +kernel) (by decide +kernel) (by decide +kernel)
def rowOf (m : Tm) : RowP := (m.num, m.due, m.per)
def spSnapshot (C : Addr) : Sp := fun vs H Q _ => ∃ (p q l : Addr) (W : WS), vs = [.ref p] ∧ WheelAt C H p q l W ∧ WOk W ∧
  ∀ H' u q' R ts cs, Same H H' → H u = none → H q' = none → H R = none → H' u = some (.tup [.int (W.b : Nat), .ref q', .int (W.tick : Nat), .int (W.fol : Nat), .ref R]) → H' q' = some (.lst (W.ws.map lvV)) → H' R = some (.lst (ts.map V.ref)) →
    RpAt H' ts ((toldT W.b W.ws W.tick W.live (cs.map (·.1))).map rowOf) → IsLists W.b W.ws W.tick W.live cs → Q (.ref u) H'
theorem ok_snapshot {f C : Addr} {fd : FuncData} (F : Fun K "snapshot" "Wheel.snapshot" s_Wheel_snapshot f fd) (T : Tx K mg) (TW : TxW K mg C) (m1 : HasM P w K mg base 6 C "restoring" ["self"] [] (spRestoring C)) : FnOk P w K mg base CX0 7 f fd ["self"] (spSnapshot C) := by
  have cl_Wheel := TW.cl
  obtain ⟨g1, gd1, gs1, G_Wheel_restoring, M_Wheel_restoring, b_Wheel_restoring, v_Wheel_restoring⟩ := m1
  refine F.ok sc_Wheel_snapshot (fun vs H Q E h => ?_) (fun cdv A outer s H vs Q E hr h => ?_)
  · obtain ⟨p, q, l, W, rfl, _⟩ := h
    rfl
  · obtain ⟨p, q, l, W, rfl, hw, ok, c⟩ := h
    have hu := hu_of hr
    obtain ⟨dx, hp⟩ := hw.ins
    refine ⟨_, (pss_cons (ps_setLc (i := 1) (own := [("number", 2), ("due", 3)]) (g := _) (tt := tYes) rfl sc_Wheel_snapshot.nd rfl rfl (sw_true rfl rfl rfl (by decide +kernel)) (pi_list (pe_meth0 (pv 0) cl_Wheel M_Wheel_restoring G_Wheel_restoring hr b_Wheel_restoring v_Wheel_restoring pass0)) (blkOk_by (own := [("number", 2), ("due", 3)]) (N := N_Wheel_snapshot) (sc := defScope s_Wheel_snapshot) (by decide +kernel)) (fun _ _ _ _ _ => (pg_tupK (K := K) (n := 2) rfl rfl (pgs_cons (pg_name (i := 2) sc_Wheel_snapshot.nd rfl (.inl rfl)) (pgs_cons (pg_name (i := 3) sc_Wheel_snapshot.nd rfl (.inl rfl)) pgs_nil)))) (fun _ _ _ _ _ => pts_nil) (fun _ _ _ _ _ => (pe_tup (pa_cons (pv 2) (pa_cons (pv 3) (pa_cons (pe_ix (ix_tupK (K := K) rfl) (pe_dget hu (pe_fldK (K := K) rfl (pv 0) rfl) (pv 2) (fun _ _ => rfl)) pe_int (fun _ _ => rfl)) pa_nil))))))
      (pss_one (ps_ret (pe_tup (pa_cons (pe_fld (pv 0) rfl) (pa_cons (pe_callTy call_list_of (by rfl) T.b_list (by decide +kernel) (pa_cons (pe_fld (pv 0) rfl) pa_nil)) (pa_cons (pe_fld (pv 0) rfl) (pa_cons (pe_fld (pv 0) rfl) (pa_cons (pv 1) pa_nil))))))))), ?_⟩
    have hd : ∀ m ∈ W.live, W.tick < m.due := fun m hm => (ok.tms m hm).due
    refine ⟨_, rfl, p, dx, _, rfl, hp, nm_restoring, p, q, l, W, rfl, hw, ok, fun H1 R ts cs s1 hR0 eR hP hI => ?_⟩
    have hw1 := hw.same s1
    obtain ⟨kvs, hl1, L1⟩ := hw1.live
    have hp1 := s1 _ _ hp
    obtain ⟨k1, k2⟩ := hI.keys hd
    obtain ⟨ml, eml⟩ : ∃ ml, ml = toldT W.b W.ws W.tick W.live (cs.map (·.1)) := ⟨_, rfl⟩
    have hpm : ml.Perm W.live := by
      rw [eml]
      exact told_perm k1 k2
    rw [← eml] at hP
    have hPl := hP.len
    rw [List.length_map] at hPl
    have hml : ml.length ≤ 1000 := by
      rw [hpm.length_eq]
      exact ok.few
    refine ⟨R, rfl, ⟨_, SqL.of eR⟩, fun D hD => lc_list (K := K) (a := R) (xs := ts.map V.ref) (fun j H2 => Same H1 H2 ∧ ∃ us : List Addr, H2 D = some (.lst (us.map V.ref)) ∧ RpAt H2 us ((ml.take j).map rowOf)) ⟨same_upd hD, [], upd_same, trivial⟩ (fun j H2 _ ⟨sm, _⟩ => SqL.of (sm _ _ eR)) ?_ ?_⟩
    · rintro j x H2 hx ⟨sm, us, eD, hU⟩
      obtain ⟨t, r, rfl, hr', ht⟩ := hP.item hx
      rw [List.getElem?_map] at hr'
      obtain ⟨m, hm, rfl⟩ : ∃ m, ml[j]? = some m ∧ r = rowND m := by
        cases e : ml[j]? with
        | none =>
          rw [e] at hr'
          cases hr'
        | some m =>
          rw [e] at hr'
          exact ⟨m, rfl, (Option.some.inj hr').symm⟩
      have hml' : m ∈ W.live := hpm.mem_iff.mp (List.mem_of_getElem? hm)
      obtain ⟨tt, hval, htt⟩ := L1.val_of ok.nd hml'
      have hj : j < ml.length := (List.getElem?_eq_some_iff.mp hm).1
      have hUl := hU.len
      rw [List.length_map, List.length_take] at hUl
      have hl2 := sm _ _ hl1
      have g := DGet.k (k := Sum.inl ((m.num : Nat) : Int)) hl2
      rw [hval] at g
      refine ⟨t, _, rfl, .inl (.inl (sm _ _ ht)), rfl, _, _, rfl, _, _, rfl, rfl, rfl, yesT (iteT ?_)⟩
      refine ⟨_, rfl, _, rfl, _, rfl, p, C, dx, _, _, rfl, sm _ _ hp1, TW.cl, TW.nL, wf_l, _, rfl, l, .ref tt, rfl, g, tt, _, 1, _, rfl, rfl, .inl (.inl (sm _ _ htt)), atI_nat (j := 1) rfl, by simp [sizeLine_eq], fun u hu0 => ?_⟩
      have su := same_upd (o := .tup (rowPV (rowOf m))) hu0
      have eDu := su _ _ eD
      refine ⟨_, eDu, ?_, fun c o e => ?_, us ++ [u], ?_, ?_⟩
      · rw [List.length_map]
        exact sizeLine_ge (by omega)
      · rw [upd_ne (ne_of_none e hD)]
        exact su _ _ (sm _ _ e)
      · rw [upd_same, List.map_append]
        rfl
      · rw [List.take_add_one, hm, Option.toList_some, List.map_append]
        have kt : ∀ t' xs, H2 t' = some (.tup xs) → (upd (upd H2 u (.tup (rowPV (rowOf m)))) D (.lst (us.map V.ref ++ [.ref u]))) t' = some (.tup xs) := fun t' xs e => by
          rw [upd_ne (ne_of (su _ _ e) eDu (by intro z; cases z))]
          exact su _ _ e
        refine (hU.frame kt).snoc (r := rowOf m) ?_
        rw [upd_ne (ne_of upd_same eDu (by intro z; cases z))]
        exact upd_same
    · rintro H2 ⟨s2, us, eD, hU⟩
      rw [List.length_map, hPl, List.take_length] at hU
      have hw2 := hw1.same s2
      have hp2 := s2 _ _ hp1
      refine ⟨_, rfl, p, C, dx, _, _, rfl, hp2, TW.cl, TW.nB, wf_b, ?_⟩
      refine ⟨_, rfl, p, C, dx, _, _, rfl, hp2, TW.cl, TW.nW, wf_w, q, _, rfl, .inl (SqL.of hw2.words), fun q' hq' => ?_⟩
      have s3 := same_upd (o := .lst (W.ws.map lvV)) hq'
      have hp3 := s3 _ _ hp2
      refine ⟨_, rfl, p, C, dx, _, _, rfl, hp3, TW.cl, TW.nT, wf_t, ?_⟩
      refine ⟨_, rfl, p, C, dx, _, _, rfl, hp3, TW.cl, TW.nF, wf_f, ?_⟩
      refine ⟨_, rfl, by simp [sizeLine_eq], fun u hu0 => ?_⟩
      have s4 := same_upd (o := .tup [.int (W.b : Nat), .ref q', .int (W.tick : Nat), .int (W.fol : Nat), .ref D]) hu0
      have s12 := s1.trans s2
      have s34 := s3.trans s4
      refine c _ u q' D us cs (s12.trans s34) (s12.free (s3.free hu0)) (s12.free hq') (s1.free hD) upd_same (s4 _ _ upd_same) (s34 _ _ eD) ?_ hI
      rw [← eml]
      exact hU.same s34
end
/-! ### wheels compared -/
section
variable {P : Program} {w : World} {K : PySem.W.Frag} {mg : Str → Option Value} {base : Heap}
theorem nm_snapshot {b : Nat} {q : Addr} {t f : Nat} {l : Addr} : (wfl b q t f l).lookup ("snapshot" : Str) = none := wf_no (by decide +kernel) (by decide +kernel) (by decide +kernel) (by decide +kernel) (by decide +kernel)
/-- what isinstance asks of the class -/
structure InsW (K : PySem.W.Frag) (C : Addr) : Prop where
  ha : PySem.W.findIn K (.ref C) "__class__" = some (some (.builtin "object.__class__"))
  hn : PySem.W.specialIn K (.builtin "object.__class__") "__get__" = some (some (.builtin "getset_descriptor.__get__"))
  htk : PySem.W.takesIn K (.builtin "object.__class__") = some true
  hm : PySem.W.mroIn K C (.type "object") = some true
  me : PySem.W.kitOne K (.ref C) (.ref C) = some true
theorem kit_self {K : PySem.W.Frag} {C : Addr} : PySem.W.kitOne K (.ref C) (.ref C) = some true := by
  unfold PySem.W.kitOne
  simp
noncomputable def snapOf (W : WS) (cs : List Cell) : PyData := snapD W.b W.ws W.tick W.fol ((toldT W.b W.ws W.tick W.live (cs.map (·.1))).map rowOf)
def spEqWh (C : Addr) : Sp := fun vs H Q _ => ∃ (p q l p2 q2 l2 : Addr) (W W2 : WS), vs = [.ref p, .ref p2] ∧ WheelAt C H p q l W ∧ WOk W ∧ WheelAt C H p2 q2 l2 W2 ∧ WOk W2 ∧
  ∀ H' cs cs2, Same H H' → IsLists W.b W.ws W.tick W.live cs → IsLists W2.b W2.ws W2.tick W2.live cs2 → Q (.bl (PyData.eqv (snapOf W cs) (snapOf W2 cs2))) H'
theorem ok_eq {f C : Addr} {fd : FuncData} (F : Fun K "__eq__" "Wheel.__eq__" s_Wheel___eq__ f fd) (T : Tx K mg) (TW : TxW K mg C) (iw : InsW K C) (m1 : HasM P w K mg base 7 C "snapshot" ["self"] [] (spSnapshot C)) : FnOk P w K mg base CX0 8 f fd ["self", "other"] (spEqWh C) := by
  have cl_Wheel := TW.cl
  obtain ⟨g1, gd1, gs1, G_Wheel_snapshot, M_Wheel_snapshot, b_Wheel_snapshot, v_Wheel_snapshot⟩ := m1
  refine F.ok sc_Wheel___eq__ (fun vs H Q E h => ?_) (fun cdv A outer s H vs Q E hr h => ?_)
  · obtain ⟨p, q, l, p2, q2, l2, W, W2, rfl, _⟩ := h
    rfl
  · obtain ⟨p, q, l, p2, q2, l2, W, W2, rfl, hw, ok, hw2, ok2, c⟩ := h
    obtain ⟨dx, hp⟩ := hw.ins
    obtain ⟨dx2, hp2⟩ := hw2.ins
    refine ⟨_, (pss_one (ps_ret (pe_and (pe_callB (isiK (K := K) rfl) (by rfl) T.b_isinstance (by decide +kernel) (pa_cons (pv 1) (pa_cons (pe_glob (v := .ref C) rfl TW.mgC rfl) pa_nil))) (pe_one (pe_cmpR (op_eqK (K := K) rfl hr.units) (pe_meth0 (pv 0) cl_Wheel M_Wheel_snapshot G_Wheel_snapshot hr b_Wheel_snapshot v_Wheel_snapshot pass0) (pe_meth0 (pv 1) cl_Wheel M_Wheel_snapshot G_Wheel_snapshot hr b_Wheel_snapshot v_Wheel_snapshot pass0) (nomark _)))))), ?_⟩
    refine ⟨.ref p2, rfl, _, _, _, _, true, rfl, .own C, .base (.ins hp2 TW.cl iw.ha iw.hn iw.htk iw.hm), iw.me, true, rfl, iteT ?_⟩
    refine ⟨_, rfl, p, dx, _, rfl, hp, nm_snapshot, p, q, l, W, rfl, hw, ok, fun H1 u q' R ts cs s1 hu0 hq0 hR0 eu eq' eR hP hI => ?_⟩
    refine ⟨_, rfl, p2, dx2, _, rfl, s1 _ _ hp2, nm_snapshot, p2, q2, l2, W2, rfl, hw2.same s1, ok2, fun H2 u2 q2' R2 ts2 cs2 s2 hu1 hq1 hR1 eu2 eq2 eR2 hP2 hI2 => ?_⟩
    have S1 : SnapAt K H1 u W.b W.ws W.tick W.fol ((toldT W.b W.ws W.tick W.live (cs.map (·.1))).map rowOf) := ⟨⟨q', R, ts, eu, SqL.of eq', SqL.of eR, hP⟩⟩
    have S2 : SnapAt K H2 u2 W2.b W2.ws W2.tick W2.fol ((toldT W2.b W2.ws W2.tick W2.live (cs2.map (·.1))).map rowOf) := ⟨⟨q2', R2, ts2, eu2, SqL.of eq2, SqL.of eR2, hP2⟩⟩
    exact ⟨_, _, snap_dp (S1.same s2), snap_dp S2, snap_shaped _ _ _ _ _, snap_shaped _ _ _ _ _, c H2 cs cs2 (s1.trans s2) hI hI2⟩
end
/-! ### a wheel held against anything -/
section
variable {P : Program} {w : World} {K : PySem.W.Frag} {mg : Str → Option Value} {base : Heap}
theorem cls_made {C : Addr} (h : PySem.W.makesIn K C = true) : (PySem.W.clsIn K C).isSome = true := by
  unfold PySem.W.makesIn at h
  unfold PySem.W.clsIn
  split at h
  · rename_i e
    rw [e]
    rfl
  · cases h
theorem kit_not {C : Addr} {T : String} (hc : (PySem.W.clsIn K C).isSome = true) (ht : PySem.W.typeIn K (.ref C) = some (.type "type")) (h : (PySem.fastBuiltinMro T).map (·.contains (.ref C)) = some false) : PySem.W.kitOne K (.type T) (.ref C) = some false := by
  unfold PySem.W.kitOne
  rw [if_neg (by simp)]
  show (if ((PySem.W.clsIn K C).isSome && PySem.W.typeIn K (.ref C) == some (.type "type")) = true then PySem.W.subIn K (.type T) (.ref C) else none) = some false
  rw [if_pos (by rw [hc, ht]; rfl)]
  exact h
theorem nf_not {C : Addr} {T : String} (h : (PySem.fastBuiltinMro T).map (·.contains (.ref C)) = some false) : PySem.W.notFirst K C (.type T) = true := by
  unfold PySem.W.notFirst
  rw [Bool.or_eq_true]
  exact .inr (beq_iff_eq.mpr h)
/-- of a built-in type that no class of one's own is above of -/
def Blt (K : PySem.W.Frag) (y : V) (H : Hp) : Prop := ∃ T : String, TyX K H y (.type T) ∧ ∀ C : Addr, (PySem.fastBuiltinMro T).map (·.contains (.ref C)) = some false
theorem Blt.non {H : Hp} : Blt K .non H := ⟨"NoneType", .base .non, fun _ => rfl⟩
theorem Blt.int {H : Hp} (i : Int) : Blt K (.int i) H := ⟨"int", .base (.int i), fun _ => rfl⟩
theorem Blt.str {H : Hp} (x : Str) : Blt K (.str x) H := ⟨"str", .base (.str x), fun _ => rfl⟩
theorem Blt.lst {H : Hp} {a : Addr} {xs : List V} (h : SqL K H a xs) : Blt K (.ref a) H := ⟨"list", tyx_list h, fun _ => rfl⟩
theorem Blt.tup {H : Hp} {a : Addr} {xs : List V} (h : H a = some (.tup xs)) : Blt K (.ref a) H := ⟨"tuple", tyx_tup1 h, fun _ => rfl⟩
theorem Blt.sub {C : Addr} {y : V} {H : Hp} (h : Blt K y H) : NotSub K C y H := by
  obtain ⟨T, h1, h2⟩ := h
  exact .inr ⟨_, h1, nf_not (h2 C)⟩
def spEqAny (C : Addr) (K : PySem.W.Frag) : Sp := fun vs H Q E => spEqWh C vs H Q E ∨ ∃ (p : Addr) (y : V), vs = [.ref p, y] ∧ Blt K y H ∧ Q (.bl false) H
theorem ok_eqany {f C : Addr} {fd : FuncData} (F : Fun K "__eq__" "Wheel.__eq__" s_Wheel___eq__ f fd) (T : Tx K mg) (TW : TxW K mg C) (iw : InsW K C) (hc : (PySem.W.clsIn K C).isSome = true) (ht : PySem.W.typeIn K (.ref C) = some (.type "type")) (m1 : HasM P w K mg base 7 C "snapshot" ["self"] [] (spSnapshot C)) : FnOk P w K mg base CX0 8 f fd ["self", "other"] (spEqAny C K) := by
  have cl_Wheel := TW.cl
  obtain ⟨g1, gd1, gs1, G_Wheel_snapshot, M_Wheel_snapshot, b_Wheel_snapshot, v_Wheel_snapshot⟩ := m1
  refine F.ok sc_Wheel___eq__ (fun vs H Q E h => ?_) (fun cdv A outer s H vs Q E hr h => ?_)
  · rcases h with h | h
    · obtain ⟨p, q, l, p2, q2, l2, W, W2, rfl, _⟩ := h
      rfl
    · obtain ⟨p, y, rfl, _⟩ := h
      rfl
  · refine ⟨_, (pss_one (ps_ret (pe_and (pe_callB (isiK (K := K) rfl) (by rfl) T.b_isinstance (by decide +kernel) (pa_cons (pv 1) (pa_cons (pe_glob (v := .ref C) rfl TW.mgC rfl) pa_nil))) (pe_one (pe_cmpR (op_eqK (K := K) rfl hr.units) (pe_meth0 (pv 0) cl_Wheel M_Wheel_snapshot G_Wheel_snapshot hr b_Wheel_snapshot v_Wheel_snapshot pass0) (pe_meth0 (pv 1) cl_Wheel M_Wheel_snapshot G_Wheel_snapshot hr b_Wheel_snapshot v_Wheel_snapshot pass0) (nomark _)))))), ?_⟩
    rcases h with h | h
    · obtain ⟨p, q, l, p2, q2, l2, W, W2, rfl, hw, ok, hw2, ok2, c⟩ := h
      obtain ⟨dx, hp⟩ := hw.ins
      obtain ⟨dx2, hp2⟩ := hw2.ins
      refine ⟨.ref p2, rfl, _, _, _, _, true, rfl, .own C, .base (.ins hp2 TW.cl iw.ha iw.hn iw.htk iw.hm), iw.me, true, rfl, iteT ?_⟩
      refine ⟨_, rfl, p, dx, _, rfl, hp, nm_snapshot, p, q, l, W, rfl, hw, ok, fun H1 u q' R ts cs s1 hu0 hq0 hR0 eu eq' eR hP hI => ?_⟩
      refine ⟨_, rfl, p2, dx2, _, rfl, s1 _ _ hp2, nm_snapshot, p2, q2, l2, W2, rfl, hw2.same s1, ok2, fun H2 u2 q2' R2 ts2 cs2 s2 hu1 hq1 hR1 eu2 eq2 eR2 hP2 hI2 => ?_⟩
      have S1 : SnapAt K H1 u W.b W.ws W.tick W.fol ((toldT W.b W.ws W.tick W.live (cs.map (·.1))).map rowOf) := ⟨⟨q', R, ts, eu, SqL.of eq', SqL.of eR, hP⟩⟩
      have S2 : SnapAt K H2 u2 W2.b W2.ws W2.tick W2.fol ((toldT W2.b W2.ws W2.tick W2.live (cs2.map (·.1))).map rowOf) := ⟨⟨q2', R2, ts2, eu2, SqL.of eq2, SqL.of eR2, hP2⟩⟩
      exact ⟨_, _, snap_dp (S1.same s2), snap_dp S2, snap_shaped _ _ _ _ _, snap_shaped _ _ _ _ _, c H2 cs cs2 (s1.trans s2) hI hI2⟩
    · obtain ⟨p, y, rfl, ⟨T', ty, hm⟩, q⟩ := h
      exact ⟨y, rfl, _, _, _, _, false, rfl, .own C, ty, kit_not hc ht (hm C), false, rfl, iteF q⟩
end
/-! ### the law's drawing of numbers -/
def SrcAt (H : Hp) (p : Addr) : Prop := ∃ a b c : Int, H p = some (.lst [.int a, .int b, .int c])
/-- all but the source p stands as it was; p is a source again -/
structure Stp (p : Addr) (H H' : Hp) : Prop where
  keep : ∀ q o, q ≠ p → H q = some o → H' q = some o
  src : SrcAt H' p
theorem Stp.refl {p : Addr} {H : Hp} (h : SrcAt H p) : Stp p H H := ⟨fun _ _ _ e => e, h⟩
theorem Stp.trans {p : Addr} {H H1 H2 : Hp} (a : Stp p H H1) (b : Stp p H1 H2) : Stp p H H2 := ⟨fun q o n e => b.keep q o n (a.keep q o n e), b.src⟩
theorem Stp.same {p : Addr} {H H1 H2 : Hp} (a : Stp p H H1) (b : Same H1 H2) : Stp p H H2 := by
  obtain ⟨x, y, z, e⟩ := a.src
  exact ⟨fun q o n e => b q o (a.keep q o n e), ⟨x, y, z, b _ _ e⟩⟩
theorem SrcAt.same {p : Addr} {H H' : Hp} (h : SrcAt H p) (s : Same H H') : SrcAt H' p := by
  obtain ⟨a, b, c, e⟩ := h
  exact ⟨a, b, c, s _ _ e⟩
theorem Stp.free {p q : Addr} {H H' : Hp} (a : Stp p H H') (hq : H' q = none) : H q = none := by
  cases e : H q with
  | none => rfl
  | some o =>
    by_cases z : q = p
    · obtain ⟨x, y, u, w⟩ := a.src
      rw [z, w] at hq
      cases hq
    · rw [a.keep q o z e] at hq
      cases hq
theorem SrcAt.ne {H : Hp} {p l : Addr} (h : SrcAt H p) (hl : H l = none) : l ≠ p := fun e => by
  obtain ⟨x, y, z, w⟩ := h
  rw [e, w] at hl
  cases hl
theorem SrcAt.stp_same {p : Addr} {H H' : Hp} (h : SrcAt H p) (s : Same H H') : Stp p H H' := (Stp.refl h).same s
theorem Stp.seqL {K : PySem.W.Frag} {p a : Addr} {xs : List V} {H H' : Hp} (s : Stp p H H') (n : a ≠ p) (h : SqL K H a xs) : SqL K H' a xs := by
  rcases h with (h | ⟨o, h⟩) | h
  · exact .inl (.inl (s.keep _ _ n h))
  · exact .inl (.inr ⟨o, s.keep _ _ n h⟩)
  · exact .inr h
section
variable {P : Program} {w : World} {K : PySem.W.Frag} {mg : Str → Option Value} {base : Heap}
def spCellAt (K : PySem.W.Frag) : Sp := fun vs H Q _ => ∃ (a : Addr) (ns : List Int) (k : Nat), vs = [.ref a, .int (k : Nat)] ∧ SqL K H a (ns.map V.int) ∧ ∀ v : Int, Q (.int v) H
theorem ok_cell_at {f : Addr} {fd : FuncData} (F : Fun K "_law_cell_at" "_law_cell_at" s__law_cell_at f fd) (T : Tx K mg) : FnOk P w K mg base CX0 1 f fd ["_law_script", "_law_k"] (spCellAt K) := by
  refine F.ok sc__law_cell_at (fun vs H Q E h => ?_) (fun cdv A outer s H vs Q E hr h => ?_)
  · obtain ⟨a, ns, k, rfl, _⟩ := h
    rfl
  · obtain ⟨a, ns, k, rfl, hS, q⟩ := h
    refine ⟨_, (pss_cons (ps_if (pt_cmpR op_lt (pv 1) (pe_callB (lenK (K := K) rfl) (by rfl) T.b_len PySem.boot_len (pa_cons (pv 0) pa_nil)) (nomark _))
        (pss_one (ps_ret (pe_ix (ix_listK (K := K) rfl) (pv 0) (pv 1) (fun _ _ => rfl))))
        pss_nil)
      (pss_one (ps_ret pe_int))), ?_⟩
    refine ⟨_, rfl, .ref a, rfl, a, ns.map V.int, rfl, .inl hS, _, _, rfl, rfl, _, rfl, ite2 (fun e => ?_) (fun e => ?_)⟩
    · have hk : k < ns.length := by
        have z := of_decide_eq_true e
        rw [List.length_map] at z
        omega
      have g : (ns.map V.int)[k]? = some (.int ns[k]) := by
        rw [List.getElem?_map, List.getElem?_eq_getElem hk]
        rfl
      exact ⟨.ref a, rfl, _, rfl, a, _, _, _, rfl, rfl, hS, atI_nat g, q _⟩
    · exact q 0
def spMixed : Sp := fun vs H Q _ => ∃ c k : Int, vs = [.int c, .int k] ∧ ∀ r : Int, 0 ≤ r → r < 2147483563 → Q (.int r) H
theorem ok_mixed {f : Addr} {fd : FuncData} (F : Fun K "_law_mixed" "_law_mixed" s__law_mixed f fd) : FnOk P w K mg base CX0 1 f fd ["_law_cell", "_law_k"] spMixed := by
  refine F.ok sc__law_mixed (fun vs H Q E h => ?_) (fun cdv A outer s H vs Q E hr h => ?_)
  · obtain ⟨c, k, rfl, _⟩ := h
    rfl
  · obtain ⟨c, k, rfl, q⟩ := h
    refine ⟨_, (pss_cons (ps_set (i := 2) sc__law_mixed.nd rfl (.inl rfl) (pe_op op_add (pe_op op_mod (pv 0) pe_int) (pe_op op_mulA (pe_op op_fdivW (pv 0) pe_int) pe_int)))
      (pss_cons (ps_set (i := 2) sc__law_mixed.nd rfl (.inl rfl) (pe_op op_mod (pe_op op_mulA (pe_op op_add (pe_op op_add (pv 2) (pe_op op_mulA pe_int (pv 1))) pe_int) pe_int) pe_int))
      (pss_cons (ps_set (i := 2) sc__law_mixed.nd rfl (.inl rfl) (pe_op op_mod (pe_op op_mulA (pv 2) (pe_op op_add (pe_op op_add (pe_op op_fdivW (pv 2) pe_int) pe_int) (pv 1))) pe_int))
      (pss_one (ps_ret (pe_op op_mod (pe_op op_mulA (pv 2) (pe_op op_add (pe_op op_fdivW (pv 2) pe_int) pe_int)) pe_int)))))), ?_⟩
    refine ⟨_, rfl, c, 2147483629, rfl, rfl, (by decide : (0 : Int) < 2147483629), _, rfl, c, 2147483629, rfl, rfl, div_s (by decide) (by decide), _, 30011, rfl, rfl, mul_r (by decide) (by decide), _, _, rfl, rfl, ?_⟩
    refine ⟨_, rfl, _, rfl, 69621, k, rfl, rfl, mul_l (by decide) (by decide), _, _, rfl, rfl, _, 1, rfl, rfl, _, 48271, rfl, rfl, mul_r (by decide) (by decide), _, 2147483629, rfl, rfl, (by decide : (0 : Int) < 2147483629), ?_⟩
    generalize hl : (c % 2147483629 + c / 2147483629 * 30011 + 69621 * k + 1) * 48271 = l0
    have b1 : 0 ≤ l0 % 2147483629 := Int.emod_nonneg _ (by decide)
    have b2 : l0 % 2147483629 < 2147483629 := Int.emod_lt_of_pos _ (by decide)
    refine ⟨_, rfl, _, rfl, l0 % 2147483629, 907, rfl, rfl, div_s (by decide) (by decide), _, 16831, rfl, rfl, _, rfl, _, k, rfl, rfl, l0 % 2147483629, _, rfl, rfl, mul_l (by omega) (by omega), _, 2147483587, rfl, rfl, (by decide : (0 : Int) < 2147483587), ?_⟩
    generalize (l0 % 2147483629) * (l0 % 2147483629 / 907 + 16831 + k) = l1
    have b3 : 0 ≤ l1 % 2147483587 := Int.emod_nonneg _ (by decide)
    have b4 : l1 % 2147483587 < 2147483587 := Int.emod_lt_of_pos _ (by decide)
    refine ⟨_, rfl, _, rfl, _, 1201, rfl, rfl, div_s (by decide) (by decide), _, 30011, rfl, rfl, _, _, rfl, rfl, mul_l (i := l1 % 2147483587) (by omega) (by omega), _, 2147483563, rfl, rfl, (by decide : (0 : Int) < 2147483563), ?_⟩
    exact q _ (Int.emod_nonneg _ (by decide)) (Int.emod_lt_of_pos _ (by decide))
def spSource (K : PySem.W.Frag) : Sp := fun vs H Q _ => ∃ (a : Addr) (ns : List Int) (k : Nat), vs = [.ref a, .int (k : Nat)] ∧ SqL K H a (ns.map V.int) ∧ ∀ H' p, Same H H' → H p = none → SrcAt H' p → Q (.ref p) H'
theorem ok_source {f : Addr} {fd : FuncData} (F : Fun K "_law_source" "_law_source" s__law_source f fd) (T : Tx K mg) (h1 : Has P w K mg base 1 "_law_cell_at" ["_law_script", "_law_k"] [] (spCellAt K))
    (h2 : Has P w K mg base 1 "_law_mixed" ["_law_cell", "_law_k"] [] spMixed) : FnOk P w K mg base CX0 2 f fd ["_law_script", "_law_k"] (spSource K) := by
  obtain ⟨f__law_cell_at, fd__law_cell_at, ds__law_cell_at, G__law_cell_at, m__law_cell_at, k__law_cell_at, b__law_cell_at, v__law_cell_at⟩ := h1
  obtain ⟨f__law_mixed, fd__law_mixed, ds__law_mixed, G__law_mixed, m__law_mixed, k__law_mixed, b__law_mixed, v__law_mixed⟩ := h2
  refine F.ok sc__law_source (fun vs H Q E h => ?_) (fun cdv A outer s H vs Q E hr h => ?_)
  · obtain ⟨a, ns, k, rfl, _⟩ := h
    rfl
  · obtain ⟨a, ns, k, rfl, hS, q⟩ := h
    refine ⟨_, (pss_cons (ps_if (pt_cmpR op_lt (pv 1) (pe_callB (lenK (K := K) rfl) (by rfl) T.b_len PySem.boot_len (pa_cons (pv 0) pa_nil)) (nomark _))
        (pss_one (ps_ret (pe_lst (pa_cons (pe_ix (ix_listK (K := K) rfl) (pv 0) (pv 1) (fun _ _ => rfl)) (pa_cons (pe_ix (ix_listK (K := K) rfl) (pv 0) (pv 1) (fun _ _ => rfl)) (pa_cons pe_int pa_nil))))))
        pss_nil)
      (pss_cons (ps_set (i := 2) sc__law_source.nd rfl (.inl rfl) (pe_call G__law_mixed hr (by rfl) m__law_mixed k__law_mixed b__law_mixed v__law_mixed pass0 (pa_cons (pe_call G__law_cell_at hr (by rfl) m__law_cell_at k__law_cell_at b__law_cell_at v__law_cell_at pass0 (pa_cons (pv 0) (pa_cons pe_int pa_nil))) (pa_cons (pe_op op_add pe_int (pv 1)) pa_nil))))
      (pss_one (ps_ret (pe_lst (pa_cons (pv 2) (pa_cons (pv 2) (pa_cons pe_int pa_nil)))))))), ?_⟩
    refine ⟨_, rfl, .ref a, rfl, a, ns.map V.int, rfl, .inl hS, _, _, rfl, rfl, _, rfl, ite2 (fun e => ?_) (fun e => ?_)⟩
    · have hk : k < ns.length := by
        have z := of_decide_eq_true e
        rw [List.length_map] at z
        omega
      have g : (ns.map V.int)[k]? = some (.int ns[k]) := by
        rw [List.getElem?_map, List.getElem?_eq_getElem hk]
        rfl
      refine ⟨.ref a, rfl, _, rfl, a, _, _, _, rfl, rfl, hS, atI_nat g, .ref a, rfl, _, rfl, a, _, _, _, rfl, rfl, hS, atI_nat g, by simp [sizeLine_eq], fun p hp => ?_⟩
      exact q _ p (same_upd hp) hp ⟨_, _, _, upd_same⟩
    · refine ⟨.ref a, rfl, a, ns, 0, rfl, hS, fun v => ⟨_, rfl, 1000, _, rfl, rfl, v, _, rfl, fun r _ _ => ?_⟩⟩
      refine ⟨_, rfl, _, rfl, by simp [sizeLine_eq], fun p hp => ?_⟩
      exact q _ p (same_upd hp) hp ⟨_, _, _, upd_same⟩
def spNext : Sp := fun vs H Q _ => ∃ (p : Addr) (m : Int), vs = [.ref p, .int m] ∧ 0 < m ∧ m < 2 ^ 300 ∧ SrcAt H p ∧ ∀ (r : Nat) H', (r : Int) < m → Stp p H H' → Q (.int (r : Nat)) H'
theorem ok_next {f : Addr} {fd : FuncData} (F : Fun K "_law_next" "_law_next" s__law_next f fd) (h2 : Has P w K mg base 1 "_law_mixed" ["_law_cell", "_law_k"] [] spMixed) : FnOk P w K mg base CX0 2 f fd ["_law_source_here", "_law_many"] spNext := by
  obtain ⟨f__law_mixed, fd__law_mixed, ds__law_mixed, G__law_mixed, m__law_mixed, k__law_mixed, b__law_mixed, v__law_mixed⟩ := h2
  refine F.ok sc__law_next (fun vs H Q E h => ?_) (fun cdv A outer s H vs Q E hr h => ?_)
  · obtain ⟨p, m, rfl, _⟩ := h
    rfl
  · obtain ⟨p, m, rfl, hm, hm2, ⟨a, b, c, hp⟩, q⟩ := h
    have fin : ∀ (x : Int) (H' : Hp), Stp p H H' → Q (.int (x % m)) H' := fun x H' s => by
      have h0 : 0 ≤ x % m := Int.emod_nonneg _ (by omega)
      have h1 : x % m < m := Int.emod_lt_of_pos _ hm
      have e : ((x % m).toNat : Int) = x % m := Int.toNat_of_nonneg h0
      have z := q (x % m).toNat H' (by omega) s
      rw [e] at z
      exact z
    have st : ∀ x y z : Int, Stp p H (upd H p (.lst [.int x, .int y, .int z])) := fun x y z => ⟨fun q o n e => by rw [upd_ne n]; exact e, ⟨x, y, z, upd_same⟩⟩
    refine ⟨_, (pss_cons (ps_if (pt_cmpR op_ge (pe_ix (ix_listK (K := K) rfl) (pv 0) pe_int (fun _ _ => rfl)) (pe_op op_pow pe_int pe_int) (nomark _))
        (pss_cons (ps_set (i := 2) sc__law_next.nd rfl (.inl rfl) (pe_op op_mod (pe_ix (ix_listK (K := K) rfl) (pv 0) pe_int (fun _ _ => rfl)) (pv 1)))
        (pss_cons (ps_asg (pe_op op_fdivW (pe_ix (ix_listK (K := K) rfl) (pv 0) pe_int (fun _ _ => rfl)) (pv 1)) (pg_sub (pv 0) pe_int set_list))
        (pss_one (ps_ret (pv 2)))))
        pss_nil)
      (pss_cons (ps_asg (pe_op op_add (pe_ix (ix_listK (K := K) rfl) (pv 0) pe_int (fun _ _ => rfl)) pe_int) (pg_sub (pv 0) pe_int set_list))
      (pss_one (ps_ret (pe_op op_mod (pe_call G__law_mixed hr (by rfl) m__law_mixed k__law_mixed b__law_mixed v__law_mixed pass0 (pa_cons (pe_ix (ix_listK (K := K) rfl) (pv 0) pe_int (fun _ _ => rfl)) (pa_cons (pe_ix (ix_listK (K := K) rfl) (pv 0) pe_int (fun _ _ => rfl)) pa_nil))) (pv 1)))))), ?_⟩
    refine ⟨.ref p, rfl, p, _, 0, .int a, rfl, rfl, SqL.of hp, atI_nat (j := 0) rfl, 10, 18, rfl, rfl, ⟨by decide, by decide, by decide⟩, a, _, rfl, rfl, _, rfl, ite2 (fun _ => ?_) (fun _ => ?_)⟩
    · refine ⟨.ref p, rfl, p, _, 0, .int a, rfl, rfl, SqL.of hp, atI_nat (j := 0) rfl, .int m, rfl, a, m, rfl, rfl, hm, ?_⟩
      refine ⟨.ref p, rfl, p, _, 0, .int a, rfl, rfl, SqL.of hp, atI_nat (j := 0) rfl, .int m, rfl, a, m, rfl, rfl, div_s hm hm2, ?_⟩
      refine ⟨.ref p, rfl, p, _, 0, 0, rfl, rfl, hp, rfl, ?_⟩
      exact ⟨_, rfl, fin a _ (st _ _ _)⟩
    · refine ⟨.ref p, rfl, p, _, 2, .int c, rfl, rfl, SqL.of hp, atI_nat (j := 2) rfl, c, 1, rfl, rfl, ?_⟩
      refine ⟨.ref p, rfl, p, _, 2, 2, rfl, rfl, hp, rfl, ?_⟩
      have h2 : (upd H p (.lst [.int a, .int b, .int (c + 1)])) p = some (.lst [.int a, .int b, .int (c + 1)]) := upd_same
      refine ⟨.ref p, rfl, p, _, 1, .int b, rfl, rfl, SqL.of h2, atI_nat (j := 1) rfl, .ref p, rfl, p, _, 2, .int (c + 1), rfl, rfl, SqL.of h2, atI_nat (j := 2) rfl, b, c + 1, rfl, fun r _ _ => ?_⟩
      exact ⟨.int m, rfl, r, m, rfl, rfl, hm, fin r _ (st _ _ _)⟩
end
/-! ### the law's bases -/
section
variable {P : Program} {w : World} {K : PySem.W.Frag} {mg : Str → Option Value} {base : Heap}
def spBase : Sp := fun vs H Q _ => ∃ (p : Addr), vs = [.ref p] ∧ SrcAt H p ∧ ∀ (b : Nat) H', 2 ≤ b → b ≤ 64 → Stp p H H' → Q (.int (b : Nat)) H'
theorem ok_base {f : Addr} {fd : FuncData} (F : Fun K "_law_base" "_law_base" s__law_base f fd) (h1 : Has P w K mg base 2 "_law_next" ["_law_source_here", "_law_many"] [] spNext) : FnOk P w K mg base CX0 3 f fd ["_law_source_here"] spBase := by
  obtain ⟨f__law_next, fd__law_next, ds__law_next, G__law_next, m__law_next, k__law_next, b__law_next, v__law_next⟩ := h1
  refine F.ok sc__law_base (fun vs H Q E h => ?_) (fun cdv A outer s H vs Q E hr h => ?_)
  · obtain ⟨p, rfl, _⟩ := h
    rfl
  · obtain ⟨p, rfl, hs, q⟩ := h
    refine ⟨_, (pss_one (ps_ret (pe_ix (ix_listK (K := K) rfl) (pe_lst (pa_cons pe_int (pa_cons pe_int (pa_cons pe_int (pa_cons pe_int (pa_cons pe_int (pa_cons pe_int (pa_cons pe_int (pa_cons pe_int (pa_cons pe_int pa_nil)))))))))) (pe_call G__law_next hr (by rfl) m__law_next k__law_next b__law_next v__law_next pass0 (pa_cons (pv 0) (pa_cons pe_int pa_nil))) (fun _ _ => rfl)))), ?_⟩
    refine ⟨by simp [sizeLine_eq], fun l hl => ?_⟩
    have s1 := same_upd (o := .lst [.int 2, .int 3, .int 4, .int 5, .int 7, .int 10, .int 16, .int 63, .int 64]) hl
    have nlp : l ≠ p := fun e => by
      obtain ⟨x, y, z, h⟩ := hs
      rw [e, h] at hl
      cases hl
    refine ⟨_, rfl, p, 9, rfl, by decide, by decide, hs.same s1, fun r H' hr9 st => ?_⟩
    have eL := st.keep _ _ nlp upd_same
    have hst : Stp p H H' := (hs.stp_same s1).trans st
    have hr : r < 9 := by omega
    have all : ∀ j : Nat, j < 9 → ∃ b : Nat, ([.int 2, .int 3, .int 4, .int 5, .int 7, .int 10, .int 16, .int 63, .int 64] : List V)[j]? = some (.int (b : Nat)) ∧ 2 ≤ b ∧ b ≤ 64 := by
      intro j hj
      match j, hj with
      | 0, _ => exact ⟨2, rfl, by decide, by decide⟩
      | 1, _ => exact ⟨3, rfl, by decide, by decide⟩
      | 2, _ => exact ⟨4, rfl, by decide, by decide⟩
      | 3, _ => exact ⟨5, rfl, by decide, by decide⟩
      | 4, _ => exact ⟨7, rfl, by decide, by decide⟩
      | 5, _ => exact ⟨10, rfl, by decide, by decide⟩
      | 6, _ => exact ⟨16, rfl, by decide, by decide⟩
      | 7, _ => exact ⟨63, rfl, by decide, by decide⟩
      | 8, _ => exact ⟨64, rfl, by decide, by decide⟩
      | j + 9, h => omega
    obtain ⟨b, eb, b2, b64⟩ := all r hr
    exact ⟨l, _, r, .int (b : Nat), rfl, rfl, SqL.of eL, atI_nat eb, q b H' b2 b64 hst⟩
end
/-! ### the law's ticks -/
theorem emod_le_self {a m : Int} (h : 0 ≤ a) (hm : 0 < m) : a % m ≤ a := by
  have e := Int.emod_add_mul_ediv a m
  have z : 0 ≤ m * (a / m) := Int.mul_nonneg (Int.le_of_lt hm) (Int.ediv_nonneg h (Int.le_of_lt hm))
  omega
theorem pow64_le {b j : Nat} (h : b ≤ 64) (hj : j ≤ 30) : b ^ j < 2 ^ 181 := by
  have h1 : b ^ j ≤ 64 ^ j := Nat.pow_le_pow_left h j
  have h2 : (64 : Nat) ^ j ≤ 64 ^ 30 := Nat.pow_le_pow_right (by decide) hj
  have h3 : (64 : Nat) ^ 30 < 2 ^ 181 := by decide
  omega
section
variable {P : Program} {w : World} {K : PySem.W.Frag} {mg : Str → Option Value} {base : Heap}
/-- a pick of a list of two, by a number less than 2 -/
theorem pick2 {x y : V} {r : Nat} (h : r < 2) : ([x, y] : List V)[r]? = some (if r = 0 then x else y) := by
  match r, h with
  | 0, _ => rfl
  | 1, _ => rfl
  | r + 2, h => omega
def spTick : Sp := fun vs H Q _ => ∃ (p : Addr) (b : Nat), vs = [.ref p, .int (b : Nat)] ∧ 2 ≤ b ∧ b ≤ 64 ∧ SrcAt H p ∧ ∀ (t : Nat) H', t < 2 ^ 190 → Stp p H H' → Q (.int (t : Nat)) H'
theorem ok_tick {f : Addr} {fd : FuncData} (F : Fun K "_law_tick" "_law_tick" s__law_tick f fd) (T : Tx K mg) (h1 : Has P w K mg base 2 "_law_next" ["_law_source_here", "_law_many"] [] spNext) : FnOk P w K mg base CX0 3 f fd ["_law_source_here", "_law_base_here"] spTick := by
  obtain ⟨f__law_next, fd__law_next, ds__law_next, G__law_next, m__law_next, k__law_next, b__law_next, v__law_next⟩ := h1
  refine F.ok sc__law_tick (fun vs H Q E h => ?_) (fun cdv A outer s H vs Q E hr h => ?_)
  · obtain ⟨p, b, rfl, _⟩ := h
    rfl
  · obtain ⟨p, b, rfl, hb2, hb64, hs, q⟩ := h
    have two : ∀ {H : Hp} {l : Addr} {o : HO}, SrcAt H p → H l = none → Stp p H (upd H l o) ∧ l ≠ p := fun {H l o} hs hl =>
      ⟨hs.stp_same (same_upd hl), fun e => by
        obtain ⟨x, y, z, h⟩ := hs
        rw [e, h] at hl
        cases hl⟩
    refine ⟨_, (pss_cons (ps_set (i := 2) sc__law_tick.nd rfl (.inl rfl) (pe_call G__law_next hr (by rfl) m__law_next k__law_next b__law_next v__law_next pass0 (pa_cons (pv 0) (pa_cons pe_int pa_nil))))
      (pss_cons (ps_if (pt_cmpR op_lt (pv 2) pe_int (nomark _))
        (pss_one (ps_ret (pe_call G__law_next hr (by rfl) m__law_next k__law_next b__law_next v__law_next pass0 (pa_cons (pv 0) (pa_cons (pe_ix (ix_listK (K := K) rfl) (pe_lst (pa_cons pe_int (pa_cons pe_int pa_nil))) (pv 2) (fun _ _ => rfl)) pa_nil)))))
        pss_nil)
      (pss_cons (ps_set (i := 3) sc__law_tick.nd rfl (.inl rfl) pe_int)
      (pss_cons (ps_for PassesOwn.never rfl (pi_range1 (by rfl) T.b_range (pa_cons (pe_call G__law_next hr (by rfl) m__law_next k__law_next b__law_next v__law_next pass0 (pa_cons (pv 0) (pa_cons (pe_ix (ix_listK (K := K) rfl) (pe_lst (pa_cons pe_int (pa_cons pe_int pa_nil))) (pe_call G__law_next hr (by rfl) m__law_next k__law_next b__law_next v__law_next pass0 (pa_cons (pv 0) (pa_cons pe_int pa_nil))) (fun _ _ => rfl)) pa_nil))) pa_nil)) (pg_name (i := 4) sc__law_tick.nd rfl (.inl rfl))
        (pss_one (ps_set (i := 3) sc__law_tick.nd rfl (.inl rfl) (pe_op op_mulA (pv 3) (pv 1)))))
      (pss_cons (ps_set (i := 3) sc__law_tick.nd rfl (.inl rfl) (pe_op op_mod (pv 3) (pe_op op_pow pe_int pe_int)))
      (pss_cons (ps_if (pt_cmpR op_eq (pv 2) pe_int (nomark _))
        (pss_one (ps_ret (pe_callB (call_max2 rfl) (by rfl) T.b_max (by decide +kernel) (pa_cons pe_int (pa_cons (pe_op op_sub (pe_op op_add (pv 3) (pe_call G__law_next hr (by rfl) m__law_next k__law_next b__law_next v__law_next pass0 (pa_cons (pv 0) (pa_cons pe_int pa_nil)))) pe_int) pa_nil)))))
        pss_nil)
      (pss_cons (ps_if (pt_cmpR op_eq (pv 2) pe_int (nomark _))
        (pss_one (ps_ret (pe_op op_add (pe_op op_mulA (pv 3) (pe_op op_add pe_int (pe_call G__law_next hr (by rfl) m__law_next k__law_next b__law_next v__law_next pass0 (pa_cons (pv 0) (pa_cons (pv 1) pa_nil))))) (pe_call G__law_next hr (by rfl) m__law_next k__law_next b__law_next v__law_next pass0 (pa_cons (pv 0) (pa_cons (pv 1) pa_nil))))))
        pss_nil)
      (pss_one (ps_ret (pe_op op_add (pe_op op_mulA (pe_call G__law_next hr (by rfl) m__law_next k__law_next b__law_next v__law_next pass0 (pa_cons (pv 0) (pa_cons (pe_op op_pow pe_int pe_int) pa_nil))) (pe_op op_pow pe_int pe_int)) (pe_call G__law_next hr (by rfl) m__law_next k__law_next b__law_next v__law_next pass0 (pa_cons (pv 0) (pa_cons (pe_op op_pow pe_int pe_int) pa_nil))))))))))))), ?_⟩
    -- sort = next(source, 5)
    refine ⟨_, rfl, p, 5, rfl, by decide, by decide, hs, fun r0 H1 hr0 s1 => ?_⟩
    refine ⟨_, rfl, _, 2, rfl, rfl, _, rfl, ite2 (fun e => ?_) (fun e0 => ?_)⟩
    · -- near ones
      have hr2 : r0 < 2 := by
        have z := of_decide_eq_true e
        omega
      refine ⟨_, rfl, by simp [sizeLine_eq], fun l hl => ?_⟩
      obtain ⟨s2, nl⟩ := two (o := .lst [.int 6, .int 400]) s1.src hl
      refine ⟨_, rfl, l, _, r0, _, rfl, rfl, SqL.of upd_same, atI_nat (pick2 hr2), p, if r0 = 0 then 6 else 400, ?_, ?_, ?_, s2.src, fun r H2 hr s3 => ?_⟩
      · show [V.ref p, if r0 = 0 then V.int 6 else V.int 400] = _
        split <;> rfl
      · split <;> decide
      · split <;> decide
      · refine q r H2 ?_ ((s1.trans s2).trans s3)
        have z : r < 400 := by
          split at hr <;> omega
        exact Nat.lt_trans z (by decide)
    · -- size = 1; for at in range(next(..)): size = size * base
      refine ⟨_, rfl, by simp [sizeLine_eq], fun l hl => ?_⟩
      obtain ⟨s2, nl⟩ := two (o := .lst [.int 4, .int 30]) s1.src hl
      refine ⟨_, rfl, p, 2, rfl, by decide, by decide, s2.src, fun r1 H2 hr1 s3 => ?_⟩
      have eL : H2 l = some (.lst [.int 4, .int 30]) := s3.keep _ _ nl upd_same
      refine ⟨l, _, r1, _, rfl, rfl, SqL.of eL, atI_nat (pick2 (by omega)), p, if r1 = 0 then 4 else 30, ?_, ?_, ?_, s3.src, fun r2 H3 hr2 s4 => ?_⟩
      · show [V.ref p, if r1 = 0 then V.int 4 else V.int 30] = _
        split <;> rfl
      · split <;> decide
      · split <;> decide
      have hr30 : r2 < 30 := by
        split at hr2 <;> omega
      have s14 := ((s1.trans s2).trans s3).trans s4
      refine ⟨_, rfl, by omega, by omega, for_range (Pv := fun i σ H' => H' = H3 ∧ ∃ y, σ = [some (.ref p), some (.int (b : Nat)), some (.int (r0 : Nat)), some (.int ((b ^ i : Nat) : Int)), y]) ⟨rfl, none, rfl⟩ ?_ ?_⟩
      · rintro i σ H' hi ⟨rfl, y, rfl⟩
        have hi30 : i < 30 := by omega
        have hb : b ^ i < 2 ^ 181 := pow64_le hb64 (by omega)
        refine ⟨_, rfl, _, rfl, _, _, rfl, rfl, mul_r (by omega) (by omega), ?_⟩
        refine ⟨rfl, some (.int (0 + (i : Int))), ?_⟩
        rw [Nat.pow_succ, Int.natCast_mul]
        rfl
      · rintro σ H' ⟨rfl, y, rfl⟩
        have h58 : (0 : Int) < (10 : Int) ^ (58 : Int).toNat := by decide
        refine ⟨_, rfl, 10, 58, rfl, rfl, ⟨by decide, by decide, by decide⟩, _, _, rfl, rfl, h58, ?_⟩
        generalize hz : (((b ^ ((r2 : Nat) : Int).toNat : Nat) : Int) % (10 : Int) ^ (58 : Int).toNat) = z
        have z0 : 0 ≤ z := by
          rw [← hz]
          exact Int.emod_nonneg _ (by decide)
        have z1 : z < 2 ^ 181 := by
          rw [← hz]
          refine Int.lt_of_le_of_lt (emod_le_self (by omega) (by decide)) ?_
          have := pow64_le (j := ((r2 : Nat) : Int).toNat) hb64 (by omega)
          omega
        -- sort == 2
        refine ⟨_, rfl, rfl, _, rfl, ite2 (fun _ => ?_) (fun _ => ?_)⟩
        · refine ⟨_, rfl, _, rfl, p, 3, rfl, by decide, by decide, s14.src, fun r3 H4 hr3 s5 => ?_⟩
          refine ⟨z, r3, congrArg V.int hz, rfl, _, 1, rfl, rfl, 0, _, rfl, ?_⟩
          have e3 : (if z + (r3 : Int) - 1 > 0 then z + (r3 : Int) - 1 else 0) = (((if z + (r3 : Int) - 1 > 0 then z + (r3 : Int) - 1 else 0).toNat : Nat) : Int) := by
            split <;> omega
          show Q (.int (if z + (r3 : Int) - 1 > 0 then z + (r3 : Int) - 1 else 0)) H4
          rw [e3]
          refine q _ H4 ?_ (s14.trans s5)
          split <;> omega
        · refine ⟨_, rfl, rfl, _, rfl, ite2 (fun _ => ?_) (fun _ => ?_)⟩
          · refine ⟨_, rfl, _, rfl, _, rfl, p, b, rfl, by omega, by omega, s14.src, fun r3 H4 hr3 s5 => ?_⟩
            refine ⟨1, r3, rfl, rfl, z, _, congrArg V.int hz, rfl, mul_r (by omega) (by omega), _, rfl, _, rfl, p, b, rfl, by omega, by omega, s5.src, fun r4 H5 hr4 s6 => ?_⟩
            refine ⟨_, _, rfl, rfl, ?_⟩
            have zr : z * (1 + (r3 : Int)) ≤ z * 65 := Int.mul_le_mul_of_nonneg_left (by omega) z0
            have zr0 : 0 ≤ z * (1 + (r3 : Int)) := Int.mul_nonneg z0 (by omega)
            have e3 : z * (1 + (r3 : Int)) + (r4 : Int) = (((z * (1 + (r3 : Int)) + (r4 : Int)).toNat : Nat) : Int) := by omega
            show Q (.int (z * (1 + (r3 : Int)) + (r4 : Int))) H5
            rw [e3]
            exact q _ H5 (by omega) ((s14.trans s5).trans s6)
          · refine ⟨_, rfl, 10, 9, rfl, rfl, ⟨by decide, by decide, by decide⟩, p, _, rfl, by decide, by decide, s14.src, fun r3 H4 hr3 s5 => ?_⟩
            have hr3' : r3 < 10 ^ 9 := by
              have q : (r3 : Int) < 10 ^ (9 : Int).toNat := hr3
              have e : (10 : Int) ^ (9 : Int).toNat = 1000000000 := by decide
              omega
            have e20 : (10 : Int) ^ (20 : Int).toNat = 100000000000000000000 := by decide
            refine ⟨10, 20, rfl, rfl, ⟨by decide, by decide, by decide⟩, _, _, rfl, rfl, mul_l (by omega) (by omega), _, rfl, 10, 6, rfl, rfl, ⟨by decide, by decide, by decide⟩, p, _, rfl, by decide, by decide, s5.src, fun r4 H5 hr4 s6 => ?_⟩
            have hr4' : r4 < 10 ^ 6 := by
              have q : (r4 : Int) < 10 ^ (6 : Int).toNat := hr4
              have e : (10 : Int) ^ (6 : Int).toNat = 1000000 := by decide
              omega
            refine ⟨_, _, rfl, rfl, ?_⟩
            show Q (.int ((r3 : Int) * (10 : Int) ^ (20 : Int).toNat + (r4 : Int))) H5
            rw [e20]
            have e3 : (r3 : Int) * 100000000000000000000 + (r4 : Int) = ((r3 * 100000000000000000000 + r4 : Nat) : Int) := by omega
            rw [e3]
            exact q _ H5 (by omega) ((s14.trans s5).trans s6)
end
section
variable {P : Program} {w : World} {K : PySem.W.Frag} {mg : Str → Option Value} {base : Heap}
theorem flat_rep {α : Type} (x : α) : ∀ n : Nat, (List.replicate n [x]).flatten = List.replicate n x
  | 0 => rfl
  | n + 1 => by
    rw [List.replicate_succ, List.flatten_cons, flat_rep x n, List.replicate_succ]
    rfl
theorem pick_lv {r : Nat} (h : r < 2) : ([.str "stack", .str "queue"] : List V)[r]? = some (lvV (decide (r = 0))) := by
  match r, h with
  | 0, _ => rfl
  | 1, _ => rfl
  | r + 2, h => omega
theorem pick_vl {r : Nat} (h : r < 2) : ([.str "queue", .str "stack"] : List V)[r]? = some (lvV (decide (r = 1))) := by
  match r, h with
  | 0, _ => rfl
  | 1, _ => rfl
  | r + 2, h => omega
def spLevels : Sp := fun vs H Q _ => ∃ (p : Addr), vs = [.ref p] ∧ SrcAt H p ∧ ∀ H' q (ws : List Bool), Stp p H H' → H q = none → H' q = some (.lst (ws.map lvV)) → ws ≠ [] → ws.length ≤ 60 → Q (.ref q) H'
theorem ok_levels {f : Addr} {fd : FuncData} (F : Fun K "_law_levels" "_law_levels" s__law_levels f fd) (T : Tx K mg) (h1 : Has P w K mg base 2 "_law_next" ["_law_source_here", "_law_many"] [] spNext) : FnOk P w K mg base CX0 3 f fd ["_law_source_here"] spLevels := by
  obtain ⟨f__law_next, fd__law_next, ds__law_next, G__law_next, m__law_next, k__law_next, b__law_next, v__law_next⟩ := h1
  refine F.ok sc__law_levels (fun vs H Q E h => ?_) (fun cdv A outer s H vs Q E hr h => ?_)
  · obtain ⟨p, rfl, _⟩ := h
    rfl
  · obtain ⟨p, rfl, hs, c⟩ := h
    refine ⟨_, (pss_cons (ps_set (i := 1) sc__law_levels.nd rfl (.inl rfl) (pe_ix (ix_listK (K := K) rfl) (pe_lst (pa_cons (pe_op op_add pe_int (pe_call G__law_next hr (by rfl) m__law_next k__law_next b__law_next v__law_next pass0 (pa_cons (pv 0) (pa_cons pe_int pa_nil)))) (pa_cons (pe_op op_add pe_int (pe_call G__law_next hr (by rfl) m__law_next k__law_next b__law_next v__law_next pass0 (pa_cons (pv 0) (pa_cons pe_int pa_nil)))) pa_nil))) (pe_callTy call_int1 (by rfl) T.b_int (by decide +kernel) (pa_cons (pe_cmpR op_eq (pe_call G__law_next hr (by rfl) m__law_next k__law_next b__law_next v__law_next pass0 (pa_cons (pv 0) (pa_cons pe_int pa_nil))) pe_int (nomark _)) pa_nil)) (fun _ _ => rfl)))
      (pss_cons (ps_set (i := 2) sc__law_levels.nd rfl (.inl rfl) (pe_call G__law_next hr (by rfl) m__law_next k__law_next b__law_next v__law_next pass0 (pa_cons (pv 0) (pa_cons pe_int pa_nil))))
      (pss_cons (ps_if (pt_cmpR op_lt (pv 2) pe_int (nomark _))
        (pss_one (ps_ret (pe_op op_rep (pe_lst (pa_cons (pe_ix (ix_listK (K := K) rfl) (pe_lst (pa_cons pe_str (pa_cons pe_str pa_nil))) (pv 2) (fun _ _ => rfl)) pa_nil)) (pv 1))))
        pss_nil)
      (pss_cons (ps_setLc (i := 3) (own := [("_law_at", 4)]) (g := gName 4) (tt := tYes) rfl sc__law_levels.nd rfl rfl (sw_true rfl rfl rfl (by decide +kernel)) (pi_range1 (by rfl) T.b_range (pa_cons (pv 1) pa_nil)) (blkOk_by (own := [("_law_at", 4)]) (N := N__law_levels) (sc := defScope s__law_levels) (by decide +kernel)) (fun _ _ _ _ _ => (pg_name (i := 4) sc__law_levels.nd rfl (.inl rfl))) (fun _ _ _ _ _ => pts_nil) (fun _ _ _ _ _ => (pe_ix (ix_listK (K := K) rfl) (pe_lst (pa_cons pe_str (pa_cons pe_str pa_nil))) (pe_call G__law_next hr (by rfl) m__law_next k__law_next b__law_next v__law_next pass0 (pa_cons (pv 0) (pa_cons pe_int pa_nil))) (fun _ _ => rfl))))
      (pss_cons (ps_if (pt_cmpR op_eq (pv 2) pe_int (nomark _))
        (pss_one (ps_setLc (i := 3) (own := [("_law_at", 4)]) (g := gName 4) (tt := tYes) rfl sc__law_levels.nd rfl rfl (sw_true rfl rfl rfl (by decide +kernel)) (pi_range1 (by rfl) T.b_range (pa_cons (pv 1) pa_nil)) (blkOk_by (own := [("_law_at", 4)]) (N := N__law_levels) (sc := defScope s__law_levels) (by decide +kernel)) (fun _ _ _ _ _ => (pg_name (i := 4) sc__law_levels.nd rfl (.inl rfl))) (fun _ _ _ _ _ => pts_nil) (fun _ _ _ _ _ => (pe_ix (ix_listK (K := K) rfl) (pe_lst (pa_cons pe_str (pa_cons pe_str pa_nil))) (pe_op op_mod (pv 4) pe_int) (fun _ _ => rfl)))))
        pss_nil)
      (pss_one (ps_ret (pv 3)))))))), ?_⟩
    -- many
    refine ⟨_, rfl, p, 6, rfl, by decide, by decide, hs, fun r1 H1 hr1 s1 => ⟨1, r1, rfl, rfl, _, rfl, p, 60, rfl, by decide, by decide, s1.src, fun r2 H2 hr2 s2 => ⟨1, r2, rfl, rfl, by simp [sizeLine_eq], fun l hl => ?_⟩⟩⟩
    have s3 : Stp p H2 (upd H2 l (.lst [.int (1 + (r1 : Int)), .int (1 + (r2 : Int))])) := s2.src.stp_same (same_upd hl)
    refine ⟨_, rfl, p, 5, rfl, by decide, by decide, s3.src, fun r3 H4 hr3 s4 => ⟨rfl, .inr ⟨_, rfl, ?_⟩⟩⟩
    have eL := s4.keep _ _ (s2.src.ne hl) upd_same
    obtain ⟨m, em, hm0, hm⟩ : ∃ m : Nat, ([.int (1 + (r1 : Int)), .int (1 + (r2 : Int))] : List V)[if decide (V.int (r3 : Nat) = V.int 4) = true then 1 else 0]? = some (.int (m : Nat)) ∧ 1 ≤ m ∧ m ≤ 60 := by
      split
      · exact ⟨1 + r2, rfl, by omega, by omega⟩
      · exact ⟨1 + r1, rfl, by omega, by omega⟩
    refine ⟨l, _, ((if decide (V.int (r3 : Nat) = V.int 4) = true then 1 else 0 : Nat) : Int), _, rfl, ?_, SqL.of eL, atI_nat em, ?_⟩
    · split <;> rfl
    have s04 := ((s1.trans s2).trans s3).trans s4
    -- sort
    refine ⟨_, rfl, p, 5, rfl, by decide, by decide, s4.src, fun r5 H5 hr5 s5 => ?_⟩
    have s05 := s04.trans s5
    refine ⟨_, rfl, _, 2, rfl, rfl, _, rfl, ite2 (fun e => ?_) (fun e0 => ?_)⟩
    · have hr2' : r5 < 2 := by
        have z := of_decide_eq_true e
        omega
      refine ⟨by simp [sizeLine_eq], fun l6 hl6 => ?_⟩
      refine ⟨_, rfl, l6, _, r5, _, rfl, rfl, SqL.of upd_same, atI_nat (pick_lv hr2'), by simp [sizeLine_eq], fun l7 hl7 => ?_⟩
      refine ⟨_, rfl, l7, (m : Nat), _, rfl, rfl, upd_same, by omega, by omega, ?_, fun q hq => ?_⟩
      · exact sizeLine_le (by show 1 * m ≤ 1000000; omega)
      · have s8 := ((s05.same (same_upd hl6)).same (same_upd hl7)).same (same_upd (o := .lst (List.replicate ((m : Nat) : Int).toNat [lvV (decide (r5 = 0))]).flatten) hq)
        refine c _ q (List.replicate m (decide (r5 = 0))) s8 ?_ ?_ ?_ ?_
        · exact ((s05.same (same_upd hl6)).same (same_upd hl7)).free hq
        · rw [upd_same, flat_rep, List.map_replicate]
          rfl
        · intro e
          have z := congrArg List.length e
          rw [List.length_replicate] at z
          exact absurd z (by show ¬ m = 0; omega)
        · rw [List.length_replicate]
          exact hm
    · -- drawn words
      refine ⟨_, rfl, m, rfl, by omega, by omega, fun D hD => lc_range (lo := 0) (n := ((m : Nat) : Int).toNat) (fun i H' => Stp p H5 H' ∧ ∃ ws : List Bool, ws.length = i ∧ H' D = some (.lst (ws.map lvV)))
        ⟨s5.src.stp_same (same_upd hD), [], rfl, upd_same⟩ ?_ ?_⟩
      · rintro i H' hi ⟨st, ws, hw, eD⟩
        have nDp : D ≠ p := s5.src.ne hD
        refine ⟨rfl, yesT (iteT ?_)⟩
        refine ⟨by simp [sizeLine_eq], fun l8 hl8 => ?_⟩
        have s8 : Stp p H' (upd H' l8 (.lst [.str "queue", .str "stack"])) := st.src.stp_same (same_upd hl8)
        refine ⟨_, rfl, p, 2, rfl, by decide, by decide, s8.src, fun r9 H9 hr9 s9 => ?_⟩
        have eL8 := s9.keep _ _ (st.src.ne hl8) upd_same
        have eD9 := s9.keep _ _ nDp (s8.keep _ _ nDp eD)
        refine ⟨l8, _, r9, _, rfl, rfl, SqL.of eL8, atI_nat (pick_vl (by omega)), _, eD9, ?_, ⟨fun b o n e => ?_, ?_⟩, ws ++ [decide (r9 = 1)], ?_, ?_⟩
        · rw [List.length_map, hw]
          exact sizeLine_ge (by omega)
        · rw [upd_ne (ne_of_none e hD)]
          exact s9.keep _ _ n (s8.keep _ _ n (st.keep _ _ n e))
        · obtain ⟨x, y, z, h⟩ := s9.src
          exact ⟨x, y, z, by rw [upd_ne nDp.symm]; exact h⟩
        · rw [List.length_append, hw]
          rfl
        · rw [upd_same, List.map_append]
          rfl
      rintro H6 ⟨s6, ws, hw, eD⟩
      have hw' : ws.length = m := by rw [hw]; exact Int.toNat_natCast m
      have s06 := s05.trans s6
      have last : ∀ H7 q (vs : List Bool), Stp p H H7 → H q = none → H7 q = some (.lst (vs.map lvV)) → vs.length = m → Q (.ref q) H7 := fun H7 q vs st hq eq hv =>
        c H7 q vs st hq eq (fun e => by
          rw [e] at hv
          exact absurd hv (by show ¬ 0 = m; omega)) (by omega)
      have hD0 : H D = none := s05.free hD
      refine ⟨_, rfl, rfl, _, rfl, ite2 (fun e => ?_) (fun e => ?_)⟩
      · refine ⟨_, rfl, m, rfl, by omega, by omega, fun D2 hD2 => lc_range (lo := 0) (n := ((m : Nat) : Int).toNat) (fun i H' => Same H6 H' ∧ ∃ ws : List Bool, ws.length = i ∧ H' D2 = some (.lst (ws.map lvV)))
          ⟨same_upd hD2, [], rfl, upd_same⟩ ?_ ?_⟩
        · rintro i H' hi ⟨st, ws2, hw2, eD2⟩
          refine ⟨rfl, yesT (iteT ?_)⟩
          refine ⟨by simp [sizeLine_eq], fun l8 hl8 => ?_⟩
          have s8 := same_upd (o := .lst [.str "queue", .str "stack"]) hl8
          have ei : (0 + (i : Int)) % 2 = ((i % 2 : Nat) : Int) := by omega
          refine ⟨_, rfl, _, 2, rfl, rfl, (by decide : (0 : Int) < 2), l8, _, ((i % 2 : Nat) : Int), _, rfl, congrArg V.int ei, SqL.of upd_same, atI_nat (pick_vl (Nat.mod_lt i (by decide))), _, s8 _ _ eD2, ?_, fun b o e => ?_, ws2 ++ [decide (i % 2 = 1)], ?_, ?_⟩
          · rw [List.length_map, hw2]
            exact sizeLine_ge (by omega)
          · rw [upd_ne (ne_of_none e hD2)]
            exact s8 _ _ (st _ _ e)
          · rw [List.length_append, hw2]
            rfl
          · rw [upd_same, List.map_append]
            rfl
        rintro H7 ⟨s7, ws2, hw2, eD2⟩
        refine ⟨_, rfl, last H7 D2 ws2 (s06.same s7) (s06.free hD2) eD2 ?_⟩
        rw [hw2]
        exact Int.toNat_natCast m
      · exact ⟨_, rfl, last H6 D ws s06 hD0 eD hw'⟩
end
/-! ### the law's loop over its numbers -/
theorem seq_new {K : PySem.W.Frag} {a p : Addr} {xs : List V} {H H1 H2 : Hp} (h : SqL K H a xs) (hp : H p = none) (s1 : Same H H1) (s2 : Stp p H1 H2) : SqL K H2 a xs := by
  rcases h with (h | ⟨o, h⟩) | h
  · exact .inl (.inl (s2.keep _ _ (ne_of_none h hp) (s1 _ _ h)))
  · exact .inl (.inr ⟨o, s2.keep _ _ (ne_of_none h hp) (s1 _ _ h)⟩)
  · exact .inr h
/-! ### the law's calls -/
inductive Cl where
  | put (d : Nat) (o : Option Nat)
  | can (n : Nat)
  | res (n d : Nat)
  | adv (t : Nat)
def clV : Cl → List V
  | .put d o => [.str "put", .int (d : Nat), perV o]
  | .can n => [.str "cancel", .int (n : Nat)]
  | .res n d => [.str "reset", .int (n : Nat), .int (d : Nat)]
  | .adv t => [.str "advance", .int (t : Nat)]
/-- a call that may be made on a wheel -/
def ClOk (sp : Nat) (W : WS) : Cl → Prop
  | .put d o => W.tick < d ∧ d ≤ W.tick + sp + 303 ∧ ∀ k, o = some k → sp + 7 ≤ k ∧ k ≤ sp + 46
  | .can n => ∃ m ∈ W.live, m.num = n
  | .res n d => (∃ m ∈ W.live, m.num = n) ∧ W.tick < d ∧ d ≤ W.tick + sp + 303
  | .adv t => W.tick ≤ t ∧ t ≤ W.tick + sp / 2 + 40
theorem eqv_nil (ns : List Nat) : PyData.eqv (.list (ns.map fun x => PyData.int (x : Nat))) (.list []) = decide (ns = []) := by
  cases ns with
  | nil => rfl
  | cons n ns => rfl
section
variable {P : Program} {w : World} {K : PySem.W.Frag} {mg : Str → Option Value} {base : Heap}
def spCall63 (C : Addr) : Sp := fun vs H Q _ => ∃ (s p q l : Addr) (W : WS) (sp : Nat), vs = [.ref s, .ref p, .int (sp : Nat)] ∧ SrcAt H s ∧ WheelAt C H p q l W ∧ q ≠ s ∧ W.live.length < 64 ∧ 20 ≤ sp ∧ sp ≤ 10 ^ 30 ∧ W.tick < 2 ^ 200 ∧
  ∀ H' u c, Stp s H H' → H u = none → H' u = some (.tup (clV c)) → ClOk sp W c → Q (.ref u) H'
theorem WheelAt.stp {C : Addr} {H H' : Hp} {s p q l : Addr} {W : WS} (k : Stp s H H') (hs : SrcAt H s) (w : WheelAt C H p q l W) (nq : q ≠ s) : WheelAt C H' p q l W := by
  obtain ⟨x, y, v, ks⟩ := hs
  exact w.frame ks (Ne.symm nq) k.keep
theorem ok_call63 {f C : Addr} {fd : FuncData} (F : Fun K "_law_call" "_law_call" s__law_call f fd) (T : Tx K mg) (TW : TxW K mg C) (h1 : Has P w K mg base 2 "_law_next" ["_law_source_here", "_law_many"] [] spNext)
    (m1 : HasM P w K mg base 1 C "timers" ["self"] [] (spTimers C)) (m2 : HasM P w K mg base 1 C "now" ["self"] [] (spNow C)) :
    FnOk P w K mg base CX0 3 f fd ["_law_source_here", "_law_wheel", "_law_span"] (spCall63 C) := by
  have cl_Wheel := TW.cl
  obtain ⟨f__law_next, fd__law_next, ds__law_next, G__law_next, m__law_next, k__law_next, b__law_next, v__law_next⟩ := h1
  obtain ⟨g1, gd1, gs1, G_Wheel_timers, M_Wheel_timers, b_Wheel_timers, v_Wheel_timers⟩ := m1
  obtain ⟨g2, gd2, gs2, G_Wheel_now, M_Wheel_now, b_Wheel_now, v_Wheel_now⟩ := m2
  refine F.ok sc__law_call (fun vs H Q E h => ?_) (fun cdv A outer s0 H vs Q E hr h => ?_)
  · obtain ⟨s, p, q, l, W, sp, rfl, _⟩ := h
    rfl
  · obtain ⟨s, p, q, l, W, sp, rfl, hs, hw, nq, few, hsp1, hsp2, ht, c⟩ := h
    refine ⟨_, (pss_cons (ps_set (i := 3) sc__law_call.nd rfl (.inl rfl) (pe_call G__law_next hr (by rfl) m__law_next k__law_next b__law_next v__law_next pass0 (pa_cons (pv 0) (pa_cons pe_int pa_nil))))
      (pss_cons (ps_set (i := 4) sc__law_call.nd rfl (.inl rfl) (pe_meth0 (pv 1) cl_Wheel M_Wheel_timers G_Wheel_timers (hr.mono (by decide)) b_Wheel_timers v_Wheel_timers pass0))
      (pss_cons (ps_set (i := 5) sc__law_call.nd rfl (.inl rfl) (pe_ix (ix_listK (K := K) rfl) (pe_lst (pa_cons (pe_call G__law_next hr (by rfl) m__law_next k__law_next b__law_next v__law_next pass0 (pa_cons (pv 0) (pa_cons pe_int pa_nil))) (pa_cons (pe_call G__law_next hr (by rfl) m__law_next k__law_next b__law_next v__law_next pass0 (pa_cons (pv 0) (pa_cons pe_int pa_nil))) (pa_cons (pe_op op_addN (pv 2) (pe_call G__law_next hr (by rfl) m__law_next k__law_next b__law_next v__law_next pass0 (pa_cons (pv 0) (pa_cons pe_int pa_nil)))) pa_nil)))) (pe_call G__law_next hr (by rfl) m__law_next k__law_next b__law_next v__law_next pass0 (pa_cons (pv 0) (pa_cons pe_int pa_nil))) (fun _ _ => rfl)))
      (pss_cons (ps_set (i := 6) sc__law_call.nd rfl (.inl rfl) (pe_op op_addN (pe_op op_addN (pe_meth0 (pv 1) cl_Wheel M_Wheel_now G_Wheel_now (hr.mono (by decide)) b_Wheel_now v_Wheel_now pass0) pe_int) (pv 5)))
      (pss_cons (ps_if (PW.pt (pw_or (pt_cmpR op_lt (pv 3) pe_int (nomark _)) (pw_or1 (pt_cmpR (op_eqK (K := K) rfl hr.units) (pv 4) (pe_lst pa_nil) (nomark _)))))
        (pss_one (ps_ret (pe_tup (pa_cons pe_str (pa_cons (pv 6) (pa_cons (pe_ix (ix_listK (K := K) rfl) (pe_lst (pa_cons pe_non (pa_cons pe_non (pa_cons (pe_op op_addN (pe_op op_addN (pv 2) pe_int) (pe_call G__law_next hr (by rfl) m__law_next k__law_next b__law_next v__law_next pass0 (pa_cons (pv 0) (pa_cons pe_int pa_nil)))) pa_nil)))) (pe_call G__law_next hr (by rfl) m__law_next k__law_next b__law_next v__law_next pass0 (pa_cons (pv 0) (pa_cons pe_int pa_nil))) (fun _ _ => rfl)) pa_nil))))))
        pss_nil)
      (pss_cons (ps_set (i := 7) sc__law_call.nd rfl (.inl rfl) (pe_ix (ix_listK (K := K) rfl) (pv 4) (pe_call G__law_next hr (by rfl) m__law_next k__law_next b__law_next v__law_next pass0 (pa_cons (pv 0) (pa_cons (pe_callB (lenK (K := K) rfl) (by rfl) T.b_len PySem.boot_len (pa_cons (pv 4) pa_nil)) pa_nil))) (fun _ _ => rfl)))
      (pss_cons (ps_if (pt_cmpR op_eq (pv 3) pe_int (nomark _))
        (pss_one (ps_ret (pe_tup (pa_cons pe_str (pa_cons (pv 7) pa_nil)))))
        pss_nil)
      (pss_cons (ps_if (pt_cmpR op_eq (pv 3) pe_int (nomark _))
        (pss_one (ps_ret (pe_tup (pa_cons pe_str (pa_cons (pv 7) (pa_cons (pv 6) pa_nil))))))
        pss_nil)
      (pss_cons (ps_set (i := 5) sc__law_call.nd rfl (.inl rfl) (pe_ix (ix_listK (K := K) rfl) (pe_lst (pa_cons (pe_op op_addN pe_int (pe_call G__law_next hr (by rfl) m__law_next k__law_next b__law_next v__law_next pass0 (pa_cons (pv 0) (pa_cons pe_int pa_nil)))) (pa_cons (pe_op op_addN (pe_op op_divN (pv 2) pe_int) (pe_call G__law_next hr (by rfl) m__law_next k__law_next b__law_next v__law_next pass0 (pa_cons (pv 0) (pa_cons pe_int pa_nil)))) pa_nil))) (pe_call G__law_next hr (by rfl) m__law_next k__law_next b__law_next v__law_next pass0 (pa_cons (pv 0) (pa_cons pe_int pa_nil))) (fun _ _ => rfl)))
      (pss_one (ps_ret (pe_tup (pa_cons pe_str (pa_cons (pe_op op_addN (pe_meth0 (pv 1) cl_Wheel M_Wheel_now G_Wheel_now (hr.mono (by decide)) b_Wheel_now v_Wheel_now pass0) (pv 5)) pa_nil)))))))))))))), ?_⟩
    refine ⟨_, rfl, s, 8, rfl, by decide, by decide, hs, fun r1 H1 hr1 s1 => ?_⟩
    have w1 := hw.stp s1 hs nq
    obtain ⟨dx, hp1⟩ := w1.ins
    refine ⟨_, rfl, p, dx, _, rfl, hp1, nm_timers, p, q, l, W, rfl, w1, few, fun H2 r ns s2 hr0 hr2 hperm hsort => ?_⟩
    have k2 := s1.same s2
    have nrs : r ≠ s := s1.src.ne hr0
    have hlen : ns.length = W.live.length := by
      have z := hperm.length_eq
      rw [List.length_map] at z
      exact z
    -- the step
    refine ⟨_, rfl, s, 9, rfl, by decide, by decide, k2.src, fun x1 H3 hx1 s3 => ⟨_, rfl, s, 300, rfl, by decide, by decide, s3.src, fun x2 H4 hx2 s4 => ⟨_, rfl, _, rfl, s, 3, rfl, by decide, by decide, s4.src, fun x3 H5 hx3 s5 => ⟨sp, x3, rfl, rfl, trivial, by simp [sizeLine_eq], fun l5 hl5 => ?_⟩⟩⟩⟩
    dsimp only
    have k5 := ((k2.trans s3).trans s4).trans s5
    have hr5 := s5.keep _ _ nrs (s4.keep _ _ nrs (s3.keep _ _ nrs hr2))
    have s6 := same_upd (o := .lst [.int (x1 : Nat), .int (x2 : Nat), .int ((sp + x3 : Nat) : Int)]) hl5
    have nl5 : l5 ≠ s := k5.src.ne hl5
    have e5 := upd_same (H := H5) (a := l5) (o := .lst [.int (x1 : Nat), .int (x2 : Nat), .int ((sp + x3 : Nat) : Int)])
    refine ⟨_, rfl, s, 3, rfl, by decide, by decide, (k5.same s6).src, fun r6 H6 hr6 s7 => ?_⟩
    have k6 := (k5.same s6).trans s7
    have hr6' := s7.keep _ _ nrs (s6 _ _ hr5)
    obtain ⟨st, hst, est⟩ : ∃ st : Nat, st ≤ sp + 302 ∧ ([.int (x1 : Nat), .int (x2 : Nat), .int ((sp + x3 : Nat) : Int)] : List V)[r6]? = some (.int (st : Nat)) := by
      have z : r6 = 0 ∨ r6 = 1 ∨ r6 = 2 := by omega
      rcases z with rfl | rfl | rfl
      · exact ⟨x1, by omega, rfl⟩
      · exact ⟨x2, by omega, rfl⟩
      · exact ⟨sp + x3, by omega, rfl⟩
    refine ⟨l5, _, r6, _, rfl, rfl, SqL.of (s7.keep _ _ nl5 e5), atI_nat est, ?_⟩
    have w6 := hw.stp k6 hs nq
    obtain ⟨dx6, hp6⟩ := w6.ins
    refine ⟨_, rfl, p, dx6, _, rfl, hp6, nm_now, p, q, l, W, rfl, w6, W.tick, 1, rfl, rfl, trivial, _, rfl, W.tick + 1, st, rfl, rfl, trivial, ?_⟩
    dsimp only
    obtain ⟨d, ed, hd1, hd2⟩ : ∃ d, d = W.tick + 1 + st ∧ W.tick < d ∧ d ≤ W.tick + sp + 303 := ⟨_, rfl, by omega, by omega⟩
    rw [← ed]
    clear ed est
    have hE := eqv_nil ns
    apply cut_rest (I := fun H' => Stp s H H')
    · intro fin
      obtain ⟨Hz, ez⟩ : ∃ Hz, Hz = H6 := ⟨_, rfl⟩
      rw [← ez] at k6 hr6' w6 hp6
      rw [← ez]
      by_cases c1 : r1 < 4
      · exact ⟨_, rfl, _, _, rfl, rfl, true, dT (by omega), iteT (fin Hz k6)⟩
      · refine ⟨_, rfl, _, _, rfl, rfl, false, dF (by omega), iteF ?_⟩
        refine ⟨_, rfl, by simp [sizeLine_eq], fun e9 he9 => ?_⟩
        have s9 := same_upd (o := .lst []) he9
        have ee9 := upd_same (H := Hz) (a := e9) (o := .lst [])
        have k9 := k6.same s9
        have hr9 := s9 _ _ hr6'
        generalize upd Hz e9 (.lst []) = H9 at s9 ee9 k9 hr9 ⊢
        refine ⟨.list (ns.map fun x => PyData.int (x : Nat)), .list [], .lst (SqL.of hr9) (dp_nats ns), .lst (SqL.of ee9) .nil, nats_shaped ns, rfl, _, congrArg V.bl hE, ite2 (fun _ => fin H9 k9) (fun e => ?_)⟩
        have hne : ns ≠ [] := fun z => e (decide_eq_true z)
        have hpos : 0 < ns.length := List.length_pos_iff.mpr hne
        have w9 := hw.stp k9 hs nq
        -- one of the live timers
        refine ⟨.ref r, rfl, _, rfl, .ref r, rfl, r, _, rfl, .inl (SqL.of hr9), s, _, rfl, (by rw [List.length_map]; omega), (by rw [List.length_map]; omega), k9.src, fun j H10 hj s10 => ?_⟩
        have k10 := k9.trans s10
        have hr10 := s10.keep _ _ nrs hr9
        have hj2 : j < ns.length := by
          rw [List.length_map] at hj
          omega
        obtain ⟨m, hm, em⟩ : ∃ m ∈ W.live, (ns.map fun x => V.int (x : Nat))[j]? = some (.int (m.num : Nat)) := by
          have hm := hperm.mem_iff.mp (List.getElem_mem hj2)
          obtain ⟨m, h1, h2⟩ := List.mem_map.mp hm
          refine ⟨m, h1, ?_⟩
          rw [List.getElem?_map, List.getElem?_eq_getElem hj2, h2]
          rfl
        refine ⟨r, _, j, _, rfl, rfl, SqL.of hr10, atI_nat em, ?_⟩
        have w10 := hw.stp k10 hs nq
        obtain ⟨dx10, hp10⟩ := w10.ins
        by_cases c4 : r1 = 4
        · refine ⟨_, rfl, rfl, true, dT (by rw [c4]; rfl), iteT ?_⟩
          refine ⟨_, rfl, by simp [sizeLine_eq], fun u hu => ?_⟩
          exact c _ u (.can m.num) (k10.same (same_upd hu)) (k10.free hu) upd_same ⟨m, hm, rfl⟩
        · refine ⟨_, rfl, rfl, false, dF (fun z => c4 (Int.ofNat.inj (V.int.inj z))), iteF ?_⟩
          by_cases c5 : r1 = 5
          · refine ⟨_, rfl, rfl, true, dT (by rw [c5]; rfl), iteT ?_⟩
            refine ⟨_, rfl, _, rfl, by simp [sizeLine_eq], fun u hu => ?_⟩
            exact c _ u (.res m.num d) (k10.same (same_upd hu)) (k10.free hu) upd_same ⟨⟨m, hm, rfl⟩, hd1, hd2⟩
          · refine ⟨_, rfl, rfl, false, dF (fun z => c5 (Int.ofNat.inj (V.int.inj z))), iteF ?_⟩
            refine ⟨_, rfl, s, 40, rfl, by decide, by decide, k10.src, fun y1 H11 hy1 s11 => ⟨1, y1, rfl, rfl, trivial, _, rfl, sp, 2, rfl, rfl, ⟨by decide, by decide⟩, _, rfl, s, 9, rfl, by decide, by decide, s11.src, fun y2 H12 hy2 s12 => ⟨sp / 2, y2, rfl, rfl, trivial, by simp [sizeLine_eq], fun l13 hl13 => ?_⟩⟩⟩
            dsimp only
            have k12 := (k10.trans s11).trans s12
            have s13 := same_upd (o := .lst [.int ((1 + y1 : Nat) : Int), .int ((sp / 2 + y2 : Nat) : Int)]) hl13
            have nl13 : l13 ≠ s := k12.src.ne hl13
            have e13 := upd_same (H := H12) (a := l13) (o := .lst [.int ((1 + y1 : Nat) : Int), .int ((sp / 2 + y2 : Nat) : Int)])
            refine ⟨_, rfl, s, 2, rfl, by decide, by decide, (k12.same s13).src, fun r14 H14 hr14 s14 => ?_⟩
            have k14 := (k12.same s13).trans s14
            obtain ⟨y, hy, ey⟩ : ∃ y : Nat, y ≤ sp / 2 + 40 ∧ ([.int ((1 + y1 : Nat) : Int), .int ((sp / 2 + y2 : Nat) : Int)] : List V)[r14]? = some (.int (y : Nat)) := by
              have z : r14 = 0 ∨ r14 = 1 := by omega
              rcases z with rfl | rfl
              · exact ⟨1 + y1, by omega, rfl⟩
              · exact ⟨sp / 2 + y2, by omega, rfl⟩
            refine ⟨l13, _, r14, _, rfl, rfl, SqL.of (s14.keep _ _ nl13 e13), atI_nat ey, ?_⟩
            have w14 := hw.stp k14 hs nq
            obtain ⟨dx14, hp14⟩ := w14.ins
            refine ⟨_, rfl, p, dx14, _, rfl, hp14, nm_now, p, q, l, W, rfl, w14, _, rfl, W.tick, y, rfl, rfl, trivial, by simp [sizeLine_eq], fun u hu => ?_⟩
            exact c _ u (.adv (W.tick + y)) (k14.same (same_upd hu)) (k14.free hu) upd_same ⟨by omega, by omega⟩
    · intro Hz kz
      refine ⟨_, rfl, _, rfl, sp, 7, rfl, rfl, trivial, _, rfl, s, 40, rfl, by decide, by decide, kz.src, fun y1 H11 hy1 s11 => ⟨sp + 7, y1, rfl, rfl, trivial, by simp [sizeLine_eq], fun l12 hl12 => ?_⟩⟩
      dsimp only
      have k11 := kz.trans s11
      have s12 := same_upd (o := .lst [.non, .non, .int ((sp + 7 + y1 : Nat) : Int)]) hl12
      have nl12 : l12 ≠ s := k11.src.ne hl12
      have e12 := upd_same (H := H11) (a := l12) (o := .lst [.non, .non, .int ((sp + 7 + y1 : Nat) : Int)])
      refine ⟨_, rfl, s, 3, rfl, by decide, by decide, (k11.same s12).src, fun r13 H13 hr13 s13 => ?_⟩
      have k13 := (k11.same s12).trans s13
      obtain ⟨o, ho, eo⟩ : ∃ o : Option Nat, (∀ k, o = some k → sp + 7 ≤ k ∧ k ≤ sp + 46) ∧ ([.non, .non, .int ((sp + 7 + y1 : Nat) : Int)] : List V)[r13]? = some (perV o) := by
        have z : r13 = 0 ∨ r13 = 1 ∨ r13 = 2 := by omega
        rcases z with rfl | rfl | rfl
        · exact ⟨none, (fun k e => by cases e), rfl⟩
        · exact ⟨none, (fun k e => by cases e), rfl⟩
        · exact ⟨some (sp + 7 + y1), (fun k e => by cases e; omega), rfl⟩
      refine ⟨l12, _, r13, _, rfl, rfl, SqL.of (s13.keep _ _ nl12 e12), atI_nat eo, by simp [sizeLine_eq], fun u hu => ?_⟩
      exact c _ u (.put d o) (k13.same (same_upd hu)) (k13.free hu) upd_same ⟨hd1, hd2, ho⟩
end
theorem nat_list {ns : List Int} (h : ∀ y ∈ ns, ∃ x : Nat, y = ((x : Nat) : Int)) : ∃ ds : List Nat, ns = ds.map fun x => ((x : Nat) : Int) := by
  refine ⟨ns.map Int.toNat, ?_⟩
  rw [List.map_map]
  have e := List.map_congr_left (f := id) (g := (fun x : Nat => ((x : Nat) : Int)) ∘ Int.toNat) (l := ns) fun y hy => by
    obtain ⟨x, rfl⟩ := h y hy
    rfl
  rw [List.map_id] at e
  exact e
/-! ### several wheels in one heap -/
/-- lists and tuples stay, but the source -/
def LT (o : HO) : Prop := (∃ xs, o = .lst xs) ∨ ∃ xs, o = .tup xs
def Kp (s : Addr) (H H' : Hp) : Prop := ∀ c o, c ≠ s → LT o → H c = some o → H' c = some o
theorem Kp.refl (s : Addr) (H : Hp) : Kp s H H := fun _ _ _ _ e => e
theorem Kp.trans {s : Addr} {H H1 H2 : Hp} (a : Kp s H H1) (b : Kp s H1 H2) : Kp s H H2 := fun c o n l e => b c o n l (a c o n l e)
theorem kpS {s : Addr} {H H' : Hp} (k : Same H H') : Kp s H H' := fun c o _ _ e => k c o e
theorem Stp.kp {s : Addr} {H H' : Hp} (k : Stp s H H') : Kp s H H' := fun c o n _ e => k.keep c o n e
theorem Wk.kp {C p q l l' s : Addr} {H H' : Hp} {W : WS} (k : Wk p l H H' l') (w : WheelAt C H p q l W) : Kp s H H' := fun c o _ h e => by
  rcases h with ⟨xs, rfl⟩ | ⟨xs, rfl⟩
  · exact k.lst w e
  · exact k.tup w e
theorem LT.lst (xs : List V) : LT (.lst xs) := .inl ⟨xs, rfl⟩
theorem LT.tup (xs : List V) : LT (.tup xs) := .inr ⟨xs, rfl⟩
structure Many (C : Addr) (H0 H : Hp) (s : Addr) (k : Nat) (P Q L : Nat → Addr) (W : Nat → WS) : Prop where
  base : Same H0 H
  s0 : H0 s = none
  src : SrcAt H s
  at_ : ∀ i, i < k → WheelAt C H (P i) (Q i) (L i) (W i)
  p0 : ∀ i, i < k → H0 (P i) = none
  l0 : ∀ i, i < k → H0 (L i) = none
  np : ∀ i j, i < k → j < k → P i = P j → i = j
  nl : ∀ i j, i < k → j < k → L i = L j → i = j
section
variable {C : Addr} {H0 H H' : Hp} {s : Addr} {k : Nat} {P Q L : Nat → Addr} {W : Nat → WS}
theorem words_ne {C H p q l s} {W : WS} (w : WheelAt C H p q l W) (h : SrcAt H s) : q ≠ s := fun z => by
  obtain ⟨x, y, v, e⟩ := h
  have y := w.words
  rw [z, e] at y
  cases hw : W.ws with
  | nil =>
    rw [hw] at y
    cases y
  | cons t ts =>
    rw [hw] at y
    cases t <;> cases y
theorem Many.same (M : Many C H0 H s k P Q L W) (h : Same H H') : Many C H0 H' s k P Q L W := ⟨M.base.trans h, M.s0, M.src.same h, fun i hi => (M.at_ i hi).same h, M.p0, M.l0, M.np, M.nl⟩
theorem Many.draw (M : Many C H0 H s k P Q L W) (h : Stp s H H') : Many C H0 H' s k P Q L W := by
  refine ⟨fun c o e => h.keep _ _ (ne_of_none e M.s0) (M.base _ _ e), M.s0, h.src, fun i hi => ?_, M.p0, M.l0, M.np, M.nl⟩
  have qs := words_ne (M.at_ i hi) M.src
  obtain ⟨x, y, v, ks⟩ := M.src
  exact (M.at_ i hi).frame ks (Ne.symm qs) h.keep
/-- a list that is none of the wheels' own is changed -/
theorem Many.set (M : Many C H0 H s k P Q L W) {R : Addr} {xs ys : List V} (e : H R = some (.lst xs)) (h0 : H0 R = none) (ns : R ≠ s) (nq : ∀ i, i < k → R ≠ Q i) : Many C H0 (upd H R (.lst ys)) s k P Q L W := by
  have kp : ∀ c o, c ≠ R → H c = some o → (upd H R (.lst ys)) c = some o := fun c o n e => by
    rw [upd_ne n]
    exact e
  refine ⟨fun c o e' => kp _ _ (ne_of_none e' h0) (M.base _ _ e'), M.s0, ?_, fun i hi => (M.at_ i hi).frame e (nq i hi) kp, M.p0, M.l0, M.np, M.nl⟩
  obtain ⟨x, y, v, ks⟩ := M.src
  exact ⟨x, y, v, kp _ _ (Ne.symm ns) ks⟩
theorem other_wheel {C H H' p q l l' p2 q2 l2} {W W2 : WS} (w2 : WheelAt C H p2 q2 l2 W2) (w : WheelAt C H p q l W) (k : Wk p l H H' l') (n1 : p2 ≠ p) (n2 : l2 ≠ l) : WheelAt C H' p2 q2 l2 W2 := by
  obtain ⟨dx, hp⟩ := w.ins
  obtain ⟨kvs, hl, _⟩ := w.live
  obtain ⟨dx2, hp2⟩ := w2.ins
  obtain ⟨kvs2, hl2, L2'⟩ := w2.live
  exact ⟨⟨dx2, k.keep _ _ n1 (ne_of hp2 hl (by intro z; cases z)) hp2⟩, k.lst w w2.words, ⟨kvs2, k.keep _ _ (ne_of hl2 hp (by intro z; cases z)) n2 hl2, L2'.frame fun t m e => k.tup w e⟩⟩
/-- one of the wheels is changed -/
theorem Many.go (M : Many C H0 H s k P Q L W) {j : Nat} (hj : j < k) {l' : Addr} {W' : WS} (h : Wk (P j) (L j) H H' l') (w : WheelAt C H' (P j) (Q j) l' W') : Many C H0 H' s k P Q (fun i => if i = j then l' else L i) (fun i => if i = j then W' else W i) := by
  have wj := M.at_ j hj
  have h0l : H0 l' = none := by
    rcases h.new with e | e
    · rw [e]
      exact M.l0 j hj
    · exact M.base.free e
  refine ⟨fun c o e => h.keep _ _ (ne_of_none e (M.p0 j hj)) (ne_of_none e (M.l0 j hj)) (M.base _ _ e), M.s0, ?_, fun i hi => ?_, M.p0, fun i hi => ?_, M.np, fun i i2 hi hi2 e => ?_⟩
  · obtain ⟨x, y, v, ks⟩ := M.src
    exact ⟨x, y, v, h.lst wj ks⟩
  · by_cases c : i = j
    · subst c
      simp only [if_pos]
      exact w
    · simp only [if_neg c]
      exact other_wheel (M.at_ i hi) wj h (fun z => c (M.np i j hi hj z)) (fun z => c (M.nl i j hi hj z))
  · by_cases c : i = j
    · simp only [if_pos c]
      exact h0l
    · simp only [if_neg c]
      exact M.l0 i hi
  · have fresh : ∀ i, i < k → i ≠ j → L i ≠ l' := fun i hi n z => by
      rcases h.new with e | e
      · exact n (M.nl i j hi hj (z.trans e))
      · obtain ⟨kvs, hl, _⟩ := (M.at_ i hi).live
        rw [z, e] at hl
        cases hl
    by_cases c : i = j
    · by_cases c2 : i2 = j
      · rw [c, c2]
      · simp only [if_pos c, if_neg c2] at e
        exact absurd e.symm (fresh i2 hi2 c2)
    · by_cases c2 : i2 = j
      · simp only [if_neg c, if_pos c2] at e
        exact absurd e (fresh i hi c)
      · simp only [if_neg c, if_neg c2] at e
        exact M.nl i i2 hi hi2 e
/-- one more wheel -/
theorem Many.more (M : Many C H0 H s k P Q L W) (h : Same H H') {p q l : Addr} {W' : WS} (hp : H p = none) (hl : H l = none) (w : WheelAt C H' p q l W') : Many C H0 H' s (k + 1) (fun i => if i = k then p else P i) (fun i => if i = k then q else Q i) (fun i => if i = k then l else L i) (fun i => if i = k then W' else W i) := by
  have oldp : ∀ i, i < k → P i ≠ p := fun i hi z => by
    obtain ⟨dx, e⟩ := (M.at_ i hi).ins
    rw [z, hp] at e
    cases e
  have oldl : ∀ i, i < k → L i ≠ l := fun i hi z => by
    obtain ⟨kvs, e, _⟩ := (M.at_ i hi).live
    rw [z, hl] at e
    cases e
  refine ⟨M.base.trans h, M.s0, M.src.same h, fun i hi => ?_, fun i hi => ?_, fun i hi => ?_, fun i j hi hj e => ?_, fun i j hi hj e => ?_⟩
  · by_cases c : i = k
    · subst c
      simp only [if_pos]
      exact w
    · simp only [if_neg c]
      exact (M.at_ i (by omega)).same h
  · by_cases c : i = k
    · simp only [if_pos c]
      exact M.base.free hp
    · simp only [if_neg c]
      exact M.p0 i (by omega)
  · by_cases c : i = k
    · simp only [if_pos c]
      exact M.base.free hl
    · simp only [if_neg c]
      exact M.l0 i (by omega)
  · by_cases c : i = k
    · by_cases c2 : j = k
      · rw [c, c2]
      · simp only [if_pos c, if_neg c2] at e
        exact absurd e.symm (oldp j (by omega))
    · by_cases c2 : j = k
      · simp only [if_neg c, if_pos c2] at e
        exact absurd e (oldp i (by omega))
      · simp only [if_neg c, if_neg c2] at e
        exact M.np i j (by omega) (by omega) e
  · by_cases c : i = k
    · by_cases c2 : j = k
      · rw [c, c2]
      · simp only [if_pos c, if_neg c2] at e
        exact absurd e.symm (oldl j (by omega))
    · by_cases c2 : j = k
      · simp only [if_neg c, if_pos c2] at e
        exact absurd e (oldl i (by omega))
      · simp only [if_neg c, if_neg c2] at e
        exact M.nl i j (by omega) (by omega) e
/-- one is taken that is as it is told -/
theorem Many.wheel (M : Many C H0 H s k P Q L W) {W' : Nat → WS} (h : ∀ i, i < k → W' i = W i) : Many C H0 H s k P Q L W' := ⟨M.base, M.s0, M.src, fun i hi => by rw [h i hi]; exact M.at_ i hi, M.p0, M.l0, M.np, M.nl⟩
end
/-! ### what fired, as data -/
def firedD (f : Nat × List Nat) : PyData := .tuple [.int (f.1 : Nat), .list (f.2.map fun x => PyData.int (x : Nat))]
theorem fired_dp {K : PySem.W.Frag} {r : Addr} {H : Hp} : ∀ {ts : List Addr} {fs : List (Nat × List Nat)}, FiredAt r H ts fs → DpAll K H (ts.map V.ref) (fs.map firedD)
  | [], [], _ => .nil
  | _ :: _, _ :: _, ⟨⟨u, h1, _, h2⟩, h3⟩ => .cons (.tup (SqT.of h1) (.cons (.int _) (.cons (.lst (SqL.of h2) (dp_nats _)) .nil))) (fired_dp h3)
  | [], _ :: _, h => h.elim
  | _ :: _, [], h => h.elim
theorem firedD_lay (f : Nat × List Nat) : (firedD f).canLay0 = true := by
  simp [firedD, PyData.canLay0, PyData.canLayAll0, nats_lay]
theorem fired_lay : ∀ fs : List (Nat × List Nat), PyData.canLayAll0 (fs.map firedD) = true
  | [] => rfl
  | f :: fs => by
    show ((firedD f).canLay0 && PyData.canLayAll0 (fs.map firedD)) = true
    rw [firedD_lay, fired_lay fs]
    rfl
theorem firedD_depth (f : Nat × List Nat) : (firedD f).depth ≤ 2 := by
  have h : (PyData.list (f.2.map fun x => PyData.int (x : Nat))).depth = 1 := by
    show PyData.depthAll _ + 1 = 1
    rw [nats_depth f.2]
  show max (PyData.depth _) (max (PyData.depth (PyData.list (f.2.map fun x => PyData.int (x : Nat)))) (PyData.depthAll [])) + 1 ≤ 2
  rw [h]
  exact Nat.le_refl 2
theorem fired_depth : ∀ fs : List (Nat × List Nat), PyData.depthAll (fs.map firedD) ≤ 2
  | [] => by decide
  | f :: fs => by
    show max (firedD f).depth (PyData.depthAll (fs.map firedD)) ≤ 2
    have h1 := fired_depth fs
    have h2 := firedD_depth f
    omega
theorem fired_shaped (fs : List (Nat × List Nat)) : SeqAt.shaped (.list (fs.map firedD)) = true := by
  have h1 : (PyData.list (fs.map firedD)).canLay0 = true := by
    show PyData.canLayAll0 (fs.map firedD) = true
    exact fired_lay fs
  have h2 : (PyData.list (fs.map firedD)).depth ≤ 64 := by
    show PyData.depthAll (fs.map firedD) + 1 ≤ 64
    have := fired_depth fs
    omega
  unfold SeqAt.shaped
  rw [h1, decide_eq_true h2]
  rfl
/-! ### a call that is made -/
inductive Tl where
  | num (n : Nat)
  | non
  | fs (f : List (Nat × List Nat))
def RetAt (H : Hp) (v : V) : Tl → Prop
  | .num n => v = .int (n : Nat)
  | .non => v = .non
  | .fs f => ∃ r ts, v = .ref r ∧ H r = some (.lst (ts.map V.ref)) ∧ FiredAt r H ts f
theorem RetAt.frame {H H' : Hp} {v : V} (h : ∀ c o, LT o → H c = some o → H' c = some o) : ∀ {tl : Tl}, RetAt H v tl → RetAt H' v tl
  | .num _, e => e
  | .non, e => e
  | .fs _, ⟨r, ts, h1, h2, h3⟩ => ⟨r, ts, h1, h _ _ (.inl ⟨_, rfl⟩) h2, h3.frame (fun t a u e => h _ _ (.inr ⟨_, rfl⟩) e) fun u xs _ e => h _ _ (.inl ⟨_, rfl⟩) e⟩
def tlD : Tl → PyData
  | .num n => .int (n : Nat)
  | .non => .none
  | .fs f => .list (f.map firedD)
theorem ret_dp {K : PySem.W.Frag} {H : Hp} {v : V} : ∀ {tl : Tl}, RetAt H v tl → Dp K H v (tlD tl)
  | .num _, e => by
    rw [show v = _ from e]
    exact .int _
  | .non, e => by
    rw [show v = _ from e]
    exact .non
  | .fs _, ⟨r, ts, h1, h2, h3⟩ => by
    rw [h1]
    exact .lst (SqL.of h2) (fired_dp h3)
theorem tl_lay : ∀ tl : Tl, (tlD tl).canLay0 = true
  | .num _ => rfl
  | .non => rfl
  | .fs f => by
    show PyData.canLayAll0 (f.map firedD) = true
    exact fired_lay f
theorem tl_shaped : ∀ tl : Tl, SeqAt.shaped (tlD tl) = true
  | .num _ => rfl
  | .non => rfl
  | .fs f => fired_shaped f
/-- what a call does to a wheel, and what it returns -/
inductive Did (W : WS) : Cl → Tl → WS → Prop where
  | put (d : Nat) (o : Option Nat) (h1 : W.tick < d) (h2 : ∀ k, o = some k → 1 ≤ k) : Did W (.put d o) (.num W.fol) { W with fol := W.fol + 1, live := W.live ++ [⟨W.fol, d, o, W.tick⟩] }
  | can (n : Nat) (h : ∃ m ∈ W.live, m.num = n) : Did W (.can n) .non { W with live := dropT n W.live }
  | res (m : Tm) (d : Nat) (h : m ∈ W.live) (h1 : W.tick < d) : Did W (.res m.num d) .non { W with live := dropT m.num W.live ++ [⟨m.num, d, m.per, W.tick⟩] }
  | adv (t : Nat) (f : List (Nat × List Nat)) (ms' : List Tm) (h1 : W.tick ≤ t) (h : AdvTo W.b W.ws t W.live f ms') (h2 : total f ≤ 2000) : Did W (.adv t) (.fs f) { W with tick := t, live := ms' }
section
variable {P : Program} {w : World} {K : PySem.W.Frag} {mg : Str → Option Value} {base : Heap}
def spMade63 (C : Addr) : Sp := fun vs H Q _ => ∃ (p u q l : Addr) (W W' : WS) (c : Cl) (tl : Tl), vs = [.ref p, .ref u] ∧ WheelAt C H p q l W ∧ WOk W ∧ W.live.length < 1000 ∧ H u = some (.tup (clV c)) ∧ Did W c tl W' ∧
  ∀ H' l' v, Wk p l H H' l' → WheelAt C H' p q l' W' → RetAt H' v tl → Q v H'
theorem ok_made63 {f C : Addr} {fd : FuncData} (F : Fun K "_law_made" "_law_made" s__law_made f fd) (TW : TxW K mg C) (hP : HasPut P w K mg base 4 C)
    (m4 : HasM P w K mg base 3 C "cancel" ["self", "timer"] [] (spCancel C)) (m5 : HasM P w K mg base 4 C "reset" ["self", "timer", "due"] [] (spReset C)) (m6 : HasM P w K mg base 6 C "advance" ["self", "tick"] [] (spAdvance C)) :
    FnOk P w K mg base CX0 7 f fd ["_law_wheel", "_law_call_here"] (spMade63 C) := by
  have cl_Wheel := TW.cl
  obtain ⟨g0, gd0, gs0, G_Wheel_put, M_Wheel_put, b_Wheel_put, v_Wheel_put, bK_Wheel_put⟩ := hP
  obtain ⟨g4, gd4, gs4, G_Wheel_cancel, M_Wheel_cancel, b_Wheel_cancel, v_Wheel_cancel⟩ := m4
  obtain ⟨g5, gd5, gs5, G_Wheel_reset, M_Wheel_reset, b_Wheel_reset, v_Wheel_reset⟩ := m5
  obtain ⟨g6, gd6, gs6, G_Wheel_advance, M_Wheel_advance, b_Wheel_advance, v_Wheel_advance⟩ := m6
  refine F.ok sc__law_made (fun vs H Q E h => ?_) (fun cdv A outer s0 H vs Q E hr h => ?_)
  · obtain ⟨p, u, q, l, W, W', c, tl, rfl, _⟩ := h
    rfl
  · obtain ⟨p, u, q, l, W, W', cl, tl, rfl, hw, ok, few, hu, did, c⟩ := h
    refine ⟨_, (pss_cons (ps_if (pt_cmpR op_eq (pe_ix (ix_tupK (K := K) rfl) (pv 1) pe_int (fun _ _ => rfl)) pe_str (nomark _))
        (pss_one (ps_ret (pe_methK (pv 0) cl_Wheel M_Wheel_put G_Wheel_put (hr.mono (by decide)) bK_Wheel_put pass0 (pa_cons (pe_ix (ix_tupK (K := K) rfl) (pv 1) pe_int (fun _ _ => rfl)) pa_nil) (pk_cons (pe_ix (ix_tupK (K := K) rfl) (pv 1) pe_int (fun _ _ => rfl)) pk_nil))))
        pss_nil)
      (pss_cons (ps_if (pt_cmpR op_eq (pe_ix (ix_tupK (K := K) rfl) (pv 1) pe_int (fun _ _ => rfl)) pe_str (nomark _))
        (pss_one (ps_ret (pe_meth (pv 0) cl_Wheel M_Wheel_cancel G_Wheel_cancel (hr.mono (by decide)) b_Wheel_cancel v_Wheel_cancel pass0 (pa_cons (pe_ix (ix_tupK (K := K) rfl) (pv 1) pe_int (fun _ _ => rfl)) pa_nil))))
        pss_nil)
      (pss_cons (ps_if (pt_cmpR op_eq (pe_ix (ix_tupK (K := K) rfl) (pv 1) pe_int (fun _ _ => rfl)) pe_str (nomark _))
        (pss_one (ps_ret (pe_meth (pv 0) cl_Wheel M_Wheel_reset G_Wheel_reset (hr.mono (by decide)) b_Wheel_reset v_Wheel_reset pass0 (pa_cons (pe_ix (ix_tupK (K := K) rfl) (pv 1) pe_int (fun _ _ => rfl)) (pa_cons (pe_ix (ix_tupK (K := K) rfl) (pv 1) pe_int (fun _ _ => rfl)) pa_nil)))))
        pss_nil)
      (pss_one (ps_ret (pe_meth (pv 0) cl_Wheel M_Wheel_advance G_Wheel_advance hr b_Wheel_advance v_Wheel_advance pass0 (pa_cons (pe_ix (ix_tupK (K := K) rfl) (pv 1) pe_int (fun _ _ => rfl)) pa_nil))))))), ?_⟩
    obtain ⟨dx, hp⟩ := hw.ins
    have hT : SqT K H u (clV cl) := SqT.of hu
    cases did with
    | put d o h1 h2 =>
      refine ⟨_, rfl, u, _, 0, _, rfl, rfl, hT, atI_nat (j := 0) rfl, rfl, true, dT rfl, iteT ?_⟩
      refine ⟨_, rfl, p, dx, _, rfl, hp, nm_put, _, rfl, u, _, 1, _, rfl, rfl, hT, atI_nat (j := 1) rfl, _, rfl, u, _, 2, _, rfl, rfl, hT, atI_nat (j := 2) rfl, rfl, rfl, ?_⟩
      exact ⟨p, q, l, W, d, o, rfl, hw, ok, few, h1, h2, fun H' k' w' => c H' l _ k' w' rfl⟩
    | can n h =>
      refine ⟨_, rfl, u, _, 0, _, rfl, rfl, hT, atI_nat (j := 0) rfl, rfl, false, dF (fun z => absurd (V.str.inj z) (by decide +kernel)), iteF ?_⟩
      refine ⟨_, rfl, u, _, 0, _, rfl, rfl, hT, atI_nat (j := 0) rfl, rfl, true, dT rfl, iteT ?_⟩
      refine ⟨_, rfl, p, dx, _, rfl, hp, nm_cancel, _, rfl, u, _, 1, _, rfl, rfl, hT, atI_nat (j := 1) rfl, ?_⟩
      exact ⟨p, q, l, W, n, rfl, hw, ok.nd, h, fun H' k' w' => c H' l _ k' w' rfl⟩
    | res m d h h1 =>
      refine ⟨_, rfl, u, _, 0, _, rfl, rfl, hT, atI_nat (j := 0) rfl, rfl, false, dF (fun z => absurd (V.str.inj z) (by decide +kernel)), iteF ?_⟩
      refine ⟨_, rfl, u, _, 0, _, rfl, rfl, hT, atI_nat (j := 0) rfl, rfl, false, dF (fun z => absurd (V.str.inj z) (by decide +kernel)), iteF ?_⟩
      refine ⟨_, rfl, u, _, 0, _, rfl, rfl, hT, atI_nat (j := 0) rfl, rfl, true, dT rfl, iteT ?_⟩
      refine ⟨_, rfl, p, dx, _, rfl, hp, nm_reset, _, rfl, u, _, 1, _, rfl, rfl, hT, atI_nat (j := 1) rfl, _, rfl, u, _, 2, _, rfl, rfl, hT, atI_nat (j := 2) rfl, ?_⟩
      exact ⟨p, q, l, W, m, d, rfl, hw, ok.nd, ok.few, h, h1, fun H' k' w' => c H' l _ k' w' rfl⟩
    | adv t f ms' h1 h h2 =>
      refine ⟨_, rfl, u, _, 0, _, rfl, rfl, hT, atI_nat (j := 0) rfl, rfl, false, dF (fun z => absurd (V.str.inj z) (by decide +kernel)), iteF ?_⟩
      refine ⟨_, rfl, u, _, 0, _, rfl, rfl, hT, atI_nat (j := 0) rfl, rfl, false, dF (fun z => absurd (V.str.inj z) (by decide +kernel)), iteF ?_⟩
      refine ⟨_, rfl, u, _, 0, _, rfl, rfl, hT, atI_nat (j := 0) rfl, rfl, false, dF (fun z => absurd (V.str.inj z) (by decide +kernel)), iteF ?_⟩
      refine ⟨_, rfl, p, dx, _, rfl, hp, nm_advance, _, rfl, u, _, 1, _, rfl, rfl, hT, atI_nat (j := 1) rfl, ?_⟩
      exact ⟨p, q, l, W, t, f, ms', rfl, hw, ok.b2, ok.b64, ok.ne, ok.few, h1, h, h2, fun H' r l' ts k' hr0 er fa w' => c H' l' _ k' w' ⟨r, ts, rfl, er, fa⟩⟩
end
theorem okw_drop {W : WS} {n : Nat} (ok : WOk W) : WOk { W with live := dropT n W.live } := by
  refine ⟨ok.b2, ok.b64, ok.ne, ok.l60, fun m hm => ok.tms m (List.mem_filter.mp hm).1, drop_nodup ok.nd, Nat.le_trans (List.length_filter_le _ _) ok.few⟩
theorem okw_reset {W : WS} {m : Tm} {d : Nat} (ok : WOk W) (hm : m ∈ W.live) (h1 : W.tick < d) (h2 : d < 2 ^ 250) : WOk { W with live := dropT m.num W.live ++ [⟨m.num, d, m.per, W.tick⟩] } := by
  refine ⟨ok.b2, ok.b64, ok.ne, ok.l60, fun m' hm' => ?_, ?_, ?_⟩
  · rcases List.mem_append.mp hm' with hm' | hm'
    · exact ok.tms m' (List.mem_filter.mp hm').1
    · rw [List.mem_singleton.mp hm']
      exact ⟨Nat.le_refl _, h1, h2, (ok.tms m hm).num, (ok.tms m hm).per⟩
  · rw [List.map_append]
    refine L2.nd_snoc (drop_nodup ok.nd) fun h => ?_
    obtain ⟨m', hm', e⟩ := List.mem_map.mp h
    exact drop_not m' hm' e
  · rw [List.length_append]
    have z := drop_len_lt (n := m.num) ⟨m, hm, rfl⟩
    have y := ok.few
    show (dropT m.num W.live).length + 1 ≤ 1000
    omega
/-! ### law k63: what a call does, in wheels that stand alike -/
def shC (s : Nat) : Cl → Cl
  | .put d o => .put (d + s) o
  | .can n => .can n
  | .res n d => .res n (d + s)
  | .adv t => .adv (t + s)
def shTl (s : Nat) : Tl → Tl
  | .fs f => .fs (f.map fun r => (r.1 + s, r.2))
  | tl => tl
theorem shC_zero : ∀ c : Cl, shC 0 c = c
  | .put _ _ => rfl
  | .can _ => rfl
  | .res _ _ => rfl
  | .adv _ => rfl
theorem shTl_zero : ∀ tl : Tl, shTl 0 tl = tl
  | .num _ => rfl
  | .non => rfl
  | .fs f => by
    show Tl.fs (f.map fun r => (r.1 + 0, r.2)) = Tl.fs f
    rw [show (fun r : Nat × List Nat => (r.1 + 0, r.2)) = id from rfl, List.map_id]
theorem adv_keep {b : Nat} {ws : List Bool} {t : Nat} {ms ms' : List Tm} {f : List (Nat × List Nat)} {Pm : Tm → Prop} (h : AdvTo b ws t ms f ms') (hs : ∀ m v k, Pm m → m.per = some k → v ≤ t → Pm ⟨m.num, v + k, some k, v⟩) : (∀ m ∈ ms, Pm m) → ∀ m ∈ ms', Pm m := by
  induction h with
  | done _ => exact fun h => h
  | @step ms ms' at_ rest h1 h2 ok nd few r ih =>
    intro h0
    refine ih fun m hm => ?_
    rcases after_mem nd hm with ⟨z, _⟩ | ⟨m0, z1, z2, k, z3, rfl⟩
    · exact h0 m z
    · exact hs m0 at_ k (h0 m0 z1) z3 h2
/-- a wheel on which calls were made -/
structure In63 (n0 sp i : Nat) (W : WS) : Prop where
  ok : WOk W
  few : W.live.length ≤ i
  tm : ∀ m ∈ W.live, m.due ≤ W.tick + sp + 303 ∧ ∀ k, m.per = some k → sp + 7 ≤ k ∧ k ≤ sp + 46
  tk : W.tick ≤ n0 + i * (sp / 2 + 40)
  fo : W.fol ≤ i
theorem In63.tick {n0 sp i : Nat} {W : WS} (I : In63 n0 sp i W) (hi : i ≤ 60) : W.tick ≤ n0 + 60 * (sp / 2 + 40) := Nat.le_trans I.tk (Nat.add_le_add_left (Nat.mul_le_mul_right _ hi) _)
theorem In63.far {n0 sp i t : Nat} {W : WS} (I : In63 n0 sp i W) (hi : i ≤ 60) (hsp : sp ≤ 10 ^ 30) (hn : n0 < 2 ^ 195) (ht : t ≤ W.tick + sp / 2 + 40) : FarW t W := by
  have h0 := I.tick hi
  refine ⟨I.ok, fun m hm => ?_⟩
  have o := I.ok.tms m hm
  obtain ⟨h1, h2⟩ := I.tm m hm
  refine ⟨Nat.lt_of_le_of_lt o.since o.due, by omega, fun k hk => ?_⟩
  obtain ⟨h3, h4⟩ := h2 k hk
  exact ⟨by omega, by omega⟩
theorem In63.sum {n0 sp i t : Nat} {W : WS} (I : In63 n0 sp i W) (hsp : 20 ≤ sp) (ht : t ≤ W.tick + sp / 2 + 40) : sumF t W.live ≤ 2 * W.live.length := by
  have H : ∀ l : List Tm, (∀ m ∈ l, m ∈ W.live) → sumF t l ≤ 2 * l.length := by
    intro l
    induction l with
    | nil => exact fun _ => Nat.le_refl _
    | cons m l ih =>
      intro hl
      have z := ih fun x hx => hl x (List.mem_cons_of_mem _ hx)
      have hm := hl m (List.mem_cons_self ..)
      have h1 := (I.ok.tms m hm).due
      rw [sumF_cons, List.length_cons]
      have y : frN t m ≤ 2 := by
        unfold frN
        split
        · omega
        · split
          · omega
          · rename_i k hk
            have h4 := ((I.tm m hm).2 k hk).1
            have h5 : (t - m.due) / k < 2 := Nat.div_lt_of_lt_mul (by omega)
            omega
      omega
  exact H W.live fun _ h => h
theorem did_first {n0 sp i : Nat} {W : WS} {c : Cl} (I : In63 n0 sp i W) (hi : i < 60) (hsp1 : 20 ≤ sp) (hsp : sp ≤ 10 ^ 30) (hn : n0 < 2 ^ 195) (hc : ClOk sp W c) : ∃ tl W', Did W c tl W' ∧ In63 n0 sp (i + 1) W' ∧ W'.b = W.b ∧ W'.ws = W.ws := by
  have htk := I.tick (Nat.le_of_lt hi)
  have hmul : i * (sp / 2 + 40) ≤ (i + 1) * (sp / 2 + 40) := Nat.mul_le_mul_right _ (Nat.le_succ i)
  have htk1 := I.tk
  have few := I.few
  cases c with
  | put d o =>
    obtain ⟨h1, h2, h3⟩ := hc
    have hk : ∀ k, o = some k → 1 ≤ k := fun k e => by
      have := h3 k e
      omega
    refine ⟨_, _, .put d o h1 hk, ⟨okw_put I.ok (by omega) h1 (by omega) hk, ?_, fun m hm => ?_, by show W.tick ≤ _; omega, by have := I.fo; show W.fol + 1 ≤ _; omega⟩, rfl, rfl⟩
    · show (W.live ++ [_]).length ≤ i + 1
      rw [List.length_append]
      show W.live.length + 1 ≤ i + 1
      omega
    · rcases List.mem_append.mp hm with z | z
      · exact I.tm m z
      · rw [List.mem_singleton.mp z]
        exact ⟨h2, h3⟩
  | can n =>
    refine ⟨_, _, .can n hc, ⟨okw_drop I.ok, ?_, fun m hm => I.tm m (List.mem_filter.mp hm).1, by show W.tick ≤ _; omega, by have := I.fo; show W.fol ≤ _; omega⟩, rfl, rfl⟩
    have := List.length_filter_le (fun m : Tm => decide (m.num ≠ n)) W.live
    show (dropT n W.live).length ≤ i + 1
    unfold dropT
    omega
  | res n d =>
    obtain ⟨⟨m, hm, rfl⟩, h1, h2⟩ := hc
    refine ⟨_, _, .res m d hm h1, ⟨okw_reset I.ok hm h1 (by omega), ?_, fun m' hm' => ?_, by show W.tick ≤ _; omega, by have := I.fo; show W.fol ≤ _; omega⟩, rfl, rfl⟩
    · show (dropT m.num W.live ++ [_]).length ≤ i + 1
      rw [List.length_append]
      have z := drop_len_lt (n := m.num) ⟨m, hm, rfl⟩
      show (dropT m.num W.live).length + 1 ≤ i + 1
      omega
    · rcases List.mem_append.mp hm' with z | z
      · exact I.tm m' (List.mem_filter.mp z).1
      · rw [List.mem_singleton.mp z]
        exact ⟨h2, (I.tm m hm).2⟩
  | adv t =>
    obtain ⟨h1, h2⟩ := hc
    obtain ⟨f, ms', a1, a2, a3, a4, a5⟩ := (I.far (Nat.le_of_lt hi) hsp hn h2).go h1 (Nat.le_refl t)
    have hs := I.sum hsp1 h2
    refine ⟨_, _, .adv t f ms' h1 a1 (by omega), ⟨a3.ok, (by show ms'.length ≤ i + 1; omega), fun m hm => ?_, ?_, by have := I.fo; show W.fol ≤ _; omega⟩, rfl, rfl⟩
    · exact adv_keep (Pm := fun m => m.due ≤ t + sp + 303 ∧ ∀ k, m.per = some k → sp + 7 ≤ k ∧ k ≤ sp + 46) a1 (fun m v k hP hk hv => ⟨(by have := (hP.2 k hk).2; show v + k ≤ _; omega), fun k' e => by cases e; exact hP.2 k hk⟩) (fun m hm => ⟨Nat.le_trans (I.tm m hm).1 (by omega), (I.tm m hm).2⟩) m hm
    · show t ≤ n0 + (i + 1) * (sp / 2 + 40)
      rw [Nat.succ_mul]
      omega
/-- a wheel that stands as another one, s later -/
structure Al (s : Nat) (W V : WS) : Prop where
  b : V.b = W.b
  ws : V.ws = W.ws
  tick : V.tick = W.tick + s
  fol : V.fol = W.fol
  ok : WOk V
  al : Alike W.b W.ws s W.tick W.live V.live
theorem total_sh (s : Nat) (f : List (Nat × List Nat)) : total (f.map fun r => (r.1 + s, r.2)) = total f := by
  unfold total
  rw [List.map_map]
  rfl
theorem Al.core {s : Nat} {W V : WS} (A : Al s W V) {o : Tm} (ho : o ∈ V.live) : ∃ m ∈ W.live, o.num = m.num ∧ o.due = m.due + s ∧ o.per = m.per := by
  obtain ⟨m, hm, c⟩ := A.al.old ho
  exact ⟨m, hm, core_inj c⟩
theorem Al.len {s : Nat} {W V : WS} (A : Al s W V) (ok : WOk W) : V.live.length = W.live.length := A.al.len ok.nd A.ok.nd
theorem did_alike {n0 sp i s K : Nat} {W W' V : WS} {c : Cl} {tl : Tl} (I : In63 n0 sp i W) (hi : i < 60) (hsp : sp ≤ 10 ^ 30) (hn : n0 < 2 ^ 195) (hs : s < 2 ^ 195) (hc : ClOk sp W c) (hS : Sh W.b s K) (hK : n0 + 61 * (sp + 400) < W.b ^ K) (D : Did W c tl W') (A : Al s W V) :
    ∃ V', Did V (shC s c) (shTl s tl) V' ∧ Al s W' V' := by
  have htk := I.tick (Nat.le_of_lt hi)
  have hb := I.ok.b2
  have hlen := A.len I.ok
  have few := I.few
  have hKd : ∀ m ∈ W.live, m.due < W.b ^ K := fun m hm => by
    have := (I.tm m hm).1
    omega
  have hso : ∀ o ∈ V.live, o.since ≤ W.tick + s := fun o ho => by
    have := (A.ok.tms o ho).since
    rw [A.tick] at this
    exact this
  cases D with
  | put d o h1 h2 =>
    obtain ⟨h3, h4, h5⟩ := hc
    have ht : V.tick < d + s := by
      rw [A.tick]
      omega
    have D2 := Did.put (W := V) (d + s) o ht h2
    have ok2 := okw_put A.ok (by omega) ht (by omega) h2
    rw [A.fol] at D2 ok2
    refine ⟨⟨V.b, V.ws, V.tick, W.fol + 1, V.live ++ [(⟨W.fol, d + s, o, V.tick⟩ : Tm)]⟩, D2, A.b, A.ws, A.tick, rfl, ok2, ?_⟩
    exact A.al.put hS hb (m := ⟨W.fol, d, o, W.tick⟩) (o := ⟨W.fol, d + s, o, V.tick⟩) h1 (by show d < _; omega) rfl A.tick rfl
  | can n h =>
    obtain ⟨m, hm, e⟩ := h
    obtain ⟨o, ho, c⟩ := A.al.new hm
    refine ⟨_, .can n ⟨o, ho, by rw [(core_inj c).1, e]⟩, A.b, A.ws, A.tick, A.fol, okw_drop A.ok, ?_⟩
    exact A.al.filt fun x _ y c => by rw [(core_inj c).1]
  | res m d h h1 =>
    obtain ⟨⟨_, _, _⟩, h3, h4⟩ := hc
    obtain ⟨o, ho, c⟩ := A.al.new h
    obtain ⟨c1, c2, c3⟩ := core_inj c
    have ht : V.tick < d + s := by
      rw [A.tick]
      omega
    have D2 := Did.res (W := V) o (d + s) ho ht
    have ok2 := okw_reset A.ok ho ht (by omega)
    rw [c1, c3] at D2 ok2
    refine ⟨_, D2, A.b, A.ws, A.tick, A.fol, ok2, ?_⟩
    have B := A.al.filt (p := fun x => decide (x.num ≠ m.num)) (q := fun x => decide (x.num ≠ m.num)) fun x _ y c => by rw [(core_inj c).1]
    exact B.put hS hb (m := ⟨m.num, d, m.per, W.tick⟩) (o := ⟨m.num, d + s, m.per, V.tick⟩) h1 (by show d < _; omega) rfl A.tick rfl
  | adv t f ms' h1 h h2 =>
    obtain ⟨h3, h4⟩ := hc
    have far : FarW (t + s) V := ⟨A.ok, fun o ho => by
      obtain ⟨m, hm, c1, c2, c3⟩ := A.core ho
      obtain ⟨z1, z2⟩ := I.tm m hm
      have oo := A.ok.tms o ho
      refine ⟨Nat.lt_of_le_of_lt oo.since oo.due, by omega, fun k hk => ?_⟩
      rw [c3] at hk
      have := z2 k hk
      exact ⟨by omega, by omega⟩⟩
    obtain ⟨f', ms2, a1, a2, a3, a4, a5⟩ := far.go (by rw [A.tick]; omega) (Nat.le_refl _)
    have a1' : AdvTo W.b W.ws (t + s) V.live f' ms2 := by
      have z := a1
      rw [A.b, A.ws] at z
      exact z
    obtain ⟨e1, e2⟩ := alike_adv hS hb h h1 A.al (fun m hm => ⟨(I.ok.tms m hm).due, (I.ok.tms m hm).since, hKd m hm, fun k hk => by
      have := (I.tm m hm).2 k hk
      exact ⟨by omega, by omega⟩⟩) hso a1'
    refine ⟨⟨V.b, V.ws, t + s, V.fol, ms2⟩, Did.adv (W := V) (t + s) (f.map fun r : Nat × List Nat => (r.1 + s, r.2)) ms2 (by rw [A.tick]; omega) (by rw [← e1]; exact a1) (by rw [total_sh]; exact h2), A.b, A.ws, rfl, A.fol, a3.ok, e2⟩
theorem trimN_stop (ws : List Bool) : ∀ n m, trimN ws n = m + 1 → ¬ (1 ≤ m ∧ ws[m]? = ws[m - 1]?)
  | 0, m, h => by cases h
  | n + 1, m, h => by
    unfold trimN at h
    split at h
    · exact trimN_stop ws n m h
    · rename_i c
      have e : n = m := by omega
      rw [← e]
      exact c
theorem trim_twice (ws : List Bool) : trimW (trimW ws) = trimW ws := by
  have hle := trimN_le ws ws.length
  have hl : (trimW ws).length = trimN ws ws.length := by
    unfold trimW
    rw [List.length_take]
    omega
  have e : trimN (trimW ws) (trimW ws).length = (trimW ws).length := by
    rw [hl]
    cases h : trimN ws ws.length with
    | zero => rfl
    | succ m =>
      have z := trimN_stop ws _ m h
      unfold trimN
      rw [if_neg]
      rintro ⟨h1, h2⟩
      refine z ⟨h1, ?_⟩
      unfold trimW at h2
      rw [List.getElem?_take, List.getElem?_take, h, if_pos (by omega), if_pos (by omega)] at h2
      exact h2
  have e2 : trimW (trimW ws) = (trimW ws).take (trimN (trimW ws) (trimW ws).length) := rfl
  rw [e2, e, List.take_length]
/-- a wheel that is made anew stands as the old one -/
theorem Al.again {s : Nat} {W V : WS} {cs : List Cell} (A : Al s W V) (ht : trimW V.ws = V.ws) (hI : IsLists V.b V.ws V.tick V.live cs) : Al s W ⟨V.b, trimW V.ws, V.tick, V.fol, ((toldT V.b V.ws V.tick V.live (cs.map (·.1))).map rowOf).map (rowT V.tick)⟩ := by
  have hd : ∀ m ∈ V.live, V.tick < m.due := fun m hm => (A.ok.tms m hm).due
  obtain ⟨k1, k2⟩ := hI.keys hd
  have hp := told_perm (b := V.b) (ws := V.ws) (t := V.tick) (ms := V.live) k1 k2
  have e : ((toldT V.b V.ws V.tick V.live (cs.map (·.1))).map rowOf).map (rowT V.tick) = (toldT V.b V.ws V.tick V.live (cs.map (·.1))).map (sinT V.tick) := by
    rw [List.map_map]
    rfl
  rw [e, ht]
  have R := alike_restored A.ok.b2 hd hI
  have hn : ((toldT V.b V.ws V.tick V.live (cs.map (·.1))).map (sinT V.tick)).map (·.num) = (toldT V.b V.ws V.tick V.live (cs.map (·.1))).map (·.num) := by
    rw [List.map_map]
    rfl
  refine ⟨A.b, A.ws, A.tick, A.fol, ⟨A.ok.b2, A.ok.b64, A.ok.ne, A.ok.l60, fun m hm => ?_, ?_, ?_⟩, ?_⟩
  · obtain ⟨m0, h0, rfl⟩ := List.mem_map.mp hm
    have o := A.ok.tms m0 (hp.mem_iff.mp h0)
    exact ⟨Nat.le_refl _, o.due, o.big, o.num, o.per⟩
  · show (((toldT V.b V.ws V.tick V.live (cs.map (·.1))).map (sinT V.tick)).map (·.num)).Nodup
    rw [hn]
    exact (hp.map (·.num)).nodup_iff.mpr A.ok.nd
  · show ((toldT V.b V.ws V.tick V.live (cs.map (·.1))).map (sinT V.tick)).length ≤ 1000
    rw [List.length_map, hp.length_eq]
    exact A.ok.few
  · refine A.al.trans ?_
    rw [A.b, A.ws, A.tick] at R
    rw [A.b, A.ws, A.tick]
    exact R
theorem Al.refl {W : WS} (ok : WOk W) : Al 0 W W := ⟨rfl, rfl, rfl, rfl, ok, alike_refl _ _ _ _⟩
/-- the snapshot of a wheel may be made a wheel -/
theorem snap_ok {W : WS} {cs : List Cell} (ok : WOk W) (hI : IsLists W.b W.ws W.tick W.live cs) : SnapOk W.b W.ws W.tick W.fol ((toldT W.b W.ws W.tick W.live (cs.map (·.1))).map rowOf) := by
  have hd : ∀ m ∈ W.live, W.tick < m.due := fun m hm => (ok.tms m hm).due
  obtain ⟨k1, k2⟩ := hI.keys hd
  have hp := told_perm (b := W.b) (ws := W.ws) (t := W.tick) (ms := W.live) k1 k2
  refine ⟨ok.b2, ok.b64, ok.ne, ok.l60, fun r hr => ?_, ?_, ?_⟩
  · obtain ⟨m, hm, rfl⟩ := List.mem_map.mp hr
    have o := ok.tms m (hp.mem_iff.mp hm)
    exact ⟨o.num, o.due, o.per⟩
  · rw [List.map_map]
    have e : ((fun r : RowP => r.1) ∘ rowOf) = fun m => m.num := rfl
    rw [e]
    exact (hp.map (·.num)).nodup_iff.mpr ok.nd
  · rw [List.length_map, hp.length_eq]
    exact ok.few
/-- snapshots of wheels that stand alike are the same -/
theorem Al.snap {W V : WS} {cs cs2 : List Cell} (A : Al 0 W V) (ok : WOk W) (h1 : IsLists W.b W.ws W.tick W.live cs) (h2 : IsLists V.b V.ws V.tick V.live cs2) : snapOf V cs2 = snapOf W cs := by
  have hd : ∀ m ∈ W.live, W.tick < m.due := fun m hm => (ok.tms m hm).due
  obtain ⟨K, hK⟩ : ∃ K, ∀ m ∈ W.live, m.due < W.b ^ K := ⟨250, fun m hm => Nat.lt_of_lt_of_le (ok.tms m hm).big (pow_two_le ok.b2 250)⟩
  have hS : Sh W.b 0 K := ⟨⟨0, rfl⟩⟩
  have h3 := alike_lists hS ok.b2 A.al (fun m hm => ⟨hd m hm, hK m hm⟩) h1
  have et : V.tick = W.tick + 0 := A.tick
  rw [A.b, A.ws, et] at h2
  have ec := h2.uniq h3
  subst ec
  have ht := alike_told A.al (cs2.map (·.1))
  unfold snapOf
  rw [A.b, A.ws, et, A.fol]
  have er : ∀ l : List Tm, l.map rowOf = l.map (coreM 0) := fun l => rfl
  rw [er, er, ht]
  rfl
/-! ### lists of numbers as data -/
theorem eqvA_nats : ∀ {ns ms : List Nat}, PyData.eqvAll (ns.map fun x => PyData.int (x : Nat)) (ms.map fun x => PyData.int (x : Nat)) = true → ns = ms
  | [], [], _ => rfl
  | [], _ :: _, h => by cases h
  | _ :: _, [], h => by cases h
  | n :: ns, m :: ms, h => by
    have h' : (PyData.eqv (.int (n : Nat)) (.int (m : Nat)) && PyData.eqvAll (ns.map fun x => PyData.int (x : Nat)) (ms.map fun x => PyData.int (x : Nat))) = true := h
    rw [Bool.and_eq_true] at h'
    have e : ((n : Nat) : Int) = (m : Nat) := by simpa [PyData.eqv] using h'.1
    rw [eqvA_nats h'.2, Int.ofNat.inj e]
theorem nats_differ {l m : List Nat} (h : l ≠ m) : PyData.eqv (.list (l.map fun y => PyData.int (y : Nat))) (.list (m.map fun y => PyData.int (y : Nat))) = false := by
  cases e : PyData.eqv (.list (l.map fun y => PyData.int (y : Nat))) (.list (m.map fun y => PyData.int (y : Nat))) with
  | false => rfl
  | true => exact absurd (eqvA_nats (show PyData.eqvAll (l.map fun y => PyData.int (y : Nat)) (m.map fun y => PyData.int (y : Nat)) = true from e)) h
/-! ### equal data, equal numbers -/
theorem eqvA_cells : ∀ {cs ds : List Cell}, PyData.eqvAll (cs.map cellD) (ds.map cellD) = true → cs = ds
  | [], [], _ => rfl
  | [], _ :: _, h => by cases h
  | _ :: _, [], h => by cases h
  | c :: cs, d :: ds, h => by
    have h' : (PyData.eqv (cellD c) (cellD d) && PyData.eqvAll (cs.map cellD) (ds.map cellD)) = true := h
    rw [Bool.and_eq_true] at h'
    have h1 : (PyData.eqv (.int (c.1.1 : Nat)) (.int (d.1.1 : Nat)) && (PyData.eqv (.int (c.1.2 : Nat)) (.int (d.1.2 : Nat)) && (PyData.eqvAll (c.2.map fun x => PyData.int (x : Nat)) (d.2.map fun x => PyData.int (x : Nat)) && true))) = true := h'.1
    rw [Bool.and_eq_true, Bool.and_eq_true, Bool.and_eq_true] at h1
    obtain ⟨a1, a2, a3, _⟩ := h1
    have e1 : ((c.1.1 : Nat) : Int) = (d.1.1 : Nat) := by simpa [PyData.eqv] using a1
    have e2 : ((c.1.2 : Nat) : Int) = (d.1.2 : Nat) := by simpa [PyData.eqv] using a2
    rw [eqvA_cells h'.2]
    congr 1
    exact Prod.ext (Prod.ext (Int.ofNat.inj e1) (Int.ofNat.inj e2)) (eqvA_nats a3)
theorem cells_ne {cs ds : List Cell} (h : cs ≠ ds) : PyData.eqv (.list (cs.map cellD)) (.list (ds.map cellD)) = false := by
  cases e : PyData.eqv (.list (cs.map cellD)) (.list (ds.map cellD)) with
  | false => rfl
  | true => exact absurd (eqvA_cells (show PyData.eqvAll (cs.map cellD) (ds.map cellD) = true from e)) h
/-! ### the wheel of a snapshot -/
theorem snapW_ok {b : Nat} {ws : List Bool} {t f : Nat} {rs : List RowP} (h : SnapOk b ws t f rs) (big : ∀ r ∈ rs, r.2.1 < 2 ^ 250) : WOk ⟨b, ws, t, f, rs.map (rowT t)⟩ := by
  refine ⟨h.b2, h.b64, h.ne, h.l60, fun m hm => ?_, ?_, ?_⟩
  · obtain ⟨r, hr, rfl⟩ := List.mem_map.mp hm
    have o := h.rows r hr
    exact ⟨Nat.le_refl _, o.due, big r hr, o.num, o.per⟩
  · show ((rs.map (rowT t)).map (·.num)).Nodup
    rw [List.map_map]
    exact h.nd
  · show (rs.map (rowT t)).length ≤ 1000
    rw [List.length_map]
    exact h.few
/-! ### law k09: snapshots that differ -/
theorem eqv_lvs : ∀ {ws vs : List Bool}, PyData.eqvAll (ws.map lvD) (vs.map lvD) = true → ws = vs
  | [], [], _ => rfl
  | [], _ :: _, h => by cases h
  | _ :: _, [], h => by cases h
  | a :: ws, c :: vs, h => by
    have h' : (PyData.eqv (lvD a) (lvD c) && PyData.eqvAll (ws.map lvD) (vs.map lvD)) = true := h
    rw [Bool.and_eq_true] at h'
    rw [eqv_lvs h'.2]
    congr 1
    have h1 := h'.1
    cases a <;> cases c
    · rfl
    · exact absurd h1 (by decide +kernel)
    · exact absurd h1 (by decide +kernel)
    · rfl
theorem eqv_per : ∀ {o o' : Option Nat}, PyData.eqv (perD o) (perD o') = true → o = o'
  | none, none, _ => rfl
  | none, some _, h => by cases h
  | some _, none, h => by cases h
  | some k, some k', h => by
    have e : ((k : Nat) : Int) = (k' : Nat) := by simpa [PyData.eqv, perD] using h
    rw [Int.ofNat.inj e]
theorem eqv_rows : ∀ {rs qs : List RowP}, PyData.eqvAll (rs.map rowPD) (qs.map rowPD) = true → rs = qs
  | [], [], _ => rfl
  | [], _ :: _, h => by cases h
  | _ :: _, [], h => by cases h
  | r :: rs, q :: qs, h => by
    have h' : (PyData.eqv (rowPD r) (rowPD q) && PyData.eqvAll (rs.map rowPD) (qs.map rowPD)) = true := h
    rw [Bool.and_eq_true] at h'
    have h1 : (PyData.eqv (.int (r.1 : Nat)) (.int (q.1 : Nat)) && (PyData.eqv (.int (r.2.1 : Nat)) (.int (q.2.1 : Nat)) && (PyData.eqv (perD r.2.2) (perD q.2.2) && true))) = true := h'.1
    rw [Bool.and_eq_true, Bool.and_eq_true, Bool.and_eq_true] at h1
    obtain ⟨a1, a2, a3, _⟩ := h1
    have e1 : ((r.1 : Nat) : Int) = (q.1 : Nat) := by simpa [PyData.eqv] using a1
    have e2 : ((r.2.1 : Nat) : Int) = (q.2.1 : Nat) := by simpa [PyData.eqv] using a2
    rw [eqv_rows h'.2]
    congr 1
    exact Prod.ext (Int.ofNat.inj e1) (Prod.ext (Int.ofNat.inj e2) (eqv_per a3))
theorem eqv_snap {b b' t t' f f' : Nat} {ws ws' : List Bool} {rs rs' : List RowP} (h : PyData.eqv (snapD b ws t f rs) (snapD b' ws' t' f' rs') = true) : b = b' ∧ ws = ws' ∧ t = t' ∧ f = f' ∧ rs = rs' := by
  have h1 : (PyData.eqv (.int (b : Nat)) (.int (b' : Nat)) && (PyData.eqvAll (ws.map lvD) (ws'.map lvD) && (PyData.eqv (.int (t : Nat)) (.int (t' : Nat)) && (PyData.eqv (.int (f : Nat)) (.int (f' : Nat)) && (PyData.eqvAll (rs.map rowPD) (rs'.map rowPD) && true))))) = true := h
  rw [Bool.and_eq_true, Bool.and_eq_true, Bool.and_eq_true, Bool.and_eq_true, Bool.and_eq_true] at h1
  obtain ⟨a1, a2, a3, a4, a5, _⟩ := h1
  have e1 : ((b : Nat) : Int) = (b' : Nat) := by simpa [PyData.eqv] using a1
  have e3 : ((t : Nat) : Int) = (t' : Nat) := by simpa [PyData.eqv] using a3
  have e4 : ((f : Nat) : Int) = (f' : Nat) := by simpa [PyData.eqv] using a4
  exact ⟨Int.ofNat.inj e1, eqv_lvs a2, Int.ofNat.inj e3, Int.ofNat.inj e4, eqv_rows a5⟩
/-- a snapshot, told -/
structure Sd where
  b : Nat
  ws : List Bool
  t : Nat
  f : Nat
  rs : List RowP
structure SdOk (d : Sd) : Prop where
  ok : SnapOk d.b d.ws d.t d.f d.rs
  big : ∀ r ∈ d.rs, r.2.1 < 2 ^ 250
def Dif (e d : Sd) : Prop := d.b ≠ e.b ∨ trimW d.ws ≠ e.ws ∨ d.t ≠ e.t ∨ d.f ≠ e.f ∨ ¬ d.rs.Perm e.rs
def whOf (d : Sd) : WS := ⟨d.b, trimW d.ws, d.t, d.f, d.rs.map (rowT d.t)⟩
theorem wh_ok {d : Sd} (h : SdOk d) : WOk (whOf d) := by
  have z := snapW_ok h.ok h.big
  exact ⟨z.b2, z.b64, trim_ne z.ne, Nat.le_trans (trim_len d.ws) z.l60, z.tms, z.nd, z.few⟩
theorem told_rows {W : WS} {cs : List Cell} (ok : WOk W) (hI : IsLists W.b W.ws W.tick W.live cs) : ((toldT W.b W.ws W.tick W.live (cs.map (·.1))).map rowOf).Perm (W.live.map rowOf) := by
  obtain ⟨k1, k2⟩ := hI.keys fun m hm => (ok.tms m hm).due
  exact (told_perm k1 k2).map _
/-- wheels made of what differs are not equal -/
theorem dif_snap {W : WS} {d : Sd} {cs cs2 : List Cell} (ok : WOk W) (hd : SdOk d) (hD : Dif ⟨W.b, W.ws, W.tick, W.fol, W.live.map rowOf⟩ d) (h1 : IsLists W.b W.ws W.tick W.live cs) (h2 : IsLists (whOf d).b (whOf d).ws (whOf d).tick (whOf d).live cs2) :
    PyData.eqv (snapOf (whOf d) cs2) (snapOf W cs) = false ∧ PyData.eqv (snapOf W cs) (snapOf (whOf d) cs2) = false := by
  have key : ¬ ((whOf d).b = W.b ∧ (whOf d).ws = W.ws ∧ (whOf d).tick = W.tick ∧ (whOf d).fol = W.fol ∧ (toldT (whOf d).b (whOf d).ws (whOf d).tick (whOf d).live (cs2.map (·.1))).map rowOf = (toldT W.b W.ws W.tick W.live (cs.map (·.1))).map rowOf) := by
    rintro ⟨e1, e2, e3, e4, e5⟩
    rcases hD with h | h | h | h | h
    · exact h e1
    · exact h e2
    · exact h e3
    · exact h e4
    · refine h ?_
      have p1 := told_rows (wh_ok hd) h2
      rw [e5] at p1
      have p2 := p1.symm.trans (told_rows ok h1)
      have e6 : (whOf d).live.map rowOf = d.rs := by
        show (d.rs.map (rowT d.t)).map rowOf = d.rs
        rw [List.map_map]
        have e7 : (rowOf ∘ rowT d.t) = id := rfl
        rw [e7, List.map_id]
      rw [e6] at p2
      exact p2
  constructor
  · cases e : PyData.eqv (snapOf (whOf d) cs2) (snapOf W cs) with
    | false => rfl
    | true => exact absurd (eqv_snap e) key
  · cases e : PyData.eqv (snapOf W cs) (snapOf (whOf d) cs2) with
    | false => rfl
    | true =>
      obtain ⟨a1, a2, a3, a4, a5⟩ := eqv_snap e
      exact absurd ⟨a1.symm, a2.symm, a3.symm, a4.symm, a5.symm⟩ key
/-! what differs -/
theorem trim_self {ws u : List Bool} (hl : u.length = ws.length) (h : trimW u = ws) : u = ws := by
  have e : trimN u u.length = u.length := by
    have z := congrArg List.length h
    have y := trimN_le u u.length
    unfold trimW at z
    rw [List.length_take] at z
    omega
  unfold trimW at h
  rw [e, List.take_length] at h
  exact h
def flipAt (ws : List Bool) (i : Nat) (h : i < ws.length) : List Bool := ws.take i ++ [!ws[i]] ++ ws.drop (i + 1)
theorem flip_len {ws : List Bool} {i : Nat} (h : i < ws.length) : (flipAt ws i h).length = ws.length := by
  unfold flipAt
  rw [List.length_append, List.length_append, List.length_take, List.length_drop]
  show min i ws.length + 1 + (ws.length - (i + 1)) = ws.length
  omega
theorem flip_ne {ws : List Bool} {i : Nat} (h : i < ws.length) : trimW (flipAt ws i h) ≠ ws := fun e => by
  have e2 := trim_self (flip_len h) e
  have e3 : (flipAt ws i h)[i]? = some (!ws[i]) := by
    unfold flipAt
    rw [List.append_assoc, List.getElem?_append_right (by rw [List.length_take]; omega), List.length_take, Nat.min_eq_left (Nat.le_of_lt h), Nat.sub_self]
    rfl
  rw [e2, List.getElem?_eq_getElem h] at e3
  have e4 := Option.some.inj e3
  cases hc : ws[i] <;> rw [hc] at e4 <;> cases e4
theorem longer_ne (ws : List Bool) : trimW (ws ++ [false, true]) ≠ ws := fun e => by
  have hl : (ws ++ [false, true]).length = ws.length + 2 := by
    rw [List.length_append]
    rfl
  have e1 : trimN (ws ++ [false, true]) (ws.length + 2) = ws.length + 2 := by
    unfold trimN
    rw [if_neg]
    rintro ⟨_, z⟩
    have a1 : (ws ++ [false, true])[ws.length + 1]? = some true := by
      rw [List.getElem?_append_right (by omega), show ws.length + 1 - ws.length = 1 by omega]
      rfl
    have a2 : (ws ++ [false, true])[ws.length + 1 - 1]? = some false := by
      rw [List.getElem?_append_right (by omega), show ws.length + 1 - 1 - ws.length = 0 by omega]
      rfl
    rw [a1, a2] at z
    cases z
  have z := congrArg List.length e
  unfold trimW at z
  rw [hl, e1, List.length_take, hl] at z
  omega
theorem row_other {rs rs' : List RowP} (nd : (rs.map (·.1)).Nodup) {r r' : RowP} (hr : r ∈ rs) (hr' : r' ∈ rs') (e : r'.1 = r.1) (n : r' ≠ r) : ¬ rs'.Perm rs := fun p => by
  have h2 := p.mem_iff.mp hr'
  obtain ⟨i, hi⟩ := List.getElem?_of_mem hr
  obtain ⟨j, hj⟩ := List.getElem?_of_mem h2
  have a1 : (rs.map (·.1))[i]? = some r.1 := by
    rw [List.getElem?_map, hi]
    rfl
  have a2 : (rs.map (·.1))[j]? = some r.1 := by
    rw [List.getElem?_map, hj, ← e]
    rfl
  have z := (List.getElem?_inj (List.getElem?_eq_some_iff.mp a1).1 nd).mp (a1.trans a2.symm)
  rw [z, hj] at hi
  exact n (Option.some.inj hi)
/-! levels told longer -/
theorem trimN_more {ws : List Bool} {x : Bool} (hne : ws ≠ []) (hx : ws[ws.length - 1]? = some x) : trimW (ws ++ [x]) = trimW ws := by
  have hp : 0 < ws.length := List.length_pos_iff.mpr hne
  have hl : (ws ++ [x]).length = ws.length + 1 := by
    rw [List.length_append]
    rfl
  have key : ∀ n, n ≤ ws.length → trimN (ws ++ [x]) n = trimN ws n := by
    intro n
    induction n with
    | zero => exact fun _ => rfl
    | succ n ih =>
      intro h
      unfold trimN
      rw [ih (by omega), List.getElem?_append_left (by omega), List.getElem?_append_left (by omega)]
  have e1 : trimN (ws ++ [x]) (ws.length + 1) = trimN ws ws.length := by
    rw [trimN, if_pos, key _ (Nat.le_refl _)]
    refine ⟨hp, ?_⟩
    rw [List.getElem?_append_right (Nat.le_refl _), Nat.sub_self, List.getElem?_append_left (by omega), hx]
    rfl
  unfold trimW
  rw [hl, e1, List.take_append_of_le_length (trimN_le ws _)]
theorem trim_longer {ws : List Bool} {x : Bool} (hne : ws ≠ []) (h60 : ws.length ≤ 60) (hx : ws[ws.length - 1]? = some x) : trimW ((ws ++ [x, x]).take 60) = trimW ws := by
  have e1 := trimN_more hne hx
  have hne1 : ws ++ [x] ≠ [] := by simp
  have e2 := trimN_more (ws := ws ++ [x]) (x := x) hne1 (by
    rw [List.length_append]
    show (ws ++ [x])[ws.length + 1 - 1]? = some x
    rw [List.getElem?_append_right (by omega), show ws.length + 1 - 1 - ws.length = 0 by omega]
    rfl)
  have e3 : ws ++ [x, x] = ws ++ [x] ++ [x] := by rw [List.append_assoc]; rfl
  by_cases c1 : ws.length ≤ 58
  · rw [List.take_of_length_le (by rw [List.length_append]; show ws.length + 2 ≤ 60; omega), e3, e2, e1]
  · by_cases c2 : ws.length = 59
    · have e4 : (ws ++ [x, x]).take 60 = ws ++ [x] := by
        rw [e3, List.take_append_of_le_length (by rw [List.length_append]; show 60 ≤ ws.length + 1; omega), List.take_of_length_le (by rw [List.length_append]; show ws.length + 1 ≤ 60; omega)]
      rw [e4, e1]
    · have e4 : (ws ++ [x, x]).take 60 = ws := by
        rw [List.take_append_of_le_length (by omega), List.take_of_length_le (by omega)]
      rw [e4]
/-! wheels with the same timers: told alike exactly if they stand alike -/
theorem told_alike {b : Nat} {ws : List Bool} {t : Nat} {ms os : List Tm} {cs ds : List Cell} (dm : ∀ m ∈ ms, t < m.due) (do_ : ∀ m ∈ os, t < m.due) (h1 : IsLists b ws t ms cs) (h2 : IsLists b ws t os ds) (e : (toldT b ws t os (ds.map (·.1))).map (coreM 0) = (toldT b ws t ms (cs.map (·.1))).map (coreM 0)) : Alike b ws 0 t ms os := by
  obtain ⟨k1, k2⟩ := h1.keys dm
  obtain ⟨k3, k4⟩ := h2.keys do_
  have inv : ∀ (c : Bool) (l : List Tm), deq (fun _ => c) (deq (fun _ => c) l) = l := fun c l => by
    rw [deq_const, deq_const]
    cases c with
    | true =>
      show l.reverse.reverse = l
      rw [List.reverse_reverse]
    | false => rfl
  have none_ : ∀ (l : List Tm) (ks : List (Nat × Nat)) (p : Nat × Nat), (∀ m ∈ l, placeT b t m.due ∈ ks) → p ∉ ks → stM b ws t l p = [] := fun l ks p hk hp => List.eq_nil_iff_forall_not_mem.mpr fun m hm => hp (by
    obtain ⟨a1, a2⟩ := mem_st.mp hm
    rw [← a2]
    exact hk m a1)
  refine ⟨fun p => ?_⟩
  have f := core_filter (s := 0) (p := fun m => decide (placeT b t m.due = p)) (q := fun m => decide (placeT b t m.due = p)) e fun x _ y c => by rw [(core_inj c).2.1, Nat.add_zero]
  rw [told_part p _ k3, told_part p _ k1] at f
  have g : ∀ (l : List Tm) (ks : List (Nat × Nat)), (∀ m ∈ l, placeT b t m.due ∈ ks) → (if p ∈ ks then deq (fun _ => wordAt ws p.1) (stM b ws t l p) else []) = deq (fun _ => wordAt ws p.1) (stM b ws t l p) := fun l ks hk => by
    by_cases c : p ∈ ks
    · rw [if_pos c]
    · rw [if_neg c, none_ l ks p hk c, deq_const]
      cases wordAt ws p.1 <;> rfl
  rw [g os _ k4, g ms _ k2] at f
  have z := core_deq (s := 0) (wordAt ws p.1) f
  rw [inv, inv] at z
  rw [Nat.add_zero]
  exact z
theorem cells_alike {b : Nat} {ws : List Bool} {t : Nat} {ms os : List Tm} {cs : List Cell} (dm : ∀ m ∈ ms, t < m.due) (do_ : ∀ m ∈ os, t < m.due) (n1 : (ms.map (·.num)).Nodup) (pc : (os.map (coreM 0)).Perm (ms.map (coreM 0))) (h1 : IsLists b ws t ms cs) (h2 : IsLists b ws t os cs) : Alike b ws 0 t ms os := by
  obtain ⟨k1, k2⟩ := h1.keys dm
  obtain ⟨k3, k4⟩ := h2.keys do_
  have det : ∀ {a c : List Tm}, (∀ o ∈ a, o ∈ os) → (∀ m ∈ c, m ∈ ms) → a.map (·.num) = c.map (·.num) → a.map (coreM 0) = c.map (coreM 0) := by
    intro a
    induction a with
    | nil =>
      intro c _ _ e
      cases c with
      | nil => rfl
      | cons m c => cases e
    | cons o a ih =>
      intro c ha hc e
      cases c with
      | nil => cases e
      | cons m c =>
        rw [List.map_cons, List.map_cons] at e
        obtain ⟨e1, e2⟩ := List.cons.inj e
        rw [List.map_cons, List.map_cons, ih (fun x hx => ha x (List.mem_cons_of_mem _ hx)) (fun x hx => hc x (List.mem_cons_of_mem _ hx)) e2]
        congr 1
        have ho := pc.mem_iff.mp (List.mem_map.mpr ⟨o, ha o (List.mem_cons_self ..), rfl⟩)
        obtain ⟨m', hm', em⟩ := List.mem_map.mp ho
        have hm := hc m (List.mem_cons_self ..)
        have en : m'.num = m.num := by
          have z := congrArg Prod.fst em
          have z' : m'.num = o.num := z
          rw [z', e1]
        have key : m' = m := by
          obtain ⟨i, hi⟩ := List.getElem?_of_mem hm'
          obtain ⟨j, hj⟩ := List.getElem?_of_mem hm
          have a1 : (ms.map (·.num))[i]? = some m.num := by rw [List.getElem?_map, hi, ← en]; rfl
          have a2 : (ms.map (·.num))[j]? = some m.num := by rw [List.getElem?_map, hj]; rfl
          have z := (List.getElem?_inj (List.getElem?_eq_some_iff.mp a1).1 n1).mp (a1.trans a2.symm)
          rw [z, hj] at hi
          exact (Option.some.inj hi).symm
        rw [← em, key]
  refine ⟨fun p => ?_⟩
  rw [Nat.add_zero]
  refine det (fun o ho => (mem_st.mp ho).1) (fun m hm => (mem_st.mp hm).1) ?_
  by_cases c : p ∈ cs.map (·.1)
  · obtain ⟨c0, hc0, e0⟩ := List.mem_map.mp c
    rw [← e0, ← h1.at_ dm hc0, ← h2.at_ do_ hc0]
  · have none_ : ∀ (l : List Tm), (∀ m ∈ l, placeT b t m.due ∈ cs.map (·.1)) → stM b ws t l p = [] := fun l hk => List.eq_nil_iff_forall_not_mem.mpr fun m hm => c (by
      obtain ⟨a1, a2⟩ := mem_st.mp hm
      rw [← a2]
      exact hk m a1)
    rw [none_ os k4, none_ ms k2]
/-- == by the snapshots says what == of the lists says -/
theorem eq_both {W V : WS} {cs ds : List Cell} (hb : V.b = W.b) (hw : V.ws = W.ws) (ht : V.tick = W.tick) (hf : V.fol = W.fol) (ok : WOk W) (ok2 : WOk V) (pc : (V.live.map (coreM 0)).Perm (W.live.map (coreM 0))) (h1 : IsLists W.b W.ws W.tick W.live cs) (h2 : IsLists V.b V.ws V.tick V.live ds) :
    PyData.eqv (snapOf V ds) (snapOf W cs) = PyData.eqv (.list (ds.map cellD)) (.list (cs.map cellD)) := by
  have dm : ∀ m ∈ W.live, W.tick < m.due := fun m hm => (ok.tms m hm).due
  have dv : ∀ m ∈ V.live, W.tick < m.due := fun m hm => by
    rw [← ht]
    exact (ok2.tms m hm).due
  have h2' : IsLists W.b W.ws W.tick V.live ds := by
    have z := h2
    rw [hb, hw, ht] at z
    exact z
  have er : ∀ l : List Tm, l.map rowOf = l.map (coreM 0) := fun l => rfl
  have snapE : ∀ l : List RowP, snapD V.b V.ws V.tick V.fol l = snapD W.b W.ws W.tick W.fol l := fun l => by rw [hb, hw, ht, hf]
  have i1 : PyData.eqv (snapOf V ds) (snapOf W cs) = true → ds = cs := fun e => by
    obtain ⟨_, _, _, _, e5⟩ := eqv_snap e
    rw [er, er, hb, hw, ht] at e5
    have A := told_alike dm dv h1 h2' e5
    obtain ⟨K, hK⟩ : ∃ K, ∀ m ∈ W.live, m.due < W.b ^ K := ⟨250, fun m hm => Nat.lt_of_lt_of_le (ok.tms m hm).big (pow_two_le ok.b2 250)⟩
    have h3 := alike_lists (s := 0) (K := K) ⟨⟨0, rfl⟩⟩ ok.b2 A (fun m hm => ⟨dm m hm, hK m hm⟩) h1
    exact h2'.uniq h3
  by_cases c : ds = cs
  · subst c
    have A := cells_alike dm dv ok.nd pc h1 h2'
    have t := alike_told A (ds.map (·.1))
    have e : snapOf V ds = snapOf W ds := by
      unfold snapOf
      rw [snapE, hb, hw, ht, er, er]
      rw [Nat.add_zero] at t
      rw [t]
    rw [e, SeqAt.eqv_refl (snapOf W ds) (snap_lay _ _ _ _ _), SeqAt.eqv_refl _ (show (PyData.list (ds.map cellD)).canLay0 = true from cells_lay ds)]
  · rw [cells_ne c]
    cases e : PyData.eqv (snapOf V ds) (snapOf W cs) with
    | false => rfl
    | true => exact absurd (i1 e) c
/-! ### a base that is not 33 -/
section
variable {P : Program} {w : World} {K : PySem.W.Frag} {mg : Str → Option Value} {base : Heap}
def spBase9 : Sp := fun vs H Q _ => ∃ (p : Addr), vs = [.ref p] ∧ SrcAt H p ∧ ∀ (b : Nat) H', 2 ≤ b → b ≤ 64 → b ≠ 33 → Stp p H H' → Q (.int (b : Nat)) H'
theorem ok_base9 {f : Addr} {fd : FuncData} (F : Fun K "_law_base" "_law_base" s__law_base f fd) (h1 : Has P w K mg base 2 "_law_next" ["_law_source_here", "_law_many"] [] spNext) : FnOk P w K mg base CX0 3 f fd ["_law_source_here"] spBase9 := by
  obtain ⟨f__law_next, fd__law_next, ds__law_next, G__law_next, m__law_next, k__law_next, b__law_next, v__law_next⟩ := h1
  refine F.ok sc__law_base (fun vs H Q E h => ?_) (fun cdv A outer s H vs Q E hr h => ?_)
  · obtain ⟨p, rfl, _⟩ := h
    rfl
  · obtain ⟨p, rfl, hs, q⟩ := h
    refine ⟨_, (pss_one (ps_ret (pe_ix (ix_listK (K := K) rfl) (pe_lst (pa_cons pe_int (pa_cons pe_int (pa_cons pe_int (pa_cons pe_int (pa_cons pe_int (pa_cons pe_int (pa_cons pe_int (pa_cons pe_int (pa_cons pe_int pa_nil)))))))))) (pe_call G__law_next hr (by rfl) m__law_next k__law_next b__law_next v__law_next pass0 (pa_cons (pv 0) (pa_cons pe_int pa_nil))) (fun _ _ => rfl)))), ?_⟩
    refine ⟨by simp [sizeLine_eq], fun l hl => ?_⟩
    have s1 := same_upd (o := .lst [.int 2, .int 3, .int 4, .int 5, .int 7, .int 10, .int 16, .int 63, .int 64]) hl
    have nlp : l ≠ p := fun e => by
      obtain ⟨x, y, z, h⟩ := hs
      rw [e, h] at hl
      cases hl
    refine ⟨_, rfl, p, 9, rfl, by decide, by decide, hs.same s1, fun r H' hr9 st => ?_⟩
    have eL := st.keep _ _ nlp upd_same
    have hst : Stp p H H' := (hs.stp_same s1).trans st
    have hr : r < 9 := by omega
    have all : ∀ j : Nat, j < 9 → ∃ b : Nat, ([.int 2, .int 3, .int 4, .int 5, .int 7, .int 10, .int 16, .int 63, .int 64] : List V)[j]? = some (.int (b : Nat)) ∧ 2 ≤ b ∧ b ≤ 64 ∧ b ≠ 33 := by
      intro j hj
      match j, hj with
      | 0, _ => exact ⟨2, rfl, by decide, by decide, by decide⟩
      | 1, _ => exact ⟨3, rfl, by decide, by decide, by decide⟩
      | 2, _ => exact ⟨4, rfl, by decide, by decide, by decide⟩
      | 3, _ => exact ⟨5, rfl, by decide, by decide, by decide⟩
      | 4, _ => exact ⟨7, rfl, by decide, by decide, by decide⟩
      | 5, _ => exact ⟨10, rfl, by decide, by decide, by decide⟩
      | 6, _ => exact ⟨16, rfl, by decide, by decide, by decide⟩
      | 7, _ => exact ⟨63, rfl, by decide, by decide, by decide⟩
      | 8, _ => exact ⟨64, rfl, by decide, by decide, by decide⟩
      | j + 9, h => omega
    obtain ⟨b, eb, b2, b64, b33⟩ := all r hr
    exact ⟨l, _, r, .int (b : Nat), rfl, rfl, SqL.of eL, atI_nat eb, q b H' b2 b64 b33 hst⟩
end
/-! ### law k09: snapshots that differ in one thing -/
def SdsAt (K : PySem.W.Frag) (H : Hp) : List Addr → List Sd → Prop
  | [], [] => True
  | u :: us, d :: ds => SnapAt K H u d.b d.ws d.t d.f d.rs ∧ SdsAt K H us ds
  | _, _ => False
theorem SdsAt.same {K : PySem.W.Frag} {H H' : Hp} (s : Same H H') : ∀ {us : List Addr} {ds : List Sd}, SdsAt K H us ds → SdsAt K H' us ds
  | [], [], _ => trivial
  | _ :: _, _ :: _, ⟨h1, h2⟩ => ⟨h1.same s, h2.same s⟩
  | [], _ :: _, h => h.elim
  | _ :: _, [], h => h.elim
theorem SdsAt.app {K : PySem.W.Frag} {H : Hp} {u : Addr} {d : Sd} (h0 : SnapAt K H u d.b d.ws d.t d.f d.rs) : ∀ {us : List Addr} {ds : List Sd}, SdsAt K H us ds → SdsAt K H (us ++ [u]) (ds ++ [d])
  | [], [], _ => ⟨h0, trivial⟩
  | _ :: _, _ :: _, ⟨h1, h2⟩ => ⟨h1, h2.app h0⟩
  | [], _ :: _, h => h.elim
  | _ :: _, [], h => h.elim
theorem SdsAt.len {K : PySem.W.Frag} {H : Hp} : ∀ {us : List Addr} {ds : List Sd}, SdsAt K H us ds → us.length = ds.length
  | [], [], _ => rfl
  | _ :: _, _ :: _, h => congrArg Nat.succ h.2.len
  | [], _ :: _, h => h.elim
  | _ :: _, [], h => h.elim
theorem SdsAt.item {K : PySem.W.Frag} {H : Hp} : ∀ {us : List Addr} {ds : List Sd} {i : Nat} {x : V}, SdsAt K H us ds → (us.map V.ref)[i]? = some x → ∃ u d, x = .ref u ∧ ds[i]? = some d ∧ SnapAt K H u d.b d.ws d.t d.f d.rs
  | u :: us, d :: ds, 0, x, h, e => ⟨u, d, (Option.some.inj e).symm, rfl, h.1⟩
  | u :: us, d :: ds, i + 1, x, h, e => SdsAt.item (i := i) h.2 e
  | [], [], _, _, _, e => by cases e
  | [], _ :: _, _, _, h, _ => h.elim
  | _ :: _, [], _, _, h, _ => h.elim
/-- the list of what was found, which alone is changed -/
structure Fnd (K : PySem.W.Frag) (H0 H : Hp) (s D : Addr) (e : Sd) (us : List Addr) (ds : List Sd) : Prop where
  keep : ∀ c o, c ≠ s → H0 c = some o → H c = some o
  src : SrcAt H s
  new : H0 D = none
  ns : D ≠ s
  at_ : H D = some (.lst (us.map V.ref))
  sds : ∀ H', (∀ c o, c ≠ D → c ≠ s → H c = some o → H' c = some o) → SdsAt K H' us ds
  ok : ∀ d ∈ ds, SdOk d ∧ Dif e d
section
variable {K : PySem.W.Frag} {H0 H H' : Hp} {s D : Addr} {e : Sd} {us : List Addr} {ds : List Sd}
theorem Fnd.same (F : Fnd K H0 H s D e us ds) (k : Same H H') : Fnd K H0 H' s D e us ds :=
  ⟨fun c o n h => k _ _ (F.keep c o n h), F.src.same k, F.new, F.ns, k _ _ F.at_, fun G hG => F.sds G fun c o n m h => hG c o n m (k _ _ h), F.ok⟩
theorem Fnd.draw (F : Fnd K H0 H s D e us ds) (k : Stp s H H') : Fnd K H0 H' s D e us ds :=
  ⟨fun c o n h => k.keep _ _ n (F.keep c o n h), k.src, F.new, F.ns, k.keep _ _ F.ns F.at_, fun G hG => F.sds G fun c o n m h => hG c o n m (k.keep _ _ m h), F.ok⟩
theorem Fnd.app (F : Fnd K H0 H s D e us ds) {u : Addr} {d : Sd} (hu : ∀ H', (∀ c o, c ≠ D → c ≠ s → H c = some o → H' c = some o) → SnapAt K H' u d.b d.ws d.t d.f d.rs) (ok : SdOk d ∧ Dif e d) : Fnd K H0 (upd H D (.lst (us.map V.ref ++ [.ref u]))) s D e (us ++ [u]) (ds ++ [d]) := by
  have kp : ∀ c o, c ≠ D → H c = some o → (upd H D (.lst (us.map V.ref ++ [.ref u]))) c = some o := fun c o n h => by
    rw [upd_ne n]
    exact h
  refine ⟨fun c o n h => kp _ _ (ne_of_none h F.new) (F.keep c o n h), ?_, F.new, F.ns, by rw [upd_same, List.map_append]; rfl, fun G hG => ?_, fun x hx => ?_⟩
  · obtain ⟨x, y, z, h⟩ := F.src
    exact ⟨x, y, z, kp _ _ (Ne.symm F.ns) h⟩
  · have k2 : ∀ c o, c ≠ D → c ≠ s → H c = some o → G c = some o := fun c o n m h => hG c o n m (kp _ _ n h)
    exact (F.sds G k2).app (hu G k2)
  · rcases List.mem_append.mp hx with z | z
    · exact F.ok x z
    · rw [List.mem_singleton.mp z]
      exact ok
theorem snap_kept {u q R : Addr} {ts : List Addr} {b t f : Nat} {ws : List Bool} {rs : List RowP} {xs : List V} (eD : H D = some (.lst xs)) (hs : SrcAt H s) (h1 : H u = some (.tup [.int (b : Nat), .ref q, .int (t : Nat), .int (f : Nat), .ref R])) (h2 : H q = some (.lst (ws.map lvV))) (h3 : H R = some (.lst (ts.map V.ref))) (h4 : RpAt H ts rs) (n1 : q ≠ D) (n2 : q ≠ s) (n3 : R ≠ D) (n4 : R ≠ s) (G : Hp) (hG : ∀ c o, c ≠ D → c ≠ s → H c = some o → G c = some o) : SnapAt K G u b ws t f rs := by
  obtain ⟨x, y, z, es⟩ := hs
  have kt : ∀ t' xs, H t' = some (.tup xs) → G t' = some (.tup xs) := fun t' xs e => hG _ _ (ne_of e eD (by intro z; cases z)) (ne_of e es (by intro z; cases z)) e
  exact ⟨⟨q, R, ts, kt _ _ h1, SqL.of (hG _ _ n1 n2 h2), SqL.of (hG _ _ n3 n4 h3), h4.frame kt⟩⟩
end
theorem rp_app {H : Hp} : ∀ {ts us : List Addr} {rs qs : List RowP}, RpAt H ts rs → RpAt H us qs → RpAt H (ts ++ us) (rs ++ qs)
  | [], _, [], _, _, h => h
  | _ :: _, _, _ :: _, _, ⟨h1, h2⟩, h => ⟨h1, rp_app h2 h⟩
  | [], _, _ :: _, _, h, _ => h.elim
  | _ :: _, _, [], _, h, _ => h.elim
theorem rp_take {H : Hp} : ∀ {ts : List Addr} {rs : List RowP} (j : Nat), RpAt H ts rs → RpAt H (ts.take j) (rs.take j)
  | _, _, 0, _ => by
    rw [List.take_zero, List.take_zero]
    trivial
  | [], [], _ + 1, _ => trivial
  | _ :: _, _ :: _, j + 1, ⟨h1, h2⟩ => ⟨h1, rp_take j h2⟩
  | [], _ :: _, _ + 1, h => h.elim
  | _ :: _, [], _ + 1, h => h.elim
theorem rp_drop {H : Hp} : ∀ {ts : List Addr} {rs : List RowP} (j : Nat), RpAt H ts rs → RpAt H (ts.drop j) (rs.drop j)
  | _, _, 0, h => h
  | [], [], _ + 1, _ => trivial
  | _ :: _, _ :: _, j + 1, ⟨_, h2⟩ => rp_drop j h2
  | [], _ :: _, _ + 1, h => h.elim
  | _ :: _, [], _ + 1, h => h.elim
def repAt (rs : List RowP) (j : Nat) (r : RowP) : List RowP := rs.take j ++ [r] ++ rs.drop (j + 1)
theorem rep_split {rs : List RowP} {j : Nat} {r : RowP} (h : rs[j]? = some r) : rs = rs.take j ++ r :: rs.drop (j + 1) := by
  have hj := (List.getElem?_eq_some_iff.mp h).1
  have e : rs.drop j = r :: rs.drop (j + 1) := by
    rw [List.drop_eq_getElem_cons hj]
    rw [List.getElem?_eq_getElem hj] at h
    rw [Option.some.inj h]
  rw [← e, List.take_append_drop]
theorem rep_ok {b : Nat} {ws : List Bool} {t f : Nat} {rs : List RowP} {j : Nat} {r r' : RowP} (h : SnapOk b ws t f rs) (hr : rs[j]? = some r) (e : r'.1 = r.1) (ok : RowOk t f r') : SnapOk b ws t f (repAt rs j r') := by
  have hs := rep_split hr
  refine ⟨h.b2, h.b64, h.ne, h.l60, fun x hx => ?_, ?_, ?_⟩
  · unfold repAt at hx
    rcases List.mem_append.mp hx with z | z
    · rcases List.mem_append.mp z with z | z
      · exact h.rows x (List.mem_of_mem_take z)
      · rw [List.mem_singleton.mp z]
        exact ok
    · exact h.rows x (List.mem_of_mem_drop z)
  · have e2 : (repAt rs j r').map (·.1) = rs.map (·.1) := by
      have e3 : rs.map (·.1) = (rs.take j ++ r :: rs.drop (j + 1)).map (·.1) := congrArg _ hs
      rw [e3]
      unfold repAt
      simp only [List.map_append, List.map_cons, List.map_nil, List.append_assoc, List.cons_append, List.nil_append, e]
    rw [e2]
    exact h.nd
  · have hj := (List.getElem?_eq_some_iff.mp hr).1
    have := h.few
    unfold repAt
    rw [List.length_append, List.length_append, List.length_take, List.length_drop]
    show min j rs.length + 1 + (rs.length - (j + 1)) ≤ 1000
    omega
theorem del_ok {b : Nat} {ws : List Bool} {t f : Nat} {rs : List RowP} {j : Nat} {r : RowP} (h : SnapOk b ws t f rs) (hr : rs[j]? = some r) : SnapOk b ws t f (rs.take j ++ rs.drop (j + 1)) ∧ ¬ (rs.take j ++ rs.drop (j + 1)).Perm rs := by
  have hs := rep_split hr
  have hj := (List.getElem?_eq_some_iff.mp hr).1
  have hl : (rs.take j ++ rs.drop (j + 1)).length + 1 = rs.length := by
    rw [List.length_append, List.length_take, List.length_drop]
    omega
  have hsub : (rs.take j ++ rs.drop (j + 1)).Sublist rs := by
    have z : (rs.take j ++ rs.drop (j + 1)).Sublist (rs.take j ++ r :: rs.drop (j + 1)) := List.Sublist.append (List.Sublist.refl _) (List.sublist_cons_self _ _)
    rw [← hs] at z
    exact z
  refine ⟨⟨h.b2, h.b64, h.ne, h.l60, fun x hx => h.rows x (hsub.subset hx), List.Nodup.sublist (hsub.map _) h.nd, by have := h.few; omega⟩, fun p => ?_⟩
  have := p.length_eq
  omega
theorem eqv_norows (rs : List RowP) : PyData.eqv (.list (rs.map rowPD)) (.list []) = decide (rs = []) := by
  cases rs with
  | nil => rfl
  | cons n ns => rfl
theorem rows_shapedP (rs : List RowP) : SeqAt.shaped (.list (rs.map rowPD)) = true := by
  have h1 : (PyData.list (rs.map rowPD)).canLay0 = true := by
    show PyData.canLayAll0 (rs.map rowPD) = true
    exact rowp_lay rs
  have h2 : (PyData.list (rs.map rowPD)).depth ≤ 64 := by
    show PyData.depthAll _ + 1 ≤ 64
    have := rowp_depth rs
    omega
  unfold SeqAt.shaped
  rw [h1, decide_eq_true h2]
  rfl
/-! ### law k09: snapshots that differ in one thing: the def -/
section
variable {P : Program} {w : World} {K : PySem.W.Frag} {mg : Str → Option Value} {base : Heap}
def spOthers (K : PySem.W.Frag) : Sp := fun vs H Q _ => ∃ (s u q R : Addr) (ts : List Addr) (e : Sd), vs = [.ref s, .ref u] ∧ SrcAt H s ∧ H u = some (.tup [.int (e.b : Nat), .ref q, .int (e.t : Nat), .int (e.f : Nat), .ref R]) ∧ H q = some (.lst (e.ws.map lvV)) ∧ q ≠ s ∧ H R = some (.lst (ts.map V.ref)) ∧ R ≠ s ∧ RpAt H ts e.rs ∧
  SdOk e ∧ e.b ≠ 33 ∧ e.rs.length ≤ 100 ∧ (∀ r ∈ e.rs, r.2.1 < 2 ^ 240) ∧ ∀ H' D us ds, Stp s H H' → H D = none → H' D = some (.lst (us.map V.ref)) → SdsAt K H' us ds → (∀ d ∈ ds, SdOk d ∧ Dif e d) → us.length ≤ 10 → Q (.ref D) H'
theorem ok_others {f : Addr} {fd : FuncData} (F : Fun K "_law_others" "_law_others" s__law_others f fd) (T : Tx K mg) (h1 : Has P w K mg base 2 "_law_next" ["_law_source_here", "_law_many"] [] spNext) : FnOk P w K mg base CX0 3 f fd ["_law_source_here", "_law_told"] (spOthers K) := by
  obtain ⟨f__law_next, fd__law_next, ds__law_next, G__law_next, m__law_next, k__law_next, b__law_next, v__law_next⟩ := h1
  refine F.ok sc__law_others (fun vs H Q E h => ?_) (fun cdv A outer s0 H vs Q E hr h => ?_)
  · obtain ⟨s, u, q, R, ts, e, rfl, _⟩ := h
    rfl
  · obtain ⟨s, u, q, R, ts, e, rfl, hs, hT, hq, nqs, hR, nRs, hP, eok, h33, few, big, c⟩ := h
    refine ⟨_, (pss_cons (ps_asg (pv 1) (pg_tupK (K := K) (n := 5) rfl rfl (pgs_cons (pg_name (i := 2) sc__law_others.nd rfl (.inl rfl)) (pgs_cons (pg_name (i := 3) sc__law_others.nd rfl (.inl rfl)) (pgs_cons (pg_name (i := 4) sc__law_others.nd rfl (.inl rfl)) (pgs_cons (pg_name (i := 5) sc__law_others.nd rfl (.inl rfl)) (pgs_cons (pg_name (i := 6) sc__law_others.nd rfl (.inl rfl)) pgs_nil)))))))
      (pss_cons (ps_set (i := 7) sc__law_others.nd rfl (.inl rfl) (pe_call G__law_next hr (by rfl) m__law_next k__law_next b__law_next v__law_next pass0 (pa_cons (pv 0) (pa_cons (pe_callB (lenK (K := K) rfl) (by rfl) T.b_len PySem.boot_len (pa_cons (pv 3) pa_nil)) pa_nil))))
      (pss_cons (ps_set (i := 8) sc__law_others.nd rfl (.inl rfl) (pe_op op_cat (pe_op op_cat (pe_slice (sl_listK (K := K) rfl) (pv 3) po_none (po_some (pv 7))) (pe_lst (pa_cons (pe_ix (ix_listK (K := K) rfl) (pe_lst (pa_cons pe_str (pa_cons pe_str pa_nil))) (pe_callTy call_int1 (by rfl) T.b_int (by decide +kernel) (pa_cons (pe_cmpR op_eq (pe_ix (ix_listK (K := K) rfl) (pv 3) (pv 7) (fun _ _ => rfl)) pe_str (nomark _)) pa_nil)) (fun _ _ => rfl)) pa_nil))) (pe_slice (sl_listK (K := K) rfl) (pv 3) (po_some (pe_op op_addN (pv 7) pe_int)) po_none)))
      (pss_cons (ps_set (i := 9) sc__law_others.nd rfl (.inl rfl) (pe_lst (pa_cons (pe_tup (pa_cons (pv 2) (pa_cons (pv 8) (pa_cons (pv 4) (pa_cons (pv 5) (pa_cons (pv 6) pa_nil)))))) (pa_cons (pe_tup (pa_cons (pv 2) (pa_cons (pv 3) (pa_cons (pv 4) (pa_cons (pe_op op_addN (pv 5) pe_int) (pa_cons (pv 6) pa_nil)))))) (pa_cons (pe_tup (pa_cons (pe_op op_subN pe_int (pv 2)) (pa_cons (pv 3) (pa_cons (pv 4) (pa_cons (pv 5) (pa_cons (pv 6) pa_nil)))))) pa_nil)))))
      (pss_cons (ps_if (pt_cmpR op_lt (pe_callB (lenK (K := K) rfl) (by rfl) T.b_len PySem.boot_len (pa_cons (pv 3) pa_nil)) pe_int (nomark _))
        (pss_one (ps_expr (pe_bm PySem.F.plainAttrs_list PySem.F.slot_list_append PySem.F.type_list_append mt_append (pv 9) (pa_cons (pe_tup (pa_cons (pv 2) (pa_cons (pe_op op_cat (pv 3) (pe_lst (pa_cons pe_str (pa_cons pe_str pa_nil)))) (pa_cons (pv 4) (pa_cons (pv 5) (pa_cons (pv 6) pa_nil)))))) pa_nil))))
        pss_nil)
      (pss_cons (ps_if (pt_cmpR (op_neK (K := K) rfl hr.units) (pv 6) (pe_lst pa_nil) (nomark _))
        (pss_cons (ps_set (i := 10) sc__law_others.nd rfl (.inl rfl) (pe_call G__law_next hr (by rfl) m__law_next k__law_next b__law_next v__law_next pass0 (pa_cons (pv 0) (pa_cons (pe_callB (lenK (K := K) rfl) (by rfl) T.b_len PySem.boot_len (pa_cons (pv 6) pa_nil)) pa_nil))))
        (pss_cons (ps_asg (pe_ix (ix_listK (K := K) rfl) (pv 6) (pv 10) (fun _ _ => rfl)) (pg_tupK (K := K) (n := 3) rfl rfl (pgs_cons (pg_name (i := 11) sc__law_others.nd rfl (.inl rfl)) (pgs_cons (pg_name (i := 12) sc__law_others.nd rfl (.inl rfl)) (pgs_cons (pg_name (i := 13) sc__law_others.nd rfl (.inl rfl)) pgs_nil)))))
        (pss_cons (ps_for PassesOwn.never rfl (pi_list (pe_lst (pa_cons (pe_tup (pa_cons (pv 11) (pa_cons (pe_op op_addN (pv 12) pe_int) (pa_cons (pv 13) pa_nil)))) (pa_cons (pe_tup (pa_cons (pv 11) (pa_cons (pv 12) (pa_cons (pe_ix (ix_listK (K := K) rfl) (pe_lst (pa_cons pe_int (pa_cons pe_non pa_nil))) (pe_callTy call_int1 (by rfl) T.b_int (by decide +kernel) (pa_cons (pe_cmpR op_notN (pv 13) pe_non (nomark _)) pa_nil)) (fun _ _ => rfl)) pa_nil)))) pa_nil)))) (pg_name (i := 14) sc__law_others.nd rfl (.inl rfl))
          (pss_one (ps_expr (pe_bm PySem.F.plainAttrs_list PySem.F.slot_list_append PySem.F.type_list_append mt_append (pv 9) (pa_cons (pe_tup (pa_cons (pv 2) (pa_cons (pv 3) (pa_cons (pv 4) (pa_cons (pv 5) (pa_cons (pe_op op_cat (pe_op op_cat (pe_slice (sl_listK (K := K) rfl) (pv 6) po_none (po_some (pv 10))) (pe_lst (pa_cons (pv 14) pa_nil))) (pe_slice (sl_listK (K := K) rfl) (pv 6) (po_some (pe_op op_addN (pv 10) pe_int)) po_none)) pa_nil)))))) pa_nil)))))
        (pss_cons (ps_expr (pe_bm PySem.F.plainAttrs_list PySem.F.slot_list_append PySem.F.type_list_append mt_append (pv 9) (pa_cons (pe_tup (pa_cons (pv 2) (pa_cons (pv 3) (pa_cons (pv 4) (pa_cons (pv 5) (pa_cons (pe_op op_cat (pe_slice (sl_listK (K := K) rfl) (pv 6) po_none (po_some (pv 10))) (pe_slice (sl_listK (K := K) rfl) (pv 6) (po_some (pe_op op_addN (pv 10) pe_int)) po_none)) pa_nil)))))) pa_nil)))
        (pss_one (ps_if (pt_cmpR op_gt (pe_callB (minK (K := K) rfl rfl) (by rfl) T.b_min (by decide +kernel) (pa_cons (pe_lc (own := [("_law_row", 14)]) (g := gName 14) (tt := tYes) rfl sc__law_others.nd (pi_list (pv 6)) (blkOk_by (own := [("_law_row", 14)]) (N := N__law_others) (sc := defScope s__law_others) (by decide +kernel)) (fun _ _ _ _ _ => (pg_name (i := 14) sc__law_others.nd rfl (.inl rfl))) (fun _ _ _ _ _ => pts_nil) (fun _ _ _ _ _ => (pe_ix (ix_tupK (K := K) rfl) (pv 14) pe_int (fun _ _ => rfl)))) pa_nil)) (pe_op op_addN (pv 4) pe_int) (nomark _))
          (pss_one (ps_expr (pe_bm PySem.F.plainAttrs_list PySem.F.slot_list_append PySem.F.type_list_append mt_append (pv 9) (pa_cons (pe_tup (pa_cons (pv 2) (pa_cons (pv 3) (pa_cons (pe_op op_addN (pv 4) pe_int) (pa_cons (pv 5) (pa_cons (pv 6) pa_nil)))))) pa_nil))))
          pss_nil))))))
        pss_nil)
      (pss_one (ps_ret (pv 9))))))))), ?_⟩
    have est : L2.start N__law_others [V.ref s, V.ref u] = [some (.ref s), some (.ref u), none, none, none, none, none, none, none, none, none, none, none, none, none] := rfl
    rw [est]
    obtain ⟨b, ws, t, f, rs⟩ := e
    obtain ⟨sok, _⟩ := eok
    dsimp only at hT hq hP sok h33 few big c
    have hlen : 0 < ws.length := List.length_pos_iff.mpr sok.ne
    have h60 := sok.l60
    have hb2 := sok.b2
    have hb64 := sok.b64
    have htl := hP.len
    refine ⟨.ref u, rfl, u, _, rfl, .inl (.inl hT), rfl, _, _, rfl, _, _, rfl, _, _, rfl, _, _, rfl, _, _, rfl, rfl, ?_⟩
    refine ⟨_, rfl, .ref q, rfl, q, _, rfl, .inl (SqL.of hq), s, _, rfl, (by rw [List.length_map]; omega), (by rw [List.length_map]; omega), hs, fun i H1 hi k1 => ?_⟩
    have hiw : i < ws.length := by
      rw [List.length_map] at hi
      omega
    have hq1 := k1.keep _ _ nqs hq
    have hgi : (ws.map lvV)[i]? = some (lvV ws[i]) := by
      rw [List.getElem?_map, List.getElem?_eq_getElem hiw]
      rfl
    -- one word turned about
    refine ⟨_, rfl, _, rfl, _, rfl, q, _, rfl, SqL.of hq1, fun a1 ha1 => ?_⟩
    rw [cutTo]
    have s2 := same_upd (o := .lst ((ws.map lvV).take i)) ha1
    have e2 := upd_same (H := H1) (a := a1) (o := .lst ((ws.map lvV).take i))
    generalize upd H1 a1 (.lst ((ws.map lvV).take i)) = H2 at s2 e2 ⊢
    refine ⟨by simp [sizeLine_eq], fun a3 ha3 => ?_⟩
    have s3 := same_upd (o := .lst [V.str (Str.ofString "queue"), V.str (Str.ofString "stack")]) ha3
    have e3 := upd_same (H := H2) (a := a3) (o := .lst [V.str (Str.ofString "queue"), V.str (Str.ofString "stack")])
    generalize upd H2 a3 (.lst [V.str (Str.ofString "queue"), V.str (Str.ofString "stack")]) = H3 at s3 e3 ⊢
    refine ⟨_, rfl, _, rfl, q, _, _, _, rfl, rfl, SqL.of (s3 _ _ (s2 _ _ hq1)), atI_nat hgi, ?_, ?_⟩
    · cases ws[i] <;> rfl
    have hk : decide (lvV ws[i] = V.str (Str.ofString "queue")) = !ws[i] := by
      cases ws[i] <;> decide +kernel
    refine .inr ⟨_, rfl, a3, _, _, lvV (!ws[i]), rfl, rfl, SqL.of e3, ?_, ?_⟩
    · rw [hk]
      cases ws[i] <;> rfl
    refine ⟨by simp [sizeLine_eq], fun a4 ha4 => ?_⟩
    have s4 := same_upd (o := .lst [lvV (!ws[i])]) ha4
    have e4 := upd_same (H := H3) (a := a4) (o := .lst [lvV (!ws[i])])
    generalize upd H3 a4 (.lst [lvV (!ws[i])]) = H4 at s4 e4 ⊢
    refine ⟨a1, a4, _, _, rfl, rfl, s4 _ _ (s3 _ _ e2), e4, sizeLine_le (by rw [List.length_take, List.length_map]; show min i ws.length + 1 ≤ 1000000; omega), fun a5 ha5 => ?_⟩
    have s5 := same_upd (o := .lst ((ws.map lvV).take i ++ [lvV (!ws[i])])) ha5
    have e5 := upd_same (H := H4) (a := a5) (o := .lst ((ws.map lvV).take i ++ [lvV (!ws[i])]))
    generalize upd H4 a5 (.lst ((ws.map lvV).take i ++ [lvV (!ws[i])])) = H5 at s5 e5 ⊢
    have s25 := (s2.trans s3).trans (s4.trans s5)
    refine ⟨_, rfl, _, rfl, i, 1, rfl, rfl, trivial, _, rfl, q, _, rfl, SqL.of (s25 _ _ hq1), fun a6 ha6 => ?_⟩
    dsimp only
    rw [cutFrom]
    have s6 := same_upd (o := .lst ((ws.map lvV).drop (i + 1))) ha6
    have e6 := upd_same (H := H5) (a := a6) (o := .lst ((ws.map lvV).drop (i + 1)))
    generalize upd H5 a6 (.lst ((ws.map lvV).drop (i + 1))) = H6 at s6 e6 ⊢
    refine ⟨a5, a6, _, _, rfl, rfl, s6 _ _ e5, e6, sizeLine_le (by rw [List.length_append, List.length_take, List.length_drop, List.length_map]; show min i ws.length + 1 + (ws.length - (i + 1)) ≤ 1000000; omega), fun a7 ha7 => ?_⟩
    have efl : (ws.map lvV).take i ++ [lvV (!ws[i])] ++ (ws.map lvV).drop (i + 1) = (flipAt ws i hiw).map lvV := by
      unfold flipAt
      rw [List.map_append, List.map_append, List.map_take, List.map_drop]
      rfl
    rw [efl]
    have s7 := same_upd (o := .lst ((flipAt ws i hiw).map lvV)) ha7
    have e7 := upd_same (H := H6) (a := a7) (o := .lst ((flipAt ws i hiw).map lvV))
    generalize upd H6 a7 (.lst ((flipAt ws i hiw).map lvV)) = H7 at s7 e7 ⊢
    have s27 := s25.trans (s6.trans s7)
    have k7 := k1.same s27
    have hq7 := s27 _ _ hq1
    have hR7 := k7.keep _ _ nRs hR
    -- the first three
    refine ⟨_, rfl, _, rfl, _, rfl, _, rfl, _, rfl, by simp [sizeLine_eq], fun u1 hu1 => ?_⟩
    have s8 := same_upd (o := .tup [.int (b : Nat), .ref a7, .int (t : Nat), .int (f : Nat), .ref R]) hu1
    have e8 := upd_same (H := H7) (a := u1) (o := .tup [.int (b : Nat), .ref a7, .int (t : Nat), .int (f : Nat), .ref R])
    generalize upd H7 u1 (.tup [.int (b : Nat), .ref a7, .int (t : Nat), .int (f : Nat), .ref R]) = H8 at s8 e8 ⊢
    refine ⟨_, rfl, _, rfl, _, rfl, _, rfl, f, 1, rfl, rfl, trivial, _, rfl, by simp [sizeLine_eq], fun u2 hu2 => ?_⟩
    dsimp only at hu2 ⊢
    have s9 := same_upd (o := .tup [.int (b : Nat), .ref q, .int (t : Nat), .int ((f + 1 : Nat) : Int), .ref R]) hu2
    have e9 := upd_same (H := H8) (a := u2) (o := .tup [.int (b : Nat), .ref q, .int (t : Nat), .int ((f + 1 : Nat) : Int), .ref R])
    generalize upd H8 u2 (.tup [.int (b : Nat), .ref q, .int (t : Nat), .int ((f + 1 : Nat) : Int), .ref R]) = H9 at s9 e9 ⊢
    refine ⟨_, rfl, 66, b, rfl, rfl, (by show b ≤ 66; omega), _, rfl, _, rfl, _, rfl, _, rfl, by simp [sizeLine_eq], fun u3 hu3 => ?_⟩
    dsimp only at hu3 ⊢
    have s10 := same_upd (o := .tup [.int ((66 - b : Nat) : Int), .ref q, .int (t : Nat), .int (f : Nat), .ref R]) hu3
    have e10 := upd_same (H := H9) (a := u3) (o := .tup [.int ((66 - b : Nat) : Int), .ref q, .int (t : Nat), .int (f : Nat), .ref R])
    generalize upd H9 u3 (.tup [.int ((66 - b : Nat) : Int), .ref q, .int (t : Nat), .int (f : Nat), .ref R]) = H10 at s10 e10 ⊢
    refine ⟨by simp [sizeLine_eq], fun D hD => ?_⟩
    have s810 := s8.trans (s9.trans s10)
    have s8' := s9.trans s10
    have k10 := k7.same s810
    have hq10 := s810 _ _ hq7
    have hR10 := s810 _ _ hR7
    have e7' := s810 _ _ e7
    have na7 : a7 ≠ s := ((k1.same s25).same s6).src.ne ha7
    have hP0 : ∀ G, (∀ c o, c ≠ s → H c = some o → G c = some o) → RpAt G ts rs := fun G hG => hP.frame fun t' xs h => hG _ _ (fun z => by
      obtain ⟨x, y, v, es⟩ := hs
      rw [z, es] at h
      cases h) h
    have F0 : Fnd K H (upd H10 D (.lst [.ref u1, .ref u2, .ref u3])) s D ⟨b, ws, t, f, rs⟩ [u1, u2, u3] [⟨b, flipAt ws i hiw, t, f, rs⟩, ⟨b, ws, t, f + 1, rs⟩, ⟨66 - b, ws, t, f, rs⟩] := by
      have sD := same_upd (o := .lst [.ref u1, .ref u2, .ref u3]) hD
      have eD := upd_same (H := H10) (a := D) (o := .lst [.ref u1, .ref u2, .ref u3])
      have kD := k10.same sD
      refine ⟨fun c o n h => kD.keep _ _ n h, kD.src, k10.free hD, k10.src.ne hD, eD, fun G hG => ?_, fun d hd => ?_⟩
      · have nq := ne_of_none hq10 hD
        have nR := ne_of_none hR10 hD
        have n7 := ne_of_none e7' hD
        have hPD := hP0 _ kD.keep
        exact ⟨snap_kept eD kD.src (sD _ _ (s8' _ _ e8)) (sD _ _ e7') (sD _ _ hR10) hPD n7 na7 nR nRs G hG, snap_kept eD kD.src (sD _ _ (s10 _ _ e9)) (sD _ _ hq10) (sD _ _ hR10) hPD nq nqs nR nRs G hG, snap_kept eD kD.src (sD _ _ e10) (sD _ _ hq10) (sD _ _ hR10) hPD nq nqs nR nRs G hG, trivial⟩
      · have big' : ∀ r ∈ rs, r.2.1 < 2 ^ 250 := fun r hr => Nat.lt_trans (big r hr) (by decide)
        have fl0 := flip_len hiw
        simp only [List.mem_cons, List.not_mem_nil, or_false] at hd
        rcases hd with rfl | rfl | rfl
        · exact ⟨⟨⟨hb2, hb64, (fun z => by have z' : flipAt ws i hiw = [] := z; rw [z'] at fl0; have : 0 = ws.length := fl0; omega), by show (flipAt ws i hiw).length ≤ 60; omega, sok.rows, sok.nd, sok.few⟩, big'⟩, .inr (.inl (flip_ne hiw))⟩
        · exact ⟨⟨⟨hb2, hb64, sok.ne, h60, fun r hr => ⟨Nat.lt_succ_of_lt (sok.rows r hr).num, (sok.rows r hr).due, (sok.rows r hr).per⟩, sok.nd, sok.few⟩, big'⟩, .inr (.inr (.inr (.inl (by show f + 1 ≠ f; omega))))⟩
        · exact ⟨⟨⟨(by show 2 ≤ 66 - b; omega), (by show 66 - b ≤ 64; omega), sok.ne, h60, sok.rows, sok.nd, sok.few⟩, big'⟩, .inl (by show 66 - b ≠ b; omega)⟩
    generalize upd H10 D (.lst [.ref u1, .ref u2, .ref u3]) = H11 at F0 ⊢
    have base : ∀ {G : Hp} {us : List Addr} {ds : List Sd}, Fnd K H G s D ⟨b, ws, t, f, rs⟩ us ds → G q = some (.lst (ws.map lvV)) ∧ G R = some (.lst (ts.map V.ref)) ∧ RpAt G ts rs ∧ q ≠ D ∧ R ≠ D := fun F => ⟨F.keep _ _ nqs hq, F.keep _ _ nRs hR, hP0 _ F.keep, ne_of_none hq F.new, ne_of_none hR F.new⟩
    apply cut_rest (I := fun G => ∃ us ds, Fnd K H G s D ⟨b, ws, t, f, rs⟩ us ds ∧ us.length ≤ 4)
    · intro fin2
      obtain ⟨G0, eG0⟩ : ∃ G0, G0 = H11 := ⟨_, rfl⟩
      rw [← eG0] at F0 ⊢
      obtain ⟨q0, R0, P0, nqD, nRD⟩ := base F0
      by_cases c1 : ws.length < 58
      · refine ⟨.ref q, rfl, q, _, rfl, .inl (SqL.of q0), _, _, rfl, rfl, true, dT (by rw [List.length_map]; omega), iteT ?_⟩
        refine ⟨.ref D, rfl, .inl ⟨rfl, _, SqL.of F0.at_⟩, _, rfl, _, rfl, by simp [sizeLine_eq], fun b1 hb1 => ?_⟩
        have g1 := same_upd (o := .lst [V.str (Str.ofString "queue"), V.str (Str.ofString "stack")]) hb1
        have f1 := upd_same (H := G0) (a := b1) (o := .lst [V.str (Str.ofString "queue"), V.str (Str.ofString "stack")])
        generalize upd G0 b1 (.lst [V.str (Str.ofString "queue"), V.str (Str.ofString "stack")]) = G1 at g1 f1 ⊢
        refine ⟨q, b1, _, _, rfl, rfl, g1 _ _ q0, f1, sizeLine_le (by rw [List.length_map]; show ws.length + 2 ≤ 1000000; omega), fun b2 hb2' => ?_⟩
        have eqs : ws.map lvV ++ [V.str (Str.ofString "queue"), V.str (Str.ofString "stack")] = (ws ++ [false, true]).map lvV := by
          rw [List.map_append]
          rfl
        rw [eqs]
        have g2 := same_upd (o := .lst ((ws ++ [false, true]).map lvV)) hb2'
        have f2 := upd_same (H := G1) (a := b2) (o := .lst ((ws ++ [false, true]).map lvV))
        generalize upd G1 b2 (.lst ((ws ++ [false, true]).map lvV)) = G2 at g2 f2 ⊢
        refine ⟨_, rfl, _, rfl, _, rfl, by simp [sizeLine_eq], fun u4 hu4 => ?_⟩
        have g3 := same_upd (o := .tup [.int (b : Nat), .ref b2, .int (t : Nat), .int (f : Nat), .ref R]) hu4
        have f3 := upd_same (H := G2) (a := u4) (o := .tup [.int (b : Nat), .ref b2, .int (t : Nat), .int (f : Nat), .ref R])
        generalize upd G2 u4 (.tup [.int (b : Nat), .ref b2, .int (t : Nat), .int (f : Nat), .ref R]) = G3 at g3 f3 ⊢
        have g03 := (g1.trans g2).trans g3
        have F1 := F0.same g03
        obtain ⟨q1, R1, P1, _, _⟩ := base F1
        have nb2 : b2 ≠ D := fun z => by
          rw [z, g1 _ _ F0.at_] at hb2'
          cases hb2'
        have nb2s : b2 ≠ s := (F0.src.same g1).ne hb2'
        have F2 := F1.app (u := u4) (d := ⟨b, ws ++ [false, true], t, f, rs⟩) (fun G hG => snap_kept F1.at_ F1.src f3 (g3 _ _ f2) R1 P1 nb2 nb2s nRD nRs G hG) ⟨⟨⟨hb2, hb64, (by simp), (by rw [List.length_append]; show ws.length + 2 ≤ 60; omega), sok.rows, sok.nd, sok.few⟩, fun r hr => Nat.lt_trans (big r hr) (by decide)⟩, .inr (.inl (longer_ne ws))⟩
        refine ⟨D, _, _, rfl, rfl, F1.at_, sizeLine_ge (by simp), ?_⟩
        obtain ⟨G4, eG4⟩ : ∃ G4, G4 = upd G3 D (.lst ([u1, u2, u3].map V.ref ++ [.ref u4])) := ⟨_, rfl⟩
        rw [← eG4] at F2
        show _
        rw [← eG4]
        exact fin2 G4 ⟨_, _, F2, by simp⟩
      · refine ⟨.ref q, rfl, q, _, rfl, .inl (SqL.of q0), _, _, rfl, rfl, false, dF (by rw [List.length_map]; omega), iteF ?_⟩
        exact fin2 G0 ⟨_, _, F0, by simp⟩
    · rintro G5 ⟨us5, ds5, F5, l5⟩
      obtain ⟨q5, R5, P5, nqD, nRD⟩ := base F5
      have hE := eqv_norows rs
      apply cut_rest (I := fun G => ∃ us ds, Fnd K H G s D ⟨b, ws, t, f, rs⟩ us ds ∧ us.length ≤ 10)
      · intro fin3
        refine ⟨_, rfl, by simp [sizeLine_eq], fun c1 hc1 => ?_⟩
        have g6 := same_upd (o := .lst []) hc1
        have f6 := upd_same (H := G5) (a := c1) (o := .lst [])
        generalize upd G5 c1 (.lst []) = G6 at g6 f6 ⊢
        have F6 := F5.same g6
        refine ⟨.list (rs.map rowPD), .list [], .lst (SqL.of (g6 _ _ R5)) (rowp_dp (P5.same g6)), .lst (SqL.of f6) .nil, rows_shapedP rs, rfl, _, congrArg (fun x => V.bl (!x)) hE, ?_⟩
        by_cases hz : rs = []
        · obtain ⟨G7, eG7⟩ : ∃ G7, G7 = G6 := ⟨_, rfl⟩
          rw [← eG7] at F6 ⊢
          rw [decide_eq_true hz]
          exact iteF (fin3 G7 ⟨_, _, F6, by omega⟩)
        · rw [decide_eq_false hz]
          refine iteT ?_
          have hpos : 0 < rs.length := List.length_pos_iff.mpr hz
          refine ⟨_, rfl, .ref R, rfl, R, _, rfl, .inl (SqL.of (g6 _ _ R5)), s, _, rfl, (by rw [List.length_map, htl]; omega), (by rw [List.length_map, htl]; omega), F6.src, fun j G7 hj k7' => ?_⟩
          have hjr : j < rs.length := by
            rw [List.length_map, htl] at hj
            omega
          have F7 := F6.draw k7'
          obtain ⟨q7, R7, P7, _, _⟩ := base F7
          have hjt : j < ts.length := by omega
          have hgj : (ts.map V.ref)[j]? = some (.ref ts[j]) := by
            rw [List.getElem?_map, List.getElem?_eq_getElem hjt]
            rfl
          obtain ⟨tj, rj, etj, hrj, htj⟩ := P7.item hgj
          have etj' : ts[j] = tj := V.ref.inj etj
          rw [etj'] at hgj
          have hrm := List.mem_of_getElem? hrj
          have rok := sok.rows rj hrm
          have hbj := big rj hrm
          refine ⟨_, rfl, _, rfl, R, _, _, _, rfl, rfl, SqL.of R7, atI_nat hgj, tj, _, rfl, SqT.of htj, rfl, _, _, rfl, _, _, rfl, _, _, rfl, rfl, ?_⟩
          -- two rows in its place
          refine ⟨_, rfl, _, rfl, rj.2.1, 1, rfl, rfl, trivial, _, rfl, by simp [sizeLine_eq], fun v1 hv1 => ?_⟩
          dsimp only at hv1 ⊢
          have g8 := same_upd (o := .tup [.int (rj.1 : Nat), .int ((rj.2.1 + 1 : Nat) : Int), perV rj.2.2]) hv1
          have f8 := upd_same (H := G7) (a := v1) (o := .tup [.int (rj.1 : Nat), .int ((rj.2.1 + 1 : Nat) : Int), perV rj.2.2])
          generalize upd G7 v1 (.tup [.int (rj.1 : Nat), .int ((rj.2.1 + 1 : Nat) : Int), perV rj.2.2]) = G8 at g8 f8 ⊢
          refine ⟨_, rfl, _, rfl, by simp [sizeLine_eq], fun c2 hc2 => ?_⟩
          have g9 := same_upd (o := .lst [.int 5, .non]) hc2
          have f9 := upd_same (H := G8) (a := c2) (o := .lst [.int 5, .non])
          generalize upd G8 c2 (.lst [.int 5, .non]) = G9 at g9 f9 ⊢
          have hper : ∃ o' : Option Nat, ([.int 5, .non] : List V)[(if (!decide (perV rj.2.2 = .non)) = true then 1 else 0 : Nat)]? = some (perV o') ∧ o' ≠ rj.2.2 ∧ ∀ k, o' = some k → 1 ≤ k := by
            cases hp : rj.2.2 with
            | none => exact ⟨some 5, rfl, (fun z => by cases z), fun k e => by cases e; decide⟩
            | some k => exact ⟨none, rfl, (fun z => by cases z), fun k e => by cases e⟩
          obtain ⟨o', ho1, ho2, ho3⟩ := hper
          refine ⟨_, rfl, rfl, .inr ⟨_, rfl, c2, _, _, perV o', rfl, rfl, SqL.of f9, ?_, ?_⟩⟩
          · have z := atI_nat ho1
            have ez : (((if (!decide (perV rj.2.2 = .non)) = true then 1 else 0 : Nat) : Nat) : Int) = (if (!decide (perV rj.2.2 = .non)) = true then 1 else 0 : Int) := by
              split <;> rfl
            rw [ez] at z
            exact z
          refine ⟨by simp [sizeLine_eq], fun v2 hv2 => ?_⟩
          have g10 := same_upd (o := .tup [.int (rj.1 : Nat), .int (rj.2.1 : Nat), perV o']) hv2
          have f10 := upd_same (H := G9) (a := v2) (o := .tup [.int (rj.1 : Nat), .int (rj.2.1 : Nat), perV o'])
          generalize upd G9 v2 (.tup [.int (rj.1 : Nat), .int (rj.2.1 : Nat), perV o']) = G10 at g10 f10 ⊢
          refine ⟨by simp [sizeLine_eq], fun Lr hLr => ?_⟩
          have g11 := same_upd (o := .lst [.ref v1, .ref v2]) hLr
          have f11 := upd_same (H := G10) (a := Lr) (o := .lst [.ref v1, .ref v2])
          generalize upd G10 Lr (.lst [.ref v1, .ref v2]) = G11 at g11 f11 ⊢
          have g711 := (g8.trans g9).trans (g10.trans g11)
          have F11 := F7.same g711
          have nLD : Lr ≠ D := fun z => by
            rw [z, g10 _ _ (g9 _ _ (g8 _ _ F7.at_))] at hLr
            cases hLr
          have nLs : Lr ≠ s := (F7.src.same (g8.trans (g9.trans g10))).ne hLr
          have hv1' := g11 _ _ (g10 _ _ (g9 _ _ f8))
          have hv2' := g11 _ _ f10
          refine ⟨Lr, rfl, ⟨_, SqL.of f11⟩, for_list (D := { nx := _, rt := Q }) (K := K) (a := Lr) (xs := [.ref v1, .ref v2]) (fun i' σ H' => (∃ y, σ = [some (.ref s), some (.ref u), some (.int (b : Nat)), some (.ref q), some (.int (t : Nat)), some (.int (f : Nat)), some (.ref R), some (.int (i : Nat)), some (.ref a7), some (.ref D), some (.int (j : Nat)), some (.int (rj.1 : Nat)), some (.int (rj.2.1 : Nat)), some (perV rj.2.2), y]) ∧ (∃ us ds, Fnd K H H' s D ⟨b, ws, t, f, rs⟩ us ds ∧ us.length ≤ 4 + i') ∧ ∀ c o, c ≠ D → c ≠ s → G11 c = some o → H' c = some o)
            ⟨⟨none, rfl⟩, ⟨_, _, F11, l5⟩, fun _ _ _ _ h => h⟩ (fun i' σ H' _ ⟨_, _, kp⟩ => SqL.of (kp _ _ nLD nLs f11)) ?_ ?_⟩
          · rintro i' x σ H' hx ⟨⟨y, rfl⟩, ⟨us', ds', F', l'⟩, kp⟩
            have hcase : ∃ v r', x = .ref v ∧ G11 v = some (.tup (rowPV r')) ∧ r'.1 = rj.1 ∧ r' ≠ rj ∧ RowOk t f r' ∧ r'.2.1 < 2 ^ 250 := by
              match i', hx with
              | 0, hx => exact ⟨v1, (rj.1, rj.2.1 + 1, rj.2.2), (Option.some.inj hx).symm, hv1', rfl, (fun z => by have := congrArg (fun r : RowP => r.2.1) z; have : rj.2.1 + 1 = rj.2.1 := this; omega), ⟨rok.num, Nat.lt_succ_of_lt rok.due, rok.per⟩, (by show rj.2.1 + 1 < 2 ^ 250; omega)⟩
              | 1, hx => exact ⟨v2, (rj.1, rj.2.1, o'), (Option.some.inj hx).symm, hv2', rfl, (fun z => ho2 (congrArg (fun r : RowP => r.2.2) z)), ⟨rok.num, rok.due, ho3⟩, (by show rj.2.1 < 2 ^ 250; omega)⟩
              | _ + 2, hx => cases hx
            have hi2 : i' < 2 := (List.getElem?_eq_some_iff.mp hx).1
            obtain ⟨v, r', rfl, hvr, hr1, hr2, hr3, hr4⟩ := hcase
            have hvr' : ∃ xs, G11 v = some (.tup xs) := ⟨_, hvr⟩
            dsimp only [gName, List.set]
            obtain ⟨wq, wR, wP, _, _⟩ := base F'
            refine ⟨.ref D, rfl, .inl ⟨rfl, _, SqL.of F'.at_⟩, _, rfl, _, rfl, _, rfl, _, rfl, _, rfl, _, rfl, _, rfl, R, _, rfl, SqL.of wR, fun w1 hw1 => ?_⟩
            rw [cutTo]
            have ws1 := same_upd (o := .lst ((ts.map V.ref).take j)) hw1
            have we1 := upd_same (H := H') (a := w1) (o := .lst ((ts.map V.ref).take j))
            generalize upd H' w1 (.lst ((ts.map V.ref).take j)) = wG1 at ws1 we1 ⊢
            refine ⟨_, rfl, by simp [sizeLine_eq], fun w2 hw2 => ?_⟩
            have ws2 := same_upd (o := .lst [.ref v]) hw2
            have we2 := upd_same (H := wG1) (a := w2) (o := .lst [.ref v])
            generalize upd wG1 w2 (.lst [.ref v]) = wG2 at ws2 we2 ⊢
            refine ⟨w1, w2, _, _, rfl, rfl, ws2 _ _ we1, we2, sizeLine_le (by rw [List.length_take, List.length_map]; show min j ts.length + 1 ≤ 1000000; omega), fun w3 hw3 => ?_⟩
            have ws3 := same_upd (o := .lst ((ts.map V.ref).take j ++ [.ref v])) hw3
            have we3 := upd_same (H := wG2) (a := w3) (o := .lst ((ts.map V.ref).take j ++ [.ref v]))
            generalize upd wG2 w3 (.lst ((ts.map V.ref).take j ++ [.ref v])) = wG3 at ws3 we3 ⊢
            have ws13 := (ws1.trans ws2).trans ws3
            refine ⟨_, rfl, _, rfl, j, 1, rfl, rfl, trivial, _, rfl, R, _, rfl, SqL.of (ws13 _ _ wR), fun w4 hw4 => ?_⟩
            dsimp only
            rw [cutFrom]
            have ws4 := same_upd (o := .lst ((ts.map V.ref).drop (j + 1))) hw4
            have we4 := upd_same (H := wG3) (a := w4) (o := .lst ((ts.map V.ref).drop (j + 1)))
            generalize upd wG3 w4 (.lst ((ts.map V.ref).drop (j + 1))) = wG4 at ws4 we4 ⊢
            refine ⟨w3, w4, _, _, rfl, rfl, ws4 _ _ we3, we4, sizeLine_le (by rw [List.length_append, List.length_take, List.length_drop, List.length_map]; show min j ts.length + 1 + (ts.length - (j + 1)) ≤ 1000000; omega), fun w5 hw5 => ?_⟩
            have wel : (ts.map V.ref).take j ++ [.ref v] ++ (ts.map V.ref).drop (j + 1) = (ts.take j ++ [v] ++ ts.drop (j + 1)).map V.ref := by
              simp only [List.map_append, List.map_take, List.map_drop, List.map_cons, List.map_nil]
            rw [wel]
            have ws5 := same_upd (o := .lst ((ts.take j ++ [v] ++ ts.drop (j + 1)).map V.ref)) hw5
            have we5 := upd_same (H := wG4) (a := w5) (o := .lst ((ts.take j ++ [v] ++ ts.drop (j + 1)).map V.ref))
            generalize upd wG4 w5 (.lst ((ts.take j ++ [v] ++ ts.drop (j + 1)).map V.ref)) = wG5 at ws5 we5 ⊢
            refine ⟨by simp [sizeLine_eq], fun wu hwu => ?_⟩
            have ws6 := same_upd (o := .tup [.int (b : Nat), .ref q, .int (t : Nat), .int (f : Nat), .ref w5]) hwu
            have we6 := upd_same (H := wG5) (a := wu) (o := .tup [.int (b : Nat), .ref q, .int (t : Nat), .int (f : Nat), .ref w5])
            generalize upd wG5 wu (.tup [.int (b : Nat), .ref q, .int (t : Nat), .int (f : Nat), .ref w5]) = wG6 at ws6 we6 ⊢
            have ws14 := ws13.trans ws4
            have wS := ws14.trans (ws5.trans ws6)
            have wF := F'.same wS
            obtain ⟨wq', wR', wP', _, _⟩ := base wF
            have wn1 : w5 ≠ D := fun z => by
              rw [z, ws14 _ _ F'.at_] at hw5
              cases hw5
            have wn2 : w5 ≠ s := (F'.src.same ws14).ne hw5
            obtain ⟨sx, sy, sz, es⟩ := F'.src
            have hvH : H' v = some (.tup (rowPV r')) := kp _ _ (ne_of hvr F11.at_ (by intro z; cases z)) (fun z => by
              obtain ⟨x1, y1, z1, es1⟩ := F11.src
              rw [z, es1] at hvr
              cases hvr) hvr
            have wsnap : ∀ G, (∀ c o, c ≠ D → c ≠ s → wG6 c = some o → G c = some o) → SnapAt K G wu b ws t f (repAt rs j r') := fun G hG => snap_kept wF.at_ wF.src we6 wq' (ws6 _ _ we5) (rp_app (rp_app (rp_take j wP') (show RpAt wG6 [v] [r'] from ⟨wS _ _ hvH, trivial⟩)) (rp_drop (j + 1) wP')) nqD nqs wn1 wn2 G hG
            have F3 := wF.app (u := wu) (d := ⟨b, ws, t, f, repAt rs j r'⟩) wsnap ⟨⟨rep_ok sok hrj hr1 hr3, fun r hr => by
              rcases List.mem_append.mp hr with z | z
              · rcases List.mem_append.mp z with z | z
                · exact Nat.lt_trans (big r (List.mem_of_mem_take z)) (by decide)
                · rw [List.mem_singleton.mp z]
                  exact hr4
              · exact Nat.lt_trans (big r (List.mem_of_mem_drop z)) (by decide)⟩, .inr (.inr (.inr (.inr (row_other sok.nd hrm (List.mem_append_left _ (List.mem_append_right _ (List.mem_singleton.mpr rfl))) hr1 hr2))))⟩
            refine ⟨D, _, _, rfl, rfl, wF.at_, sizeLine_ge (by rw [List.length_map]; omega), ⟨_, rfl⟩, ⟨_, _, F3, by rw [List.length_append]; show us'.length + 1 ≤ 4 + (i' + 1); omega⟩, fun c o n1 n2 h => ?_⟩
            rw [upd_ne n1]
            exact wS _ _ (kp _ _ n1 n2 h)
          · rintro σ H' ⟨⟨y, rfl⟩, ⟨us', ds', F', l'⟩, kp⟩
            have l6 : us'.length ≤ 6 := l'
            obtain ⟨zq, zR, zP, _, _⟩ := base F'
            refine ⟨.ref D, rfl, .inl ⟨rfl, _, SqL.of F'.at_⟩, _, rfl, _, rfl, _, rfl, _, rfl, _, rfl, _, rfl, _, rfl, R, _, rfl, SqL.of zR, fun z1 hz1 => ?_⟩
            rw [cutTo]
            have zs1 := same_upd (o := .lst ((ts.map V.ref).take j)) hz1
            have ze1 := upd_same (H := H') (a := z1) (o := .lst ((ts.map V.ref).take j))
            generalize upd H' z1 (.lst ((ts.map V.ref).take j)) = zG1 at zs1 ze1 ⊢
            refine ⟨_, rfl, _, rfl, j, 1, rfl, rfl, trivial, _, rfl, R, _, rfl, SqL.of (zs1 _ _ zR), fun z4 hz4 => ?_⟩
            dsimp only
            rw [cutFrom]
            have zs4 := same_upd (o := .lst ((ts.map V.ref).drop (j + 1))) hz4
            have ze4 := upd_same (H := zG1) (a := z4) (o := .lst ((ts.map V.ref).drop (j + 1)))
            generalize upd zG1 z4 (.lst ((ts.map V.ref).drop (j + 1))) = zG4 at zs4 ze4 ⊢
            refine ⟨z1, z4, _, _, rfl, rfl, zs4 _ _ ze1, ze4, sizeLine_le (by rw [List.length_take, List.length_drop, List.length_map]; show min j ts.length + (ts.length - (j + 1)) ≤ 1000000; omega), fun z5 hz5 => ?_⟩
            have zel : (ts.map V.ref).take j ++ (ts.map V.ref).drop (j + 1) = (ts.take j ++ ts.drop (j + 1)).map V.ref := by
              simp only [List.map_append, List.map_take, List.map_drop, List.map_cons, List.map_nil]
            rw [zel]
            have zs5 := same_upd (o := .lst ((ts.take j ++ ts.drop (j + 1)).map V.ref)) hz5
            have ze5 := upd_same (H := zG4) (a := z5) (o := .lst ((ts.take j ++ ts.drop (j + 1)).map V.ref))
            generalize upd zG4 z5 (.lst ((ts.take j ++ ts.drop (j + 1)).map V.ref)) = zG5 at zs5 ze5 ⊢
            refine ⟨by simp [sizeLine_eq], fun zu hzu => ?_⟩
            have zs6 := same_upd (o := .tup [.int (b : Nat), .ref q, .int (t : Nat), .int (f : Nat), .ref z5]) hzu
            have ze6 := upd_same (H := zG5) (a := zu) (o := .tup [.int (b : Nat), .ref q, .int (t : Nat), .int (f : Nat), .ref z5])
            generalize upd zG5 zu (.tup [.int (b : Nat), .ref q, .int (t : Nat), .int (f : Nat), .ref z5]) = zG6 at zs6 ze6 ⊢
            have zs14 := zs1.trans zs4
            have zS := zs14.trans (zs5.trans zs6)
            have zF := F'.same zS
            obtain ⟨zq', zR', zP', _, _⟩ := base zF
            have zn1 : z5 ≠ D := fun z => by
              rw [z, zs14 _ _ F'.at_] at hz5
              cases hz5
            have zn2 : z5 ≠ s := (F'.src.same zs14).ne hz5
            obtain ⟨dok, dne⟩ := del_ok sok hrj
            have zsnap : ∀ G, (∀ c o, c ≠ D → c ≠ s → zG6 c = some o → G c = some o) → SnapAt K G zu b ws t f (rs.take j ++ rs.drop (j + 1)) := fun G hG => snap_kept zF.at_ zF.src ze6 zq' (zs6 _ _ ze5) (rp_app (rp_take j zP') (rp_drop (j + 1) zP')) nqD nqs zn1 zn2 G hG
            have F3 := zF.app (u := zu) (d := ⟨b, ws, t, f, rs.take j ++ rs.drop (j + 1)⟩) zsnap ⟨⟨dok, fun r hr => by
              rcases List.mem_append.mp hr with z | z
              · exact Nat.lt_trans (big r (List.mem_of_mem_take z)) (by decide)
              · exact Nat.lt_trans (big r (List.mem_of_mem_drop z)) (by decide)⟩, .inr (.inr (.inr (.inr dne)))⟩
            refine ⟨D, _, _, rfl, rfl, zF.at_, sizeLine_ge (by rw [List.length_map]; omega), ?_⟩
            generalize upd zG6 D (.lst (us'.map V.ref ++ [.ref zu])) = G20 at F3 ⊢
            obtain ⟨q20, R20, P20, _, _⟩ := base F3
            have l7 : (us' ++ [zu]).length ≤ 7 := by
              rw [List.length_append]
              show us'.length + 1 ≤ 7
              omega
            generalize us' ++ [zu] = us20 at F3 l7
            -- a tick later
            refine ⟨.ref R, rfl, R, rfl, ⟨_, SqL.of R20⟩, fun M hM => lc_list (K := K) (a := R) (xs := ts.map V.ref) (fun j' G' => Same G20 G' ∧ G' M = some (.lst ((rs.take j').map fun r => V.int (r.2.1 : Nat)))) ⟨same_upd hM, upd_same⟩ (fun j' G' _ ⟨sm, _⟩ => SqL.of (sm _ _ R20)) ?_ ?_⟩
            · rintro j' x G' hx ⟨sm, eM⟩
              obtain ⟨a, r, rfl, hr', ha⟩ := P20.item hx
              refine ⟨rfl, yesT (iteT ⟨_, rfl, a, _, 1, _, rfl, rfl, SqT.of (sm _ _ ha), atI_nat (j := 1) rfl, _, eM, ?_, fun c o e => ?_, ?_⟩)⟩
              · rw [List.length_map, List.length_take]
                exact sizeLine_ge (by omega)
              · rw [upd_ne (ne_of_none e hM)]
                exact sm _ _ e
              · rw [upd_same, List.take_add_one, hr', List.map_append]
                rfl
            · rintro G21 ⟨s21, eM⟩
              rw [List.length_map, htl, List.take_length] at eM
              have e1 : rs.map (fun r => V.int (r.2.1 : Nat)) = (rs.map fun r => ((r.2.1 : Nat) : Int)).map V.int := by
                rw [List.map_map]
                rfl
              rw [e1] at eM
              refine ⟨M, _, rfl, SqL.of eM, by rw [List.length_map]; exact hpos, fun m hm hmin => ?_⟩
              have F21 := F3.same s21
              refine ⟨_, rfl, t, 1, rfl, rfl, trivial, m, ((t + 1 : Nat) : Int), rfl, rfl, ?_⟩
              by_cases hgt : ((t + 1 : Nat) : Int) < m
              · refine ⟨true, dT hgt, iteT ?_⟩
                refine ⟨.ref D, rfl, .inl ⟨rfl, _, SqL.of F21.at_⟩, _, rfl, _, rfl, _, rfl, t, 1, rfl, rfl, trivial, _, rfl, _, rfl, by simp [sizeLine_eq], fun yu hyu => ?_⟩
                dsimp only at hyu ⊢
                have s22 := same_upd (o := .tup [.int (b : Nat), .ref q, .int ((t + 1 : Nat) : Int), .int (f : Nat), .ref R]) hyu
                have e22 := upd_same (H := G21) (a := yu) (o := .tup [.int (b : Nat), .ref q, .int ((t + 1 : Nat) : Int), .int (f : Nat), .ref R])
                generalize upd G21 yu (.tup [.int (b : Nat), .ref q, .int ((t + 1 : Nat) : Int), .int (f : Nat), .ref R]) = G22 at s22 e22 ⊢
                have F22 := F21.same s22
                obtain ⟨q22, R22, P22, _, _⟩ := base F22
                have F23 := F22.app (u := yu) (d := ⟨b, ws, t + 1, f, rs⟩) (fun G hG => snap_kept F22.at_ F22.src e22 q22 R22 P22 nqD nqs nRD nRs G hG) ⟨⟨⟨hb2, hb64, sok.ne, h60, fun r hr => ⟨(sok.rows r hr).num, (by
                  have z := hmin _ (List.mem_map.mpr ⟨r, hr, rfl⟩)
                  show t + 1 < r.2.1
                  omega), (sok.rows r hr).per⟩, sok.nd, sok.few⟩, fun r hr => Nat.lt_trans (big r hr) (by decide)⟩, .inr (.inr (.inl (by show t + 1 ≠ t; omega)))⟩
                refine ⟨D, _, _, rfl, rfl, F22.at_, sizeLine_ge (by rw [List.length_map]; omega), ?_⟩
                obtain ⟨G24, eG24⟩ : ∃ G24, G24 = upd G22 D (.lst (us20.map V.ref ++ [.ref yu])) := ⟨_, rfl⟩
                rw [← eG24] at F23
                show _
                rw [← eG24]
                exact fin3 G24 ⟨_, _, F23, by rw [List.length_append]; show us20.length + 1 ≤ 10; omega⟩
              · refine ⟨false, dF hgt, iteF ?_⟩
                exact fin3 G21 ⟨_, _, F21, by omega⟩
      · rintro G ⟨us9, ds9, F9, l9⟩
        exact ⟨_, rfl, c G D us9 ds9 ⟨F9.keep, F9.src⟩ F9.new F9.at_ (F9.sds G fun c o _ _ h => h) F9.ok l9⟩
end
/-! ### data stay -/
mutual
theorem dp_same {K : PySem.W.Frag} {H H' : Hp} (s : Same H H') : ∀ {v : V} {d : PyData}, Dp K H v d → Dp K H' v d
  | _, _, .int i => .int i
  | _, _, .str x => .str x
  | _, _, .bl b => .bl b
  | _, _, .non => .non
  | _, _, .lst h t => .lst (s.seq h) (dps_same s t)
  | _, _, .tup h t => .tup (h.elim (fun h => .inl (h.elim (fun h => .inl (s _ _ h)) fun ⟨o, h⟩ => .inr ⟨o, s _ _ h⟩)) .inr) (dps_same s t)
theorem dps_same {K : PySem.W.Frag} {H H' : Hp} (s : Same H H') : ∀ {vs : List V} {ds : List PyData}, DpAll K H vs ds → DpAll K H' vs ds
  | _, _, .nil => .nil
  | _, _, .cons h t => .cons (dp_same s h) (dps_same s t)
end
theorem lists_few {b : Nat} {ws : List Bool} {t : Nat} {ms : List Tm} {cs : List Cell} (h : IsLists b ws t ms cs) : cs.length ≤ ms.length := by
  have z := (stand_bounds b ws t ms ms.length (Nat.le_refl _)).1
  rw [List.take_length] at z
  have y := h.perm.length_eq
  rw [List.length_map, List.length_map] at y
  omega
/-! ### law k09: calls of two spans, timers set anew at the same due tick -/
structure In9 (n0 i : Nat) (W : WS) : Prop where
  ok : WOk W
  few : W.live.length ≤ i
  tm : ∀ m ∈ W.live, m.due ≤ W.tick + 1203 ∧ ∀ k, m.per = some k → 27 ≤ k ∧ k ≤ 946
  tk : W.tick ≤ n0 + i * 490
theorem In9.sum {n0 i t : Nat} {W : WS} (I : In9 n0 i W) (ht : t ≤ W.tick + 490) : sumF t W.live ≤ 20 * W.live.length := by
  have H : ∀ l : List Tm, (∀ m ∈ l, m ∈ W.live) → sumF t l ≤ 20 * l.length := by
    intro l
    induction l with
    | nil => exact fun _ => Nat.le_refl _
    | cons m l ih =>
      intro hl
      have z := ih fun x hx => hl x (List.mem_cons_of_mem _ hx)
      have hm := hl m (List.mem_cons_self ..)
      have h1 := (I.ok.tms m hm).due
      rw [sumF_cons, List.length_cons]
      have y : frN t m ≤ 20 := by
        unfold frN
        split
        · omega
        · split
          · omega
          · rename_i k hk
            have h4 := ((I.tm m hm).2 k hk).1
            have h5 : (t - m.due) / k < 19 := Nat.div_lt_of_lt_mul (by omega)
            omega
      omega
  exact H W.live fun _ h => h
theorem did_first9 {n0 i sp : Nat} {W : WS} {c : Cl} (I : In9 n0 i W) (hi : i ≤ 20) (hsp1 : 20 ≤ sp) (hsp : sp ≤ 900) (hn : n0 < 2 ^ 195) (hc : ClOk sp W c) : ∃ tl W', Did W c tl W' ∧ In9 n0 (i + 1) W' ∧ W'.b = W.b ∧ W'.ws = W.ws := by
  have htk := I.tk
  have few := I.few
  cases c with
  | put d o =>
    obtain ⟨h1, h2, h3⟩ := hc
    have hk : ∀ k, o = some k → 1 ≤ k := fun k e => by
      have := h3 k e
      omega
    refine ⟨_, _, .put d o h1 hk, ⟨okw_put I.ok (by omega) h1 (by omega) hk, ?_, fun m hm => ?_, by show W.tick ≤ _; omega⟩, rfl, rfl⟩
    · show (W.live ++ [_]).length ≤ i + 1
      rw [List.length_append]
      show W.live.length + 1 ≤ i + 1
      omega
    · rcases List.mem_append.mp hm with z | z
      · exact I.tm m z
      · rw [List.mem_singleton.mp z]
        refine ⟨by show d ≤ W.tick + 1203; omega, fun k e => ?_⟩
        have := h3 k e
        omega
  | can n =>
    refine ⟨_, _, .can n hc, ⟨okw_drop I.ok, ?_, fun m hm => I.tm m (List.mem_filter.mp hm).1, by show W.tick ≤ _; omega⟩, rfl, rfl⟩
    have := List.length_filter_le (fun m : Tm => decide (m.num ≠ n)) W.live
    show (dropT n W.live).length ≤ i + 1
    unfold dropT
    omega
  | res n d =>
    obtain ⟨⟨m, hm, rfl⟩, h1, h2⟩ := hc
    refine ⟨_, _, .res m d hm h1, ⟨okw_reset I.ok hm h1 (by omega), ?_, fun m' hm' => ?_, by show W.tick ≤ _; omega⟩, rfl, rfl⟩
    · show (dropT m.num W.live ++ [_]).length ≤ i + 1
      rw [List.length_append]
      have z := drop_len_lt (n := m.num) ⟨m, hm, rfl⟩
      show (dropT m.num W.live).length + 1 ≤ i + 1
      omega
    · rcases List.mem_append.mp hm' with z | z
      · exact I.tm m' (List.mem_filter.mp z).1
      · rw [List.mem_singleton.mp z]
        exact ⟨by show d ≤ W.tick + 1203; omega, (I.tm m hm).2⟩
  | adv t =>
    obtain ⟨h1, h2⟩ := hc
    have ht : t ≤ W.tick + 490 := by omega
    have far : FarW t W := ⟨I.ok, fun m hm => by
      have o := I.ok.tms m hm
      obtain ⟨h1, h2⟩ := I.tm m hm
      refine ⟨Nat.lt_of_le_of_lt o.since o.due, by omega, fun k hk => ?_⟩
      obtain ⟨h3, h4⟩ := h2 k hk
      exact ⟨by omega, by omega⟩⟩
    obtain ⟨f, ms', a1, a2, a3, a4, a5⟩ := far.go h1 (Nat.le_refl t)
    have hs := I.sum ht
    refine ⟨_, _, .adv t f ms' h1 a1 (by omega), ⟨a3.ok, (by show ms'.length ≤ i + 1; omega), fun m hm => ?_, ?_⟩, rfl, rfl⟩
    · exact adv_keep (Pm := fun m => m.due ≤ t + 1203 ∧ ∀ k, m.per = some k → 27 ≤ k ∧ k ≤ 946) a1 (fun m v k hP hk hv => ⟨(by have := (hP.2 k hk).2; show v + k ≤ _; omega), fun k' e => by cases e; exact hP.2 k hk⟩) (fun m hm => ⟨Nat.le_trans (I.tm m hm).1 (by omega), (I.tm m hm).2⟩) m hm
    · show t ≤ n0 + (i + 1) * 490
      omega
theorem cores_nd (s : Nat) {l : List Tm} (h : (l.map (·.num)).Nodup) : (l.map (coreM s)).Nodup := by
  have h' : (l.map (·.num)).Pairwise (· ≠ ·) := h
  rw [List.pairwise_map] at h'
  show (l.map (coreM s)).Pairwise (· ≠ ·)
  rw [List.pairwise_map]
  exact h'.imp fun h e => h (congrArg Prod.fst e)
theorem cores_perm {b : Nat} {ws : List Bool} {s t : Nat} {ms os : List Tm} (A : Alike b ws s t ms os) (n1 : (ms.map (·.num)).Nodup) (n2 : (os.map (·.num)).Nodup) : (os.map (coreM 0)).Perm (ms.map (coreM s)) := by
  refine (List.perm_ext_iff_of_nodup (cores_nd 0 n2) (cores_nd s n1)).mpr fun c => ?_
  rw [List.mem_map, List.mem_map]
  constructor
  · rintro ⟨o, ho, rfl⟩
    obtain ⟨m, hm, c⟩ := A.old ho
    exact ⟨m, hm, c.symm⟩
  · rintro ⟨m, hm, rfl⟩
    obtain ⟨o, ho, c⟩ := A.new hm
    exact ⟨o, ho, c⟩
theorem num_uniq {ms : List Tm} (nd : (ms.map (·.num)).Nodup) {m m' : Tm} (h : m ∈ ms) (h' : m' ∈ ms) (e : m'.num = m.num) : m' = m := by
  obtain ⟨i, hi⟩ := List.getElem?_of_mem h'
  obtain ⟨j, hj⟩ := List.getElem?_of_mem h
  have a1 : (ms.map (·.num))[i]? = some m.num := by rw [List.getElem?_map, hi, ← e]; rfl
  have a2 : (ms.map (·.num))[j]? = some m.num := by rw [List.getElem?_map, hj]; rfl
  have z := (List.getElem?_inj (List.getElem?_eq_some_iff.mp a1).1 nd).mp (a1.trans a2.symm)
  rw [z, hj] at hi
  exact (Option.some.inj hi).symm
/-- set anew at the due tick that it has -/
theorem reset_core {W : WS} {m : Tm} (ok : WOk W) (hm : m ∈ W.live) : ((dropT m.num W.live ++ [(⟨m.num, m.due, m.per, W.tick⟩ : Tm)]).map (coreM 0)).Perm (W.live.map (coreM 0)) := by
  have ok2 := okw_reset ok hm (ok.tms m hm).due (ok.tms m hm).big
  refine (List.perm_ext_iff_of_nodup (cores_nd 0 ok2.nd) (cores_nd 0 ok.nd)).mpr fun c => ?_
  rw [List.mem_map, List.mem_map]
  constructor
  · rintro ⟨o, ho, rfl⟩
    rcases List.mem_append.mp ho with z | z
    · exact ⟨o, (List.mem_filter.mp z).1, rfl⟩
    · rw [List.mem_singleton.mp z]
      exact ⟨m, hm, rfl⟩
  · rintro ⟨x, hx, rfl⟩
    by_cases e : x.num = m.num
    · rw [num_uniq ok.nd hm hx e]
      exact ⟨_, List.mem_append_right _ (List.mem_singleton.mpr rfl), rfl⟩
    · exact ⟨x, List.mem_append_left _ (List.mem_filter.mpr ⟨hx, by simpa using e⟩), rfl⟩
/-- wheels that stand in the heap -/
def WhsAt (C : Addr) (H : Hp) : List Addr → List WS → Prop
  | [], [] => True
  | p :: ps, W :: Ws => (∃ q l, WheelAt C H p q l W) ∧ WhsAt C H ps Ws
  | _, _ => False
theorem WhsAt.same {C : Addr} {H H' : Hp} (s : Same H H') : ∀ {ps : List Addr} {Ws : List WS}, WhsAt C H ps Ws → WhsAt C H' ps Ws
  | [], [], _ => trivial
  | _ :: _, _ :: _, ⟨⟨q, l, h1⟩, h2⟩ => ⟨⟨q, l, h1.same s⟩, h2.same s⟩
  | [], _ :: _, h => h.elim
  | _ :: _, [], h => h.elim
theorem WhsAt.app {C : Addr} {H : Hp} {p q l : Addr} {W : WS} (h0 : WheelAt C H p q l W) : ∀ {ps : List Addr} {Ws : List WS}, WhsAt C H ps Ws → WhsAt C H (ps ++ [p]) (Ws ++ [W])
  | [], [], _ => ⟨⟨q, l, h0⟩, trivial⟩
  | _ :: _, _ :: _, ⟨h1, h2⟩ => ⟨h1, h2.app h0⟩
  | [], _ :: _, h => h.elim
  | _ :: _, [], h => h.elim
theorem WhsAt.len {C : Addr} {H : Hp} : ∀ {ps : List Addr} {Ws : List WS}, WhsAt C H ps Ws → ps.length = Ws.length
  | [], [], _ => rfl
  | _ :: _, _ :: _, h => congrArg Nat.succ h.2.len
  | [], _ :: _, h => h.elim
  | _ :: _, [], h => h.elim
theorem WhsAt.item {C : Addr} {H : Hp} : ∀ {ps : List Addr} {Ws : List WS} {i : Nat} {x : V}, WhsAt C H ps Ws → (ps.map V.ref)[i]? = some x → ∃ p W q l, x = .ref p ∧ Ws[i]? = some W ∧ WheelAt C H p q l W
  | p :: ps, W :: Ws, 0, x, ⟨⟨q, l, h⟩, _⟩, e => ⟨p, W, q, l, (Option.some.inj e).symm, rfl, h⟩
  | p :: ps, W :: Ws, i + 1, x, h, e => WhsAt.item (i := i) h.2 e
  | [], [], _, _, _, e => by cases e
  | [], _ :: _, _, _, h, _ => h.elim
  | _ :: _, [], _, _, h, _ => h.elim
theorem eqv_nolists (as : List (Addr × List Nat)) : PyData.eqv (.list (as.map fun x => PyData.list (x.2.map fun y => PyData.int (y : Nat)))) (.list []) = decide (as = []) := by
  cases as with
  | nil => rfl
  | cons n ns => rfl
theorem lls_lay : ∀ as : List (Addr × List Nat), PyData.canLayAll0 (as.map fun x => PyData.list (x.2.map fun y => PyData.int (y : Nat))) = true
  | [] => rfl
  | x :: as => by
    show (PyData.canLayAll0 (x.2.map fun y => PyData.int (y : Nat)) && PyData.canLayAll0 (as.map fun x => PyData.list (x.2.map fun y => PyData.int (y : Nat)))) = true
    rw [lls_lay as, nats_lay]
    rfl
theorem lls_depth : ∀ as : List (Addr × List Nat), PyData.depthAll (as.map fun x => PyData.list (x.2.map fun y => PyData.int (y : Nat))) ≤ 1
  | [] => by decide
  | x :: as => by
    show max (PyData.depthAll (x.2.map fun y => PyData.int (y : Nat)) + 1) (PyData.depthAll (as.map fun x => PyData.list (x.2.map fun y => PyData.int (y : Nat)))) ≤ 1
    rw [nats_depth]
    have := lls_depth as
    omega
theorem lls_shaped (as : List (Addr × List Nat)) : SeqAt.shaped (.list (as.map fun x => PyData.list (x.2.map fun y => PyData.int (y : Nat)))) = true := by
  have h1 : (PyData.list (as.map fun x => PyData.list (x.2.map fun y => PyData.int (y : Nat)))).canLay0 = true := by
    show PyData.canLayAll0 _ = true
    exact lls_lay as
  have h2 : (PyData.list (as.map fun x => PyData.list (x.2.map fun y => PyData.int (y : Nat)))).depth ≤ 64 := by
    show PyData.depthAll _ + 1 ≤ 64
    have := lls_depth as
    omega
  unfold SeqAt.shaped
  rw [h1, decide_eq_true h2]
  rfl
theorem lls_dp {K : PySem.W.Frag} {H : Hp} : ∀ as : List (Addr × List Nat), (∀ x ∈ as, H x.1 = some (.lst (x.2.map fun y => V.int (y : Nat)))) → DpAll K H (as.map fun x => V.ref x.1) (as.map fun x => PyData.list (x.2.map fun y => PyData.int (y : Nat)))
  | [], _ => .nil
  | x :: as, h => .cons (.lst (SqL.of (h x (List.mem_cons_self ..))) (dp_nats _)) (lls_dp as fun y hy => h y (List.mem_cons_of_mem _ hy))
/-! ### law k09 -/
theorem Many.less {C : Addr} {H0 H : Hp} {s : Addr} {k : Nat} {P Q L : Nat → Addr} {W : Nat → WS} (M : Many C H0 H s (k + 1) P Q L W) : Many C H0 H s k P Q L W :=
  ⟨M.base, M.s0, M.src, fun i hi => M.at_ i (by omega), fun i hi => M.p0 i (by omega), fun i hi => M.l0 i (by omega), fun i j hi hj => M.np i j (by omega) (by omega), fun i j hi hj => M.nl i j (by omega) (by omega)⟩
section
variable {P : Program} {w : World} {K : PySem.W.Frag} {mg : Str → Option Value} {base : Heap}
theorem nm_due9 {b : Nat} {q : Addr} {t f : Nat} {l : Addr} : (wfl b q t f l).lookup ("due" : Str) = none := wf_no (by decide +kernel) (by decide +kernel) (by decide +kernel) (by decide +kernel) (by decide +kernel)
def spLaw (K : PySem.W.Frag) : Sp := fun vs H Q _ => ∃ (a : Addr) (ns : List Int), vs = [.ref a] ∧ SqL K H a (ns.map V.int) ∧ ns.length ≤ 63 ∧ ∀ H', Q (.bl true) H'
theorem ok_law {f C : Addr} {fd : FuncData} (F : Fun K "law" "law" s_law f fd) (T : Tx K mg) (TW : TxW K mg C) (hI : HasInit P w K mg base 5 C)
    (h1 : Has P w K mg base 2 "_law_source" ["_law_script", "_law_k"] [] (spSource K)) (h2 : Has P w K mg base 3 "_law_base" ["_law_source_here"] [] spBase9) (h3 : Has P w K mg base 3 "_law_levels" ["_law_source_here"] [] spLevels) (h4 : Has P w K mg base 3 "_law_tick" ["_law_source_here", "_law_base_here"] [] spTick)
    (h5 : Has P w K mg base 2 "_law_next" ["_law_source_here", "_law_many"] [] spNext) (h6 : Has P w K mg base 7 "restored" ["snapshot"] [] (spRestored C K)) (h7 : Has P w K mg base 3 "_law_call" ["_law_source_here", "_law_wheel", "_law_span"] [] (spCall63 C))
    (h8 : Has P w K mg base 7 "_law_made" ["_law_wheel", "_law_call_here"] [] (spMade63 C)) (h9 : Has P w K mg base 3 "_law_others" ["_law_source_here", "_law_told"] [] (spOthers K))
    (m1 : HasM P w K mg base 7 C "snapshot" ["self"] [] (spSnapshot C)) (m2 : HasM P w K mg base 5 C "lists" ["self"] [] (spLists C)) (m3 : HasM P w K mg base 3 C "due" ["self", "timer"] [] (spDue C)) (m4 : HasM P w K mg base 4 C "reset" ["self", "timer", "due"] [] (spReset C))
    (Q_Wheel : HasEqW P w K mg base 8 C (spEqAny C K)) :
    FnOk P w K mg base CX0 10 f fd ["_law_script"] (spLaw K) := by
  have cl_Wheel := TW.cl
  obtain ⟨fi, fdi, M_Wheel, G_Wheel_init, b_Wheel_init⟩ := hI
  have c_Wheel := TW.mgC
  obtain ⟨f__law_source, fd__law_source, ds__law_source, G__law_source, m__law_source, k__law_source, b__law_source, v__law_source⟩ := h1
  obtain ⟨f__law_base, fd__law_base, ds__law_base, G__law_base, m__law_base, k__law_base, b__law_base, v__law_base⟩ := h2
  obtain ⟨f__law_levels, fd__law_levels, ds__law_levels, G__law_levels, m__law_levels, k__law_levels, b__law_levels, v__law_levels⟩ := h3
  obtain ⟨f__law_tick, fd__law_tick, ds__law_tick, G__law_tick, m__law_tick, k__law_tick, b__law_tick, v__law_tick⟩ := h4
  obtain ⟨f__law_next, fd__law_next, ds__law_next, G__law_next, m__law_next, k__law_next, b__law_next, v__law_next⟩ := h5
  obtain ⟨f_restored, fd_restored, ds_restored, G_restored, m_restored, k_restored, b_restored, v_restored⟩ := h6
  obtain ⟨f__law_call, fd__law_call, ds__law_call, G__law_call, m__law_call, k__law_call, b__law_call, v__law_call⟩ := h7
  obtain ⟨f__law_made, fd__law_made, ds__law_made, G__law_made, m__law_made, k__law_made, b__law_made, v__law_made⟩ := h8
  obtain ⟨f__law_others, fd__law_others, ds__law_others, G__law_others, m__law_others, k__law_others, b__law_others, v__law_others⟩ := h9
  obtain ⟨g1, gd1, gs1, G_Wheel_snapshot, M_Wheel_snapshot, b_Wheel_snapshot, v_Wheel_snapshot⟩ := m1
  obtain ⟨g2, gd2, gs2, G_Wheel_lists, M_Wheel_lists, b_Wheel_lists, v_Wheel_lists⟩ := m2
  obtain ⟨g3, gd3, gs3, G_Wheel_due, M_Wheel_due, b_Wheel_due, v_Wheel_due⟩ := m3
  obtain ⟨g4, gd4, gs4, G_Wheel_reset, M_Wheel_reset, b_Wheel_reset, v_Wheel_reset⟩ := m4
  refine F.ok sc_law (fun vs H Q E h => ?_) (fun cdv A outer s H vs Q E hr h => ?_)
  · obtain ⟨a, ns, rfl, _⟩ := h
    rfl
  · obtain ⟨sa, ns, rfl, hS, hlen, fin⟩ := h
    have hu := hu_of hr
    refine ⟨_, (pss_cons (ps_for PassesOwn.never rfl (pi_range1 (by rfl) T.b_range (pa_cons (pe_callB (call_max2 rfl) (by rfl) T.b_max (by decide +kernel) (pa_cons pe_int (pa_cons (pe_callB (call_min2 rfl) (by rfl) T.b_min (by decide +kernel) (pa_cons pe_int (pa_cons (pe_callB (lenK (K := K) rfl) (by rfl) T.b_len PySem.boot_len (pa_cons (pv 0) pa_nil)) pa_nil))) pa_nil))) pa_nil)) (pg_name (i := 1) sc_law.nd rfl (.inl rfl))
        (pss_cons (ps_set (i := 2) sc_law.nd rfl (.inl rfl) (pe_call G__law_source (hr.mono (by decide)) (by rfl) m__law_source k__law_source b__law_source v__law_source pass0 (pa_cons (pv 0) (pa_cons (pv 1) pa_nil))))
        (pss_cons (ps_par (i := 3) (j := 4) (by rfl) sc_law.nd rfl rfl (by decide) rfl rfl (pa_cons (pe_call G__law_base (hr.mono (by decide)) (by rfl) m__law_base k__law_base b__law_base v__law_base pass0 (pa_cons (pv 2) pa_nil)) (pa_cons (pe_call G__law_levels (hr.mono (by decide)) (by rfl) m__law_levels k__law_levels b__law_levels v__law_levels pass0 (pa_cons (pv 2) pa_nil)) pa_nil)) (by rfl))
        (pss_cons (ps_set (i := 5) sc_law.nd rfl (.inr rfl) (pe_makeK M_Wheel G_Wheel_init (hr.mono (by decide)) (by rfl) c_Wheel b_Wheel_init pass0 (pa_cons (pv 3) (pa_cons (pv 4) pa_nil)) (pk_cons (pe_call G__law_tick (hr.mono (by decide)) (by rfl) m__law_tick k__law_tick b__law_tick v__law_tick pass0 (pa_cons (pv 2) (pa_cons (pv 3) pa_nil))) pk_nil)))
        (pss_cons (ps_for PassesOwn.never rfl (pi_range1 (by rfl) T.b_range (pa_cons (pe_op op_addN pe_int (pe_call G__law_next (hr.mono (by decide)) (by rfl) m__law_next k__law_next b__law_next v__law_next pass0 (pa_cons (pv 2) (pa_cons pe_int pa_nil)))) pa_nil)) (pg_name (i := 6) sc_law.nd rfl (.inl rfl))
          (pss_one (ps_expr (pe_call G__law_made (hr.mono (by decide)) (by rfl) m__law_made k__law_made b__law_made v__law_made pass0 (pa_cons (pv 5) (pa_cons (pe_call G__law_call (hr.mono (by decide)) (by rfl) m__law_call k__law_call b__law_call v__law_call pass0 (pa_cons (pv 2) (pa_cons (pv 5) (pa_cons (pe_ix (ix_listK (K := K) rfl) (pe_lst (pa_cons pe_int (pa_cons pe_int pa_nil))) (pe_call G__law_next (hr.mono (by decide)) (by rfl) m__law_next k__law_next b__law_next v__law_next pass0 (pa_cons (pv 2) (pa_cons pe_int pa_nil))) (fun _ _ => rfl)) pa_nil)))) pa_nil))))))
        (pss_cons (ps_set (i := 7) sc_law.nd rfl (.inl rfl) (pe_meth0 (pv 5) cl_Wheel M_Wheel_snapshot G_Wheel_snapshot (hr.mono (by decide)) b_Wheel_snapshot v_Wheel_snapshot pass0))
        (pss_cons (ps_set (i := 8) sc_law.nd rfl (.inl rfl) (pe_lst (pa_cons (pe_call G_restored (hr.mono (by decide)) (by rfl) m_restored k_restored b_restored v_restored pass0 (pa_cons (pv 7) pa_nil)) (pa_cons (pe_call G_restored (hr.mono (by decide)) (by rfl) m_restored k_restored b_restored v_restored pass0 (pa_cons (pe_tup (pa_cons (pv 3) (pa_cons (pe_slice (sl_listK (K := K) rfl) (pe_op op_cat (pv 4) (pe_op op_rep (pe_lst (pa_cons (pe_ix (ix_listK (K := K) rfl) (pv 4) (pe_un un_neg pe_int) (fun _ _ => rfl)) pa_nil)) pe_int)) po_none (po_some pe_int)) (pa_cons (pe_ix (ix_tupK (K := K) rfl) (pv 7) pe_int (fun _ _ => rfl)) (pa_cons (pe_ix (ix_tupK (K := K) rfl) (pv 7) pe_int (fun _ _ => rfl)) (pa_cons (pe_ix (ix_tupK (K := K) rfl) (pv 7) pe_int (fun _ _ => rfl)) pa_nil)))))) pa_nil)) pa_nil))))
        (pss_cons (ps_if (pt_cmpR (op_neK (K := K) rfl hr.units) (pe_lc (own := [("_law_other", 9)]) (g := gName 9)  rfl sc_law.nd (pi_list (pv 8)) (blkOk_by (own := [("_law_other", 9)]) (N := N_law) (sc := defScope s_law) (by decide +kernel)) (fun _ _ _ _ _ => (pg_name (i := 9) sc_law.nd rfl (.inl rfl))) (fun _ _ _ _ _ => (pts_one (PW.pt (pw_or (pt_cmpR (op_neWK (K := K) rfl Q_Wheel hr) (pv 9) (pv 5) (nomark _)) (pw_or1 (pt_not (pt_cmpR (op_eqWK (K := K) rfl Q_Wheel (hr.mono (by decide))) (pv 5) (pv 9) (nomark _)))))))) (fun _ _ _ _ _ => (pv 9))) (pe_lst pa_nil) (nomark _))
          (pss_one (ps_ret pe_bl))
          pss_nil)
        (pss_cons (ps_setLc (i := 10) (own := [("_law_one", 13)]) (g := gName 13) (tt := tYes) rfl sc_law.nd rfl rfl (sw_true rfl rfl rfl (by decide +kernel)) (pi_list (pe_call G__law_others (hr.mono (by decide)) (by rfl) m__law_others k__law_others b__law_others v__law_others pass0 (pa_cons (pv 2) (pa_cons (pv 7) pa_nil)))) (blkOk_by (own := [("_law_one", 13)]) (N := N_law) (sc := defScope s_law) (by decide +kernel)) (fun _ _ _ _ _ => (pg_name (i := 13) sc_law.nd rfl (.inl rfl))) (fun _ _ _ _ _ => pts_nil) (fun _ _ _ _ _ => (pe_call G_restored (hr.mono (by decide)) (by rfl) m_restored k_restored b_restored v_restored pass0 (pa_cons (pv 13) pa_nil))))
        (pss_cons (ps_if (pt_cmpR (op_neK (K := K) rfl hr.units) (pe_lc (own := [("_law_other", 9)]) (g := gName 9)  rfl sc_law.nd (pi_list (pv 10)) (blkOk_by (own := [("_law_other", 9)]) (N := N_law) (sc := defScope s_law) (by decide +kernel)) (fun _ _ _ _ _ => (pg_name (i := 9) sc_law.nd rfl (.inl rfl))) (fun _ _ _ _ _ => (pts_one (PW.pt (pw_or (pt_cmpR (op_eqWK (K := K) rfl Q_Wheel (hr.mono (by decide))) (pv 9) (pv 5) (nomark _)) (pw_or1 (pt_not (pt_cmpR (op_neWK (K := K) rfl Q_Wheel hr) (pv 5) (pv 9) (nomark _)))))))) (fun _ _ _ _ _ => (pv 9))) (pe_lst pa_nil) (nomark _))
          (pss_one (ps_ret pe_bl))
          pss_nil)
        (pss_cons (ps_setLc (i := 11) (own := [("_law_row", 14)]) (g := gName 14)  rfl sc_law.nd rfl rfl (sw_true rfl rfl rfl (by decide +kernel)) (pi_list (pe_meth0 (pv 5) cl_Wheel M_Wheel_lists G_Wheel_lists (hr.mono (by decide)) b_Wheel_lists v_Wheel_lists pass0)) (blkOk_by (own := [("_law_row", 14)]) (N := N_law) (sc := defScope s_law) (by decide +kernel)) (fun _ _ _ _ _ => (pg_name (i := 14) sc_law.nd rfl (.inl rfl))) (fun _ _ _ _ _ => (pts_one (pt_cmpR op_gt (pe_callB (lenK (K := K) rfl) (by rfl) T.b_len PySem.boot_len (pa_cons (pe_ix (ix_tupK (K := K) rfl) (pv 14) pe_int (fun _ _ => rfl)) pa_nil)) pe_int (nomark _)))) (fun _ _ _ _ _ => (pe_ix (ix_tupK (K := K) rfl) (pv 14) pe_int (fun _ _ => rfl))))
        (pss_cons (ps_if (pt_cmpR (op_neK (K := K) rfl hr.units) (pv 11) (pe_lst pa_nil) (nomark _))
          (pss_cons (ps_set (i := 9) sc_law.nd rfl (.inl rfl) (pe_call G_restored (hr.mono (by decide)) (by rfl) m_restored k_restored b_restored v_restored pass0 (pa_cons (pv 7) pa_nil)))
          (pss_cons (ps_expr (pe_meth (pv 9) cl_Wheel M_Wheel_reset G_Wheel_reset (hr.mono (by decide)) b_Wheel_reset v_Wheel_reset pass0 (pa_cons (pe_ix (ix_listK (K := K) rfl) (pe_ix (ix_listK (K := K) rfl) (pv 11) pe_int (fun _ _ => rfl)) pe_int (fun _ _ => rfl)) (pa_cons (pe_meth (pv 5) cl_Wheel M_Wheel_due G_Wheel_due (hr.mono (by decide)) b_Wheel_due v_Wheel_due pass0 (pa_cons (pe_ix (ix_listK (K := K) rfl) (pe_ix (ix_listK (K := K) rfl) (pv 11) pe_int (fun _ _ => rfl)) pe_int (fun _ _ => rfl)) pa_nil)) pa_nil))))
          (pss_cons (ps_expr (pe_meth (pv 5) cl_Wheel M_Wheel_reset G_Wheel_reset (hr.mono (by decide)) b_Wheel_reset v_Wheel_reset pass0 (pa_cons (pe_ix (ix_listK (K := K) rfl) (pe_ix (ix_listK (K := K) rfl) (pv 11) pe_int (fun _ _ => rfl)) pe_int (fun _ _ => rfl)) (pa_cons (pe_meth (pv 5) cl_Wheel M_Wheel_due G_Wheel_due (hr.mono (by decide)) b_Wheel_due v_Wheel_due pass0 (pa_cons (pe_ix (ix_listK (K := K) rfl) (pe_ix (ix_listK (K := K) rfl) (pv 11) pe_int (fun _ _ => rfl)) pe_int (fun _ _ => rfl)) pa_nil)) pa_nil))))
          (pss_one (ps_if (pt_cmpR op_ne (pe_cmpR (op_eqWK (K := K) rfl Q_Wheel (hr.mono (by decide))) (pv 9) (pv 5) (nomark _)) (pe_cmpR (op_eqK (K := K) rfl hr.units) (pe_meth0 (pv 9) cl_Wheel M_Wheel_lists G_Wheel_lists (hr.mono (by decide)) b_Wheel_lists v_Wheel_lists pass0) (pe_meth0 (pv 5) cl_Wheel M_Wheel_lists G_Wheel_lists (hr.mono (by decide)) b_Wheel_lists v_Wheel_lists pass0) (nomark _)) (nomark _))
            (pss_one (ps_ret pe_bl))
            pss_nil)))))
          pss_nil)
        (pss_cons (ps_set (i := 12) sc_law.nd rfl (.inl rfl) (pe_lst (pa_cons (pv 7) (pa_cons pe_non (pa_cons (pe_lst pa_nil) (pa_cons pe_int (pa_cons (pe_meth0 (pv 5) cl_Wheel M_Wheel_lists G_Wheel_lists (hr.mono (by decide)) b_Wheel_lists v_Wheel_lists pass0) (pa_cons pe_str pa_nil))))))))
        (pss_one (ps_if (pt_cmpR (op_neK (K := K) rfl hr.units) (pe_lc (own := [("_law_thing", 15)]) (g := gName 15)  rfl sc_law.nd (pi_list (pv 12)) (blkOk_by (own := [("_law_thing", 15)]) (N := N_law) (sc := defScope s_law) (by decide +kernel)) (fun _ _ _ _ _ => (pg_name (i := 15) sc_law.nd rfl (.inl rfl))) (fun _ _ _ _ _ => (pts_one (PW.pt (pw_or (pt_cmpR (op_eqWK (K := K) rfl Q_Wheel (hr.mono (by decide))) (pv 5) (pv 15) (nomark _)) (pw_or1 (pt_not (pt_cmpR (op_neWK (K := K) rfl Q_Wheel hr) (pv 5) (pv 15) (nomark _)))))))) (fun _ _ _ _ _ => (pv 15))) (pe_lst pa_nil) (nomark _))
          (pss_one (ps_ret pe_bl))
          pss_nil)))))))))))))))
      (pss_one (ps_ret pe_bl))), ?_⟩
    refine ⟨.ref sa, rfl, sa, ns.map V.int, rfl, .inl hS, 6, _, rfl, 1, _, rfl, _, rfl, by omega, by rw [List.length_map]; omega, for_range (Pv := fun i σ H' => Same H H' ∧ ∃ y1 y2 y3 y4 y5 y6 y7 y8 y9 y10 y11 y12, σ = [some (.ref sa), y1, y2, y3, y4, y5, y6, y7, y8, y9, y10, y11, y12, none, none, none]) ⟨Same.refl _, none, none, none, none, none, none, none, none, none, none, none, none, rfl⟩ ?_ ?_⟩
    · rintro i0 σ Hz hi ⟨bz, y1, y2, y3, y4, y5, y6, y7, y8, y9, y10, y11, y12, rfl⟩
      refine ⟨_, rfl, _, rfl, sa, ns, 0 + i0, rfl, bz.seq hS, fun H1 ps0 s1 hp0 hsrc => ?_⟩
      have hps0 : H ps0 = none := bz.free hp0
      have b1 : Same H H1 := bz.trans s1
      refine ⟨_, rfl, ps0, rfl, hsrc, fun b H2 hb hb64 h33 k2 => ⟨_, rfl, ps0, rfl, k2.src, fun H3 ql ws k3 hq0 hql hne h60 => ?_⟩⟩
      have k23 := k2.trans k3
      have nql : ql ≠ ps0 := k2.src.ne hq0
      have M3 : Many C H H3 ps0 0 (fun _ => 0) (fun _ => 0) (fun _ => 0) (fun _ => ⟨0, [], 0, 0, []⟩) := ⟨fun c o e => k23.keep _ _ (ne_of_none e hps0) (b1 _ _ e), hps0, k23.src, fun i hi => absurd hi (Nat.not_lt_zero i), fun i hi => absurd hi (Nat.not_lt_zero i), fun i hi => absurd hi (Nat.not_lt_zero i), fun i _ hi => absurd hi (Nat.not_lt_zero i), fun i _ hi => absurd hi (Nat.not_lt_zero i)⟩
      refine ⟨_, _, rfl, ?_⟩
      -- the wheel
      refine ⟨_, rfl, _, rfl, _, rfl, _, rfl, ps0, b, rfl, hb, hb64, M3.src, fun n0 H6 hn0 k6 => ⟨rfl, rfl, fun p dx hpn hdx0 nex => ?_⟩⟩
      have M6 := M3.draw k6
      have hql6 := k6.keep _ _ nql hql
      have u6 : Same H6 (upd (upd H6 dx (.own p)) p (.ins C dx [])) := fun c o e => by
        rw [upd_ne (ne_of_none e hpn), upd_ne (ne_of_none e hdx0)]
        exact e
      refine ⟨p, dx, ql, b, n0, ws, rfl, upd_same, SqL.of (u6 _ _ hql6), hb, hb64, hne, h60, fun H7 q l k7 hq7 hl7 hw7 => ⟨rfl, ?_⟩⟩
      have s7 : Same H6 H7 := fun c o e => k7 _ _ (ne_of_none e hpn) (u6 _ _ e)
      have okF : WOk ⟨b, trimW ws, n0, 0, []⟩ := ⟨hb, hb64, trim_ne hne, Nat.le_trans (trim_len ws) h60, (fun m h => by cases h), List.nodup_nil, Nat.zero_le _⟩
      have M7 := M6.more s7 hpn (u6.free hl7) hw7
      have hql7 := s7 _ _ hql6
      have IN0 : In9 n0 0 ⟨b, trimW ws, n0, 0, []⟩ := ⟨okF, Nat.zero_le _, (fun m h => by cases h), by show n0 ≤ _; omega⟩
      dsimp only [gName, List.set]
      -- the calls
      refine ⟨_, rfl, ps0, 12, rfl, by decide, by decide, M7.src, fun r10 H10 hr10 k10 => ⟨2, r10, rfl, rfl, trivial, _, rfl, (by dsimp only; omega), (by dsimp only; omega), for_range (Pv := fun i σ H' => ∃ (P Q L : Nat → Addr) (W : Nat → WS) (z6 : Option V), σ = [some (.ref sa), some (.int ((0 : Int) + (i0 : Nat))), some (.ref ps0), some (.int (b : Nat)), some (.ref ql), some (.ref (P 0)), z6, y7, y8, y9, y10, y11, y12, none, none, none] ∧ Many C H H' ps0 1 P Q L W ∧ In9 n0 i (W 0) ∧ (W 0).b = b ∧ (W 0).ws = trimW ws ∧ H' ql = some (.lst (ws.map lvV))) ⟨_, _, _, _, y6, rfl, M7.draw k10, IN0, rfl, rfl, k10.keep _ _ nql hql7⟩ ?_ ?_⟩⟩
      · rintro i σ H12 hi ⟨P', Q', L', W', z6, rfl, M1, I1, hb0, hw0, hq12⟩
        have hi20 : i < 13 := by
          have hi' : i < ((2 + r10 : Nat) : Int).toNat := hi
          omega
        have htk := I1.tk
        have few0 := I1.few
        have ok0 := I1.ok
        have at0 := M1.at_ 0 (by decide)
        refine ⟨_, rfl, _, rfl, _, rfl, by simp [sizeLine_eq], fun l4 hl4 => ?_⟩
        have s4 := same_upd (o := .lst [.int 20, .int 900]) hl4
        have el4 := upd_same (H := H12) (a := l4) (o := .lst [.int 20, .int 900])
        generalize upd H12 l4 (.lst [.int 20, .int 900]) = H13 at s4 el4 ⊢
        have M13 := M1.same s4
        have nl4 : l4 ≠ ps0 := M1.src.ne hl4
        refine ⟨_, rfl, ps0, 2, rfl, by decide, by decide, M13.src, fun r5 H14 hr5 k14 => ?_⟩
        have M14 := M13.draw k14
        obtain ⟨sp, hsp1, hsp2, esp⟩ : ∃ sp : Nat, 20 ≤ sp ∧ sp ≤ 900 ∧ ([.int 20, .int 900] : List V)[r5]? = some (.int (sp : Nat)) := by
          have z : r5 = 0 ∨ r5 = 1 := by omega
          rcases z with rfl | rfl
          · exact ⟨20, by decide, by decide, rfl⟩
          · exact ⟨900, by decide, by decide, rfl⟩
        refine ⟨l4, _, r5, _, rfl, rfl, SqL.of (k14.keep _ _ nl4 el4), atI_nat esp, ?_⟩
        have at14 := M14.at_ 0 (by decide)
        refine ⟨ps0, P' 0, Q' 0, L' 0, W' 0, sp, rfl, M14.src, at14, words_ne at14 M14.src, by omega, hsp1, Nat.le_trans hsp2 (by decide), by omega, fun H15 u cl k15 hu0 hu15 hcl => ?_⟩
        have M15 := M14.draw k15
        obtain ⟨tl, W0', D0, I0', hb0', hw0'⟩ := did_first9 I1 (by omega) hsp1 hsp2 (by omega) hcl
        have at15 := M15.at_ 0 (by decide)
        refine ⟨P' 0, u, Q' 0, L' 0, W' 0, W0', cl, tl, rfl, at15, ok0, by omega, hu15, D0, fun H16 l16 v16 k16 w16 ret16 => ?_⟩
        have M16 := M15.go (j := 0) (by decide) k16 w16
        exact ⟨P', Q', _, fun i => if i = 0 then W0' else W' i, _, rfl, M16, I0', hb0'.trans hb0, hw0'.trans hw0, k16.lst at15 (k15.keep _ _ nql (k14.keep _ _ nql (s4 _ _ hq12)))⟩
      · rintro σ H12 ⟨P', Q', L', W', z6, rfl, M1, I1, hb0, hw0, hq12⟩
        obtain ⟨n1, hn1, I1⟩ : ∃ n1, n1 ≤ 13 ∧ In9 n0 n1 (W' 0) := ⟨_, (by
          show ((2 + r10 : Nat) : Int).toNat ≤ 13
          omega), I1⟩
        have ok0 := I1.ok
        have few0 := I1.few
        have htk := I1.tk
        have at0 := M1.at_ 0 (by decide)
        obtain ⟨dx0, hp0'⟩ := at0.ins
        refine ⟨_, rfl, P' 0, dx0, _, rfl, hp0', nm_snapshot, P' 0, Q' 0, L' 0, W' 0, rfl, at0, ok0, fun H13 u q' R ts cs s13 hu0 hq0' hR0 eu eq eR hP hI => ?_⟩
        obtain ⟨W, eW⟩ : ∃ W, W = W' 0 := ⟨_, rfl⟩
        rw [← eW] at ok0 few0 htk hb0 hw0 eu eq hP hI
        have sok := snap_ok ok0 hI
        obtain ⟨rs, ers⟩ : ∃ rs, rs = (toldT W.b W.ws W.tick W.live (cs.map (·.1))).map rowOf := ⟨_, rfl⟩
        rw [← ers] at hP sok
        have htr : trimW W.ws = W.ws := by
          rw [hw0]
          exact trim_twice ws
        have A1 := (Al.refl ok0).again htr hI
        rw [← ers] at A1
        have prs : rs.Perm (W.live.map rowOf) := by
          rw [ers]
          exact told_rows ok0 hI
        have rlen : rs.length = W.live.length := by
          have z := prs.length_eq
          rw [List.length_map] at z
          exact z
        have big : ∀ r ∈ rs, r.2.1 < 2 ^ 240 := fun r hr => by
          obtain ⟨m, hm, e⟩ := List.mem_map.mp (prs.mem_iff.mp hr)
          have z : m.due ≤ W.tick + 1203 := by
            have y := I1.tm m (by rw [← eW]; exact hm)
            rw [← eW] at y
            exact y.1
          rw [← e]
          show m.due < 2 ^ 240
          omega
        have M13 := M1.same s13
        have hql13 := s13 _ _ hq12
        -- two that are equal to it
        have S13 : SnapAt K H13 u W.b W.ws W.tick W.fol rs := ⟨⟨q', R, ts, eu, SqL.of eq, SqL.of eR, hP⟩⟩
        refine ⟨_, rfl, u, W.b, W.ws, W.tick, W.fol, rs, rfl, S13, sok, fun H14 p1 q1 l1 s14 hp1 hq1 hl1 w1 => ?_⟩
        have hql14 := s14 _ _ hql13
        have hpos : 0 < ws.length := List.length_pos_iff.mpr hne
        obtain ⟨x, hx⟩ : ∃ x, ws[ws.length - 1]? = some x := ⟨_, List.getElem?_eq_getElem (by omega)⟩
        have hxl : (ws.map lvV)[(ws.map lvV).length - 1]? = some (lvV x) := by
          rw [List.length_map, List.getElem?_map, hx]
          rfl
        refine ⟨_, rfl, _, rfl, _, rfl, 1, rfl, ql, _, -1, _, rfl, rfl, SqL.of hql14, atI_neg1 hxl, by simp [sizeLine_eq], fun a1 ha1 => ?_⟩
        have s15 := same_upd (o := .lst [lvV x]) ha1
        have e15 := upd_same (H := H14) (a := a1) (o := .lst [lvV x])
        generalize upd H14 a1 (.lst [lvV x]) = H15 at s15 e15 ⊢
        refine ⟨a1, 2, _, rfl, rfl, e15, by decide, by decide, by simp [sizeLine_eq], fun a2 ha2 => ?_⟩
        have erep : (List.replicate (2 : Int).toNat [lvV x]).flatten = [lvV x, lvV x] := rfl
        rw [erep]
        have s16 := same_upd (o := .lst [lvV x, lvV x]) ha2
        have e16 := upd_same (H := H15) (a := a2) (o := .lst [lvV x, lvV x])
        generalize upd H15 a2 (.lst [lvV x, lvV x]) = H16 at s16 e16 ⊢
        refine ⟨ql, a2, _, _, rfl, rfl, s16 _ _ (s15 _ _ hql14), e16, sizeLine_le (by rw [List.length_map]; show ws.length + 2 ≤ 1000000; omega), fun a3 ha3 => ?_⟩
        have ecat : ws.map lvV ++ [lvV x, lvV x] = (ws ++ [x, x]).map lvV := by
          rw [List.map_append]
          rfl
        rw [ecat]
        have s17 := same_upd (o := .lst ((ws ++ [x, x]).map lvV)) ha3
        have e17 := upd_same (H := H16) (a := a3) (o := .lst ((ws ++ [x, x]).map lvV))
        generalize upd H16 a3 (.lst ((ws ++ [x, x]).map lvV)) = H17 at s17 e17 ⊢
        refine ⟨60, rfl, a3, _, rfl, SqL.of e17, fun a4 ha4 => ?_⟩
        have ecut : cutV ((ws ++ [x, x]).map lvV) none (some 60) = ((ws ++ [x, x]).take 60).map lvV := by
          rw [show (60 : Int) = ((60 : Nat) : Int) from rfl, cutTo, List.map_take]
        rw [ecut]
        have s18 := same_upd (o := .lst (((ws ++ [x, x]).take 60).map lvV)) ha4
        have e18 := upd_same (H := H17) (a := a4) (o := .lst (((ws ++ [x, x]).take 60).map lvV))
        generalize upd H17 a4 (.lst (((ws ++ [x, x]).take 60).map lvV)) = H18 at s18 e18 ⊢
        have s1418 := (s15.trans s16).trans (s17.trans s18)
        have hT18 := SqT.of (K := K) (s1418 _ _ (s14 _ _ eu))
        refine ⟨_, rfl, u, _, 2, _, rfl, rfl, hT18, atI_nat (j := 2) rfl, _, rfl, u, _, 3, _, rfl, rfl, hT18, atI_nat (j := 3) rfl, _, rfl, u, _, 4, _, rfl, rfl, hT18, atI_nat (j := 4) rfl, by simp [sizeLine_eq], fun u2 hu2 => ?_⟩
        have s19 := same_upd (o := .tup [.int (b : Nat), .ref a4, .int (W.tick : Nat), .int (W.fol : Nat), .ref R]) hu2
        have e19 := upd_same (H := H18) (a := u2) (o := .tup [.int (b : Nat), .ref a4, .int (W.tick : Nat), .int (W.fol : Nat), .ref R])
        generalize upd H18 u2 (.tup [.int (b : Nat), .ref a4, .int (W.tick : Nat), .int (W.fol : Nat), .ref R]) = H19 at s19 e19 ⊢
        have s1419 := s1418.trans s19
        have s1319 := s14.trans s1419
        have sok2 : SnapOk b ((ws ++ [x, x]).take 60) W.tick W.fol rs := ⟨hb, hb64, (fun z => by
          have y := congrArg List.length z
          rw [List.length_take, List.length_append] at y
          have y2 : min 60 (ws.length + 2) = 0 := y
          omega), (by rw [List.length_take]; omega), sok.rows, sok.nd, sok.few⟩
        refine ⟨u2, b, (ws ++ [x, x]).take 60, W.tick, W.fol, rs, rfl, ⟨⟨a4, R, ts, e19, SqL.of (s19 _ _ e18), SqL.of (s1319 _ _ eR), hP.same s1319⟩⟩, sok2, fun H20 p2 q2 l2 s20 hp2 hq2 hl2 w2 => ?_⟩
        rw [trim_longer hne h60 hx, ← hw0, ← hb0] at w2
        rw [htr] at w1
        refine ⟨by simp [sizeLine_eq], fun Ls hLs => ?_⟩
        have s21 := same_upd (o := .lst [.ref p1, .ref p2]) hLs
        have e21 := upd_same (H := H20) (a := Ls) (o := .lst [.ref p1, .ref p2])
        generalize upd H20 Ls (.lst [.ref p1, .ref p2]) = H21 at s21 e21 ⊢
        have s1421 := s1419.trans (s20.trans s21)
        have s1321 := s14.trans s1421
        have A2 : Al 0 W ⟨W.b, W.ws, W.tick, W.fol, rs.map (rowT W.tick)⟩ := by
          rw [htr] at A1
          exact A1
        have wh1 := w1.same s1421
        have wh2 := w2.same s21
        have M21 := M13.same s1321
        dsimp only [gName, List.set]
        have W2s : WhsAt C H21 [p1, p2] [⟨W.b, W.ws, W.tick, W.fol, rs.map (rowT W.tick)⟩, ⟨W.b, W.ws, W.tick, W.fol, rs.map (rowT W.tick)⟩] := ⟨⟨q1, l1, wh1⟩, ⟨q2, l2, wh2⟩, trivial⟩
        have at21 : WheelAt C H21 (P' 0) (Q' 0) (L' 0) W := by
          rw [eW]
          exact M21.at_ 0 (by decide)
        refine ⟨.ref Ls, rfl, Ls, rfl, ⟨_, SqL.of e21⟩, fun D hD => lc_list (K := K) (a := Ls) (xs := [p1, p2].map V.ref) (fun j H' => Same H21 H' ∧ H' D = some (.lst [])) ⟨same_upd hD, upd_same⟩ (fun j H' _ ⟨sm, _⟩ => SqL.of (sm _ _ e21)) ?_ ?_⟩
        · rintro j v H' hv ⟨sm, eD⟩
          obtain ⟨pp, V', qq, ll, rfl, hVj, wp⟩ := (W2s.same sm).item hv
          have eV : V' = ⟨W.b, W.ws, W.tick, W.fol, rs.map (rowT W.tick)⟩ := by
            match j, hVj with
            | 0, h => exact (Option.some.inj h).symm
            | 1, h => exact (Option.some.inj h).symm
            | _ + 2, h => cases h
          rw [eV] at wp
          have at22 := at21.same sm
          obtain ⟨dxa, hpa⟩ := wp.ins
          obtain ⟨dxb, hpb⟩ := at22.ins
          refine ⟨rfl, ?_⟩
          refine ⟨_, rfl, _, rfl, pp, dxa, _, rfl, hpa, .inl ⟨P' 0, dxb, _, rfl, hpb⟩, Or.inl ⟨pp, qq, ll, P' 0, Q' 0, L' 0, _, W, rfl, wp, A2.ok, at22, ok0, fun H23 cs1 cs0 s23 hI1 hI0 => ⟨_, rfl, false, ?_, iteF ?_⟩⟩⟩
          · rw [A2.snap ok0 hI0 hI1]
            exact neq_refl (snap_lay _ _ _ _ _)
          refine ⟨_, rfl, _, rfl, P' 0, dxb, _, rfl, s23 _ _ hpb, .inl ⟨pp, dxa, _, rfl, s23 _ _ hpa⟩, Or.inl ⟨P' 0, Q' 0, L' 0, pp, qq, ll, W, _, rfl, at22.same s23, ok0, wp.same s23, A2.ok, fun H24 cs0' cs1' s24 hI0' hI1' => ⟨_, rfl, true, ?_, iteF ?_⟩⟩⟩
          · rw [A2.snap ok0 hI0' hI1']
            exact eq_refl (snap_lay _ _ _ _ _)
          exact ⟨sm.trans (s23.trans s24), s24 _ _ (s23 _ _ eD)⟩
        · rintro H22 ⟨s22, eD⟩
          refine ⟨by simp [sizeLine_eq], fun e9 he9 => ?_⟩
          have s23 := same_upd (o := .lst []) he9
          have f23 := upd_same (H := H22) (a := e9) (o := .lst [])
          generalize upd H22 e9 (.lst []) = H23 at s23 f23 ⊢
          refine ⟨.list [], .list [], .lst (SqL.of (s23 _ _ eD)) .nil, .lst (SqL.of f23) .nil, rfl, rfl, false, rfl, iteF ?_⟩
          -- those that differ
          have s2123 := s22.trans s23
          have s1323 := s1321.trans s2123
          have M23 := M21.same s2123
          have nqs : q' ≠ ps0 := M1.src.ne hq0'
          have nRs : R ≠ ps0 := M1.src.ne hR0
          refine ⟨_, rfl, _, rfl, ps0, u, q', R, ts, ⟨W.b, W.ws, W.tick, W.fol, rs⟩, rfl, M23.src, s1323 _ _ eu, s1323 _ _ eq, nqs, s1323 _ _ eR, nRs, hP.same s1323, ⟨sok, fun r hr => Nat.lt_trans (big r hr) (by decide)⟩, (by show W.b ≠ 33; rw [hb0]; exact h33), (by show rs.length ≤ 100; omega), big, fun H24 D2 us ds k24 hD2 eD2 hSd hok hul => ?_⟩
          have M24 := M23.draw k24
          have at24 : WheelAt C H24 (P' 0) (Q' 0) (L' 0) W := by
            rw [eW]
            exact M24.at_ 0 (by decide)
          have hdl := hSd.len
          have eu24 := k24.keep _ _ (fun z => by
            obtain ⟨x1, y1, z1, es⟩ := M23.src
            have y := s1323 _ _ eu
            rw [z, es] at y
            cases y) (s1323 _ _ eu)
          have S24 : SnapAt K H24 u W.b W.ws W.tick W.fol rs := ⟨⟨q', R, ts, eu24, SqL.of (k24.keep _ _ nqs (s1323 _ _ eq)), SqL.of (k24.keep _ _ nRs (s1323 _ _ eR)), (hP.same s1323).frame fun t' xs h => k24.keep _ _ (fun z => by
            obtain ⟨x1, y1, z1, es⟩ := M23.src
            rw [z, es] at h
            cases h) h⟩⟩
          refine ⟨D2, rfl, ⟨_, SqL.of eD2⟩, fun L hL => lc_list (K := K) (a := D2) (xs := us.map V.ref) (fun j H' => Same H24 H' ∧ ∃ ps, H' L = some (.lst (ps.map V.ref)) ∧ WhsAt C H' ps ((ds.take j).map whOf)) ⟨same_upd hL, [], upd_same, trivial⟩ (fun j H' _ ⟨sm, _⟩ => SqL.of (sm _ _ eD2)) ?_ ?_⟩
          · rintro j v H' hv ⟨sm, ps, eL, hW⟩
            obtain ⟨u', d, rfl, hdj, hSu⟩ := (hSd.same sm).item hv
            have hj := (List.getElem?_eq_some_iff.mp hdj).1
            have hWl := hW.len
            rw [List.length_map, List.length_take] at hWl
            refine ⟨rfl, yesT (iteT ⟨_, rfl, u', d.b, d.ws, d.t, d.f, d.rs, rfl, hSu, (hok d (List.mem_of_getElem? hdj)).1.ok, fun H25 pn qn ln s25 hpn' hqn hln wn => ?_⟩)⟩
            have eL25 := s25 _ _ eL
            have kpL : ∀ c o, c ≠ L → H25 c = some o → (upd H25 L (.lst (ps.map V.ref ++ [.ref pn]))) c = some o := fun c o n e => by
              rw [upd_ne n]
              exact e
            have kw : ∀ {p0 q0 l0 : Addr} {W0 : WS}, WheelAt C H25 p0 q0 l0 W0 → (L ≠ q0) → WheelAt C (upd H25 L (.lst (ps.map V.ref ++ [.ref pn]))) p0 q0 l0 W0 := fun w0 n0 => w0.frame eL25 n0 kpL
            refine ⟨_, eL25, ?_, fun c o e => ?_, ps ++ [pn], ?_, ?_⟩
            · rw [List.length_map]
              exact sizeLine_ge (by omega)
            · rw [upd_ne (ne_of_none e hL)]
              exact s25 _ _ (sm _ _ e)
            · rw [upd_same, List.map_append]
              rfl
            · rw [List.take_add_one, hdj, Option.toList_some, List.map_append]
              have hne9 : ∀ {p0 q0 l0 : Addr} {W0 : WS}, WOk W0 → WheelAt C H25 p0 q0 l0 W0 → L ≠ q0 := fun {p0 q0 l0 W0} okk w0 z => by
                have y := w0.words
                rw [← z, eL25] at y
                have y2 := HO.lst.inj (Option.some.inj y)
                cases hc : W0.ws with
                | nil => exact okk.ne hc
                | cons c0 cs0 =>
                  rw [hc] at y2
                  cases hps : ps with
                  | nil =>
                    rw [hps] at y2
                    cases y2
                  | cons t0 ts0 =>
                    rw [hps] at y2
                    have y3 := (List.cons.inj y2).1
                    cases c0 <;> cases y3
              have all : ∀ {qs : List Addr} {Ds : List Sd}, (∀ d ∈ Ds, d ∈ ds) → WhsAt C H25 qs (Ds.map whOf) → WhsAt C (upd H25 L (.lst (ps.map V.ref ++ [.ref pn]))) qs (Ds.map whOf) := by
                intro qs
                induction qs with
                | nil =>
                  intro Ds _ h
                  cases Ds with
                  | nil => trivial
                  | cons _ _ => exact h.elim
                | cons p0 qs ih =>
                  intro Ds hm h
                  cases Ds with
                  | nil => exact h.elim
                  | cons d0 Ds =>
                    obtain ⟨⟨q0, l0, w0⟩, h2⟩ := h
                    exact ⟨⟨q0, l0, kw w0 (hne9 (wh_ok (hok d0 (hm d0 (List.mem_cons_self ..))).1) w0)⟩, ih (fun x hx => hm x (List.mem_cons_of_mem _ hx)) h2⟩
              have w9 : WheelAt C H25 pn qn ln (whOf d) := wn
              exact (all (fun d hd => List.mem_of_mem_take hd) (hW.same s25)).app (kw w9 (hne9 (wh_ok (hok d (List.mem_of_getElem? hdj)).1) w9))
          · rintro H25 ⟨s25, ps, eL, hW⟩
            rw [List.length_map, hdl, List.take_length] at hW
            dsimp only [gName, List.set]
            have at25 := at24.same s25
            have hpl := hW.len
            rw [List.length_map] at hpl
            refine ⟨.ref L, rfl, L, rfl, ⟨_, SqL.of eL⟩, fun D3 hD3 => lc_list (K := K) (a := L) (xs := ps.map V.ref) (fun j H' => Same H25 H' ∧ H' D3 = some (.lst [])) ⟨same_upd hD3, upd_same⟩ (fun j H' _ ⟨sm, _⟩ => SqL.of (sm _ _ eL)) ?_ ?_⟩
            · rintro j v H' hv ⟨sm, eD3⟩
              obtain ⟨pp, V', qq, ll, rfl, hVj, wp⟩ := (hW.same sm).item hv
              obtain ⟨d, hd, eV⟩ : ∃ d ∈ ds, V' = whOf d := by
                obtain ⟨d, hd, e⟩ := List.mem_map.mp (List.mem_of_getElem? hVj)
                exact ⟨d, hd, e.symm⟩
              rw [eV] at wp
              obtain ⟨hd1, hd2⟩ := hok d hd
              have hd3 : Dif ⟨W.b, W.ws, W.tick, W.fol, W.live.map rowOf⟩ d := by
                rcases hd2 with h | h | h | h | h
                · exact .inl h
                · exact .inr (.inl h)
                · exact .inr (.inr (.inl h))
                · exact .inr (.inr (.inr (.inl h)))
                · exact .inr (.inr (.inr (.inr fun p => h (p.trans prs.symm))))
              have okd := wh_ok hd1
              have at26 := at25.same sm
              obtain ⟨dxa, hpa⟩ := wp.ins
              obtain ⟨dxb, hpb⟩ := at26.ins
              refine ⟨rfl, ?_⟩
              refine ⟨_, rfl, _, rfl, pp, dxa, _, rfl, hpa, .inl ⟨P' 0, dxb, _, rfl, hpb⟩, Or.inl ⟨pp, qq, ll, P' 0, Q' 0, L' 0, _, W, rfl, wp, okd, at26, ok0, fun H27 cs1 cs0 s27 hI1 hI0 => ⟨_, rfl, false, ?_, iteF ?_⟩⟩⟩
              · rw [(dif_snap ok0 hd1 hd3 hI0 hI1).1]
              refine ⟨_, rfl, _, rfl, P' 0, dxb, _, rfl, s27 _ _ hpb, .inl ⟨pp, dxa, _, rfl, s27 _ _ hpa⟩, Or.inl ⟨P' 0, Q' 0, L' 0, pp, qq, ll, W, _, rfl, at26.same s27, ok0, wp.same s27, okd, fun H28 cs0' cs1' s28 hI0' hI1' => ⟨_, rfl, true, ?_, iteF ?_⟩⟩⟩
              · rw [(dif_snap ok0 hd1 hd3 hI0' hI1').2]
                rfl
              exact ⟨sm.trans (s27.trans s28), s28 _ _ (s27 _ _ eD3)⟩
            · rintro H26 ⟨s26, eD3⟩
              refine ⟨by simp [sizeLine_eq], fun e27 he27 => ?_⟩
              have s27 := same_upd (o := .lst []) he27
              have f27 := upd_same (H := H26) (a := e27) (o := .lst [])
              generalize upd H26 e27 (.lst []) = H27 at s27 f27 ⊢
              refine ⟨.list [], .list [], .lst (SqL.of (s27 _ _ eD3)) .nil, .lst (SqL.of f27) .nil, rfl, rfl, false, rfl, iteF ?_⟩
              have s2427 := s25.trans (s26.trans s27)
              have M27 := M24.same s2427
              have S27 := S24.same s2427
              have at27 := at24.same s2427
              obtain ⟨dx27, hp27⟩ := at27.ins
              -- lists with two timers
              refine ⟨_, rfl, P' 0, dx27, _, rfl, hp27, nm_lists, P' 0, Q' 0, L' 0, W, rfl, at27, ok0, fun H28 r28 ts28 cs28 s28 hr28 er28 hC28 hF28 hI28 => ?_⟩
              have hcl := hC28.len
              refine ⟨r28, rfl, ⟨_, SqL.of er28⟩, fun D4 hD4 => lc_list (K := K) (a := r28) (xs := ts28.map V.ref) (fun j H' => Same H28 H' ∧ ∃ as : List (Addr × List Nat), H' D4 = some (.lst (as.map fun x => V.ref x.1)) ∧ as.length ≤ j ∧ ∀ x ∈ as, H28 x.1 = some (.lst (x.2.map fun y => V.int (y : Nat))) ∧ 1 < x.2.length ∧ ∃ c ∈ cs28, c.2 = x.2) ⟨same_upd hD4, [], upd_same, Nat.le_refl _, fun x h => by cases h⟩ (fun j H' _ ⟨sm, _⟩ => SqL.of (sm _ _ er28)) ?_ ?_⟩
              · rintro j v H' hv ⟨sm, as, eD, las, has⟩
                obtain ⟨t', cc, a, rfl, htj, hcj, et', ea, _⟩ := crow_item hC28 hF28 hv
                have hj := (List.getElem?_eq_some_iff.mp hcj).1
                have hcs := lists_few hI28
                have et2 := SqT.of (K := K) (sm _ _ et')
                refine ⟨rfl, _, rfl, t', _, 2, _, rfl, rfl, et2, atI_nat (j := 2) rfl, a, _, rfl, .inl (SqL.of (sm _ _ ea)), _, _, rfl, rfl, ?_⟩
                by_cases h1 : 1 < cc.2.length
                · refine ⟨true, dT (by rw [List.length_map]; omega), iteT ?_⟩
                  refine ⟨_, rfl, t', _, 2, _, rfl, rfl, et2, atI_nat (j := 2) rfl, _, eD, ?_, fun c o e => ?_, as ++ [(a, cc.2)], ?_, ?_, fun x hx => ?_⟩
                  · rw [List.length_map]
                    exact sizeLine_ge (by have := ok0.few; omega)
                  · rw [upd_ne (ne_of_none e hD4)]
                    exact sm _ _ e
                  · rw [upd_same, List.map_append]
                    rfl
                  · rw [List.length_append]
                    show as.length + 1 ≤ j + 1
                    omega
                  · rcases List.mem_append.mp hx with z | z
                    · exact has x z
                    · rw [List.mem_singleton.mp z]
                      exact ⟨ea, h1, cc, List.mem_of_getElem? hcj, rfl⟩
                · refine ⟨false, dF (by rw [List.length_map]; omega), iteF ?_⟩
                  exact ⟨sm, as, eD, by omega, has⟩
              · rintro H29 ⟨s29, as, eD4, las, has⟩
                dsimp only [gName, List.set]
                have M29 := (M27.same s28).same s29
                have S29 := (S27.same s28).same s29
                have at29 := (at27.same s28).same s29
                have has29 : ∀ x ∈ as, H29 x.1 = some (.lst (x.2.map fun y => V.int (y : Nat))) := fun x hx => s29 _ _ (has x hx).1
                have hu29 : ∃ xs, H29 u = some (.tup xs) := by
                  obtain ⟨q9, R9, ts9, h9, _⟩ := S29.tup
                  exact ⟨_, h9⟩
                clear hSd hW eL at21
                apply cut_at (I := fun (y : Option V) (G : Hp) => ∃ P4 Q4 L4 W4, P4 0 = P' 0 ∧ Many C H G ps0 1 P4 Q4 L4 W4 ∧ WOk (W4 0) ∧ ∃ xs, G u = some (.tup xs))
                · intro fin4
                  refine ⟨_, rfl, by simp [sizeLine_eq], fun e30 he30 => ?_⟩
                  have s30 := same_upd (o := .lst []) he30
                  have f30 := upd_same (H := H29) (a := e30) (o := .lst [])
                  generalize upd H29 e30 (.lst []) = H30 at s30 f30 ⊢
                  refine ⟨.list (as.map fun x => PyData.list (x.2.map fun y => PyData.int (y : Nat))), .list [], .lst (SqL.of (s30 _ _ eD4)) (lls_dp as fun x hx => s30 _ _ (has29 x hx)), .lst (SqL.of f30) .nil, lls_shaped as, rfl, _, congrArg (fun x => V.bl (!x)) (eqv_nolists as), ?_⟩
                  have M30 := M29.same s30
                  have hu30 : ∃ xs, H30 u = some (.tup xs) := by
                    obtain ⟨xs, h⟩ := hu29
                    exact ⟨xs, s30 _ _ h⟩
                  by_cases hz : as = []
                  · rw [decide_eq_true hz]
                    obtain ⟨G0, eG0⟩ : ∃ G, G = H30 := ⟨_, rfl⟩
                    obtain ⟨y0, ey0⟩ : ∃ y, y = y9 := ⟨_, rfl⟩
                    rw [← eG0] at M30 hu30 ⊢
                    rw [← ey0]
                    exact iteF (fin4 y0 G0 ⟨P', Q', L', W', rfl, M30, by rw [← eW]; exact ok0, hu30⟩)
                  · rw [decide_eq_false hz]
                    refine iteT ?_
                    obtain ⟨x0, as', eas⟩ : ∃ x0 as', as = x0 :: as' := by
                      cases has' : as with
                      | nil => exact absurd has' hz
                      | cons x0 as' => exact ⟨x0, as', rfl⟩
                    have hx0 : x0 ∈ as := by
                      rw [eas]
                      exact List.mem_cons_self ..
                    obtain ⟨hx1, hx2, c0, hc0, hx3⟩ := has x0 hx0
                    obtain ⟨k0, k1, kr, ek⟩ : ∃ k0 k1 kr, x0.2 = k0 :: k1 :: kr := by
                      cases h : x0.2 with
                      | nil =>
                        rw [h] at hx2
                        exact absurd hx2 (by decide)
                      | cons k0 kr =>
                        cases kr with
                        | nil =>
                          rw [h] at hx2
                          exact absurd hx2 (by simp)
                        | cons k1 kr => exact ⟨k0, k1, kr, rfl⟩
                    have hmem : ∀ k ∈ x0.2, ∃ m ∈ W.live, m.num = k := fun k hk => by
                      rw [← hx3] at hk
                      obtain ⟨m, hm, _, _, e⟩ := (hI28.mem hc0).mp hk
                      exact ⟨m, hm, e⟩
                    obtain ⟨m0, hm0, rfl⟩ := hmem k0 (by rw [ek]; exact List.mem_cons_self ..)
                    obtain ⟨m1, hm1, rfl⟩ := hmem k1 (by rw [ek]; exact List.mem_cons_of_mem _ (List.mem_cons_self ..))
                    have gD : (as.map fun x => V.ref x.1)[0]? = some (.ref x0.1) := by
                      rw [eas]
                      rfl
                    have g0 : (x0.2.map fun y => V.int (y : Nat))[0]? = some (.int (m0.num : Nat)) := by
                      rw [ek]
                      rfl
                    have g1' : (x0.2.map fun y => V.int (y : Nat))[1]? = some (.int (m1.num : Nat)) := by
                      rw [ek]
                      rfl
                    -- another one, made of the snapshot
                    refine ⟨_, rfl, u, W.b, W.ws, W.tick, W.fol, rs, rfl, S29.same s30, sok, fun H31 p5 q5 l5 s31 hp5 hq5 hl5 w5 => ?_⟩
                    rw [htr] at w5
                    have at31 : WheelAt C H31 (P' 0) (Q' 0) (L' 0) W := (at29.same s30).same s31
                    obtain ⟨P5, Q5, L5, W5, eP0, eP1, eQ0, eQ1, eL0, eL1, eW0, eW1, M31⟩ : ∃ P5 Q5 L5 W5, P5 0 = P' 0 ∧ P5 1 = p5 ∧ Q5 0 = Q' 0 ∧ Q5 1 = q5 ∧ L5 0 = L' 0 ∧ L5 1 = l5 ∧ W5 0 = W ∧ W5 1 = ⟨W.b, W.ws, W.tick, W.fol, rs.map (rowT W.tick)⟩ ∧ Many C H H31 ps0 2 P5 Q5 L5 W5 := ⟨_, _, _, _, rfl, rfl, rfl, rfl, rfl, rfl, eW.symm, rfl, M30.more s31 hp5 hl5 w5⟩
                    obtain ⟨dxo, hpo⟩ := w5.ins
                    obtain ⟨dxw, hpw⟩ := at31.ins
                    have s2931 := s30.trans s31
                    have eD31 := s2931 _ _ eD4
                    have ex31 := s2931 _ _ (has29 x0 hx0)
                    obtain ⟨o0, ho0, co0⟩ := A2.al.new hm0
                    obtain ⟨co1, co2, co3⟩ := core_inj co0
                    have hdue0 : W.tick < m0.due := (ok0.tms m0 hm0).due
                    dsimp only [gName, List.set]
                    refine ⟨_, rfl, p5, dxo, _, rfl, hpo, nm_reset, _, rfl, D4, _, 0, _, rfl, rfl, SqL.of eD31, atI_nat (j := 0) gD, x0.1, _, 0, _, rfl, rfl, SqL.of ex31, atI_nat (j := 0) g0, _, rfl, P' 0, dxw, _, rfl, hpw, nm_due9, _, rfl, D4, _, 0, _, rfl, rfl, SqL.of eD31, atI_nat (j := 0) gD, x0.1, _, 0, _, rfl, rfl, SqL.of ex31, atI_nat (j := 0) g0, P' 0, Q' 0, L' 0, W, m0, rfl, at31, ok0.nd, hm0, p5, q5, l5, _, o0, m0.due, (by rw [co1]; rfl), w5, A2.ok.nd, A2.ok.few, ho0, hdue0, fun H32 k32 w32 => ?_⟩
                    have M32 := M31.go (j := 1) (by decide) (l' := l5) (W' := ⟨W.b, W.ws, W.tick, W.fol, dropT o0.num (rs.map (rowT W.tick)) ++ [⟨o0.num, m0.due, o0.per, W.tick⟩]⟩) (by rw [eP1, eL1]; exact k32) (by rw [eP1, eQ1]; exact w32)
                    have okO : WOk ⟨W.b, W.ws, W.tick, W.fol, dropT o0.num (rs.map (rowT W.tick)) ++ [⟨o0.num, m0.due, o0.per, W.tick⟩]⟩ := okw_reset A2.ok ho0 hdue0 (ok0.tms m0 hm0).big
                    have pcO : ((dropT o0.num (rs.map (rowT W.tick)) ++ [(⟨o0.num, m0.due, o0.per, W.tick⟩ : Tm)]).map (coreM 0)).Perm (W.live.map (coreM 0)) := by
                      have e0 : m0.due = o0.due := by
                        rw [co2, Nat.add_zero]
                      rw [e0]
                      exact (reset_core A2.ok ho0).trans (cores_perm A2.al ok0.nd A2.ok.nd)
                    have at32 : WheelAt C H32 (P' 0) (Q' 0) (L' 0) W := by
                      have z := M32.at_ 0 (by decide)
                      have z2 : WheelAt C H32 (P5 0) (Q5 0) (L5 0) (W5 0) := z
                      rw [eP0, eQ0, eL0, eW0] at z2
                      exact z2
                    have eD32 := k32.lst w5 eD31
                    have ex32 := k32.lst w5 ex31
                    obtain ⟨dxw2, hpw2⟩ := at32.ins
                    have hdue1 : W.tick < m1.due := (ok0.tms m1 hm1).due
                    refine ⟨_, rfl, P' 0, dxw2, _, rfl, hpw2, nm_reset, _, rfl, D4, _, 0, _, rfl, rfl, SqL.of eD32, atI_nat (j := 0) gD, x0.1, _, 1, _, rfl, rfl, SqL.of ex32, atI_nat (j := 1) g1', _, rfl, P' 0, dxw2, _, rfl, hpw2, nm_due9, _, rfl, D4, _, 0, _, rfl, rfl, SqL.of eD32, atI_nat (j := 0) gD, x0.1, _, 1, _, rfl, rfl, SqL.of ex32, atI_nat (j := 1) g1', P' 0, Q' 0, L' 0, W, m1, rfl, at32, ok0.nd, hm1, P' 0, Q' 0, L' 0, W, m1, m1.due, rfl, at32, ok0.nd, ok0.few, hm1, hdue1, fun H33 k33 w33 => ?_⟩
                    have M33 := M32.go (j := 0) (by decide) (l' := L' 0) (W' := { W with live := dropT m1.num W.live ++ [⟨m1.num, m1.due, m1.per, W.tick⟩] }) (by
                      show Wk (P5 0) (L5 0) H32 H33 (L' 0)
                      rw [eP0, eL0]
                      exact k33) (by
                      show WheelAt C H33 (P5 0) (Q5 0) (L' 0) _
                      rw [eP0, eQ0]
                      exact w33)
                    have okW := okw_reset ok0 hm1 hdue1 (ok0.tms m1 hm1).big
                    have pcW := reset_core ok0 hm1
                    have pc := pcO.trans pcW.symm
                    have wO : WheelAt C H33 p5 q5 l5 ⟨W.b, W.ws, W.tick, W.fol, dropT o0.num (rs.map (rowT W.tick)) ++ [⟨o0.num, m0.due, o0.per, W.tick⟩]⟩ := by
                      have z : WheelAt C H33 (P5 1) (Q5 1) l5 ⟨W.b, W.ws, W.tick, W.fol, dropT o0.num (rs.map (rowT W.tick)) ++ [⟨o0.num, m0.due, o0.per, W.tick⟩]⟩ := M33.at_ 1 (by decide)
                      rw [eP1, eQ1] at z
                      exact z
                    obtain ⟨dxo3, hpo3⟩ := wO.ins
                    obtain ⟨dxw3, hpw3⟩ := w33.ins
                    refine ⟨_, rfl, _, rfl, p5, dxo3, _, rfl, hpo3, .inl ⟨P' 0, dxw3, _, rfl, hpw3⟩, Or.inl ⟨p5, q5, l5, P' 0, Q' 0, L' 0, _, _, rfl, wO, okO, w33, okW, fun H34 cs1 cs0 s34 hI1 hI0 => ?_⟩⟩
                    refine ⟨_, rfl, _, rfl, p5, dxo3, _, rfl, s34 _ _ hpo3, nm_lists, p5, q5, l5, _, rfl, wO.same s34, okO, fun H35 r35 ts35 cs35 s35 hr35 er35 hC35 hF35 hI35 => ?_⟩
                    have s3435 := s34.trans s35
                    refine ⟨_, rfl, P' 0, dxw3, _, rfl, s3435 _ _ hpw3, nm_lists, P' 0, Q' 0, L' 0, _, rfl, w33.same s3435, okW, fun H36 r36 ts36 cs36 s36 hr36 er36 hC36 hF36 hI36 => ?_⟩
                    have ec1 := hI35.uniq hI1
                    have ec0 := hI36.uniq hI0
                    subst ec1
                    subst ec0
                    refine ⟨.list (cs35.map cellD), .list (cs36.map cellD), .lst (SqL.of (s36 _ _ er35)) (cells_dp (fun a xs e => e) (hC35.frame (fun a xs e => s36 _ _ e) fun t xs e => s36 _ _ e)), .lst (SqL.of er36) (cells_dp (fun a xs e => e) hC36), cells_shaped cs35, cells_shaped cs36, ?_⟩
                    have eb := eq_both (V := ⟨W.b, W.ws, W.tick, W.fol, dropT o0.num (rs.map (rowT W.tick)) ++ [⟨o0.num, m0.due, o0.per, W.tick⟩]⟩) (W := { W with live := dropT m1.num W.live ++ [⟨m1.num, m1.due, m1.per, W.tick⟩] }) rfl rfl rfl rfl okW okO pc hI36 hI35
                    refine ⟨rfl, false, nF (congrArg V.bl eb), iteF ?_⟩
                    have M36 := M33.same (s3435.trans s36)
                    have hu36 : ∃ xs, H36 u = some (.tup xs) := by
                      obtain ⟨xs, h⟩ := hu30
                      exact ⟨xs, s36 _ _ (s35 _ _ (s34 _ _ (k33.tup at32 (k32.tup w5 (s31 _ _ h)))))⟩
                    obtain ⟨G0, eG0⟩ : ∃ G, G = H36 := ⟨_, rfl⟩
                    obtain ⟨y0, ey0⟩ : ∃ y, y = some (V.ref p5) := ⟨_, rfl⟩
                    rw [← eG0] at M36 hu36 ⊢
                    rw [← ey0]
                    exact fin4 y0 G0 ⟨P5, Q5, _, _, eP0, M36.less, okW, hu36⟩
                · rintro y G ⟨P4, Q4, L4, W4, eP4, M4, ok4, xsu, hxu⟩
                  rw [← eP4]
                  have at4 := M4.at_ 0 (by decide)
                  obtain ⟨dx4, hp4⟩ := at4.ins
                  refine ⟨_, rfl, by simp [sizeLine_eq], fun e40 he40 => ?_⟩
                  have s40 := same_upd (o := .lst []) he40
                  have f40 := upd_same (H := G) (a := e40) (o := .lst [])
                  generalize upd G e40 (.lst []) = H40 at s40 f40 ⊢
                  refine ⟨_, rfl, P4 0, dx4, _, rfl, s40 _ _ hp4, nm_lists, P4 0, Q4 0, L4 0, W4 0, rfl, at4.same s40, ok4, fun H41 r41 ts41 cs41 s41 hr41 er41 hC41 hF41 hI41 => ⟨by simp [sizeLine_eq], fun Lt hLt => ?_⟩⟩
                  have s42 := same_upd (o := .lst [.ref u, .non, .ref e40, .int 5, .ref r41, .str (Str.ofString "wheel")]) hLt
                  have f42 := upd_same (H := H41) (a := Lt) (o := .lst [.ref u, .non, .ref e40, .int 5, .ref r41, .str (Str.ofString "wheel")])
                  generalize upd H41 Lt (.lst [.ref u, .non, .ref e40, .int 5, .ref r41, .str (Str.ofString "wheel")]) = H42 at s42 f42 ⊢
                  have s4042 := s40.trans (s41.trans s42)
                  have M42 := M4.same s4042
                  have hb42 : ∀ (x : V) (j : Nat), ([.ref u, .non, .ref e40, .int 5, .ref r41, .str (Str.ofString "wheel")] : List V)[j]? = some x → ∀ H', Same H42 H' → Blt K x H' := fun x j hj H' sm => by
                    match j, hj with
                    | 0, h =>
                      rw [← Option.some.inj h]
                      exact Blt.tup (sm _ _ (s4042 _ _ hxu))
                    | 1, h =>
                      rw [← Option.some.inj h]
                      exact Blt.non
                    | 2, h =>
                      rw [← Option.some.inj h]
                      exact Blt.lst (SqL.of (sm _ _ (s42 _ _ (s41 _ _ f40))))
                    | 3, h =>
                      rw [← Option.some.inj h]
                      exact Blt.int 5
                    | 4, h =>
                      rw [← Option.some.inj h]
                      exact Blt.lst (SqL.of (sm _ _ (s42 _ _ er41)))
                    | 5, h =>
                      rw [← Option.some.inj h]
                      exact Blt.str _
                    | _ + 6, h => cases h
                  dsimp only [gName, List.set]
                  refine ⟨.ref Lt, rfl, Lt, rfl, ⟨_, SqL.of f42⟩, fun D5 hD5 => lc_list (K := K) (a := Lt) (xs := [.ref u, .non, .ref e40, .int 5, .ref r41, .str (Str.ofString "wheel")]) (fun j H' => Same H42 H' ∧ H' D5 = some (.lst [])) ⟨same_upd hD5, upd_same⟩ (fun j H' _ ⟨sm, _⟩ => SqL.of (sm _ _ f42)) ?_ ?_⟩
                  · rintro j v H' hv ⟨sm, eD5⟩
                    have hB := hb42 v j hv H' sm
                    have hp4' := sm _ _ (s4042 _ _ hp4)
                    refine ⟨rfl, ?_⟩
                    refine ⟨_, rfl, _, rfl, P4 0, dx4, _, rfl, hp4', hB.sub, Or.inr ⟨P4 0, v, rfl, hB, ⟨false, rfl, false, rfl, iteF ?_⟩⟩⟩
                    refine ⟨_, rfl, _, rfl, P4 0, dx4, _, rfl, hp4', hB.sub, Or.inr ⟨P4 0, v, rfl, hB, ⟨false, rfl, true, rfl, iteF ?_⟩⟩⟩
                    exact ⟨sm, eD5⟩
                  · rintro H43 ⟨s43, eD5⟩
                    refine ⟨by simp [sizeLine_eq], fun e44 he44 => ?_⟩
                    have s44 := same_upd (o := .lst []) he44
                    have f44 := upd_same (H := H43) (a := e44) (o := .lst [])
                    generalize upd H43 e44 (.lst []) = H44 at s44 f44 ⊢
                    refine ⟨.list [], .list [], .lst (SqL.of (s44 _ _ eD5)) .nil, .lst (SqL.of f44) .nil, rfl, rfl, false, rfl, iteF ?_⟩
                    exact ⟨(M42.same (s43.trans s44)).base, _, _, _, _, _, _, _, _, _, _, _, _, rfl⟩
    · rintro σ H' ⟨_, y1, y2, y3, y4, y5, y6, y7, y8, y9, y10, y11, y12, rfl⟩
      exact fin _
end
theorem all_mk {l : PySem.W.OpenLaw} {w : World} {K : PySem.W.Frag} {h : Heap} {mg : Str → Option Value} {fa : Addr} (X : K.In h) (G : h.Ns mainGlobals mg) (hfa : mg "law" = some (.ref fa))
    {f_WORDS : Addr} {od_WORDS : Option Addr} {tk0_WORDS tk1_WORDS : Tok} {tn_WORDS : Nat} {ts_WORDS : Array (Option Value)}
    {tk_MOST_LEVELS : Tok}
    {tk_MOST_FIRINGS : Tok}
    {f_wall f_is_integer f_is_word f_is_base f_is_length f_are_levels f_is_tick f_is_period f_check_base f_check_levels f_check_tick f_word_at f_level_and_size f_path f_goes_in_front f_with_timer f_firing_order f_without_repeats f_check_period f_order_of_firing f_standing f_least_due f_after_firing f_is_row f_is_snapshot f_restored f_law_cell_at f_law_mixed f_law_source f_law_next f_law_base f_law_levels f_law_tick f_law_call f_law_made f_law_others f_law : Addr}
    {od_wall an_wall od_is_integer an_is_integer od_is_word an_is_word od_is_base an_is_base od_is_length an_is_length od_are_levels an_are_levels od_is_tick an_is_tick od_is_period an_is_period od_check_base an_check_base od_check_levels an_check_levels od_check_tick an_check_tick od_word_at an_word_at od_level_and_size an_level_and_size od_path an_path od_goes_in_front an_goes_in_front od_with_timer an_with_timer od_firing_order an_firing_order od_without_repeats an_without_repeats od_check_period an_check_period od_order_of_firing an_order_of_firing od_standing an_standing od_least_due an_least_due od_after_firing an_after_firing od_is_row an_is_row od_is_snapshot an_is_snapshot od_restored an_restored od_law_cell_at an_law_cell_at od_law_mixed an_law_mixed od_law_source an_law_source od_law_next an_law_next od_law_base an_law_base od_law_levels an_law_levels od_law_tick an_law_tick od_law_call an_law_call od_law_made an_law_made od_law_others an_law_others od_law an_law : Option Addr}
    {sl_wall sl_is_integer sl_is_word sl_is_base sl_is_length sl_are_levels sl_is_tick sl_is_period sl_check_base sl_check_levels sl_check_tick sl_word_at sl_level_and_size sl_path sl_goes_in_front sl_with_timer sl_firing_order sl_without_repeats sl_check_period sl_order_of_firing sl_standing sl_least_due sl_after_firing sl_is_row sl_is_snapshot sl_restored sl_law_cell_at sl_law_mixed sl_law_source sl_law_next sl_law_base sl_law_levels sl_law_tick sl_law_call sl_law_made sl_law_others sl_law : Array (Option Value)}
    {oc_wall kV_wall dc_wall pm_wall cd_wall ct_wall oc_is_integer kV_is_integer dc_is_integer pm_is_integer cd_is_integer ct_is_integer oc_is_word kV_is_word dc_is_word pm_is_word cd_is_word ct_is_word oc_is_base kV_is_base dc_is_base pm_is_base cd_is_base ct_is_base oc_is_length kV_is_length dc_is_length pm_is_length cd_is_length ct_is_length oc_are_levels kV_are_levels dc_are_levels pm_are_levels cd_are_levels ct_are_levels oc_is_tick kV_is_tick dc_is_tick pm_is_tick cd_is_tick ct_is_tick oc_is_period kV_is_period dc_is_period pm_is_period cd_is_period ct_is_period oc_check_base kV_check_base dc_check_base pm_check_base cd_check_base ct_check_base oc_check_levels kV_check_levels dc_check_levels pm_check_levels cd_check_levels ct_check_levels oc_check_tick kV_check_tick dc_check_tick pm_check_tick cd_check_tick ct_check_tick oc_word_at kV_word_at dc_word_at pm_word_at cd_word_at ct_word_at oc_level_and_size kV_level_and_size dc_level_and_size pm_level_and_size cd_level_and_size ct_level_and_size oc_path kV_path dc_path pm_path cd_path ct_path oc_goes_in_front kV_goes_in_front dc_goes_in_front pm_goes_in_front cd_goes_in_front ct_goes_in_front oc_with_timer kV_with_timer dc_with_timer pm_with_timer cd_with_timer ct_with_timer oc_firing_order kV_firing_order dc_firing_order pm_firing_order cd_firing_order ct_firing_order oc_without_repeats kV_without_repeats dc_without_repeats pm_without_repeats cd_without_repeats ct_without_repeats oc_check_period kV_check_period dc_check_period pm_check_period cd_check_period ct_check_period oc_order_of_firing kV_order_of_firing dc_order_of_firing pm_order_of_firing cd_order_of_firing ct_order_of_firing oc_standing kV_standing dc_standing pm_standing cd_standing ct_standing oc_least_due kV_least_due dc_least_due pm_least_due cd_least_due ct_least_due oc_after_firing kV_after_firing dc_after_firing pm_after_firing cd_after_firing ct_after_firing oc_is_row kV_is_row dc_is_row pm_is_row cd_is_row ct_is_row oc_is_snapshot kV_is_snapshot dc_is_snapshot pm_is_snapshot cd_is_snapshot ct_is_snapshot oc_restored kV_restored dc_restored pm_restored cd_restored ct_restored oc_law_cell_at kV_law_cell_at dc_law_cell_at pm_law_cell_at cd_law_cell_at ct_law_cell_at oc_law_mixed kV_law_mixed dc_law_mixed pm_law_mixed cd_law_mixed ct_law_mixed oc_law_source kV_law_source dc_law_source pm_law_source cd_law_source ct_law_source oc_law_next kV_law_next dc_law_next pm_law_next cd_law_next ct_law_next oc_law_base kV_law_base dc_law_base pm_law_base cd_law_base ct_law_base oc_law_levels kV_law_levels dc_law_levels pm_law_levels cd_law_levels ct_law_levels oc_law_tick kV_law_tick dc_law_tick pm_law_tick cd_law_tick ct_law_tick oc_law_call kV_law_call dc_law_call pm_law_call cd_law_call ct_law_call oc_law_made kV_law_made dc_law_made pm_law_made cd_law_made ct_law_made oc_law_others kV_law_others dc_law_others pm_law_others cd_law_others ct_law_others oc_law kV_law dc_law pm_law cd_law ct_law : Value}
    {C_ : Addr}
    {f_m_init f_m_check_timer f_m_now f_m_put f_m_cancel f_m_reset f_m_due f_m_timers f_m_advance f_m_lists f_m_restoring f_m_snapshot f_m_eq : Addr}
    {od_m_init an_m_init od_m_check_timer an_m_check_timer od_m_now an_m_now od_m_put an_m_put od_m_cancel an_m_cancel od_m_reset an_m_reset od_m_due an_m_due od_m_timers an_m_timers od_m_advance an_m_advance od_m_lists an_m_lists od_m_restoring an_m_restoring od_m_snapshot an_m_snapshot od_m_eq an_m_eq : Option Addr}
    {sl_m_init sl_m_check_timer sl_m_now sl_m_put sl_m_cancel sl_m_reset sl_m_due sl_m_timers sl_m_advance sl_m_lists sl_m_restoring sl_m_snapshot sl_m_eq : Array (Option Value)}
    {oc_m_init dc_m_init pm_m_init cd_m_init ct_m_init oc_m_check_timer dc_m_check_timer pm_m_check_timer cd_m_check_timer ct_m_check_timer kV_m_check_timer oc_m_now dc_m_now pm_m_now cd_m_now ct_m_now kV_m_now oc_m_put dc_m_put pm_m_put cd_m_put ct_m_put oc_m_cancel dc_m_cancel pm_m_cancel cd_m_cancel ct_m_cancel kV_m_cancel oc_m_reset dc_m_reset pm_m_reset cd_m_reset ct_m_reset kV_m_reset oc_m_due dc_m_due pm_m_due cd_m_due ct_m_due kV_m_due oc_m_timers dc_m_timers pm_m_timers cd_m_timers ct_m_timers kV_m_timers oc_m_advance dc_m_advance pm_m_advance cd_m_advance ct_m_advance kV_m_advance oc_m_lists dc_m_lists pm_m_lists cd_m_lists ct_m_lists kV_m_lists oc_m_restoring dc_m_restoring pm_m_restoring cd_m_restoring ct_m_restoring kV_m_restoring oc_m_snapshot dc_m_snapshot pm_m_snapshot cd_m_snapshot ct_m_snapshot kV_m_snapshot oc_m_eq dc_m_eq pm_m_eq cd_m_eq ct_m_eq kV_m_eq : Value}
    {kD_m_init : Addr} {kt_m_init : Tok}
    {kD_m_put : Addr}
    {dT_is_tick : Addr} {tc_is_tick : Value} {td_is_tick : Option Addr} {tt_is_tick : Tok} {tn_is_tick : Nat} {ts_is_tick : Array (Option Value)}
    {dT_check_tick : Addr} {tc_check_tick : Value} {td_check_tick : Option Addr} {tt_check_tick : Tok} {tn_check_tick : Nat} {ts_check_tick : Array (Option Value)}
    (a_wall : PySem.W.nsIn K mainGlobals "_wall" = some (some (.ref f_wall)))
    (l_wall : K.lookup f_wall = some ⟨oc_wall, od_wall, .func (PySem.W.fnOf "_wall" "_wall" (defArgs s__wall) (defBody s__wall) (defScope s__wall) .none kV_wall dc_wall pm_wall an_wall cd_wall ct_wall), sl_wall⟩)
    (c_wall : PySem.W.codeIn K cd_wall "_wall" = true) (k_wall : PySem.W.keepIn K (.ref f_wall) = true)
    (a_is_integer : PySem.W.nsIn K mainGlobals "is_integer" = some (some (.ref f_is_integer)))
    (l_is_integer : K.lookup f_is_integer = some ⟨oc_is_integer, od_is_integer, .func (PySem.W.fnOf "is_integer" "is_integer" (defArgs s_is_integer) (defBody s_is_integer) (defScope s_is_integer) .none kV_is_integer dc_is_integer pm_is_integer an_is_integer cd_is_integer ct_is_integer), sl_is_integer⟩)
    (c_is_integer : PySem.W.codeIn K cd_is_integer "is_integer" = true) (k_is_integer : PySem.W.keepIn K (.ref f_is_integer) = true)
    (a_is_word : PySem.W.nsIn K mainGlobals "is_word" = some (some (.ref f_is_word)))
    (l_is_word : K.lookup f_is_word = some ⟨oc_is_word, od_is_word, .func (PySem.W.fnOf "is_word" "is_word" (defArgs s_is_word) (defBody s_is_word) (defScope s_is_word) .none kV_is_word dc_is_word pm_is_word an_is_word cd_is_word ct_is_word), sl_is_word⟩)
    (c_is_word : PySem.W.codeIn K cd_is_word "is_word" = true) (k_is_word : PySem.W.keepIn K (.ref f_is_word) = true)
    (a_is_base : PySem.W.nsIn K mainGlobals "is_base" = some (some (.ref f_is_base)))
    (l_is_base : K.lookup f_is_base = some ⟨oc_is_base, od_is_base, .func (PySem.W.fnOf "is_base" "is_base" (defArgs s_is_base) (defBody s_is_base) (defScope s_is_base) .none kV_is_base dc_is_base pm_is_base an_is_base cd_is_base ct_is_base), sl_is_base⟩)
    (c_is_base : PySem.W.codeIn K cd_is_base "is_base" = true) (k_is_base : PySem.W.keepIn K (.ref f_is_base) = true)
    (a_is_length : PySem.W.nsIn K mainGlobals "is_length" = some (some (.ref f_is_length)))
    (l_is_length : K.lookup f_is_length = some ⟨oc_is_length, od_is_length, .func (PySem.W.fnOf "is_length" "is_length" (defArgs s_is_length) (defBody s_is_length) (defScope s_is_length) .none kV_is_length dc_is_length pm_is_length an_is_length cd_is_length ct_is_length), sl_is_length⟩)
    (c_is_length : PySem.W.codeIn K cd_is_length "is_length" = true) (k_is_length : PySem.W.keepIn K (.ref f_is_length) = true)
    (a_are_levels : PySem.W.nsIn K mainGlobals "are_levels" = some (some (.ref f_are_levels)))
    (l_are_levels : K.lookup f_are_levels = some ⟨oc_are_levels, od_are_levels, .func (PySem.W.fnOf "are_levels" "are_levels" (defArgs s_are_levels) (defBody s_are_levels) (defScope s_are_levels) .none kV_are_levels dc_are_levels pm_are_levels an_are_levels cd_are_levels ct_are_levels), sl_are_levels⟩)
    (c_are_levels : PySem.W.codeIn K cd_are_levels "are_levels" = true) (k_are_levels : PySem.W.keepIn K (.ref f_are_levels) = true)
    (a_is_tick : PySem.W.nsIn K mainGlobals "is_tick" = some (some (.ref f_is_tick)))
    (l_is_tick : K.lookup f_is_tick = some ⟨oc_is_tick, od_is_tick, .func (PySem.W.fnOf "is_tick" "is_tick" (defArgs s_is_tick) (defBody s_is_tick) (defScope s_is_tick) (.ref dT_is_tick) kV_is_tick dc_is_tick pm_is_tick an_is_tick cd_is_tick ct_is_tick), sl_is_tick⟩)
    (t_is_tick : K.lookup dT_is_tick = some ⟨tc_is_tick, td_is_tick, .seq #[.int 0 tt_is_tick] tn_is_tick, ts_is_tick⟩)
    (c_is_tick : PySem.W.codeIn K cd_is_tick "is_tick" = true) (k_is_tick : PySem.W.keepIn K (.ref f_is_tick) = true)
    (a_is_period : PySem.W.nsIn K mainGlobals "is_period" = some (some (.ref f_is_period)))
    (l_is_period : K.lookup f_is_period = some ⟨oc_is_period, od_is_period, .func (PySem.W.fnOf "is_period" "is_period" (defArgs s_is_period) (defBody s_is_period) (defScope s_is_period) .none kV_is_period dc_is_period pm_is_period an_is_period cd_is_period ct_is_period), sl_is_period⟩)
    (c_is_period : PySem.W.codeIn K cd_is_period "is_period" = true) (k_is_period : PySem.W.keepIn K (.ref f_is_period) = true)
    (a_check_base : PySem.W.nsIn K mainGlobals "check_base" = some (some (.ref f_check_base)))
    (l_check_base : K.lookup f_check_base = some ⟨oc_check_base, od_check_base, .func (PySem.W.fnOf "check_base" "check_base" (defArgs s_check_base) (defBody s_check_base) (defScope s_check_base) .none kV_check_base dc_check_base pm_check_base an_check_base cd_check_base ct_check_base), sl_check_base⟩)
    (c_check_base : PySem.W.codeIn K cd_check_base "check_base" = true) (k_check_base : PySem.W.keepIn K (.ref f_check_base) = true)
    (a_check_levels : PySem.W.nsIn K mainGlobals "check_levels" = some (some (.ref f_check_levels)))
    (l_check_levels : K.lookup f_check_levels = some ⟨oc_check_levels, od_check_levels, .func (PySem.W.fnOf "check_levels" "check_levels" (defArgs s_check_levels) (defBody s_check_levels) (defScope s_check_levels) .none kV_check_levels dc_check_levels pm_check_levels an_check_levels cd_check_levels ct_check_levels), sl_check_levels⟩)
    (c_check_levels : PySem.W.codeIn K cd_check_levels "check_levels" = true) (k_check_levels : PySem.W.keepIn K (.ref f_check_levels) = true)
    (a_check_tick : PySem.W.nsIn K mainGlobals "check_tick" = some (some (.ref f_check_tick)))
    (l_check_tick : K.lookup f_check_tick = some ⟨oc_check_tick, od_check_tick, .func (PySem.W.fnOf "check_tick" "check_tick" (defArgs s_check_tick) (defBody s_check_tick) (defScope s_check_tick) (.ref dT_check_tick) kV_check_tick dc_check_tick pm_check_tick an_check_tick cd_check_tick ct_check_tick), sl_check_tick⟩)
    (t_check_tick : K.lookup dT_check_tick = some ⟨tc_check_tick, td_check_tick, .seq #[.int 0 tt_check_tick] tn_check_tick, ts_check_tick⟩)
    (c_check_tick : PySem.W.codeIn K cd_check_tick "check_tick" = true) (k_check_tick : PySem.W.keepIn K (.ref f_check_tick) = true)
    (a_word_at : PySem.W.nsIn K mainGlobals "word_at" = some (some (.ref f_word_at)))
    (l_word_at : K.lookup f_word_at = some ⟨oc_word_at, od_word_at, .func (PySem.W.fnOf "word_at" "word_at" (defArgs s_word_at) (defBody s_word_at) (defScope s_word_at) .none kV_word_at dc_word_at pm_word_at an_word_at cd_word_at ct_word_at), sl_word_at⟩)
    (c_word_at : PySem.W.codeIn K cd_word_at "word_at" = true) (k_word_at : PySem.W.keepIn K (.ref f_word_at) = true)
    (a_level_and_size : PySem.W.nsIn K mainGlobals "level_and_size" = some (some (.ref f_level_and_size)))
    (l_level_and_size : K.lookup f_level_and_size = some ⟨oc_level_and_size, od_level_and_size, .func (PySem.W.fnOf "level_and_size" "level_and_size" (defArgs s_level_and_size) (defBody s_level_and_size) (defScope s_level_and_size) .none kV_level_and_size dc_level_and_size pm_level_and_size an_level_and_size cd_level_and_size ct_level_and_size), sl_level_and_size⟩)
    (c_level_and_size : PySem.W.codeIn K cd_level_and_size "level_and_size" = true) (k_level_and_size : PySem.W.keepIn K (.ref f_level_and_size) = true)
    (a_path : PySem.W.nsIn K mainGlobals "path" = some (some (.ref f_path)))
    (l_path : K.lookup f_path = some ⟨oc_path, od_path, .func (PySem.W.fnOf "path" "path" (defArgs s_path) (defBody s_path) (defScope s_path) .none kV_path dc_path pm_path an_path cd_path ct_path), sl_path⟩)
    (c_path : PySem.W.codeIn K cd_path "path" = true) (k_path : PySem.W.keepIn K (.ref f_path) = true)
    (a_goes_in_front : PySem.W.nsIn K mainGlobals "goes_in_front" = some (some (.ref f_goes_in_front)))
    (l_goes_in_front : K.lookup f_goes_in_front = some ⟨oc_goes_in_front, od_goes_in_front, .func (PySem.W.fnOf "goes_in_front" "goes_in_front" (defArgs s_goes_in_front) (defBody s_goes_in_front) (defScope s_goes_in_front) .none kV_goes_in_front dc_goes_in_front pm_goes_in_front an_goes_in_front cd_goes_in_front ct_goes_in_front), sl_goes_in_front⟩)
    (c_goes_in_front : PySem.W.codeIn K cd_goes_in_front "goes_in_front" = true) (k_goes_in_front : PySem.W.keepIn K (.ref f_goes_in_front) = true)
    (a_with_timer : PySem.W.nsIn K mainGlobals "with_timer" = some (some (.ref f_with_timer)))
    (l_with_timer : K.lookup f_with_timer = some ⟨oc_with_timer, od_with_timer, .func (PySem.W.fnOf "with_timer" "with_timer" (defArgs s_with_timer) (defBody s_with_timer) (defScope s_with_timer) .none kV_with_timer dc_with_timer pm_with_timer an_with_timer cd_with_timer ct_with_timer), sl_with_timer⟩)
    (c_with_timer : PySem.W.codeIn K cd_with_timer "with_timer" = true) (k_with_timer : PySem.W.keepIn K (.ref f_with_timer) = true)
    (a_firing_order : PySem.W.nsIn K mainGlobals "firing_order" = some (some (.ref f_firing_order)))
    (l_firing_order : K.lookup f_firing_order = some ⟨oc_firing_order, od_firing_order, .func (PySem.W.fnOf "firing_order" "firing_order" (defArgs s_firing_order) (defBody s_firing_order) (defScope s_firing_order) .none kV_firing_order dc_firing_order pm_firing_order an_firing_order cd_firing_order ct_firing_order), sl_firing_order⟩)
    (c_firing_order : PySem.W.codeIn K cd_firing_order "firing_order" = true) (k_firing_order : PySem.W.keepIn K (.ref f_firing_order) = true)
    (a_without_repeats : PySem.W.nsIn K mainGlobals "without_repeats" = some (some (.ref f_without_repeats)))
    (l_without_repeats : K.lookup f_without_repeats = some ⟨oc_without_repeats, od_without_repeats, .func (PySem.W.fnOf "without_repeats" "without_repeats" (defArgs s_without_repeats) (defBody s_without_repeats) (defScope s_without_repeats) .none kV_without_repeats dc_without_repeats pm_without_repeats an_without_repeats cd_without_repeats ct_without_repeats), sl_without_repeats⟩)
    (c_without_repeats : PySem.W.codeIn K cd_without_repeats "without_repeats" = true) (k_without_repeats : PySem.W.keepIn K (.ref f_without_repeats) = true)
    (a_check_period : PySem.W.nsIn K mainGlobals "check_period" = some (some (.ref f_check_period)))
    (l_check_period : K.lookup f_check_period = some ⟨oc_check_period, od_check_period, .func (PySem.W.fnOf "check_period" "check_period" (defArgs s_check_period) (defBody s_check_period) (defScope s_check_period) .none kV_check_period dc_check_period pm_check_period an_check_period cd_check_period ct_check_period), sl_check_period⟩)
    (c_check_period : PySem.W.codeIn K cd_check_period "check_period" = true) (k_check_period : PySem.W.keepIn K (.ref f_check_period) = true)
    (a_order_of_firing : PySem.W.nsIn K mainGlobals "order_of_firing" = some (some (.ref f_order_of_firing)))
    (l_order_of_firing : K.lookup f_order_of_firing = some ⟨oc_order_of_firing, od_order_of_firing, .func (PySem.W.fnOf "order_of_firing" "order_of_firing" (defArgs s_order_of_firing) (defBody s_order_of_firing) (defScope s_order_of_firing) .none kV_order_of_firing dc_order_of_firing pm_order_of_firing an_order_of_firing cd_order_of_firing ct_order_of_firing), sl_order_of_firing⟩)
    (c_order_of_firing : PySem.W.codeIn K cd_order_of_firing "order_of_firing" = true) (k_order_of_firing : PySem.W.keepIn K (.ref f_order_of_firing) = true)
    (a_standing : PySem.W.nsIn K mainGlobals "standing" = some (some (.ref f_standing)))
    (l_standing : K.lookup f_standing = some ⟨oc_standing, od_standing, .func (PySem.W.fnOf "standing" "standing" (defArgs s_standing) (defBody s_standing) (defScope s_standing) .none kV_standing dc_standing pm_standing an_standing cd_standing ct_standing), sl_standing⟩)
    (c_standing : PySem.W.codeIn K cd_standing "standing" = true) (k_standing : PySem.W.keepIn K (.ref f_standing) = true)
    (a_least_due : PySem.W.nsIn K mainGlobals "least_due" = some (some (.ref f_least_due)))
    (l_least_due : K.lookup f_least_due = some ⟨oc_least_due, od_least_due, .func (PySem.W.fnOf "least_due" "least_due" (defArgs s_least_due) (defBody s_least_due) (defScope s_least_due) .none kV_least_due dc_least_due pm_least_due an_least_due cd_least_due ct_least_due), sl_least_due⟩)
    (c_least_due : PySem.W.codeIn K cd_least_due "least_due" = true) (k_least_due : PySem.W.keepIn K (.ref f_least_due) = true)
    (a_after_firing : PySem.W.nsIn K mainGlobals "after_firing" = some (some (.ref f_after_firing)))
    (l_after_firing : K.lookup f_after_firing = some ⟨oc_after_firing, od_after_firing, .func (PySem.W.fnOf "after_firing" "after_firing" (defArgs s_after_firing) (defBody s_after_firing) (defScope s_after_firing) .none kV_after_firing dc_after_firing pm_after_firing an_after_firing cd_after_firing ct_after_firing), sl_after_firing⟩)
    (c_after_firing : PySem.W.codeIn K cd_after_firing "after_firing" = true) (k_after_firing : PySem.W.keepIn K (.ref f_after_firing) = true)
    (a_is_row : PySem.W.nsIn K mainGlobals "is_row" = some (some (.ref f_is_row)))
    (l_is_row : K.lookup f_is_row = some ⟨oc_is_row, od_is_row, .func (PySem.W.fnOf "is_row" "is_row" (defArgs s_is_row) (defBody s_is_row) (defScope s_is_row) .none kV_is_row dc_is_row pm_is_row an_is_row cd_is_row ct_is_row), sl_is_row⟩)
    (c_is_row : PySem.W.codeIn K cd_is_row "is_row" = true) (k_is_row : PySem.W.keepIn K (.ref f_is_row) = true)
    (a_is_snapshot : PySem.W.nsIn K mainGlobals "is_snapshot" = some (some (.ref f_is_snapshot)))
    (l_is_snapshot : K.lookup f_is_snapshot = some ⟨oc_is_snapshot, od_is_snapshot, .func (PySem.W.fnOf "is_snapshot" "is_snapshot" (defArgs s_is_snapshot) (defBody s_is_snapshot) (defScope s_is_snapshot) .none kV_is_snapshot dc_is_snapshot pm_is_snapshot an_is_snapshot cd_is_snapshot ct_is_snapshot), sl_is_snapshot⟩)
    (c_is_snapshot : PySem.W.codeIn K cd_is_snapshot "is_snapshot" = true) (k_is_snapshot : PySem.W.keepIn K (.ref f_is_snapshot) = true)
    (a_restored : PySem.W.nsIn K mainGlobals "restored" = some (some (.ref f_restored)))
    (l_restored : K.lookup f_restored = some ⟨oc_restored, od_restored, .func (PySem.W.fnOf "restored" "restored" (defArgs s_restored) (defBody s_restored) (defScope s_restored) .none kV_restored dc_restored pm_restored an_restored cd_restored ct_restored), sl_restored⟩)
    (c_restored : PySem.W.codeIn K cd_restored "restored" = true) (k_restored : PySem.W.keepIn K (.ref f_restored) = true)
    (a_law_cell_at : PySem.W.nsIn K mainGlobals "_law_cell_at" = some (some (.ref f_law_cell_at)))
    (l_law_cell_at : K.lookup f_law_cell_at = some ⟨oc_law_cell_at, od_law_cell_at, .func (PySem.W.fnOf "_law_cell_at" "_law_cell_at" (defArgs s__law_cell_at) (defBody s__law_cell_at) (defScope s__law_cell_at) .none kV_law_cell_at dc_law_cell_at pm_law_cell_at an_law_cell_at cd_law_cell_at ct_law_cell_at), sl_law_cell_at⟩)
    (c_law_cell_at : PySem.W.codeIn K cd_law_cell_at "_law_cell_at" = true) (k_law_cell_at : PySem.W.keepIn K (.ref f_law_cell_at) = true)
    (a_law_mixed : PySem.W.nsIn K mainGlobals "_law_mixed" = some (some (.ref f_law_mixed)))
    (l_law_mixed : K.lookup f_law_mixed = some ⟨oc_law_mixed, od_law_mixed, .func (PySem.W.fnOf "_law_mixed" "_law_mixed" (defArgs s__law_mixed) (defBody s__law_mixed) (defScope s__law_mixed) .none kV_law_mixed dc_law_mixed pm_law_mixed an_law_mixed cd_law_mixed ct_law_mixed), sl_law_mixed⟩)
    (c_law_mixed : PySem.W.codeIn K cd_law_mixed "_law_mixed" = true) (k_law_mixed : PySem.W.keepIn K (.ref f_law_mixed) = true)
    (a_law_source : PySem.W.nsIn K mainGlobals "_law_source" = some (some (.ref f_law_source)))
    (l_law_source : K.lookup f_law_source = some ⟨oc_law_source, od_law_source, .func (PySem.W.fnOf "_law_source" "_law_source" (defArgs s__law_source) (defBody s__law_source) (defScope s__law_source) .none kV_law_source dc_law_source pm_law_source an_law_source cd_law_source ct_law_source), sl_law_source⟩)
    (c_law_source : PySem.W.codeIn K cd_law_source "_law_source" = true) (k_law_source : PySem.W.keepIn K (.ref f_law_source) = true)
    (a_law_next : PySem.W.nsIn K mainGlobals "_law_next" = some (some (.ref f_law_next)))
    (l_law_next : K.lookup f_law_next = some ⟨oc_law_next, od_law_next, .func (PySem.W.fnOf "_law_next" "_law_next" (defArgs s__law_next) (defBody s__law_next) (defScope s__law_next) .none kV_law_next dc_law_next pm_law_next an_law_next cd_law_next ct_law_next), sl_law_next⟩)
    (c_law_next : PySem.W.codeIn K cd_law_next "_law_next" = true) (k_law_next : PySem.W.keepIn K (.ref f_law_next) = true)
    (a_law_base : PySem.W.nsIn K mainGlobals "_law_base" = some (some (.ref f_law_base)))
    (l_law_base : K.lookup f_law_base = some ⟨oc_law_base, od_law_base, .func (PySem.W.fnOf "_law_base" "_law_base" (defArgs s__law_base) (defBody s__law_base) (defScope s__law_base) .none kV_law_base dc_law_base pm_law_base an_law_base cd_law_base ct_law_base), sl_law_base⟩)
    (c_law_base : PySem.W.codeIn K cd_law_base "_law_base" = true) (k_law_base : PySem.W.keepIn K (.ref f_law_base) = true)
    (a_law_levels : PySem.W.nsIn K mainGlobals "_law_levels" = some (some (.ref f_law_levels)))
    (l_law_levels : K.lookup f_law_levels = some ⟨oc_law_levels, od_law_levels, .func (PySem.W.fnOf "_law_levels" "_law_levels" (defArgs s__law_levels) (defBody s__law_levels) (defScope s__law_levels) .none kV_law_levels dc_law_levels pm_law_levels an_law_levels cd_law_levels ct_law_levels), sl_law_levels⟩)
    (c_law_levels : PySem.W.codeIn K cd_law_levels "_law_levels" = true) (k_law_levels : PySem.W.keepIn K (.ref f_law_levels) = true)
    (a_law_tick : PySem.W.nsIn K mainGlobals "_law_tick" = some (some (.ref f_law_tick)))
    (l_law_tick : K.lookup f_law_tick = some ⟨oc_law_tick, od_law_tick, .func (PySem.W.fnOf "_law_tick" "_law_tick" (defArgs s__law_tick) (defBody s__law_tick) (defScope s__law_tick) .none kV_law_tick dc_law_tick pm_law_tick an_law_tick cd_law_tick ct_law_tick), sl_law_tick⟩)
    (c_law_tick : PySem.W.codeIn K cd_law_tick "_law_tick" = true) (k_law_tick : PySem.W.keepIn K (.ref f_law_tick) = true)
    (a_law_call : PySem.W.nsIn K mainGlobals "_law_call" = some (some (.ref f_law_call)))
    (l_law_call : K.lookup f_law_call = some ⟨oc_law_call, od_law_call, .func (PySem.W.fnOf "_law_call" "_law_call" (defArgs s__law_call) (defBody s__law_call) (defScope s__law_call) .none kV_law_call dc_law_call pm_law_call an_law_call cd_law_call ct_law_call), sl_law_call⟩)
    (c_law_call : PySem.W.codeIn K cd_law_call "_law_call" = true) (k_law_call : PySem.W.keepIn K (.ref f_law_call) = true)
    (a_law_made : PySem.W.nsIn K mainGlobals "_law_made" = some (some (.ref f_law_made)))
    (l_law_made : K.lookup f_law_made = some ⟨oc_law_made, od_law_made, .func (PySem.W.fnOf "_law_made" "_law_made" (defArgs s__law_made) (defBody s__law_made) (defScope s__law_made) .none kV_law_made dc_law_made pm_law_made an_law_made cd_law_made ct_law_made), sl_law_made⟩)
    (c_law_made : PySem.W.codeIn K cd_law_made "_law_made" = true) (k_law_made : PySem.W.keepIn K (.ref f_law_made) = true)
    (a_law_others : PySem.W.nsIn K mainGlobals "_law_others" = some (some (.ref f_law_others)))
    (l_law_others : K.lookup f_law_others = some ⟨oc_law_others, od_law_others, .func (PySem.W.fnOf "_law_others" "_law_others" (defArgs s__law_others) (defBody s__law_others) (defScope s__law_others) .none kV_law_others dc_law_others pm_law_others an_law_others cd_law_others ct_law_others), sl_law_others⟩)
    (c_law_others : PySem.W.codeIn K cd_law_others "_law_others" = true) (k_law_others : PySem.W.keepIn K (.ref f_law_others) = true)
    (a_law : PySem.W.nsIn K mainGlobals "law" = some (some (.ref f_law)))
    (l_law : K.lookup f_law = some ⟨oc_law, od_law, .func (PySem.W.fnOf "law" "law" (defArgs s_law) (defBody s_law) (defScope s_law) .none kV_law dc_law pm_law an_law cd_law ct_law), sl_law⟩)
    (c_law : PySem.W.codeIn K cd_law "law" = true) (k_law : PySem.W.keepIn K (.ref f_law) = true)
    (a_Wheel : PySem.W.nsIn K mainGlobals "Wheel" = some (some (.ref C_)))
    (a_m_init : PySem.W.findIn K (.ref C_) "__init__" = some (some (.ref f_m_init))) (i_m_init : PySem.W.isFn K (.ref f_m_init) = true)
    (l_m_init : K.lookup f_m_init = some ⟨oc_m_init, od_m_init, .func (PySem.W.fnOf "__init__" "Wheel.__init__" (defArgs s_Wheel___init__) (defBody s_Wheel___init__) (defScope s_Wheel___init__) .none (.ref kD_m_init) dc_m_init pm_m_init an_m_init cd_m_init ct_m_init), sl_m_init⟩)
    (c_m_init : PySem.W.codeIn K cd_m_init "Wheel.__init__" = true) (k_m_init : PySem.W.keepIn K (.ref f_m_init) = true)
    (d_m_init : PySem.W.nsIn K kD_m_init "start" = some (some (.int 0 kt_m_init)))
    (a_m_check_timer : PySem.W.findIn K (.ref C_) "check_timer" = some (some (.ref f_m_check_timer))) (i_m_check_timer : PySem.W.isFn K (.ref f_m_check_timer) = true)
    (l_m_check_timer : K.lookup f_m_check_timer = some ⟨oc_m_check_timer, od_m_check_timer, .func (PySem.W.fnOf "check_timer" "Wheel.check_timer" (defArgs s_Wheel_check_timer) (defBody s_Wheel_check_timer) (defScope s_Wheel_check_timer) .none kV_m_check_timer dc_m_check_timer pm_m_check_timer an_m_check_timer cd_m_check_timer ct_m_check_timer), sl_m_check_timer⟩)
    (c_m_check_timer : PySem.W.codeIn K cd_m_check_timer "Wheel.check_timer" = true) (k_m_check_timer : PySem.W.keepIn K (.ref f_m_check_timer) = true)
    (a_m_now : PySem.W.findIn K (.ref C_) "now" = some (some (.ref f_m_now))) (i_m_now : PySem.W.isFn K (.ref f_m_now) = true)
    (l_m_now : K.lookup f_m_now = some ⟨oc_m_now, od_m_now, .func (PySem.W.fnOf "now" "Wheel.now" (defArgs s_Wheel_now) (defBody s_Wheel_now) (defScope s_Wheel_now) .none kV_m_now dc_m_now pm_m_now an_m_now cd_m_now ct_m_now), sl_m_now⟩)
    (c_m_now : PySem.W.codeIn K cd_m_now "Wheel.now" = true) (k_m_now : PySem.W.keepIn K (.ref f_m_now) = true)
    (a_m_put : PySem.W.findIn K (.ref C_) "put" = some (some (.ref f_m_put))) (i_m_put : PySem.W.isFn K (.ref f_m_put) = true)
    (l_m_put : K.lookup f_m_put = some ⟨oc_m_put, od_m_put, .func (PySem.W.fnOf "put" "Wheel.put" (defArgs s_Wheel_put) (defBody s_Wheel_put) (defScope s_Wheel_put) .none (.ref kD_m_put) dc_m_put pm_m_put an_m_put cd_m_put ct_m_put), sl_m_put⟩)
    (c_m_put : PySem.W.codeIn K cd_m_put "Wheel.put" = true) (k_m_put : PySem.W.keepIn K (.ref f_m_put) = true)
    (d_m_put : PySem.W.nsIn K kD_m_put "period" = some (some .none))
    (a_m_cancel : PySem.W.findIn K (.ref C_) "cancel" = some (some (.ref f_m_cancel))) (i_m_cancel : PySem.W.isFn K (.ref f_m_cancel) = true)
    (l_m_cancel : K.lookup f_m_cancel = some ⟨oc_m_cancel, od_m_cancel, .func (PySem.W.fnOf "cancel" "Wheel.cancel" (defArgs s_Wheel_cancel) (defBody s_Wheel_cancel) (defScope s_Wheel_cancel) .none kV_m_cancel dc_m_cancel pm_m_cancel an_m_cancel cd_m_cancel ct_m_cancel), sl_m_cancel⟩)
    (c_m_cancel : PySem.W.codeIn K cd_m_cancel "Wheel.cancel" = true) (k_m_cancel : PySem.W.keepIn K (.ref f_m_cancel) = true)
    (a_m_reset : PySem.W.findIn K (.ref C_) "reset" = some (some (.ref f_m_reset))) (i_m_reset : PySem.W.isFn K (.ref f_m_reset) = true)
    (l_m_reset : K.lookup f_m_reset = some ⟨oc_m_reset, od_m_reset, .func (PySem.W.fnOf "reset" "Wheel.reset" (defArgs s_Wheel_reset) (defBody s_Wheel_reset) (defScope s_Wheel_reset) .none kV_m_reset dc_m_reset pm_m_reset an_m_reset cd_m_reset ct_m_reset), sl_m_reset⟩)
    (c_m_reset : PySem.W.codeIn K cd_m_reset "Wheel.reset" = true) (k_m_reset : PySem.W.keepIn K (.ref f_m_reset) = true)
    (a_m_due : PySem.W.findIn K (.ref C_) "due" = some (some (.ref f_m_due))) (i_m_due : PySem.W.isFn K (.ref f_m_due) = true)
    (l_m_due : K.lookup f_m_due = some ⟨oc_m_due, od_m_due, .func (PySem.W.fnOf "due" "Wheel.due" (defArgs s_Wheel_due) (defBody s_Wheel_due) (defScope s_Wheel_due) .none kV_m_due dc_m_due pm_m_due an_m_due cd_m_due ct_m_due), sl_m_due⟩)
    (c_m_due : PySem.W.codeIn K cd_m_due "Wheel.due" = true) (k_m_due : PySem.W.keepIn K (.ref f_m_due) = true)
    (a_m_timers : PySem.W.findIn K (.ref C_) "timers" = some (some (.ref f_m_timers))) (i_m_timers : PySem.W.isFn K (.ref f_m_timers) = true)
    (l_m_timers : K.lookup f_m_timers = some ⟨oc_m_timers, od_m_timers, .func (PySem.W.fnOf "timers" "Wheel.timers" (defArgs s_Wheel_timers) (defBody s_Wheel_timers) (defScope s_Wheel_timers) .none kV_m_timers dc_m_timers pm_m_timers an_m_timers cd_m_timers ct_m_timers), sl_m_timers⟩)
    (c_m_timers : PySem.W.codeIn K cd_m_timers "Wheel.timers" = true) (k_m_timers : PySem.W.keepIn K (.ref f_m_timers) = true)
    (a_m_advance : PySem.W.findIn K (.ref C_) "advance" = some (some (.ref f_m_advance))) (i_m_advance : PySem.W.isFn K (.ref f_m_advance) = true)
    (l_m_advance : K.lookup f_m_advance = some ⟨oc_m_advance, od_m_advance, .func (PySem.W.fnOf "advance" "Wheel.advance" (defArgs s_Wheel_advance) (defBody s_Wheel_advance) (defScope s_Wheel_advance) .none kV_m_advance dc_m_advance pm_m_advance an_m_advance cd_m_advance ct_m_advance), sl_m_advance⟩)
    (c_m_advance : PySem.W.codeIn K cd_m_advance "Wheel.advance" = true) (k_m_advance : PySem.W.keepIn K (.ref f_m_advance) = true)
    (a_m_lists : PySem.W.findIn K (.ref C_) "lists" = some (some (.ref f_m_lists))) (i_m_lists : PySem.W.isFn K (.ref f_m_lists) = true)
    (l_m_lists : K.lookup f_m_lists = some ⟨oc_m_lists, od_m_lists, .func (PySem.W.fnOf "lists" "Wheel.lists" (defArgs s_Wheel_lists) (defBody s_Wheel_lists) (defScope s_Wheel_lists) .none kV_m_lists dc_m_lists pm_m_lists an_m_lists cd_m_lists ct_m_lists), sl_m_lists⟩)
    (c_m_lists : PySem.W.codeIn K cd_m_lists "Wheel.lists" = true) (k_m_lists : PySem.W.keepIn K (.ref f_m_lists) = true)
    (a_m_restoring : PySem.W.findIn K (.ref C_) "restoring" = some (some (.ref f_m_restoring))) (i_m_restoring : PySem.W.isFn K (.ref f_m_restoring) = true)
    (l_m_restoring : K.lookup f_m_restoring = some ⟨oc_m_restoring, od_m_restoring, .func (PySem.W.fnOf "restoring" "Wheel.restoring" (defArgs s_Wheel_restoring) (defBody s_Wheel_restoring) (defScope s_Wheel_restoring) .none kV_m_restoring dc_m_restoring pm_m_restoring an_m_restoring cd_m_restoring ct_m_restoring), sl_m_restoring⟩)
    (c_m_restoring : PySem.W.codeIn K cd_m_restoring "Wheel.restoring" = true) (k_m_restoring : PySem.W.keepIn K (.ref f_m_restoring) = true)
    (a_m_snapshot : PySem.W.findIn K (.ref C_) "snapshot" = some (some (.ref f_m_snapshot))) (i_m_snapshot : PySem.W.isFn K (.ref f_m_snapshot) = true)
    (l_m_snapshot : K.lookup f_m_snapshot = some ⟨oc_m_snapshot, od_m_snapshot, .func (PySem.W.fnOf "snapshot" "Wheel.snapshot" (defArgs s_Wheel_snapshot) (defBody s_Wheel_snapshot) (defScope s_Wheel_snapshot) .none kV_m_snapshot dc_m_snapshot pm_m_snapshot an_m_snapshot cd_m_snapshot ct_m_snapshot), sl_m_snapshot⟩)
    (c_m_snapshot : PySem.W.codeIn K cd_m_snapshot "Wheel.snapshot" = true) (k_m_snapshot : PySem.W.keepIn K (.ref f_m_snapshot) = true)
    (a_m_eq : PySem.W.findIn K (.ref C_) "__eq__" = some (some (.ref f_m_eq))) (i_m_eq : PySem.W.isFn K (.ref f_m_eq) = true)
    (l_m_eq : K.lookup f_m_eq = some ⟨oc_m_eq, od_m_eq, .func (PySem.W.fnOf "__eq__" "Wheel.__eq__" (defArgs s_Wheel___eq__) (defBody s_Wheel___eq__) (defScope s_Wheel___eq__) .none kV_m_eq dc_m_eq pm_m_eq an_m_eq cd_m_eq ct_m_eq), sl_m_eq⟩)
    (c_m_eq : PySem.W.codeIn K cd_m_eq "Wheel.__eq__" = true) (k_m_eq : PySem.W.keepIn K (.ref f_m_eq) = true)
    (pg : PySem.W.plainGet K C_ Str.empty = true)
    (hd : PySem.W.hasDictIn K C_ = true)
    (po : PySem.W.plainOver K C_ = true)
    (sa : PySem.W.findIn K (.ref C_) "__setattr__" = some (some (.builtin "object.__setattr__")))
    (mkC : PySem.W.makesIn K C_ = true)
    (kc : PySem.W.keepIn K (.ref C_) = true)
    (n_base : PySem.W.findIn K (.ref C_) "base" = some none)
    (n_words : PySem.W.findIn K (.ref C_) "words" = some none)
    (n_tick : PySem.W.findIn K (.ref C_) "tick" = some none)
    (n_following : PySem.W.findIn K (.ref C_) "following" = some none)
    (n_live : PySem.W.findIn K (.ref C_) "live" = some none)
    (ne_W : PySem.W.findIn K (.ref C_) "__ne__" = some (some (.builtin "object.__ne__")))
    (mo_W : PySem.W.mroIn K C_ (.type "object") = some true)
    (cc_W : PySem.W.findIn K (.ref C_) "__class__" = some (some (.builtin "object.__class__")))
    (sp_get : PySem.W.specialIn K (.builtin "object.__class__") "__get__" = some (some (.builtin "getset_descriptor.__get__")))
    (tk_cls : PySem.W.takesIn K (.builtin "object.__class__") = some true)
    (ty_W : PySem.W.typeIn K (.ref C_) = some (.type "type"))
    (z_isinstance : PySem.W.nsIn K mainGlobals "isinstance" = some none)
    (z_int : PySem.W.nsIn K mainGlobals "int" = some none)
    (z_bool : PySem.W.nsIn K mainGlobals "bool" = some none)
    (z_str : PySem.W.nsIn K mainGlobals "str" = some none)
    (z_all : PySem.W.nsIn K mainGlobals "all" = some none)
    (z_list : PySem.W.nsIn K mainGlobals "list" = some none)
    (z_len : PySem.W.nsIn K mainGlobals "len" = some none)
    (z_min : PySem.W.nsIn K mainGlobals "min" = some none)
    (z_sorted : PySem.W.nsIn K mainGlobals "sorted" = some none)
    (z_dict : PySem.W.nsIn K mainGlobals "dict" = some none)
    (z_tuple : PySem.W.nsIn K mainGlobals "tuple" = some none)
    (z_set : PySem.W.nsIn K mainGlobals "set" = some none)
    (z_range : PySem.W.nsIn K mainGlobals "range" = some none)
    (z_max : PySem.W.nsIn K mainGlobals "max" = some none)
    (a_WORDS : PySem.W.nsIn K mainGlobals "WORDS" = some (some (.ref f_WORDS)))
    (l_WORDS : K.lookup f_WORDS = some ⟨.type "tuple", od_WORDS, .seq #[.str "stack" tk0_WORDS, .str "queue" tk1_WORDS] tn_WORDS, ts_WORDS⟩)
    (a_MOST_LEVELS : PySem.W.nsIn K mainGlobals "MOST_LEVELS" = some (some (.int 60 tk_MOST_LEVELS)))
    (a_MOST_FIRINGS : PySem.W.nsIn K mainGlobals "MOST_FIRINGS" = some (some (.int 2000 tk_MOST_FIRINGS)))
    : ∃ fd : FuncData, (∀ (s : Shared) (v : Value), BindsTo s fd ⟨[v], []⟩ [("_law_script", v)]) ∧ ∀ base : Heap, K.In base → base.Ns mainGlobals mg → FnOk l.prog w K mg base CX0 10 fa fd ["_law_script"] (spLaw K) := by
  have e := hfa.symm.trans (PySem.W.mg_of X G a_law)
  cases e
  have T : Tx K mg := ⟨PySem.W.mg_none_of X G z_isinstance, PySem.W.mg_none_of X G z_int, PySem.W.mg_none_of X G z_bool, PySem.W.mg_none_of X G z_str, PySem.W.mg_none_of X G z_all, PySem.W.mg_none_of X G z_list, PySem.W.mg_none_of X G z_len, PySem.W.mg_none_of X G z_min, PySem.W.mg_none_of X G z_sorted, PySem.W.mg_none_of X G z_dict, PySem.W.mg_none_of X G z_tuple, PySem.W.mg_none_of X G z_set, PySem.W.mg_none_of X G z_range, PySem.W.mg_none_of X G z_max⟩
  have h_WORDS : ∃ a, mg "WORDS" = some (.ref a) ∧ ∀ H, SqT K H a [.str "stack", .str "queue"] := ⟨f_WORDS, PySem.W.mg_of X G a_WORDS, fun H => .inr ⟨_, _, _, l_WORDS, rfl, rfl, by simp [sizeLine_eq], .cons ⟨_, rfl⟩ (.cons ⟨_, rfl⟩ (.nil))⟩⟩
  have h_MOST_LEVELS : mg "MOST_LEVELS" = some (.int 60 tk_MOST_LEVELS) := PySem.W.mg_of X G a_MOST_LEVELS
  have h_MOST_FIRINGS : mg "MOST_FIRINGS" = some (.int 2000 tk_MOST_FIRINGS) := PySem.W.mg_of X G a_MOST_FIRINGS
  have D_wall : Df K mg "_wall" s__wall ["k"] := by
    have F := fun_mk (st := s__wall) l_wall c_wall k_wall
    exact ⟨_, _, F, PySem.W.mg_of X G a_wall, F.binds (ps := ["k"]) fun _ _ _ _ _ _ us hl => match us, hl with | [_], _ => rfl⟩
  have D_is_integer : Df K mg "is_integer" s_is_integer ["given"] := by
    have F := fun_mk (st := s_is_integer) l_is_integer c_is_integer k_is_integer
    exact ⟨_, _, F, PySem.W.mg_of X G a_is_integer, F.binds (ps := ["given"]) fun _ _ _ _ _ _ us hl => match us, hl with | [_], _ => rfl⟩
  have D_is_word : Df K mg "is_word" s_is_word ["given"] := by
    have F := fun_mk (st := s_is_word) l_is_word c_is_word k_is_word
    exact ⟨_, _, F, PySem.W.mg_of X G a_is_word, F.binds (ps := ["given"]) fun _ _ _ _ _ _ us hl => match us, hl with | [_], _ => rfl⟩
  have D_is_base : Df K mg "is_base" s_is_base ["given"] := by
    have F := fun_mk (st := s_is_base) l_is_base c_is_base k_is_base
    exact ⟨_, _, F, PySem.W.mg_of X G a_is_base, F.binds (ps := ["given"]) fun _ _ _ _ _ _ us hl => match us, hl with | [_], _ => rfl⟩
  have D_is_length : Df K mg "is_length" s_is_length ["given"] := by
    have F := fun_mk (st := s_is_length) l_is_length c_is_length k_is_length
    exact ⟨_, _, F, PySem.W.mg_of X G a_is_length, F.binds (ps := ["given"]) fun _ _ _ _ _ _ us hl => match us, hl with | [_], _ => rfl⟩
  have D_are_levels : Df K mg "are_levels" s_are_levels ["given"] := by
    have F := fun_mk (st := s_are_levels) l_are_levels c_are_levels k_are_levels
    exact ⟨_, _, F, PySem.W.mg_of X G a_are_levels, F.binds (ps := ["given"]) fun _ _ _ _ _ _ us hl => match us, hl with | [_], _ => rfl⟩
  have D_is_tick : Dd K mg "is_tick" s_is_tick ["given", "least"] (.int 0) := by
    have F : FunD K "is_tick" "is_tick" (defArgs s_is_tick) (defBody s_is_tick) (defScope s_is_tick) [(.int 0)] [] _ _ := ⟨⟨_, _, _, _, _, _, _, _, _, _, rfl, l_is_tick, c_is_tick, .inr ⟨by simp, dT_is_tick, _, [_], _, rfl, t_is_tick, rfl, .cons ⟨_, rfl⟩ .nil⟩, .inl rfl⟩, k_is_tick⟩
    exact ⟨_, _, F, PySem.W.mg_of X G a_is_tick,
      FunD.binds1 (ps := ["given", "least"]) F 1 0 (by simp) rfl fun _ _ _ _ _ _ _ us its hu hi => match us, its, hu, hi with | [_], [_], _, _ => ⟨_, rfl, rfl⟩,
      by obtain ⟨ds, r, b⟩ := FunD.binds1 (ps := ["given", "least"]) F 2 1 (by simp) rfl fun _ _ _ _ _ _ _ us its hu hi => match us, its, hu, hi with | [_, _], [_], _, _ => ⟨_, rfl, rfl⟩
         cases r
         exact b⟩
  have D_is_period : Df K mg "is_period" s_is_period ["given"] := by
    have F := fun_mk (st := s_is_period) l_is_period c_is_period k_is_period
    exact ⟨_, _, F, PySem.W.mg_of X G a_is_period, F.binds (ps := ["given"]) fun _ _ _ _ _ _ us hl => match us, hl with | [_], _ => rfl⟩
  have D_check_base : Df K mg "check_base" s_check_base ["base"] := by
    have F := fun_mk (st := s_check_base) l_check_base c_check_base k_check_base
    exact ⟨_, _, F, PySem.W.mg_of X G a_check_base, F.binds (ps := ["base"]) fun _ _ _ _ _ _ us hl => match us, hl with | [_], _ => rfl⟩
  have D_check_levels : Df K mg "check_levels" s_check_levels ["levels"] := by
    have F := fun_mk (st := s_check_levels) l_check_levels c_check_levels k_check_levels
    exact ⟨_, _, F, PySem.W.mg_of X G a_check_levels, F.binds (ps := ["levels"]) fun _ _ _ _ _ _ us hl => match us, hl with | [_], _ => rfl⟩
  have D_check_tick : Dd K mg "check_tick" s_check_tick ["tick", "least"] (.int 0) := by
    have F : FunD K "check_tick" "check_tick" (defArgs s_check_tick) (defBody s_check_tick) (defScope s_check_tick) [(.int 0)] [] _ _ := ⟨⟨_, _, _, _, _, _, _, _, _, _, rfl, l_check_tick, c_check_tick, .inr ⟨by simp, dT_check_tick, _, [_], _, rfl, t_check_tick, rfl, .cons ⟨_, rfl⟩ .nil⟩, .inl rfl⟩, k_check_tick⟩
    exact ⟨_, _, F, PySem.W.mg_of X G a_check_tick,
      FunD.binds1 (ps := ["tick", "least"]) F 1 0 (by simp) rfl fun _ _ _ _ _ _ _ us its hu hi => match us, its, hu, hi with | [_], [_], _, _ => ⟨_, rfl, rfl⟩,
      by obtain ⟨ds, r, b⟩ := FunD.binds1 (ps := ["tick", "least"]) F 2 1 (by simp) rfl fun _ _ _ _ _ _ _ us its hu hi => match us, its, hu, hi with | [_, _], [_], _, _ => ⟨_, rfl, rfl⟩
         cases r
         exact b⟩
  have D_word_at : Df K mg "word_at" s_word_at ["levels", "level"] := by
    have F := fun_mk (st := s_word_at) l_word_at c_word_at k_word_at
    exact ⟨_, _, F, PySem.W.mg_of X G a_word_at, F.binds (ps := ["levels", "level"]) fun _ _ _ _ _ _ us hl => match us, hl with | [_, _], _ => rfl⟩
  have D_level_and_size : Df K mg "level_and_size" s_level_and_size ["base", "now", "due"] := by
    have F := fun_mk (st := s_level_and_size) l_level_and_size c_level_and_size k_level_and_size
    exact ⟨_, _, F, PySem.W.mg_of X G a_level_and_size, F.binds (ps := ["base", "now", "due"]) fun _ _ _ _ _ _ us hl => match us, hl with | [_, _, _], _ => rfl⟩
  have D_path : Df K mg "path" s_path ["base", "now", "due"] := by
    have F := fun_mk (st := s_path) l_path c_path k_path
    exact ⟨_, _, F, PySem.W.mg_of X G a_path, F.binds (ps := ["base", "now", "due"]) fun _ _ _ _ _ _ us hl => match us, hl with | [_, _, _], _ => rfl⟩
  have D_goes_in_front : Df K mg "goes_in_front" s_goes_in_front ["base", "levels", "now", "due", "lowest"] := by
    have F := fun_mk (st := s_goes_in_front) l_goes_in_front c_goes_in_front k_goes_in_front
    exact ⟨_, _, F, PySem.W.mg_of X G a_goes_in_front, F.binds (ps := ["base", "levels", "now", "due", "lowest"]) fun _ _ _ _ _ _ us hl => match us, hl with | [_, _, _, _, _], _ => rfl⟩
  have D_with_timer : Df K mg "with_timer" s_with_timer ["numbers", "number", "front"] := by
    have F := fun_mk (st := s_with_timer) l_with_timer c_with_timer k_with_timer
    exact ⟨_, _, F, PySem.W.mg_of X G a_with_timer, F.binds (ps := ["numbers", "number", "front"]) fun _ _ _ _ _ _ us hl => match us, hl with | [_, _, _], _ => rfl⟩
  have D_firing_order : Df K mg "firing_order" s_firing_order ["base", "levels", "due", "settings"] := by
    have F := fun_mk (st := s_firing_order) l_firing_order c_firing_order k_firing_order
    exact ⟨_, _, F, PySem.W.mg_of X G a_firing_order, F.binds (ps := ["base", "levels", "due", "settings"]) fun _ _ _ _ _ _ us hl => match us, hl with | [_, _, _, _], _ => rfl⟩
  have D_without_repeats : Df K mg "without_repeats" s_without_repeats ["levels"] := by
    have F := fun_mk (st := s_without_repeats) l_without_repeats c_without_repeats k_without_repeats
    exact ⟨_, _, F, PySem.W.mg_of X G a_without_repeats, F.binds (ps := ["levels"]) fun _ _ _ _ _ _ us hl => match us, hl with | [_], _ => rfl⟩
  have D_check_period : Df K mg "check_period" s_check_period ["period"] := by
    have F := fun_mk (st := s_check_period) l_check_period c_check_period k_check_period
    exact ⟨_, _, F, PySem.W.mg_of X G a_check_period, F.binds (ps := ["period"]) fun _ _ _ _ _ _ us hl => match us, hl with | [_], _ => rfl⟩
  have D_order_of_firing : Df K mg "order_of_firing" s_order_of_firing ["base", "levels", "live", "tick"] := by
    have F := fun_mk (st := s_order_of_firing) l_order_of_firing c_order_of_firing k_order_of_firing
    exact ⟨_, _, F, PySem.W.mg_of X G a_order_of_firing, F.binds (ps := ["base", "levels", "live", "tick"]) fun _ _ _ _ _ _ us hl => match us, hl with | [_, _, _, _], _ => rfl⟩
  have D_standing : Df K mg "standing" s_standing ["base", "levels", "live", "tick"] := by
    have F := fun_mk (st := s_standing) l_standing c_standing k_standing
    exact ⟨_, _, F, PySem.W.mg_of X G a_standing, F.binds (ps := ["base", "levels", "live", "tick"]) fun _ _ _ _ _ _ us hl => match us, hl with | [_, _, _, _], _ => rfl⟩
  have D_least_due : Df K mg "least_due" s_least_due ["live"] := by
    have F := fun_mk (st := s_least_due) l_least_due c_least_due k_least_due
    exact ⟨_, _, F, PySem.W.mg_of X G a_least_due, F.binds (ps := ["live"]) fun _ _ _ _ _ _ us hl => match us, hl with | [_], _ => rfl⟩
  have D_after_firing : Df K mg "after_firing" s_after_firing ["live", "numbers", "tick"] := by
    have F := fun_mk (st := s_after_firing) l_after_firing c_after_firing k_after_firing
    exact ⟨_, _, F, PySem.W.mg_of X G a_after_firing, F.binds (ps := ["live", "numbers", "tick"]) fun _ _ _ _ _ _ us hl => match us, hl with | [_, _, _], _ => rfl⟩
  have D_is_row : Df K mg "is_row" s_is_row ["given", "now", "following"] := by
    have F := fun_mk (st := s_is_row) l_is_row c_is_row k_is_row
    exact ⟨_, _, F, PySem.W.mg_of X G a_is_row, F.binds (ps := ["given", "now", "following"]) fun _ _ _ _ _ _ us hl => match us, hl with | [_, _, _], _ => rfl⟩
  have D_is_snapshot : Df K mg "is_snapshot" s_is_snapshot ["given"] := by
    have F := fun_mk (st := s_is_snapshot) l_is_snapshot c_is_snapshot k_is_snapshot
    exact ⟨_, _, F, PySem.W.mg_of X G a_is_snapshot, F.binds (ps := ["given"]) fun _ _ _ _ _ _ us hl => match us, hl with | [_], _ => rfl⟩
  have D_restored : Df K mg "restored" s_restored ["snapshot"] := by
    have F := fun_mk (st := s_restored) l_restored c_restored k_restored
    exact ⟨_, _, F, PySem.W.mg_of X G a_restored, F.binds (ps := ["snapshot"]) fun _ _ _ _ _ _ us hl => match us, hl with | [_], _ => rfl⟩
  have D_law_cell_at : Df K mg "_law_cell_at" s__law_cell_at ["_law_script", "_law_k"] := by
    have F := fun_mk (st := s__law_cell_at) l_law_cell_at c_law_cell_at k_law_cell_at
    exact ⟨_, _, F, PySem.W.mg_of X G a_law_cell_at, F.binds (ps := ["_law_script", "_law_k"]) fun _ _ _ _ _ _ us hl => match us, hl with | [_, _], _ => rfl⟩
  have D_law_mixed : Df K mg "_law_mixed" s__law_mixed ["_law_cell", "_law_k"] := by
    have F := fun_mk (st := s__law_mixed) l_law_mixed c_law_mixed k_law_mixed
    exact ⟨_, _, F, PySem.W.mg_of X G a_law_mixed, F.binds (ps := ["_law_cell", "_law_k"]) fun _ _ _ _ _ _ us hl => match us, hl with | [_, _], _ => rfl⟩
  have D_law_source : Df K mg "_law_source" s__law_source ["_law_script", "_law_k"] := by
    have F := fun_mk (st := s__law_source) l_law_source c_law_source k_law_source
    exact ⟨_, _, F, PySem.W.mg_of X G a_law_source, F.binds (ps := ["_law_script", "_law_k"]) fun _ _ _ _ _ _ us hl => match us, hl with | [_, _], _ => rfl⟩
  have D_law_next : Df K mg "_law_next" s__law_next ["_law_source_here", "_law_many"] := by
    have F := fun_mk (st := s__law_next) l_law_next c_law_next k_law_next
    exact ⟨_, _, F, PySem.W.mg_of X G a_law_next, F.binds (ps := ["_law_source_here", "_law_many"]) fun _ _ _ _ _ _ us hl => match us, hl with | [_, _], _ => rfl⟩
  have D_law_base : Df K mg "_law_base" s__law_base ["_law_source_here"] := by
    have F := fun_mk (st := s__law_base) l_law_base c_law_base k_law_base
    exact ⟨_, _, F, PySem.W.mg_of X G a_law_base, F.binds (ps := ["_law_source_here"]) fun _ _ _ _ _ _ us hl => match us, hl with | [_], _ => rfl⟩
  have D_law_levels : Df K mg "_law_levels" s__law_levels ["_law_source_here"] := by
    have F := fun_mk (st := s__law_levels) l_law_levels c_law_levels k_law_levels
    exact ⟨_, _, F, PySem.W.mg_of X G a_law_levels, F.binds (ps := ["_law_source_here"]) fun _ _ _ _ _ _ us hl => match us, hl with | [_], _ => rfl⟩
  have D_law_tick : Df K mg "_law_tick" s__law_tick ["_law_source_here", "_law_base_here"] := by
    have F := fun_mk (st := s__law_tick) l_law_tick c_law_tick k_law_tick
    exact ⟨_, _, F, PySem.W.mg_of X G a_law_tick, F.binds (ps := ["_law_source_here", "_law_base_here"]) fun _ _ _ _ _ _ us hl => match us, hl with | [_, _], _ => rfl⟩
  have D_law_call : Df K mg "_law_call" s__law_call ["_law_source_here", "_law_wheel", "_law_span"] := by
    have F := fun_mk (st := s__law_call) l_law_call c_law_call k_law_call
    exact ⟨_, _, F, PySem.W.mg_of X G a_law_call, F.binds (ps := ["_law_source_here", "_law_wheel", "_law_span"]) fun _ _ _ _ _ _ us hl => match us, hl with | [_, _, _], _ => rfl⟩
  have D_law_made : Df K mg "_law_made" s__law_made ["_law_wheel", "_law_call_here"] := by
    have F := fun_mk (st := s__law_made) l_law_made c_law_made k_law_made
    exact ⟨_, _, F, PySem.W.mg_of X G a_law_made, F.binds (ps := ["_law_wheel", "_law_call_here"]) fun _ _ _ _ _ _ us hl => match us, hl with | [_, _], _ => rfl⟩
  have D_law_others : Df K mg "_law_others" s__law_others ["_law_source_here", "_law_told"] := by
    have F := fun_mk (st := s__law_others) l_law_others c_law_others k_law_others
    exact ⟨_, _, F, PySem.W.mg_of X G a_law_others, F.binds (ps := ["_law_source_here", "_law_told"]) fun _ _ _ _ _ _ us hl => match us, hl with | [_, _], _ => rfl⟩
  have D_law : Df K mg "law" s_law ["_law_script"] := by
    have F := fun_mk (st := s_law) l_law c_law k_law
    exact ⟨_, _, F, PySem.W.mg_of X G a_law, F.binds (ps := ["_law_script"]) fun _ _ _ _ _ _ us hl => match us, hl with | [_], _ => rfl⟩
  have TW : TxW K mg C_ := ⟨⟨pg, hd, po, sa⟩, n_base, n_words, n_tick, n_following, n_live, PySem.W.mg_of X G a_Wheel⟩
  have F_m_init : FunD K "__init__" "Wheel.__init__" (defArgs s_Wheel___init__) (defBody s_Wheel___init__) (defScope s_Wheel___init__) [] [("start", .int 0)] _ _ := ⟨⟨_, _, _, _, _, _, _, _, _, _, rfl, l_m_init, c_m_init, .inl ⟨rfl, rfl⟩, .inr ⟨_, rfl, fun q hq => by rw [List.mem_singleton.mp hq]; exact ⟨_, d_m_init, ⟨_, rfl⟩⟩⟩⟩, k_m_init⟩
  obtain ⟨ds_m_init, V_m_init, B_m_init⟩ := FunD.binds0 (ps := ["self", "base", "levels", "start"]) F_m_init 3 (by simp) rfl fun _ _ _ _ _ _ us ks hl hk => match us, ks, hl, hk with | [_, _, _], [_], _, _ => ⟨_, _, _, _, _, _, rfl, rfl, rfl⟩
  have F_m_check_timer := fun_mk (st := s_Wheel_check_timer) l_m_check_timer c_m_check_timer k_m_check_timer
  have B_m_check_timer := F_m_check_timer.binds (ps := ["self", "timer"]) fun _ _ _ _ _ _ us hl => match us, hl with | [_, _], _ => rfl
  have F_m_now := fun_mk (st := s_Wheel_now) l_m_now c_m_now k_m_now
  have B_m_now := F_m_now.binds (ps := ["self"]) fun _ _ _ _ _ _ us hl => match us, hl with | [_], _ => rfl
  have F_m_put : FunD K "put" "Wheel.put" (defArgs s_Wheel_put) (defBody s_Wheel_put) (defScope s_Wheel_put) [] [("period", .non)] _ _ := ⟨⟨_, _, _, _, _, _, _, _, _, _, rfl, l_m_put, c_m_put, .inl ⟨rfl, rfl⟩, .inr ⟨_, rfl, fun q hq => by rw [List.mem_singleton.mp hq]; exact ⟨_, d_m_put, rfl⟩⟩⟩, k_m_put⟩
  obtain ⟨ds_m_put, V_m_put, B_m_put⟩ := FunD.binds0 (ps := ["self", "due", "period"]) F_m_put 2 (by simp) rfl fun _ _ _ _ _ _ us ks hl hk => match us, ks, hl, hk with | [_, _], [_], _, _ => ⟨_, _, _, _, _, _, rfl, rfl, rfl⟩
  have F_m_cancel := fun_mk (st := s_Wheel_cancel) l_m_cancel c_m_cancel k_m_cancel
  have B_m_cancel := F_m_cancel.binds (ps := ["self", "timer"]) fun _ _ _ _ _ _ us hl => match us, hl with | [_, _], _ => rfl
  have F_m_reset := fun_mk (st := s_Wheel_reset) l_m_reset c_m_reset k_m_reset
  have B_m_reset := F_m_reset.binds (ps := ["self", "timer", "due"]) fun _ _ _ _ _ _ us hl => match us, hl with | [_, _, _], _ => rfl
  have F_m_due := fun_mk (st := s_Wheel_due) l_m_due c_m_due k_m_due
  have B_m_due := F_m_due.binds (ps := ["self", "timer"]) fun _ _ _ _ _ _ us hl => match us, hl with | [_, _], _ => rfl
  have F_m_timers := fun_mk (st := s_Wheel_timers) l_m_timers c_m_timers k_m_timers
  have B_m_timers := F_m_timers.binds (ps := ["self"]) fun _ _ _ _ _ _ us hl => match us, hl with | [_], _ => rfl
  have F_m_advance := fun_mk (st := s_Wheel_advance) l_m_advance c_m_advance k_m_advance
  have B_m_advance := F_m_advance.binds (ps := ["self", "tick"]) fun _ _ _ _ _ _ us hl => match us, hl with | [_, _], _ => rfl
  have F_m_lists := fun_mk (st := s_Wheel_lists) l_m_lists c_m_lists k_m_lists
  have B_m_lists := F_m_lists.binds (ps := ["self"]) fun _ _ _ _ _ _ us hl => match us, hl with | [_], _ => rfl
  have F_m_restoring := fun_mk (st := s_Wheel_restoring) l_m_restoring c_m_restoring k_m_restoring
  have B_m_restoring := F_m_restoring.binds (ps := ["self"]) fun _ _ _ _ _ _ us hl => match us, hl with | [_], _ => rfl
  have F_m_snapshot := fun_mk (st := s_Wheel_snapshot) l_m_snapshot c_m_snapshot k_m_snapshot
  have B_m_snapshot := F_m_snapshot.binds (ps := ["self"]) fun _ _ _ _ _ _ us hl => match us, hl with | [_], _ => rfl
  have F_m_eq := fun_mk (st := s_Wheel___eq__) l_m_eq c_m_eq k_m_eq
  have B_m_eq := F_m_eq.binds (ps := ["self", "other"]) fun _ _ _ _ _ _ us hl => match us, hl with | [_, _], _ => rfl
  refine ⟨PySem.W.fnOf "law" "law" (defArgs s_law) (defBody s_law) (defScope s_law) .none kV_law dc_law pm_law an_law cd_law ct_law, fun s v => .of_eq rfl, fun base _ _ => ?_⟩
  have h_is_integer : Has l.prog w K mg base 1 "is_integer" ["given"] [] spIsInt := D_is_integer.has fun _ _ F => ok_is_integer F T
  have h2_is_tick : Has l.prog w K mg base 2 "is_tick" ["given", "least"] [.int 0] spIsTick ∧ Has l.prog w K mg base 2 "is_tick" ["given", "least"] [] spIsTick := D_is_tick.has fun _ _ F => ok_is_tick F T h_is_integer
  have h_is_base : Has l.prog w K mg base 2 "is_base" ["given"] [] spIsBase := D_is_base.has fun _ _ F => ok_is_base F h_is_integer
  have h_check_base : Has l.prog w K mg base 3 "check_base" ["base"] [] spCheckBase := D_check_base.has fun _ _ F => ok_check_base F h_is_base
  have h2_check_tick : Has l.prog w K mg base 3 "check_tick" ["tick", "least"] [.int 0] spCheckTick ∧ Has l.prog w K mg base 3 "check_tick" ["tick", "least"] [] spCheckTick := D_check_tick.has fun _ _ F => ok_check_tick F h2_is_tick.2
  have h_level_and_size : Has l.prog w K mg base 1 "level_and_size" ["base", "now", "due"] [] spLevel := D_level_and_size.has fun _ _ F => ok_level_and_size F 
  have h_path : Has l.prog w K mg base 2 "path" ["base", "now", "due"] [] spPath := D_path.has fun _ _ F => ok_path F h_level_and_size
  have h_word_at : Has l.prog w K mg base 1 "word_at" ["levels", "level"] [] (spWordAt K) := D_word_at.has fun _ _ F => ok_word_at F T
  have h_is_word : Has l.prog w K mg base 1 "is_word" ["given"] [] spIsWord := D_is_word.has fun _ _ F => ok_is_word F T h_WORDS
  have h_is_length : Has l.prog w K mg base 2 "is_length" ["given"] [] spIsLength := D_is_length.has fun _ _ F => ok_is_length F ⟨_, h_MOST_LEVELS⟩ h_is_integer
  have h_are_levels : Has l.prog w K mg base 3 "are_levels" ["given"] [] (spAreLevels K) := D_are_levels.has fun _ _ F => ok_are_levels F T h_is_length h_is_word
  have h_check_levels : Has l.prog w K mg base 4 "check_levels" ["levels"] [] (spCheckLevels K) := D_check_levels.has fun _ _ F => ok_check_levels F h_are_levels
  have h_goes_in_front : Has l.prog w K mg base 3 "goes_in_front" ["base", "levels", "now", "due", "lowest"] [] (spFront K) := D_goes_in_front.has fun _ _ F => ok_goes_in_front F h_path h_word_at
  have h_without_repeats : Has l.prog w K mg base 1 "without_repeats" ["levels"] [] (spRepeats K) := D_without_repeats.has fun _ _ F => ok_repeats F T
  have h_is_period : Has l.prog w K mg base 2 "is_period" ["given"] [] spIsPeriod := D_is_period.has fun _ _ F => ok_is_period F h_is_integer
  have h_check_period : Has l.prog w K mg base 3 "check_period" ["period"] [] spCheckPeriod := D_check_period.has fun _ _ F => ok_check_period F h_is_period
  have h_with_timer : Has l.prog w K mg base 1 "with_timer" ["numbers", "number", "front"] [] spWithTimer := D_with_timer.has fun _ _ F => ok_with_timer F 
  have h_firing_order : Has l.prog w K mg base 4 "firing_order" ["base", "levels", "due", "settings"] [] (spFiringOrder K) := D_firing_order.has fun _ _ F => ok_firing_order F h_with_timer h_goes_in_front
  have h_order_of_firing : Has l.prog w K mg base 5 "order_of_firing" ["base", "levels", "live", "tick"] [] (spOrder K) := D_order_of_firing.has fun _ _ F => ok_order F h_firing_order
  have h_least_due : Has l.prog w K mg base 1 "least_due" ["live"] [] spLeast := D_least_due.has fun _ _ F => ok_least_due F T
  have h_after_firing : Has l.prog w K mg base 1 "after_firing" ["live", "numbers", "tick"] [] spAfter := D_after_firing.has fun _ _ F => ok_after F T
  have h_standing : Has l.prog w K mg base 4 "standing" ["base", "levels", "live", "tick"] [] (spStanding K) := D_standing.has fun _ _ F => ok_standing F T h_level_and_size h_with_timer h_goes_in_front
  have M_init : ∃ (fi : Addr) (fdi : FuncData), Mk K C_ fi ∧ FnOk l.prog w K mg base CX0 5 fi fdi ["self", "base", "levels", "start"] (spInit C_ K) ∧ KBn K fdi ["self", "base", "levels", "start"] 3 [Str.ofString "start"] (fun us ws => us ++ ws) (fun vs zs => vs ++ zs) := by
    obtain ⟨mv, hb⟩ := FunD.kbinds0 (ps := ["self", "base", "levels", "start"]) F_m_init 3 [Str.ofString "start"] [] (fun us _ ws => us ++ ws) (by simp) (fun q hq => by cases hq) (fun h1 _ h3 => h1.append h3) fun _ _ _ _ _ _ us mv ws h1 h2 h3 => match us, mv, ws, h1, h2, h3 with | [_, _, _], [], [_], _, _, _ => rfl
    exact ⟨_, _, ⟨mkC, a_m_init, i_m_init, kc⟩, ok_init F_m_init TW h_check_base h2_check_tick.1 h_check_levels h_without_repeats, hb⟩
  have M_check_timer : HasM l.prog w K mg base 2 C_ "check_timer" ["self", "timer"] [] (spCheckTimer C_) := ⟨_, _, [], ok_check_timer F_m_check_timer TW h_is_integer, ⟨a_m_check_timer, i_m_check_timer, k_m_check_timer⟩, B_m_check_timer, .nil⟩
  have M_now : HasM l.prog w K mg base 1 C_ "now" ["self"] [] (spNow C_) := ⟨_, _, [], ok_now F_m_now TW, ⟨a_m_now, i_m_now, k_m_now⟩, B_m_now, .nil⟩
  obtain ⟨mv_put, hb_put⟩ := FunD.kbinds0 (ps := ["self", "due", "period"]) F_m_put 2 [Str.ofString "period"] [] (fun us _ ws => us ++ ws) (by simp) (fun q hq => by cases hq) (fun h1 _ h3 => h1.append h3) fun _ _ _ _ _ _ us mv ws h1 h2 h3 => match us, mv, ws, h1, h2, h3 with | [_, _], [], [_], _, _, _ => rfl
  have MK_put : HasPut l.prog w K mg base 4 C_ := ⟨_, _, ds_m_put, ok_put F_m_put TW h2_check_tick.2 h_check_period, ⟨a_m_put, i_m_put, k_m_put⟩, B_m_put, V_m_put, hb_put⟩
  have M_cancel : HasM l.prog w K mg base 3 C_ "cancel" ["self", "timer"] [] (spCancel C_) := ⟨_, _, [], ok_cancel F_m_cancel TW M_check_timer, ⟨a_m_cancel, i_m_cancel, k_m_cancel⟩, B_m_cancel, .nil⟩
  have M_reset : HasM l.prog w K mg base 4 C_ "reset" ["self", "timer", "due"] [] (spReset C_) := ⟨_, _, [], ok_reset F_m_reset TW M_check_timer h2_check_tick.2, ⟨a_m_reset, i_m_reset, k_m_reset⟩, B_m_reset, .nil⟩
  have M_timers : HasM l.prog w K mg base 1 C_ "timers" ["self"] [] (spTimers C_) := ⟨_, _, [], ok_timers F_m_timers T TW, ⟨a_m_timers, i_m_timers, k_m_timers⟩, B_m_timers, .nil⟩
  have M_advance : HasM l.prog w K mg base 6 C_ "advance" ["self", "tick"] [] (spAdvance C_) := ⟨_, _, [], ok_advance F_m_advance T TW ⟨_, h_MOST_FIRINGS⟩ h2_check_tick.2 h_least_due h_order_of_firing h_after_firing, ⟨a_m_advance, i_m_advance, k_m_advance⟩, B_m_advance, .nil⟩
  have M_due : HasM l.prog w K mg base 3 C_ "due" ["self", "timer"] [] (spDue C_) := ⟨_, _, [], ok_due F_m_due TW M_check_timer, ⟨a_m_due, i_m_due, k_m_due⟩, B_m_due, .nil⟩
  have M_lists : HasM l.prog w K mg base 5 C_ "lists" ["self"] [] (spLists C_) := ⟨_, _, [], ok_lists F_m_lists TW h_standing, ⟨a_m_lists, i_m_lists, k_m_lists⟩, B_m_lists, .nil⟩
  have M_restoring : HasM l.prog w K mg base 6 C_ "restoring" ["self"] [] (spRestoring C_) := ⟨_, _, [], ok_restoring F_m_restoring TW M_lists h_word_at, ⟨a_m_restoring, i_m_restoring, k_m_restoring⟩, B_m_restoring, .nil⟩
  have M_snapshot : HasM l.prog w K mg base 7 C_ "snapshot" ["self"] [] (spSnapshot C_) := ⟨_, _, [], ok_snapshot F_m_snapshot T TW M_restoring, ⟨a_m_snapshot, i_m_snapshot, k_m_snapshot⟩, B_m_snapshot, .nil⟩
  have HQ : HasEqW l.prog w K mg base 8 C_ (spEqAny C_ K) := ⟨_, _, ok_eqany F_m_eq T TW ⟨cc_W, sp_get, tk_cls, mo_W, kit_self⟩ (cls_made mkC) ty_W M_snapshot, a_m_eq, i_m_eq, B_m_eq, ne_W, mo_W⟩
  have h_is_row : Has l.prog w K mg base 3 "is_row" ["given", "now", "following"] [] spIsRow := D_is_row.has fun _ _ F => ok_is_row F T h_is_integer h2_is_tick.2 h_is_period
  have h_is_snapshot : Has l.prog w K mg base 4 "is_snapshot" ["given"] [] (spIsSnap K) := D_is_snapshot.has fun _ _ F => ok_is_snapshot F T h_is_integer h2_is_tick.1 h_is_base h_are_levels h_is_row
  have h_restored : Has l.prog w K mg base 7 "restored" ["snapshot"] [] (spRestored C_ K) := D_restored.has fun _ _ F => ok_restored F TW M_init h_is_snapshot
  have h_law_cell_at : Has l.prog w K mg base 1 "_law_cell_at" ["_law_script", "_law_k"] [] (spCellAt K) := D_law_cell_at.has fun _ _ F => ok_cell_at F T
  have h_law_mixed : Has l.prog w K mg base 1 "_law_mixed" ["_law_cell", "_law_k"] [] spMixed := D_law_mixed.has fun _ _ F => ok_mixed F 
  have h_law_source : Has l.prog w K mg base 2 "_law_source" ["_law_script", "_law_k"] [] (spSource K) := D_law_source.has fun _ _ F => ok_source F T h_law_cell_at h_law_mixed
  have h_law_next : Has l.prog w K mg base 2 "_law_next" ["_law_source_here", "_law_many"] [] spNext := D_law_next.has fun _ _ F => ok_next F h_law_mixed
  have h_law_base : Has l.prog w K mg base 3 "_law_base" ["_law_source_here"] [] spBase9 := D_law_base.has fun _ _ F => ok_base9 F h_law_next
  have h_law_tick : Has l.prog w K mg base 3 "_law_tick" ["_law_source_here", "_law_base_here"] [] spTick := D_law_tick.has fun _ _ F => ok_tick F T h_law_next
  have h_law_levels : Has l.prog w K mg base 3 "_law_levels" ["_law_source_here"] [] spLevels := D_law_levels.has fun _ _ F => ok_levels F T h_law_next
  have h_law_call : Has l.prog w K mg base 3 "_law_call" ["_law_source_here", "_law_wheel", "_law_span"] [] (spCall63 C_) := D_law_call.has fun _ _ F => ok_call63 F T TW h_law_next M_timers M_now
  have h_law_made : Has l.prog w K mg base 7 "_law_made" ["_law_wheel", "_law_call_here"] [] (spMade63 C_) := D_law_made.has fun _ _ F => ok_made63 F TW MK_put M_cancel M_reset M_advance
  have h_law_others : Has l.prog w K mg base 3 "_law_others" ["_law_source_here", "_law_told"] [] (spOthers K) := D_law_others.has fun _ _ F => ok_others F T h_law_next
  exact ok_law (fun_mk (st := s_law) l_law c_law k_law) T TW M_init h_law_source h_law_base h_law_levels h_law_tick h_law_next h_restored h_law_call h_law_made h_law_others M_snapshot M_lists M_due M_reset HQ
end Td
open PySem PySem.W PyProof.Rows in
set_option maxRecDepth 100000 in
set_option maxHeartbeats 0 in
theorem PySem.Challenge.cw_timerdeque_k09_equal_wheels_holds : PySem.Challenge.rw_timerdeque_k09_equal_wheels.Holds := by
  w_on; o_law; k_head; (case hw => w_witness2)
  k_fill
  refine L2.walk_of (l := PySem.Challenge.rw_timerdeque_k09_equal_wheels) (n := 63) (k := 10) (x := "_law_script") (CX := fun _ => L2.CX0) (sp := fun w => Td.spLaw _) rfl (by decide) rfl ⟨rfl, by decide, by decide⟩ (fun w h Y => PySem.W.kIn_of Y) ?F (fun _ _ a ns hl _ hS => ⟨a, ns, rfl, hS, hl, fun _ => rfl⟩) (fun _ _ _ _ _ h => h)
  case F =>
    intro w mg fa h KX G hmg
    refine' Td.all_mk KX G hmg ?a_wall ?l_wall ?c_wall ?k_wall ?a_is_integer ?l_is_integer ?c_is_integer ?k_is_integer ?a_is_word ?l_is_word ?c_is_word ?k_is_word ?a_is_base ?l_is_base ?c_is_base ?k_is_base ?a_is_length ?l_is_length ?c_is_length ?k_is_length ?a_are_levels ?l_are_levels ?c_are_levels ?k_are_levels ?a_is_tick ?l_is_tick ?t_is_tick ?c_is_tick ?k_is_tick ?a_is_period ?l_is_period ?c_is_period ?k_is_period ?a_check_base ?l_check_base ?c_check_base ?k_check_base ?a_check_levels ?l_check_levels ?c_check_levels ?k_check_levels ?a_check_tick ?l_check_tick ?t_check_tick ?c_check_tick ?k_check_tick ?a_word_at ?l_word_at ?c_word_at ?k_word_at ?a_level_and_size ?l_level_and_size ?c_level_and_size ?k_level_and_size ?a_path ?l_path ?c_path ?k_path ?a_goes_in_front ?l_goes_in_front ?c_goes_in_front ?k_goes_in_front ?a_with_timer ?l_with_timer ?c_with_timer ?k_with_timer ?a_firing_order ?l_firing_order ?c_firing_order ?k_firing_order ?a_without_repeats ?l_without_repeats ?c_without_repeats ?k_without_repeats ?a_check_period ?l_check_period ?c_check_period ?k_check_period ?a_order_of_firing ?l_order_of_firing ?c_order_of_firing ?k_order_of_firing ?a_standing ?l_standing ?c_standing ?k_standing ?a_least_due ?l_least_due ?c_least_due ?k_least_due ?a_after_firing ?l_after_firing ?c_after_firing ?k_after_firing ?a_is_row ?l_is_row ?c_is_row ?k_is_row ?a_is_snapshot ?l_is_snapshot ?c_is_snapshot ?k_is_snapshot ?a_restored ?l_restored ?c_restored ?k_restored ?a_law_cell_at ?l_law_cell_at ?c_law_cell_at ?k_law_cell_at ?a_law_mixed ?l_law_mixed ?c_law_mixed ?k_law_mixed ?a_law_source ?l_law_source ?c_law_source ?k_law_source ?a_law_next ?l_law_next ?c_law_next ?k_law_next ?a_law_base ?l_law_base ?c_law_base ?k_law_base ?a_law_levels ?l_law_levels ?c_law_levels ?k_law_levels ?a_law_tick ?l_law_tick ?c_law_tick ?k_law_tick ?a_law_call ?l_law_call ?c_law_call ?k_law_call ?a_law_made ?l_law_made ?c_law_made ?k_law_made ?a_law_others ?l_law_others ?c_law_others ?k_law_others ?a_law ?l_law ?c_law ?k_law ?a_Wheel ?a_m_init ?i_m_init ?l_m_init ?c_m_init ?k_m_init ?d_m_init ?a_m_check_timer ?i_m_check_timer ?l_m_check_timer ?c_m_check_timer ?k_m_check_timer ?a_m_now ?i_m_now ?l_m_now ?c_m_now ?k_m_now ?a_m_put ?i_m_put ?l_m_put ?c_m_put ?k_m_put ?d_m_put ?a_m_cancel ?i_m_cancel ?l_m_cancel ?c_m_cancel ?k_m_cancel ?a_m_reset ?i_m_reset ?l_m_reset ?c_m_reset ?k_m_reset ?a_m_due ?i_m_due ?l_m_due ?c_m_due ?k_m_due ?a_m_timers ?i_m_timers ?l_m_timers ?c_m_timers ?k_m_timers ?a_m_advance ?i_m_advance ?l_m_advance ?c_m_advance ?k_m_advance ?a_m_lists ?i_m_lists ?l_m_lists ?c_m_lists ?k_m_lists ?a_m_restoring ?i_m_restoring ?l_m_restoring ?c_m_restoring ?k_m_restoring ?a_m_snapshot ?i_m_snapshot ?l_m_snapshot ?c_m_snapshot ?k_m_snapshot ?a_m_eq ?i_m_eq ?l_m_eq ?c_m_eq ?k_m_eq ?pg ?hd ?po ?sa ?mkC ?kc ?n_base ?n_words ?n_tick ?n_following ?n_live ?ne_W ?mo_W ?cc_W ?sp_get ?tk_cls ?ty_W ?z_isinstance ?z_int ?z_bool ?z_str ?z_all ?z_list ?z_len ?z_min ?z_sorted ?z_dict ?z_tuple ?z_set ?z_range ?z_max ?a_WORDS ?l_WORDS ?a_MOST_LEVELS ?a_MOST_FIRINGS
    (case a_wall => k_is)
    (case l_wall => k_is)
    (case c_wall => k_is)
    (case k_wall => k_is)
    (case a_is_integer => k_is)
    (case l_is_integer => k_is)
    (case c_is_integer => k_is)
    (case k_is_integer => k_is)
    (case a_is_word => k_is)
    (case l_is_word => k_is)
    (case c_is_word => k_is)
    (case k_is_word => k_is)
    (case a_is_base => k_is)
    (case l_is_base => k_is)
    (case c_is_base => k_is)
    (case k_is_base => k_is)
    (case a_is_length => k_is)
    (case l_is_length => k_is)
    (case c_is_length => k_is)
    (case k_is_length => k_is)
    (case a_are_levels => k_is)
    (case l_are_levels => k_is)
    (case c_are_levels => k_is)
    (case k_are_levels => k_is)
    (case a_is_tick => k_is)
    (case l_is_tick => k_is)
    (case t_is_tick => k_is)
    (case c_is_tick => k_is)
    (case k_is_tick => k_is)
    (case a_is_period => k_is)
    (case l_is_period => k_is)
    (case c_is_period => k_is)
    (case k_is_period => k_is)
    (case a_check_base => k_is)
    (case l_check_base => k_is)
    (case c_check_base => k_is)
    (case k_check_base => k_is)
    (case a_check_levels => k_is)
    (case l_check_levels => k_is)
    (case c_check_levels => k_is)
    (case k_check_levels => k_is)
    (case a_check_tick => k_is)
    (case l_check_tick => k_is)
    (case t_check_tick => k_is)
    (case c_check_tick => k_is)
    (case k_check_tick => k_is)
    (case a_word_at => k_is)
    (case l_word_at => k_is)
    (case c_word_at => k_is)
    (case k_word_at => k_is)
    (case a_level_and_size => k_is)
    (case l_level_and_size => k_is)
    (case c_level_and_size => k_is)
    (case k_level_and_size => k_is)
    (case a_path => k_is)
    (case l_path => k_is)
    (case c_path => k_is)
    (case k_path => k_is)
    (case a_goes_in_front => k_is)
    (case l_goes_in_front => k_is)
    (case c_goes_in_front => k_is)
    (case k_goes_in_front => k_is)
    (case a_with_timer => k_is)
    (case l_with_timer => k_is)
    (case c_with_timer => k_is)
    (case k_with_timer => k_is)
    (case a_firing_order => k_is)
    (case l_firing_order => k_is)
    (case c_firing_order => k_is)
    (case k_firing_order => k_is)
    (case a_without_repeats => k_is)
    (case l_without_repeats => k_is)
    (case c_without_repeats => k_is)
    (case k_without_repeats => k_is)
    (case a_check_period => k_is)
    (case l_check_period => k_is)
    (case c_check_period => k_is)
    (case k_check_period => k_is)
    (case a_order_of_firing => k_is)
    (case l_order_of_firing => k_is)
    (case c_order_of_firing => k_is)
    (case k_order_of_firing => k_is)
    (case a_standing => k_is)
    (case l_standing => k_is)
    (case c_standing => k_is)
    (case k_standing => k_is)
    (case a_least_due => k_is)
    (case l_least_due => k_is)
    (case c_least_due => k_is)
    (case k_least_due => k_is)
    (case a_after_firing => k_is)
    (case l_after_firing => k_is)
    (case c_after_firing => k_is)
    (case k_after_firing => k_is)
    (case a_is_row => k_is)
    (case l_is_row => k_is)
    (case c_is_row => k_is)
    (case k_is_row => k_is)
    (case a_is_snapshot => k_is)
    (case l_is_snapshot => k_is)
    (case c_is_snapshot => k_is)
    (case k_is_snapshot => k_is)
    (case a_restored => k_is)
    (case l_restored => k_is)
    (case c_restored => k_is)
    (case k_restored => k_is)
    (case a_law_cell_at => k_is)
    (case l_law_cell_at => k_is)
    (case c_law_cell_at => k_is)
    (case k_law_cell_at => k_is)
    (case a_law_mixed => k_is)
    (case l_law_mixed => k_is)
    (case c_law_mixed => k_is)
    (case k_law_mixed => k_is)
    (case a_law_source => k_is)
    (case l_law_source => k_is)
    (case c_law_source => k_is)
    (case k_law_source => k_is)
    (case a_law_next => k_is)
    (case l_law_next => k_is)
    (case c_law_next => k_is)
    (case k_law_next => k_is)
    (case a_law_base => k_is)
    (case l_law_base => k_is)
    (case c_law_base => k_is)
    (case k_law_base => k_is)
    (case a_law_levels => k_is)
    (case l_law_levels => k_is)
    (case c_law_levels => k_is)
    (case k_law_levels => k_is)
    (case a_law_tick => k_is)
    (case l_law_tick => k_is)
    (case c_law_tick => k_is)
    (case k_law_tick => k_is)
    (case a_law_call => k_is)
    (case l_law_call => k_is)
    (case c_law_call => k_is)
    (case k_law_call => k_is)
    (case a_law_made => k_is)
    (case l_law_made => k_is)
    (case c_law_made => k_is)
    (case k_law_made => k_is)
    (case a_law_others => k_is)
    (case l_law_others => k_is)
    (case c_law_others => k_is)
    (case k_law_others => k_is)
    (case a_law => k_is)
    (case l_law => k_is)
    (case c_law => k_is)
    (case k_law => k_is)
    (case a_Wheel => k_is)
    (case a_m_init => k_is)
    (case i_m_init => k_is)
    (case l_m_init => k_is)
    (case c_m_init => k_is)
    (case k_m_init => k_is)
    (case d_m_init => k_is)
    (case a_m_check_timer => k_is)
    (case i_m_check_timer => k_is)
    (case l_m_check_timer => k_is)
    (case c_m_check_timer => k_is)
    (case k_m_check_timer => k_is)
    (case a_m_now => k_is)
    (case i_m_now => k_is)
    (case l_m_now => k_is)
    (case c_m_now => k_is)
    (case k_m_now => k_is)
    (case a_m_put => k_is)
    (case i_m_put => k_is)
    (case l_m_put => k_is)
    (case c_m_put => k_is)
    (case k_m_put => k_is)
    (case d_m_put => k_is)
    (case a_m_cancel => k_is)
    (case i_m_cancel => k_is)
    (case l_m_cancel => k_is)
    (case c_m_cancel => k_is)
    (case k_m_cancel => k_is)
    (case a_m_reset => k_is)
    (case i_m_reset => k_is)
    (case l_m_reset => k_is)
    (case c_m_reset => k_is)
    (case k_m_reset => k_is)
    (case a_m_due => k_is)
    (case i_m_due => k_is)
    (case l_m_due => k_is)
    (case c_m_due => k_is)
    (case k_m_due => k_is)
    (case a_m_timers => k_is)
    (case i_m_timers => k_is)
    (case l_m_timers => k_is)
    (case c_m_timers => k_is)
    (case k_m_timers => k_is)
    (case a_m_advance => k_is)
    (case i_m_advance => k_is)
    (case l_m_advance => k_is)
    (case c_m_advance => k_is)
    (case k_m_advance => k_is)
    (case a_m_lists => k_is)
    (case i_m_lists => k_is)
    (case l_m_lists => k_is)
    (case c_m_lists => k_is)
    (case k_m_lists => k_is)
    (case a_m_restoring => k_is)
    (case i_m_restoring => k_is)
    (case l_m_restoring => k_is)
    (case c_m_restoring => k_is)
    (case k_m_restoring => k_is)
    (case a_m_snapshot => k_is)
    (case i_m_snapshot => k_is)
    (case l_m_snapshot => k_is)
    (case c_m_snapshot => k_is)
    (case k_m_snapshot => k_is)
    (case a_m_eq => k_is)
    (case i_m_eq => k_is)
    (case l_m_eq => k_is)
    (case c_m_eq => k_is)
    (case k_m_eq => k_is)
    (case pg => k_is)
    (case hd => k_is)
    (case po => k_is)
    (case sa => k_is)
    (case mkC => k_is)
    (case kc => k_is)
    (case n_base => k_is)
    (case n_words => k_is)
    (case n_tick => k_is)
    (case n_following => k_is)
    (case n_live => k_is)
    (case ne_W => k_is)
    (case mo_W => k_is)
    (case cc_W => k_is)
    (case sp_get => k_is)
    (case tk_cls => k_is)
    (case ty_W => k_is)
    (case z_isinstance => k_is)
    (case z_int => k_is)
    (case z_bool => k_is)
    (case z_str => k_is)
    (case z_all => k_is)
    (case z_list => k_is)
    (case z_len => k_is)
    (case z_min => k_is)
    (case z_sorted => k_is)
    (case z_dict => k_is)
    (case z_tuple => k_is)
    (case z_set => k_is)
    (case z_range => k_is)
    (case z_max => k_is)
    (case a_WORDS => k_is)
    (case l_WORDS => k_is)
    (case a_MOST_LEVELS => k_is)
    (case a_MOST_FIRINGS => k_is)
