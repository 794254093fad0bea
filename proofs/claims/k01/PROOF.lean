import PyProof.Rows.All
import Wide.All
import OpenK.AllK
import Wide.FinOn
import HandS.ForExc
import HandS.Wide
import HandS.IsInst
import HandS.TryMany
import HandS.Gcd
import HandS.Style
import HandS.Flow
import HandS.Defaults
import HandS.ExcInit
import HandS.ExcField
import HandS.HeadHook2
import PyProof.ReprLen
import PyProof.ReprRoads
import HandS.Dict
import HandS.Head0
import HandS.Head1
import HandS.Head2
import HandS.Head3
import HandS.HeadEnd
import PySem.Challenge.RW_gradetalk_k01_degrees
set_option Elab.async false
set_option linter.all false
set_option maxRecDepth 100000
set_option maxHeartbeats 4000000
namespace G1
open PySem PySem.Spec PyProof.Rows L2
/-! ### the text by places -/
def top (i : Nat) : Stmt := PySem.Challenge.pw_gradetalk_k01_degrees.main.body.getD i (.Pass ⟨0, 0, 0, 0⟩)
abbrev sInit : Stmt := inClass (top 3) 0
abbrev sWhole : Stmt := top 5
abbrev sIsDeg : Stmt := top 6
abbrev sCheck : Stmt := top 7
abbrev sDegree : Stmt := top 8
abbrev sAtMost : Stmt := top 9
abbrev sMixed : Stmt := top 11
abbrev sPurse : Stmt := top 12
abbrev sDraw : Stmt := top 13
abbrev sGreat : Stmt := top 14
abbrev sCommon : Stmt := top 15
abbrev sLowest : Stmt := top 16
abbrev sDeg : Stmt := top 17
abbrev sLess : Stmt := top 19
abbrev sCaught : Stmt := top 20
abbrev sRight : Stmt := top 21
abbrev sLaw : Stmt := top 22
abbrev FnP (K : PySem.W.Frag) (x : Str) (st : Stmt) (f : Addr) (fd : FuncData) : Prop := FunD K x x (defArgs st) (defBody st) (defScope st) [] [] f fd
/-! ### further rules -/
def CPowW (i j : Int) : Prop := 0 ≤ j ∧ (Builtin.Int.intBits i : Int) * j ≤ 2 ^ 27
theorem op_powW {X : Cx} : OpR X (binaryOp .Pow) (rI CPowW fun i j => .int (i ^ j.toNat)) := opI fun _ _ _ _ _ _ _ hc q => pow_int hc.1 hc.2 q
/-- f and its arguments by name alone -/
def tCallN0 (sp : Sp) (g : List V → List V) (E : XK) (tk : TA) : TE := fun σ H Q => tk σ H fun zs H1 => sp (g zs) H1 Q E
section
variable {X : Cx} {CX : CXT} {k : Nat} {f : Addr} {fd : FuncData} {ps ks : List Str} {sp : Sp} {E : XK} {x : Str} {p pos : Pos} {kws : List Keyword} {tk : TA} {g : List Value → List Value → List Value} {gV : List V → List V → List V}
theorem pe_callN0 (F : FnOk X.prog X.w X.K X.mg X.base CX k f fd ps sp) (hr : Room k X.A) (hg : Gl X x) (hm : X.mg x = some (.ref f)) (hk : PySem.W.keepIn X.K (.ref f) = true) (hb : KBinds X.K fd ps ks g gV) (hx : Passes CX X E)
    (hkw : PK X kws tk) (hall : (backToKw pos (keywordEach kws X.env)).all (·.1.isSome) = true := by rfl) (hks : (backToKw pos (keywordEach kws X.env)).filterMap (·.1) = ks := by rfl)
    (hdb : (x == ("__debug__" : Str)) = false := by decide)
    (hpl : ((backTo pos (starEach [] X.env)).any (·.1) || (backToKw pos (keywordEach kws X.env)).any (·.1.isNone)) = false := by rfl) :
    PE X (.Call (.Name x p) [] kws pos) (tCallN0 sp (gV []) E tk) := by
  constructor
  intro pins s σ H Q I h
  apply wpAny_Call_Name_kw
  apply ld_glob I hg hm _ hdb
  apply PySem.W.callWith_KW0 (h₀ := X.base) I.ok.mod.kin hk hall _ hpl
  refine thn (hkw.run pos pins s σ H _ I h) ?_
  rintro ws s2 ⟨zs, H2, I2, rz, q2⟩
  refine ⟨I2.kIn, ?_⟩
  rw [hks]
  exact run_fnk (us := []) F hr hb hx I2 .nil rz q2
end
theorem call_str_bl {X : Cx} : CallR X (.type "str") (fun xs H Q => ∃ b : Bool, xs = [.bl b] ∧ Q (.str (if b then "True" else "False")) H) := by
  intro pins s σ H xs us Q I r h
  obtain ⟨b, rfl, q⟩ := h
  cases r with
  | cons r1 r2 =>
    cases r2
    cases r1
    exact PySem.P.str_of_bool ⟨.str (if b then "True" else "False"), H, I.tok _, ⟨_, rfl⟩, q⟩
/-! ### the purse -/
structure PurseAt (H : Hp) (p : Addr) (c : Int) : Prop where
  ex : ∃ a b : Int, H p = some (.lst [.int a, .int b, .int c]) ∧ 0 ≤ a ∧ a.natAbs < 2 ^ 1600 ∧ 0 ≤ b ∧ b < 2147483647
  c0 : 0 ≤ c
/-- all but p stands -/
def But (p : Addr) (H H' : Hp) : Prop := ∀ x o, x ≠ p → H x = some o → H' x = some o
theorem But.free {p : Addr} {H H' : Hp} {o : HO} (b : But p H H') (hp : H' p = some o) {x : Addr} (h : H' x = none) : H x = none := by
  cases q : H x with
  | none => rfl
  | some u =>
    have ne : x ≠ p := by
      intro e
      rw [e, hp] at h
      cases h
    rw [b x u ne q] at h
    cases h
theorem But.trans {p : Addr} {H H1 H2 : Hp} (a : But p H H1) (b : But p H1 H2) : But p H H2 := fun x o n h => b x o n (a x o n h)
theorem But.refl {p : Addr} {H : Hp} : But p H H := fun _ _ _ h => h
theorem PurseAt.free {p : Addr} {H H' : Hp} {c : Int} (P : PurseAt H' p c) (b : But p H H') {x : Addr} (h : H' x = none) : H x = none := by
  obtain ⟨a, d, e, _⟩ := P.ex
  exact b.free e h
/-! ### promises -/
def spMixed : Sp := fun vs H Q _ => ∃ c k : Int, vs = [.int c, .int k] ∧ 0 ≤ c ∧ c < 2147483647 ∧ 0 ≤ k ∧ k < 2 ^ 50 ∧ ∀ r, 0 ≤ r → Q (.int r) H
def spPurse (K : PySem.W.Frag) : Sp := fun vs H Q _ => ∃ (a : Addr) (ns : List Int) (i : Int), vs = [.ref a, .int i] ∧ SqL K H a (ns.map V.int) ∧ 0 ≤ i ∧ i ≤ 8 ∧
  ∀ (p : Addr) (H' : Hp), H p = none → Same H H' → PurseAt H' p (1000 * i) → Q (.ref p) H'
def spDraw : Sp := fun vs H Q _ => ∃ (p : Addr) (n c : Int), vs = [.ref p, .int n] ∧ PurseAt H p c ∧ c < 2 ^ 40 ∧ 0 < n ∧ n < 2 ^ 60 ∧
  ∀ (d c' : Int) (H' : Hp), 0 ≤ d → d < n → c' ≤ c + 1 → PurseAt H' p c' → But p H H' → Q (.int d) H'
/-- what the top has bound -/
structure Blt (mg : Str → Option Value) : Prop where
  int : mg "int" = none
  max : mg "max" = none
  min : mg "min" = none
  len : mg "len" = none
  range : mg "range" = none
  abs : mg "abs" = none
  str : mg "str" = none
  list : mg "list" = none
  isin : mg "isinstance" = none
  bool : mg "bool" = none
  tuple : mg "tuple" = none
  gcd : mg "gcd" = some (.builtin "math.gcd")
/-- a def of the top, called by its name -/
def DefAt (K : PySem.W.Frag) (mg : Str → Option Value) (x : Str) (st : Stmt) : Prop := ∃ (f : Addr) (fd : FuncData), FnP K x st f fd ∧ mg x = some (.ref f)
section
variable {P : Program} {w : World} {K : PySem.W.Frag} {mg : Str → Option Value} {base : Heap} {f : Addr} {fd : FuncData} {x : Str} {st : Stmt} {ps : List Str} {sp : Sp} {k : Nat}
/-- .. and its promise; CX: what it may let out -/
structure Cl (CX : CXT) (P : Program) (w : World) (K : PySem.W.Frag) (mg : Str → Option Value) (base : Heap) (k : Nat) (x : Str) (ps : List Str) (sp : Sp) : Prop where
  ex : ∃ (f : Addr) (fd : FuncData), FnOk P w K mg base CX k f fd ps sp ∧ mg x = some (.ref f) ∧ PySem.W.keepIn K (.ref f) = true ∧ Binds K fd ps [] ∧ ∃ (oc : Value) (od : Option Addr) (osl : Array (Option Value)), K.lookup f = some ⟨oc, od, .func fd, osl⟩
theorem cl_of {CX : CXT} (F : FnP K x st f fd) (hm : mg x = some (.ref f)) (G : FnOk P w K mg base CX k f fd ps sp)
    (b : ∀ (kV doc pm : Value) (an : Option Addr) (cdv ct : Value) (us : List Value), us.length = ps.length → bindArgs (PySem.W.fnOf x x (defArgs st) (defBody st) (defScope st) .none kV doc pm an cdv ct) ⟨us, []⟩ = pure (ps.zip us)) : Cl CX P w K mg base k x ps sp := by
  obtain ⟨oc, od, dV, kV, doc, pm, an, cdv, ct, osl, e, lk, _⟩ := id F.ex
  exact ⟨f, fd, G, hm, F.kp, F.bindsN b, oc, od, osl, lk⟩
end
section
variable {X : Cx} {k j : Nat} {x : Str} {ps : List Str} {sp : Sp} {p pos : Pos} {e : Expr} {es : List Expr} {t : TA}
theorem pe_c0 (c : Cl CX0 X.prog X.w X.K X.mg X.base k x ps sp) (hr : Room j X.A) (hk : k ≤ j) (hg : Gl X x) (ha : PA X (e :: es) t)
    (hdb : (x == ("__debug__" : Str)) = false := by decide) (he : starEach (e :: es) X.env = (false, eval e X.env) :: starEach es X.env := by rfl) (hpl : (backTo pos (starEach es X.env)).any (·.1) = false := by rfl) :
    PE X (.Call (.Name x p) (e :: es) [] pos) (tCall sp [] E0 t) := by
  obtain ⟨f, fd, F, hm, kp, b, _⟩ := c.ex
  exact pe_call F (hr.mono hk) hg hm kp b .nil pass0 ha hdb he hpl
/-- a def that may raise, where it does not -/
theorem pe_cX (c : Cl (L2.CX X.prog X.w) X.prog X.w X.K X.mg X.base k x ps sp) (hr : Room j X.A) (hk : k ≤ j) (hg : Gl X x) (ha : PA X (e :: es) t)
    (hdb : (x == ("__debug__" : Str)) = false := by decide) (he : starEach (e :: es) X.env = (false, eval e X.env) :: starEach es X.env := by rfl) (hpl : (backTo pos (starEach es X.env)).any (·.1) = false := by rfl) :
    PE X (.Call (.Name x p) (e :: es) [] pos) (tCall sp [] E0 t) := by
  obtain ⟨f, fd, F, hm, kp, b, _⟩ := c.ex
  exact pe_call F (hr.mono hk) hg hm kp b .nil passL ha hdb he hpl
/-- .. where what it raises is wished for -/
theorem pe_cS {W : WX} (c : Cl (L2.CX X.prog X.w) X.prog X.w X.K X.mg X.base k x ps sp) (hr : Room j X.A) (hk : k ≤ j) (tk : Takes X W) (hg : Gl X x) (ha : PA X (e :: es) t)
    (hdb : (x == ("__debug__" : Str)) = false := by decide) (he : starEach (e :: es) X.env = (false, eval e X.env) :: starEach es X.env := by rfl) (hpl : (backTo pos (starEach es X.env)).any (·.1) = false := by rfl) :
    PE X (.Call (.Name x p) (e :: es) [] pos) (tCallS sp (WE W) t) := by
  obtain ⟨f, fd, F, hm, kp, b, _⟩ := c.ex
  exact pe_callS F (hr.mono hk) hg hm kp b (fun σ => passAt tk σ) ha hdb he hpl
end
section
variable {P : Program} {w : World} {K : PySem.W.Frag} {mg : Str → Option Value} {base : Heap}
theorem scMixed : FnScope ["cell", "k", "stirred"] ["cell", "k"] (defScope sMixed) := ⟨rfl, rfl, rfl, by decide +kernel, rfl, by decide +kernel, by decide +kernel⟩
theorem cl_mixed (D : DefAt K mg "_law_mixed" sMixed) (T : Blt mg) : Cl CX0 P w K mg base 1 "_law_mixed" ["cell", "k"] spMixed := by
  obtain ⟨f, fd, F, hm⟩ := D
  refine cl_of F hm (F.ok scMixed (fun vs H Q E h => ?_) (fun cdv A outer s H vs Q E hr h => ⟨_, PSs.nox (pss_cons (ps_set (i := 2) scMixed.nd rfl (Or.inl rfl)
      (pe_op op_mod (pe_callTy call_int1 (by rfl) T.int (by decide +kernel) (pa_cons (pe_op op_add (pe_op op_add (pe_op op_add (pe_op op_mul (pv 0) pe_int) (pe_op op_mul (pe_op op_mul pe_int (pv 1)) (pv 1))) (pe_op op_mul pe_int (pv 1))) pe_int) pa_nil)) pe_int))
    (pss_one (ps_ret (pe_op op_fdiv (pe_op op_mod (pe_callTy call_int1 (by rfl) T.int (by decide +kernel) (pa_cons (pe_op op_add (pe_op op_add (pe_op op_mul (pv 2) (pv 2)) (pe_op op_mul pe_int (pv 2))) pe_int) pa_nil)) pe_int) pe_int)))), ?_⟩)) fun _ _ _ _ _ _ us hl => match us, hl with | [_, _], _ => rfl
  · obtain ⟨c, k, rfl, _⟩ := h
    rfl
  · obtain ⟨c, k, rfl, c0, c1, k0, k1, q⟩ := h
    refine ⟨_, rfl, _, _, rfl, rfl, .inr ⟨by decide, by decide⟩, _, rfl, _, _, rfl, rfl, .inl ⟨by decide, by decide⟩, _, rfl, _, _, rfl, rfl, .inr ⟨by omega, by omega⟩, _, _, rfl, rfl, _, rfl, _, _, rfl, rfl, .inl ⟨by decide, by decide⟩, _, _, rfl, rfl, _, _, rfl, rfl, .inl ⟨_, rfl, ?_⟩⟩
    refine ⟨_, _, rfl, rfl, (by show (0 : Int) < 2147483647; decide), ?_⟩
    generalize hz : (c * 2654435761 + 40503 * k * k + 97 * k + 13) % 2147483647 = z
    have z0 : 0 ≤ z := by omega
    have z1 : z < 2147483647 := by omega
    refine ⟨_, rfl, _, rfl, _, _, rfl, rfl, .inr ⟨by omega, by omega⟩, _, rfl, _, _, rfl, rfl, .inl ⟨by decide, by decide⟩, _, _, rfl, rfl, _, _, rfl, rfl, .inl ⟨_, rfl, ?_⟩⟩
    refine ⟨_, _, rfl, rfl, (by show (0 : Int) < 2147483629; decide), _, _, rfl, rfl, ⟨by decide, by decide⟩, ?_⟩
    exact q _ (by omega)
theorem scDraw : FnScope ["purse", "out_of", "drawn"] ["purse", "out_of"] (defScope sDraw) := ⟨rfl, rfl, rfl, by decide +kernel, rfl, by decide +kernel, by decide +kernel⟩
theorem cl_draw (D : DefAt K mg "_law_draw" sDraw) (T : Blt mg) (cM : Cl CX0 P w K mg base 1 "_law_mixed" ["cell", "k"] spMixed) : Cl CX0 P w K mg base 2 "_law_draw" ["purse", "out_of"] spDraw := by
  obtain ⟨f, fd, F, hm⟩ := D
  refine cl_of F hm (F.ok scDraw (fun vs H Q E h => ?_) (fun cdv A outer s H vs Q E hr h => ⟨_, PSs.nox (pss_cons
      (ps_if (pt_cmpR op_gt (pe_ix ix_list (pv 0) pe_int (fun _ _ => rfl)) pe_int (nomark _))
        (pss_cons (ps_set (i := 2) scDraw.nd rfl (Or.inl rfl) (pe_op op_mod (pe_callTy call_int1 (by rfl) T.int (by decide +kernel) (pa_cons (pe_ix ix_list (pv 0) pe_int (fun _ _ => rfl)) pa_nil)) (pv 1)))
        (pss_cons (ps_asg (pe_op op_fdivW (pe_ix ix_list (pv 0) pe_int (fun _ _ => rfl)) (pv 1)) (pg_sub (pv 0) pe_int set_list))
        (pss_one (ps_ret (pv 2))))) pss_nil)
      (pss_cons (ps_asg (pe_op op_add (pe_ix ix_list (pv 0) pe_int (fun _ _ => rfl)) pe_int) (pg_sub (pv 0) pe_int set_list))
      (pss_one (ps_ret (pe_op op_mod (pe_callTy call_int1 (by rfl) T.int (by decide +kernel) (pa_cons (pe_c0 cM hr (Nat.le_refl 1) (by rfl) (pa_cons (pe_ix ix_list (pv 0) pe_int (fun _ _ => rfl)) (pa_cons (pe_ix ix_list (pv 0) pe_int (fun _ _ => rfl)) pa_nil))) pa_nil)) (pv 1)))))), ?_⟩)) fun _ _ _ _ _ _ us hl => match us, hl with | [_, _], _ => rfl
  · obtain ⟨p, n, c, rfl, _⟩ := h
    rfl
  · obtain ⟨p, n, c, rfl, ⟨⟨a, b, e, a0, a1, b0, b1⟩, c0⟩, c1, n0, n1, q⟩ := h
    refine ⟨_, rfl, p, _, _, _, rfl, rfl, SqL.of e, rfl, _, _, rfl, rfl, _, rfl, ite2 (fun h => ?_) (fun h => ?_)⟩
    · have h0 : 0 < a := of_decide_eq_true h
      refine ⟨_, rfl, p, _, _, _, rfl, rfl, SqL.of e, rfl, .inl ⟨_, rfl, _, rfl, _, _, rfl, rfl, n0, ?_⟩⟩
      refine ⟨_, rfl, p, _, _, _, rfl, rfl, SqL.of e, rfl, _, rfl, _, _, rfl, rfl, wide_div (b := 60) n0 (by omega) (by decide) (by decide), ?_⟩
      refine ⟨_, rfl, p, _, _, 0, rfl, rfl, e, rfl, _, rfl, ?_⟩
      refine q _ c _ (Int.emod_nonneg _ (by omega)) (Int.emod_lt_of_pos _ n0) (by omega) ⟨⟨a / n, b, upd_same, Int.ediv_nonneg a0 (by omega), ?_, b0, b1⟩, c0⟩ fun x o hx ho => ?_
      · refine Nat.lt_of_le_of_lt ?_ a1
        have : a / n ≤ a := Int.ediv_le_self _ a0
        have : 0 ≤ a / n := Int.ediv_nonneg a0 (by omega)
        omega
      · rw [upd_ne hx]
        exact ho
    · refine ⟨_, rfl, p, _, _, _, rfl, rfl, SqL.of e, rfl, _, _, rfl, rfl, ?_⟩
      refine ⟨_, rfl, p, _, _, 2, rfl, rfl, e, rfl, ?_⟩
      refine ⟨_, rfl, p, _, _, _, rfl, rfl, SqL.of upd_same, rfl, _, rfl, p, _, _, _, rfl, rfl, SqL.of upd_same, rfl, ?_⟩
      refine ⟨b, c + 1, rfl, b0, b1, by omega, by omega, fun r r0 => .inl ⟨_, rfl, _, rfl, _, _, rfl, rfl, n0, ?_⟩⟩
      refine q _ (c + 1) _ (Int.emod_nonneg _ (by omega)) (Int.emod_lt_of_pos _ n0) (by omega) ⟨⟨a, b, upd_same, a0, a1, b0, b1⟩, by omega⟩ fun x o hx ho => ?_
      rw [upd_ne hx]
      exact ho
end
end G1
set_option maxHeartbeats 4000000
namespace G1
open PySem PySem.Spec PyProof.Rows L2
def spGreat : Sp := fun vs H Q _ => ∃ (p : Addr) (c : Int), vs = [.ref p, .int 12] ∧ PurseAt H p c ∧ c < 2 ^ 39 ∧
  ∀ (d c' : Int) (H' : Hp), 0 ≤ d → d < 10 ^ 12 → c' ≤ c + 12 → PurseAt H' p c' → But p H H' → Q (.int d) H'
def spCommon : Sp := fun vs H Q _ => ∃ a b : Nat, vs = [.int a, .int b] ∧ b < 2 ^ 90 ∧ Q (.int (Nat.gcd a b : Nat)) H
/-- a degree stands at t -/
def DegAt (H : Hp) (t : Addr) (a b : Nat) : Prop := H t = some (.tup [.int a, .int b]) ∧ a ≤ b ∧ 0 < b ∧ Nat.gcd a b = 1
def spLowest : Sp := fun vs H Q _ => ∃ a b : Nat, vs = [.int a, .int b] ∧ 0 < b ∧ b < 2 ^ 80 ∧
  ∀ t, H t = none → Q (.ref t) (upd H t (.tup [.int (a / Nat.gcd a b : Nat), .int (b / Nat.gcd a b : Nat)]))
def spDeg : Sp := fun vs H Q _ => ∃ (p : Addr) (c : Int), vs = [.ref p] ∧ PurseAt H p c ∧ c < 2 ^ 39 ∧
  ∀ (t : Addr) (a b : Nat) (c' : Int) (H' : Hp), H t = none → c' ≤ c + 2 → b < 2 ^ 40 → PurseAt H' p c' → But p H H' → DegAt H' t a b → Q (.ref t) H'
def spLess : Sp := fun vs H Q _ => ∃ (t u : Addr) (a b c d : Nat), vs = [.ref t, .ref u] ∧ H t = some (.tup [.int a, .int b]) ∧ H u = some (.tup [.int c, .int d]) ∧ b < 2 ^ 64 ∧ d < 2 ^ 64 ∧ Q (.bl (decide (a * d < c * b))) H
section
variable {P : Program} {w : World} {K : PySem.W.Frag} {mg : Str → Option Value} {base : Heap}
theorem scPurse : FnScope ["cells", "at", "cell"] ["cells", "at"] (defScope sPurse) := ⟨rfl, rfl, rfl, by decide +kernel, rfl, by decide +kernel, by decide +kernel⟩
theorem pow_bits1 : CPowW 10 18 := ⟨by decide, by decide +kernel⟩
theorem pow_bits2 : CPowW 10 60 := ⟨by decide, by decide +kernel⟩
theorem pow_bits3 : CPowW (10 ^ (60 : Int).toNat) 8 := ⟨by decide, by decide +kernel⟩
theorem pow_bits4 : CPowW 10 11 := ⟨by decide, by decide +kernel⟩
theorem big_lt : ((10 : Int) ^ (60 : Int).toNat) ^ (8 : Int).toNat < 2 ^ 1600 := by decide +kernel
theorem big_pos : (0 : Int) < ((10 : Int) ^ (60 : Int).toNat) ^ (8 : Int).toNat := by decide +kernel
theorem purse_end {H : Hp} {i z y : Int} {Q : VK} (i0 : 0 ≤ i) (k : ∀ (p : Addr) (H' : Hp), H p = none → Same H H' → PurseAt H' p (1000 * i) → Q (.ref p) H')
    (p : Addr) (hp : H p = none) : Q (.ref p) (upd H p (.lst [.int (z % (((10 : Int) ^ (60 : Int).toNat) ^ (8 : Int).toNat)), .int (y % 2147483647), .int (1000 * i)])) := by
  refine k p _ hp (fun b o e => ?_) ⟨⟨_, _, upd_same, Int.emod_nonneg _ ?_, ?_, by omega, by omega⟩, by omega⟩
  · rw [upd_ne (ne_of_none e hp)]
    exact e
  · have := big_pos
    omega
  · have h1 := big_pos
    have h2 := big_lt
    have h3 := Int.emod_nonneg z (show ((10 : Int) ^ (60 : Int).toNat) ^ (8 : Int).toNat ≠ 0 by omega)
    have h4 := Int.emod_lt_of_pos z h1
    have h5 : ((2 ^ 1600 : Nat) : Int) = (2 : Int) ^ 1600 := by decide +kernel
    omega
theorem cl_purse (D : DefAt K mg "_law_purse" sPurse) (T : Blt mg) : Cl CX0 P w K mg base 1 "_law_purse" ["cells", "at"] (spPurse K) := by
  obtain ⟨f, fd, F, hm⟩ := D
  refine cl_of F hm (F.ok scPurse (fun vs H Q E h => ?_) (fun cdv A outer s H vs Q E hr h => ⟨_, PSs.nox (pss_cons
      (ps_set (i := 2) scPurse.nd rfl (Or.inl rfl) pe_int)
      (pss_cons (ps_if (pt_cmpR op_lt (pv 1) (pe_callB call_len_seq (by rfl) T.len PySem.boot_len (pa_cons (pv 0) pa_nil)) (nomark _))
        (pss_one (ps_set (i := 2) scPurse.nd rfl (Or.inl rfl) (pe_ix ix_list (pv 0) (pv 1) (fun _ _ => rfl)))) pss_nil)
      (pss_one (ps_ret (pe_lst (pa_cons (pe_op op_mod (pe_callTy call_int1 (by rfl) T.int (by decide +kernel) (pa_cons (pe_callB (call_max2 rfl) (by rfl) T.max (by decide +kernel) (pa_cons (pe_op op_sub (pv 2) (pe_op op_powW pe_int pe_int)) (pa_cons pe_int pa_nil))) pa_nil)) (pe_op op_powW (pe_op op_powW pe_int pe_int) pe_int))
        (pa_cons (pe_op op_mod (pe_callTy call_int1 (by rfl) T.int (by decide +kernel) (pa_cons (pv 2) pa_nil)) pe_int) (pa_cons (pe_op op_mul pe_int (pv 1)) pa_nil)))))))), ?_⟩)) fun _ _ _ _ _ _ us hl => match us, hl with | [_, _], _ => rfl
  · obtain ⟨a, ns, i, rfl, _⟩ := h
    rfl
  · obtain ⟨a, ns, i, rfl, hS, i0, i1, q⟩ := h
    refine ⟨_, rfl, _, rfl, a, _, rfl, .inl hS, _, _, rfl, rfl, _, rfl, ite2 (fun h => ?_) (fun h => ?_)⟩
    · have h1 : i < ((ns.map V.int).length : Int) := of_decide_eq_true h
      have h2 : i.toNat < ns.length := by
        rw [List.length_map] at h1
        omega
      have h3 : atI (ns.map V.int) i = some (.int ns[i.toNat]) := at_of (j := i.toNat) (by omega) (by simp [h2])
      refine ⟨_, rfl, _, rfl, a, _, _, _, rfl, rfl, hS, h3, ?_⟩
      refine ⟨_, rfl, _, _, rfl, rfl, pow_bits1, _, _, rfl, rfl, _, _, rfl, .inl ⟨_, rfl, _, _, rfl, rfl, pow_bits2, _, _, rfl, rfl, pow_bits3, _, _, rfl, rfl, big_pos, _, rfl, .inl ⟨_, rfl, _, _, rfl, rfl, (by show (0 : Int) < 2147483647; decide), _, rfl, _, _, rfl, rfl, .inl ⟨by decide, by decide⟩, (by show 3 ≤ sizeLine; decide), ?_⟩⟩⟩
      exact purse_end i0 q
    · refine ⟨_, rfl, _, _, rfl, rfl, pow_bits1, _, _, rfl, rfl, _, _, rfl, .inl ⟨_, rfl, _, _, rfl, rfl, pow_bits2, _, _, rfl, rfl, pow_bits3, _, _, rfl, rfl, big_pos, _, rfl, .inl ⟨_, rfl, _, _, rfl, rfl, (by show (0 : Int) < 2147483647; decide), _, rfl, _, _, rfl, rfl, .inl ⟨by decide, by decide⟩, (by show 3 ≤ sizeLine; decide), ?_⟩⟩⟩
      exact purse_end i0 q
theorem scGreat : FnScope ["purse", "figures", "found", "turn"] ["purse", "figures"] (defScope sGreat) := ⟨rfl, rfl, rfl, by decide +kernel, rfl, by decide +kernel, by decide +kernel⟩
theorem cl_great (D : DefAt K mg "_law_great" sGreat) (T : Blt mg) (cD : Cl CX0 P w K mg base 2 "_law_draw" ["purse", "out_of"] spDraw) : Cl CX0 P w K mg base 3 "_law_great" ["purse", "figures"] spGreat := by
  obtain ⟨f, fd, F, hm⟩ := D
  refine cl_of F hm (F.ok scGreat (fun vs H Q E h => ?_) (fun cdv A outer s H vs Q E hr h => ⟨_, PSs.nox (pss_cons
      (ps_set (i := 2) scGreat.nd rfl (Or.inl rfl) pe_int)
      (pss_cons (ps_for PassesOwn.never rfl (pi_range1 (by rfl) T.range (pa_cons (pv 1) pa_nil)) (pg_name (i := 3) scGreat.nd rfl (Or.inl rfl))
        (pss_one (ps_set (i := 2) scGreat.nd rfl (Or.inl rfl) (pe_op op_add (pe_op op_mul pe_int (pv 2)) (pe_c0 cD hr (Nat.le_refl 2) (by rfl) (pa_cons (pv 0) (pa_cons pe_int pa_nil)))))))
      (pss_one (ps_ret (pv 2))))), ?_⟩)) fun _ _ _ _ _ _ us hl => match us, hl with | [_, _], _ => rfl
  · obtain ⟨p, c, rfl, _⟩ := h
    rfl
  · obtain ⟨p, c, rfl, hP, c1, q⟩ := h
    refine ⟨_, rfl, 12, rfl, by decide, by decide, for_range (lo := 0) (n := 12) (fun i σ H' => ∃ (d c' : Int) (v : Option V), σ = [some (.ref p), some (.int 12), some (.int d), v] ∧ 0 ≤ d ∧ d < 10 ^ i ∧ c' ≤ c + i ∧ PurseAt H' p c' ∧ But p H H')
      ⟨0, c, none, rfl, by decide, by decide, by omega, hP, .refl⟩ ?_ ?_⟩
    · rintro i σ H' hi ⟨d, c', v, rfl, d0, d1, hc, hP', b⟩
      refine ⟨_, rfl, _, _, rfl, rfl, .inl ⟨by decide, by decide⟩, _, rfl, p, 10, c', rfl, hP', by omega, by decide, by decide, fun e c2 H2 e0 e1 hc2 hP2 b2 => ?_⟩
      refine ⟨_, _, rfl, rfl, 10 * d + e, c2, _, rfl, by omega, ?_, by omega, hP2, b.trans b2⟩
      rw [Int.pow_succ]
      omega
    · rintro σ H' ⟨d, c', v, rfl, d0, d1, hc, hP', b⟩
      exact ⟨_, rfl, q d c' H' d0 d1 hc hP' b⟩
theorem scCommon : FnScope ["one", "second"] ["one", "second"] (defScope sCommon) := ⟨rfl, rfl, rfl, by decide +kernel, rfl, by decide +kernel, by decide +kernel⟩
theorem cl_common (D : DefAt K mg "_law_common" sCommon) : Cl CX0 P w K mg base 1 "_law_common" ["one", "second"] spCommon := by
  obtain ⟨f, fd, F, hm⟩ := D
  refine cl_of F hm (F.ok scCommon (fun vs H Q E h => ?_) (fun cdv A outer s H vs Q E hr h => ⟨_, PSs.nox (pss_cons
      (ps_while PassesOwn.never (pt_cmpR op_ne (pv 1) pe_int (nomark _)) (pss_one (ps_par (i := 0) (j := 1) (by rfl) scCommon.nd rfl rfl (by decide) rfl rfl (pa_cons (pv 1) (pa_cons (pe_op op_mod (pv 0) (pv 1)) pa_nil)) (by rfl))))
      (pss_one (ps_ret (pv 0)))), ?_⟩)) fun _ _ _ _ _ _ us hl => match us, hl with | [_, _], _ => rfl
  · obtain ⟨a, b, rfl, _⟩ := h
    rfl
  · obtain ⟨a, b, rfl, _, q⟩ := h
    refine while_by (fun σ H' => ∃ x y : Nat, σ = [some (.int x), some (.int y)] ∧ Nat.gcd x y = Nat.gcd a b ∧ H' = H) (fun σ _ => match σ with | [_, some (.int y)] => y.toNat | _ => 0) ⟨a, b, rfl, rfl, rfl⟩ ?_ ?_
    · rintro σ H' ⟨x, y, rfl, g, rfl⟩
      refine ⟨_, rfl, rfl, _, rfl, ite2 (fun h => ?_) (fun h => ?_)⟩
      · have hy : y ≠ 0 := by
          intro z
          subst z
          simp at h
        refine ⟨_, rfl, _, rfl, _, rfl, _, _, rfl, rfl, (by show (0 : Int) < (y : Int); omega), _, _, rfl, ⟨y, x % y, ?_, ?_, rfl⟩, ?_⟩
        · simp [List.set]
        · rw [← g, Nat.gcd_comm x y, Nat.gcd_rec y x, Nat.gcd_comm]
        · show ((x : Int) % (y : Int)).toNat < (y : Int).toNat
          have := Int.emod_lt_of_pos (x : Int) (show (0 : Int) < (y : Int) by omega)
          omega
      · have hy : y = 0 := by
          simpa using h
        subst hy
        refine ⟨_, rfl, ?_⟩
        rw [Nat.gcd_zero_right] at g
        rw [g]
        exact q
    · rintro σ H' Q1 Q2 hQ ⟨v, e, s1, k, ek, z⟩
      exact ⟨v, e, s1, k, ek, hQ _ _ z⟩
theorem scLowest : FnScope ["above", "beneath", "shared"] ["above", "beneath"] (defScope sLowest) := ⟨rfl, rfl, rfl, by decide +kernel, rfl, by decide +kernel, by decide +kernel⟩
theorem cl_lowest (D : DefAt K mg "_law_lowest" sLowest) (T : Blt mg) (cC : Cl CX0 P w K mg base 1 "_law_common" ["one", "second"] spCommon) : Cl CX0 P w K mg base 2 "_law_lowest" ["above", "beneath"] spLowest := by
  obtain ⟨f, fd, F, hm⟩ := D
  refine cl_of F hm (F.ok scLowest (fun vs H Q E h => ?_) (fun cdv A outer s H vs Q E hr h => ⟨_, PSs.nox (pss_cons
      (ps_set (i := 2) scLowest.nd rfl (Or.inl rfl) (pe_c0 cC hr (Nat.le_refl 1) (by rfl) (pa_cons (pe_callB call_abs (by rfl) T.abs (by decide +kernel) (pa_cons (pe_callTy call_int1 (by rfl) T.int (by decide +kernel) (pa_cons (pv 0) pa_nil)) pa_nil)) (pa_cons (pe_callTy call_int1 (by rfl) T.int (by decide +kernel) (pa_cons (pv 1) pa_nil)) pa_nil))))
      (pss_one (ps_ret (pe_tup (pa_cons (pe_op op_fdivW (pv 0) (pv 2)) (pa_cons (pe_op op_fdivW (pv 1) (pv 2)) pa_nil)))))), ?_⟩)) fun _ _ _ _ _ _ us hl => match us, hl with | [_, _], _ => rfl
  · obtain ⟨a, b, rfl, _⟩ := h
    rfl
  · obtain ⟨a, b, rfl, b0, b1, q⟩ := h
    have g0 : 0 < Nat.gcd a b := Nat.gcd_pos_of_pos_right a b0
    have g1 : Nat.gcd a b ≤ b := Nat.gcd_le_right a b0
    have dv : CDivW (a : Int) ((Nat.gcd a b : Nat) : Int) := wide_div (b := 80) (by omega) (by rw [Int.natAbs_natCast]; omega) (by decide) (by decide)
    have dw : CDivW (b : Int) ((Nat.gcd a b : Nat) : Int) := wide_div (b := 80) (by omega) (by rw [Int.natAbs_natCast]; omega) (by decide) (by decide)
    have ea : (if (a : Int) < 0 then -(a : Int) else (a : Int)) = (a : Int) := if_neg (by omega)
    refine ⟨_, rfl, .inl ⟨_, rfl, _, rfl, ?_⟩⟩
    rw [ea]
    refine ⟨_, rfl, .inl ⟨_, rfl, a, b, rfl, by omega, _, rfl, _, rfl, _, _, rfl, rfl, dv, _, rfl, _, rfl, _, _, rfl, rfl, dw, (by show 2 ≤ sizeLine; decide), fun t ht => ?_⟩⟩
    exact q t ht
theorem scLess : FnScope ["u", "v"] ["u", "v"] (defScope sLess) := ⟨rfl, rfl, rfl, by decide +kernel, rfl, by decide +kernel, by decide +kernel⟩
theorem cl_less (D : DefAt K mg "_law_less" sLess) : Cl CX0 P w K mg base 1 "_law_less" ["u", "v"] spLess := by
  obtain ⟨f, fd, F, hm⟩ := D
  refine cl_of F hm (F.ok scLess (fun vs H Q E h => ?_) (fun cdv A outer s H vs Q E hr h => ⟨_, PSs.nox
      (pss_one (ps_ret (pe_cmpR op_lt (pe_op op_mul (pe_ix ix_tup (pv 0) pe_int (fun _ _ => rfl)) (pe_ix ix_tup (pv 1) pe_int (fun _ _ => rfl))) (pe_op op_mul (pe_ix ix_tup (pv 1) pe_int (fun _ _ => rfl)) (pe_ix ix_tup (pv 0) pe_int (fun _ _ => rfl))) (nomark _)))), ?_⟩)) fun _ _ _ _ _ _ us hl => match us, hl with | [_, _], _ => rfl
  · obtain ⟨t, u, a, b, c, d, rfl, _⟩ := h
    rfl
  · obtain ⟨t, u, a, b, c, d, rfl, ht, hu, hb, hd, q⟩ := h
    refine ⟨_, rfl, t, _, _, _, rfl, rfl, SqT.of ht, rfl, _, rfl, u, _, _, _, rfl, rfl, SqT.of hu, rfl, _, _, rfl, rfl, .inr ⟨by omega, by omega⟩, ?_⟩
    refine ⟨_, rfl, u, _, _, _, rfl, rfl, SqT.of hu, rfl, _, rfl, t, _, _, _, rfl, rfl, SqT.of ht, rfl, _, _, rfl, rfl, .inr ⟨by omega, by omega⟩, _, _, rfl, rfl, ?_⟩
    have e : decide ((a : Int) * (d : Int) < (c : Int) * (b : Int)) = decide (a * d < c * b) := by
      rw [Bool.eq_iff_iff, decide_eq_true_iff, decide_eq_true_iff]
      exact_mod_cast Iff.rfl
    show Q (.bl (decide ((a : Int) * (d : Int) < (c : Int) * (b : Int)))) H
    rw [e]
    exact q
theorem scDeg : FnScope ["purse", "beneath"] ["purse"] (defScope sDeg) := ⟨rfl, rfl, rfl, by decide +kernel, rfl, by decide +kernel, by decide +kernel⟩
theorem cl_deg (D : DefAt K mg "_law_degree" sDeg) (cD : Cl CX0 P w K mg base 2 "_law_draw" ["purse", "out_of"] spDraw) (cL : Cl CX0 P w K mg base 2 "_law_lowest" ["above", "beneath"] spLowest) : Cl CX0 P w K mg base 3 "_law_degree" ["purse"] spDeg := by
  obtain ⟨f, fd, F, hm⟩ := D
  refine cl_of F hm (F.ok scDeg (fun vs H Q E h => ?_) (fun cdv A outer s H vs Q E hr h => ⟨_, PSs.nox (pss_cons
      (ps_set (i := 1) scDeg.nd rfl (Or.inl rfl) (pe_ix ix_list (pe_lst (pa_cons pe_int (pa_cons pe_int (pa_cons pe_int (pa_cons pe_int (pa_cons pe_int (pa_cons pe_int (pa_cons pe_int (pa_cons pe_int (pa_cons (pe_op op_powW pe_int pe_int) pa_nil)))))))))) (pe_c0 cD hr (Nat.le_refl 2) (by rfl) (pa_cons (pv 0) (pa_cons pe_int pa_nil))) (fun _ _ => rfl)))
      (pss_one (ps_ret (pe_c0 cL hr (Nat.le_refl 2) (by rfl) (pa_cons (pe_c0 cD hr (Nat.le_refl 2) (by rfl) (pa_cons (pv 0) (pa_cons (pe_op op_add (pv 1) pe_int) pa_nil))) (pa_cons (pv 1) pa_nil)))))), ?_⟩)) fun _ _ _ _ _ _ us hl => match us, hl with | [_], _ => rfl
  · obtain ⟨p, c, rfl, _⟩ := h
    rfl
  · obtain ⟨p, c, rfl, hP, c1, q⟩ := h
    obtain ⟨pa, pb, pe, _⟩ := id hP.ex
    refine ⟨_, _, rfl, rfl, pow_bits4, (by show 9 ≤ sizeLine; decide), fun l hl => ?_⟩
    have npl : p ≠ l := ne_of_none pe hl
    have hP1 : PurseAt (upd H l (.lst [.int 1, .int 2, .int 3, .int 4, .int 5, .int 6, .int 8, .int 12, .int (10 ^ (11 : Int).toNat)])) p c := ⟨by rw [upd_ne npl]; exact hP.ex, hP.c0⟩
    refine ⟨_, rfl, p, 9, c, rfl, hP1, by omega, by decide, by decide, fun d c2 H2 d0 d1 hc2 hP2 b2 => ?_⟩
    have hl2 := b2 l _ npl.symm upd_same
    have hb : ∃ n : Nat, atI [V.int 1, .int 2, .int 3, .int 4, .int 5, .int 6, .int 8, .int 12, .int (10 ^ (11 : Int).toNat)] d = some (.int n) ∧ 0 < n ∧ n < 2 ^ 40 := by
      have hd : d = 0 ∨ d = 1 ∨ d = 2 ∨ d = 3 ∨ d = 4 ∨ d = 5 ∨ d = 6 ∨ d = 7 ∨ d = 8 := by omega
      rcases hd with rfl | rfl | rfl | rfl | rfl | rfl | rfl | rfl | rfl
      · exact ⟨1, rfl, by decide, by decide⟩
      · exact ⟨2, rfl, by decide, by decide⟩
      · exact ⟨3, rfl, by decide, by decide⟩
      · exact ⟨4, rfl, by decide, by decide⟩
      · exact ⟨5, rfl, by decide, by decide⟩
      · exact ⟨6, rfl, by decide, by decide⟩
      · exact ⟨8, rfl, by decide, by decide⟩
      · exact ⟨12, rfl, by decide, by decide⟩
      · exact ⟨10 ^ 11, rfl, by decide, by decide⟩
    obtain ⟨n, hn, n0, n1⟩ := hb
    refine ⟨l, _, _, _, rfl, rfl, SqL.of hl2, hn, ?_⟩
    refine ⟨_, rfl, _, rfl, _, _, rfl, rfl, p, (n : Int) + 1, c2, rfl, hP2, by omega, by omega, by omega, fun e c3 H3 e0 e1 hc3 hP3 b3 => ?_⟩
    obtain ⟨m, rfl⟩ : ∃ m : Nat, e = (m : Int) := ⟨e.toNat, by omega⟩
    have g0 : 0 < Nat.gcd m n := Nat.gcd_pos_of_pos_right m n0
    refine ⟨_, rfl, m, n, rfl, n0, by omega, fun t ht => ?_⟩
    have tn : H t = none := by
      have z := hP3.free b3 ht
      have z2 := hP2.free b2 z
      by_cases e : t = l
      · rw [e]
        exact hl
      · rw [upd_ne e] at z2
        exact z2
    obtain ⟨qa, qb, qe, _⟩ := id hP3.ex
    have npt : p ≠ t := ne_of_none qe ht
    refine q t (m / Nat.gcd m n) (n / Nat.gcd m n) c3 _ tn (by omega) (Nat.lt_of_le_of_lt (Nat.div_le_self _ _) n1) ⟨by rw [upd_ne npt]; exact hP3.ex, hP3.c0⟩ (fun x o hx ho => ?_) ⟨upd_same, Nat.div_le_div_right (by omega), Nat.div_pos (Nat.gcd_le_right m n0) g0, Nat.gcd_div_gcd_div_gcd_of_pos_right n0⟩
    rw [upd_ne (ne_of_none ho tn)]
    exact b3 x o hx (b2 x o hx (by rw [upd_ne (ne_of_none ho hl)]; exact ho))
end
end G1
set_option maxHeartbeats 4000000
namespace G1
open PySem PySem.Spec PyProof.Rows L2
/-! ### kinds of things -/
def Kn (H : Hp) : V → Prop
  | .non => True
  | .bl _ => True
  | .int _ => True
  | .str _ => True
  | .ref a => (∃ xs, H a = some (.lst xs)) ∨ (∃ xs, H a = some (.tup xs)) ∨ ∃ kvs, H a = some (.dK kvs)
  | _ => False
theorem Kn.same {H H' : Hp} (s : Same H H') : ∀ {v : V}, Kn H v → Kn H' v
  | .non, _ => trivial
  | .bl _, _ => trivial
  | .int _, _ => trivial
  | .str _, _ => trivial
  | .ref a, h => by
    rcases h with ⟨xs, e⟩ | ⟨xs, e⟩ | ⟨xs, e⟩
    · exact .inl ⟨xs, s _ _ e⟩
    · exact .inr (.inl ⟨xs, s _ _ e⟩)
    · exact .inr (.inr ⟨xs, s _ _ e⟩)
def isW : V → Bool
  | .int _ => true
  | _ => false
def degOf (xs : List V) : Bool := match xs with
  | [.int i, .int j] => decide (1 ≤ j) && (decide (0 ≤ i) && decide (i ≤ j)) && decide (Nat.gcd i.natAbs j.natAbs = 1)
  | _ => false
inductive IsDeg (H : Hp) : V → Bool → Prop where
  | tup {a : Addr} {xs : List V} : H a = some (.tup xs) → (∀ x ∈ xs, Kn H x) → IsDeg H (.ref a) (degOf xs)
  | flat {v : V} : Kn H v → (∀ a, v ≠ .ref a) → IsDeg H v false
  | lst {a : Addr} {xs : List V} : H a = some (.lst xs) → IsDeg H (.ref a) false
  | dK {a : Addr} {kvs : List (Key × V)} : H a = some (.dK kvs) → IsDeg H (.ref a) false
theorem IsDeg.same {H H' : Hp} (s : Same H H') {v : V} {b : Bool} (h : IsDeg H v b) : IsDeg H' v b := by
  cases h with
  | tup e k => exact .tup (s _ _ e) fun x hx => (k x hx).same s
  | flat k n => exact .flat (k.same s) n
  | lst e => exact .lst (s _ _ e)
  | dK e => exact .dK (s _ _ e)
def spWhole : Sp := fun vs H Q _ => ∃ v, vs = [v] ∧ Kn H v ∧ Q (.bl (isW v)) H
def spIsDeg : Sp := fun vs H Q _ => ∃ v b, vs = [v] ∧ IsDeg H v b ∧ Q (.bl b) H
/-- InvalidDegree(v) leaves, its own dict at d -/
def Rs (C : Addr) (H : Hp) (v : V) (E : XK) : Prop := ∀ (d : Addr) (H' : Hp), H d = none → Same H H' → H' d = some (.xd [(("thing" : Str), v)]) → E (.ref C) (some d) H'
def spCheck (C : Addr) : Sp := fun vs H Q E => ∃ v b, vs = [v] ∧ IsDeg H v b ∧ (b = true → Q .non H) ∧ (b = false → Rs C H v E)
def spInit (C : Addr) : Sp := fun vs H Q _ => ∃ (a : Addr) (v : V), vs = [.ref a, v] ∧ H a = some (exo a C none) ∧ ∀ dx, H dx = none → dx ≠ a → Q .non (upd (upd H dx (exd dx [(("thing" : Str), v)])) a (exo a C (some dx)))
def spDegree (C : Addr) : Sp := fun vs H Q E => ∃ x y : V, vs = [x, y] ∧ Kn H x ∧ Kn H y ∧
  (((isW x = false ∨ ∃ i, x = .int i ∧ i < 0) ∧ Rs C H x E) ∨
   ((∃ i : Int, x = .int i ∧ 0 ≤ i) ∧ (isW y = false ∨ ∃ j, y = .int j ∧ j < 1) ∧ Rs C H y E) ∨
   (∃ i j : Nat, x = .int i ∧ y = .int j ∧ 0 < j ∧ j < i ∧ ∀ (t : Addr) (H1 : Hp), H t = none → Same H H1 → H1 t = some (.tup [x, y]) → Rs C H1 (.ref t) E) ∨
   (∃ i j : Nat, x = .int i ∧ y = .int j ∧ 0 < j ∧ j < 2 ^ 80 ∧ i ≤ j ∧ ∀ t, H t = none → Q (.ref t) (upd H t (.tup [.int (i / Nat.gcd i j : Nat), .int (j / Nat.gcd i j : Nat)]))))
def spAtMost (C : Addr) : Sp := fun vs H Q E => ∃ (x y : V) (b : Bool), vs = [x, y] ∧ IsDeg H x b ∧ (b = false → Rs C H x E) ∧
  (b = true → ∃ b', IsDeg H y b' ∧ (b' = false → Rs C H y E) ∧
    (b' = true → ∃ (t u : Addr) (a b c d : Nat), x = .ref t ∧ y = .ref u ∧ H t = some (.tup [.int a, .int b]) ∧ H u = some (.tup [.int c, .int d]) ∧ b < 2 ^ 64 ∧ d < 2 ^ 64 ∧ Q (.bl (decide (a * d ≤ c * b))) H))
theorem Rs.imp {C : Addr} {H : Hp} {v : V} {E E' : XK} (h : Rs C H v E) (k : ∀ c d H', E c d H' → E' c d H') : Rs C H v E' := fun d H' n s e => k _ _ _ (h d H' n s e)
theorem Rs.from {C : Addr} {H H1 : Hp} {v : V} {E : XK} (h : Rs C H v E) (s : Same H H1) : Rs C H1 v E := fun d H' n s' e => h d H' (s.free n) (s.trans s') e
/-- what the top has written of the error -/
structure ErrTxt (K : PySem.W.Frag) (mg : Str → Option Value) (C fI : Addr) : Prop where
  ox : OexC K C
  xf : XfC K C
  gC : mg "InvalidDegree" = some (.ref C)
  no : PySem.W.findIn K (.ref C) "thing" = some none
  iC : PySem.W.findIn K (.ref C) "__init__" = some (some (.ref fI))
  tI : PySem.W.typeIn K (.ref fI) = some (.type "function")
  te : PySem.W.exmOne K (.ref C) (.ref C) = some true
  fn : ∃ fd, FunD K "__init__" "InvalidDegree.__init__" (defArgs sInit) (defBody sInit) (defScope sInit) [] [] fI fd
section
variable {P : Program} {w : World} {K : PySem.W.Frag} {mg : Str → Option Value} {base : Heap} {C fI : Addr}
theorem kitI : ∀ {H : Hp} {v : V}, Kn H v → ∃ t, TyX K H v t ∧ PySem.W.kitOne K t (.type "int") = some (isW v || (match v with | .bl _ => true | _ => false)) ∧ PySem.W.kitOne K t (.type "bool") = some (match v with | .bl _ => true | _ => false)
  | _, .non, _ => ⟨_, .base .non, kit_ty (show kitB "NoneType" "int" = some false by decide +kernel), kit_ty (show kitB "NoneType" "bool" = some false by decide +kernel)⟩
  | _, .bl b, _ => ⟨_, .base (.bl b), kit_ty (show kitB "bool" "int" = some true by decide +kernel), kit_ty (show kitB "bool" "bool" = some true by decide +kernel)⟩
  | _, .int i, _ => ⟨_, .base (.int i), kit_ty (show kitB "int" "int" = some true by decide +kernel), kit_ty (show kitB "int" "bool" = some false by decide +kernel)⟩
  | _, .str z, _ => ⟨_, .base (.str z), kit_ty (show kitB "str" "int" = some false by decide +kernel), kit_ty (show kitB "str" "bool" = some false by decide +kernel)⟩
  | _, .ref a, h => by
    rcases h with ⟨xs, e⟩ | ⟨xs, e⟩ | ⟨xs, e⟩
    · exact ⟨_, .base (.lst e), kit_ty (show kitB "list" "int" = some false by decide +kernel), kit_ty (show kitB "list" "bool" = some false by decide +kernel)⟩
    · exact ⟨_, .base (.tup e), kit_ty (show kitB "tuple" "int" = some false by decide +kernel), kit_ty (show kitB "tuple" "bool" = some false by decide +kernel)⟩
    · exact ⟨_, .base (.dK e), kit_ty (show kitB "dict" "int" = some false by decide +kernel), kit_ty (show kitB "dict" "bool" = some false by decide +kernel)⟩
theorem scWhole : FnScope ["thing"] ["thing"] (defScope sWhole) := ⟨rfl, rfl, rfl, by decide +kernel, rfl, by decide +kernel, by decide +kernel⟩
theorem cl_whole (D : DefAt K mg "is_whole" sWhole) (T : Blt mg) : Cl CX0 P w K mg base 1 "is_whole" ["thing"] spWhole := by
  obtain ⟨f, fd, F, hm⟩ := D
  refine cl_of F hm (F.ok scWhole (fun vs H Q E h => ?_) (fun cdv A outer s H vs Q E hr h => ⟨_, PSs.nox (pss_one (ps_ret
      (pe_and (pe_callB call_isi (by rfl) T.isin (by decide +kernel) (pa_cons (pv 0) (pa_cons (pe_bltn (v := .ty "int") (by rfl) T.int (by decide +kernel) rfl) pa_nil)))
        (pe_one (pe_not (pe_callB call_isi (by rfl) T.isin (by decide +kernel) (pa_cons (pv 0) (pa_cons (pe_bltn (v := .ty "bool") (by rfl) T.bool (by decide +kernel) rfl) pa_nil)))))))), ?_⟩)) fun _ _ _ _ _ _ us hl => match us, hl with | [_], _ => rfl
  · obtain ⟨v, rfl, _⟩ := h
    rfl
  · obtain ⟨v, rfl, hk, q⟩ := h
    obtain ⟨t, ty, e1, e2⟩ := kitI (K := K) hk
    refine ⟨_, rfl, v, _, t, _, _, rfl, .ty "int", ty, e1, _, rfl, ?_⟩
    cases v with
    | int i =>
      refine iteT ?_
      exact ⟨_, rfl, _, _, t, _, _, rfl, .ty "bool", ty, e2, _, rfl, q⟩
    | bl b =>
      refine iteT ?_
      exact ⟨_, rfl, _, _, t, _, _, rfl, .ty "bool", ty, e2, _, rfl, q⟩
    | _ => exact iteF q
theorem scIsDeg : FnScope ["thing", "top", "bottom"] ["thing"] (defScope sIsDeg) := ⟨rfl, rfl, rfl, by decide +kernel, rfl, by decide +kernel, by decide +kernel⟩
theorem degOf_len {xs : List V} (h : xs.length ≠ 2) : degOf xs = false := by
  unfold degOf
  split
  · exact absurd rfl h
  · rfl
theorem cl_isdeg (D : DefAt K mg "is_degree" sIsDeg) (T : Blt mg) (cW : Cl CX0 P w K mg base 1 "is_whole" ["thing"] spWhole) : Cl CX0 P w K mg base 2 "is_degree" ["thing"] spIsDeg := by
  obtain ⟨f, fd, F, hm⟩ := D
  refine cl_of F hm (F.ok scIsDeg (fun vs H Q E h => ?_) (fun cdv A outer s H vs Q E hr h => ⟨_, PSs.nox (pss_cons
      (ps_if (PW.pt (pw_or (pt_not (pt_val (pe_callB call_isi (by rfl) T.isin (by decide +kernel) (pa_cons (pv 0) (pa_cons (pe_bltn (v := .ty "tuple") (by rfl) T.tuple (by decide +kernel) rfl) pa_nil)))))
          (pw_or1 (pt_cmpR op_ne (pe_callB call_len_seq (by rfl) T.len PySem.boot_len (pa_cons (pv 0) pa_nil)) pe_int (nomark _)))))
        (pss_one (ps_ret pe_bl)) pss_nil)
      (pss_cons (ps_asg (pv 0) (pg_tup (by rfl) (pgs_cons (pg_name (i := 1) scIsDeg.nd rfl (Or.inl rfl)) (pgs_cons (pg_name (i := 2) scIsDeg.nd rfl (Or.inl rfl)) pgs_nil))))
      (pss_cons (ps_if (PW.pt (pw_or (pt_not (pt_val (pe_c0 cW hr (Nat.le_refl 1) (by rfl) (pa_cons (pv 1) pa_nil)))) (pw_or1 (pt_not (pt_val (pe_c0 cW hr (Nat.le_refl 1) (by rfl) (pa_cons (pv 2) pa_nil)))))))
        (pss_one (ps_ret pe_bl)) pss_nil)
      (pss_one (ps_ret (pe_and (pe_cmpR op_ge (pv 2) pe_int (nomark _)) (pe_and (pe_chain op_le op_le pe_int (pv 1) (pv 2)) (pe_one (pe_cmpR op_eq (pe_callBfun cr_gcd (by rfl) T.gcd (pa_cons (pv 1) (pa_cons (pv 2) pa_nil))) pe_int (nomark _)))))))))), ?_⟩)) fun _ _ _ _ _ _ us hl => match us, hl with | [_], _ => rfl
  · obtain ⟨v, b, rfl, _⟩ := h
    rfl
  · obtain ⟨v, b, rfl, hd, q⟩ := h
    cases hd with
    | @tup a xs e k =>
      refine ⟨_, rfl, _, _, _, _, _, rfl, .ty "tuple", .base (.tup e), kit_ty (r := true) (by decide +kernel), _, rfl, ?_⟩
      refine iteF ?_
      refine ⟨_, rfl, a, xs, rfl, .inr (SqT.of e), rfl, _, rfl, ?_⟩
      by_cases hl : xs.length = 2
      · match xs, hl, k, q with
        | [x, y], _, k, q =>
          refine iteF ?_
          refine ⟨_, rfl, a, [x, y], rfl, SqT.of e, rfl, x, [y], rfl, y, [], rfl, rfl, ?_⟩
          have kx := k x (by simp)
          have ky := k y (by simp)
          refine ⟨_, rfl, x, rfl, kx, _, rfl, ?_⟩
          cases hx : isW x with
          | false =>
            refine iteT ?_
            refine iteT ?_
            have e2 : degOf [x, y] = false := by
              cases x <;> first | rfl | cases hx
            rw [e2] at q
            exact q
          | true =>
            refine iteF ?_
            refine ⟨_, rfl, y, rfl, ky, _, rfl, ?_⟩
            cases hy : isW y with
            | false =>
              refine iteT ?_
              have e2 : degOf [x, y] = false := by
                cases x <;> cases y <;> first | rfl | cases hy
              rw [e2] at q
              exact q
            | true =>
              refine iteF ?_
              obtain ⟨i, rfl⟩ : ∃ i, x = .int i := by
                cases x <;> first | exact ⟨_, rfl⟩ | cases hx
              obtain ⟨j, rfl⟩ : ∃ j, y = .int j := by
                cases y <;> first | exact ⟨_, rfl⟩ | cases hy
              have q' : Q (.bl (decide (1 ≤ j) && (decide (0 ≤ i) && decide (i ≤ j)) && decide (Nat.gcd i.natAbs j.natAbs = 1))) H := q
              refine ⟨_, rfl, _, _, rfl, rfl, _, rfl, ?_⟩
              by_cases h1 : 1 ≤ j
              · rw [decide_eq_true h1] at q' ⊢
                refine iteT ?_
                refine ⟨_, rfl, _, _, rfl, rfl, _, rfl, ?_⟩
                by_cases h2 : 0 ≤ i
                · rw [decide_eq_true h2] at q' ⊢
                  refine iteT ?_
                  refine ⟨_, rfl, _, _, rfl, rfl, _, rfl, ?_⟩
                  by_cases h3 : i ≤ j
                  · rw [decide_eq_true h3] at q' ⊢
                    refine iteT ?_
                    refine ⟨_, rfl, _, rfl, i, j, rfl, rfl, ?_⟩
                    have e3 : decide (V.int ((Nat.gcd i.natAbs j.natAbs : Nat) : Int) = V.int 1) = decide (Nat.gcd i.natAbs j.natAbs = 1) := by
                      rw [Bool.eq_iff_iff, decide_eq_true_iff, decide_eq_true_iff, V.int.injEq]
                      omega
                    show Q (.bl (decide (V.int ((Nat.gcd i.natAbs j.natAbs : Nat) : Int) = V.int 1))) H
                    rw [e3]
                    simpa using q'
                  · rw [decide_eq_false h3] at q' ⊢
                    refine iteF ?_
                    simpa using q'
                · rw [decide_eq_false h2] at q' ⊢
                  refine iteF ?_
                  refine ⟨_, rfl, ?_⟩
                  refine iteF ?_
                  simpa using q'
              · rw [decide_eq_false h1] at q' ⊢
                refine iteF ?_
                simpa using q'
      · rw [degOf_len hl] at q
        have e2 : (!decide (V.int (xs.length : Int) = V.int 2)) = true := by
          simp only [Bool.not_eq_true', decide_eq_false_iff_not, V.int.injEq]
          omega
        show if (!decide (V.int (xs.length : Int) = V.int 2)) = true then _ else _
        rw [e2]
        exact iteT q
    | @flat v k n =>
      obtain ⟨t, ty, e⟩ : ∃ t, TyX K H v t ∧ PySem.W.kitOne K t (.type "tuple") = some false := by
        cases v with
        | non => exact ⟨_, .base .non, kit_ty (by decide +kernel)⟩
        | bl b => exact ⟨_, .base (.bl b), kit_ty (by decide +kernel)⟩
        | int i => exact ⟨_, .base (.int i), kit_ty (by decide +kernel)⟩
        | str z => exact ⟨_, .base (.str z), kit_ty (by decide +kernel)⟩
        | ref a => exact absurd rfl (n a)
        | _ => exact k.elim
      refine ⟨_, rfl, _, _, _, _, _, rfl, .ty "tuple", ty, e, _, rfl, ?_⟩
      exact iteT (iteT q)
    | lst e =>
      refine ⟨_, rfl, _, _, _, _, _, rfl, .ty "tuple", .base (.lst e), kit_ty (r := false) (by decide +kernel), _, rfl, ?_⟩
      exact iteT (iteT q)
    | dK e =>
      refine ⟨_, rfl, _, _, _, _, _, rfl, .ty "tuple", .base (.dK e), kit_ty (r := false) (by decide +kernel), _, rfl, ?_⟩
      exact iteT (iteT q)
end
end G1
set_option maxHeartbeats 4000000
namespace G1
open PySem PySem.Spec PyProof.Rows L2
section
variable {P : Program} {w : World} {K : PySem.W.Frag} {mg : Str → Option Value} {base : Heap} {C fI : Addr}
theorem scInit : FnScope ["self", "thing"] ["self", "thing"] (defScope sInit) := ⟨rfl, rfl, rfl, by decide +kernel, rfl, by decide +kernel, by decide +kernel⟩
theorem ok_init {fd : FuncData} (T : ErrTxt K mg C fI) (F : FunD K "__init__" "InvalidDegree.__init__" (defArgs sInit) (defBody sInit) (defScope sInit) [] [] fI fd) : FnOk P w K mg base CX0 1 fI fd ["self", "thing"] (spInit C) := by
  refine F.ok scInit (fun vs H Q E h => ?_) (fun cdv A outer s H vs Q E hr h => ⟨_, PSs.nox (pss_one (ps_ost (pv 0) (pv 1))), ?_⟩)
  · obtain ⟨a, v, rfl, _⟩ := h
    rfl
  · obtain ⟨a, v, rfl, e, q⟩ := h
    exact ⟨_, rfl, _, rfl, a, C, rfl, T.ox, T.no, .inl ⟨e, fun dx n ne => q dx n ne⟩⟩
theorem init_binds {fd : FuncData} (F : FunD K "__init__" "InvalidDegree.__init__" (defArgs sInit) (defBody sInit) (defScope sInit) [] [] fI fd) : Binds K fd ["self", "thing"] [] :=
  F.bindsN fun _ _ _ _ _ _ us hl => match us, hl with | [_, _], _ => rfl
theorem len1 (v : V) : [v].length ≤ 1000 := (by decide : 1 ≤ 1000)
/-- what raise InvalidDegree(v) asks -/
theorem mk_rs {H : Hp} {v : V} {E : XK} (h : Rs C H v E) (a : Addr) (ha : H a = none) :
    spInit C [.ref a, v] (upd H a (exo a C none)) (fun u H2 => u = .non ∧ ∃ (d : Addr) (fs : List (Str × V)), H2 a = some (exo a C (some d)) ∧ H2 d = some (exd d fs) ∧ H d = none ∧ E (.ref C) (some d) (upd (del H2 a) d (.xd fs))) (fun _ _ _ => False) := by
  refine ⟨a, v, rfl, upd_same, fun dx n ne => ⟨rfl, dx, [(("thing" : Str), v)], upd_same, ?_, ?_, ?_⟩⟩
  · rw [upd_ne ne, upd_same]
  · rw [upd_ne ne] at n
    exact n
  · have n' : H dx = none := by
      rw [upd_ne ne] at n
      exact n
    refine h dx _ n' (fun b o e => ?_) upd_same
    have n1 : b ≠ dx := ne_of_none e n'
    have n2 : b ≠ a := ne_of_none e ha
    rw [upd_ne n1, del_ne n2, upd_ne n2, upd_ne n1, upd_ne n2]
    exact e
theorem scCheck : FnScope ["thing"] ["thing"] (defScope sCheck) := ⟨rfl, rfl, rfl, by decide +kernel, rfl, by decide +kernel, by decide +kernel⟩
theorem cl_check (D : DefAt K mg "check_degree" sCheck) (T : ErrTxt K mg C fI) (cI : Cl CX0 P w K mg base 2 "is_degree" ["thing"] spIsDeg) : Cl (L2.CX P w) P w K mg base 4 "check_degree" ["thing"] (spCheck C) := by
  obtain ⟨f, fd, F, hm⟩ := D
  obtain ⟨fdI, FI⟩ := T.fn
  refine cl_of F hm (F.ok scCheck (fun vs H Q E h => ?_) (fun cdv A outer s H vs Q E hr h => ⟨_, pss_one
      (ps_if (pt_not (pt_val (pe_c0 cI hr (by decide) (by rfl) (pa_cons (pv 0) pa_nil))))
        (pss_one (ps_raise rfl (takes_of rfl rfl rfl rfl) (pmk_oex T.ox T.iC T.tI (ok_init T FI) (hr.mono (by decide)) (init_binds FI) .nil pass0 (by rfl) T.gC (pa_cons (pv 0) pa_nil)))) pss_nil), ?_⟩)) fun _ _ _ _ _ _ us hl => match us, hl with | [_], _ => rfl
  · obtain ⟨v, b, rfl, _⟩ := h
    rfl
  · obtain ⟨v, b, rfl, hd, q, r⟩ := h
    refine ⟨_, rfl, v, b, rfl, hd, _, rfl, ?_⟩
    cases b with
    | true => exact iteF (q rfl)
    | false =>
      refine iteT ?_
      exact ⟨_, rfl, len1 _, fun a ha => mk_rs (r rfl) a ha⟩
theorem scDegree : FnScope ["top", "bottom", "shared"] ["top", "bottom"] (defScope sDegree) := ⟨rfl, rfl, rfl, by decide +kernel, rfl, by decide +kernel, by decide +kernel⟩
theorem cl_degree (D : DefAt K mg "degree" sDegree) (B : Blt mg) (T : ErrTxt K mg C fI) (cW : Cl CX0 P w K mg base 1 "is_whole" ["thing"] spWhole) : Cl (L2.CX P w) P w K mg base 4 "degree" ["top", "bottom"] (spDegree C) := by
  obtain ⟨f, fd, F, hm⟩ := D
  obtain ⟨fdI, FI⟩ := T.fn
  refine cl_of F hm (F.ok scDegree (fun vs H Q E h => ?_) (fun cdv A outer s H vs Q E hr h => ⟨_, pss_cons
      (ps_if (PW.pt (pw_or (pt_not (pt_val (pe_c0 cW hr (by decide) (by rfl) (pa_cons (pv 0) pa_nil)))) (pw_or1 (pt_cmpR op_lt (pv 0) pe_int (nomark _)))))
        (pss_one (ps_raise rfl (takes_of rfl rfl rfl rfl) (pmk_oex T.ox T.iC T.tI (ok_init T FI) (hr.mono (by decide)) (init_binds FI) .nil pass0 (by rfl) T.gC (pa_cons (pv 0) pa_nil)))) pss_nil)
      (pss_cons (ps_if (PW.pt (pw_or (pt_not (pt_val (pe_c0 cW hr (by decide) (by rfl) (pa_cons (pv 1) pa_nil)))) (pw_or1 (pt_cmpR op_lt (pv 1) pe_int (nomark _)))))
        (pss_one (ps_raise rfl (takes_of rfl rfl rfl rfl) (pmk_oex T.ox T.iC T.tI (ok_init T FI) (hr.mono (by decide)) (init_binds FI) .nil pass0 (by rfl) T.gC (pa_cons (pv 1) pa_nil)))) pss_nil)
      (pss_cons (ps_if (pt_cmpR op_gt (pv 0) (pv 1) (nomark _))
        (pss_one (ps_raise rfl (takes_of rfl rfl rfl rfl) (pmk_oex T.ox T.iC T.tI (ok_init T FI) (hr.mono (by decide)) (init_binds FI) .nil pass0 (by rfl) T.gC (pa_cons (pe_tup (pa_cons (pv 0) (pa_cons (pv 1) pa_nil))) pa_nil)))) pss_nil)
      (pss_cons (ps_set (i := 2) scDegree.nd rfl (Or.inl rfl) (pe_callBfun cr_gcd (by rfl) B.gcd (pa_cons (pv 0) (pa_cons (pv 1) pa_nil))))
      (pss_one (ps_ret (pe_tup (pa_cons (pe_op op_fdivW (pv 0) (pv 2)) (pa_cons (pe_op op_fdivW (pv 1) (pv 2)) pa_nil)))))))), ?_⟩)) fun _ _ _ _ _ _ us hl => match us, hl with | [_, _], _ => rfl
  · obtain ⟨x, y, rfl, _⟩ := h
    rfl
  · obtain ⟨x, y, rfl, kx, ky, h⟩ := h
    refine ⟨_, rfl, x, rfl, kx, _, rfl, ?_⟩
    rcases h with ⟨h1, r⟩ | h
    · rcases h1 with h1 | ⟨i, rfl, hi⟩
      · rw [h1]
        exact iteT (iteT ⟨_, rfl, len1 _, fun a ha => mk_rs r a ha⟩)
      · refine iteF ?_
        refine ⟨_, rfl, _, _, rfl, rfl, _, rfl, ?_⟩
        rw [decide_eq_true hi]
        exact iteT ⟨_, rfl, len1 _, fun a ha => mk_rs r a ha⟩
    · have hx : ∃ i : Int, x = .int i ∧ 0 ≤ i := by
        rcases h with ⟨h, _⟩ | ⟨i, _, rfl, _⟩ | ⟨i, _, rfl, _⟩
        · exact h
        · exact ⟨i, rfl, by omega⟩
        · exact ⟨i, rfl, by omega⟩
      obtain ⟨i, rfl, i0⟩ := hx
      refine iteF ?_
      refine ⟨_, rfl, _, _, rfl, rfl, _, rfl, ?_⟩
      rw [decide_eq_false (show ¬ i < 0 by omega)]
      refine iteF ?_
      refine ⟨_, rfl, y, rfl, ky, _, rfl, ?_⟩
      rcases h with ⟨_, h1, r⟩ | h
      · rcases h1 with h1 | ⟨j, rfl, hj⟩
        · rw [h1]
          exact iteT (iteT ⟨_, rfl, len1 _, fun a ha => mk_rs r a ha⟩)
        · refine iteF ?_
          refine ⟨_, rfl, _, _, rfl, rfl, _, rfl, ?_⟩
          rw [decide_eq_true hj]
          exact iteT ⟨_, rfl, len1 _, fun a ha => mk_rs r a ha⟩
      · rcases h with ⟨i', j, e1, rfl, j0, hij, r⟩ | ⟨i', j, e1, rfl, j0, j1, hij, q⟩
        · obtain rfl : i = (i' : Int) := V.int.inj e1
          refine iteF ?_
          refine ⟨_, rfl, _, _, rfl, rfl, _, rfl, ?_⟩
          rw [decide_eq_false (show ¬ (j : Int) < 1 by omega)]
          refine iteF ?_
          refine ⟨_, rfl, _, rfl, _, _, rfl, rfl, _, rfl, ?_⟩
          rw [decide_eq_true (show (j : Int) < i' by omega)]
          refine iteT ?_
          refine ⟨_, rfl, _, rfl, (by show 2 ≤ sizeLine; decide), fun t ht => ⟨len1 _, fun a ha => mk_rs (r t _ ht (fun b o e => ?_) upd_same) a ha⟩⟩
          rw [upd_ne (ne_of_none e ht)]
          exact e
        · obtain rfl : i = (i' : Int) := V.int.inj e1
          have g0 : 0 < Nat.gcd i' j := Nat.gcd_pos_of_pos_right i' j0
          have g1 : Nat.gcd i' j ≤ j := Nat.gcd_le_right i' j0
          have dv : ∀ z : Int, CDivW z ((Nat.gcd i' j : Nat) : Int) := fun z => wide_div (b := 80) (by omega) (by rw [Int.natAbs_natCast]; omega) (by decide) (by decide)
          refine iteF ?_
          refine ⟨_, rfl, _, _, rfl, rfl, _, rfl, ?_⟩
          rw [decide_eq_false (show ¬ (j : Int) < 1 by omega)]
          refine iteF ?_
          refine ⟨_, rfl, _, rfl, _, _, rfl, rfl, _, rfl, ?_⟩
          rw [decide_eq_false (show ¬ (j : Int) < i' by omega)]
          refine iteF ?_
          exact ⟨_, rfl, _, rfl, (i' : Int), (j : Int), rfl, _, rfl, _, rfl, _, _, rfl, rfl, dv _, _, rfl, _, rfl, _, _, rfl, rfl, dv _, (by show 2 ≤ sizeLine; decide), fun t ht => q t ht⟩
theorem scAtMost : FnScope ["x", "y"] ["x", "y"] (defScope sAtMost) := ⟨rfl, rfl, rfl, by decide +kernel, rfl, by decide +kernel, by decide +kernel⟩
theorem cl_atmost (D : DefAt K mg "at_most" sAtMost) (cK : Cl (L2.CX P w) P w K mg base 4 "check_degree" ["thing"] (spCheck C)) : Cl (L2.CX P w) P w K mg base 5 "at_most" ["x", "y"] (spAtMost C) := by
  obtain ⟨f, fd, F, hm⟩ := D
  refine cl_of F hm (F.ok scAtMost (fun vs H Q E h => ?_) (fun cdv A outer s H vs Q E hr h => ⟨_, pss_cons
      (ps_expr (pe_cS cK hr (Nat.le_refl 4) (takes_of rfl rfl rfl rfl) (by rfl) (pa_cons (pv 0) pa_nil)))
      (pss_cons (ps_expr (pe_cS cK hr (Nat.le_refl 4) (takes_of rfl rfl rfl rfl) (by rfl) (pa_cons (pv 1) pa_nil)))
      (pss_one (ps_ret (pe_cmpR op_le (pe_op op_mul (pe_ix ix_tup (pv 0) pe_int (fun _ _ => rfl)) (pe_ix ix_tup (pv 1) pe_int (fun _ _ => rfl))) (pe_op op_mul (pe_ix ix_tup (pv 1) pe_int (fun _ _ => rfl)) (pe_ix ix_tup (pv 0) pe_int (fun _ _ => rfl))) (nomark _))))), ?_⟩)) fun _ _ _ _ _ _ us hl => match us, hl with | [_, _], _ => rfl
  · obtain ⟨x, y, b, rfl, _⟩ := h
    rfl
  · obtain ⟨x, y, b, rfl, hx, r, q⟩ := h
    refine ⟨_, rfl, x, b, rfl, hx, fun hb => ?_, fun hb => ?_⟩
    · obtain ⟨b', hy, r', q'⟩ := q hb
      refine ⟨_, rfl, y, b', rfl, hy, fun hb' => ?_, fun hb' => ?_⟩
      · obtain ⟨t, u, a, b, c, d, rfl, rfl, ht, hu, hb1, hd1, qq⟩ := q' hb'
        refine ⟨_, rfl, t, _, _, _, rfl, rfl, SqT.of ht, rfl, _, rfl, u, _, _, _, rfl, rfl, SqT.of hu, rfl, _, _, rfl, rfl, .inr ⟨by omega, by omega⟩, ?_⟩
        refine ⟨_, rfl, u, _, _, _, rfl, rfl, SqT.of hu, rfl, _, rfl, t, _, _, _, rfl, rfl, SqT.of ht, rfl, _, _, rfl, rfl, .inr ⟨by omega, by omega⟩, _, _, rfl, rfl, ?_⟩
        have e : decide ((a : Int) * (d : Int) ≤ (c : Int) * (b : Int)) = decide (a * d ≤ c * b) := by
          rw [Bool.eq_iff_iff, decide_eq_true_iff, decide_eq_true_iff]
          exact_mod_cast Iff.rfl
        show Q (.bl (decide ((a : Int) * (d : Int) ≤ (c : Int) * (b : Int)))) H
        rw [e]
        exact qq
      · exact r' hb'
    · exact r hb
end
end G1
set_option maxHeartbeats 4000000
namespace G1
open PySem PySem.Spec PyProof.Rows L2
/-! ### try, its first clause with a name; further clauses, which are never asked -/
def endsWo (D : Ends) (i : Nat) : Ends := { nx := fun z G => D.nx (z.set i none) G, rt := D.rt, bk := fun z G => D.bk (z.set i none) G, ct := fun z G => D.ct (z.set i none) G }
def wFst (K : PySem.W.Frag) (c : Value) (i : Nat) (ts : Addr → Value → Option Addr → TS) (D : Ends) : WX := fun cls d σ H =>
  PySem.W.exmOne K cls c = some true ∧ ∀ a, H a = none → ts a cls d (endsWo D i) (σ.set i (some (.ref a))) H
section
variable {X : Cx} {x n : Str} {c : Value} {i : Nat} {body suite : List Stmt} {st0 : Stmt} {np pos hp : Pos} {more : List ExceptHandler} {tb : WX → TS} {ts : Addr → Value → Option Addr → TS}
theorem ps_try_first (stk : X.stack = X.env :: X.outer) (frm : X.env.frame = some X.env.locals) (nod : X.N.Nodup) (atI : X.N[i]? = some n) (loc : X.env.kindOf n = some .local) (nms : Names X x c)
    (hBody : ∀ (W : WX) (xs : List (Addr × Obj)) (xe : Value → Shared → Prop), Takes (X.tr xs xe) W → PassesOwn (model X.prog X.w) X.A X.env xe → PSs (X.tr xs xe) body (tb W))
    (hSuite : ∀ (a : Addr) (oe : Obj) (cls : Value) (d : Option Addr) (xs : List (Addr × Obj)), Zc cls d oe → (∃ vs, oe.data = .fields vs) → PSs (X.suite a ((a, oe) :: xs)) (st0 :: suite) (ts a cls d)) :
    PS X (.Try body (.ExceptHandler (some (.Name x np)) (some n) (st0 :: suite) hp :: more) [] [] pos) (fun D σ H => tb (wFst X.K c i ts D) D σ H) := by
  constructor
  intro pins s σ H D I h
  have okX := I.ok
  have frs' : X.A.frames = some (X.env :: X.outer) := okX.frames.trans (congrArg some stk)
  apply wpAny_Try_except
  refine wpAny_mono ((hBody (wFst X.K c i ts D) (X.pn ++ pins) (fun e t1 => wpAny (model X.prog X.w) X.A (noteFrame e X.env) (fun _ t2 => wpAny (model X.prog X.w) X.A (setFlight e none) (fun _ t3 =>
    wpAny (model X.prog X.w) X.A (handleBy e X.env (.ExceptHandler (some (.Name x np)) (some n) (st0 :: suite) hp :: more)) (SP X pins D) X.xe t3) X.xe t2) X.xe t1) ?_ PassesOwn.looking).run [] s σ H D (I.toTry _) h) ?_ (fun _ _ z => z)
  · rintro u s' ⟨a, B, sI, pins', σ', H', cls, d, rfl, J', nb, up, sky, na, os, ag, te, go⟩
    have J : Inv X pins σ' H' sI := J'.ofTry okX
    rw [stk] at sky
    refine Sky.land Zc.steady frs' frm sky fun h3 fl3 up3 => ?_
    have J3 : Inv X pins σ' H' { s' with heap := h3 } := J.landed nb fl3.1 (up.trans up3) os ag
    obtain ⟨o3, v3, g3, z3, d3⟩ := fl3.there
    have out : ∀ {k : Heap} {o : Obj} {vs : Array Value}, k.FunFrames B (X.env :: X.outer) → k.get? a = some o → o.data = .fields vs → a ∉ frs (X.env :: X.outer) := by
      intro k o vs ff e dd hm
      obtain ⟨_, o', e', hn⟩ := ff.mem hm
      rw [e] at e'
      cases e'
      exact hn _ dd
    have out3 := out fl3.2.2.1 g3 d3
    have nL : a ≠ X.env.locals := by
      intro z
      exact out3 (List.mem_filterMap.mpr ⟨X.env, List.mem_cons_self, by rw [frm, z]⟩)
    have nF : a ∉ X.fs := by
      intro hm
      obtain ⟨e, he, q⟩ := List.mem_filterMap.mp hm
      exact out3 (List.mem_filterMap.mpr ⟨e, List.mem_cons_of_mem _ he, q⟩)
    have S3 := J3.suite g3 d3 na nL nF
    refine wpAny_handleBy_cons (codeAny_handlers_test ?_) (fun q => by cases q)
    have LT : PySem.W.Looks (model X.prog X.w) h3 (typeOf (.ref a)) cls := fun _ _ _ _ k q => wpAny_typeOf_ref (k _ _ g3) (z3.1.symm ▸ q)
    have LM := PySem.W.exm_one (M := model X.prog X.w) J3.kIn LT te
    have tst : ∀ {Q E : Value → Shared → Prop}, Q c { s' with heap := h3 } → wpAny (model X.prog X.w) (X.A.mark (some (.ref a))) (eval (.Name x np) X.env) Q E { s' with heap := h3 } := by
      intro Q E q
      obtain ⟨hg, hdb, hm | ⟨hm, hv, hnn⟩⟩ := nms
      · exact ld_glob (X := X.suite a ((a, o3) :: (X.pn ++ pins))) S3 hg hm q hdb
      · exact ld_blt (X := X.suite a ((a, o3) :: (X.pn ++ pins))) S3 hg hm hv q hnn hdb
    refine tst (LM.here ?_)
    refine codeAny_handlers_suite_as (HandSPX.lands_againZ fl3 fun h4 fl4 up4 => ?_)
    have J4 : Inv X pins σ' H' { s' with heap := h4 } := J.landed nb fl4.1 ((up.trans up3).trans up4) os ag
    obtain ⟨o4, v4, g4, z4, d4⟩ := fl4.there
    have S4 := J4.suite g4 d4 na nL nF
    refine store_ok (X := X.suite a ((a, o4) :: (X.pn ++ pins))) (v := .ref a) S4 nod atI (.inl loc) rfl (fun s5 S5 => ?_) (.inr loc)
    refine wpAny_mono ((hSuite a o4 cls d (X.pn ++ pins) z4 ⟨_, d4⟩).run [] s5 _ H' _ S5 (go a na)) ?_ (fun _ _ z => z.elim)
    intro f s6 hsp
    have fin : ∀ {y : L2.St} {G : Hp} {Q : Shared → Prop}, Inv (X.suite a ((a, o4) :: (X.pn ++ pins))) [] y G s6 → (∀ s7, Inv X pins (y.set i none) G s7 → Q s7) →
        wpAny (model X.prog X.w) X.A (do bindName X.env n .none; unbindBehindTheSuite X.env n hp) (fun _ s7 => Q s7) X.xe s6 := fun S6 hq => gone_ok (S6.unsuite okX) nod atI loc hq
    cases f with
    | next =>
      obtain ⟨y, G, S6, q6⟩ := hsp
      exact fin S6 fun _ J7 => ⟨_, _, J7, q6⟩
    | brk =>
      obtain ⟨y, G, S6, q6⟩ := hsp
      exact fin S6 fun _ J7 => ⟨_, _, J7, q6⟩
    | cont =>
      obtain ⟨y, G, S6, q6⟩ := hsp
      exact fin S6 fun _ J7 => ⟨_, _, J7, q6⟩
    | ret u =>
      obtain ⟨v, y, G, S6, r6, q6⟩ := hsp
      exact fin S6 fun _ J7 => ⟨_, _, _, J7, r6, q6⟩
  · intro f s1 hsp
    cases f with
    | next =>
      obtain ⟨y, G, J', q⟩ := hsp
      exact wpAny_execs_nil ⟨y, G, J'.ofTry okX, q⟩
    | brk =>
      obtain ⟨y, G, J', q⟩ := hsp
      exact ⟨y, G, J'.ofTry okX, q⟩
    | cont =>
      obtain ⟨y, G, J', q⟩ := hsp
      exact ⟨y, G, J'.ofTry okX, q⟩
    | ret u =>
      obtain ⟨v, y, G, J', r, q⟩ := hsp
      exact ⟨v, y, G, J'.ofTry okX, r, q⟩
end
/-! ### _law_caught -/
def okC (Q : VK) : VK := fun _ H' => Q .non H'
def erC (C : Addr) (Q : VK) : XK := fun cls d H' => cls = .ref C ∧ ∃ (dd : Addr) (v : V), d = some dd ∧ H' dd = some (.xd [(("thing" : Str), v)]) ∧ ∀ l, H' l = none → Q (.ref l) (upd H' l (.lst [v]))
structure CaughtP (C : Addr) (vs : List V) (H : Hp) (Q : VK) : Prop where
  ex : ∃ (k : Int) (x y : V), vs = [.int k, x, y] ∧ ((k = 0 ∧ spDegree C [x, y] H (okC Q) (erC C Q)) ∨ (k ≠ 0 ∧ spAtMost C [x, y] H (okC Q) (erC C Q)))
def spCaught (C : Addr) : Sp := fun vs H Q _ => CaughtP C vs H Q
section
variable {P : Program} {w : World} {K : PySem.W.Frag} {mg : Str → Option Value} {base : Heap} {C fI : Addr}
theorem spDegree_imp {vs : List V} {H : Hp} {Q Q' : VK} {E E' : XK} (h : spDegree C vs H Q E) (hq : ∀ v H', Q v H' → Q' v H') (he : ∀ c d H', E c d H' → E' c d H') : spDegree C vs H Q' E' := by
  obtain ⟨x, y, rfl, kx, ky, h⟩ := h
  refine ⟨x, y, rfl, kx, ky, ?_⟩
  rcases h with ⟨h1, r⟩ | ⟨h1, h2, r⟩ | ⟨i, j, e1, e2, h1, h2, r⟩ | ⟨i, j, e1, e2, h1, h2, h3, q⟩
  · exact .inl ⟨h1, r.imp he⟩
  · exact .inr (.inl ⟨h1, h2, r.imp he⟩)
  · exact .inr (.inr (.inl ⟨i, j, e1, e2, h1, h2, fun t H1 a b c => (r t H1 a b c).imp he⟩))
  · exact .inr (.inr (.inr ⟨i, j, e1, e2, h1, h2, h3, fun t ht => hq _ _ (q t ht)⟩))
theorem spAtMost_imp {vs : List V} {H : Hp} {Q Q' : VK} {E E' : XK} (h : spAtMost C vs H Q E) (hq : ∀ v H', Q v H' → Q' v H') (he : ∀ c d H', E c d H' → E' c d H') : spAtMost C vs H Q' E' := by
  obtain ⟨x, y, b, rfl, hx, r, q⟩ := h
  refine ⟨x, y, b, rfl, hx, fun hb => (r hb).imp he, fun hb => ?_⟩
  obtain ⟨b', hy, r', q'⟩ := q hb
  refine ⟨b', hy, fun hb => (r' hb).imp he, fun hb => ?_⟩
  obtain ⟨t, u, a, b, c, d, e1, e2, e3, e4, e5, e6, qq⟩ := q' hb
  exact ⟨t, u, a, b, c, d, e1, e2, e3, e4, e5, e6, hq _ _ qq⟩
theorem scCaught : FnScope ["kind", "one", "second", "caught", "error"] ["kind", "one", "second"] (defScope sCaught) := ⟨rfl, rfl, rfl, by decide +kernel, rfl, by decide +kernel, by decide +kernel⟩
theorem cl_caught (D : DefAt K mg "_law_caught" sCaught) (T : ErrTxt K mg C fI) (cD : Cl (L2.CX P w) P w K mg base 4 "degree" ["top", "bottom"] (spDegree C)) (cA : Cl (L2.CX P w) P w K mg base 5 "at_most" ["x", "y"] (spAtMost C)) :
    Cl CX0 P w K mg base 6 "_law_caught" ["kind", "one", "second"] (spCaught C) := by
  obtain ⟨f, fd, F, hm⟩ := D
  refine cl_of F hm (F.ok scCaught (fun vs H Q E h => ?_) (fun cdv A outer s H vs Q E hr h => ⟨_, PSs.nox (pss_cons
      (ps_set (i := 3) scCaught.nd rfl (Or.inl rfl) pe_non)
      (pss_cons (ps_try_first (i := 4) rfl rfl scCaught.nd rfl rfl ⟨rfl, by decide, .inl T.gC⟩
          (fun W xs xe tk _ => pss_one (ps_if (pt_cmpR op_eq (pv 0) pe_int (nomark _))
            (pss_one (ps_expr (pe_cS cD hr (by decide) tk (by rfl) (pa_cons (pv 1) (pa_cons (pv 2) pa_nil)))))
            (pss_one (ps_expr (pe_cS cA hr (by decide) tk (by rfl) (pa_cons (pv 1) (pa_cons (pv 2) pa_nil)))))))
          (fun a oe cls d xs hz hf => pss_one (ps_set (i := 3) scCaught.nd rfl (Or.inl rfl) (pe_lst (pa_cons (pe_xf T.xf T.no hz hf (pv 4)) pa_nil)))))
      (pss_one (ps_ret (pv 3))))), ?_⟩)) fun _ _ _ _ _ _ us hl => match us, hl with | [_, _, _], _ => rfl
  · obtain ⟨k, x, y, rfl, _⟩ := (show CaughtP C vs H Q from h).ex
    rfl
  · have h0 := (show CaughtP C vs H Q from h).ex
    clear h
    obtain ⟨k, x, y, rfl, h⟩ := h0
    have hW : ∀ (c : Value) (d : Option Addr) (H' : Hp), erC C Q c d H' → True := fun _ _ _ _ => trivial
    refine ⟨_, rfl, rfl, _, rfl, ?_⟩
    rcases h with ⟨rfl, h⟩ | ⟨hk, h⟩
    · have e : decide (V.int 0 = V.int 0) = true := by simp
      show if decide (V.int 0 = V.int 0) = true then _ else _
      rw [e]
      refine iteT ?_
      refine ⟨_, rfl, _, rfl, ?_⟩
      dsimp only [tNil]
      refine spDegree_imp h (fun v H' q => ⟨_, rfl, q⟩) fun c d H' q => ?_
      obtain ⟨rfl, dd, v, rfl, hd, q⟩ := q
      exact ⟨T.te, fun a ha => ⟨_, rfl, rfl, rfl, dd, _, v, rfl, hd, by simp [List.lookup], (by show 1 ≤ sizeLine; decide), fun l hl => ⟨_, rfl, q l hl⟩⟩⟩
    · have e : decide (V.int k = V.int 0) = false := by simp [hk]
      show if decide (V.int k = V.int 0) = true then _ else _
      rw [e]
      refine iteF ?_
      refine ⟨_, rfl, _, rfl, ?_⟩
      dsimp only [tNil]
      refine spAtMost_imp h (fun v H' q => ⟨_, rfl, q⟩) fun c d H' q => ?_
      obtain ⟨rfl, dd, v, rfl, hd, q⟩ := q
      exact ⟨T.te, fun a ha => ⟨_, rfl, rfl, rfl, dd, _, v, rfl, hd, by simp [List.lookup], (by show 1 ≤ sizeLine; decide), fun l hl => ⟨_, rfl, q l hl⟩⟩⟩
end
end G1
set_option maxHeartbeats 4000000
namespace G1
open PySem PySem.Spec PyProof.Rows L2
/-! ### data that str writes -/
mutual
inductive Dq (H : Hp) : V → PyData → Prop
  | non : Dq H .non .none
  | bl (b : Bool) : Dq H (.bl b) (.bool b)
  | int (i : Int) : Dq H (.int i) (.int i)
  | str (x : Str) : Dq H (.str x) (.str x)
  | lst {a : Addr} {xs : List V} {ds : List PyData} : H a = some (.lst xs) → DqAll H xs ds → Dq H (.ref a) (.list ds)
  | tup {a : Addr} {xs : List V} {ds : List PyData} : H a = some (.tup xs) → DqAll H xs ds → Dq H (.ref a) (.tuple ds)
  | dk {a : Addr} : H a = some (.dK []) → Dq H (.ref a) (.dict [])
inductive DqAll (H : Hp) : List V → List PyData → Prop
  | nil : DqAll H [] []
  | cons {v : V} {vs : List V} {d : PyData} {ds : List PyData} : Dq H v d → DqAll H vs ds → DqAll H (v :: vs) (d :: ds)
end
mutual
theorem Dq.same {H H' : Hp} (s : Same H H') : ∀ (d : PyData) (v : V), Dq H v d → Dq H' v d
  | .none, _, h => by cases h; exact .non
  | .bool b, _, h => by cases h; exact .bl b
  | .int i, _, h => by cases h; exact .int i
  | .str x, _, h => by cases h; exact .str x
  | .list ds, _, h => by
    cases h with
    | lst e k => exact .lst (s _ _ e) (DqAll.same s ds _ k)
  | .tuple ds, _, h => by
    cases h with
    | tup e k => exact .tup (s _ _ e) (DqAll.same s ds _ k)
  | .dict _, _, h => by
    cases h with
    | dk e => exact .dk (s _ _ e)
theorem DqAll.same {H H' : Hp} (s : Same H H') : ∀ (ds : List PyData) (vs : List V), DqAll H vs ds → DqAll H' vs ds
  | [], _, h => by cases h; exact .nil
  | d :: ds, _, h => by
    cases h with
    | cons h1 h2 => exact .cons (Dq.same s d _ h1) (DqAll.same s ds _ h2)
end
section
variable {X : Cx} {pins : List (Addr × Obj)} {σ : L2.St} {H : Hp} {s : Shared}
mutual
theorem Dq.reads (I : Inv X pins σ H s) (hm : H sysModules = none) : ∀ (d : PyData) (v : V) (u : Value), Dq H v d → RelV v u → ∃ as, Reads s.heap u d as ∧ sysModules ∉ as
  | .none, _, _, h, r => by
    cases h
    cases r
    exact ⟨_, Reads.none, by simp⟩
  | .bool b, _, _, h, r => by
    cases h
    cases r
    exact ⟨_, Reads.bool b, by simp⟩
  | .int i, _, _, h, r => by
    cases h
    obtain ⟨t, rfl⟩ := r
    exact ⟨_, Reads.int i t, by simp⟩
  | .str x, _, _, h, r => by
    cases h
    obtain ⟨t, rfl⟩ := r
    exact ⟨_, Reads.str x t, by simp⟩
  | .list ds, _, _, h, r => by
    cases h with
    | @lst a xs _ e k =>
      cases r
      obtain ⟨_, its, n, rv, g⟩ := (show ObjOk X.prog X.w H s.heap a (.lst xs) from I.hok a _ e)
      obtain ⟨as, hr, hn⟩ := DqAll.reads I hm ds _ its k rv
      refine ⟨_, Reads.list g rfl rfl (by simpa using hr), fun q => ?_⟩
      rcases List.mem_cons.mp q with q | q
      · rw [← q, hm] at e
        cases e
      · exact hn q
  | .tuple ds, _, _, h, r => by
    cases h with
    | @tup a xs _ e k =>
      cases r
      obtain ⟨_, its, rv, o, g1, g2, n, g3⟩ := (show ObjOk X.prog X.w H s.heap a (.tup xs) from I.hok a _ e)
      obtain ⟨as, hr, hn⟩ := DqAll.reads I hm ds _ its k rv
      exact ⟨_, Reads.tuple g1 g2 g3 (by simpa using hr), hn⟩
  | .dict _, _, _, h, r => by
    cases h with
    | @dk a e =>
      cases r
      obtain ⟨_, _, vs, rv, o, es, ep, g1, g2, g3, g4, g5, _⟩ := (show ObjOk X.prog X.w H s.heap a (.dK []) from I.hok a _ e)
      cases rv
      have e0 : es.toList = [] := by
        generalize es.toList = l at g5
        cases g5
        rfl
      refine ⟨_, Reads.dict g1 g2.1 g3 (as := []) (bs := []) (by rw [e0]; exact ReadsAll.nil) (by rw [e0]; exact ReadsAll.nil), fun q => ?_⟩
      have q2 : sysModules = a := by simpa using q
      rw [← q2, hm] at e
      cases e
theorem DqAll.reads (I : Inv X pins σ H s) (hm : H sysModules = none) : ∀ (ds : List PyData) (vs : List V) (us : List Value), DqAll H vs ds → Vals vs us → ∃ as, ReadsAll s.heap us ds as ∧ sysModules ∉ as
  | [], _, _, h, r => by
    cases h
    cases r
    exact ⟨_, ReadsAll.nil, by simp⟩
  | d :: ds, _, _, h, r => by
    cases h with
    | cons h1 h2 =>
      cases r with
      | cons r1 r2 =>
        obtain ⟨as, q1, n1⟩ := Dq.reads I hm d _ _ h1 r1
        obtain ⟨bs, q2, n2⟩ := DqAll.reads I hm ds _ _ h2 r2
        exact ⟨_, ReadsAll.cons q1 q2, fun q => (List.mem_append.mp q).elim n1 n2⟩
end
end
structure Small (d : PyData) : Prop where
  sh : d.showable = true
  lv : d.leavesShort 100 = true
  wt : d.weight ≤ 10000
  dp : d.depth ≤ 50
theorem call_str_dat {X : Cx} (gd : X.A.guards = some []) (hu : X.A.units + 64 < cLine) (hm : ∃ o, X.K.lookup sysModules = some o) : CallR X (.type "str") (fun xs H Q => ∃ (a : Addr) (d : PyData), xs = [.ref a] ∧ Dq H (.ref a) d ∧ Small d ∧ Q (.str d.shown) H) := by
  intro pins s σ H xs us Q I r h
  obtain ⟨a, d, rfl, hd, sm, q⟩ := h
  cases r with
  | cons r1 r2 =>
    cases r2
    cases r1
    obtain ⟨o, ho⟩ := hm
    have hn : H sysModules = none := (I.bs sysModules o (I.ok.mod.kin _ _ ho)).2
    obtain ⟨as, hr, na⟩ := Dq.reads I hn d _ _ hd rfl
    have h1 := PyData.shown_le 100 (by decide) d sm.lv
    have h2 := sm.wt
    have h3 : (100 + 2) * d.weight ≤ 102 * 10000 := Nat.mul_le_mul (by decide) h2
    have h4 := sm.dp
    refine str_of_reads hr sm.sh (fun _ => na) gd (by omega) (fun _ _ e => e) (fun h' u tk hk => ?_) (by rw [sizeLine_eq]; omega)
    exact ⟨.str d.shown, H, I.kept (t' := tk) hk, ⟨_, rfl⟩, q⟩
/-! ### a def's promise where no repr is under way -/
structure FnG (CX : CXT) (P : Program) (w : World) (K : PySem.W.Frag) (mg : Str → Option Value) (base : Heap) (k : Nat) (f : Addr) (fd : FuncData) (ps : List Str) (sp : Sp) : Prop where
  len : ∀ vs H Q E, sp vs H Q E → vs.length = ps.length
  run : ∀ (A : Around) (outer : List Env) (s : Shared) (H : Hp) (args : Args) (us : List Value) (vs : List V) (Q : VK) (E : XK),
    A.guards = some [] → Room k A → Env0 P w K mg base A outer s H → BindsTo s fd args (ps.zip us) → Vals vs us → sp vs H Q E → codeAny (model P w) A (.call (.ref f) args) (CR CX outer P w H s Q E) s
section
variable {P : Program} {w : World} {K : PySem.W.Frag} {mg : Str → Option Value} {base : Heap} {f : Addr} {fd : FuncData} {x qual : Str} {params : Arguments} {body : List Stmt} {scope : Scope} {dvs : List V} {kws : List (Str × V)}
theorem okG {CX : CXT} {N ps : List Str} {k : Nat} {sp : Sp} (F : FunD K x qual params body scope dvs kws f fd) (S : FnScope N ps scope) (len : ∀ vs H Q E, sp vs H Q E → vs.length = ps.length)
    (hb : ∀ (cdv : Value) (A : Around) (outer : List Env) (s : Shared) (H : Hp) (vs : List V) (Q : VK) (E : XK), A.guards = some [] → Room k (A.deeper (envOfC qual scope s.heap.objs.size f cdv)) → sp vs H Q E →
      ∃ t, PSs (cxOf CX P w K mg base N qual scope f cdv A outer s H E) body t ∧ t { nx := fun _ H' => Q .non H', rt := Q } (start N vs) H) : FnG CX P w K mg base (k + 1) f fd ps sp := by
  obtain ⟨oc, od, dV, kV, doc, pm, an, cdv, ct, osl, rfl, lk, hcd, _, _⟩ := F.ex
  constructor
  · exact len
  · intro A outer s H args us vs Q E gd hr e0 bind r hsp
    have old : ∀ b o, base.get? b = some o → s.heap.get? b = some o := fun b o e => (e0.bs b o e).1
    have kin : K.In s.heap := e0.mod.kin.keeps old
    have lim : s.heap.NoLimit := e0.mod.nolimit.keeps old
    have kinds : ∀ y ∈ ps.zip us, scope.names.lookup y.1 = some .local ∨ (scope.names.lookup y.1 = some .cell ∧ ((cellsFrom (s.heap.objs.size + 1) scope.names []).lookup y.1).isSome = true) := by
      rintro ⟨n, v⟩ hy
      cases S.par n (List.of_mem_zip hy).1 with
      | inl q => exact .inl q
      | inr q => exact .inr ⟨q, PySem.W.cellsFrom_some _ _ _ (.inl q)⟩
    apply codeAny_call_function hr.depth (kin _ _ lk) rfl S.co S.gen rfl (PySem.W.codeRec_of kin hcd)
    apply bind
    apply wpAny_newFunctionEnv_cells S.kind kinds
    intro env he s1 y
    subst he
    refine ⟨lim.keeps y.toInCall.keep, codeAny_func ?_⟩
    obtain ⟨t, ht, hq⟩ := hb cdv A outer s H vs Q E gd (hr.deeper _) hsp
    have I : Inv (cxOf CX P w K mg base N qual scope f cdv A outer s H E) [] (start N vs) H s1 := inv_start S hr.hd e0 (len _ _ _ _ hsp) r y
    refine wpAny_mono (ht.run [] s1 (start N vs) H _ I hq) ?_ (fun _ _ z => z)
    intro fl s' hs
    cases fl with
    | ret u =>
      obtain ⟨v, σ', H', J, rv, q⟩ := hs
      exact ⟨v, H', J.os, J.bare, J.base, J.hok, rv, q⟩
    | next =>
      obtain ⟨σ', H', J, q⟩ := hs
      exact ⟨V.non, H', J.os, J.bare, J.base, J.hok, rfl, q⟩
    | brk =>
      obtain ⟨_, _, _, q⟩ := hs
      exact q.elim
    | cont =>
      obtain ⟨_, _, _, q⟩ := hs
      exact q.elim
/-- called by its name -/
structure ClG (CX : CXT) (P : Program) (w : World) (K : PySem.W.Frag) (mg : Str → Option Value) (base : Heap) (k : Nat) (x : Str) (ps : List Str) (sp : Sp) : Prop where
  ex : ∃ (f : Addr) (fd : FuncData), FnG CX P w K mg base k f fd ps sp ∧ mg x = some (.ref f) ∧ PySem.W.keepIn K (.ref f) = true ∧ Binds K fd ps []
end
section
variable {X : Cx} {k j : Nat} {x : Str} {ps : List Str} {sp : Sp} {p pos : Pos} {e : Expr} {es : List Expr} {t : TA}
theorem pe_cG (c : ClG CX0 X.prog X.w X.K X.mg X.base k x ps sp) (gd : X.A.guards = some []) (hr : Room j X.A) (hk : k ≤ j) (hg : Gl X x) (ha : PA X (e :: es) t)
    (hdb : (x == ("__debug__" : Str)) = false := by decide) (he : starEach (e :: es) X.env = (false, eval e X.env) :: starEach es X.env := by rfl) (hpl : (backTo pos (starEach es X.env)).any (·.1) = false := by rfl) :
    PE X (.Call (.Name x p) (e :: es) [] pos) (tCall sp [] E0 t) := by
  obtain ⟨f, fd, F, hm, kp, b⟩ := c.ex
  constructor
  intro pins s σ H Q I h
  apply wpAny_Call_Name_kw
  apply ld_glob I hg hm _ hdb
  apply PySem.W.callWith_K (h₀ := X.base) I.ok.mod.kin kp _ he hpl
  apply thn (ha.run pos pins s σ H _ I h)
  rintro us s1 ⟨vs, H1, I1, r, q⟩
  refine ⟨I1.kIn, wpAny_call ?_⟩
  have q' : sp vs H1 Q E0 := by
    have q0 : sp (vs ++ []) H1 Q E0 := q
    rw [List.append_nil] at q0
    exact q0
  have hl : us.length = ps.length := r.length.symm.trans (F.len _ _ _ _ q')
  have bb := b s1 us I1.kIn (by rw [List.append_nil]; exact hl)
  rw [List.append_nil] at bb
  refine codeAny_mono (F.run X.A X.stack s1 H1 ⟨us, []⟩ us vs Q E0 gd (hr.mono hk) I1.env0 bb r q') ?_
  intro rr s' hq
  cases rr with
  | error e => exact hq.elim
  | ok fl =>
    cases fl with
    | ret u => exact I1.after hq
    | next => exact hq.elim
    | brk => exact hq.elim
    | cont => exact hq.elim
end
/-! ### the law's own call -/
theorem script_heap {P : Program} {w : World} {K : PySem.W.Frag} {h : Heap} {a : Addr} {vs : List Value} {ns : List Int} (KX : K.In h) (ha : h.get? a = some { cls := .type "list", data := .seq vs.toArray }) (hi : IntsAre vs ns) (hl : ns.length ≤ sizeLine) :
    ∃ H : Hp, SqL K H a (ns.map V.int) ∧ HOk P w H h ∧ (∀ b o, H b = some o → b = a ∧ (∃ ob xs, o = .frz ob (.lst xs)) ∧ K.lookup b = none) := by
  have rv := vals_ints hi
  cases hk : K.lookup a with
  | some o =>
    have e := KX a o hk
    rw [ha] at e
    cases e
    refine ⟨fun _ => none, .inr ⟨_, vs.toArray, _, hk, rfl, rfl, rfl, ?_, by simpa using rv⟩, ?_, ?_⟩
    · rw [List.size_toArray, hi.length]
      exact hl
    · intro b u z
      have z' : (none : Option HO) = some u := z
      cases z'
    · intro b u z
      have z' : (none : Option HO) = some u := z
      cases z'
  | none =>
    refine ⟨fun b => if b = a then some (.frz { cls := .type "list", data := .seq vs.toArray } (.lst (ns.map V.int))) else none, .inl (.inr ⟨{ cls := .type "list", data := .seq vs.toArray }, if_pos rfl⟩), fun b u z => ?_, fun b o z => ?_⟩
    · by_cases hb : b = a
      · subst hb
        have z' : some (HO.frz { cls := .type "list", data := .seq vs.toArray } (.lst (ns.map V.int))) = some u := (if_pos rfl).symm.trans z
        cases z'
        exact ⟨ha, by rw [List.length_map]; exact hl, vs, _, rv, ha⟩
      · have z' := (if_neg hb).symm.trans z
        cases z'
    · by_cases hb : b = a
      · subst hb
        have z' : some (HO.frz { cls := .type "list", data := .seq vs.toArray } (.lst (ns.map V.int))) = some o := (if_pos rfl).symm.trans z
        cases z'
        exact ⟨rfl, ⟨_, _, rfl⟩, hk⟩
      · have z' := (if_neg hb).symm.trans z
        cases z'
theorem law_callG {P : Program} {w : World} {K : PySem.W.Frag} {mg mb : Str → Option Value} {k : Nat} {fa a : Addr} {fd : FuncData} {x : Str} {sp : Sp} {s₁ : Shared} {vs : List Value} {ns : List Int}
    (KX : K.In s₁.heap) (hns : s₁.heap.Ns mainGlobals mg) (hb : s₁.heap.Ns builtinsNs mb) (hbb : ∀ y : Str, y ≠ "__name__" → mb y = bootBuiltins y) (hlim : s₁.heap.NoLimit) (hg : s₁.gens = #[])
    (ha : s₁.heap.get? a = some { cls := .type "list", data := .seq vs.toArray }) (hi : IntsAre vs ns) (hl : ns.length ≤ sizeLine) (hr : Room k callerA)
    (F : ∀ base : Heap, K.In base → base.Ns mainGlobals mg → FnG CX0 P w K mg base k fa fd [x] sp) (hbind : ∀ (s : Shared) (u : Value), BindsTo s fd ⟨[u], []⟩ [(x, u)])
    (hsp : ∀ H : Hp, SqL K H a (ns.map V.int) → sp [.ref a] H (fun v _ => v = .bl true) E0) :
    codeAny (model P w) callerA (.call (.ref fa) ⟨[.ref a], []⟩) (fun r s' => r = .ok (.ret (.bool true)) ∧ OldK s₁.heap s'.heap ∧ s'.os = s₁.os ∧ AllBare s'.gens) s₁ := by
  obtain ⟨H, hS, hok, hA⟩ := script_heap (P := P) (w := w) KX ha hi hl
  have free : ∀ {b : Addr} {o : Obj} {es : Array DictEntry} {ep : Nat}, s₁.heap.get? b = some o → o.data = .dict es ep → H b = none := by
    intro b o es ep e d
    cases q : H b with
    | none => rfl
    | some u =>
      obtain ⟨e', _, _⟩ := hA b u q
      rw [e', ha] at e
      cases e
      have d' : Data.seq vs.toArray _ = Data.dict es ep := d
      cases d'
  have nsB : ∀ {b : Addr} {m : Str → Option Value}, s₁.heap.Ns b m → (hidT s₁.heap H).Ns b m := fun ⟨o, es, ep, e, d, r⟩ => ⟨o, es, ep, hidT_get e (free e d), d, r⟩
  have kB : K.In (hidT s₁.heap H) := by
    intro b o e
    refine hidT_get (KX b o e) ?_
    cases q : H b with
    | none => rfl
    | some u =>
      obtain ⟨_, _, z⟩ := hA b u q
      rw [z] at e
      cases e
  have md : Mod K mg (hidT s₁.heap H) := by
    obtain ⟨mc, h1, h2⟩ := hlim
    exact ⟨kB, nsB hns, ⟨mb, nsB hb, hbb⟩, ⟨mc, nsB h1, h2⟩⟩
  have e0 : Env0 P w K mg (hidT s₁.heap H) callerA [] s₁ H := {
    frames := rfl
    mod := md
    bs := fun b o e => of_hidT e
    bsz := Nat.le_of_eq (hidT_size _ _)
    funs := trivial
    frf := fun b hb => by cases hb
    hok := hok
    bare := .of_eq hg }
  refine codeAny_mono ((F _ kB (nsB hns)).run callerA [] s₁ H ⟨[.ref a], []⟩ [.ref a] [.ref a] _ _ rfl hr e0 (hbind s₁ (.ref a)) (.cons rfl .nil) (hsp H hS)) ?_
  intro r s' h
  cases r with
  | error e => exact h.elim
  | ok fl =>
    cases fl with
    | next => exact h.elim
    | brk => exact h.elim
    | cont => exact h.elim
    | ret u =>
      obtain ⟨v, H', os, bare, un, hok', r', q⟩ := h
      have q' : v = .bl true := q
      subst q'
      have r2 : u = Value.bool true := r'
      subst r2
      refine ⟨rfl, OldK.of_keep fun b o e => ?_, os, bare⟩
      cases q : H b with
      | none => exact un.keep b o e q (fun z => by cases z) (fun z => by cases z)
      | some u =>
        obtain ⟨_, ⟨ob, xs, rfl⟩, _⟩ := hA b u q
        obtain ⟨e1, _⟩ := hok b _ q
        obtain ⟨e2, _⟩ := hok' b _ (un.frzs b ob _ q)
        rw [e] at e1
        cases e1
        exact e2
end G1
set_option maxHeartbeats 4000000
namespace G1
open PySem PySem.Spec PyProof.Rows L2
/-! ### arguments by name alone -/
structure KB0 (K : PySem.W.Frag) (fd : FuncData) (ps ks : List Str) (g : List Value → List Value) (gV : List V → List V) : Prop where
  to : ∀ (s : Shared) (ws : List Value), ws.length = ks.length → BindsTo s fd ⟨[], ks.zip ws⟩ (ps.zip (g ws))
  rel : ∀ {zs : List V} {ws : List Value}, Vals zs ws → Vals (gV zs) (g ws)
def tCallW (n : Nat) (sp : Sp) (gV : List V → List V) (tk : TA) : TE := fun σ H Q => tk σ H fun zs H1 => zs.length = n ∧ sp (gV zs) H1 Q E0
section
variable {X : Cx} {k j : Nat} {x : Str} {ps ks : List Str} {sp : Sp} {p pos : Pos} {kws : List Keyword} {tk : TA} {f : Addr} {fd : FuncData} {g : List Value → List Value} {gV : List V → List V} {CX : CXT}
theorem pe_kw (F : FnOk X.prog X.w X.K X.mg X.base CX k f fd ps sp) (hr : Room j X.A) (hk : k ≤ j) (hg : Gl X x) (hm : X.mg x = some (.ref f)) (kp : PySem.W.keepIn X.K (.ref f) = true) (hb : KB0 X.K fd ps ks g gV) (hx : Passes CX X E0)
    (hkw : PK X kws tk) (hall : (backToKw pos (keywordEach kws X.env)).all (·.1.isSome) = true := by rfl) (hks : (backToKw pos (keywordEach kws X.env)).filterMap (·.1) = ks := by rfl)
    (hdb : (x == ("__debug__" : Str)) = false := by decide)
    (hpl : ((backTo pos (starEach [] X.env)).any (·.1) || (backToKw pos (keywordEach kws X.env)).any (·.1.isNone)) = false := by rfl) :
    PE X (.Call (.Name x p) [] kws pos) (tCallW ks.length sp gV tk) := by
  constructor
  intro pins s σ H Q I h
  apply wpAny_Call_Name_kw
  apply ld_glob I hg hm _ hdb
  apply PySem.W.callWith_KW0 (h₀ := X.base) I.ok.mod.kin kp hall _ hpl
  refine thn (hkw.run pos pins s σ H _ I h) ?_
  rintro ws s2 ⟨zs, H2, I2, rz, l2, q2⟩
  refine ⟨I2.kIn, ?_⟩
  rw [hks]
  refine wpAny_call (codeAny_mono (F.run X.A X.stack s2 H2 ⟨[], ks.zip ws⟩ (g ws) (gV zs) Q E0 (hr.mono hk) I2.env0 (hb.to s2 ws (rz.length.symm.trans l2)) (hb.rel rz) q2) ?_)
  intro r s' hq
  cases r with
  | error e => exact hx pins σ H2 s2 e s' I2 hq
  | ok fl =>
    cases fl with
    | ret u => exact I2.after hq
    | next => exact hq.elim
    | brk => exact hq.elim
    | cont => exact hq.elim
end
/-- a def that is called by names -/
structure ClK (CX : CXT) (P : Program) (w : World) (K : PySem.W.Frag) (mg : Str → Option Value) (base : Heap) (k : Nat) (x : Str) (ps : List Str) (sp : Sp) (ks : List Str) (gV : List V → List V) : Prop where
  ex : ∃ (f : Addr) (fd : FuncData) (g : List Value → List Value), FnOk P w K mg base CX k f fd ps sp ∧ mg x = some (.ref f) ∧ PySem.W.keepIn K (.ref f) = true ∧ KB0 K fd ps ks g gV
theorem clk_of {CX : CXT} {P : Program} {w : World} {K : PySem.W.Frag} {mg : Str → Option Value} {base : Heap} {k : Nat} {x : Str} {st : Stmt} {ps ks : List Str} {sp : Sp} {g : List Value → List Value} {gV : List V → List V} (c : Cl CX P w K mg base k x ps sp) (D : DefAt K mg x st)
    (h : ∀ (kV doc pm : Value) (an : Option Addr) (cdv ct : Value) (ws : List Value), ws.length = ks.length → bindArgs (PySem.W.fnOf x x (defArgs st) (defBody st) (defScope st) .none kV doc pm an cdv ct) ⟨[], ks.zip ws⟩ = pure (ps.zip (g ws)))
    (rel : ∀ {zs : List V} {ws : List Value}, Vals zs ws → Vals (gV zs) (g ws)) : ClK CX P w K mg base k x ps sp ks gV := by
  obtain ⟨f, fd, F, hm, kp, b, oc, od, osl, lk⟩ := c.ex
  obtain ⟨f', fd', F', hm'⟩ := D
  rw [hm] at hm'
  cases hm'
  obtain ⟨oc', od', dV, kV, doc, pm, an, cdv, ct, osl', e, lk', _, hD, _⟩ := F'.ex
  rw [lk] at lk'
  cases lk'
  rcases hD with ⟨_, rfl⟩ | ⟨z, _⟩
  · refine ⟨f, fd, g, F, hm, kp, ⟨fun s ws hl => ?_, rel⟩⟩
    rw [e]
    exact .of_eq (h kV doc pm an cdv ct ws hl)
  · exact absurd rfl z
section
variable {X : Cx} {k j : Nat} {x : Str} {ps ks : List Str} {sp : Sp} {p pos : Pos} {kws : List Keyword} {tk : TA} {gV : List V → List V}
theorem pe_kw0 (c : ClK CX0 X.prog X.w X.K X.mg X.base k x ps sp ks gV) (hr : Room j X.A) (hk : k ≤ j) (hg : Gl X x)
    (hkw : PK X kws tk) (hall : (backToKw pos (keywordEach kws X.env)).all (·.1.isSome) = true := by rfl) (hks : (backToKw pos (keywordEach kws X.env)).filterMap (·.1) = ks := by rfl)
    (hdb : (x == ("__debug__" : Str)) = false := by decide)
    (hpl : ((backTo pos (starEach [] X.env)).any (·.1) || (backToKw pos (keywordEach kws X.env)).any (·.1.isNone)) = false := by rfl) :
    PE X (.Call (.Name x p) [] kws pos) (tCallW ks.length sp gV tk) := by
  obtain ⟨f, fd, g, F, hm, kp, b⟩ := c.ex
  exact pe_kw F hr hk hg hm kp b pass0 hkw hall hks hdb hpl
theorem pe_kwX (c : ClK (L2.CX X.prog X.w) X.prog X.w X.K X.mg X.base k x ps sp ks gV) (hr : Room j X.A) (hk : k ≤ j) (hg : Gl X x)
    (hkw : PK X kws tk) (hall : (backToKw pos (keywordEach kws X.env)).all (·.1.isSome) = true := by rfl) (hks : (backToKw pos (keywordEach kws X.env)).filterMap (·.1) = ks := by rfl)
    (hdb : (x == ("__debug__" : Str)) = false := by decide)
    (hpl : ((backTo pos (starEach [] X.env)).any (·.1) || (backToKw pos (keywordEach kws X.env)).any (·.1.isNone)) = false := by rfl) :
    PE X (.Call (.Name x p) [] kws pos) (tCallW ks.length sp gV tk) := by
  obtain ⟨f, fd, g, F, hm, kp, b⟩ := c.ex
  exact pe_kw F hr hk hg hm kp b passL hkw hall hks hdb hpl
end
theorem rel1 {zs : List V} {ws : List Value} (r : Vals zs ws) : Vals (id zs) (id ws) := r
def flip2 {α : Type} : List α → List α
  | [b, t] => [t, b]
  | l => l
theorem rel2 {zs : List V} {ws : List Value} (r : Vals zs ws) : Vals (flip2 zs) (flip2 ws) := by
  cases r with
  | nil => exact .nil
  | cons r1 r2 =>
    cases r2 with
    | nil => exact .cons r1 .nil
    | cons r3 r4 =>
      cases r4 with
      | nil => exact .cons r3 (.cons r1 .nil)
      | cons r5 r6 => exact .cons r1 (.cons r3 (.cons r5 r6))
theorem kw_degree {CX : CXT} {P : Program} {w : World} {K : PySem.W.Frag} {mg : Str → Option Value} {base : Heap} {k : Nat} {sp : Sp} (c : Cl CX P w K mg base k "degree" ["top", "bottom"] sp) (D : DefAt K mg "degree" sDegree) : ClK CX P w K mg base k "degree" ["top", "bottom"] sp ["bottom", "top"] flip2 :=
  clk_of (g := flip2) c D (fun _ _ _ _ _ _ ws hl => match ws, hl with | [_, _], _ => rfl) rel2
theorem kw_isdeg {CX : CXT} {P : Program} {w : World} {K : PySem.W.Frag} {mg : Str → Option Value} {base : Heap} {k : Nat} {sp : Sp} (c : Cl CX P w K mg base k "is_degree" ["thing"] sp) (D : DefAt K mg "is_degree" sIsDeg) : ClK CX P w K mg base k "is_degree" ["thing"] sp ["thing"] id :=
  clk_of (g := id) c D (fun _ _ _ _ _ _ ws hl => match ws, hl with | [_], _ => rfl) rel1
theorem kw_atmost {CX : CXT} {P : Program} {w : World} {K : PySem.W.Frag} {mg : Str → Option Value} {base : Heap} {k : Nat} {sp : Sp} (c : Cl CX P w K mg base k "at_most" ["x", "y"] sp) (D : DefAt K mg "at_most" sAtMost) : ClK CX P w K mg base k "at_most" ["x", "y"] sp ["y", "x"] flip2 :=
  clk_of (g := flip2) c D (fun _ _ _ _ _ _ ws hl => match ws, hl with | [_, _], _ => rfl) rel2
/-! ### what stands beside the purse -/
def hide (p : Addr) (H : Hp) : Hp := fun b => if b = p then none else H b
theorem hide_ne {p b : Addr} {H : Hp} (h : b ≠ p) : hide p H b = H b := if_neg h
theorem hide_same {p : Addr} {H : Hp} : Same (hide p H) H := fun b o e => by
  by_cases h : b = p
  · have e' : (none : Option HO) = some o := (if_pos h).symm.trans e
    cases e'
  · rw [hide_ne h] at e
    exact e
theorem But.hide {p : Addr} {H H' : Hp} (h : But p H H') : Same (hide p H) (hide p H') := fun b o e => by
  by_cases hb : b = p
  · have e' : (none : Option HO) = some o := (if_pos hb).symm.trans e
    cases e'
  · rw [hide_ne hb] at e ⊢
    exact h b o hb e
theorem Same.but {p : Addr} {H H' : Hp} (h : Same H H') : But p H H' := fun b o _ e => h b o e
theorem PurseAt.same {p : Addr} {c : Int} {H H' : Hp} (P : PurseAt H p c) (h : Same H H') : PurseAt H' p c := by
  obtain ⟨a, b, e, r⟩ := P.ex
  exact ⟨⟨a, b, h _ _ e, r⟩, P.c0⟩
theorem PurseAt.at {p q : Addr} {c : Int} {H : Hp} (P : PurseAt H p c) (n : H q = none) : q ≠ p := by
  obtain ⟨a, b, e, r⟩ := P.ex
  intro z
  rw [z, e] at n
  cases n
theorem mk_at {p q : Addr} {H : Hp} {c : Int} (o : HO) (P : PurseAt H p c) (n : H q = none) : ∃ H', upd H q o = H' ∧ PurseAt H' p c ∧ But p H H' ∧ hide p H' q = some o := by
  have s : Same H (upd H q o) := fun b u e => by
    rw [upd_ne (ne_of_none e n)]
    exact e
  refine ⟨_, rfl, P.same s, Same.but s, ?_⟩
  rw [hide_ne (P.at n), upd_same]
/-! ### odd things -/
structure Small0 (d : PyData) : Prop where
  sh : d.showable = true
  lv : d.leavesShort 100 = true
  wt : d.weight ≤ 200
  dp : d.depth ≤ 5
structure Od (H : Hp) (v : V) : Prop where
  deg : IsDeg H v false
  dat : ∃ d, Dq H v d ∧ Small0 d
structure Wr (n : Int) (H : Hp) (v : V) : Prop where
  kn : Kn H v
  bad : isW v = false ∨ ∃ i, v = .int i ∧ i < n
  dat : ∃ d, Dq H v d ∧ Small0 d
theorem Od.same {H H' : Hp} {v : V} (o : Od H v) (s : Same H H') : Od H' v := by
  obtain ⟨d, h1, h2⟩ := o.dat
  exact ⟨o.deg.same s, d, Dq.same s d v h1, h2⟩
theorem Wr.same {n : Int} {H H' : Hp} {v : V} (o : Wr n H v) (s : Same H H') : Wr n H' v := by
  obtain ⟨d, h1, h2⟩ := o.dat
  exact ⟨o.kn.same s, o.bad, d, Dq.same s d v h1, h2⟩
theorem od_flat {H : Hp} {v : V} {d : PyData} (k : Kn H v) (n : ∀ a, v ≠ .ref a) (q : Dq H v d) (s : Small0 d) : Od H v := ⟨.flat k n, d, q, s⟩
theorem od_tup {H : Hp} {a : Addr} {xs : List V} {ds : List PyData} (e : H a = some (.tup xs)) (k : ∀ x ∈ xs, Kn H x) (g : degOf xs = false) (q : DqAll H xs ds) (s : Small0 (.tuple ds)) : Od H (.ref a) := by
  refine ⟨?_, _, .tup e q, s⟩
  have h := IsDeg.tup e k
  rw [g] at h
  exact h
theorem od_lst {H : Hp} {a : Addr} {xs : List V} {ds : List PyData} (e : H a = some (.lst xs)) (q : DqAll H xs ds) (s : Small0 (.list ds)) : Od H (.ref a) := ⟨.lst e, _, .lst e q, s⟩
theorem int_short {i : Int} (h : i.natAbs < 10 ^ 20) : PyData.leavesShort 100 (.int i) = true := by
  have e := int_text_length_le10 (k := 20) (by decide) h
  unfold PyData.leavesShort
  refine decide_eq_true ?_
  show (Str.ofString (toString i)).length ≤ 100
  rw [PySem.ofString_length]
  omega
theorem int_shows {i : Int} (h : i.natAbs < 10 ^ 20) : PyData.showable (.int i) = true := by
  unfold PyData.showable
  refine decide_eq_true ?_
  have h1 : i.natAbs < 2 ^ 1920 := Nat.lt_trans h (by decide +kernel)
  exact PySem.Flt.log2_lt_of (by decide) h1
theorem int_weight {i : Int} (h : i.natAbs < 10 ^ 20) : PyData.weight (.int i) ≤ 67 := by
  have h1 : i.natAbs < 2 ^ 67 := Nat.lt_trans h (by decide +kernel)
  have h2 : i.natAbs.log2 < 67 := PySem.Flt.log2_lt_of (by decide) h1
  simp only [PyData.weight]
  split <;> omega
theorem small_pair {i j : Int} (hi : i.natAbs < 10 ^ 20) (hj : j.natAbs < 10 ^ 20) : Small0 (.tuple [.int i, .int j]) := by
  refine ⟨?_, ?_, ?_, ?_⟩
  · simp only [PyData.showable, PyData.showableAll, Bool.and_true, Bool.and_eq_true]
    exact ⟨int_shows hi, int_shows hj⟩
  · simp only [PyData.leavesShort, PyData.leavesShortAll, Bool.and_true, Bool.and_eq_true]
    exact ⟨int_short hi, int_short hj⟩
  · have h1 := int_weight hi
    have h2 := int_weight hj
    simp only [PyData.weight, PyData.weightAll] at h1 h2 ⊢
    omega
  · simp only [PyData.depth, PyData.depthAll]
    decide
theorem small_list {i j : Int} (hi : i.natAbs < 10 ^ 20) (hj : j.natAbs < 10 ^ 20) : Small0 (.list [.int i, .int j]) := by
  refine ⟨?_, ?_, ?_, ?_⟩
  · simp only [PyData.showable, PyData.showableAll, Bool.and_true, Bool.and_eq_true]
    exact ⟨int_shows hi, int_shows hj⟩
  · simp only [PyData.leavesShort, PyData.leavesShortAll, Bool.and_true, Bool.and_eq_true]
    exact ⟨int_short hi, int_short hj⟩
  · have h1 := int_weight hi
    have h2 := int_weight hj
    simp only [PyData.weight, PyData.weightAll] at h1 h2 ⊢
    omega
  · simp only [PyData.depth, PyData.depthAll]
    decide
theorem small_end {w b o : PyData} {i j : Int} (hw : Small0 w) (hb : Small0 b) (ho : Small0 o) (hi : i.natAbs < 10 ^ 20) (hj : j.natAbs < 10 ^ 20) : Small (.list [.list [w], .list [b], .list [.tuple [.int i, .int j]], .list [o], .list [o], .none]) := by
  have hp := small_pair hi hj
  refine ⟨?_, ?_, ?_, ?_⟩
  · have := hp.sh
    simp only [PyData.showable, PyData.showableAll, Bool.and_true, Bool.and_eq_true] at this ⊢
    exact ⟨hw.sh, hb.sh, this, ho.sh, ho.sh⟩
  · have := hp.lv
    simp only [PyData.leavesShort, PyData.leavesShortAll, Bool.and_true, Bool.and_eq_true] at this ⊢
    exact ⟨hw.lv, hb.lv, this, ho.lv, ho.lv⟩
  · have := hp.wt
    have := hw.wt
    have := hb.wt
    have := ho.wt
    simp only [PyData.weight, PyData.weightAll] at *
    omega
  · have := hw.dp
    have := hb.dp
    have := ho.dp
    simp only [PyData.depth, PyData.depthAll] at *
    omega
/-! ### what _law_caught hands back -/
section
variable {C : Addr} {H : Hp} {Q : VK} {x y v : V} {E : XK}
theorem erC_of (k : ∀ (l : Addr) (H' : Hp), Same H H' → H' l = some (.lst [v]) → Q (.ref l) H') : Rs C H v (erC C Q) := by
  intro d H' n s e
  refine ⟨rfl, d, v, rfl, e, fun l hl => k l _ (fun b o hb => ?_) upd_same⟩
  rw [upd_ne (ne_of_none (s b o hb) hl)]
  exact s b o hb
theorem cr1 (kx : Kn H x) (ky : Kn H y) (bx : isW x = false ∨ ∃ i, x = .int i ∧ i < 0) (k : ∀ (l : Addr) (H' : Hp), Same H H' → H' l = some (.lst [x]) → Q (.ref l) H') : CaughtP C [.int 0, x, y] H Q :=
  ⟨⟨0, x, y, rfl, .inl ⟨rfl, x, y, rfl, kx, ky, .inl ⟨bx, erC_of k⟩⟩⟩⟩
theorem cr2 {i : Int} (i0 : 0 ≤ i) (ky : Kn H y) (bY : isW y = false ∨ ∃ j, y = .int j ∧ j < 1) (k : ∀ (l : Addr) (H' : Hp), Same H H' → H' l = some (.lst [y]) → Q (.ref l) H') : CaughtP C [.int 0, .int i, y] H Q :=
  ⟨⟨0, .int i, y, rfl, .inl ⟨rfl, .int i, y, rfl, trivial, ky, .inr (.inl ⟨⟨i, rfl, i0⟩, bY, erC_of k⟩)⟩⟩⟩
theorem cr3 {i j : Nat} (j0 : 0 < j) (hij : j < i) (k : ∀ (l t : Addr) (H' : Hp), Same H H' → H' l = some (.lst [.ref t]) → H' t = some (.tup [.int i, .int j]) → Q (.ref l) H') : CaughtP C [.int 0, .int i, .int j] H Q :=
  ⟨⟨0, .int i, .int j, rfl, .inl ⟨rfl, .int i, .int j, rfl, trivial, trivial, .inr (.inr (.inl ⟨i, j, rfl, rfl, j0, hij, fun t H1 n s e => erC_of fun l H' s' e' => k l t H' (s.trans s') e' (s' _ _ e)⟩))⟩⟩⟩
theorem ca1 (dx : IsDeg H x false) (k : ∀ (l : Addr) (H' : Hp), Same H H' → H' l = some (.lst [x]) → Q (.ref l) H') : CaughtP C [.int 1, x, y] H Q :=
  ⟨⟨1, x, y, rfl, .inr ⟨by decide, x, y, false, rfl, dx, fun _ => erC_of k, fun h => Bool.noConfusion h⟩⟩⟩
theorem ca2 (dx : IsDeg H x true) (dy : IsDeg H y false) (k : ∀ (l : Addr) (H' : Hp), Same H H' → H' l = some (.lst [y]) → Q (.ref l) H') : CaughtP C [.int 1, x, y] H Q :=
  ⟨⟨1, x, y, rfl, .inr ⟨by decide, x, y, true, rfl, dx, fun h => Bool.noConfusion h, fun _ => ⟨false, dy, fun _ => erC_of k, fun h => Bool.noConfusion h⟩⟩⟩⟩
theorem degOf_true {a b : Nat} (h1 : a ≤ b) (h2 : 0 < b) (h3 : Nat.gcd a b = 1) : degOf [.int a, .int b] = true := by
  have e1 : decide ((1 : Int) ≤ (b : Int)) = true := decide_eq_true (by omega)
  have e2 : decide ((0 : Int) ≤ (a : Int)) = true := decide_eq_true (by omega)
  have e3 : decide ((a : Int) ≤ (b : Int)) = true := decide_eq_true (by omega)
  have e4 : decide (Nat.gcd (a : Int).natAbs (b : Int).natAbs = 1) = true := decide_eq_true (by rw [Int.natAbs_natCast, Int.natAbs_natCast]; exact h3)
  show (decide ((1 : Int) ≤ (b : Int)) && (decide ((0 : Int) ≤ (a : Int)) && decide ((a : Int) ≤ (b : Int))) && decide (Nat.gcd (a : Int).natAbs (b : Int).natAbs = 1)) = true
  rw [e1, e2, e3, e4]
  rfl
theorem DegAt.is {t : Addr} {a b : Nat} (h : DegAt H t a b) : IsDeg H (.ref t) true := by
  have g := IsDeg.tup (H := H) h.1 (fun z hz => by
    rcases List.mem_cons.mp hz with rfl | hz
    · trivial
    · rcases List.mem_cons.mp hz with rfl | hz
      · trivial
      · cases hz)
  rw [degOf_true h.2.1 h.2.2.1 h.2.2.2] at g
  exact g
theorem DegAt.same {H' : Hp} {t : Addr} {a b : Nat} (h : DegAt H t a b) (s : Same H H') : DegAt H' t a b := ⟨s _ _ h.1, h.2⟩
theorem ca3 {t u : Addr} {a b c d : Nat} (ht : DegAt H t a b) (hu : DegAt H u c d) (hb : b < 2 ^ 64) (hd : d < 2 ^ 64) (k : Q .non H) : CaughtP C [.int 1, .ref t, .ref u] H Q :=
  ⟨⟨1, .ref t, .ref u, rfl, .inr ⟨by decide, .ref t, .ref u, true, rfl, ht.is, fun h => Bool.noConfusion h, fun _ => ⟨true, hu.is, fun h => Bool.noConfusion h, fun _ => ⟨t, u, a, b, c, d, rfl, rfl, ht.1, hu.1, hb, hd, k⟩⟩⟩⟩⟩
theorem doubled_odd {a b : Nat} (hb : 0 < b) : degOf [.int (2 * (a : Int)), .int (2 * (b : Int))] = false := by
  have e4 : decide (Nat.gcd (2 * (a : Int)).natAbs (2 * (b : Int)).natAbs = 1) = false := by
    refine decide_eq_false ?_
    have h1 : (2 * (a : Int)).natAbs = 2 * a := by omega
    have h2 : (2 * (b : Int)).natAbs = 2 * b := by omega
    rw [h1, h2, Nat.gcd_mul_left]
    omega
  show (decide ((1 : Int) ≤ 2 * (b : Int)) && (decide ((0 : Int) ≤ 2 * (a : Int)) && decide (2 * (a : Int) ≤ 2 * (b : Int))) && decide (Nat.gcd (2 * (a : Int)).natAbs (2 * (b : Int)).natAbs = 1)) = false
  rw [e4]
  exact Bool.and_false _
theorem above_odd {b : Int} : degOf [.int (b + 1), .int b] = false := by
  have e3 : decide (b + 1 ≤ b) = false := decide_eq_false (by omega)
  show (decide ((1 : Int) ≤ b) && (decide ((0 : Int) ≤ b + 1) && decide (b + 1 ≤ b)) && decide (Nat.gcd (b + 1).natAbs b.natAbs = 1)) = false
  rw [e3]
  simp
end
end G1
set_option maxHeartbeats 0
namespace G1
open PySem PySem.Spec PyProof.Rows L2
def spRight : Sp := fun vs H Q _ => ∃ (p : Addr) (c : Int), vs = [.ref p] ∧ PurseAt H p c ∧ c < 2 ^ 38 ∧ ∀ (c' : Int) (H' : Hp), c' ≤ c + 100 → PurseAt H' p c' → But p H H' → Q (.bl true) H'
structure Tools (P : Program) (w : World) (K : PySem.W.Frag) (mg : Str → Option Value) (base : Heap) (C : Addr) : Prop where
  draw : Cl CX0 P w K mg base 2 "_law_draw" ["purse", "out_of"] spDraw
  great : Cl CX0 P w K mg base 3 "_law_great" ["purse", "figures"] spGreat
  lowest : Cl CX0 P w K mg base 2 "_law_lowest" ["above", "beneath"] spLowest
  deg : Cl CX0 P w K mg base 3 "_law_degree" ["purse"] spDeg
  less : Cl CX0 P w K mg base 1 "_law_less" ["u", "v"] spLess
  isdeg : Cl CX0 P w K mg base 2 "is_degree" ["thing"] spIsDeg
  degree : Cl (L2.CX P w) P w K mg base 4 "degree" ["top", "bottom"] (spDegree C)
  atmost : Cl (L2.CX P w) P w K mg base 5 "at_most" ["x", "y"] (spAtMost C)
  caught : Cl CX0 P w K mg base 6 "_law_caught" ["kind", "one", "second"] (spCaught C)
  kwIsdeg : ClK CX0 P w K mg base 2 "is_degree" ["thing"] spIsDeg ["thing"] id
  kwDegree : ClK (L2.CX P w) P w K mg base 4 "degree" ["top", "bottom"] (spDegree C) ["bottom", "top"] flip2
  kwAtmost : ClK (L2.CX P w) P w K mg base 5 "at_most" ["x", "y"] (spAtMost C) ["y", "x"] flip2
  sm : ∃ o, K.lookup sysModules = some o
abbrev nRight : List Str := ["purse", "beneath", "above", "due", "doubled", "odd", "one", "second", "wrong", "bad", "many", "told"]
theorem shp_pair (i j : Int) : SeqAt.shaped (.tuple [.int i, .int j]) = true := by
  unfold SeqAt.shaped
  simp [PyData.canLay0, PyData.canLayAll0, PyData.depth, PyData.depthAll]
theorem eqv_pair (i j : Int) : PyData.eqv (.tuple [.int i, .int j]) (.tuple [.int i, .int j]) = true := by simp [PyData.eqv, PyData.eqvAll]
theorem shp_lp (i j : Int) : SeqAt.shaped (.list [.tuple [.int i, .int j]]) = true := by
  unfold SeqAt.shaped
  simp [PyData.canLay0, PyData.canLayAll0, PyData.depth, PyData.depthAll]
theorem eqv_lp (i j : Int) : PyData.eqv (.list [.tuple [.int i, .int j]]) (.list [.tuple [.int i, .int j]]) = true := by simp [PyData.eqv, PyData.eqvAll]
theorem ne_if {b : Bool} {A B : Prop} (e : b = true) (h : B) : if (!b) = true then A else B := by
  rw [e]
  exact h
theorem as_val {v w : V} {H : Hp} {Q : VK} (e : v = w) (h : Q w H) : Q v H := by
  rw [e]
  exact h
theorem dp_pair {K : PySem.W.Frag} {H : Hp} {t : Addr} {i j : Int} (e : H t = some (.tup [.int i, .int j])) : Dp K H (.ref t) (.tuple [.int i, .int j]) := .tup (SqT.of e) (.cons (.int i) (.cons (.int j) .nil))
theorem all_cons {G : Hp} {v : V} {xs : List V} (h : Od G v) (k : ∀ u ∈ xs, Od G u) : ∀ u ∈ v :: xs, Od G u := by
  intro u hu
  rcases List.mem_cons.mp hu with rfl | hu
  · exact h
  · exact k u hu
theorem all_nil {G : Hp} : ∀ u ∈ ([] : List V), Od G u := fun u hu => by cases hu
theorem all_app {G : Hp} {xs ys : List V} (h : ∀ u ∈ xs, Od G u) (k : ∀ u ∈ ys, Od G u) : ∀ u ∈ xs ++ ys, Od G u := by
  intro u hu
  rcases List.mem_append.mp hu with hu | hu
  · exact h u hu
  · exact k u hu
theorem all_same {G G' : Hp} {xs : List V} (h : ∀ u ∈ xs, Od G u) (s : Same G G') : ∀ u ∈ xs, Od G' u := fun u hu => (h u hu).same s
theorem at_mem {xs : List V} {d : Int} (h0 : 0 ≤ d) (h1 : d < (xs.length : Int)) : ∃ v, atI xs d = some v ∧ v ∈ xs := by
  have h2 : d.toNat < xs.length := by omega
  exact ⟨xs[d.toNat], at_of (j := d.toNat) (by omega) (by simp [h2]), List.getElem_mem h2⟩
theorem od_non {G : Hp} : Od G .non := od_flat (d := .none) trivial (fun a => nofun) .non ⟨by decide, by decide, by decide, by decide⟩
theorem od_bl {G : Hp} (b : Bool) : Od G (.bl b) := od_flat (d := .bool b) trivial (fun a => nofun) (.bl b) ⟨by cases b <;> decide, by cases b <;> decide, by cases b <;> decide, by cases b <;> decide⟩
theorem od_int {G : Hp} {i : Int} (h : i.natAbs < 10 ^ 20) : Od G (.int i) := od_flat (d := .int i) trivial (fun a => nofun) (.int i) ⟨int_shows h, int_short h, Nat.le_trans (int_weight h) (by decide), by simp [PyData.depth]⟩
theorem od_str1 {G : Hp} : Od G (.str "1") := od_flat (d := .str "1") trivial (fun a => nofun) (.str "1") ⟨by decide +kernel, by decide +kernel, by decide +kernel, by decide +kernel⟩
section
variable {G : Hp} {t u : Addr}
theorem kn1 {a : V} (ha : Kn G a) : ∀ x ∈ [a], Kn G x := fun x hx => by
  rcases List.mem_cons.mp hx with rfl | hx
  · exact ha
  · cases hx
theorem kn2 {a b : V} (ha : Kn G a) (hb : Kn G b) : ∀ x ∈ [a, b], Kn G x := fun x hx => by
  rcases List.mem_cons.mp hx with rfl | hx
  · exact ha
  · exact kn1 hb x hx
theorem kn3 {a b c : V} (ha : Kn G a) (hb : Kn G b) (hc : Kn G c) : ∀ x ∈ [a, b, c], Kn G x := fun x hx => by
  rcases List.mem_cons.mp hx with rfl | hx
  · exact ha
  · exact kn2 hb hc x hx
theorem od_ii {i j : Int} (e : G t = some (.tup [.int i, .int j])) (g : degOf [.int i, .int j] = false) (hi : i.natAbs < 10 ^ 20) (hj : j.natAbs < 10 ^ 20) : Od G (.ref t) :=
  od_tup e (kn2 trivial trivial) g (.cons (.int i) (.cons (.int j) .nil)) (small_pair hi hj)
theorem od_1 (e : G t = some (.tup [.int 1])) : Od G (.ref t) := od_tup e (kn1 trivial) rfl (.cons (.int 1) .nil) ⟨by decide +kernel, by decide +kernel, by decide +kernel, by decide +kernel⟩
theorem od_011 (e : G t = some (.tup [.int 0, .int 1, .int 1])) : Od G (.ref t) := od_tup e (kn3 trivial trivial trivial) rfl (.cons (.int 0) (.cons (.int 1) (.cons (.int 1) .nil))) ⟨by decide +kernel, by decide +kernel, by decide +kernel, by decide +kernel⟩
theorem od_T1 (e : G t = some (.tup [.bl true, .int 1])) : Od G (.ref t) := od_tup e (kn2 trivial trivial) rfl (.cons (.bl true) (.cons (.int 1) .nil)) ⟨by decide +kernel, by decide +kernel, by decide +kernel, by decide +kernel⟩
theorem od_1T (e : G t = some (.tup [.int 1, .bl true])) : Od G (.ref t) := od_tup e (kn2 trivial trivial) rfl (.cons (.int 1) (.cons (.bl true) .nil)) ⟨by decide +kernel, by decide +kernel, by decide +kernel, by decide +kernel⟩
theorem od_0s (e : G t = some (.tup [.int 0, .str "1"])) : Od G (.ref t) := od_tup e (kn2 trivial trivial) rfl (.cons (.int 0) (.cons (.str "1") .nil)) ⟨by decide +kernel, by decide +kernel, by decide +kernel, by decide +kernel⟩
theorem od_N1 (e : G t = some (.tup [.non, .int 1])) : Od G (.ref t) := od_tup e (kn2 trivial trivial) rfl (.cons .non (.cons (.int 1) .nil)) ⟨by decide +kernel, by decide +kernel, by decide +kernel, by decide +kernel⟩
theorem od_t1 (e : G t = some (.tup [.ref u, .int 1])) (e' : G u = some (.tup [.int 0, .int 1])) : Od G (.ref t) := od_tup e (kn2 (.inr (.inl ⟨_, e'⟩)) trivial) rfl (.cons (.tup e' (.cons (.int 0) (.cons (.int 1) .nil))) (.cons (.int 1) .nil)) ⟨by decide +kernel, by decide +kernel, by decide +kernel, by decide +kernel⟩
theorem od_d (e : G t = some (.dK [])) : Od G (.ref t) := ⟨.dK e, _, .dk e, ⟨by decide +kernel, by decide +kernel, by decide +kernel, by decide +kernel⟩⟩
theorem od_l {i j : Int} (e : G t = some (.lst [.int i, .int j])) (hi : i.natAbs < 10 ^ 20) (hj : j.natAbs < 10 ^ 20) : Od G (.ref t) := od_lst e (.cons (.int i) (.cons (.int j) .nil)) (small_list hi hj)
end
theorem DegAt.out {p : Addr} {H : Hp} {t : Addr} {a b : Nat} (h : DegAt H t a b) (n : t ≠ p) : DegAt (hide p H) t a b := ⟨by rw [hide_ne n]; exact h.1, h.2⟩
theorem wr_of {n : Int} {G : Hp} {v : V} {d : PyData} (k : Kn G v) (b : isW v = false ∨ ∃ i, v = .int i ∧ i < n) (q : Dq G v d) (s : Small0 d) : Wr n G v := ⟨k, b, d, q, s⟩
theorem wr_wrong {G : Hp} {t : Addr} (e : G t = some (.tup [.int 1])) : ∀ v ∈ ([.int (-1), .non, .bl true, .str "1", .ref t] : List V), Wr 0 G v := by
  intro v hv
  rcases List.mem_cons.mp hv with rfl | hv
  · exact wr_of trivial (.inr ⟨_, rfl, by decide⟩) (.int (-1)) ⟨by decide +kernel, by decide +kernel, by decide +kernel, by decide +kernel⟩
  rcases List.mem_cons.mp hv with rfl | hv
  · exact wr_of trivial (.inl rfl) .non ⟨by decide +kernel, by decide +kernel, by decide +kernel, by decide +kernel⟩
  rcases List.mem_cons.mp hv with rfl | hv
  · exact wr_of trivial (.inl rfl) (.bl true) ⟨by decide +kernel, by decide +kernel, by decide +kernel, by decide +kernel⟩
  rcases List.mem_cons.mp hv with rfl | hv
  · exact wr_of trivial (.inl rfl) (.str "1") ⟨by decide +kernel, by decide +kernel, by decide +kernel, by decide +kernel⟩
  rcases List.mem_cons.mp hv with rfl | hv
  · exact wr_of (.inr (.inl ⟨_, e⟩)) (.inl rfl) (.tup e (.cons (.int 1) .nil)) ⟨by decide +kernel, by decide +kernel, by decide +kernel, by decide +kernel⟩
  cases hv
theorem wr_bad {G : Hp} : ∀ v ∈ ([.int 0, .int (-3), .non, .bl true, .str "2"] : List V), Wr 1 G v := by
  intro v hv
  rcases List.mem_cons.mp hv with rfl | hv
  · exact wr_of trivial (.inr ⟨_, rfl, by decide⟩) (.int 0) ⟨by decide +kernel, by decide +kernel, by decide +kernel, by decide +kernel⟩
  rcases List.mem_cons.mp hv with rfl | hv
  · exact wr_of trivial (.inr ⟨_, rfl, by decide⟩) (.int (-3)) ⟨by decide +kernel, by decide +kernel, by decide +kernel, by decide +kernel⟩
  rcases List.mem_cons.mp hv with rfl | hv
  · exact wr_of trivial (.inl rfl) .non ⟨by decide +kernel, by decide +kernel, by decide +kernel, by decide +kernel⟩
  rcases List.mem_cons.mp hv with rfl | hv
  · exact wr_of trivial (.inl rfl) (.bl true) ⟨by decide +kernel, by decide +kernel, by decide +kernel, by decide +kernel⟩
  rcases List.mem_cons.mp hv with rfl | hv
  · exact wr_of trivial (.inl rfl) (.str "2") ⟨by decide +kernel, by decide +kernel, by decide +kernel, by decide +kernel⟩
  cases hv
theorem gn {i : Nat} {v : V} {σ σ' : L2.St} {H : Hp} {Q : L2.St → Hp → Prop} (e : σ.set i (some v) = σ') (h : Q σ' H) : gName i v σ H Q := by
  rw [← e] at h
  exact h
theorem cmul_small {n : Nat} (h : n ≤ 5) (z : Int) : CMul (n : Int) z := .inl ⟨by omega, by omega⟩
theorem caught_nat {C : Addr} {H : Hp} {Q : VK} {i j : Nat} {i' j' : Int} (hi : (i : Int) = i') (hj : (j : Int) = j') (h : CaughtP C [.int 0, .int i, .int j] H Q) : CaughtP C [.int 0, .int i', .int j'] H Q := by
  rw [← hi, ← hj]
  exact h
theorem not_purse1 {H : Hp} {p l : Addr} {c : Int} {v : V} (P : PurseAt H p c) (e : H l = some (.lst [v])) : l ≠ p := by
  obtain ⟨a, b, e', _⟩ := P.ex
  intro z
  rw [z, e'] at e
  have := HO.lst.inj (Option.some.inj e)
  simp at this
theorem not_purseT {H : Hp} {p t : Addr} {c : Int} {xs : List V} (P : PurseAt H p c) (e : H t = some (.tup xs)) : t ≠ p := by
  obtain ⟨a, b, e', _⟩ := P.ex
  intro z
  rw [z, e'] at e
  cases e
theorem dp_lp {K : PySem.W.Frag} {H : Hp} {l t : Addr} {i j : Int} (e : H l = some (.lst [.ref t])) (e' : H t = some (.tup [.int i, .int j])) : Dp K H (.ref l) (.list [.tuple [.int i, .int j]]) := .lst (SqL.of e) (.cons (dp_pair e') .nil)
section
variable {P : Program} {w : World} {K : PySem.W.Frag} {mg : Str → Option Value} {base : Heap} {C : Addr}
theorem scRight : FnScope nRight ["purse"] (defScope sRight) := ⟨rfl, rfl, rfl, by decide +kernel, rfl, by decide +kernel, by decide +kernel⟩
end
end G1
set_option maxHeartbeats 0
namespace G1
open PySem PySem.Spec PyProof.Rows L2
section
variable {P : Program} {w : World} {K : PySem.W.Frag} {mg : Str → Option Value} {base : Heap} {C : Addr}
theorem cl_right (D : DefAt K mg "_law_right" sRight) (B : Blt mg) (T : Tools P w K mg base C) : ClG CX0 P w K mg base 7 "_law_right" ["purse"] spRight := by
  obtain ⟨f, fd, F, hm⟩ := D
  refine ⟨f, fd, okG F scRight (fun vs H Q E h => ?_) (fun cdv A outer s H vs Q E gd hr h => ⟨_, PSs.nox (pss_cons (ps_set (i := 1) scRight.nd rfl (Or.inl rfl) (pe_op op_add pe_int (pe_ix ix_list (pe_lst (pa_cons (pe_c0 T.draw hr (by decide) (by rfl) (pa_cons (pv 0) (pa_cons pe_int pa_nil))) (pa_cons (pe_c0 T.great hr (by decide) (by rfl) (pa_cons (pv 0) (pa_cons pe_int pa_nil))) pa_nil))) (pe_c0 T.draw hr (by decide) (by rfl) (pa_cons (pv 0) (pa_cons pe_int pa_nil))) (fun _ _ => rfl))))
      (pss_cons (ps_set (i := 2) scRight.nd rfl (Or.inl rfl) (pe_op op_mod (pe_c0 T.great hr (by decide) (by rfl) (pa_cons (pv 0) (pa_cons pe_int pa_nil))) (pe_op op_add (pv 1) pe_int)))
      (pss_cons (ps_set (i := 3) scRight.nd rfl (Or.inl rfl) (pe_c0 T.lowest hr (by decide) (by rfl) (pa_cons (pv 2) (pa_cons (pv 1) pa_nil))))
      (pss_cons (ps_if (PW.pt (pw_or (pt_cmpR (op_neD hr.units) (pe_cX T.degree hr (by decide) (by rfl) (pa_cons (pv 2) (pa_cons (pv 1) pa_nil))) (pv 3) (nomark _))
      (pw_or (pt_cmpR (op_neD hr.units) (pe_kwX T.kwDegree hr (by decide) (by rfl) (pk_cons (pv 1) (pk_cons (pv 2) pk_nil))) (pv 3) (nomark _))
      (pw_or1 (pt_cmpR op_notBl (pe_c0 T.isdeg hr (by decide) (by rfl) (pa_cons (pv 3) pa_nil)) pe_bl (nomark _)))))) (pss_one (ps_ret pe_bl)) pss_nil)
      (pss_cons (ps_set (i := 4) scRight.nd rfl (Or.inl rfl) (pe_tup (pa_cons (pe_op op_mul pe_int (pe_ix ix_tup (pv 3) pe_int (fun _ _ => rfl))) (pa_cons (pe_op op_mul pe_int (pe_ix ix_tup (pv 3) pe_int (fun _ _ => rfl))) pa_nil))))
      (pss_cons (ps_set (i := 5) scRight.nd rfl (Or.inl rfl) (pe_lst (pa_cons pe_non (pa_cons pe_int (pa_cons pe_bl (pa_cons pe_str
      (pa_cons (pe_lst (pa_cons pe_int (pa_cons pe_int pa_nil)))
      (pa_cons (pe_tup (pa_cons pe_int pa_nil))
      (pa_cons (pe_tup (pa_cons pe_int (pa_cons pe_int (pa_cons pe_int pa_nil))))
      (pa_cons (pe_tup (pa_cons pe_int (pa_cons pe_int pa_nil)))
      (pa_cons (pe_tup (pa_cons pe_int (pa_cons pe_int pa_nil)))
      (pa_cons (pe_tup (pa_cons (pe_un un_neg pe_int) (pa_cons pe_int pa_nil)))
      (pa_cons (pe_tup (pa_cons pe_int (pa_cons pe_int pa_nil)))
      (pa_cons (pe_tup (pa_cons pe_int (pa_cons (pe_un un_neg pe_int) pa_nil)))
      (pa_cons (pe_tup (pa_cons pe_bl (pa_cons pe_int pa_nil)))
      (pa_cons (pe_tup (pa_cons pe_int (pa_cons pe_bl pa_nil))) pa_nil))))))))))))))))
      (pss_cons (ps_set (i := 5) scRight.nd rfl (Or.inl rfl) (pe_op op_cat (pv 5) (pe_lst (pa_cons (pe_tup (pa_cons pe_int (pa_cons pe_str pa_nil)))
      (pa_cons (pe_tup (pa_cons pe_non (pa_cons pe_int pa_nil)))
      (pa_cons (pe_tup (pa_cons (pe_tup (pa_cons pe_int (pa_cons pe_int pa_nil))) (pa_cons pe_int pa_nil)))
      (pa_cons pe_dnewK (pa_cons (pv 4)
      (pa_cons (pe_callTy call_list_of (by rfl) B.list (by decide +kernel) (pa_cons (pv 3) pa_nil))
      (pa_cons (pe_tup (pa_cons pe_int (pa_cons pe_int pa_nil)))
      (pa_cons (pe_tup (pa_cons (pe_un un_neg pe_int) (pa_cons (pe_un un_neg pe_int) pa_nil)))
      (pa_cons (pe_tup (pa_cons pe_int (pa_cons (pe_un un_neg pe_int) pa_nil))) pa_nil))))))))))))
      (pss_cons (ps_set (i := 5) scRight.nd rfl (Or.inl rfl) (pe_ix ix_list (pe_op op_cat (pv 5) (pe_lst (pa_cons (pe_tup (pa_cons (pe_op op_add (pv 1) pe_int) (pa_cons (pv 1) pa_nil))) pa_nil))) (pe_c0 T.draw hr (by decide) (by rfl) (pa_cons (pv 0) (pa_cons pe_int pa_nil))) (fun _ _ => rfl)))
      (pss_cons (ps_if (PW.pt (pw_or (pt_cmpR op_notBl (pe_c0 T.isdeg hr (by decide) (by rfl) (pa_cons (pv 5) pa_nil)) pe_bl (nomark _))
      (pw_or1 (pt_cmpR op_notBl (pe_kw0 T.kwIsdeg hr (by decide) (by rfl) (pk_cons (pv 3) pk_nil)) pe_bl (nomark _))))) (pss_one (ps_ret pe_bl)) pss_nil)
      (pss_cons (ps_par (i := 6) (j := 7) (by rfl) scRight.nd rfl rfl (by decide) rfl rfl (pa_cons (pe_c0 T.deg hr (by decide) (by rfl) (pa_cons (pv 0) pa_nil)) (pa_cons (pe_c0 T.deg hr (by decide) (by rfl) (pa_cons (pv 0) pa_nil)) pa_nil)) (by rfl))
      (pss_cons (ps_if (PW.pt (pw_or (pt_cmpR op_ne (pe_callTy call_str_bl (by rfl) B.str (by decide +kernel) (pa_cons (pe_cX T.atmost hr (by decide) (by rfl) (pa_cons (pv 6) (pa_cons (pv 7) pa_nil))) pa_nil))
        (pe_callTy call_str_bl (by rfl) B.str (by decide +kernel) (pa_cons (pe_not (pe_c0 T.less hr (by decide) (by rfl) (pa_cons (pv 7) (pa_cons (pv 6) pa_nil)))) pa_nil)) (nomark _))
      (pw_or1 (pt_cmpR op_notBl (pe_kwX T.kwAtmost hr (by decide) (by rfl) (pk_cons (pv 6) (pk_cons (pv 6) pk_nil))) pe_bl (nomark _))))) (pss_one (ps_ret pe_bl)) pss_nil)
      (pss_cons (ps_par (i := 8) (j := 9) (by rfl) scRight.nd rfl rfl (by decide) rfl rfl
      (pa_cons (pe_ix ix_list (pe_lst (pa_cons (pe_un un_neg pe_int) (pa_cons pe_non (pa_cons pe_bl (pa_cons pe_str (pa_cons (pe_tup (pa_cons pe_int pa_nil)) pa_nil)))))) (pe_c0 T.draw hr (by decide) (by rfl) (pa_cons (pv 0) (pa_cons pe_int pa_nil))) (fun _ _ => rfl))
      (pa_cons (pe_ix ix_list (pe_lst (pa_cons pe_int (pa_cons (pe_un un_neg pe_int) (pa_cons pe_non (pa_cons pe_bl (pa_cons pe_str pa_nil)))))) (pe_c0 T.draw hr (by decide) (by rfl) (pa_cons (pv 0) (pa_cons pe_int pa_nil))) (fun _ _ => rfl)) pa_nil)) (by rfl))
      (pss_cons (ps_set (i := 10) scRight.nd rfl (Or.inl rfl) (pe_op op_add pe_int (pe_c0 T.draw hr (by decide) (by rfl) (pa_cons (pv 0) (pa_cons pe_int pa_nil)))))
      (pss_cons (ps_if (pt_cmpR (op_neD hr.units) (pe_c0 T.caught hr (by decide) (by rfl) (pa_cons pe_int (pa_cons (pe_op op_mul (pv 10) (pe_op op_add (pv 1) pe_int)) (pa_cons (pe_op op_mul (pv 10) (pv 1)) pa_nil))))
        (pe_lst (pa_cons (pe_tup (pa_cons (pe_op op_mul (pv 10) (pe_op op_add (pv 1) pe_int)) (pa_cons (pe_op op_mul (pv 10) (pv 1)) pa_nil))) pa_nil)) (nomark _)) (pss_one (ps_ret pe_bl)) pss_nil)
      (pss_cons (ps_set (i := 11) scRight.nd rfl (Or.inl rfl) (pe_lst (pa_cons (pe_c0 T.caught hr (by decide) (by rfl) (pa_cons pe_int (pa_cons (pv 8) (pa_cons (pv 9) pa_nil))))
      (pa_cons (pe_c0 T.caught hr (by decide) (by rfl) (pa_cons pe_int (pa_cons pe_int (pa_cons (pv 9) pa_nil))))
      (pa_cons (pe_c0 T.caught hr (by decide) (by rfl) (pa_cons pe_int (pa_cons (pe_op op_add (pv 1) pe_int) (pa_cons (pv 1) pa_nil)))) pa_nil)))))
      (pss_cons (ps_set (i := 11) scRight.nd rfl (Or.inl rfl) (pe_op op_cat (pv 11) (pe_lst (pa_cons (pe_c0 T.caught hr (by decide) (by rfl) (pa_cons pe_int (pa_cons (pv 5) (pa_cons pe_non pa_nil))))
      (pa_cons (pe_c0 T.caught hr (by decide) (by rfl) (pa_cons pe_int (pa_cons (pv 6) (pa_cons (pv 5) pa_nil))))
      (pa_cons (pe_c0 T.caught hr (by decide) (by rfl) (pa_cons pe_int (pa_cons (pv 6) (pa_cons (pv 7) pa_nil)))) pa_nil))))))
      (pss_one (ps_ret (pe_cmpR op_eq (pe_callTy (call_str_dat gd hr.units T.sm) (by rfl) B.str (by decide +kernel) (pa_cons (pv 11) pa_nil))
      (pe_callTy (call_str_dat gd hr.units T.sm) (by rfl) B.str (by decide +kernel) (pa_cons (pe_lst (pa_cons (pe_lst (pa_cons (pv 8) pa_nil)) (pa_cons (pe_lst (pa_cons (pv 9) pa_nil))
        (pa_cons (pe_lst (pa_cons (pe_tup (pa_cons (pe_op op_add (pv 1) pe_int) (pa_cons (pv 1) pa_nil))) pa_nil)) (pa_cons (pe_lst (pa_cons (pv 5) pa_nil)) (pa_cons (pe_lst (pa_cons (pv 5) pa_nil)) (pa_cons pe_non pa_nil))))))) pa_nil)) (nomark _)))))))))))))))))))), ?_⟩), hm, F.kp, F.bindsN fun _ _ _ _ _ _ us hl => match us, hl with | [_], _ => rfl⟩
  · obtain ⟨p, c, rfl, _⟩ := h
    rfl
  · obtain ⟨p, c, rfl, P0, c0, q⟩ := h
    -- beneath
    refine ⟨_, rfl, p, 30, c, rfl, P0, by omega, by decide, by decide, fun d1 c1 H1 a1 b1 k1 P1 B1 => ?_⟩
    refine ⟨_, rfl, p, c1, rfl, P1, by omega, fun g1 c2 H2 a2 b2 k2 P2 B2 => ?_⟩
    refine ⟨(by show 2 ≤ sizeLine; decide), fun l3 n3 => ?_⟩
    obtain ⟨H3, e3, P3, B3, f3⟩ := mk_at (.lst [.int d1, .int g1]) P2 n3
    rw [e3]
    refine ⟨_, rfl, p, 2, c2, rfl, P3, by omega, by decide, by decide, fun d4 c4 H4 a4 b4 k4 P4 B4 => ?_⟩
    obtain ⟨m, hm4, m0⟩ : ∃ m : Nat, atI [V.int d1, .int g1] d4 = some (.int m) ∧ m < 10 ^ 12 := by
      have hd : d4 = 0 ∨ d4 = 1 := by omega
      rcases hd with rfl | rfl
      · exact ⟨d1.toNat, by rw [show ((d1.toNat : Nat) : Int) = d1 by omega]; rfl, by omega⟩
      · exact ⟨g1.toNat, by rw [show ((g1.toNat : Nat) : Int) = g1 by omega]; rfl, by omega⟩
    refine ⟨l3, _, _, _, rfl, rfl, SqL.of (hide_same _ _ (B4.hide _ _ f3)), hm4, _, _, rfl, rfl, ?_⟩
    obtain ⟨b, hb, hb0, hb1⟩ : ∃ b : Nat, (1 : Int) + m = (b : Int) ∧ 0 < b ∧ b ≤ 10 ^ 12 := ⟨1 + m, by omega, by omega, by omega⟩
    show gName _ (V.int ((1 : Int) + (m : Int))) _ _ _
    rw [hb]
    refine gn (σ' := [some (V.ref p), some (V.int b), none, none, none, none, none, none, none, none, none, none]) rfl ?_
    -- above
    refine ⟨_, rfl, p, c4, rfl, P4, by omega, fun g5 c5 H5 a5 b5 k5 P5 B5 => ?_⟩
    refine ⟨_, rfl, _, _, rfl, rfl, _, _, rfl, rfl, (by show (0 : Int) < (b : Int) + 1; omega), ?_⟩
    obtain ⟨a, ha, hab⟩ : ∃ a : Nat, g5 % ((b : Int) + 1) = (a : Int) ∧ a ≤ b := by
      have h1 := Int.emod_nonneg g5 (show (b : Int) + 1 ≠ 0 by omega)
      have h2 := Int.emod_lt_of_pos g5 (show (0 : Int) < (b : Int) + 1 by omega)
      exact ⟨(g5 % ((b : Int) + 1)).toNat, by omega, by omega⟩
    show gName _ (V.int (g5 % ((b : Int) + 1))) _ _ _
    rw [ha]
    refine gn (σ' := [some (V.ref p), some (V.int b), some (V.int a), none, none, none, none, none, none, none, none, none]) rfl ?_
    -- due
    refine ⟨_, rfl, _, rfl, a, b, rfl, hb0, by omega, fun t6 n6 => ?_⟩
    obtain ⟨H6, e6, P6, B6, f6⟩ := mk_at (.tup [.int (a / Nat.gcd a b : Nat), .int (b / Nat.gcd a b : Nat)]) P5 n6
    rw [e6]
    refine gn (σ' := [some (V.ref p), some (V.int b), some (V.int a), some (V.ref t6), none, none, none, none, none, none, none, none]) rfl ?_
    have g0 : 0 < Nat.gcd a b := Nat.gcd_pos_of_pos_right a hb0
    obtain ⟨x, y, ex, ey⟩ : ∃ x y : Nat, a / Nat.gcd a b = x ∧ b / Nat.gcd a b = y := ⟨_, _, rfl, rfl⟩
    have hxy : DegAt (hide p H6) t6 x y := by
      refine ⟨by rw [← ex, ← ey]; exact f6, ?_, ?_, ?_⟩
      · rw [← ex, ← ey]
        exact Nat.div_le_div_right hab
      · rw [← ey]
        exact Nat.div_pos (Nat.gcd_le_right a hb0) g0
      · rw [← ex, ← ey]
        exact Nat.gcd_div_gcd_div_gcd_of_pos_right hb0
    have hy : y ≤ 10 ^ 12 := by
      rw [← ey]
      exact Nat.le_trans (Nat.div_le_self _ _) hb1
    have hx : x ≤ 10 ^ 12 := Nat.le_trans hxy.2.1 hy
    -- degree twice, is_degree
    refine ⟨_, rfl, _, rfl, _, _, rfl, trivial, trivial, .inr (.inr (.inr ⟨a, b, rfl, rfl, hb0, by omega, hab, fun t7 n7 => ?_⟩))⟩
    obtain ⟨H7, e7, P7, B7, f7⟩ := mk_at (.tup [.int (a / Nat.gcd a b : Nat), .int (b / Nat.gcd a b : Nat)]) P6 n7
    rw [e7]
    rw [ex, ey] at f7
    have h67 := hxy.same B7.hide
    refine ⟨_, rfl, _, _, dp_pair (hide_same _ _ f7), dp_pair (hide_same _ _ h67.1), shp_pair _ _, shp_pair _ _, _, rfl, ne_if (eqv_pair _ _) ?_⟩
    refine ⟨_, rfl, _, rfl, rfl, _, _, rfl, trivial, trivial, .inr (.inr (.inr ⟨a, b, rfl, rfl, hb0, by omega, hab, fun t8 n8 => ?_⟩))⟩
    obtain ⟨H8, e8, P8, B8, f8⟩ := mk_at (.tup [.int (a / Nat.gcd a b : Nat), .int (b / Nat.gcd a b : Nat)]) P7 n8
    rw [e8]
    rw [ex, ey] at f8
    have h68 := h67.same B8.hide
    refine ⟨_, rfl, _, _, dp_pair (hide_same _ _ f8), dp_pair (hide_same _ _ h68.1), shp_pair _ _, shp_pair _ _, _, rfl, ne_if (eqv_pair _ _) ?_⟩
    refine ⟨_, rfl, _, true, rfl, (h68.same hide_same).is, _, _, rfl, rfl, _, rfl, iteNS rfl ?_⟩
    -- doubled
    refine ⟨_, rfl, t6, _, _, _, rfl, rfl, SqT.of (hide_same _ _ h68.1), rfl, _, _, rfl, rfl, .inl ⟨by decide, by decide⟩, _, rfl, t6, _, _, _, rfl, rfl, SqT.of (hide_same _ _ h68.1), rfl, _, _, rfl, rfl, .inl ⟨by decide, by decide⟩, (by show 2 ≤ sizeLine; decide), fun t9 n9 => ?_⟩
    obtain ⟨H9, e9, P9, B9, f9⟩ := mk_at (.tup [.int (2 * (x : Int)), .int (2 * (y : Int))]) P8 n9
    rw [e9]
    refine gn (σ' := [some (V.ref p), some (V.int b), some (V.int a), some (V.ref t6), some (V.ref t9), none, none, none, none, none, none, none]) rfl ?_
    -- the odd things
    refine ⟨(by show 2 ≤ sizeLine; decide), fun l10 n10 => ?_⟩
    obtain ⟨H10, e10, P10, B10, f10⟩ := mk_at (.lst [.int 0, .int 1]) P9 n10
    rw [e10]
    refine ⟨(by show 1 ≤ sizeLine; decide), fun t11 n11 => ?_⟩
    obtain ⟨H11, e11, P11, B11, f11⟩ := mk_at (.tup [.int 1]) P10 n11
    rw [e11]
    refine ⟨(by show 3 ≤ sizeLine; decide), fun t12 n12 => ?_⟩
    obtain ⟨H12, e12, P12, B12, f12⟩ := mk_at (.tup [.int 0, .int 1, .int 1]) P11 n12
    rw [e12]
    refine ⟨(by show 2 ≤ sizeLine; decide), fun t13 n13 => ?_⟩
    obtain ⟨H13, e13, P13, B13, f13⟩ := mk_at (.tup [.int 0, .int 2]) P12 n13
    rw [e13]
    refine ⟨(by show 2 ≤ sizeLine; decide), fun t14 n14 => ?_⟩
    obtain ⟨H14, e14, P14, B14, f14⟩ := mk_at (.tup [.int 2, .int 1]) P13 n14
    rw [e14]
    refine ⟨_, rfl, (by show 2 ≤ sizeLine; decide), fun t15 n15 => ?_⟩
    obtain ⟨H15, e15, P15, B15, f15⟩ := mk_at (.tup [.int (-1), .int 2]) P14 n15
    rw [e15]
    refine ⟨(by show 2 ≤ sizeLine; decide), fun t16 n16 => ?_⟩
    obtain ⟨H16, e16, P16, B16, f16⟩ := mk_at (.tup [.int 1, .int 0]) P15 n16
    rw [e16]
    refine ⟨_, rfl, (by show 2 ≤ sizeLine; decide), fun t17 n17 => ?_⟩
    obtain ⟨H17, e17, P17, B17, f17⟩ := mk_at (.tup [.int 1, .int (-2)]) P16 n17
    rw [e17]
    refine ⟨(by show 2 ≤ sizeLine; decide), fun t18 n18 => ?_⟩
    obtain ⟨H18, e18, P18, B18, f18⟩ := mk_at (.tup [.bl true, .int 1]) P17 n18
    rw [e18]
    refine ⟨(by show 2 ≤ sizeLine; decide), fun t19 n19 => ?_⟩
    obtain ⟨H19, e19, P19, B19, f19⟩ := mk_at (.tup [.int 1, .bl true]) P18 n19
    rw [e19]
    refine ⟨(by show 14 ≤ sizeLine; decide), fun l20 n20 => ?_⟩
    obtain ⟨H20, e20, P20, B20, f20⟩ := mk_at (.lst [.non, .int 1, .bl true, .str "1", .ref l10, .ref t11, .ref t12, .ref t13, .ref t14, .ref t15, .ref t16, .ref t17, .ref t18, .ref t19]) P19 n20
    rw [e20]
    have A20 : ∀ u ∈ ([.non, .int 1, .bl true, .str "1", .ref l10, .ref t11, .ref t12, .ref t13, .ref t14, .ref t15, .ref t16, .ref t17, .ref t18, .ref t19] : List V), Od (hide p H20) u := all_cons (od_non) (all_cons (od_int (by decide)) (all_cons (od_bl true) (all_cons (od_str1) (all_cons (od_l (((B11.hide).trans ((B12.hide).trans ((B13.hide).trans ((B14.hide).trans ((B15.hide).trans ((B16.hide).trans ((B17.hide).trans ((B18.hide).trans ((B19.hide).trans (B20.hide)))))))))) _ _ f10) (by decide) (by decide)) (all_cons (od_1 (((B12.hide).trans ((B13.hide).trans ((B14.hide).trans ((B15.hide).trans ((B16.hide).trans ((B17.hide).trans ((B18.hide).trans ((B19.hide).trans (B20.hide))))))))) _ _ f11)) (all_cons (od_011 (((B13.hide).trans ((B14.hide).trans ((B15.hide).trans ((B16.hide).trans ((B17.hide).trans ((B18.hide).trans ((B19.hide).trans (B20.hide)))))))) _ _ f12)) (all_cons (od_ii (((B14.hide).trans ((B15.hide).trans ((B16.hide).trans ((B17.hide).trans ((B18.hide).trans ((B19.hide).trans (B20.hide))))))) _ _ f13) rfl (by decide) (by decide)) (all_cons (od_ii (((B15.hide).trans ((B16.hide).trans ((B17.hide).trans ((B18.hide).trans ((B19.hide).trans (B20.hide)))))) _ _ f14) rfl (by decide) (by decide)) (all_cons (od_ii (((B16.hide).trans ((B17.hide).trans ((B18.hide).trans ((B19.hide).trans (B20.hide))))) _ _ f15) rfl (by decide) (by decide)) (all_cons (od_ii (((B17.hide).trans ((B18.hide).trans ((B19.hide).trans (B20.hide)))) _ _ f16) rfl (by decide) (by decide)) (all_cons (od_ii (((B18.hide).trans ((B19.hide).trans (B20.hide))) _ _ f17) rfl (by decide) (by decide)) (all_cons (od_T1 (((B19.hide).trans (B20.hide)) _ _ f18)) (all_cons (od_1T ((B20.hide) _ _ f19)) (all_nil))))))))))))))
    obtain ⟨xs, hxs⟩ : ∃ xs : List V, ([.non, .int 1, .bl true, .str "1", .ref l10, .ref t11, .ref t12, .ref t13, .ref t14, .ref t15, .ref t16, .ref t17, .ref t18, .ref t19] : List V) = xs := ⟨_, rfl⟩
    have z20 : xs.length = 14 := by rw [← hxs]; rfl
    rw [hxs] at A20 f20
    refine gn (σ' := [some (V.ref p), some (V.int b), some (V.int a), some (V.ref t6), some (V.ref t9), some (V.ref l20), none, none, none, none, none, none]) rfl ?_
    -- odd + [..]
    refine ⟨_, rfl, (by show 2 ≤ sizeLine; decide), fun t21 n21 => ?_⟩
    obtain ⟨H21, e21, P21, B21, f21⟩ := mk_at (.tup [.int 0, .str "1"]) P20 n21
    rw [e21]
    refine ⟨(by show 2 ≤ sizeLine; decide), fun t22 n22 => ?_⟩
    obtain ⟨H22, e22, P22, B22, f22⟩ := mk_at (.tup [.non, .int 1]) P21 n22
    rw [e22]
    refine ⟨(by show 2 ≤ sizeLine; decide), fun t23 n23 => ?_⟩
    obtain ⟨H23, e23, P23, B23, f23⟩ := mk_at (.tup [.int 0, .int 1]) P22 n23
    rw [e23]
    refine ⟨(by show 2 ≤ sizeLine; decide), fun t24 n24 => ?_⟩
    obtain ⟨H24, e24, P24, B24, f24⟩ := mk_at (.tup [.ref t23, .int 1]) P23 n24
    rw [e24]
    refine fun d25 n25 => ?_
    obtain ⟨H25, e25, P25, B25, f25⟩ := mk_at (.dK []) P24 n25
    rw [e25]
    refine ⟨_, rfl, _, rfl, t6, _, rfl, .inr (SqT.of (hide_same _ _ (((B9.hide).trans ((B10.hide).trans ((B11.hide).trans ((B12.hide).trans ((B13.hide).trans ((B14.hide).trans ((B15.hide).trans ((B16.hide).trans ((B17.hide).trans ((B18.hide).trans ((B19.hide).trans ((B20.hide).trans ((B21.hide).trans ((B22.hide).trans ((B23.hide).trans ((B24.hide).trans (B25.hide))))))))))))))))) _ _ h68.1))), fun l26 n26 => ?_⟩
    obtain ⟨H26, e26, P26, B26, f26⟩ := mk_at (.lst [.int x, .int y]) P25 n26
    rw [e26]
    refine ⟨(by show 2 ≤ sizeLine; decide), fun t27 n27 => ?_⟩
    obtain ⟨H27, e27, P27, B27, f27⟩ := mk_at (.tup [.int 0, .int 0]) P26 n27
    rw [e27]
    refine ⟨_, rfl, _, rfl, (by show 2 ≤ sizeLine; decide), fun t28 n28 => ?_⟩
    obtain ⟨H28, e28, P28, B28, f28⟩ := mk_at (.tup [.int (-1), .int (-2)]) P27 n28
    rw [e28]
    refine ⟨_, rfl, (by show 2 ≤ sizeLine; decide), fun t29 n29 => ?_⟩
    obtain ⟨H29, e29, P29, B29, f29⟩ := mk_at (.tup [.int 0, .int (-1)]) P28 n29
    rw [e29]
    refine ⟨(by show 9 ≤ sizeLine; decide), fun l30 n30 => ?_⟩
    obtain ⟨H30, e30, P30, B30, f30⟩ := mk_at (.lst [.ref t21, .ref t22, .ref t24, .ref d25, .ref t9, .ref l26, .ref t27, .ref t28, .ref t29]) P29 n30
    rw [e30]
    have A30 : ∀ u ∈ ([.ref t21, .ref t22, .ref t24, .ref d25, .ref t9, .ref l26, .ref t27, .ref t28, .ref t29] : List V), Od (hide p H30) u := all_cons (od_0s (((B22.hide).trans ((B23.hide).trans ((B24.hide).trans ((B25.hide).trans ((B26.hide).trans ((B27.hide).trans ((B28.hide).trans ((B29.hide).trans (B30.hide))))))))) _ _ f21)) (all_cons (od_N1 (((B23.hide).trans ((B24.hide).trans ((B25.hide).trans ((B26.hide).trans ((B27.hide).trans ((B28.hide).trans ((B29.hide).trans (B30.hide)))))))) _ _ f22)) (all_cons (od_t1 (((B25.hide).trans ((B26.hide).trans ((B27.hide).trans ((B28.hide).trans ((B29.hide).trans (B30.hide)))))) _ _ f24) (((B24.hide).trans ((B25.hide).trans ((B26.hide).trans ((B27.hide).trans ((B28.hide).trans ((B29.hide).trans (B30.hide))))))) _ _ f23)) (all_cons (od_d (((B26.hide).trans ((B27.hide).trans ((B28.hide).trans ((B29.hide).trans (B30.hide))))) _ _ f25)) (all_cons (od_ii (((B10.hide).trans ((B11.hide).trans ((B12.hide).trans ((B13.hide).trans ((B14.hide).trans ((B15.hide).trans ((B16.hide).trans ((B17.hide).trans ((B18.hide).trans ((B19.hide).trans ((B20.hide).trans ((B21.hide).trans ((B22.hide).trans ((B23.hide).trans ((B24.hide).trans ((B25.hide).trans ((B26.hide).trans ((B27.hide).trans ((B28.hide).trans ((B29.hide).trans (B30.hide))))))))))))))))))))) _ _ f9) (doubled_odd hxy.2.2.1) (by omega) (by omega)) (all_cons (od_l (((B27.hide).trans ((B28.hide).trans ((B29.hide).trans (B30.hide)))) _ _ f26) (by omega) (by omega)) (all_cons (od_ii (((B28.hide).trans ((B29.hide).trans (B30.hide))) _ _ f27) rfl (by decide) (by decide)) (all_cons (od_ii (((B29.hide).trans (B30.hide)) _ _ f28) rfl (by decide) (by decide)) (all_cons (od_ii ((B30.hide) _ _ f29) rfl (by decide) (by decide)) (all_nil)))))))))
    obtain ⟨ys, hys⟩ : ∃ ys : List V, ([.ref t21, .ref t22, .ref t24, .ref d25, .ref t9, .ref l26, .ref t27, .ref t28, .ref t29] : List V) = ys := ⟨_, rfl⟩
    have z30 : ys.length = 9 := by rw [← hys]; rfl
    rw [hys] at A30 f30
    have zl : xs.length + ys.length ≤ sizeLine := by rw [z20, z30]; decide
    refine ⟨l20, l30, _, _, rfl, rfl, hide_same _ _ (((B21.hide).trans ((B22.hide).trans ((B23.hide).trans ((B24.hide).trans ((B25.hide).trans ((B26.hide).trans ((B27.hide).trans ((B28.hide).trans ((B29.hide).trans (B30.hide)))))))))) _ _ f20), hide_same _ _ f30, zl, fun l31 n31 => ?_⟩
    obtain ⟨H31, e31, P31, B31, f31⟩ := mk_at (.lst (xs ++ ys)) P30 n31
    rw [e31]
    refine gn (σ' := [some (V.ref p), some (V.int b), some (V.int a), some (V.ref t6), some (V.ref t9), some (V.ref l31), none, none, none, none, none, none]) rfl ?_
    -- (odd + [(beneath + 1, beneath)])[..]
    refine ⟨_, rfl, _, rfl, _, _, rfl, rfl, _, rfl, (by show 2 ≤ sizeLine; decide), fun t32 n32 => ?_⟩
    obtain ⟨H32, e32, P32, B32, f32⟩ := mk_at (.tup [.int ((b : Int) + 1), .int b]) P31 n32
    rw [e32]
    refine ⟨(by show 1 ≤ sizeLine; decide), fun l33 n33 => ?_⟩
    obtain ⟨H33, e33, P33, B33, f33⟩ := mk_at (.lst [.ref t32]) P32 n33
    rw [e33]
    have zm : (xs ++ ys).length + 1 ≤ sizeLine := by rw [List.length_append, z20, z30]; decide
    refine ⟨l31, l33, _, _, rfl, rfl, hide_same _ _ (((B32.hide).trans (B33.hide)) _ _ f31), hide_same _ _ f33, zm, fun l34 n34 => ?_⟩
    obtain ⟨H34, e34, P34, B34, f34⟩ := mk_at (.lst ((xs ++ ys) ++ [.ref t32])) P33 n34
    rw [e34]
    have A34 : ∀ u ∈ (xs ++ ys) ++ [.ref t32], Od (hide p H34) u := all_app (all_app (all_same A20 ((B21.hide).trans ((B22.hide).trans ((B23.hide).trans ((B24.hide).trans ((B25.hide).trans ((B26.hide).trans ((B27.hide).trans ((B28.hide).trans ((B29.hide).trans ((B30.hide).trans ((B31.hide).trans ((B32.hide).trans ((B33.hide).trans (B34.hide))))))))))))))) (all_same A30 ((B31.hide).trans ((B32.hide).trans ((B33.hide).trans (B34.hide)))))) (all_cons (od_ii (((B33.hide).trans (B34.hide)) _ _ f32) above_odd (by omega) (by omega)) all_nil)
    have z34 : ((xs ++ ys) ++ [V.ref t32]).length = 24 := by rw [List.length_append, List.length_append, z20, z30]; rfl
    refine ⟨_, rfl, p, 24, c5, rfl, P34, by omega, by decide, by decide, fun d35 c35 H35 a35 b35 k35 P35 B35 => ?_⟩
    obtain ⟨odd, hodd, modd⟩ := at_mem (xs := (xs ++ ys) ++ [.ref t32]) a35 (by rw [z34]; exact b35)
    have O35 : Od (hide p H35) odd := (A34 odd modd).same (B35.hide)
    refine ⟨l34, _, _, _, rfl, rfl, SqL.of (hide_same _ _ ((B35.hide) _ _ f34)), hodd, ?_⟩
    refine gn (σ' := [some (V.ref p), some (V.int b), some (V.int a), some (V.ref t6), some (V.ref t9), some (odd), none, none, none, none, none, none]) rfl ?_
    -- is_degree of odd, of due
    refine ⟨_, rfl, odd, false, rfl, (O35.same hide_same).deg, _, _, rfl, rfl, _, rfl, iteNS rfl ?_⟩
    have D35 := h68.same ((B9.hide).trans ((B10.hide).trans ((B11.hide).trans ((B12.hide).trans ((B13.hide).trans ((B14.hide).trans ((B15.hide).trans ((B16.hide).trans ((B17.hide).trans ((B18.hide).trans ((B19.hide).trans ((B20.hide).trans ((B21.hide).trans ((B22.hide).trans ((B23.hide).trans ((B24.hide).trans ((B25.hide).trans ((B26.hide).trans ((B27.hide).trans ((B28.hide).trans ((B29.hide).trans ((B30.hide).trans ((B31.hide).trans ((B32.hide).trans ((B33.hide).trans ((B34.hide).trans (B35.hide)))))))))))))))))))))))))))
    refine ⟨_, rfl, rfl, _, true, rfl, (D35.same hide_same).is, _, _, rfl, rfl, _, rfl, iteNS rfl ?_⟩
    -- one, second
    refine ⟨_, rfl, p, c35, rfl, P35, by omega, fun t36 a36 b36 c36 H36 n36 k36 m36 P36 B36 D36 => ?_⟩
    refine ⟨_, rfl, p, c36, rfl, P36, by omega, fun t37 a37 b37 c37 H37 n37 k37 m37 P37 B37 D37 => ?_⟩
    refine ⟨_, _, rfl, ?_⟩
    rw [show (List.set (List.set [some (V.ref p), some (V.int b), some (V.int a), some (V.ref t6), some (V.ref t9), some (odd), none, none, none, none, none, none] 6 (some (V.ref t36))) 7 (some (V.ref t37)) : L2.St) = [some (V.ref p), some (V.int b), some (V.int a), some (V.ref t6), some (V.ref t9), some (odd), some (V.ref t36), some (V.ref t37), none, none, none, none] from rfl]
    have d36 := (D36.out (P35.at n36)).same (B37.hide)
    have d37 := D37.out (P36.at n37)
    have e36 := d36.same hide_same
    have e37 := d37.same hide_same
    refine ⟨_, rfl, _, rfl, .ref t36, .ref t37, true, rfl, e36.is, (fun h => Bool.noConfusion h), fun _ => ⟨true, e37.is, (fun h => Bool.noConfusion h), fun _ => ⟨t36, t37, a36, b36, a37, b37, rfl, rfl, e36.1, e37.1, by omega, by omega, ?_⟩⟩⟩
    refine ⟨_, rfl, _, rfl, _, rfl, t37, t36, a37, b37, a36, b36, rfl, e37.1, e36.1, by omega, by omega, _, rfl, _, rfl, rfl, _, rfl, ?_⟩
    have el : decide (a36 * b37 ≤ a37 * b36) = !decide (a37 * b36 < a36 * b37) := by
      rw [Bool.eq_iff_iff]
      simp [Nat.not_lt]
    refine iteNS (by rw [el]) ?_
    refine ⟨_, rfl, _, rfl, rfl, .ref t36, .ref t36, true, rfl, e36.is, (fun h => Bool.noConfusion h), fun _ => ⟨true, e36.is, (fun h => Bool.noConfusion h), fun _ => ⟨t36, t36, a36, b36, a36, b36, rfl, rfl, e36.1, e36.1, by omega, by omega, ?_⟩⟩⟩
    refine ⟨_, _, rfl, rfl, _, rfl, iteNS (decide_eq_true (Nat.le_refl _)) ?_⟩
    -- wrong, bad
    refine ⟨_, rfl, (by show 1 ≤ sizeLine; decide), fun t38 n38 => ?_⟩
    obtain ⟨H38, e38, P38, B38, f38⟩ := mk_at (.tup [.int 1]) P37 n38
    rw [e38]
    refine ⟨(by show 5 ≤ sizeLine; decide), fun l39 n39 => ?_⟩
    obtain ⟨H39, e39, P39, B39, f39⟩ := mk_at (.lst [.int (-1), .non, .bl true, .str "1", .ref t38]) P38 n39
    rw [e39]
    refine ⟨_, rfl, p, 5, c37, rfl, P39, by omega, by decide, by decide, fun d40 c40 H40 a40 b40 k40 P40 B40 => ?_⟩
    obtain ⟨wrong, hwr, mwr⟩ := at_mem (xs := [.int (-1), .non, .bl true, .str "1", .ref t38]) a40 b40
    have W40 : Wr 0 (hide p H40) wrong := wr_wrong (((B39.hide).trans (B40.hide)) _ _ f38) wrong mwr
    refine ⟨l39, _, _, _, rfl, rfl, SqL.of (hide_same _ _ ((B40.hide) _ _ f39)), hwr, ?_⟩
    refine ⟨_, rfl, (by show 5 ≤ sizeLine; decide), fun l41 n41 => ?_⟩
    obtain ⟨H41, e41, P41, B41, f41⟩ := mk_at (.lst [.int 0, .int (-3), .non, .bl true, .str "2"]) P40 n41
    rw [e41]
    refine ⟨_, rfl, p, 5, c40, rfl, P41, by omega, by decide, by decide, fun d42 c42 H42 a42 b42 k42 P42 B42 => ?_⟩
    obtain ⟨bad, hbd, mbd⟩ := at_mem (xs := [.int 0, .int (-3), .non, .bl true, .str "2"]) a42 b42
    have Y42 : Wr 1 (hide p H42) bad := wr_bad bad mbd
    refine ⟨l41, _, _, _, rfl, rfl, SqL.of (hide_same _ _ ((B42.hide) _ _ f41)), hbd, ?_⟩
    refine ⟨_, _, rfl, ?_⟩
    rw [show (List.set (List.set [some (V.ref p), some (V.int b), some (V.int a), some (V.ref t6), some (V.ref t9), some (odd), some (V.ref t36), some (V.ref t37), none, none, none, none] 8 (some (wrong))) 9 (some (bad)) : L2.St) = [some (V.ref p), some (V.int b), some (V.int a), some (V.ref t6), some (V.ref t9), some (odd), some (V.ref t36), some (V.ref t37), some (wrong), some (bad), none, none] from rfl]
    -- many
    refine ⟨_, rfl, p, 5, c42, rfl, P42, by omega, by decide, by decide, fun d43 c43 H43 a43 b43 k43 P43 B43 => ?_⟩
    refine ⟨_, _, rfl, rfl, ?_⟩
    obtain ⟨mn, hmn, mn0, mn1⟩ : ∃ mn : Nat, (1 : Int) + d43 = (mn : Int) ∧ 0 < mn ∧ mn ≤ 5 := ⟨(1 + d43).toNat, by omega, by omega, by omega⟩
    show gName _ (V.int ((1 : Int) + d43)) _ _ _
    rw [hmn]
    refine gn (σ' := [some (V.ref p), some (V.int b), some (V.int a), some (V.ref t6), some (V.ref t9), some (odd), some (V.ref t36), some (V.ref t37), some (wrong), some (bad), some (V.int mn), none]) rfl ?_
    have cm1 : ((mn * (b + 1) : Nat) : Int) = (mn : Int) * ((b : Int) + 1) := by push_cast; rfl
    have cm2 : ((mn * b : Nat) : Int) = (mn : Int) * (b : Int) := by push_cast; rfl
    have lm : mn * b < mn * (b + 1) := Nat.mul_lt_mul_of_pos_left (Nat.lt_succ_self b) mn0
    have lm0 : 0 < mn * b := Nat.mul_pos mn0 hb0
    refine ⟨_, rfl, _, rfl, _, _, rfl, rfl, _, _, rfl, rfl, cmul_small mn1 _, _, rfl, _, rfl, _, _, rfl, rfl, cmul_small mn1 _, ?_⟩
    refine caught_nat cm1 cm2 (cr3 (i := mn * (b + 1)) (j := mn * b) lm0 lm fun l44 t44 H44 s44 f44 g44 => ?_)
    have P44 := P43.same s44
    have B44 : But p H43 H44 := Same.but s44
    rw [cm1, cm2] at g44
    refine ⟨_, rfl, _, rfl, _, _, rfl, rfl, _, _, rfl, rfl, cmul_small mn1 _, _, rfl, _, rfl, _, _, rfl, rfl, cmul_small mn1 _, (by show 2 ≤ sizeLine; decide), fun t45 n45 => ?_⟩
    obtain ⟨H45, e45, P45, B45, f45⟩ := mk_at (.tup [.int ((mn : Int) * ((b : Int) + 1)), .int ((mn : Int) * (b : Int))]) P44 n45
    rw [e45]
    refine ⟨(by show 1 ≤ sizeLine; decide), fun l46 n46 => ?_⟩
    obtain ⟨H46, e46, P46, B46, f46⟩ := mk_at (.lst [.ref t45]) P45 n46
    rw [e46]
    have q44 : ∀ {u : Addr} {o : HO}, H44 u = some o → u ≠ p → hide p H46 u = some o := fun e ne => ((B45.hide).trans (B46.hide)) _ _ (by rw [hide_ne ne]; exact e)
    have nl44 : l44 ≠ p := not_purse1 P44 f44
    have nt44 : t44 ≠ p := not_purseT P44 g44
    refine ⟨_, _, dp_lp (hide_same _ _ (q44 f44 nl44)) (hide_same _ _ (q44 g44 nt44)), dp_lp (hide_same _ _ f46) (hide_same _ _ ((B46.hide) _ _ f45)), shp_lp _ _, shp_lp _ _, _, rfl, ne_if (eqv_lp _ _) ?_⟩
    -- told
    have Y46 := Y42.same ((B43.hide).trans ((B44.hide).trans ((B45.hide).trans (B46.hide))))
    have W46 := W40.same ((B41.hide).trans ((B42.hide).trans ((B43.hide).trans ((B44.hide).trans ((B45.hide).trans (B46.hide))))))
    refine ⟨_, rfl, _, rfl, cr1 (W46.same hide_same).kn (Y46.same hide_same).kn W46.bad fun l47 H47 s47 r47 => ?_⟩
    have P47 := P46.same s47
    have B47 : But p H46 H47 := Same.but s47
    have f47 : hide p H47 l47 = some _ := (hide_ne (not_purse1 P47 r47)).trans r47
    have Y47 := Y46.same B47.hide
    refine ⟨_, rfl, cr2 (i := 3) (by decide) (Y47.same hide_same).kn Y47.bad fun l48 H48 s48 r48 => ?_⟩
    have P48 := P47.same s48
    have B48 : But p H47 H48 := Same.but s48
    have f48 : hide p H48 l48 = some _ := (hide_ne (not_purse1 P48 r48)).trans r48
    have cb : ((b + 1 : Nat) : Int) = (b : Int) + 1 := by push_cast; rfl
    refine ⟨_, rfl, _, _, rfl, rfl, _, rfl, caught_nat (i := b + 1) (j := b) cb rfl (cr3 (i := b + 1) (j := b) hb0 (by omega) fun l49 t49 H49 s49 r49 g49 => ?_)⟩
    have P49 := P48.same s49
    have B49 : But p H48 H49 := Same.but s49
    have f49 : hide p H49 l49 = some _ := (hide_ne (not_purse1 P49 r49)).trans r49
    rw [cb] at g49
    have h49 : hide p H49 t49 = some _ := (hide_ne (not_purseT P49 g49)).trans g49
    refine ⟨(by show 3 ≤ sizeLine; decide), fun l50 n50 => ?_⟩
    obtain ⟨H50, e50, P50, B50, f50⟩ := mk_at (.lst [.ref l47, .ref l48, .ref l49]) P49 n50
    rw [e50]
    refine gn (σ' := [some (V.ref p), some (V.int b), some (V.int a), some (V.ref t6), some (V.ref t9), some (odd), some (V.ref t36), some (V.ref t37), some (wrong), some (bad), some (V.int mn), some (V.ref l50)]) rfl ?_
    have O50 := O35.same ((B36.hide).trans ((B37.hide).trans ((B38.hide).trans ((B39.hide).trans ((B40.hide).trans ((B41.hide).trans ((B42.hide).trans ((B43.hide).trans ((B44.hide).trans ((B45.hide).trans ((B46.hide).trans ((B47.hide).trans ((B48.hide).trans ((B49.hide).trans (B50.hide)))))))))))))))
    refine ⟨_, rfl, _, rfl, ca1 (O50.same hide_same).deg fun l51 H51 s51 r51 => ?_⟩
    have P51 := P50.same s51
    have B51 : But p H50 H51 := Same.but s51
    have f51 : hide p H51 l51 = some _ := (hide_ne (not_purse1 P51 r51)).trans r51
    have O51 := O50.same B51.hide
    have v36 := d36.same ((B38.hide).trans ((B39.hide).trans ((B40.hide).trans ((B41.hide).trans ((B42.hide).trans ((B43.hide).trans ((B44.hide).trans ((B45.hide).trans ((B46.hide).trans ((B47.hide).trans ((B48.hide).trans ((B49.hide).trans ((B50.hide).trans (B51.hide))))))))))))))
    refine ⟨_, rfl, _, rfl, ca2 (v36.same hide_same).is (O51.same hide_same).deg fun l52 H52 s52 r52 => ?_⟩
    have P52 := P51.same s52
    have B52 : But p H51 H52 := Same.but s52
    have f52 : hide p H52 l52 = some _ := (hide_ne (not_purse1 P52 r52)).trans r52
    have w36 := (v36.same B52.hide).same hide_same
    have w37 := (d37.same ((B38.hide).trans ((B39.hide).trans ((B40.hide).trans ((B41.hide).trans ((B42.hide).trans ((B43.hide).trans ((B44.hide).trans ((B45.hide).trans ((B46.hide).trans ((B47.hide).trans ((B48.hide).trans ((B49.hide).trans ((B50.hide).trans ((B51.hide).trans (B52.hide)))))))))))))))).same hide_same
    refine ⟨_, rfl, _, rfl, ca3 w36 w37 (by omega) (by omega) ?_⟩
    refine ⟨(by show 3 ≤ sizeLine; decide), fun l53 n53 => ?_⟩
    obtain ⟨H53, e53, P53, B53, f53⟩ := mk_at (.lst [.ref l51, .ref l52, .non]) P52 n53
    rw [e53]
    refine ⟨l50, l53, _, _, rfl, rfl, hide_same _ _ (((B51.hide).trans ((B52.hide).trans (B53.hide))) _ _ f50), hide_same _ _ f53, (by show 3 + 3 ≤ sizeLine; decide), fun l54 n54 => ?_⟩
    obtain ⟨H54, e54, P54, B54, f54⟩ := mk_at (.lst ([.ref l47, .ref l48, .ref l49] ++ [.ref l51, .ref l52, .non])) P53 n54
    rw [e54]
    refine gn (σ' := [some (V.ref p), some (V.int b), some (V.int a), some (V.ref t6), some (V.ref t9), some (odd), some (V.ref t36), some (V.ref t37), some (wrong), some (bad), some (V.int mn), some (V.ref l54)]) rfl ?_
    -- str of both
    obtain ⟨dw, qw, sw⟩ := W40.dat
    obtain ⟨db, qb, sb⟩ := Y42.dat
    obtain ⟨dO, qo, so⟩ := O35.dat
    have q54 : Dq (hide p H54) (.ref l54) (.list [.list [dw], .list [db], .list [.tuple [.int ((b : Int) + 1), .int b]], .list [dO], .list [dO], .none]) := .lst f54 (.cons (.lst (((B48.hide).trans ((B49.hide).trans ((B50.hide).trans ((B51.hide).trans ((B52.hide).trans ((B53.hide).trans (B54.hide))))))) _ _ f47) (.cons (Dq.same ((B41.hide).trans ((B42.hide).trans ((B43.hide).trans ((B44.hide).trans ((B45.hide).trans ((B46.hide).trans ((B47.hide).trans ((B48.hide).trans ((B49.hide).trans ((B50.hide).trans ((B51.hide).trans ((B52.hide).trans ((B53.hide).trans (B54.hide)))))))))))))) _ _ qw) .nil)) (.cons (.lst (((B49.hide).trans ((B50.hide).trans ((B51.hide).trans ((B52.hide).trans ((B53.hide).trans (B54.hide)))))) _ _ f48) (.cons (Dq.same ((B43.hide).trans ((B44.hide).trans ((B45.hide).trans ((B46.hide).trans ((B47.hide).trans ((B48.hide).trans ((B49.hide).trans ((B50.hide).trans ((B51.hide).trans ((B52.hide).trans ((B53.hide).trans (B54.hide)))))))))))) _ _ qb) .nil)) (.cons (.lst (((B50.hide).trans ((B51.hide).trans ((B52.hide).trans ((B53.hide).trans (B54.hide))))) _ _ f49) (.cons (.tup (((B50.hide).trans ((B51.hide).trans ((B52.hide).trans ((B53.hide).trans (B54.hide))))) _ _ h49) (.cons (.int _) (.cons (.int _) .nil))) .nil)) (.cons (.lst (((B52.hide).trans ((B53.hide).trans (B54.hide))) _ _ f51) (.cons (Dq.same ((B36.hide).trans ((B37.hide).trans ((B38.hide).trans ((B39.hide).trans ((B40.hide).trans ((B41.hide).trans ((B42.hide).trans ((B43.hide).trans ((B44.hide).trans ((B45.hide).trans ((B46.hide).trans ((B47.hide).trans ((B48.hide).trans ((B49.hide).trans ((B50.hide).trans ((B51.hide).trans ((B52.hide).trans ((B53.hide).trans (B54.hide))))))))))))))))))) _ _ qo) .nil)) (.cons (.lst (((B53.hide).trans (B54.hide)) _ _ f52) (.cons (Dq.same ((B36.hide).trans ((B37.hide).trans ((B38.hide).trans ((B39.hide).trans ((B40.hide).trans ((B41.hide).trans ((B42.hide).trans ((B43.hide).trans ((B44.hide).trans ((B45.hide).trans ((B46.hide).trans ((B47.hide).trans ((B48.hide).trans ((B49.hide).trans ((B50.hide).trans ((B51.hide).trans ((B52.hide).trans ((B53.hide).trans (B54.hide))))))))))))))))))) _ _ qo) .nil)) (.cons .non .nil))))))
    have sD := small_end (i := (b : Int) + 1) (j := b) sw sb so (by omega) (by omega)
    refine ⟨_, rfl, l54, _, rfl, Dq.same hide_same _ _ q54, sD, ?_⟩
    refine ⟨_, rfl, (by show 1 ≤ sizeLine; decide), fun l55 n55 => ?_⟩
    obtain ⟨H55, e55, P55, B55, f55⟩ := mk_at (.lst [wrong]) P54 n55
    rw [e55]
    refine ⟨_, rfl, (by show 1 ≤ sizeLine; decide), fun l56 n56 => ?_⟩
    obtain ⟨H56, e56, P56, B56, f56⟩ := mk_at (.lst [bad]) P55 n56
    rw [e56]
    refine ⟨_, rfl, _, _, rfl, rfl, _, rfl, (by show 2 ≤ sizeLine; decide), fun t57 n57 => ?_⟩
    obtain ⟨H57, e57, P57, B57, f57⟩ := mk_at (.tup [.int ((b : Int) + 1), .int b]) P56 n57
    rw [e57]
    refine ⟨(by show 1 ≤ sizeLine; decide), fun l58 n58 => ?_⟩
    obtain ⟨H58, e58, P58, B58, f58⟩ := mk_at (.lst [.ref t57]) P57 n58
    rw [e58]
    refine ⟨_, rfl, (by show 1 ≤ sizeLine; decide), fun l59 n59 => ?_⟩
    obtain ⟨H59, e59, P59, B59, f59⟩ := mk_at (.lst [odd]) P58 n59
    rw [e59]
    refine ⟨_, rfl, (by show 1 ≤ sizeLine; decide), fun l60 n60 => ?_⟩
    obtain ⟨H60, e60, P60, B60, f60⟩ := mk_at (.lst [odd]) P59 n60
    rw [e60]
    refine ⟨(by show 6 ≤ sizeLine; decide), fun l61 n61 => ?_⟩
    obtain ⟨H61, e61, P61, B61, f61⟩ := mk_at (.lst [.ref l55, .ref l56, .ref l58, .ref l59, .ref l60, .non]) P60 n61
    rw [e61]
    have q61 : Dq (hide p H61) (.ref l61) (.list [.list [dw], .list [db], .list [.tuple [.int ((b : Int) + 1), .int b]], .list [dO], .list [dO], .none]) := .lst f61 (.cons (.lst (((B56.hide).trans ((B57.hide).trans ((B58.hide).trans ((B59.hide).trans ((B60.hide).trans (B61.hide)))))) _ _ f55) (.cons (Dq.same ((B41.hide).trans ((B42.hide).trans ((B43.hide).trans ((B44.hide).trans ((B45.hide).trans ((B46.hide).trans ((B47.hide).trans ((B48.hide).trans ((B49.hide).trans ((B50.hide).trans ((B51.hide).trans ((B52.hide).trans ((B53.hide).trans ((B54.hide).trans ((B55.hide).trans ((B56.hide).trans ((B57.hide).trans ((B58.hide).trans ((B59.hide).trans ((B60.hide).trans (B61.hide))))))))))))))))))))) _ _ qw) .nil)) (.cons (.lst (((B57.hide).trans ((B58.hide).trans ((B59.hide).trans ((B60.hide).trans (B61.hide))))) _ _ f56) (.cons (Dq.same ((B43.hide).trans ((B44.hide).trans ((B45.hide).trans ((B46.hide).trans ((B47.hide).trans ((B48.hide).trans ((B49.hide).trans ((B50.hide).trans ((B51.hide).trans ((B52.hide).trans ((B53.hide).trans ((B54.hide).trans ((B55.hide).trans ((B56.hide).trans ((B57.hide).trans ((B58.hide).trans ((B59.hide).trans ((B60.hide).trans (B61.hide))))))))))))))))))) _ _ qb) .nil)) (.cons (.lst (((B59.hide).trans ((B60.hide).trans (B61.hide))) _ _ f58) (.cons (.tup (((B58.hide).trans ((B59.hide).trans ((B60.hide).trans (B61.hide)))) _ _ f57) (.cons (.int _) (.cons (.int _) .nil))) .nil)) (.cons (.lst (((B60.hide).trans (B61.hide)) _ _ f59) (.cons (Dq.same ((B36.hide).trans ((B37.hide).trans ((B38.hide).trans ((B39.hide).trans ((B40.hide).trans ((B41.hide).trans ((B42.hide).trans ((B43.hide).trans ((B44.hide).trans ((B45.hide).trans ((B46.hide).trans ((B47.hide).trans ((B48.hide).trans ((B49.hide).trans ((B50.hide).trans ((B51.hide).trans ((B52.hide).trans ((B53.hide).trans ((B54.hide).trans ((B55.hide).trans ((B56.hide).trans ((B57.hide).trans ((B58.hide).trans ((B59.hide).trans ((B60.hide).trans (B61.hide)))))))))))))))))))))))))) _ _ qo) .nil)) (.cons (.lst ((B61.hide) _ _ f60) (.cons (Dq.same ((B36.hide).trans ((B37.hide).trans ((B38.hide).trans ((B39.hide).trans ((B40.hide).trans ((B41.hide).trans ((B42.hide).trans ((B43.hide).trans ((B44.hide).trans ((B45.hide).trans ((B46.hide).trans ((B47.hide).trans ((B48.hide).trans ((B49.hide).trans ((B50.hide).trans ((B51.hide).trans ((B52.hide).trans ((B53.hide).trans ((B54.hide).trans ((B55.hide).trans ((B56.hide).trans ((B57.hide).trans ((B58.hide).trans ((B59.hide).trans ((B60.hide).trans (B61.hide)))))))))))))))))))))))))) _ _ qo) .nil)) (.cons .non .nil))))))
    refine ⟨l61, _, rfl, Dq.same hide_same _ _ q61, sD, ?_⟩
    refine ⟨rfl, ?_⟩
    have fin : ∀ z : PySem.Str, decide (V.str z = V.str z) = true := fun z => decide_eq_true rfl
    show Q (.bl (decide (V.str _ = V.str _))) H61
    rw [fin]
    exact q c43 H61 (by omega) P61 (B1.trans (B2.trans (B3.trans (B4.trans (B5.trans (B6.trans (B7.trans (B8.trans (B9.trans (B10.trans (B11.trans (B12.trans (B13.trans (B14.trans (B15.trans (B16.trans (B17.trans (B18.trans (B19.trans (B20.trans (B21.trans (B22.trans (B23.trans (B24.trans (B25.trans (B26.trans (B27.trans (B28.trans (B29.trans (B30.trans (B31.trans (B32.trans (B33.trans (B34.trans (B35.trans (B36.trans (B37.trans (B38.trans (B39.trans (B40.trans (B41.trans (B42.trans (B43.trans (B44.trans (B45.trans (B46.trans (B47.trans (B48.trans (B49.trans (B50.trans (B51.trans (B52.trans (B53.trans (B54.trans (B55.trans (B56.trans (B57.trans (B58.trans (B59.trans (B60.trans (B61)))))))))))))))))))))))))))))))))))))))))))))))))))))))))))))
end
end G1
set_option maxHeartbeats 0
namespace G1
open PySem PySem.Spec PyProof.Rows L2
/-! ### what the head tells -/
def oexB (K : PySem.W.Frag) (C : Addr) : Bool := (match K.lookup C with
    | some ⟨.type "type", _, .cls cd, sl⟩ => (match cd.mro, sl.toList with
      | .ref C' :: bm, [_, _, _, _, some (.builtin n), _] => C' == C && n == "ValueError.__new__" && !cd.hasDel && PySem.HandSPX.refsVE bm && cd.hasDict
      | _, _ => false)
    | _ => false) && (He.eqO (PySem.W.findIn K (.ref C) "__setattr__") (some (some (.builtin "object.__setattr__"))) && (decide (PySem.W.subIn K (.ref C) (.type "BaseException") = some true) && (decide (PySem.W.typeIn K (.ref C) = some (.type "type")) && PySem.W.keepIn K (.ref C))))
theorem oexB_ok {K : PySem.W.Frag} {C : Addr} (h : oexB K C = true) : OexC K C := by
  obtain ⟨q, h⟩ := He.ba h
  obtain ⟨h2, h⟩ := He.ba h
  obtain ⟨h3, h⟩ := He.ba h
  obtain ⟨h4, h5⟩ := He.ba h
  refine ⟨?_, He.eqO_ok h2, of_decide_eq_true h3, of_decide_eq_true h4, h5⟩
  split at q
  · rename_i dd cd sl ho
    split at q
    · rename_i C' bm k0 k1 k2 k3 n k5 hm hs
      simp only [Bool.and_eq_true, beq_iff_eq, Bool.not_eq_true'] at q
      obtain ⟨⟨⟨⟨rfl, rfl⟩, hdel⟩, ht⟩, hd⟩ := q
      obtain ⟨nm, bs, mro, ns, qn, hdict, sn, sub, ab, col, del⟩ := cd
      dsimp only at hm hdel hd
      subst hm hdel hd
      obtain ⟨l⟩ := sl
      dsimp only at hs
      subst hs
      exact ⟨nm, qn, ns, bs, bm, sn, sub, ab, col, dd, k0, k1, k2, k3, k5, ho, ht⟩
    · cases q
  · cases q
abbrev cID (K : PySem.W.Frag) : Addr := He.ga K "InvalidDegree"
abbrev fID (K : PySem.W.Frag) : Addr := He.ma K (cID K) "__init__"
def exB (K : PySem.W.Frag) : Bool := oexB K (cID K) && (xfB K (cID K) && (He.eqO (PySem.W.findIn K (.ref (cID K)) "thing") (some none) && (He.eqO (PySem.W.findIn K (.ref (cID K)) "__init__") (some (some (.ref (fID K)))) &&
  (decide (PySem.W.typeIn K (.ref (fID K)) = some (.type "function")) && (decide (PySem.W.exmOne K (.ref (cID K)) (.ref (cID K)) = some true) && ((K.lookup sysModules).isSome && He.eqO (PySem.W.nsIn K mainGlobals "gcd") (some (some (.builtin "math.gcd")))))))))
def obsX (fa : List He.Fa) (fn : List He.DefD) (K : PySem.W.Frag) : He.AlD := (exB K && (He.obsD fa fn K).1, (He.obsD fa fn K).2)
def frX (n : Nat) (g : Addr → Option Obj) : PySem.W.Frag := He.frG g (sysModules :: He.asD g n)
def hookX (n : Nat) (fa : List He.Fa) (fn : List He.DefD) : PySem.W.Hook where
  α := He.AlD
  obs := fun s => obsX fa fn (frX n s.heap.get?)
  val := fun _ => He.valD fn
  says := fun _ h => ∃ K : PySem.W.Frag, K.In h ∧ exB K = true ∧ He.SaysD fa fn K
  of := fun _ s e => by
    have e1 : (exB (frX n s.heap.get?) && (He.obsD fa fn (frX n s.heap.get?)).1) = true := congrArg (fun z : He.AlD => z.1) e
    have e2 : (He.obsD fa fn (frX n s.heap.get?)).2 = fn.map He.DefD.val := congrArg (fun z : He.AlD => z.2) e
    obtain ⟨h1, h2⟩ := He.ba e1
    exact ⟨_, He.frG_in, h1, Prod.ext h2 e2⟩
  keeps := fun _ _ _ ⟨K, hK, c⟩ k => ⟨K, PySem.W.Frag.In.keeps hK k, c⟩
def dd (x : Str) (st : Stmt) : He.DefD := ⟨(x, none), x, x, defArgs st, defBody st, defScope st, [], []⟩
def fnL : List He.DefD := [⟨("InvalidDegree", some "__init__"), "__init__", "InvalidDegree.__init__", defArgs sInit, defBody sInit, defScope sInit, [], []⟩,
  dd "is_whole" sWhole, dd "is_degree" sIsDeg, dd "check_degree" sCheck, dd "degree" sDegree, dd "at_most" sAtMost, dd "_law_mixed" sMixed, dd "_law_purse" sPurse, dd "_law_draw" sDraw, dd "_law_great" sGreat,
  dd "_law_common" sCommon, dd "_law_lowest" sLowest, dd "_law_degree" sDeg, dd "_law_less" sLess, dd "_law_caught" sCaught, dd "_law_right" sRight, dd "law" sLaw]
def faL : List He.Fa := [.glo "InvalidDegree", .glo "is_whole", .glo "is_degree", .glo "check_degree", .glo "degree", .glo "at_most", .glo "_law_mixed", .glo "_law_purse", .glo "_law_draw", .glo "_law_great",
  .glo "_law_common", .glo "_law_lowest", .glo "_law_degree", .glo "_law_less", .glo "_law_caught", .glo "_law_right", .glo "law",
  .free "int", .free "max", .free "min", .free "len", .free "range", .free "abs", .free "str", .free "list", .free "isinstance", .free "bool", .free "tuple"]
abbrev R : PySem.W.OpenRow := PySem.W.OpenLaw.row PySem.Challenge.rw_gradetalk_k01_degrees
abbrev hk : PySem.W.Hook := hookX 6 faL fnL
def ob (s : PySem.W.SharedT) : He.AlD := obsX faL fnL (frX 6 (HandSHeadRun.getT s))
theorem ob_eq (s : PySem.W.SharedT) : ob s = hk.obs s.abs := by
  have e : HandSHeadRun.getT s = s.abs.heap.get? := funext (HandSHeadRun.getT_eq s)
  show obsX faL fnL (frX 6 (HandSHeadRun.getT s)) = obsX faL fnL (frX 6 s.abs.heap.get?)
  rw [e]
def lsL : List PySem.Str := ["GradeError", "InvalidDegree", "is_whole", "is_degree", "check_degree", "degree", "at_most", "_law_mixed", "_law_purse", "_law_draw", "_law_great", "_law_common", "_law_lowest", "_law_degree", "_law_plus", "_law_less", "_law_caught", "_law_right"]
theorem run (w : World) : HandSHeadRun.RunEqI R (PySem.W.view R.prog [0, 22]) hk ob 4000 lsL w := by
  unfold HandSHeadRun.RunEqI
  kernel_rfl
end G1
set_option maxHeartbeats 0
namespace G1
open PySem PySem.Spec PyProof.Rows L2
theorem mk_s {q : Addr} {H : Hp} (o : HO) (n : H q = none) : ∃ H', upd H q o = H' ∧ Same H H' ∧ H' q = some o :=
  ⟨_, rfl, fun b u e => (upd_ne (ne_of_none e n)).trans e, upd_same⟩
def spLawR (K : PySem.W.Frag) : Sp := fun vs H Q _ => ∃ (a : Addr) (ns : List Int), vs = [.ref a] ∧ SqL K H a (ns.map V.int) ∧ ns.length ≤ 63 ∧ ∀ H', Q (.bl true) H'
theorem gc1 : ((0 / Nat.gcd 0 7 : Nat) : Int) = 0 := by decide +kernel
theorem gc2 : ((7 / Nat.gcd 0 7 : Nat) : Int) = 1 := by decide +kernel
theorem gc3 : ((7 / Nat.gcd 7 7 : Nat) : Int) = 1 := by decide +kernel
theorem gc4 : ((6 / Nat.gcd 6 8 : Nat) : Int) = 3 := by decide +kernel
theorem gc5 : ((8 / Nat.gcd 6 8 : Nat) : Int) = 4 := by decide +kernel
abbrev dEnd : PyData := .list [.tuple [.int 0, .int 1], .tuple [.int 1, .int 1], .tuple [.int 3, .int 4]]
theorem shp_end : SeqAt.shaped dEnd = true := by
  unfold SeqAt.shaped
  simp [PyData.canLay0, PyData.canLayAll0, PyData.depth, PyData.depthAll]
theorem eqv_end : PyData.eqv dEnd dEnd = true := by simp [PyData.eqv, PyData.eqvAll]
theorem dp_end {K : PySem.W.Frag} {H : Hp} {l t u v : Addr} (e : H l = some (.lst [.ref t, .ref u, .ref v])) (e1 : H t = some (.tup [.int 0, .int 1])) (e2 : H u = some (.tup [.int 1, .int 1])) (e3 : H v = some (.tup [.int 3, .int 4])) : Dp K H (.ref l) dEnd :=
  .lst (SqL.of e) (.cons (dp_pair e1) (.cons (dp_pair e2) (.cons (dp_pair e3) .nil)))
section
variable {P : Program} {w : World} {K : PySem.W.Frag} {mg : Str → Option Value} {base : Heap} {C : Addr}
theorem scLaw : FnScope ["script", "at", "purse", "turn"] ["script"] (defScope sLaw) := ⟨rfl, rfl, rfl, by decide +kernel, rfl, by decide +kernel, by decide +kernel⟩
theorem ok_law {f : Addr} {fd : FuncData} (F : FnP K "law" sLaw f fd) (B : Blt mg) (cP : Cl CX0 P w K mg base 1 "_law_purse" ["cells", "at"] (spPurse K)) (cR : ClG CX0 P w K mg base 7 "_law_right" ["purse"] spRight)
    (cD : Cl (L2.CX P w) P w K mg base 4 "degree" ["top", "bottom"] (spDegree C)) (cI : Cl CX0 P w K mg base 2 "is_degree" ["thing"] spIsDeg) : FnG CX0 P w K mg base 8 f fd ["script"] (spLawR K) := by
  refine okG F scLaw (fun vs H Q E h => ?_) (fun cdv A outer s H vs Q E gd hr h => ⟨_, PSs.nox (pss_cons
      (ps_for PassesOwn.never rfl (pi_range1 (by rfl) B.range (pa_cons (pe_op op_add pe_int (pe_callB (call_min2 rfl) (by rfl) B.min (by decide +kernel) (pa_cons pe_int (pa_cons (pe_callB call_len_seq (by rfl) B.len PySem.boot_len (pa_cons (pv 0) pa_nil)) pa_nil)))) pa_nil)) (pg_name (i := 1) scLaw.nd rfl (Or.inl rfl))
        (pss_cons (ps_set (i := 2) scLaw.nd rfl (Or.inl rfl) (pe_c0 cP hr (by decide) (by rfl) (pa_cons (pv 0) (pa_cons (pv 1) pa_nil))))
        (pss_one (ps_for PassesOwn.never rfl (pi_range1 (by rfl) B.range (pa_cons pe_int pa_nil)) (pg_name (i := 3) scLaw.nd rfl (Or.inl rfl))
          (pss_one (ps_if (pt_not (pt_val (pe_cG cR gd hr (by decide) (by rfl) (pa_cons (pv 2) pa_nil)))) (pss_one (ps_ret pe_bl)) pss_nil))))))
      (pss_one (ps_ret (pe_and (pe_cmpR (op_eqD hr.units) (pe_lst (pa_cons (pe_cX cD hr (by decide) (by rfl) (pa_cons pe_int (pa_cons pe_int pa_nil))) (pa_cons (pe_cX cD hr (by decide) (by rfl) (pa_cons pe_int (pa_cons pe_int pa_nil))) (pa_cons (pe_cX cD hr (by decide) (by rfl) (pa_cons pe_int (pa_cons pe_int pa_nil))) pa_nil))))
          (pe_lst (pa_cons (pe_tup (pa_cons pe_int (pa_cons pe_int pa_nil))) (pa_cons (pe_tup (pa_cons pe_int (pa_cons pe_int pa_nil))) (pa_cons (pe_tup (pa_cons pe_int (pa_cons pe_int pa_nil))) pa_nil)))) (nomark _))
        (pe_one (pe_cmpR op_isBl (pe_c0 cI hr (by decide) (by rfl) (pa_cons (pe_tup (pa_cons pe_int (pa_cons pe_int pa_nil))) pa_nil)) pe_bl (nomark _))))))), ?_⟩)
  · obtain ⟨a, ns, rfl, _⟩ := h
    rfl
  · obtain ⟨a, ns, rfl, hS, hn, q⟩ := h
    obtain ⟨m, hm, hm8⟩ : ∃ m : Nat, (1 : Int) + (if ((ns.map V.int).length : Int) < 8 then ((ns.map V.int).length : Int) else 8) = (m : Int) ∧ m ≤ 9 := by
      refine ⟨((1 : Int) + (if ((ns.map V.int).length : Int) < 8 then ((ns.map V.int).length : Int) else 8)).toNat, ?_, ?_⟩ <;> split <;> omega
    refine ⟨_, rfl, a, _, rfl, .inl hS, _, _, rfl, _, _, rfl, rfl, m, congrArg (fun z => [V.int z]) hm, by omega, by omega, ?_⟩
    refine for_range (lo := 0) (n := (m : Int).toNat) (fun i σ H' => ∃ v1 v2 v3 : Option V, σ = [some (.ref a), v1, v2, v3] ∧ Same H H') ⟨none, none, none, rfl, .refl _⟩ ?_ ?_
    · rintro i σ H' hi ⟨v1, v2, v3, rfl, s1⟩
      refine ⟨_, rfl, _, rfl, a, ns, _, rfl, s1.seq hS, by omega, by omega, fun p H1 n1 s2 P1 => ?_⟩
      refine ⟨4, rfl, by decide, by decide, for_range (lo := 0) (n := 4) (fun j σ H2 => ∃ (c : Int) (v : Option V), σ = [some (.ref a), some (.int (0 + (i : Int))), some (.ref p), v] ∧ Same H' H2 ∧ PurseAt H2 p c ∧ c ≤ 9000 + 100 * j) ⟨_, v3, rfl, s2, P1, by omega⟩ ?_ ?_⟩
      · rintro j σ H2 hj ⟨c, v, rfl, s3, P2, hc⟩
        refine ⟨_, rfl, p, c, rfl, P2, by omega, fun c' H3 hc' P3 B3 => ⟨_, rfl, iteF ?_⟩⟩
        refine ⟨c', _, rfl, fun b o e => B3 b o (ne_of_none e n1) (s3 b o e), P3, by omega⟩
      · rintro σ H2 ⟨c, v, rfl, s3, P2, hc⟩
        exact ⟨_, _, _, rfl, s1.trans s3⟩
    · rintro σ H' ⟨v1, v2, v3, rfl, s1⟩
      refine ⟨_, _, rfl, trivial, trivial, .inr (.inr (.inr ⟨0, 7, rfl, rfl, by decide, by decide, by decide, fun t1 n1 => ?_⟩))⟩
      obtain ⟨G1, e1, S1, f1⟩ := mk_s (.tup [.int (0 / Nat.gcd 0 7 : Nat), .int (7 / Nat.gcd 0 7 : Nat)]) n1
      rw [e1]
      refine ⟨_, _, rfl, trivial, trivial, .inr (.inr (.inr ⟨7, 7, rfl, rfl, by decide, by decide, by decide, fun t2 n2 => ?_⟩))⟩
      obtain ⟨G2, e2, S2, f2⟩ := mk_s (.tup [.int (7 / Nat.gcd 7 7 : Nat), .int (7 / Nat.gcd 7 7 : Nat)]) n2
      rw [e2]
      refine ⟨_, _, rfl, trivial, trivial, .inr (.inr (.inr ⟨6, 8, rfl, rfl, by decide, by decide, by decide, fun t3 n3 => ?_⟩))⟩
      obtain ⟨G3, e3, S3, f3⟩ := mk_s (.tup [.int (6 / Nat.gcd 6 8 : Nat), .int (8 / Nat.gcd 6 8 : Nat)]) n3
      rw [e3]
      rw [gc1, gc2] at f1
      rw [gc3] at f2
      rw [gc4, gc5] at f3
      refine ⟨(by show 3 ≤ sizeLine; decide), fun l4 n4 => ?_⟩
      obtain ⟨G4, e4, S4, f4⟩ := mk_s (.lst [.ref t1, .ref t2, .ref t3]) n4
      rw [e4]
      refine ⟨(by show 2 ≤ sizeLine; decide), fun t5 n5 => ?_⟩
      obtain ⟨G5, e5, S5, f5⟩ := mk_s (.tup [.int 0, .int 1]) n5
      rw [e5]
      refine ⟨(by show 2 ≤ sizeLine; decide), fun t6 n6 => ?_⟩
      obtain ⟨G6, e6, S6, f6⟩ := mk_s (.tup [.int 1, .int 1]) n6
      rw [e6]
      refine ⟨(by show 2 ≤ sizeLine; decide), fun t7 n7 => ?_⟩
      obtain ⟨G7, e7, S7, f7⟩ := mk_s (.tup [.int 3, .int 4]) n7
      rw [e7]
      refine ⟨(by show 3 ≤ sizeLine; decide), fun l8 n8 => ?_⟩
      obtain ⟨G8, e8, S8, f8⟩ := mk_s (.lst [.ref t5, .ref t6, .ref t7]) n8
      rw [e8]
      have S78 := S7.trans S8
      have S58 := S5.trans (S6.trans S78)
      refine ⟨dEnd, dEnd, dp_end (S58 _ _ f4) (S58 _ _ (S4 _ _ (S3 _ _ (S2 _ _ f1)))) (S58 _ _ (S4 _ _ (S3 _ _ f2))) (S58 _ _ (S4 _ _ f3)), dp_end f8 (S78 _ _ (S6 _ _ f5)) (S78 _ _ f6) (S8 _ _ f7), shp_end, shp_end, _, rfl, ?_⟩
      rw [eqv_end]
      refine iteT ?_
      refine ⟨(by show 2 ≤ sizeLine; decide), fun t9 n9 => ?_⟩
      obtain ⟨G9, e9, S9, f9⟩ := mk_s (.tup [.int 0, .int 5]) n9
      rw [e9]
      refine ⟨_, false, rfl, (od_ii f9 rfl (by decide) (by decide)).deg, _, _, rfl, rfl, ?_⟩
      exact q _
end
/-! ### the end -/
theorem walk_ofG {l : PySem.W.OpenLaw} {n k : Nat} {q : Program} {loose : List Str} {XP : (Str → Option Value) → Heap → Prop} {YP : World → Heap → Prop} {d : DefRec} {x : Str} (hn : l.most = some n) (hn2 : n ≤ sizeLine) (hdf : d.params.defaults = []) (hr : Room k callerA)
    (F : ∀ (w : World) (mg : Str → Option Value) (fa : Addr) (h : Heap), YP w h → h.Ns mainGlobals mg → mg d.name = some (.ref fa) →
      ∃ (K : PySem.W.Frag) (fd : FuncData) (sp : Sp), K.In h ∧ (∀ (s : Shared) (u : Value), BindsTo s fd ⟨[u], []⟩ [(x, u)]) ∧ (∀ (H : Hp) (a : Addr) (ns : List Int), ns.length ≤ n → SqL K H a (ns.map V.int) → sp [.ref a] H (fun v _ => v = .bl true) E0) ∧
        ∀ base : Heap, K.In base → base.Ns mainGlobals mg → FnG CX0 l.prog w K mg base k fa fd [x] sp) : PySem.W.WalkO q loose XP YP l.row.toRowW d [] (fun f vs => PySem.call f vs) := by
  refine Att.attach_call hn hdf ?_
  intro w s₀ s₁ mg mb fa o pm cd doc a vs ns G Y ho hd hcd hmg hobj hints hlen hg
  obtain ⟨K, fd, sp, KX, hb, hsp, hF⟩ := F w mg fa _ Y G.T.g hmg
  exact law_callG KX G.T.g G.T.b G.T.builtins G.T.nolimit hg hobj hints (Nat.le_trans hlen hn2) hr hF hb (fun H hS => hsp H a ns hlen hS)
theorem def_at {K : PySem.W.Frag} {h : Heap} {mg : Str → Option Value} (X : K.In h) (G : h.Ns mainGlobals mg) (c : He.SaysD faL fnL K) {x : Str} {st : Stmt} (i j : Nat) (hi : fnL[i]? = some (dd x st)) (hj : faL[j]? = some (.glo x)) : DefAt K mg x st := by
  obtain ⟨fd, F⟩ := c.def_ i hi
  exact ⟨He.ga K x, fd, F, He.glo_ok X G (c.fact j hj)⟩
end G1
set_option maxHeartbeats 0
namespace G1
open PySem PySem.Spec PyProof.Rows L2
theorem law_facts {P : Program} {w : World} {K : PySem.W.Frag} {h : Heap} {mg : Str → Option Value} {fa : Addr} (X : K.In h) (G : h.Ns mainGlobals mg) (hfa : mg ("law" : Str) = some (.ref fa)) (ex : exB K = true) (c : He.SaysD faL fnL K) :
    ∃ fd : FuncData, (∀ (s : Shared) (v : Value), BindsTo s fd ⟨[v], []⟩ [("script", v)]) ∧ ∀ base : Heap, K.In base → base.Ns mainGlobals mg → FnG CX0 P w K mg base 8 fa fd ["script"] (spLawR K) := by
  obtain ⟨x1, ex⟩ := He.ba ex
  obtain ⟨x2, ex⟩ := He.ba ex
  obtain ⟨x3, ex⟩ := He.ba ex
  obtain ⟨x4, ex⟩ := He.ba ex
  obtain ⟨x5, ex⟩ := He.ba ex
  obtain ⟨x6, ex⟩ := He.ba ex
  obtain ⟨x7, x8⟩ := He.ba ex
  have B : Blt mg := {
    int := He.free_ok X G (c.fact 17 (f := .free "int") rfl)
    max := He.free_ok X G (c.fact 18 (f := .free "max") rfl)
    min := He.free_ok X G (c.fact 19 (f := .free "min") rfl)
    len := He.free_ok X G (c.fact 20 (f := .free "len") rfl)
    range := He.free_ok X G (c.fact 21 (f := .free "range") rfl)
    abs := He.free_ok X G (c.fact 22 (f := .free "abs") rfl)
    str := He.free_ok X G (c.fact 23 (f := .free "str") rfl)
    list := He.free_ok X G (c.fact 24 (f := .free "list") rfl)
    isin := He.free_ok X G (c.fact 25 (f := .free "isinstance") rfl)
    bool := He.free_ok X G (c.fact 26 (f := .free "bool") rfl)
    tuple := He.free_ok X G (c.fact 27 (f := .free "tuple") rfl)
    gcd := PySem.W.mg_of X G (He.eqO_ok x8) }
  obtain ⟨fdI, FI⟩ := c.def_ 0 rfl
  have T : ErrTxt K mg (cID K) (fID K) := {
    ox := oexB_ok x1
    xf := xfB_ok x2
    gC := He.glo_ok X G (c.fact 0 (f := .glo "InvalidDegree") rfl)
    no := He.eqO_ok x3
    iC := He.eqO_ok x4
    tI := of_decide_eq_true x5
    te := of_decide_eq_true x6
    fn := ⟨fdI, FI⟩ }
  have dW := def_at X G c (x := "is_whole") (st := sWhole) 1 1 rfl rfl
  have dI := def_at X G c (x := "is_degree") (st := sIsDeg) 2 2 rfl rfl
  have dK := def_at X G c (x := "check_degree") (st := sCheck) 3 3 rfl rfl
  have dD := def_at X G c (x := "degree") (st := sDegree) 4 4 rfl rfl
  have dA := def_at X G c (x := "at_most") (st := sAtMost) 5 5 rfl rfl
  have dM := def_at X G c (x := "_law_mixed") (st := sMixed) 6 6 rfl rfl
  have dP := def_at X G c (x := "_law_purse") (st := sPurse) 7 7 rfl rfl
  have dDr := def_at X G c (x := "_law_draw") (st := sDraw) 8 8 rfl rfl
  have dG := def_at X G c (x := "_law_great") (st := sGreat) 9 9 rfl rfl
  have dC := def_at X G c (x := "_law_common") (st := sCommon) 10 10 rfl rfl
  have dL := def_at X G c (x := "_law_lowest") (st := sLowest) 11 11 rfl rfl
  have dDe := def_at X G c (x := "_law_degree") (st := sDeg) 12 12 rfl rfl
  have dLe := def_at X G c (x := "_law_less") (st := sLess) 13 13 rfl rfl
  have dCa := def_at X G c (x := "_law_caught") (st := sCaught) 14 14 rfl rfl
  have dR := def_at X G c (x := "_law_right") (st := sRight) 15 15 rfl rfl
  obtain ⟨fd, F⟩ := c.def_ 16 (d := dd "law" sLaw) rfl
  have e := hfa.symm.trans (He.glo_ok X G (c.fact 16 (f := .glo "law") rfl))
  cases e
  have b := FunD.bindsA (ps := ["script"]) F fun _ _ _ _ _ _ us hl => match us, hl with | [_], _ => rfl
  refine ⟨fd, fun s v => b s [v] rfl, fun base _ _ => ?_⟩
  have cM : Cl CX0 P w K mg base 1 "_law_mixed" ["cell", "k"] spMixed := cl_mixed dM B
  have cDr := cl_draw dDr B cM
  have cG := cl_great dG B cDr
  have cC : Cl CX0 P w K mg base 1 "_law_common" ["one", "second"] spCommon := cl_common dC
  have cL := cl_lowest dL B cC
  have cDe := cl_deg dDe cDr cL
  have cLe : Cl CX0 P w K mg base 1 "_law_less" ["u", "v"] spLess := cl_less dLe
  have cW : Cl CX0 P w K mg base 1 "is_whole" ["thing"] spWhole := cl_whole dW B
  have cI := cl_isdeg dI B cW
  have cK := cl_check dK T cI
  have cD := cl_degree dD B T cW
  have cA := cl_atmost dA cK
  have cCa := cl_caught dCa T cD cA
  have hsm : ∃ o, K.lookup sysModules = some o := Option.isSome_iff_exists.mp x7
  have TT : Tools P w K mg base (cID K) := ⟨cDr, cG, cL, cDe, cLe, cI, cD, cA, cCa, kw_isdeg cI dI, kw_degree cD dD, kw_atmost cA dA, hsm⟩
  exact ok_law F B (cl_purse dP B) (cl_right dR B TT) cD cI
end G1
open PySem PySem.W PySem.Calls PyProof.Rows
theorem PySem.Challenge.cw_gradetalk_k01_degrees_holds : PySem.Challenge.rw_gradetalk_k01_degrees.Holds := by
  w_on; o_law
  refine HandSHeadRun.head_imp (r := OpenLaw.row PySem.Challenge.rw_gradetalk_k01_degrees) (q := view (OpenLaw.row PySem.Challenge.rw_gradetalk_k01_degrees).prog [0, 22]) (H := G1.hk) (ob := G1.ob) (M := 4000) (loose := G1.lsL) (d := HandSHeadRun.topDef (OpenLaw.row PySem.Challenge.rw_gradetalk_k01_degrees).prog 22) (kwd := []) G1.ob_eq
    G1.run (by kernel_rfl) (by kernel_rfl) (by kernel_rfl) (by rfl) (by first | assumption | decide +kernel) (by decide +kernel) ⟨rfl, rfl, rfl, rfl, rfl, by decide +kernel⟩ ?hw ?hc
  case hw => w_witness2
  case hc =>
    refine G1.walk_ofG (l := PySem.Challenge.rw_gradetalk_k01_degrees) (n := 63) (k := 8) (x := "script") rfl (by decide) (by kernel_rfl) ⟨rfl, by decide, by decide⟩ ?F
    intro w mg fa h Y G hmg0
    obtain ⟨K, KX, ex, c⟩ := Y
    have hmg : mg ("law" : PySem.Str) = some (.ref fa) := by
      have e : (HandSHeadRun.topDef (OpenLaw.row PySem.Challenge.rw_gradetalk_k01_degrees).prog 22).name = ("law" : PySem.Str) := by kernel_rfl
      rw [← e]
      exact hmg0
    obtain ⟨fd, hb, hF⟩ := G1.law_facts (P := (PySem.Challenge.rw_gradetalk_k01_degrees).prog) (w := w) KX G hmg ex c
    exact ⟨K, fd, G1.spLawR K, KX, hb, fun H a ns hl hS => ⟨a, ns, rfl, hS, hl, fun _ => rfl⟩, hF⟩
#print axioms PySem.Challenge.cw_gradetalk_k01_degrees_holds
