import PyProof.Rows.All
import Wide.All
import OpenK.AllK
import Wide.FinOn
import HandS.ForExc
import HandS.ForMost
import HandS.Wide
import HandS.IsInst
import HandS.TryMany
import HandS.Style
import HandS.Flow
import HandS.Defaults
import HandS.ExcInit
import HandS.ExcField
import HandS.SetKeys
import HandS.Gcd
import HandS.HeadHook2
import HandS.HeadHook3
import PyProof.ReprLen
import PyProof.ReprRoads
import HandS.Deep
import HandS.Walk
import HandS.Evl
import HandS.TryOnly
import HandS.MakeKw
import HandS.MakeKwOnly
import HandS.FStr
import HandS.SlotsOwn
import KE.KFmtOwn
import KE.KOpsOwn
import PyProof.InstEq
import HandS.Iter
import PyProof.Draws
import PyProof.WalksMore
import HandS.Head0
import HandS.Head1
import HandS.Head2
import HandS.Head3
import HandS.HeadEnd
import PySem.Challenge.RW_gradetalk_k10_both_and_then
set_option Elab.async false
set_option linter.all false
set_option maxRecDepth 100000
set_option maxHeartbeats 4000000
namespace G1
open PySem PySem.Spec PyProof.Rows L2
/-- a def of the top under its own name -/
abbrev FnP (K : PySem.W.Frag) (x : Str) (st : Stmt) (f : Addr) (fd : FuncData) : Prop :=
  FunD K x x (defArgs st) (defBody st) (defScope st) [] [] f fd
/-! ### further rules -/
def CPowW (i j : Int) : Prop := 0 ≤ j ∧ (Builtin.Int.intBits i : Int) * j ≤ 2 ^ 27
theorem op_powW {X : Cx} : OpR X (binaryOp .Pow) (rI CPowW fun i j => .int (i ^ j.toNat)) := opI fun _ _ _ _ _ _ _ hc q => pow_int hc.1 hc.2 q
/-- f and its arguments by name alone -/
def tCallN0 (sp : Sp) (g : List V → List V) (E : XK) (tk : TA) : TE := fun σ H Q => tk σ H fun zs H1 => sp (g zs) H1 Q E
section
variable {X : Cx} {CX : CXT} {k : Nat} {f : Addr} {fd : FuncData} {ps ks : List Str} {sp : Sp} {E : XK} {x : Str} {p pos : Pos} {kws : List Keyword} {tk : TA} {g : List Value → List Value → List Value} {gV : List V → List V → List V}
theorem pe_callN0 (F : FnOk X.prog X.w X.K X.mg X.base CX k f fd ps sp) (hr : Room k X.A) (hg : Gl X x) (hm : X.mg x = some (.ref f)) (hk : PySem.W.keepIn X.K (.ref f) = true) (hb : KBinds X.K fd ps ks g gV) (hx : Passes CX X E)
    (hkw : PK X kws tk) (hall : (backToKw pos (keywordEach kws X.env)).all (·.1.isSome) = true := by rfl) (hks : (backToKw pos (keywordEach kws X.env)).filterMap (·.1) = ks := by rfl)
    (nodbg : (x == ("__debug__" : Str)) = false := by decide)
    (plain : ((backTo pos (starEach [] X.env)).any (·.1) || (backToKw pos (keywordEach kws X.env)).any (·.1.isNone)) = false := by rfl) :
    PE X (.Call (.Name x p) [] kws pos) (tCallN0 sp (gV []) E tk) := by
  constructor
  intro pins s σ H Q I h
  apply wpAny_Call_Name_kw
  apply ld_glob I hg hm _ nodbg
  apply PySem.W.callWith_KW0 (h₀ := X.base) I.ok.mod.kin hk hall _ plain
  refine thn (hkw.run pos pins s σ H _ I h) ?_
  rintro ws s2 ⟨zs, H2, I2, rz, q2⟩
  refine ⟨I2.kIn, ?_⟩
  rw [hks]
  exact run_fnk (us := []) F hr hb hx I2 .nil rz q2
end
theorem call_str_bl {X : Cx} : CallR X (.type "str") (fun xs H Q => ∃ b : Bool, xs = [.bl b] ∧ Q (.str (if b then "True" else "False")) H) := by
  intro pn s st H xs us Q I r ask
  obtain ⟨b, rfl, q⟩ := ask
  cases r with
  | cons r1 r2 =>
    cases r2
    cases r1
    exact PySem.P.str_of_bool ⟨.str (if b then "True" else "False"), H, I.tok _, ⟨_, rfl⟩, q⟩
/-! ### the purse -/
structure PurseAt (H : Hp) (p : Addr) (c : Int) : Prop where
  ex : ∃ a b : Int, H p = some (.lst [.int a, .int b, .int c]) ∧ 0 ≤ a ∧ a.natAbs < 2 ^ 1600 ∧ 0 ≤ b ∧ b < 2147483647
  c0 : 0 ≤ c
/-- all but p stands -/
def But (p : Addr) (H H' : Hp) : Prop := ∀ x o, x ≠ p → H x = some o → H' x = some o
theorem But.free {p : Addr} {H H' : Hp} {o : HO} (b : But p H H') (hp : H' p = some o) {x : Addr} (h : H' x = none) : H x = none := by
  cases q : H x with
  | none => rfl
  | some u =>
    have ne : x ≠ p := by
      intro e
      rw [e, hp] at h
      cases h
    rw [b x u ne q] at h
    cases h
theorem But.trans {p : Addr} {H H1 H2 : Hp} (a : But p H H1) (b : But p H1 H2) : But p H H2 := fun x o n h => b x o n (a x o n h)
theorem But.refl {p : Addr} {H : Hp} : But p H H := fun _ _ _ h => h
theorem PurseAt.free {p : Addr} {H H' : Hp} {c : Int} (P : PurseAt H' p c) (b : But p H H') {x : Addr} (h : H' x = none) : H x = none := by
  obtain ⟨a, d, e, _⟩ := P.ex
  exact b.free e h
/-! ### promises -/
def spMixed : Sp := fun vs H Q _ => ∃ c k : Int, vs = [.int c, .int k] ∧ 0 ≤ c ∧ c < 2147483647 ∧ 0 ≤ k ∧ k < 2 ^ 50 ∧ ∀ r, 0 ≤ r → Q (.int r) H
def spPurse (K : PySem.W.Frag) : Sp := fun vs H Q _ => ∃ (a : Addr) (ns : List Int) (i : Int), vs = [.ref a, .int i] ∧ SqL K H a (ns.map V.int) ∧ 0 ≤ i ∧ i ≤ 8 ∧
  ∀ (p : Addr) (H' : Hp), H p = none → Same H H' → PurseAt H' p (1000 * i) → Q (.ref p) H'
def spDraw : Sp := fun vs H Q _ => ∃ (p : Addr) (n c : Int), vs = [.ref p, .int n] ∧ PurseAt H p c ∧ c < 2 ^ 40 ∧ 0 < n ∧ n < 2 ^ 60 ∧
  ∀ (d c' : Int) (H' : Hp), 0 ≤ d → d < n → c' ≤ c + 1 → PurseAt H' p c' → But p H H' → Q (.int d) H'
/-- what the top has bound -/
structure Blt (mg : Str → Option Value) : Prop where
  int : mg "int" = none
  max : mg "max" = none
  min : mg "min" = none
  len : mg "len" = none
  range : mg "range" = none
  abs : mg "abs" = none
  str : mg "str" = none
  list : mg "list" = none
  isin : mg "isinstance" = none
  bool : mg "bool" = none
  tuple : mg "tuple" = none
  set : mg "set" = none
  sorted : mg "sorted" = none
  sum : mg "sum" = none
  rev : mg "reversed" = none
  enum : mg "enumerate" = none
  zip : mg "zip" = none
  dict : mg "dict" = none
/-- a def of the top, called by its name -/
def DefAt (K : PySem.W.Frag) (mg : Str → Option Value) (x : Str) (st : Stmt) : Prop := ∃ (f : Addr) (fd : FuncData), FnP K x st f fd ∧ mg x = some (.ref f)
section
variable {P : Program} {w : World} {K : PySem.W.Frag} {mg : Str → Option Value} {base : Heap} {f : Addr} {fd : FuncData} {x : Str} {st : Stmt} {ps : List Str} {sp : Sp} {k : Nat}
/-- .. and its promise; CX: what it may let out -/
structure Cl (CX : CXT) (P : Program) (w : World) (K : PySem.W.Frag) (mg : Str → Option Value) (base : Heap) (k : Nat) (x : Str) (ps : List Str) (sp : Sp) : Prop where
  ex : ∃ (f : Addr) (fd : FuncData), FnOk P w K mg base CX k f fd ps sp ∧ mg x = some (.ref f) ∧ PySem.W.keepIn K (.ref f) = true ∧ Binds K fd ps [] ∧ ∃ (oc : Value) (od : Option Addr) (osl : Array (Option Value)), K.lookup f = some ⟨oc, od, .func fd, osl⟩
theorem cl_of {CX : CXT} (F : FnP K x st f fd) (hm : mg x = some (.ref f)) (G : FnOk P w K mg base CX k f fd ps sp)
    (b : ∀ (kV doc pm : Value) (an : Option Addr) (cdv ct : Value) (us : List Value), us.length = ps.length → bindArgs (PySem.W.fnOf x x (defArgs st) (defBody st) (defScope st) .none kV doc pm an cdv ct) ⟨us, []⟩ = pure (ps.zip us)) : Cl CX P w K mg base k x ps sp := by
  obtain ⟨oc, od, dV, kV, doc, pm, an, cdv, ct, osl, e, lk, _⟩ := id F.ex
  exact ⟨f, fd, G, hm, F.kp, F.bindsN b, oc, od, osl, lk⟩
end
section
variable {X : Cx} {k j : Nat} {x : Str} {ps : List Str} {sp : Sp} {p pos : Pos} {e : Expr} {es : List Expr} {t : TA}
theorem pe_c0 (c : Cl CX0 X.prog X.w X.K X.mg X.base k x ps sp) (hr : Room j X.A) (hk : k ≤ j) (hg : Gl X x) (ha : PA X (e :: es) t)
    (nodbg : (x == ("__debug__" : Str)) = false := by decide) (first : starEach (e :: es) X.env = (false, eval e X.env) :: starEach es X.env := by rfl) (plain : (backTo pos (starEach es X.env)).any (·.1) = false := by rfl) :
    PE X (.Call (.Name x p) (e :: es) [] pos) (tCall sp [] E0 t) := by
  obtain ⟨f, fd, F, hm, kp, b, _⟩ := c.ex
  exact pe_call F (hr.mono hk) hg hm kp b .nil pass0 ha nodbg first plain
/-- a def that may raise, where it does not -/
theorem pe_cX (c : Cl (L2.CX X.prog X.w) X.prog X.w X.K X.mg X.base k x ps sp) (hr : Room j X.A) (hk : k ≤ j) (hg : Gl X x) (ha : PA X (e :: es) t)
    (nodbg : (x == ("__debug__" : Str)) = false := by decide) (first : starEach (e :: es) X.env = (false, eval e X.env) :: starEach es X.env := by rfl) (plain : (backTo pos (starEach es X.env)).any (·.1) = false := by rfl) :
    PE X (.Call (.Name x p) (e :: es) [] pos) (tCall sp [] E0 t) := by
  obtain ⟨f, fd, F, hm, kp, b, _⟩ := c.ex
  exact pe_call F (hr.mono hk) hg hm kp b .nil passL ha nodbg first plain
/-- .. where what it raises is wished for -/
theorem pe_cS {W : WX} (c : Cl (L2.CX X.prog X.w) X.prog X.w X.K X.mg X.base k x ps sp) (hr : Room j X.A) (hk : k ≤ j) (tk : Takes X W) (hg : Gl X x) (ha : PA X (e :: es) t)
    (nodbg : (x == ("__debug__" : Str)) = false := by decide) (first : starEach (e :: es) X.env = (false, eval e X.env) :: starEach es X.env := by rfl) (plain : (backTo pos (starEach es X.env)).any (·.1) = false := by rfl) :
    PE X (.Call (.Name x p) (e :: es) [] pos) (tCallS sp (WE W) t) := by
  obtain ⟨f, fd, F, hm, kp, b, _⟩ := c.ex
  exact pe_callS F (hr.mono hk) hg hm kp b (fun σ => passAt tk σ) ha nodbg first plain
end
/-! ### what stays -/
/-- a tuple stands on -/
theorem sqt_on {K : PySem.W.Frag} {H H' : Hp} {a : Addr} {xs : List V} (h : SqT K H a xs) (e : Same H H') : SqT K H' a xs :=
  match h with
  | .inl (.inl h) => .inl (.inl (e a _ h))
  | .inl (.inr ⟨o, h⟩) => .inl (.inr ⟨o, e a _ h⟩)
  | .inr h => .inr h
theorem ty_tup {K : PySem.W.Frag} {H : Hp} {a : Addr} {xs : List V} (h : SqT K H a xs) : TyX K H (.ref a) (.type "tuple") :=
  match h with
  | .inl (.inl h) => .base (.tup h)
  | .inl (.inr ⟨_, h⟩) => .fTuple h
  | .inr ⟨_, _, _, e, c, _⟩ => .kTuple e c
/-- things that are no objects of the package -/
def Kn (H : Hp) : V → Prop
  | .non => True | .bl _ => True | .int _ => True | .str _ => True
  | .ref a => (∃ xs, H a = some (.lst xs)) ∨ (∃ xs, H a = some (.tup xs)) ∨ (∃ kvs, H a = some (.dK kvs))
  | _ => False
theorem Kn.same {H H' : Hp} (s : Same H H') : ∀ {v : V}, Kn H v → Kn H' v
  | .non, _ => trivial | .bl _, _ => trivial | .int _, _ => trivial | .str _, _ => trivial
  | .ref a, h => by
    rcases h with ⟨xs, e⟩ | ⟨xs, e⟩ | ⟨xs, e⟩
    · exact .inl ⟨xs, s _ _ e⟩
    · exact .inr (.inl ⟨xs, s _ _ e⟩)
    · exact .inr (.inr ⟨xs, s _ _ e⟩)
  | .byt _, h => h.elim | .flt _, h => h.elim | .ty _, h => h.elim
/-! ### small steps -/
theorem units65 {k : Nat} {A : Around} (r : Room k A) : A.units + 65 < cLine := by
  have := r.un
  omega
theorem same_at {H G : Hp} {D : Addr} {o : HO} (n : H D = none) (s : Same H G) : Same H (upd G D o) := fun b u e => (upd_ne (ne_of_none e n)).trans (s b u e)
theorem yes_to {σ : L2.St} {H : Hp} {Q : Bool → Hp → Prop} (h : Q true H) : tYes σ H Q := h
theorem gn1 {i : Nat} {x : V} {σ σ' : L2.St} {H : Hp} {Q : L2.St → Hp → Prop} (e : σ.set i (some x) = σ') (h : Q σ' H) : gName i x σ H Q := by
  subst e
  exact h
/-! ### a class of one's own -/
structure OwnF (K : PySem.W.Frag) (C : Addr) : Prop where
  ne : PySem.W.findIn K (.ref C) "__ne__" = some (some (.builtin "object.__ne__"))
  mo : PySem.W.mroIn K C (.type "object") = some true
  sf : PySem.W.selfFirst K C = true
  isCls : PySem.W.findIn K (.ref C) "__class__" = some (some (.builtin "object.__class__"))
  getCls : PySem.W.specialIn K (.builtin "object.__class__") "__get__" = some (some (.builtin "getset_descriptor.__get__"))
  takesCls : PySem.W.takesIn K (.builtin "object.__class__") = some true
  ki : ∀ n ∈ ["NoneType", "bool", "int", "str", "list", "tuple", "dict"], PySem.W.kitOne K (.type n) (.ref C) = some false
  fm : PySem.W.findIn K (.ref C) "__format__" = some (some (.builtin "object.__format__"))
/-! ### errors of one field -/
/-- C(v) leaves, its own dict at d -/
def Rs (x : Str) (C : Addr) (H : Hp) (v : V) (E : XK) : Prop := ∀ (d : Addr) (H' : Hp), H d = none → Same H H' → H' d = some (.xd [(x, v)]) → E (.ref C) (some d) H'
def spErr (x : Str) (C : Addr) : Sp := fun vs H Q _ => ∃ (a : Addr) (v : V), vs = [.ref a, v] ∧ H a = some (exo a C none) ∧ ∀ dx, H dx = none → dx ≠ a → Q .non (upd (upd H dx (exd dx [(x, v)])) a (exo a C (some dx)))
theorem Rs.imp {x : Str} {C : Addr} {H : Hp} {v : V} {E E' : XK} (h : Rs x C H v E) (k : ∀ c d H', E c d H' → E' c d H') : Rs x C H v E' := fun d H' n s e => k _ _ _ (h d H' n s e)
theorem Rs.from {x : Str} {C : Addr} {H H1 : Hp} {v : V} {E : XK} (h : Rs x C H v E) (s : Same H H1) : Rs x C H1 v E := fun d H' n s' e => h d H' (s.free n) (s.trans s') e
theorem len1 (v : V) : [v].length ≤ 1000 := (by decide : 1 ≤ 1000)
theorem mk_rs {x : Str} {C : Addr} {H : Hp} {v : V} {E : XK} (h : Rs x C H v E) (a : Addr) (ha : H a = none) :
    spErr x C [.ref a, v] (upd H a (exo a C none)) (fun u H2 => u = .non ∧ ∃ (d : Addr) (fs : List (Str × V)), H2 a = some (exo a C (some d)) ∧ H2 d = some (exd d fs) ∧ H d = none ∧ E (.ref C) (some d) (upd (del H2 a) d (.xd fs))) (fun _ _ _ => False) := by
  refine ⟨a, v, rfl, upd_same, fun dx n ne => ⟨rfl, dx, [(x, v)], upd_same, ?_, ?_, ?_⟩⟩
  · rw [upd_ne ne, upd_same]
  · rw [upd_ne ne] at n
    exact n
  · have n' : H dx = none := by
      rw [upd_ne ne] at n
      exact n
    refine h dx _ n' (fun b o e => ?_) upd_same
    have n1 : b ≠ dx := ne_of_none e n'
    have n2 : b ≠ a := ne_of_none e ha
    rw [upd_ne n1, del_ne n2, upd_ne n2, upd_ne n1, upd_ne n2]
    exact e
/-- what the top has written of one -/
structure ErrG (K : PySem.W.Frag) (mg : Str → Option Value) (nm x qual : Str) (st : Stmt) (C fI : Addr) : Prop where
  ox : OexC K C
  xf : XfC K C
  gC : mg nm = some (.ref C)
  no : PySem.W.findIn K (.ref C) x = some none
  iC : PySem.W.findIn K (.ref C) "__init__" = some (some (.ref fI))
  tI : PySem.W.typeIn K (.ref fI) = some (.type "function")
  te : PySem.W.exmOne K (.ref C) (.ref C) = some true
  fn : ∃ fd, FunD K "__init__" qual (defArgs st) (defBody st) (defScope st) [] [] fI fd
end G1
set_option maxHeartbeats 4000000
namespace G1
open PySem PySem.Spec PyProof.Rows L2
/-! ### the text by places -/
def top (i : Nat) : Stmt := PySem.Challenge.pw_gradetalk_k10_both_and_then.main.body.getD i (.Pass ⟨0, 0, 0, 0⟩)
abbrev sWall : Stmt := top 1
abbrev sGradeError : Stmt := top 3
abbrev mInvalidDegreeInit : Stmt := inClass (top 4) 0
abbrev mInvalidPiecesInit : Stmt := inClass (top 5) 0
abbrev mOverlapInit : Stmt := inClass (top 6) 0
abbrev mInvalidShapeInit : Stmt := inClass (top 7) 0
abbrev sWhole : Stmt := top 9
abbrev sIsDeg : Stmt := top 10
abbrev sCheck : Stmt := top 11
abbrev sDegree : Stmt := top 12
abbrev sRatio : Stmt := top 14
abbrev sPlus : Stmt := top 15
abbrev sMinus : Stmt := top 16
abbrev sTimes : Stmt := top 17
abbrev sOver : Stmt := top 18
abbrev sIsBelow : Stmt := top 19
abbrev sLowerOf : Stmt := top 20
abbrev sHigherOf : Stmt := top 21
abbrev mJoiningInit : Stmt := inClass (top 25) 0
abbrev mJoiningBoth : Stmt := inClass (top 25) 1
abbrev mJoiningThen : Stmt := inClass (top 25) 2
abbrev mJoiningWorth : Stmt := inClass (top 25) 3
abbrev mJoiningIsBreak : Stmt := inClass (top 25) 4
abbrev mJoiningEq : Stmt := inClass (top 25) 5
abbrev sSums : Stmt := top 26
abbrev sCheckPieces : Stmt := top 27
abbrev sIsPiece : Stmt := top 28
abbrev sOverlap : Stmt := top 29
abbrev sAscending : Stmt := top 30
abbrev sShapeOf : Stmt := top 31
abbrev sBoth : Stmt := top 32
abbrev sThen : Stmt := top 33
abbrev sPieceAround : Stmt := top 34
abbrev sMixed : Stmt := top 36
abbrev sPurse : Stmt := top 37
abbrev sDraw : Stmt := top 38
abbrev sGreat : Stmt := top 39
abbrev sCommon : Stmt := top 40
abbrev sLowest : Stmt := top 41
abbrev sDeg : Stmt := top 42
abbrev lPlus : Stmt := top 43
abbrev sLess : Stmt := top 44
abbrev lLot : Stmt := top 45
abbrev lPiece : Stmt := top 46
abbrev lBoth : Stmt := top 47
abbrev lThen : Stmt := top 48
abbrev lNear : Stmt := top 49
abbrev sRight : Stmt := top 50
abbrev sLaw : Stmt := top 51
end G1
set_option maxHeartbeats 4000000
namespace G1
open PySem PySem.Spec PyProof.Rows L2
section
variable {P : Program} {w : World} {K : PySem.W.Frag} {mg : Str → Option Value} {base : Heap} {C fI : Addr}
abbrev ErrD (K : PySem.W.Frag) (mg : Str → Option Value) (C fI : Addr) : Prop := ErrG K mg "InvalidDegree" "thing" "InvalidDegree.__init__" mInvalidDegreeInit C fI
theorem scInitD : FnScope ["self", "thing"] ["self", "thing"] (defScope mInvalidDegreeInit) := ⟨rfl, rfl, rfl, by decide +kernel, rfl, by decide +kernel, by decide +kernel⟩
theorem ok_errD {fd : FuncData} (T : ErrD K mg C fI) (F : FunD K "__init__" "InvalidDegree.__init__" (defArgs mInvalidDegreeInit) (defBody mInvalidDegreeInit) (defScope mInvalidDegreeInit) [] [] fI fd) : FnOk P w K mg base CX0 1 fI fd ["self", "thing"] (spErr "thing" C) := by
  refine F.ok scInitD (fun vs H Q E h => ?_) (fun cdv A outer s H vs Q E hr h => ⟨_, PSs.nox (pss_one (ps_ost (pv 0) (pv 1))), ?_⟩)
  · obtain ⟨a, v, rfl, _⟩ := h
    rfl
  · obtain ⟨a, v, rfl, e, q⟩ := h
    exact ⟨_, rfl, _, rfl, a, C, rfl, T.ox, T.no, .inl ⟨e, fun dx n ne => q dx n ne⟩⟩
theorem err_bindsD {fd : FuncData} (F : FunD K "__init__" "InvalidDegree.__init__" (defArgs mInvalidDegreeInit) (defBody mInvalidDegreeInit) (defScope mInvalidDegreeInit) [] [] fI fd) : Binds K fd ["self", "thing"] [] :=
  F.bindsN fun _ _ _ _ _ _ us hl => match us, hl with | [_, _], _ => rfl
abbrev ErrP (K : PySem.W.Frag) (mg : Str → Option Value) (C fI : Addr) : Prop := ErrG K mg "InvalidPieces" "place" "InvalidPieces.__init__" mInvalidPiecesInit C fI
theorem scInitP : FnScope ["self", "place"] ["self", "place"] (defScope mInvalidPiecesInit) := ⟨rfl, rfl, rfl, by decide +kernel, rfl, by decide +kernel, by decide +kernel⟩
theorem ok_errP {fd : FuncData} (T : ErrP K mg C fI) (F : FunD K "__init__" "InvalidPieces.__init__" (defArgs mInvalidPiecesInit) (defBody mInvalidPiecesInit) (defScope mInvalidPiecesInit) [] [] fI fd) : FnOk P w K mg base CX0 1 fI fd ["self", "place"] (spErr "place" C) := by
  refine F.ok scInitP (fun vs H Q E h => ?_) (fun cdv A outer s H vs Q E hr h => ⟨_, PSs.nox (pss_one (ps_ost (pv 0) (pv 1))), ?_⟩)
  · obtain ⟨a, v, rfl, _⟩ := h
    rfl
  · obtain ⟨a, v, rfl, e, q⟩ := h
    exact ⟨_, rfl, _, rfl, a, C, rfl, T.ox, T.no, .inl ⟨e, fun dx n ne => q dx n ne⟩⟩
theorem err_bindsP {fd : FuncData} (F : FunD K "__init__" "InvalidPieces.__init__" (defArgs mInvalidPiecesInit) (defBody mInvalidPiecesInit) (defScope mInvalidPiecesInit) [] [] fI fd) : Binds K fd ["self", "place"] [] :=
  F.bindsN fun _ _ _ _ _ _ us hl => match us, hl with | [_, _], _ => rfl
abbrev ErrSh (K : PySem.W.Frag) (mg : Str → Option Value) (C fI : Addr) : Prop := ErrG K mg "InvalidShape" "thing" "InvalidShape.__init__" mInvalidShapeInit C fI
theorem scInitSh : FnScope ["self", "thing"] ["self", "thing"] (defScope mInvalidShapeInit) := ⟨rfl, rfl, rfl, by decide +kernel, rfl, by decide +kernel, by decide +kernel⟩
theorem ok_errSh {fd : FuncData} (T : ErrSh K mg C fI) (F : FunD K "__init__" "InvalidShape.__init__" (defArgs mInvalidShapeInit) (defBody mInvalidShapeInit) (defScope mInvalidShapeInit) [] [] fI fd) : FnOk P w K mg base CX0 1 fI fd ["self", "thing"] (spErr "thing" C) := by
  refine F.ok scInitSh (fun vs H Q E h => ?_) (fun cdv A outer s H vs Q E hr h => ⟨_, PSs.nox (pss_one (ps_ost (pv 0) (pv 1))), ?_⟩)
  · obtain ⟨a, v, rfl, _⟩ := h
    rfl
  · obtain ⟨a, v, rfl, e, q⟩ := h
    exact ⟨_, rfl, _, rfl, a, C, rfl, T.ox, T.no, .inl ⟨e, fun dx n ne => q dx n ne⟩⟩
theorem err_bindsSh {fd : FuncData} (F : FunD K "__init__" "InvalidShape.__init__" (defArgs mInvalidShapeInit) (defBody mInvalidShapeInit) (defScope mInvalidShapeInit) [] [] fI fd) : Binds K fd ["self", "thing"] [] :=
  F.bindsN fun _ _ _ _ _ _ us hl => match us, hl with | [_, _], _ => rfl
end
end G1
set_option maxHeartbeats 8000000
namespace G1
open PySem PySem.Spec PyProof.Rows L2
/-! ### data that str writes -/
mutual
inductive Dq (H : Hp) : V → PyData → Prop
  | non : Dq H .non .none
  | bl (b : Bool) : Dq H (.bl b) (.bool b)
  | int (i : Int) : Dq H (.int i) (.int i)
  | str (x : Str) : Dq H (.str x) (.str x)
  | lst {a : Addr} {xs : List V} {ds : List PyData} : H a = some (.lst xs) → DqAll H xs ds → Dq H (.ref a) (.list ds)
  | tup {a : Addr} {xs : List V} {ds : List PyData} : H a = some (.tup xs) → DqAll H xs ds → Dq H (.ref a) (.tuple ds)
  | dk {a : Addr} : H a = some (.dK []) → Dq H (.ref a) (.dict [])
inductive DqAll (H : Hp) : List V → List PyData → Prop
  | nil : DqAll H [] []
  | cons {v : V} {vs : List V} {d : PyData} {ds : List PyData} : Dq H v d → DqAll H vs ds → DqAll H (v :: vs) (d :: ds)
end
mutual
theorem Dq.same {H H' : Hp} (s : Same H H') : ∀ (d : PyData) (v : V), Dq H v d → Dq H' v d
  | .none, _, h => by cases h; exact .non
  | .bool b, _, h => by cases h; exact .bl b
  | .int i, _, h => by cases h; exact .int i
  | .str x, _, h => by cases h; exact .str x
  | .list ds, _, h => by
    cases h with
    | lst e k => exact .lst (s _ _ e) (DqAll.same s ds _ k)
  | .tuple ds, _, h => by
    cases h with
    | tup e k => exact .tup (s _ _ e) (DqAll.same s ds _ k)
  | .dict _, _, h => by
    cases h with
    | dk e => exact .dk (s _ _ e)
theorem DqAll.same {H H' : Hp} (s : Same H H') : ∀ (ds : List PyData) (vs : List V), DqAll H vs ds → DqAll H' vs ds
  | [], _, h => by cases h; exact .nil
  | d :: ds, _, h => by
    cases h with
    | cons h1 h2 => exact .cons (Dq.same s d _ h1) (DqAll.same s ds _ h2)
end
section
variable {X : Cx} {pins : List (Addr × Obj)} {σ : L2.St} {H : Hp} {s : Shared}
mutual
theorem Dq.reads (I : Inv X pins σ H s) (hm : H sysModules = none) : ∀ (d : PyData) (v : V) (u : Value), Dq H v d → RelV v u → ∃ as, Reads s.heap u d as ∧ sysModules ∉ as
  | .none, _, _, h, r => by
    cases h
    cases r
    exact ⟨_, Reads.none, by simp⟩
  | .bool b, _, _, h, r => by
    cases h
    cases r
    exact ⟨_, Reads.bool b, by simp⟩
  | .int i, _, _, h, r => by
    cases h
    obtain ⟨t, rfl⟩ := r
    exact ⟨_, Reads.int i t, by simp⟩
  | .str x, _, _, h, r => by
    cases h
    obtain ⟨t, rfl⟩ := r
    exact ⟨_, Reads.str x t, by simp⟩
  | .list ds, _, _, h, r => by
    cases h with
    | @lst a xs _ e k =>
      cases r
      obtain ⟨_, its, n, rv, g⟩ := (show ObjOk X.prog X.w H s.heap a (.lst xs) from I.hok a _ e)
      obtain ⟨as, hr, hn⟩ := DqAll.reads I hm ds _ its k rv
      refine ⟨_, Reads.list g rfl rfl (by simpa using hr), fun q => ?_⟩
      rcases List.mem_cons.mp q with q | q
      · rw [← q, hm] at e
        cases e
      · exact hn q
  | .tuple ds, _, _, h, r => by
    cases h with
    | @tup a xs _ e k =>
      cases r
      obtain ⟨_, its, rv, o, g1, g2, n, g3⟩ := (show ObjOk X.prog X.w H s.heap a (.tup xs) from I.hok a _ e)
      obtain ⟨as, hr, hn⟩ := DqAll.reads I hm ds _ its k rv
      exact ⟨_, Reads.tuple g1 g2 g3 (by simpa using hr), hn⟩
  | .dict _, _, _, h, r => by
    cases h with
    | @dk a e =>
      cases r
      obtain ⟨_, _, vs, rv, o, es, ep, g1, g2, g3, g4, g5, _⟩ := (show ObjOk X.prog X.w H s.heap a (.dK []) from I.hok a _ e)
      cases rv
      have e0 : es.toList = [] := by
        generalize es.toList = l at g5
        cases g5
        rfl
      refine ⟨_, Reads.dict g1 g2.1 g3 (as := []) (bs := []) (by rw [e0]; exact ReadsAll.nil) (by rw [e0]; exact ReadsAll.nil), fun q => ?_⟩
      have q2 : sysModules = a := by simpa using q
      rw [← q2, hm] at e
      cases e
theorem DqAll.reads (I : Inv X pins σ H s) (hm : H sysModules = none) : ∀ (ds : List PyData) (vs : List V) (us : List Value), DqAll H vs ds → Vals vs us → ∃ as, ReadsAll s.heap us ds as ∧ sysModules ∉ as
  | [], _, _, h, r => by
    cases h
    cases r
    exact ⟨_, ReadsAll.nil, by simp⟩
  | d :: ds, _, _, h, r => by
    cases h with
    | cons h1 h2 =>
      cases r with
      | cons r1 r2 =>
        obtain ⟨as, q1, n1⟩ := Dq.reads I hm d _ _ h1 r1
        obtain ⟨bs, q2, n2⟩ := DqAll.reads I hm ds _ _ h2 r2
        exact ⟨_, ReadsAll.cons q1 q2, fun q => (List.mem_append.mp q).elim n1 n2⟩
end
end
structure Small (d : PyData) : Prop where
  sh : d.showable = true
  lv : d.leavesShort 100 = true
  wt : d.weight ≤ 10000
  dp : d.depth ≤ 50
theorem call_str_dat {X : Cx} (gd : X.A.guards = some []) (hu : X.A.units + 64 < cLine) (hm : ∃ o, X.K.lookup sysModules = some o) : CallR X (.type "str") (fun xs H Q => ∃ (a : Addr) (d : PyData), xs = [.ref a] ∧ Dq H (.ref a) d ∧ Small d ∧ Q (.str d.shown) H) := by
  intro pn s st H xs us Q I r ask
  obtain ⟨a, d, rfl, hd, sm, q⟩ := ask
  cases r with
  | cons r1 r2 =>
    cases r2
    cases r1
    obtain ⟨o, ho⟩ := hm
    have hn : H sysModules = none := (I.bs sysModules o (I.ok.mod.kin _ _ ho)).2
    obtain ⟨as, hr, na⟩ := Dq.reads I hn d _ _ hd rfl
    have h1 := PyData.shown_le 100 (by decide) d sm.lv
    have h2 := sm.wt
    have h3 : (100 + 2) * d.weight ≤ 102 * 10000 := Nat.mul_le_mul (by decide) h2
    have h4 := sm.dp
    refine str_of_reads hr sm.sh (fun _ => na) gd (by omega) (fun _ _ e => e) (fun h' u tk hk => ?_) (by rw [sizeLine_eq]; omega)
    exact ⟨.str d.shown, H, I.kept (t' := tk) hk, ⟨_, rfl⟩, q⟩
/-! ### a def's promise where no repr is under way -/
structure FnG (CX : CXT) (P : Program) (w : World) (K : PySem.W.Frag) (mg : Str → Option Value) (base : Heap) (k : Nat) (f : Addr) (fd : FuncData) (ps : List Str) (sp : Sp) : Prop where
  len : ∀ vs H (Q : VK) (E : XK), sp vs H Q E → vs.length = ps.length
  run : ∀ (A : Around) (outer : List Env) (s : Shared) (H : Hp) (args : Args) (us : List Value) (vs : List V) (Q : VK) (E : XK),
    A.guards = some [] → Room k A → Env0 P w K mg base A outer s H → BindsTo s fd args (ps.zip us) → Vals vs us → sp vs H Q E → codeAny (model P w) A (.call (.ref f) args) (CR CX outer P w H s Q E) s
section
variable {P : Program} {w : World} {K : PySem.W.Frag} {mg : Str → Option Value} {base : Heap} {f : Addr} {fd : FuncData} {x qual : Str} {params : Arguments} {body : List Stmt} {scope : Scope} {dvs : List V} {kws : List (Str × V)}
theorem okG {CX : CXT} {N ps : List Str} {k : Nat} {sp : Sp} (F : FunD K x qual params body scope dvs kws f fd) (S : FnScope N ps scope) (len : ∀ vs H Q E, sp vs H Q E → vs.length = ps.length)
    (hb : ∀ (cdv : Value) (A : Around) (outer : List Env) (s : Shared) (H : Hp) (vs : List V) (Q : VK) (E : XK), A.guards = some [] → Room k (A.deeper (envOfC qual scope s.heap.objs.size f cdv)) → sp vs H Q E →
      ∃ t, PSs (cxOf CX P w K mg base N qual scope f cdv A outer s H E) body t ∧ t { nx := fun _ H' => Q .non H', rt := Q } (start N vs) H) : FnG CX P w K mg base (k + 1) f fd ps sp := by
  obtain ⟨c0, d0, v0, k0, doc, pm, an, code, ct, sl0, rfl, stands, coded, _, _⟩ := F.ex
  constructor
  · exact len
  · intro A outer s H args us vs Q E gd hr e0 bind r hsp
    have old : ∀ b o, base.get? b = some o → s.heap.get? b = some o := fun b o e => (e0.bs b o e).1
    have kin : K.In s.heap := e0.mod.kin.keeps old
    have lim : s.heap.NoLimit := e0.mod.nolimit.keeps old
    have kinds : ∀ y ∈ ps.zip us, scope.names.lookup y.1 = some .local ∨ (scope.names.lookup y.1 = some .cell ∧ ((cellsFrom (s.heap.objs.size + 1) scope.names []).lookup y.1).isSome = true) := by
      rintro ⟨n, v⟩ hy
      cases S.par n (List.of_mem_zip hy).1 with
      | inl q => exact .inl q
      | inr q => exact .inr ⟨q, PySem.W.cellsFrom_some _ _ _ (.inl q)⟩
    apply codeAny_call_function hr.depth (kin _ _ stands) rfl S.co S.gen rfl (PySem.W.codeRec_of kin coded)
    apply bind
    apply wpAny_newFunctionEnv_cells S.kind kinds
    intro env he s1 y
    subst he
    refine ⟨lim.keeps y.toInCall.keep, codeAny_func ?_⟩
    obtain ⟨t, ht, hq⟩ := hb code A outer s H vs Q E gd (hr.deeper _) hsp
    have I : Inv (cxOf CX P w K mg base N qual scope f code A outer s H E) [] (start N vs) H s1 := inv_start S hr.hd e0 (len _ _ _ _ hsp) r y
    refine wpAny_mono (ht.run [] s1 (start N vs) H _ I hq) ?_ (fun _ _ z => z)
    intro fl s' hs
    cases fl with
    | ret u =>
      have ⟨v, _, H2, J, rv, q⟩ := hs
      exact ⟨v, H2, J.os, J.bare, J.base, J.hok, rv, q⟩
    | next =>
      obtain ⟨σ', H', J, q⟩ := hs
      exact ⟨V.non, H', J.os, J.bare, J.base, J.hok, rfl, q⟩
    | brk =>
      obtain ⟨_, _, _, q⟩ := hs
      exact q.elim
    | cont =>
      obtain ⟨_, _, _, q⟩ := hs
      exact q.elim
/-- called by its name -/
structure ClG (CX : CXT) (P : Program) (w : World) (K : PySem.W.Frag) (mg : Str → Option Value) (base : Heap) (k : Nat) (x : Str) (ps : List Str) (sp : Sp) : Prop where
  ex : ∃ (f : Addr) (fd : FuncData), FnG CX P w K mg base k f fd ps sp ∧ mg x = some (.ref f) ∧ PySem.W.keepIn K (.ref f) = true ∧ Binds K fd ps []
end
section
variable {X : Cx} {k j : Nat} {x : Str} {ps : List Str} {sp : Sp} {p pos : Pos} {e : Expr} {es : List Expr} {t : TA}
theorem pe_cG (c : ClG CX0 X.prog X.w X.K X.mg X.base k x ps sp) (gd : X.A.guards = some []) (hr : Room j X.A) (hk : k ≤ j) (hg : Gl X x) (ha : PA X (e :: es) t)
    (nodbg : (x == ("__debug__" : Str)) = false := by decide) (first : starEach (e :: es) X.env = (false, eval e X.env) :: starEach es X.env := by rfl) (plain : (backTo pos (starEach es X.env)).any (·.1) = false := by rfl) :
    PE X (.Call (.Name x p) (e :: es) [] pos) (tCall sp [] E0 t) := by
  obtain ⟨f, fd, F, hm, kp, b⟩ := c.ex
  constructor
  intro pins s σ H Q I h
  apply wpAny_Call_Name_kw
  apply ld_glob I hg hm _ nodbg
  apply PySem.W.callWith_K (h₀ := X.base) I.ok.mod.kin kp _ first plain
  apply thn (ha.run pos pins s σ H _ I h)
  rintro us s1 ⟨vs, H1, I1, r, q⟩
  refine ⟨I1.kIn, wpAny_call ?_⟩
  have q' : sp vs H1 Q E0 := by
    have q0 : sp (vs ++ []) H1 Q E0 := q
    rw [List.append_nil] at q0
    exact q0
  have hl : us.length = ps.length := r.length.symm.trans (F.len _ _ _ _ q')
  have bb := b s1 us I1.kIn (by rw [List.append_nil]; exact hl)
  rw [List.append_nil] at bb
  refine codeAny_mono (F.run X.A X.stack s1 H1 ⟨us, []⟩ us vs Q E0 gd (hr.mono hk) I1.env0 bb r q') ?_
  intro rr s' hq
  cases rr with
  | error e => exact hq.elim
  | ok fl =>
    cases fl with
    | ret u => exact I1.after hq
    | next => exact hq.elim
    | brk => exact hq.elim
    | cont => exact hq.elim
end
/-! ### the law's own call -/
/-- nothing but what stands at a -/
def onlyAt (a : Addr) (o : Option HO) : Hp := fun b => if b = a then o else none
theorem onlyAt_some {a b : Addr} {o : Option HO} {u : HO} (h : onlyAt a o b = some u) : b = a ∧ o = some u := by
  unfold onlyAt at h
  split at h
  · exact ⟨by assumption, h⟩
  · cases h
theorem onlyAt_same {a : Addr} {o : Option HO} : onlyAt a o a = o := if_pos rfl
/-- the script as a list object -/
abbrev scriptO (vs : List Value) : Obj := { cls := .type "list", data := .seq vs.toArray }
theorem script_heap {P : Program} {w : World} {K : PySem.W.Frag} {h : Heap} {a : Addr} {vs : List Value} {ns : List Int} (X : K.In h) (at_ : h.get? a = some (scriptO vs)) (whole : IntsAre vs ns) (few : ns.length ≤ sizeLine) :
    ∃ o : Option HO, SqL K (onlyAt a o) a (ns.map V.int) ∧ HOk P w (onlyAt a o) h ∧ ∀ u, o = some u → (∃ ob xs, u = .frz ob (.lst xs)) ∧ K.lookup a = none := by
  have rel := vals_ints whole
  have size : vs.toArray.size ≤ sizeLine := by
    have e := whole.length
    rw [List.size_toArray, e]
    exact few
  cases written : K.lookup a with
  | some ob =>
    have e : some (scriptO vs) = some ob := at_.symm.trans (X a ob written)
    cases e
    exact ⟨none, .inr ⟨_, vs.toArray, _, written, rfl, rfl, rfl, size, by simpa using rel⟩, (fun b u z => nomatch (onlyAt_some z).2), nofun⟩
  | none =>
    refine ⟨some (.frz (scriptO vs) (.lst (ns.map V.int))), .inl (.inr ⟨_, onlyAt_same⟩), fun b u z => ?_, fun u z => ?_⟩
    · obtain ⟨rfl, e⟩ := onlyAt_some z
      cases e
      exact ⟨at_, by rw [List.length_map]; exact few, vs, _, rel, at_⟩
    · cases z
      exact ⟨⟨_, _, rfl⟩, rfl⟩
theorem law_callG {P : Program} {w : World} {K : PySem.W.Frag} {mg mb : Str → Option Value} {k : Nat} {fa a : Addr} {fd : FuncData} {x : Str} {sp : Sp} {s : Shared} {vs : List Value} {ns : List Int}
    (X : K.In s.heap) (main : s.heap.Ns mainGlobals mg) (blt : s.heap.Ns builtinsNs mb) (boot : ∀ y : Str, y ≠ "__name__" → mb y = bootBuiltins y) (calm : s.heap.NoLimit) (noGens : s.gens = #[])
    (at_ : s.heap.get? a = some (scriptO vs)) (whole : IntsAre vs ns) (few : ns.length ≤ sizeLine) (room : Room k callerA)
    (F : ∀ base : Heap, K.In base → base.Ns mainGlobals mg → FnG CX0 P w K mg base k fa fd [x] sp) (bind : ∀ (t : Shared) (u : Value), BindsTo t fd ⟨[u], []⟩ [(x, u)])
    (ask : ∀ H : Hp, SqL K H a (ns.map V.int) → sp [.ref a] H (fun v _ => v = .bl true) E0) :
    codeAny (model P w) callerA (.call (.ref fa) ⟨[.ref a], []⟩) (fun r t => r = .ok (.ret (.bool true)) ∧ (OldK s.heap t.heap ∧ (t.os = s.os ∧ AllBare t.gens))) s := by
  obtain ⟨o, sq, ok, off⟩ := script_heap (P := P) (w := w) X at_ whole few
  obtain ⟨H, eH⟩ : ∃ H, onlyAt a o = H := ⟨_, rfl⟩
  have only : ∀ b u, H b = some u → b = a ∧ o = some u := fun b u z => onlyAt_some (by rw [eH]; exact z)
  rw [eH] at sq ok
  have stays : ∀ {b : Addr} {u : Obj}, s.heap.get? b = some u → (∀ ob xs, b = a → o = some (.frz ob (.lst xs)) → False) → (hidT s.heap H).get? b = some u := by
    intro b u e n
    refine hidT_get e ?_
    cases q : H b with
    | none => rfl
    | some v =>
      obtain ⟨eb, ev⟩ := only b v q
      obtain ⟨⟨ob, xs, rfl⟩, _⟩ := off v ev
      exact (n ob xs eb ev).elim
  have names : ∀ {b : Addr} {m : Str → Option Value}, s.heap.Ns b m → (hidT s.heap H).Ns b m := by
    rintro b m ⟨u, es, ep, e, d, r⟩
    refine ⟨u, es, ep, stays e (fun _ _ eb _ => ?_), d, r⟩
    rw [eb, at_] at e
    cases e
    cases d
  have kept : K.In (hidT s.heap H) := fun b u e => stays (X b u e) fun ob xs eb eo => by
    rw [eb, (off _ eo).2] at e
    cases e
  have limit : (hidT s.heap H).NoLimit := by
    obtain ⟨mc, h1, h2⟩ := calm
    exact ⟨mc, names h1, h2⟩
  have start : Env0 P w K mg (hidT s.heap H) callerA [] s H :=
    { frames := rfl, mod := ⟨kept, names main, ⟨mb, names blt, boot⟩, limit⟩, bs := fun _ _ e => of_hidT e, bsz := Nat.le_of_eq (hidT_size _ _), funs := trivial, frf := fun _ z => (by cases z), hok := ok, bare := .of_eq noGens }
  have run := (F _ kept (names main)).run callerA [] s H ⟨[.ref a], []⟩ [.ref a] [.ref a] _ _ rfl room start (bind s (.ref a)) (.cons rfl .nil) (ask H sq)
  refine codeAny_mono run fun r t h => ?_
  cases r with
  | error e => exact h.elim
  | ok fl =>
    cases fl with
    | ret u =>
      obtain ⟨v, G, sameOs, bare, un, okG', rv, q⟩ := h
      cases (show v = V.bl true from q)
      cases (show u = Value.bool true from rv)
      refine ⟨rfl, .of_keep fun b ob e => ?_, sameOs, bare⟩
      cases z : H b with
      | none => exact un.keep b ob e z nofun nofun
      | some u =>
        obtain ⟨eb, eo⟩ := only b u z
        obtain ⟨⟨fr, xs, rfl⟩, _⟩ := off u eo
        have before := (ok b _ z).1
        have behind := (okG' b _ (un.frzs b fr _ z)).1
        rw [e] at before
        cases before
        exact behind
    | next => exact h.elim
    | brk => exact h.elim
    | cont => exact h.elim
end G1
set_option maxHeartbeats 4000000
namespace G1
open PySem PySem.Spec PyProof.Rows L2
/-! ### arguments by name alone -/
structure KB0 (K : PySem.W.Frag) (fd : FuncData) (ps ks : List Str) (g : List Value → List Value) (gV : List V → List V) : Prop where
  to : ∀ (s : Shared) (ws : List Value), ws.length = ks.length → BindsTo s fd ⟨[], ks.zip ws⟩ (ps.zip (g ws))
  rel : ∀ {zs : List V} {ws : List Value}, Vals zs ws → Vals (gV zs) (g ws)
def tCallW (n : Nat) (sp : Sp) (gV : List V → List V) (tk : TA) : TE := fun σ H Q => tk σ H fun zs H1 => zs.length = n ∧ sp (gV zs) H1 Q E0
section
variable {X : Cx} {k j : Nat} {x : Str} {ps ks : List Str} {sp : Sp} {p pos : Pos} {kws : List Keyword} {tk : TA} {f : Addr} {fd : FuncData} {g : List Value → List Value} {gV : List V → List V} {CX : CXT}
theorem pe_kw (F : FnOk X.prog X.w X.K X.mg X.base CX k f fd ps sp) (hr : Room j X.A) (hk : k ≤ j) (hg : Gl X x) (hm : X.mg x = some (.ref f)) (kp : PySem.W.keepIn X.K (.ref f) = true) (hb : KB0 X.K fd ps ks g gV) (hx : Passes CX X E0)
    (hkw : PK X kws tk) (hall : (backToKw pos (keywordEach kws X.env)).all (·.1.isSome) = true := by rfl) (hks : (backToKw pos (keywordEach kws X.env)).filterMap (·.1) = ks := by rfl)
    (nodbg : (x == ("__debug__" : Str)) = false := by decide)
    (plain : ((backTo pos (starEach [] X.env)).any (·.1) || (backToKw pos (keywordEach kws X.env)).any (·.1.isNone)) = false := by rfl) :
    PE X (.Call (.Name x p) [] kws pos) (tCallW ks.length sp gV tk) := by
  constructor
  intro pins s σ H Q I h
  apply wpAny_Call_Name_kw
  apply ld_glob I hg hm _ nodbg
  apply PySem.W.callWith_KW0 (h₀ := X.base) I.ok.mod.kin kp hall _ plain
  refine thn (hkw.run pos pins s σ H _ I h) ?_
  rintro ws s2 ⟨zs, H2, I2, rz, l2, q2⟩
  refine ⟨I2.kIn, ?_⟩
  rw [hks]
  refine wpAny_call (codeAny_mono (F.run X.A X.stack s2 H2 ⟨[], ks.zip ws⟩ (g ws) (gV zs) Q E0 (hr.mono hk) I2.env0 (hb.to s2 ws (rz.length.symm.trans l2)) (hb.rel rz) q2) ?_)
  intro r s' hq
  cases r with
  | error e => exact hx pins σ H2 s2 e s' I2 hq
  | ok fl =>
    cases fl with
    | ret u => exact I2.after hq
    | next => exact hq.elim
    | brk => exact hq.elim
    | cont => exact hq.elim
end
/-- a def that is called by names -/
structure ClK (CX : CXT) (P : Program) (w : World) (K : PySem.W.Frag) (mg : Str → Option Value) (base : Heap) (k : Nat) (x : Str) (ps : List Str) (sp : Sp) (ks : List Str) (gV : List V → List V) : Prop where
  ex : ∃ (f : Addr) (fd : FuncData) (g : List Value → List Value), FnOk P w K mg base CX k f fd ps sp ∧ mg x = some (.ref f) ∧ PySem.W.keepIn K (.ref f) = true ∧ KB0 K fd ps ks g gV
theorem clk_of {CX : CXT} {P : Program} {w : World} {K : PySem.W.Frag} {mg : Str → Option Value} {base : Heap} {k : Nat} {x : Str} {st : Stmt} {ps ks : List Str} {sp : Sp} {g : List Value → List Value} {gV : List V → List V} (c : Cl CX P w K mg base k x ps sp) (D : DefAt K mg x st)
    (h : ∀ (kV doc pm : Value) (an : Option Addr) (cdv ct : Value) (ws : List Value), ws.length = ks.length → bindArgs (PySem.W.fnOf x x (defArgs st) (defBody st) (defScope st) .none kV doc pm an cdv ct) ⟨[], ks.zip ws⟩ = pure (ps.zip (g ws)))
    (rel : ∀ {zs : List V} {ws : List Value}, Vals zs ws → Vals (gV zs) (g ws)) : ClK CX P w K mg base k x ps sp ks gV := by
  obtain ⟨f, fd, F, hm, kp, b, oc, od, osl, lk⟩ := c.ex
  obtain ⟨f', fd', F', hm'⟩ := D
  rw [hm] at hm'
  cases hm'
  obtain ⟨oc', od', dV, kV, doc, pm, an, cdv, ct, osl', e, lk', _, hD, _⟩ := F'.ex
  rw [lk] at lk'
  cases lk'
  rcases hD with ⟨_, rfl⟩ | ⟨z, _⟩
  · refine ⟨f, fd, g, F, hm, kp, ⟨fun s ws hl => ?_, rel⟩⟩
    rw [e]
    exact .of_eq (h kV doc pm an cdv ct ws hl)
  · exact absurd rfl z
section
variable {X : Cx} {k j : Nat} {x : Str} {ps ks : List Str} {sp : Sp} {p pos : Pos} {kws : List Keyword} {tk : TA} {gV : List V → List V}
theorem pe_kw0 (c : ClK CX0 X.prog X.w X.K X.mg X.base k x ps sp ks gV) (hr : Room j X.A) (hk : k ≤ j) (hg : Gl X x)
    (hkw : PK X kws tk) (hall : (backToKw pos (keywordEach kws X.env)).all (·.1.isSome) = true := by rfl) (hks : (backToKw pos (keywordEach kws X.env)).filterMap (·.1) = ks := by rfl)
    (nodbg : (x == ("__debug__" : Str)) = false := by decide)
    (plain : ((backTo pos (starEach [] X.env)).any (·.1) || (backToKw pos (keywordEach kws X.env)).any (·.1.isNone)) = false := by rfl) :
    PE X (.Call (.Name x p) [] kws pos) (tCallW ks.length sp gV tk) := by
  obtain ⟨f, fd, g, F, hm, kp, b⟩ := c.ex
  exact pe_kw F hr hk hg hm kp b pass0 hkw hall hks nodbg plain
theorem pe_kwX (c : ClK (L2.CX X.prog X.w) X.prog X.w X.K X.mg X.base k x ps sp ks gV) (hr : Room j X.A) (hk : k ≤ j) (hg : Gl X x)
    (hkw : PK X kws tk) (hall : (backToKw pos (keywordEach kws X.env)).all (·.1.isSome) = true := by rfl) (hks : (backToKw pos (keywordEach kws X.env)).filterMap (·.1) = ks := by rfl)
    (nodbg : (x == ("__debug__" : Str)) = false := by decide)
    (plain : ((backTo pos (starEach [] X.env)).any (·.1) || (backToKw pos (keywordEach kws X.env)).any (·.1.isNone)) = false := by rfl) :
    PE X (.Call (.Name x p) [] kws pos) (tCallW ks.length sp gV tk) := by
  obtain ⟨f, fd, g, F, hm, kp, b⟩ := c.ex
  exact pe_kw F hr hk hg hm kp b passL hkw hall hks nodbg plain
end
theorem rel1 {zs : List V} {ws : List Value} (r : Vals zs ws) : Vals (id zs) (id ws) := r
def flip2 {α : Type} : List α → List α
  | [b, t] => [t, b]
  | l => l
theorem rel2 {zs : List V} {ws : List Value} (r : Vals zs ws) : Vals (flip2 zs) (flip2 ws) := by
  cases r with
  | nil => exact .nil
  | cons r1 r2 =>
    cases r2 with
    | nil => exact .cons r1 .nil
    | cons r3 r4 =>
      cases r4 with
      | nil => exact .cons r3 (.cons r1 .nil)
      | cons r5 r6 => exact .cons r1 (.cons r3 (.cons r5 r6))
/-! ### what stands beside the purse -/
def hide (p : Addr) (H : Hp) : Hp := fun b => if b = p then none else H b
theorem hide_ne {p b : Addr} {H : Hp} (h : b ≠ p) : hide p H b = H b := if_neg h
theorem hide_same {p : Addr} {H : Hp} : Same (hide p H) H := fun b o e => by
  by_cases h : b = p
  · have e' : (none : Option HO) = some o := (if_pos h).symm.trans e
    cases e'
  · rw [hide_ne h] at e
    exact e
theorem But.hide {p : Addr} {H H' : Hp} (h : But p H H') : Same (hide p H) (hide p H') := fun b o e => by
  by_cases hb : b = p
  · have e' : (none : Option HO) = some o := (if_pos hb).symm.trans e
    cases e'
  · rw [hide_ne hb] at e ⊢
    exact h b o hb e
theorem Same.but {p : Addr} {H H' : Hp} (h : Same H H') : But p H H' := fun b o _ e => h b o e
theorem PurseAt.same {p : Addr} {c : Int} {H H' : Hp} (P : PurseAt H p c) (h : Same H H') : PurseAt H' p c := by
  obtain ⟨a, b, e, r⟩ := P.ex
  exact ⟨⟨a, b, h _ _ e, r⟩, P.c0⟩
theorem PurseAt.at {p q : Addr} {c : Int} {H : Hp} (P : PurseAt H p c) (n : H q = none) : q ≠ p := by
  obtain ⟨a, b, e, r⟩ := P.ex
  intro z
  rw [z, e] at n
  cases n
theorem mk_at {p q : Addr} {H : Hp} {c : Int} (o : HO) (P : PurseAt H p c) (n : H q = none) : ∃ H', upd H q o = H' ∧ PurseAt H' p c ∧ But p H H' ∧ hide p H' q = some o := by
  have s : Same H (upd H q o) := fun b u e => by
    rw [upd_ne (ne_of_none e n)]
    exact e
  refine ⟨_, rfl, P.same s, Same.but s, ?_⟩
  rw [hide_ne (P.at n), upd_same]
/-! ### odd things -/
structure Small0 (d : PyData) : Prop where
  sh : d.showable = true
  lv : d.leavesShort 100 = true
  wt : d.weight ≤ 200
  dp : d.depth ≤ 5
theorem int_short {i : Int} (h : i.natAbs < 10 ^ 20) : PyData.leavesShort 100 (.int i) = true := by
  have e := int_text_length_le10 (k := 20) (by decide) h
  unfold PyData.leavesShort
  refine decide_eq_true ?_
  show (Str.ofString (toString i)).length ≤ 100
  rw [PySem.ofString_length]
  omega
theorem int_shows {i : Int} (h : i.natAbs < 10 ^ 20) : PyData.showable (.int i) = true := by
  unfold PyData.showable
  refine decide_eq_true ?_
  have h1 : i.natAbs < 2 ^ 1920 := Nat.lt_trans h (by decide +kernel)
  exact PySem.Flt.log2_lt_of (by decide) h1
theorem int_weight {i : Int} (h : i.natAbs < 10 ^ 20) : PyData.weight (.int i) ≤ 67 := by
  have h1 : i.natAbs < 2 ^ 67 := Nat.lt_trans h (by decide +kernel)
  have h2 : i.natAbs.log2 < 67 := PySem.Flt.log2_lt_of (by decide) h1
  simp only [PyData.weight]
  split <;> omega
theorem small_pair {i j : Int} (hi : i.natAbs < 10 ^ 20) (hj : j.natAbs < 10 ^ 20) : Small0 (.tuple [.int i, .int j]) := by
  refine ⟨?_, ?_, ?_, ?_⟩
  · simp only [PyData.showable, PyData.showableAll, Bool.and_true, Bool.and_eq_true]
    exact ⟨int_shows hi, int_shows hj⟩
  · simp only [PyData.leavesShort, PyData.leavesShortAll, Bool.and_true, Bool.and_eq_true]
    exact ⟨int_short hi, int_short hj⟩
  · have h1 := int_weight hi
    have h2 := int_weight hj
    simp only [PyData.weight, PyData.weightAll] at h1 h2 ⊢
    omega
  · simp only [PyData.depth, PyData.depthAll]
    decide
theorem small_list {i j : Int} (hi : i.natAbs < 10 ^ 20) (hj : j.natAbs < 10 ^ 20) : Small0 (.list [.int i, .int j]) := by
  refine ⟨?_, ?_, ?_, ?_⟩
  · simp only [PyData.showable, PyData.showableAll, Bool.and_true, Bool.and_eq_true]
    exact ⟨int_shows hi, int_shows hj⟩
  · simp only [PyData.leavesShort, PyData.leavesShortAll, Bool.and_true, Bool.and_eq_true]
    exact ⟨int_short hi, int_short hj⟩
  · have h1 := int_weight hi
    have h2 := int_weight hj
    simp only [PyData.weight, PyData.weightAll] at h1 h2 ⊢
    omega
  · simp only [PyData.depth, PyData.depthAll]
    decide
theorem ne_if {b : Bool} {A B : Prop} (e : b = true) (h : B) : if (!b) = true then A else B := by
  rw [e]
  exact h
theorem as_val {v w : V} {H : Hp} {Q : VK} (e : v = w) (h : Q w H) : Q v H := by
  rw [e]
  exact h
theorem at_mem {xs : List V} {d : Int} (h0 : 0 ≤ d) (h1 : d < (xs.length : Int)) : ∃ v, atI xs d = some v ∧ v ∈ xs := by
  have h2 : d.toNat < xs.length := by omega
  exact ⟨xs[d.toNat], at_of (j := d.toNat) (by omega) (by simp [h2]), List.getElem_mem h2⟩
theorem mk_s {q : Addr} {H : Hp} (o : HO) (n : H q = none) : ∃ H', upd H q o = H' ∧ Same H H' ∧ H' q = some o :=
  ⟨_, rfl, fun b u e => (upd_ne (ne_of_none e n)).trans e, upd_same⟩
end G1
set_option maxHeartbeats 4000000
/-! fractions on the heap: tuples of two ints in lowest terms -/
namespace JN
open PySem PySem.Spec PyProof.Rows L2 G1
/-! ### fractions -/
def RtAt (K : PySem.W.Frag) (H : Hp) (x : Rat) (t : Addr) : Prop := SqT K H t [.int x.num, .int (x.den : Int)]
theorem RtAt.on {K : PySem.W.Frag} {H H' : Hp} {t : Addr} {x : Rat} (h : RtAt K H x t) (s : Same H H') : RtAt K H' x t := sqt_on h s
/-- both parts below 2 ^ b -/
structure Sz (b : Nat) (x : Rat) : Prop where
  top : x.num.natAbs < 2 ^ b
  bot : x.den < 2 ^ b
theorem Sz.mono {b c : Nat} {x : Rat} (h : Sz b x) (le : b ≤ c) : Sz c x :=
  ⟨Nat.lt_of_lt_of_le h.top (Nat.pow_le_pow_right (by decide) le), Nat.lt_of_lt_of_le h.bot (Nat.pow_le_pow_right (by decide) le)⟩
theorem den_pos (x : Rat) : (0 : Int) < (x.den : Int) := Int.natCast_pos.mpr x.den_pos
theorem div_num {a b : Int} (h : 0 < b) : (Rat.divInt a b).num = a / (Int.gcd a b : Int) := by
  rw [Rat.num_divInt, Int.sign_eq_one_of_pos h, Int.one_mul, Int.gcd_comm]
theorem div_den {a b : Int} (h : 0 < b) : ((Rat.divInt a b).den : Int) = b / (Int.gcd a b : Int) := by
  rw [Rat.den_divInt, if_neg (by omega), Int.gcd_comm, Int.natCast_ediv]
  rw [show ((b.natAbs : Nat) : Int) = b by omega]
theorem div_sz {a b : Int} {k : Nat} (h : 0 < b) (ha : a.natAbs < 2 ^ k) (hb : b.natAbs < 2 ^ k) : Sz k (Rat.divInt a b) := by
  have e1 := div_num (a := a) h
  have e2 := div_den (a := a) h
  have g : 0 < Int.gcd a b := Int.gcd_pos_of_ne_zero_right _ (by omega)
  constructor
  · rw [e1]
    refine Nat.lt_of_le_of_lt (Int.natAbs_ediv_le_natAbs _ _) ha
  · have : ((Rat.divInt a b).den : Int) ≤ b := by
      rw [e2]
      exact Int.ediv_le_self _ (by omega)
    omega
theorem lt_cross (x y : Rat) : decide (x.num * (y.den : Int) < y.num * (x.den : Int)) = decide (x < y) := decide_eq_decide.mpr (Rat.lt_iff x y).symm
theorem le_cross (x y : Rat) : decide (x.num * (y.den : Int) ≤ y.num * (x.den : Int)) = decide (x ≤ y) := decide_eq_decide.mpr (Rat.le_iff x y).symm
theorem unit_nat {x : Rat} (h : 0 ≤ x) (h1 : x ≤ 1) : 0 ≤ x.num ∧ x.num ≤ x.den := by
  have e := (Rat.le_iff x 1).mp h1
  refine ⟨Rat.num_nonneg.mpr h, ?_⟩
  simpa using e
theorem dlt' {a b n : Int} (h : 0 < n) (l : a < b) : Rat.divInt a n < Rat.divInt b n := by
  have hn : (0 : Rat) < (n : Rat) := by exact_mod_cast h
  have hl : (a : Rat) < (b : Rat) := by exact_mod_cast l
  rw [Rat.divInt_eq_div, Rat.divInt_eq_div, Rat.div_lt_iff hn]
  have : (b : Rat) / n * n = b := Rat.div_mul_cancel (by grind)
  rw [this]
  exact hl
theorem dle' {a b n : Int} (h : 0 < n) (l : a ≤ b) : Rat.divInt a n ≤ Rat.divInt b n := by
  rcases Int.lt_or_eq_of_le l with l | l
  · have := dlt' h l
    grind
  · rw [l]
    grind
/-! ### as data -/
abbrev dRt (x : Rat) : PyData := .tuple [.int x.num, .int (x.den : Int)]
theorem dRt_eqv (x y : Rat) : PyData.eqv (dRt x) (dRt y) = decide (x = y) := by
  have e : (PyData.eqv (dRt x) (dRt y)) = (decide (x.num = y.num) && decide ((x.den : Int) = (y.den : Int))) := by
    simp [PyData.eqv, PyData.eqvAll]
    rfl
  rw [e]
  by_cases h : x = y
  · subst h
    simp
  · rw [decide_eq_false h, Bool.and_eq_false_iff]
    by_cases n : x.num = y.num
    · refine .inr (decide_eq_false fun z => h (Rat.ext n (by omega)))
    · exact .inl (decide_eq_false n)
theorem dRt_shp (x : Rat) : SeqAt.shaped (dRt x) = true := by
  unfold SeqAt.shaped
  simp [PyData.canLay0, PyData.canLayAll0, PyData.depth, PyData.depthAll]
theorem RtAt.dp {K : PySem.W.Frag} {H : Hp} {t : Addr} {x : Rat} (h : RtAt K H x t) : Dp K H (.ref t) (dRt x) := .tup h (.cons (.int _) (.cons (.int _) .nil))
theorem dps {K : PySem.W.Frag} {H : Hp} : ∀ {xs : List Rat} {as : List Addr}, Paired (RtAt K H) xs as → DpAll K H (as.map V.ref) (xs.map dRt)
  | _, _, .nil => .nil
  | _, _, .cons r rs => .cons r.dp (dps rs)
theorem shp_all : ∀ xs : List Rat, PyData.canLayAll0 (xs.map dRt) = true ∧ PyData.depthAll (xs.map dRt) ≤ 1
  | [] => by simp [PyData.canLayAll0, PyData.depthAll]
  | x :: xs => by
    obtain ⟨h1, h2⟩ := shp_all xs
    constructor
    · show PyData.canLayAll0 (dRt x :: xs.map dRt) = true
      simp only [PyData.canLayAll0, Bool.and_eq_true]
      exact ⟨by simp [PyData.canLay0, PyData.canLayAll0], h1⟩
    · show PyData.depthAll (dRt x :: xs.map dRt) ≤ 1
      simp only [PyData.depthAll]
      have : PyData.depth (dRt x) = 1 := by simp [PyData.depth, PyData.depthAll]
      omega
theorem shp_list (xs : List Rat) : SeqAt.shaped (.list (xs.map dRt)) = true := by
  obtain ⟨h1, h2⟩ := shp_all xs
  unfold SeqAt.shaped
  simp [PyData.canLay0, PyData.depth, h1]
  omega
theorem any_mem (xs : List Rat) (x : Rat) : ((xs.map dRt).any fun z => PyData.eqv z (dRt x)) = decide (x ∈ xs) := by
  induction xs with
  | nil => rfl
  | cons y ys ih =>
    rw [List.map_cons, List.any_cons, ih, dRt_eqv]
    by_cases h : y = x
    · simp [h]
    · have h2 : ¬ x = y := fun z => h z.symm
      simp [h, h2]
/-! ### ascending lists -/
def Asc (xs : List Rat) : Prop := xs.Pairwise (· < ·)
def spot (xs : List Rat) (e : Rat) : Nat := (xs.filter fun x => decide (x < e)).length
theorem cut_at : ∀ (xs : List Rat) (e : Rat), Asc xs → (∀ x ∈ xs.take (spot xs e), x < e) ∧ (∀ x ∈ xs.drop (spot xs e), ¬ x < e)
  | [], e, _ => ⟨by simp, by simp⟩
  | x :: xs, e, h => by
    obtain ⟨h1, h2⟩ := List.pairwise_cons.mp h
    obtain ⟨i1, i2⟩ := cut_at xs e h2
    by_cases c : x < e
    · have es : spot (x :: xs) e = spot xs e + 1 := by
        unfold spot
        rw [List.filter_cons, if_pos (decide_eq_true c)]
        rfl
      rw [es, List.take_succ_cons, List.drop_succ_cons]
      refine ⟨fun y hy => ?_, i2⟩
      rcases List.mem_cons.mp hy with ey | hy
      · rw [ey]
        exact c
      · exact i1 y hy
    · have e0 : spot (x :: xs) e = 0 := by
        unfold spot
        rw [List.length_eq_zero_iff, List.filter_eq_nil_iff]
        intro y hy
        rcases List.mem_cons.mp hy with ey | hy
        · rw [ey]
          simpa using c
        · have := h1 y hy
          simp only [decide_eq_true_eq]
          grind
      rw [e0]
      refine ⟨by simp, fun y hy => ?_⟩
      rcases List.mem_cons.mp (show y ∈ x :: xs from hy) with ey | hy
      · rw [ey]
        exact c
      · have := h1 y hy
        grind
def put (xs : List Rat) (e : Rat) : List Rat := if e ∈ xs then xs else xs.take (spot xs e) ++ [e] ++ xs.drop (spot xs e)
theorem put_asc {xs : List Rat} {e : Rat} (h : Asc xs) : Asc (put xs e) := by
  unfold put
  split
  · exact h
  · rename_i n
    obtain ⟨h1, h2⟩ := cut_at xs e h
    have hs : (xs.take (spot xs e) ++ xs.drop (spot xs e)).Pairwise (· < ·) := by
      rw [List.take_append_drop]
      exact h
    obtain ⟨p1, p2, p3⟩ := List.pairwise_append.mp hs
    have big : ∀ y ∈ xs.drop (spot xs e), e < y := fun y hy => by
      have a := h2 y hy
      have b : y ≠ e := fun z => n (z ▸ List.mem_of_mem_drop hy)
      grind
    unfold Asc
    rw [List.append_assoc, List.pairwise_append]
    refine ⟨p1, List.pairwise_cons.mpr ⟨fun y hy => big y hy, p2⟩, fun x hx y hy => ?_⟩
    rcases List.mem_cons.mp hy with ey | hy
    · rw [ey]
      exact h1 x hx
    · exact p3 x hx y hy
theorem put_mem {xs : List Rat} {e x : Rat} (h : x ∈ put xs e) : x = e ∨ x ∈ xs := by
  unfold put at h
  split at h
  · exact .inr h
  · simp only [List.mem_append, List.mem_singleton] at h
    rcases h with (h | h) | h
    · exact .inr (List.mem_of_mem_take h)
    · exact .inl h
    · exact .inr (List.mem_of_mem_drop h)
theorem put_len (xs : List Rat) (e : Rat) : (put xs e).length ≤ xs.length + 1 := by
  unfold put
  split
  · omega
  · simp only [List.length_append, List.length_take, List.length_drop, List.length_singleton]
    omega
end JN
set_option maxHeartbeats 4000000
/-! pieces of joinings, their order, their shape -/
namespace JN
open PySem PySem.Spec PyProof.Rows L2 G1
structure Pc where
  lo : Rat
  hi : Rat
  k : Bool
  deriving DecidableEq
def kindS (k : Bool) : Str := if k then "sum" else "product"
def Pc.kind (p : Pc) : Str := kindS p.k
structure Pc.ok (p : Pc) : Prop where
  low : 0 ≤ p.lo
  lt : p.lo < p.hi
  high : p.hi ≤ 1
def PcAt (K : PySem.W.Frag) (H : Hp) (p : Pc) (a : Addr) : Prop := ∃ l h : Addr, SqT K H a [.ref l, .ref h, .str p.kind] ∧ RtAt K H p.lo l ∧ RtAt K H p.hi h
theorem PcAt.on {K : PySem.W.Frag} {H H' : Hp} {p : Pc} {a : Addr} (h : PcAt K H p a) (s : Same H H') : PcAt K H' p a := by
  obtain ⟨l, u, h1, h2, h3⟩ := h
  exact ⟨l, u, sqt_on h1 s, h2.on s, h3.on s⟩
/-- sizes of both ends -/
def PSz (b : Nat) (p : Pc) : Prop := Sz b p.lo ∧ Sz b p.hi
/-- from 0 up to 1, none overlaps another -/
structure Row (ps : List Pc) : Prop where
  ok : ∀ p ∈ ps, p.ok
  up : ps.Pairwise fun p q => p.hi ≤ q.lo
theorem Row.los {ps : List Pc} (h : Row ps) : ps.Pairwise fun p q => p.lo < q.lo := by
  refine List.Pairwise.imp_of_mem (fun {p q} hp hq z => ?_) h.up
  have := (h.ok p hp).lt
  grind
/-- the pieces in any order -/
structure Lot (ps ls : List Pc) : Prop where
  perm : ps.Perm ls
  row : Row ls
theorem Lot.ok {ps ls : List Pc} (h : Lot ps ls) : ∀ p ∈ ps, p.ok := fun p hp => h.row.ok p (h.perm.mem_iff.mp hp)
theorem Lot.apart {ps ls : List Pc} (h : Lot ps ls) : ps.Pairwise fun p q => ¬ (p.lo < q.hi ∧ q.lo < p.hi) := by
  refine (h.perm.pairwise_iff (fun {p q} z => fun y => z ⟨y.2, y.1⟩)).mpr ?_
  refine h.row.up.imp fun {p q} z y => ?_
  grind
def rank (ps : List Pc) (p : Pc) : Nat := (ps.filter fun o => decide (o.lo < p.lo)).length
theorem rank_perm {ps ls : List Pc} (h : ps.Perm ls) (p : Pc) : rank ps p = rank ls p := (h.filter _).length_eq
theorem rank_at : ∀ {ls : List Pc} (hs : ls.Pairwise fun p q => p.lo < q.lo) (j : Nat) (p : Pc), ls[j]? = some p → rank ls p = j
  | [], _, _, _, h => by cases h
  | x :: xs, hs, j, p, h => by
    obtain ⟨h1, h2⟩ := List.pairwise_cons.mp hs
    cases j with
    | zero =>
      cases h
      unfold rank
      rw [List.length_eq_zero_iff, List.filter_eq_nil_iff]
      intro y hy
      rcases List.mem_cons.mp hy with ey | hy
      · rw [ey]
        simp only [decide_eq_true_eq]
        grind
      · have := h1 y hy
        simp only [decide_eq_true_eq]
        grind
    | succ j =>
      have hp : xs[j]? = some p := h
      have lt := h1 p (List.mem_of_getElem? hp)
      have ih := rank_at h2 j p hp
      unfold rank at ih ⊢
      rw [List.filter_cons, if_pos (decide_eq_true lt), List.length_cons, ih]
theorem paired_get {α β : Type} {R : α → β → Prop} : ∀ {xs : List α} {ys : List β}, xs.length = ys.length → (∀ (i : Nat) x y, xs[i]? = some x → ys[i]? = some y → R x y) → Paired R xs ys
  | [], [], _, _ => .nil
  | [], _ :: _, h, _ => by cases h
  | _ :: _, [], h, _ => by cases h
  | x :: xs, y :: ys, h, r => .cons (r 0 x y rfl rfl) (paired_get (Nat.succ.inj h) fun i a b ha hb => r (i + 1) a b ha hb)
theorem paired_at2 {α β : Type} {R : α → β → Prop} : ∀ {xs : List α} {ys : List β} (i : Nat) {x : α} {y : β}, Paired R xs ys → xs[i]? = some x → ys[i]? = some y → R x y
  | _, _, _, _, _, .nil, h, _ => by cases h
  | _, _, 0, _, _, .cons r _, h1, h2 => by
    cases h1
    cases h2
    exact r
  | _, _, i + 1, _, _, .cons _ rs, h1, h2 => paired_at2 i rs h1 h2
theorem paired_snoc1 {α β : Type} {R : α → β → Prop} {x : α} {y : β} : ∀ {xs : List α} {ys : List β}, Paired R xs ys → R x y → Paired R (xs ++ [x]) (ys ++ [y])
  | _, _, .nil, r => .cons r .nil
  | _, _, .cons a as, r => .cons a (paired_snoc1 as r)
theorem paired_imp {α β : Type} {R S : α → β → Prop} (f : ∀ x y, R x y → S x y) : ∀ {xs : List α} {ys : List β}, Paired R xs ys → Paired S xs ys
  | _, _, .nil => .nil
  | _, _, .cons r rs => .cons (f _ _ r) (paired_imp f rs)
/-- what stands in the rows, piece by piece -/
theorem ranked {ps ls : List Pc} {as : List Addr} {rows : List V} (h : Lot ps ls) (hl : as.length = ps.length) (hr : rows.length = ps.length)
    (ask : ∀ (m : Nat) p a, ps[m]? = some p → as[m]? = some a → rows[rank ps p]? = some (.ref a)) :
    ∃ bs : List Addr, rows = bs.map V.ref ∧ ∀ (R : Pc → Addr → Prop), Paired R ps as → Paired R ls bs := by
  have len : ps.length = ls.length := h.perm.length_eq
  have each : ∀ (j : Nat) q, ls[j]? = some q → ∃ (m : Nat) (a : Addr), ps[m]? = some q ∧ as[m]? = some a ∧ rows[j]? = some (.ref a) := by
    intro j q hq
    obtain ⟨m, hm⟩ := List.getElem?_of_mem (h.perm.mem_iff.mpr (List.mem_of_getElem? hq))
    have hm2 : m < as.length := by
      rw [hl]
      exact (List.getElem?_eq_some_iff.mp hm).1
    refine ⟨m, as[m], hm, List.getElem?_eq_getElem hm2, ?_⟩
    have e := ask m q _ hm (List.getElem?_eq_getElem hm2)
    rw [rank_perm h.perm, rank_at h.row.los j q hq] at e
    exact e
  let bs : List Addr := rows.filterMap fun v => match v with
    | .ref a => some a
    | _ => none
  have allRef : ∀ v ∈ rows, ∃ a, v = .ref a := by
    intro v hv
    obtain ⟨j, hj⟩ := List.getElem?_of_mem hv
    have hj2 : j < ls.length := by
      have := (List.getElem?_eq_some_iff.mp hj).1
      omega
    obtain ⟨m, a, _, _, e⟩ := each j _ (List.getElem?_eq_getElem hj2)
    rw [hj] at e
    exact ⟨a, Option.some.inj e⟩
  have back : ∀ l : List V, (∀ v ∈ l, ∃ a, v = .ref a) → l = (l.filterMap fun v => match v with
    | .ref a => some a
    | _ => none).map V.ref := by
    intro l
    induction l with
    | nil => intro _; rfl
    | cons v r ih =>
      intro hv
      obtain ⟨a, rfl⟩ := hv v List.mem_cons_self
      have := ih fun u hu => hv u (List.mem_cons_of_mem _ hu)
      rw [List.filterMap_cons]
      show V.ref a :: r = V.ref a :: _
      rw [← this]
  have eb := back rows allRef
  refine ⟨_, eb, fun R hR => paired_get ?_ fun j q b hq hb => ?_⟩
  · have := congrArg List.length eb
    rw [List.length_map] at this
    omega
  · obtain ⟨m, a, h1, h2, h3⟩ := each j q hq
    rw [eb, List.getElem?_map, hb] at h3
    have e : b = a := by
      injection h3 with h3
      injection h3
    rw [e]
    exact paired_at2 m hR h1 h2
/-! ### shapes -/
def step (s : List Str × Rat) (p : Pc) : List Str × Rat := ((s.1 ++ if p.lo = s.2 then ([] : List Str) else ["minimum"]) ++ [p.kind], p.hi)
def walked (ps : List Pc) : List Str × Rat := ps.foldl step ([], 0)
def shape (ps : List Pc) : List Str := (walked ps).1 ++ if (walked ps).2 = 1 then ([] : List Str) else ["minimum"]
theorem walked_next {ps : List Pc} {i : Nat} {p : Pc} (h : ps[i]? = some p) : walked (ps.take (i + 1)) = step (walked (ps.take i)) p := by
  unfold walked
  rw [List.take_succ, h, List.foldl_append]
  rfl
theorem walked_len : ∀ ps : List Pc, (walked ps).1.length ≤ 2 * ps.length := by
  have go : ∀ (ps : List Pc) (s : List Str × Rat), (ps.foldl step s).1.length ≤ s.1.length + 2 * ps.length := by
    intro ps
    induction ps with
    | nil => intro s; simp
    | cons p r ih =>
      intro s
      have h1 := ih (step s p)
      have h2 : (step s p).1.length ≤ s.1.length + 2 := by
        unfold step
        dsimp only
        split <;> simp <;> omega
      have e : (p :: r).length = r.length + 1 := rfl
      rw [List.foldl_cons, e]
      omega
  intro ps
  have := go ps ([], 0)
  have e : ([] : List Str).length = 0 := rfl
  unfold walked
  dsimp only at this
  omega
end JN
set_option maxHeartbeats 4000000
namespace G1
open PySem PySem.Spec PyProof.Rows L2 JN
/-! ### degrees -/
def isW : V → Bool
  | .int _ => true
  | _ => false
def degOf (xs : List V) : Bool := match xs with
  | [.int i, .int j] => decide (1 ≤ j) && (decide (0 ≤ i) && decide (i ≤ j)) && decide (Nat.gcd i.natAbs j.natAbs = 1)
  | _ => false
inductive IsDeg (K : PySem.W.Frag) (H : Hp) : V → Bool → Prop where
  | tup {a : Addr} {xs : List V} : SqT K H a xs → (∀ x ∈ xs, Kn H x) → IsDeg K H (.ref a) (degOf xs)
  | flat {v : V} : Kn H v → (∀ a, v ≠ .ref a) → IsDeg K H v false
  | lst {a : Addr} {xs : List V} : H a = some (.lst xs) → IsDeg K H (.ref a) false
  | dK {a : Addr} {kvs : List (Key × V)} : H a = some (.dK kvs) → IsDeg K H (.ref a) false
theorem IsDeg.same {K : PySem.W.Frag} {H H' : Hp} (s : Same H H') {v : V} {b : Bool} (h : IsDeg K H v b) : IsDeg K H' v b := by
  cases h with
  | tup e k => exact .tup (sqt_on e s) fun x hx => (k x hx).same s
  | flat k n => exact .flat (k.same s) n
  | lst e => exact .lst (s _ _ e)
  | dK e => exact .dK (s _ _ e)
def spWhole : Sp := fun vs H Q _ => ∃ v, vs = [v] ∧ Kn H v ∧ Q (.bl (isW v)) H
def spIsDeg (K : PySem.W.Frag) : Sp := fun vs H Q _ => ∃ v b, vs = [v] ∧ IsDeg K H v b ∧ Q (.bl b) H
def spCheck (K : PySem.W.Frag) (C : Addr) : Sp := fun vs H Q E => ∃ v b, vs = [v] ∧ IsDeg K H v b ∧ (b = true → Q .non H) ∧ (b = false → Rs "thing" C H v E)
def spDegree (C : Addr) : Sp := fun vs H Q E => ∃ x y : V, vs = [x, y] ∧ Kn H x ∧ Kn H y ∧
  (((isW x = false ∨ ∃ i, x = .int i ∧ i < 0) ∧ Rs "thing" C H x E) ∨
   ((∃ i : Int, x = .int i ∧ 0 ≤ i) ∧ (isW y = false ∨ ∃ j, y = .int j ∧ j < 1) ∧ Rs "thing" C H y E) ∨
   (∃ i j : Nat, x = .int i ∧ y = .int j ∧ 0 < j ∧ j < i ∧ ∀ (t : Addr) (H1 : Hp), H t = none → Same H H1 → H1 t = some (.tup [x, y]) → Rs "thing" C H1 (.ref t) E) ∨
   (∃ i j : Nat, x = .int i ∧ y = .int j ∧ 0 < j ∧ j < 2 ^ 80 ∧ i ≤ j ∧ ∀ t, H t = none → Q (.ref t) (upd H t (.tup [.int (i / Nat.gcd i j : Nat), .int (j / Nat.gcd i j : Nat)]))))
def spAtMost (K : PySem.W.Frag) (C : Addr) : Sp := fun vs H Q E => ∃ (x y : V) (b : Bool), vs = [x, y] ∧ IsDeg K H x b ∧ (b = false → Rs "thing" C H x E) ∧
  (b = true → ∃ b', IsDeg K H y b' ∧ (b' = false → Rs "thing" C H y E) ∧
    (b' = true → ∃ (t u : Addr) (a b c d : Nat), x = .ref t ∧ y = .ref u ∧ SqT K H t [.int a, .int b] ∧ SqT K H u [.int c, .int d] ∧ b < 2 ^ 64 ∧ d < 2 ^ 64 ∧ Q (.bl (decide (a * d ≤ c * b))) H))
section
variable {P : Program} {w : World} {K : PySem.W.Frag} {mg : Str → Option Value} {base : Heap} {C fI : Addr}
theorem kitI : ∀ {H : Hp} {v : V}, Kn H v → ∃ t, TyX K H v t ∧ PySem.W.kitOne K t (.type "int") = some (isW v || (match v with | .bl _ => true | _ => false)) ∧ PySem.W.kitOne K t (.type "bool") = some (match v with | .bl _ => true | _ => false)
  | _, .non, _ => ⟨_, .base .non, kit_ty (show kitB "NoneType" "int" = some false by decide +kernel), kit_ty (show kitB "NoneType" "bool" = some false by decide +kernel)⟩
  | _, .bl b, _ => ⟨_, .base (.bl b), kit_ty (show kitB "bool" "int" = some true by decide +kernel), kit_ty (show kitB "bool" "bool" = some true by decide +kernel)⟩
  | _, .int i, _ => ⟨_, .base (.int i), kit_ty (show kitB "int" "int" = some true by decide +kernel), kit_ty (show kitB "int" "bool" = some false by decide +kernel)⟩
  | _, .str z, _ => ⟨_, .base (.str z), kit_ty (show kitB "str" "int" = some false by decide +kernel), kit_ty (show kitB "str" "bool" = some false by decide +kernel)⟩
  | _, .ref a, h => by
    rcases h with ⟨xs, e⟩ | ⟨xs, e⟩ | ⟨xs, e⟩
    · exact ⟨_, .base (.lst e), kit_ty (show kitB "list" "int" = some false by decide +kernel), kit_ty (show kitB "list" "bool" = some false by decide +kernel)⟩
    · exact ⟨_, .base (.tup e), kit_ty (show kitB "tuple" "int" = some false by decide +kernel), kit_ty (show kitB "tuple" "bool" = some false by decide +kernel)⟩
    · exact ⟨_, .base (.dK e), kit_ty (show kitB "dict" "int" = some false by decide +kernel), kit_ty (show kitB "dict" "bool" = some false by decide +kernel)⟩
theorem scWhole : FnScope ["thing"] ["thing"] (defScope sWhole) := ⟨rfl, rfl, rfl, by decide +kernel, rfl, by decide +kernel, by decide +kernel⟩
theorem cl_whole (D : DefAt K mg "is_whole" sWhole) (T : Blt mg) : Cl CX0 P w K mg base 1 "is_whole" ["thing"] spWhole := by
  obtain ⟨f, fd, F, hm⟩ := D
  refine cl_of F hm (F.ok scWhole (fun vs H Q E h => ?_) (fun cdv A outer s H vs Q E hr h => ⟨_, PSs.nox (pss_one (ps_ret
      (pe_and (pe_callB call_isi (by rfl) T.isin (by decide +kernel) (pa_cons (pv 0) (pa_cons (pe_bltn (v := .ty "int") (by rfl) T.int (by decide +kernel) rfl) pa_nil)))
        (pe_one (pe_not (pe_callB call_isi (by rfl) T.isin (by decide +kernel) (pa_cons (pv 0) (pa_cons (pe_bltn (v := .ty "bool") (by rfl) T.bool (by decide +kernel) rfl) pa_nil)))))))), ?_⟩)) fun _ _ _ _ _ _ us hl => match us, hl with | [_], _ => rfl
  · obtain ⟨v, rfl, _⟩ := h
    rfl
  · obtain ⟨v, rfl, hk, q⟩ := h
    obtain ⟨t, ty, e1, e2⟩ := kitI (K := K) hk
    refine ⟨_, rfl, v, _, t, _, _, rfl, .ty "int", ty, e1, _, rfl, ?_⟩
    cases v with
    | int i =>
      refine iteT ?_
      exact ⟨_, rfl, _, _, t, _, _, rfl, .ty "bool", ty, e2, _, rfl, q⟩
    | bl b =>
      refine iteT ?_
      exact ⟨_, rfl, _, _, t, _, _, rfl, .ty "bool", ty, e2, _, rfl, q⟩
    | _ => exact iteF q
theorem scIsDeg : FnScope ["thing", "top", "bottom"] ["thing"] (defScope sIsDeg) := ⟨rfl, rfl, rfl, by decide +kernel, rfl, by decide +kernel, by decide +kernel⟩
theorem degOf_len {xs : List V} (h : xs.length ≠ 2) : degOf xs = false := by
  unfold degOf
  split
  · exact absurd rfl h
  · rfl
theorem cl_isdeg (D : DefAt K mg "is_degree" sIsDeg) (T : Blt mg) (gcd : mg "gcd" = some (.builtin "math.gcd")) (cW : Cl CX0 P w K mg base 1 "is_whole" ["thing"] spWhole) : Cl CX0 P w K mg base 2 "is_degree" ["thing"] (spIsDeg K) := by
  obtain ⟨f, fd, F, hm⟩ := D
  refine cl_of F hm (F.ok scIsDeg (fun vs H Q E h => ?_) (fun cdv A outer s H vs Q E hr h => ⟨_, PSs.nox (pss_cons
      (ps_if (PW.pt (pw_or (pt_not (pt_val (pe_callB call_isi (by rfl) T.isin (by decide +kernel) (pa_cons (pv 0) (pa_cons (pe_bltn (v := .ty "tuple") (by rfl) T.tuple (by decide +kernel) rfl) pa_nil)))))
          (pw_or1 (pt_cmpR op_ne (pe_callB call_len_seq (by rfl) T.len PySem.boot_len (pa_cons (pv 0) pa_nil)) pe_int (nomark _)))))
        (pss_one (ps_ret pe_bl)) pss_nil)
      (pss_cons (ps_asg (pv 0) (pg_tup (by rfl) (pgs_cons (pg_name (i := 1) scIsDeg.nd rfl (Or.inl rfl)) (pgs_cons (pg_name (i := 2) scIsDeg.nd rfl (Or.inl rfl)) pgs_nil))))
      (pss_cons (ps_if (PW.pt (pw_or (pt_not (pt_val (pe_c0 cW hr (Nat.le_refl 1) (by rfl) (pa_cons (pv 1) pa_nil)))) (pw_or1 (pt_not (pt_val (pe_c0 cW hr (Nat.le_refl 1) (by rfl) (pa_cons (pv 2) pa_nil)))))))
        (pss_one (ps_ret pe_bl)) pss_nil)
      (pss_one (ps_ret (pe_and (pe_cmpR op_ge (pv 2) pe_int (nomark _)) (pe_and (pe_chain op_le op_le pe_int (pv 1) (pv 2)) (pe_one (pe_cmpR op_eq (pe_callBfun cr_gcd (by rfl) gcd (pa_cons (pv 1) (pa_cons (pv 2) pa_nil))) pe_int (nomark _)))))))))), ?_⟩)) fun _ _ _ _ _ _ us hl => match us, hl with | [_], _ => rfl
  · obtain ⟨v, b, rfl, _⟩ := h
    rfl
  · obtain ⟨v, b, rfl, hd, q⟩ := h
    cases hd with
    | @tup a xs e k =>
      refine ⟨_, rfl, _, _, _, _, _, rfl, .ty "tuple", ty_tup e, kit_ty (r := true) (by decide +kernel), _, rfl, ?_⟩
      refine iteF ?_
      refine ⟨_, rfl, a, xs, rfl, .inr e, rfl, _, rfl, ?_⟩
      by_cases hl : xs.length = 2
      · match xs, hl, k, q with
        | [x, y], _, k, q =>
          refine iteF ?_
          refine ⟨_, rfl, a, [x, y], rfl, e, rfl, x, [y], rfl, y, [], rfl, rfl, ?_⟩
          have kx := k x (by simp)
          have ky := k y (by simp)
          refine ⟨_, rfl, x, rfl, kx, _, rfl, ?_⟩
          cases hx : isW x with
          | false =>
            refine iteT ?_
            refine iteT ?_
            have e2 : degOf [x, y] = false := by
              cases x <;> first | rfl | cases hx
            rw [e2] at q
            exact q
          | true =>
            refine iteF ?_
            refine ⟨_, rfl, y, rfl, ky, _, rfl, ?_⟩
            cases hy : isW y with
            | false =>
              refine iteT ?_
              have e2 : degOf [x, y] = false := by
                cases x <;> cases y <;> first | rfl | cases hy
              rw [e2] at q
              exact q
            | true =>
              refine iteF ?_
              obtain ⟨i, rfl⟩ : ∃ i, x = .int i := by
                cases x <;> first | exact ⟨_, rfl⟩ | cases hx
              obtain ⟨j, rfl⟩ : ∃ j, y = .int j := by
                cases y <;> first | exact ⟨_, rfl⟩ | cases hy
              have q' : Q (.bl (decide (1 ≤ j) && (decide (0 ≤ i) && decide (i ≤ j)) && decide (Nat.gcd i.natAbs j.natAbs = 1))) H := q
              refine ⟨_, rfl, _, _, rfl, rfl, _, rfl, ?_⟩
              by_cases h1 : 1 ≤ j
              · rw [decide_eq_true h1] at q' ⊢
                refine iteT ?_
                refine ⟨_, rfl, _, _, rfl, rfl, _, rfl, ?_⟩
                by_cases h2 : 0 ≤ i
                · rw [decide_eq_true h2] at q' ⊢
                  refine iteT ?_
                  refine ⟨_, rfl, _, _, rfl, rfl, _, rfl, ?_⟩
                  by_cases h3 : i ≤ j
                  · rw [decide_eq_true h3] at q' ⊢
                    refine iteT ?_
                    refine ⟨_, rfl, _, rfl, i, j, rfl, rfl, ?_⟩
                    have e3 : decide (V.int ((Nat.gcd i.natAbs j.natAbs : Nat) : Int) = V.int 1) = decide (Nat.gcd i.natAbs j.natAbs = 1) := by
                      rw [Bool.eq_iff_iff, decide_eq_true_iff, decide_eq_true_iff, V.int.injEq]
                      omega
                    show Q (.bl (decide (V.int ((Nat.gcd i.natAbs j.natAbs : Nat) : Int) = V.int 1))) H
                    rw [e3]
                    simpa using q'
                  · rw [decide_eq_false h3] at q' ⊢
                    refine iteF ?_
                    simpa using q'
                · rw [decide_eq_false h2] at q' ⊢
                  refine iteF ?_
                  refine ⟨_, rfl, ?_⟩
                  refine iteF ?_
                  simpa using q'
              · rw [decide_eq_false h1] at q' ⊢
                refine iteF ?_
                simpa using q'
      · rw [degOf_len hl] at q
        have e2 : (!decide (V.int (xs.length : Int) = V.int 2)) = true := by
          simp only [Bool.not_eq_true', decide_eq_false_iff_not, V.int.injEq]
          omega
        show if (!decide (V.int (xs.length : Int) = V.int 2)) = true then _ else _
        rw [e2]
        exact iteT q
    | @flat v k n =>
      obtain ⟨t, ty, e⟩ : ∃ t, TyX K H v t ∧ PySem.W.kitOne K t (.type "tuple") = some false := by
        cases v with
        | non => exact ⟨_, .base .non, kit_ty (by decide +kernel)⟩
        | bl b => exact ⟨_, .base (.bl b), kit_ty (by decide +kernel)⟩
        | int i => exact ⟨_, .base (.int i), kit_ty (by decide +kernel)⟩
        | str z => exact ⟨_, .base (.str z), kit_ty (by decide +kernel)⟩
        | ref a => exact absurd rfl (n a)
        | _ => exact k.elim
      refine ⟨_, rfl, _, _, _, _, _, rfl, .ty "tuple", ty, e, _, rfl, ?_⟩
      exact iteT (iteT q)
    | lst e =>
      refine ⟨_, rfl, _, _, _, _, _, rfl, .ty "tuple", .base (.lst e), kit_ty (r := false) (by decide +kernel), _, rfl, ?_⟩
      exact iteT (iteT q)
    | dK e =>
      refine ⟨_, rfl, _, _, _, _, _, rfl, .ty "tuple", .base (.dK e), kit_ty (r := false) (by decide +kernel), _, rfl, ?_⟩
      exact iteT (iteT q)
theorem scCheck : FnScope ["thing"] ["thing"] (defScope sCheck) := ⟨rfl, rfl, rfl, by decide +kernel, rfl, by decide +kernel, by decide +kernel⟩
theorem cl_check (D : DefAt K mg "check_degree" sCheck) (T : ErrD K mg C fI) (cI : Cl CX0 P w K mg base 2 "is_degree" ["thing"] (spIsDeg K)) : Cl (L2.CX P w) P w K mg base 4 "check_degree" ["thing"] (spCheck K C) := by
  obtain ⟨f, fd, F, hm⟩ := D
  obtain ⟨fdI, FI⟩ := T.fn
  refine cl_of F hm (F.ok scCheck (fun vs H Q E h => ?_) (fun cdv A outer s H vs Q E hr h => ⟨_, pss_one
      (ps_if (pt_not (pt_val (pe_c0 cI hr (by decide) (by rfl) (pa_cons (pv 0) pa_nil))))
        (pss_one (ps_raise rfl (takes_of rfl rfl rfl rfl) (pmk_oex T.ox T.iC T.tI (ok_errD T FI) (hr.mono (by decide)) (err_bindsD FI) .nil pass0 (by rfl) T.gC (pa_cons (pv 0) pa_nil)))) pss_nil), ?_⟩)) fun _ _ _ _ _ _ us hl => match us, hl with | [_], _ => rfl
  · obtain ⟨v, b, rfl, _⟩ := h
    rfl
  · obtain ⟨v, b, rfl, hd, q, r⟩ := h
    refine ⟨_, rfl, v, b, rfl, hd, _, rfl, ?_⟩
    cases b with
    | true => exact iteF (q rfl)
    | false =>
      refine iteT ?_
      exact ⟨_, rfl, len1 _, fun a ha => mk_rs (r rfl) a ha⟩
end
end G1
set_option maxHeartbeats 4000000
namespace G1
open PySem PySem.Spec PyProof.Rows L2
section
variable {P : Program} {w : World} {K : PySem.W.Frag} {mg : Str → Option Value} {base : Heap}
theorem scMixed : FnScope ["cell", "k", "stirred"] ["cell", "k"] (defScope sMixed) := ⟨rfl, rfl, rfl, by decide +kernel, rfl, by decide +kernel, by decide +kernel⟩
theorem cl_mixed (D : DefAt K mg "_law_mixed" sMixed) (T : Blt mg) : Cl CX0 P w K mg base 1 "_law_mixed" ["cell", "k"] spMixed := by
  obtain ⟨f, fd, F, hm⟩ := D
  refine cl_of F hm (F.ok scMixed (fun vs H Q E h => ?_) (fun cdv A outer s H vs Q E hr h => ⟨_, PSs.nox (pss_cons (ps_set (i := 2) scMixed.nd rfl (Or.inl rfl)
      (pe_op op_mod (pe_callTy call_int1 (by rfl) T.int (by decide +kernel) (pa_cons (pe_op op_add (pe_op op_add (pe_op op_add (pe_op op_mul (pv 0) pe_int) (pe_op op_mul (pe_op op_mul pe_int (pv 1)) (pv 1))) (pe_op op_mul pe_int (pv 1))) pe_int) pa_nil)) pe_int))
    (pss_one (ps_ret (pe_op op_fdiv (pe_op op_mod (pe_callTy call_int1 (by rfl) T.int (by decide +kernel) (pa_cons (pe_op op_add (pe_op op_add (pe_op op_mul (pv 2) (pv 2)) (pe_op op_mul pe_int (pv 2))) pe_int) pa_nil)) pe_int) pe_int)))), ?_⟩)) fun _ _ _ _ _ _ us hl => match us, hl with | [_, _], _ => rfl
  · obtain ⟨c, k, rfl, _⟩ := h
    rfl
  · obtain ⟨c, k, rfl, c0, c1, k0, k1, q⟩ := h
    refine ⟨_, rfl, _, _, rfl, rfl, .inr ⟨by decide, by decide⟩, _, rfl, _, _, rfl, rfl, .inl ⟨by decide, by decide⟩, _, rfl, _, _, rfl, rfl, .inr ⟨by omega, by omega⟩, _, _, rfl, rfl, _, rfl, _, _, rfl, rfl, .inl ⟨by decide, by decide⟩, _, _, rfl, rfl, _, _, rfl, rfl, .inl ⟨_, rfl, ?_⟩⟩
    refine ⟨_, _, rfl, rfl, (by show (0 : Int) < 2147483647; decide), ?_⟩
    generalize hz : (c * 2654435761 + 40503 * k * k + 97 * k + 13) % 2147483647 = z
    have z0 : 0 ≤ z := by omega
    have z1 : z < 2147483647 := by omega
    refine ⟨_, rfl, _, rfl, _, _, rfl, rfl, .inr ⟨by omega, by omega⟩, _, rfl, _, _, rfl, rfl, .inl ⟨by decide, by decide⟩, _, _, rfl, rfl, _, _, rfl, rfl, .inl ⟨_, rfl, ?_⟩⟩
    refine ⟨_, _, rfl, rfl, (by show (0 : Int) < 2147483629; decide), _, _, rfl, rfl, ⟨by decide, by decide⟩, ?_⟩
    exact q _ (by omega)
theorem scDraw : FnScope ["purse", "out_of", "drawn"] ["purse", "out_of"] (defScope sDraw) := ⟨rfl, rfl, rfl, by decide +kernel, rfl, by decide +kernel, by decide +kernel⟩
theorem cl_draw (D : DefAt K mg "_law_draw" sDraw) (T : Blt mg) (cM : Cl CX0 P w K mg base 1 "_law_mixed" ["cell", "k"] spMixed) : Cl CX0 P w K mg base 2 "_law_draw" ["purse", "out_of"] spDraw := by
  obtain ⟨f, fd, F, hm⟩ := D
  refine cl_of F hm (F.ok scDraw (fun vs H Q E h => ?_) (fun cdv A outer s H vs Q E hr h => ⟨_, PSs.nox (pss_cons
      (ps_if (pt_cmpR op_gt (pe_ix ix_list (pv 0) pe_int (fun _ _ => rfl)) pe_int (nomark _))
        (pss_cons (ps_set (i := 2) scDraw.nd rfl (Or.inl rfl) (pe_op op_mod (pe_callTy call_int1 (by rfl) T.int (by decide +kernel) (pa_cons (pe_ix ix_list (pv 0) pe_int (fun _ _ => rfl)) pa_nil)) (pv 1)))
        (pss_cons (ps_asg (pe_op op_fdivW (pe_ix ix_list (pv 0) pe_int (fun _ _ => rfl)) (pv 1)) (pg_sub (pv 0) pe_int set_list))
        (pss_one (ps_ret (pv 2))))) pss_nil)
      (pss_cons (ps_asg (pe_op op_add (pe_ix ix_list (pv 0) pe_int (fun _ _ => rfl)) pe_int) (pg_sub (pv 0) pe_int set_list))
      (pss_one (ps_ret (pe_op op_mod (pe_callTy call_int1 (by rfl) T.int (by decide +kernel) (pa_cons (pe_c0 cM hr (Nat.le_refl 1) (by rfl) (pa_cons (pe_ix ix_list (pv 0) pe_int (fun _ _ => rfl)) (pa_cons (pe_ix ix_list (pv 0) pe_int (fun _ _ => rfl)) pa_nil))) pa_nil)) (pv 1)))))), ?_⟩)) fun _ _ _ _ _ _ us hl => match us, hl with | [_, _], _ => rfl
  · obtain ⟨p, n, c, rfl, _⟩ := h
    rfl
  · obtain ⟨p, n, c, rfl, ⟨⟨a, b, e, a0, a1, b0, b1⟩, c0⟩, c1, n0, n1, q⟩ := h
    refine ⟨_, rfl, p, _, _, _, rfl, rfl, SqL.of e, rfl, _, _, rfl, rfl, _, rfl, ite2 (fun h => ?_) (fun h => ?_)⟩
    · have h0 : 0 < a := of_decide_eq_true h
      refine ⟨_, rfl, p, _, _, _, rfl, rfl, SqL.of e, rfl, .inl ⟨_, rfl, _, rfl, _, _, rfl, rfl, n0, ?_⟩⟩
      refine ⟨_, rfl, p, _, _, _, rfl, rfl, SqL.of e, rfl, _, rfl, _, _, rfl, rfl, wide_div (b := 60) n0 (by omega) (by decide) (by decide), ?_⟩
      refine ⟨_, rfl, p, _, _, 0, rfl, rfl, e, rfl, _, rfl, ?_⟩
      refine q _ c _ (Int.emod_nonneg _ (by omega)) (Int.emod_lt_of_pos _ n0) (by omega) ⟨⟨a / n, b, upd_same, Int.ediv_nonneg a0 (by omega), ?_, b0, b1⟩, c0⟩ fun x o hx ho => ?_
      · refine Nat.lt_of_le_of_lt ?_ a1
        have : a / n ≤ a := Int.ediv_le_self _ a0
        have : 0 ≤ a / n := Int.ediv_nonneg a0 (by omega)
        omega
      · rw [upd_ne hx]
        exact ho
    · refine ⟨_, rfl, p, _, _, _, rfl, rfl, SqL.of e, rfl, _, _, rfl, rfl, ?_⟩
      refine ⟨_, rfl, p, _, _, 2, rfl, rfl, e, rfl, ?_⟩
      refine ⟨_, rfl, p, _, _, _, rfl, rfl, SqL.of upd_same, rfl, _, rfl, p, _, _, _, rfl, rfl, SqL.of upd_same, rfl, ?_⟩
      refine ⟨b, c + 1, rfl, b0, b1, by omega, by omega, fun r r0 => .inl ⟨_, rfl, _, rfl, _, _, rfl, rfl, n0, ?_⟩⟩
      refine q _ (c + 1) _ (Int.emod_nonneg _ (by omega)) (Int.emod_lt_of_pos _ n0) (by omega) ⟨⟨a, b, upd_same, a0, a1, b0, b1⟩, by omega⟩ fun x o hx ho => ?_
      rw [upd_ne hx]
      exact ho
end
section
variable {P : Program} {w : World} {K : PySem.W.Frag} {mg : Str → Option Value} {base : Heap}
theorem scPurse : FnScope ["cells", "at", "cell"] ["cells", "at"] (defScope sPurse) := ⟨rfl, rfl, rfl, by decide +kernel, rfl, by decide +kernel, by decide +kernel⟩
theorem pow_bits1 : CPowW 10 18 := ⟨by decide, by decide +kernel⟩
theorem pow_bits2 : CPowW 10 60 := ⟨by decide, by decide +kernel⟩
theorem pow_bits3 : CPowW (10 ^ (60 : Int).toNat) 8 := ⟨by decide, by decide +kernel⟩
theorem pow_bits4 : CPowW 10 11 := ⟨by decide, by decide +kernel⟩
theorem big_lt : ((10 : Int) ^ (60 : Int).toNat) ^ (8 : Int).toNat < 2 ^ 1600 := by decide +kernel
theorem big_pos : (0 : Int) < ((10 : Int) ^ (60 : Int).toNat) ^ (8 : Int).toNat := by decide +kernel
theorem purse_end {H : Hp} {i z y : Int} {Q : VK} (i0 : 0 ≤ i) (k : ∀ (p : Addr) (H' : Hp), H p = none → Same H H' → PurseAt H' p (1000 * i) → Q (.ref p) H')
    (p : Addr) (hp : H p = none) : Q (.ref p) (upd H p (.lst [.int (z % (((10 : Int) ^ (60 : Int).toNat) ^ (8 : Int).toNat)), .int (y % 2147483647), .int (1000 * i)])) := by
  refine k p _ hp (fun b o e => ?_) ⟨⟨_, _, upd_same, Int.emod_nonneg _ ?_, ?_, by omega, by omega⟩, by omega⟩
  · rw [upd_ne (ne_of_none e hp)]
    exact e
  · have := big_pos
    omega
  · have h1 := big_pos
    have h2 := big_lt
    have h3 := Int.emod_nonneg z (show ((10 : Int) ^ (60 : Int).toNat) ^ (8 : Int).toNat ≠ 0 by omega)
    have h4 := Int.emod_lt_of_pos z h1
    have h5 : ((2 ^ 1600 : Nat) : Int) = (2 : Int) ^ 1600 := by decide +kernel
    omega
theorem cl_purse (D : DefAt K mg "_law_purse" sPurse) (T : Blt mg) : Cl CX0 P w K mg base 1 "_law_purse" ["cells", "at"] (spPurse K) := by
  obtain ⟨f, fd, F, hm⟩ := D
  refine cl_of F hm (F.ok scPurse (fun vs H Q E h => ?_) (fun cdv A outer s H vs Q E hr h => ⟨_, PSs.nox (pss_cons
      (ps_set (i := 2) scPurse.nd rfl (Or.inl rfl) pe_int)
      (pss_cons (ps_if (pt_cmpR op_lt (pv 1) (pe_callB call_len_seq (by rfl) T.len PySem.boot_len (pa_cons (pv 0) pa_nil)) (nomark _))
        (pss_one (ps_set (i := 2) scPurse.nd rfl (Or.inl rfl) (pe_ix ix_list (pv 0) (pv 1) (fun _ _ => rfl)))) pss_nil)
      (pss_one (ps_ret (pe_lst (pa_cons (pe_op op_mod (pe_callTy call_int1 (by rfl) T.int (by decide +kernel) (pa_cons (pe_callB (call_max2 rfl) (by rfl) T.max (by decide +kernel) (pa_cons (pe_op op_sub (pv 2) (pe_op op_powW pe_int pe_int)) (pa_cons pe_int pa_nil))) pa_nil)) (pe_op op_powW (pe_op op_powW pe_int pe_int) pe_int))
        (pa_cons (pe_op op_mod (pe_callTy call_int1 (by rfl) T.int (by decide +kernel) (pa_cons (pv 2) pa_nil)) pe_int) (pa_cons (pe_op op_mul pe_int (pv 1)) pa_nil)))))))), ?_⟩)) fun _ _ _ _ _ _ us hl => match us, hl with | [_, _], _ => rfl
  · obtain ⟨a, ns, i, rfl, _⟩ := h
    rfl
  · obtain ⟨a, ns, i, rfl, hS, i0, i1, q⟩ := h
    refine ⟨_, rfl, _, rfl, a, _, rfl, .inl hS, _, _, rfl, rfl, _, rfl, ite2 (fun h => ?_) (fun h => ?_)⟩
    · have h1 : i < ((ns.map V.int).length : Int) := of_decide_eq_true h
      have h2 : i.toNat < ns.length := by
        rw [List.length_map] at h1
        omega
      have h3 : atI (ns.map V.int) i = some (.int ns[i.toNat]) := at_of (j := i.toNat) (by omega) (by simp [h2])
      refine ⟨_, rfl, _, rfl, a, _, _, _, rfl, rfl, hS, h3, ?_⟩
      refine ⟨_, rfl, _, _, rfl, rfl, pow_bits1, _, _, rfl, rfl, _, _, rfl, .inl ⟨_, rfl, _, _, rfl, rfl, pow_bits2, _, _, rfl, rfl, pow_bits3, _, _, rfl, rfl, big_pos, _, rfl, .inl ⟨_, rfl, _, _, rfl, rfl, (by show (0 : Int) < 2147483647; decide), _, rfl, _, _, rfl, rfl, .inl ⟨by decide, by decide⟩, (by show 3 ≤ sizeLine; decide), ?_⟩⟩⟩
      exact purse_end i0 q
    · refine ⟨_, rfl, _, _, rfl, rfl, pow_bits1, _, _, rfl, rfl, _, _, rfl, .inl ⟨_, rfl, _, _, rfl, rfl, pow_bits2, _, _, rfl, rfl, pow_bits3, _, _, rfl, rfl, big_pos, _, rfl, .inl ⟨_, rfl, _, _, rfl, rfl, (by show (0 : Int) < 2147483647; decide), _, rfl, _, _, rfl, rfl, .inl ⟨by decide, by decide⟩, (by show 3 ≤ sizeLine; decide), ?_⟩⟩⟩
      exact purse_end i0 q
end
end G1
set_option maxHeartbeats 8000000
namespace G1
open PySem PySem.Spec PyProof.Rows L2 JN
/-! ### fractions of the law's own -/
def spCommon : Sp := fun vs H Q _ => ∃ a b : Nat, vs = [.int a, .int b] ∧ Q (.int (Nat.gcd a b : Nat)) H
structure LowP (K : PySem.W.Frag) (a b : Int) (H : Hp) (Q : VK) : Prop where
  pos : 0 < b
  top : a.natAbs < 2 ^ 8000
  bot : b.natAbs < 2 ^ 8000
  fin : ∀ (t : Addr) (H' : Hp), H t = none → Same H H' → RtAt K H' (Rat.divInt a b) t → Q (.ref t) H'
def spLowest (K : PySem.W.Frag) : Sp := fun vs H Q _ => ∃ a b : Int, vs = [.int a, .int b] ∧ LowP K a b H Q
def spLess (K : PySem.W.Frag) : Sp := fun vs H Q _ => ∃ (t u : Addr) (x y : Rat), vs = [.ref t, .ref u] ∧ RtAt K H x t ∧ RtAt K H y u ∧ Sz 8000 x ∧ Sz 8000 y ∧ Q (.bl (decide (x < y))) H
theorem mulW_ok {i j : Int} (hi : i.natAbs < 2 ^ 8000) (hj : j.natAbs < 2 ^ 8000) : CMulW i j := wide_mul hi hj (by decide) (by decide) (by decide)
theorem pos_abs (x : Rat) : ((x.den : Int)).natAbs = x.den := Int.natAbs_natCast _
section
variable {P : Program} {w : World} {K : PySem.W.Frag} {mg : Str → Option Value} {base : Heap}
theorem scCommon : FnScope ["one", "second"] ["one", "second"] (defScope sCommon) := ⟨rfl, rfl, rfl, by decide +kernel, rfl, by decide +kernel, by decide +kernel⟩
theorem cl_common (D : DefAt K mg "_law_common" sCommon) : Cl CX0 P w K mg base 1 "_law_common" ["one", "second"] spCommon := by
  obtain ⟨f, fd, F, hm⟩ := D
  refine cl_of F hm (F.ok scCommon (fun vs H Q E h => ?_) (fun cdv A outer s H vs Q E hr h => ⟨_, PSs.nox (pss_cons
      (ps_while PassesOwn.never (pt_cmpR op_ne (pv 1) pe_int (nomark _)) (pss_one (ps_par (i := 0) (j := 1) (by rfl) scCommon.nd rfl rfl (by decide) rfl rfl (pa_cons (pv 1) (pa_cons (pe_op op_mod (pv 0) (pv 1)) pa_nil)) (by rfl))))
      (pss_one (ps_ret (pv 0)))), ?_⟩)) fun _ _ _ _ _ _ us hl => match us, hl with | [_, _], _ => rfl
  · obtain ⟨a, b, rfl, _⟩ := h
    rfl
  · obtain ⟨a, b, rfl, q⟩ := h
    refine while_by (fun σ H' => ∃ x y : Nat, σ = [some (.int x), some (.int y)] ∧ Nat.gcd x y = Nat.gcd a b ∧ H' = H) (fun σ _ => match σ with | [_, some (.int y)] => y.toNat | _ => 0) ⟨a, b, rfl, rfl, rfl⟩ ?_ ?_
    · rintro σ H' ⟨x, y, rfl, g, rfl⟩
      refine ⟨_, rfl, rfl, _, rfl, ite2 (fun h => ?_) (fun h => ?_)⟩
      · have hy : y ≠ 0 := by
          intro z
          subst z
          simp at h
        refine ⟨_, rfl, _, rfl, _, rfl, _, _, rfl, rfl, (by show (0 : Int) < (y : Int); omega), _, _, rfl, ⟨y, x % y, ?_, ?_, rfl⟩, ?_⟩
        · simp [List.set]
        · rw [← g, Nat.gcd_comm x y, Nat.gcd_rec y x, Nat.gcd_comm]
        · show ((x : Int) % (y : Int)).toNat < (y : Int).toNat
          have := Int.emod_lt_of_pos (x : Int) (show (0 : Int) < (y : Int) by omega)
          omega
      · have hy : y = 0 := by
          simpa using h
        subst hy
        refine ⟨_, rfl, ?_⟩
        rw [Nat.gcd_zero_right] at g
        rw [g]
        exact q
    · rintro σ H' Q1 Q2 hQ ⟨v, e, s1, k, ek, z⟩
      exact ⟨v, e, s1, k, ek, hQ _ _ z⟩
theorem scLowest : FnScope ["above", "beneath", "shared"] ["above", "beneath"] (defScope sLowest) := ⟨rfl, rfl, rfl, by decide +kernel, rfl, by decide +kernel, by decide +kernel⟩
theorem cl_lowest (D : DefAt K mg "_law_lowest" sLowest) (T : Blt mg) (cC : Cl CX0 P w K mg base 1 "_law_common" ["one", "second"] spCommon) : Cl CX0 P w K mg base 2 "_law_lowest" ["above", "beneath"] (spLowest K) := by
  obtain ⟨f, fd, F, hm⟩ := D
  refine cl_of F hm (F.ok scLowest (fun vs H Q E h => ?_) (fun cdv A outer s H vs Q E hr h => ⟨_, PSs.nox (pss_cons
      (ps_set (i := 2) scLowest.nd rfl (Or.inl rfl) (pe_c0 cC hr (Nat.le_refl 1) (by rfl) (pa_cons (pe_callB call_abs (by rfl) T.abs (by decide +kernel) (pa_cons (pe_callTy call_int1 (by rfl) T.int (by decide +kernel) (pa_cons (pv 0) pa_nil)) pa_nil)) (pa_cons (pe_callTy call_int1 (by rfl) T.int (by decide +kernel) (pa_cons (pv 1) pa_nil)) pa_nil))))
      (pss_one (ps_ret (pe_tup (pa_cons (pe_op op_fdivW (pv 0) (pv 2)) (pa_cons (pe_op op_fdivW (pv 1) (pv 2)) pa_nil)))))), ?_⟩)) fun _ _ _ _ _ _ us hl => match us, hl with | [_, _], _ => rfl
  · obtain ⟨a, b, rfl, _⟩ := h
    rfl
  · obtain ⟨a, b, rfl, lp⟩ := h
    have b0 := lp.pos
    have hb := lp.bot
    have g0 : 0 < Int.gcd a b := Int.gcd_pos_of_ne_zero_right _ (by omega)
    have g1 : Int.gcd a b ≤ b.natAbs := Int.gcd_le_natAbs_right a (by omega)
    have dv : ∀ z : Int, CDivW z ((Int.gcd a b : Nat) : Int) := fun z => wide_div (b := 8000) (by omega) (by rw [Int.natAbs_natCast]; omega) (by decide) (by decide)
    have ea : (if a < 0 then -a else a) = ((a.natAbs : Nat) : Int) := by
      split <;> omega
    have eb : b = ((b.natAbs : Nat) : Int) := by omega
    refine ⟨_, rfl, .inl ⟨_, rfl, _, rfl, ?_⟩⟩
    refine ⟨_, rfl, .inl ⟨_, rfl, a.natAbs, b.natAbs, ?_, ?_⟩⟩
    · show [V.int (if a < 0 then -a else a), V.int b] ++ [] = _
      rw [ea]
      rw [← eb]
      rfl
    refine ⟨_, rfl, _, rfl, _, _, rfl, rfl, dv a, _, rfl, _, rfl, _, _, rfl, rfl, dv b, (by show 2 ≤ sizeLine; decide), fun t ht => ?_⟩
    obtain ⟨G, eG, S, fG⟩ := mk_s (.tup [.int (a / ((Int.gcd a b : Nat) : Int)), .int (b / ((Int.gcd a b : Nat) : Int))]) ht
    have eG' : upd H t (.tup [.int (a / ((Nat.gcd a.natAbs b.natAbs : Nat) : Int)), .int (b / ((Nat.gcd a.natAbs b.natAbs : Nat) : Int))]) = G := eG
    rw [eG']
    refine lp.fin t G ht S (SqT.of ?_)
    rw [div_num b0, div_den b0]
    exact fG
theorem scLess : FnScope ["u", "v"] ["u", "v"] (defScope sLess) := ⟨rfl, rfl, rfl, by decide +kernel, rfl, by decide +kernel, by decide +kernel⟩
theorem cl_less (D : DefAt K mg "_law_less" sLess) : Cl CX0 P w K mg base 1 "_law_less" ["u", "v"] (spLess K) := by
  obtain ⟨f, fd, F, hm⟩ := D
  refine cl_of F hm (F.ok scLess (fun vs H Q E h => ?_) (fun cdv A outer s H vs Q E hr h => ⟨_, PSs.nox
      (pss_one (ps_ret (pe_cmpR op_lt (pe_op op_mulW (pe_ix ix_tup (pv 0) pe_int (fun _ _ => rfl)) (pe_ix ix_tup (pv 1) pe_int (fun _ _ => rfl))) (pe_op op_mulW (pe_ix ix_tup (pv 1) pe_int (fun _ _ => rfl)) (pe_ix ix_tup (pv 0) pe_int (fun _ _ => rfl))) (nomark _)))), ?_⟩)) fun _ _ _ _ _ _ us hl => match us, hl with | [_, _], _ => rfl
  · obtain ⟨t, u, x, y, rfl, _⟩ := h
    rfl
  · obtain ⟨t, u, x, y, rfl, ht, hu, sx, sy, q⟩ := h
    refine ⟨_, rfl, t, _, _, _, rfl, rfl, ht, rfl, _, rfl, u, _, _, _, rfl, rfl, hu, rfl, _, _, rfl, rfl, mulW_ok sx.top (by rw [pos_abs]; exact sy.bot), ?_⟩
    refine ⟨_, rfl, u, _, _, _, rfl, rfl, hu, rfl, _, rfl, t, _, _, _, rfl, rfl, ht, rfl, _, _, rfl, rfl, mulW_ok sy.top (by rw [pos_abs]; exact sx.bot), _, _, rfl, rfl, ?_⟩
    show Q (.bl (decide (x.num * (y.den : Int) < y.num * (x.den : Int)))) H
    rw [lt_cross]
    exact q
end
end G1
set_option maxHeartbeats 4000000
/-! a list that grows beside the purse -/
namespace JN
open PySem PySem.Spec PyProof.Rows L2 G1
theorem cut_to (xs : List V) (k : Nat) (h : k ≤ xs.length) : cutV xs none (some (k : Int)) = xs.take k := by
  unfold cutV
  rw [HT.sIx_none, HT.sIx_nat, Nat.min_eq_left h, List.drop_zero, Nat.sub_zero]
theorem cut_from (xs : List V) (k : Nat) (h : k ≤ xs.length) : cutV xs (some (k : Int)) none = xs.drop k := by
  unfold cutV
  rw [HT.sIx_none, HT.sIx_nat, Nat.min_eq_left h, List.take_of_length_le]
  rw [List.length_drop]
  omega
theorem but_upd {D : Addr} {H : Hp} {o : HO} : But D H (upd H D o) := fun _ _ n h => (upd_ne n).trans h
theorem hide_at {p b : Addr} {H : Hp} {o : HO} (h : hide p H b = some o) : b ≠ p ∧ H b = some o := by
  by_cases e : b = p
  · rw [e] at h
    have z : (none : Option HO) = some o := (if_pos rfl).symm.trans h
    cases z
  · exact ⟨e, (hide_ne e).symm.trans h⟩
theorem hide_but {p D : Addr} {H H' : Hp} (s : But D H H') : But D (hide p H) (hide p H') := fun b o n h => by
  obtain ⟨e, h⟩ := hide_at h
  exact (hide_ne e).trans (s b o n h)
theorem sqt_but {K : PySem.W.Frag} {D b : Addr} {H H' : Hp} {xs ys : List V} (h : SqT K H b xs) (d : H D = some (.lst ys)) (s : But D H H') : SqT K H' b xs := by
  have go : ∀ o, H b = some o → (∀ zs, o ≠ .lst zs) → H' b = some o := fun o z n => s b o (fun e => by
    rw [e, d] at z
    cases z
    exact n _ rfl) z
  match h with
  | .inl (.inl h) => exact .inl (.inl (go _ h (fun _ => nofun)))
  | .inl (.inr ⟨u, h⟩) => exact .inl (.inr ⟨u, go _ h (fun _ => nofun)⟩)
  | .inr h => exact .inr h
theorem rt_but {K : PySem.W.Frag} {D b : Addr} {H H' : Hp} {x : Rat} {ys : List V} (h : RtAt K H x b) (d : H D = some (.lst ys)) (s : But D H H') : RtAt K H' x b := sqt_but h d s
theorem pc_but {K : PySem.W.Frag} {D b : Addr} {H H' : Hp} {p : Pc} {ys : List V} (h : PcAt K H p b) (d : H D = some (.lst ys)) (s : But D H H') : PcAt K H' p b := by
  obtain ⟨l, u, h1, h2, h3⟩ := h
  exact ⟨l, u, sqt_but h1 d s, rt_but h2 d s, rt_but h3 d s⟩
theorem rts_but {K : PySem.W.Frag} {D : Addr} {H H' : Hp} {xs : List Rat} {as : List Addr} {ys : List V} (h : Paired (RtAt K H) xs as) (d : H D = some (.lst ys)) (s : But D H H') : Paired (RtAt K H') xs as := paired_imp (fun _ _ z => rt_but z d s) h
theorem pcs_but {K : PySem.W.Frag} {D : Addr} {H H' : Hp} {xs : List Pc} {as : List Addr} {ys : List V} (h : Paired (PcAt K H) xs as) (d : H D = some (.lst ys)) (s : But D H H') : Paired (PcAt K H') xs as := paired_imp (fun _ _ z => pc_but z d s) h
theorem rts_on {K : PySem.W.Frag} {H H' : Hp} {xs : List Rat} {as : List Addr} (h : Paired (RtAt K H) xs as) (s : Same H H') : Paired (RtAt K H') xs as := paired_imp (fun _ _ z => z.on s) h
theorem paired_len {α β : Type} {R : α → β → Prop} {xs : List α} {ys : List β} (h : Paired R xs ys) : xs.length = ys.length := Paired.length h
theorem paired_app2 {α β : Type} {R : α → β → Prop} : ∀ {xs xs' : List α} {ys ys' : List β}, Paired R xs ys → Paired R xs' ys' → Paired R (xs ++ xs') (ys ++ ys')
  | _, _, _, _, .nil, h => h
  | _, _, _, _, .cons r rs, h => .cons r (paired_app2 rs h)
theorem paired_take {α β : Type} {R : α → β → Prop} : ∀ {xs : List α} {ys : List β} (k : Nat), Paired R xs ys → Paired R (xs.take k) (ys.take k)
  | _, _, 0, _ => by rw [List.take_zero, List.take_zero]; exact .nil
  | _, _, _ + 1, .nil => by rw [List.take_nil, List.take_nil]; exact .nil
  | _, _, k + 1, .cons r rs => .cons r (paired_take k rs)
theorem paired_drop {α β : Type} {R : α → β → Prop} : ∀ {xs : List α} {ys : List β} (k : Nat), Paired R xs ys → Paired R (xs.drop k) (ys.drop k)
  | _, _, 0, h => h
  | _, _, _ + 1, .nil => .nil
  | _, _, k + 1, .cons _ rs => paired_drop k rs
theorem get_map {as : List Addr} {i : Nat} {v : V} (h : (as.map V.ref)[i]? = some v) : ∃ a, as[i]? = some a ∧ v = .ref a := by
  rw [List.getElem?_map] at h
  obtain ⟨a, h1, h2⟩ := Option.map_eq_some_iff.mp h
  exact ⟨a, h1, h2.symm⟩
theorem pc_get {α β : Type} {R : α → β → Prop} {xs : List α} {ys : List β} {i : Nat} {y : β} (h : Paired R xs ys) (hy : ys[i]? = some y) : ∃ x, xs[i]? = some x ∧ R x y := by
  have hl := Paired.length h
  have hi : i < xs.length := by
    have := (List.getElem?_eq_some_iff.mp hy).1
    omega
  exact ⟨xs[i], List.getElem?_eq_getElem hi, paired_at2 i h (List.getElem?_eq_getElem hi) hy⟩
/-- all between 0 and 1, and of few bits -/
def Nice (xs : List Rat) : Prop := ∀ x ∈ xs, 0 ≤ x ∧ x ≤ 1 ∧ Sz 120 x
theorem Nice.put {xs : List Rat} {e : Rat} (h : Nice xs) (he : 0 ≤ e ∧ e ≤ 1 ∧ Sz 120 e) : Nice (put xs e) := fun x hx => (put_mem hx).elim (fun z => z ▸ he) (h x)
/-- the ends set in order -/
def puts (xs : List Rat) : List Rat := xs.foldl JN.put []
theorem puts_next {xs : List Rat} {i : Nat} {x : Rat} (h : xs[i]? = some x) : puts (xs.take (i + 1)) = JN.put (puts (xs.take i)) x := by
  unfold puts
  rw [List.take_succ, h, List.foldl_append]
  rfl
theorem puts_asc (xs : List Rat) : Asc (puts xs) := by
  have go : ∀ (xs acc : List Rat), Asc acc → Asc (xs.foldl JN.put acc) := by
    intro xs
    induction xs with
    | nil => intro acc h; exact h
    | cons x r ih => intro acc h; exact ih _ (put_asc h)
  exact go xs [] List.Pairwise.nil
theorem puts_len (xs : List Rat) : (puts xs).length ≤ xs.length := by
  have go : ∀ (xs acc : List Rat), (xs.foldl JN.put acc).length ≤ acc.length + xs.length := by
    intro xs
    induction xs with
    | nil => intro acc; simp
    | cons x r ih =>
      intro acc
      have h1 := ih (JN.put acc x)
      have h2 := put_len acc x
      have e : (x :: r).length = r.length + 1 := rfl
      rw [List.foldl_cons, e]
      omega
  have := go xs []
  have e : ([] : List Rat).length = 0 := rfl
  unfold puts
  omega
theorem puts_nice {xs : List Rat} (h : Nice xs) : Nice (puts xs) := by
  have go : ∀ (ys acc : List Rat), (∀ x ∈ ys, x ∈ xs) → Nice acc → Nice (ys.foldl JN.put acc) := by
    intro ys
    induction ys with
    | nil => intro acc _ h; exact h
    | cons x r ih => intro acc m hn; exact ih _ (fun y hy => m y (List.mem_cons_of_mem _ hy)) (hn.put (h x (m x List.mem_cons_self)))
  exact go xs [] (fun _ z => z) (fun _ z => by cases z)
def withZero (xs : List Rat) : List Rat := (if (0 : Rat) ∈ xs then [] else [0]) ++ xs
def withOne (xs : List Rat) : List Rat := xs ++ if (1 : Rat) ∈ xs then [] else [1]
theorem withZero_asc {xs : List Rat} (h : Asc xs) (n : Nice xs) : Asc (withZero xs) := by
  unfold withZero
  split
  · exact h
  · rename_i z
    refine List.pairwise_cons.mpr ⟨fun y hy => ?_, h⟩
    have a := (n y hy).1
    have b : y ≠ 0 := fun e => z (e ▸ hy)
    grind
theorem withOne_asc {xs : List Rat} (h : Asc xs) (n : Nice xs) : Asc (withOne xs) := by
  unfold withOne
  split
  · rw [List.append_nil]
    exact h
  · rename_i z
    refine List.pairwise_append.mpr ⟨h, List.pairwise_singleton _ _, fun x hx y hy => ?_⟩
    rw [List.mem_singleton] at hy
    have a := (n x hx).2.1
    have b : x ≠ 1 := fun e => z (e ▸ hx)
    grind
theorem sz01 : Sz 120 0 ∧ Sz 120 1 := ⟨⟨by decide, by decide⟩, ⟨by decide, by decide⟩⟩
theorem withZero_nice {xs : List Rat} (n : Nice xs) : Nice (withZero xs) := by
  intro x hx
  unfold withZero at hx
  rcases List.mem_append.mp hx with h | h
  · split at h
    · cases h
    · rw [List.mem_singleton] at h
      rw [h]
      exact ⟨by decide, by decide, sz01.1⟩
  · exact n x h
theorem withOne_nice {xs : List Rat} (n : Nice xs) : Nice (withOne xs) := by
  intro x hx
  unfold withOne at hx
  rcases List.mem_append.mp hx with h | h
  · exact n x h
  · split at h
    · cases h
    · rw [List.mem_singleton] at h
      rw [h]
      exact ⟨by decide, by decide, sz01.2⟩
theorem withZero_len (xs : List Rat) : (withZero xs).length ≤ xs.length + 1 := by
  unfold withZero
  split <;> simp
theorem withOne_len (xs : List Rat) : (withOne xs).length ≤ xs.length + 1 := by
  unfold withOne
  split <;> simp
/-- pieces set between neighbours: what holds behind i of them -/
structure Between (xs : List Rat) (i : Nat) (ps : List Pc) : Prop where
  row : Row ps
  up : ∀ p ∈ ps, ∀ x, xs[i]? = some x → p.hi ≤ x
  few : ps.length ≤ i
  sz : ∀ p ∈ ps, PSz 120 p
theorem Between.zero (xs : List Rat) : Between xs 0 [] := ⟨⟨(fun _ z => nomatch z), List.Pairwise.nil⟩, (fun _ z => nomatch z), Nat.le_refl _, (fun _ z => nomatch z)⟩
theorem asc_next {xs : List Rat} {i : Nat} {x y : Rat} (h : Asc xs) (hx : xs[i]? = some x) (hy : xs[i + 1]? = some y) : x < y := by
  obtain ⟨h1, e1⟩ := List.getElem?_eq_some_iff.mp hx
  obtain ⟨h2, e2⟩ := List.getElem?_eq_some_iff.mp hy
  have := List.pairwise_iff_getElem.mp h i (i + 1) h1 h2 (Nat.lt_succ_self i)
  rw [e1, e2] at this
  exact this
theorem Between.skip {xs : List Rat} {i : Nat} {ps : List Pc} (h : Between xs i ps) (ha : Asc xs) : Between xs (i + 1) ps := by
  refine ⟨h.row, fun p hp y hy => ?_, Nat.le_succ_of_le h.few, h.sz⟩
  have hi : i < xs.length := by
    have := (List.getElem?_eq_some_iff.mp hy).1
    omega
  have e : xs[i]? = some xs[i] := List.getElem?_eq_getElem hi
  have l := asc_next ha e hy
  have u := h.up p hp _ e
  grind
theorem Between.more {xs : List Rat} {i : Nat} {ps : List Pc} {x y : Rat} {k : Bool} (h : Between xs i ps) (ha : Asc xs) (n : Nice xs) (hx : xs[i]? = some x) (hy : xs[i + 1]? = some y) : Between xs (i + 1) (ps ++ [⟨x, y, k⟩]) := by
  have l := asc_next ha hx hy
  have nx := n x (List.mem_of_getElem? hx)
  have ny := n y (List.mem_of_getElem? hy)
  refine ⟨⟨fun p hp => ?_, List.pairwise_append.mpr ⟨h.row.up, List.pairwise_singleton _ _, fun p hp q hq => ?_⟩⟩, fun p hp z hz => ?_, ?_, fun p hp => ?_⟩
  · rcases List.mem_append.mp hp with hp | hp
    · exact h.row.ok p hp
    · rw [List.mem_singleton] at hp
      rw [hp]
      exact ⟨nx.1, l, ny.2.1⟩
  · rw [List.mem_singleton] at hq
    rw [hq]
    exact h.up p hp x hx
  · rw [hy] at hz
    cases hz
    rcases List.mem_append.mp hp with hp | hp
    · have := h.up p hp x hx
      grind
    · rw [List.mem_singleton] at hp
      rw [hp]
      grind
  · rw [List.length_append]
    have := h.few
    simp
    omega
  · rcases List.mem_append.mp hp with hp | hp
    · exact h.sz p hp
    · rw [List.mem_singleton] at hp
      rw [hp]
      exact ⟨nx.2.2, ny.2.2⟩
end JN
set_option maxHeartbeats 8000000
namespace G1
open PySem PySem.Spec PyProof.Rows L2 JN
structure DegP (K : PySem.W.Frag) (p : Addr) (c : Int) (H : Hp) (Q : VK) : Prop where
  at_ : PurseAt H p c
  lo : c < 2 ^ 39
  fin : ∀ (t : Addr) (x : Rat) (c' : Int) (H' : Hp), c' ≤ c + 3 → 0 ≤ x ∧ x ≤ 1 ∧ Sz 120 x → PurseAt H' p c' → But p H H' → RtAt K (hide p H') x t → Q (.ref t) H'
def spDegL (K : PySem.W.Frag) : Sp := fun vs H Q _ => ∃ (p : Addr) (c : Int), vs = [.ref p] ∧ DegP K p c H Q
theorem rt_hide {K : PySem.W.Frag} {H H' : Hp} {p t : Addr} {c : Int} {x : Rat} (P : PurseAt H p c) (n : H t = none) (s : Same H H') (h : RtAt K H' x t) : RtAt K (hide p H') x t := by
  have go : ∀ o, H' t = some o → hide p H' t = some o := fun o e => (hide_ne (P.at n)).trans e
  match h with
  | .inl (.inl h) => exact .inl (.inl (go _ h))
  | .inl (.inr ⟨u, h⟩) => exact .inl (.inr ⟨u, go _ h⟩)
  | .inr h => exact .inr h
theorem but_same {p : Addr} {H H' : Hp} (s : Same H H') : But p H H' := fun b o _ h => s b o h
end G1
set_option maxHeartbeats 16000000
namespace G1
open PySem PySem.Spec PyProof.Rows L2 JN
structure LotP (K : PySem.W.Frag) (p : Addr) (c : Int) (H : Hp) (Q : VK) : Prop where
  at_ : PurseAt H p c
  lo : c < 2 ^ 38
  fin : ∀ (l : Addr) (as : List Addr) (ls : List Pc) (c' : Int) (H' : Hp), c' ≤ c + 30 → H l = none → H' l = some (.lst (as.map V.ref)) → Paired (PcAt K (hide p H')) ls as → Row ls → ls.length ≤ 6 → (∀ q ∈ ls, PSz 120 q) →
    PurseAt H' p c' → But p H H' → Q (.ref l) H'
def spLot (K : PySem.W.Frag) : Sp := fun vs H Q _ => ∃ (p : Addr) (c : Int), vs = [.ref p] ∧ LotP K p c H Q
/-- the ordered ends -/
structure OrdAt (K : PySem.W.Frag) (p : Addr) (H : Hp) (a : Addr) (xs : List Rat) : Prop where
  ex : ∃ bs : List Addr, hide p H a = some (.lst (bs.map V.ref)) ∧ Paired (RtAt K (hide p H)) xs bs
theorem OrdAt.on {K : PySem.W.Frag} {p a : Addr} {H H' : Hp} {xs : List Rat} (h : OrdAt K p H a xs) (s : Same (hide p H) (hide p H')) : OrdAt K p H' a xs := by
  obtain ⟨bs, h1, h2⟩ := h.ex
  exact ⟨bs, s _ _ h1, rts_on h2 s⟩
theorem rev_dp {K : PySem.W.Frag} {p a : Addr} {H : Hp} {xs : List Rat} (h : OrdAt K p H a xs) : Dp K H (.ref a) (.list (xs.map dRt)) := by
  obtain ⟨bs, h1, h2⟩ := h.ex
  exact .lst (SqL.of (hide_same _ _ h1)) (dps (rts_on h2 hide_same))
theorem spot_next {xs : List Rat} {e x : Rat} {j : Nat} (h : xs[j]? = some x) : spot (xs.take (j + 1)) e = spot (xs.take j) e + if x < e then 1 else 0 := by
  unfold spot
  rw [List.take_succ, h, List.filter_append, List.length_append]
  show _ + (List.filter (fun y => decide (y < e)) [x]).length = _
  by_cases c : x < e
  · rw [if_pos c, List.filter_cons, if_pos (decide_eq_true c)]
    rfl
  · rw [if_neg c, List.filter_cons, if_neg (by simpa using c)]
    rfl
theorem spot_le (xs : List Rat) (e : Rat) : spot xs e ≤ xs.length := List.length_filter_le _ _
theorem but_off {p D : Addr} {H G G' : Hp} (n : H D = none) (b : But p H G) (s : But D G G') : But p H G' := fun b' o h1 h2 => s b' o (ne_of_none h2 n) (b b' o h1 h2)
theorem purse_off {p D : Addr} {c : Int} {G G' : Hp} (P : PurseAt G p c) (n : D ≠ p) (s : But D G G') : PurseAt G' p c := by
  obtain ⟨a, b, e, r⟩ := P.ex
  exact ⟨⟨a, b, s _ _ n.symm e, r⟩, P.c0⟩
section
variable {P : Program} {w : World} {K : PySem.W.Frag} {mg : Str → Option Value} {base : Heap}
abbrev nLot : List Str := ["purse", "many", "ends", "ordered_ends", "end", "spot", "found", "low", "high", "k", "one"]
theorem scLot : FnScope nLot ["purse"] (defScope lLot) := ⟨rfl, rfl, rfl, by decide +kernel, rfl, by decide +kernel, by decide +kernel⟩
theorem cl_lot (D : DefAt K mg "_law_lot" lLot) (B : Blt mg) (cD : Cl CX0 P w K mg base 2 "_law_draw" ["purse", "out_of"] spDraw) (cG : Cl CX0 P w K mg base 3 "_law_degree" ["purse"] (spDegL K)) (cL : Cl CX0 P w K mg base 1 "_law_less" ["u", "v"] (spLess K)) : Cl CX0 P w K mg base 4 "_law_lot" ["purse"] (spLot K) := by
  obtain ⟨f, fd, F, hm⟩ := D
  refine cl_of F hm (F.ok scLot (fun vs H Q E h => ?_) (fun cdv A outer s H vs Q E hr h => ⟨_, PSs.nox (pss_cons
      (ps_set (i := 1) scLot.nd rfl (Or.inl rfl) (pe_c0 cD hr (by decide) (by rfl) (pa_cons (pv 0) (pa_cons pe_int pa_nil))))
      (pss_cons (ps_setLc (i := 2) (own := [("k", 9)]) (g := gName 9) (tt := tYes) (by rfl) scLot.nd rfl rfl (sw_true rfl rfl rfl (by decide +kernel)) (pi_range1 (by rfl) B.range (pa_cons (pe_op op_mul pe_int (pv 1)) pa_nil)) (blkOk_by (N := nLot) (sc := defScope lLot) (by decide +kernel))
          (fun _ _ _ _ _ => pg_name (i := 9) scLot.nd rfl (Or.inl rfl)) (fun _ _ _ _ _ => pts_nil) (fun _ _ _ _ _ => pe_c0 cG hr (by decide) (by rfl) (pa_cons (pv 0) pa_nil)))
      (pss_cons (ps_set (i := 3) scLot.nd rfl (Or.inl rfl) (pe_lst pa_nil))
      (pss_cons (ps_for PassesOwn.never rfl (pi_list (pv 2)) (pg_name (i := 4) scLot.nd rfl (Or.inr rfl))
        (pss_cons (ps_set (i := 5) scLot.nd rfl (Or.inl rfl) (pe_callB call_len_seq (by rfl) B.len PySem.boot_len (pa_cons
            (pe_lc (own := [("one", 10)]) (g := gName 10) (tt := tB (tCall (spLess K) [] E0 (tCons (tVar 10) (tCons (tVar 4) tNil)))) (te := tVar 10) (by rfl) scLot.nd (pi_list (pv 3)) (blkOk_by (N := nLot) (sc := defScope lLot) (by decide +kernel))
              (fun _ _ _ _ _ => pg_name (i := 10) scLot.nd rfl (Or.inl rfl)) (fun _ _ _ _ _ => pts_one (pt_val (pe_c0 cL hr (by decide) (by rfl) (pa_cons (pv 10) (pa_cons (pv 4) pa_nil))))) (fun _ _ _ _ _ => pv 10)) pa_nil)))
        (pss_one (ps_if (pt_cmpR (op_notInD (units65 hr)) (pv 4) (pv 3) (by rfl))
          (pss_one (ps_set (i := 3) scLot.nd rfl (Or.inl rfl) (pe_op op_cat (pe_op op_cat (pe_slice sl_list (pv 3) po_none (po_some (pv 5))) (pe_lst (pa_cons (pv 4) pa_nil))) (pe_slice sl_list (pv 3) (po_some (pv 5)) po_none)))) pss_nil))))
      (pss_cons (ps_if (pt_cmpR op_eq (pe_c0 cD hr (by decide) (by rfl) (pa_cons (pv 0) (pa_cons pe_int pa_nil))) pe_int (nomark _))
        (pss_cons (ps_set (i := 3) scLot.nd rfl (Or.inl rfl) (pe_op op_cat (pe_op op_rep (pe_lst (pa_cons (pe_tup (pa_cons pe_int (pa_cons pe_int pa_nil))) pa_nil)) (pe_callTy call_int1 (by rfl) B.int (by decide +kernel) (pa_cons (pe_cmpR (op_notInD (units65 hr)) (pe_tup (pa_cons pe_int (pa_cons pe_int pa_nil))) (pv 3) (by rfl)) pa_nil))) (pv 3)))
        (pss_one (ps_set (i := 3) scLot.nd rfl (Or.inl rfl) (pe_op op_cat (pv 3) (pe_op op_rep (pe_lst (pa_cons (pe_tup (pa_cons pe_int (pa_cons pe_int pa_nil))) pa_nil)) (pe_callTy call_int1 (by rfl) B.int (by decide +kernel) (pa_cons (pe_cmpR (op_notInD (units65 hr)) (pe_tup (pa_cons pe_int (pa_cons pe_int pa_nil))) (pv 3) (by rfl)) pa_nil))))))) pss_nil)
      (pss_cons (ps_set (i := 6) scLot.nd rfl (Or.inl rfl) (pe_lst pa_nil))
      (pss_cons (ps_for PassesOwn.never rfl (pi_zip (by rfl) B.zip (pa_cons (pv 3) (pa_cons (pe_slice sl_list (pv 3) (po_some pe_int) po_none) pa_nil))) (pg_tup rfl (pgs_cons (pg_name (i := 7) scLot.nd rfl (Or.inl rfl)) (pgs_cons (pg_name (i := 8) scLot.nd rfl (Or.inl rfl)) pgs_nil)))
        (pss_one (ps_if (pt_cmpR op_gt (pe_c0 cD hr (by decide) (by rfl) (pa_cons (pv 0) (pa_cons pe_int pa_nil))) pe_int (nomark _))
          (pss_one (ps_expr (pe_bm PySem.F.plainAttrs_list PySem.F.slot_list_append PySem.F.type_list_append mt_append (pv 6) (pa_cons (pe_tup (pa_cons (pv 7) (pa_cons (pv 8) (pa_cons
            (pe_ix ix_list (pe_lst (pa_cons pe_str (pa_cons pe_str pa_nil))) (pe_c0 cD hr (by decide) (by rfl) (pa_cons (pv 0) (pa_cons pe_int pa_nil))) (fun _ _ => rfl)) pa_nil)))) pa_nil)))) pss_nil)))
      (pss_one (ps_ret (pv 6)))))))))), ?_⟩)) fun _ _ _ _ _ _ us hl => match us, hl with | [_], _ => rfl
  · obtain ⟨p, c, rfl, _⟩ := h
    rfl
  · obtain ⟨p, c, rfl, h⟩ := h
    have P0 := h.at_
    have c0 := h.lo
    -- count
    refine ⟨_, rfl, p, 3, c, rfl, P0, by omega, by decide, by decide, fun d1 c1 H1 a1 b1 k1 P1 B1 => ?_⟩
    refine gn1 (σ' := [some (.ref p), some (.int d1), none, none, none, none, none, none, none, none, none]) rfl ?_
    -- ends
    refine ⟨_, rfl, _, _, rfl, rfl, .inl ⟨by decide, by decide⟩, 2 * d1, rfl, by omega, by omega, fun D nD => ?_⟩
    have nDH : H D = none := P1.free B1 nD
    have nDp : D ≠ p := P1.at nD
    obtain ⟨m, hm, m4⟩ : ∃ m : Nat, (2 * d1).toNat = m ∧ m ≤ 4 := ⟨_, rfl, by omega⟩
    rw [hm]
    refine lc_range (lo := 0) (n := m) (fun i G => ∃ (c' : Int) (as : List Addr) (xs : List Rat), But p H G ∧ PurseAt G p c' ∧ c' ≤ c1 + 3 * i ∧ G D = some (.lst (as.map V.ref)) ∧ xs.length = i ∧ Paired (RtAt K (hide p G)) xs as ∧ Nice xs)
      ⟨c1, [], [], but_off nDH B1 but_upd, purse_off P1 nDp but_upd, by omega, upd_same, rfl, .nil, fun _ z => by cases z⟩ ?_ ?_
    · rintro i G hi ⟨c', as, xs, B, P', kc, fD, lx, pr, ni⟩
      refine ⟨rfl, yes_to ?_⟩
      rw [if_pos rfl]
      refine ⟨_, rfl, p, c', rfl, ⟨P', by omega, fun t x c2 G2 kc2 nx P2 B2 rt => ?_⟩⟩
      have fD2 : G2 D = some (.lst (as.map V.ref)) := B2 D _ nDp fD
      have fDh : hide p G2 D = some (.lst (as.map V.ref)) := (hide_ne nDp).trans fD2
      have la := paired_len pr
      refine ⟨_, fD2, by rw [List.length_map, sizeLine_eq]; omega, c2, as ++ [t], xs ++ [x], but_off nDH (B.trans B2) but_upd, purse_off P2 nDp but_upd, by omega, ?_, by rw [List.length_append, lx]; rfl, ?_, ?_⟩
      · rw [upd_same, List.map_append]
        rfl
      · exact rts_but (paired_snoc1 (rts_on pr B2.hide) rt) fDh (hide_but but_upd)
      · intro y hy
        rcases List.mem_append.mp hy with hy | hy
        · exact ni y hy
        · rw [List.mem_singleton] at hy
          rw [hy]
          exact nx
    rintro G2 ⟨c2, as, es, B2, P2, kc2, fD, les, pr, nes⟩
    refine gn1 (σ' := [some (.ref p), some (.int d1), some (.ref D), none, none, none, none, none, none, none, none]) rfl ?_
    -- ordered_ends
    refine ⟨(by show 0 ≤ sizeLine; decide), fun l3 n3 => ?_⟩
    obtain ⟨H3, e3, P3, B3, f3⟩ := mk_at (.lst []) P2 n3
    rw [e3]
    refine gn1 (σ' := [some (.ref p), some (.int d1), some (.ref D), some (.ref l3), none, none, none, none, none, none, none]) rfl ?_
    have fD3 : hide p H3 D = some (.lst (as.map V.ref)) := B3.hide _ _ ((hide_ne nDp).trans fD)
    have pr3 := rts_on pr B3.hide
    have la := paired_len pr
    refine ⟨_, rfl, D, rfl, ⟨_, SqL.of (hide_same _ _ fD3)⟩, for_list (xs := as.map V.ref) (fun i σ G => ∃ (a3 : Addr) (v4 v5 : Option V), σ = [some (.ref p), some (.int d1), some (.ref D), some (.ref a3), v4, v5, none, none, none, none, none] ∧ Same H3 G ∧ OrdAt K p G a3 (puts (es.take i)))
      ⟨l3, none, none, rfl, .refl _, ⟨[], f3, .nil⟩⟩ (fun i σ G _ h => ?_) ?_ ?_⟩
    · obtain ⟨_, _, _, _, s, _⟩ := h
      exact SqL.of (hide_same _ _ ((Same.but s).hide _ _ fD3))
    · rintro i v σ G hv ⟨a3, v4, v5, rfl, sG, O⟩
      obtain ⟨e, he, rfl⟩ := get_map hv
      obtain ⟨x, hx, rx3⟩ := pc_get pr3 he
      have hG := (Same.but (p := p) sG).hide
      have rx : RtAt K (hide p G) x e := rx3.on hG
      have nx := nes x (List.mem_of_getElem? hx)
      refine gn1 (σ' := [some (.ref p), some (.int d1), some (.ref D), some (.ref a3), some (.ref e), v5, none, none, none, none, none]) rfl ?_
      obtain ⟨xs, hxs⟩ : ∃ xs, puts (es.take i) = xs := ⟨_, rfl⟩
      have pn := puts_next hx
      have asc := puts_asc (es.take i)
      have nxs : Nice (puts (es.take i)) := puts_nice fun y hy => nes y (List.mem_of_mem_take hy)
      have lxs := puts_len (es.take i)
      rw [List.length_take] at lxs
      rw [hxs] at O pn asc nxs lxs
      obtain ⟨bs, hb, pb⟩ := O.ex
      have lb := paired_len pb
      have hbG := hide_same _ _ hb
      refine ⟨_, rfl, a3, rfl, ⟨_, SqL.of hbG⟩, fun D2 nD2 => ?_⟩
      refine lc_list (K := K) (a := a3) (xs := bs.map V.ref) (fun j G2 => Same G G2 ∧ ∃ vs, G2 D2 = some (.lst vs) ∧ vs.length = spot (xs.take j) x) ⟨same_at nD2 (Same.refl _), [], upd_same, by rw [List.take_zero]; rfl⟩ (fun j G2 _ h => SqL.of (h.1 _ _ hbG)) ?_ ?_
      · rintro j u G2 hu ⟨s2, vs, d2, lv⟩
        obtain ⟨b, hbj, rfl⟩ := get_map hu
        obtain ⟨y, hy, ry⟩ := pc_get pb hbj
        have ny := nxs y (List.mem_of_getElem? hy)
        have sn := spot_next (e := x) hy
        refine ⟨rfl, ?_⟩
        refine ⟨_, rfl, _, rfl, b, e, y, x, rfl, (ry.on hide_same).on s2, (rx.on hide_same).on s2, ny.2.2.mono (by decide), nx.2.2.mono (by decide), _, rfl, ?_⟩
        by_cases c : y < x
        · rw [decide_eq_true c]
          rw [if_pos c] at sn
          refine iteT ⟨_, rfl, _, d2, ?_, same_at nD2 s2, vs ++ [.ref b], upd_same, by rw [List.length_append, lv, sn]; rfl⟩
          have := spot_le (xs.take j) x
          rw [List.length_take] at this
          rw [lv, sizeLine_eq]
          omega
        · rw [decide_eq_false c]
          rw [if_neg c] at sn
          exact iteF ⟨s2, vs, d2, by rw [lv, sn]; rfl⟩
      · rintro G2 ⟨s2, vs, d2, lv⟩
        rw [List.length_map, ← lb, List.take_length] at lv
        refine ⟨D2, _, rfl, .inl (SqL.of d2), ?_⟩
        refine gn1 (σ' := [some (.ref p), some (.int d1), some (.ref D), some (.ref a3), some (.ref e), some (.int (spot xs x : Nat)), none, none, none, none, none]) (by rw [lv]; rfl) ?_
        have h2 := (Same.but (p := p) s2).hide
        have O2 := O.on h2
        have rx2 := rx.on h2
        refine ⟨_, rfl, _, rfl, dRt x, xs.map dRt, (rx2.on hide_same).dp, rev_dp O2, dRt_shp _, shp_list _, _, rfl, ?_⟩
        rw [any_mem]
        by_cases c : x ∈ xs
        · rw [decide_eq_true c]
          refine iteF ⟨a3, _, _, rfl, sG.trans s2, ?_⟩
          rw [pn]
          unfold JN.put
          rw [if_pos c]
          exact O2
        · rw [decide_eq_false c]
          have hb2 := s2 _ _ hbG
          have kle := spot_le xs x
          refine iteT ?_
          refine ⟨_, rfl, _, rfl, _, rfl, a3, _, rfl, SqL.of hb2, fun l1 m1 => ?_⟩
          rw [cut_to _ _ (by rw [List.length_map]; omega)]
          obtain ⟨J1, ej1, t1, g1⟩ := mk_s (.lst ((bs.map V.ref).take (spot xs x))) m1
          rw [ej1]
          refine ⟨_, rfl, (by show 1 ≤ sizeLine; decide), fun l2 m2 => ?_⟩
          obtain ⟨J2, ej2, t2, g2⟩ := mk_s (.lst [.ref e]) m2
          rw [ej2]
          refine ⟨l1, l2, _, _, rfl, rfl, t2 _ _ g1, g2, by rw [List.length_take, List.length_map, sizeLine_eq]; show _ + 1 ≤ _; omega, fun l4 m4 => ?_⟩
          obtain ⟨J3, ej3, t3, g3⟩ := mk_s (.lst ((bs.map V.ref).take (spot xs x) ++ [.ref e])) m4
          rw [ej3]
          refine ⟨_, rfl, _, rfl, _, rfl, a3, _, rfl, SqL.of (t3 _ _ (t2 _ _ (t1 _ _ hb2))), fun l5 m5 => ?_⟩
          rw [cut_from _ _ (by rw [List.length_map]; omega)]
          obtain ⟨J4, ej4, t4, g4⟩ := mk_s (.lst ((bs.map V.ref).drop (spot xs x))) m5
          rw [ej4]
          refine ⟨l4, l5, _, _, rfl, rfl, t4 _ _ g3, g4, by rw [List.length_append, List.length_take, List.length_drop, List.length_map, sizeLine_eq]; show _ + 1 + _ ≤ _; omega, fun l6 m6 => ?_⟩
          have P6 := (((((P3.same sG).same s2).same t1).same t2).same t3).same t4
          obtain ⟨J5, ej5, P7, B7, g5⟩ := mk_at (.lst (((bs.map V.ref).take (spot xs x) ++ [.ref e]) ++ (bs.map V.ref).drop (spot xs x))) P6 m6
          rw [ej5]
          have t14 := t1.trans (t2.trans (t3.trans t4))
          have t5 : Same J4 J5 := by
            rw [← ej5]
            exact fun b o q => (upd_ne (ne_of_none q m6)).trans q
          have hT := h2.trans (Same.but (p := p) (t14.trans t5)).hide
          refine ⟨l6, _, _, rfl, sG.trans (s2.trans (t14.trans t5)), ⟨bs.take (spot xs x) ++ [e] ++ bs.drop (spot xs x), ?_, ?_⟩⟩
          · rw [g5, List.map_append, List.map_append, List.map_take, List.map_drop]
            rfl
          · rw [pn]
            unfold JN.put
            rw [if_neg c]
            have pb5 := rts_on pb hT
            exact paired_app2 (paired_app2 (paired_take _ pb5) (.cons (rx.on hT) .nil)) (paired_drop _ pb5)
    · rintro σ G ⟨a3, v4, v5, rfl, sG, O⟩
      rw [List.length_map, ← la, List.take_length] at O
      have ascX := puts_asc es
      have niceX := puts_nice nes
      have lenX := puts_len es
      have P4 := P3.same sG
      have B4 : But p H G := B2.trans (B3.trans (but_same sG))
      refine ⟨_, rfl, p, 2, c2, rfl, P4, by omega, by decide, by decide, fun d6 c6 H6 a6 b6 k6 P6 B6 => ?_⟩
      have O6 := O.on B6.hide
      have B06 := B4.trans B6
      refine ⟨rfl, _, rfl, ?_⟩
      by_cases z6 : d6 = 0
      · rw [decide_eq_true (show V.int d6 = V.int 0 by rw [z6])]
        refine iteT ?_
        -- (0, 1)
        obtain ⟨bs, hb, pb⟩ := O6.ex
        have lb := paired_len pb
        refine ⟨(by show 2 ≤ sizeLine; decide), fun t1 n1 => ?_⟩
        obtain ⟨J1, ej1, PJ1, BJ1, g1⟩ := mk_at (.tup [.int 0, .int 1]) P6 n1
        rw [ej1]
        refine ⟨(by show 1 ≤ sizeLine; decide), fun l1 m1 => ?_⟩
        obtain ⟨J2, ej2, PJ2, BJ2, g2⟩ := mk_at (.lst [.ref t1]) PJ1 m1
        rw [ej2]
        refine ⟨(by show 2 ≤ sizeLine; decide), fun t2 n2 => ?_⟩
        obtain ⟨J3, ej3, PJ3, BJ3, g3⟩ := mk_at (.tup [.int 0, .int 1]) PJ2 n2
        rw [ej3]
        have S13 := BJ1.hide.trans (BJ2.hide.trans BJ3.hide)
        have O3 := O6.on S13
        have r1 : RtAt K (hide p J3) 0 t1 := SqT.of (BJ3.hide _ _ (BJ2.hide _ _ g1))
        have r2 : RtAt K (hide p J3) 0 t2 := SqT.of g3
        refine ⟨_, rfl, dRt 0, (puts es).map dRt, (r2.on hide_same).dp, rev_dp O3, dRt_shp _, shp_list _, .inr ⟨_, rfl, ?_⟩⟩
        rw [any_mem]
        refine ⟨l1, _, _, rfl, rfl, hide_same _ _ (BJ3.hide _ _ g2), by split <;> decide, by split <;> decide, by split; exact (by decide : 1 * 1 ≤ sizeLine); exact (by decide : 1 * 0 ≤ sizeLine), fun l2 m2 => ?_⟩
        obtain ⟨zl, hzl, hzr⟩ : ∃ zl : List Addr, (List.replicate (if (!decide ((0 : Rat) ∈ puts es)) = true then (1 : Int) else 0).toNat [V.ref t1]).flatten = zl.map V.ref ∧ Paired (RtAt K (hide p J3)) (if (0 : Rat) ∈ puts es then [] else [0]) zl := by
          by_cases c : (0 : Rat) ∈ puts es
          · exact ⟨[], by rw [decide_eq_true c]; rfl, by rw [if_pos c]; exact .nil⟩
          · exact ⟨[t1], by rw [decide_eq_false c]; rfl, by rw [if_neg c]; exact .cons r1 .nil⟩
        rw [hzl]
        obtain ⟨J4, ej4, PJ4, BJ4, g4⟩ := mk_at (.lst (zl.map V.ref)) PJ3 m2
        rw [ej4]
        have lz : zl.length ≤ 1 := by
          have := paired_len hzr
          split at this <;> simp at this <;> omega
        have S4 := S13.trans BJ4.hide
        refine ⟨_, rfl, l2, a3, _, _, rfl, rfl, hide_same _ _ g4, hide_same _ _ (S4 _ _ hb), by rw [List.length_map, List.length_map, sizeLine_eq]; omega, fun l3' m3 => ?_⟩
        obtain ⟨J5, ej5, PJ5, BJ5, g5⟩ := mk_at (.lst (zl.map V.ref ++ bs.map V.ref)) PJ4 m3
        rw [ej5]
        have S5 := S4.trans BJ5.hide
        have O5 : OrdAt K p J5 l3' (withZero (puts es)) := ⟨zl ++ bs, by rw [g5, List.map_append], paired_app2 (rts_on hzr (BJ4.hide.trans BJ5.hide)) (rts_on pb S5)⟩
        have asc0 := withZero_asc ascX niceX
        have nice0 := withZero_nice niceX
        have len0 := withZero_len (puts es)
        refine gn1 (σ' := [some (.ref p), some (.int d1), some (.ref D), some (.ref l3'), v4, v5, none, none, none, none, none]) rfl ?_
        obtain ⟨xs, hxs⟩ : ∃ xs, withZero (puts es) = xs := ⟨_, rfl⟩
        rw [hxs] at O5 asc0 nice0 len0
        -- (1, 1)
        obtain ⟨ds, hd, pd⟩ := O5.ex
        have ld := paired_len pd
        refine ⟨_, rfl, (by show 2 ≤ sizeLine; decide), fun t5 n5 => ?_⟩
        obtain ⟨L1, el1, PL1, BL1, u1⟩ := mk_at (.tup [.int 1, .int 1]) PJ5 n5
        rw [el1]
        refine ⟨(by show 1 ≤ sizeLine; decide), fun l5 m5 => ?_⟩
        obtain ⟨L2, el2, PL2, BL2, u2⟩ := mk_at (.lst [.ref t5]) PL1 m5
        rw [el2]
        refine ⟨(by show 2 ≤ sizeLine; decide), fun t6 n6 => ?_⟩
        obtain ⟨L3, el3, PL3, BL3, u3⟩ := mk_at (.tup [.int 1, .int 1]) PL2 n6
        rw [el3]
        have U13 := BL1.hide.trans (BL2.hide.trans BL3.hide)
        have OL3 := O5.on U13
        have w1 : RtAt K (hide p L3) 1 t5 := SqT.of (BL3.hide _ _ (BL2.hide _ _ u1))
        have w2 : RtAt K (hide p L3) 1 t6 := SqT.of u3
        refine ⟨_, rfl, dRt 1, xs.map dRt, (w2.on hide_same).dp, rev_dp OL3, dRt_shp _, shp_list _, .inr ⟨_, rfl, ?_⟩⟩
        rw [any_mem]
        refine ⟨l5, _, _, rfl, rfl, hide_same _ _ (BL3.hide _ _ u2), by split <;> decide, by split <;> decide, by split; exact (by decide : 1 * 1 ≤ sizeLine); exact (by decide : 1 * 0 ≤ sizeLine), fun l6 m6 => ?_⟩
        obtain ⟨ol, hol, hor⟩ : ∃ ol : List Addr, (List.replicate (if (!decide ((1 : Rat) ∈ xs)) = true then (1 : Int) else 0).toNat [V.ref t5]).flatten = ol.map V.ref ∧ Paired (RtAt K (hide p L3)) (if (1 : Rat) ∈ xs then [] else [1]) ol := by
          by_cases c : (1 : Rat) ∈ xs
          · exact ⟨[], by rw [decide_eq_true c]; rfl, by rw [if_pos c]; exact .nil⟩
          · exact ⟨[t5], by rw [decide_eq_false c]; rfl, by rw [if_neg c]; exact .cons w1 .nil⟩
        rw [hol]
        obtain ⟨L4, el4, PL4, BL4, u4⟩ := mk_at (.lst (ol.map V.ref)) PL3 m6
        rw [el4]
        have lo' : ol.length ≤ 1 := by
          have := paired_len hor
          split at this <;> simp at this <;> omega
        have U4 := U13.trans BL4.hide
        refine ⟨l3', l6, _, _, rfl, rfl, hide_same _ _ (U4 _ _ hd), hide_same _ _ u4, by rw [List.length_map, List.length_map, sizeLine_eq]; omega, fun aZ m7 => ?_⟩
        obtain ⟨GZ, eGZ, PZ, BZ0, gz⟩ := mk_at (.lst (ds.map V.ref ++ ol.map V.ref)) PL4 m7
        rw [eGZ]
        have U5 := U4.trans BZ0.hide
        have OZ : OrdAt K p GZ aZ (withOne xs) := ⟨ds ++ ol, by rw [gz, List.map_append], paired_app2 (rts_on pd U5) (rts_on hor (BL4.hide.trans BZ0.hide))⟩
        have ascZ := withOne_asc asc0 nice0
        have niceZ := withOne_nice nice0
        have lenZ := withOne_len xs
        obtain ⟨zs, hzs⟩ : ∃ zs, withOne xs = zs := ⟨_, rfl⟩
        rw [hzs] at OZ ascZ niceZ lenZ
        have lenZ6 : zs.length ≤ 6 := by omega
        have BZ : But p H GZ := B06.trans (BJ1.trans (BJ2.trans (BJ3.trans (BJ4.trans (BJ5.trans (BL1.trans (BL2.trans (BL3.trans (BL4.trans BZ0)))))))))
        obtain ⟨cZ, hcZ, kZ⟩ : ∃ cZ, c6 = cZ ∧ cZ ≤ c + 14 := ⟨_, rfl, by omega⟩
        rw [hcZ] at PZ
        refine gn1 (σ' := [some (.ref p), some (.int d1), some (.ref D), some (.ref aZ), v4, v5, none, none, none, none, none]) rfl ?_
        -- found
        refine ⟨(by show 0 ≤ sizeLine; decide), fun l9 n9 => ?_⟩
        obtain ⟨F0, ef0, PF, BF, ff⟩ := mk_at (.lst []) PZ n9
        rw [ef0]
        have sF : Same GZ F0 := by
          rw [← ef0]
          exact fun b o q => (upd_ne (ne_of_none q n9)).trans q
        obtain ⟨bs, hbs, pbs⟩ := (OZ.on BF.hide).ex
        have lbs := paired_len pbs
        have n9H : H l9 = none := PZ.free BZ n9
        have n9p : l9 ≠ p := PZ.at n9
        have n9a : aZ ≠ l9 := by
          obtain ⟨b0, h0, _⟩ := OZ.ex
          exact ne_of_none (hide_at h0).2 n9
        refine ⟨_, rfl, _, rfl, _, rfl, aZ, _, rfl, SqL.of (hide_same _ _ hbs), fun l10 n10 => ?_⟩
        by_cases long : 1 ≤ (bs.map V.ref).length
        · rw [show cutV (bs.map V.ref) (some 1) none = (bs.map V.ref).drop 1 from cut_from _ 1 long]
          obtain ⟨F1, ef1, PF1, BF1, ff1⟩ := mk_at (.lst ((bs.map V.ref).drop 1)) PF n10
          rw [ef1]
          have n910 : l9 ≠ l10 := ne_of_none (hide_same _ _ ff) n10
          have hbs1 := BF1.hide _ _ hbs
          have ff' := (hide_at (BF1.hide _ _ ff)).2
          have n10p : l10 ≠ p := PF.at n10
          refine ⟨aZ, l10, _, _, rfl, SqL.of (hide_same _ _ hbs1), SqL.of (hide_same _ _ ff1), ?_⟩
          refine for_it (walk_zip (K := K) (a := aZ) (b := l10) (xs := bs.map V.ref) (ys := (bs.map V.ref).drop 1) rfl) (fun i σ G => ∃ (c' : Int) (fs : List Addr) (ps : List Pc) (v7 v8 : Option V), σ = [some (.ref p), some (.int d1), some (.ref D), some (.ref aZ), v4, v5, some (.ref l9), v7, v8, none, none] ∧ But p H G ∧ PurseAt G p c' ∧ c' ≤ cZ + 2 * i ∧
              hide p G aZ = some (.lst (bs.map V.ref)) ∧ hide p G l10 = some (.lst ((bs.map V.ref).drop 1)) ∧ Paired (RtAt K (hide p G)) zs bs ∧ G l9 = some (.lst (fs.map V.ref)) ∧ Paired (PcAt K (hide p G)) ps fs ∧ Between zs i ps)
            ⟨cZ, [], [], none, none, rfl, BZ.trans (BF.trans BF1), PF1, by omega, hbs1, ff1, rts_on pbs BF1.hide, ff', .nil, Between.zero _⟩ (fun i σ G _ h => ?_) ?_ ?_
          · obtain ⟨_, _, _, _, _, _, _, _, _, h1, h2, _⟩ := h
            exact ⟨SqL.of (hide_same _ _ h1), SqL.of (hide_same _ _ h2)⟩
          · rintro i v σ G G' hi ⟨c', fs, ps, v7, v8, rfl, BG, PG, kc, q1, q2, q3, q4, q5, q6⟩ ⟨T1, x, y, rfl, nT, rfl, hx, hy⟩
            have hi6 : i < 6 := by
              rw [List.length_map, List.length_drop, List.length_map] at hi
              omega
            obtain ⟨b1', hb1, rfl⟩ := get_map hx
            have hy' : (bs.map V.ref)[i + 1]? = some y := by
              have z : ((bs.map V.ref).drop 1)[i]? = some y := hy
              rw [List.getElem?_drop, Nat.add_comm] at z
              exact z
            obtain ⟨b2', hb2, rfl⟩ := get_map hy'
            obtain ⟨rx, hrx, rtx⟩ := pc_get q3 hb1
            obtain ⟨ry, hry, rty⟩ := pc_get q3 hb2
            obtain ⟨G1, eg1, PG1, BG1, g1⟩ := mk_at (.tup [.ref b1', .ref b2']) PG nT
            rw [eg1]
            refine ⟨T1, _, rfl, SqT.of (hide_same _ _ g1), rfl, _, _, rfl, _, [], rfl, rfl, ?_⟩
            refine ⟨_, rfl, p, 4, c', rfl, PG1, by omega, by decide, by decide, fun d5 c5 G2 a5 b5 k5 PG2 BG2 => ?_⟩
            refine ⟨_, _, rfl, rfl, _, rfl, ?_⟩
            have S12 := BG1.hide.trans BG2.hide
            by_cases c : d5 > 0
            · rw [decide_eq_true c]
              refine iteT ?_
              have fl2 : G2 l9 = some (.lst (fs.map V.ref)) := BG2 _ _ n9p (BG1 _ _ n9p q4)
              refine ⟨_, rfl, .inl ⟨rfl, _, SqL.of fl2⟩, _, rfl, _, rfl, (by show 2 ≤ sizeLine; decide), fun l11 n11 => ?_⟩
              obtain ⟨G3, eg3, PG3, BG3, g3⟩ := mk_at (.lst [.str "sum", .str "product"]) PG2 n11
              rw [eg3]
              refine ⟨_, rfl, p, 2, c5, rfl, PG3, by omega, by decide, by decide, fun d6 c6 G4 a6 b6 k6 PG4 BG4 => ?_⟩
              obtain ⟨kk, hkk⟩ : ∃ kk : Bool, atI [V.str "sum", .str "product"] d6 = some (.str (kindS kk)) := by
                have hd : d6 = 0 ∨ d6 = 1 := by omega
                rcases hd with rfl | rfl
                · exact ⟨true, rfl⟩
                · exact ⟨false, rfl⟩
              refine ⟨l11, _, _, _, rfl, rfl, SqL.of (hide_same _ _ (BG4.hide _ _ g3)), hkk, ?_⟩
              refine ⟨(by show 3 ≤ sizeLine; decide), fun t12 n12 => ?_⟩
              obtain ⟨G5, eg5, PG5, BG5, g5⟩ := mk_at (.tup [.ref b1', .ref b2', .str (kindS kk)]) PG4 n12
              rw [eg5]
              have S25 := BG3.hide.trans (BG4.hide.trans BG5.hide)
              have S15 := S12.trans S25
              have fl5 : G5 l9 = some (.lst (fs.map V.ref)) := (hide_at (S25 _ _ ((hide_ne n9p).trans fl2))).2
              have fl5h : hide p G5 l9 = some (.lst (fs.map V.ref)) := (hide_ne n9p).trans fl5
              have lf := paired_len q5
              refine ⟨l9, _, _, rfl, rfl, fl5, ?_, ?_⟩
              · have := q6.few
                rw [List.length_map, sizeLine_eq]
                omega
              have pn : PcAt K (hide p G5) ⟨rx, ry, kk⟩ t12 := ⟨b1', b2', SqT.of g5, rtx.on S15, rty.on S15⟩
              refine ⟨c6, fs ++ [t12], ps ++ [⟨rx, ry, kk⟩], _, _, rfl, but_off n9H (BG.trans (BG1.trans (BG2.trans (BG3.trans (BG4.trans BG5))))) but_upd, purse_off PG5 n9p but_upd, by omega, ?_, ?_, ?_, ?_, ?_, q6.more ascZ niceZ hrx hry⟩
              · exact hide_but but_upd _ _ n9a (S15 _ _ q1)
              · exact hide_but but_upd _ _ n910.symm (S15 _ _ q2)
              · exact rts_but (rts_on q3 S15) fl5h (hide_but but_upd)
              · rw [upd_same, List.map_append]
                rfl
              · exact pcs_but (paired_snoc1 (paired_imp (fun _ _ z => z.on S15) q5) pn) fl5h (hide_but but_upd)
            · rw [decide_eq_false c]
              refine iteF ⟨c5, fs, ps, _, _, rfl, BG.trans (BG1.trans BG2), PG2, by omega, S12 _ _ q1, S12 _ _ q2, rts_on q3 S12, BG2 _ _ n9p (BG1 _ _ n9p q4), paired_imp (fun _ _ z => z.on S12) q5, q6.skip ascZ⟩
          · rintro σ G ⟨c', fs, ps, v7, v8, rfl, BG, PG, kc, q1, q2, q3, q4, q5, q6⟩
            have few : (min (bs.map V.ref).length ((bs.map V.ref).drop 1).length) ≤ 5 := by
              rw [List.length_drop, List.length_map]
              omega
            refine ⟨_, rfl, h.fin l9 fs ps c' G (by omega) n9H q4 q5 q6.row ?_ q6.sz PG BG⟩
            have := q6.few
            omega
        · have e0 : bs = [] := by
            cases bs with
            | nil => rfl
            | cons a r => exact absurd (by simp) long
          subst e0
          obtain ⟨F1, ef1, PF1, BF1, ff1⟩ := mk_at (.lst (cutV (([] : List Addr).map V.ref) (some 1) none)) PF n10
          rw [ef1]
          have ec : cutV (([] : List Addr).map V.ref) (some 1) none = [] := rfl
          rw [ec] at ff1
          refine ⟨aZ, l10, _, _, rfl, SqL.of (hide_same _ _ (BF1.hide _ _ hbs)), SqL.of (hide_same _ _ ff1), ?_⟩
          refine for_it (walk_zip (K := K) (a := aZ) (b := l10) (xs := ([] : List Addr).map V.ref) (ys := []) (n := 0) rfl) (fun i σ G => σ = [some (.ref p), some (.int d1), some (.ref D), some (.ref aZ), v4, v5, some (.ref l9), none, none, none, none] ∧ G = F1)
            ⟨rfl, rfl⟩ (fun i σ G _ h => ?_) (fun i v σ G G' hi => absurd hi (Nat.not_lt_zero _)) ?_
          · rw [h.2]
            exact ⟨SqL.of (hide_same _ _ (BF1.hide _ _ hbs)), SqL.of (hide_same _ _ ff1)⟩
          · rintro σ G ⟨rfl, rfl⟩
            exact ⟨_, rfl, h.fin l9 [] [] cZ _ (by omega) n9H (hide_at (BF1.hide _ _ ff)).2 .nil ⟨(fun _ z => nomatch z), List.Pairwise.nil⟩ (by decide) (fun _ z => nomatch z) PF1 (BZ.trans (BF.trans BF1))⟩
      · rw [decide_eq_false (show ¬ V.int d6 = V.int 0 from fun e => z6 (by injection e))]
        refine iteF ?_
        have ascZ := ascX
        have niceZ := niceX
        obtain ⟨zs, hzs⟩ : ∃ zs, puts es = zs := ⟨_, rfl⟩
        rw [hzs] at O6 ascZ niceZ lenX
        have lenZ6 : zs.length ≤ 6 := by omega
        have kZ : c6 ≤ c + 14 := by omega
        -- found
        refine ⟨(by show 0 ≤ sizeLine; decide), fun l9 n9 => ?_⟩
        obtain ⟨F0, ef0, PF, BF, ff⟩ := mk_at (.lst []) P6 n9
        rw [ef0]
        have sF : Same H6 F0 := by
          rw [← ef0]
          exact fun b o q => (upd_ne (ne_of_none q n9)).trans q
        obtain ⟨bs, hbs, pbs⟩ := (O6.on BF.hide).ex
        have lbs := paired_len pbs
        have n9H : H l9 = none := P6.free B06 n9
        have n9p : l9 ≠ p := P6.at n9
        have n9a : a3 ≠ l9 := by
          obtain ⟨b0, h0, _⟩ := O6.ex
          exact ne_of_none (hide_at h0).2 n9
        refine ⟨_, rfl, _, rfl, _, rfl, a3, _, rfl, SqL.of (hide_same _ _ hbs), fun l10 n10 => ?_⟩
        by_cases long : 1 ≤ (bs.map V.ref).length
        · rw [show cutV (bs.map V.ref) (some 1) none = (bs.map V.ref).drop 1 from cut_from _ 1 long]
          obtain ⟨F1, ef1, PF1, BF1, ff1⟩ := mk_at (.lst ((bs.map V.ref).drop 1)) PF n10
          rw [ef1]
          have n910 : l9 ≠ l10 := ne_of_none (hide_same _ _ ff) n10
          have hbs1 := BF1.hide _ _ hbs
          have ff' := (hide_at (BF1.hide _ _ ff)).2
          have n10p : l10 ≠ p := PF.at n10
          refine ⟨a3, l10, _, _, rfl, SqL.of (hide_same _ _ hbs1), SqL.of (hide_same _ _ ff1), ?_⟩
          refine for_it (walk_zip (K := K) (a := a3) (b := l10) (xs := bs.map V.ref) (ys := (bs.map V.ref).drop 1) rfl) (fun i σ G => ∃ (c' : Int) (fs : List Addr) (ps : List Pc) (v7 v8 : Option V), σ = [some (.ref p), some (.int d1), some (.ref D), some (.ref a3), v4, v5, some (.ref l9), v7, v8, none, none] ∧ But p H G ∧ PurseAt G p c' ∧ c' ≤ c6 + 2 * i ∧
              hide p G a3 = some (.lst (bs.map V.ref)) ∧ hide p G l10 = some (.lst ((bs.map V.ref).drop 1)) ∧ Paired (RtAt K (hide p G)) zs bs ∧ G l9 = some (.lst (fs.map V.ref)) ∧ Paired (PcAt K (hide p G)) ps fs ∧ Between zs i ps)
            ⟨c6, [], [], none, none, rfl, B06.trans (BF.trans BF1), PF1, by omega, hbs1, ff1, rts_on pbs BF1.hide, ff', .nil, Between.zero _⟩ (fun i σ G _ h => ?_) ?_ ?_
          · obtain ⟨_, _, _, _, _, _, _, _, _, h1, h2, _⟩ := h
            exact ⟨SqL.of (hide_same _ _ h1), SqL.of (hide_same _ _ h2)⟩
          · rintro i v σ G G' hi ⟨c', fs, ps, v7, v8, rfl, BG, PG, kc, q1, q2, q3, q4, q5, q6⟩ ⟨T1, x, y, rfl, nT, rfl, hx, hy⟩
            have hi6 : i < 6 := by
              rw [List.length_map, List.length_drop, List.length_map] at hi
              omega
            obtain ⟨b1', hb1, rfl⟩ := get_map hx
            have hy' : (bs.map V.ref)[i + 1]? = some y := by
              have z : ((bs.map V.ref).drop 1)[i]? = some y := hy
              rw [List.getElem?_drop, Nat.add_comm] at z
              exact z
            obtain ⟨b2', hb2, rfl⟩ := get_map hy'
            obtain ⟨rx, hrx, rtx⟩ := pc_get q3 hb1
            obtain ⟨ry, hry, rty⟩ := pc_get q3 hb2
            obtain ⟨G1, eg1, PG1, BG1, g1⟩ := mk_at (.tup [.ref b1', .ref b2']) PG nT
            rw [eg1]
            refine ⟨T1, _, rfl, SqT.of (hide_same _ _ g1), rfl, _, _, rfl, _, [], rfl, rfl, ?_⟩
            refine ⟨_, rfl, p, 4, c', rfl, PG1, by omega, by decide, by decide, fun d5 c5 G2 a5 b5 k5 PG2 BG2 => ?_⟩
            refine ⟨_, _, rfl, rfl, _, rfl, ?_⟩
            have S12 := BG1.hide.trans BG2.hide
            by_cases c : d5 > 0
            · rw [decide_eq_true c]
              refine iteT ?_
              have fl2 : G2 l9 = some (.lst (fs.map V.ref)) := BG2 _ _ n9p (BG1 _ _ n9p q4)
              refine ⟨_, rfl, .inl ⟨rfl, _, SqL.of fl2⟩, _, rfl, _, rfl, (by show 2 ≤ sizeLine; decide), fun l11 n11 => ?_⟩
              obtain ⟨G3, eg3, PG3, BG3, g3⟩ := mk_at (.lst [.str "sum", .str "product"]) PG2 n11
              rw [eg3]
              refine ⟨_, rfl, p, 2, c5, rfl, PG3, by omega, by decide, by decide, fun d6 c6 G4 a6 b6 k6 PG4 BG4 => ?_⟩
              obtain ⟨kk, hkk⟩ : ∃ kk : Bool, atI [V.str "sum", .str "product"] d6 = some (.str (kindS kk)) := by
                have hd : d6 = 0 ∨ d6 = 1 := by omega
                rcases hd with rfl | rfl
                · exact ⟨true, rfl⟩
                · exact ⟨false, rfl⟩
              refine ⟨l11, _, _, _, rfl, rfl, SqL.of (hide_same _ _ (BG4.hide _ _ g3)), hkk, ?_⟩
              refine ⟨(by show 3 ≤ sizeLine; decide), fun t12 n12 => ?_⟩
              obtain ⟨G5, eg5, PG5, BG5, g5⟩ := mk_at (.tup [.ref b1', .ref b2', .str (kindS kk)]) PG4 n12
              rw [eg5]
              have S25 := BG3.hide.trans (BG4.hide.trans BG5.hide)
              have S15 := S12.trans S25
              have fl5 : G5 l9 = some (.lst (fs.map V.ref)) := (hide_at (S25 _ _ ((hide_ne n9p).trans fl2))).2
              have fl5h : hide p G5 l9 = some (.lst (fs.map V.ref)) := (hide_ne n9p).trans fl5
              have lf := paired_len q5
              refine ⟨l9, _, _, rfl, rfl, fl5, ?_, ?_⟩
              · have := q6.few
                rw [List.length_map, sizeLine_eq]
                omega
              have pn : PcAt K (hide p G5) ⟨rx, ry, kk⟩ t12 := ⟨b1', b2', SqT.of g5, rtx.on S15, rty.on S15⟩
              refine ⟨c6, fs ++ [t12], ps ++ [⟨rx, ry, kk⟩], _, _, rfl, but_off n9H (BG.trans (BG1.trans (BG2.trans (BG3.trans (BG4.trans BG5))))) but_upd, purse_off PG5 n9p but_upd, by omega, ?_, ?_, ?_, ?_, ?_, q6.more ascZ niceZ hrx hry⟩
              · exact hide_but but_upd _ _ n9a (S15 _ _ q1)
              · exact hide_but but_upd _ _ n910.symm (S15 _ _ q2)
              · exact rts_but (rts_on q3 S15) fl5h (hide_but but_upd)
              · rw [upd_same, List.map_append]
                rfl
              · exact pcs_but (paired_snoc1 (paired_imp (fun _ _ z => z.on S15) q5) pn) fl5h (hide_but but_upd)
            · rw [decide_eq_false c]
              refine iteF ⟨c5, fs, ps, _, _, rfl, BG.trans (BG1.trans BG2), PG2, by omega, S12 _ _ q1, S12 _ _ q2, rts_on q3 S12, BG2 _ _ n9p (BG1 _ _ n9p q4), paired_imp (fun _ _ z => z.on S12) q5, q6.skip ascZ⟩
          · rintro σ G ⟨c', fs, ps, v7, v8, rfl, BG, PG, kc, q1, q2, q3, q4, q5, q6⟩
            have few : (min (bs.map V.ref).length ((bs.map V.ref).drop 1).length) ≤ 5 := by
              rw [List.length_drop, List.length_map]
              omega
            refine ⟨_, rfl, h.fin l9 fs ps c' G (by omega) n9H q4 q5 q6.row ?_ q6.sz PG BG⟩
            have := q6.few
            omega
        · have e0 : bs = [] := by
            cases bs with
            | nil => rfl
            | cons a r => exact absurd (by simp) long
          subst e0
          obtain ⟨F1, ef1, PF1, BF1, ff1⟩ := mk_at (.lst (cutV (([] : List Addr).map V.ref) (some 1) none)) PF n10
          rw [ef1]
          have ec : cutV (([] : List Addr).map V.ref) (some 1) none = [] := rfl
          rw [ec] at ff1
          refine ⟨a3, l10, _, _, rfl, SqL.of (hide_same _ _ (BF1.hide _ _ hbs)), SqL.of (hide_same _ _ ff1), ?_⟩
          refine for_it (walk_zip (K := K) (a := a3) (b := l10) (xs := ([] : List Addr).map V.ref) (ys := []) (n := 0) rfl) (fun i σ G => σ = [some (.ref p), some (.int d1), some (.ref D), some (.ref a3), v4, v5, some (.ref l9), none, none, none, none] ∧ G = F1)
            ⟨rfl, rfl⟩ (fun i σ G _ h => ?_) (fun i v σ G G' hi => absurd hi (Nat.not_lt_zero _)) ?_
          · rw [h.2]
            exact ⟨SqL.of (hide_same _ _ (BF1.hide _ _ hbs)), SqL.of (hide_same _ _ ff1)⟩
          · rintro σ G ⟨rfl, rfl⟩
            exact ⟨_, rfl, h.fin l9 [] [] c6 _ (by omega) n9H (hide_at (BF1.hide _ _ ff)).2 .nil ⟨(fun _ z => nomatch z), List.Pairwise.nil⟩ (by decide) (fun _ z => nomatch z) PF1 (B06.trans (BF.trans BF1))⟩
end
end G1
set_option maxHeartbeats 8000000
namespace G1
open PySem PySem.Spec PyProof.Rows L2 JN
/-! ### is_below, pieces -/
theorem rt_deg {K : PySem.W.Frag} {H : Hp} {t : Addr} {x : Rat} (h : RtAt K H x t) (h0 : 0 ≤ x) (h1 : x ≤ 1) : IsDeg K H (.ref t) true := by
  obtain ⟨n0, n1⟩ := unit_nat h0 h1
  have d0 := den_pos x
  have e : degOf [.int x.num, .int (x.den : Int)] = true := by
    have e1 : decide ((1 : Int) ≤ (x.den : Int)) = true := decide_eq_true (by omega)
    have e2 : decide ((0 : Int) ≤ x.num) = true := decide_eq_true n0
    have e3 : decide (x.num ≤ (x.den : Int)) = true := decide_eq_true n1
    have e4 : decide (Nat.gcd x.num.natAbs ((x.den : Int)).natAbs = 1) = true := decide_eq_true (by rw [pos_abs]; exact x.reduced)
    show (decide ((1 : Int) ≤ (x.den : Int)) && (decide ((0 : Int) ≤ x.num) && decide (x.num ≤ (x.den : Int))) && decide (Nat.gcd x.num.natAbs ((x.den : Int)).natAbs = 1)) = true
    rw [e1, e2, e3, e4]
    rfl
  have g := IsDeg.tup (K := K) (H := H) h (fun z hz => by
    simp only [List.mem_cons, List.not_mem_nil, or_false] at hz
    rcases hz with rfl | rfl
    · trivial
    · trivial)
  rw [e] at g
  exact g
section
variable {P : Program} {w : World} {K : PySem.W.Frag} {mg : Str → Option Value} {base : Heap}
theorem scIsBelow : FnScope ["x", "y"] ["x", "y"] (defScope sIsBelow) := ⟨rfl, rfl, rfl, by decide +kernel, rfl, by decide +kernel, by decide +kernel⟩
theorem cl_below (D : DefAt K mg "is_below" sIsBelow) : Cl CX0 P w K mg base 1 "is_below" ["x", "y"] (spLess K) := by
  obtain ⟨f, fd, F, hm⟩ := D
  refine cl_of F hm (F.ok scIsBelow (fun vs H Q E h => ?_) (fun cdv A outer s H vs Q E hr h => ⟨_, PSs.nox
      (pss_one (ps_ret (pe_cmpR op_lt (pe_op op_mulW (pe_ix ix_tup (pv 0) pe_int (fun _ _ => rfl)) (pe_ix ix_tup (pv 1) pe_int (fun _ _ => rfl))) (pe_op op_mulW (pe_ix ix_tup (pv 1) pe_int (fun _ _ => rfl)) (pe_ix ix_tup (pv 0) pe_int (fun _ _ => rfl))) (nomark _)))), ?_⟩)) fun _ _ _ _ _ _ us hl => match us, hl with | [_, _], _ => rfl
  · obtain ⟨t, u, x, y, rfl, _⟩ := h
    rfl
  · obtain ⟨t, u, x, y, rfl, ht, hu, sx, sy, q⟩ := h
    refine ⟨_, rfl, t, _, _, _, rfl, rfl, ht, rfl, _, rfl, u, _, _, _, rfl, rfl, hu, rfl, _, _, rfl, rfl, mulW_ok sx.top (by rw [pos_abs]; exact sy.bot), ?_⟩
    refine ⟨_, rfl, u, _, _, _, rfl, rfl, hu, rfl, _, rfl, t, _, _, _, rfl, rfl, ht, rfl, _, _, rfl, rfl, mulW_ok sy.top (by rw [pos_abs]; exact sx.bot), _, _, rfl, rfl, ?_⟩
    show Q (.bl (decide (x.num * (y.den : Int) < y.num * (x.den : Int)))) H
    rw [lt_cross]
    exact q
/-! ### _overlap, _is_piece -/
def PcsAt (K : PySem.W.Frag) (H : Hp) (ps : List Pc) (as : List Addr) : Prop := Paired (PcAt K H) ps as
def spOverlap (K : PySem.W.Frag) : Sp := fun vs H Q _ => ∃ (a b : Addr) (p q : Pc), vs = [.ref a, .ref b] ∧ PcAt K H p a ∧ PcAt K H q b ∧ PSz 8000 p ∧ PSz 8000 q ∧ Q (.bl (decide (p.lo < q.hi ∧ q.lo < p.hi))) H
theorem scOverlap : FnScope ["piece", "other"] ["piece", "other"] (defScope sOverlap) := ⟨rfl, rfl, rfl, by decide +kernel, rfl, by decide +kernel, by decide +kernel⟩
theorem cl_overlap (D : DefAt K mg "_overlap" sOverlap) (cB : Cl CX0 P w K mg base 1 "is_below" ["x", "y"] (spLess K)) : Cl CX0 P w K mg base 2 "_overlap" ["piece", "other"] (spOverlap K) := by
  obtain ⟨f, fd, F, hm⟩ := D
  refine cl_of F hm (F.ok scOverlap (fun vs H Q E h => ?_) (fun cdv A outer s H vs Q E hr h => ⟨_, PSs.nox
      (pss_one (ps_ret (pe_and (pe_c0 cB hr (by decide) (by rfl) (pa_cons (pe_ix ix_tup (pv 0) pe_int (fun _ _ => rfl)) (pa_cons (pe_ix ix_tup (pv 1) pe_int (fun _ _ => rfl)) pa_nil)))
        (pe_one (pe_c0 cB hr (by decide) (by rfl) (pa_cons (pe_ix ix_tup (pv 1) pe_int (fun _ _ => rfl)) (pa_cons (pe_ix ix_tup (pv 0) pe_int (fun _ _ => rfl)) pa_nil))))))), ?_⟩)) fun _ _ _ _ _ _ us hl => match us, hl with | [_, _], _ => rfl
  · obtain ⟨a, b, p, q, rfl, _⟩ := h
    rfl
  · obtain ⟨a, b, p, q, rfl, ⟨l1, h1, e1, r1, r2⟩, ⟨l2, h2, e2, r3, r4⟩, z1, z2, fin⟩ := h
    refine ⟨_, rfl, a, _, _, _, rfl, rfl, e1, rfl, _, rfl, b, _, _, _, rfl, rfl, e2, rfl, l1, h2, p.lo, q.hi, rfl, r1, r4, z1.1, z2.2, _, rfl, ?_⟩
    by_cases c : p.lo < q.hi
    · rw [decide_eq_true c]
      refine iteT ⟨_, rfl, b, _, _, _, rfl, rfl, e2, rfl, _, rfl, a, _, _, _, rfl, rfl, e1, rfl, l2, h1, q.lo, p.hi, rfl, r3, r2, z2.1, z1.2, ?_⟩
      have e : decide (q.lo < p.hi) = decide (p.lo < q.hi ∧ q.lo < p.hi) := decide_eq_decide.mpr ⟨fun z => ⟨c, z⟩, fun z => z.2⟩
      rw [e]
      exact fin
    · rw [decide_eq_false c]
      refine iteF ?_
      rw [decide_eq_false (fun z : p.lo < q.hi ∧ q.lo < p.hi => c z.1)] at fin
      exact fin
def spIsPiece (K : PySem.W.Frag) : Sp := fun vs H Q _ => ∃ (a : Addr) (p : Pc), vs = [.ref a] ∧ PcAt K H p a ∧ p.ok ∧ PSz 8000 p ∧ ∀ H', Same H H' → Q (.bl true) H'
theorem scIsPiece : FnScope ["thing", "low", "high", "kind"] ["thing"] (defScope sIsPiece) := ⟨rfl, rfl, rfl, by decide +kernel, rfl, by decide +kernel, by decide +kernel⟩
theorem cl_ispiece (D : DefAt K mg "_is_piece" sIsPiece) (T : Blt mg) (cI : Cl CX0 P w K mg base 2 "is_degree" ["thing"] (spIsDeg K)) (cB : Cl CX0 P w K mg base 1 "is_below" ["x", "y"] (spLess K)) : Cl CX0 P w K mg base 3 "_is_piece" ["thing"] (spIsPiece K) := by
  obtain ⟨f, fd, F, hm⟩ := D
  refine cl_of F hm (F.ok scIsPiece (fun vs H Q E h => ?_) (fun cdv A outer s H vs Q E hr h => ⟨_, PSs.nox (pss_cons
      (ps_if (PW.pt (pw_or (pt_not (pt_val (pe_callB call_isi (by rfl) T.isin (by decide +kernel) (pa_cons (pv 0) (pa_cons (pe_bltn (v := .ty "tuple") (by rfl) T.tuple (by decide +kernel) rfl) pa_nil)))))
          (pw_or1 (pt_cmpR op_ne (pe_callB call_len_seq (by rfl) T.len PySem.boot_len (pa_cons (pv 0) pa_nil)) pe_int (nomark _)))))
        (pss_one (ps_ret pe_bl)) pss_nil)
      (pss_cons (ps_asg (pv 0) (pg_tup (by rfl) (pgs_cons (pg_name (i := 1) scIsPiece.nd rfl (Or.inl rfl)) (pgs_cons (pg_name (i := 2) scIsPiece.nd rfl (Or.inl rfl)) (pgs_cons (pg_name (i := 3) scIsPiece.nd rfl (Or.inl rfl)) pgs_nil)))))
      (pss_cons (ps_if (PW.pt (pw_or (pt_not (pt_val (pe_c0 cI hr (by decide) (by rfl) (pa_cons (pv 1) pa_nil)))) (pw_or (pt_not (pt_val (pe_c0 cI hr (by decide) (by rfl) (pa_cons (pv 2) pa_nil))))
          (pw_or1 (pt_not (pt_val (pe_c0 cB hr (by decide) (by rfl) (pa_cons (pv 1) (pa_cons (pv 2) pa_nil)))))))))
        (pss_one (ps_ret pe_bl)) pss_nil)
      (pss_one (ps_ret (pe_and (pe_callB call_isi (by rfl) T.isin (by decide +kernel) (pa_cons (pv 3) (pa_cons (pe_bltn (v := .ty "str") (by rfl) T.str (by decide +kernel) rfl) pa_nil)))
        (pe_one (pe_cmpR op_in_seq (pv 3) (pe_tup (pa_cons pe_str (pa_cons pe_str pa_nil))) (by rfl))))))))), ?_⟩)) fun _ _ _ _ _ _ us hl => match us, hl with | [_], _ => rfl
  · obtain ⟨a, p, rfl, _⟩ := h
    rfl
  · obtain ⟨a, p, rfl, ⟨l, u, e, r1, r2⟩, ok, z, q⟩ := h
    have o1 := ok.low
    have o2 := ok.lt
    have o3 := ok.high
    refine ⟨_, rfl, _, _, _, _, _, rfl, .ty "tuple", ty_tup e, kit_ty (r := true) (by decide +kernel), _, rfl, ?_⟩
    refine iteF ?_
    refine ⟨_, rfl, a, _, rfl, .inr e, rfl, _, rfl, ?_⟩
    refine iteF ?_
    refine ⟨_, rfl, a, _, rfl, e, rfl, _, _, rfl, _, _, rfl, _, _, rfl, rfl, ?_⟩
    refine ⟨_, rfl, _, true, rfl, rt_deg r1 o1 (by grind), _, rfl, iteF ?_⟩
    refine ⟨_, rfl, _, true, rfl, rt_deg r2 (by grind) o3, _, rfl, iteF ?_⟩
    refine ⟨_, rfl, _, rfl, l, u, p.lo, p.hi, rfl, r1, r2, z.1, z.2, _, rfl, ?_⟩
    rw [decide_eq_true o2]
    refine iteF ?_
    refine ⟨_, rfl, _, _, _, _, _, rfl, .ty "str", .base (.str _), kit_ty (r := true) (by decide +kernel), _, rfl, iteT ?_⟩
    refine ⟨_, rfl, (by show 2 ≤ sizeLine; decide), fun t ht => ?_⟩
    obtain ⟨G, eG, S, fG⟩ := mk_s (.tup [.str "sum", .str "product"]) ht
    rw [eG]
    refine ⟨t, _, rfl, .inr (SqT.of fG), rfl, rfl, ?_⟩
    have ein : inV (V.str p.kind) [.str "sum", .str "product"] = true := by
      unfold Pc.kind kindS
      cases p.k <;> decide +kernel
    show Q (.bl (inV (V.str p.kind) [.str "sum", .str "product"])) G
    rw [ein]
    exact q G S
end
end G1
set_option maxHeartbeats 8000000
namespace G1
open PySem PySem.Spec PyProof.Rows L2 JN
/-! ### _check_pieces, _ascending, _shape_of -/
theorem psz500 {ps : List Pc} (h : ∀ q ∈ ps, PSz 120 q) : ∀ q ∈ ps, PSz 500 q := fun q hq => ⟨(h q hq).1.mono (by decide), (h q hq).2.mono (by decide)⟩
/-- a list of pieces -/
structure LotAt (K : PySem.W.Frag) (H : Hp) (a : Addr) (ps ls : List Pc) : Prop where
  ex : ∃ as : List Addr, SqL K H a (as.map V.ref) ∧ PcsAt K H ps as
  lot : Lot ps ls
  few : ps.length ≤ 1000
  sz : ∀ p ∈ ps, PSz 500 p
theorem LotAt.sz8 {K : PySem.W.Frag} {H : Hp} {a : Addr} {ps ls : List Pc} (h : LotAt K H a ps ls) : ∀ p ∈ ps, PSz 8000 p := fun p hp => ⟨(h.sz p hp).1.mono (by decide), (h.sz p hp).2.mono (by decide)⟩
theorem pcs_on {K : PySem.W.Frag} {H H' : Hp} (s : Same H H') {ps : List Pc} {as : List Addr} (h : PcsAt K H ps as) : PcsAt K H' ps as := paired_imp (fun _ _ z => z.on s) h
theorem LotAt.on {K : PySem.W.Frag} {H H' : Hp} {a : Addr} {ps ls : List Pc} (h : LotAt K H a ps ls) (s : Same H H') : LotAt K H' a ps ls := by
  obtain ⟨as, h1, h2⟩ := h.ex
  exact ⟨⟨as, s.seq h1, pcs_on s h2⟩, h.lot, h.few, h.sz⟩
def spCheckPs (K : PySem.W.Frag) : Sp := fun vs H Q _ => ∃ (a : Addr) (ps ls : List Pc), vs = [.ref a] ∧ LotAt K H a ps ls ∧ ∀ H', Same H H' → Q .non H'
section
variable {P : Program} {w : World} {K : PySem.W.Frag} {mg : Str → Option Value} {base : Heap}
theorem ty_lst {H : Hp} {a : Addr} {xs : List V} (h : SqL K H a xs) : TyX K H (.ref a) (.type "list") :=
  match h with
  | .inl (.inl h) => .base (.lst h)
  | .inl (.inr ⟨_, h⟩) => .base (.frz h)
  | .inr ⟨_, _, _, e, c, _⟩ => .kList e c
theorem scCheckPieces : FnScope ["things", "place", "thing", "second", "first"] ["things"] (defScope sCheckPieces) := ⟨rfl, rfl, rfl, by decide +kernel, rfl, by decide +kernel, by decide +kernel⟩
theorem cl_checkps (D : DefAt K mg "_check_pieces" sCheckPieces) (T : Blt mg) (cP : Cl CX0 P w K mg base 3 "_is_piece" ["thing"] (spIsPiece K)) (cO : Cl CX0 P w K mg base 2 "_overlap" ["piece", "other"] (spOverlap K)) : Cl CX0 P w K mg base 4 "_check_pieces" ["things"] (spCheckPs K) := by
  obtain ⟨f, fd, F, hm⟩ := D
  refine cl_of F hm (F.ok scCheckPieces (fun vs H Q E h => ?_) (fun cdv A outer s H vs Q E hr h => ⟨_, PSs.nox (pss_cons
      (ps_if (pt_not (pt_val (pe_callB call_isiT (by rfl) T.isin (by decide +kernel) (pa_cons (pv 0) (pa_cons (pe_tup (pa_cons (pe_bltn (v := .ty "list") (by rfl) T.list (by decide +kernel) rfl) (pa_cons (pe_bltn (v := .ty "tuple") (by rfl) T.tuple (by decide +kernel) rfl) pa_nil))) pa_nil)))))
        (pss_one ps_never) pss_nil)
      (pss_cons (ps_for PassesOwn.never rfl (pi_enum (by rfl) T.enum (pa_cons (pv 0) pa_nil)) (pg_tup (by rfl) (pgs_cons (pg_name (i := 1) scCheckPieces.nd rfl (Or.inl rfl)) (pgs_cons (pg_name (i := 2) scCheckPieces.nd rfl (Or.inl rfl)) pgs_nil)))
        (pss_one (ps_if (pt_not (pt_val (pe_c0 cP hr (by decide) (by rfl) (pa_cons (pv 2) pa_nil)))) (pss_one ps_never) pss_nil)))
      (pss_one (ps_for PassesOwn.never rfl (pi_range1 (by rfl) T.range (pa_cons (pe_callB call_len_seq (by rfl) T.len PySem.boot_len (pa_cons (pv 0) pa_nil)) pa_nil)) (pg_name (i := 3) scCheckPieces.nd rfl (Or.inl rfl))
        (pss_one (ps_for PassesOwn.never rfl (pi_range1 (by rfl) T.range (pa_cons (pv 3) pa_nil)) (pg_name (i := 4) scCheckPieces.nd rfl (Or.inl rfl))
          (pss_one (ps_if (pt_val (pe_c0 cO hr (by decide) (by rfl) (pa_cons (pe_ix ix_list (pv 0) (pv 4) (fun _ _ => rfl)) (pa_cons (pe_ix ix_list (pv 0) (pv 3) (fun _ _ => rfl)) pa_nil)))) (pss_one ps_never) pss_nil)))))))), ?_⟩)) fun _ _ _ _ _ _ us hl => match us, hl with | [_], _ => rfl
  · obtain ⟨a, ps, ls, rfl, _⟩ := h
    rfl
  · obtain ⟨a, ps, ls, rfl, L, q⟩ := h
    obtain ⟨as, hS, hP⟩ := L.ex
    have hlen : ps.length = as.length := Paired.length hP
    have few := L.few
    refine ⟨_, rfl, (by show 2 ≤ sizeLine; decide), fun t nt => ?_⟩
    obtain ⟨H1, e1, S1, f1⟩ := mk_s (.tup [.ty "list", .ty "tuple"]) nt
    rw [e1]
    refine ⟨_, t, _, _, [.type "list", .type "tuple"], true, rfl, f1, .cons (.ty "list") (.cons (.ty "tuple") .nil), ty_lst (S1.seq hS), kitAny_cons (kit_ty (r := true) (by decide +kernel)) (fun z => by cases z) (fun _ => rfl), _, rfl, ?_⟩
    refine iteF ?_
    refine ⟨_, rfl, a, _, rfl, S1.seq hS, ?_⟩
    refine for_it (walk_enum (K := K) (a := a) (xs := as.map V.ref)) (fun i σ G => ∃ v1 v2 : Option V, σ = [some (.ref a), v1, v2, none, none] ∧ Same H G) ⟨none, none, rfl, S1⟩ (fun i σ G _ h => ?_) ?_ ?_
    · obtain ⟨_, _, _, s⟩ := h
      exact s.seq hS
    · rintro i v σ G G' hi ⟨v1, v2, rfl, sG⟩ ⟨T2, x, y, rfl, nT, rfl, hx, hy⟩
      obtain ⟨b, hb, rfl⟩ := get_map hy
      obtain ⟨p, hp, rp⟩ := pc_get hP hb
      obtain ⟨G2, e2, S2, f2⟩ := mk_s (.tup [x, V.ref b]) nT
      rw [e2]
      have s2 := sG.trans S2
      refine ⟨T2, _, rfl, SqT.of f2, rfl, x, _, rfl, .ref b, [], rfl, rfl, ?_⟩
      refine ⟨_, rfl, b, p, rfl, rp.on s2, L.lot.ok p (List.mem_of_getElem? hp), L.sz8 p (List.mem_of_getElem? hp), fun G3 S3 => ⟨_, rfl, iteF ?_⟩⟩
      exact ⟨_, _, rfl, s2.trans S3⟩
    · rintro σ G ⟨v1, v2, rfl, sG⟩
      refine ⟨_, rfl, a, _, rfl, .inl (sG.seq hS), as.length, ?_, by omega, by omega, ?_⟩
      · rw [List.length_map]
      refine for_range (lo := 0) (n := ((as.length : Nat) : Int).toNat) (fun j σ G => ∃ v3 v4 : Option V, σ = [some (.ref a), v1, v2, v3, v4] ∧ Same H G) ⟨none, none, rfl, sG⟩ ?_ ?_
      · rintro j σ G2 hj ⟨v3, v4, rfl, s2⟩
        have hj2 : j < as.length := by omega
        refine ⟨_, rfl, (0 + (j : Int)), rfl, by omega, by omega, ?_⟩
        refine for_range (lo := 0) (n := (0 + (j : Int)).toNat) (fun i σ G => ∃ v4 : Option V, σ = [some (.ref a), v1, v2, some (.int (0 + (j : Int))), v4] ∧ Same H G) ⟨v4, rfl, s2⟩ ?_ ?_
        · rintro i σ G3 hi ⟨v4', rfl, s3⟩
          have hi2 : i < j := by omega
          have gi : (as.map V.ref)[i]? = some (.ref as[i]) := by simp [show i < as.length by omega]
          have gj : (as.map V.ref)[j]? = some (.ref as[j]) := by simp [hj2]
          obtain ⟨p, hp, rp⟩ := pc_get hP (List.getElem?_eq_getElem (show i < as.length by omega))
          obtain ⟨p2, hp2, rp2⟩ := pc_get hP (List.getElem?_eq_getElem hj2)
          have apart : ¬ (p.lo < p2.hi ∧ p2.lo < p.hi) := by
            have h1 := List.pairwise_iff_getElem.mp L.lot.apart i j (by omega) (by omega) hi2
            rw [(List.getElem?_eq_some_iff.mp hp).2, (List.getElem?_eq_some_iff.mp hp2).2] at h1
            exact h1
          refine ⟨_, rfl, _, rfl, a, _, _, _, rfl, rfl, s3.seq hS, at_of (j := i) (by omega) gi, ?_⟩
          refine ⟨_, rfl, _, rfl, a, _, _, _, rfl, rfl, s3.seq hS, at_of (j := j) (by omega) gj, ?_⟩
          refine ⟨_, _, p, p2, rfl, rp.on s3, rp2.on s3, L.sz8 p (List.mem_of_getElem? hp), L.sz8 p2 (List.mem_of_getElem? hp2), _, rfl, ?_⟩
          rw [decide_eq_false apart]
          exact iteF ⟨_, rfl, s3⟩
        · rintro σ G3 ⟨v4', rfl, s3⟩
          exact ⟨_, _, rfl, s3⟩
      · rintro σ G2 ⟨v3, v4, rfl, s2⟩
        exact q G2 s2
end
end G1
set_option maxHeartbeats 4000000
/-! shapes and pieces as data -/
namespace JN
open PySem PySem.Spec PyProof.Rows L2 G1
def Word (s : Str) : Prop := s = "sum" ∨ s = "product" ∨ s = "minimum"
theorem word_kind (k : Bool) : Word (kindS k) := by cases k <;> simp [kindS, Word]
theorem shape_words (ps : List Pc) : ∀ s ∈ shape ps, Word s := by
  have go : ∀ (ps : List Pc) (st : List Str × Rat), (∀ s ∈ st.1, Word s) → ∀ s ∈ (ps.foldl JN.step st).1, Word s := by
    intro ps
    induction ps with
    | nil => intro st h; exact h
    | cons p r ih =>
      intro st h
      refine ih _ fun s hs => ?_
      unfold JN.step at hs
      dsimp only at hs
      rcases List.mem_append.mp hs with hs | hs
      · rcases List.mem_append.mp hs with hs | hs
        · exact h s hs
        · split at hs
          · cases hs
          · rw [List.mem_singleton] at hs
            exact .inr (.inr hs)
      · rw [List.mem_singleton] at hs
        rw [hs]
        exact word_kind _
  intro s hs
  unfold shape at hs
  rcases List.mem_append.mp hs with hs | hs
  · exact go ps ([], 0) (fun _ z => by cases z) s hs
  · split at hs
    · cases hs
    · rw [List.mem_singleton] at hs
      exact .inr (.inr hs)
theorem word_ok {s : Str} (h : Word s) : PyData.strOk s = true := by
  rcases h with rfl | rfl | rfl <;> decide +kernel
abbrev dStrs (ws : List Str) : PyData := .tuple (ws.map PyData.str)
theorem strs_dp {K : PySem.W.Frag} {H : Hp} : ∀ ws : List Str, DpAll K H (ws.map V.str) (ws.map PyData.str)
  | [] => .nil
  | w :: ws => .cons (.str w) (strs_dp ws)
theorem strs_all : ∀ (ws : List Str), (∀ s ∈ ws, Word s) → PyData.canLayAll0 (ws.map PyData.str) = true ∧ PyData.depthAll (ws.map PyData.str) = 0
  | [], _ => by simp [PyData.canLayAll0, PyData.depthAll]
  | w :: ws, h => by
    obtain ⟨h1, h2⟩ := strs_all ws fun s hs => h s (List.mem_cons_of_mem _ hs)
    have h3 := word_ok (h w List.mem_cons_self)
    refine ⟨?_, ?_⟩
    · show PyData.canLayAll0 (PyData.str w :: ws.map PyData.str) = true
      simp [PyData.canLayAll0, PyData.canLay0, h1, h3]
    · show PyData.depthAll (PyData.str w :: ws.map PyData.str) = 0
      simp only [PyData.depthAll, h2]
      simp [PyData.depth]
theorem strs_shp {ws : List Str} (h : ∀ s ∈ ws, Word s) : SeqAt.shaped (dStrs ws) = true := by
  obtain ⟨h1, h2⟩ := strs_all ws h
  unfold SeqAt.shaped
  simp [PyData.canLay0, PyData.depth, h1, h2]
theorem strs_eqv (xs ys : List Str) : PyData.eqv (dStrs xs) (dStrs ys) = decide (xs = ys) := by
  have go : ∀ xs ys : List Str, PyData.eqvAll (xs.map PyData.str) (ys.map PyData.str) = decide (xs = ys) := by
    intro xs
    induction xs with
    | nil =>
      intro ys
      cases ys <;> simp [PyData.eqvAll]
    | cons x r ih =>
      intro ys
      cases ys with
      | nil => simp [PyData.eqvAll]
      | cons y q =>
        rw [List.map_cons, List.map_cons, PyData.eqvAll, ih q]
        have e : PyData.eqv (.str x) (.str y) = decide (x = y) := by
          simp [PyData.eqv]
          rfl
        rw [e]
        by_cases c : x = y
        · simp [c]
        · simp [c]
  have e : PyData.eqv (dStrs xs) (dStrs ys) = PyData.eqvAll (xs.map PyData.str) (ys.map PyData.str) := by simp [PyData.eqv]
  rw [e]
  exact go xs ys
/-! ### pieces -/
abbrev dPc (p : Pc) : PyData := .tuple [dRt p.lo, dRt p.hi, .str p.kind]
abbrev dPcs (ps : List Pc) : PyData := .tuple (ps.map dPc)
theorem pc_dp {K : PySem.W.Frag} {H : Hp} {p : Pc} {a : Addr} (h : PcAt K H p a) : Dp K H (.ref a) (dPc p) := by
  obtain ⟨l, u, h1, h2, h3⟩ := h
  exact .tup h1 (.cons h2.dp (.cons h3.dp (.cons (.str _) .nil)))
theorem pcs_dp {K : PySem.W.Frag} {H : Hp} : ∀ {ps : List Pc} {as : List Addr}, Paired (PcAt K H) ps as → DpAll K H (as.map V.ref) (ps.map dPc)
  | _, _, .nil => .nil
  | _, _, .cons r rs => .cons (pc_dp r) (pcs_dp rs)
theorem pcs_all : ∀ ps : List Pc, PyData.canLayAll0 (ps.map dPc) = true ∧ PyData.depthAll (ps.map dPc) ≤ 2
  | [] => by simp [PyData.canLayAll0, PyData.depthAll]
  | p :: ps => by
    obtain ⟨h1, h2⟩ := pcs_all ps
    have h3 := word_ok (word_kind p.k)
    have h4 : PyData.strOk p.kind = true := h3
    refine ⟨?_, ?_⟩
    · show PyData.canLayAll0 (dPc p :: ps.map dPc) = true
      simp [PyData.canLayAll0, PyData.canLay0, h1, h4]
    · show PyData.depthAll (dPc p :: ps.map dPc) ≤ 2
      have : PyData.depth (dPc p) = 2 := by simp [PyData.depth, PyData.depthAll]
      simp only [PyData.depthAll]
      omega
theorem pcs_shp (ps : List Pc) : SeqAt.shaped (dPcs ps) = true := by
  obtain ⟨h1, h2⟩ := pcs_all ps
  unfold SeqAt.shaped
  simp [PyData.canLay0, PyData.depth, h1]
  omega
theorem kind_inj {a b : Bool} (h : kindS a = kindS b) : a = b := by
  cases a <;> cases b <;> first | rfl | (exfalso; revert h; decide)
theorem pc_eqv (p q : Pc) : PyData.eqv (dPc p) (dPc q) = decide (p = q) := by
  have e : PyData.eqv (dPc p) (dPc q) = (PyData.eqv (dRt p.lo) (dRt q.lo) && (PyData.eqv (dRt p.hi) (dRt q.hi) && PyData.eqv (.str p.kind) (.str q.kind))) := by
    simp [PyData.eqv, PyData.eqvAll]
  have e2 : PyData.eqv (.str p.kind) (.str q.kind) = decide (p.kind = q.kind) := by
    simp [PyData.eqv]
    rfl
  rw [e, e2, dRt_eqv, dRt_eqv]
  by_cases h : p = q
  · subst h
    simp
  · rw [decide_eq_false h]
    by_cases a : p.lo = q.lo
    · by_cases b : p.hi = q.hi
      · have c : ¬ p.kind = q.kind := fun z => h (by
          cases p
          cases q
          dsimp only at a b
          have k := kind_inj (show kindS _ = kindS _ from z)
          dsimp only at k
          subst a b k
          rfl)
        simp [c]
      · simp [b]
    · simp [a]
theorem pcs_eqv (ps qs : List Pc) : PyData.eqv (dPcs ps) (dPcs qs) = decide (ps = qs) := by
  have go : ∀ ps qs : List Pc, PyData.eqvAll (ps.map dPc) (qs.map dPc) = decide (ps = qs) := by
    intro xs
    induction xs with
    | nil =>
      intro ys
      cases ys <;> simp [PyData.eqvAll]
    | cons x r ih =>
      intro ys
      cases ys with
      | nil => simp [PyData.eqvAll]
      | cons y q =>
        rw [List.map_cons, List.map_cons, PyData.eqvAll, ih q, pc_eqv]
        by_cases c : x = y
        · simp [c]
        · simp [c]
  have e : PyData.eqv (dPcs ps) (dPcs qs) = PyData.eqvAll (ps.map dPc) (qs.map dPc) := by simp [PyData.eqv]
  rw [e]
  exact go ps qs
end JN
set_option maxHeartbeats 4000000
/-! sums, products, quotients of fractions; both and then -/
namespace JN
open PySem PySem.Spec PyProof.Rows L2 G1
theorem add_div (x y : Rat) : Rat.divInt (x.num * (y.den : Int) + y.num * (x.den : Int)) ((x.den : Int) * (y.den : Int)) = x + y := by
  rw [Rat.add_def', ← Rat.divInt_ofNat, Int.natCast_mul]
theorem sub_div (x y : Rat) : Rat.divInt (x.num * (y.den : Int) - y.num * (x.den : Int)) ((x.den : Int) * (y.den : Int)) = x - y := by
  rw [Rat.sub_def', ← Rat.divInt_ofNat, Int.natCast_mul]
theorem mul_div (x y : Rat) : Rat.divInt (x.num * y.num) ((x.den : Int) * (y.den : Int)) = x * y := by
  rw [Rat.mul_def', ← Rat.divInt_ofNat, Int.natCast_mul]
theorem quo_div (x y : Rat) : Rat.divInt (x.num * (y.den : Int)) ((x.den : Int) * y.num) = x / y := by
  rw [Rat.div_def, Rat.inv_def, ← Rat.divInt_mul_divInt, Rat.num_divInt_den]
theorem num_pos {y : Rat} (h : 0 < y) : 0 < y.num := by
  have e := (Rat.lt_iff 0 y).mp h
  simpa using e
theorem mul_small {a b : Int} {j k : Nat} (ha : a.natAbs < 2 ^ j) (hb : b.natAbs < 2 ^ k) : (a * b).natAbs < 2 ^ (j + k) := by
  rw [Int.natAbs_mul, Nat.pow_add]
  exact Nat.mul_lt_mul'' ha hb
theorem add_small {a b : Int} {k : Nat} (ha : a.natAbs < 2 ^ k) (hb : b.natAbs < 2 ^ k) : (a + b).natAbs < 2 ^ (k + 1) := by
  rw [Nat.pow_succ]
  omega
theorem sub_small {a b : Int} {k : Nat} (ha : a.natAbs < 2 ^ k) (hb : b.natAbs < 2 ^ k) : (a - b).natAbs < 2 ^ (k + 1) := by
  rw [Nat.pow_succ]
  omega
theorem lt_up {a : Int} {j k : Nat} (h : a.natAbs < 2 ^ j) (le : j ≤ k) : a.natAbs < 2 ^ k := Nat.lt_of_lt_of_le h (Nat.pow_le_pow_right (by decide) le)
theorem dn (x : Rat) {k : Nat} (h : x.den < 2 ^ k) : ((x.den : Int)).natAbs < 2 ^ k := by
  rw [Int.natAbs_natCast]
  exact h
theorem Sz.add {j k : Nat} {x y : Rat} (hx : Sz j x) (hy : Sz k y) : Sz (j + k + 1) (x + y) := by
  rw [← add_div]
  have a := mul_small hx.top (dn y hy.bot)
  have b := mul_small hy.top (dn x hx.bot)
  rw [Nat.add_comm k j] at b
  exact div_sz (Int.mul_pos (den_pos x) (den_pos y)) (add_small a b) (lt_up (mul_small (dn x hx.bot) (dn y hy.bot)) (Nat.le_succ _))
theorem Sz.sub {j k : Nat} {x y : Rat} (hx : Sz j x) (hy : Sz k y) : Sz (j + k + 1) (x - y) := by
  rw [← sub_div]
  have a := mul_small hx.top (dn y hy.bot)
  have b := mul_small hy.top (dn x hx.bot)
  rw [Nat.add_comm k j] at b
  exact div_sz (Int.mul_pos (den_pos x) (den_pos y)) (sub_small a b) (lt_up (mul_small (dn x hx.bot) (dn y hy.bot)) (Nat.le_succ _))
theorem Sz.mul {j k : Nat} {x y : Rat} (hx : Sz j x) (hy : Sz k y) : Sz (j + k) (x * y) := by
  rw [← mul_div]
  exact div_sz (Int.mul_pos (den_pos x) (den_pos y)) (mul_small hx.top hy.top) (mul_small (dn x hx.bot) (dn y hy.bot))
theorem Sz.quo {j k : Nat} {x y : Rat} (hx : Sz j x) (hy : Sz k y) (pos : 0 < y) : Sz (j + k) (x / y) := by
  rw [← quo_div]
  exact div_sz (Int.mul_pos (den_pos x) (num_pos pos)) (mul_small hx.top (dn y hy.bot)) (mul_small (dn x hx.bot) hy.top)
/-! ### both and then of a row of pieces -/
def low (x y : Rat) : Rat := if y < x then y else x
def high (x y : Rat) : Rat := if x < y then y else x
/-- both lie in the piece -/
def Pc.has (p : Pc) (x y : Rat) : Bool := decide (¬ low x y < p.lo ∧ ¬ p.hi < high x y)
def around (ps : List Pc) (x y : Rat) : Option Pc := ps.find? fun p => p.has x y
def Pc.both (p : Pc) (x y : Rat) : Rat := if p.k then high p.lo (x + y - p.hi) else p.lo + (x - p.lo) * (y - p.lo) / (p.hi - p.lo)
def Pc.then (p : Pc) (x y : Rat) : Rat := if p.k then p.hi - x + y else p.lo + (p.hi - p.lo) * (y - p.lo) / (x - p.lo)
def bothQ (ps : List Pc) (x y : Rat) : Rat := match around ps x y with
  | none => low x y
  | some p => p.both x y
def thenQ (ps : List Pc) (x y : Rat) : Rat := if y < x then (match around ps x y with
  | none => y
  | some p => p.then x y) else 1
end JN
set_option maxHeartbeats 16000000
namespace G1
open PySem PySem.Spec PyProof.Rows L2 JN
/-! ### a degree near a lot -/
/-- from 0 to 1, and of b figures -/
def UnitB (b : Nat) (x : Rat) : Prop := 0 ≤ x ∧ x ≤ 1 ∧ Sz b x
abbrev Unit4 (x : Rat) : Prop := UnitB 400 x
abbrev Unit2 (x : Rat) : Prop := UnitB 242 x
theorem frac01 {a b : Int} {k n : Nat} (h : 0 < b) (h0 : 0 ≤ a) (h1 : a ≤ b) (hb : b.natAbs < 2 ^ k) (hk : k ≤ n) : UnitB n (Rat.divInt a b) := by
  have hi := JN.dle' (a := a) (b := b) h h1
  rw [Rat.divInt_self' (by omega)] at hi
  exact ⟨Rat.divInt_nonneg h0 (by omega), hi, (div_sz h (by omega) hb).mono hk⟩
theorem nice4 {x : Rat} (h : 0 ≤ x ∧ x ≤ 1 ∧ Sz 120 x) : Unit4 x := ⟨h.1, h.2.1, h.2.2.mono (by decide)⟩
/-- a lot beside the purse -/
structure LotH (K : PySem.W.Frag) (p : Addr) (H : Hp) (l : Addr) (ls : List Pc) : Prop where
  ex : ∃ as : List Addr, hide p H l = some (.lst (as.map V.ref)) ∧ Paired (PcAt K (hide p H)) ls as
  row : Row ls
  few : ls.length ≤ 6
  sz : ∀ q ∈ ls, PSz 120 q
theorem LotH.on {K : PySem.W.Frag} {p l : Addr} {H H' : Hp} {ls : List Pc} (h : LotH K p H l ls) (s : Same (hide p H) (hide p H')) : LotH K p H' l ls := by
  obtain ⟨as, h1, h2⟩ := h.ex
  exact ⟨⟨as, s _ _ h1, pcs_on s h2⟩, h.row, h.few, h.sz⟩
structure NearP (K : PySem.W.Frag) (p : Addr) (c : Int) (H : Hp) (Q : VK) : Prop where
  at_ : PurseAt H p c
  lo : c < 2 ^ 38
  fin : ∀ (t : Addr) (x : Rat) (c' : Int) (H' : Hp), c' ≤ c + 5 → Unit4 x → PurseAt H' p c' → But p H H' → RtAt K (hide p H') x t → Q (.ref t) H'
def spNear (K : PySem.W.Frag) : Sp := fun vs H Q _ => ∃ (p l : Addr) (ls : List Pc) (c : Int), vs = [.ref p, .ref l] ∧ LotH K p H l ls ∧ NearP K p c H Q
section
variable {P : Program} {w : World} {K : PySem.W.Frag} {mg : Str → Option Value} {base : Heap}
abbrev nNear : List Str := ["purse", "lot", "some", "low", "high", "kind", "middle"]
theorem scNear : FnScope nNear ["purse", "lot"] (defScope lNear) := ⟨rfl, rfl, rfl, by decide +kernel, rfl, by decide +kernel, by decide +kernel⟩
theorem cl_near (D : DefAt K mg "_law_near" lNear) (B : Blt mg) (cD : Cl CX0 P w K mg base 2 "_law_draw" ["purse", "out_of"] spDraw) (cG : Cl CX0 P w K mg base 3 "_law_degree" ["purse"] (spDegL K)) (cL : Cl CX0 P w K mg base 2 "_law_lowest" ["above", "beneath"] (spLowest K)) : Cl CX0 P w K mg base 4 "_law_near" ["purse", "lot"] (spNear K) := by
  obtain ⟨f, fd, F, hm⟩ := D
  refine cl_of F hm (F.ok scNear (fun vs H Q E h => ?_) (fun cdv A outer s H vs Q E hr h => ⟨_, PSs.nox (pss_cons
      (ps_set (i := 2) scNear.nd rfl (Or.inl rfl) (pe_lst (pa_cons (pe_c0 cG hr (by decide) (by rfl) (pa_cons (pv 0) pa_nil)) (pa_cons (pe_tup (pa_cons pe_int (pa_cons pe_int pa_nil))) (pa_cons (pe_tup (pa_cons pe_int (pa_cons pe_int pa_nil))) pa_nil)))))
      (pss_cons (ps_for PassesOwn.never rfl (pi_list (pv 1)) (pg_tup (by rfl) (pgs_cons (pg_name (i := 3) scNear.nd rfl (Or.inl rfl)) (pgs_cons (pg_name (i := 4) scNear.nd rfl (Or.inl rfl)) (pgs_cons (pg_name (i := 5) scNear.nd rfl (Or.inl rfl)) pgs_nil))))
        (pss_cons (ps_set (i := 6) scNear.nd rfl (Or.inl rfl) (pe_c0 cL hr (by decide) (by rfl) (pa_cons
            (pe_op op_add (pe_op op_mulW (pe_ix ix_tup (pv 3) pe_int (fun _ _ => rfl)) (pe_ix ix_tup (pv 4) pe_int (fun _ _ => rfl))) (pe_op op_mulW (pe_ix ix_tup (pv 4) pe_int (fun _ _ => rfl)) (pe_ix ix_tup (pv 3) pe_int (fun _ _ => rfl))))
            (pa_cons (pe_op op_mulW (pe_op op_mulW pe_int (pe_ix ix_tup (pv 3) pe_int (fun _ _ => rfl))) (pe_ix ix_tup (pv 4) pe_int (fun _ _ => rfl))) pa_nil))))
        (pss_one (ps_set (i := 2) scNear.nd rfl (Or.inl rfl) (pe_op op_cat (pv 2) (pe_lst (pa_cons (pv 3) (pa_cons (pv 4) (pa_cons (pv 6) (pa_cons
            (pe_c0 cL hr (by decide) (by rfl) (pa_cons (pe_ix ix_tup (pv 6) pe_int (fun _ _ => rfl)) (pa_cons (pe_op op_add (pe_ix ix_tup (pv 6) pe_int (fun _ _ => rfl)) (pe_op op_mod (pe_ix ix_tup (pv 6) pe_int (fun _ _ => rfl)) pe_int)) pa_nil))) pa_nil))))))))))
      (pss_one (ps_ret (pe_ix ix_list (pv 2) (pe_c0 cD hr (by decide) (by rfl) (pa_cons (pv 0) (pa_cons (pe_callB call_len_seq (by rfl) B.len PySem.boot_len (pa_cons (pv 2) pa_nil)) pa_nil))) (fun _ _ => rfl)))))), ?_⟩)) fun _ _ _ _ _ _ us hl => match us, hl with | [_, _], _ => rfl
  · obtain ⟨p, l, ls, c, rfl, _⟩ := h
    rfl
  · obtain ⟨p, l, ls, c, rfl, LH, h⟩ := h
    have P0 := h.at_
    have c0 := h.lo
    refine ⟨_, rfl, p, c, rfl, ⟨P0, by omega, fun t x c1 H1 k1 nx P1 B1 rx => ?_⟩⟩
    refine ⟨(by show 2 ≤ sizeLine; decide), fun z0 n0 => ?_⟩
    obtain ⟨H2, e2, P2, B2, f2⟩ := mk_at (.tup [.int 0, .int 1]) P1 n0
    rw [e2]
    refine ⟨(by show 2 ≤ sizeLine; decide), fun z1 n1 => ?_⟩
    obtain ⟨H3, e3, P3, B3, f3⟩ := mk_at (.tup [.int 1, .int 1]) P2 n1
    rw [e3]
    refine ⟨(by show 3 ≤ sizeLine; decide), fun l3 n3 => ?_⟩
    obtain ⟨H4, e4, P4, B4, f4⟩ := mk_at (.lst [.ref t, .ref z0, .ref z1]) P3 n3
    rw [e4]
    have B14 := B2.trans (B3.trans B4)
    have B04 := B1.trans B14
    have O4 : OrdAt K p H4 l3 [x, 0, 1] := ⟨[t, z0, z1], f4, .cons (rx.on B14.hide) (.cons (SqT.of ((B3.trans B4).hide _ _ f2)) (.cons (SqT.of (B4.hide _ _ f3)) .nil))⟩
    have L4 := LH.on B04.hide
    obtain ⟨as, fl, pr⟩ := L4.ex
    have la := paired_len pr
    refine gn1 (σ' := [some (.ref p), some (.ref l), some (.ref l3), none, none, none, none]) rfl ?_
    refine ⟨_, rfl, l, rfl, ⟨_, SqL.of (hide_same _ _ fl)⟩, for_list (xs := as.map V.ref) (fun i σ G => ∃ (a3 : Addr) (v3 v4 v5 v6 : Option V) (xs : List Rat), σ = [some (.ref p), some (.ref l), some (.ref a3), v3, v4, v5, v6] ∧ Same H4 G ∧ OrdAt K p G a3 xs ∧ xs.length = 3 + 4 * i ∧ ∀ y ∈ xs, Unit4 y)
      ⟨l3, none, none, none, none, _, rfl, .refl _, O4, rfl, ?_⟩ (fun i σ G _ h => ?_) ?_ ?_⟩
    · intro y hy
      simp only [List.mem_cons, List.not_mem_nil, or_false] at hy
      rcases hy with rfl | rfl | rfl
      · exact nice4 nx
      · exact ⟨by decide, by decide, sz01.1.mono (by decide)⟩
      · exact ⟨by decide, by decide, sz01.2.mono (by decide)⟩
    · obtain ⟨_, _, _, _, _, _, _, s, _⟩ := h
      exact SqL.of (hide_same _ _ ((Same.but s).hide _ _ fl))
    · rintro i v σ G hv ⟨a3, v3, v4, v5, v6, xs, rfl, sG, O, lx, nx4⟩
      obtain ⟨b, hb, rfl⟩ := get_map hv
      obtain ⟨q, hq, ⟨lo, hi, eb, rl, rh⟩⟩ := pc_get pr hb
      have mq := List.mem_of_getElem? hq
      have okq := L4.row.ok q mq
      have zq := L4.sz q mq
      have hi6 : i < 6 := by
        have := (List.getElem?_eq_some_iff.mp hq).1
        have := L4.few
        omega
      have hG := (Same.but (p := p) sG).hide
      have PG := P4.same sG
      have rlG := rl.on hG
      have rhG := rh.on hG
      have rl' : RtAt K G q.lo lo := rlG.on hide_same
      have rh' : RtAt K G q.hi hi := rhG.on hide_same
      refine ⟨b, _, rfl, sqt_on (sqt_on eb hG) hide_same, rfl, _, _, rfl, _, _, rfl, _, _, rfl, rfl, ?_⟩
      refine gn1 (σ' := [some (.ref p), some (.ref l), some (.ref a3), some (.ref lo), some (.ref hi), some (.str q.kind), v6]) rfl ?_
      have ul := unit_nat okq.low (Rat.le_trans (Rat.le_of_lt okq.lt) okq.high)
      have uh := unit_nat (Rat.le_trans okq.low (Rat.le_of_lt okq.lt)) okq.high
      have dl := den_pos q.lo
      have dh := den_pos q.hi
      have tl := zq.1.top
      have bl := zq.1.bot
      have th := zq.2.top
      have bh := zq.2.bot
      have big : ∀ {z : Int}, z.natAbs < 2 ^ 400 → z.natAbs < 2 ^ 8000 := fun h => lt_up h (by decide)
      have m1 : (q.lo.num * (q.hi.den : Int)).natAbs < 2 ^ 240 := mul_small (j := 120) (k := 120) tl (by rw [pos_abs]; exact bh)
      have m2 : (q.hi.num * (q.lo.den : Int)).natAbs < 2 ^ 240 := mul_small (j := 120) (k := 120) th (by rw [pos_abs]; exact bl)
      have m3 : ((2 : Int) * (q.lo.den : Int)).natAbs < 2 ^ 122 := mul_small (j := 2) (k := 120) (by decide) (by rw [pos_abs]; exact bl)
      have m4 : ((2 : Int) * (q.lo.den : Int) * (q.hi.den : Int)).natAbs < 2 ^ 242 := mul_small (j := 122) (k := 120) m3 (by rw [pos_abs]; exact bh)
      have pos4 : 0 < (2 : Int) * (q.lo.den : Int) * (q.hi.den : Int) := Int.mul_pos (by omega) dh
      have up1 : q.lo.num * (q.hi.den : Int) ≤ (q.lo.den : Int) * (q.hi.den : Int) := Int.mul_le_mul_of_nonneg_right ul.2 (Int.le_of_lt dh)
      have up2 : q.hi.num * (q.lo.den : Int) ≤ (q.hi.den : Int) * (q.lo.den : Int) := Int.mul_le_mul_of_nonneg_right uh.2 (Int.le_of_lt dl)
      have nn1 : 0 ≤ q.lo.num * (q.hi.den : Int) := Int.mul_nonneg ul.1 (Int.le_of_lt dh)
      have nn2 : 0 ≤ q.hi.num * (q.lo.den : Int) := Int.mul_nonneg uh.1 (Int.le_of_lt dl)
      have eq4 : (2 : Int) * (q.lo.den : Int) * (q.hi.den : Int) = (q.lo.den : Int) * (q.hi.den : Int) + (q.hi.den : Int) * (q.lo.den : Int) := by
        rw [Int.mul_comm (q.hi.den : Int) (q.lo.den : Int), Int.mul_assoc, Int.two_mul]
      have b120 : ∀ {z : Nat}, z < 2 ^ 120 → ((z : Nat) : Int).natAbs < 2 ^ 8000 := fun {z} h => lt_up (j := 120) (by rw [Int.natAbs_natCast]; exact h) (by decide)
      have t120 : ∀ {z : Int}, z.natAbs < 2 ^ 120 → z.natAbs < 2 ^ 8000 := fun h => lt_up h (by decide)
      have ub : Unit2 (Rat.divInt (q.lo.num * (q.hi.den : Int) + q.hi.num * (q.lo.den : Int)) (2 * (q.lo.den : Int) * (q.hi.den : Int))) := frac01 (k := 242) pos4 (Int.add_nonneg nn1 nn2) (by rw [eq4]; exact Int.add_le_add up1 up2) m4 (by decide)
      have top1 : (q.lo.num * (q.hi.den : Int) + q.hi.num * (q.lo.den : Int)).natAbs < 2 ^ 8000 := lt_up (add_small m1 m2) (by decide)
      refine ⟨_, rfl, lo, _, _, _, rfl, rfl, rl', rfl, _, rfl, hi, _, _, _, rfl, rfl, rh', rfl, _, _, rfl, rfl, mulW_ok (t120 tl) (b120 bh), ?_⟩
      refine ⟨_, rfl, hi, _, _, _, rfl, rfl, rh', rfl, _, rfl, lo, _, _, _, rfl, rfl, rl', rfl, _, _, rfl, rfl, mulW_ok (t120 th) (b120 bl), ?_⟩
      refine ⟨_, _, rfl, rfl, ?_⟩
      refine ⟨_, rfl, lo, _, _, _, rfl, rfl, rl', rfl, _, _, rfl, rfl, mulW_ok (by decide) (b120 bl), ?_⟩
      refine ⟨_, rfl, hi, _, _, _, rfl, rfl, rh', rfl, _, _, rfl, rfl, mulW_ok (lt_up m3 (by decide)) (b120 bh), ?_⟩
      refine ⟨_, _, rfl, ⟨pos4, top1, lt_up m4 (by decide), fun mt G1 n1' s1 r1 => ?_⟩⟩
      obtain ⟨md, hmd⟩ : ∃ md, Rat.divInt (q.lo.num * (q.hi.den : Int) + q.hi.num * (q.lo.den : Int)) (2 * (q.lo.den : Int) * (q.hi.den : Int)) = md := ⟨_, rfl⟩
      rw [hmd] at r1 ub
      have PG1 := PG.same s1
      have r1h := rt_hide PG n1' s1 r1
      refine gn1 (σ' := [some (.ref p), some (.ref l), some (.ref a3), some (.ref lo), some (.ref hi), some (.str q.kind), some (.ref mt)]) rfl ?_
      have um := unit_nat ub.1 ub.2.1
      have dm := den_pos md
      have tm := ub.2.2.top
      have bm := ub.2.2.bot
      have dB : ((md.den : Int)).natAbs < 2 ^ 242 := by rw [pos_abs]; exact bm
      obtain ⟨rest, hrest⟩ : ∃ rest, md.num % 2 = rest := ⟨_, rfl⟩
      have r01 : 0 ≤ rest ∧ rest ≤ 1 := by omega
      have rB : rest.natAbs < 2 ^ 242 := lt_up (j := 1) (by omega) (by decide)
      have w3 : ((md.den : Int) + rest).natAbs < 2 ^ 243 := add_small dB rB
      have pos5 : (0 : Int) < (md.den : Int) + rest := by omega
      have un : Unit4 (Rat.divInt md.num ((md.den : Int) + rest)) := frac01 (k := 243) pos5 um.1 (by omega) w3 (by decide)
      refine ⟨_, rfl, _, rfl, _, rfl, _, rfl, ?_⟩
      refine ⟨_, rfl, mt, _, _, _, rfl, rfl, r1, rfl, ?_⟩
      refine ⟨_, rfl, mt, _, _, _, rfl, rfl, r1, rfl, ?_⟩
      refine ⟨_, rfl, mt, _, _, _, rfl, rfl, r1, rfl, _, _, rfl, rfl, (by show (0 : Int) < 2; decide), ?_⟩
      refine ⟨(md.den : Int), rest, rfl, congrArg V.int hrest, ?_⟩
      refine ⟨_, _, rfl, ⟨pos5, lt_up tm (by decide), lt_up w3 (by decide), fun nt G2 n2' s2 r2 => ?_⟩⟩
      have PG2 := PG1.same s2
      have r2h := rt_hide PG1 n2' s2 r2
      refine ⟨(by show 4 ≤ sizeLine; decide), fun l6 m6 => ?_⟩
      obtain ⟨G3, e6, P6, B6, f6⟩ := mk_at (.lst [.ref lo, .ref hi, .ref mt, .ref nt]) PG2 m6
      rw [e6]
      obtain ⟨bs, fb, pb⟩ := O.ex
      have lb := paired_len pb
      have h12 := (Same.but (p := p) s1).hide.trans (Same.but (p := p) s2).hide
      have h13 := h12.trans B6.hide
      refine ⟨a3, l6, _, _, rfl, rfl, hide_same _ _ (h13 _ _ fb), hide_same _ _ f6, by rw [List.length_map, ← lb, lx, sizeLine_eq]; show _ + 4 ≤ _; omega, fun l7 m7 => ?_⟩
      obtain ⟨G4, e7, P7, B7, f7⟩ := mk_at (.lst (bs.map V.ref ++ [.ref lo, .ref hi, .ref mt, .ref nt])) P6 m7
      rw [e7]
      have h14 := h13.trans B7.hide
      have t3 : Same G2 G3 := by
        rw [← e6]
        exact fun b o q => (upd_ne (ne_of_none q m6)).trans q
      have t4 : Same G3 G4 := by
        rw [← e7]
        exact fun b o q => (upd_ne (ne_of_none q m7)).trans q
      refine ⟨l7, _, _, _, _, xs ++ [q.lo, q.hi, md, Rat.divInt md.num ((md.den : Int) + rest)], rfl, sG.trans (s1.trans (s2.trans (t3.trans t4))), ⟨bs ++ [lo, hi, mt, nt], ?_, ?_⟩, ?_, ?_⟩
      · rw [f7, List.map_append]
        rfl
      · exact paired_app2 (rts_on pb h14) (.cons (rlG.on h14) (.cons (rhG.on h14) (.cons ((r1h.on (Same.but (p := p) s2).hide).on (B6.hide.trans B7.hide)) (.cons (r2h.on (B6.hide.trans B7.hide)) .nil))))
      · rw [List.length_append, lx]
        show _ + 4 = _
        omega
      · intro y hy
        rcases List.mem_append.mp hy with hy | hy
        · exact nx4 y hy
        · simp only [List.mem_cons, List.not_mem_nil, or_false] at hy
          rcases hy with rfl | rfl | rfl | rfl
          · exact ⟨okq.low, Rat.le_trans (Rat.le_of_lt okq.lt) okq.high, zq.1.mono (by decide)⟩
          · exact ⟨Rat.le_trans okq.low (Rat.le_of_lt okq.lt), okq.high, zq.2.mono (by decide)⟩
          · exact ⟨ub.1, ub.2.1, ub.2.2.mono (by decide)⟩
          · exact un
    · rintro σ G ⟨a3, v3, v4, v5, v6, xs, rfl, sG, O, lx, nx4⟩
      obtain ⟨bs, fb, pb⟩ := O.ex
      have lb := paired_len pb
      have PG := P4.same sG
      have lx2 : xs.length ≤ 27 := by
        rw [List.length_map, ← la] at lx
        have := L4.few
        omega
      refine ⟨_, rfl, _, rfl, _, rfl, a3, _, rfl, .inl (SqL.of (hide_same _ _ fb)), ?_⟩
      refine ⟨p, ((bs.map V.ref).length : Int), c1, rfl, PG, by omega, by rw [List.length_map, ← lb, lx]; omega, by rw [List.length_map, ← lb]; omega, fun d c5 H5 d0 d1 k5 P5 B5 => ?_⟩
      have fb5 := B5.hide _ _ fb
      obtain ⟨v, hat, mv⟩ := at_mem d0 d1
      obtain ⟨j, hj⟩ := List.getElem?_of_mem mv
      obtain ⟨e, he, rfl⟩ := get_map hj
      obtain ⟨y, hy, ry⟩ := pc_get pb he
      refine ⟨a3, _, _, .ref e, rfl, rfl, SqL.of (hide_same _ _ fb5), hat, ?_⟩
      · exact h.fin e y c5 H5 (by omega) (nx4 y (List.mem_of_getElem? hy)) P5 (B04.trans ((but_same sG).trans B5)) (ry.on B5.hide)
end
end G1
set_option maxHeartbeats 8000000
namespace G1
open PySem PySem.Spec PyProof.Rows L2 JN
/-! ### the law's sum and difference of fractions -/
def pm (k : Int) (x y : Rat) : Rat := if k = 1 then x + y else x - y
theorem pm_div {k : Int} (hk : k = 1 ∨ k = -1) (x y : Rat) : Rat.divInt (x.num * (y.den : Int) + k * y.num * (x.den : Int)) ((x.den : Int) * (y.den : Int)) = pm k x y := by
  unfold pm
  rcases hk with rfl | rfl
  · rw [if_pos rfl, ← add_div, Int.one_mul]
  · rw [if_neg (by decide), ← sub_div]
    congr 1
    grind
structure PlusP (K : PySem.W.Frag) (t u : Addr) (x y : Rat) (k : Int) (H : Hp) (Q : VK) : Prop where
  one : k = 1 ∨ k = -1
  rx : RtAt K H x t
  ry : RtAt K H y u
  sx : Sz 3900 x
  sy : Sz 3900 y
  fin : ∀ (b : Addr) (H' : Hp), H b = none → Same H H' → RtAt K H' (pm k x y) b → Q (.ref b) H'
def spPlusL (K : PySem.W.Frag) : Sp := fun vs H Q _ => ∃ (t u : Addr) (x y : Rat) (k : Int), vs = [.ref t, .ref u, .int k] ∧ PlusP K t u x y k H Q
section
variable {P : Program} {w : World} {K : PySem.W.Frag} {mg : Str → Option Value} {base : Heap}
theorem scPlusL : FnScope ["u", "v", "times_v"] ["u", "v", "times_v"] (defScope lPlus) := ⟨rfl, rfl, rfl, by decide +kernel, rfl, by decide +kernel, by decide +kernel⟩
theorem cl_plusl (D : DefAt K mg "_law_plus" lPlus) (cL : Cl CX0 P w K mg base 2 "_law_lowest" ["above", "beneath"] (spLowest K)) : Cl CX0 P w K mg base 3 "_law_plus" ["u", "v", "times_v"] (spPlusL K) := by
  obtain ⟨f, fd, F, hm⟩ := D
  refine cl_of F hm (F.ok scPlusL (fun vs H Q E h => ?_) (fun cdv A outer s H vs Q E hr h => ⟨_, PSs.nox
      (pss_one (ps_ret (pe_c0 cL hr (by decide) (by rfl) (pa_cons
        (pe_op op_add (pe_op op_mulW (pe_ix ix_tup (pv 0) pe_int (fun _ _ => rfl)) (pe_ix ix_tup (pv 1) pe_int (fun _ _ => rfl))) (pe_op op_mulW (pe_op op_mulW (pv 2) (pe_ix ix_tup (pv 1) pe_int (fun _ _ => rfl))) (pe_ix ix_tup (pv 0) pe_int (fun _ _ => rfl))))
        (pa_cons (pe_op op_mulW (pe_ix ix_tup (pv 0) pe_int (fun _ _ => rfl)) (pe_ix ix_tup (pv 1) pe_int (fun _ _ => rfl))) pa_nil))))), ?_⟩)) fun _ _ _ _ _ _ us hl => match us, hl with | [_, _, _], _ => rfl
  · obtain ⟨t, u, x, y, k, rfl, _⟩ := h
    rfl
  · obtain ⟨t, u, x, y, k, rfl, h⟩ := h
    have ht := h.rx
    have hu := h.ry
    have dx : ((x.den : Int)).natAbs < 2 ^ 3900 := dn x h.sx.bot
    have dy : ((y.den : Int)).natAbs < 2 ^ 3900 := dn y h.sy.bot
    have up : ∀ {z : Int} {n : Nat}, z.natAbs < 2 ^ n → n ≤ 8000 → z.natAbs < 2 ^ 8000 := fun h l => lt_up h l
    have k1 : k.natAbs < 2 ^ 1 := by
      rcases h.one with e | e <;> rw [e] <;> decide
    have m1 : (x.num * (y.den : Int)).natAbs < 2 ^ 7800 := mul_small (j := 3900) (k := 3900) h.sx.top dy
    have m2 : (k * y.num).natAbs < 2 ^ 3901 := mul_small (j := 1) (k := 3900) k1 h.sy.top
    have m3 : (k * y.num * (x.den : Int)).natAbs < 2 ^ 7801 := mul_small (j := 3901) (k := 3900) m2 dx
    have m4 : ((x.den : Int) * (y.den : Int)).natAbs < 2 ^ 7800 := mul_small (j := 3900) (k := 3900) dx dy
    have m5 := add_small (lt_up (k := 7801) m1 (by decide)) m3
    refine ⟨_, rfl, t, _, _, _, rfl, rfl, ht, rfl, _, rfl, u, _, _, _, rfl, rfl, hu, rfl, _, _, rfl, rfl, mulW_ok (up h.sx.top (by decide)) (up dy (by decide)), ?_⟩
    refine ⟨_, rfl, _, rfl, u, _, _, _, rfl, rfl, hu, rfl, _, _, rfl, rfl, mulW_ok (up k1 (by decide)) (up h.sy.top (by decide)), ?_⟩
    refine ⟨_, rfl, t, _, _, _, rfl, rfl, ht, rfl, _, _, rfl, rfl, mulW_ok (up m2 (by decide)) (up dx (by decide)), ?_⟩
    refine ⟨_, _, rfl, rfl, ?_⟩
    refine ⟨_, rfl, t, _, _, _, rfl, rfl, ht, rfl, _, rfl, u, _, _, _, rfl, rfl, hu, rfl, _, _, rfl, rfl, mulW_ok (up dx (by decide)) (up dy (by decide)), ?_⟩
    refine ⟨_, _, rfl, ⟨Int.mul_pos (den_pos x) (den_pos y), up m5 (by decide), up m4 (by decide), fun b H' nb s r => h.fin b H' nb s ?_⟩⟩
    rw [pm_div h.one] at r
    exact r
end
end G1
set_option maxHeartbeats 4000000
/-! sizes and bounds of both and then -/
namespace JN
open PySem PySem.Spec PyProof.Rows L2 G1
theorem around_some {ps : List Pc} {x y : Rat} {p : Pc} (h : around ps x y = some p) : p ∈ ps ∧ p.has x y = true := ⟨List.mem_of_find?_eq_some h, List.find?_some (p := fun q => Pc.has q x y) h⟩
theorem around_at : ∀ {ps : List Pc} {x y : Rat} {i : Nat} {p : Pc}, ps[i]? = some p → p.has x y = true → (∀ m q, m < i → ps[m]? = some q → q.has x y = false) → around ps x y = some p
  | [], _, _, _, _, h, _, _ => by cases h
  | q :: ps, x, y, 0, p, h, t, _ => by
    cases h
    unfold around
    rw [List.find?_cons, t]
  | q :: ps, x, y, i + 1, p, h, t, n => by
    have e := n 0 q (Nat.succ_pos i) rfl
    have r := around_at (ps := ps) (i := i) h t fun m q hm hq => n (m + 1) q (Nat.succ_lt_succ hm) hq
    unfold around at r ⊢
    rw [List.find?_cons, e]
    exact r
theorem around_none {ps : List Pc} {x y : Rat} (h : ∀ (m : Nat) q, ps[m]? = some q → q.has x y = false) : around ps x y = none := by
  unfold around
  rw [List.find?_eq_none]
  intro q hq
  obtain ⟨m, hm⟩ := List.getElem?_of_mem hq
  rw [h m q hm]
  exact Bool.false_ne_true
theorem has_iff {p : Pc} {x y : Rat} (h : p.has x y = true) : p.lo ≤ x ∧ p.lo ≤ y ∧ x ≤ p.hi ∧ y ≤ p.hi := by
  have e := of_decide_eq_true h
  unfold low high at e
  grind
theorem has_of {p : Pc} {x y : Rat} (h : p.lo ≤ x ∧ p.lo ≤ y ∧ x ≤ p.hi ∧ y ≤ p.hi) : p.has x y = true := by
  refine decide_eq_true ?_
  unfold low high
  grind
theorem low_sz {b : Nat} {x y : Rat} (hx : Sz b x) (hy : Sz b y) : Sz b (low x y) := by
  unfold low
  split
  · exact hy
  · exact hx
theorem high_sz {b : Nat} {x y : Rat} (hx : Sz b x) (hy : Sz b y) : Sz b (high x y) := by
  unfold high
  split
  · exact hy
  · exact hx
theorem both_sz {ps : List Pc} {b : Nat} {x y : Rat} (hz : ∀ p ∈ ps, PSz 120 p) (ok : ∀ p ∈ ps, p.ok) (hx : Sz b x) (hy : Sz b y) : Sz (2 * b + 700) (bothQ ps x y) := by
  unfold bothQ
  split
  · exact (low_sz hx hy).mono (by omega)
  · rename_i p e
    obtain ⟨m, _⟩ := around_some e
    have z := hz p m
    have l := (ok p m).lt
    unfold Pc.both
    split
    · exact high_sz (z.1.mono (by omega)) (((hx.add hy).sub z.2).mono (by omega))
    · exact (z.1.add (((hx.sub z.1).mul (hy.sub z.1)).quo (z.2.sub z.1) (by grind))).mono (by omega)
theorem then_sz {ps : List Pc} {b : Nat} {x y : Rat} (hz : ∀ p ∈ ps, PSz 120 p) (ok : ∀ p ∈ ps, p.ok) (hx : Sz b x) (hy : Sz b y) : Sz (2 * b + 700) (thenQ ps x y) := by
  unfold thenQ
  split
  · rename_i c
    split
    · exact hy.mono (by omega)
    · rename_i p e
      obtain ⟨m, t⟩ := around_some e
      have z := hz p m
      have l := (ok p m).lt
      have hh := has_iff t
      unfold Pc.then
      split
      · exact ((z.2.sub hx).add hy).mono (by omega)
      · exact (z.1.add (((z.2.sub z.1).mul (hy.sub z.1)).quo (hx.sub z.1) (by grind))).mono (by omega)
  · exact sz01.2.mono (by omega)
end JN
set_option maxHeartbeats 4000000
/-! what joinings are: the mathematics of both and then over a row of pieces -/
namespace JN
open PySem PySem.Spec PyProof.Rows L2 G1
/-- x lies in the piece -/
def Pc.in (p : Pc) (x : Rat) : Prop := p.lo ≤ x ∧ x ≤ p.hi
theorem has_in {p : Pc} {x y : Rat} : p.has x y = true ↔ p.in x ∧ p.in y :=
  ⟨fun h => by have := has_iff h; exact ⟨⟨this.1, this.2.2.1⟩, ⟨this.2.1, this.2.2.2⟩⟩, fun h => has_of ⟨h.1.1, h.2.1, h.1.2, h.2.2⟩⟩
theorem mul_nn {a b : Rat} (ha : 0 ≤ a) (hb : 0 ≤ b) : 0 ≤ a * b := Rat.mul_nonneg ha hb
theorem div_mul {a b : Rat} (hb : 0 < b) : a / b * b = a := Rat.div_mul_cancel (by grind)
/-- a quotient told by its product -/
theorem quo_at {a b : Rat} (hb : 0 < b) : ∃ q : Rat, a / b = q ∧ q * b = a := ⟨a / b, rfl, div_mul hb⟩
theorem le_of_mul {q r b : Rat} (hb : 0 < b) (h : q * b ≤ r * b) : q ≤ r := by
  rcases (Rat.le_total : q ≤ r ∨ r ≤ q) with e | e
  · exact e
  · have := Rat.mul_le_mul_of_nonneg_right (c := b) e (by grind)
    have k : q * b = r * b := by grind
    have : (q - r) * b = 0 := by grind
    rcases Rat.mul_eq_zero.mp this with z | z <;> grind
/-! one piece -/
theorem pc_comm (p : Pc) (x y : Rat) : p.both x y = p.both y x := by
  unfold Pc.both high
  rw [show x + y = y + x from Rat.add_comm x y, show (x - p.lo) * (y - p.lo) = (y - p.lo) * (x - p.lo) from Rat.mul_comm _ _]
theorem pc_lo {p : Pc} (o : p.ok) {y : Rat} (h : p.in y) : p.both p.lo y = p.lo := by
  have l := o.lt
  unfold Pc.in at h
  unfold Pc.both high
  split
  · split <;> grind
  · obtain ⟨q, e, m⟩ := quo_at (a := (p.lo - p.lo) * (y - p.lo)) (b := p.hi - p.lo) (by grind)
    rw [e]
    have : q * (p.hi - p.lo) = 0 := by rw [m]; grind
    rcases Rat.mul_eq_zero.mp this with z | z <;> grind
theorem pc_hi {p : Pc} (o : p.ok) {y : Rat} (h : p.in y) : p.both p.hi y = y := by
  have l := o.lt
  unfold Pc.in at h
  unfold Pc.both high
  split
  · split <;> grind
  · obtain ⟨q, e, m⟩ := quo_at (a := (p.hi - p.lo) * (y - p.lo)) (b := p.hi - p.lo) (by grind)
    rw [e]
    have : (q - (y - p.lo)) * (p.hi - p.lo) = 0 := by grind
    rcases Rat.mul_eq_zero.mp this with z | z <;> grind
theorem pc_mono {p : Pc} (o : p.ok) {x y w : Rat} (hx : p.in x) (hy : p.in y) (hw : p.in w) (le : x ≤ y) : p.both x w ≤ p.both y w := by
  have l := o.lt
  unfold Pc.in at hx hy hw
  unfold Pc.both high
  split
  · split <;> split <;> grind
  · obtain ⟨q, e, m⟩ := quo_at (a := (x - p.lo) * (w - p.lo)) (b := p.hi - p.lo) (by grind)
    obtain ⟨r, f, n⟩ := quo_at (a := (y - p.lo) * (w - p.lo)) (b := p.hi - p.lo) (by grind)
    rw [e, f]
    have k := mul_nn (a := y - x) (b := w - p.lo) (by grind) (by grind)
    have := le_of_mul (q := q) (r := r) (b := p.hi - p.lo) (by grind) (by rw [m, n]; grind)
    grind
theorem pc_in {p : Pc} (o : p.ok) {x y : Rat} (hx : p.in x) (hy : p.in y) : p.lo ≤ p.both x y ∧ p.both x y ≤ x ∧ p.both x y ≤ y := by
  have l := o.lt
  have hl : p.in p.lo := by unfold Pc.in; grind
  have hh : p.in p.hi := by unfold Pc.in; grind
  have a := pc_mono o hl hx hy hx.1
  have b := pc_mono o hx hh hy hx.2
  have c := pc_mono o hy hh hx hy.2
  rw [pc_lo o hy] at a
  rw [pc_hi o hy] at b
  rw [pc_hi o hx, pc_comm] at c
  exact ⟨a, c, b⟩
theorem pc_assoc {p : Pc} (o : p.ok) {x y z : Rat} (hx : p.in x) (hy : p.in y) (hz : p.in z) : p.both (p.both x y) z = p.both x (p.both y z) := by
  have l := o.lt
  unfold Pc.in at hx hy hz
  unfold Pc.both high
  split
  · split <;> split <;> split <;> split <;> grind
  · have d : p.hi - p.lo ≠ 0 := by grind
    grind
theorem pc_then_both {p : Pc} (o : p.ok) {x y : Rat} (hx : p.in x) (hy : p.in y) (lt : y < x) : y ≤ p.then x y ∧ p.then x y ≤ p.hi ∧ p.both x (p.then x y) = y := by
  have l := o.lt
  unfold Pc.in at hx hy
  unfold Pc.both Pc.then high
  split
  · refine ⟨by grind, by grind, ?_⟩
    split <;> grind
  · obtain ⟨q, e, m⟩ := quo_at (a := (p.hi - p.lo) * (y - p.lo)) (b := x - p.lo) (by grind)
    rw [e]
    obtain ⟨r, f, n⟩ := quo_at (a := (x - p.lo) * (p.lo + q - p.lo)) (b := p.hi - p.lo) (by grind)
    rw [f]
    have k := mul_nn (a := p.hi - x) (b := y - p.lo) (by grind) (by grind)
    have k2 := mul_nn (a := p.hi - p.lo) (b := x - y) (by grind) (by grind)
    have u1 : y - p.lo ≤ q := le_of_mul (b := x - p.lo) (by grind) (by rw [m]; grind)
    have u2 : q ≤ p.hi - p.lo := le_of_mul (b := x - p.lo) (by grind) (by rw [m]; grind)
    refine ⟨by grind, by grind, ?_⟩
    have : (r - (y - p.lo)) * (p.hi - p.lo) = 0 := by grind
    rcases Rat.mul_eq_zero.mp this with z | z <;> grind
end JN
set_option maxHeartbeats 8000000
namespace G1
open PySem PySem.Spec PyProof.Rows L2 JN
/-! ### the law's piece around two degrees -/
/-- a list of pieces in their order -/
structure RowL (K : PySem.W.Frag) (H : Hp) (l : Addr) (ls : List Pc) : Prop where
  ex : ∃ as : List Addr, H l = some (.lst (as.map V.ref)) ∧ PcsAt K H ls as
  row : Row ls
  sz : ∀ p ∈ ls, PSz 120 p
theorem RowL.on {K : PySem.W.Frag} {H H' : Hp} {l : Addr} {ls : List Pc} (h : RowL K H l ls) (s : Same H H') : RowL K H' l ls := by
  obtain ⟨as, h1, h2⟩ := h.ex
  exact ⟨⟨as, s _ _ h1, pcs_on s h2⟩, h.row, h.sz⟩
structure PieceP (K : PySem.W.Frag) (l t u : Addr) (ls : List Pc) (x y : Rat) (H : Hp) (Q : VK) : Prop where
  lot : RowL K H l ls
  rx : RtAt K H x t
  ry : RtAt K H y u
  sx : Sz 3900 x
  sy : Sz 3900 y
  no : ∀ H', Same H H' → around ls x y = none → Q .non H'
  yes : ∀ (b lo hi : Addr) (p : Pc) (H' : Hp), Same H H' → around ls x y = some p → H' b = some (.lst [.ref lo, .ref hi, .str p.kind]) → RtAt K H' p.lo lo → RtAt K H' p.hi hi → Q (.ref b) H'
def spPieceL (K : PySem.W.Frag) : Sp := fun vs H Q _ => ∃ (l t u : Addr) (ls : List Pc) (x y : Rat), vs = [.ref l, .ref t, .ref u] ∧ PieceP K l t u ls x y H Q
abbrev dTwo (a b : Bool) : PyData := .list [.bool a, .bool b]
theorem two_shp (a b : Bool) : SeqAt.shaped (dTwo a b) = true := by cases a <;> cases b <;> decide +kernel
theorem two_eqv (a b : Bool) : PyData.eqv (dTwo a b) (dTwo true true) = (a && b) := by cases a <;> cases b <;> decide +kernel
theorem in_bool (p : Pc) (x : Rat) : ((!decide (x < p.lo)) && (!decide (p.hi < x))) = decide (¬ x < p.lo ∧ ¬ p.hi < x) := by
  by_cases a : x < p.lo <;> by_cases b : p.hi < x <;> simp [a, b]
section
variable {P : Program} {w : World} {K : PySem.W.Frag} {mg : Str → Option Value} {base : Heap}
abbrev nPiece : List Str := ["lot", "u", "v", "low", "high", "kind", "inside", "one"]
theorem scPiece : FnScope nPiece ["lot", "u", "v"] (defScope lPiece) := ⟨rfl, rfl, rfl, by decide +kernel, rfl, by decide +kernel, by decide +kernel⟩
theorem cl_piecel (D : DefAt K mg "_law_piece" lPiece) (cL : Cl CX0 P w K mg base 1 "_law_less" ["u", "v"] (spLess K)) : Cl CX0 P w K mg base 2 "_law_piece" ["lot", "u", "v"] (spPieceL K) := by
  obtain ⟨f, fd, F, hm⟩ := D
  refine cl_of F hm (F.ok scPiece (fun vs H Q E h => ?_) (fun cdv A outer s H vs Q E hr h => ⟨_, PSs.nox (pss_cons
      (ps_for PassesOwn.never rfl (pi_list (pv 0)) (pg_tup (by rfl) (pgs_cons (pg_name (i := 3) scPiece.nd rfl (Or.inr rfl)) (pgs_cons (pg_name (i := 4) scPiece.nd rfl (Or.inr rfl)) (pgs_cons (pg_name (i := 5) scPiece.nd rfl (Or.inl rfl)) pgs_nil))))
        (pss_cons (ps_setLc (i := 6) (own := [("one", 7)]) (g := gName 7) (tt := tYes) (te := tAndV (tNotV (tCall (spLess K) [] E0 (tCons (tVar 7) (tCons (tVar 3) tNil)))) (tNotV (tCall (spLess K) [] E0 (tCons (tVar 4) (tCons (tVar 7) tNil))))) (by rfl) scPiece.nd rfl rfl (sw_true rfl rfl rfl (by decide +kernel)) (pi_tup (pe_tup (pa_cons (pv 1) (pa_cons (pv 2) pa_nil)))) (blkOk_by (N := nPiece) (sc := defScope lPiece) (by decide +kernel))
            (fun _ _ _ _ _ => pg_name (i := 7) scPiece.nd rfl (Or.inl rfl)) (fun _ _ _ _ _ => pts_nil) (fun _ _ _ _ _ => pe_and (pe_not (pe_c0 cL hr (by decide) (by rfl) (pa_cons (pv 7) (pa_cons (pv 3) pa_nil)))) (pe_one (pe_not (pe_c0 cL hr (by decide) (by rfl) (pa_cons (pv 4) (pa_cons (pv 7) pa_nil)))))))
        (pss_one (ps_if (pt_cmpR (op_eqD hr.units) (pv 6) (pe_lst (pa_cons pe_bl (pa_cons pe_bl pa_nil))) (nomark _))
          (pss_one (ps_ret (pe_lst (pa_cons (pv 3) (pa_cons (pv 4) (pa_cons (pv 5) pa_nil)))))) pss_nil))))
      (pss_one (ps_ret pe_non))), ?_⟩)) fun _ _ _ _ _ _ us hl => match us, hl with | [_, _, _], _ => rfl
  · obtain ⟨l, t, u, ls, x, y, rfl, _⟩ := h
    rfl
  · obtain ⟨l, t, u, ls, x, y, rfl, h⟩ := h
    obtain ⟨as, fl, pr⟩ := h.lot.ex
    have la : ls.length = as.length := Paired.length pr
    refine ⟨_, rfl, l, rfl, ⟨_, SqL.of fl⟩, for_list (xs := as.map V.ref) (fun i σ G => ∃ (v3 v4 v5 v6 v7 : Option V), σ = [some (.ref l), some (.ref t), some (.ref u), v3, v4, v5, v6, v7] ∧ Same H G ∧ ∀ (m : Nat) q, m < i → ls[m]? = some q → q.has x y = false)
      ⟨none, none, none, none, none, rfl, .refl _, fun _ _ z => absurd z (Nat.not_lt_zero _)⟩ (fun i σ G _ h => ?_) ?_ ?_⟩
    · obtain ⟨_, _, _, _, _, _, s, _⟩ := h
      exact SqL.of (s _ _ fl)
    · rintro i v σ G hv ⟨v3, v4, v5, v6, v7, rfl, sG, past⟩
      obtain ⟨b, hb, rfl⟩ := get_map hv
      obtain ⟨p, hp, ⟨lo, hi, eb, rl, rh⟩⟩ := pc_get pr hb
      have zp := h.lot.sz p (List.mem_of_getElem? hp)
      refine ⟨b, _, rfl, sqt_on eb sG, rfl, _, _, rfl, _, _, rfl, _, _, rfl, rfl, ?_⟩
      refine gn1 (σ' := [some (.ref l), some (.ref t), some (.ref u), some (.ref lo), some (.ref hi), some (.str p.kind), v6, v7]) rfl ?_
      refine ⟨_, rfl, _, rfl, (by show 2 ≤ sizeLine; decide), fun tt nt => ?_⟩
      obtain ⟨G1, e1, s1, f1⟩ := mk_s (.tup [.ref t, .ref u]) nt
      rw [e1]
      refine ⟨tt, rfl, ⟨_, SqT.of f1⟩, fun D nD => ?_⟩
      have sG1 := sG.trans s1
      let inb : Rat → Bool := fun z => (!decide (z < p.lo)) && (!decide (p.hi < z))
      have inbE : ∀ z, inb z = ((!decide (z < p.lo)) && (!decide (p.hi < z))) := fun _ => rfl
      refine lc_tup (K := K) (xs := [.ref t, .ref u]) (fun j G' => Same G1 G' ∧ G' D = some (.lst ((([x, y] : List Rat).take j).map fun z => V.bl (inb z)))) ⟨same_at nD (Same.refl _), upd_same⟩ (fun j G' _ h => SqT.of (h.1 _ _ f1)) ?_ ?_
      · rintro j v G' hv ⟨s', fD⟩
        have hz : ∃ (a : Addr) (z : Rat), v = .ref a ∧ ([x, y] : List Rat)[j]? = some z ∧ RtAt K G' z a ∧ Sz 8000 z ∧ j < 2 := by
          have sH := sG1.trans s'
          match j, hv with
          | 0, hv =>
            cases hv
            exact ⟨t, x, rfl, rfl, h.rx.on sH, h.sx.mono (by decide), by omega⟩
          | 1, hv =>
            cases hv
            exact ⟨u, y, rfl, rfl, h.ry.on sH, h.sy.mono (by decide), by omega⟩
        obtain ⟨a, z, rfl, hz, rz, sz, j2⟩ := hz
        have rl' := rl.on (sG1.trans s')
        have rh' := rh.on (sG1.trans s')
        have fin : ∀ c : Bool, c = inb z → ∃ acc, G' D = some (.lst acc) ∧ acc.length < sizeLine ∧ Same G1 (upd G' D (.lst (acc ++ [V.bl c]))) ∧ upd G' D (.lst (acc ++ [V.bl c])) D = some (.lst ((([x, y] : List Rat).take (j + 1)).map fun z => V.bl (inb z))) := by
          rintro c rfl
          refine ⟨_, fD, ?_, same_at nD s', ?_⟩
          · rw [List.length_map, List.length_take, sizeLine_eq]
            omega
          · rw [upd_same, List.take_succ, hz, List.map_append]
            rfl
        refine ⟨rfl, yes_to ?_⟩
        rw [if_pos rfl]
        refine ⟨_, rfl, _, rfl, a, lo, z, p.lo, rfl, rz, rl', sz, zp.1.mono (by decide), _, rfl, _, rfl, ?_⟩
        by_cases c : z < p.lo
        · rw [decide_eq_true c]
          exact iteF (fin false (by rw [inbE, decide_eq_true c]; rfl))
        · rw [decide_eq_false c]
          refine iteT ⟨_, rfl, _, rfl, hi, a, p.hi, z, rfl, rh', rz, zp.2.mono (by decide), sz, _, rfl, ?_⟩
          exact fin _ (by rw [inbE, decide_eq_false c]; rfl)
      · rintro G' ⟨s', fD⟩
        have fD2 : G' D = some (.lst [.bl (inb x), .bl (inb y)]) := fD
        have both_in : p.has x y = (inb x && inb y) := by
          rw [Bool.eq_iff_iff, has_in, inbE, inbE]
          unfold Pc.in
          simp only [Bool.and_eq_true, Bool.not_eq_true', decide_eq_false_iff_not]
          grind
        refine gn1 (σ' := [some (.ref l), some (.ref t), some (.ref u), some (.ref lo), some (.ref hi), some (.str p.kind), some (.ref D), v7]) rfl ?_
        refine ⟨_, rfl, (by show 2 ≤ sizeLine; decide), fun w2 n2 => ?_⟩
        obtain ⟨G2, e2, s2, f2⟩ := mk_s (.lst [.bl true, .bl true]) n2
        rw [e2]
        have sG2 := (sG1.trans s').trans s2
        refine ⟨dTwo (inb x) (inb y), dTwo true true, .lst (SqL.of (s2 _ _ fD2)) (.cons (.bl _) (.cons (.bl _) .nil)), .lst (SqL.of f2) (.cons (.bl _) (.cons (.bl _) .nil)), two_shp _ _, two_shp _ _, _, rfl, ?_⟩
        rw [two_eqv, ← both_in]
        cases ch : p.has x y with
        | false =>
          refine iteF ⟨_, _, _, _, _, rfl, sG2, fun m q hm hq => ?_⟩
          rcases Nat.lt_succ_iff_lt_or_eq.mp hm with z | z
          · exact past m q z hq
          · rw [z, hp] at hq
            cases hq
            exact ch
        | true =>
          refine iteT ⟨_, rfl, _, rfl, _, rfl, (by show 3 ≤ sizeLine; decide), fun w3 n3 => ?_⟩
          obtain ⟨G3, e3, s3, f3⟩ := mk_s (.lst [.ref lo, .ref hi, .str p.kind]) n3
          rw [e3]
          have sG3 := sG2.trans s3
          exact h.yes w3 lo hi p G3 sG3 (around_at hp ch past) f3 (rl.on sG3) (rh.on sG3)
    · rintro σ G ⟨v3, v4, v5, v6, v7, rfl, sG, past⟩
      refine h.no G sG (around_none fun m q hq => past m q ?_ hq)
      rw [List.length_map, ← la]
      exact (List.getElem?_eq_some_iff.mp hq).1
end
end G1
set_option maxHeartbeats 8000000
namespace G1
open PySem PySem.Spec PyProof.Rows L2 JN
/-! ### the law's both and then -/
theorem trip_div {a b w : Rat} : Rat.divInt (a.num * b.num * (w.den : Int)) ((a.den : Int) * (b.den : Int) * w.num) = a * b / w := by
  rw [Rat.div_def, Rat.inv_def, ← mul_div a b, Rat.divInt_mul_divInt]
structure TwoP (K : PySem.W.Frag) (g : List Pc → Rat → Rat → Rat) (l t u : Addr) (ls : List Pc) (x y : Rat) (H : Hp) (Q : VK) : Prop where
  lot : RowL K H l ls
  rx : RtAt K H x t
  ry : RtAt K H y u
  sx : Sz 400 x
  sy : Sz 400 y
  fin : ∀ (b : Addr) (H' : Hp), Same H H' → RtAt K H' (g ls x y) b → Q (.ref b) H'
def spTwoL (K : PySem.W.Frag) (g : List Pc → Rat → Rat → Rat) : Sp := fun vs H Q _ => ∃ (l t u : Addr) (ls : List Pc) (x y : Rat), vs = [.ref l, .ref t, .ref u] ∧ TwoP K g l t u ls x y H Q
theorem kind_sum' (k : Bool) : decide (V.str (kindS k) = V.str "sum") = k := by cases k <;> decide +kernel
theorem plus_one (x y : Rat) : pm 1 x y = x + y := rfl
theorem plus_neg (x y : Rat) : pm (-1) x y = x - y := rfl
section
variable {P : Program} {w : World} {K : PySem.W.Frag} {mg : Str → Option Value} {base : Heap}
abbrev nBoth : List Str := ["lot", "u", "v", "found", "low", "high", "kind", "total", "wide", "one", "second"]
theorem scBothW : FnScope nBoth ["lot", "u", "v"] (defScope lBoth) := ⟨rfl, rfl, rfl, by decide +kernel, rfl, by decide +kernel, by decide +kernel⟩
theorem cl_bothw (D : DefAt K mg "_law_both" lBoth) (cL : Cl CX0 P w K mg base 1 "_law_less" ["u", "v"] (spLess K)) (cP : Cl CX0 P w K mg base 2 "_law_piece" ["lot", "u", "v"] (spPieceL K)) (cS : Cl CX0 P w K mg base 3 "_law_plus" ["u", "v", "times_v"] (spPlusL K))
    (cW : Cl CX0 P w K mg base 2 "_law_lowest" ["above", "beneath"] (spLowest K)) : Cl CX0 P w K mg base 4 "_law_both" ["lot", "u", "v"] (spTwoL K bothQ) := by
  obtain ⟨f, fd, F, hm⟩ := D
  refine cl_of F hm (F.ok scBothW (fun vs H Q E h => ?_) (fun cdv A outer s H vs Q E hr h => ⟨_, PSs.nox (pss_cons
      (ps_set (i := 3) scBothW.nd rfl (Or.inl rfl) (pe_c0 cP hr (by decide) (by rfl) (pa_cons (pv 0) (pa_cons (pv 1) (pa_cons (pv 2) pa_nil)))))
      (pss_cons (ps_if (pt_cmp (pc_isN (pv 3))) (pss_one (ps_ret (pe_ifExp (pt_val (pe_c0 cL hr (by decide) (by rfl) (pa_cons (pv 1) (pa_cons (pv 2) pa_nil)))) (pv 1) (pv 2)))) pss_nil)
      (pss_cons (ps_asg (pv 3) (pg_lst (by rfl) (pgs_cons (pg_name (i := 4) scBothW.nd rfl (Or.inl rfl)) (pgs_cons (pg_name (i := 5) scBothW.nd rfl (Or.inl rfl)) (pgs_cons (pg_name (i := 6) scBothW.nd rfl (Or.inl rfl)) pgs_nil)))))
      (pss_cons (ps_if (pt_cmpR op_eq (pv 6) pe_str (nomark _))
        (pss_cons (ps_set (i := 7) scBothW.nd rfl (Or.inl rfl) (pe_c0 cS hr (by decide) (by rfl) (pa_cons (pe_c0 cS hr (by decide) (by rfl) (pa_cons (pv 1) (pa_cons (pv 2) (pa_cons pe_int pa_nil)))) (pa_cons (pv 5) (pa_cons (pe_un un_neg pe_int) pa_nil)))))
        (pss_one (ps_ret (pe_ifExp (pt_val (pe_c0 cL hr (by decide) (by rfl) (pa_cons (pv 7) (pa_cons (pv 4) pa_nil)))) (pv 4) (pv 7))))) pss_nil)
      (pss_cons (ps_par3 (i := 8) (j := 9) (l := 10) (by rfl) scBothW.nd rfl rfl rfl (by decide) (by decide) (by decide) rfl rfl rfl (pa_cons (pe_c0 cS hr (by decide) (by rfl) (pa_cons (pv 5) (pa_cons (pv 4) (pa_cons (pe_un un_neg pe_int) pa_nil))))
          (pa_cons (pe_c0 cS hr (by decide) (by rfl) (pa_cons (pv 1) (pa_cons (pv 4) (pa_cons (pe_un un_neg pe_int) pa_nil)))) (pa_cons (pe_c0 cS hr (by decide) (by rfl) (pa_cons (pv 2) (pa_cons (pv 4) (pa_cons (pe_un un_neg pe_int) pa_nil)))) pa_nil))) (by rfl))
      (pss_one (ps_ret (pe_c0 cS hr (by decide) (by rfl) (pa_cons (pv 4) (pa_cons (pe_c0 cW hr (by decide) (by rfl) (pa_cons
          (pe_op op_mulW (pe_op op_mulW (pe_ix ix_tup (pv 9) pe_int (fun _ _ => rfl)) (pe_ix ix_tup (pv 10) pe_int (fun _ _ => rfl))) (pe_ix ix_tup (pv 8) pe_int (fun _ _ => rfl)))
          (pa_cons (pe_op op_mulW (pe_op op_mulW (pe_ix ix_tup (pv 9) pe_int (fun _ _ => rfl)) (pe_ix ix_tup (pv 10) pe_int (fun _ _ => rfl))) (pe_ix ix_tup (pv 8) pe_int (fun _ _ => rfl))) pa_nil))) (pa_cons pe_int pa_nil))))))))))), ?_⟩)) fun _ _ _ _ _ _ us hl => match us, hl with | [_, _, _], _ => rfl
  · obtain ⟨l, t, u, ls, x, y, rfl, _⟩ := h
    rfl
  · obtain ⟨l, t, u, ls, x, y, rfl, h⟩ := h
    have up : ∀ {k : Nat} {z : Rat}, Sz k z → k ≤ 3900 → Sz 3900 z := fun h l => h.mono l
    have sx := h.sx
    have sy := h.sy
    refine ⟨_, rfl, _, rfl, _, rfl, l, t, u, ls, x, y, rfl, ⟨h.lot, h.rx, h.ry, up sx (by decide), up sy (by decide), fun G s e => ?_, fun b lo hi p G s e fb rl rh => ?_⟩⟩
    · refine gn1 (σ' := [some (.ref l), some (.ref t), some (.ref u), some .non, none, none, none, none, none, none, none]) rfl ?_
      have eb : bothQ ls x y = low x y := by
        unfold bothQ
        rw [e]
      refine ⟨_, rfl, _, rfl, iteT ?_⟩
      refine ⟨_, rfl, _, rfl, t, u, x, y, rfl, h.rx.on s, h.ry.on s, sx.mono (by decide), sy.mono (by decide), _, rfl, ?_⟩
      by_cases c : x < y
      · rw [decide_eq_true c]
        refine iteT ⟨_, rfl, h.fin t G s ?_⟩
        rw [eb, show low x y = x by unfold low; grind]
        exact h.rx.on s
      · rw [decide_eq_false c]
        refine iteF ⟨_, rfl, h.fin u G s ?_⟩
        rw [eb, show low x y = y by unfold low; grind]
        exact h.ry.on s
    · refine gn1 (σ' := [some (.ref l), some (.ref t), some (.ref u), some (.ref b), none, none, none, none, none, none, none]) rfl ?_
      have eb : bothQ ls x y = p.both x y := by
        unfold bothQ
        rw [e]
      obtain ⟨mp, tp⟩ := around_some e
      have zp := h.lot.sz p mp
      have okp := (h.lot.row.ok p mp).lt
      have hh := has_iff tp
      have rx := h.rx.on s
      have ry := h.ry.on s
      refine ⟨_, rfl, _, rfl, iteF ?_⟩
      refine ⟨_, rfl, b, _, rfl, SqL.of fb, rfl, _, _, rfl, _, _, rfl, _, _, rfl, rfl, ?_⟩
      refine gn1 (σ' := [some (.ref l), some (.ref t), some (.ref u), some (.ref b), some (.ref lo), some (.ref hi), some (.str p.kind), none, none, none, none]) rfl ?_
      refine ⟨_, rfl, rfl, _, rfl, ?_⟩
      show if decide (V.str (kindS p.k) = V.str "sum") = true then _ else _
      rw [kind_sum']
      cases ck : p.k with
      | true =>
        refine iteT ?_
        have ep : p.both x y = high p.lo (x + y - p.hi) := by
          unfold Pc.both
          rw [ck]
          rfl
        refine ⟨_, rfl, _, rfl, t, u, x, y, 1, rfl, ⟨.inl rfl, rx, ry, up sx (by decide), up sy (by decide), fun a1 G1 n1 s1 r1 => ?_⟩⟩
        rw [plus_one] at r1
        refine ⟨_, rfl, _, rfl, a1, hi, x + y, p.hi, -1, rfl, ⟨.inr rfl, r1, rh.on s1, up (sx.add sy) (by decide), up zp.2 (by decide), fun a2 G2 n2 s2 r2 => ?_⟩⟩
        rw [plus_neg] at r2
        have s12 := s1.trans s2
        refine gn1 (σ' := [some (.ref l), some (.ref t), some (.ref u), some (.ref b), some (.ref lo), some (.ref hi), some (.str p.kind), some (.ref a2), none, none, none]) rfl ?_
        refine ⟨_, rfl, _, rfl, a2, lo, x + y - p.hi, p.lo, rfl, r2, rl.on s12, ((sx.add sy).sub zp.2).mono (by decide), zp.1.mono (by decide), _, rfl, ?_⟩
        by_cases c : x + y - p.hi < p.lo
        · rw [decide_eq_true c]
          refine iteT ⟨_, rfl, h.fin lo G2 (s.trans s12) ?_⟩
          rw [eb, ep, show high p.lo (x + y - p.hi) = p.lo by unfold high; grind]
          exact rl.on s12
        · rw [decide_eq_false c]
          refine iteF ⟨_, rfl, h.fin a2 G2 (s.trans s12) ?_⟩
          rw [eb, ep, show high p.lo (x + y - p.hi) = x + y - p.hi by unfold high; grind]
          exact r2
      | false =>
        refine iteF ?_
        have ep : p.both x y = p.lo + (x - p.lo) * (y - p.lo) / (p.hi - p.lo) := by
          unfold Pc.both
          rw [ck]
          rfl
        refine ⟨_, rfl, _, rfl, _, rfl, hi, lo, p.hi, p.lo, -1, rfl, ⟨.inr rfl, rh, rl, up zp.2 (by decide), up zp.1 (by decide), fun a1 G1 n1 s1 r1 => ?_⟩⟩
        rw [plus_neg] at r1
        refine ⟨_, rfl, _, rfl, _, rfl, t, lo, x, p.lo, -1, rfl, ⟨.inr rfl, rx.on s1, rl.on s1, up sx (by decide), up zp.1 (by decide), fun a2 G2 n2 s2 r2 => ?_⟩⟩
        rw [plus_neg] at r2
        have s12 := s1.trans s2
        refine ⟨_, rfl, _, rfl, _, rfl, u, lo, y, p.lo, -1, rfl, ⟨.inr rfl, ry.on s12, rl.on s12, up sy (by decide), up zp.1 (by decide), fun a3 G3 n3 s3 r3 => ?_⟩⟩
        rw [plus_neg] at r3
        have s13 := s12.trans s3
        have w1 := r1.on (s2.trans s3)
        have w2 := r2.on s3
        have zw := zp.2.sub zp.1
        have za := sx.sub zp.1
        have zb := sy.sub zp.1
        have wpos : 0 < p.hi - p.lo := by grind
        obtain ⟨wd, hwd⟩ : ∃ wd, p.hi - p.lo = wd := ⟨_, rfl⟩
        obtain ⟨oa, hoa⟩ : ∃ oa, x - p.lo = oa := ⟨_, rfl⟩
        obtain ⟨ob, hob⟩ : ∃ ob, y - p.lo = ob := ⟨_, rfl⟩
        rw [hwd] at w1 zw wpos ep
        rw [hoa] at w2 za ep
        rw [hob] at r3 zb ep
        refine ⟨_, _, _, rfl, ?_⟩
        refine gn1 (σ' := [some (.ref l), some (.ref t), some (.ref u), some (.ref b), some (.ref lo), some (.ref hi), some (.str p.kind), none, some (.ref a1), some (.ref a2), some (.ref a3)]) rfl ?_
        have na : oa.num.natAbs < 2 ^ 521 := za.top
        have nb : ob.num.natAbs < 2 ^ 521 := zb.top
        have nw : wd.num.natAbs < 2 ^ 241 := zw.top
        have da : ((oa.den : Int)).natAbs < 2 ^ 521 := dn oa za.bot
        have db : ((ob.den : Int)).natAbs < 2 ^ 521 := dn ob zb.bot
        have dw : ((wd.den : Int)).natAbs < 2 ^ 241 := dn wd zw.bot
        have t1 := mul_small na nb
        have t2 := mul_small t1 dw
        have u1 := mul_small da db
        have u2 := mul_small u1 nw
        have big : ∀ {z : Int} {n : Nat}, z.natAbs < 2 ^ n → n ≤ 8000 → z.natAbs < 2 ^ 8000 := fun h l => lt_up h l
        refine ⟨_, rfl, _, rfl, a2, _, _, _, rfl, rfl, w2, rfl, _, rfl, a3, _, _, _, rfl, rfl, r3, rfl, _, _, rfl, rfl, mulW_ok (big na (by decide)) (big nb (by decide)), ?_⟩
        refine ⟨_, rfl, a1, _, _, _, rfl, rfl, w1, rfl, _, _, rfl, rfl, mulW_ok (big t1 (by decide)) (big dw (by decide)), ?_⟩
        refine ⟨_, rfl, a2, _, _, _, rfl, rfl, w2, rfl, _, rfl, a3, _, _, _, rfl, rfl, r3, rfl, _, _, rfl, rfl, mulW_ok (big da (by decide)) (big db (by decide)), ?_⟩
        refine ⟨_, rfl, a1, _, _, _, rfl, rfl, w1, rfl, _, _, rfl, rfl, mulW_ok (big u1 (by decide)) (big nw (by decide)), ?_⟩
        refine ⟨_, _, rfl, ⟨Int.mul_pos (Int.mul_pos (den_pos oa) (den_pos ob)) (num_pos wpos), big t2 (by decide), big u2 (by decide), fun q G4 n4 s4 r4 => ?_⟩⟩
        rw [trip_div] at r4
        have s14 := s13.trans s4
        refine ⟨lo, q, p.lo, oa * ob / wd, 1, rfl, ⟨.inl rfl, rl.on s14, r4, up zp.1 (by decide), up ((za.mul zb).quo zw wpos) (by decide), fun r G5 n5 s5 r5 => ?_⟩⟩
        rw [plus_one, ← ep, ← eb] at r5
        exact h.fin r G5 (s.trans (s14.trans s5)) r5
end
end G1
set_option maxHeartbeats 8000000
namespace G1
open PySem PySem.Spec PyProof.Rows L2 JN
theorem t_le' {ls : List Pc} {x y : Rat} (h : ¬ y < x) : thenQ ls x y = 1 := by
  unfold thenQ
  rw [if_neg h]
section
variable {P : Program} {w : World} {K : PySem.W.Frag} {mg : Str → Option Value} {base : Heap}
abbrev nThen : List Str := ["lot", "u", "v", "found", "low", "high", "kind", "wide", "one", "second"]
theorem scThenW : FnScope nThen ["lot", "u", "v"] (defScope lThen) := ⟨rfl, rfl, rfl, by decide +kernel, rfl, by decide +kernel, by decide +kernel⟩
theorem cl_thenw (D : DefAt K mg "_law_then" lThen) (cL : Cl CX0 P w K mg base 1 "_law_less" ["u", "v"] (spLess K)) (cP : Cl CX0 P w K mg base 2 "_law_piece" ["lot", "u", "v"] (spPieceL K)) (cS : Cl CX0 P w K mg base 3 "_law_plus" ["u", "v", "times_v"] (spPlusL K))
    (cW : Cl CX0 P w K mg base 2 "_law_lowest" ["above", "beneath"] (spLowest K)) : Cl CX0 P w K mg base 4 "_law_then" ["lot", "u", "v"] (spTwoL K thenQ) := by
  obtain ⟨f, fd, F, hm⟩ := D
  refine cl_of F hm (F.ok scThenW (fun vs H Q E h => ?_) (fun cdv A outer s H vs Q E hr h => ⟨_, PSs.nox (pss_cons
      (ps_if (pt_not (pt_val (pe_c0 cL hr (by decide) (by rfl) (pa_cons (pv 2) (pa_cons (pv 1) pa_nil))))) (pss_one (ps_ret (pe_tup (pa_cons pe_int (pa_cons pe_int pa_nil))))) pss_nil)
      (pss_cons (ps_set (i := 3) scThenW.nd rfl (Or.inl rfl) (pe_c0 cP hr (by decide) (by rfl) (pa_cons (pv 0) (pa_cons (pv 1) (pa_cons (pv 2) pa_nil)))))
      (pss_cons (ps_if (pt_cmp (pc_isN (pv 3))) (pss_one (ps_ret (pv 2))) pss_nil)
      (pss_cons (ps_asg (pv 3) (pg_lst (by rfl) (pgs_cons (pg_name (i := 4) scThenW.nd rfl (Or.inl rfl)) (pgs_cons (pg_name (i := 5) scThenW.nd rfl (Or.inl rfl)) (pgs_cons (pg_name (i := 6) scThenW.nd rfl (Or.inl rfl)) pgs_nil)))))
      (pss_cons (ps_if (pt_cmpR op_eq (pv 6) pe_str (nomark _))
        (pss_one (ps_ret (pe_c0 cS hr (by decide) (by rfl) (pa_cons (pe_c0 cS hr (by decide) (by rfl) (pa_cons (pv 5) (pa_cons (pv 1) (pa_cons (pe_un un_neg pe_int) pa_nil)))) (pa_cons (pv 2) (pa_cons pe_int pa_nil)))))) pss_nil)
      (pss_cons (ps_par3 (i := 7) (j := 8) (l := 9) (by rfl) scThenW.nd rfl rfl rfl (by decide) (by decide) (by decide) rfl rfl rfl (pa_cons (pe_c0 cS hr (by decide) (by rfl) (pa_cons (pv 5) (pa_cons (pv 4) (pa_cons (pe_un un_neg pe_int) pa_nil))))
          (pa_cons (pe_c0 cS hr (by decide) (by rfl) (pa_cons (pv 1) (pa_cons (pv 4) (pa_cons (pe_un un_neg pe_int) pa_nil)))) (pa_cons (pe_c0 cS hr (by decide) (by rfl) (pa_cons (pv 2) (pa_cons (pv 4) (pa_cons (pe_un un_neg pe_int) pa_nil)))) pa_nil))) (by rfl))
      (pss_one (ps_ret (pe_c0 cS hr (by decide) (by rfl) (pa_cons (pv 4) (pa_cons (pe_c0 cW hr (by decide) (by rfl) (pa_cons
          (pe_op op_mulW (pe_op op_mulW (pe_ix ix_tup (pv 7) pe_int (fun _ _ => rfl)) (pe_ix ix_tup (pv 9) pe_int (fun _ _ => rfl))) (pe_ix ix_tup (pv 8) pe_int (fun _ _ => rfl)))
          (pa_cons (pe_op op_mulW (pe_op op_mulW (pe_ix ix_tup (pv 7) pe_int (fun _ _ => rfl)) (pe_ix ix_tup (pv 9) pe_int (fun _ _ => rfl))) (pe_ix ix_tup (pv 8) pe_int (fun _ _ => rfl))) pa_nil))) (pa_cons pe_int pa_nil)))))))))))), ?_⟩)) fun _ _ _ _ _ _ us hl => match us, hl with | [_, _, _], _ => rfl
  · obtain ⟨l, t, u, ls, x, y, rfl, _⟩ := h
    rfl
  · obtain ⟨l, t, u, ls, x, y, rfl, h⟩ := h
    have up : ∀ {k : Nat} {z : Rat}, Sz k z → k ≤ 3900 → Sz 3900 z := fun h l => h.mono l
    have sx := h.sx
    have sy := h.sy
    refine ⟨_, rfl, _, rfl, u, t, y, x, rfl, h.ry, h.rx, sy.mono (by decide), sx.mono (by decide), _, rfl, ?_⟩
    by_cases lt : y < x
    case neg =>
      rw [decide_eq_false lt]
      refine iteT ⟨(by show 2 ≤ sizeLine; decide), fun o no => ?_⟩
      obtain ⟨G, eG, s, fG⟩ := mk_s (.tup [.int 1, .int 1]) no
      rw [eG]
      refine h.fin o G s ?_
      rw [t_le' lt]
      exact SqT.of fG
    rw [decide_eq_true lt]
    refine iteF ?_
    refine ⟨_, rfl, _, rfl, _, rfl, l, t, u, ls, x, y, rfl, ⟨h.lot, h.rx, h.ry, up sx (by decide), up sy (by decide), fun G s e => ?_, fun b lo hi p G s e fb rl rh => ?_⟩⟩
    · refine gn1 (σ' := [some (.ref l), some (.ref t), some (.ref u), some .non, none, none, none, none, none, none]) rfl ?_
      have eb : thenQ ls x y = y := by
        unfold thenQ
        rw [if_pos lt, e]
      refine ⟨_, rfl, _, rfl, iteT ⟨_, rfl, h.fin u G s ?_⟩⟩
      rw [eb]
      exact h.ry.on s
    · refine gn1 (σ' := [some (.ref l), some (.ref t), some (.ref u), some (.ref b), none, none, none, none, none, none]) rfl ?_
      have eb : thenQ ls x y = p.then x y := by
        unfold thenQ
        rw [if_pos lt, e]
      obtain ⟨mp, tp⟩ := around_some e
      have zp := h.lot.sz p mp
      have hh := has_iff tp
      have rx := h.rx.on s
      have ry := h.ry.on s
      refine ⟨_, rfl, _, rfl, iteF ?_⟩
      refine ⟨_, rfl, b, _, rfl, SqL.of fb, rfl, _, _, rfl, _, _, rfl, _, _, rfl, rfl, ?_⟩
      refine gn1 (σ' := [some (.ref l), some (.ref t), some (.ref u), some (.ref b), some (.ref lo), some (.ref hi), some (.str p.kind), none, none, none]) rfl ?_
      refine ⟨_, rfl, rfl, _, rfl, ?_⟩
      show if decide (V.str (kindS p.k) = V.str "sum") = true then _ else _
      rw [kind_sum']
      cases ck : p.k with
      | true =>
        refine iteT ?_
        have ep : p.then x y = p.hi - x + y := by
          unfold Pc.then
          rw [ck]
          rfl
        refine ⟨_, rfl, _, rfl, _, rfl, hi, t, p.hi, x, -1, rfl, ⟨.inr rfl, rh, rx, up zp.2 (by decide), up sx (by decide), fun a1 G1 n1 s1 r1 => ?_⟩⟩
        rw [plus_neg] at r1
        refine ⟨_, rfl, a1, u, p.hi - x, y, 1, rfl, ⟨.inl rfl, r1, ry.on s1, up (zp.2.sub sx) (by decide), up sy (by decide), fun a2 G2 n2 s2 r2 => ?_⟩⟩
        rw [plus_one, ← ep, ← eb] at r2
        exact h.fin a2 G2 (s.trans (s1.trans s2)) r2
      | false =>
        refine iteF ?_
        have ep : p.then x y = p.lo + (p.hi - p.lo) * (y - p.lo) / (x - p.lo) := by
          unfold Pc.then
          rw [ck]
          rfl
        refine ⟨_, rfl, _, rfl, _, rfl, hi, lo, p.hi, p.lo, -1, rfl, ⟨.inr rfl, rh, rl, up zp.2 (by decide), up zp.1 (by decide), fun a1 G1 n1 s1 r1 => ?_⟩⟩
        rw [plus_neg] at r1
        refine ⟨_, rfl, _, rfl, _, rfl, t, lo, x, p.lo, -1, rfl, ⟨.inr rfl, rx.on s1, rl.on s1, up sx (by decide), up zp.1 (by decide), fun a2 G2 n2 s2 r2 => ?_⟩⟩
        rw [plus_neg] at r2
        have s12 := s1.trans s2
        refine ⟨_, rfl, _, rfl, _, rfl, u, lo, y, p.lo, -1, rfl, ⟨.inr rfl, ry.on s12, rl.on s12, up sy (by decide), up zp.1 (by decide), fun a3 G3 n3 s3 r3 => ?_⟩⟩
        rw [plus_neg] at r3
        have s13 := s12.trans s3
        have w1 := r1.on (s2.trans s3)
        have w2 := r2.on s3
        have zw := zp.2.sub zp.1
        have za := sx.sub zp.1
        have zb := sy.sub zp.1
        have opos : 0 < x - p.lo := by grind
        obtain ⟨wd, hwd⟩ : ∃ wd, p.hi - p.lo = wd := ⟨_, rfl⟩
        obtain ⟨oa, hoa⟩ : ∃ oa, x - p.lo = oa := ⟨_, rfl⟩
        obtain ⟨ob, hob⟩ : ∃ ob, y - p.lo = ob := ⟨_, rfl⟩
        rw [hwd] at w1 zw ep
        rw [hoa] at w2 za ep opos
        rw [hob] at r3 zb ep
        refine ⟨_, _, _, rfl, ?_⟩
        refine gn1 (σ' := [some (.ref l), some (.ref t), some (.ref u), some (.ref b), some (.ref lo), some (.ref hi), some (.str p.kind), some (.ref a1), some (.ref a2), some (.ref a3)]) rfl ?_
        have na : oa.num.natAbs < 2 ^ 521 := za.top
        have nb : ob.num.natAbs < 2 ^ 521 := zb.top
        have nw : wd.num.natAbs < 2 ^ 241 := zw.top
        have da : ((oa.den : Int)).natAbs < 2 ^ 521 := dn oa za.bot
        have db : ((ob.den : Int)).natAbs < 2 ^ 521 := dn ob zb.bot
        have dw : ((wd.den : Int)).natAbs < 2 ^ 241 := dn wd zw.bot
        have t1 := mul_small nw nb
        have t2 := mul_small t1 da
        have u1 := mul_small dw db
        have u2 := mul_small u1 na
        have big : ∀ {z : Int} {n : Nat}, z.natAbs < 2 ^ n → n ≤ 8000 → z.natAbs < 2 ^ 8000 := fun h l => lt_up h l
        refine ⟨_, rfl, _, rfl, a1, _, _, _, rfl, rfl, w1, rfl, _, rfl, a3, _, _, _, rfl, rfl, r3, rfl, _, _, rfl, rfl, mulW_ok (big nw (by decide)) (big nb (by decide)), ?_⟩
        refine ⟨_, rfl, a2, _, _, _, rfl, rfl, w2, rfl, _, _, rfl, rfl, mulW_ok (big t1 (by decide)) (big da (by decide)), ?_⟩
        refine ⟨_, rfl, a1, _, _, _, rfl, rfl, w1, rfl, _, rfl, a3, _, _, _, rfl, rfl, r3, rfl, _, _, rfl, rfl, mulW_ok (big dw (by decide)) (big db (by decide)), ?_⟩
        refine ⟨_, rfl, a2, _, _, _, rfl, rfl, w2, rfl, _, _, rfl, rfl, mulW_ok (big u1 (by decide)) (big na (by decide)), ?_⟩
        refine ⟨_, _, rfl, ⟨Int.mul_pos (Int.mul_pos (den_pos wd) (den_pos ob)) (num_pos opos), big t2 (by decide), big u2 (by decide), fun q G4 n4 s4 r4 => ?_⟩⟩
        rw [trip_div] at r4
        have s14 := s13.trans s4
        refine ⟨lo, q, p.lo, wd * ob / oa, 1, rfl, ⟨.inl rfl, rl.on s14, r4, up zp.1 (by decide), up ((zw.mul zb).quo za opos) (by decide), fun r G5 n5 s5 r5 => ?_⟩⟩
        rw [plus_one, ← ep, ← eb] at r5
        exact h.fin r G5 (s.trans (s14.trans s5)) r5
end
end G1
set_option maxHeartbeats 8000000
namespace G1
open PySem PySem.Spec PyProof.Rows L2 JN
/-! ### fractions of the program -/
abbrev spRatio (K : PySem.W.Frag) : Sp := spLowest K
def spQ2 (K : PySem.W.Frag) (ok : Rat → Rat → Prop) (g : Rat → Rat → Rat) : Sp := fun vs H Q _ => ∃ (t u : Addr) (x y : Rat), vs = [.ref t, .ref u] ∧ RtAt K H x t ∧ RtAt K H y u ∧ Sz 3900 x ∧ Sz 3900 y ∧ ok x y ∧ ∀ a H', Same H H' → RtAt K H' (g x y) a → Q (.ref a) H'
section
variable {P : Program} {w : World} {K : PySem.W.Frag} {mg : Str → Option Value} {base : Heap}
theorem scRatio : FnScope ["top", "bottom", "shared"] ["top", "bottom"] (defScope sRatio) := ⟨rfl, rfl, rfl, by decide +kernel, rfl, by decide +kernel, by decide +kernel⟩
theorem cl_ratio (D : DefAt K mg "ratio" sRatio) (gcd : mg "gcd" = some (.builtin "math.gcd")) : Cl CX0 P w K mg base 1 "ratio" ["top", "bottom"] (spRatio K) := by
  obtain ⟨f, fd, F, hm⟩ := D
  refine cl_of F hm (F.ok scRatio (fun vs H Q E h => ?_) (fun cdv A outer s H vs Q E hr h => ⟨_, PSs.nox (pss_cons
      (ps_set (i := 2) scRatio.nd rfl (Or.inl rfl) (pe_callBfun cr_gcd (by rfl) gcd (pa_cons (pv 0) (pa_cons (pv 1) pa_nil))))
      (pss_one (ps_ret (pe_tup (pa_cons (pe_op op_fdivW (pv 0) (pv 2)) (pa_cons (pe_op op_fdivW (pv 1) (pv 2)) pa_nil)))))), ?_⟩)) fun _ _ _ _ _ _ us hl => match us, hl with | [_, _], _ => rfl
  · obtain ⟨a, b, rfl, _⟩ := h
    rfl
  · obtain ⟨a, b, rfl, lp⟩ := h
    have b0 := lp.pos
    have hb := lp.bot
    have g0 : 0 < Int.gcd a b := Int.gcd_pos_of_ne_zero_right _ (by omega)
    have g1 : Int.gcd a b ≤ b.natAbs := Int.gcd_le_natAbs_right a (by omega)
    have dv : ∀ z : Int, CDivW z ((Nat.gcd a.natAbs b.natAbs : Nat) : Int) := fun z => wide_div (b := 8000) (by show (0 : Int) < ((Int.gcd a b : Nat) : Int); omega) (by rw [Int.natAbs_natCast]; exact Nat.lt_of_le_of_lt g1 hb) (by decide) (by decide)
    refine ⟨_, rfl, _, rfl, a, b, rfl, ?_⟩
    refine ⟨_, rfl, _, rfl, _, _, rfl, rfl, dv a, _, rfl, _, rfl, _, _, rfl, rfl, dv b, (by show 2 ≤ sizeLine; decide), fun t ht => ?_⟩
    obtain ⟨G, eG, S, fG⟩ := mk_s (.tup [.int (a / ((Nat.gcd a.natAbs b.natAbs : Nat) : Int)), .int (b / ((Nat.gcd a.natAbs b.natAbs : Nat) : Int))]) ht
    rw [eG]
    refine lp.fin t G ht S (SqT.of ?_)
    rw [div_num b0, div_den b0]
    exact fG
theorem scPlus : FnScope ["x", "y"] ["x", "y"] (defScope sPlus) := ⟨rfl, rfl, rfl, by decide +kernel, rfl, by decide +kernel, by decide +kernel⟩
theorem cl_plus (D : DefAt K mg "plus" sPlus) (cR : Cl CX0 P w K mg base 1 "ratio" ["top", "bottom"] (spRatio K)) : Cl CX0 P w K mg base 2 "plus" ["x", "y"] (spQ2 K (fun _ _ => True) (fun x y => x + y)) := by
  obtain ⟨f, fd, F, hm⟩ := D
  refine cl_of F hm (F.ok scPlus (fun vs H Q E h => ?_) (fun cdv A outer s H vs Q E hr h => ⟨_, PSs.nox
      (pss_one (ps_ret (pe_c0 cR hr (by decide) (by rfl) (pa_cons (pe_op op_add (pe_op op_mulW (pe_ix ix_tup (pv 0) pe_int (fun _ _ => rfl)) (pe_ix ix_tup (pv 1) pe_int (fun _ _ => rfl))) (pe_op op_mulW (pe_ix ix_tup (pv 1) pe_int (fun _ _ => rfl)) (pe_ix ix_tup (pv 0) pe_int (fun _ _ => rfl))))
        (pa_cons (pe_op op_mulW (pe_ix ix_tup (pv 0) pe_int (fun _ _ => rfl)) (pe_ix ix_tup (pv 1) pe_int (fun _ _ => rfl))) pa_nil))))), ?_⟩)) fun _ _ _ _ _ _ us hl => match us, hl with | [_, _], _ => rfl
  · obtain ⟨t, u, x, y, rfl, _⟩ := h
    rfl
  · obtain ⟨t, u, x, y, rfl, ht, hu, sx, sy, _, q⟩ := h
    have up : ∀ {a : Int}, a.natAbs < 2 ^ 3900 → a.natAbs < 2 ^ 8000 := fun h => lt_up h (by decide)
    refine ⟨_, rfl, t, _, _, _, rfl, rfl, ht, rfl, _, rfl, u, _, _, _, rfl, rfl, hu, rfl, _, _, rfl, rfl, mulW_ok (up sx.top) (up (dn y sy.bot)), ?_⟩
    refine ⟨_, rfl, u, _, _, _, rfl, rfl, hu, rfl, _, rfl, t, _, _, _, rfl, rfl, ht, rfl, _, _, rfl, rfl, mulW_ok (up sy.top) (up (dn x sx.bot)), _, _, rfl, rfl, ?_⟩
    refine ⟨_, rfl, t, _, _, _, rfl, rfl, ht, rfl, _, rfl, u, _, _, _, rfl, rfl, hu, rfl, _, _, rfl, rfl, mulW_ok (up (dn x sx.bot)) (up (dn y sy.bot)), ?_⟩
    refine ⟨_, _, rfl, ⟨Int.mul_pos (den_pos x) (den_pos y), lt_up (add_small (mul_small sx.top (dn y sy.bot)) (mul_small sy.top (dn x sx.bot))) (by decide), lt_up (mul_small (dn x sx.bot) (dn y sy.bot)) (by decide), fun a G _ s r => q a G s ?_⟩⟩
    rw [add_div] at r
    exact r
theorem scMinus : FnScope ["x", "y"] ["x", "y"] (defScope sMinus) := ⟨rfl, rfl, rfl, by decide +kernel, rfl, by decide +kernel, by decide +kernel⟩
theorem cl_minus (D : DefAt K mg "minus" sMinus) (cR : Cl CX0 P w K mg base 1 "ratio" ["top", "bottom"] (spRatio K)) : Cl CX0 P w K mg base 2 "minus" ["x", "y"] (spQ2 K (fun _ _ => True) (fun x y => x - y)) := by
  obtain ⟨f, fd, F, hm⟩ := D
  refine cl_of F hm (F.ok scMinus (fun vs H Q E h => ?_) (fun cdv A outer s H vs Q E hr h => ⟨_, PSs.nox
      (pss_one (ps_ret (pe_c0 cR hr (by decide) (by rfl) (pa_cons (pe_op op_sub (pe_op op_mulW (pe_ix ix_tup (pv 0) pe_int (fun _ _ => rfl)) (pe_ix ix_tup (pv 1) pe_int (fun _ _ => rfl))) (pe_op op_mulW (pe_ix ix_tup (pv 1) pe_int (fun _ _ => rfl)) (pe_ix ix_tup (pv 0) pe_int (fun _ _ => rfl))))
        (pa_cons (pe_op op_mulW (pe_ix ix_tup (pv 0) pe_int (fun _ _ => rfl)) (pe_ix ix_tup (pv 1) pe_int (fun _ _ => rfl))) pa_nil))))), ?_⟩)) fun _ _ _ _ _ _ us hl => match us, hl with | [_, _], _ => rfl
  · obtain ⟨t, u, x, y, rfl, _⟩ := h
    rfl
  · obtain ⟨t, u, x, y, rfl, ht, hu, sx, sy, _, q⟩ := h
    have up : ∀ {a : Int}, a.natAbs < 2 ^ 3900 → a.natAbs < 2 ^ 8000 := fun h => lt_up h (by decide)
    refine ⟨_, rfl, t, _, _, _, rfl, rfl, ht, rfl, _, rfl, u, _, _, _, rfl, rfl, hu, rfl, _, _, rfl, rfl, mulW_ok (up sx.top) (up (dn y sy.bot)), ?_⟩
    refine ⟨_, rfl, u, _, _, _, rfl, rfl, hu, rfl, _, rfl, t, _, _, _, rfl, rfl, ht, rfl, _, _, rfl, rfl, mulW_ok (up sy.top) (up (dn x sx.bot)), _, _, rfl, rfl, ?_⟩
    refine ⟨_, rfl, t, _, _, _, rfl, rfl, ht, rfl, _, rfl, u, _, _, _, rfl, rfl, hu, rfl, _, _, rfl, rfl, mulW_ok (up (dn x sx.bot)) (up (dn y sy.bot)), ?_⟩
    refine ⟨_, _, rfl, ⟨Int.mul_pos (den_pos x) (den_pos y), lt_up (sub_small (mul_small sx.top (dn y sy.bot)) (mul_small sy.top (dn x sx.bot))) (by decide), lt_up (mul_small (dn x sx.bot) (dn y sy.bot)) (by decide), fun a G _ s r => q a G s ?_⟩⟩
    rw [sub_div] at r
    exact r
theorem scTimes : FnScope ["x", "y"] ["x", "y"] (defScope sTimes) := ⟨rfl, rfl, rfl, by decide +kernel, rfl, by decide +kernel, by decide +kernel⟩
theorem cl_times (D : DefAt K mg "times" sTimes) (cR : Cl CX0 P w K mg base 1 "ratio" ["top", "bottom"] (spRatio K)) : Cl CX0 P w K mg base 2 "times" ["x", "y"] (spQ2 K (fun _ _ => True) (fun x y => x * y)) := by
  obtain ⟨f, fd, F, hm⟩ := D
  refine cl_of F hm (F.ok scTimes (fun vs H Q E h => ?_) (fun cdv A outer s H vs Q E hr h => ⟨_, PSs.nox
      (pss_one (ps_ret (pe_c0 cR hr (by decide) (by rfl) (pa_cons (pe_op op_mulW (pe_ix ix_tup (pv 0) pe_int (fun _ _ => rfl)) (pe_ix ix_tup (pv 1) pe_int (fun _ _ => rfl)))
        (pa_cons (pe_op op_mulW (pe_ix ix_tup (pv 0) pe_int (fun _ _ => rfl)) (pe_ix ix_tup (pv 1) pe_int (fun _ _ => rfl))) pa_nil))))), ?_⟩)) fun _ _ _ _ _ _ us hl => match us, hl with | [_, _], _ => rfl
  · obtain ⟨t, u, x, y, rfl, _⟩ := h
    rfl
  · obtain ⟨t, u, x, y, rfl, ht, hu, sx, sy, _, q⟩ := h
    have up : ∀ {a : Int}, a.natAbs < 2 ^ 3900 → a.natAbs < 2 ^ 8000 := fun h => lt_up h (by decide)
    refine ⟨_, rfl, t, _, _, _, rfl, rfl, ht, rfl, _, rfl, u, _, _, _, rfl, rfl, hu, rfl, _, _, rfl, rfl, mulW_ok (up sx.top) (up sy.top), ?_⟩
    refine ⟨_, rfl, t, _, _, _, rfl, rfl, ht, rfl, _, rfl, u, _, _, _, rfl, rfl, hu, rfl, _, _, rfl, rfl, mulW_ok (up (dn x sx.bot)) (up (dn y sy.bot)), ?_⟩
    refine ⟨_, _, rfl, ⟨Int.mul_pos (den_pos x) (den_pos y), lt_up (mul_small sx.top sy.top) (by decide), lt_up (mul_small (dn x sx.bot) (dn y sy.bot)) (by decide), fun a G _ s r => q a G s ?_⟩⟩
    rw [mul_div] at r
    exact r
theorem scOver : FnScope ["x", "y"] ["x", "y"] (defScope sOver) := ⟨rfl, rfl, rfl, by decide +kernel, rfl, by decide +kernel, by decide +kernel⟩
theorem cl_over (D : DefAt K mg "over" sOver) (cR : Cl CX0 P w K mg base 1 "ratio" ["top", "bottom"] (spRatio K)) : Cl CX0 P w K mg base 2 "over" ["x", "y"] (spQ2 K (fun _ y => 0 < y) (fun x y => x / y)) := by
  obtain ⟨f, fd, F, hm⟩ := D
  refine cl_of F hm (F.ok scOver (fun vs H Q E h => ?_) (fun cdv A outer s H vs Q E hr h => ⟨_, PSs.nox
      (pss_one (ps_ret (pe_c0 cR hr (by decide) (by rfl) (pa_cons (pe_op op_mulW (pe_ix ix_tup (pv 0) pe_int (fun _ _ => rfl)) (pe_ix ix_tup (pv 1) pe_int (fun _ _ => rfl)))
        (pa_cons (pe_op op_mulW (pe_ix ix_tup (pv 0) pe_int (fun _ _ => rfl)) (pe_ix ix_tup (pv 1) pe_int (fun _ _ => rfl))) pa_nil))))), ?_⟩)) fun _ _ _ _ _ _ us hl => match us, hl with | [_, _], _ => rfl
  · obtain ⟨t, u, x, y, rfl, _⟩ := h
    rfl
  · obtain ⟨t, u, x, y, rfl, ht, hu, sx, sy, pos, q⟩ := h
    have up : ∀ {a : Int}, a.natAbs < 2 ^ 3900 → a.natAbs < 2 ^ 8000 := fun h => lt_up h (by decide)
    refine ⟨_, rfl, t, _, _, _, rfl, rfl, ht, rfl, _, rfl, u, _, _, _, rfl, rfl, hu, rfl, _, _, rfl, rfl, mulW_ok (up sx.top) (up (dn y sy.bot)), ?_⟩
    refine ⟨_, rfl, t, _, _, _, rfl, rfl, ht, rfl, _, rfl, u, _, _, _, rfl, rfl, hu, rfl, _, _, rfl, rfl, mulW_ok (up (dn x sx.bot)) (up sy.top), ?_⟩
    refine ⟨_, _, rfl, ⟨Int.mul_pos (den_pos x) (num_pos pos), lt_up (mul_small sx.top (dn y sy.bot)) (by decide), lt_up (mul_small (dn x sx.bot) sy.top) (by decide), fun a G _ s r => q a G s ?_⟩⟩
    rw [quo_div] at r
    exact r
/-- one of two -/
def spPick (K : PySem.W.Frag) (g : Rat → Rat → Rat) : Sp := fun vs H Q _ => ∃ (t u : Addr) (x y : Rat), vs = [.ref t, .ref u] ∧ RtAt K H x t ∧ RtAt K H y u ∧ Sz 8000 x ∧ Sz 8000 y ∧ ∀ a, RtAt K H (g x y) a → Q (.ref a) H
theorem scLowerOf : FnScope ["x", "y"] ["x", "y"] (defScope sLowerOf) := ⟨rfl, rfl, rfl, by decide +kernel, rfl, by decide +kernel, by decide +kernel⟩
theorem cl_lower (D : DefAt K mg "lower_of" sLowerOf) (cB : Cl CX0 P w K mg base 1 "is_below" ["x", "y"] (spLess K)) : Cl CX0 P w K mg base 2 "lower_of" ["x", "y"] (spPick K low) := by
  obtain ⟨f, fd, F, hm⟩ := D
  refine cl_of F hm (F.ok scLowerOf (fun vs H Q E h => ?_) (fun cdv A outer s H vs Q E hr h => ⟨_, PSs.nox
      (pss_one (ps_ret (pe_ifExp (pt_val (pe_c0 cB hr (by decide) (by rfl) (pa_cons (pv 1) (pa_cons (pv 0) pa_nil)))) (pv 1) (pv 0)))), ?_⟩)) fun _ _ _ _ _ _ us hl => match us, hl with | [_, _], _ => rfl
  · obtain ⟨t, u, x, y, rfl, _⟩ := h
    rfl
  · obtain ⟨t, u, x, y, rfl, ht, hu, sx, sy, q⟩ := h
    refine ⟨_, rfl, _, rfl, u, t, y, x, rfl, hu, ht, sy, sx, _, rfl, ?_⟩
    unfold low at q
    by_cases c : y < x
    · rw [decide_eq_true c]
      rw [if_pos c] at q
      exact iteT ⟨_, rfl, q u hu⟩
    · rw [decide_eq_false c]
      rw [if_neg c] at q
      exact iteF ⟨_, rfl, q t ht⟩
theorem scHigherOf : FnScope ["x", "y"] ["x", "y"] (defScope sHigherOf) := ⟨rfl, rfl, rfl, by decide +kernel, rfl, by decide +kernel, by decide +kernel⟩
theorem cl_higher (D : DefAt K mg "higher_of" sHigherOf) (cB : Cl CX0 P w K mg base 1 "is_below" ["x", "y"] (spLess K)) : Cl CX0 P w K mg base 2 "higher_of" ["x", "y"] (spPick K high) := by
  obtain ⟨f, fd, F, hm⟩ := D
  refine cl_of F hm (F.ok scHigherOf (fun vs H Q E h => ?_) (fun cdv A outer s H vs Q E hr h => ⟨_, PSs.nox
      (pss_one (ps_ret (pe_ifExp (pt_val (pe_c0 cB hr (by decide) (by rfl) (pa_cons (pv 0) (pa_cons (pv 1) pa_nil)))) (pv 1) (pv 0)))), ?_⟩)) fun _ _ _ _ _ _ us hl => match us, hl with | [_, _], _ => rfl
  · obtain ⟨t, u, x, y, rfl, _⟩ := h
    rfl
  · obtain ⟨t, u, x, y, rfl, ht, hu, sx, sy, q⟩ := h
    refine ⟨_, rfl, _, rfl, t, u, x, y, rfl, ht, hu, sx, sy, _, rfl, ?_⟩
    unfold high at q
    by_cases c : x < y
    · rw [decide_eq_true c]
      rw [if_pos c] at q
      exact iteT ⟨_, rfl, q u hu⟩
    · rw [decide_eq_false c]
      rw [if_neg c] at q
      exact iteF ⟨_, rfl, q t ht⟩
end
end G1
set_option maxHeartbeats 8000000
namespace G1
open PySem PySem.Spec PyProof.Rows L2 JN
theorem rank_next {ps : List Pc} {p o : Pc} {i : Nat} (h : ps[i]? = some o) : rank (ps.take (i + 1)) p = rank (ps.take i) p + if o.lo < p.lo then 1 else 0 := by
  unfold rank
  rw [List.take_succ, h, List.filter_append, List.length_append]
  show _ + (List.filter (fun o => decide (o.lo < p.lo)) [o]).length = _
  by_cases c : o.lo < p.lo
  · rw [if_pos c, List.filter_cons, if_pos (decide_eq_true c)]
    rfl
  · rw [if_neg c, List.filter_cons, if_neg (by simpa using c)]
    rfl
theorem rank_le (ps : List Pc) (p : Pc) : rank ps p ≤ ps.length := List.length_filter_le _ _
def spAscend (K : PySem.W.Frag) : Sp := fun vs H Q _ => ∃ (a : Addr) (ps ls : List Pc), vs = [.ref a] ∧ LotAt K H a ps ls ∧
  ∀ t H' (bs : List Addr), Same H H' → SqT K H' t (bs.map V.ref) → PcsAt K H' ls bs → Q (.ref t) H'
def spShape (K : PySem.W.Frag) : Sp := fun vs H Q _ => ∃ (a : Addr) (ls : List Pc) (bs : List Addr), vs = [.ref a] ∧ SqT K H a (bs.map V.ref) ∧ PcsAt K H ls bs ∧ ls.length ≤ 1000 ∧
  ∀ t H', Same H H' → SqT K H' t ((shape ls).map V.str) → Q (.ref t) H'
section
variable {P : Program} {w : World} {K : PySem.W.Frag} {mg : Str → Option Value} {base : Heap}
theorem scAscending : FnScope ["pieces", "rows", "piece", "other"] ["pieces"] (defScope sAscending) := ⟨rfl, rfl, rfl, by decide +kernel, rfl, by decide +kernel, by decide +kernel⟩
theorem cl_ascending (D : DefAt K mg "_ascending" sAscending) (T : Blt mg) (cB : Cl CX0 P w K mg base 1 "is_below" ["x", "y"] (spLess K)) : Cl CX0 P w K mg base 2 "_ascending" ["pieces"] (spAscend K) := by
  obtain ⟨f, fd, F, hm⟩ := D
  refine cl_of F hm (F.ok scAscending (fun vs H Q E h => ?_) (fun cdv A outer s H vs Q E hr h => ⟨_, PSs.nox (pss_cons
      (ps_set (i := 1) scAscending.nd rfl (Or.inl rfl) (pe_op op_rep (pe_lst (pa_cons pe_non pa_nil)) (pe_callB call_len_seq (by rfl) T.len PySem.boot_len (pa_cons (pv 0) pa_nil))))
      (pss_cons (ps_for PassesOwn.never rfl (pi_list (pv 0)) (pg_name (i := 2) scAscending.nd rfl (Or.inr rfl))
        (pss_one (ps_asg (pv 2) (pg_sub (pv 1) (pe_callB call_len_seq (by rfl) T.len PySem.boot_len (pa_cons
          (pe_lc (own := [("other", 3)]) (g := gName 3) (tt := tB (tCall (spLess K) [] E0 (tCons (tOp (rIxT K) (tVar 3) (tC (.int 0))) (tCons (tOp (rIxT K) (tVar 2) (tC (.int 0))) tNil)))) (te := tC (.int 1)) (by rfl) scAscending.nd (pi_list (pv 0)) (blkOk_by (N := ["pieces", "rows", "piece", "other"]) (sc := defScope sAscending) (by decide +kernel))
            (fun _ _ _ _ _ => pg_name (i := 3) scAscending.nd rfl (Or.inl rfl))
            (fun _ _ _ _ _ => pts_one (pt_val (pe_c0 cB hr (by decide) (by rfl) (pa_cons (pe_ix ix_tup (pv 3) pe_int (fun _ _ => rfl)) (pa_cons (pe_ix ix_tup (pv 2) pe_int (fun _ _ => rfl)) pa_nil)))))
            (fun _ _ _ _ _ => pe_int)) pa_nil)) set_list))))
      (pss_one (ps_ret (pe_callTy call_tuple_of (by rfl) T.tuple (by decide +kernel) (pa_cons (pv 1) pa_nil)))))), ?_⟩)) fun _ _ _ _ _ _ us hl => match us, hl with | [_], _ => rfl
  · obtain ⟨a, ps, ls, rfl, _⟩ := h
    rfl
  · obtain ⟨a, ps, ls, rfl, L, q⟩ := h
    obtain ⟨as, hS, hP⟩ := L.ex
    have hlen : ps.length = as.length := Paired.length hP
    have few := L.few
    refine ⟨(by show 1 ≤ sizeLine; decide), fun l0 n0 => ?_⟩
    obtain ⟨H0, e0, S0, f0⟩ := mk_s (.lst [.non]) n0
    rw [e0]
    refine ⟨_, rfl, a, _, rfl, .inl (S0.seq hS), l0, ((as.map V.ref).length : Int), [.non], rfl, rfl, f0, by omega, by rw [List.length_map]; omega, ?_, fun r nr => ?_⟩
    · rw [sizeLine_eq]
      simp
      omega
    obtain ⟨rows0, er⟩ : ∃ r : List V, (List.replicate (((as.map V.ref).length : Int)).toNat [V.non]).flatten = r := ⟨_, rfl⟩
    rw [er]
    have rlen : rows0.length = as.length := by
      rw [← er]
      simp
    obtain ⟨H1, e1, S1, f1⟩ := mk_s (.lst rows0) nr
    rw [e1]
    have nrH : H r = none := S0.free nr
    have s1 := S0.trans S1
    refine gn1 (σ' := [some (.ref a), some (.ref r), none, none]) rfl ?_
    refine ⟨_, rfl, a, rfl, ⟨_, s1.seq hS⟩, for_list (xs := as.map V.ref) (fun i σ G => ∃ (v : Option V) (rows : List V), σ = [some (.ref a), some (.ref r), v, none] ∧ Same H G ∧ G r = some (.lst rows) ∧ rows.length = ps.length ∧
      ∀ (m : Nat) p b, m < i → ps[m]? = some p → as[m]? = some b → rows[rank ps p]? = some (.ref b)) ⟨none, rows0, rfl, s1, f1, by omega, fun m p b z => absurd z (Nat.not_lt_zero _)⟩ (fun i σ G _ h => ?_) ?_ ?_⟩
    · obtain ⟨_, _, _, s, _⟩ := h
      exact s.seq hS
    · rintro i v σ G hv ⟨v2, rows, rfl, sG, fr, len, ask⟩
      obtain ⟨b, hb, rfl⟩ := get_map hv
      obtain ⟨p, hp, rp⟩ := pc_get hP hb
      refine gn1 (σ' := [some (.ref a), some (.ref r), some (.ref b), none]) rfl ?_
      refine ⟨_, rfl, _, rfl, _, rfl, a, rfl, ⟨_, sG.seq hS⟩, fun D nD => ?_⟩
      have nDH : H D = none := sG.free nD
      have nrD : r ≠ D := ne_of_none fr nD
      obtain ⟨l1, h1, eb, rl, rh⟩ := rp
      refine lc_list (K := K) (a := a) (xs := as.map V.ref) (fun j G2 => Same H G2 ∧ G2 r = some (.lst rows) ∧ G2 D = some (.lst (List.replicate (rank (ps.take j) p) (.int 1)))) ⟨same_at nDH sG, (upd_ne nrD).trans fr, upd_same⟩ (fun j G2 _ h => h.1.seq hS) ?_ ?_
      · rintro j u G2 hu ⟨s2, r2, d2⟩
        obtain ⟨b2, hb2, rfl⟩ := get_map hu
        obtain ⟨o, ho, ⟨l2, h2, eb2, rl2, rh2⟩⟩ := pc_get hP hb2
        refine ⟨rfl, ?_⟩
        refine ⟨_, rfl, b2, _, _, _, rfl, rfl, sqt_on eb2 s2, rfl, _, rfl, b, _, _, _, rfl, rfl, sqt_on eb s2, rfl, l2, l1, o.lo, p.lo, rfl, rl2.on s2, rl.on s2, (L.sz8 o (List.mem_of_getElem? ho)).1, (L.sz8 p (List.mem_of_getElem? hp)).1, _, rfl, ?_⟩
        have rn := rank_next (p := p) ho
        by_cases c : o.lo < p.lo
        · rw [decide_eq_true c]
          rw [if_pos c] at rn
          refine iteT ⟨_, d2, ?_, same_at nDH s2, (upd_ne nrD).trans r2, ?_⟩
          · have := rank_le (ps.take j) p
            rw [List.length_take] at this
            rw [List.length_replicate, sizeLine_eq]
            omega
          · rw [upd_same, rn, List.replicate_succ']
        · rw [decide_eq_false c]
          rw [if_neg c] at rn
          refine iteF ⟨s2, r2, ?_⟩
          rw [rn]
          exact d2
      · rintro G2 ⟨s2, r2, d2⟩
        have ek : (List.replicate (rank (ps.take (as.map V.ref).length) p) (V.int 1)).length = rank ps p := by
          rw [List.length_replicate, List.length_map, ← hlen, List.take_length]
        have rk : rank ps p < rows.length := by
          have e2 := rank_perm L.lot.perm p
          obtain ⟨k, hk⟩ := List.getElem?_of_mem (L.lot.perm.mem_iff.mp (List.mem_of_getElem? hp))
          have e3 := rank_at L.lot.row.los k p hk
          have e4 := L.lot.perm.length_eq
          have := (List.getElem?_eq_some_iff.mp hk).1
          omega
        refine ⟨D, _, rfl, .inl (SqL.of d2), r, rows, _, rank ps p, rfl, rfl, r2, ?_, ?_⟩
        · rw [ek]
          exact Evl.ixN_nat rk
        refine ⟨_, _, rfl, same_at nrH s2, upd_same, by rw [List.length_set]; exact len, fun m p2 b3 hm hp2 hb3 => ?_⟩
        by_cases em : m = i
        · subst em
          rw [hp] at hp2
          cases hp2
          rw [hb] at hb3
          cases hb3
          rw [List.getElem?_set, if_pos rfl, if_pos rk]
        · have hm2 : m < i := by omega
          have old := ask m p2 b3 hm2 hp2 hb3
          have ne : rank ps p ≠ rank ps p2 := by
            intro z
            obtain ⟨k1, hk1⟩ := List.getElem?_of_mem (L.lot.perm.mem_iff.mp (List.mem_of_getElem? hp))
            obtain ⟨k2, hk2⟩ := List.getElem?_of_mem (L.lot.perm.mem_iff.mp (List.mem_of_getElem? hp2))
            have a1 := rank_at L.lot.row.los k1 p hk1
            have a2 := rank_at L.lot.row.los k2 p2 hk2
            rw [rank_perm L.lot.perm, rank_perm L.lot.perm] at z
            have ek2 : k1 = k2 := by omega
            rw [ek2, hk2] at hk1
            cases hk1
            have dd := List.pairwise_iff_getElem.mp L.lot.apart m i (List.getElem?_eq_some_iff.mp hp2).1 (List.getElem?_eq_some_iff.mp hp).1 hm2
            rw [(List.getElem?_eq_some_iff.mp hp2).2, (List.getElem?_eq_some_iff.mp hp).2] at dd
            have := (L.lot.ok p (List.mem_of_getElem? hp)).lt
            exact dd ⟨this, this⟩
          rw [List.getElem?_set, if_neg ne]
          exact old
    · rintro σ G ⟨v2, rows, rfl, sG, fr, len, ask⟩
      have ask2 : ∀ (m : Nat) p b, ps[m]? = some p → as[m]? = some b → rows[rank ps p]? = some (.ref b) := fun m p b h1 h2 => ask m p b (by rw [List.length_map]; exact (List.getElem?_eq_some_iff.mp h2).1) h1 h2
      obtain ⟨bs, eb, pr⟩ := ranked L.lot (by omega) (by omega) ask2
      refine ⟨_, rfl, r, rows, rfl, .inl ⟨SqL.of fr, fun t nt => ?_⟩⟩
      obtain ⟨G2, e2, S2, f2⟩ := mk_s (.tup rows) nt
      rw [e2]
      refine q t G2 bs (sG.trans S2) (SqT.of ?_) (pr _ (pcs_on (sG.trans S2) hP))
      rw [← eb]
      exact f2
end
end G1
set_option maxHeartbeats 8000000
namespace G1
open PySem PySem.Spec PyProof.Rows L2 JN
/-- the two ends -/
structure Ends2 (K : PySem.W.Frag) (mg : Str → Option Value) : Prop where
  nothing : ∃ a, mg "NOTHING" = some (.ref a) ∧ ∀ H, RtAt K H 0 a
  whole : ∃ a, mg "WHOLE" = some (.ref a) ∧ ∀ H, RtAt K H 1 a
theorem ne_dec {x y : Rat} : (!PyData.eqv (dRt x) (dRt y)) = !decide (x = y) := by rw [dRt_eqv]
section
variable {P : Program} {w : World} {K : PySem.W.Frag} {mg : Str → Option Value} {base : Heap}
theorem scShapeOf : FnScope ["pieces", "words", "end", "low", "high", "kind"] ["pieces"] (defScope sShapeOf) := ⟨rfl, rfl, rfl, by decide +kernel, rfl, by decide +kernel, by decide +kernel⟩
theorem cl_shapeof (D : DefAt K mg "_shape_of" sShapeOf) (T : Blt mg) (E2 : Ends2 K mg) : Cl CX0 P w K mg base 1 "_shape_of" ["pieces"] (spShape K) := by
  obtain ⟨f, fd, F, hm⟩ := D
  obtain ⟨aN, gN, rN⟩ := E2.nothing
  obtain ⟨aW, gW, rW⟩ := E2.whole
  refine cl_of F hm (F.ok scShapeOf (fun vs H Q E h => ?_) (fun cdv A outer s H vs Q E hr h => ⟨_, PSs.nox (pss_cons
      (ps_set (i := 1) scShapeOf.nd rfl (Or.inl rfl) (pe_lst pa_nil))
      (pss_cons (ps_set (i := 2) scShapeOf.nd rfl (Or.inl rfl) (pe_glob (v := .ref aN) rfl gN rfl))
      (pss_cons (ps_for PassesOwn.never rfl (pi_tup (pv 0)) (pg_tup (by rfl) (pgs_cons (pg_name (i := 3) scShapeOf.nd rfl (Or.inl rfl)) (pgs_cons (pg_name (i := 4) scShapeOf.nd rfl (Or.inl rfl)) (pgs_cons (pg_name (i := 5) scShapeOf.nd rfl (Or.inl rfl)) pgs_nil))))
        (pss_cons (ps_if (pt_cmpR (op_neD hr.units) (pv 3) (pv 2) (nomark _)) (pss_one (ps_expr (pe_bm PySem.F.plainAttrs_list PySem.F.slot_list_append PySem.F.type_list_append mt_append (pv 1) (pa_cons pe_str pa_nil)))) pss_nil)
        (pss_cons (ps_expr (pe_bm PySem.F.plainAttrs_list PySem.F.slot_list_append PySem.F.type_list_append mt_append (pv 1) (pa_cons (pv 5) pa_nil)))
        (pss_one (ps_set (i := 2) scShapeOf.nd rfl (Or.inl rfl) (pv 4))))))
      (pss_cons (ps_if (pt_cmpR (op_neD hr.units) (pv 2) (pe_glob (v := .ref aW) rfl gW rfl) (nomark _)) (pss_one (ps_expr (pe_bm PySem.F.plainAttrs_list PySem.F.slot_list_append PySem.F.type_list_append mt_append (pv 1) (pa_cons pe_str pa_nil)))) pss_nil)
      (pss_one (ps_ret (pe_callTy call_tuple_of (by rfl) T.tuple (by decide +kernel) (pa_cons (pv 1) pa_nil)))))))), ?_⟩)) fun _ _ _ _ _ _ us hl => match us, hl with | [_], _ => rfl
  · obtain ⟨a, ls, bs, rfl, _⟩ := h
    rfl
  · obtain ⟨a, ls, bs, rfl, hS, hP, few, q⟩ := h
    have hlen : ls.length = bs.length := Paired.length hP
    refine ⟨(by show 0 ≤ sizeLine; decide), fun wl nw => ?_⟩
    obtain ⟨H0, e0, S0, f0⟩ := mk_s (.lst []) nw
    rw [e0]
    refine gn1 (σ' := [some (.ref a), some (.ref wl), none, none, none, none]) rfl ?_
    have room : ∀ i, (walked (ls.take i)).1.length + 4 ≤ sizeLine := fun i => by
      have h1 := walked_len (ls.take i)
      rw [List.length_take] at h1
      rw [sizeLine_eq]
      omega
    refine ⟨_, rfl, a, rfl, ⟨_, sqt_on hS S0⟩, ?_⟩
    refine for_it (walk_tup (K := K) (a := a) (xs := bs.map V.ref)) (fun i σ G => ∃ (e : Addr) (v3 v4 v5 : Option V), σ = [some (.ref a), some (.ref wl), some (.ref e), v3, v4, v5] ∧ Same H G ∧ RtAt K G (walked (ls.take i)).2 e ∧ G wl = some (.lst ((walked (ls.take i)).1.map V.str)))
      ⟨aN, none, none, none, rfl, S0, rN _, f0⟩ (fun i σ G _ h => ?_) ?_ ?_
    · obtain ⟨_, _, _, _, _, s, _⟩ := h
      exact sqt_on hS s
    · rintro i v σ G G' hi ⟨e, v3, v4, v5, rfl, sG, re, fw⟩ ⟨rfl, hv⟩
      obtain ⟨b, hb, rfl⟩ := get_map hv
      obtain ⟨p, hp, ⟨l, u, eb, rl, ru⟩⟩ := pc_get hP hb
      have wn := walked_next hp
      have rm := room i
      refine ⟨b, _, rfl, sqt_on eb sG, rfl, _, _, rfl, _, _, rfl, _, _, rfl, rfl, ?_⟩
      refine ⟨_, rfl, _, rfl, _, _, (rl.on sG).dp, re.dp, dRt_shp _, dRt_shp _, _, rfl, ?_⟩
      rw [ne_dec]
      by_cases c : p.lo = (walked (ls.take i)).2
      · rw [decide_eq_true c]
        refine iteF ?_
        refine ⟨_, rfl, .inl ⟨rfl, _, SqL.of fw⟩, _, rfl, wl, _, _, rfl, rfl, fw, by rw [List.length_map]; omega, ?_⟩
        obtain ⟨G1, e1, s1, f1⟩ : ∃ G1, upd G' wl (.lst ((walked (ls.take i)).1.map V.str ++ [.str p.kind])) = G1 ∧ Same H G1 ∧ G1 wl = some (.lst ((walked (ls.take i)).1.map V.str ++ [.str p.kind])) := ⟨_, rfl, same_at nw sG, upd_same⟩
        rw [e1]
        refine ⟨_, rfl, u, _, _, _, rfl, s1, ?_, ?_⟩
        · rw [wn]
          exact ru.on s1
        · rw [wn, f1]
          unfold JN.step
          dsimp only
          rw [if_pos c, List.append_nil, List.map_append]
          rfl
      · rw [decide_eq_false c]
        refine iteT ?_
        refine ⟨_, rfl, .inl ⟨rfl, _, SqL.of fw⟩, wl, _, _, rfl, rfl, fw, by rw [List.length_map]; omega, ?_⟩
        obtain ⟨G0, e0', s0, f0'⟩ : ∃ G1, upd G' wl (.lst ((walked (ls.take i)).1.map V.str ++ [.str "minimum"])) = G1 ∧ Same H G1 ∧ G1 wl = some (.lst ((walked (ls.take i)).1.map V.str ++ [.str "minimum"])) := ⟨_, rfl, same_at nw sG, upd_same⟩
        rw [e0']
        refine ⟨_, rfl, .inl ⟨rfl, _, SqL.of f0'⟩, _, rfl, wl, _, _, rfl, rfl, f0', by rw [List.length_append, List.length_map]; show _ + 1 < _; omega, ?_⟩
        obtain ⟨G1, e1, s1, f1⟩ : ∃ G1, upd G0 wl (.lst (((walked (ls.take i)).1.map V.str ++ [.str "minimum"]) ++ [.str p.kind])) = G1 ∧ Same H G1 ∧ G1 wl = some (.lst (((walked (ls.take i)).1.map V.str ++ [.str "minimum"]) ++ [.str p.kind])) := ⟨_, rfl, same_at nw s0, upd_same⟩
        rw [e1]
        refine ⟨_, rfl, u, _, _, _, rfl, s1, ?_, ?_⟩
        · rw [wn]
          exact ru.on s1
        · rw [wn, f1]
          unfold JN.step
          dsimp only
          rw [if_neg c, List.map_append, List.map_append]
          rfl
    · rintro σ G ⟨e, v3, v4, v5, rfl, sG, re, fw⟩
      rw [List.length_map, ← hlen, List.take_length] at re fw
      have rm := room ls.length
      rw [List.take_length] at rm
      refine ⟨_, rfl, _, _, re.dp, (rW G).dp, dRt_shp _, dRt_shp _, _, rfl, ?_⟩
      rw [ne_dec]
      have fin : ∀ G1, Same H G1 → G1 wl = some (.lst ((shape ls).map V.str)) → ∀ t, G1 t = none → Q (.ref t) (upd G1 t (.tup ((shape ls).map V.str))) := by
        intro G1 s1 f1 t nt
        exact q t _ (s1.trans fun b u e => (upd_ne (ne_of_none e nt)).trans e) (SqT.of upd_same)
      by_cases c : (walked ls).2 = 1
      · rw [decide_eq_true c]
        refine iteF ?_
        have es : shape ls = (walked ls).1 := by
          unfold shape
          rw [if_pos c, List.append_nil]
        refine ⟨_, rfl, wl, _, rfl, .inl ⟨SqL.of fw, fun t nt => ?_⟩⟩
        rw [← es] at fw ⊢
        exact fin G sG fw t nt
      · rw [decide_eq_false c]
        refine iteT ?_
        have es : shape ls = (walked ls).1 ++ (["minimum"] : List Str) := by
          unfold shape
          rw [if_neg c]
        refine ⟨_, rfl, .inl ⟨rfl, _, SqL.of fw⟩, wl, _, _, rfl, rfl, fw, by rw [List.length_map]; omega, ?_⟩
        obtain ⟨G1, e1, s1, f1⟩ : ∃ G1, upd G wl (.lst ((walked ls).1.map V.str ++ [.str "minimum"])) = G1 ∧ Same H G1 ∧ G1 wl = some (.lst ((walked ls).1.map V.str ++ [.str "minimum"])) := ⟨_, rfl, same_at nw sG, upd_same⟩
        rw [e1]
        have em : (walked ls).1.map V.str ++ [V.str "minimum"] = (shape ls).map V.str := by
          rw [es, List.map_append]
          rfl
        rw [em] at f1
        refine ⟨_, rfl, wl, _, rfl, .inl ⟨SqL.of f1, fun t nt => ?_⟩⟩
        exact fin G1 s1 f1 t nt
end
end G1
set_option maxHeartbeats 8000000
namespace G1
open PySem PySem.Spec PyProof.Rows L2 JN
/-! ### joinings -/
structure JoinAt (K : PySem.W.Frag) (C : Addr) (H : Hp) (a : Addr) (ls : List Pc) : Prop where
  ex : ∃ (dx q r : Addr) (bs : List Addr), H a = some (.ins C dx [("pieces", .ref q), ("shape", .ref r)]) ∧ SqT K H q (bs.map V.ref) ∧ PcsAt K H ls bs ∧ SqT K H r ((shape ls).map V.str)
  row : Row ls
  few : ls.length ≤ 1000
  sz : ∀ p ∈ ls, PSz 500 p
theorem JoinAt.on {K : PySem.W.Frag} {C : Addr} {H H' : Hp} {a : Addr} {ls : List Pc} (h : JoinAt K C H a ls) (s : Same H H') : JoinAt K C H' a ls := by
  obtain ⟨dx, q, r, bs, h1, h2, h3, h4⟩ := h.ex
  exact ⟨⟨dx, q, r, bs, s _ _ h1, sqt_on h2 s, pcs_on s h3, sqt_on h4 s⟩, h.row, h.few, h.sz⟩
/-- what the head leaves of the class -/
structure JoinTxt (K : PySem.W.Frag) (mg : Str → Option Value) (C : Addr) : Prop where
  gC : mg "Joining" = some (.ref C)
  cl : Cls K C
  nP : NoAttr K C "pieces"
  nS : NoAttr K C "shape"
  ow : OwnF K C
  ini : ∃ (fI : Addr) (fd : FuncData) (e0 : Addr), Mk K C fI ∧ FunD K "__init__" "Joining.__init__" (defArgs mJoiningInit) (defBody mJoiningInit) (defScope mJoiningInit) [.ref e0] [] fI fd ∧ ∀ H, SqT K H e0 []
def spInitJ (K : PySem.W.Frag) (C : Addr) : Sp := fun vs H Q _ => ∃ (a dx l : Addr) (G : Hp) (ps ls : List Pc), vs = [.ref a, .ref l] ∧ H a = some (.ins C dx []) ∧ Same G H ∧ G a = none ∧ LotAt K G l ps ls ∧
  ∀ H', Same G H' → JoinAt K C H' a ls → Q .non H'
theorem same_ins {G H : Hp} {a : Addr} {o : HO} (n : G a = none) (s : Same G H) : Same G (upd H a o) := same_at n s
theorem sqt_ins {K : PySem.W.Frag} {H : Hp} {q a C dx : Addr} {xs : List V} {fs : List (Str × V)} {o : HO} (h : SqT K H q xs) (e : H a = some (.ins C dx fs)) : SqT K (upd H a o) q xs := by
  have ne : ∀ u, H q = some u → (∀ D f g, u ≠ .ins D f g) → upd H a o q = H q := fun u z n => upd_ne fun y => by
    rw [y, e] at z
    cases z
    exact n _ _ _ rfl
  match h with
  | .inl (.inl h) => exact .inl (.inl ((ne _ h (fun _ _ _ => nofun)).trans h))
  | .inl (.inr ⟨u, h⟩) => exact .inl (.inr ⟨u, (ne _ h (fun _ _ _ => nofun)).trans h⟩)
  | .inr h => exact .inr h
theorem rt_ins {K : PySem.W.Frag} {H : Hp} {t a C dx : Addr} {x : Rat} {fs : List (Str × V)} {o : HO} (h : RtAt K H x t) (e : H a = some (.ins C dx fs)) : RtAt K (upd H a o) x t := sqt_ins h e
theorem pc_ins {K : PySem.W.Frag} {H : Hp} {t a C dx : Addr} {p : Pc} {fs : List (Str × V)} {o : HO} (h : PcAt K H p t) (e : H a = some (.ins C dx fs)) : PcAt K (upd H a o) p t := by
  obtain ⟨l, u, h1, h2, h3⟩ := h
  exact ⟨l, u, sqt_ins h1 e, rt_ins h2 e, rt_ins h3 e⟩
section
variable {P : Program} {w : World} {K : PySem.W.Frag} {mg : Str → Option Value} {base : Heap} {C : Addr}
theorem scJoinit : FnScope ["self", "pieces"] ["self", "pieces"] (defScope mJoiningInit) := ⟨rfl, rfl, rfl, by decide +kernel, rfl, by decide +kernel, by decide +kernel⟩
theorem ok_joinit {fI : Addr} {fd : FuncData} {dvs : List V} (F : FunD K "__init__" "Joining.__init__" (defArgs mJoiningInit) (defBody mJoiningInit) (defScope mJoiningInit) dvs [] fI fd) (T : JoinTxt K mg C)
    (cC : Cl CX0 P w K mg base 4 "_check_pieces" ["things"] (spCheckPs K)) (cA : Cl CX0 P w K mg base 2 "_ascending" ["pieces"] (spAscend K)) (cS : Cl CX0 P w K mg base 1 "_shape_of" ["pieces"] (spShape K)) :
    FnOk P w K mg base CX0 5 fI fd ["self", "pieces"] (spInitJ K C) := by
  refine F.ok scJoinit (fun vs H Q E h => ?_) (fun cdv A outer s H vs Q E hr h => ⟨_, PSs.nox (pss_cons
      (ps_expr (pe_c0 cC hr (by decide) (by rfl) (pa_cons (pv 1) pa_nil)))
      (pss_cons (ps_fld (pv 0) (pe_c0 cA hr (by decide) (by rfl) (pa_cons (pv 1) pa_nil)) rfl)
      (pss_one (ps_fld (pv 0) (pe_c0 cS hr (by decide) (by rfl) (pa_cons (pe_fld (pv 0) rfl) pa_nil)) rfl)))), ?_⟩)
  · obtain ⟨a, dx, l, G, ps, ls, rfl, _⟩ := h
    rfl
  · obtain ⟨a, dx, l, G, ps, ls, rfl, ha, sG, nA, L, q⟩ := h
    have few : ls.length ≤ 1000 := by
      have := L.lot.perm.length_eq
      have := L.few
      omega
    have szs : ∀ p ∈ ls, PSz 500 p := fun p hp => L.sz p (L.lot.perm.mem_iff.mpr hp)
    refine ⟨_, rfl, l, ps, ls, rfl, L.on sG, fun H1 s1 => ?_⟩
    have sG1 := sG.trans s1
    refine ⟨_, rfl, l, ps, ls, rfl, L.on sG1, fun t H2 bs s2 ht hb => ?_⟩
    have sG2 := sG1.trans s2
    have a2 : H2 a = some (.ins C dx []) := s2 _ _ (s1 _ _ ha)
    refine ⟨_, rfl, a, C, dx, _, rfl, a2, T.cl, T.nP, (by decide), ?_⟩
    obtain ⟨H3, e3, s3, f3⟩ : ∃ H3, upd H2 a (.ins C dx (putF "pieces" (.ref t) [])) = H3 ∧ Same G H3 ∧ H3 a = some (.ins C dx [("pieces", .ref t)]) := ⟨_, rfl, same_at nA sG2, upd_same⟩
    have ht3 : SqT K H3 t (bs.map V.ref) := by
      rw [← e3]
      exact sqt_ins ht a2
    have hb3 : PcsAt K H3 ls bs := by
      rw [← e3]
      exact paired_imp (fun _ _ z => pc_ins z a2) hb
    rw [e3]
    refine ⟨_, rfl, a, C, dx, _, _, rfl, f3, T.cl, T.nP, rfl, t, ls, bs, rfl, ht3, hb3, few, fun r H4 s4 hs => ?_⟩
    have a4 := s4 _ _ f3
    refine ⟨_, rfl, a, C, dx, _, rfl, a4, T.cl, T.nS, (by show 1 < 1000; decide), ?_⟩
    refine q _ (same_at nA (s3.trans s4)) ⟨⟨dx, t, r, bs, upd_same, sqt_ins (sqt_on ht3 s4) a4, paired_imp (fun _ _ z => pc_ins z a4) (pcs_on s4 hb3), sqt_ins hs a4⟩, L.lot.row, few, szs⟩
/-- the class as it is called -/
structure MakerJ (P : Program) (w : World) (K : PySem.W.Frag) (mg : Str → Option Value) (base : Heap) (C : Addr) : Prop where
  ex : ∃ (fI : Addr) (fd : FuncData) (e0 : Addr) (d1 : List Value), Mk K C fI ∧ FnOk P w K mg base CX0 5 fI fd ["self", "pieces"] (spInitJ K C) ∧ (∀ H, SqT K H e0 []) ∧
    Binds K fd ["self", "pieces"] [] ∧ Binds K fd ["self", "pieces"] d1 ∧ Vals [.ref e0] d1
theorem makerJ (T : JoinTxt K mg C) (cC : Cl CX0 P w K mg base 4 "_check_pieces" ["things"] (spCheckPs K)) (cA : Cl CX0 P w K mg base 2 "_ascending" ["pieces"] (spAscend K)) (cS : Cl CX0 P w K mg base 1 "_shape_of" ["pieces"] (spShape K)) : MakerJ P w K mg base C := by
  obtain ⟨fI, fd, e0, M, F, h0⟩ := T.ini
  obtain ⟨d0, v0, b0⟩ := F.binds1 (ps := ["self", "pieces"]) 2 1 (by simp) rfl fun T kV doc pm an cdv ct us its hu hi => match us, its, hu, hi with | [_, _], [_], _, _ => ⟨_, rfl, rfl⟩
  obtain ⟨d1, v1, b1⟩ := F.binds1 (ps := ["self", "pieces"]) 1 0 (by simp) rfl fun T kV doc pm an cdv ct us its hu hi => match us, its, hu, hi with | [_], [_], _, _ => ⟨_, rfl, rfl⟩
  cases v0
  exact ⟨fI, fd, e0, d1, M, ok_joinit F T cC cA cS, h0, b0, b1, v1⟩
/-- Joining(l) -/
theorem made_join {G : Hp} {x dx l : Addr} {ps ls : List Pc} {Q : VK} {E : XK} (hx : G x = none) (hd : G dx = none) (L : LotAt K G l ps ls) (fit : ∀ H', Same G H' → JoinAt K C H' x ls → Q (.ref x) H') :
    spInitJ K C [.ref x, .ref l] (upd (upd G dx (.own x)) x (.ins C dx [])) (fun v H2 => v = .non ∧ Q (.ref x) H2) E :=
  ⟨x, dx, l, G, ps, ls, rfl, upd_same, same_at hx (same_at hd (Same.refl _)), hx, L, fun H' s h => ⟨rfl, fit H' s h⟩⟩
end
end G1
set_option maxHeartbeats 8000000
namespace G1
open PySem PySem.Spec PyProof.Rows L2 JN
/-! ### _piece_around, _both, _then -/
structure RowAt (K : PySem.W.Frag) (H : Hp) (q : Addr) (ls : List Pc) : Prop where
  ex : ∃ bs : List Addr, SqT K H q (bs.map V.ref) ∧ PcsAt K H ls bs
  row : Row ls
  sz : ∀ p ∈ ls, PSz 120 p
theorem RowAt.on {K : PySem.W.Frag} {H H' : Hp} {q : Addr} {ls : List Pc} (h : RowAt K H q ls) (s : Same H H') : RowAt K H' q ls := by
  obtain ⟨bs, h1, h2⟩ := h.ex
  exact ⟨⟨bs, sqt_on h1 s, pcs_on s h2⟩, h.row, h.sz⟩
structure AroundP (K : PySem.W.Frag) (ls : List Pc) (x y : Rat) (H : Hp) (Q : VK) : Prop where
  no : around ls x y = none → Q .non H
  yes : ∀ b p, around ls x y = some p → PcAt K H p b → Q (.ref b) H
def spAround (K : PySem.W.Frag) : Sp := fun vs H Q _ => ∃ (q t u : Addr) (ls : List Pc) (x y : Rat), vs = [.ref q, .ref t, .ref u] ∧ RowAt K H q ls ∧ RtAt K H x t ∧ RtAt K H y u ∧ Sz 3900 x ∧ Sz 3900 y ∧ AroundP K ls x y H Q
def spBothL (K : PySem.W.Frag) (g : List Pc → Rat → Rat → Rat) : Sp := fun vs H Q _ => ∃ (q t u : Addr) (ls : List Pc) (x y : Rat), vs = [.ref q, .ref t, .ref u] ∧ RowAt K H q ls ∧ RtAt K H x t ∧ RtAt K H y u ∧ Sz 1500 x ∧ Sz 1500 y ∧ ∀ a H', Same H H' → RtAt K H' (g ls x y) a → Q (.ref a) H'
section
variable {P : Program} {w : World} {K : PySem.W.Frag} {mg : Str → Option Value} {base : Heap}
theorem scAround : FnScope ["pieces", "x", "y", "least", "most", "piece"] ["pieces", "x", "y"] (defScope sPieceAround) := ⟨rfl, rfl, rfl, by decide +kernel, rfl, by decide +kernel, by decide +kernel⟩
theorem cl_around (D : DefAt K mg "_piece_around" sPieceAround) (cB : Cl CX0 P w K mg base 1 "is_below" ["x", "y"] (spLess K)) (cL : Cl CX0 P w K mg base 2 "lower_of" ["x", "y"] (spPick K low)) (cH : Cl CX0 P w K mg base 2 "higher_of" ["x", "y"] (spPick K high)) : Cl CX0 P w K mg base 3 "_piece_around" ["pieces", "x", "y"] (spAround K) := by
  obtain ⟨f, fd, F, hm⟩ := D
  refine cl_of F hm (F.ok scAround (fun vs H Q E h => ?_) (fun cdv A outer s H vs Q E hr h => ⟨_, PSs.nox (pss_cons
      (ps_par (i := 3) (j := 4) (by rfl) scAround.nd rfl rfl (by decide) rfl rfl (pa_cons (pe_c0 cL hr (by decide) (by rfl) (pa_cons (pv 1) (pa_cons (pv 2) pa_nil))) (pa_cons (pe_c0 cH hr (by decide) (by rfl) (pa_cons (pv 1) (pa_cons (pv 2) pa_nil))) pa_nil)) (by rfl))
      (pss_cons (ps_for PassesOwn.never rfl (pi_tup (pv 0)) (pg_name (i := 5) scAround.nd rfl (Or.inl rfl))
        (pss_one (ps_if (PW.pt (pw_and (pt_not (pt_val (pe_c0 cB hr (by decide) (by rfl) (pa_cons (pv 3) (pa_cons (pe_ix ix_tup (pv 5) pe_int (fun _ _ => rfl)) pa_nil)))))
            (pw_and1 (pt_not (pt_val (pe_c0 cB hr (by decide) (by rfl) (pa_cons (pe_ix ix_tup (pv 5) pe_int (fun _ _ => rfl)) (pa_cons (pv 4) pa_nil))))))))
          (pss_one (ps_ret (pv 5))) pss_nil)))
      (pss_one (ps_ret pe_non)))), ?_⟩)) fun _ _ _ _ _ _ us hl => match us, hl with | [_, _, _], _ => rfl
  · obtain ⟨q, t, u, ls, x, y, rfl, _⟩ := h
    rfl
  · obtain ⟨q, t, u, ls, x, y, rfl, R, ht, hu, sx, sy, ap⟩ := h
    obtain ⟨bs, hq, pb⟩ := R.ex
    have up : ∀ {z : Rat}, Sz 3900 z → Sz 8000 z := fun h => h.mono (by decide)
    refine ⟨_, rfl, _, rfl, t, u, x, y, rfl, ht, hu, up sx, up sy, fun a ra => ?_⟩
    refine ⟨_, rfl, _, rfl, t, u, x, y, rfl, ht, hu, up sx, up sy, fun b rb => ?_⟩
    refine ⟨_, _, rfl, ?_⟩
    have sl := low_sz (up sx) (up sy)
    have sh := high_sz (up sx) (up sy)
    have lb := paired_len pb
    refine ⟨_, rfl, q, rfl, ⟨_, hq⟩, ?_⟩
    refine for_it (walk_tup (K := K) (a := q) (xs := bs.map V.ref)) (fun i σ G => G = H ∧ ∃ v5 : Option V, σ = [some (.ref q), some (.ref t), some (.ref u), some (.ref a), some (.ref b), v5] ∧ ∀ m p, m < i → ls[m]? = some p → p.has x y = false) ⟨rfl, none, rfl, fun m p z => absurd z (Nat.not_lt_zero _)⟩ (fun i σ G _ h => ?_) ?_ ?_
    · rw [h.1]
      exact hq
    · rintro i v σ G G' hi ⟨rfl, v5, rfl, old⟩ ⟨rfl, hv⟩
      obtain ⟨c, hc, rfl⟩ := get_map hv
      obtain ⟨p, hp, pc⟩ := pc_get pb hc
      obtain ⟨l, h, e, r1, r2⟩ := id pc
      have zp := R.sz p (List.mem_of_getElem? hp)
      refine ⟨_, rfl, _, rfl, c, _, _, _, rfl, rfl, e, rfl, a, l, _, p.lo, rfl, ra, r1, sl, zp.1.mono (by decide), _, rfl, ?_⟩
      by_cases c1 : low x y < p.lo
      · rw [decide_eq_true c1]
        refine iteF (iteF ⟨rfl, _, rfl, fun m q' hm hq' => ?_⟩)
        by_cases em : m = i
        · subst em
          rw [hp] at hq'
          cases hq'
          exact decide_eq_false fun z => z.1 c1
        · exact old m q' (by omega) hq'
      · rw [decide_eq_false c1]
        refine iteT ?_
        refine ⟨_, rfl, c, _, _, _, rfl, rfl, e, rfl, _, rfl, h, b, p.hi, _, rfl, r2, rb, zp.2.mono (by decide), sh, _, rfl, ?_⟩
        by_cases c2 : p.hi < high x y
        · rw [decide_eq_true c2]
          refine iteF ⟨rfl, _, rfl, fun m q' hm hq' => ?_⟩
          by_cases em : m = i
          · subst em
            rw [hp] at hq'
            cases hq'
            exact decide_eq_false fun z => z.2 c2
          · exact old m q' (by omega) hq'
        · rw [decide_eq_false c2]
          refine iteT ⟨_, rfl, ?_⟩
          exact ap.yes c p (around_at hp (decide_eq_true ⟨c1, c2⟩) old) pc
    · rintro σ G ⟨rfl, v5, rfl, old⟩
      refine ap.no (around_none fun m q' hq' => old m q' ?_ hq')
      have := (List.getElem?_eq_some_iff.mp hq').1
      rw [List.length_map]
      omega
theorem scBothL : FnScope ["pieces", "x", "y", "piece", "low", "high", "kind"] ["pieces", "x", "y"] (defScope sBoth) := ⟨rfl, rfl, rfl, by decide +kernel, rfl, by decide +kernel, by decide +kernel⟩
/-- the fractions' functions -/
structure Fr (P : Program) (w : World) (K : PySem.W.Frag) (mg : Str → Option Value) (base : Heap) : Prop where
  plus : Cl CX0 P w K mg base 2 "plus" ["x", "y"] (spQ2 K (fun _ _ => True) (fun x y => x + y))
  minus : Cl CX0 P w K mg base 2 "minus" ["x", "y"] (spQ2 K (fun _ _ => True) (fun x y => x - y))
  times : Cl CX0 P w K mg base 2 "times" ["x", "y"] (spQ2 K (fun _ _ => True) (fun x y => x * y))
  over : Cl CX0 P w K mg base 2 "over" ["x", "y"] (spQ2 K (fun _ y => 0 < y) (fun x y => x / y))
  below : Cl CX0 P w K mg base 1 "is_below" ["x", "y"] (spLess K)
  lower : Cl CX0 P w K mg base 2 "lower_of" ["x", "y"] (spPick K low)
  higher : Cl CX0 P w K mg base 2 "higher_of" ["x", "y"] (spPick K high)
  around : Cl CX0 P w K mg base 3 "_piece_around" ["pieces", "x", "y"] (spAround K)
theorem kind_sum (k : Bool) : decide (V.str (kindS k) = V.str "sum") = k := by cases k <;> decide +kernel
theorem cl_bothl (D : DefAt K mg "_both" sBoth) (Z : Fr P w K mg base) : Cl CX0 P w K mg base 4 "_both" ["pieces", "x", "y"] (spBothL K bothQ) := by
  obtain ⟨f, fd, F, hm⟩ := D
  refine cl_of F hm (F.ok scBothL (fun vs H Q E h => ?_) (fun cdv A outer s H vs Q E hr h => ⟨_, PSs.nox (pss_cons
      (ps_set (i := 3) scBothL.nd rfl (Or.inl rfl) (pe_c0 Z.around hr (by decide) (by rfl) (pa_cons (pv 0) (pa_cons (pv 1) (pa_cons (pv 2) pa_nil)))))
      (pss_cons (ps_if (pt_cmp (pc_isN (pv 3))) (pss_one (ps_ret (pe_c0 Z.lower hr (by decide) (by rfl) (pa_cons (pv 1) (pa_cons (pv 2) pa_nil))))) pss_nil)
      (pss_cons (ps_asg (pv 3) (pg_tup (by rfl) (pgs_cons (pg_name (i := 4) scBothL.nd rfl (Or.inl rfl)) (pgs_cons (pg_name (i := 5) scBothL.nd rfl (Or.inl rfl)) (pgs_cons (pg_name (i := 6) scBothL.nd rfl (Or.inl rfl)) pgs_nil)))))
      (pss_cons (ps_if (pt_cmpR op_eq (pv 6) pe_str (nomark _))
        (pss_one (ps_ret (pe_c0 Z.higher hr (by decide) (by rfl) (pa_cons (pv 4) (pa_cons (pe_c0 Z.minus hr (by decide) (by rfl) (pa_cons (pe_c0 Z.plus hr (by decide) (by rfl) (pa_cons (pv 1) (pa_cons (pv 2) pa_nil))) (pa_cons (pv 5) pa_nil))) pa_nil))))) pss_nil)
      (pss_one (ps_ret (pe_c0 Z.plus hr (by decide) (by rfl) (pa_cons (pv 4) (pa_cons (pe_c0 Z.over hr (by decide) (by rfl) (pa_cons (pe_c0 Z.times hr (by decide) (by rfl) (pa_cons (pe_c0 Z.minus hr (by decide) (by rfl) (pa_cons (pv 1) (pa_cons (pv 4) pa_nil)))
        (pa_cons (pe_c0 Z.minus hr (by decide) (by rfl) (pa_cons (pv 2) (pa_cons (pv 4) pa_nil))) pa_nil))) (pa_cons (pe_c0 Z.minus hr (by decide) (by rfl) (pa_cons (pv 5) (pa_cons (pv 4) pa_nil))) pa_nil))) pa_nil))))))))), ?_⟩)) fun _ _ _ _ _ _ us hl => match us, hl with | [_, _, _], _ => rfl
  · obtain ⟨q, t, u, ls, x, y, rfl, _⟩ := h
    rfl
  · obtain ⟨q, t, u, ls, x, y, rfl, R, ht, hu, sx, sy, fin⟩ := h
    have up : ∀ {k : Nat} {z : Rat}, Sz k z → k ≤ 3900 → Sz 3900 z := fun h l => h.mono l
    refine ⟨_, rfl, _, rfl, _, rfl, q, t, u, ls, x, y, rfl, R, ht, hu, up sx (by decide), up sy (by decide), ⟨fun e => ?_, fun b p e pc => ?_⟩⟩
    · have eb : bothQ ls x y = low x y := by
        unfold bothQ
        rw [e]
      refine ⟨_, rfl, _, rfl, iteT ?_⟩
      refine ⟨_, rfl, _, rfl, t, u, x, y, rfl, ht, hu, sx.mono (by decide), sy.mono (by decide), fun a ra => fin a H (Same.refl _) ?_⟩
      rw [eb]
      exact ra
    · have eb : bothQ ls x y = p.both x y := by
        unfold bothQ
        rw [e]
      obtain ⟨m, tt⟩ := around_some e
      have z := R.sz p m
      have ok := R.row.ok p m
      have l := ok.lt
      obtain ⟨lo, hi, eq, r1, r2⟩ := pc
      rw [eb] at fin
      refine ⟨_, rfl, _, rfl, iteF ?_⟩
      refine ⟨_, rfl, b, _, rfl, eq, rfl, _, _, rfl, _, _, rfl, _, _, rfl, rfl, ?_⟩
      refine ⟨_, rfl, rfl, _, rfl, ?_⟩
      show if decide (V.str (kindS p.k) = V.str "sum") = true then _ else _
      rw [kind_sum]
      cases ck : p.k with
      | true =>
        refine iteT ?_
        have ep : p.both x y = high p.lo (x + y - p.hi) := by
          unfold Pc.both
          rw [ck]
          rfl
        rw [ep] at fin
        refine ⟨_, rfl, _, rfl, _, rfl, t, u, x, y, rfl, ht, hu, up sx (by decide), up sy (by decide), trivial, fun a1 G1 s1 q1 => ?_⟩
        refine ⟨_, rfl, a1, hi, x + y, p.hi, rfl, q1, r2.on s1, up (sx.add sy) (by decide), up z.2 (by decide), trivial, fun a2 G2 s2 q2 => ?_⟩
        refine ⟨lo, a2, p.lo, x + y - p.hi, rfl, r1.on (s1.trans s2), q2, z.1.mono (by decide), ((sx.add sy).sub z.2).mono (by decide), fun a3 q3 => fin a3 G2 (s1.trans s2) q3⟩
      | false =>
        refine iteF ?_
        have ep : p.both x y = p.lo + (x - p.lo) * (y - p.lo) / (p.hi - p.lo) := by
          unfold Pc.both
          rw [ck]
          rfl
        rw [ep] at fin
        refine ⟨_, rfl, _, rfl, _, rfl, t, lo, x, p.lo, rfl, ht, r1, up sx (by decide), up z.1 (by decide), trivial, fun a1 G1 s1 q1 => ?_⟩
        refine ⟨_, rfl, _, rfl, u, lo, y, p.lo, rfl, hu.on s1, r1.on s1, up sy (by decide), up z.1 (by decide), trivial, fun a2 G2 s2 q2 => ?_⟩
        have s12 := s1.trans s2
        refine ⟨a1, a2, _, _, rfl, q1.on s2, q2, up (sx.sub z.1) (by decide), up (sy.sub z.1) (by decide), trivial, fun a3 G3 s3 q3 => ?_⟩
        have s13 := s12.trans s3
        refine ⟨_, rfl, _, rfl, hi, lo, p.hi, p.lo, rfl, r2.on s13, r1.on s13, up z.2 (by decide), up z.1 (by decide), trivial, fun a4 G4 s4 q4 => ?_⟩
        refine ⟨a3, a4, _, _, rfl, q3.on s4, q4, up ((sx.sub z.1).mul (sy.sub z.1)) (by decide), up (z.2.sub z.1) (by decide), by grind, fun a5 G5 s5 q5 => ?_⟩
        have s15 := s13.trans (s4.trans s5)
        refine ⟨lo, a5, _, _, rfl, r1.on s15, q5, up z.1 (by decide), up (((sx.sub z.1).mul (sy.sub z.1)).quo (z.2.sub z.1) (by grind)) (by decide), trivial, fun a6 G6 s6 q6 => fin a6 G6 (s15.trans s6) q6⟩
end
end G1
set_option maxHeartbeats 8000000
namespace G1
open PySem PySem.Spec PyProof.Rows L2 JN
section
variable {P : Program} {w : World} {K : PySem.W.Frag} {mg : Str → Option Value} {base : Heap} {C CD : Addr}
theorem scThenL : FnScope ["pieces", "x", "y", "piece", "low", "high", "kind"] ["pieces", "x", "y"] (defScope sThen) := ⟨rfl, rfl, rfl, by decide +kernel, rfl, by decide +kernel, by decide +kernel⟩
theorem cl_thenl (D : DefAt K mg "_then" sThen) (E2 : Ends2 K mg) (Z : Fr P w K mg base) : Cl CX0 P w K mg base 4 "_then" ["pieces", "x", "y"] (spBothL K thenQ) := by
  obtain ⟨f, fd, F, hm⟩ := D
  obtain ⟨aW, gW, rW⟩ := E2.whole
  refine cl_of F hm (F.ok scThenL (fun vs H Q E h => ?_) (fun cdv A outer s H vs Q E hr h => ⟨_, PSs.nox (pss_cons
      (ps_if (pt_not (pt_val (pe_c0 Z.below hr (by decide) (by rfl) (pa_cons (pv 2) (pa_cons (pv 1) pa_nil))))) (pss_one (ps_ret (pe_glob (v := .ref aW) rfl gW rfl))) pss_nil)
      (pss_cons (ps_set (i := 3) scThenL.nd rfl (Or.inl rfl) (pe_c0 Z.around hr (by decide) (by rfl) (pa_cons (pv 0) (pa_cons (pv 1) (pa_cons (pv 2) pa_nil)))))
      (pss_cons (ps_if (pt_cmp (pc_isN (pv 3))) (pss_one (ps_ret (pv 2))) pss_nil)
      (pss_cons (ps_asg (pv 3) (pg_tup (by rfl) (pgs_cons (pg_name (i := 4) scThenL.nd rfl (Or.inl rfl)) (pgs_cons (pg_name (i := 5) scThenL.nd rfl (Or.inl rfl)) (pgs_cons (pg_name (i := 6) scThenL.nd rfl (Or.inl rfl)) pgs_nil)))))
      (pss_cons (ps_if (pt_cmpR op_eq (pv 6) pe_str (nomark _))
        (pss_one (ps_ret (pe_c0 Z.plus hr (by decide) (by rfl) (pa_cons (pe_c0 Z.minus hr (by decide) (by rfl) (pa_cons (pv 5) (pa_cons (pv 1) pa_nil))) (pa_cons (pv 2) pa_nil))))) pss_nil)
      (pss_one (ps_ret (pe_c0 Z.plus hr (by decide) (by rfl) (pa_cons (pv 4) (pa_cons (pe_c0 Z.over hr (by decide) (by rfl) (pa_cons (pe_c0 Z.times hr (by decide) (by rfl) (pa_cons (pe_c0 Z.minus hr (by decide) (by rfl) (pa_cons (pv 5) (pa_cons (pv 4) pa_nil)))
        (pa_cons (pe_c0 Z.minus hr (by decide) (by rfl) (pa_cons (pv 2) (pa_cons (pv 4) pa_nil))) pa_nil))) (pa_cons (pe_c0 Z.minus hr (by decide) (by rfl) (pa_cons (pv 1) (pa_cons (pv 4) pa_nil))) pa_nil))) pa_nil)))))))))), ?_⟩)) fun _ _ _ _ _ _ us hl => match us, hl with | [_, _, _], _ => rfl
  · obtain ⟨q, t, u, ls, x, y, rfl, _⟩ := h
    rfl
  · obtain ⟨q, t, u, ls, x, y, rfl, R, ht, hu, sx, sy, fin⟩ := h
    have up : ∀ {k : Nat} {z : Rat}, Sz k z → k ≤ 3900 → Sz 3900 z := fun h l => h.mono l
    refine ⟨_, rfl, _, rfl, u, t, y, x, rfl, hu, ht, sy.mono (by decide), sx.mono (by decide), _, rfl, ?_⟩
    by_cases c : y < x
    · rw [decide_eq_true c]
      refine iteF ?_
      refine ⟨_, rfl, _, rfl, _, rfl, q, t, u, ls, x, y, rfl, R, ht, hu, up sx (by decide), up sy (by decide), ⟨fun e => ?_, fun b p e pc => ?_⟩⟩
      · have eb : thenQ ls x y = y := by
          unfold thenQ
          rw [if_pos c, e]
        rw [eb] at fin
        exact ⟨_, rfl, _, rfl, iteT ⟨_, rfl, fin u H (Same.refl _) hu⟩⟩
      · have eb : thenQ ls x y = p.then x y := by
          unfold thenQ
          rw [if_pos c, e]
        obtain ⟨m, tt⟩ := around_some e
        have z := R.sz p m
        have ok := R.row.ok p m
        have l := ok.lt
        have hh := has_iff tt
        obtain ⟨lo, hi, eq, r1, r2⟩ := pc
        rw [eb] at fin
        refine ⟨_, rfl, _, rfl, iteF ?_⟩
        refine ⟨_, rfl, b, _, rfl, eq, rfl, _, _, rfl, _, _, rfl, _, _, rfl, rfl, ?_⟩
        refine ⟨_, rfl, rfl, _, rfl, ?_⟩
        show if decide (V.str (kindS p.k) = V.str "sum") = true then _ else _
        rw [kind_sum]
        cases ck : p.k with
        | true =>
          refine iteT ?_
          have ep : p.then x y = p.hi - x + y := by
            unfold Pc.then
            rw [ck]
            rfl
          rw [ep] at fin
          refine ⟨_, rfl, _, rfl, hi, t, p.hi, x, rfl, r2, ht, up z.2 (by decide), up sx (by decide), trivial, fun a1 G1 s1 q1 => ?_⟩
          refine ⟨_, rfl, a1, u, p.hi - x, y, rfl, q1, hu.on s1, up (z.2.sub sx) (by decide), up sy (by decide), trivial, fun a2 G2 s2 q2 => fin a2 G2 (s1.trans s2) q2⟩
        | false =>
          refine iteF ?_
          have ep : p.then x y = p.lo + (p.hi - p.lo) * (y - p.lo) / (x - p.lo) := by
            unfold Pc.then
            rw [ck]
            rfl
          rw [ep] at fin
          refine ⟨_, rfl, _, rfl, _, rfl, hi, lo, p.hi, p.lo, rfl, r2, r1, up z.2 (by decide), up z.1 (by decide), trivial, fun a1 G1 s1 q1 => ?_⟩
          refine ⟨_, rfl, _, rfl, u, lo, y, p.lo, rfl, hu.on s1, r1.on s1, up sy (by decide), up z.1 (by decide), trivial, fun a2 G2 s2 q2 => ?_⟩
          have s12 := s1.trans s2
          refine ⟨a1, a2, _, _, rfl, q1.on s2, q2, up (z.2.sub z.1) (by decide), up (sy.sub z.1) (by decide), trivial, fun a3 G3 s3 q3 => ?_⟩
          have s13 := s12.trans s3
          refine ⟨_, rfl, _, rfl, t, lo, x, p.lo, rfl, ht.on s13, r1.on s13, up sx (by decide), up z.1 (by decide), trivial, fun a4 G4 s4 q4 => ?_⟩
          refine ⟨a3, a4, _, _, rfl, q3.on s4, q4, up ((z.2.sub z.1).mul (sy.sub z.1)) (by decide), up (sx.sub z.1) (by decide), by grind, fun a5 G5 s5 q5 => ?_⟩
          have s15 := s13.trans (s4.trans s5)
          refine ⟨lo, a5, _, _, rfl, r1.on s15, q5, up z.1 (by decide), up (((z.2.sub z.1).mul (sy.sub z.1)).quo (sx.sub z.1) (by grind)) (by decide), trivial, fun a6 G6 s6 q6 => fin a6 G6 (s15.trans s6) q6⟩
    · rw [decide_eq_false c]
      have eb : thenQ ls x y = 1 := by
        unfold thenQ
        rw [if_neg c]
      rw [eb] at fin
      exact iteT (fin aW H (Same.refl _) (rW H))
/-! ### the methods -/
structure MethP (K : PySem.W.Frag) (C : Addr) (g : List Pc → Rat → Rat → Rat) (a t u : Addr) (ls : List Pc) (x y : Rat) (H : Hp) (Q : VK) : Prop where
  j : JoinAt K C H a ls
  rx : RtAt K H x t
  ry : RtAt K H y u
  ux : 0 ≤ x ∧ x ≤ 1
  uy : 0 ≤ y ∧ y ≤ 1
  sx : Sz 1500 x
  sy : Sz 1500 y
  few : ∀ p ∈ ls, PSz 120 p
  fin : ∀ b H', Same H H' → RtAt K H' (g ls x y) b → Q (.ref b) H'
def spMethJ (K : PySem.W.Frag) (C : Addr) (g : List Pc → Rat → Rat → Rat) : Sp := fun vs H Q _ => ∃ (a t u : Addr) (ls : List Pc) (x y : Rat), vs = [.ref a, .ref t, .ref u] ∧ MethP K C g a t u ls x y H Q
abbrev MethAt (K : PySem.W.Frag) (C : Addr) (m qual : Str) (st : Stmt) : Prop := ∃ (f : Addr) (fd : FuncData), Meth K C m f ∧ FunD K m qual (defArgs st) (defBody st) (defScope st) [] [] f fd
theorem scJBoth : FnScope ["self", "x", "y"] ["self", "x", "y"] (defScope mJoiningBoth) := ⟨rfl, rfl, rfl, by decide +kernel, rfl, by decide +kernel, by decide +kernel⟩
theorem ok_jboth (M : MethAt K C "both" "Joining.both" mJoiningBoth) (T : JoinTxt K mg C) (cK : Cl (L2.CX P w) P w K mg base 4 "check_degree" ["thing"] (spCheck K CD)) (cB : Cl CX0 P w K mg base 4 "_both" ["pieces", "x", "y"] (spBothL K bothQ)) :
    ∃ f fd, Meth K C "both" f ∧ FnOk P w K mg base CX0 5 f fd ["self", "x", "y"] (spMethJ K C bothQ) ∧ Binds K fd ["self", "x", "y"] [] := by
  obtain ⟨f, fd, M, F⟩ := M
  refine ⟨f, fd, M, F.ok scJBoth (fun vs H Q E h => ?_) (fun cdv A outer s H vs Q E hr h => ⟨_, PSs.nox (pss_cons
      (ps_expr (pe_cX cK hr (by decide) (by rfl) (pa_cons (pv 1) pa_nil)))
      (pss_cons (ps_expr (pe_cX cK hr (by decide) (by rfl) (pa_cons (pv 2) pa_nil)))
      (pss_one (ps_ret (pe_c0 cB hr (by decide) (by rfl) (pa_cons (pe_fld (pv 0) rfl) (pa_cons (pv 1) (pa_cons (pv 2) pa_nil)))))))), ?_⟩), F.bindsN fun _ _ _ _ _ _ us hl => match us, hl with | [_, _, _], _ => rfl⟩
  · obtain ⟨a, t, u, ls, x, y, rfl, _⟩ := h
    rfl
  · obtain ⟨a, t, u, ls, x, y, rfl, ⟨J, rx, ry, hx, hy, sx, sy, zz, q⟩⟩ := h
    obtain ⟨dx, q1, r1, bs, i1, p1, c1, _⟩ := J.ex
    refine ⟨_, rfl, _, true, rfl, rt_deg rx hx.1 hx.2, fun _ => ?_, fun z => Bool.noConfusion z⟩
    refine ⟨_, rfl, _, true, rfl, rt_deg ry hy.1 hy.2, fun _ => ?_, fun z => Bool.noConfusion z⟩
    exact ⟨_, rfl, a, C, dx, _, _, rfl, i1, T.cl, T.nP, rfl, _, rfl, _, rfl, q1, t, u, ls, x, y, rfl, ⟨⟨bs, p1, c1⟩, J.row, zz⟩, rx, ry, sx, sy, q⟩
theorem scJThen : FnScope ["self", "x", "y"] ["self", "x", "y"] (defScope mJoiningThen) := ⟨rfl, rfl, rfl, by decide +kernel, rfl, by decide +kernel, by decide +kernel⟩
theorem ok_jthen (M : MethAt K C "then" "Joining.then" mJoiningThen) (T : JoinTxt K mg C) (cK : Cl (L2.CX P w) P w K mg base 4 "check_degree" ["thing"] (spCheck K CD)) (cB : Cl CX0 P w K mg base 4 "_then" ["pieces", "x", "y"] (spBothL K thenQ)) :
    ∃ f fd, Meth K C "then" f ∧ FnOk P w K mg base CX0 5 f fd ["self", "x", "y"] (spMethJ K C thenQ) ∧ Binds K fd ["self", "x", "y"] [] := by
  obtain ⟨f, fd, M, F⟩ := M
  refine ⟨f, fd, M, F.ok scJThen (fun vs H Q E h => ?_) (fun cdv A outer s H vs Q E hr h => ⟨_, PSs.nox (pss_cons
      (ps_expr (pe_cX cK hr (by decide) (by rfl) (pa_cons (pv 1) pa_nil)))
      (pss_cons (ps_expr (pe_cX cK hr (by decide) (by rfl) (pa_cons (pv 2) pa_nil)))
      (pss_one (ps_ret (pe_c0 cB hr (by decide) (by rfl) (pa_cons (pe_fld (pv 0) rfl) (pa_cons (pv 1) (pa_cons (pv 2) pa_nil)))))))), ?_⟩), F.bindsN fun _ _ _ _ _ _ us hl => match us, hl with | [_, _, _], _ => rfl⟩
  · obtain ⟨a, t, u, ls, x, y, rfl, _⟩ := h
    rfl
  · obtain ⟨a, t, u, ls, x, y, rfl, ⟨J, rx, ry, hx, hy, sx, sy, zz, q⟩⟩ := h
    obtain ⟨dx, q1, r1, bs, i1, p1, c1, _⟩ := J.ex
    refine ⟨_, rfl, _, true, rfl, rt_deg rx hx.1 hx.2, fun _ => ?_, fun z => Bool.noConfusion z⟩
    refine ⟨_, rfl, _, true, rfl, rt_deg ry hy.1 hy.2, fun _ => ?_, fun z => Bool.noConfusion z⟩
    exact ⟨_, rfl, a, C, dx, _, _, rfl, i1, T.cl, T.nP, rfl, _, rfl, _, rfl, q1, t, u, ls, x, y, rfl, ⟨⟨bs, p1, c1⟩, J.row, zz⟩, rx, ry, sx, sy, q⟩
end
end G1
set_option maxHeartbeats 4000000
namespace G1
open PySem PySem.Spec PyProof.Rows L2
/-! ### methods called by names -/
theorem kb_of {K : PySem.W.Frag} {x qual : Str} {params : Arguments} {body : List Stmt} {scope : Scope} {f : Addr} {fd : FuncData} {ps : List Str} (F : FunD K x qual params body scope [] [] f fd) (n : Nat) (ks : List Str)
    {g : List Value → List Value → List Value} {gV : List V → List V → List V} (rel : ∀ {vs : List V} {us : List Value} {zs : List V} {ws : List Value}, Vals vs us → Vals zs ws → Vals (gV vs zs) (g us ws))
    (h : ∀ (kV doc pm : Value) (an : Option Addr) (cdv ct : Value) (us ws : List Value), us.length = n → ws.length = ks.length → bindArgs (PySem.W.fnOf x qual params body scope .none kV doc pm an cdv ct) ⟨us, ks.zip ws⟩ = pure (ps.zip (g us ws))) :
    KBn K fd ps n ks g gV := by
  obtain ⟨oc, od, dV, kV, doc, pm, an, cdv, ct, osl, e, lk, _, hD, _⟩ := F.ex
  rcases hD with ⟨_, rfl⟩ | ⟨z, _⟩
  · refine ⟨fun s us ws _ l1 l2 => ?_, rel⟩
    rw [e]
    exact .of_eq (h kV doc pm an cdv ct us ws l1 l2)
  · exact absurd rfl z
def tMethW (C : Addr) (m : Str) (n : Nat) (sp : Sp) (gV : List V → List V → List V) (E : XK) (ta : TE) (tk : TA) : TE := fun σ H Q => ta σ H fun x H1 => ∃ a dx fs, x = .ref a ∧ H1 a = some (.ins C dx fs) ∧ fs.lookup m = none ∧
  tk σ H1 fun zs H2 => zs.length = n ∧ sp (gV [x] zs) H2 Q E
section
variable {X : Cx} {CX : CXT} {k : Nat} {f C : Addr} {fd : FuncData} {m : Str} {ps ks : List Str} {sp : Sp} {E : XK} {apos pos : Pos} {o : Expr} {ta : TE} {kws : List Keyword} {tk : TA} {g : List Value → List Value → List Value} {gV : List V → List V → List V}
theorem pe_methW {pl : Sem Bool} (he : PE X o ta) (c : Cls X.K C) (hm : Meth X.K C m f) (F : FnOk X.prog X.w X.K X.mg X.base CX k f fd ps sp) (hr : Room k X.A) (hb : KBn X.K fd ps 1 ks g gV) (out : Passes CX X E) (hkw : PK X kws tk)
    (hall : (backToKw pos (keywordEach kws X.env)).all (·.1.isSome) = true := by rfl) (hks : (backToKw pos (keywordEach kws X.env)).filterMap (·.1) = ks := by rfl)
    (plain : ((backTo pos (starEach [] X.env)).any (·.1) || (backToKw pos (keywordEach kws X.env)).any (·.1.isNone)) = false := by rfl)
    (ht : eval (.Call (.Attribute o m apos) [] kws pos) X.env = (do
      let ov ← eval o X.env
      standAt apos.atName
      let (callee, self) ← holding [ov] (getMethod ov m pl)
      callWith pos callee self (backTo pos (starEach [] X.env)) (backToKw pos (keywordEach kws X.env))) := by rfl) :
    PE X (.Call (.Attribute o m apos) [] kws pos) (tMethW C m ks.length sp gV E ta tk) := by
  constructor
  intro pins s σ H Q I ask
  refine PySem.W.methodCall_KW (pl := pl) (thn (he.run pins s σ H _ I ask) ?_) ht
  rintro u s1 ⟨x, H1, I1, rx, a, dx, fs, rfl, here, off, q⟩
  have eu : u = Value.ref a := rx
  subst eu
  apply getmeth_ok I1 here c hm off
  apply PySem.W.callWith_KW0 (first := [.ref a]) (h₀ := X.base) I1.ok.mod.kin hm.kp hall _ plain
  refine thn (hkw.run pos pins s1 σ H1 _ I1 q) ?_
  rintro ws s2 ⟨zs, H2, I2, rz, l2, q2⟩
  refine ⟨I2.kIn, ?_⟩
  rw [hks]
  have r0 : Vals [V.ref a] [Value.ref a] := .cons rfl .nil
  refine wpAny_call (codeAny_mono (F.run X.A X.stack s2 H2 ⟨[.ref a], ks.zip ws⟩ (g [.ref a] ws) (gV [.ref a] zs) Q E hr I2.env0 (hb.to s2 [.ref a] ws I2.kIn rfl (rz.length.symm.trans l2)) (hb.rel r0 rz) q2) ?_)
  intro r s' hq
  cases r with
  | error e => exact out pins σ H2 s2 e s' I2 hq
  | ok fl =>
    cases fl with
    | ret v => exact I2.after hq
    | next => exact False.elim hq
    | brk => exact False.elim hq
    | cont => exact False.elim hq
end
end G1
set_option maxHeartbeats 8000000
namespace G1
open PySem PySem.Spec PyProof.Rows L2 JN
section
variable {P : Program} {w : World} {K : PySem.W.Frag} {mg : Str → Option Value} {base : Heap} {C CD : Addr}
theorem fn_jboth {f : Addr} {fd : FuncData} (F : FunD K "both" "Joining.both" (defArgs mJoiningBoth) (defBody mJoiningBoth) (defScope mJoiningBoth) [] [] f fd) (T : JoinTxt K mg C) (cK : Cl (L2.CX P w) P w K mg base 4 "check_degree" ["thing"] (spCheck K CD)) (cB : Cl CX0 P w K mg base 4 "_both" ["pieces", "x", "y"] (spBothL K bothQ)) :
    FnOk P w K mg base CX0 5 f fd ["self", "x", "y"] (spMethJ K C bothQ) := by
  refine F.ok scJBoth (fun vs H Q E h => ?_) (fun cdv A outer s H vs Q E hr h => ⟨_, PSs.nox (pss_cons
      (ps_expr (pe_cX cK hr (by decide) (by rfl) (pa_cons (pv 1) pa_nil)))
      (pss_cons (ps_expr (pe_cX cK hr (by decide) (by rfl) (pa_cons (pv 2) pa_nil)))
      (pss_one (ps_ret (pe_c0 cB hr (by decide) (by rfl) (pa_cons (pe_fld (pv 0) rfl) (pa_cons (pv 1) (pa_cons (pv 2) pa_nil)))))))), ?_⟩)
  · obtain ⟨a, t, u, ls, x, y, rfl, _⟩ := h
    rfl
  · obtain ⟨a, t, u, ls, x, y, rfl, ⟨J, rx, ry, hx, hy, sx, sy, zz, q⟩⟩ := h
    obtain ⟨dx, q1, r1, bs, i1, p1, c1, _⟩ := J.ex
    refine ⟨_, rfl, _, true, rfl, rt_deg rx hx.1 hx.2, fun _ => ?_, fun z => Bool.noConfusion z⟩
    refine ⟨_, rfl, _, true, rfl, rt_deg ry hy.1 hy.2, fun _ => ?_, fun z => Bool.noConfusion z⟩
    exact ⟨_, rfl, a, C, dx, _, _, rfl, i1, T.cl, T.nP, rfl, _, rfl, _, rfl, q1, t, u, ls, x, y, rfl, ⟨⟨bs, p1, c1⟩, J.row, zz⟩, rx, ry, sx, sy, q⟩
theorem fn_jthen {f : Addr} {fd : FuncData} (F : FunD K "then" "Joining.then" (defArgs mJoiningThen) (defBody mJoiningThen) (defScope mJoiningThen) [] [] f fd) (T : JoinTxt K mg C) (cK : Cl (L2.CX P w) P w K mg base 4 "check_degree" ["thing"] (spCheck K CD)) (cB : Cl CX0 P w K mg base 4 "_then" ["pieces", "x", "y"] (spBothL K thenQ)) :
    FnOk P w K mg base CX0 5 f fd ["self", "x", "y"] (spMethJ K C thenQ) := by
  refine F.ok scJThen (fun vs H Q E h => ?_) (fun cdv A outer s H vs Q E hr h => ⟨_, PSs.nox (pss_cons
      (ps_expr (pe_cX cK hr (by decide) (by rfl) (pa_cons (pv 1) pa_nil)))
      (pss_cons (ps_expr (pe_cX cK hr (by decide) (by rfl) (pa_cons (pv 2) pa_nil)))
      (pss_one (ps_ret (pe_c0 cB hr (by decide) (by rfl) (pa_cons (pe_fld (pv 0) rfl) (pa_cons (pv 1) (pa_cons (pv 2) pa_nil)))))))), ?_⟩)
  · obtain ⟨a, t, u, ls, x, y, rfl, _⟩ := h
    rfl
  · obtain ⟨a, t, u, ls, x, y, rfl, ⟨J, rx, ry, hx, hy, sx, sy, zz, q⟩⟩ := h
    obtain ⟨dx, q1, r1, bs, i1, p1, c1, _⟩ := J.ex
    refine ⟨_, rfl, _, true, rfl, rt_deg rx hx.1 hx.2, fun _ => ?_, fun z => Bool.noConfusion z⟩
    refine ⟨_, rfl, _, true, rfl, rt_deg ry hy.1 hy.2, fun _ => ?_, fun z => Bool.noConfusion z⟩
    exact ⟨_, rfl, a, C, dx, _, _, rfl, i1, T.cl, T.nP, rfl, _, rfl, _, rfl, q1, t, u, ls, x, y, rfl, ⟨⟨bs, p1, c1⟩, J.row, zz⟩, rx, ry, sx, sy, q⟩
/-- a method of two degrees, called by place and by names -/
structure MethJW (P : Program) (w : World) (K : PySem.W.Frag) (mg : Str → Option Value) (base : Heap) (C : Addr) (m : Str) (g : List Pc → Rat → Rat → Rat) : Prop where
  ex : ∃ (f : Addr) (fd : FuncData), Meth K C m f ∧ FnOk P w K mg base CX0 5 f fd ["self", "x", "y"] (spMethJ K C g) ∧ Binds K fd ["self", "x", "y"] [] ∧ KBn K fd ["self", "x", "y"] 1 ["y", "x"] (fun us ws => us ++ flip2 ws) (fun vs zs => vs ++ flip2 zs)
theorem rel_flip {vs zs : List V} {us ws : List Value} (a : Vals vs us) (b : Vals zs ws) : Vals (vs ++ flip2 zs) (us ++ flip2 ws) := Vals.append a (rel2 b)
theorem mw_both (M : MethAt K C "both" "Joining.both" mJoiningBoth) (T : JoinTxt K mg C) (cK : Cl (L2.CX P w) P w K mg base 4 "check_degree" ["thing"] (spCheck K CD)) (cB : Cl CX0 P w K mg base 4 "_both" ["pieces", "x", "y"] (spBothL K bothQ)) : MethJW P w K mg base C "both" bothQ := by
  obtain ⟨f, fd, M, F⟩ := M
  exact ⟨f, fd, M, fn_jboth F T cK cB, F.bindsN fun _ _ _ _ _ _ us hl => match us, hl with | [_, _, _], _ => rfl,
    kb_of F 1 ["y", "x"] (fun a b => rel_flip a b) fun _ _ _ _ _ _ us ws hu hw => match us, ws, hu, hw with | [_], [_, _], _, _ => rfl⟩
theorem mw_then (M : MethAt K C "then" "Joining.then" mJoiningThen) (T : JoinTxt K mg C) (cK : Cl (L2.CX P w) P w K mg base 4 "check_degree" ["thing"] (spCheck K CD)) (cB : Cl CX0 P w K mg base 4 "_then" ["pieces", "x", "y"] (spBothL K thenQ)) : MethJW P w K mg base C "then" thenQ := by
  obtain ⟨f, fd, M, F⟩ := M
  exact ⟨f, fd, M, fn_jthen F T cK cB, F.bindsN fun _ _ _ _ _ _ us hl => match us, hl with | [_, _, _], _ => rfl,
    kb_of F 1 ["y", "x"] (fun a b => rel_flip a b) fun _ _ _ _ _ _ us ws hu hw => match us, ws, hu, hw with | [_], [_, _], _, _ => rfl⟩
end
end G1
set_option maxHeartbeats 4000000
/-! what joinings are: rows of pieces -/
namespace JN
open PySem PySem.Spec PyProof.Rows L2 G1
/-- two pieces of a row: one, or one ends ahead of the other -/
theorem Row.two {ls : List Pc} (h : Row ls) {p q : Pc} (hp : p ∈ ls) (hq : q ∈ ls) : p = q ∨ p.hi ≤ q.lo ∨ q.hi ≤ p.lo := by
  obtain ⟨ok, up⟩ := h
  clear ok
  induction ls with
  | nil => cases hp
  | cons x xs ih =>
    obtain ⟨h1, h2⟩ := List.pairwise_cons.mp up
    rcases List.mem_cons.mp hp with e1 | m1
    · rcases List.mem_cons.mp hq with e2 | m2
      · exact .inl (e1.trans e2.symm)
      · exact .inr (.inl (e1 ▸ h1 q m2))
    · rcases List.mem_cons.mp hq with e2 | m2
      · exact .inr (.inr (e2 ▸ h1 p m1))
      · exact ih m1 m2 h2
theorem low_comm (x y : Rat) : low x y = low y x := by
  unfold low
  grind
theorem around_comm (ls : List Pc) (x y : Rat) : around ls x y = around ls y x := by
  unfold around
  congr 1
  funext p
  rw [Bool.eq_iff_iff, has_in, has_in]
  exact ⟨fun h => ⟨h.2, h.1⟩, fun h => ⟨h.2, h.1⟩⟩
theorem q_comm (ls : List Pc) (x y : Rat) : bothQ ls x y = bothQ ls y x := by
  unfold bothQ
  rw [around_comm ls x y]
  split
  · exact low_comm x y
  · exact pc_comm _ x y
theorem around_cases (ls : List Pc) (x y : Rat) : (around ls x y = none ∧ ∀ p ∈ ls, ¬ (p.in x ∧ p.in y)) ∨ ∃ p, around ls x y = some p ∧ p ∈ ls ∧ p.in x ∧ p.in y := by
  cases e : around ls x y with
  | none =>
    refine .inl ⟨rfl, fun p hp z => ?_⟩
    unfold around at e
    have := List.find?_eq_none.mp e p hp
    exact this (has_in.mpr z)
  | some p =>
    obtain ⟨m, t⟩ := around_some e
    have z := has_in.mp t
    exact .inr ⟨p, rfl, m, z.1, z.2⟩
/-- in one piece -/
theorem q_one {ls : List Pc} (h : Row ls) {p : Pc} (hp : p ∈ ls) {x y : Rat} (hx : p.in x) (hy : p.in y) : bothQ ls x y = p.both x y := by
  rcases around_cases ls x y with ⟨_, n⟩ | ⟨q, e, hq, qx, qy⟩
  · exact absurd ⟨hx, hy⟩ (n p hp)
  · unfold bothQ
    rw [e]
    dsimp only
    have op := h.ok p hp
    have oq := h.ok q hq
    rcases h.two hp hq with z | z | z
    · rw [z]
    · have a : x = p.hi := by unfold Pc.in at hx qx; grind
      have b : y = p.hi := by unfold Pc.in at hy qy; grind
      have c : p.hi = q.lo := by unfold Pc.in at hx qx; grind
      rw [a, b]
      rw [pc_hi op (by unfold Pc.in; have := op.lt; grind)]
      rw [c]
      exact pc_lo oq (by unfold Pc.in; have := oq.lt; grind)
    · have a : x = p.lo := by unfold Pc.in at hx qx; grind
      have b : y = p.lo := by unfold Pc.in at hy qy; grind
      have c : p.lo = q.hi := by unfold Pc.in at hx qx; grind
      rw [a, b]
      rw [pc_lo op (by unfold Pc.in; have := op.lt; grind)]
      rw [c]
      exact pc_hi oq (by unfold Pc.in; have := oq.lt; grind)
/-- one in a piece, the other not -/
theorem q_two {ls : List Pc} (h : Row ls) {p : Pc} (hp : p ∈ ls) {x y : Rat} (hx : p.in x) (hy : ¬ p.in y) : bothQ ls x y = low x y := by
  unfold bothQ
  rcases around_cases ls x y with ⟨e, _⟩ | ⟨q, e, hq, qx, qy⟩
  · rw [e]
  · rw [e]
    dsimp only
    have op := h.ok p hp
    have oq := h.ok q hq
    rcases h.two hp hq with z | z | z
    · exact absurd (z ▸ qy) hy
    · have a : x = q.lo := by unfold Pc.in at hx qx; grind
      rw [a, pc_lo oq qy]
      unfold low
      unfold Pc.in at qy
      grind
    · have a : x = q.hi := by unfold Pc.in at hx qx; grind
      rw [a, pc_hi oq qy]
      unfold low
      unfold Pc.in at qy
      grind
theorem q_none {ls : List Pc} {x y : Rat} (n : ∀ p ∈ ls, ¬ (p.in x ∧ p.in y)) : bothQ ls x y = low x y := by
  unfold bothQ
  rcases around_cases ls x y with ⟨e, _⟩ | ⟨q, e, hq, qx, qy⟩
  · rw [e]
  · exact absurd ⟨qx, qy⟩ (n q hq)
/-- either way -/
theorem q_way {ls : List Pc} (h : Row ls) (x y : Rat) : (∃ p ∈ ls, p.in x ∧ p.in y ∧ bothQ ls x y = p.both x y) ∨ ((∀ p ∈ ls, ¬ (p.in x ∧ p.in y)) ∧ bothQ ls x y = low x y) := by
  rcases around_cases ls x y with ⟨e, n⟩ | ⟨q, e, hq, qx, qy⟩
  · exact .inr ⟨n, q_none n⟩
  · exact .inl ⟨q, hq, qx, qy, q_one h hq qx qy⟩
theorem q_le {ls : List Pc} (h : Row ls) (x y : Rat) : bothQ ls x y ≤ x ∧ bothQ ls x y ≤ y := by
  rcases q_way h x y with ⟨p, hp, hx, hy, e⟩ | ⟨_, e⟩
  · rw [e]
    have := pc_in (h.ok p hp) hx hy
    exact ⟨this.2.1, this.2.2⟩
  · rw [e]
    unfold low
    grind
theorem q_nn {ls : List Pc} (h : Row ls) {x y : Rat} (hx : 0 ≤ x) (hy : 0 ≤ y) : 0 ≤ bothQ ls x y := by
  rcases q_way h x y with ⟨p, hp, kx, ky, e⟩ | ⟨_, e⟩
  · rw [e]
    have := pc_in (h.ok p hp) kx ky
    have := (h.ok p hp).low
    grind
  · rw [e]
    unfold low
    grind
theorem q_unit {ls : List Pc} (h : Row ls) {x : Rat} (hx : x ≤ 1) : bothQ ls 1 x = x := by
  rcases q_way h 1 x with ⟨p, hp, k1, k2, e⟩ | ⟨_, e⟩
  · rw [e]
    have o := h.ok p hp
    have : (1 : Rat) = p.hi := by
      have := o.high
      unfold Pc.in at k1
      grind
    rw [this]
    exact pc_hi o k2
  · rw [e]
    unfold low
    grind
theorem q_zero {ls : List Pc} (h : Row ls) {x : Rat} (hx : 0 ≤ x) : bothQ ls x 0 = 0 := by
  have a := q_nn h hx (by decide : (0 : Rat) ≤ 0)
  have b := (q_le h x 0).2
  grind
theorem q_mono {ls : List Pc} (h : Row ls) {x y w : Rat} (le : x ≤ y) : bothQ ls x w ≤ bothQ ls y w := by
  rcases q_way h x w with ⟨p, hp, kx, kw, e⟩ | ⟨n, e⟩
  · rw [e]
    have o := h.ok p hp
    by_cases ky : p.in y
    · rw [q_one h hp ky kw]
      exact pc_mono o kx ky kw le
    · rw [q_comm, q_two h hp kw ky]
      have := pc_in o kx kw
      unfold low
      unfold Pc.in at kx kw ky
      grind
  · rw [e]
    rcases q_way h y w with ⟨p, hp, ky, kw, f⟩ | ⟨_, f⟩
    · rw [f]
      have o := h.ok p hp
      have kx : ¬ p.in x := fun z => n p hp ⟨z, kw⟩
      have := pc_in o ky kw
      unfold low
      unfold Pc.in at kx ky kw
      grind
    · rw [f]
      unfold low
      grind
theorem pc_low {p : Pc} {x y : Rat} (o : p.ok) (hx : p.in x) (hy : p.in y) : p.in (p.both x y) := by
  have := pc_in o hx hy
  unfold Pc.in at hx ⊢
  grind
/-- two in a piece, the third not -/
theorem q_side {ls : List Pc} (h : Row ls) {p : Pc} (hp : p ∈ ls) {x y z : Rat} (hx : p.in x) (hy : p.in y) (hz : ¬ p.in z) : bothQ ls (bothQ ls x y) z = bothQ ls x (bothQ ls y z) := by
  have o := h.ok p hp
  rw [q_one h hp hx hy, q_two h hp (pc_low o hx hy) hz, q_two h hp hy hz]
  have b := pc_in o hx hy
  have i := pc_low o hx hy
  by_cases c : z < p.lo
  · have e1 : low (p.both x y) z = z := by unfold low; grind
    have e2 : low y z = z := by unfold Pc.in at hy; unfold low; grind
    rw [e1, e2, q_two h hp hx hz]
    unfold Pc.in at hx
    unfold low
    grind
  · have g : p.hi < z := by unfold Pc.in at hz; grind
    have e1 : low (p.both x y) z = p.both x y := by unfold Pc.in at i; unfold low; grind
    have e2 : low y z = y := by unfold Pc.in at hy; unfold low; grind
    rw [e1, e2, q_one h hp hx hy]
theorem q_mid {ls : List Pc} (h : Row ls) {p : Pc} (hp : p ∈ ls) {x y z : Rat} (hx : p.in x) (hz : p.in z) (hy : ¬ p.in y) : bothQ ls (bothQ ls x y) z = bothQ ls x (bothQ ls y z) := by
  rw [q_two h hp hx hy, q_comm ls y z, q_two h hp hz hy]
  by_cases c : y < p.lo
  · have e1 : low x y = y := by unfold Pc.in at hx; unfold low; grind
    have e2 : low z y = y := by unfold Pc.in at hz; unfold low; grind
    rw [e1, e2, q_comm ls y z, q_two h hp hz hy, q_two h hp hx hy, e1, e2]
  · have g : p.hi < y := by unfold Pc.in at hy; grind
    have e1 : low x y = x := by unfold Pc.in at hx; unfold low; grind
    have e2 : low z y = z := by unfold Pc.in at hz; unfold low; grind
    rw [e1, e2]
theorem q_assoc {ls : List Pc} (h : Row ls) (x y z : Rat) : bothQ ls (bothQ ls x y) z = bothQ ls x (bothQ ls y z) := by
  rcases q_way h x y with ⟨p, hp, kx, ky, e⟩ | ⟨n1, e1⟩
  · by_cases kz : p.in z
    · have o := h.ok p hp
      rw [e, q_one h hp ky kz, q_one h hp (pc_low o kx ky) kz, q_one h hp kx (pc_low o ky kz)]
      exact pc_assoc o kx ky kz
    · exact q_side h hp kx ky kz
  · rcases q_way h y z with ⟨p, hp, ky, kz, e⟩ | ⟨n2, e2⟩
    · have kx : ¬ p.in x := fun t => n1 p hp ⟨t, ky⟩
      have := q_side h hp kz ky kx
      rw [q_comm ls (bothQ ls x y) z, q_comm ls x y, q_comm ls x (bothQ ls y z), q_comm ls y z]
      exact this.symm
    · rcases q_way h x z with ⟨p, hp, kx, kz, e⟩ | ⟨n3, e3⟩
      · have ky : ¬ p.in y := fun t => n1 p hp ⟨kx, t⟩
        exact q_mid h hp kx kz ky
      · rw [e1, e2]
        have a : bothQ ls (low x y) z = low (low x y) z := by
          by_cases c : y < x
          · have : low x y = y := by unfold low; grind
            rw [this, e2]
          · have : low x y = x := by unfold low; grind
            rw [this, e3]
        have b : bothQ ls x (low y z) = low x (low y z) := by
          by_cases c : z < y
          · have : low y z = z := by unfold low; grind
            rw [this, e3]
          · have : low y z = y := by unfold low; grind
            rw [this, e1]
        rw [a, b]
        unfold low
        grind
/-! then -/
theorem t_le {ls : List Pc} {x y : Rat} (le : x ≤ y) : thenQ ls x y = 1 := by
  unfold thenQ
  rw [if_neg (by grind)]
theorem t_way {ls : List Pc} (h : Row ls) {x y : Rat} (lt : y < x) : (∃ p ∈ ls, p.in x ∧ p.in y ∧ thenQ ls x y = p.then x y) ∨ ((∀ p ∈ ls, ¬ (p.in x ∧ p.in y)) ∧ thenQ ls x y = y) := by
  unfold thenQ
  rw [if_pos lt]
  rcases around_cases ls x y with ⟨e, n⟩ | ⟨q, e, hq, qx, qy⟩
  · rw [e]
    exact .inr ⟨n, rfl⟩
  · rw [e]
    exact .inl ⟨q, hq, qx, qy, rfl⟩
theorem t_one {ls : List Pc} (h : Row ls) {x : Rat} (hx : x ≤ 1) : thenQ ls 1 x = x := by
  by_cases c : x < 1
  · rcases t_way h c with ⟨p, hp, k1, k2, e⟩ | ⟨_, e⟩
    · rw [e]
      have o := h.ok p hp
      have b := pc_then_both o k1 k2 c
      have : (1 : Rat) = p.hi := by
        have := o.high
        unfold Pc.in at k1
        grind
      rw [this] at b ⊢
      have i : p.in (p.then p.hi x) := by unfold Pc.in at k2 ⊢; grind
      rw [pc_hi o i] at b
      exact b.2.2
    · exact e
  · rw [t_le (by grind)]
    grind
theorem t_both {ls : List Pc} (h : Row ls) {x y : Rat} (hx : x ≤ 1) : bothQ ls x (thenQ ls x y) = if x ≤ y then x else y := by
  by_cases c : x ≤ y
  · rw [t_le c, if_pos c, q_comm, q_unit h hx]
  · rw [if_neg c]
    have lt : y < x := by grind
    rcases t_way h lt with ⟨p, hp, k1, k2, e⟩ | ⟨n, e⟩
    · rw [e]
      have o := h.ok p hp
      have b := pc_then_both o k1 k2 lt
      have i : p.in (p.then x y) := by unfold Pc.in at k2 ⊢; grind
      rw [q_one h hp k1 i]
      exact b.2.2
    · rw [e, q_none n]
      unfold low
      grind
theorem t_bound {ls : List Pc} (h : Row ls) {x y : Rat} (hx : x ≤ 1) (hy : 0 ≤ y) : 0 ≤ thenQ ls x y ∧ thenQ ls x y ≤ 1 := by
  by_cases c : x ≤ y
  · rw [t_le c]
    decide
  · have lt : y < x := by grind
    rcases t_way h lt with ⟨p, hp, k1, k2, e⟩ | ⟨n, e⟩
    · rw [e]
      have o := h.ok p hp
      have b := pc_then_both o k1 k2 lt
      have := o.high
      grind
    · rw [e]
      grind
theorem res {ls : List Pc} (h : Row ls) {x y w : Rat} (hx : x ≤ 1) (hw : w ≤ 1) : bothQ ls x w ≤ y ↔ w ≤ thenQ ls x y := by
  by_cases c : x ≤ y
  · rw [t_le c]
    have := (q_le h x w).1
    grind
  · have lt : y < x := by grind
    rcases t_way h lt with ⟨p, hp, k1, k2, e⟩ | ⟨n, e⟩
    · rw [e]
      have o := h.ok p hp
      have b := pc_then_both o k1 k2 lt
      have i : p.in (p.then x y) := by unfold Pc.in at k2 ⊢; grind
      have f := q_one h hp k1 i
      rw [b.2.2] at f
      refine ⟨fun g => ?_, fun g => ?_⟩
      · by_cases d : w ≤ p.then x y
        · exact d
        · exfalso
          by_cases kw : p.in w
          · rw [q_one h hp k1 kw] at g
            revert g
            have strict : ∀ {v : Rat}, p.in v → p.then x y < v → ¬ p.both x v ≤ y := by
              intro v kv lv
              unfold Pc.in at k1 k2 kv
              unfold Pc.both Pc.then high at *
              split
              · rename_i s
                rw [if_pos s] at lv
                split <;> grind
              · rename_i s
                rw [if_neg s] at lv
                have l := o.lt
                obtain ⟨q, e1, m1⟩ := quo_at (a := (p.hi - p.lo) * (y - p.lo)) (b := x - p.lo) (by grind)
                obtain ⟨r, e2, m2⟩ := quo_at (a := (x - p.lo) * (v - p.lo)) (b := p.hi - p.lo) (by grind)
                rw [e1] at lv
                rw [e2]
                intro g
                have a : q * (x - p.lo) < (v - p.lo) * (x - p.lo) := Rat.mul_lt_mul_of_pos_right (by grind) (by grind)
                have b := Rat.mul_le_mul_of_nonneg_right (a := r) (b := y - p.lo) (c := p.hi - p.lo) (by grind) (by grind)
                grind
            exact strict kw (by grind)
          · have hw2 : p.hi < w := by unfold Pc.in at kw k2; grind
            rw [q_two h hp k1 kw] at g
            unfold Pc.in at k1
            unfold low at g
            grind
      · have m := q_mono h (w := x) g
        rw [q_comm ls w x, q_comm ls (p.then x y) x, f] at m
        exact m
    · rw [e]
      rcases q_way h x w with ⟨p, hp, kx, kw, f⟩ | ⟨n2, f⟩
      · rw [f]
        have o := h.ok p hp
        have b := pc_in o kx kw
        have ky : ¬ p.in y := fun t => n p hp ⟨kx, t⟩
        unfold Pc.in at ky kx kw
        grind
      · rw [f]
        unfold low
        grind
end JN
set_option maxHeartbeats 16000000
namespace G1
open PySem PySem.Spec PyProof.Rows L2 JN
/-! ### what is no list stands beside the purse -/
theorem off_purse {H : Hp} {p q : Addr} {c : Int} {o : HO} (P : PurseAt H p c) (h : H q = some o) (n : ∀ xs, o ≠ .lst xs) : hide p H q = some o := by
  obtain ⟨a, b, e, _⟩ := P.ex
  have ne : q ≠ p := by
    intro z
    rw [z, e] at h
    exact n _ (Option.some.inj h).symm
  exact (hide_ne ne).trans h
theorem sqt_hide {K : PySem.W.Frag} {H : Hp} {p q : Addr} {c : Int} {xs : List V} (P : PurseAt H p c) (h : SqT K H q xs) : SqT K (hide p H) q xs := by
  match h with
  | .inl (.inl h) => exact .inl (.inl (off_purse P h (fun _ => nofun)))
  | .inl (.inr ⟨u, h⟩) => exact .inl (.inr ⟨u, off_purse P h (fun _ => nofun)⟩)
  | .inr h => exact .inr h
theorem pcs_hide {K : PySem.W.Frag} {H : Hp} {p : Addr} {c : Int} {ps : List Pc} {as : List Addr} (P : PurseAt H p c) (h : PcsAt K H ps as) : PcsAt K (hide p H) ps as := by
  refine paired_imp (fun q a z => ?_) h
  obtain ⟨l, u, h1, h2, h3⟩ := z
  exact ⟨l, u, sqt_hide P h1, sqt_hide P h2, sqt_hide P h3⟩
theorem JoinAt.hide {K : PySem.W.Frag} {C : Addr} {H : Hp} {p a : Addr} {c : Int} {ls : List Pc} (P : PurseAt H p c) (J : JoinAt K C H a ls) : JoinAt K C (hide p H) a ls := by
  obtain ⟨dx, q, r, bs, h1, h2, h3, h4⟩ := J.ex
  exact ⟨⟨dx, q, r, bs, off_purse P h1 (fun _ => nofun), sqt_hide P h2, pcs_hide P h3, sqt_hide P h4⟩, J.row, J.few, J.sz⟩
/-- a degree in the heap -/
structure DgAt (K : PySem.W.Frag) (H : Hp) (b : Nat) (x : Rat) (t : Addr) : Prop where
  rt : RtAt K H x t
  un : UnitB b x
theorem DgAt.on {K : PySem.W.Frag} {H H' : Hp} {b : Nat} {x : Rat} {t : Addr} (h : DgAt K H b x t) (s : Same H H') : DgAt K H' b x t := ⟨h.rt.on s, h.un⟩
theorem DgAt.dp {K : PySem.W.Frag} {H : Hp} {b : Nat} {x : Rat} {t : Addr} (h : DgAt K H b x t) : Dp K H (.ref t) (dRt x) := h.rt.dp
theorem go_both {K : PySem.W.Frag} {C a t u : Addr} {H : Hp} {ls : List Pc} {i j b : Nat} {x y : Rat} {Q : VK} (Z : ∀ p ∈ ls, PSz 120 p) (J : JoinAt K C H a ls) (hx : DgAt K H i x t) (hy : DgAt K H j y u) (hi : i ≤ b) (hj : j ≤ b) (hb : b ≤ 1500)
    (q : ∀ r H', Same H H' → DgAt K H' (2 * b + 700) (bothQ ls x y) r → Q (.ref r) H') : MethP K C bothQ a t u ls x y H Q :=
  ⟨J, hx.rt, hy.rt, ⟨hx.un.1, hx.un.2.1⟩, ⟨hy.un.1, hy.un.2.1⟩, hx.un.2.2.mono (Nat.le_trans hi hb), hy.un.2.2.mono (Nat.le_trans hj hb), Z, fun r H' s h =>
    q r H' s ⟨h, q_nn J.row hx.un.1 hy.un.1, Rat.le_trans (q_le J.row x y).1 hx.un.2.1, both_sz Z J.row.ok (hx.un.2.2.mono hi) (hy.un.2.2.mono hj)⟩⟩
theorem go_then {K : PySem.W.Frag} {C a t u : Addr} {H : Hp} {ls : List Pc} {i j b : Nat} {x y : Rat} {Q : VK} (Z : ∀ p ∈ ls, PSz 120 p) (J : JoinAt K C H a ls) (hx : DgAt K H i x t) (hy : DgAt K H j y u) (hi : i ≤ b) (hj : j ≤ b) (hb : b ≤ 1500)
    (q : ∀ r H', Same H H' → DgAt K H' (2 * b + 700) (thenQ ls x y) r → Q (.ref r) H') : MethP K C thenQ a t u ls x y H Q :=
  ⟨J, hx.rt, hy.rt, ⟨hx.un.1, hx.un.2.1⟩, ⟨hy.un.1, hy.un.2.1⟩, hx.un.2.2.mono (Nat.le_trans hi hb), hy.un.2.2.mono (Nat.le_trans hj hb), Z, fun r H' s h =>
    q r H' s ⟨h, (t_bound J.row hx.un.2.1 hy.un.1).1, (t_bound J.row hx.un.2.1 hy.un.1).2, then_sz Z J.row.ok (hx.un.2.2.mono hi) (hy.un.2.2.mono hj)⟩⟩
theorem ne_same {x y : Rat} (h : x = y) : (!PyData.eqv (dRt x) (dRt y)) = false := by
  rw [dRt_eqv, h]
  simp
end G1
set_option maxHeartbeats 4000000
/-! own special methods of plain instances: str(x), f'{x}', the signs, == and != -/
namespace OW
open PySem PySem.Spec PyProof.Rows
section
variable {prog : Program} {w : World} {A : Around} {E : Value → Shared → Prop} {s : Shared} {K : PySem.W.Frag} {x C f : Addr} {ox : Obj} {od : Option Obj}
theorem str_own {Q : Value → Shared → Prop} (room : A.in1.in1.units < cLine) (kin : K.In s.heap) (J : PySem.W.InstAt s.heap x ox C od)
    (at_ : PySem.W.findIn K (.ref C) "__str__" = some (some (.ref f))) (fn : PySem.W.isFn K (.ref f) = true)
    (run : wpAny (model prog w) A.in1.in1 (call (.ref f) [.ref x]) (fun r t => ∃ y u, r = Value.str y u ∧ Q r t) E s) :
    wpAny (model prog w) A (call (.type "str") [.ref x]) Q E s := by
  let G : Value → Shared → Prop := fun r t => ∃ y u, r = Value.str y u ∧ Q r t
  have text : wpAny (model prog w) A.in1.in1 (PySem.Builtin.Str.strOf (.ref x)) G E s := by
    unfold Builtin.Str.strOf
    have off : PySem.Builtin.Str.isExactStr (.ref x) = false := rfl
    rw [off]
    apply wpAny_bind (m := cRoomFor _ _)
    apply wpAny_cRoomFor room
    apply wpAny_bind (m := callSpecial? (.ref x) (Str.ofString "__str__"))
    apply PySem.W.special_fn kin J at_ (beq_iff_eq.mp fn)
    refine wpAny_mono run ?_ (fun _ _ z => z)
    rintro r t ⟨y, u, rfl, q⟩
    exact wpAny_pure ⟨y, u, rfl, q⟩
  have born : codeAny (model prog w) A.in1 (.call (.builtin "str.__new__") ⟨[.type "str", .ref x], []⟩) (wants G E) s := by
    apply codeAny_of_tree
    apply wpAny_bind
    apply wpAny_of_eq (PySem.F.newCall_str_1 _)
    apply wpAny_pure
    constructor
    · exact plainId_quiet (by decide +kernel) _
    · apply codeAny_builtin PySem.F.entry_str_new
      have flat := Around.under_plainId (A := A.in1) (show plainId "str.__new__" = true by decide +kernel) ⟨[.type "str", .ref x], []⟩
      rw [flat, str_new_tree]
      apply wpAny_bind
      apply wpAny_pure
      apply wpAny_bind
      apply wpAny_of_eq isSubtype_str_str
      apply wpAny_bind
      refine wpAny_mono text ?_ (fun _ _ z => z)
      intro r t q
      exact wpAny_pure q
  apply callType_codes (Q₁ := G) PySem.F.called_str (PySem.F.typeCall_str_1 _) PySem.F.entry_object_init born
  rintro r t ⟨y, u, rfl, q⟩
  have own := PySem.F.called_str
  refine ⟨typeIs_str _ _ _, PySem.F.args_object_init_2 _ _, ?_⟩
  exact object_init_meets own.init.lookup own.made (by decide) prog w A.in1 _ t ⟨typeIs_str _ _ _, rfl, q⟩
/-- a special method that is a built-in's -/
theorem ifBound_b {M : Model} {name : Str} {id : String} {args : List Value} {Q : Option Value → Shared → Prop} (kin : K.In s.heap) (J : PySem.W.InstAt s.heap x ox C od)
    (at_ : PySem.W.findIn K (.ref C) name = some (some (.builtin id))) (bs : ∀ self, bindSpecial (.builtin id) self = pure (.builtin id, [self]))
    (run : wpAny M A (call (.builtin id) (.ref x :: args)) (fun v => Q (some v)) E s) : wpAny M A (callSpecialIfBound? (.ref x) name args) Q E s := by
  have bound := PySem.W.Looks.of_pure (M := M) (h := s.heap) (bs (.ref x))
  have last : wpAny M A (call (.builtin id) ([.ref x] ++ args) >>= fun v => pure (some v)) Q E s := by
    apply wpAny_bind
    exact wpAny_mono run (fun _ _ z => wpAny_pure z) (fun _ _ z => z)
  rw [callSpecialIfBound?]
  simp only [bindSpecialIfBound?]
  apply wpAny_holding
  apply wpAny_bind
  apply wpAny_bind
  apply wpAny_bind
  apply J.type.here
  apply (PySem.W.looks_findIn kin at_).here
  apply wpAny_bind
  apply wpAny_askSetting
  apply wpAny_ite
  split
  · apply wpAny_bind
    apply bound.here
    exact wpAny_pure (by exact last)
  · apply wpAny_tryCatch
    apply wpAny_bind
    apply bound.here
    exact wpAny_pure (by exact last)
/-- a comparison that its left side answers -/
theorem by_left {op : CmpOp} {b tb : Value} {Q : Value → Shared → Prop} (room : A.units < cLine) (kin : K.In s.heap) (J : PySem.W.InstAt s.heap x ox C od) (ty : PySem.W.Looks (model prog w) s.heap (typeOf b) tb)
    (nf : PySem.W.notFirst K C tb = true) (hit : wpAny (model prog w) A (tryCompare (.ref x) (cmpInfo op).2.1 b) (fun r t => ∃ v, r = some v ∧ Q v t) E s) :
    wpAny (model prog w) A (richCompare op (.ref x) b) Q E s := by
  unfold richCompare
  simp only [oneThing_ref]
  apply wpAny_holding
  apply wpAny_bind
  apply wpAny_cRoomFor room
  apply wpAny_bind
  apply J.type.here
  apply wpAny_bind
  apply ty.here
  split
  · next ne =>
    have sub : PySem.W.subIn K tb (.ref C) = some false := by
      have two := Bool.or_eq_true_iff.mp nf
      cases two with
      | inl e =>
        have same := beq_iff_eq.mp e
        rw [same] at ne
        simp at ne
      | inr e => exact beq_iff_eq.mp e
    apply wpAny_bind
    apply (PySem.W.looks_subIn kin sub).here
    rw [if_neg (by decide)]
    apply wpAny_bind
    refine wpAny_mono hit ?_ (fun _ _ z => z)
    rintro r t ⟨v, rfl, q⟩
    exact wpAny_pure q
  · apply wpAny_bind
    apply wpAny_pure
    rw [if_neg (by decide)]
    apply wpAny_bind
    refine wpAny_mono hit ?_ (fun _ _ z => z)
    rintro r t ⟨v, rfl, q⟩
    exact wpAny_pure q
/-- x != y, x with an own == alone -/
theorem ne_own {b tb : Value} {Q : Value → Shared → Prop} {h₀ : Heap} {L : Addr} {m : Str → Option Value} (room : A.units + 1 < cLine) (fr : Fr h₀ L s.heap m) (k0 : K.In h₀) (J : PySem.W.InstAt s.heap x ox C od)
    (ty : PySem.W.Looks (model prog w) s.heap (typeOf b) tb) (nf : PySem.W.notFirst K C tb = true)
    (nat : PySem.W.findIn K (.ref C) "__ne__" = some (some (.builtin "object.__ne__"))) (mo : PySem.W.mroIn K C (.type "object") = some true)
    (at_ : PySem.W.findIn K (.ref C) "__eq__" = some (some (.ref f))) (fn : PySem.W.isFn K (.ref f) = true)
    (run : wpAny (model prog w) A.in1 (call (.ref f) [.ref x, b]) (fun v t => ∃ k, v = Value.bool k ∧ Q (.bool (!k)) t) E s) : wpAny (model prog w) A (richCompare .NotEq (.ref x) b) Q E s := by
  have kin := k0.keeps fr.keep
  apply by_left (op := .NotEq) (Nat.lt_of_succ_lt room) kin J ty nf
  unfold tryCompare
  apply wpAny_bind
  apply ifBound_b kin J nat PySem.F.slot_object_ne.bind
  apply wpAny_call
  apply codeAny_call_builtin PySem.F.slot_object_ne.plain PySem.F.cmpEntry_ne
  refine PySem.W.check_slot PySem.F.cmpKind_ne PySem.F.cmpSplit_ne (J.type.andThen (PySem.W.looks_mroIn kin mo)) (PySem.F.cmpArgs_ne _ _) ?_
  unfold PySem.Builtin.«object.__ne__»
  apply wpAny_bind (m := slotArgs "__ne__" 1 _)
  apply wpAny_pure
  apply wpAny_bind (m := cRoomFor _ _)
  apply wpAny_cRoomFor (A := A.in1) room
  apply wpAny_bind (m := callSpecialIfBound? (.ref x) (Str.ofString "__eq__") _)
  apply PySem.W.ifBound_K kin J at_ fn
  refine wpAny_mono run ?_ (fun _ _ z => z)
  rintro r t ⟨k, rfl, q⟩
  apply wpAny_bind (m := truthy (.bool _))
  apply wpAny_truthy_bool
  first
    | exact wpAny_pure (wpAny_pure ⟨_, rfl, q⟩)
    | exact wpAny_pure ⟨_, rfl, wpAny_pure ⟨_, rfl, q⟩⟩
    | exact wpAny_pure ⟨_, rfl, q⟩
end
end OW
namespace OW
open PySem PySem.Spec PyProof.Rows L2
section
variable {X : Cx} {CX : CXT} {C g : Addr} {n : Nat} {sp : Sp} {E : XK}
theorem ins_at {pins : List (Addr × Obj)} {σ : L2.St} {H : Hp} {s : Shared} {a dx : Addr} {fs : List (Str × V)} (I : Inv X pins σ H s) (h : H a = some (.ins C dx fs)) : ∃ od, PySem.W.InstAt s.heap a (PySem.W.instObj C dx) C (some od) := by
  have got := ins_get I.hok h
  obtain ⟨_, J, _⟩ := got
  exact ⟨_, J.look.choose_spec.1⟩
/-- the own method run below, on the instance alone -/
theorem run1 {A : Around} {pins : List (Addr × Obj)} {σ : L2.St} {H : Hp} {s : Shared} {a : Addr} {Q : VK} (F : FnR X.prog X.w X.K X.mg X.base CX n g sp) (room : Room n A) (e0 : Env0 X.prog X.w X.K X.mg X.base A X.stack s H) (out : Passes CX X E)
    (I : Inv X pins σ H s) (q : sp [.ref a] H Q E) : wpAny (model X.prog X.w) A (call (.ref g) [.ref a]) (EP X pins σ Q) X.xe s :=
  wpAny_call (SlX.run_at (us := [.ref a]) (ws := [.ref a]) F room e0 out I (.cons rfl .nil) q)
/-- .. on two -/
theorem run2 {A : Around} {pins : List (Addr × Obj)} {σ : L2.St} {H : Hp} {s : Shared} {a b : Addr} {Q : VK} (F : FnR X.prog X.w X.K X.mg X.base CX n g sp) (room : Room n A) (e0 : Env0 X.prog X.w X.K X.mg X.base A X.stack s H) (out : Passes CX X E)
    (I : Inv X pins σ H s) (q : sp [.ref a, .ref b] H Q E) : wpAny (model X.prog X.w) A (call (.ref g) [.ref a, .ref b]) (EP X pins σ Q) X.xe s :=
  wpAny_call (SlX.run_at (us := [.ref a, .ref b]) (ws := [.ref a, .ref b]) F room e0 out I (.cons rfl (.cons rfl .nil)) q)
def rStrOwn (C : Addr) (sp : Sp) (E : XK) : List V → Hp → VK → Prop := fun xs H Q => ∃ a dx fs, xs = [V.ref a] ∧ H a = some (.ins C dx fs) ∧ sp [.ref a] H (fun z H' => ∃ y, z = .str y ∧ Q z H') E
/-- str(x) -/
theorem call_strOwn (at_ : PySem.W.findIn X.K (.ref C) "__str__" = some (some (.ref g))) (fn : PySem.W.isFn X.K (.ref g) = true) (F : FnR X.prog X.w X.K X.mg X.base CX n g sp) (room : Room (n + 2) X.A) (out : Passes CX X E) : CallR X (.type "str") (rStrOwn C sp E) := by
  intro pn st sl H xs us Q I vals ask
  obtain ⟨a, dx, fs, rfl, here, ask⟩ := ask
  obtain ⟨od, J⟩ := ins_at I here
  have e : us = [Value.ref a] := Vals.ref1 vals
  subst e
  have low : Room (n + 1) X.A.in1 := Room.in1 room
  apply str_own low.in1.units0 I.kIn J at_ fn
  refine wpAny_mono (run1 F low.in1 I.env0.in1.in1 out I ask) ?_ (fun _ _ z => z)
  rintro u st' ⟨z, H', I', rel, y, rfl, q⟩
  obtain ⟨t, rfl⟩ := rel
  exact ⟨y, t, rfl, V.str y, H', I', ⟨t, rfl⟩, q⟩
/-- {x} in an f-string -/
def tFmtO (C : Addr) (sp : Sp) (E : XK) (te : TE) : TE := fun σ H Q => te σ H fun x H1 => ∃ a dx fs, x = .ref a ∧ H1 a = some (.ins C dx fs) ∧ sp [.ref a] H1 (fun z H' => ∃ y, z = .str y ∧ Q (.str y) H') E
theorem pe_fmtO {e : Expr} {te : TE} {pos : Pos} (he : PE X e te) (at_ : PySem.W.findIn X.K (.ref C) "__str__" = some (some (.ref g))) (fn : PySem.W.isFn X.K (.ref g) = true)
    (fm : PySem.W.findIn X.K (.ref C) "__format__" = some (some (.builtin "object.__format__"))) (mo : PySem.W.mroIn X.K C (.type "object") = some true)
    (F : FnR X.prog X.w X.K X.mg X.base CX n g sp) (room : Room (n + 1) X.A) (out : Passes CX X E) : PE X (.FormattedValue e (-1) none pos) (tFmtO C sp E te) := by
  constructor
  intro pn st sl H Q I ask
  apply wpAny_FormattedValue_plain
  refine thn (he.run pn st sl H _ I ask) ?_
  rintro v s1 ⟨x, H1, I1, rel, a, dx, fs, rfl, here, ask⟩
  have ev : v = Value.ref a := rel
  subst ev
  have I2 := I1.tok (s1.toks + 1)
  have low : Room n X.A.in1 := Room.in1 room
  obtain ⟨od, J⟩ := ins_at I1 here
  apply PySem.W.kfo_fieldS low.units0 I1.kIn J fm mo at_ fn
  refine wpAny_mono (run1 F low I2.env0.in1 out I2 ask) ?_ (fun _ _ z => z)
  rintro u st' ⟨z, H', I', rel', y, rfl, q⟩
  obtain ⟨t, rfl⟩ := rel'
  exact ⟨V.str y, H', I', ⟨t, rfl⟩, q⟩
/-- x op y, both instances of the class at C with an own method for op -/
def rBinO (C : Addr) (sp : Sp) (E : XK) : R2 := fun x y H Q => ∃ a dx fs b dy gs, x = .ref a ∧ y = .ref b ∧ H a = some (.ins C dx fs) ∧ H b = some (.ins C dy gs) ∧ sp [.ref a, .ref b] H Q E
theorem op_binO {op : Operator} (sf : PySem.W.selfFirst X.K C = true) (at_ : PySem.W.findIn X.K (.ref C) (PySem.dunder op.info.2) = some (some (.ref g))) (fn : PySem.W.isFn X.K (.ref g) = true)
    (F : FnR X.prog X.w X.K X.mg X.base CX n g sp) (room : Room n X.A) (out : Passes CX X E) : OpR X (binaryOp op) (rBinO C sp E) := by
  intro pn st sl H x y v u Q I r1 r2 ask
  obtain ⟨a, dx, fs, b, dy, gs, rfl, rfl, here, there, ask⟩ := ask
  have e1 : v = Value.ref a := r1
  have e2 : u = Value.ref b := r2
  subst e1 e2
  obtain ⟨_, J⟩ := ins_at I here
  obtain ⟨_, J2⟩ := ins_at I there
  obtain ⟨_, fr⟩ := I.fr
  apply PySem.W.binop_K fr I.ok.mod.kin J J2.type sf at_ fn
  refine wpAny_mono (run2 F room I.env0 out I ask) ?_ (fun _ _ z => z)
  rintro r st' ⟨z, H', I', rel, q⟩
  exact SlX.cmpback rel ⟨z, H', I', rel, q⟩
/-- ~x -/
def rInvO (C : Addr) (sp : Sp) (E : XK) : V → Hp → VK → Prop := fun x H Q => ∃ a dx fs, x = .ref a ∧ H a = some (.ins C dx fs) ∧ sp [.ref a] H Q E
theorem un_invO (at_ : PySem.W.findIn X.K (.ref C) "__invert__" = some (some (.ref g))) (fn : PySem.W.isFn X.K (.ref g) = true)
    (F : FnR X.prog X.w X.K X.mg X.base CX n g sp) (room : Room n X.A) (out : Passes CX X E) : UnR X (unaryOp .Invert) (rInvO C sp E) := by
  intro pn st sl H x v Q I r1 ask
  obtain ⟨a, dx, fs, rfl, here, ask⟩ := ask
  have e1 : v = Value.ref a := r1
  subst e1
  obtain ⟨_, J⟩ := ins_at I here
  obtain ⟨_, fr⟩ := I.fr
  exact PySem.W.ksp_inv fr I.ok.mod.kin J at_ fn (run1 F room I.env0 out I ask)
/-- x == y -/
theorem op_eqO (at_ : PySem.W.findIn X.K (.ref C) "__eq__" = some (some (.ref g))) (fn : PySem.W.isFn X.K (.ref g) = true)
    (F : FnR X.prog X.w X.K X.mg X.base CX n g sp) (room : Room n X.A) (out : Passes CX X E) : OpR X (compareOp .Eq) (rBinO C sp E) := by
  intro pn st sl H x y v u Q I r1 r2 ask
  obtain ⟨a, dx, fs, b, dy, gs, rfl, rfl, here, there, ask⟩ := ask
  have e1 : v = Value.ref a := r1
  have e2 : u = Value.ref b := r2
  subst e1 e2
  obtain ⟨_, J⟩ := ins_at I here
  obtain ⟨_, J2⟩ := ins_at I there
  obtain ⟨_, fr⟩ := I.fr
  have nf : PySem.W.notFirst X.K C (.ref C) = true := by simp [PySem.W.notFirst]
  apply PySem.W.cmp_K (op := .Eq) room.units0 fr I.ok.mod.kin J J2.type nf at_ fn
  refine wpAny_mono (run2 F room I.env0 out I ask) ?_ (fun _ _ z => z)
  rintro r st' ⟨z, H', I', rel, q⟩
  exact SlX.cmpback rel ⟨z, H', I', rel, q⟩
/-- x != y, by the own == -/
def rNeO (C : Addr) (sp : Sp) (E : XK) : R2 := fun x y H Q => ∃ a dx fs b dy gs, x = .ref a ∧ y = .ref b ∧ H a = some (.ins C dx fs) ∧ H b = some (.ins C dy gs) ∧ sp [.ref a, .ref b] H (fun z H' => ∃ k, z = .bl k ∧ Q (.bl (!k)) H') E
theorem op_neO (at_ : PySem.W.findIn X.K (.ref C) "__eq__" = some (some (.ref g))) (fn : PySem.W.isFn X.K (.ref g) = true)
    (nat : PySem.W.findIn X.K (.ref C) "__ne__" = some (some (.builtin "object.__ne__"))) (mo : PySem.W.mroIn X.K C (.type "object") = some true)
    (F : FnR X.prog X.w X.K X.mg X.base CX n g sp) (room : Room (n + 1) X.A) (out : Passes CX X E) : OpR X (compareOp .NotEq) (rNeO C sp E) := by
  intro pn st sl H x y v u Q I r1 r2 ask
  obtain ⟨a, dx, fs, b, dy, gs, rfl, rfl, here, there, ask⟩ := ask
  have e1 : v = Value.ref a := r1
  have e2 : u = Value.ref b := r2
  subst e1 e2
  obtain ⟨_, J⟩ := ins_at I here
  obtain ⟨_, J2⟩ := ins_at I there
  obtain ⟨_, fr⟩ := I.fr
  have low : Room n X.A.in1 := Room.in1 room
  have nf : PySem.W.notFirst X.K C (.ref C) = true := by simp [PySem.W.notFirst]
  apply ne_own low.units0 fr I.ok.mod.kin J J2.type nf nat mo at_ fn
  refine wpAny_mono (run2 F low I.env0.in1 out I ask) ?_ (fun _ _ z => z)
  rintro r st' ⟨z, H', I', rel, k, rfl, q⟩
  have er : r = Value.bool k := rel
  exact ⟨k, er, V.bl (!k), H', I', rfl, q⟩
end
end OW
set_option maxHeartbeats 8000000
namespace G1
open PySem PySem.Spec PyProof.Rows L2 JN OW
theorem raw1 {P : Program} {w : World} {K : PySem.W.Frag} {mg : Str → Option Value} {base : Heap} {CX : CXT} {k : Nat} {f : Addr} {fd : FuncData} {ps : List Str} {sp : Sp} (F : FnOk P w K mg base CX k f fd ps sp) (hb : Binds K fd ps []) : FnR P w K mg base CX k f sp :=
  (F.raw hb .nil).imp fun vs H Q E h => by rw [List.append_nil]; exact h
def spEqJ (K : PySem.W.Frag) (C : Addr) : Sp := fun vs H Q _ => ∃ (a b : Addr) (ls ms : List Pc), vs = [.ref a, .ref b] ∧ JoinAt K C H a ls ∧ JoinAt K C H b ms ∧ Q (.bl (decide (ls = ms))) H
/-- == of the class -/
def EqM (K : PySem.W.Frag) (C : Addr) : Prop := ∃ (f : Addr) (fd : FuncData), Meth K C "__eq__" f ∧ FunD K "__eq__" "Joining.__eq__" (defArgs mJoiningEq) (defBody mJoiningEq) (defScope mJoiningEq) [] [] f fd
section
variable {P : Program} {w : World} {K : PySem.W.Frag} {mg : Str → Option Value} {base : Heap} {C : Addr}
theorem kit_join (T : JoinTxt K mg C) {H : Hp} {a dx : Addr} {fs : List (Str × V)} (e : H a = some (.ins C dx fs)) : ∃ t, TyX K H (.ref a) t ∧ PySem.W.kitOne K t (.ref C) = some true :=
  ⟨_, .base (.ins e T.cl T.ow.isCls T.ow.getCls T.ow.takesCls T.ow.mo), by unfold PySem.W.kitOne; rw [if_pos (beq_self_eq_true _)]⟩
theorem scEqJ : FnScope ["self", "other"] ["self", "other"] (defScope mJoiningEq) := ⟨rfl, rfl, rfl, by decide +kernel, rfl, by decide +kernel, by decide +kernel⟩
theorem ok_eqJ (E0' : EqM K C) (T : JoinTxt K mg C) (B : Blt mg) : ∃ f, Meth K C "__eq__" f ∧ FnR P w K mg base CX0 1 f (spEqJ K C) := by
  obtain ⟨f, fd, M, F⟩ := E0'
  refine ⟨f, M, raw1 (ps := ["self", "other"]) (F.ok scEqJ (fun vs H Q E h => ?_) (fun cdv A outer s H vs Q E hr h => ⟨_, PSs.nox (pss_one (ps_ret
      (pe_and (pe_callB call_isi (by rfl) B.isin (by decide +kernel) (pa_cons (pv 1) (pa_cons (pe_glob (v := .ref C) rfl T.gC rfl) pa_nil))) (pe_one (pe_cmpR (op_eqD hr.units) (pe_fld (pv 0) rfl) (pe_fld (pv 1) rfl) (nomark _)))))), ?_⟩))
    (F.bindsN fun _ _ _ _ _ _ us hl => match us, hl with | [_, _], _ => rfl)⟩
  · obtain ⟨a, b, ls, ms, rfl, _⟩ := h
    rfl
  · obtain ⟨a, b, ls, ms, rfl, ja, jb, q⟩ := h
    obtain ⟨dx, pa, ra, as, e1, p1, c1, _⟩ := ja.ex
    obtain ⟨dy, pb, rb, bs, e2, p2, c2, _⟩ := jb.ex
    obtain ⟨ty, h1, h2⟩ := kit_join T e2
    refine ⟨_, rfl, .ref b, .ref C, ty, _, _, rfl, .own C, h1, h2, _, rfl, iteT ?_⟩
    refine ⟨_, rfl, a, C, dx, _, _, rfl, e1, T.cl, T.nP, rfl, _, rfl, b, C, dy, _, _, rfl, e2, T.cl, T.nP, rfl, ?_⟩
    refine ⟨dPcs ls, dPcs ms, .tup p1 (pcs_dp c1), .tup p2 (pcs_dp c2), pcs_shp _, pcs_shp _, ?_⟩
    rw [pcs_eqv]
    exact q
end
end G1
set_option maxHeartbeats 4000000
/-! ### an instance beside a list -/
namespace OW
open PySem PySem.Spec PyProof.Rows L2
def rEqL (C : Addr) (sp : Sp) (E : XK) : R2 := fun x y H Q => ∃ a dx fs b xs, x = .ref a ∧ y = .ref b ∧ H a = some (.ins C dx fs) ∧ H b = some (.lst xs) ∧ sp [.ref a, .ref b] H Q E
def rNeL (C : Addr) (sp : Sp) (E : XK) : R2 := fun x y H Q => ∃ a dx fs b xs, x = .ref a ∧ y = .ref b ∧ H a = some (.ins C dx fs) ∧ H b = some (.lst xs) ∧ sp [.ref a, .ref b] H (fun z H' => ∃ k, z = .bl k ∧ Q (.bl (!k)) H') E
theorem lst_type {X : Cx} {pins : List (Addr × Obj)} {σ : L2.St} {H : Hp} {s : Shared} {b : Addr} {xs : List V} (I : Inv X pins σ H s) (h : H b = some (.lst xs)) : PySem.W.Looks (model X.prog X.w) s.heap (typeOf (.ref b)) (.type "list") := by
  obtain ⟨its, rv, p, _⟩ := I.list (SqL.of h)
  obtain ⟨o, at_, cls, _⟩ := p.isList
  intro A Q E s k q
  refine wpAny_typeOf_ref (k _ _ at_) ?_
  rw [cls]
  exact q
theorem lst_notFirst {K : PySem.W.Frag} {C : Addr} : PySem.W.notFirst K C (.type "list") = true := by
  unfold PySem.W.notFirst
  have z : PySem.W.subIn K (.type "list") (.ref C) = some false := by
    unfold PySem.W.subIn
    rfl
  rw [z]
  rfl
section
variable {X : Cx} {CX : CXT} {C g : Addr} {n : Nat} {sp : Sp} {E : XK}
theorem op_neL (at_ : PySem.W.findIn X.K (.ref C) "__eq__" = some (some (.ref g))) (fn : PySem.W.isFn X.K (.ref g) = true)
    (nat : PySem.W.findIn X.K (.ref C) "__ne__" = some (some (.builtin "object.__ne__"))) (mo : PySem.W.mroIn X.K C (.type "object") = some true)
    (F : FnR X.prog X.w X.K X.mg X.base CX n g sp) (room : Room (n + 1) X.A) (out : Passes CX X E) : OpR X (compareOp .NotEq) (rNeL C sp E) := by
  intro pn st sl H x y v u Q I r1 r2 ask
  obtain ⟨a, dx, fs, b, xs, rfl, rfl, here, there, ask⟩ := ask
  have e1 : v = Value.ref a := r1
  have e2 : u = Value.ref b := r2
  subst e1 e2
  obtain ⟨_, J⟩ := ins_at I here
  obtain ⟨_, fr⟩ := I.fr
  have low : Room n X.A.in1 := Room.in1 room
  apply ne_own low.units0 fr I.ok.mod.kin J (lst_type I there) lst_notFirst nat mo at_ fn
  refine wpAny_mono (run2 F low I.env0.in1 out I ask) ?_ (fun _ _ z => z)
  rintro r st' ⟨z, H', I', rel, k, rfl, q⟩
  have er : r = Value.bool k := rel
  exact ⟨k, er, V.bl (!k), H', I', rfl, q⟩
end
end OW
set_option maxHeartbeats 8000000
namespace G1
open PySem PySem.Spec PyProof.Rows L2 JN OW
/-- == of the class, beside a list -/
def spEqJL (K : PySem.W.Frag) (C : Addr) : Sp := fun vs H Q _ => ∃ (a b : Addr) (xs : List V), vs = [.ref a, .ref b] ∧ H b = some (.lst xs) ∧ Q (.bl false) H
section
variable {P : Program} {w : World} {K : PySem.W.Frag} {mg : Str → Option Value} {base : Heap} {C : Addr}
theorem ok_eqJL (E0' : EqM K C) (T : JoinTxt K mg C) (B : Blt mg) : ∃ f, Meth K C "__eq__" f ∧ FnR P w K mg base CX0 1 f (spEqJL K C) := by
  obtain ⟨f, fd, M, F⟩ := E0'
  refine ⟨f, M, raw1 (ps := ["self", "other"]) (F.ok scEqJ (fun vs H Q E h => ?_) (fun cdv A outer s H vs Q E hr h => ⟨_, PSs.nox (pss_one (ps_ret
      (pe_and (pe_callB call_isi (by rfl) B.isin (by decide +kernel) (pa_cons (pv 1) (pa_cons (pe_glob (v := .ref C) rfl T.gC rfl) pa_nil))) (pe_one (pe_cmpR (op_eqD hr.units) (pe_fld (pv 0) rfl) (pe_fld (pv 1) rfl) (nomark _)))))), ?_⟩))
    (F.bindsN fun _ _ _ _ _ _ us hl => match us, hl with | [_, _], _ => rfl)⟩
  · obtain ⟨a, b, xs, rfl, _⟩ := h
    rfl
  · obtain ⟨a, b, xs, rfl, hb, q⟩ := h
    refine ⟨_, rfl, .ref b, .ref C, .type "list", _, _, rfl, .own C, ty_lst (SqL.of hb), T.ow.ki "list" (by simp), _, rfl, iteF ?_⟩
    exact q
end
end G1
set_option maxHeartbeats 8000000
/-! a count beside the members of a tuple -/
namespace ET
open PySem PySem.Spec PyProof.Rows L2
open PySem.Sem (wp)
section
variable {prog : Program} {w : World} {A : Around} {E : Value → Shared → Prop} {s : Shared}
/-- one more member of the tuple -/
theorem more {c a : Addr} {j : Nat} {us : Array Value} {u : Value} {R : Value → Shared → Prop} (at_ : s.heap.IsTupleIter c a j) (tup : s.heap.IsTuple a us) (has : us[j]? = some u)
    (go : ∀ g, g.IsTupleIter c a (j + 1) → Heap.SameBut c s.heap g → R u { s with heap := g }) : wpAny (model prog w) A (Builtin.SmallTypes.nextOf (.ref c)) R E s := by
  obtain ⟨oc, gc, kc, dc⟩ := id at_
  obtain ⟨oa, ga, _, m, da⟩ := tup
  delta Builtin.SmallTypes.nextOf
  apply wpAny_bind
  apply wpAny_callSpecial?_slot (name := Str.ofString "__next__") at_.typeIs PySem.F.slot_tuple_iterator_next
  refine wpAny_call_entry PySem.F.slot_tuple_iterator_next at_.typeIs PySem.F.entry_tuple_iterator_next ?_ (PySem.F.args_tuple_iterator_next_1 _)
  show wpAny _ _ (field (.ref c) 0 >>= _) _ _ s
  apply wpAny_bind
  apply wpAny_field gc dc (x := .ref a) rfl
  show wpAny _ _ (if (Value.ref a == Value.none) = true then _ else _) _ _ s
  rw [if_neg (by exact Bool.false_ne_true)]
  show wpAny _ _ (field (.ref c) 1 >>= _) _ _ s
  apply wpAny_bind
  apply wpAny_field gc dc (x := .int j 0) rfl
  show wpAny _ _ (seqItems? (.ref a) >>= _) _ _ s
  apply wpAny_bind
  apply wpAny_seqItems ga da
  simp only [has, Int.toNat_natCast]
  apply wpAny_bind
  apply wpAny_setField gc dc (by simp)
  refine wpAny_pure ⟨u, rfl, wpAny_pure (go _ ⟨_, Heap.get?_update_self _ gc (Obj.isFreed_of_fields (Obj.data_mapFields dc _)), ?_, ?_⟩ (Heap.SameBut.update ..))⟩
  · rw [Obj.cls_mapFields, kc]
  · rw [Obj.data_mapFields dc]
    simp [rawInt]
/-- none is left -/
theorem last {c a : Addr} {j : Nat} {us : Array Value} {R : Value → Shared → Prop} (calm : A.handled = none) (at_ : s.heap.IsTupleIter c a j) (tup : s.heap.IsTuple a us) (no : us[j]? = none)
    (go : ∀ g x, Heap.ExtBut c s.heap g → (∃ o, g.get? x = some o ∧ o.cls = .type "StopIteration") → E (.ref x) { s with heap := g }) : wpAny (model prog w) A (Builtin.SmallTypes.nextOf (.ref c)) R E s := by
  obtain ⟨oc, gc, kc, dc⟩ := id at_
  obtain ⟨oa, ga, _, m, da⟩ := tup
  delta Builtin.SmallTypes.nextOf
  apply wpAny_bind
  apply wpAny_callSpecial?_slot (name := Str.ofString "__next__") at_.typeIs PySem.F.slot_tuple_iterator_next
  refine wpAny_call_entry PySem.F.slot_tuple_iterator_next at_.typeIs PySem.F.entry_tuple_iterator_next ?_ (PySem.F.args_tuple_iterator_next_1 _)
  show wpAny _ _ (field (.ref c) 0 >>= _) _ _ s
  apply wpAny_bind
  apply wpAny_field gc dc (x := .ref a) rfl
  show wpAny _ _ (if (Value.ref a == Value.none) = true then _ else _) _ _ s
  rw [if_neg (by exact Bool.false_ne_true)]
  show wpAny _ _ (field (.ref c) 1 >>= _) _ _ s
  apply wpAny_bind
  apply wpAny_field gc dc (x := .int j 0) rfl
  show wpAny _ _ (seqItems? (.ref a) >>= _) _ _ s
  apply wpAny_bind
  apply wpAny_seqItems ga da
  simp only [no, Int.toNat_natCast]
  apply wpAny_bind
  apply wpAny_rule
  apply wpAny_bind
  apply wpAny_setField gc dc (by simp)
  show wpAny _ _ (newExc (.type "StopIteration") ([] : List Value) >>= _) _ _ _
  apply wpAny_bind
  simp only [newTuple, newExc]
  apply wpAny_bind
  apply wpAny_newObj_type _ (by size_fits)
  apply wpAny_bind (m := firstArgMember _ _)
  refine wpAny_of_eq (a := Value.none) (by first | rfl | (simp only [firstArgMember]; rfl)) ?_
  apply wpAny_newObj_type _ (by size_fits)
  simp only [raiseNew]
  apply wpAny_bind
  apply wpAny_handled
  have calm' : A.in1.handled = none := calm
  first
    | rw [calm']
    | rw [calm]
  dsimp only
  apply wpAny_throw
  exact go _ _ (((Heap.SameBut.update ..).extBut.push _).push _) ⟨_, Heap.get?_push_size _ rfl, rfl⟩
end
theorem draws {prog : Program} {w : World} {A : Around} (calm : A.handled = none) (c a : Addr) (ne : a ≠ c) (us : Array Value) :
    Draws prog w A c [c, a] us.size (fun j u => us[j]? = some u) (fun j g => g.IsTupleIter c a j ∧ g.IsTuple a us) where
  live := by
    intro j g z
    obtain ⟨⟨o, e, _⟩, _⟩ := z
    exact ⟨o, e⟩
  frame := by
    intro j g g' z k
    exact ⟨z.1.at (k c (by simp)), z.2.at (k a (by simp))⟩
  item := by
    intro j s R E lt z go
    have has : us[j]? = some us[j] := by simp [lt]
    exact more z.1 z.2 has fun g z' sb => go _ g s.toks has ⟨z', z.2.extBut sb.extBut ne⟩ sb
  done := by
    intro s R E z go
    exact last calm z.1 z.2 (by simp) go
theorem meets_new (a : Addr) (us : Array Value) (o : Obj) (ho : o.cls = .type "tuple") (m : Nat) (hd : o.data = .seq us m) :
    Meets (Builtin.«enumerate.__new__» ⟨[.type "enumerate", .ref a], []⟩) (fun _ R s => s.heap.get? a = some o ∧
      R (.ok (.ret (.ref (s.heap.push { cls := .type "tuple_iterator", data := .fields #[.ref a, .int 0 0] }).objs.size)))
        { s with heap := (s.heap.push { cls := .type "tuple_iterator", data := .fields #[.ref a, .int 0 0] }).push { cls := .type "enumerate", data := .fields #[.none, .bool false, .ref s.heap.objs.size, rawInt 0, .none, .none] } }) :=
  .of_wp fun prog w A R s q => by
    obtain ⟨hp, gs, dr, tk, os⟩ := s
    obtain ⟨e, q⟩ := q
    have sub := sub_enumerate
    have T : Heap.IsTuple (Shared.heap ⟨hp, gs, dr, tk, os⟩) a us := ⟨o, e, ho, m, hd⟩
    wp_walk using AutoSeq1.wpAny_loadPart' e
    refine wpAny_stack_any fun st0 => wpAny_pure ?_
    split
    · rename_i k _ _ _ _ _
      cases (k == Value.type "enumerate")
      · wp_walk using AutoSeq1.wpAny_loadPart' e, wpAny_pyIter_tuple T
        exact ⟨_, rfl, q⟩
      · wp_walk using AutoSeq1.wpAny_loadPart' e, wpAny_pyIter_tuple T
        exact ⟨_, rfl, q⟩
    · wp_walk using AutoSeq1.wpAny_loadPart' e, wpAny_pyIter_tuple T
      exact ⟨_, rfl, q⟩
section
variable {prog : Program} {w : World} {A : Around} {E : Value → Shared → Prop} {s : Shared}
theorem made {a : Addr} {us : Array Value} {R : Value → Shared → Prop} (tup : s.heap.IsTuple a us)
    (go : ∀ g, IsEnum g (s.heap.objs.size + 1) s.heap.objs.size 0 .none → g.IsTupleIter s.heap.objs.size a 0 → (∀ b o, s.heap.get? b = some o → g.get? b = some o) → R (.ref (s.heap.objs.size + 1)) { s with heap := g }) :
    wpAny (model prog w) A (call (.type "enumerate") [.ref a]) R E s := by
  obtain ⟨o, e, k, m, d⟩ := tup
  refine callType_new PySem.F.called_enumerate (by decide) (PySem.F.typeCall_enumerate_1 _) (PySem.F.newCall_enumerate_1 _) (fun x => PySem.F.args_object_init_2 x _) PySem.F.entry_enumerate_new (meets_new a us o k m d) ?_
  obtain ⟨c, ec⟩ : ∃ c : Obj, ({ cls := .type "tuple_iterator", data := .fields #[.ref a, .int 0 0] } : Obj) = c := ⟨_, rfl⟩
  have sz : (s.heap.push c).objs.size = s.heap.objs.size + 1 := Heap.size_push ..
  refine ⟨e, ?_⟩
  rw [ec, sz]
  obtain ⟨n, en⟩ : ∃ n : Obj, ({ cls := .type "enumerate", data := .fields #[.none, .bool false, .ref s.heap.objs.size, rawInt 0, .none, .none] } : Obj) = n := ⟨_, rfl⟩
  have isE : IsEnum ((s.heap.push c).push n) (s.heap.objs.size + 1) s.heap.objs.size 0 .none := by
    have z := Heap.get?_push_size (s.heap.push c) (o := n) (by rw [← en]; rfl)
    rw [sz] at z
    exact z.trans (congrArg some en.symm)
  have isT : ((s.heap.push c).push n).IsTupleIter s.heap.objs.size a 0 := ⟨c, Heap.get?_push_of_some _ (Heap.get?_push_size _ (by rw [← ec]; rfl)), by rw [← ec], by rw [← ec]; rfl⟩
  have kept : ∀ b x, s.heap.get? b = some x → ((s.heap.push c).push n).get? b = some x := fun b x z => Heap.get?_push_of_some _ (Heap.get?_push_of_some _ z)
  rw [← en] at isE isT kept
  exact ⟨⟨_, isE, rfl⟩, go _ isE isT kept⟩
end
/-- the tuple at a as it stands, each member in a new pair -/
def ItT (K : PySem.W.Frag) (a : Addr) : It :=
  ⟨fun j H => ∃ (xs : List V) (x : V), SqT K H a xs ∧ xs[j]? = some x,
    fun j H v H' => ∃ p x, v = .ref p ∧ H p = none ∧ H' = upd H p (.tup [.int (j : Nat), x]) ∧ ∀ xs, SqT K H a xs → xs[j]? = some x,
    fun j H => ∃ xs : List V, SqT K H a xs ∧ xs.length ≤ j⟩
theorem turns {P : Program} {w : World} {K : PySem.W.Frag} {elts : List Expr} {kk : Nat} {tpos : Pos} (a e c : Addr) :
    Turn P w K (.Tuple elts kk tpos) (ItT K a) [e, c] e (fun j g => (∃ old, IsEnum g e c ((j : Nat) : Int) old) ∧ g.IsTupleIter c a j ∧ e ≠ c) where
  mem := List.mem_cons_self
  obj := by
    rintro j g ⟨⟨old, ge⟩, ⟨o, go, kc, dc⟩, _⟩ b hb
    simp only [List.mem_cons, List.not_mem_nil, or_false] at hb
    rcases hb with rfl | rfl
    · exact ⟨_, ge, fun v q => nomatch q⟩
    · refine ⟨o, go, fun v q => ?_⟩
      rw [dc] at q
      cases q
  keep := by
    rintro j g g' ⟨⟨old, ge⟩, gc, ne⟩ k
    exact ⟨⟨old, k e (by simp) _ ge⟩, gc.at (k c (by simp)), ne⟩
  item := by
    intro X eP ew eK cl j pins s σ H E I free st ask
    subst eP ew eK
    obtain ⟨⟨old, ge⟩, gc, ne⟩ := st
    obtain ⟨xs, x, tup, hx⟩ := ask
    obtain ⟨us, rel, pt, szs⟩ := I.tuple tup
    obtain ⟨u, hu, ru⟩ := rel.get hx
    have le := Heap.lt_size ge
    have lc : c < s.heap.objs.size := by
      obtain ⟨_, q, _⟩ := gc
      exact Heap.lt_size q
    have nac : a ≠ c := by
      intro z
      obtain ⟨o1, e1, k1, _⟩ := gc
      obtain ⟨o2, e2, k2, _⟩ := pt
      rw [z, e1] at e2
      cases e2
      rw [k1] at k2
      exact absurd k2 (by decide)
    have nea : e ∉ [c, a] := by
      intro z
      simp only [List.mem_cons, List.not_mem_nil, or_false] at z
      rcases z with z | z
      · exact ne z
      · obtain ⟨o2, e2, k2, _⟩ := pt
        rw [← z, ge] at e2
        cases e2
        have k3 : Value.type "enumerate" = Value.type "tuple" := k2
        exact absurd k3 (by decide)
    have D := draws (prog := X.prog) (w := X.w) (A := X.A.in1) (I.ok.hd cl) c a nac us.toArray
    have lt : j < us.toArray.size := by
      have := (List.getElem?_eq_some_iff.mp hu).1
      simpa using this
    refine wpAny_pyNext_enum_itemD D ge ⟨gc, pt⟩ lt ne nea fun u' g tk hu' out st' pair _ kept => ?_
    have eu : u' = u := by
      have z : us.toArray[j]? = some u := by simpa using hu
      rw [z] at hu'
      exact (Option.some.inj hu').symm
    subst eu
    refine ⟨_, rfl, wpAny_letOwnedTupleGo_enum (s := { s with heap := g, toks := tk + 1 }) out fun g2 ge2 sb => ?_⟩
    have pair2 : g2.get? s.heap.objs.size = some { cls := .type "tuple", data := .seq #[.int j tk, u'] } := (sb.2 _ (Nat.ne_of_gt le)).trans pair
    have fresh : ObjOk X.prog X.w (upd H s.heap.objs.size (.tup [.int (j : Nat), x])) g2 s.heap.objs.size (.tup [.int (j : Nat), x]) :=
      ⟨(by show 2 ≤ sizeLine; decide), [.int j tk, u'], .cons ⟨_, rfl⟩ (.cons ru .nil), ⟨_, pair2, rfl, _, rfl⟩⟩
    have I2 : Inv X pins σ (upd H s.heap.objs.size (.tup [.int (j : Nat), x])) { s with heap := g2, toks := tk + 1 } := by
      refine I.turnedNew (ch := [e, c]) (fun b o nb q => ?_) free (Nat.le_refl _) fresh
      have n1 : b ≠ e := fun z => nb (by simp [z])
      have n2 : b ≠ c := fun z => nb (by simp [z])
      exact (sb.2 b n1).trans (kept b o n1 n2 q)
    refine ⟨.ref s.heap.objs.size, _, I2, rfl, ⟨_, x, rfl, I.hok.fresh (Nat.le_refl _), rfl, fun ys hy => ?_⟩, ⟨⟨u', ?_⟩, st'.1.at fun o q => (sb.2 c (Ne.symm ne)).trans q, ne⟩, fun b hb => ?_⟩
    · rw [I.tuple_inj hy tup]
      exact hx
    · have z : ((j + 1 : Nat) : Int) = (j : Int) + 1 := Int.natCast_succ j
      rw [z]
      exact ge2
    · have lb : b < s.heap.objs.size := by
        simp only [List.mem_cons, List.not_mem_nil, or_false] at hb
        rcases hb with rfl | rfl
        · exact le
        · exact lc
      rw [upd_ne (Nat.ne_of_lt lb)]
      exact (free b hb).1
  done := by
    intro X eP ew eK cl j pins s σ H E I free st ask
    subst eP ew eK
    obtain ⟨⟨old, ge⟩, gc, ne⟩ := st
    obtain ⟨xs, tup, hx⟩ := ask
    obtain ⟨us, rel, pt, szs⟩ := I.tuple tup
    obtain ⟨f0, f1, f2, f3, f4, f5⟩ := free c (by simp)
    have len := rel.length
    have hT : s.TypeIs (.ref e) "enumerate" := ⟨_, ge, rfl⟩
    have no : us.toArray[j]? = none := by
      simp
      omega
    unfold pyNext
    apply wpAny_bind
    apply wpAny_attempt
    apply wpAny_callSpecial?_slot (name := Str.ofString "__next__") hT PySem.F.slot_enumerate_next
    refine wpAny_call_entry PySem.F.slot_enumerate_next hT PySem.F.entry_enumerate_next ?_ (PySem.F.args_enumerate_next_1 _)
    show wpAny _ _ (field (.ref e) 2 >>= _) _ _ s
    apply wpAny_bind
    apply wpAny_field ge rfl (x := .ref c) rfl
    apply wpAny_bind
    refine last (I.ok.hd cl) gc pt no fun g x ext cls => ?_
    obtain ⟨o, eo, ko⟩ := cls
    apply wpAny_bind
    refine wpAny_isInstance (T := "StopIteration") (b := true) ⟨o, eo, ko⟩ isSubtype_stop ?_
    exact wpAny_pure ⟨rfl, I.turned (t' := s.toks) (fun b o hb q => ext b o hb q) f0 f1 f3 f4 f5⟩
  self := by
    intro A j s Q E st h
    obtain ⟨⟨_, ge⟩, _⟩ := st
    exact wpAny_pyIter_enum ge h
def iT (K : PySem.W.Frag) (ta : TA) : TI := fun σ H R => ta σ H fun vs H1 => ∃ a xs, vs = [.ref a] ∧ SqT K H1 a xs ∧ R (ItT K a) H1
theorem pi {X : Cx} {e : Expr} {ta : TA} {p pos tpos : Pos} {elts : List Expr} {kk : Nat} (hg : Gl X "enumerate") (hm : X.mg "enumerate" = none) (ha : PA X [e] ta) (one : starEach [e] X.env = [(false, eval e X.env)] := by rfl) :
    PI X (.Tuple elts kk tpos) (.Call (.Name "enumerate" p) [e] [] pos) (iT X.K ta) := by
  constructor
  intro pins s σ H R I ask
  refine Call_ (ld_blt I hg hm boot_enumerate ?_)
  refine PyProof.Rows.callWith_type1 (thn (ha.run pos pins s σ H _ I ask) ?_) one rfl
  rintro us s1 ⟨vs, H1, I1, rel, a, xs, rfl, tup, q⟩
  cases rel with
  | cons r rest =>
    cases rest
    cases r
    obtain ⟨ws, rv, pt, sz⟩ := I1.tuple tup
    refine made pt fun g isE isT kept => wpAny_pyIter_enum isE ?_
    have I2 : Inv X pins σ H1 { s1 with heap := g } := I1.kept (t' := s1.toks) kept
    refine ⟨s1.heap.objs.size + 1, [s1.heap.objs.size + 1, s1.heap.objs.size], _, _, H1, rfl, I2, turns a (s1.heap.objs.size + 1) s1.heap.objs.size, ⟨⟨.none, isE⟩, isT, Nat.succ_ne_self _⟩, fun b hb => ?_, q⟩
    have lb : s1.heap.objs.size ≤ b := by
      simp only [List.mem_cons, List.not_mem_nil, or_false] at hb
      rcases hb with rfl | rfl
      · exact Nat.le_add_right _ 1
      · exact Nat.le_refl _
    exact I1.fpOk lb (I1.hok.fresh lb)
end ET
set_option maxHeartbeats 8000000
namespace G1
open PySem PySem.Spec PyProof.Rows L2 JN
/-! ### the same over a tuple of pieces -/
structure LotT (K : PySem.W.Frag) (H : Hp) (a : Addr) (ps ls : List Pc) : Prop where
  ex : ∃ as : List Addr, SqT K H a (as.map V.ref) ∧ PcsAt K H ps as
  lot : Lot ps ls
  few : ps.length ≤ 1000
  sz : ∀ p ∈ ps, PSz 500 p
theorem LotT.sz8 {K : PySem.W.Frag} {H : Hp} {a : Addr} {ps ls : List Pc} (h : LotT K H a ps ls) : ∀ p ∈ ps, PSz 8000 p := fun p hp => ⟨(h.sz p hp).1.mono (by decide), (h.sz p hp).2.mono (by decide)⟩
theorem LotT.on {K : PySem.W.Frag} {H H' : Hp} {a : Addr} {ps ls : List Pc} (h : LotT K H a ps ls) (s : Same H H') : LotT K H' a ps ls := by
  obtain ⟨as, h1, h2⟩ := h.ex
  exact ⟨⟨as, sqt_on h1 s, pcs_on s h2⟩, h.lot, h.few, h.sz⟩
theorem walk_enumT {K : PySem.W.Frag} {a : Addr} {xs : List V} : Walk (ET.ItT K a) xs.length (fun H => SqT K H a xs) (YPair (fun i => some (.int (i : Nat))) (fun i => xs[i]?)) := by
  refine ⟨?_, ?_, ?_⟩
  · intro i H hi q
    exact ⟨xs, xs[i], q, by simp [hi]⟩
  · intro H q
    exact ⟨xs, q, Nat.le_refl _⟩
  · rintro i H v H' hi q ⟨pr, x, k1, k2, k3, k4⟩
    exact ⟨pr, .int (i : Nat), x, k1, k2, k3, rfl, k4 xs q⟩
def spCheckPsT (K : PySem.W.Frag) : Sp := fun vs H Q _ => ∃ (a : Addr) (ps ls : List Pc), vs = [.ref a] ∧ LotT K H a ps ls ∧ ∀ H', Same H H' → Q .non H'
section
variable {P : Program} {w : World} {K : PySem.W.Frag} {mg : Str → Option Value} {base : Heap}
theorem cl_checkpsT (D : DefAt K mg "_check_pieces" sCheckPieces) (T : Blt mg) (cP : Cl CX0 P w K mg base 3 "_is_piece" ["thing"] (spIsPiece K)) (cO : Cl CX0 P w K mg base 2 "_overlap" ["piece", "other"] (spOverlap K)) : Cl CX0 P w K mg base 4 "_check_pieces" ["things"] (spCheckPsT K) := by
  obtain ⟨f, fd, F, hm⟩ := D
  refine cl_of F hm (F.ok scCheckPieces (fun vs H Q E h => ?_) (fun cdv A outer s H vs Q E hr h => ⟨_, PSs.nox (pss_cons
      (ps_if (pt_not (pt_val (pe_callB call_isiT (by rfl) T.isin (by decide +kernel) (pa_cons (pv 0) (pa_cons (pe_tup (pa_cons (pe_bltn (v := .ty "list") (by rfl) T.list (by decide +kernel) rfl) (pa_cons (pe_bltn (v := .ty "tuple") (by rfl) T.tuple (by decide +kernel) rfl) pa_nil))) pa_nil)))))
        (pss_one ps_never) pss_nil)
      (pss_cons (ps_for PassesOwn.never rfl (ET.pi (by rfl) T.enum (pa_cons (pv 0) pa_nil)) (pg_tup (by rfl) (pgs_cons (pg_name (i := 1) scCheckPieces.nd rfl (Or.inl rfl)) (pgs_cons (pg_name (i := 2) scCheckPieces.nd rfl (Or.inl rfl)) pgs_nil)))
        (pss_one (ps_if (pt_not (pt_val (pe_c0 cP hr (by decide) (by rfl) (pa_cons (pv 2) pa_nil)))) (pss_one ps_never) pss_nil)))
      (pss_one (ps_for PassesOwn.never rfl (pi_range1 (by rfl) T.range (pa_cons (pe_callB call_len_seq (by rfl) T.len PySem.boot_len (pa_cons (pv 0) pa_nil)) pa_nil)) (pg_name (i := 3) scCheckPieces.nd rfl (Or.inl rfl))
        (pss_one (ps_for PassesOwn.never rfl (pi_range1 (by rfl) T.range (pa_cons (pv 3) pa_nil)) (pg_name (i := 4) scCheckPieces.nd rfl (Or.inl rfl))
          (pss_one (ps_if (pt_val (pe_c0 cO hr (by decide) (by rfl) (pa_cons (pe_ix ix_tup (pv 0) (pv 4) (fun _ _ => rfl)) (pa_cons (pe_ix ix_tup (pv 0) (pv 3) (fun _ _ => rfl)) pa_nil)))) (pss_one ps_never) pss_nil)))))))), ?_⟩)) fun _ _ _ _ _ _ us hl => match us, hl with | [_], _ => rfl
  · obtain ⟨a, ps, ls, rfl, _⟩ := h
    rfl
  · obtain ⟨a, ps, ls, rfl, L, q⟩ := h
    obtain ⟨as, hS, hP⟩ := L.ex
    have hlen : ps.length = as.length := Paired.length hP
    have few := L.few
    refine ⟨_, rfl, (by show 2 ≤ sizeLine; decide), fun t nt => ?_⟩
    obtain ⟨H1, e1, S1, f1⟩ := mk_s (.tup [.ty "list", .ty "tuple"]) nt
    rw [e1]
    refine ⟨_, t, _, _, [.type "list", .type "tuple"], true, rfl, f1, .cons (.ty "list") (.cons (.ty "tuple") .nil), ty_tup (sqt_on hS S1), kitAny_cons (kit_ty (r := false) (by decide +kernel)) (fun _ => kitAny_cons (kit_ty (r := true) (by decide +kernel)) (fun z => by cases z) (fun _ => rfl)) (fun z => by cases z), _, rfl, ?_⟩
    refine iteF ?_
    refine ⟨_, rfl, a, _, rfl, sqt_on hS S1, ?_⟩
    refine for_it (walk_enumT (K := K) (a := a) (xs := as.map V.ref)) (fun i σ G => ∃ v1 v2 : Option V, σ = [some (.ref a), v1, v2, none, none] ∧ Same H G) ⟨none, none, rfl, S1⟩ (fun i σ G _ h => ?_) ?_ ?_
    · obtain ⟨_, _, _, s⟩ := h
      exact sqt_on hS s
    · rintro i v σ G G' hi ⟨v1, v2, rfl, sG⟩ ⟨T2, x, y, rfl, nT, rfl, hx, hy⟩
      obtain ⟨b, hb, rfl⟩ := get_map hy
      obtain ⟨p, hp, rp⟩ := pc_get hP hb
      obtain ⟨G2, e2, S2, f2⟩ := mk_s (.tup [x, V.ref b]) nT
      rw [e2]
      have s2 := sG.trans S2
      refine ⟨T2, _, rfl, SqT.of f2, rfl, x, _, rfl, .ref b, [], rfl, rfl, ?_⟩
      refine ⟨_, rfl, b, p, rfl, rp.on s2, L.lot.ok p (List.mem_of_getElem? hp), L.sz8 p (List.mem_of_getElem? hp), fun G3 S3 => ⟨_, rfl, iteF ?_⟩⟩
      exact ⟨_, _, rfl, s2.trans S3⟩
    · rintro σ G ⟨v1, v2, rfl, sG⟩
      refine ⟨_, rfl, a, _, rfl, .inr (sqt_on hS sG), as.length, ?_, by omega, by omega, ?_⟩
      · rw [List.length_map]
      refine for_range (lo := 0) (n := ((as.length : Nat) : Int).toNat) (fun j σ G => ∃ v3 v4 : Option V, σ = [some (.ref a), v1, v2, v3, v4] ∧ Same H G) ⟨none, none, rfl, sG⟩ ?_ ?_
      · rintro j σ G2 hj ⟨v3, v4, rfl, s2⟩
        have hj2 : j < as.length := by omega
        refine ⟨_, rfl, (0 + (j : Int)), rfl, by omega, by omega, ?_⟩
        refine for_range (lo := 0) (n := (0 + (j : Int)).toNat) (fun i σ G => ∃ v4 : Option V, σ = [some (.ref a), v1, v2, some (.int (0 + (j : Int))), v4] ∧ Same H G) ⟨v4, rfl, s2⟩ ?_ ?_
        · rintro i σ G3 hi ⟨v4', rfl, s3⟩
          have hi2 : i < j := by omega
          have gi : (as.map V.ref)[i]? = some (.ref as[i]) := by simp [show i < as.length by omega]
          have gj : (as.map V.ref)[j]? = some (.ref as[j]) := by simp [hj2]
          obtain ⟨p, hp, rp⟩ := pc_get hP (List.getElem?_eq_getElem (show i < as.length by omega))
          obtain ⟨p2, hp2, rp2⟩ := pc_get hP (List.getElem?_eq_getElem hj2)
          have apart : ¬ (p.lo < p2.hi ∧ p2.lo < p.hi) := by
            have h1 := List.pairwise_iff_getElem.mp L.lot.apart i j (by omega) (by omega) hi2
            rw [(List.getElem?_eq_some_iff.mp hp).2, (List.getElem?_eq_some_iff.mp hp2).2] at h1
            exact h1
          refine ⟨_, rfl, _, rfl, a, _, _, _, rfl, rfl, sqt_on hS s3, at_of (j := i) (by omega) gi, ?_⟩
          refine ⟨_, rfl, _, rfl, a, _, _, _, rfl, rfl, sqt_on hS s3, at_of (j := j) (by omega) gj, ?_⟩
          refine ⟨_, _, p, p2, rfl, rp.on s3, rp2.on s3, L.sz8 p (List.mem_of_getElem? hp), L.sz8 p2 (List.mem_of_getElem? hp2), _, rfl, ?_⟩
          rw [decide_eq_false apart]
          exact iteF ⟨_, rfl, s3⟩
        · rintro σ G3 ⟨v4', rfl, s3⟩
          exact ⟨_, _, rfl, s3⟩
      · rintro σ G2 ⟨v3, v4, rfl, s2⟩
        exact q G2 s2
end
end G1
set_option maxHeartbeats 8000000
namespace G1
open PySem PySem.Spec PyProof.Rows L2 JN
def spAscendT (K : PySem.W.Frag) : Sp := fun vs H Q _ => ∃ (a : Addr) (ps ls : List Pc), vs = [.ref a] ∧ LotT K H a ps ls ∧
  ∀ t H' (bs : List Addr), Same H H' → SqT K H' t (bs.map V.ref) → PcsAt K H' ls bs → Q (.ref t) H'
section
variable {P : Program} {w : World} {K : PySem.W.Frag} {mg : Str → Option Value} {base : Heap}
theorem cl_ascendingT (D : DefAt K mg "_ascending" sAscending) (T : Blt mg) (cB : Cl CX0 P w K mg base 1 "is_below" ["x", "y"] (spLess K)) : Cl CX0 P w K mg base 2 "_ascending" ["pieces"] (spAscendT K) := by
  obtain ⟨f, fd, F, hm⟩ := D
  refine cl_of F hm (F.ok scAscending (fun vs H Q E h => ?_) (fun cdv A outer s H vs Q E hr h => ⟨_, PSs.nox (pss_cons
      (ps_set (i := 1) scAscending.nd rfl (Or.inl rfl) (pe_op op_rep (pe_lst (pa_cons pe_non pa_nil)) (pe_callB call_len_seq (by rfl) T.len PySem.boot_len (pa_cons (pv 0) pa_nil))))
      (pss_cons (ps_for PassesOwn.never rfl (pi_tup (pv 0)) (pg_name (i := 2) scAscending.nd rfl (Or.inr rfl))
        (pss_one (ps_asg (pv 2) (pg_sub (pv 1) (pe_callB call_len_seq (by rfl) T.len PySem.boot_len (pa_cons
          (pe_lc (own := [("other", 3)]) (g := gName 3) (tt := tB (tCall (spLess K) [] E0 (tCons (tOp (rIxT K) (tVar 3) (tC (.int 0))) (tCons (tOp (rIxT K) (tVar 2) (tC (.int 0))) tNil)))) (te := tC (.int 1)) (by rfl) scAscending.nd (pi_tup (pv 0)) (blkOk_by (N := ["pieces", "rows", "piece", "other"]) (sc := defScope sAscending) (by decide +kernel))
            (fun _ _ _ _ _ => pg_name (i := 3) scAscending.nd rfl (Or.inl rfl))
            (fun _ _ _ _ _ => pts_one (pt_val (pe_c0 cB hr (by decide) (by rfl) (pa_cons (pe_ix ix_tup (pv 3) pe_int (fun _ _ => rfl)) (pa_cons (pe_ix ix_tup (pv 2) pe_int (fun _ _ => rfl)) pa_nil)))))
            (fun _ _ _ _ _ => pe_int)) pa_nil)) set_list))))
      (pss_one (ps_ret (pe_callTy call_tuple_of (by rfl) T.tuple (by decide +kernel) (pa_cons (pv 1) pa_nil)))))), ?_⟩)) fun _ _ _ _ _ _ us hl => match us, hl with | [_], _ => rfl
  · obtain ⟨a, ps, ls, rfl, _⟩ := h
    rfl
  · obtain ⟨a, ps, ls, rfl, L, q⟩ := h
    obtain ⟨as, hS, hP⟩ := L.ex
    have hlen : ps.length = as.length := Paired.length hP
    have few := L.few
    refine ⟨(by show 1 ≤ sizeLine; decide), fun l0 n0 => ?_⟩
    obtain ⟨H0, e0, S0, f0⟩ := mk_s (.lst [.non]) n0
    rw [e0]
    refine ⟨_, rfl, a, _, rfl, .inr (sqt_on hS S0), l0, ((as.map V.ref).length : Int), [.non], rfl, rfl, f0, by omega, by rw [List.length_map]; omega, ?_, fun r nr => ?_⟩
    · rw [sizeLine_eq]
      simp
      omega
    obtain ⟨rows0, er⟩ : ∃ r : List V, (List.replicate (((as.map V.ref).length : Int)).toNat [V.non]).flatten = r := ⟨_, rfl⟩
    rw [er]
    have rlen : rows0.length = as.length := by
      rw [← er]
      simp
    obtain ⟨H1, e1, S1, f1⟩ := mk_s (.lst rows0) nr
    rw [e1]
    have nrH : H r = none := S0.free nr
    have s1 := S0.trans S1
    refine gn1 (σ' := [some (.ref a), some (.ref r), none, none]) rfl ?_
    refine ⟨_, rfl, a, rfl, ⟨_, sqt_on hS s1⟩, for_tup (xs := as.map V.ref) (fun i σ G => ∃ (v : Option V) (rows : List V), σ = [some (.ref a), some (.ref r), v, none] ∧ Same H G ∧ G r = some (.lst rows) ∧ rows.length = ps.length ∧
      ∀ (m : Nat) p b, m < i → ps[m]? = some p → as[m]? = some b → rows[rank ps p]? = some (.ref b)) ⟨none, rows0, rfl, s1, f1, by omega, fun m p b z => absurd z (Nat.not_lt_zero _)⟩ (fun i σ G _ h => ?_) ?_ ?_⟩
    · obtain ⟨_, _, _, s, _⟩ := h
      exact sqt_on hS s
    · rintro i v σ G hv ⟨v2, rows, rfl, sG, fr, len, ask⟩
      obtain ⟨b, hb, rfl⟩ := get_map hv
      obtain ⟨p, hp, rp⟩ := pc_get hP hb
      refine gn1 (σ' := [some (.ref a), some (.ref r), some (.ref b), none]) rfl ?_
      refine ⟨_, rfl, _, rfl, _, rfl, a, rfl, ⟨_, sqt_on hS sG⟩, fun D nD => ?_⟩
      have nDH : H D = none := sG.free nD
      have nrD : r ≠ D := ne_of_none fr nD
      obtain ⟨l1, h1, eb, rl, rh⟩ := rp
      refine lc_tup (K := K) (a := a) (xs := as.map V.ref) (fun j G2 => Same H G2 ∧ G2 r = some (.lst rows) ∧ G2 D = some (.lst (List.replicate (rank (ps.take j) p) (.int 1)))) ⟨same_at nDH sG, (upd_ne nrD).trans fr, upd_same⟩ (fun j G2 _ h => sqt_on hS h.1) ?_ ?_
      · rintro j u G2 hu ⟨s2, r2, d2⟩
        obtain ⟨b2, hb2, rfl⟩ := get_map hu
        obtain ⟨o, ho, ⟨l2, h2, eb2, rl2, rh2⟩⟩ := pc_get hP hb2
        refine ⟨rfl, ?_⟩
        refine ⟨_, rfl, b2, _, _, _, rfl, rfl, sqt_on eb2 s2, rfl, _, rfl, b, _, _, _, rfl, rfl, sqt_on eb s2, rfl, l2, l1, o.lo, p.lo, rfl, rl2.on s2, rl.on s2, (L.sz8 o (List.mem_of_getElem? ho)).1, (L.sz8 p (List.mem_of_getElem? hp)).1, _, rfl, ?_⟩
        have rn := rank_next (p := p) ho
        by_cases c : o.lo < p.lo
        · rw [decide_eq_true c]
          rw [if_pos c] at rn
          refine iteT ⟨_, d2, ?_, same_at nDH s2, (upd_ne nrD).trans r2, ?_⟩
          · have := rank_le (ps.take j) p
            rw [List.length_take] at this
            rw [List.length_replicate, sizeLine_eq]
            omega
          · rw [upd_same, rn, List.replicate_succ']
        · rw [decide_eq_false c]
          rw [if_neg c] at rn
          refine iteF ⟨s2, r2, ?_⟩
          rw [rn]
          exact d2
      · rintro G2 ⟨s2, r2, d2⟩
        have ek : (List.replicate (rank (ps.take (as.map V.ref).length) p) (V.int 1)).length = rank ps p := by
          rw [List.length_replicate, List.length_map, ← hlen, List.take_length]
        have rk : rank ps p < rows.length := by
          have e2 := rank_perm L.lot.perm p
          obtain ⟨k, hk⟩ := List.getElem?_of_mem (L.lot.perm.mem_iff.mp (List.mem_of_getElem? hp))
          have e3 := rank_at L.lot.row.los k p hk
          have e4 := L.lot.perm.length_eq
          have := (List.getElem?_eq_some_iff.mp hk).1
          omega
        refine ⟨D, _, rfl, .inl (SqL.of d2), r, rows, _, rank ps p, rfl, rfl, r2, ?_, ?_⟩
        · rw [ek]
          exact Evl.ixN_nat rk
        refine ⟨_, _, rfl, same_at nrH s2, upd_same, by rw [List.length_set]; exact len, fun m p2 b3 hm hp2 hb3 => ?_⟩
        by_cases em : m = i
        · subst em
          rw [hp] at hp2
          cases hp2
          rw [hb] at hb3
          cases hb3
          rw [List.getElem?_set, if_pos rfl, if_pos rk]
        · have hm2 : m < i := by omega
          have old := ask m p2 b3 hm2 hp2 hb3
          have ne : rank ps p ≠ rank ps p2 := by
            intro z
            obtain ⟨k1, hk1⟩ := List.getElem?_of_mem (L.lot.perm.mem_iff.mp (List.mem_of_getElem? hp))
            obtain ⟨k2, hk2⟩ := List.getElem?_of_mem (L.lot.perm.mem_iff.mp (List.mem_of_getElem? hp2))
            have a1 := rank_at L.lot.row.los k1 p hk1
            have a2 := rank_at L.lot.row.los k2 p2 hk2
            rw [rank_perm L.lot.perm, rank_perm L.lot.perm] at z
            have ek2 : k1 = k2 := by omega
            rw [ek2, hk2] at hk1
            cases hk1
            have dd := List.pairwise_iff_getElem.mp L.lot.apart m i (List.getElem?_eq_some_iff.mp hp2).1 (List.getElem?_eq_some_iff.mp hp).1 hm2
            rw [(List.getElem?_eq_some_iff.mp hp2).2, (List.getElem?_eq_some_iff.mp hp).2] at dd
            have := (L.lot.ok p (List.mem_of_getElem? hp)).lt
            exact dd ⟨this, this⟩
          rw [List.getElem?_set, if_neg ne]
          exact old
    · rintro σ G ⟨v2, rows, rfl, sG, fr, len, ask⟩
      have ask2 : ∀ (m : Nat) p b, ps[m]? = some p → as[m]? = some b → rows[rank ps p]? = some (.ref b) := fun m p b h1 h2 => ask m p b (by rw [List.length_map]; exact (List.getElem?_eq_some_iff.mp h2).1) h1 h2
      obtain ⟨bs, eb, pr⟩ := ranked L.lot (by omega) (by omega) ask2
      refine ⟨_, rfl, r, rows, rfl, .inl ⟨SqL.of fr, fun t nt => ?_⟩⟩
      obtain ⟨G2, e2, S2, f2⟩ := mk_s (.tup rows) nt
      rw [e2]
      refine q t G2 bs (sG.trans S2) (SqT.of ?_) (pr _ (pcs_on (sG.trans S2) hP))
      rw [← eb]
      exact f2
end
end G1
set_option maxHeartbeats 8000000
namespace G1
open PySem PySem.Spec PyProof.Rows L2 JN
def spInitJT (K : PySem.W.Frag) (C : Addr) : Sp := fun vs H Q _ => ∃ (a dx l : Addr) (G : Hp) (ps ls : List Pc), vs = [.ref a, .ref l] ∧ H a = some (.ins C dx []) ∧ Same G H ∧ G a = none ∧ LotT K G l ps ls ∧
  ∀ H', Same G H' → JoinAt K C H' a ls → Q .non H'
section
variable {P : Program} {w : World} {K : PySem.W.Frag} {mg : Str → Option Value} {base : Heap} {C : Addr}
theorem ok_joinitT {fI : Addr} {fd : FuncData} {dvs : List V} (F : FunD K "__init__" "Joining.__init__" (defArgs mJoiningInit) (defBody mJoiningInit) (defScope mJoiningInit) dvs [] fI fd) (T : JoinTxt K mg C)
    (cC : Cl CX0 P w K mg base 4 "_check_pieces" ["things"] (spCheckPsT K)) (cA : Cl CX0 P w K mg base 2 "_ascending" ["pieces"] (spAscendT K)) (cS : Cl CX0 P w K mg base 1 "_shape_of" ["pieces"] (spShape K)) :
    FnOk P w K mg base CX0 5 fI fd ["self", "pieces"] (spInitJT K C) := by
  refine F.ok scJoinit (fun vs H Q E h => ?_) (fun cdv A outer s H vs Q E hr h => ⟨_, PSs.nox (pss_cons
      (ps_expr (pe_c0 cC hr (by decide) (by rfl) (pa_cons (pv 1) pa_nil)))
      (pss_cons (ps_fld (pv 0) (pe_c0 cA hr (by decide) (by rfl) (pa_cons (pv 1) pa_nil)) rfl)
      (pss_one (ps_fld (pv 0) (pe_c0 cS hr (by decide) (by rfl) (pa_cons (pe_fld (pv 0) rfl) pa_nil)) rfl)))), ?_⟩)
  · obtain ⟨a, dx, l, G, ps, ls, rfl, _⟩ := h
    rfl
  · obtain ⟨a, dx, l, G, ps, ls, rfl, ha, sG, nA, L, q⟩ := h
    have few : ls.length ≤ 1000 := by
      have := L.lot.perm.length_eq
      have := L.few
      omega
    have szs : ∀ p ∈ ls, PSz 500 p := fun p hp => L.sz p (L.lot.perm.mem_iff.mpr hp)
    refine ⟨_, rfl, l, ps, ls, rfl, L.on sG, fun H1 s1 => ?_⟩
    have sG1 := sG.trans s1
    refine ⟨_, rfl, l, ps, ls, rfl, L.on sG1, fun t H2 bs s2 ht hb => ?_⟩
    have sG2 := sG1.trans s2
    have a2 : H2 a = some (.ins C dx []) := s2 _ _ (s1 _ _ ha)
    refine ⟨_, rfl, a, C, dx, _, rfl, a2, T.cl, T.nP, (by decide), ?_⟩
    obtain ⟨H3, e3, s3, f3⟩ : ∃ H3, upd H2 a (.ins C dx (putF "pieces" (.ref t) [])) = H3 ∧ Same G H3 ∧ H3 a = some (.ins C dx [("pieces", .ref t)]) := ⟨_, rfl, same_at nA sG2, upd_same⟩
    have ht3 : SqT K H3 t (bs.map V.ref) := by
      rw [← e3]
      exact sqt_ins ht a2
    have hb3 : PcsAt K H3 ls bs := by
      rw [← e3]
      exact paired_imp (fun _ _ z => pc_ins z a2) hb
    rw [e3]
    refine ⟨_, rfl, a, C, dx, _, _, rfl, f3, T.cl, T.nP, rfl, t, ls, bs, rfl, ht3, hb3, few, fun r H4 s4 hs => ?_⟩
    have a4 := s4 _ _ f3
    refine ⟨_, rfl, a, C, dx, _, rfl, a4, T.cl, T.nS, (by show 1 < 1000; decide), ?_⟩
    refine q _ (same_at nA (s3.trans s4)) ⟨⟨dx, t, r, bs, upd_same, sqt_ins (sqt_on ht3 s4) a4, paired_imp (fun _ _ z => pc_ins z a4) (pcs_on s4 hb3), sqt_ins hs a4⟩, L.lot.row, few, szs⟩
/-- the class as it is called: with a list, with a tuple, by name, with nothing -/
structure MakerT (P : Program) (w : World) (K : PySem.W.Frag) (mg : Str → Option Value) (base : Heap) (C : Addr) : Prop where
  ex : ∃ (fI : Addr) (fd : FuncData) (e0 : Addr) (d1 its : List Value), Mk K C fI ∧ FnOk P w K mg base CX0 5 fI fd ["self", "pieces"] (spInitJ K C) ∧ FnOk P w K mg base CX0 5 fI fd ["self", "pieces"] (spInitJT K C) ∧ (∀ H, SqT K H e0 []) ∧
    Binds K fd ["self", "pieces"] [] ∧ Binds K fd ["self", "pieces"] d1 ∧ Vals [.ref e0] d1 ∧ KBn K fd ["self", "pieces"] 1 ["pieces"] (fun us ws => us ++ ws) (fun vs zs => vs ++ zs)
theorem vals_app {vs zs : List V} {us ws : List Value} (a : Vals vs us) (b : Vals zs ws) : Vals (vs ++ zs) (us ++ ws) := Vals.append a b
theorem makerT (T : JoinTxt K mg C) (cC : Cl CX0 P w K mg base 4 "_check_pieces" ["things"] (spCheckPs K)) (cA : Cl CX0 P w K mg base 2 "_ascending" ["pieces"] (spAscend K)) (cC' : Cl CX0 P w K mg base 4 "_check_pieces" ["things"] (spCheckPsT K)) (cA' : Cl CX0 P w K mg base 2 "_ascending" ["pieces"] (spAscendT K))
    (cS : Cl CX0 P w K mg base 1 "_shape_of" ["pieces"] (spShape K)) : MakerT P w K mg base C := by
  obtain ⟨fI, fd, e0, M, F, h0⟩ := T.ini
  obtain ⟨d0, v0, b0⟩ := F.binds1 (ps := ["self", "pieces"]) 2 1 (by simp) rfl fun T kV doc pm an cdv ct us its hu hi => match us, its, hu, hi with | [_, _], [_], _, _ => ⟨_, rfl, rfl⟩
  obtain ⟨d1, v1, b1⟩ := F.binds1 (ps := ["self", "pieces"]) 1 0 (by simp) rfl fun T kV doc pm an cdv ct us its hu hi => match us, its, hu, hi with | [_], [_], _, _ => ⟨_, rfl, rfl⟩
  obtain ⟨its, kb⟩ := F.kbindsD (ps := ["self", "pieces"]) 1 ["pieces"] (fun vs _ zs => vs ++ zs) (by simp) (fun a _ b => vals_app a b) fun T kV doc pm an cdv ct us its ws hu hi hw => match us, its, ws, hu, hi, hw with | [_], [_], [_], _, _, _ => ⟨_, rfl, rfl⟩
  cases v0
  exact ⟨fI, fd, e0, d1, its, M, ok_joinit F T cC cA cS, ok_joinitT F T cC' cA' cS, h0, b0, b1, v1, kb⟩
end
end G1
set_option maxHeartbeats 4000000
/-! lists of pieces as data, rows that come of a row -/
namespace JN
open PySem PySem.Spec PyProof.Rows L2 G1
abbrev dPcsL (ps : List Pc) : PyData := .list (ps.map dPc)
theorem pcsL_shp (ps : List Pc) : SeqAt.shaped (dPcsL ps) = true := by
  obtain ⟨h1, h2⟩ := pcs_all ps
  unfold SeqAt.shaped
  simp [PyData.canLay0, PyData.depth, h1]
  omega
theorem pcsL_eqv (ps qs : List Pc) : PyData.eqv (dPcsL ps) (dPcsL qs) = decide (ps = qs) := by
  have a : PyData.eqv (dPcsL ps) (dPcsL qs) = PyData.eqvAll (ps.map dPc) (qs.map dPc) := by simp [PyData.eqv]
  have b : PyData.eqv (dPcs ps) (dPcs qs) = PyData.eqvAll (ps.map dPc) (qs.map dPc) := by simp [PyData.eqv]
  rw [a, ← b]
  exact pcs_eqv ps qs
theorem Row.tail {ls : List Pc} (h : Row ls) : Row (ls.drop 1) :=
  ⟨fun p hp => h.ok p (List.mem_of_mem_drop hp), h.up.sublist (List.drop_sublist 1 ls)⟩
/-- all pieces made sums -/
def sumsOf (ls : List Pc) : List Pc := ls.map fun p => ⟨p.lo, p.hi, true⟩
theorem Row.sums {ls : List Pc} (h : Row ls) : Row (sumsOf ls) := by
  refine ⟨fun p hp => ?_, List.pairwise_map.mpr (h.up.imp fun z => z)⟩
  obtain ⟨q, hq, rfl⟩ := List.mem_map.mp hp
  have o := h.ok q hq
  exact ⟨o.low, o.lt, o.high⟩
/-- the first piece cut at m -/
theorem Row.cutL {p : Pc} {rest : List Pc} {m : Rat} (h : Row (p :: rest)) (a : p.lo < m) (b : m < p.hi) : Row (⟨p.lo, m, p.k⟩ :: rest) := by
  obtain ⟨h1, h2⟩ := List.pairwise_cons.mp h.up
  have o := h.ok p List.mem_cons_self
  have o1 := o.low
  have o2 := o.high
  refine ⟨fun q hq => ?_, List.pairwise_cons.mpr ⟨fun q hq => ?_, h2⟩⟩
  · rcases List.mem_cons.mp hq with rfl | hq
    · exact ⟨o1, a, by grind⟩
    · exact h.ok q (List.mem_cons_of_mem _ hq)
  · have := h1 q hq
    show m ≤ q.lo
    grind
theorem Row.cutR {p : Pc} {rest : List Pc} {m : Rat} (h : Row (p :: rest)) (a : p.lo < m) (b : m < p.hi) : Row (⟨m, p.hi, p.k⟩ :: rest) := by
  obtain ⟨h1, h2⟩ := List.pairwise_cons.mp h.up
  have o := h.ok p List.mem_cons_self
  have o1 := o.low
  have o2 := o.high
  refine ⟨fun q hq => ?_, List.pairwise_cons.mpr ⟨fun q hq => h1 q hq, h2⟩⟩
  rcases List.mem_cons.mp hq with rfl | hq
  · exact ⟨by grind, b, o2⟩
  · exact h.ok q (List.mem_cons_of_mem _ hq)
/-- halfway -/
theorem mid_eq (x y : Rat) : Rat.divInt (x.num * (y.den : Int) + y.num * (x.den : Int)) (2 * (x.den : Int) * (y.den : Int)) = (x + y) / 2 := by
  rw [← add_div x y]
  obtain ⟨a, ha⟩ : ∃ a : Int, x.num * (y.den : Int) + y.num * (x.den : Int) = a := ⟨_, rfl⟩
  obtain ⟨b, hb⟩ : ∃ b : Int, (x.den : Int) * (y.den : Int) = b := ⟨_, rfl⟩
  have b0 : 0 < b := by
    rw [← hb]
    exact Int.mul_pos (den_pos x) (den_pos y)
  rw [Int.mul_assoc, ha, hb, Rat.divInt_eq_div, Rat.divInt_eq_div]
  have bq : (0 : Rat) < (b : Rat) := by exact_mod_cast b0
  have e : ((2 * b : Int) : Rat) = 2 * (b : Rat) := by push_cast; rfl
  rw [e]
  have h1 : (a : Rat) / (b : Rat) * (b : Rat) = (a : Rat) := Rat.div_mul_cancel (by grind)
  have h2 : (a : Rat) / (2 * (b : Rat)) * (2 * (b : Rat)) = (a : Rat) := Rat.div_mul_cancel (by grind)
  obtain ⟨q, hq⟩ : ∃ q, (a : Rat) / (b : Rat) = q := ⟨_, rfl⟩
  obtain ⟨r, hr⟩ : ∃ r, (a : Rat) / (2 * (b : Rat)) = r := ⟨_, rfl⟩
  rw [hq] at h1
  rw [hr] at h2
  rw [hq, hr]
  grind
theorem mid_in {x y : Rat} (h : x < y) : x < (x + y) / 2 ∧ (x + y) / 2 < y := by
  have h2 : (x + y) / 2 * 2 = x + y := Rat.div_mul_cancel (by decide)
  obtain ⟨q, hq⟩ : ∃ q, (x + y) / 2 = q := ⟨_, rfl⟩
  rw [hq] at h2 ⊢
  constructor <;> grind
end JN
set_option maxHeartbeats 16000000
namespace G1
open PySem PySem.Spec PyProof.Rows L2 JN OW
structure RightP (p : Addr) (c : Int) (H : Hp) (Q : VK) : Prop where
  at_ : PurseAt H p c
  lo : c < 2 ^ 37
  fin : ∀ (c' : Int) (H' : Hp), c' ≤ c + 200 → PurseAt H' p c' → But p H H' → Q (.bl true) H'
def spRight : Sp := fun vs H Q _ => ∃ (p : Addr) (c : Int), vs = [.ref p] ∧ RightP p c H Q
theorem cutA (xs : List V) : cutV xs (some 1) none = xs.drop 1 := by
  cases xs with
  | nil =>
    unfold cutV
    simp
  | cons x r => exact cut_from _ 1 (by simp)
theorem cutB (xs : List V) : cutV xs none (some 1) = xs.take 1 := by
  cases xs with
  | nil =>
    unfold cutV
    simp
  | cons x r => exact cut_to _ 1 (by simp)
theorem JoinAt.but {K : PySem.W.Frag} {C : Addr} {G G' : Hp} {a D : Addr} {ls : List Pc} {ys : List V} (J : JoinAt K C G a ls) (d : G D = some (.lst ys)) (s : But D G G') : JoinAt K C G' a ls := by
  obtain ⟨dx, q, r, bs, h1, h2, h3, h4⟩ := J.ex
  have ne : a ≠ D := by
    intro z
    rw [z, d] at h1
    cases h1
  exact ⟨⟨dx, q, r, bs, s _ _ ne h1, sqt_but h2 d s, pcs_but h3 d s, sqt_but h4 d s⟩, J.row, J.few, J.sz⟩
theorem paired_rev {α β : Type} {R : α → β → Prop} : ∀ {xs : List α} {ys : List β}, Paired R xs ys → Paired R xs.reverse ys.reverse
  | _, _, .nil => .nil
  | _, _, .cons r rs => by
    rw [List.reverse_cons, List.reverse_cons]
    exact paired_snoc1 (paired_rev rs) r
theorem neL_same {ps qs : List Pc} (h : ps = qs) : (!PyData.eqv (dPcsL ps) (dPcsL qs)) = false := by
  rw [pcsL_eqv, h]
  simp
theorem neT_same {ps qs : List Pc} (h : ps = qs) : (!PyData.eqv (dPcs ps) (dPcs qs)) = false := by
  rw [pcs_eqv, h]
  simp
theorem if_yes {b : Bool} {A B : Prop} (e : b = true) (h : A) : if b = true then A else B := by
  rw [e]
  exact h
theorem if_no {b : Bool} {A B : Prop} (e : b = false) (h : B) : if b = true then A else B := by
  rw [e]
  exact h
/-- the other lots -/
structure OthAt (K : PySem.W.Frag) (H : Hp) (o : Addr) (ots : List (List Pc)) : Prop where
  ex : ∃ qs : List Addr, H o = some (.lst (qs.map V.ref)) ∧ Paired (fun ms q => ∃ as : List Addr, H q = some (.lst (as.map V.ref)) ∧ PcsAt K H ms as) ots qs
  good : ∀ ms ∈ ots, Row ms ∧ ms.length ≤ 10 ∧ ∀ q ∈ ms, PSz 500 q
theorem OthAt.on {K : PySem.W.Frag} {H H' : Hp} {o : Addr} {ots : List (List Pc)} (h : OthAt K H o ots) (s : Same H H') : OthAt K H' o ots := by
  obtain ⟨qs, h1, h2⟩ := h.ex
  refine ⟨⟨qs, s _ _ h1, paired_imp (fun ms q z => ?_) h2⟩, h.good⟩
  obtain ⟨as, h3, h4⟩ := z
  exact ⟨as, s _ _ h3, pcs_on s h4⟩
theorem psz_half {q : Pc} (z : PSz 120 q) : Sz 242 (Rat.divInt (q.lo.num * (q.hi.den : Int) + q.hi.num * (q.lo.den : Int)) (2 * (q.lo.den : Int) * (q.hi.den : Int))) := by
  have dl := den_pos q.lo
  have dh := den_pos q.hi
  have m1 : (q.lo.num * (q.hi.den : Int)).natAbs < 2 ^ 240 := mul_small (j := 120) (k := 120) z.1.top (by rw [pos_abs]; exact z.2.bot)
  have m2 : (q.hi.num * (q.lo.den : Int)).natAbs < 2 ^ 240 := mul_small (j := 120) (k := 120) z.2.top (by rw [pos_abs]; exact z.1.bot)
  have m3 : ((2 : Int) * (q.lo.den : Int)).natAbs < 2 ^ 122 := mul_small (j := 2) (k := 120) (by decide) (by rw [pos_abs]; exact z.1.bot)
  have m4 : ((2 : Int) * (q.lo.den : Int) * (q.hi.den : Int)).natAbs < 2 ^ 242 := mul_small (j := 122) (k := 120) m3 (by rw [pos_abs]; exact z.2.bot)
  exact div_sz (Int.mul_pos (Int.mul_pos (by decide) dl) dh) (lt_up (add_small m1 m2) (by decide)) m4
section
variable {P : Program} {w : World} {K : PySem.W.Frag} {mg : Str → Option Value} {base : Heap} {C : Addr}
abbrev nRight : List Str := ["purse", "lot", "handed", "kept", "made", "turn", "u", "v", "others", "low", "high", "kind", "middle", "other_lot"]
theorem scRight : FnScope nRight ["purse"] (defScope sRight) := ⟨rfl, rfl, rfl, by decide +kernel, rfl, by decide +kernel, by decide +kernel⟩
theorem cl_right (D : DefAt K mg "_law_right" sRight) (B : Blt mg) (T : JoinTxt K mg C) (EM : EqM K C) (M : MakerT P w K mg base C) (MB : MethJW P w K mg base C "both" bothQ) (MT : MethJW P w K mg base C "then" thenQ)
    (cD : Cl CX0 P w K mg base 2 "_law_draw" ["purse", "out_of"] spDraw) (cLot : Cl CX0 P w K mg base 4 "_law_lot" ["purse"] (spLot K)) (cN : Cl CX0 P w K mg base 4 "_law_near" ["purse", "lot"] (spNear K)) (cLow : Cl CX0 P w K mg base 2 "_law_lowest" ["above", "beneath"] (spLowest K))
    (cBo : Cl CX0 P w K mg base 4 "_law_both" ["lot", "u", "v"] (spTwoL K bothQ)) (cTh : Cl CX0 P w K mg base 4 "_law_then" ["lot", "u", "v"] (spTwoL K thenQ)) : Cl CX0 P w K mg base 8 "_law_right" ["purse"] spRight := by
  obtain ⟨f, fd, F, hm⟩ := D
  obtain ⟨fI, fdI, e0, d1, its, MM, FI, FT, h0, b0, b1, v1, kI⟩ := M.ex
  obtain ⟨fB, fdB, Mb, Fb, bb, kB⟩ := MB.ex
  obtain ⟨fT, fdT, Mt, Ft, bt, kT⟩ := MT.ex
  obtain ⟨fe, Me, Fe⟩ := ok_eqJ (P := P) (w := w) (base := base) EM T B
  obtain ⟨fl, Ml, Fl⟩ := ok_eqJL (P := P) (w := w) (base := base) EM T B
  refine cl_of F hm (F.ok scRight (fun vs H Q E h => ?_) (fun cdv A outer s H vs Q E hr h => ⟨_, PSs.nox (pss_cons
      (ps_set (i := 1) scRight.nd rfl (Or.inl rfl) (pe_c0 cLot hr (by decide) (by rfl) (pa_cons (pv 0) pa_nil)))
      (pss_cons (ps_set (i := 2) scRight.nd rfl (Or.inl rfl) (pe_ix ix_list (pe_lst (pa_cons (pe_revL (pv 1)) (pa_cons (pe_op op_cat (pe_slice sl_list (pv 1) (po_some pe_int) po_none) (pe_slice sl_list (pv 1) po_none (po_some pe_int)))
          (pa_cons (pe_callTy call_list_of (by rfl) B.list (by decide +kernel) (pa_cons (pv 1) pa_nil)) pa_nil)))) (pe_c0 cD hr (by decide) (by rfl) (pa_cons (pv 0) (pa_cons pe_int pa_nil))) (fun _ _ => rfl)))
      (pss_cons (ps_par (i := 3) (j := 4) (by rfl) scRight.nd rfl rfl (by decide) rfl rfl (pa_cons (pe_callTy call_list_of (by rfl) B.list (by decide +kernel) (pa_cons (pv 2) pa_nil))
          (pa_cons (pe_make (E := E0) MM FI (hr.mono (by decide)) (by rfl) T.gC b0 .nil pass0 (pa_cons (pv 2) pa_nil)) pa_nil)) (by rfl))
      (pss_cons (ps_if (pt_cmpR (op_neD hr.units) (pv 2) (pv 3) (nomark _)) (pss_one (ps_ret pe_bl)) pss_nil)
      (pss_cons (ps_expr (pe_bm PySem.F.plainAttrs_list PySem.F.slot_list_append PySem.F.type_list_append mt_append (pv 2) (pa_cons pe_non pa_nil)))
      (pss_cons (ps_if (PW.pt (pw_or (pt_cmpR (op_neD hr.units) (pe_fld (pv 4) rfl) (pe_callTy call_tuple_of (by rfl) B.tuple (by decide +kernel) (pa_cons (pv 1) pa_nil)) (nomark _))
          (pw_or (pt_cmpR (op_neO (E := E0) Me.at_ Me.fn T.ow.ne T.ow.mo Fe (hr.mono (by decide)) pass0) (pv 4) (pe_make (E := E0) MM FT (hr.mono (by decide)) (by rfl) T.gC b0 .nil pass0 (pa_cons (pe_callTy call_tuple_of (by rfl) B.tuple (by decide +kernel) (pa_cons (pv 1) pa_nil)) pa_nil)) (nomark _))
          (pw_or1 (pt_cmpR (op_neD hr.units) (pe_fld (pe_makeK0 (E := E0) MM FI (hr.mono (by decide)) (by rfl) T.gC kI pass0 (pk_cons (pe_callTy call_list_of (by rfl) B.list (by decide +kernel) (pa_cons (pv 1) pa_nil)) pk_nil)) rfl)
            (pe_callTy call_tuple_of (by rfl) B.tuple (by decide +kernel) (pa_cons (pv 1) pa_nil)) (nomark _)))))) (pss_one (ps_ret pe_bl)) pss_nil)
      (pss_cons (ps_for PassesOwn.never rfl (pi_range1 (by rfl) B.range (pa_cons pe_int pa_nil)) (pg_name (i := 5) scRight.nd rfl (Or.inl rfl))
        (pss_cons (ps_par (i := 6) (j := 7) (by rfl) scRight.nd rfl rfl (by decide) rfl rfl (pa_cons (pe_c0 cN hr (by decide) (by rfl) (pa_cons (pv 0) (pa_cons (pv 1) pa_nil))) (pa_cons (pe_c0 cN hr (by decide) (by rfl) (pa_cons (pv 0) (pa_cons (pv 1) pa_nil))) pa_nil)) (by rfl))
        (pss_cons (ps_if (PW.pt (pw_or (pt_cmpR (op_neD hr.units) (pe_meth (E := E0) (pv 4) T.cl Mb Fb (hr.mono (by decide)) bb .nil pass0 (pa_cons (pv 6) (pa_cons (pv 7) pa_nil))) (pe_c0 cBo hr (by decide) (by rfl) (pa_cons (pv 1) (pa_cons (pv 6) (pa_cons (pv 7) pa_nil)))) (nomark _))
            (pw_or1 (pt_cmpR (op_neD hr.units) (pe_meth (E := E0) (pv 4) T.cl Mt Ft (hr.mono (by decide)) bt .nil pass0 (pa_cons (pv 6) (pa_cons (pv 7) pa_nil))) (pe_c0 cTh hr (by decide) (by rfl) (pa_cons (pv 1) (pa_cons (pv 6) (pa_cons (pv 7) pa_nil)))) (nomark _))))) (pss_one (ps_ret pe_bl)) pss_nil)
        (pss_one (ps_if (PW.pt (pw_or (pt_cmpR (op_neD hr.units) (pe_methW (E := E0) (pv 4) T.cl Mb Fb (hr.mono (by decide)) kB pass0 (pk_cons (pv 7) (pk_cons (pv 6) pk_nil))) (pe_meth (E := E0) (pv 4) T.cl Mb Fb (hr.mono (by decide)) bb .nil pass0 (pa_cons (pv 7) (pa_cons (pv 6) pa_nil))) (nomark _))
            (pw_or1 (pt_cmpR (op_neD hr.units) (pe_methW (E := E0) (pv 4) T.cl Mt Ft (hr.mono (by decide)) kT pass0 (pk_cons (pv 7) (pk_cons (pv 6) pk_nil))) (pe_meth (E := E0) (pv 4) T.cl Mt Ft (hr.mono (by decide)) bt .nil pass0 (pa_cons (pv 6) (pa_cons (pv 7) pa_nil))) (nomark _))))) (pss_one (ps_ret pe_bl)) pss_nil)))))
      (pss_cons (ps_set (i := 8) scRight.nd rfl (Or.inl rfl) (pe_lst (pa_cons (pe_slice sl_list (pv 1) (po_some pe_int) po_none)
          (pa_cons (pe_lc (own := [("low", 9), ("high", 10), ("kind", 11)]) (g := gTup K 3 (gCons (gName 9) (gCons (gName 10) (gCons (gName 11) gNil)))) (tt := tYes) (te := tTup (tCons (tVar 9) (tCons (tVar 10) (tCons (tC (.str "sum")) tNil)))) (by rfl) scRight.nd (pi_list (pv 1)) (blkOk_by (N := nRight) (sc := defScope sRight) (by decide +kernel))
            (fun _ _ _ _ _ => pg_tup (by rfl) (pgs_cons (pg_name (i := 9) scRight.nd rfl (Or.inl rfl)) (pgs_cons (pg_name (i := 10) scRight.nd rfl (Or.inl rfl)) (pgs_cons (pg_name (i := 11) scRight.nd rfl (Or.inl rfl)) pgs_nil)))) (fun _ _ _ _ _ => pts_nil) (fun _ _ _ _ _ => pe_tup (pa_cons (pv 9) (pa_cons (pv 10) (pa_cons pe_str pa_nil))))) pa_nil))))
      (pss_cons (ps_for PassesOwn.never rfl (pi_list (pe_slice sl_list (pv 1) po_none (po_some pe_int))) (pg_tup (by rfl) (pgs_cons (pg_name (i := 9) scRight.nd rfl (Or.inl rfl)) (pgs_cons (pg_name (i := 10) scRight.nd rfl (Or.inl rfl)) (pgs_cons (pg_name (i := 11) scRight.nd rfl (Or.inl rfl)) pgs_nil))))
        (pss_cons (ps_set (i := 12) scRight.nd rfl (Or.inl rfl) (pe_c0 cLow hr (by decide) (by rfl) (pa_cons
            (pe_op op_add (pe_op op_mulW (pe_ix ix_tup (pv 9) pe_int (fun _ _ => rfl)) (pe_ix ix_tup (pv 10) pe_int (fun _ _ => rfl))) (pe_op op_mulW (pe_ix ix_tup (pv 10) pe_int (fun _ _ => rfl)) (pe_ix ix_tup (pv 9) pe_int (fun _ _ => rfl))))
            (pa_cons (pe_op op_mulW (pe_op op_mulW pe_int (pe_ix ix_tup (pv 9) pe_int (fun _ _ => rfl))) (pe_ix ix_tup (pv 10) pe_int (fun _ _ => rfl))) pa_nil))))
        (pss_one (ps_set (i := 8) scRight.nd rfl (Or.inl rfl) (pe_op op_cat (pv 8) (pe_lst (pa_cons
            (pe_op op_cat (pe_lst (pa_cons (pe_tup (pa_cons (pv 9) (pa_cons (pv 12) (pa_cons (pv 11) pa_nil)))) pa_nil)) (pe_slice sl_list (pv 1) (po_some pe_int) po_none))
            (pa_cons (pe_op op_cat (pe_lst (pa_cons (pe_tup (pa_cons (pv 12) (pa_cons (pv 10) (pa_cons (pv 11) pa_nil)))) pa_nil)) (pe_slice sl_list (pv 1) (po_some pe_int) po_none)) pa_nil))))))))
      (pss_cons (ps_set (i := 13) scRight.nd rfl (Or.inl rfl) (pe_ix ix_list (pv 8) (pe_c0 cD hr (by decide) (by rfl) (pa_cons (pv 0) (pa_cons (pe_callB call_len_seq (by rfl) B.len PySem.boot_len (pa_cons (pv 8) pa_nil)) pa_nil))) (fun _ _ => rfl)))
      (pss_one (ps_ret (pe_and (pe_cmpR op_eq (pe_callTy call_str_bl (by rfl) B.str (by decide +kernel) (pa_cons (pe_cmpR (op_eqO (E := E0) Me.at_ Me.fn Fe (hr.mono (by decide)) pass0) (pv 4) (pe_make (E := E0) MM FI (hr.mono (by decide)) (by rfl) T.gC b0 .nil pass0 (pa_cons (pv 13) pa_nil)) (nomark _)) pa_nil))
            (pe_callTy call_str_bl (by rfl) B.str (by decide +kernel) (pa_cons (pe_cmpR (op_eqD hr.units) (pv 13) (pv 1) (nomark _)) pa_nil)) (nomark _))
          (pe_and (pe_cmpR (op_neL (E := E0) Ml.at_ Ml.fn T.ow.ne T.ow.mo Fl (hr.mono (by decide)) pass0) (pv 4) (pv 1) (nomark _))
          (pe_one (pe_cmpR (op_eqD hr.units) (pe_fld (pv 4) rfl) (pe_callTy call_tuple_of (by rfl) B.tuple (by decide +kernel) (pa_cons (pv 1) pa_nil)) (nomark _))))))))))))))))), ?_⟩)) fun _ _ _ _ _ _ us hl => match us, hl with | [_], _ => rfl
  · obtain ⟨p, c, rfl, _⟩ := h
    rfl
  · obtain ⟨p, c, rfl, h⟩ := h
    have P0 := h.at_
    have c0 := h.lo
    refine ⟨_, rfl, p, c, rfl, ⟨P0, by omega, fun l as ls c1 H1 k1 nl fl pr row few sz P1 B1 => ?_⟩⟩
    have lp : l ≠ p := P0.at nl
    have la := paired_len pr
    refine gn1 (σ' := [some (.ref p), some (.ref l), none, none, none, none, none, none, none, none, none, none, none, none]) rfl ?_
    have LH1 : LotH K p H1 l ls := ⟨⟨as, (hide_ne lp).trans fl, pr⟩, row, few, sz⟩
    have pr1 := pcs_on hide_same pr
    have len6 : (as.map V.ref).length ≤ 6 := by rw [List.length_map]; omega
    -- the three orders
    refine ⟨_, rfl, l, _, rfl, SqL.of fl, fun w1 m1 => ?_⟩
    obtain ⟨A1, ea1, s1, g1⟩ := mk_s (.lst (as.map V.ref).reverse) m1
    rw [ea1]
    refine ⟨_, rfl, _, rfl, l, _, rfl, SqL.of (s1 _ _ fl), fun w2 m2 => ?_⟩
    rw [cutA]
    obtain ⟨A2, ea2, s2, g2⟩ := mk_s (.lst ((as.map V.ref).drop 1)) m2
    rw [ea2]
    have s12 := s1.trans s2
    refine ⟨_, rfl, _, rfl, l, _, rfl, SqL.of (s12 _ _ fl), fun w3 m3 => ?_⟩
    rw [cutB]
    obtain ⟨A3, ea3, s3, g3⟩ := mk_s (.lst ((as.map V.ref).take 1)) m3
    rw [ea3]
    have s13 := s12.trans s3
    refine ⟨w2, w3, _, _, rfl, rfl, s3 _ _ g2, g3, by rw [List.length_drop, List.length_take, sizeLine_eq]; omega, fun w4 m4 => ?_⟩
    obtain ⟨A4, ea4, s4, g4⟩ := mk_s (.lst ((as.map V.ref).drop 1 ++ (as.map V.ref).take 1)) m4
    rw [ea4]
    have s14 := s13.trans s4
    refine ⟨_, rfl, l, _, rfl, .inl (SqL.of (s14 _ _ fl)), fun w5 m5 => ?_⟩
    obtain ⟨A5, ea5, s5, g5⟩ := mk_s (.lst (as.map V.ref)) m5
    rw [ea5]
    have s15 := s14.trans s5
    refine ⟨(by show 3 ≤ sizeLine; decide), fun w6 m6 => ?_⟩
    obtain ⟨A6, ea6, s6, g6⟩ := mk_s (.lst [.ref w1, .ref w4, .ref w5]) m6
    rw [ea6]
    have s16 := s15.trans s6
    have PA6 := P1.same s16
    refine ⟨_, rfl, p, 3, c1, rfl, PA6, by omega, by decide, by decide, fun d c2 H2 d0 d3 k2 P2 B2 => ?_⟩
    have B12 : But p H1 H2 := (but_same s16).trans B2
    have pick : ∃ (D : Addr) (hs : List Addr) (ps : List Pc), atI [V.ref w1, .ref w4, .ref w5] d = some (.ref D) ∧ A6 D = some (.lst (hs.map V.ref)) ∧ H1 D = none ∧ Paired (PcAt K (hide p H1)) ps hs ∧ ps.Perm ls := by
      have hd : d = 0 ∨ d = 1 ∨ d = 2 := by omega
      rcases hd with rfl | rfl | rfl
      · exact ⟨w1, as.reverse, ls.reverse, rfl, by rw [List.map_reverse]; exact s6 _ _ (s5 _ _ (s4 _ _ (s3 _ _ (s2 _ _ g1)))), m1, paired_rev pr, List.reverse_perm ls⟩
      · refine ⟨w4, as.drop 1 ++ as.take 1, ls.drop 1 ++ ls.take 1, rfl, ?_, s13.free m4, paired_app2 (paired_drop 1 pr) (paired_take 1 pr), ?_⟩
        · rw [List.map_append, List.map_drop, List.map_take]
          exact s6 _ _ (s5 _ _ g4)
        · have z := List.perm_append_comm (l₁ := ls.drop 1) (l₂ := ls.take 1)
          rw [List.take_append_drop] at z
          exact z
      · exact ⟨w5, as, ls, rfl, s6 _ _ g5, s14.free m5, pr, List.Perm.refl _⟩
    obtain ⟨D, hs, ps, hat, gD, nD, prD, perm⟩ := pick
    have w6p : w6 ≠ p := PurseAt.at (P1.same s15) m6
    have Dp' : D ≠ p := PurseAt.at P1 nD
    refine ⟨w6, _, _, .ref D, rfl, rfl, SqL.of (B2 _ _ w6p g6), hat, ?_⟩
    refine gn1 (σ' := [some (.ref p), some (.ref l), some (.ref D), none, none, none, none, none, none, none, none, none, none, none]) rfl ?_
    have fD2 : H2 D = some (.lst (hs.map V.ref)) := B2 _ _ Dp' gD
    have lps := perm.length_eq
    have lhs := paired_len prD
    have prD2 : Paired (PcAt K H2) ps hs := pcs_on hide_same (pcs_on B12.hide prD)
    -- kept, made
    refine ⟨_, rfl, D, _, rfl, .inl (SqL.of fD2), fun w7 m7 => ?_⟩
    obtain ⟨A7, ea7, s7, g7⟩ := mk_s (.lst (hs.map V.ref)) m7
    rw [ea7]
    have LA : LotAt K A7 D ps ls := ⟨⟨hs, SqL.of (s7 _ _ fD2), pcs_on s7 prD2⟩, ⟨perm, row⟩, by omega, fun q hq => psz500 sz q (perm.mem_iff.mp hq)⟩
    refine ⟨_, rfl, ?_⟩
    intro x dx hx hdx ne
    refine ⟨x, dx, D, A7, _, _, rfl, upd_same, same_at hx (same_at hdx (Same.refl _)), hx, LA, fun H3 S3 J3 => ⟨rfl, ?_⟩⟩
    refine ⟨_, _, rfl, ?_⟩
    have s73 := s7.trans S3
    have fD3 := s73 _ _ fD2
    have prD3 := pcs_on s73 prD2
    refine ⟨_, rfl, _, rfl, dPcsL ps, dPcsL ps, .lst (SqL.of fD3) (pcs_dp prD3), .lst (SqL.of (S3 _ _ g7)) (pcs_dp prD3), pcsL_shp _, pcsL_shp _, _, rfl, ?_⟩
    refine if_no (neL_same rfl) ?_
    -- handed.append(None)
    refine ⟨_, rfl, .inl ⟨rfl, _, SqL.of fD3⟩, ?_⟩
    refine ⟨D, _, _, rfl, rfl, fD3, by rw [List.length_map, sizeLine_eq]; omega, ?_⟩
    obtain ⟨H4, e4, bD⟩ : ∃ H4, upd H3 D (.lst (hs.map V.ref ++ [.non])) = H4 ∧ But D H3 H4 := ⟨_, rfl, but_upd⟩
    rw [e4]
    have J4 := J3.but fD3 bD
    have B14 : But p H1 H4 := but_off nD (B12.trans (but_same s73)) bD
    have P4 : PurseAt H4 p c2 := purse_off (P2.same s73) Dp' bD
    have LH4 := LH1.on B14.hide
    clear J3 LA prD3 prD2 prD
    -- what was made
    obtain ⟨dx4, q4, r4, bs4, i4, pc4, pp4, sh4⟩ := id J4.ex
    obtain ⟨as4, fl4, pr4⟩ := id LH4.ex
    have flH := hide_same _ _ fl4
    have prH := pcs_on hide_same pr4
    have la4 := paired_len pr4
    refine ⟨_, rfl, x, C, dx4, _, _, rfl, i4, T.cl, T.nP, rfl, _, rfl, l, _, rfl, .inl ⟨SqL.of flH, fun t1 n1 => ?_⟩⟩
    obtain ⟨C1, ec1, u1, b1'⟩ := mk_s (.tup (as4.map V.ref)) n1
    rw [ec1]
    refine ⟨dPcs ls, dPcs ls, .tup (sqt_on pc4 u1) (pcs_dp (pcs_on u1 pp4)), .tup (SqT.of b1') (pcs_dp (pcs_on u1 prH)), pcs_shp _, pcs_shp _, _, rfl, ?_⟩
    refine if_no (neT_same rfl) ?_
    refine ⟨_, rfl, _, rfl, l, _, rfl, .inl ⟨SqL.of (u1 _ _ flH), fun t2 n2 => ?_⟩⟩
    obtain ⟨C2, ec2, u2, b2'⟩ := mk_s (.tup (as4.map V.ref)) n2
    rw [ec2]
    have u12 := u1.trans u2
    have LT2 : LotT K C2 t2 ls ls := ⟨⟨as4, SqT.of b2', pcs_on u12 prH⟩, ⟨List.Perm.refl _, row⟩, by omega, psz500 sz⟩
    intro y dy hy hdy ney
    refine ⟨y, dy, t2, C2, ls, ls, rfl, upd_same, same_at hy (same_at hdy (Same.refl _)), hy, LT2, fun C3 u3 J5 => ⟨rfl, ?_⟩⟩
    have u13 := u12.trans u3
    obtain ⟨dy5, _, _, _, i5, _⟩ := id J5.ex
    refine ⟨x, dx4, _, y, dy5, _, rfl, rfl, u13 _ _ i4, i5, x, y, ls, ls, rfl, J4.on u13, J5, ?_⟩
    refine ⟨_, rfl, _, rfl, ?_⟩
    refine if_no (by simp) ?_
    refine ⟨_, rfl, l, _, rfl, .inl (SqL.of (u13 _ _ flH)), fun t3 n3 => ?_⟩
    obtain ⟨C4, ec4, u4, b4'⟩ := mk_s (.lst (as4.map V.ref)) n3
    rw [ec4]
    have u14 := u13.trans u4
    have LL4 : LotAt K C4 t3 ls ls := ⟨⟨as4, SqL.of b4', pcs_on u14 prH⟩, ⟨List.Perm.refl _, row⟩, by omega, psz500 sz⟩
    refine ⟨rfl, rfl, ?_⟩
    intro z dz hz hdz nez
    refine ⟨z, dz, t3, C4, ls, ls, rfl, upd_same, same_at hz (same_at hdz (Same.refl _)), hz, LL4, fun C5 u5 J6 => ⟨rfl, ?_⟩⟩
    have u15 := u14.trans u5
    obtain ⟨dz6, q6, _, bs6, i6, pc6, pp6, _⟩ := id J6.ex
    refine ⟨z, C, dz6, _, _, rfl, i6, T.cl, T.nP, rfl, _, rfl, l, _, rfl, .inl ⟨SqL.of (u15 _ _ flH), fun t4 n4 => ?_⟩⟩
    obtain ⟨C6, ec6, u6, b6'⟩ := mk_s (.tup (as4.map V.ref)) n4
    rw [ec6]
    have u16 := u15.trans u6
    refine ⟨dPcs ls, dPcs ls, .tup (sqt_on pc6 u6) (pcs_dp (pcs_on u6 pp6)), .tup (SqT.of b6') (pcs_dp (pcs_on u16 prH)), pcs_shp _, pcs_shp _, _, rfl, ?_⟩
    refine if_no (neT_same rfl) ?_
    have P5 := P4.same u16
    have J7 := J4.on u16
    have JH := JoinAt.hide P5 J7
    have LH5 := LH4.on (Same.but (p := p) u16).hide
    have B15 : But p H1 C6 := B14.trans (but_same u16)
    clear J5 J6 LL4 LT2
    -- both and then
    have z4 : 400 ≤ 400 := by decide
    have z15 : 400 ≤ 1500 := by decide
    refine ⟨8, rfl, by decide, by decide, for_range (lo := 0) (n := 8) (fun i σ G => ∃ (v5 v6 v7 : Option V) (c' : Int), σ = [some (.ref p), some (.ref l), some (.ref D), some (.ref w7), some (.ref x), v5, v6, v7, none, none, none, none, none, none] ∧ But p C6 G ∧ PurseAt G p c' ∧ c' ≤ c2 + 10 * i)
      ⟨none, none, none, c2, rfl, fun _ _ _ q => q, P5, by omega⟩ ?_ ?_⟩
    · rintro i σ G hi ⟨v5, v6, v7, c3, rfl, BG, PG, k3⟩
      refine gn1 (σ' := [some (.ref p), some (.ref l), some (.ref D), some (.ref w7), some (.ref x), some (.int (0 + (i : Int))), v6, v7, none, none, none, none, none, none]) rfl ?_
      have LHG := LH5.on BG.hide
      refine ⟨_, rfl, _, rfl, p, l, ls, c3, rfl, LHG, ⟨PG, by omega, fun tu U c6 G1 k6 uu Pu Bu ru => ?_⟩⟩
      refine ⟨_, rfl, _, rfl, p, l, ls, c6, rfl, LHG.on Bu.hide, ⟨Pu, by omega, fun tv V' c7 G2 k7 uv Pv Bv rv => ?_⟩⟩
      refine ⟨_, _, rfl, ?_⟩
      have Buv := Bu.trans Bv
      have JG : JoinAt K C G2 x ls := (JH.on (BG.trans Buv).hide).on (hide_same (p := p))
      have LG := LHG.on Buv.hide
      have RL : RowL K G2 l ls := by
        obtain ⟨as', h1, h2⟩ := LG.ex
        exact ⟨⟨as', hide_same _ _ h1, pcs_on hide_same h2⟩, row, sz⟩
      have du : DgAt K G2 400 U tu := ⟨(ru.on Bv.hide).on hide_same, uu⟩
      have dv : DgAt K G2 400 V' tv := ⟨rv.on hide_same, uv⟩
      obtain ⟨dxg, _, _, _, ig, _⟩ := id JG.ex
      refine ⟨_, rfl, x, dxg, _, rfl, ig, rfl, _, rfl, _, rfl, _, _, _, _, _, _, rfl, go_both (b := 400) sz JG du dv z4 z4 z15 fun r1 A1 s1 h1 => ?_⟩
      refine ⟨_, rfl, _, rfl, _, rfl, l, tu, tv, ls, U, V', rfl, ⟨RL.on s1, (du.on s1).rt, (dv.on s1).rt, uu.2.2, uv.2.2, fun r2 A2 s2 h2 => ?_⟩⟩
      refine ⟨_, _, (h1.on s2).dp, h2.dp, dRt_shp _, dRt_shp _, _, rfl, ?_⟩
      refine if_no (ne_same rfl) ?_
      have t2 := s1.trans s2
      clear h1 h2
      refine ⟨_, rfl, x, dxg, _, rfl, t2 _ _ ig, rfl, _, rfl, _, rfl, _, _, _, _, _, _, rfl, go_then (b := 400) sz (JG.on t2) (du.on t2) (dv.on t2) z4 z4 z15 fun r3 A3 s3 h3 => ?_⟩
      have t3 := t2.trans s3
      refine ⟨_, rfl, _, rfl, _, rfl, l, tu, tv, ls, U, V', rfl, ⟨RL.on t3, (du.on t3).rt, (dv.on t3).rt, uu.2.2, uv.2.2, fun r4 A4 s4 h4 => ?_⟩⟩
      refine ⟨_, _, (h3.on s4).dp, h4.dp, dRt_shp _, dRt_shp _, _, rfl, ?_⟩
      refine if_no (ne_same rfl) ?_
      have t4 := t3.trans s4
      clear h3 h4
      refine ⟨_, rfl, x, dxg, _, rfl, t4 _ _ ig, rfl, _, rfl, _, rfl, rfl, _, _, _, _, _, _, rfl, go_both (b := 400) sz (JG.on t4) (du.on t4) (dv.on t4) z4 z4 z15 fun r5 A5 s5 h5 => ?_⟩
      have t5 := t4.trans s5
      refine ⟨_, rfl, x, dxg, _, rfl, t5 _ _ ig, rfl, _, rfl, _, rfl, _, _, _, _, _, _, rfl, go_both (b := 400) sz (JG.on t5) (dv.on t5) (du.on t5) z4 z4 z15 fun r6 A6 s6 h6 => ?_⟩
      refine ⟨_, _, (h5.on s6).dp, h6.dp, dRt_shp _, dRt_shp _, _, rfl, ?_⟩
      refine if_no (ne_same (q_comm ls U V')) ?_
      have t6 := t5.trans s6
      clear h5 h6
      refine ⟨_, rfl, x, dxg, _, rfl, t6 _ _ ig, rfl, _, rfl, _, rfl, rfl, _, _, _, _, _, _, rfl, go_then (b := 400) sz (JG.on t6) (du.on t6) (dv.on t6) z4 z4 z15 fun r7 A7 s7 h7 => ?_⟩
      have t7 := t6.trans s7
      refine ⟨_, rfl, x, dxg, _, rfl, t7 _ _ ig, rfl, _, rfl, _, rfl, _, _, _, _, _, _, rfl, go_then (b := 400) sz (JG.on t7) (du.on t7) (dv.on t7) z4 z4 z15 fun r8 A8 s8 h8 => ?_⟩
      refine ⟨_, _, (h7.on s8).dp, h8.dp, dRt_shp _, dRt_shp _, _, rfl, ?_⟩
      refine if_no (ne_same rfl) ?_
      exact ⟨_, _, _, c7, rfl, BG.trans (Buv.trans (but_same (t7.trans s8))), Pv.same (t7.trans s8), by omega⟩
    · rintro σ G ⟨v5, v6, v7, c3, rfl, BG, PG, k3⟩
      have JHG := JH.on BG.hide
      have LHG := LH5.on BG.hide
      obtain ⟨asg, flg, prg⟩ := id LHG.ex
      have lag := paired_len prg
      have len6' : (asg.map V.ref).length ≤ 6 := by rw [List.length_map]; omega
      -- others
      refine ⟨_, rfl, _, rfl, l, _, rfl, SqL.of (hide_same _ _ flg), fun w1 m1 => ?_⟩
      rw [cutA]
      obtain ⟨E1, ee1, PE1, BE1, x1⟩ := mk_at (.lst ((asg.map V.ref).drop 1)) PG m1
      rw [ee1]
      have h1 := BE1.hide
      have fl1 := h1 _ _ flg
      have pr1' := pcs_on h1 prg
      refine ⟨_, rfl, l, rfl, ⟨_, SqL.of (hide_same _ _ fl1)⟩, fun D2 nD2 => ?_⟩
      have nDE : E1 D2 = none := nD2
      refine lc_list (K := K) (a := l) (xs := asg.map V.ref) (fun j G' => Same E1 G' ∧ ∃ ts : List Addr, G' D2 = some (.lst (ts.map V.ref)) ∧ PcsAt K G' (sumsOf (ls.take j)) ts) ⟨same_at nDE (Same.refl _), [], upd_same, .nil⟩ (fun j G' _ h => SqL.of (h.1 _ _ (hide_same _ _ fl1))) ?_ ?_
      · rintro j v G' hv ⟨s', ts, fD, pt⟩
        obtain ⟨b, hb, rfl⟩ := get_map hv
        obtain ⟨q, hq, ⟨lo, hi, eb, rl, rh⟩⟩ := pc_get pr1' hb
        have sG : Same (hide p E1) G' := fun b' o z => s' b' o (hide_same _ _ z)
        refine ⟨b, _, rfl, sqt_on eb sG, rfl, _, _, rfl, _, _, rfl, _, _, rfl, rfl, ?_⟩
        refine ⟨rfl, yes_to ?_⟩
        rw [if_pos rfl]
        refine ⟨_, rfl, _, rfl, (by show 3 ≤ sizeLine; decide), fun t nt => ?_⟩
        obtain ⟨G2, e2, s2', f2⟩ := mk_s (.tup [.ref lo, .ref hi, .str "sum"]) nt
        rw [e2]
        have lt := paired_len pt
        unfold sumsOf at lt
        rw [List.length_map, List.length_take] at lt
        have fD2' := s2' _ _ fD
        refine ⟨_, fD2', by rw [List.length_map, sizeLine_eq]; omega, same_at nDE (s'.trans s2'), ts ++ [t], by rw [upd_same, List.map_append]; rfl, ?_⟩
        unfold sumsOf at pt ⊢
        rw [List.take_succ, hq, List.map_append]
        have pn : PcAt K G2 (⟨q.lo, q.hi, true⟩ : Pc) t := ⟨lo, hi, SqT.of f2, (rl.on sG).on s2', (rh.on sG).on s2'⟩
        exact pcs_but (paired_snoc1 (pcs_on s2' pt) pn) fD2' but_upd
      · rintro G' ⟨s', ts, fD, pt⟩
        rw [List.length_map, ← lag, List.take_length] at pt
        have P2' := PE1.same s'
        have nDp : D2 ≠ p := PurseAt.at PE1 nD2
        have h2 : Same (hide p E1) (hide p G') := (Same.but s').hide
        have hD : hide p G' D2 = some (.lst (ts.map V.ref)) := (hide_ne nDp).trans fD
        have hpt := pcs_hide P2' pt
        refine ⟨(by show 2 ≤ sizeLine; decide), fun w3 m3 => ?_⟩
        obtain ⟨E3, ee3, PE3, BE3, x3⟩ := mk_at (.lst [.ref w1, .ref D2]) P2' m3
        rw [ee3]
        have h3 := BE3.hide
        have h13 := h1.trans (h2.trans h3)
        have fl3 := h13 _ _ flg
        have pr3 := pcs_on h13 prg
        have O3 : OthAt K (hide p E3) w3 [ls.drop 1, sumsOf ls] := by
          refine ⟨⟨[w1, D2], x3, .cons ⟨asg.drop 1, ?_, paired_drop 1 pr3⟩ (.cons ⟨ts, h3 _ _ hD, pcs_on h3 hpt⟩ .nil)⟩, fun ms hms => ?_⟩
          · rw [List.map_drop]
            exact h3 _ _ (h2 _ _ x1)
          · simp only [List.mem_cons, List.not_mem_nil, or_false] at hms
            rcases hms with rfl | rfl
            · exact ⟨row.tail, by rw [List.length_drop]; omega, fun q hq => psz500 sz q (List.mem_of_mem_drop hq)⟩
            · refine ⟨row.sums, by unfold sumsOf; rw [List.length_map]; omega, fun q hq => ?_⟩
              unfold sumsOf at hq
              obtain ⟨q', hq', rfl⟩ := List.mem_map.mp hq
              exact ⟨(psz500 sz q' hq').1, (psz500 sz q' hq').2⟩
        refine gn1 (σ' := [some (.ref p), some (.ref l), some (.ref D), some (.ref w7), some (.ref x), v5, v6, v7, some (.ref w3), none, none, none, none, none]) rfl ?_
        -- the first piece, cut
        refine ⟨_, rfl, _, rfl, l, _, rfl, SqL.of (hide_same _ _ fl3), fun w4' m4' => ?_⟩
        rw [cutB]
        obtain ⟨E4, ee4, PE4, BE4, x4⟩ := mk_at (.lst ((asg.map V.ref).take 1)) PE3 m4'
        rw [ee4]
        have h4 := BE4.hide
        have h14 := h13.trans h4
        have pr4' := pcs_on h14 prg
        refine ⟨w4', rfl, ⟨_, SqL.of (hide_same _ _ x4)⟩, for_list (xs := (asg.map V.ref).take 1) (fun i σ G5 => ∃ (v9 v10 v11 v12 : Option V) (o : Addr) (ots : List (List Pc)), σ = [some (.ref p), some (.ref l), some (.ref D), some (.ref w7), some (.ref x), v5, v6, v7, some (.ref o), v9, v10, v11, v12, none] ∧
            But p E4 G5 ∧ PurseAt G5 p c3 ∧ OthAt K (hide p G5) o ots ∧ 2 ≤ ots.length ∧ ots.length ≤ 2 + 2 * i)
          ⟨none, none, none, none, w3, _, rfl, fun _ _ _ q => q, PE4, O3.on h4, Nat.le_refl _, Nat.le_refl _⟩ (fun i σ G5 _ h => ?_) ?_ ?_⟩
        · obtain ⟨_, _, _, _, _, _, _, b, _⟩ := h
          exact SqL.of (hide_same _ _ (b.hide _ _ x4))
        · rintro i v σ G5 hv ⟨v9, v10, v11, v12, o, ots, rfl, B5, P5', O5, o2, oi⟩
          have hi0 : i = 0 := by
            have := (List.getElem?_eq_some_iff.mp hv).1
            rw [List.length_take] at this
            omega
          subst hi0
          have hv' : (asg.map V.ref)[0]? = some v := by
            rw [List.getElem?_take] at hv
            simpa using hv
          have pr5 := pcs_on B5.hide pr4'
          have fl5 := B5.hide _ _ (h4 _ _ fl3)
          obtain ⟨b, hb, rfl⟩ := get_map hv'
          obtain ⟨q, hq, ⟨lo, hi, eb, rl, rh⟩⟩ := pc_get pr5 hb
          have mq := List.mem_of_getElem? hq
          have okq := row.ok q mq
          have zq := sz q mq
          have els : ls = q :: ls.drop 1 := by
            cases ls with
            | nil => cases hq
            | cons a r =>
              cases hq
              rfl
          have row' : Row (q :: ls.drop 1) := els ▸ row
          have rl' : RtAt K G5 q.lo lo := rl.on hide_same
          have rh' : RtAt K G5 q.hi hi := rh.on hide_same
          refine ⟨b, _, rfl, sqt_on eb hide_same, rfl, _, _, rfl, _, _, rfl, _, _, rfl, rfl, ?_⟩
          refine gn1 (σ' := [some (.ref p), some (.ref l), some (.ref D), some (.ref w7), some (.ref x), v5, v6, v7, some (.ref o), some (.ref lo), some (.ref hi), some (.str q.kind), v12, none]) rfl ?_
          have dl := den_pos q.lo
          have dh := den_pos q.hi
          have b120 : ∀ {z : Nat}, z < 2 ^ 120 → ((z : Nat) : Int).natAbs < 2 ^ 8000 := fun {z} h => lt_up (j := 120) (by rw [Int.natAbs_natCast]; exact h) (by decide)
          have t120 : ∀ {z : Int}, z.natAbs < 2 ^ 120 → z.natAbs < 2 ^ 8000 := fun h => lt_up h (by decide)
          have m1 : (q.lo.num * (q.hi.den : Int)).natAbs < 2 ^ 240 := mul_small (j := 120) (k := 120) zq.1.top (by rw [pos_abs]; exact zq.2.bot)
          have m2 : (q.hi.num * (q.lo.den : Int)).natAbs < 2 ^ 240 := mul_small (j := 120) (k := 120) zq.2.top (by rw [pos_abs]; exact zq.1.bot)
          have m3 : ((2 : Int) * (q.lo.den : Int)).natAbs < 2 ^ 122 := mul_small (j := 2) (k := 120) (by decide) (by rw [pos_abs]; exact zq.1.bot)
          have m4 : ((2 : Int) * (q.lo.den : Int) * (q.hi.den : Int)).natAbs < 2 ^ 242 := mul_small (j := 122) (k := 120) m3 (by rw [pos_abs]; exact zq.2.bot)
          have pos4 : 0 < (2 : Int) * (q.lo.den : Int) * (q.hi.den : Int) := Int.mul_pos (Int.mul_pos (by decide) dl) dh
          have szm := psz_half zq
          have mid := mid_in okq.lt
          rw [mid_eq] at szm
          refine ⟨_, rfl, lo, _, _, _, rfl, rfl, rl', rfl, _, rfl, hi, _, _, _, rfl, rfl, rh', rfl, _, _, rfl, rfl, mulW_ok (t120 zq.1.top) (b120 zq.2.bot), ?_⟩
          refine ⟨_, rfl, hi, _, _, _, rfl, rfl, rh', rfl, _, rfl, lo, _, _, _, rfl, rfl, rl', rfl, _, _, rfl, rfl, mulW_ok (t120 zq.2.top) (b120 zq.1.bot), ?_⟩
          refine ⟨_, _, rfl, rfl, ?_⟩
          refine ⟨_, rfl, lo, _, _, _, rfl, rfl, rl', rfl, _, _, rfl, rfl, mulW_ok (by decide) (b120 zq.1.bot), ?_⟩
          refine ⟨_, rfl, hi, _, _, _, rfl, rfl, rh', rfl, _, _, rfl, rfl, mulW_ok (lt_up m3 (by decide)) (b120 zq.2.bot), ?_⟩
          refine ⟨_, _, rfl, ⟨pos4, lt_up (add_small m1 m2) (by decide), lt_up m4 (by decide), fun mt G6 n6 s6 r6 => ?_⟩⟩
          rw [mid_eq] at r6
          obtain ⟨md, hmd⟩ : ∃ md, (q.lo + q.hi) / 2 = md := ⟨_, rfl⟩
          rw [hmd] at r6 szm mid
          have P6 := P5'.same s6
          have r6h := rt_hide P5' n6 s6 r6
          have g6 := (Same.but (p := p) s6).hide
          refine gn1 (σ' := [some (.ref p), some (.ref l), some (.ref D), some (.ref w7), some (.ref x), v5, v6, v7, some (.ref o), some (.ref lo), some (.ref hi), some (.str q.kind), some (.ref mt), none]) rfl ?_
          have fl6 := g6 _ _ fl5
          -- [(low, middle, kind)] + lot[1:]
          refine ⟨_, rfl, _, rfl, _, rfl, _, rfl, (by show 3 ≤ sizeLine; decide), fun q1 k1 => ?_⟩
          obtain ⟨F1, ef1, PF1, BF1, y1⟩ := mk_at (.tup [.ref lo, .ref mt, .str q.kind]) P6 k1
          rw [ef1]
          refine ⟨(by show 1 ≤ sizeLine; decide), fun q2 k2 => ?_⟩
          obtain ⟨F2, ef2, PF2, BF2, y2⟩ := mk_at (.lst [.ref q1]) PF1 k2
          rw [ef2]
          have h62 := BF1.hide.trans BF2.hide
          refine ⟨_, rfl, _, rfl, l, _, rfl, SqL.of (hide_same _ _ (h62 _ _ fl6)), fun q3 k3' => ?_⟩
          rw [cutA]
          obtain ⟨F3, ef3, PF3, BF3, y3⟩ := mk_at (.lst ((asg.map V.ref).drop 1)) PF2 k3'
          rw [ef3]
          have h63 := h62.trans BF3.hide
          refine ⟨q2, q3, _, _, rfl, rfl, hide_same _ _ (BF3.hide _ _ y2), hide_same _ _ y3, by rw [List.length_drop, sizeLine_eq]; show 1 + _ ≤ _; omega, fun q4 k4 => ?_⟩
          obtain ⟨F4, ef4, PF4, BF4, y4⟩ := mk_at (.lst ([.ref q1] ++ (asg.map V.ref).drop 1)) PF3 k4
          rw [ef4]
          have h64 := h63.trans BF4.hide
          -- [(middle, high, kind)] + lot[1:]
          refine ⟨_, rfl, _, rfl, _, rfl, (by show 3 ≤ sizeLine; decide), fun q5 k5' => ?_⟩
          obtain ⟨F5, ef5, PF5, BF5, y5⟩ := mk_at (.tup [.ref mt, .ref hi, .str q.kind]) PF4 k5'
          rw [ef5]
          refine ⟨(by show 1 ≤ sizeLine; decide), fun q6 k6' => ?_⟩
          obtain ⟨F6, ef6, PF6, BF6, y6⟩ := mk_at (.lst [.ref q5]) PF5 k6'
          rw [ef6]
          have h66 := h64.trans (BF5.hide.trans BF6.hide)
          refine ⟨_, rfl, _, rfl, l, _, rfl, SqL.of (hide_same _ _ (h66 _ _ fl6)), fun q7 k7' => ?_⟩
          rw [cutA]
          obtain ⟨F7, ef7, PF7, BF7, y7⟩ := mk_at (.lst ((asg.map V.ref).drop 1)) PF6 k7'
          rw [ef7]
          have h67 := h66.trans BF7.hide
          refine ⟨q6, q7, _, _, rfl, rfl, hide_same _ _ (BF7.hide _ _ y6), hide_same _ _ y7, by rw [List.length_drop, sizeLine_eq]; show 1 + _ ≤ _; omega, fun q8 k8' => ?_⟩
          obtain ⟨F8, ef8, PF8, BF8, y8⟩ := mk_at (.lst ([.ref q5] ++ (asg.map V.ref).drop 1)) PF7 k8'
          rw [ef8]
          refine ⟨(by show 2 ≤ sizeLine; decide), fun q9 k9' => ?_⟩
          obtain ⟨F9, ef9, PF9, BF9, y9⟩ := mk_at (.lst [.ref q4, .ref q8]) PF8 k9'
          rw [ef9]
          have h69 := h67.trans (BF8.hide.trans BF9.hide)
          obtain ⟨qs, fo, po⟩ := O5.ex
          have lq := paired_len po
          have hFull := g6.trans h69
          refine ⟨o, q9, _, _, rfl, rfl, hide_same _ _ (hFull _ _ fo), hide_same _ _ y9, by rw [List.length_map, ← lq, sizeLine_eq]; show _ + 2 ≤ _; omega, fun q10 k10' => ?_⟩
          obtain ⟨F10, ef10, PF10, BF10, y10⟩ := mk_at (.lst (qs.map V.ref ++ [.ref q4, .ref q8])) PF9 k10'
          rw [ef10]
          have hEnd := hFull.trans BF10.hide
          have h6e := h69.trans BF10.hide
          have BB : But p E4 F10 := B5.trans ((but_same s6).trans (BF1.trans (BF2.trans (BF3.trans (BF4.trans (BF5.trans (BF6.trans (BF7.trans (BF8.trans (BF9.trans BF10))))))))))
          have hF1 : Same (hide p F1) (hide p F10) := BF2.hide.trans (BF3.hide.trans (BF4.hide.trans (BF5.hide.trans (BF6.hide.trans (BF7.hide.trans (BF8.hide.trans (BF9.hide.trans BF10.hide)))))))
          have hF4 : Same (hide p F4) (hide p F10) := BF5.hide.trans (BF6.hide.trans (BF7.hide.trans (BF8.hide.trans (BF9.hide.trans BF10.hide))))
          have hF5 : Same (hide p F5) (hide p F10) := BF6.hide.trans (BF7.hide.trans (BF8.hide.trans (BF9.hide.trans BF10.hide)))
          have hF8 : Same (hide p F8) (hide p F10) := BF9.hide.trans BF10.hide
          have rlE := rl.on hEnd
          have rhE := rh.on hEnd
          have rmE := r6h.on h6e
          have cL : PcAt K (hide p F10) ⟨q.lo, md, q.k⟩ q1 := ⟨lo, mt, SqT.of (hF1 _ _ y1), rlE, rmE⟩
          have cR : PcAt K (hide p F10) ⟨md, q.hi, q.k⟩ q5 := ⟨mt, hi, SqT.of (hF5 _ _ y5), rmE, rhE⟩
          have prE := paired_drop 1 (pcs_on hEnd pr5)
          have restz : ∀ z ∈ ls.drop 1, PSz 500 z := fun z hz => psz500 sz z (List.mem_of_mem_drop hz)
          have ld : (ls.drop 1).length ≤ 6 := by rw [List.length_drop]; omega
          have szm5 := szm.mono (c := 500) (by decide)
          have zq5 : PSz 500 q := psz500 sz q mq
          refine ⟨_, _, _, _, q10, ots ++ [(⟨q.lo, md, q.k⟩ : Pc) :: ls.drop 1, (⟨md, q.hi, q.k⟩ : Pc) :: ls.drop 1], rfl, BB, PF10, ⟨⟨qs ++ [q4, q8], ?_, ?_⟩, ?_⟩, ?_, ?_⟩
          · rw [y10, List.map_append]
            rfl
          · refine paired_app2 (paired_imp (fun ms q' z => ?_) po) (.cons ⟨q1 :: asg.drop 1, ?_, .cons cL prE⟩ (.cons ⟨q5 :: asg.drop 1, ?_, .cons cR prE⟩ .nil))
            · obtain ⟨as', z1, z2⟩ := z
              exact ⟨as', hEnd _ _ z1, pcs_on hEnd z2⟩
            · rw [List.map_cons, List.map_drop]
              exact hF4 _ _ y4
            · rw [List.map_cons, List.map_drop]
              exact hF8 _ _ y8
          · intro ms hms
            rcases List.mem_append.mp hms with hms | hms
            · exact O5.good ms hms
            · simp only [List.mem_cons, List.not_mem_nil, or_false] at hms
              rcases hms with rfl | rfl
              · refine ⟨row'.cutL mid.1 mid.2, by rw [List.length_cons]; omega, fun z hz => ?_⟩
                rcases List.mem_cons.mp hz with rfl | hz
                · exact ⟨zq5.1, szm5⟩
                · exact restz z hz
              · refine ⟨row'.cutR mid.1 mid.2, by rw [List.length_cons]; omega, fun z hz => ?_⟩
                rcases List.mem_cons.mp hz with rfl | hz
                · exact ⟨szm5, zq5.2⟩
                · exact restz z hz
          · rw [List.length_append]
            omega
          · rw [List.length_append]
            show _ + 2 ≤ _
            omega
        · rintro σ G5 ⟨v9, v10, v11, v12, o, ots, rfl, B5, P5', O5, o2, oi⟩
          have o4 : ots.length ≤ 4 := by
            rw [List.length_take] at oi
            omega
          obtain ⟨qs, fo, po⟩ := O5.ex
          have lq := paired_len po
          refine ⟨_, rfl, _, rfl, _, rfl, o, _, rfl, .inl (SqL.of (hide_same _ _ fo)), ?_⟩
          refine ⟨p, ((qs.map V.ref).length : Int), c3, rfl, P5', by omega, by rw [List.length_map, ← lq]; omega, by rw [List.length_map, ← lq]; omega, fun d c6 H6 d0 d1 k6 P6 B6 => ?_⟩
          have fo6 := B6.hide _ _ fo
          obtain ⟨v, hat, mv⟩ := at_mem d0 d1
          obtain ⟨j, hj⟩ := List.getElem?_of_mem mv
          obtain ⟨e, he, rfl⟩ := get_map hj
          obtain ⟨ms, hms, ⟨as6, fe, pe⟩⟩ := pc_get po he
          obtain ⟨rowm, lm, szm⟩ := O5.good ms (List.mem_of_getElem? hms)
          refine ⟨o, _, _, .ref e, rfl, rfl, SqL.of (hide_same _ _ fo6), hat, ?_⟩
          refine gn1 (σ' := [some (.ref p), some (.ref l), some (.ref D), some (.ref w7), some (.ref x), v5, v6, v7, some (.ref o), v9, v10, v11, v12, some (.ref e)]) rfl ?_
          have BT : But p C6 H6 := BG.trans (BE1.trans ((but_same s').trans (BE3.trans (BE4.trans (B5.trans B6)))))
          have JX : JoinAt K C H6 x ls := (JH.on BT.hide).on (hide_same (p := p))
          obtain ⟨asx, flx', prx'⟩ := (LH5.on BT.hide).ex
          have flx := hide_same _ _ flx'
          have prx := pcs_on (hide_same (p := p)) prx'
          have lax := paired_len prx
          have fe6 : H6 e = some (.lst (as6.map V.ref)) := hide_same _ _ (B6.hide _ _ fe)
          have pe6 : PcsAt K H6 ms as6 := pcs_on hide_same (pcs_on B6.hide pe)
          have LM : LotAt K H6 e ms ms := ⟨⟨as6, SqL.of fe6, pe6⟩, ⟨List.Perm.refl _, rowm⟩, by omega, szm⟩
          refine ⟨_, rfl, _, rfl, ?_⟩
          intro y dy hy hdy ney
          refine ⟨y, dy, e, H6, ms, ms, rfl, upd_same, same_at hy (same_at hdy (Same.refl _)), hy, LM, fun H7 S7 J7' => ⟨rfl, ?_⟩⟩
          obtain ⟨dy7, _, _, _, i7, _⟩ := id J7'.ex
          obtain ⟨dx7, q7, _, bs7, ix7, pc7, pp7, _⟩ := id JX.ex
          refine ⟨x, dx7, _, y, dy7, _, rfl, rfl, S7 _ _ ix7, i7, x, y, ls, ms, rfl, JX.on S7, J7', ?_⟩
          refine ⟨_, rfl, ?_⟩
          refine ⟨_, rfl, _, rfl, dPcsL ms, dPcsL ls, .lst (SqL.of (S7 _ _ fe6)) (pcs_dp (pcs_on S7 pe6)), .lst (SqL.of (S7 _ _ flx)) (pcs_dp (pcs_on S7 prx)), pcsL_shp _, pcsL_shp _, ?_⟩
          refine ⟨_, rfl, ?_⟩
          have eb : PyData.eqv (dPcsL ms) (dPcsL ls) = decide (ls = ms) := by
            rw [pcsL_eqv]
            exact decide_eq_decide.mpr eq_comm
          refine ⟨rfl, _, rfl, ?_⟩
          refine if_yes (by rw [eb]; exact decide_eq_true rfl) ?_
          refine ⟨_, rfl, _, rfl, x, dx7, _, l, _, rfl, rfl, S7 _ _ ix7, S7 _ _ flx, x, l, _, rfl, S7 _ _ flx, ?_⟩
          refine ⟨_, rfl, _, rfl, ?_⟩
          refine if_yes rfl ?_
          refine ⟨_, rfl, x, C, dx7, _, _, rfl, S7 _ _ ix7, T.cl, T.nP, rfl, _, rfl, l, _, rfl, .inl ⟨SqL.of (S7 _ _ flx), fun t8 n8 => ?_⟩⟩
          obtain ⟨H8, e8, S8, f8⟩ := mk_s (.tup (asx.map V.ref)) n8
          rw [e8]
          have S78 := S7.trans S8
          refine ⟨dPcs ls, dPcs ls, .tup (sqt_on pc7 S78) (pcs_dp (pcs_on S78 pp7)), .tup (SqT.of f8) (pcs_dp (pcs_on S78 prx)), pcs_shp _, pcs_shp _, ?_⟩
          rw [pcs_eqv, decide_eq_true rfl]
          exact h.fin c6 _ (by omega) (P6.same S78) (B1.trans (B15.trans (BT.trans (but_same S78))))
end
end G1
set_option maxHeartbeats 4000000
namespace G1
open PySem PySem.Spec PyProof.Rows L2 JN
/-! ### degrees -/
section
variable {P : Program} {w : World} {K : PySem.W.Frag} {mg : Str → Option Value} {base : Heap} {C fI : Addr}
theorem scDegree : FnScope ["top", "bottom", "shared"] ["top", "bottom"] (defScope sDegree) := ⟨rfl, rfl, rfl, by decide +kernel, rfl, by decide +kernel, by decide +kernel⟩
theorem cl_degree (D : DefAt K mg "degree" sDegree) (gcd : mg "gcd" = some (.builtin "math.gcd")) (T : ErrD K mg C fI) (cW : Cl CX0 P w K mg base 1 "is_whole" ["thing"] spWhole) : Cl (L2.CX P w) P w K mg base 4 "degree" ["top", "bottom"] (spDegree C) := by
  obtain ⟨f, fd, F, hm⟩ := D
  obtain ⟨fdI, FI⟩ := T.fn
  refine cl_of F hm (F.ok scDegree (fun vs H Q E h => ?_) (fun cdv A outer s H vs Q E hr h => ⟨_, pss_cons
      (ps_if (PW.pt (pw_or (pt_not (pt_val (pe_c0 cW hr (by decide) (by rfl) (pa_cons (pv 0) pa_nil)))) (pw_or1 (pt_cmpR op_lt (pv 0) pe_int (nomark _)))))
        (pss_one (ps_raise rfl (takes_of rfl rfl rfl rfl) (pmk_oex T.ox T.iC T.tI (ok_errD T FI) (hr.mono (by decide)) (err_bindsD FI) .nil pass0 (by rfl) T.gC (pa_cons (pv 0) pa_nil)))) pss_nil)
      (pss_cons (ps_if (PW.pt (pw_or (pt_not (pt_val (pe_c0 cW hr (by decide) (by rfl) (pa_cons (pv 1) pa_nil)))) (pw_or1 (pt_cmpR op_lt (pv 1) pe_int (nomark _)))))
        (pss_one (ps_raise rfl (takes_of rfl rfl rfl rfl) (pmk_oex T.ox T.iC T.tI (ok_errD T FI) (hr.mono (by decide)) (err_bindsD FI) .nil pass0 (by rfl) T.gC (pa_cons (pv 1) pa_nil)))) pss_nil)
      (pss_cons (ps_if (pt_cmpR op_gt (pv 0) (pv 1) (nomark _))
        (pss_one (ps_raise rfl (takes_of rfl rfl rfl rfl) (pmk_oex T.ox T.iC T.tI (ok_errD T FI) (hr.mono (by decide)) (err_bindsD FI) .nil pass0 (by rfl) T.gC (pa_cons (pe_tup (pa_cons (pv 0) (pa_cons (pv 1) pa_nil))) pa_nil)))) pss_nil)
      (pss_cons (ps_set (i := 2) scDegree.nd rfl (Or.inl rfl) (pe_callBfun cr_gcd (by rfl) gcd (pa_cons (pv 0) (pa_cons (pv 1) pa_nil))))
      (pss_one (ps_ret (pe_tup (pa_cons (pe_op op_fdivW (pv 0) (pv 2)) (pa_cons (pe_op op_fdivW (pv 1) (pv 2)) pa_nil)))))))), ?_⟩)) fun _ _ _ _ _ _ us hl => match us, hl with | [_, _], _ => rfl
  · obtain ⟨x, y, rfl, _⟩ := h
    rfl
  · obtain ⟨x, y, rfl, kx, ky, h⟩ := h
    refine ⟨_, rfl, x, rfl, kx, _, rfl, ?_⟩
    rcases h with ⟨h1, r⟩ | h
    · rcases h1 with h1 | ⟨i, rfl, hi⟩
      · rw [h1]
        exact iteT (iteT ⟨_, rfl, len1 _, fun a ha => mk_rs r a ha⟩)
      · refine iteF ?_
        refine ⟨_, rfl, _, _, rfl, rfl, _, rfl, ?_⟩
        rw [decide_eq_true hi]
        exact iteT ⟨_, rfl, len1 _, fun a ha => mk_rs r a ha⟩
    · have hx : ∃ i : Int, x = .int i ∧ 0 ≤ i := by
        rcases h with ⟨h, _⟩ | ⟨i, _, rfl, _⟩ | ⟨i, _, rfl, _⟩
        · exact h
        · exact ⟨i, rfl, by omega⟩
        · exact ⟨i, rfl, by omega⟩
      obtain ⟨i, rfl, i0⟩ := hx
      refine iteF ?_
      refine ⟨_, rfl, _, _, rfl, rfl, _, rfl, ?_⟩
      rw [decide_eq_false (show ¬ i < 0 by omega)]
      refine iteF ?_
      refine ⟨_, rfl, y, rfl, ky, _, rfl, ?_⟩
      rcases h with ⟨_, h1, r⟩ | h
      · rcases h1 with h1 | ⟨j, rfl, hj⟩
        · rw [h1]
          exact iteT (iteT ⟨_, rfl, len1 _, fun a ha => mk_rs r a ha⟩)
        · refine iteF ?_
          refine ⟨_, rfl, _, _, rfl, rfl, _, rfl, ?_⟩
          rw [decide_eq_true hj]
          exact iteT ⟨_, rfl, len1 _, fun a ha => mk_rs r a ha⟩
      · rcases h with ⟨i', j, e1, rfl, j0, hij, r⟩ | ⟨i', j, e1, rfl, j0, j1, hij, q⟩
        · obtain rfl : i = (i' : Int) := V.int.inj e1
          refine iteF ?_
          refine ⟨_, rfl, _, _, rfl, rfl, _, rfl, ?_⟩
          rw [decide_eq_false (show ¬ (j : Int) < 1 by omega)]
          refine iteF ?_
          refine ⟨_, rfl, _, rfl, _, _, rfl, rfl, _, rfl, ?_⟩
          rw [decide_eq_true (show (j : Int) < i' by omega)]
          refine iteT ?_
          refine ⟨_, rfl, _, rfl, (by show 2 ≤ sizeLine; decide), fun t ht => ⟨len1 _, fun a ha => mk_rs (r t _ ht (fun b o e => ?_) upd_same) a ha⟩⟩
          rw [upd_ne (ne_of_none e ht)]
          exact e
        · obtain rfl : i = (i' : Int) := V.int.inj e1
          have g0 : 0 < Nat.gcd i' j := Nat.gcd_pos_of_pos_right i' j0
          have g1 : Nat.gcd i' j ≤ j := Nat.gcd_le_right i' j0
          have dv : ∀ z : Int, CDivW z ((Nat.gcd i' j : Nat) : Int) := fun z => wide_div (b := 80) (by omega) (by rw [Int.natAbs_natCast]; omega) (by decide) (by decide)
          refine iteF ?_
          refine ⟨_, rfl, _, _, rfl, rfl, _, rfl, ?_⟩
          rw [decide_eq_false (show ¬ (j : Int) < 1 by omega)]
          refine iteF ?_
          refine ⟨_, rfl, _, rfl, _, _, rfl, rfl, _, rfl, ?_⟩
          rw [decide_eq_false (show ¬ (j : Int) < i' by omega)]
          refine iteF ?_
          exact ⟨_, rfl, _, rfl, (i' : Int), (j : Int), rfl, _, rfl, _, rfl, _, _, rfl, rfl, dv _, _, rfl, _, rfl, _, _, rfl, rfl, dv _, (by show 2 ≤ sizeLine; decide), fun t ht => q t ht⟩
end
end G1
set_option maxHeartbeats 8000000
namespace G1
open PySem PySem.Spec PyProof.Rows L2 JN
theorem dlt {a b n : Int} (h : 0 < n) (l : a < b) : Rat.divInt a n < Rat.divInt b n := by
  have hn : (0 : Rat) < (n : Rat) := by exact_mod_cast h
  have hl : (a : Rat) < (b : Rat) := by exact_mod_cast l
  rw [Rat.divInt_eq_div, Rat.divInt_eq_div, Rat.div_lt_iff hn]
  have : (b : Rat) / n * n = b := Rat.div_mul_cancel (by grind)
  rw [this]
  exact hl
theorem dle {a b n : Int} (h : 0 < n) (l : a ≤ b) : Rat.divInt a n ≤ Rat.divInt b n := by
  rcases Int.lt_or_eq_of_le l with l | l
  · have := dlt h l
    grind
  · rw [l]
    grind
/-- count sums of equal width -/
def sumPc (n i : Nat) : Pc := ⟨Rat.divInt i n, Rat.divInt ((i + 1 : Nat) : Int) n, true⟩
def sumRow (n : Nat) : List Pc := (List.range n).map (sumPc n)
theorem sumRow_ok {n : Nat} (h : 0 < n) : Row (sumRow n) := by
  have hn : (0 : Int) < (n : Int) := by omega
  refine ⟨fun p hp => ?_, List.pairwise_map.mpr (List.pairwise_lt_range.imp fun {i j} l => ?_)⟩
  · obtain ⟨i, hi, rfl⟩ := List.mem_map.mp hp
    have hi2 := List.mem_range.mp hi
    refine ⟨?_, dlt hn (by omega), ?_⟩
    · have := dle hn (show (0 : Int) ≤ (i : Int) by omega)
      rw [Rat.zero_divInt] at this
      exact this
    · have := dle hn (show ((i + 1 : Nat) : Int) ≤ (n : Int) by omega)
      rw [Rat.divInt_self' (by omega)] at this
      exact this
  · exact dle hn (by omega)
theorem sumRow_sz {n : Nat} (h : 0 < n) (hn : n ≤ 1000) : ∀ p ∈ sumRow n, PSz 120 p := by
  intro p hp
  obtain ⟨i, hi, rfl⟩ := List.mem_map.mp hp
  have hi2 := List.mem_range.mp hi
  have s1 : Sz 10 (Rat.divInt (i : Int) (n : Int)) := div_sz (by omega) (by omega) (by omega)
  have s2 : Sz 10 (Rat.divInt ((i + 1 : Nat) : Int) (n : Int)) := div_sz (by omega) (by omega) (by omega)
  exact ⟨s1.mono (by decide), s2.mono (by decide)⟩
theorem sumRow_len (n : Nat) : (sumRow n).length = n := by
  unfold sumRow
  rw [List.length_map, List.length_range]
/-- a degree of two numbers -/
theorem deg_rt {K : PySem.W.Frag} {H : Hp} {t : Addr} {i j : Nat} (hj : 0 < j) (e : H t = some (.tup [.int (i / Nat.gcd i j : Nat), .int (j / Nat.gcd i j : Nat)])) : RtAt K H (Rat.divInt i j) t := by
  have hj2 : (0 : Int) < (j : Int) := by omega
  refine SqT.of ?_
  rw [div_num hj2, div_den hj2]
  exact e
def spSums (K : PySem.W.Frag) (C : Addr) : Sp := fun vs H Q _ => ∃ n : Nat, vs = [.int n] ∧ 0 < n ∧ n ≤ 1000 ∧ ∀ a H', Same H H' → JoinAt K C H' a (sumRow n) → Q (.ref a) H'
section
variable {P : Program} {w : World} {K : PySem.W.Frag} {mg : Str → Option Value} {base : Heap} {C CD : Addr}
theorem scSums : FnScope ["count", "at"] ["count"] (defScope sSums) := ⟨rfl, rfl, rfl, by decide +kernel, rfl, by decide +kernel, by decide +kernel⟩
theorem cl_sums (D : DefAt K mg "sums" sSums) (B : Blt mg) (T : JoinTxt K mg C) (M : MakerJ P w K mg base C) (cW : Cl CX0 P w K mg base 1 "is_whole" ["thing"] spWhole) (cD : Cl (L2.CX P w) P w K mg base 4 "degree" ["top", "bottom"] (spDegree CD)) :
    Cl CX0 P w K mg base 7 "sums" ["count"] (spSums K C) := by
  obtain ⟨f, fd, F, hm⟩ := D
  obtain ⟨fI, fdI, e0, d1, MM, FI, h0, b0, b1, v1⟩ := M.ex
  refine cl_of F hm (F.ok scSums (fun vs H Q E h => ?_) (fun cdv A outer s H vs Q E hr h => ⟨_, PSs.nox (pss_cons
      (ps_if (PW.pt (pw_or (pt_not (pt_val (pe_c0 cW hr (by decide) (by rfl) (pa_cons (pv 0) pa_nil)))) (pw_or1 (pt_cmpR op_lt (pv 0) pe_int (nomark _))))) (pss_one ps_never) pss_nil)
      (pss_one (ps_ret (pe_make (E := E0) MM FI (hr.mono (by decide)) (by rfl) T.gC b0 .nil pass0 (pa_cons
        (pe_lc (own := [("at", 1)]) (g := gName 1) (tt := tYes) (by rfl) scSums.nd (pi_range1 (by rfl) B.range (pa_cons (pv 0) pa_nil)) (blkOk_by (N := ["count", "at"]) (sc := defScope sSums) (by decide +kernel))
          (fun _ _ _ _ _ => pg_name (i := 1) scSums.nd rfl (Or.inl rfl)) (fun _ _ _ _ _ => pts_nil)
          (fun _ _ _ _ _ => pe_tup (pa_cons (pe_cX cD hr (by decide) (by rfl) (pa_cons (pv 1) (pa_cons (pv 0) pa_nil))) (pa_cons (pe_cX cD hr (by decide) (by rfl) (pa_cons (pe_op op_add (pv 1) pe_int) (pa_cons (pv 0) pa_nil))) (pa_cons pe_str pa_nil)))))
        pa_nil))))), ?_⟩)) fun _ _ _ _ _ _ us hl => match us, hl with | [_], _ => rfl
  · obtain ⟨n, rfl, _⟩ := h
    rfl
  · obtain ⟨n, rfl, n0, n1, q⟩ := h
    refine ⟨_, rfl, _, rfl, trivial, _, rfl, iteF ?_⟩
    refine ⟨_, rfl, _, _, rfl, rfl, _, rfl, ?_⟩
    rw [decide_eq_false (show ¬ (n : Int) < 1 by omega)]
    refine iteF ?_
    refine ⟨_, rfl, n, rfl, by omega, by omega, fun D nD => ?_⟩
    refine lc_range (lo := 0) (n := ((n : Nat) : Int).toNat) (fun i G => Same H G ∧ ∃ as : List Addr, G D = some (.lst (as.map V.ref)) ∧ PcsAt K G ((List.range i).map (sumPc n)) as) ⟨same_at nD (Same.refl _), [], upd_same, .nil⟩ ?_ ?_
    · rintro i G hi ⟨sG, as, fD, pr⟩
      have hi2 : i < n := by omega
      refine ⟨rfl, yes_to ?_⟩
      rw [if_pos rfl]
      have ei : (0 : Int) + (i : Int) = (i : Int) := by omega
      refine ⟨_, rfl, _, rfl, _, _, rfl, trivial, trivial, .inr (.inr (.inr ⟨i, n, congrArg V.int ei, rfl, n0, by omega, by omega, fun t1 m1 => ?_⟩))⟩
      obtain ⟨G1, e1, s1, f1⟩ := mk_s (.tup [.int (i / Nat.gcd i n : Nat), .int (n / Nat.gcd i n : Nat)]) m1
      rw [e1]
      refine ⟨_, rfl, _, _, rfl, rfl, _, rfl, _, _, rfl, trivial, trivial, .inr (.inr (.inr ⟨i + 1, n, congrArg V.int (by omega), rfl, n0, by omega, by omega, fun t2 m2 => ?_⟩))⟩
      obtain ⟨G2, e2, s2, f2⟩ := mk_s (.tup [.int ((i + 1) / Nat.gcd (i + 1) n : Nat), .int (n / Nat.gcd (i + 1) n : Nat)]) m2
      rw [e2]
      refine ⟨(by show 3 ≤ sizeLine; decide), fun t3 m3 => ?_⟩
      obtain ⟨G3, e3, s3, f3⟩ := mk_s (.tup [.ref t1, .ref t2, .str "sum"]) m3
      rw [e3]
      have s13 := s1.trans (s2.trans s3)
      have la : as.length = i := by
        have := Paired.length pr
        rw [List.length_map, List.length_range] at this
        omega
      have nDG : H D = none := nD
      refine ⟨_, s13 _ _ fD, by rw [List.length_map, sizeLine_eq]; omega, same_at nDG (sG.trans s13), as ++ [t3], ?_, ?_⟩
      · rw [upd_same, List.map_append]
        rfl
      · have neD : ∀ {b : Addr} {o : HO}, G3 b = some o → (∀ xs, o ≠ .lst xs) → upd G3 D (.lst (as.map V.ref ++ [.ref t3])) b = some o := fun {b o} e n => by
          refine (upd_ne fun z => ?_).trans e
          rw [z, s13 _ _ fD] at e
          cases e
          exact n _ rfl
        have lift : ∀ {xs : List V} {b : Addr}, SqT K G3 b xs → SqT K (upd G3 D (.lst (as.map V.ref ++ [.ref t3]))) b xs := fun {xs b} z => match z with
          | .inl (.inl z) => .inl (.inl (neD z (fun _ => nofun)))
          | .inl (.inr ⟨o, z⟩) => .inl (.inr ⟨o, neD z (fun _ => nofun)⟩)
          | .inr z => .inr z
        rw [List.range_succ, List.map_append]
        refine paired_snoc1 (paired_imp (fun p a z => ?_) (pcs_on s13 pr)) ?_
        · obtain ⟨l, u, h1, h2, h3⟩ := z
          exact ⟨l, u, lift h1, lift h2, lift h3⟩
        · exact ⟨t1, t2, lift (SqT.of f3), lift ((deg_rt n0 f1).on (s2.trans s3)), lift ((deg_rt n0 f2).on s3)⟩
    · rintro G ⟨sG, as, fD, pr⟩
      have fn : ((n : Nat) : Int).toNat = n := by omega
      rw [fn] at pr
      intro x dx hx hdx ne
      have L : LotAt K G D (sumRow n) (sumRow n) := ⟨⟨as, SqL.of fD, pr⟩, ⟨List.Perm.refl _, sumRow_ok n0⟩, by rw [sumRow_len]; exact n1, psz500 (sumRow_sz n0 n1)⟩
      exact made_join hx hdx L fun H' s j => q x H' (sG.trans s) j
end
end G1
set_option maxHeartbeats 8000000
namespace G1
open PySem PySem.Spec PyProof.Rows L2
/-! ### what the head tells -/
def oexB (K : PySem.W.Frag) (C : Addr) : Bool :=
  (match K.lookup C with
  | some ⟨.type "type", _, .cls info, slots⟩ =>
    (match info.mro, slots.toList with
    | .ref first :: rest, [_, _, _, _, some (.builtin maker), _] => first == C && (maker == "ValueError.__new__" && (!info.hasDel && (PySem.HandSPX.refsVE rest && info.hasDict)))
    | _, _ => false)
  | _ => false) && (He.eqO (PySem.W.findIn K (.ref C) "__setattr__") (some (some (.builtin "object.__setattr__"))) && (decide (PySem.W.subIn K (.ref C) (.type "BaseException") = some true) && (decide (PySem.W.typeIn K (.ref C) = some (.type "type")) && PySem.W.keepIn K (.ref C))))
theorem oexB_ok {K : PySem.W.Frag} {C : Addr} (h : oexB K C = true) : OexC K C := by
  obtain ⟨laid, h⟩ := He.ba h
  obtain ⟨stores, h⟩ := He.ba h
  obtain ⟨below, h⟩ := He.ba h
  obtain ⟨kind, keeps⟩ := He.ba h
  refine ⟨?_, He.eqO_ok stores, of_decide_eq_true below, of_decide_eq_true kind, keeps⟩
  split at laid
  · rename_i own info slots stands
    split at laid
    · rename_i first rest s0 s1 s2 s3 maker s5 order made
      obtain ⟨g1, laid⟩ := He.ba laid
      obtain ⟨g2, laid⟩ := He.ba laid
      obtain ⟨g3, laid⟩ := He.ba laid
      obtain ⟨g4, g5⟩ := He.ba laid
      have e1 := eq_of_beq g1
      have e2 := eq_of_beq g2
      subst e1 e2
      obtain ⟨nm, bs, mro, ns, qn, hasDict, sn, sub, ab, col, hasDel⟩ := info
      cases hasDel with
      | true => cases g3
      | false =>
        cases hasDict with
        | false => cases g5
        | true =>
          cases order
          obtain ⟨l⟩ := slots
          cases made
          exact ⟨nm, qn, ns, bs, rest, sn, sub, ab, col, own, s0, s1, s2, s3, s5, stands, g4⟩
    · cases laid
  · cases laid
/-- an error of one field, x -/
def errB (nm x : Str) (K : PySem.W.Frag) : Bool :=
  oexB K (He.ga K nm) && (xfB K (He.ga K nm) && (He.eqO (PySem.W.findIn K (.ref (He.ga K nm)) x) (some none) && (He.eqO (PySem.W.findIn K (.ref (He.ga K nm)) "__init__") (some (some (.ref (He.ma K (He.ga K nm) "__init__")))) &&
  (decide (PySem.W.typeIn K (.ref (He.ma K (He.ga K nm) "__init__")) = some (.type "function")) && decide (PySem.W.exmOne K (.ref (He.ga K nm)) (.ref (He.ga K nm)) = some true)))))
theorem errB_ok {K : PySem.W.Frag} {mg : Str → Option Value} {nm x qual : Str} {st : Stmt} (h : errB nm x K = true) (g : mg nm = some (.ref (He.ga K nm)))
    (fn : ∃ fd, FunD K "__init__" qual (defArgs st) (defBody st) (defScope st) [] [] (He.ma K (He.ga K nm) "__init__") fd) : ErrG K mg nm x qual st (He.ga K nm) (He.ma K (He.ga K nm) "__init__") := by
  obtain ⟨h1, h⟩ := He.ba h
  obtain ⟨h2, h⟩ := He.ba h
  obtain ⟨h3, h⟩ := He.ba h
  obtain ⟨h4, h⟩ := He.ba h
  obtain ⟨h5, h6⟩ := He.ba h
  exact ⟨oexB_ok h1, xfB_ok h2, g, He.eqO_ok h3, He.eqO_ok h4, of_decide_eq_true h5, of_decide_eq_true h6, fn⟩
def sysB (K : PySem.W.Frag) : Bool := (K.lookup sysModules).isSome
def gcdB (K : PySem.W.Frag) : Bool := He.eqO (PySem.W.nsIn K mainGlobals "gcd") (some (some (.builtin "math.gcd")))
/-- a class of one's own, as isinstance, == and format look at it -/
def ownB (nm : Str) (K : PySem.W.Frag) : Bool :=
  He.eqO (PySem.W.findIn K (.ref (He.ga K nm)) "__ne__") (some (some (.builtin "object.__ne__"))) && (decide (PySem.W.mroIn K (He.ga K nm) (.type "object") = some true) &&
  (PySem.W.selfFirst K (He.ga K nm) && (He.eqO (PySem.W.findIn K (.ref (He.ga K nm)) "__class__") (some (some (.builtin "object.__class__"))) &&
  (He.eqO (PySem.W.specialIn K (.builtin "object.__class__") "__get__") (some (some (.builtin "getset_descriptor.__get__"))) && (decide (PySem.W.takesIn K (.builtin "object.__class__") = some true) &&
  ((["NoneType", "bool", "int", "str", "list", "tuple", "dict"].all fun n => decide (PySem.W.kitOne K (.type n) (.ref (He.ga K nm)) = some false)) && He.eqO (PySem.W.findIn K (.ref (He.ga K nm)) "__format__") (some (some (.builtin "object.__format__")))))))))
theorem ownB_ok {K : PySem.W.Frag} {nm : Str} (h : ownB nm K = true) : OwnF K (He.ga K nm) := by
  obtain ⟨h1, h⟩ := He.ba h
  obtain ⟨h2, h⟩ := He.ba h
  obtain ⟨h3, h⟩ := He.ba h
  obtain ⟨h4, h⟩ := He.ba h
  obtain ⟨h5, h⟩ := He.ba h
  obtain ⟨h6, h⟩ := He.ba h
  obtain ⟨h7, h8⟩ := He.ba h
  exact ⟨He.eqO_ok h1, of_decide_eq_true h2, h3, He.eqO_ok h4, He.eqO_ok h5, of_decide_eq_true h6, fun n hn => of_decide_eq_true (List.all_eq_true.mp h7 n hn), He.eqO_ok h8⟩
/-- a table of the top, its values by key -/
def tabB (x : Str) (kvs : List (Str × He.Dv)) (K : PySem.W.Frag) : Bool := He.valsB K (He.ga K x) kvs
theorem tab_kd {K : PySem.W.Frag} {w : World} {x : Str} {kvs : List (Str × He.Dv)} (h : tabB x kvs K = true) (t : ∃ es n, KDict K w (He.ga K x) es n) {q : Str × He.Dv} (hq : q ∈ kvs) : KDct K w (He.ga K x) q.1 (q.2.v K) := by
  obtain ⟨es, n, D⟩ := t
  obtain ⟨u, h1, h2⟩ := He.valsB_ok h hq
  exact ⟨es, n, u, D.at_, D.lit, h1, h2⟩
/-- an empty tuple -/
def emptB (K : PySem.W.Frag) (a : Addr) : Bool := match K.lookup a with
  | some ⟨.type c, _, .seq its _, _⟩ => decide (c = "tuple") && (decide (its.size ≤ sizeLine) && He.relAll [] its.toList)
  | _ => false
theorem emptB_ok {K : PySem.W.Frag} {a : Addr} (h : emptB K a = true) (H : Hp) : SqT K H a [] := by
  unfold emptB at h
  split at h
  · rename_i c dk its n sl q
    obtain ⟨h1, h2⟩ := He.ba h
    obtain ⟨h3, h4⟩ := He.ba h2
    exact .inr ⟨_, its, n, q, congrArg Value.type (of_decide_eq_true h1), rfl, of_decide_eq_true h3, He.relAll_ok h4⟩
  · cases h
abbrev Ex : Type := PySem.W.Frag → Bool
def obsX (fa : List He.Fa) (fn : List He.DefD) (ts : List He.Tab) (ex : List Ex) (K : PySem.W.Frag) : He.AlT :=
  (((ex.all fun e => e K) && (He.obsT fa fn ts K).1.1, (He.obsT fa fn ts K).1.2), (He.obsT fa fn ts K).2)
def frX (n : Nat) (g : Addr → Option Obj) : PySem.W.Frag := He.frG g (sysModules :: He.asD g n)
/-- what of the program's top the proof leans on -/
structure Told (fa : List He.Fa) (fn : List He.DefD) (ts : List He.Tab) (ex : List Ex) (w : World) (K : PySem.W.Frag) : Prop where
  more : ∀ e ∈ ex, e K = true
  says : He.SaysT fa fn ts w K
theorem Told.ex {fa : List He.Fa} {fn : List He.DefD} {ts : List He.Tab} {ex : List Ex} {w : World} {K : PySem.W.Frag} (t : Told fa fn ts ex w K) (i : Nat) {e : Ex} (h : ex[i]? = some e := by rfl) : e K = true := t.more e (List.mem_of_getElem? h)
def hookX (n : Nat) (fa : List He.Fa) (fn : List He.DefD) (ts : List He.Tab) (ex : List Ex) : PySem.W.Hook where
  α := He.AlT
  obs := fun s => obsX fa fn ts ex (frX n s.heap.get?)
  val := fun w => He.valT fn ts w
  says := fun w h => ∃ K : PySem.W.Frag, K.In h ∧ Told fa fn ts ex w K
  of := fun w s e => by
    have e1 : ((ex.all fun e => e (frX n s.heap.get?)) && (He.obsD fa fn (frX n s.heap.get?)).1) = true := congrArg (fun z : He.AlT => z.1.1) e
    have e2 : (He.obsD fa fn (frX n s.heap.get?)).2 = fn.map He.DefD.val := congrArg (fun z : He.AlT => z.1.2) e
    have e0 : obsX fa fn ts ex (frX n s.heap.get?) = He.valT fn ts w := e
    have e3 := congrArg (fun z : He.AlT => z.2) e0
    obtain ⟨h1, h2⟩ := He.ba e1
    exact ⟨frX n s.heap.get?, He.frG_in, fun x hx => List.all_eq_true.mp h1 x hx, Prod.ext (Prod.ext h2 e2) e3⟩
  keeps := fun _ _ _ z k => z.elim fun K c => ⟨K, PySem.W.Frag.In.keeps c.1 k, c.2⟩
def dd (x : Str) (st : Stmt) : He.DefD := ⟨(x, none), x, x, defArgs st, defBody st, defScope st, [], []⟩
def dm (C m q : Str) (st : Stmt) (dfl : List He.Dv) : He.DefD := ⟨(C, some m), m, q, defArgs st, defBody st, defScope st, dfl, []⟩
def obX (n : Nat) (fa : List He.Fa) (fn : List He.DefD) (ts : List He.Tab) (ex : List Ex) (s : PySem.W.SharedT) : He.AlT := obsX fa fn ts ex (frX n (HandSHeadRun.getT s))
theorem obX_eq {n : Nat} {fa : List He.Fa} {fn : List He.DefD} {ts : List He.Tab} {ex : List Ex} (s : PySem.W.SharedT) : obX n fa fn ts ex s = (hookX n fa fn ts ex).obs s.abs := by
  have e : HandSHeadRun.getT s = s.abs.heap.get? := funext (HandSHeadRun.getT_eq s)
  show obsX fa fn ts ex (frX n (HandSHeadRun.getT s)) = obsX fa fn ts ex (frX n s.abs.heap.get?)
  rw [e]
section
variable {fa : List He.Fa} {fn : List He.DefD} {ts : List He.Tab} {ex : List Ex} {w : World} {K : PySem.W.Frag} {h : Heap} {mg : Str → Option Value}
theorem at_def (X : K.In h) (G : h.Ns mainGlobals mg) (t : Told fa fn ts ex w K) {x : Str} {st : Stmt} (i j : Nat) (hi : fn[i]? = some (dd x st)) (hj : fa[j]? = some (.glo x)) : DefAt K mg x st := by
  obtain ⟨fd, F⟩ := t.says.d.def_ i hi
  exact ⟨He.ga K x, fd, F, He.glo_ok X G (t.says.d.fact j hj)⟩
theorem at_meth (t : Told fa fn ts ex w K) {C m q : Str} {st : Stmt} (i j : Nat) (hi : fn[i]? = some (dm C m q st [])) (hj : fa[j]? = some (.meth C m)) :
    ∃ (f : Addr) (fd : FuncData), Meth K (He.ga K C) m f ∧ FunD K m q (defArgs st) (defBody st) (defScope st) [] [] f fd := by
  obtain ⟨fd, F⟩ := t.says.d.def_ i hi
  exact ⟨_, fd, He.meth_ok (t.says.d.fact j hj), F⟩
end
theorem walk_ofG {l : PySem.W.OpenLaw} {n k : Nat} {q : Program} {loose : List Str} {XP : (Str → Option Value) → Heap → Prop} {YP : World → Heap → Prop} {d : DefRec} {x : Str} (hn : l.most = some n) (hn2 : n ≤ sizeLine) (hdf : d.params.defaults = []) (hr : Room k callerA)
    (all : ∀ (w : World) (mg : Str → Option Value) (fa : Addr) (h : Heap), YP w h → h.Ns mainGlobals mg → mg d.name = some (.ref fa) →
      ∃ (K : PySem.W.Frag) (fd : FuncData) (sp : Sp), K.In h ∧ (∀ (s : Shared) (u : Value), BindsTo s fd ⟨[u], []⟩ [(x, u)]) ∧ (∀ (H : Hp) (a : Addr) (ns : List Int), ns.length ≤ n → SqL K H a (ns.map V.int) → sp [.ref a] H (fun v _ => v = .bl true) E0) ∧
        ∀ base : Heap, K.In base → base.Ns mainGlobals mg → FnG CX0 l.prog w K mg base k fa fd [x] sp) : PySem.W.WalkO q loose XP YP l.row.toRowW d [] (fun f vs => PySem.call f vs) := by
  refine Att.attach_call hn hdf ?_
  intro w s₀ s₁ mg mb fa o pm cd doc a vs ns G Y ho hd hcd hmg hobj hints hlen hg
  obtain ⟨K, fd, sp, KX, hb, hsp, hF⟩ := all w mg fa _ Y G.T.g hmg
  exact law_callG KX G.T.g G.T.b G.T.builtins G.T.nolimit hg hobj hints (Nat.le_trans hlen hn2) hr hF hb (fun H hS => hsp H a ns hlen hS)
end G1
set_option maxHeartbeats 16000000
namespace G1
open PySem PySem.Spec PyProof.Rows L2 JN OW
theorem FnG.of {CX : CXT} {P : Program} {w : World} {K : PySem.W.Frag} {mg : Str → Option Value} {base : Heap} {k : Nat} {f : Addr} {fd : FuncData} {ps : List Str} {sp : Sp} (F : FnOk P w K mg base CX k f fd ps sp) : FnG CX P w K mg base k f fd ps sp :=
  ⟨F.len, fun A outer s H args us vs Q E _ room env bind rel ask => F.run A outer s H args us vs Q E room env bind rel ask⟩
def spLawR (K : PySem.W.Frag) : Sp := fun vs H Q _ => ∃ (a : Addr) (ns : List Int), vs = [.ref a] ∧ SqL K H a (ns.map V.int) ∧ ns.length ≤ 63 ∧ ∀ H', Q (.bl true) H'
def half : Rat := ⟨1, 2, by decide, by decide⟩
def third : Rat := ⟨1, 3, by decide, by decide⟩
def sixth : Rat := ⟨1, 6, by decide, by decide⟩
def five6 : Rat := ⟨5, 6, by decide, by decide⟩
def two3 : Rat := ⟨2, 3, by decide, by decide⟩
def pS : Pc := ⟨0, 1, true⟩
def pP : Pc := ⟨0, 1, false⟩
theorem row0 : Row [] := ⟨(fun _ z => nomatch z), List.Pairwise.nil⟩
theorem row1 {p : Pc} (h : p.ok) : Row [p] := ⟨fun q hq => by rw [List.mem_singleton] at hq; rw [hq]; exact h, List.pairwise_singleton _ _⟩
theorem okS : pS.ok := ⟨by decide +kernel, by decide +kernel, by decide +kernel⟩
theorem okP : pP.ok := ⟨by decide +kernel, by decide +kernel, by decide +kernel⟩
theorem sz_of {x : Rat} {b : Nat} (h : x.num.natAbs < 8 ∧ x.den < 8) (le : 3 ≤ b) : Sz b x := Sz.mono (b := 3) ⟨h.1, h.2⟩ le
theorem szS : ∀ q ∈ [pS], PSz 120 q := fun q hq => by
  rw [List.mem_singleton] at hq
  rw [hq]
  exact ⟨sz_of (by decide +kernel) (by decide), sz_of (by decide +kernel) (by decide)⟩
theorem szP : ∀ q ∈ [pP], PSz 120 q := fun q hq => by
  rw [List.mem_singleton] at hq
  rw [hq]
  exact ⟨sz_of (by decide +kernel) (by decide), sz_of (by decide +kernel) (by decide)⟩
theorem sz0 : ∀ q ∈ ([] : List Pc), PSz 120 q := fun q hq => nomatch hq
theorem uH : UnitB 400 half := ⟨by decide +kernel, by decide +kernel, sz_of (by decide +kernel) (by decide)⟩
theorem uT : UnitB 400 third := ⟨by decide +kernel, by decide +kernel, sz_of (by decide +kernel) (by decide)⟩
theorem b1 : bothQ [pS] half third = 0 := by decide +kernel
theorem b2 : bothQ [pP] half third = sixth := by decide +kernel
theorem b3 : bothQ [] half third = third := by decide +kernel
theorem t1 : thenQ [pS] half third = five6 := by decide +kernel
theorem t2 : thenQ [pP] half third = two3 := by decide +kernel
theorem t3 : thenQ [] half third = third := by decide +kernel
def dues : List Rat := [0, sixth, third, five6, two3, third]
theorem dues_eqv : PyData.eqv (.list (dues.map dRt)) (.list (dues.map dRt)) = true := SeqAt.eqv_refl _ (SeqAt.canLay_of_shaped (shp_list dues))
theorem row_one : sumRow 1 = [pS] := by decide +kernel
theorem row_two : sumRow 2 = [⟨0, half, true⟩, ⟨half, 1, true⟩] := by decide +kernel
theorem not_same : decide ([pS] = [pP]) = false := by decide +kernel
section
variable {P : Program} {w : World} {K : PySem.W.Frag} {mg : Str → Option Value} {base : Heap} {C : Addr}
theorem lot_one {H : Hp} {a b : Addr} {p : Pc} (hl : H a = some (.lst [.ref b])) (hp : PcAt K H p b) (ok : p.ok) (sz : ∀ q ∈ [p], PSz 120 q) : LotAt K H a [p] [p] :=
  ⟨⟨[b], SqL.of hl, .cons hp .nil⟩, ⟨List.Perm.refl _, row1 ok⟩, by simp, psz500 sz⟩
abbrev nLaw : List Str := ["script", "at", "purse", "turn", "half", "third", "cut", "times_v", "least", "told"]
theorem scLaw : FnScope nLaw ["script"] (defScope sLaw) := ⟨rfl, rfl, rfl, by decide +kernel, rfl, by decide +kernel, by decide +kernel⟩
theorem ok_law {f : Addr} {fd : FuncData} (F : FnP K "law" sLaw f fd) (B : Blt mg) (T : JoinTxt K mg C) (EM : EqM K C) (M : MakerT P w K mg base C) (MB : MethJW P w K mg base C "both" bothQ) (MT : MethJW P w K mg base C "then" thenQ)
    (cP : Cl CX0 P w K mg base 1 "_law_purse" ["cells", "at"] (spPurse K)) (cR : Cl CX0 P w K mg base 8 "_law_right" ["purse"] spRight) (cS : Cl CX0 P w K mg base 7 "sums" ["count"] (spSums K C)) (kS : ClK CX0 P w K mg base 7 "sums" ["count"] (spSums K C) ["count"] id) :
    FnOk P w K mg base CX0 9 f fd ["script"] (spLawR K) := by
  obtain ⟨fI, fdI, e0, d1, its, MM, FI, FT, h0, b0', b1', v1, kI⟩ := M.ex
  obtain ⟨fB, fdB, Mb, Fb, bb, kB⟩ := MB.ex
  obtain ⟨fT, fdT, Mt, Ft, bt, kT⟩ := MT.ex
  obtain ⟨fe, Me, Fe⟩ := ok_eqJ (P := P) (w := w) (base := base) EM T B
  refine F.ok scLaw (fun vs H Q E h => ?_) (fun cdv A outer s H vs Q E hr h => ⟨_, PSs.nox (pss_cons
      (ps_for PassesOwn.never rfl (pi_range1 (by rfl) B.range (pa_cons (pe_op op_add pe_int (pe_callB (call_min2 rfl) (by rfl) B.min (by decide +kernel) (pa_cons pe_int (pa_cons (pe_callB call_len_seq (by rfl) B.len PySem.boot_len (pa_cons (pv 0) pa_nil)) pa_nil)))) pa_nil)) (pg_name (i := 1) scLaw.nd rfl (Or.inl rfl))
        (pss_cons (ps_set (i := 2) scLaw.nd rfl (Or.inl rfl) (pe_c0 cP hr (by decide) (by rfl) (pa_cons (pv 0) (pa_cons (pv 1) pa_nil))))
        (pss_one (ps_for PassesOwn.never rfl (pi_range1 (by rfl) B.range (pa_cons pe_int pa_nil)) (pg_name (i := 3) scLaw.nd rfl (Or.inl rfl))
          (pss_one (ps_if (pt_not (pt_val (pe_c0 cR hr (by decide) (by rfl) (pa_cons (pv 2) pa_nil)))) (pss_one (ps_ret pe_bl)) pss_nil))))))
      (pss_cons (ps_asg (pe_tup (pa_cons (pe_tup (pa_cons pe_int (pa_cons pe_int pa_nil))) (pa_cons (pe_tup (pa_cons pe_int (pa_cons pe_int pa_nil))) pa_nil))) (pg_tup (by rfl) (pgs_cons (pg_name (i := 4) scLaw.nd rfl (Or.inl rfl)) (pgs_cons (pg_name (i := 5) scLaw.nd rfl (Or.inl rfl)) pgs_nil))))
      (pss_cons (ps_par3 (i := 6) (j := 7) (l := 8) (by rfl) scLaw.nd rfl rfl rfl (by decide) (by decide) (by decide) rfl rfl rfl
        (pa_cons (pe_make (E := E0) MM FI (hr.mono (by decide)) (by rfl) T.gC b0' .nil pass0 (pa_cons (pe_lst (pa_cons (pe_tup (pa_cons (pe_tup (pa_cons pe_int (pa_cons pe_int pa_nil))) (pa_cons (pe_tup (pa_cons pe_int (pa_cons pe_int pa_nil))) (pa_cons pe_str pa_nil)))) pa_nil)) pa_nil))
        (pa_cons (pe_make (E := E0) MM FI (hr.mono (by decide)) (by rfl) T.gC b0' .nil pass0 (pa_cons (pe_lst (pa_cons (pe_tup (pa_cons (pe_tup (pa_cons pe_int (pa_cons pe_int pa_nil))) (pa_cons (pe_tup (pa_cons pe_int (pa_cons pe_int pa_nil))) (pa_cons pe_str pa_nil)))) pa_nil)) pa_nil))
        (pa_cons (pe_make0 (E := E0) MM FT (hr.mono (by decide)) (by rfl) T.gC b1' v1 pass0) pa_nil))) (by rfl))
      (pss_cons (ps_set (i := 9) scLaw.nd rfl (Or.inl rfl) (pe_lst (pa_cons (pe_meth (E := E0) (pv 6) T.cl Mb Fb (hr.mono (by decide)) bb .nil pass0 (pa_cons (pv 4) (pa_cons (pv 5) pa_nil)))
        (pa_cons (pe_meth (E := E0) (pv 7) T.cl Mb Fb (hr.mono (by decide)) bb .nil pass0 (pa_cons (pv 4) (pa_cons (pv 5) pa_nil)))
        (pa_cons (pe_meth (E := E0) (pv 8) T.cl Mb Fb (hr.mono (by decide)) bb .nil pass0 (pa_cons (pv 4) (pa_cons (pv 5) pa_nil)))
        (pa_cons (pe_meth (E := E0) (pv 6) T.cl Mt Ft (hr.mono (by decide)) bt .nil pass0 (pa_cons (pv 4) (pa_cons (pv 5) pa_nil))) pa_nil))))))
      (pss_cons (ps_if (pt_cmpR (op_neD hr.units) (pe_op op_cat (pv 9) (pe_lst (pa_cons (pe_meth (E := E0) (pv 7) T.cl Mt Ft (hr.mono (by decide)) bt .nil pass0 (pa_cons (pv 4) (pa_cons (pv 5) pa_nil)))
          (pa_cons (pe_meth (E := E0) (pv 8) T.cl Mt Ft (hr.mono (by decide)) bt .nil pass0 (pa_cons (pv 4) (pa_cons (pv 5) pa_nil))) pa_nil))))
        (pe_lst (pa_cons (pe_tup (pa_cons pe_int (pa_cons pe_int pa_nil))) (pa_cons (pe_tup (pa_cons pe_int (pa_cons pe_int pa_nil))) (pa_cons (pv 5) (pa_cons (pe_tup (pa_cons pe_int (pa_cons pe_int pa_nil))) (pa_cons (pe_tup (pa_cons pe_int (pa_cons pe_int pa_nil))) (pa_cons (pv 5) pa_nil))))))) (nomark _)) (pss_one (ps_ret pe_bl)) pss_nil)
      (pss_one (ps_ret (pe_and (pe_cmpR (op_eqO (E := E0) Me.at_ Me.fn Fe (hr.mono (by decide)) pass0) (pe_c0 cS hr (by decide) (by rfl) (pa_cons pe_int pa_nil)) (pv 6) (nomark _))
        (pe_and (pe_cmpR (op_eqD hr.units) (pe_fld (pe_kw0 kS hr (by decide) (by rfl) (pk_cons pe_int pk_nil)) rfl) (pe_tup (pa_cons (pe_tup (pa_cons (pe_tup (pa_cons pe_int (pa_cons pe_int pa_nil))) (pa_cons (pv 4) (pa_cons pe_str pa_nil)))) (pa_cons (pe_tup (pa_cons (pv 4) (pa_cons (pe_tup (pa_cons pe_int (pa_cons pe_int pa_nil))) (pa_cons pe_str pa_nil)))) pa_nil))) (nomark _))
        (pe_one (pe_cmpR (op_neO (E := E0) Me.at_ Me.fn T.ow.ne T.ow.mo Fe (hr.mono (by decide)) pass0) (pv 6) (pv 7) (nomark _)))))))))))), ?_⟩)
  · obtain ⟨a, ns, rfl, _⟩ := h
    rfl
  · obtain ⟨a, ns, rfl, hS, hn, q⟩ := h
    obtain ⟨m, hm, hm8⟩ : ∃ m : Nat, (1 : Int) + (if ((ns.map V.int).length : Int) < 8 then ((ns.map V.int).length : Int) else 8) = (m : Int) ∧ m ≤ 9 := by
      refine ⟨((1 : Int) + (if ((ns.map V.int).length : Int) < 8 then ((ns.map V.int).length : Int) else 8)).toNat, ?_, ?_⟩ <;> split <;> omega
    refine ⟨_, rfl, a, _, rfl, .inl hS, _, _, rfl, _, _, rfl, rfl, m, congrArg (fun z => [V.int z]) hm, by omega, by omega, ?_⟩
    refine for_range (lo := 0) (n := (m : Int).toNat) (fun i σ H' => ∃ v1 v2 v3 : Option V, σ = [some (.ref a), v1, v2, v3, none, none, none, none, none, none] ∧ Same H H') ⟨none, none, none, rfl, .refl _⟩ ?_ ?_
    · rintro i σ H' hi ⟨v1, v2, v3, rfl, s1⟩
      refine gn1 (σ' := [some (.ref a), some (.int (0 + (i : Int))), v2, v3, none, none, none, none, none, none]) rfl ?_
      refine ⟨_, rfl, _, rfl, a, ns, _, rfl, s1.seq hS, by omega, by omega, fun p H1 n1 s2 P1 => ?_⟩
      refine gn1 (σ' := [some (.ref a), some (.int (0 + (i : Int))), some (.ref p), v3, none, none, none, none, none, none]) rfl ?_
      refine ⟨3, rfl, by decide, by decide, for_range (lo := 0) (n := 3) (fun j σ H2 => ∃ (c : Int) (v : Option V), σ = [some (.ref a), some (.int (0 + (i : Int))), some (.ref p), v, none, none, none, none, none, none] ∧ Same H' H2 ∧ PurseAt H2 p c ∧ c ≤ 9000 + 200 * j) ⟨_, v3, rfl, s2, P1, by omega⟩ ?_ ?_⟩
      · rintro j σ H2 hj ⟨c, v, rfl, s3, P2, hc⟩
        refine ⟨_, rfl, p, c, rfl, ⟨P2, by omega, fun c' H3 hc' P3 B3 => ⟨_, rfl, iteF ?_⟩⟩⟩
        exact ⟨c', _, rfl, fun b o e => B3 b o (ne_of_none e n1) (s3 b o e), P3, by omega⟩
      · rintro σ H2 ⟨c, v, rfl, s3, P2, hc⟩
        exact ⟨_, _, _, rfl, s1.trans s3⟩
    · rintro σ G ⟨v1, v2, v3, rfl, s1⟩
      refine ⟨(by show 2 ≤ sizeLine; decide), fun th nh => ?_⟩
      obtain ⟨G1, e1, S1, f1⟩ := mk_s (.tup [.int 1, .int 2]) nh
      rw [e1]
      refine ⟨(by show 2 ≤ sizeLine; decide), fun tt nt => ?_⟩
      obtain ⟨G2, e2, S2, f2⟩ := mk_s (.tup [.int 1, .int 3]) nt
      rw [e2]
      refine ⟨(by show 2 ≤ sizeLine; decide), fun tz nz => ?_⟩
      obtain ⟨G3, e3, S3', f3⟩ := mk_s (.tup [.ref th, .ref tt]) nz
      rw [e3]
      have dh : DgAt K G3 400 half th := ⟨SqT.of (S3' _ _ (S2 _ _ f1)), uH⟩
      have dt : DgAt K G3 400 third tt := ⟨SqT.of (S3' _ _ f2), uT⟩
      refine ⟨tz, _, rfl, SqT.of f3, rfl, _, _, rfl, _, [], rfl, rfl, ?_⟩
      -- cut
      refine ⟨(by show 2 ≤ sizeLine; decide), fun z1 m1 => ?_⟩
      obtain ⟨K1, ek1, T1, k1⟩ := mk_s (.tup [.int 0, .int 1]) m1
      rw [ek1]
      refine ⟨(by show 2 ≤ sizeLine; decide), fun z2 m2 => ?_⟩
      obtain ⟨K2, ek2, T2, k2⟩ := mk_s (.tup [.int 1, .int 1]) m2
      rw [ek2]
      refine ⟨(by show 3 ≤ sizeLine; decide), fun z3 m3 => ?_⟩
      obtain ⟨K3, ek3, T3, k3⟩ := mk_s (.tup [.ref z1, .ref z2, .str "sum"]) m3
      rw [ek3]
      refine ⟨(by show 1 ≤ sizeLine; decide), fun z4 m4 => ?_⟩
      obtain ⟨K4, ek4, T4, k4⟩ := mk_s (.lst [.ref z3]) m4
      rw [ek4]
      have cS4 : PcAt K K4 pS z3 := ⟨z1, z2, SqT.of (T4 _ _ k3), SqT.of (T4 _ _ (T3 _ _ (T2 _ _ k1))), SqT.of (T4 _ _ (T3 _ _ k2))⟩
      intro x dx hx hdx ne
      refine ⟨x, dx, z4, K4, _, _, rfl, upd_same, same_at hx (same_at hdx (Same.refl _)), hx, lot_one k4 cS4 okS szS, fun K5 T5 Jx => ⟨rfl, ?_⟩⟩
      have T15 := T1.trans (T2.trans (T3.trans (T4.trans T5)))
      -- times
      refine ⟨(by show 2 ≤ sizeLine; decide), fun z5 m5 => ?_⟩
      obtain ⟨K6, ek6, T6, k6⟩ := mk_s (.tup [.int 0, .int 1]) m5
      rw [ek6]
      refine ⟨(by show 2 ≤ sizeLine; decide), fun z6 m6 => ?_⟩
      obtain ⟨K7, ek7, T7, k7⟩ := mk_s (.tup [.int 1, .int 1]) m6
      rw [ek7]
      refine ⟨(by show 3 ≤ sizeLine; decide), fun z7 m7 => ?_⟩
      obtain ⟨K8, ek8, T8, k8⟩ := mk_s (.tup [.ref z5, .ref z6, .str "product"]) m7
      rw [ek8]
      refine ⟨(by show 1 ≤ sizeLine; decide), fun z8 m8 => ?_⟩
      obtain ⟨K9, ek9, T9, k9⟩ := mk_s (.lst [.ref z7]) m8
      rw [ek9]
      have cP9 : PcAt K K9 pP z7 := ⟨z5, z6, SqT.of (T9 _ _ k8), SqT.of (T9 _ _ (T8 _ _ (T7 _ _ k6))), SqT.of (T9 _ _ (T8 _ _ k7))⟩
      intro y dy hy hdy ney
      refine ⟨y, dy, z8, K9, _, _, rfl, upd_same, same_at hy (same_at hdy (Same.refl _)), hy, lot_one k9 cP9 okP szP, fun K10 T10 Jy => ⟨rfl, ?_⟩⟩
      have T610 := T6.trans (T7.trans (T8.trans (T9.trans T10)))
      -- least
      intro u du hu hdu neu
      refine ⟨u, du, e0, K10, [], [], rfl, upd_same, same_at hu (same_at hdu (Same.refl _)), hu, ⟨⟨[], h0 _, .nil⟩, ⟨List.Perm.refl _, row0⟩, by simp, fun _ z => nomatch z⟩, fun K11 T11 Ju => ⟨rfl, ?_⟩⟩
      refine ⟨_, _, _, rfl, ?_⟩
      have J1 := Jx.on (T610.trans T11)
      have J2 := Jy.on T11
      have dh1 := dh.on (T15.trans (T610.trans T11))
      have dt1 := dt.on (T15.trans (T610.trans T11))
      clear Jx Jy dh dt cS4 cP9
      refine gn1 (σ' := [some (.ref a), v1, v2, v3, some (.ref th), some (.ref tt), some (.ref x), some (.ref y), some (.ref u), none]) rfl ?_
      obtain ⟨dx1, _, _, _, i1, _⟩ := id J1.ex
      obtain ⟨dy1, _, _, _, i2, _⟩ := id J2.ex
      obtain ⟨du1, _, _, _, i3, _⟩ := id Ju.ex
      have z4 : 400 ≤ 400 := by decide
      have z15 : 400 ≤ 1500 := by decide
      -- told
      refine ⟨_, rfl, x, dx1, _, rfl, i1, rfl, _, rfl, _, rfl, _, _, _, _, _, _, rfl, go_both (b := 400) szS J1 dh1 dt1 z4 z4 z15 fun r1 A1 a1 g1 => ?_⟩
      refine ⟨_, rfl, y, dy1, _, rfl, a1 _ _ i2, rfl, _, rfl, _, rfl, _, _, _, _, _, _, rfl, go_both (b := 400) szP (J2.on a1) (dh1.on a1) (dt1.on a1) z4 z4 z15 fun r2 A2 a2 g2 => ?_⟩
      have a12 := a1.trans a2
      refine ⟨_, rfl, u, du1, _, rfl, a12 _ _ i3, rfl, _, rfl, _, rfl, _, _, _, _, _, _, rfl, go_both (b := 400) sz0 (Ju.on a12) (dh1.on a12) (dt1.on a12) z4 z4 z15 fun r3 A3 a3 g3 => ?_⟩
      have a13 := a12.trans a3
      refine ⟨_, rfl, x, dx1, _, rfl, a13 _ _ i1, rfl, _, rfl, _, rfl, _, _, _, _, _, _, rfl, go_then (b := 400) szS (J1.on a13) (dh1.on a13) (dt1.on a13) z4 z4 z15 fun r4 A4 a4 g4 => ?_⟩
      have a14 := a13.trans a4
      refine ⟨(by show 4 ≤ sizeLine; decide), fun w1 n1 => ?_⟩
      obtain ⟨A5, ea5, a5, g5⟩ := mk_s (.lst [.ref r1, .ref r2, .ref r3, .ref r4]) n1
      rw [ea5]
      have a15 := a14.trans a5
      refine gn1 (σ' := [some (.ref a), v1, v2, v3, some (.ref th), some (.ref tt), some (.ref x), some (.ref y), some (.ref u), some (.ref w1)]) rfl ?_
      refine ⟨_, rfl, _, rfl, y, dy1, _, rfl, a15 _ _ i2, rfl, _, rfl, _, rfl, _, _, _, _, _, _, rfl, go_then (b := 400) szP (J2.on a15) (dh1.on a15) (dt1.on a15) z4 z4 z15 fun r5 A6 a6 g6 => ?_⟩
      have a16 := a15.trans a6
      refine ⟨_, rfl, u, du1, _, rfl, a16 _ _ i3, rfl, _, rfl, _, rfl, _, _, _, _, _, _, rfl, go_then (b := 400) sz0 (Ju.on a16) (dh1.on a16) (dt1.on a16) z4 z4 z15 fun r6 A7 a7 g7 => ?_⟩
      have a17 := a16.trans a7
      refine ⟨(by show 2 ≤ sizeLine; decide), fun w2 n2 => ?_⟩
      obtain ⟨A8, ea8, a8, g8⟩ := mk_s (.lst [.ref r5, .ref r6]) n2
      rw [ea8]
      have a68 := a6.trans (a7.trans a8)
      refine ⟨w1, w2, _, _, rfl, rfl, a68 _ _ g5, g8, (by show 6 ≤ sizeLine; decide), fun w3 n3 => ?_⟩
      obtain ⟨A9, ea9, a9, g9⟩ := mk_s (.lst ([.ref r1, .ref r2, .ref r3, .ref r4] ++ [.ref r5, .ref r6])) n3
      rw [ea9]
      have a89 := a8.trans a9
      -- what is due
      refine ⟨(by show 2 ≤ sizeLine; decide), fun o1 l1 => ?_⟩
      obtain ⟨D1, ed1, d1', c1⟩ := mk_s (.tup [.int 0, .int 1]) l1
      rw [ed1]
      refine ⟨(by show 2 ≤ sizeLine; decide), fun o2 l2 => ?_⟩
      obtain ⟨D2, ed2, d2, c2⟩ := mk_s (.tup [.int 1, .int 6]) l2
      rw [ed2]
      refine ⟨_, rfl, (by show 2 ≤ sizeLine; decide), fun o3 l3 => ?_⟩
      obtain ⟨D3, ed3, d3, c3⟩ := mk_s (.tup [.int 5, .int 6]) l3
      rw [ed3]
      refine ⟨(by show 2 ≤ sizeLine; decide), fun o4 l4 => ?_⟩
      obtain ⟨D4, ed4, d4, c4⟩ := mk_s (.tup [.int 2, .int 3]) l4
      rw [ed4]
      refine ⟨_, rfl, (by show 6 ≤ sizeLine; decide), fun o5 l5 => ?_⟩
      obtain ⟨D5, ed5, d5, c5⟩ := mk_s (.lst [.ref o1, .ref o2, .ref tt, .ref o3, .ref o4, .ref tt]) l5
      rw [ed5]
      have d45 := d4.trans d5
      have d35 := d3.trans d45
      have d25 := d2.trans d35
      have d15 := d1'.trans d25
      have a9e := a9.trans d15
      have a8e := a8.trans a9e
      have a7e := a7.trans a8e
      have a6e := a6.trans a7e
      have a5e := a5.trans a6e
      have a4e := a4.trans a5e
      have a3e := a3.trans a4e
      have a2e := a2.trans a3e
      have a1e := a1.trans a2e
      have R1 := (g1.on a2e).rt
      have R2 := (g2.on a3e).rt
      have R3 := (g3.on a4e).rt
      have R4 := (g4.on a5e).rt
      have R5 := (g6.on a7e).rt
      have R6 := (g7.on a8e).rt
      rw [b1] at R1
      rw [b2] at R2
      rw [b3] at R3
      rw [t1] at R4
      rw [t2] at R5
      rw [t3] at R6
      have Rt := (dt1.on a1e).rt
      have first : DpAll K D5 ([r1, r2, r3, r4, r5, r6].map V.ref) (dues.map dRt) := dps (.cons R1 (.cons R2 (.cons R3 (.cons R4 (.cons R5 (.cons R6 .nil))))))
      have second : DpAll K D5 ([o1, o2, tt, o3, o4, tt].map V.ref) (dues.map dRt) := dps (.cons (SqT.of (d25 _ _ c1)) (.cons (SqT.of (d35 _ _ c2)) (.cons Rt (.cons (SqT.of (d45 _ _ c3)) (.cons (SqT.of (d5 _ _ c4)) (.cons Rt .nil))))))
      refine ⟨.list (dues.map dRt), .list (dues.map dRt), .lst (SqL.of (d15 _ _ g9)) first, .lst (SqL.of c5) second, shp_list _, shp_list _, _, rfl, ?_⟩
      refine if_no (by rw [dues_eqv]; rfl) ?_
      have Jc := J1.on a1e
      have Jt := J2.on a1e
      have ic := a1e _ _ i1
      have it := a1e _ _ i2
      have dhe := dh1.on a1e
      clear first second R1 R2 R3 R4 R5 R6 Rt g1 g2 g3 g4 g6 g7
      -- sums
      refine ⟨1, rfl, by decide, by decide, fun s0 M0 m0 Js => ?_⟩
      obtain ⟨ds, _, _, _, is, _⟩ := id Js.ex
      refine ⟨_, rfl, s0, ds, _, x, dx1, _, rfl, rfl, is, m0 _ _ ic, s0, x, sumRow 1, [pS], rfl, Js, Jc.on m0, ?_⟩
      refine ⟨_, rfl, ?_⟩
      refine if_yes (decide_eq_true row_one) ?_
      refine ⟨rfl, 2, rfl, by decide, by decide, fun s2 M2 m2' Js2 => ?_⟩
      obtain ⟨ds2, q2, _, bs2, is2, pc2, pp2, _⟩ := id Js2.ex
      refine ⟨s2, C, ds2, _, _, rfl, is2, T.cl, T.nP, rfl, ?_⟩
      refine ⟨(by show 2 ≤ sizeLine; decide), fun y1 k1' => ?_⟩
      obtain ⟨N1, en1, ν1, o1'⟩ := mk_s (.tup [.int 0, .int 1]) k1'
      rw [en1]
      refine ⟨_, rfl, (by show 3 ≤ sizeLine; decide), fun y2 k2' => ?_⟩
      obtain ⟨N2, en2, ν2, o2'⟩ := mk_s (.tup [.ref y1, .ref th, .str "sum"]) k2'
      rw [en2]
      refine ⟨_, rfl, (by show 2 ≤ sizeLine; decide), fun y3 k3' => ?_⟩
      obtain ⟨N3, en3, ν3, o3'⟩ := mk_s (.tup [.int 1, .int 1]) k3'
      rw [en3]
      refine ⟨(by show 3 ≤ sizeLine; decide), fun y4 k4' => ?_⟩
      obtain ⟨N4, en4, ν4, o4'⟩ := mk_s (.tup [.ref th, .ref y3, .str "sum"]) k4'
      rw [en4]
      refine ⟨(by show 2 ≤ sizeLine; decide), fun y5 k5' => ?_⟩
      obtain ⟨N5, en5, ν5, o5'⟩ := mk_s (.tup [.ref y2, .ref y4]) k5'
      rw [en5]
      have ν45 := ν4.trans ν5
      have ν35 := ν3.trans ν45
      have ν25 := ν2.trans ν35
      have ν15 := ν1.trans ν25
      have mE := (Same.trans m0 m2').trans ν15
      have rh := (dhe.on mE).rt
      have cA : PcAt K N5 ⟨0, half, true⟩ y2 := ⟨y1, th, SqT.of (ν35 _ _ o2'), SqT.of (ν25 _ _ o1'), rh⟩
      have cB : PcAt K N5 ⟨half, 1, true⟩ y4 := ⟨th, y3, SqT.of (ν5 _ _ o4'), rh, SqT.of (ν45 _ _ o3')⟩
      rw [row_two] at pp2
      have due : DpAll K N5 ([y2, y4].map V.ref) ([(⟨0, half, true⟩ : Pc), ⟨half, 1, true⟩].map dPc) := pcs_dp (.cons cA (.cons cB .nil))
      refine ⟨dPcs [⟨0, half, true⟩, ⟨half, 1, true⟩], dPcs [⟨0, half, true⟩, ⟨half, 1, true⟩], .tup (sqt_on pc2 ν15) (pcs_dp (pcs_on ν15 pp2)), .tup (SqT.of o5') due, pcs_shp _, pcs_shp _, _, rfl, ?_⟩
      rw [pcs_eqv]
      refine if_yes (decide_eq_true rfl) ?_
      refine ⟨_, rfl, _, rfl, x, dx1, _, y, dy1, _, rfl, rfl, mE _ _ ic, mE _ _ it, x, y, [pS], [pP], rfl, Jc.on mE, Jt.on mE, ?_⟩
      refine ⟨_, rfl, ?_⟩
      rw [not_same]
      exact q _
end
end G1
set_option maxHeartbeats 0
namespace G1
open PySem PySem.Spec PyProof.Rows L2 JN
def fnL : List He.DefD := [dd "_wall" sWall,
  dm "InvalidDegree" "__init__" "InvalidDegree.__init__" mInvalidDegreeInit [],
  dm "InvalidPieces" "__init__" "InvalidPieces.__init__" mInvalidPiecesInit [],
  dm "InvalidShape" "__init__" "InvalidShape.__init__" mInvalidShapeInit [],
  dd "is_whole" sWhole,
  dd "is_degree" sIsDeg,
  dd "check_degree" sCheck,
  dd "degree" sDegree,
  dd "ratio" sRatio,
  dd "plus" sPlus,
  dd "minus" sMinus,
  dd "times" sTimes,
  dd "over" sOver,
  dd "is_below" sIsBelow,
  dd "lower_of" sLowerOf,
  dd "higher_of" sHigherOf,
  dd "sums" sSums,
  dd "_check_pieces" sCheckPieces,
  dd "_is_piece" sIsPiece,
  dd "_overlap" sOverlap,
  dd "_ascending" sAscending,
  dd "_shape_of" sShapeOf,
  dd "_both" sBoth,
  dd "_then" sThen,
  dd "_piece_around" sPieceAround,
  dd "_law_mixed" sMixed,
  dd "_law_purse" sPurse,
  dd "_law_draw" sDraw,
  dd "_law_great" sGreat,
  dd "_law_common" sCommon,
  dd "_law_lowest" sLowest,
  dd "_law_degree" sDeg,
  dd "_law_plus" lPlus,
  dd "_law_less" sLess,
  dd "_law_lot" lLot,
  dd "_law_piece" lPiece,
  dd "_law_both" lBoth,
  dd "_law_then" lThen,
  dd "_law_near" lNear,
  dd "_law_right" sRight,
  dm "Joining" "__init__" "Joining.__init__" mJoiningInit [.adr (He.dflAt ("Joining", some "__init__") 0)],
  dm "Joining" "both" "Joining.both" mJoiningBoth [],
  dm "Joining" "then" "Joining.then" mJoiningThen [],
  dm "Joining" "worth" "Joining.worth" mJoiningWorth [],
  dm "Joining" "is_break" "Joining.is_break" mJoiningIsBreak [],
  dm "Joining" "__eq__" "Joining.__eq__" mJoiningEq [],
  dd "law" sLaw]
def faL : List He.Fa := [.free "int",
  .free "max",
  .free "min",
  .free "len",
  .free "range",
  .free "abs",
  .free "str",
  .free "list",
  .free "isinstance",
  .free "bool",
  .free "tuple",
  .free "set",
  .free "sorted",
  .free "sum",
  .free "reversed",
  .free "enumerate",
  .free "zip",
  .free "dict",
  .glo "_wall",
  .glo "InvalidDegree",
  .glo "InvalidPieces",
  .glo "InvalidShape",
  .glo "is_whole",
  .glo "is_degree",
  .glo "check_degree",
  .glo "degree",
  .glo "ratio",
  .glo "plus",
  .glo "minus",
  .glo "times",
  .glo "over",
  .glo "is_below",
  .glo "lower_of",
  .glo "higher_of",
  .glo "sums",
  .glo "_check_pieces",
  .glo "_is_piece",
  .glo "_overlap",
  .glo "_ascending",
  .glo "_shape_of",
  .glo "_both",
  .glo "_then",
  .glo "_piece_around",
  .glo "_law_mixed",
  .glo "_law_purse",
  .glo "_law_draw",
  .glo "_law_great",
  .glo "_law_common",
  .glo "_law_lowest",
  .glo "_law_degree",
  .glo "_law_plus",
  .glo "_law_less",
  .glo "_law_lot",
  .glo "_law_piece",
  .glo "_law_both",
  .glo "_law_then",
  .glo "_law_near",
  .glo "_law_right",
  .glo "NOTHING",
  .glo "WHOLE",
  .glo "Joining",
  .cls "Joining",
  .mkr "Joining",
  .noat "Joining" "pieces",
  .noat "Joining" "shape",
  .meth "Joining" "both",
  .meth "Joining" "then",
  .meth "Joining" "worth",
  .meth "Joining" "is_break",
  .meth "Joining" "__eq__",
  .glo "law"]
def tsL : List He.Tab := []
def exL : List Ex := [sysB,
  gcdB,
  errB "InvalidDegree" "thing",
  errB "InvalidPieces" "place",
  errB "InvalidShape" "thing",
  fun K => He.tupB K "NOTHING" [.int 0, .int 1],
  fun K => He.tupB K "WHOLE" [.int 1, .int 1],
  ownB "Joining",
  fun K => emptB K (He.dflAt ("Joining", some "__init__") 0 K)]
structure HF (w : World) (K : PySem.W.Frag) (mg : Str → Option Value) : Prop where
  blt : Blt mg
  sm : ∃ o, K.lookup sysModules = some o
  gcd : mg "gcd" = some (.builtin "math.gcd")
  d_wall : DefAt K mg "_wall" sWall
  eD : ErrD K mg (He.ga K "InvalidDegree") (He.ma K (He.ga K "InvalidDegree") "__init__")
  eP : ErrP K mg (He.ga K "InvalidPieces") (He.ma K (He.ga K "InvalidPieces") "__init__")
  eSh : ErrSh K mg (He.ga K "InvalidShape") (He.ma K (He.ga K "InvalidShape") "__init__")
  d_is_whole : DefAt K mg "is_whole" sWhole
  d_is_degree : DefAt K mg "is_degree" sIsDeg
  d_check_degree : DefAt K mg "check_degree" sCheck
  d_degree : DefAt K mg "degree" sDegree
  d_ratio : DefAt K mg "ratio" sRatio
  d_plus : DefAt K mg "plus" sPlus
  d_minus : DefAt K mg "minus" sMinus
  d_times : DefAt K mg "times" sTimes
  d_over : DefAt K mg "over" sOver
  d_is_below : DefAt K mg "is_below" sIsBelow
  d_lower_of : DefAt K mg "lower_of" sLowerOf
  d_higher_of : DefAt K mg "higher_of" sHigherOf
  d_sums : DefAt K mg "sums" sSums
  d_check_pieces : DefAt K mg "_check_pieces" sCheckPieces
  d_is_piece : DefAt K mg "_is_piece" sIsPiece
  d_overlap : DefAt K mg "_overlap" sOverlap
  d_ascending : DefAt K mg "_ascending" sAscending
  d_shape_of : DefAt K mg "_shape_of" sShapeOf
  d_both : DefAt K mg "_both" sBoth
  d_then : DefAt K mg "_then" sThen
  d_piece_around : DefAt K mg "_piece_around" sPieceAround
  d_law_mixed : DefAt K mg "_law_mixed" sMixed
  d_law_purse : DefAt K mg "_law_purse" sPurse
  d_law_draw : DefAt K mg "_law_draw" sDraw
  d_law_great : DefAt K mg "_law_great" sGreat
  d_law_common : DefAt K mg "_law_common" sCommon
  d_law_lowest : DefAt K mg "_law_lowest" sLowest
  d_law_degree : DefAt K mg "_law_degree" sDeg
  d_law_plus : DefAt K mg "_law_plus" lPlus
  d_law_less : DefAt K mg "_law_less" sLess
  d_law_lot : DefAt K mg "_law_lot" lLot
  d_law_piece : DefAt K mg "_law_piece" lPiece
  d_law_both : DefAt K mg "_law_both" lBoth
  d_law_then : DefAt K mg "_law_then" lThen
  d_law_near : DefAt K mg "_law_near" lNear
  d_law_right : DefAt K mg "_law_right" sRight
  cNOTHING : ∃ a, mg "NOTHING" = some (.ref a) ∧ ∀ H, SqT K H a [.int 0, .int 1]
  cWHOLE : ∃ a, mg "WHOLE" = some (.ref a) ∧ ∀ H, SqT K H a [.int 1, .int 1]
  gJoining : mg "Joining" = some (.ref (He.ga K "Joining"))
  clJoining : Cls K (He.ga K "Joining")
  mkJoining : Mk K (He.ga K "Joining") (He.ma K (He.ga K "Joining") "__init__")
  owJoining : OwnF K (He.ga K "Joining")
  nJoiningpieces : NoAttr K (He.ga K "Joining") "pieces"
  nJoiningshape : NoAttr K (He.ga K "Joining") "shape"
  iJoining : ∃ fd, FunD K "__init__" "Joining.__init__" (defArgs mJoiningInit) (defBody mJoiningInit) (defScope mJoiningInit) [.ref (He.dflAt ("Joining", some "__init__") 0 K)] [] (He.ma K (He.ga K "Joining") "__init__") fd
  eJoining0 : ∀ H, SqT K H (He.dflAt ("Joining", some "__init__") 0 K) []
  mJoiningBoth : ∃ (f : Addr) (fd : FuncData), Meth K (He.ga K "Joining") "both" f ∧ FunD K "both" "Joining.both" (defArgs mJoiningBoth) (defBody mJoiningBoth) (defScope mJoiningBoth) [] [] f fd
  mJoiningThen : ∃ (f : Addr) (fd : FuncData), Meth K (He.ga K "Joining") "then" f ∧ FunD K "then" "Joining.then" (defArgs mJoiningThen) (defBody mJoiningThen) (defScope mJoiningThen) [] [] f fd
  mJoiningWorth : ∃ (f : Addr) (fd : FuncData), Meth K (He.ga K "Joining") "worth" f ∧ FunD K "worth" "Joining.worth" (defArgs mJoiningWorth) (defBody mJoiningWorth) (defScope mJoiningWorth) [] [] f fd
  mJoiningIsBreak : ∃ (f : Addr) (fd : FuncData), Meth K (He.ga K "Joining") "is_break" f ∧ FunD K "is_break" "Joining.is_break" (defArgs mJoiningIsBreak) (defBody mJoiningIsBreak) (defScope mJoiningIsBreak) [] [] f fd
  mJoiningEq : ∃ (f : Addr) (fd : FuncData), Meth K (He.ga K "Joining") "__eq__" f ∧ FunD K "__eq__" "Joining.__eq__" (defArgs mJoiningEq) (defBody mJoiningEq) (defScope mJoiningEq) [] [] f fd
theorem hf {w : World} {K : PySem.W.Frag} {h : Heap} {mg : Str → Option Value} (X : K.In h) (G : h.Ns mainGlobals mg) (t : Told faL fnL tsL exL w K) : HF w K mg :=
  {
    blt := { int := He.free_ok X G (t.says.d.fact 0 (f := .free "int") rfl), max := He.free_ok X G (t.says.d.fact 1 (f := .free "max") rfl), min := He.free_ok X G (t.says.d.fact 2 (f := .free "min") rfl), len := He.free_ok X G (t.says.d.fact 3 (f := .free "len") rfl), range := He.free_ok X G (t.says.d.fact 4 (f := .free "range") rfl), abs := He.free_ok X G (t.says.d.fact 5 (f := .free "abs") rfl), str := He.free_ok X G (t.says.d.fact 6 (f := .free "str") rfl), list := He.free_ok X G (t.says.d.fact 7 (f := .free "list") rfl), isin := He.free_ok X G (t.says.d.fact 8 (f := .free "isinstance") rfl), bool := He.free_ok X G (t.says.d.fact 9 (f := .free "bool") rfl), tuple := He.free_ok X G (t.says.d.fact 10 (f := .free "tuple") rfl), set := He.free_ok X G (t.says.d.fact 11 (f := .free "set") rfl), sorted := He.free_ok X G (t.says.d.fact 12 (f := .free "sorted") rfl), sum := He.free_ok X G (t.says.d.fact 13 (f := .free "sum") rfl), rev := He.free_ok X G (t.says.d.fact 14 (f := .free "reversed") rfl), enum := He.free_ok X G (t.says.d.fact 15 (f := .free "enumerate") rfl), zip := He.free_ok X G (t.says.d.fact 16 (f := .free "zip") rfl), dict := He.free_ok X G (t.says.d.fact 17 (f := .free "dict") rfl) }
    sm := Option.isSome_iff_exists.mp (t.ex 0 (e := sysB) rfl)
    gcd := PySem.W.mg_of X G (He.eqO_ok (t.ex 1 (e := gcdB) rfl))
    d_wall := at_def X G t (x := "_wall") (st := sWall) 0 18 rfl rfl
    eD := errB_ok (t.ex 2 (e := errB "InvalidDegree" "thing") rfl) (He.glo_ok X G (t.says.d.fact 19 (f := .glo "InvalidDegree") rfl)) (t.says.d.def_ 1 (d := dm "InvalidDegree" "__init__" "InvalidDegree.__init__" mInvalidDegreeInit []) rfl)
    eP := errB_ok (t.ex 3 (e := errB "InvalidPieces" "place") rfl) (He.glo_ok X G (t.says.d.fact 20 (f := .glo "InvalidPieces") rfl)) (t.says.d.def_ 2 (d := dm "InvalidPieces" "__init__" "InvalidPieces.__init__" mInvalidPiecesInit []) rfl)
    eSh := errB_ok (t.ex 4 (e := errB "InvalidShape" "thing") rfl) (He.glo_ok X G (t.says.d.fact 21 (f := .glo "InvalidShape") rfl)) (t.says.d.def_ 3 (d := dm "InvalidShape" "__init__" "InvalidShape.__init__" mInvalidShapeInit []) rfl)
    d_is_whole := at_def X G t (x := "is_whole") (st := sWhole) 4 22 rfl rfl
    d_is_degree := at_def X G t (x := "is_degree") (st := sIsDeg) 5 23 rfl rfl
    d_check_degree := at_def X G t (x := "check_degree") (st := sCheck) 6 24 rfl rfl
    d_degree := at_def X G t (x := "degree") (st := sDegree) 7 25 rfl rfl
    d_ratio := at_def X G t (x := "ratio") (st := sRatio) 8 26 rfl rfl
    d_plus := at_def X G t (x := "plus") (st := sPlus) 9 27 rfl rfl
    d_minus := at_def X G t (x := "minus") (st := sMinus) 10 28 rfl rfl
    d_times := at_def X G t (x := "times") (st := sTimes) 11 29 rfl rfl
    d_over := at_def X G t (x := "over") (st := sOver) 12 30 rfl rfl
    d_is_below := at_def X G t (x := "is_below") (st := sIsBelow) 13 31 rfl rfl
    d_lower_of := at_def X G t (x := "lower_of") (st := sLowerOf) 14 32 rfl rfl
    d_higher_of := at_def X G t (x := "higher_of") (st := sHigherOf) 15 33 rfl rfl
    d_sums := at_def X G t (x := "sums") (st := sSums) 16 34 rfl rfl
    d_check_pieces := at_def X G t (x := "_check_pieces") (st := sCheckPieces) 17 35 rfl rfl
    d_is_piece := at_def X G t (x := "_is_piece") (st := sIsPiece) 18 36 rfl rfl
    d_overlap := at_def X G t (x := "_overlap") (st := sOverlap) 19 37 rfl rfl
    d_ascending := at_def X G t (x := "_ascending") (st := sAscending) 20 38 rfl rfl
    d_shape_of := at_def X G t (x := "_shape_of") (st := sShapeOf) 21 39 rfl rfl
    d_both := at_def X G t (x := "_both") (st := sBoth) 22 40 rfl rfl
    d_then := at_def X G t (x := "_then") (st := sThen) 23 41 rfl rfl
    d_piece_around := at_def X G t (x := "_piece_around") (st := sPieceAround) 24 42 rfl rfl
    d_law_mixed := at_def X G t (x := "_law_mixed") (st := sMixed) 25 43 rfl rfl
    d_law_purse := at_def X G t (x := "_law_purse") (st := sPurse) 26 44 rfl rfl
    d_law_draw := at_def X G t (x := "_law_draw") (st := sDraw) 27 45 rfl rfl
    d_law_great := at_def X G t (x := "_law_great") (st := sGreat) 28 46 rfl rfl
    d_law_common := at_def X G t (x := "_law_common") (st := sCommon) 29 47 rfl rfl
    d_law_lowest := at_def X G t (x := "_law_lowest") (st := sLowest) 30 48 rfl rfl
    d_law_degree := at_def X G t (x := "_law_degree") (st := sDeg) 31 49 rfl rfl
    d_law_plus := at_def X G t (x := "_law_plus") (st := lPlus) 32 50 rfl rfl
    d_law_less := at_def X G t (x := "_law_less") (st := sLess) 33 51 rfl rfl
    d_law_lot := at_def X G t (x := "_law_lot") (st := lLot) 34 52 rfl rfl
    d_law_piece := at_def X G t (x := "_law_piece") (st := lPiece) 35 53 rfl rfl
    d_law_both := at_def X G t (x := "_law_both") (st := lBoth) 36 54 rfl rfl
    d_law_then := at_def X G t (x := "_law_then") (st := lThen) 37 55 rfl rfl
    d_law_near := at_def X G t (x := "_law_near") (st := lNear) 38 56 rfl rfl
    d_law_right := at_def X G t (x := "_law_right") (st := sRight) 39 57 rfl rfl
    cNOTHING := ⟨_, He.glo_ok X G (t.says.d.fact 58 (f := .glo "NOTHING") rfl), fun H => He.tupB_ok (vs := [.int 0, .int 1]) (t.ex 5 (e := fun K => He.tupB K "NOTHING" [.int 0, .int 1]) rfl) H⟩
    cWHOLE := ⟨_, He.glo_ok X G (t.says.d.fact 59 (f := .glo "WHOLE") rfl), fun H => He.tupB_ok (vs := [.int 1, .int 1]) (t.ex 6 (e := fun K => He.tupB K "WHOLE" [.int 1, .int 1]) rfl) H⟩
    gJoining := He.glo_ok X G (t.says.d.fact 60 (f := .glo "Joining") rfl)
    clJoining := He.cls_ok (t.says.d.fact 61 (f := .cls "Joining") rfl)
    mkJoining := He.mkr_ok (t.says.d.fact 62 (f := .mkr "Joining") rfl)
    owJoining := ownB_ok (t.ex 7 (e := ownB "Joining") rfl)
    nJoiningpieces := He.noat_ok (t.says.d.fact 63 (f := .noat "Joining" "pieces") rfl)
    nJoiningshape := He.noat_ok (t.says.d.fact 64 (f := .noat "Joining" "shape") rfl)
    iJoining := t.says.d.def_ 40 (d := dm "Joining" "__init__" "Joining.__init__" mJoiningInit [.adr (He.dflAt ("Joining", some "__init__") 0)]) rfl
    eJoining0 := emptB_ok (t.ex 8 (e := fun K => emptB K (He.dflAt ("Joining", some "__init__") 0 K)) rfl)
    mJoiningBoth := at_meth t (C := "Joining") (m := "both") (q := "Joining.both") (st := mJoiningBoth) 41 65 rfl rfl
    mJoiningThen := at_meth t (C := "Joining") (m := "then") (q := "Joining.then") (st := mJoiningThen) 42 66 rfl rfl
    mJoiningWorth := at_meth t (C := "Joining") (m := "worth") (q := "Joining.worth") (st := mJoiningWorth) 43 67 rfl rfl
    mJoiningIsBreak := at_meth t (C := "Joining") (m := "is_break") (q := "Joining.is_break") (st := mJoiningIsBreak) 44 68 rfl rfl
    mJoiningEq := at_meth t (C := "Joining") (m := "__eq__") (q := "Joining.__eq__") (st := mJoiningEq) 45 69 rfl rfl }
theorem law_at {w : World} {K : PySem.W.Frag} {h : Heap} {mg : Str → Option Value} {fa : Addr} (X : K.In h) (G : h.Ns mainGlobals mg) (t : Told faL fnL tsL exL w K) (hfa : mg ("law" : Str) = some (.ref fa)) :
    ∃ fd, FnP K "law" sLaw fa fd ∧ ∀ (s : Shared) (v : Value), BindsTo s fd ⟨[v], []⟩ [("script", v)] := by
  obtain ⟨fd, F⟩ := t.says.d.def_ 46 (d := dd "law" sLaw) rfl
  have e := hfa.symm.trans (He.glo_ok X G (t.says.d.fact 70 (f := .glo "law") rfl))
  cases e
  have b := FunD.bindsA (ps := ["script"]) F fun _ _ _ _ _ _ us hl => match us, hl with
    | [_], _ => rfl
  exact ⟨fd, F, fun s v => b s [v] rfl⟩
abbrev R : PySem.W.OpenRow := PySem.W.OpenLaw.row PySem.Challenge.rw_gradetalk_k10_both_and_then
abbrev hk : PySem.W.Hook := hookX 6 faL fnL tsL exL
def lsL : List PySem.Str := (["_wall", "GradeError", "InvalidDegree", "InvalidPieces", "Overlap", "InvalidShape", "is_whole", "is_degree", "check_degree", "degree", "ratio", "plus", "minus", "times", "over", "is_below", "lower_of", "higher_of", "NOTHING", "WHOLE"] : List PySem.Str) ++ (["Joining", "sums", "_check_pieces", "_is_piece", "_overlap", "_ascending", "_shape_of", "_both", "_then", "_piece_around", "_law_mixed", "_law_purse", "_law_draw", "_law_great", "_law_common", "_law_lowest", "_law_degree", "_law_plus", "_law_less", "_law_lot"] : List PySem.Str) ++ (["_law_piece", "_law_both", "_law_then", "_law_near", "_law_right"] : List PySem.Str)
theorem run (w : World) : HandSHeadRun.RunEqI R (PySem.W.view R.prog [0, 51]) hk (obX 6 faL fnL tsL exL) 4000 lsL w := by
  unfold HandSHeadRun.RunEqI
  kernel_rfl

end G1
set_option maxHeartbeats 8000000
namespace G1
open PySem PySem.Spec PyProof.Rows L2 JN
section
variable {P : Program} {w : World} {K : PySem.W.Frag} {mg : Str → Option Value} {base : Heap}
theorem pow_ten : CPowW 10 20 := ⟨by decide, by decide +kernel⟩
theorem fracs {a b : Int} {k : Nat} (b0 : 0 < b) (e0 : 0 ≤ a) (le : a ≤ b) (hb : b.natAbs < 2 ^ k) (hk : k ≤ 120) : 0 ≤ Rat.divInt a b ∧ Rat.divInt a b ≤ 1 ∧ Sz 120 (Rat.divInt a b) := by
  have hi := JN.dle' (a := a) (b := b) b0 le
  rw [Rat.divInt_self' (by omega)] at hi
  exact ⟨Rat.divInt_nonneg e0 (by omega), hi, (div_sz b0 (by omega) hb).mono hk⟩
theorem scDegTen : FnScope ["purse", "beneath", "top"] ["purse"] (defScope sDeg) := ⟨rfl, rfl, rfl, by decide +kernel, rfl, by decide +kernel, by decide +kernel⟩
theorem cl_degten (D : DefAt K mg "_law_degree" sDeg) (cD : Cl CX0 P w K mg base 2 "_law_draw" ["purse", "out_of"] spDraw) (cL : Cl CX0 P w K mg base 2 "_law_lowest" ["above", "beneath"] (spLowest K)) : Cl CX0 P w K mg base 3 "_law_degree" ["purse"] (spDegL K) := by
  obtain ⟨f, fd, F, hm⟩ := D
  refine cl_of F hm (F.ok scDegTen (fun vs H Q E h => ?_) (fun cdv A outer s H vs Q E hr h => ⟨_, PSs.nox (pss_cons
      (ps_set (i := 1) scDegTen.nd rfl (Or.inl rfl) (pe_ix ix_list (pe_lst (pa_cons pe_int (pa_cons pe_int (pa_cons pe_int (pa_cons pe_int (pa_cons pe_int (pa_cons pe_int (pa_cons pe_int (pa_cons pe_int (pa_cons (pe_op op_powW pe_int pe_int) pa_nil)))))))))) (pe_c0 cD hr (Nat.le_refl 2) (by rfl) (pa_cons (pv 0) (pa_cons pe_int pa_nil))) (fun _ _ => rfl)))
      (pss_cons (ps_set (i := 2) scDegTen.nd rfl (Or.inl rfl) (pe_c0 cD hr (Nat.le_refl 2) (by rfl) (pa_cons (pv 0) (pa_cons (pe_op op_add (pv 1) pe_int) pa_nil))))
      (pss_cons (ps_if (PW.pt (pw_and (pt_cmpR op_eq (pe_c0 cD hr (Nat.le_refl 2) (by rfl) (pa_cons (pv 0) (pa_cons pe_int pa_nil))) pe_int (nomark _)) (pw_and1 (pt_cmpR op_lt (pv 2) (pv 1) (nomark _)))))
        (pss_one (ps_ret (pe_c0 cL hr (Nat.le_refl 2) (by rfl) (pa_cons (pe_op op_add (pe_op op_mulW (pv 2) (pe_op op_powW pe_int pe_int)) pe_int) (pa_cons (pe_op op_mulW (pv 1) (pe_op op_powW pe_int pe_int)) pa_nil))))) pss_nil)
      (pss_one (ps_ret (pe_c0 cL hr (Nat.le_refl 2) (by rfl) (pa_cons (pv 2) (pa_cons (pv 1) pa_nil)))))))), ?_⟩)) fun _ _ _ _ _ _ us hl => match us, hl with | [_], _ => rfl
  · obtain ⟨p, c, rfl, _⟩ := h
    rfl
  · obtain ⟨p, c, rfl, h⟩ := h
    have hP := h.at_
    have c1 := h.lo
    refine ⟨_, _, rfl, rfl, pow_bits4, (by show 9 ≤ sizeLine; decide), fun l hl => ?_⟩
    obtain ⟨H1, e1, P1, B1, f1⟩ := mk_at (.lst [.int 1, .int 2, .int 3, .int 4, .int 5, .int 6, .int 8, .int 12, .int (10 ^ (11 : Int).toNat)]) hP hl
    rw [e1]
    refine ⟨_, rfl, p, 9, c, rfl, P1, by omega, by decide, by decide, fun d c2 H2 d0 d1 hc2 P2 B2 => ?_⟩
    have hb : ∃ n : Nat, atI [V.int 1, .int 2, .int 3, .int 4, .int 5, .int 6, .int 8, .int 12, .int (10 ^ (11 : Int).toNat)] d = some (.int n) ∧ 0 < n ∧ n < 2 ^ 40 := by
      have hd : d = 0 ∨ d = 1 ∨ d = 2 ∨ d = 3 ∨ d = 4 ∨ d = 5 ∨ d = 6 ∨ d = 7 ∨ d = 8 := by omega
      rcases hd with rfl | rfl | rfl | rfl | rfl | rfl | rfl | rfl | rfl
      · exact ⟨1, rfl, by decide, by decide⟩
      · exact ⟨2, rfl, by decide, by decide⟩
      · exact ⟨3, rfl, by decide, by decide⟩
      · exact ⟨4, rfl, by decide, by decide⟩
      · exact ⟨5, rfl, by decide, by decide⟩
      · exact ⟨6, rfl, by decide, by decide⟩
      · exact ⟨8, rfl, by decide, by decide⟩
      · exact ⟨12, rfl, by decide, by decide⟩
      · exact ⟨10 ^ 11, rfl, by decide, by decide⟩
    obtain ⟨n, hn, n0, n1⟩ := hb
    refine ⟨l, _, _, _, rfl, rfl, SqL.of (hide_same _ _ (B2.hide _ _ f1)), hn, ?_⟩
    refine gn1 (σ' := [some (.ref p), some (.int n), none]) rfl ?_
    refine ⟨_, rfl, _, rfl, _, _, rfl, rfl, p, (n : Int) + 1, c2, rfl, P2, by omega, by omega, by omega, fun e c3 H3 e0 e1 hc3 P3 B3 => ?_⟩
    refine gn1 (σ' := [some (.ref p), some (.int n), some (.int e)]) rfl ?_
    refine ⟨_, rfl, p, 6, c3, rfl, P3, by omega, by decide, by decide, fun d6 c4 H4 a6 b6 hc4 P4 B4 => ?_⟩
    have B04 := (B1.trans B2).trans (B3.trans B4)
    have b0 : (0 : Int) < (n : Int) := by omega
    refine ⟨rfl, _, rfl, ?_⟩
    have low : ∀ G, G = H4 → 0 ≤ Rat.divInt e n ∧ Rat.divInt e n ≤ 1 ∧ Sz 120 (Rat.divInt e n) := fun _ _ => fracs b0 e0 (by omega) (k := 40) (by omega) (by decide)
    have uq := low H4 rfl
    by_cases z6 : d6 = 0 ∧ e < (n : Int)
    · rw [decide_eq_true (show V.int d6 = V.int 0 by rw [z6.1])]
      refine iteT ⟨_, rfl, _, rfl, _, _, rfl, rfl, _, rfl, ?_⟩
      rw [decide_eq_true z6.2]
      refine iteT ?_
      obtain ⟨T, hT⟩ : ∃ T : Int, (10 : Int) ^ (20 : Int).toNat = T := ⟨_, rfl⟩
      have T0 : 0 < T := by rw [← hT]; decide
      have T67 : T.natAbs < 2 ^ 67 := by rw [← hT]; decide
      have e40 : e.natAbs < 2 ^ 40 := by omega
      have n40 : (n : Int).natAbs < 2 ^ 40 := by omega
      have eT : (e * T).natAbs < 2 ^ 107 := mul_small (j := 40) (k := 67) e40 T67
      have nT : ((n : Int) * T).natAbs < 2 ^ 107 := mul_small (j := 40) (k := 67) n40 T67
      have pos : 0 < (n : Int) * T := Int.mul_pos b0 T0
      have eT0 : 0 ≤ e * T := Int.mul_nonneg e0 (Int.le_of_lt T0)
      have step : e * T + 1 ≤ (n : Int) * T := by
        have z : (e + 1) * T ≤ (n : Int) * T := Int.mul_le_mul_of_nonneg_right (by omega) (Int.le_of_lt T0)
        rw [Int.add_mul, Int.one_mul] at z
        omega
      have top : (e * T + 1).natAbs < 2 ^ 108 := add_small eT (lt_up (a := 1) (j := 1) (by decide) (by decide))
      refine ⟨_, rfl, _, _, rfl, rfl, pow_ten, ?_⟩
      refine ⟨e, T, rfl, congrArg V.int hT, mulW_ok (lt_up e40 (by decide)) (lt_up T67 (by decide)), ?_⟩
      refine ⟨_, _, rfl, rfl, ?_⟩
      refine ⟨_, rfl, _, _, rfl, rfl, pow_ten, ?_⟩
      refine ⟨(n : Int), T, rfl, congrArg V.int hT, mulW_ok (lt_up n40 (by decide)) (lt_up T67 (by decide)), ?_⟩
      refine ⟨_, _, rfl, ⟨pos, lt_up top (by decide), lt_up nT (by decide), fun t H5 nt S5 rt => ?_⟩⟩
      exact h.fin t _ c4 H5 (by omega) (fracs pos (by omega) step (k := 107) nT (by decide)) (P4.same S5) (B04.trans (but_same S5)) (rt_hide P4 nt S5 rt)
    · have out : ∃ a b : Int, ([.int e, .int (n : Int)] : List V) = [.int a, .int b] ∧ LowP K a b H4 Q := by
        refine ⟨e, n, rfl, ⟨b0, lt_up (j := 40) (by omega) (by decide), lt_up (j := 40) (by omega) (by decide), fun t H5 nt S5 rt => ?_⟩⟩
        exact h.fin t _ c4 H5 (by omega) uq (P4.same S5) (B04.trans (but_same S5)) (rt_hide P4 nt S5 rt)
      by_cases z0 : d6 = 0
      · rw [decide_eq_true (show V.int d6 = V.int 0 by rw [z0])]
        refine iteT ⟨_, rfl, _, rfl, _, _, rfl, rfl, _, rfl, ?_⟩
        rw [decide_eq_false (show ¬ e < (n : Int) from fun z => z6 ⟨z0, z⟩)]
        exact iteF ⟨_, rfl, _, rfl, out⟩
      · rw [decide_eq_false (show ¬ V.int d6 = V.int 0 from fun z => z0 (by injection z))]
        exact iteF (iteF ⟨_, rfl, _, rfl, out⟩)
end
end G1
set_option maxHeartbeats 0
namespace G1
open PySem PySem.Spec PyProof.Rows L2 JN
theorem join_txt {w : World} {K : PySem.W.Frag} {mg : Str → Option Value} (F : HF w K mg) : JoinTxt K mg (He.ga K "Joining") := by
  obtain ⟨fI, hI⟩ := F.iJoining
  exact ⟨F.gJoining, F.clJoining, F.nJoiningpieces, F.nJoiningshape, F.owJoining, ⟨_, fI, _, F.mkJoining, hI, F.eJoining0⟩⟩
theorem law_facts {P : Program} {w : World} {K : PySem.W.Frag} {base : Heap} {mg : Str → Option Value} {fa : Addr} {fd : FuncData} (F : HF w K mg) (L : FnP K "law" sLaw fa fd) : FnG CX0 P w K mg base 9 fa fd ["script"] (spLawR K) := by
  have T := join_txt F
  have B := F.blt
  have E2 : Ends2 K mg := ⟨F.cNOTHING, F.cWHOLE⟩
  have cW := cl_whole (P := P) (w := w) (base := base) F.d_is_whole B
  have cI := cl_isdeg F.d_is_degree B F.gcd cW
  have cK := cl_check F.d_check_degree F.eD cI
  have cDg := cl_degree F.d_degree F.gcd F.eD cW
  have cC := cl_common (P := P) (w := w) (base := base) F.d_law_common
  have cL := cl_lowest F.d_law_lowest B cC
  have cLe := cl_less (P := P) (w := w) (base := base) F.d_law_less
  have cB := cl_below (P := P) (w := w) (base := base) F.d_is_below
  have cO := cl_overlap F.d_overlap cB
  have cIp := cl_ispiece F.d_is_piece B cI cB
  have cCk := cl_checkps F.d_check_pieces B cIp cO
  have cCkT := cl_checkpsT F.d_check_pieces B cIp cO
  have cA := cl_ascending F.d_ascending B cB
  have cAT := cl_ascendingT F.d_ascending B cB
  have cS := cl_shapeof (P := P) (w := w) (base := base) F.d_shape_of B E2
  have M := makerJ T cCk cA cS
  have M2 := makerT T cCk cA cCkT cAT cS
  have cSu := cl_sums F.d_sums B T M cW cDg
  have kSu := clk_of (ks := ["count"]) (g := id) (gV := id) cSu F.d_sums (fun _ _ _ _ _ _ ws hl => match ws, hl with | [_], _ => rfl) rel1
  have cR := cl_ratio (P := P) (w := w) (base := base) F.d_ratio F.gcd
  have cLo := cl_lower F.d_lower_of cB
  have cHi := cl_higher F.d_higher_of cB
  have Z : Fr P w K mg base := ⟨cl_plus F.d_plus cR, cl_minus F.d_minus cR, cl_times F.d_times cR, cl_over F.d_over cR, cB, cLo, cHi, cl_around F.d_piece_around cB cLo cHi⟩
  have MB := mw_both F.mJoiningBoth T cK (cl_bothl F.d_both Z)
  have MT := mw_then F.mJoiningThen T cK (cl_thenl F.d_then E2 Z)
  have cM := cl_mixed (P := P) (w := w) (base := base) F.d_law_mixed B
  have cD := cl_draw F.d_law_draw B cM
  have cP := cl_purse (P := P) (w := w) (base := base) F.d_law_purse B
  have cG := cl_degten F.d_law_degree cD cL
  have cLt := cl_lot F.d_law_lot B cD cG cLe
  have cN := cl_near F.d_law_near B cD cG cL
  have cPl := cl_plusl F.d_law_plus cL
  have cPc := cl_piecel F.d_law_piece cLe
  have cBo := cl_bothw F.d_law_both cLe cPc cPl cL
  have cTh := cl_thenw F.d_law_then cLe cPc cPl cL
  have EM : EqM K (He.ga K "Joining") := F.mJoiningEq
  have cRt := cl_right F.d_law_right B T EM M2 MB MT cD cLt cN cL cBo cTh
  exact FnG.of (ok_law L B T EM M2 MB MT cP cRt cSu kSu)
end G1
open PySem PySem.W PySem.Calls PyProof.Rows
set_option maxHeartbeats 0 in
theorem PySem.Challenge.cw_gradetalk_k10_both_and_then_holds : PySem.Challenge.rw_gradetalk_k10_both_and_then.Holds := by
  w_on; o_law
  refine HandSHeadRun.head_imp (r := OpenLaw.row PySem.Challenge.rw_gradetalk_k10_both_and_then) (q := view (OpenLaw.row PySem.Challenge.rw_gradetalk_k10_both_and_then).prog [0, 51]) (H := G1.hk) (ob := G1.obX 6 G1.faL G1.fnL G1.tsL G1.exL) (M := 4000) (loose := G1.lsL) (d := HandSHeadRun.topDef (OpenLaw.row PySem.Challenge.rw_gradetalk_k10_both_and_then).prog 51) (kwd := []) G1.obX_eq
    G1.run (by kernel_rfl) (by kernel_rfl) (by kernel_rfl) (by rfl) (by first | assumption | decide +kernel) (by decide +kernel) ⟨rfl, rfl, rfl, rfl, rfl, by decide +kernel⟩ ?hw ?hc
  case hw => w_witness2
  case hc =>
    refine G1.walk_ofG (l := PySem.Challenge.rw_gradetalk_k10_both_and_then) (n := 63) (k := 9) (x := "script") rfl (by decide) (by kernel_rfl) ⟨rfl, by decide, by decide⟩ ?F
    intro w mg fa h Y G hmg0
    obtain ⟨K, KX, t⟩ := Y
    have nm : (HandSHeadRun.topDef (OpenLaw.row PySem.Challenge.rw_gradetalk_k10_both_and_then).prog 51).name = ("law" : PySem.Str) := by kernel_rfl
    rw [nm] at hmg0
    obtain ⟨fd, F, hb⟩ := G1.law_at KX G t hmg0
    exact ⟨K, fd, G1.spLawR K, KX, hb, fun H a ns hl hS => ⟨a, ns, rfl, hS, hl, fun _ => rfl⟩, fun base _ _ => G1.law_facts (G1.hf KX G t) F⟩
#print axioms PySem.Challenge.cw_gradetalk_k10_both_and_then_holds
