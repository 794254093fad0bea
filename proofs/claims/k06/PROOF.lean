import PyProof.Rows.All
import Wide.All
import OpenK.AllK
import Wide.FinOn
import HandS.ForExc
import HandS.ForMost
import HandS.Wide
import HandS.IsInst
import HandS.TryMany
import HandS.Style
import HandS.Flow
import HandS.Defaults
import HandS.ExcInit
import HandS.ExcField
import HandS.SetKeys
import HandS.Gcd
import HandS.HeadHook2
import HandS.HeadHook3
import HandS.TupSets
import HandS.SetTxt0
import PyProof.Rows.SortShellAny
import HandS.FStr
import HandS.SlotsOwn
import KE.KFmtOwn
import KE.KOpsOwn
import PyProof.InstEq
import PyProof.ReprLen
import PyProof.ReprRoads
import HandS.Deep
import HandS.ListItems
import KE.KDictList
import HandS.Walk
import PyProof.StrBlock2
import HandS.Head0
import HandS.Head1
import HandS.Head2
import HandS.Head3
import HandS.HeadEnd
import PySem.Challenge.RW_gradetalk_k06_strings_that_are_no_texts
set_option Elab.async false
set_option linter.all false
set_option maxRecDepth 100000
set_option maxHeartbeats 4000000
namespace G1
open PySem PySem.Spec PyProof.Rows L2
/-- a def of the top under its own name -/
abbrev FnP (K : PySem.W.Frag) (x : Str) (st : Stmt) (f : Addr) (fd : FuncData) : Prop :=
  FunD K x x (defArgs st) (defBody st) (defScope st) [] [] f fd
/-! ### further rules -/
def CPowW (i j : Int) : Prop := 0 ≤ j ∧ (Builtin.Int.intBits i : Int) * j ≤ 2 ^ 27
theorem op_powW {X : Cx} : OpR X (binaryOp .Pow) (rI CPowW fun i j => .int (i ^ j.toNat)) := opI fun _ _ _ _ _ _ _ hc q => pow_int hc.1 hc.2 q
/-- f and its arguments by name alone -/
def tCallN0 (sp : Sp) (g : List V → List V) (E : XK) (tk : TA) : TE := fun σ H Q => tk σ H fun zs H1 => sp (g zs) H1 Q E
section
variable {X : Cx} {CX : CXT} {k : Nat} {f : Addr} {fd : FuncData} {ps ks : List Str} {sp : Sp} {E : XK} {x : Str} {p pos : Pos} {kws : List Keyword} {tk : TA} {g : List Value → List Value → List Value} {gV : List V → List V → List V}
theorem pe_callN0 (F : FnOk X.prog X.w X.K X.mg X.base CX k f fd ps sp) (hr : Room k X.A) (hg : Gl X x) (hm : X.mg x = some (.ref f)) (hk : PySem.W.keepIn X.K (.ref f) = true) (hb : KBinds X.K fd ps ks g gV) (hx : Passes CX X E)
    (hkw : PK X kws tk) (hall : (backToKw pos (keywordEach kws X.env)).all (·.1.isSome) = true := by rfl) (hks : (backToKw pos (keywordEach kws X.env)).filterMap (·.1) = ks := by rfl)
    (nodbg : (x == ("__debug__" : Str)) = false := by decide)
    (plain : ((backTo pos (starEach [] X.env)).any (·.1) || (backToKw pos (keywordEach kws X.env)).any (·.1.isNone)) = false := by rfl) :
    PE X (.Call (.Name x p) [] kws pos) (tCallN0 sp (gV []) E tk) := by
  constructor
  intro pins s σ H Q I h
  apply wpAny_Call_Name_kw
  apply ld_glob I hg hm _ nodbg
  apply PySem.W.callWith_KW0 (h₀ := X.base) I.ok.mod.kin hk hall _ plain
  refine thn (hkw.run pos pins s σ H _ I h) ?_
  rintro ws s2 ⟨zs, H2, I2, rz, q2⟩
  refine ⟨I2.kIn, ?_⟩
  rw [hks]
  exact run_fnk (us := []) F hr hb hx I2 .nil rz q2
end
theorem call_str_bl {X : Cx} : CallR X (.type "str") (fun xs H Q => ∃ b : Bool, xs = [.bl b] ∧ Q (.str (if b then "True" else "False")) H) := by
  intro pn s st H xs us Q I r ask
  obtain ⟨b, rfl, q⟩ := ask
  cases r with
  | cons r1 r2 =>
    cases r2
    cases r1
    exact PySem.P.str_of_bool ⟨.str (if b then "True" else "False"), H, I.tok _, ⟨_, rfl⟩, q⟩
/-! ### the purse -/
structure PurseAt (H : Hp) (p : Addr) (c : Int) : Prop where
  ex : ∃ a b : Int, H p = some (.lst [.int a, .int b, .int c]) ∧ 0 ≤ a ∧ a.natAbs < 2 ^ 1600 ∧ 0 ≤ b ∧ b < 2147483647
  c0 : 0 ≤ c
/-- all but p stands -/
def But (p : Addr) (H H' : Hp) : Prop := ∀ x o, x ≠ p → H x = some o → H' x = some o
theorem But.free {p : Addr} {H H' : Hp} {o : HO} (b : But p H H') (hp : H' p = some o) {x : Addr} (h : H' x = none) : H x = none := by
  cases q : H x with
  | none => rfl
  | some u =>
    have ne : x ≠ p := by
      intro e
      rw [e, hp] at h
      cases h
    rw [b x u ne q] at h
    cases h
theorem But.trans {p : Addr} {H H1 H2 : Hp} (a : But p H H1) (b : But p H1 H2) : But p H H2 := fun x o n h => b x o n (a x o n h)
theorem But.refl {p : Addr} {H : Hp} : But p H H := fun _ _ _ h => h
theorem PurseAt.free {p : Addr} {H H' : Hp} {c : Int} (P : PurseAt H' p c) (b : But p H H') {x : Addr} (h : H' x = none) : H x = none := by
  obtain ⟨a, d, e, _⟩ := P.ex
  exact b.free e h
/-! ### promises -/
def spMixed : Sp := fun vs H Q _ => ∃ c k : Int, vs = [.int c, .int k] ∧ 0 ≤ c ∧ c < 2147483647 ∧ 0 ≤ k ∧ k < 2 ^ 50 ∧ ∀ r, 0 ≤ r → Q (.int r) H
def spPurse (K : PySem.W.Frag) : Sp := fun vs H Q _ => ∃ (a : Addr) (ns : List Int) (i : Int), vs = [.ref a, .int i] ∧ SqL K H a (ns.map V.int) ∧ 0 ≤ i ∧ i ≤ 8 ∧
  ∀ (p : Addr) (H' : Hp), H p = none → Same H H' → PurseAt H' p (1000 * i) → Q (.ref p) H'
def spDraw : Sp := fun vs H Q _ => ∃ (p : Addr) (n c : Int), vs = [.ref p, .int n] ∧ PurseAt H p c ∧ c < 2 ^ 40 ∧ 0 < n ∧ n < 2 ^ 60 ∧
  ∀ (d c' : Int) (H' : Hp), 0 ≤ d → d < n → c' ≤ c + 1 → PurseAt H' p c' → But p H H' → Q (.int d) H'
/-- what the top has bound -/
structure Blt (mg : Str → Option Value) : Prop where
  int : mg "int" = none
  max : mg "max" = none
  min : mg "min" = none
  len : mg "len" = none
  range : mg "range" = none
  abs : mg "abs" = none
  str : mg "str" = none
  list : mg "list" = none
  isin : mg "isinstance" = none
  bool : mg "bool" = none
  tuple : mg "tuple" = none
  set : mg "set" = none
  sorted : mg "sorted" = none
  sum : mg "sum" = none
  rev : mg "reversed" = none
  enum : mg "enumerate" = none
  zip : mg "zip" = none
  dict : mg "dict" = none
/-- a def of the top, called by its name -/
def DefAt (K : PySem.W.Frag) (mg : Str → Option Value) (x : Str) (st : Stmt) : Prop := ∃ (f : Addr) (fd : FuncData), FnP K x st f fd ∧ mg x = some (.ref f)
section
variable {P : Program} {w : World} {K : PySem.W.Frag} {mg : Str → Option Value} {base : Heap} {f : Addr} {fd : FuncData} {x : Str} {st : Stmt} {ps : List Str} {sp : Sp} {k : Nat}
/-- .. and its promise; CX: what it may let out -/
structure Cl (CX : CXT) (P : Program) (w : World) (K : PySem.W.Frag) (mg : Str → Option Value) (base : Heap) (k : Nat) (x : Str) (ps : List Str) (sp : Sp) : Prop where
  ex : ∃ (f : Addr) (fd : FuncData), FnOk P w K mg base CX k f fd ps sp ∧ mg x = some (.ref f) ∧ PySem.W.keepIn K (.ref f) = true ∧ Binds K fd ps [] ∧ ∃ (oc : Value) (od : Option Addr) (osl : Array (Option Value)), K.lookup f = some ⟨oc, od, .func fd, osl⟩
theorem cl_of {CX : CXT} (F : FnP K x st f fd) (hm : mg x = some (.ref f)) (G : FnOk P w K mg base CX k f fd ps sp)
    (b : ∀ (kV doc pm : Value) (an : Option Addr) (cdv ct : Value) (us : List Value), us.length = ps.length → bindArgs (PySem.W.fnOf x x (defArgs st) (defBody st) (defScope st) .none kV doc pm an cdv ct) ⟨us, []⟩ = pure (ps.zip us)) : Cl CX P w K mg base k x ps sp := by
  obtain ⟨oc, od, dV, kV, doc, pm, an, cdv, ct, osl, e, lk, _⟩ := id F.ex
  exact ⟨f, fd, G, hm, F.kp, F.bindsN b, oc, od, osl, lk⟩
end
section
variable {X : Cx} {k j : Nat} {x : Str} {ps : List Str} {sp : Sp} {p pos : Pos} {e : Expr} {es : List Expr} {t : TA}
theorem pe_c0 (c : Cl CX0 X.prog X.w X.K X.mg X.base k x ps sp) (hr : Room j X.A) (hk : k ≤ j) (hg : Gl X x) (ha : PA X (e :: es) t)
    (nodbg : (x == ("__debug__" : Str)) = false := by decide) (first : starEach (e :: es) X.env = (false, eval e X.env) :: starEach es X.env := by rfl) (plain : (backTo pos (starEach es X.env)).any (·.1) = false := by rfl) :
    PE X (.Call (.Name x p) (e :: es) [] pos) (tCall sp [] E0 t) := by
  obtain ⟨f, fd, F, hm, kp, b, _⟩ := c.ex
  exact pe_call F (hr.mono hk) hg hm kp b .nil pass0 ha nodbg first plain
/-- a def that may raise, where it does not -/
theorem pe_cX (c : Cl (L2.CX X.prog X.w) X.prog X.w X.K X.mg X.base k x ps sp) (hr : Room j X.A) (hk : k ≤ j) (hg : Gl X x) (ha : PA X (e :: es) t)
    (nodbg : (x == ("__debug__" : Str)) = false := by decide) (first : starEach (e :: es) X.env = (false, eval e X.env) :: starEach es X.env := by rfl) (plain : (backTo pos (starEach es X.env)).any (·.1) = false := by rfl) :
    PE X (.Call (.Name x p) (e :: es) [] pos) (tCall sp [] E0 t) := by
  obtain ⟨f, fd, F, hm, kp, b, _⟩ := c.ex
  exact pe_call F (hr.mono hk) hg hm kp b .nil passL ha nodbg first plain
/-- .. where what it raises is wished for -/
theorem pe_cS {W : WX} (c : Cl (L2.CX X.prog X.w) X.prog X.w X.K X.mg X.base k x ps sp) (hr : Room j X.A) (hk : k ≤ j) (tk : Takes X W) (hg : Gl X x) (ha : PA X (e :: es) t)
    (nodbg : (x == ("__debug__" : Str)) = false := by decide) (first : starEach (e :: es) X.env = (false, eval e X.env) :: starEach es X.env := by rfl) (plain : (backTo pos (starEach es X.env)).any (·.1) = false := by rfl) :
    PE X (.Call (.Name x p) (e :: es) [] pos) (tCallS sp (WE W) t) := by
  obtain ⟨f, fd, F, hm, kp, b, _⟩ := c.ex
  exact pe_callS F (hr.mono hk) hg hm kp b (fun σ => passAt tk σ) ha nodbg first plain
end
/-! ### what stays -/
/-- a tuple stands on -/
theorem sqt_on {K : PySem.W.Frag} {H H' : Hp} {a : Addr} {xs : List V} (h : SqT K H a xs) (e : Same H H') : SqT K H' a xs :=
  match h with
  | .inl (.inl h) => .inl (.inl (e a _ h))
  | .inl (.inr ⟨o, h⟩) => .inl (.inr ⟨o, e a _ h⟩)
  | .inr h => .inr h
theorem ty_tup {K : PySem.W.Frag} {H : Hp} {a : Addr} {xs : List V} (h : SqT K H a xs) : TyX K H (.ref a) (.type "tuple") :=
  match h with
  | .inl (.inl h) => .base (.tup h)
  | .inl (.inr ⟨_, h⟩) => .fTuple h
  | .inr ⟨_, _, _, e, c, _⟩ => .kTuple e c
/-- things that are no objects of the package -/
def Kn (H : Hp) : V → Prop
  | .non => True | .bl _ => True | .int _ => True | .str _ => True
  | .ref a => (∃ xs, H a = some (.lst xs)) ∨ (∃ xs, H a = some (.tup xs)) ∨ (∃ kvs, H a = some (.dK kvs))
  | _ => False
theorem Kn.same {H H' : Hp} (s : Same H H') : ∀ {v : V}, Kn H v → Kn H' v
  | .non, _ => trivial | .bl _, _ => trivial | .int _, _ => trivial | .str _, _ => trivial
  | .ref a, h => by
    rcases h with ⟨xs, e⟩ | ⟨xs, e⟩ | ⟨xs, e⟩
    · exact .inl ⟨xs, s _ _ e⟩
    · exact .inr (.inl ⟨xs, s _ _ e⟩)
    · exact .inr (.inr ⟨xs, s _ _ e⟩)
  | .byt _, h => h.elim | .flt _, h => h.elim | .ty _, h => h.elim
/-! ### small steps -/
theorem units65 {k : Nat} {A : Around} (r : Room k A) : A.units + 65 < cLine := by
  have := r.un
  omega
theorem same_at {H G : Hp} {D : Addr} {o : HO} (n : H D = none) (s : Same H G) : Same H (upd G D o) := fun b u e => (upd_ne (ne_of_none e n)).trans (s b u e)
theorem yes_to {σ : L2.St} {H : Hp} {Q : Bool → Hp → Prop} (h : Q true H) : tYes σ H Q := h
theorem gn1 {i : Nat} {x : V} {σ σ' : L2.St} {H : Hp} {Q : L2.St → Hp → Prop} (e : σ.set i (some x) = σ') (h : Q σ' H) : gName i x σ H Q := by
  subst e
  exact h
/-! ### a class of one's own -/
structure OwnF (K : PySem.W.Frag) (C : Addr) : Prop where
  ne : PySem.W.findIn K (.ref C) "__ne__" = some (some (.builtin "object.__ne__"))
  mo : PySem.W.mroIn K C (.type "object") = some true
  sf : PySem.W.selfFirst K C = true
  isCls : PySem.W.findIn K (.ref C) "__class__" = some (some (.builtin "object.__class__"))
  getCls : PySem.W.specialIn K (.builtin "object.__class__") "__get__" = some (some (.builtin "getset_descriptor.__get__"))
  takesCls : PySem.W.takesIn K (.builtin "object.__class__") = some true
  ki : ∀ n ∈ ["NoneType", "bool", "int", "str", "list", "tuple", "dict"], PySem.W.kitOne K (.type n) (.ref C) = some false
  fm : PySem.W.findIn K (.ref C) "__format__" = some (some (.builtin "object.__format__"))
/-! ### errors of one field -/
/-- C(v) leaves, its own dict at d -/
def Rs (x : Str) (C : Addr) (H : Hp) (v : V) (E : XK) : Prop := ∀ (d : Addr) (H' : Hp), H d = none → Same H H' → H' d = some (.xd [(x, v)]) → E (.ref C) (some d) H'
def spErr (x : Str) (C : Addr) : Sp := fun vs H Q _ => ∃ (a : Addr) (v : V), vs = [.ref a, v] ∧ H a = some (exo a C none) ∧ ∀ dx, H dx = none → dx ≠ a → Q .non (upd (upd H dx (exd dx [(x, v)])) a (exo a C (some dx)))
theorem Rs.imp {x : Str} {C : Addr} {H : Hp} {v : V} {E E' : XK} (h : Rs x C H v E) (k : ∀ c d H', E c d H' → E' c d H') : Rs x C H v E' := fun d H' n s e => k _ _ _ (h d H' n s e)
theorem Rs.from {x : Str} {C : Addr} {H H1 : Hp} {v : V} {E : XK} (h : Rs x C H v E) (s : Same H H1) : Rs x C H1 v E := fun d H' n s' e => h d H' (s.free n) (s.trans s') e
theorem len1 (v : V) : [v].length ≤ 1000 := (by decide : 1 ≤ 1000)
theorem mk_rs {x : Str} {C : Addr} {H : Hp} {v : V} {E : XK} (h : Rs x C H v E) (a : Addr) (ha : H a = none) :
    spErr x C [.ref a, v] (upd H a (exo a C none)) (fun u H2 => u = .non ∧ ∃ (d : Addr) (fs : List (Str × V)), H2 a = some (exo a C (some d)) ∧ H2 d = some (exd d fs) ∧ H d = none ∧ E (.ref C) (some d) (upd (del H2 a) d (.xd fs))) (fun _ _ _ => False) := by
  refine ⟨a, v, rfl, upd_same, fun dx n ne => ⟨rfl, dx, [(x, v)], upd_same, ?_, ?_, ?_⟩⟩
  · rw [upd_ne ne, upd_same]
  · rw [upd_ne ne] at n
    exact n
  · have n' : H dx = none := by
      rw [upd_ne ne] at n
      exact n
    refine h dx _ n' (fun b o e => ?_) upd_same
    have n1 : b ≠ dx := ne_of_none e n'
    have n2 : b ≠ a := ne_of_none e ha
    rw [upd_ne n1, del_ne n2, upd_ne n2, upd_ne n1, upd_ne n2]
    exact e
/-- what the top has written of one -/
structure ErrG (K : PySem.W.Frag) (mg : Str → Option Value) (nm x qual : Str) (st : Stmt) (C fI : Addr) : Prop where
  ox : OexC K C
  xf : XfC K C
  gC : mg nm = some (.ref C)
  no : PySem.W.findIn K (.ref C) x = some none
  iC : PySem.W.findIn K (.ref C) "__init__" = some (some (.ref fI))
  tI : PySem.W.typeIn K (.ref fI) = some (.type "function")
  te : PySem.W.exmOne K (.ref C) (.ref C) = some true
  fn : ∃ fd, FunD K "__init__" qual (defArgs st) (defBody st) (defScope st) [] [] fI fd
end G1
set_option maxHeartbeats 4000000
namespace G1
open PySem PySem.Spec PyProof.Rows L2
/-! ### the text by places -/
def top (i : Nat) : Stmt := PySem.Challenge.pw_gradetalk_k06_strings_that_are_no_texts.main.body.getD i (.Pass ⟨0, 0, 0, 0⟩)
abbrev sWall : Stmt := top 0
abbrev sGradeError : Stmt := top 2
abbrev mInvalidNameInit : Stmt := inClass (top 3) 0
abbrev mInvalidSayingInit : Stmt := inClass (top 4) 0
abbrev mTooLargeInit : Stmt := inClass (top 5) 0
abbrev mInvalidTextInit : Stmt := inClass (top 6) 0
abbrev mSayingInit : Stmt := inClass (top 10) 0
abbrev mSayingBoth : Stmt := inClass (top 10) 1
abbrev mSayingThen : Stmt := inClass (top 10) 2
abbrev mSayingLower : Stmt := inClass (top 10) 3
abbrev mSayingHigher : Stmt := inClass (top 10) 4
abbrev mSayingSame : Stmt := inClass (top 10) 5
abbrev mSayingDenied : Stmt := inClass (top 10) 6
abbrev mSayingParts : Stmt := inClass (top 10) 7
abbrev mSayingAnd : Stmt := inClass (top 10) 8
abbrev mSayingRsh : Stmt := inClass (top 10) 9
abbrev mSayingInv : Stmt := inClass (top 10) 10
abbrev mSayingEq : Stmt := inClass (top 10) 11
abbrev mSayingStr : Stmt := inClass (top 10) 12
abbrev sIsLetter : Stmt := top 11
abbrev sNamed : Stmt := top 12
abbrev sNever : Stmt := top 13
abbrev sAlways : Stmt := top 14
abbrev sJoined : Stmt := top 15
abbrev sNames : Stmt := top 16
abbrev sTextOf : Stmt := top 17
abbrev sParsed : Stmt := top 21
abbrev sTokens : Stmt := top 22
abbrev sTokenAt : Stmt := top 23
abbrev sCheckOrder : Stmt := top 24
abbrev sFits : Stmt := top 25
abbrev sBuilt : Stmt := top 26
abbrev sAlone : Stmt := top 27
abbrev sMixed : Stmt := top 29
abbrev sPurse : Stmt := top 30
abbrev sDraw : Stmt := top 31
abbrev sGreat : Stmt := top 32
abbrev lRaw : Stmt := top 33
abbrev lSize : Stmt := top 34
abbrev lNames : Stmt := top 35
abbrev lBuilt : Stmt := top 36
abbrev lText : Stmt := top 37
abbrev lTokens : Stmt := top 38
abbrev lPlace : Stmt := top 39
abbrev lBent : Stmt := top 40
abbrev lCaught : Stmt := top 41
abbrev sRight : Stmt := top 42
abbrev sLaw : Stmt := top 43
end G1
set_option maxHeartbeats 4000000
namespace TXS
open PySem PySem.Spec PyProof.Rows L2 PySem.Froz
/-! ### sets of texts -/
theorem tail_ris {ep : Nat} {es : Array (Int × Value)} {t : SetTable} {wd : Bool} (r : Ris t.place.toList) : Ris (tailTx ep es t wd).2.2.place.toList := by
  unfold tailTx
  by_cases c : (!wd && t.tooFull) = true
  · rw [if_pos c]
    exact relayAll_ris _ _ _
  · rw [if_neg c]
    exact r
theorem tail_led {ep : Nat} {es : Array (Int × Value)} {t : SetTable} {wd : Bool} : (tailTx ep es t wd).2.2.led = t.led := by
  unfold tailTx
  by_cases c : (!wd && t.tooFull) = true
  · rw [if_pos c]
    exact relayAll_led _ _ _
  · rw [if_neg c]
theorem tx_ris {D : SD} {h : Int} {x : Value} (r : Ris D.2.2.place.toList) : Ris (addTx h x D).2.2.place.toList := by
  have r1 := layNew_ris D.2.2 D.1 h x r
  unfold addTx
  refine tail_ris ?_
  split <;> exact r1
theorem tx_led {D : SD} {h : Int} {x : Value} : (addTx h x D).2.2.led = D.2.2.led := by
  have r1 := layNew_led D.2.2 D.1 h x
  unfold addTx
  rw [tail_led]
  split <;> exact r1
/-- at a a set of the texts l, each once -/
structure TSet (P : Program) (w : World) (h : Heap) (a : Addr) (l : List Str) : Prop where
  ex : ∃ D : SD, h.get? a = some (sObj "set" D) ∧ TxOk P w D l ∧ Ris D.2.2.place.toList ∧ (w.params.followText "set-order" = true ∨ D.2.2.led = true)
  nd : l.Nodup
theorem TSet.keep {P : Program} {w : World} {h h' : Heap} {a : Addr} {l : List Str} (S : TSet P w h a l) (k : ∀ o, h.get? a = some o → h'.get? a = some o) : TSet P w h' a l := by
  obtain ⟨D, e, r⟩ := S.ex
  exact ⟨⟨D, k _ e, r⟩, S.nd⟩
def putT (l : List Str) (k : Str) : List Str := if k ∈ l then l else k :: l
section
variable {P : Program} {w : World} {A : Around} {E : Value → Shared → Prop} {s : Shared} {a : Addr} {l : List Str} {k : Str} {u : Tok}
theorem tset_old (S : TSet P w s.heap a l) (hk : k ∈ l) (hb : l.length < scanBound) {Q : Bool → Shared → Prop} (hQ : Q false s) : wpAny (model P w) A (setAddHashed a (.str k u) (hashStr w k)) Q E s := by
  obtain ⟨⟨es, ep, t⟩, here, ok, _⟩ := S.ex
  have few : es.size < scanBound := by
    have same : es.size = l.length := ok.sz
    omega
  have found : ∃ j, List.findIdx? (fun e => (strKind P w).is k e.2) es.toList = some j := by
    rw [← Option.isSome_iff_exists, List.findIdx?_isSome, List.any_eq_true]
    exact (ok.mem k).mp hk
  obtain ⟨j, hj⟩ := found
  rw [setAddHashed, setAddHashedIn]
  apply wpAny_holding
  apply wpAny_bind
  apply wpAny_setState_of here rfl ok.fit
  dsimp only
  rw [byScan_of rfl few ok.el]
  simp only [↓reduceIte]
  rw [setAddByScan]
  apply wpAny_bind
  apply wpAny_bind
  apply wpAny_rule
  apply wpAny_bind
  apply wpAny_setScan_of (knd := strKind P w) (k := k) (is_str k u) here rfl ok.fit ok.el
  rw [hj]
  exact wpAny_pure (wpAny_pure hQ)
theorem tset_add (S : TSet P w s.heap a l) (hb : l.length + 1 < scanBound) {Q : Bool → Shared → Prop} (hQ : ∀ b h', Heap.SameBut a s.heap h' → TSet P w h' a (putT l k) → Q b { s with heap := h' }) : wpAny (model P w) A (setAddHashed a (.str k u) (hashStr w k)) Q E s := by
  unfold putT at hQ
  by_cases hk : k ∈ l
  · rw [if_pos hk] at hQ
    refine tset_old S hk (by omega) ?_
    exact hQ false s.heap ⟨rfl, fun b hb => rfl⟩ S
  · rw [if_neg hk] at hQ
    obtain ⟨D, ho, F, r, ld⟩ := S.ex
    refine add_x ho F hk hb ?_
    refine hQ true _ (Heap.SameBut.update ..) ⟨⟨_, get_upd _ ho rfl, add_ok u F, tx_ris r, ?_⟩, List.nodup_cons.mpr ⟨hk, S.nd⟩⟩
    rw [tx_led]
    exact ld
end
/-- what set(xs) holds behind the first i texts -/
def gotT (xs : List Str) (i : Nat) : List Str := (xs.take i).foldl putT []
theorem gotT_more {xs : List Str} {i : Nat} {x : Str} (h : xs[i]? = some x) : gotT xs (i + 1) = putT (gotT xs i) x := by
  unfold gotT
  rw [take_next h, List.foldl_append]
  rfl
theorem putT_len (l : List Str) (k : Str) : (putT l k).length ≤ l.length + 1 := by
  unfold putT
  split
  · omega
  · simp
theorem mem_putT {l : List Str} {k x : Str} : x ∈ putT l k ↔ x = k ∨ x ∈ l := by
  unfold putT
  split
  · constructor
    · exact .inr
    · rintro (rfl | h)
      · assumption
      · exact h
  · exact List.mem_cons
theorem mem_fold : ∀ (xs l : List Str) (x : Str), x ∈ xs.foldl putT l ↔ x ∈ xs ∨ x ∈ l
  | [], l, x => by simp
  | y :: r, l, x => by
    rw [List.foldl_cons, mem_fold r, mem_putT, List.mem_cons]
    constructor
    · rintro (h | h | h)
      · exact .inl (.inr h)
      · exact .inl (.inl h)
      · exact .inr h
    · rintro ((h | h) | h)
      · exact .inr (.inl h)
      · exact .inl h
      · exact .inr (.inr h)
theorem fold_len : ∀ (xs l : List Str), (xs.foldl putT l).length ≤ l.length + xs.length
  | [], l => by simp
  | y :: r, l => by
    have h1 := fold_len r (putT l y)
    have h2 := putT_len l y
    have e : (y :: r).length = r.length + 1 := rfl
    rw [List.foldl_cons, e]
    omega
theorem gotT_len (xs : List Str) (i : Nat) : (gotT xs i).length ≤ i := by
  have h := fold_len (xs.take i) []
  rw [List.length_take] at h
  unfold gotT
  have : ([] : List Str).length = 0 := rfl
  omega
end TXS
set_option maxHeartbeats 8000000
namespace TXS
open PySem PySem.Spec PyProof.Rows L2 PySem.Froz
section
variable {P : Program} {w : World} {A : Around} {E : Value → Shared → Prop} {s : Shared}
theorem tset_fresh {h : Heap} {a : Addr} (here : h.get? a = some { cls := .type "set", dict := none, data := .set #[] 0 (.fresh 0 0 (!w.params.followText "set-order")) }) : TSet P w h a [] := by
  have led : w.params.followText "set-order" = true ∨ (!w.params.followText "set-order") = true := by
    cases w.params.followText "set-order"
    · exact .inr rfl
    · exact .inl rfl
  exact ⟨⟨(#[], 0, .fresh 0 0 (!w.params.followText "set-order")), here, TxOk.nil rfl, List.Pairwise.nil, led⟩, List.nodup_nil⟩
/-- the loop of set.update over an iterator of texts -/
theorem upd_texts {it : Addr} {fp wr : List Addr} {G : Array GenState → Array GenState → Prop} {n : Nat} {Pv : Nat → Value → Prop} {St : Nat → Shared → Prop} {R : Result → Shared → Prop}
    (W : WalksS P w A.in1 it fp wr G n Pv St) (a : Addr) (out : a ∉ fp) (xs : List Str) (len : n = xs.length) (few : n + 1 < scanBound) (val : ∀ (i : Nat) (v : Value), Pv i v → ∃ x t, xs[i]? = some x ∧ v = Value.str x t) (m : Nat) :
    ∀ (i : Nat) (t : Shared), n - i = m → i ≤ n → St i t → TSet P w t.heap a (gotT xs i) →
      (∀ t', Moved (a :: wr) G t t' → TSet P w t'.heap a (gotT xs n) → R (.ok (.ret .none)) t') →
      codeAny (model P w) A (.builtin "set.update.loop" ⟨[.ref a, .ref it], []⟩) R t := by
  have apart : a ∉ wr := fun z => out (W.sub _ z)
  have wide : ∀ b ∈ wr, b ∈ a :: wr := fun _ z => .tail _ z
  have flat := fun (g : Args) => Around.under_plainId (A := A) F.plain_set_update_loop g
  induction m with
  | zero =>
    intro i t left le st T fin
    have e : i = n := by omega
    subst e
    apply codeAny_builtin F.entry_set_update_loop
    rw [flat]
    apply wpAny_bind
    apply W.done t _ _ st
    intro t' mv
    apply wpAny_pure
    exact fin t' (mv.mono wide) (T.keep fun o z => mv.heap a o apart z)
  | succ m ih =>
    intro i t left le st T fin
    have lt : i < n := by omega
    apply codeAny_builtin F.entry_set_update_loop
    rw [flat]
    apply wpAny_bind
    apply W.item i t _ _ lt st
    intro v t' pv st' mv
    obtain ⟨x, tk, at_, rfl⟩ := val i v pv
    have T' : TSet P w t'.heap a (gotT xs i) := T.keep fun o z => mv.heap a o apart z
    have room : (gotT xs i).length + 1 < scanBound := Nat.lt_of_le_of_lt (Nat.succ_le_succ (Nat.le_trans (gotT_len xs i) le)) few
    apply wpAny_bind
    apply wpAny_holding
    unfold setAdd
    apply wpAny_holding
    apply wpAny_bind
    apply (PySem.strKind P w).pyHash (is_str x tk)
    apply tset_add (s := { t' with toks := t'.toks + 1 }) T' room
    intro b h' but T2
    rw [← gotT_more at_] at T2
    have st2 := W.frame (i + 1) t' h' (t'.toks + 1) st' (Nat.le_succ _) fun c hc o z => (but.2 c (fun q => out (q ▸ hc))).trans z
    apply wpAny_pure
    refine ⟨plainId_quiet F.plain_set_update_loop _, ih (i + 1) _ (by omega) lt st2 T2 ?_⟩
    intro t2 mv2 T3
    refine fin t2 (Moved.trans W.gtrans ((mv.mono wide).then_heap (Nat.le_succ _) ?_) mv2) T3
    intro c o hc z
    exact (but.2 c (fun q => hc (q ▸ .head _))).trans z
/-- set(xs), xs a list of texts -/
theorem call_set_texts {l : Addr} {items : Array Value} (xs : List Str) {Q : Value → Shared → Prop} (calm : A.handled = none) (isL : s.heap.IsList l items) (val : ∀ (i : Nat) (v : Value), items[i]? = some v → ∃ x t, xs[i]? = some x ∧ v = Value.str x t) (len : items.size = xs.length) (few : xs.length + 1 < scanBound)
    (fin : ∀ (h' : Heap) (tk : Nat), TSet P w h' s.heap.objs.size (gotT xs xs.length) → (∀ b o, s.heap.get? b = some o → h'.get? b = some o) → Q (.ref s.heap.objs.size) { s with heap := h', toks := tk }) : wpAny (model P w) A (call (.type "set") [.ref l]) Q E s := by
  let o0 : Obj := { cls := .type "set", dict := none, data := .set #[] 0 (.fresh 0 0 (!w.params.followText "set-order")) }
  let h1 : Heap := s.heap.push o0
  have z1 : h1.objs.size = s.heap.objs.size + 1 := Heap.size_push ..
  have here : h1.get? s.heap.objs.size = some o0 := Heap.get?_push_size _ rfl
  have ty : Shared.TypeIs { s with heap := h1 } (.ref s.heap.objs.size) "set" := ⟨_, here, rfl⟩
  have old : ∀ b o, s.heap.get? b = some o → h1.get? b = some o := fun _ _ z => Heap.get?_push_of_some _ z
  obtain ⟨mc, ms, order⟩ := F.called_set.mro
  have born := F.called_set.made
  have below := F.called_set.sub
  have w1 := weight_type_call_type "set" [.ref l] []
  have p1 := F.called_set.notType
  have p2 := F.called_set.canCreate
  have p3 := F.typeCall_set_1 (.ref l)
  have p4 := F.called_set.init.lookup
  have p5 := F.called_set.init.bind (.ref s.heap.objs.size)
  apply wpAny_call
  apply codeAny_of_tree
  refine wpAny_pure (And.intro (Code.quiet_builtin _ (by decide +kernel)) ?_)
  apply codeAny_builtin F.entry_type_call
  rw [Around.under_plain w1 rfl]
  repeat any_goals (first | assumption | wp_step)
  refine codeAny_mono (code_set_led1 (.ref l) (E := E) (Q₁ := fun v t => v = .ref s.heap.objs.size ∧ t = { s with heap := h1 }) ⟨rfl, rfl⟩) ?_
  rintro (e | fl) t1 r1
  · exact r1
  cases fl with
  | next => exact r1.elim
  | brk => exact r1.elim
  | cont => exact r1.elim
  | ret v =>
  obtain ⟨rfl, rfl⟩ := r1
  repeat any_goals (first | assumption | wp_step)
  let Ends : Value → Shared → Prop := fun r t => r = .none ∧ ∃ h' tk, t = { s with heap := h', toks := tk } ∧ TSet P w h' s.heap.objs.size (gotT xs xs.length) ∧ (∀ b o, s.heap.get? b = some o → h'.get? b = some o)
  refine codeAny_mono (codeAny_call_builtin (R := wants Ends E) F.called_set.init.plain F.entry_set_init (check_set_init_1 ty ?inside)) ?after
  case after =>
    rintro (e | fl) t2 r2
    · exact r2
    cases fl with
    | next => exact r2.elim
    | brk => exact r2.elim
    | cont => exact r2.elim
    | ret v =>
    obtain ⟨rfl, h', tk, rfl, T, kept⟩ := r2
    repeat any_goals (first | assumption | wp_step)
    exact fin h' tk T kept
  case inside =>
    obtain ⟨⟨oc, od, odata, osl⟩, atL, kc, nl, kd⟩ := isL
    dsimp only at kc kd
    subst kc kd
    have atL1 : h1.get? l = some { cls := .type "list", dict := od, data := .seq items nl, slots := osl } := old _ _ atL
    have isL1 : h1.IsList l items := ⟨_, atL1, rfl, nl, rfl⟩
    have f1 := F.sub_list_set
    have f2 := F.sub_list_frozenset
    have f3 : (Value.type "list" == Value.type "dict") = false := by decide
    have calm3 : A.in1.in1.in1.handled = none := by simp [calm]
    have ltL : l < s.heap.objs.size := Heap.lt_size atL
    unfold Builtin.«set.__init__»
    unfold noKeywords
    unfold Builtin.Frozenset.updateFrom
    generalize eP : pyIter = pI
    wp_walk
    subst eP
    apply wpAny_pyIter_list isL1
    apply wpAny_bind
    apply wpAny_runValue
    have nI : l ≠ h1.objs.size := z1 ▸ Nat.ne_of_lt (Nat.lt_succ_of_lt ltL)
    have nS : s.heap.objs.size ∉ [h1.objs.size, l] := by
      rw [z1]
      simp only [List.mem_cons, List.not_mem_nil, or_false, not_or]
      exact ⟨Nat.ne_of_lt (Nat.lt_succ_self _), (Nat.ne_of_lt ltL).symm⟩
    have room : items.size + 1 < scanBound := len ▸ few
    apply upd_texts ((Walks.list calm3 _ l nI items).toS) s.heap.objs.size nS xs len room val (items.size - 0) 0 _ (by omega) (Nat.zero_le _) ⟨⟨_, Heap.get?_push_size _ rfl, rfl, rfl⟩, (isL1.push _)⟩
    · exact tset_fresh (Heap.get?_push_of_some _ here)
    · rintro ⟨h', g', d', tk', os'⟩ mv T
      have eg : g' = s.gens := mv.gens
      have ed : d' = s.drawn := mv.drawn
      have eo : os' = s.os := mv.os
      subst eg ed eo
      rw [len] at T
      apply wpAny_pure
      apply wpAny_pure
      refine ⟨rfl, h', tk', rfl, T, ?_⟩
      intro b o z
      have lb := Heap.lt_size z
      refine mv.heap b o ?_ (Heap.get?_push_of_some _ (old b o z))
      intro q
      cases List.mem_cons.mp q with
      | inl q => exact Nat.lt_irrefl _ (q ▸ lb)
      | inr q =>
        have q2 := List.mem_singleton.mp q
        rw [q2, z1] at lb
        exact Nat.lt_irrefl _ (Nat.lt_of_succ_lt lb)

end
end TXS
set_option maxHeartbeats 8000000
namespace TXS
open PySem PySem.Spec PyProof.Rows L2 PySem.Froz
section
variable {P : Program} {w : World} {A : Around} {E : Value → Shared → Prop} {s : Shared}
theorem strsAre_ex : ∀ (vs : List Value), (∀ v ∈ vs, ∃ x t, v = Value.str x t) → ∃ ys : List Str, StrsAre vs ys
  | [], _ => ⟨[], .nil⟩
  | v :: vs, h => by
    obtain ⟨x, t, rfl⟩ := h v List.mem_cons_self
    obtain ⟨ys, q⟩ := strsAre_ex vs fun u hu => h u (List.mem_cons_of_mem _ hu)
    exact ⟨x :: ys, .cons x t q⟩
theorem strsAre_mem : ∀ {vs : List Value} {ys : List Str}, StrsAre vs ys → ∀ x, x ∈ ys ↔ ∃ v ∈ vs, Value.isStrOf x v = true
  | _, _, .nil, x => by simp
  | _, _, .cons y t (vs := vs) (ys := ys) r, x => by
    have h := strsAre_mem r x
    rw [List.mem_cons, h]
    constructor
    · rintro (rfl | ⟨v, hv, e⟩)
      · exact ⟨_, List.mem_cons_self, by simp [Value.isStrOf]⟩
      · exact ⟨v, List.mem_cons_of_mem _ hv, e⟩
    · rintro ⟨v, hv, e⟩
      cases List.mem_cons.mp hv with
      | inl ev =>
        subst ev
        have e2 : (y == x) = true := e
        exact .inl (eq_of_beq e2).symm
      | inr hv => exact .inr ⟨v, hv, e⟩
/-- sorted(s), s a set of texts -/
theorem sorted_texts {a : Addr} {l : List Str} {Q : Value → Shared → Prop} (T : TSet P w s.heap a l) (calm : A.handled = none) (few : l.length < scanBound)
    (fin : ∀ t p (out : Array Value) (c : Nat) (ys : List Str), (∀ b o, s.heap.get? b = some o → t.heap.get? b = some o) → t.gens = s.gens → t.os = s.os → s.heap.objs.size ≤ p →
      t.heap.get? p = some (seqObj "list" out c) → StrsAre out.toList ys → sortedS ys = true → ys.length = l.length → (∀ x, x ∈ ys ↔ x ∈ l) → Q (.ref p) t) :
    wpAny (model P w) A (call (.builtin ("sorted" : String)) [Value.ref a]) Q E s := by
  obtain ⟨⟨es, ep, tb⟩, here, ok, ris, led⟩ := T.ex
  have many : es.size = l.length := ok.sz
  have scan : es.size < scanBound := many ▸ few
  apply Calls.call_function_entry kind_sorted plain_sorted entry_sorted (args_sorted1 _)
  unfold Builtin.«sorted»
  apply wpAny_bind (m := checkCount "sorted" 1 1 _)
  apply wpAny_pure
  apply wpAny_bind
  apply collect_set (A := A.in1) calm ⟨_, here, rfl, rfl⟩ ok.fit scan ris led
  intro t1 vs kept more gens os perm
  have count : vs.length = l.length := by
    have e := perm.length_eq
    rw [List.length_map, Array.length_toList] at e
    exact e.trans many
  have texts : ∀ v ∈ vs, ∃ x t, v = Value.str x t := by
    intro v hv
    have hm := List.mem_map.mp (perm.mem_iff.mp hv)
    obtain ⟨el, mem, rfl⟩ := hm
    obtain ⟨⟨x, is, _⟩, _⟩ := ok.el el mem
    obtain ⟨t, z⟩ := Value.isStrOf_shape is
    exact ⟨x, t, z⟩
  obtain ⟨xs, are⟩ := strsAre_ex vs texts
  have line : vs.length ≤ sizeLine := by
    unfold scanBound at few
    rw [count, sizeLine_eq]
    omega
  apply wpAny_bind
  apply wpAny_newList (h := ?_) line
  let fresh : Heap := t1.heap.push (seqObj "list" vs.toArray 0)
  have laid : fresh.get? t1.heap.objs.size = some (seqObj "list" vs.toArray 0) := Heap.get?_push_size _ rfl
  apply wpAny_bind
  apply wpAny_holding
  refine wpAny_call_entry slot_list_sort ⟨_, laid, rfl⟩ entry_list_sort (list_sort_treeKAny strKind_oneLt laid are.keysOf (fun _ _ _ e => keyKind_strs (e ▸ are)) line ?_) (args_list_sort _)
  intro st pm srt
  obtain ⟨ys, are2, same, rise⟩ := sorted_out_str are pm srt
  obtain ⟨c, at_⟩ := sortedHeap_at (vs := vs) (out := (arrOf st).map (·.2)) laid
  refine ⟨Value.none, rfl, wpAny_pure ⟨_, rfl, fin _ t1.heap.objs.size _ c ys ?_ gens os more at_ are2 rise ?_ ?_⟩⟩
  · intro b o z
    have z1 := kept b o z
    have lt := Heap.lt_size z1
    have old := sortedHeap_old (vs := vs) (out := (arrOf st).map (·.2)) (h := fresh) (a := t1.heap.objs.size) (b := b) (Nat.ne_of_lt lt) (Nat.lt_of_lt_of_eq (Nat.lt_succ_of_lt lt) (size_push' _ _).symm)
    exact old.trans (Heap.get?_push_of_some _ z1)
  · have e := same.length_eq
    rw [← are.len_eq, count] at e
    exact e
  · intro x
    have m1 := same.mem_iff (a := x)
    rw [m1, strsAre_mem are x, ok.mem x]
    constructor
    · rintro ⟨v, hv, is⟩
      have hm := List.mem_map.mp (perm.mem_iff.mp hv)
      obtain ⟨el, mem, rfl⟩ := hm
      exact ⟨el, mem, is⟩
    · rintro ⟨el, mem, is⟩
      exact ⟨el.2, perm.mem_iff.mpr (List.mem_map.mpr ⟨el, mem, rfl⟩), is⟩
end
theorem len_of_sub : ∀ (l ys : List Str), l.Nodup → (∀ x ∈ l, x ∈ ys) → l.length ≤ ys.length
  | [], ys, _, _ => Nat.zero_le _
  | a :: l, ys, nd, sub => by
    obtain ⟨na, nl⟩ := List.nodup_cons.mp nd
    have ha : a ∈ ys := sub a List.mem_cons_self
    have h := len_of_sub l (ys.erase a) nl fun x hx => (List.mem_erase_of_ne (fun z => na (by rw [← z]; exact hx))).mpr (sub x (List.mem_cons_of_mem _ hx))
    rw [List.length_erase_of_mem ha] at h
    have := List.length_pos_of_mem ha
    rw [List.length_cons]
    omega
theorem nodup_of_len : ∀ (l ys : List Str), l.Nodup → (∀ x ∈ l, x ∈ ys) → ys.length ≤ l.length → ys.Nodup
  | [], ys, _, _, h => by
    cases ys with
    | nil => exact List.nodup_nil
    | cons y r => simp at h
  | a :: l, ys, nd, sub, h => by
    obtain ⟨na, nl⟩ := List.nodup_cons.mp nd
    have ha : a ∈ ys := sub a List.mem_cons_self
    have hs : ∀ x ∈ l, x ∈ ys.erase a := fun x hx => (List.mem_erase_of_ne (fun z => na (by rw [← z]; exact hx))).mpr (sub x (List.mem_cons_of_mem _ hx))
    have hlen := List.length_erase_of_mem ha
    have hp := List.length_pos_of_mem ha
    rw [List.length_cons] at h
    have n1 := nodup_of_len l (ys.erase a) nl hs (by omega)
    refine (List.perm_cons_erase ha).nodup_iff.mpr (List.nodup_cons.mpr ⟨fun h2 => ?_, n1⟩)
    have h3 := len_of_sub l ((ys.erase a).erase a) nl fun x hx => (List.mem_erase_of_ne (fun z => na (by rw [← z]; exact hx))).mpr (hs x hx)
    rw [List.length_erase_of_mem h2] at h3
    have := List.length_pos_of_mem h2
    omega
/-! ### over the layer -/
def TSetO (P : Program) (w : World) (a : Addr) (l : List Str) : HO := .ext fun h => TSet P w h a l
theorem tsetO_new {P : Program} {w : World} {H : Hp} {h : Heap} {a : Addr} {l : List Str} (R : TSet P w h a l) : ObjOk P w H h a (TSetO P w a l) := by
  have ⟨D, ho, q⟩ := R.ex
  exact ⟨R, ⟨_, ho⟩, fun h1 h2 p k => TSet.keep p k⟩
theorem strs_vals : ∀ {xs : List Str} {us : List Value}, Vals (xs.map V.str) us → ∀ (i : Nat) (v : Value), us[i]? = some v → ∃ x t, xs[i]? = some x ∧ v = Value.str x t
  | [], _, .nil, i, v, h => by cases h
  | x :: xs, _, .cons r rs, 0, v, h => by
    obtain ⟨t, rfl⟩ := r
    cases h
    exact ⟨x, t, rfl, rfl⟩
  | x :: xs, _, .cons r rs, i + 1, v, h => strs_vals rs i v h
section
variable {X : Cx}
/-- set(xs), xs a list of texts -/
def rSetX (K : PySem.W.Frag) (P : Program) (w : World) : List V → Hp → VK → Prop := fun vs H Q => ∃ (l : Addr) (xs : List Str), vs = [V.ref l] ∧ SqL K H l (xs.map V.str) ∧ xs.length + 1 < scanBound ∧
  ∀ a l', H a = none → l'.Nodup → (∀ x, x ∈ l' ↔ x ∈ xs) → l'.length ≤ xs.length → Q (.ref a) (upd H a (TSetO P w a l'))
theorem cr_setX (hc : X.calm = true) : CallR X (.type "set") (rSetX X.K X.prog X.w) := by
  intro pn s st H vs us Q I r ask
  obtain ⟨l, xs, rfl, hl, few, q⟩ := ask
  rw [Vals.ref1 r]
  have ⟨its, rv, pl, _⟩ := I.list hl
  have free : H s.heap.objs.size = none := I.hok.fresh (Nat.le_refl s.heap.objs.size)
  have hlen := rv.length
  rw [List.length_map] at hlen
  refine call_set_texts (P := X.prog) (w := X.w) xs (I.ok.hd hc) pl.isList (fun i v e => strs_vals rv i v (by simpa using e)) (by simpa using hlen.symm) few fun h' tk R k => ?_
  refine ⟨.ref s.heap.objs.size, upd H s.heap.objs.size (TSetO X.prog X.w s.heap.objs.size (gotT xs xs.length)), I.laid (t' := tk) k (Nat.le_refl _) (tsetO_new R), rfl, q _ _ free R.nd (fun x => ?_) (gotT_len _ _)⟩
  unfold gotT
  rw [List.take_length, mem_fold]
  simp
/-- sorted(s), s a set of texts -/
def rSortX (P : Program) (w : World) : List V → Hp → VK → Prop := fun vs H Q => ∃ (a : Addr) (l : List Str), vs = [V.ref a] ∧ H a = some (TSetO P w a l) ∧ l.length < scanBound ∧
  ∀ (ys : List Str) (p : Addr), sortedS ys = true → ys.Nodup → (∀ x, x ∈ ys ↔ x ∈ l) → ys.length = l.length → H p = none → Q (.ref p) (upd H p (.lst (ys.map V.str)))
theorem cr_sortX (hc : X.calm = true) : CallR X (.builtin "sorted") (rSortX X.prog X.w) := by
  intro pn s st H vs us Q I r ask
  obtain ⟨a, l, rfl, ha, few, q⟩ := ask
  have R0 : TSet X.prog X.w s.heap a l := (I.hok a _ ha).1
  rw [Vals.ref1 r]
  refine sorted_texts R0 (I.ok.hd hc) few fun s' p out c ys k g o hp hg hS hs hlen hm => ?_
  have hl2 : (ys.map V.str).length ≤ sizeLine := by
    rw [List.length_map, hlen, sizeLine_eq]
    unfold scanBound at few
    omega
  have free : H p = none := I.hok.fresh hp
  have hv : Vals (ys.map V.str) out.toList := vals_of_strs hS
  have same : { s with heap := s'.heap, gens := s'.gens, drawn := s'.drawn, toks := s'.toks } = s' := by
    cases s'
    cases s
    cases o
    rfl
  have J : Inv X pn st (upd H p (.lst (ys.map V.str))) { s with heap := s'.heap, gens := s'.gens, drawn := s'.drawn, toks := s'.toks } :=
    I.call (ch := []) (Un.laid k hp free) (I.hok.laid k hp ⟨hl2, out.toList, c, hv, hg⟩) (by rw [g]; exact I.bare) (fun _ z => nomatch z)
  rw [same] at J
  have nd : ys.Nodup := by
    exact nodup_of_len l ys R0.nd (fun x hx => (hm x).mpr hx) (by omega)
  exact ⟨.ref p, _, J, rfl, q ys p hs nd hm hlen free⟩
end
end TXS
set_option maxHeartbeats 4000000
/-! own special methods of plain instances: str(x), f'{x}', the signs, == and != -/
namespace OW
open PySem PySem.Spec PyProof.Rows
section
variable {prog : Program} {w : World} {A : Around} {E : Value → Shared → Prop} {s : Shared} {K : PySem.W.Frag} {x C f : Addr} {ox : Obj} {od : Option Obj}
theorem str_own {Q : Value → Shared → Prop} (room : A.in1.in1.units < cLine) (kin : K.In s.heap) (J : PySem.W.InstAt s.heap x ox C od)
    (at_ : PySem.W.findIn K (.ref C) "__str__" = some (some (.ref f))) (fn : PySem.W.isFn K (.ref f) = true)
    (run : wpAny (model prog w) A.in1.in1 (call (.ref f) [.ref x]) (fun r t => ∃ y u, r = Value.str y u ∧ Q r t) E s) :
    wpAny (model prog w) A (call (.type "str") [.ref x]) Q E s := by
  let G : Value → Shared → Prop := fun r t => ∃ y u, r = Value.str y u ∧ Q r t
  have text : wpAny (model prog w) A.in1.in1 (PySem.Builtin.Str.strOf (.ref x)) G E s := by
    unfold Builtin.Str.strOf
    have off : PySem.Builtin.Str.isExactStr (.ref x) = false := rfl
    rw [off]
    apply wpAny_bind (m := cRoomFor _ _)
    apply wpAny_cRoomFor room
    apply wpAny_bind (m := callSpecial? (.ref x) (Str.ofString "__str__"))
    apply PySem.W.special_fn kin J at_ (beq_iff_eq.mp fn)
    refine wpAny_mono run ?_ (fun _ _ z => z)
    rintro r t ⟨y, u, rfl, q⟩
    exact wpAny_pure ⟨y, u, rfl, q⟩
  have born : codeAny (model prog w) A.in1 (.call (.builtin "str.__new__") ⟨[.type "str", .ref x], []⟩) (wants G E) s := by
    apply codeAny_of_tree
    apply wpAny_bind
    apply wpAny_of_eq (PySem.F.newCall_str_1 _)
    apply wpAny_pure
    constructor
    · exact plainId_quiet (by decide +kernel) _
    · apply codeAny_builtin PySem.F.entry_str_new
      have flat := Around.under_plainId (A := A.in1) (show plainId "str.__new__" = true by decide +kernel) ⟨[.type "str", .ref x], []⟩
      rw [flat, str_new_tree]
      apply wpAny_bind
      apply wpAny_pure
      apply wpAny_bind
      apply wpAny_of_eq isSubtype_str_str
      apply wpAny_bind
      refine wpAny_mono text ?_ (fun _ _ z => z)
      intro r t q
      exact wpAny_pure q
  apply callType_codes (Q₁ := G) PySem.F.called_str (PySem.F.typeCall_str_1 _) PySem.F.entry_object_init born
  rintro r t ⟨y, u, rfl, q⟩
  have own := PySem.F.called_str
  refine ⟨typeIs_str _ _ _, PySem.F.args_object_init_2 _ _, ?_⟩
  exact object_init_meets own.init.lookup own.made (by decide) prog w A.in1 _ t ⟨typeIs_str _ _ _, rfl, q⟩
/-- a special method that is a built-in's -/
theorem ifBound_b {M : Model} {name : Str} {id : String} {args : List Value} {Q : Option Value → Shared → Prop} (kin : K.In s.heap) (J : PySem.W.InstAt s.heap x ox C od)
    (at_ : PySem.W.findIn K (.ref C) name = some (some (.builtin id))) (bs : ∀ self, bindSpecial (.builtin id) self = pure (.builtin id, [self]))
    (run : wpAny M A (call (.builtin id) (.ref x :: args)) (fun v => Q (some v)) E s) : wpAny M A (callSpecialIfBound? (.ref x) name args) Q E s := by
  have bound := PySem.W.Looks.of_pure (M := M) (h := s.heap) (bs (.ref x))
  have last : wpAny M A (call (.builtin id) ([.ref x] ++ args) >>= fun v => pure (some v)) Q E s := by
    apply wpAny_bind
    exact wpAny_mono run (fun _ _ z => wpAny_pure z) (fun _ _ z => z)
  rw [callSpecialIfBound?]
  simp only [bindSpecialIfBound?]
  apply wpAny_holding
  apply wpAny_bind
  apply wpAny_bind
  apply wpAny_bind
  apply J.type.here
  apply (PySem.W.looks_findIn kin at_).here
  apply wpAny_bind
  apply wpAny_askSetting
  apply wpAny_ite
  split
  · apply wpAny_bind
    apply bound.here
    exact wpAny_pure (by exact last)
  · apply wpAny_tryCatch
    apply wpAny_bind
    apply bound.here
    exact wpAny_pure (by exact last)
/-- a comparison that its left side answers -/
theorem by_left {op : CmpOp} {b tb : Value} {Q : Value → Shared → Prop} (room : A.units < cLine) (kin : K.In s.heap) (J : PySem.W.InstAt s.heap x ox C od) (ty : PySem.W.Looks (model prog w) s.heap (typeOf b) tb)
    (nf : PySem.W.notFirst K C tb = true) (hit : wpAny (model prog w) A (tryCompare (.ref x) (cmpInfo op).2.1 b) (fun r t => ∃ v, r = some v ∧ Q v t) E s) :
    wpAny (model prog w) A (richCompare op (.ref x) b) Q E s := by
  unfold richCompare
  simp only [oneThing_ref]
  apply wpAny_holding
  apply wpAny_bind
  apply wpAny_cRoomFor room
  apply wpAny_bind
  apply J.type.here
  apply wpAny_bind
  apply ty.here
  split
  · next ne =>
    have sub : PySem.W.subIn K tb (.ref C) = some false := by
      have two := Bool.or_eq_true_iff.mp nf
      cases two with
      | inl e =>
        have same := beq_iff_eq.mp e
        rw [same] at ne
        simp at ne
      | inr e => exact beq_iff_eq.mp e
    apply wpAny_bind
    apply (PySem.W.looks_subIn kin sub).here
    rw [if_neg (by decide)]
    apply wpAny_bind
    refine wpAny_mono hit ?_ (fun _ _ z => z)
    rintro r t ⟨v, rfl, q⟩
    exact wpAny_pure q
  · apply wpAny_bind
    apply wpAny_pure
    rw [if_neg (by decide)]
    apply wpAny_bind
    refine wpAny_mono hit ?_ (fun _ _ z => z)
    rintro r t ⟨v, rfl, q⟩
    exact wpAny_pure q
/-- x != y, x with an own == alone -/
theorem ne_own {b tb : Value} {Q : Value → Shared → Prop} {h₀ : Heap} {L : Addr} {m : Str → Option Value} (room : A.units + 1 < cLine) (fr : Fr h₀ L s.heap m) (k0 : K.In h₀) (J : PySem.W.InstAt s.heap x ox C od)
    (ty : PySem.W.Looks (model prog w) s.heap (typeOf b) tb) (nf : PySem.W.notFirst K C tb = true)
    (nat : PySem.W.findIn K (.ref C) "__ne__" = some (some (.builtin "object.__ne__"))) (mo : PySem.W.mroIn K C (.type "object") = some true)
    (at_ : PySem.W.findIn K (.ref C) "__eq__" = some (some (.ref f))) (fn : PySem.W.isFn K (.ref f) = true)
    (run : wpAny (model prog w) A.in1 (call (.ref f) [.ref x, b]) (fun v t => ∃ k, v = Value.bool k ∧ Q (.bool (!k)) t) E s) : wpAny (model prog w) A (richCompare .NotEq (.ref x) b) Q E s := by
  have kin := k0.keeps fr.keep
  apply by_left (op := .NotEq) (Nat.lt_of_succ_lt room) kin J ty nf
  unfold tryCompare
  apply wpAny_bind
  apply ifBound_b kin J nat PySem.F.slot_object_ne.bind
  apply wpAny_call
  apply codeAny_call_builtin PySem.F.slot_object_ne.plain PySem.F.cmpEntry_ne
  refine PySem.W.check_slot PySem.F.cmpKind_ne PySem.F.cmpSplit_ne (J.type.andThen (PySem.W.looks_mroIn kin mo)) (PySem.F.cmpArgs_ne _ _) ?_
  unfold PySem.Builtin.«object.__ne__»
  apply wpAny_bind (m := slotArgs "__ne__" 1 _)
  apply wpAny_pure
  apply wpAny_bind (m := cRoomFor _ _)
  apply wpAny_cRoomFor (A := A.in1) room
  apply wpAny_bind (m := callSpecialIfBound? (.ref x) (Str.ofString "__eq__") _)
  apply PySem.W.ifBound_K kin J at_ fn
  refine wpAny_mono run ?_ (fun _ _ z => z)
  rintro r t ⟨k, rfl, q⟩
  apply wpAny_bind (m := truthy (.bool _))
  apply wpAny_truthy_bool
  first
    | exact wpAny_pure (wpAny_pure ⟨_, rfl, q⟩)
    | exact wpAny_pure ⟨_, rfl, wpAny_pure ⟨_, rfl, q⟩⟩
    | exact wpAny_pure ⟨_, rfl, q⟩
end
end OW
namespace OW
open PySem PySem.Spec PyProof.Rows L2
section
variable {X : Cx} {CX : CXT} {C g : Addr} {n : Nat} {sp : Sp} {E : XK}
theorem ins_at {pins : List (Addr × Obj)} {σ : L2.St} {H : Hp} {s : Shared} {a dx : Addr} {fs : List (Str × V)} (I : Inv X pins σ H s) (h : H a = some (.ins C dx fs)) : ∃ od, PySem.W.InstAt s.heap a (PySem.W.instObj C dx) C (some od) := by
  have got := ins_get I.hok h
  obtain ⟨_, J, _⟩ := got
  exact ⟨_, J.look.choose_spec.1⟩
/-- the own method run below, on the instance alone -/
theorem run1 {A : Around} {pins : List (Addr × Obj)} {σ : L2.St} {H : Hp} {s : Shared} {a : Addr} {Q : VK} (F : FnR X.prog X.w X.K X.mg X.base CX n g sp) (room : Room n A) (e0 : Env0 X.prog X.w X.K X.mg X.base A X.stack s H) (out : Passes CX X E)
    (I : Inv X pins σ H s) (q : sp [.ref a] H Q E) : wpAny (model X.prog X.w) A (call (.ref g) [.ref a]) (EP X pins σ Q) X.xe s :=
  wpAny_call (SlX.run_at (us := [.ref a]) (ws := [.ref a]) F room e0 out I (.cons rfl .nil) q)
/-- .. on two -/
theorem run2 {A : Around} {pins : List (Addr × Obj)} {σ : L2.St} {H : Hp} {s : Shared} {a b : Addr} {Q : VK} (F : FnR X.prog X.w X.K X.mg X.base CX n g sp) (room : Room n A) (e0 : Env0 X.prog X.w X.K X.mg X.base A X.stack s H) (out : Passes CX X E)
    (I : Inv X pins σ H s) (q : sp [.ref a, .ref b] H Q E) : wpAny (model X.prog X.w) A (call (.ref g) [.ref a, .ref b]) (EP X pins σ Q) X.xe s :=
  wpAny_call (SlX.run_at (us := [.ref a, .ref b]) (ws := [.ref a, .ref b]) F room e0 out I (.cons rfl (.cons rfl .nil)) q)
def rStrOwn (C : Addr) (sp : Sp) (E : XK) : List V → Hp → VK → Prop := fun xs H Q => ∃ a dx fs, xs = [V.ref a] ∧ H a = some (.ins C dx fs) ∧ sp [.ref a] H (fun z H' => ∃ y, z = .str y ∧ Q z H') E
/-- str(x) -/
theorem call_strOwn (at_ : PySem.W.findIn X.K (.ref C) "__str__" = some (some (.ref g))) (fn : PySem.W.isFn X.K (.ref g) = true) (F : FnR X.prog X.w X.K X.mg X.base CX n g sp) (room : Room (n + 2) X.A) (out : Passes CX X E) : CallR X (.type "str") (rStrOwn C sp E) := by
  intro pn st sl H xs us Q I vals ask
  obtain ⟨a, dx, fs, rfl, here, ask⟩ := ask
  obtain ⟨od, J⟩ := ins_at I here
  have e : us = [Value.ref a] := Vals.ref1 vals
  subst e
  have low : Room (n + 1) X.A.in1 := Room.in1 room
  apply str_own low.in1.units0 I.kIn J at_ fn
  refine wpAny_mono (run1 F low.in1 I.env0.in1.in1 out I ask) ?_ (fun _ _ z => z)
  rintro u st' ⟨z, H', I', rel, y, rfl, q⟩
  obtain ⟨t, rfl⟩ := rel
  exact ⟨y, t, rfl, V.str y, H', I', ⟨t, rfl⟩, q⟩
/-- {x} in an f-string -/
def tFmtO (C : Addr) (sp : Sp) (E : XK) (te : TE) : TE := fun σ H Q => te σ H fun x H1 => ∃ a dx fs, x = .ref a ∧ H1 a = some (.ins C dx fs) ∧ sp [.ref a] H1 (fun z H' => ∃ y, z = .str y ∧ Q (.str y) H') E
theorem pe_fmtO {e : Expr} {te : TE} {pos : Pos} (he : PE X e te) (at_ : PySem.W.findIn X.K (.ref C) "__str__" = some (some (.ref g))) (fn : PySem.W.isFn X.K (.ref g) = true)
    (fm : PySem.W.findIn X.K (.ref C) "__format__" = some (some (.builtin "object.__format__"))) (mo : PySem.W.mroIn X.K C (.type "object") = some true)
    (F : FnR X.prog X.w X.K X.mg X.base CX n g sp) (room : Room (n + 1) X.A) (out : Passes CX X E) : PE X (.FormattedValue e (-1) none pos) (tFmtO C sp E te) := by
  constructor
  intro pn st sl H Q I ask
  apply wpAny_FormattedValue_plain
  refine thn (he.run pn st sl H _ I ask) ?_
  rintro v s1 ⟨x, H1, I1, rel, a, dx, fs, rfl, here, ask⟩
  have ev : v = Value.ref a := rel
  subst ev
  have I2 := I1.tok (s1.toks + 1)
  have low : Room n X.A.in1 := Room.in1 room
  obtain ⟨od, J⟩ := ins_at I1 here
  apply PySem.W.kfo_fieldS low.units0 I1.kIn J fm mo at_ fn
  refine wpAny_mono (run1 F low I2.env0.in1 out I2 ask) ?_ (fun _ _ z => z)
  rintro u st' ⟨z, H', I', rel', y, rfl, q⟩
  obtain ⟨t, rfl⟩ := rel'
  exact ⟨V.str y, H', I', ⟨t, rfl⟩, q⟩
/-- x op y, both instances of the class at C with an own method for op -/
def rBinO (C : Addr) (sp : Sp) (E : XK) : R2 := fun x y H Q => ∃ a dx fs b dy gs, x = .ref a ∧ y = .ref b ∧ H a = some (.ins C dx fs) ∧ H b = some (.ins C dy gs) ∧ sp [.ref a, .ref b] H Q E
theorem op_binO {op : Operator} (sf : PySem.W.selfFirst X.K C = true) (at_ : PySem.W.findIn X.K (.ref C) (PySem.dunder op.info.2) = some (some (.ref g))) (fn : PySem.W.isFn X.K (.ref g) = true)
    (F : FnR X.prog X.w X.K X.mg X.base CX n g sp) (room : Room n X.A) (out : Passes CX X E) : OpR X (binaryOp op) (rBinO C sp E) := by
  intro pn st sl H x y v u Q I r1 r2 ask
  obtain ⟨a, dx, fs, b, dy, gs, rfl, rfl, here, there, ask⟩ := ask
  have e1 : v = Value.ref a := r1
  have e2 : u = Value.ref b := r2
  subst e1 e2
  obtain ⟨_, J⟩ := ins_at I here
  obtain ⟨_, J2⟩ := ins_at I there
  obtain ⟨_, fr⟩ := I.fr
  apply PySem.W.binop_K fr I.ok.mod.kin J J2.type sf at_ fn
  refine wpAny_mono (run2 F room I.env0 out I ask) ?_ (fun _ _ z => z)
  rintro r st' ⟨z, H', I', rel, q⟩
  exact SlX.cmpback rel ⟨z, H', I', rel, q⟩
/-- ~x -/
def rInvO (C : Addr) (sp : Sp) (E : XK) : V → Hp → VK → Prop := fun x H Q => ∃ a dx fs, x = .ref a ∧ H a = some (.ins C dx fs) ∧ sp [.ref a] H Q E
theorem un_invO (at_ : PySem.W.findIn X.K (.ref C) "__invert__" = some (some (.ref g))) (fn : PySem.W.isFn X.K (.ref g) = true)
    (F : FnR X.prog X.w X.K X.mg X.base CX n g sp) (room : Room n X.A) (out : Passes CX X E) : UnR X (unaryOp .Invert) (rInvO C sp E) := by
  intro pn st sl H x v Q I r1 ask
  obtain ⟨a, dx, fs, rfl, here, ask⟩ := ask
  have e1 : v = Value.ref a := r1
  subst e1
  obtain ⟨_, J⟩ := ins_at I here
  obtain ⟨_, fr⟩ := I.fr
  exact PySem.W.ksp_inv fr I.ok.mod.kin J at_ fn (run1 F room I.env0 out I ask)
/-- x == y -/
theorem op_eqO (at_ : PySem.W.findIn X.K (.ref C) "__eq__" = some (some (.ref g))) (fn : PySem.W.isFn X.K (.ref g) = true)
    (F : FnR X.prog X.w X.K X.mg X.base CX n g sp) (room : Room n X.A) (out : Passes CX X E) : OpR X (compareOp .Eq) (rBinO C sp E) := by
  intro pn st sl H x y v u Q I r1 r2 ask
  obtain ⟨a, dx, fs, b, dy, gs, rfl, rfl, here, there, ask⟩ := ask
  have e1 : v = Value.ref a := r1
  have e2 : u = Value.ref b := r2
  subst e1 e2
  obtain ⟨_, J⟩ := ins_at I here
  obtain ⟨_, J2⟩ := ins_at I there
  obtain ⟨_, fr⟩ := I.fr
  have nf : PySem.W.notFirst X.K C (.ref C) = true := by simp [PySem.W.notFirst]
  apply PySem.W.cmp_K (op := .Eq) room.units0 fr I.ok.mod.kin J J2.type nf at_ fn
  refine wpAny_mono (run2 F room I.env0 out I ask) ?_ (fun _ _ z => z)
  rintro r st' ⟨z, H', I', rel, q⟩
  exact SlX.cmpback rel ⟨z, H', I', rel, q⟩
/-- x != y, by the own == -/
def rNeO (C : Addr) (sp : Sp) (E : XK) : R2 := fun x y H Q => ∃ a dx fs b dy gs, x = .ref a ∧ y = .ref b ∧ H a = some (.ins C dx fs) ∧ H b = some (.ins C dy gs) ∧ sp [.ref a, .ref b] H (fun z H' => ∃ k, z = .bl k ∧ Q (.bl (!k)) H') E
theorem op_neO (at_ : PySem.W.findIn X.K (.ref C) "__eq__" = some (some (.ref g))) (fn : PySem.W.isFn X.K (.ref g) = true)
    (nat : PySem.W.findIn X.K (.ref C) "__ne__" = some (some (.builtin "object.__ne__"))) (mo : PySem.W.mroIn X.K C (.type "object") = some true)
    (F : FnR X.prog X.w X.K X.mg X.base CX n g sp) (room : Room (n + 1) X.A) (out : Passes CX X E) : OpR X (compareOp .NotEq) (rNeO C sp E) := by
  intro pn st sl H x y v u Q I r1 r2 ask
  obtain ⟨a, dx, fs, b, dy, gs, rfl, rfl, here, there, ask⟩ := ask
  have e1 : v = Value.ref a := r1
  have e2 : u = Value.ref b := r2
  subst e1 e2
  obtain ⟨_, J⟩ := ins_at I here
  obtain ⟨_, J2⟩ := ins_at I there
  obtain ⟨_, fr⟩ := I.fr
  have low : Room n X.A.in1 := Room.in1 room
  have nf : PySem.W.notFirst X.K C (.ref C) = true := by simp [PySem.W.notFirst]
  apply ne_own low.units0 fr I.ok.mod.kin J J2.type nf nat mo at_ fn
  refine wpAny_mono (run2 F low I.env0.in1 out I ask) ?_ (fun _ _ z => z)
  rintro r st' ⟨z, H', I', rel, k, rfl, q⟩
  have er : r = Value.bool k := rel
  exact ⟨k, er, V.bl (!k), H', I', rfl, q⟩
end
end OW
set_option maxHeartbeats 4000000
/-! sayings as trees: texts, sizes, names -/
namespace SY
open PySem PySem.Spec PyProof.Rows L2
/-- the five joinings of two sayings -/
inductive Bk where | both | thn | lower | higher | same
  deriving DecidableEq
def Bk.kind : Bk → Str
  | .both => "both" | .thn => "then" | .lower => "lower" | .higher => "higher" | .same => "same"
def Bk.sign : Bk → Str
  | .both => "&" | .thn => "->" | .lower => "min" | .higher => "max" | .same => "same"
inductive Sy where
  | nm (c : Nat) | nev | alw | den (a : Sy) | bin (k : Bk) (a b : Sy)
  deriving DecidableEq
def one (c : Nat) : Str := ⟨#[c]⟩
def Sy.kind : Sy → Str
  | .nm _ => "name" | .nev => "never" | .alw => "always" | .den _ => "denied" | .bin k _ _ => k.kind
def Sy.text : Sy → Str
  | .nm c => one c | .nev => "0" | .alw => "1"
  | .den a => (Str.empty ++ "not ") ++ a.text
  | .bin k a b => (((((Str.empty ++ "(") ++ a.text) ++ " ") ++ k.sign) ++ " ") ++ b.text ++ ")"
def Sy.size : Sy → Nat
  | .nm _ => 1 | .nev => 1 | .alw => 1 | .den a => a.size + 1 | .bin _ a b => a.size + b.size + 1
def Sy.letter : Sy → V
  | .nm c => .str (one c) | _ => .non
def Sy.subs : Sy → List Sy
  | .den a => [a] | .bin _ a b => [a, b] | _ => []
/-- c stands as a name in it -/
def Sy.has : Sy → Nat → Bool
  | .nm d, c => d == c | .den a, c => a.has c | .bin _ a b, c => a.has c || b.has c | _, _ => false
/-- its names are letters -/
def Sy.ok : Sy → Prop
  | .nm c => 97 ≤ c ∧ c ≤ 122 | .den a => a.ok | .bin _ a b => a.ok ∧ b.ok | _ => True
def alphabet : List Nat := [97, 98, 99, 100, 101, 102, 103, 104, 105, 106, 107, 108, 109, 110, 111, 112, 113, 114, 115, 116, 117, 118, 119, 120, 121, 122]
theorem mem_alphabet {c : Nat} : c ∈ alphabet ↔ 97 ≤ c ∧ c ≤ 122 := by
  unfold alphabet
  simp only [List.mem_cons, List.not_mem_nil, or_false]
  omega
def Sy.names (t : Sy) : List Str := (alphabet.filter t.has).map one
theorem Sy.has_ok : ∀ {t : Sy} {c : Nat}, t.ok → t.has c = true → 97 ≤ c ∧ c ≤ 122
  | .nm d, c, h, e => by
    have : d = c := by simpa [Sy.has] using e
    rw [← this]
    exact h
  | .den a, c, h, e => Sy.has_ok (t := a) h e
  | .bin k a b, c, h, e => by
    rcases (Bool.or_eq_true _ _ ▸ e : a.has c = true ∨ b.has c = true) with e | e
    · exact Sy.has_ok h.1 e
    · exact Sy.has_ok h.2 e
  | .nev, _, _, e => by cases e
  | .alw, _, _, e => by cases e
theorem one_inj {c d : Nat} (h : one c = one d) : c = d := by
  injection h with h
  injection h with h
  injection h
theorem mem_names {t : Sy} (h : t.ok) {x : Str} : x ∈ t.names ↔ ∃ c, t.has c = true ∧ x = one c := by
  unfold Sy.names
  rw [List.mem_map]
  constructor
  · rintro ⟨c, hc, rfl⟩
    exact ⟨c, (List.mem_filter.mp hc).2, rfl⟩
  · rintro ⟨c, hc, rfl⟩
    exact ⟨c, List.mem_filter.mpr ⟨mem_alphabet.mpr (Sy.has_ok h hc), hc⟩, rfl⟩
theorem names_len (t : Sy) : t.names.length ≤ 26 := by
  unfold Sy.names
  rw [List.length_map]
  exact List.length_filter_le _ _
theorem cps_one (c : Nat) : (one c).cps.toList = [c] := rfl
/-- sorted lists of texts without doubles, of the same texts, are the same -/
theorem sortedS_pairwise : ∀ {l : List Str}, sortedS l = true → l.Pairwise fun a b => ltCps b.cps.toList a.cps.toList = false := by
  have go : ∀ (p : Str) (l : List Str), risingS p l = true → (p :: l).Pairwise fun a b => ltCps b.cps.toList a.cps.toList = false := by
    intro p l
    induction l generalizing p with
    | nil => intro _; exact List.pairwise_singleton _ _
    | cons x r ih =>
      intro h
      have h' : (!ltCps x.cps.toList p.cps.toList && risingS x r) = true := h
      rw [Bool.and_eq_true, Bool.not_eq_true'] at h'
      have i := ih x h'.2
      refine List.pairwise_cons.mpr ⟨fun y hy => ?_, i⟩
      rcases List.mem_cons.mp hy with ey | hy
      · rw [ey]
        exact h'.1
      · have e1 := h'.1
        have e2 := (List.pairwise_cons.mp i).1 y hy
        rw [ltCps_eq] at e1 e2 ⊢
        have f1 := of_decide_eq_false e1
        have f2 := of_decide_eq_false e2
        refine decide_eq_false fun z => ?_
        exact absurd z (List.not_lt.mpr (List.le_trans (List.not_lt.mp f1) (List.not_lt.mp f2)))
  intro l h
  cases l with
  | nil => exact List.Pairwise.nil
  | cons x r => exact go x r h
theorem names_of_sorted {t : Sy} (h : t.ok) {ys : List Str} (hs : sortedS ys = true) (nd : ys.Nodup) (hm : ∀ x, x ∈ ys ↔ ∃ c, t.has c = true ∧ x = one c) : ys = t.names := by
  -- both are strictly rising
  have p1 : ys.Pairwise fun a b => a.cps.toList < b.cps.toList := by
    have q := sortedS_pairwise hs
    refine List.Pairwise.imp_of_mem (fun {a b} ha hb h => ?_) (List.Pairwise.and q (List.nodup_iff_pairwise_ne.mp nd))
    have e := h.1
    rw [ltCps_eq] at e
    have f := List.not_lt.mp (of_decide_eq_false e)
    rcases List.le_iff_lt_or_eq.mp f with g | g
    · exact g
    · refine absurd ?_ h.2
      obtain ⟨c, _, rfl⟩ := (hm a).mp ha
      obtain ⟨d, _, rfl⟩ := (hm b).mp hb
      rw [cps_one, cps_one] at g
      injection g with g
      rw [g]
  have p2 : t.names.Pairwise fun a b => a.cps.toList < b.cps.toList := by
    unfold Sy.names
    refine List.pairwise_map.mpr (List.Pairwise.filter _ ?_)
    have e : alphabet.Pairwise (· < ·) := by decide
    exact e.imp fun {a b} h => by
      rw [cps_one, cps_one]
      exact List.Lex.rel h
  have pm : ys.Perm t.names := by
    refine (List.perm_ext_iff_of_nodup nd ?_).mpr fun x => (hm x).trans (mem_names h).symm
    refine List.nodup_iff_pairwise_ne.mpr (p2.imp fun {a b} h e => ?_)
    rw [e] at h
    exact List.lt_irrefl _ h
  exact List.Perm.eq_of_pairwise (fun a b _ _ h1 h2 => absurd (List.lt_trans h1 h2) (List.lt_irrefl _)) p1 p2 pm
/-! ### sizes, lengths -/
theorem Sy.size_pos : ∀ t : Sy, 0 < t.size
  | .nm _ => Nat.one_pos | .nev => Nat.one_pos | .alw => Nat.one_pos
  | .den a => Nat.succ_pos _ | .bin _ _ _ => Nat.succ_pos _
theorem Bk.sign_len (k : Bk) : k.sign.length ≤ 4 := by cases k <;> decide
theorem slen (a b : Str) : (a ++ b).length = a.length + b.length := strLen_append a b
theorem Sy.text_len : ∀ t : Sy, t.text.length ≤ 10 * t.size
  | .nm _ => by show 1 ≤ 10; decide
  | .nev => by show 1 ≤ 10; decide
  | .alw => by show 1 ≤ 10; decide
  | .den a => by
    have h := Sy.text_len a
    show ((Str.empty ++ "not ") ++ a.text).length ≤ 10 * (a.size + 1)
    rw [slen, slen]
    have e1 : Str.empty.length = 0 := rfl
    have e2 : ("not " : Str).length = 4 := by decide
    omega
  | .bin k a b => by
    have h1 := Sy.text_len a
    have h2 := Sy.text_len b
    have h3 := k.sign_len
    show ((((((Str.empty ++ "(") ++ a.text) ++ " ") ++ k.sign) ++ " ") ++ b.text ++ ")").length ≤ 10 * (a.size + b.size + 1)
    rw [slen, slen, slen, slen, slen, slen, slen]
    have e1 : Str.empty.length = 0 := rfl
    have e2 : ("(" : Str).length = 1 := by decide
    have e3 : (" " : Str).length = 1 := by decide
    have e4 : (")" : Str).length = 1 := by decide
    omega
/-! ### in the heap -/
theorem tup_on {K : PySem.W.Frag} {H H' : Hp} {a : Addr} {xs : List V} (h : SqT K H a xs) (e : Same H H') : SqT K H' a xs :=
  match h with
  | .inl (.inl h) => .inl (.inl (e a _ h))
  | .inl (.inr ⟨o, h⟩) => .inl (.inr ⟨o, e a _ h⟩)
  | .inr h => .inr h
def Sy.fields (t : Sy) (p q : Addr) : List (Str × V) := [("kind", .str t.kind), ("pieces", .ref p), ("letter", t.letter), ("size", .int t.size), ("names", .ref q), ("_text", .str t.text)]
def SayAt (K : PySem.W.Frag) (C : Addr) (H : Hp) : Sy → Addr → Prop
  | .nm c, a => ∃ dx p q, H a = some (.ins C dx ((Sy.nm c).fields p q)) ∧ SqT K H q ((Sy.nm c).names.map V.str) ∧ SqT K H p []
  | .nev, a => ∃ dx p q, H a = some (.ins C dx (Sy.nev.fields p q)) ∧ SqT K H q (Sy.nev.names.map V.str) ∧ SqT K H p []
  | .alw, a => ∃ dx p q, H a = some (.ins C dx (Sy.alw.fields p q)) ∧ SqT K H q (Sy.alw.names.map V.str) ∧ SqT K H p []
  | .den t, a => ∃ dx p q b, H a = some (.ins C dx ((Sy.den t).fields p q)) ∧ SqT K H q ((Sy.den t).names.map V.str) ∧ SqT K H p [.ref b] ∧ SayAt K C H t b
  | .bin k t u, a => ∃ dx p q b c, H a = some (.ins C dx ((Sy.bin k t u).fields p q)) ∧ SqT K H q ((Sy.bin k t u).names.map V.str) ∧ SqT K H p [.ref b, .ref c] ∧ SayAt K C H t b ∧ SayAt K C H u c
theorem SayAt.on {K : PySem.W.Frag} {C : Addr} {H H' : Hp} (e : Same H H') : ∀ {t : Sy} {a : Addr}, SayAt K C H t a → SayAt K C H' t a
  | .nm c, a, ⟨dx, p, q, h, h1, h2⟩ => ⟨dx, p, q, e _ _ h, tup_on h1 e, tup_on h2 e⟩
  | .nev, a, ⟨dx, p, q, h, h1, h2⟩ => ⟨dx, p, q, e _ _ h, tup_on h1 e, tup_on h2 e⟩
  | .alw, a, ⟨dx, p, q, h, h1, h2⟩ => ⟨dx, p, q, e _ _ h, tup_on h1 e, tup_on h2 e⟩
  | .den t, a, ⟨dx, p, q, b, h, h1, h2, h3⟩ => ⟨dx, p, q, b, e _ _ h, tup_on h1 e, tup_on h2 e, SayAt.on e h3⟩
  | .bin k t u, a, ⟨dx, p, q, b, c, h, h1, h2, h3, h4⟩ => ⟨dx, p, q, b, c, e _ _ h, tup_on h1 e, tup_on h2 e, SayAt.on e h3, SayAt.on e h4⟩
/-- what every saying shows -/
structure Face (K : PySem.W.Frag) (C : Addr) (H : Hp) (t : Sy) (a : Addr) : Prop where
  ex : ∃ dx p q, H a = some (.ins C dx (t.fields p q)) ∧ SqT K H q (t.names.map V.str) ∧ ∃ bs : List Addr, SqT K H p (bs.map V.ref) ∧ Paired (SayAt K C H) t.subs bs
theorem SayAt.face {K : PySem.W.Frag} {C : Addr} {H : Hp} : ∀ {t : Sy} {a : Addr}, SayAt K C H t a → Face K C H t a
  | .nm c, a, ⟨dx, p, q, h, h1, h2⟩ => ⟨dx, p, q, h, h1, [], h2, .nil⟩
  | .nev, a, ⟨dx, p, q, h, h1, h2⟩ => ⟨dx, p, q, h, h1, [], h2, .nil⟩
  | .alw, a, ⟨dx, p, q, h, h1, h2⟩ => ⟨dx, p, q, h, h1, [], h2, .nil⟩
  | .den t, a, ⟨dx, p, q, b, h, h1, h2, h3⟩ => ⟨dx, p, q, h, h1, [b], h2, .cons h3 .nil⟩
  | .bin k t u, a, ⟨dx, p, q, b, c, h, h1, h2, h3, h4⟩ => ⟨dx, p, q, h, h1, [b, c], h2, .cons h3 (.cons h4 .nil)⟩
end SY
set_option maxHeartbeats 8000000
namespace G1
open PySem PySem.Spec PyProof.Rows L2 SY TXS
theorem same_new {H0 H : Hp} {D : Addr} {o : HO} (n : H0 D = none) (s : Same H0 H) : Same H0 (upd H D o) := fun b u e => (upd_ne (ne_of_none e n)).trans (s b u e)
/-- a walk over a tuple that stands: Pv by the turn, body with what comes next -/
theorem tup_turns {K : PySem.W.Frag} {a : Addr} {xs : List V} {from_ : Hp} {Qd : Hp → Prop} {body : V → Hp → (Hp → Prop) → Prop} (Pv : Nat → Hp → Prop)
    (first : Pv 0 from_) (stands : ∀ i H, i ≤ xs.length → Pv i H → SqT K H a xs)
    (turn : ∀ i x H, xs[i]? = some x → Pv i H → body x H (Pv (i + 1))) (last : ∀ H, Pv xs.length H → Qd H) :
    ∃ W : Nat → Nat → Hp → Prop, (∃ m, W 0 m from_) ∧ ∀ i m H, W i m H → ((Itt K a).stop i H ∧ Qd H) ∨
      ((Itt K a).go i H ∧ ∃ Nx : Hp → Prop, (∀ H', Nx H' → ∃ m', m' < m ∧ W (i + 1) m' H') ∧ ∀ x H', (Itt K a).yld i H x H' → body x H' Nx) := by
  let W : Nat → Nat → Hp → Prop := fun i m H => m + i = xs.length ∧ Pv i H
  refine ⟨W, ⟨xs.length, rfl, first⟩, ?_⟩
  intro i m H w
  obtain ⟨sum, p⟩ := w
  have tup := stands i H (by omega) p
  match m with
  | 0 =>
    left
    have e : i = xs.length := by omega
    subst e
    exact ⟨⟨xs, tup, Nat.le_refl _⟩, last H p⟩
  | m + 1 =>
    right
    have lt : i < xs.length := by omega
    refine ⟨⟨xs, xs[i], tup, List.getElem?_eq_getElem lt⟩, Pv (i + 1), ?_, ?_⟩
    · intro H' p'
      exact ⟨m, Nat.lt_succ_self m, by omega, p'⟩
    · intro x H' y
      obtain ⟨rfl, y⟩ := y
      exact turn i x _ (y xs tup) p
theorem paired_at {α β γ : Type} {R : α → β → Prop} {f : β → γ} : ∀ {xs : List α} {ys : List β} {i : Nat} {v : γ}, Paired R xs ys → (ys.map f)[i]? = some v → ∃ x y, xs[i]? = some x ∧ ys[i]? = some y ∧ v = f y ∧ R x y
  | _, _, _, _, .nil, h => by cases h
  | _, _, 0, _, .cons r _, h => by
    cases h
    exact ⟨_, _, rfl, rfl, rfl, r⟩
  | _, _, i + 1, v, .cons _ rs, h => paired_at (i := i) rs h
theorem yes_of {σ : L2.St} {H : Hp} {Q : Bool → Hp → Prop} (h : Q true H) : tYes σ H Q := h
theorem letter_two (t : Sy) : (∃ c, t = .nm c) ∨ (t.letter = .non ∧ ∀ c, t ≠ .nm c) := by
  cases t with
  | nm c => exact .inl ⟨c, rfl⟩
  | _ => exact .inr ⟨rfl, fun c z => by cases z⟩
/-! ### names -/
def allNames (ts : List Sy) : List Str := ts.flatMap Sy.names
theorem allNames_len : ∀ ts : List Sy, (allNames ts).length ≤ 26 * ts.length
  | [] => Nat.zero_le _
  | t :: ts => by
    have h := allNames_len ts
    have h2 := names_len t
    unfold allNames at h ⊢
    rw [List.flatMap_cons, List.length_append, List.length_cons]
    omega
theorem subs_len (t : Sy) : t.subs.length ≤ 2 := by cases t <;> simp [Sy.subs]
theorem mem_allNames {t : Sy} (h : t.ok) (nn : ∀ c, t ≠ .nm c) (x : Str) : x ∈ allNames t.subs ↔ ∃ c, t.has c = true ∧ x = one c := by
  unfold allNames
  cases t with
  | nm c => exact absurd rfl (nn c)
  | nev => simp [Sy.subs, Sy.has]
  | alw => simp [Sy.subs, Sy.has]
  | den a =>
    show x ∈ [a].flatMap Sy.names ↔ _
    rw [List.flatMap_cons, List.flatMap_nil, List.append_nil, mem_names (t := a) h]
    exact Iff.rfl
  | bin k a b =>
    show x ∈ [a, b].flatMap Sy.names ↔ _
    rw [List.flatMap_cons, List.flatMap_cons, List.flatMap_nil, List.append_nil, List.mem_append, mem_names h.1, mem_names h.2]
    constructor
    · rintro (⟨c, e, r⟩ | ⟨c, e, r⟩)
      · exact ⟨c, by show (a.has c || b.has c) = true; rw [e]; rfl, r⟩
      · exact ⟨c, by show (a.has c || b.has c) = true; rw [e, Bool.or_true], r⟩
    · rintro ⟨c, e, r⟩
      rcases (Bool.or_eq_true _ _ ▸ (show (a.has c || b.has c) = true from e) : a.has c = true ∨ b.has c = true) with e | e
      · exact .inl ⟨c, e, r⟩
      · exact .inr ⟨c, e, r⟩
theorem names_nm {c : Nat} (h : (Sy.nm c).ok) : (Sy.nm c).names = [one c] := by
  refine (names_of_sorted h (ys := [one c]) rfl (List.nodup_cons.mpr ⟨List.not_mem_nil, List.nodup_nil⟩) fun x => ?_).symm
  rw [List.mem_singleton]
  constructor
  · rintro rfl
    exact ⟨c, by simp [Sy.has], rfl⟩
  · rintro ⟨d, e, rfl⟩
    have : c = d := by simpa [Sy.has] using e
    rw [this]
def spNames (K : PySem.W.Frag) (C : Addr) : Sp := fun vs H Q _ => ∃ (p : Addr) (t : Sy) (bs : List Addr), vs = [.ref p, t.letter] ∧ SqT K H p (bs.map V.ref) ∧ Paired (SayAt K C H) t.subs bs ∧ t.ok ∧
  ∀ q H', Same H H' → SqT K H' q (t.names.map V.str) → Q (.ref q) H'
section
variable {P : Program} {w : World} {K : PySem.W.Frag} {mg : Str → Option Value} {base : Heap} {C : Addr}
theorem scNames : FnScope ["pieces", "letter", "letters", "piece", "name"] ["pieces", "letter"] (defScope sNames) := ⟨rfl, rfl, rfl, by decide +kernel, rfl, by decide +kernel, by decide +kernel⟩
theorem cl_names (D : DefAt K mg "_names" sNames) (B : Blt mg) (cC : Cls K C) (nN : NoAttr K C "names") : Cl CX0 P w K mg base 1 "_names" ["pieces", "letter"] (spNames K C) := by
  obtain ⟨f, fd, F, hm⟩ := D
  refine cl_of F hm (F.ok scNames (fun vs H Q E h => ?_) (fun cdv A outer s H vs Q E hr h => ⟨_, PSs.nox (pss_cons
      (ps_if (pt_cmp (pc_notN (pv 1))) (pss_one (ps_ret (pe_tup (pa_cons (pv 1) pa_nil)))) pss_nil)
      (pss_cons (ps_setLc2 (i := 2) (own := [("piece", 3), ("name", 4)]) (vs1 := [4]) (g := gName 3) (g1 := gName 4) (tt := tYes) (tt1 := tYes) (wi1 := iTup K (tFld K (tVar 3) "names")) (by rfl) scNames.nd rfl rfl (sw_true rfl rfl rfl (by decide +kernel)) (pi_tup (pv 0))
        (blkOk_by (N := ["pieces", "letter", "letters", "piece", "name"]) (sc := defScope sNames) (by decide +kernel)) (by decide)
        (fun _ _ _ _ _ => pg_name (i := 3) scNames.nd rfl (Or.inl rfl)) (fun _ _ _ _ _ => pts_nil)
        (fun _ _ _ _ _ => pi_tup (pe_fld (pv 3) rfl)) (fun _ _ _ _ _ => pg_name (i := 4) scNames.nd rfl (Or.inl rfl)) (fun _ _ _ _ _ => pts_nil) (fun _ _ _ _ _ => pv 4))
      (pss_one (ps_ret (pe_callTy call_tuple_of (by rfl) B.tuple (by decide +kernel) (pa_cons (pe_callB (cr_sortX rfl) (by rfl) B.sorted (by decide +kernel) (pa_cons (pe_callTy (cr_setX rfl) (by rfl) B.set (by decide +kernel) (pa_cons (pv 2) pa_nil)) pa_nil)) pa_nil)))))), ?_⟩)) fun _ _ _ _ _ _ us hl => match us, hl with | [_, _], _ => rfl
  · obtain ⟨p, t, bs, rfl, _⟩ := h
    rfl
  · obtain ⟨p, t, bs, rfl, hp, hb, ok, q⟩ := h
    refine ⟨_, rfl, _, rfl, ?_⟩
    rcases letter_two t with ⟨c, rfl⟩ | ⟨hl, nn⟩
    · rw [show decide ((Sy.nm c).letter = V.non) = false from decide_eq_false (fun z => by cases z)]
      refine iteT ⟨_, rfl, (by show 1 ≤ sizeLine; decide), fun T nT => ?_⟩
      refine q T _ (same_new nT (Same.refl _)) ?_
      rw [names_nm ok]
      exact SqT.of upd_same
    · rw [hl]
      refine iteF ?_
      refine ⟨_, rfl, p, rfl, ⟨_, hp⟩, fun D nD => ?_⟩
      have hs2 := subs_len t
      refine tup_turns (K := K) (xs := bs.map V.ref) (fun i H' => Same H H' ∧ H' D = some (.lst ((allNames (t.subs.take i)).map V.str))) ⟨same_new nD (Same.refl _), upd_same⟩ (fun i H' _ h => tup_on hp h.1) ?_ ?_
      · rintro i x H' hx ⟨sm, hD⟩
        obtain ⟨u, b, hu, hb', rfl, hr⟩ := paired_at hb hx
        refine ⟨rfl, yes_of ?_⟩
        rw [if_pos rfl]
        obtain ⟨dx, p', q', e1, e2, _⟩ := hr.face.ex
        refine ⟨_, rfl, b, C, dx, _, _, rfl, sm _ _ e1, cC, nN, rfl, q', rfl, ⟨_, tup_on e2 sm⟩, ?_⟩
        refine tup_turns (K := K) (xs := u.names.map V.str) (fun j H2 => Same H H2 ∧ H2 D = some (.lst ((allNames (t.subs.take i) ++ u.names.take j).map V.str))) ⟨sm, ?_⟩ (fun j H2 _ h => ?_) ?_ ?_
        · rw [List.take_zero, List.append_nil]
          exact hD
        · exact tup_on e2 h.1
        · rintro j y H2 hy ⟨sm2, hD2⟩
          rw [List.getElem?_map] at hy
          obtain ⟨z, hz, rfl⟩ := Option.map_eq_some_iff.mp hy
          refine ⟨rfl, yes_of ?_⟩
          rw [if_pos rfl]
          refine ⟨_, rfl, _, hD2, ?_, same_new nD sm2, ?_⟩
          · have a1 := allNames_len (t.subs.take i)
            have a2 := names_len u
            rw [List.length_map, List.length_append, List.length_take, sizeLine_eq]
            rw [List.length_take] at a1
            omega
          · rw [upd_same, take_next hz, ← List.append_assoc, List.map_append, List.map_append, List.map_append]
            rfl
        · rintro H2 ⟨sm2, hD2⟩
          refine ⟨sm2, ?_⟩
          rw [hD2, List.length_map, List.take_length, take_next hu]
          unfold allNames
          rw [List.flatMap_append, List.flatMap_cons, List.flatMap_nil, List.append_nil]
      · rintro H' ⟨sm, hD⟩
        have el : (bs.map V.ref).length = t.subs.length := by rw [List.length_map]; exact (hb.length).symm
        rw [el, List.take_length] at hD
        have few : (allNames t.subs).length + 1 < scanBound := by
          have a1 := allNames_len t.subs
          unfold scanBound
          omega
        refine ⟨_, rfl, D, allNames t.subs, rfl, SqL.of hD, few, fun S l' nS nd hm hl2 => ?_⟩
        refine ⟨S, l', rfl, upd_same, by omega, fun ys p1 hs nd' hm' hlen np => ?_⟩
        refine ⟨p1, _, rfl, .inl ⟨SqL.of upd_same, fun q1 nq => ?_⟩⟩
        have ey : ys = t.names := names_of_sorted ok hs nd' fun x => (hm' x).trans ((hm x).trans (mem_allNames ok nn x))
        subst ey
        have s1 : Same H' (upd H' S (TSetO P w S l')) := same_new nS (Same.refl _)
        have s2 := same_new (o := .lst (t.names.map V.str)) np (Same.refl _)
        have s3 := same_new (o := .tup (t.names.map V.str)) nq (Same.refl _)
        exact q q1 _ (sm.trans (s1.trans (s2.trans s3))) (SqT.of upd_same)
end
end G1
set_option maxHeartbeats 8000000
namespace G1
open PySem PySem.Spec PyProof.Rows L2 SY TXS OW
theorem raw0 {P : Program} {w : World} {K : PySem.W.Frag} {mg : Str → Option Value} {base : Heap} {CX : CXT} {k : Nat} {f : Addr} {fd : FuncData} {ps : List Str} {sp : Sp} (F : FnOk P w K mg base CX k f fd ps sp) (hb : Binds K fd ps []) : FnR P w K mg base CX k f sp :=
  (F.raw hb .nil).imp fun vs H Q E h => by rw [List.append_nil]; exact h
theorem call_strS {X : Cx} : CallR X (.type "str") (fun xs H Q => ∃ y : Str, xs = [.str y] ∧ Q (.str y) H) := by
  intro pn s st H xs us Q I r ask
  obtain ⟨y, rfl, q⟩ := ask
  cases r with
  | cons r1 r2 =>
    cases r2
    obtain ⟨t, rfl⟩ := r1
    exact PySem.P.str_of_str ⟨.str y, H, I, ⟨t, rfl⟩, q⟩
/-- a method of the class, as the head leaves it -/
abbrev FnM (K : PySem.W.Frag) (C : Addr) (m : Str) (qual : Str) (st : Stmt) (dvs : List V) (f : Addr) (fd : FuncData) : Prop := FunD K m qual (defArgs st) (defBody st) (defScope st) dvs [] f fd
structure MAt (K : PySem.W.Frag) (C : Addr) (m qual : Str) (st : Stmt) : Prop where
  ex : ∃ (f : Addr) (fd : FuncData), Meth K C m f ∧ FnM K C m qual st [] f fd
/-- what the head leaves of the class of sayings -/
structure SayTxt (K : PySem.W.Frag) (w : World) (mg : Str → Option Value) (C : Addr) : Prop where
  gC : mg "Saying" = some (.ref C)
  cl : Cls K C
  nK : NoAttr K C "kind"
  nP : NoAttr K C "pieces"
  nL : NoAttr K C "letter"
  nS : NoAttr K C "size"
  nN : NoAttr K C "names"
  nT : NoAttr K C "_text"
  ow : OwnF K C
  ini : ∃ (fI : Addr) (fd : FuncData) (e0 : Addr), Mk K C fI ∧ FnM K C "__init__" "Saying.__init__" mSayingInit [.ref e0, .non] fI fd ∧ ∀ H, SqT K H e0 []
  str : MAt K C "__str__" "Saying.__str__" mSayingStr
  both : MAt K C "both" "Saying.both" mSayingBoth
  thn : MAt K C "then" "Saying.then" mSayingThen
  lower : MAt K C "lower" "Saying.lower" mSayingLower
  higher : MAt K C "higher" "Saying.higher" mSayingHigher
  same : MAt K C "same" "Saying.same" mSayingSame
  denied : MAt K C "denied" "Saying.denied" mSayingDenied
  parts : MAt K C "parts" "Saying.parts" mSayingParts
  and_ : MAt K C "__and__" "Saying.__and__" mSayingAnd
  rsh : MAt K C "__rshift__" "Saying.__rshift__" mSayingRsh
  inv : MAt K C "__invert__" "Saying.__invert__" mSayingInv
  eq : MAt K C "__eq__" "Saying.__eq__" mSayingEq
  sg : ∃ d, mg "SIGNS" = some (.ref d) ∧ ∀ k : Bk, KDct K w d k.kind (.str k.sign)
theorem ifNo {x y : V} {f : Bool → Hp → Prop} {H : Hp} (n : ¬ x = y) (h : f false H) : f (decide (x = y)) H := by
  rw [decide_eq_false n]
  exact h
def spStr (K : PySem.W.Frag) (C : Addr) : Sp := fun vs H Q _ => ∃ a t, vs = [.ref a] ∧ Face K C H t a ∧ Q (.str t.text) H
def spText (K : PySem.W.Frag) (C : Addr) : Sp := fun vs H Q _ => ∃ (p : Addr) (t : Sy) (bs : List Addr), vs = [.str t.kind, .ref p, t.letter] ∧ SqT K H p (bs.map V.ref) ∧ Paired (SayAt K C H) t.subs bs ∧ t.size ≤ 1000 ∧ Q (.str t.text) H
section
variable {P : Program} {w : World} {K : PySem.W.Frag} {mg : Str → Option Value} {base : Heap} {C : Addr}
theorem scStr : FnScope ["self"] ["self"] (defScope mSayingStr) := ⟨rfl, rfl, rfl, by decide +kernel, rfl, by decide +kernel, by decide +kernel⟩
theorem ok_str (T : SayTxt K w mg C) (B : Blt mg) : ∃ f, PySem.W.findIn K (.ref C) "__str__" = some (some (.ref f)) ∧ PySem.W.isFn K (.ref f) = true ∧ FnR P w K mg base CX0 1 f (spStr K C) := by
  obtain ⟨f, fd, M, F⟩ := T.str.ex
  refine ⟨f, M.at_, M.fn, raw0 (ps := ["self"]) (F.ok scStr (fun vs H Q E h => ?_) (fun cdv A outer s H vs Q E hr h => ⟨_, PSs.nox (pss_one (ps_ret (pe_callTy call_strS (by rfl) B.str (by decide +kernel) (pa_cons (pe_fld (pv 0) rfl) pa_nil)))), ?_⟩))
    (F.bindsN fun _ _ _ _ _ _ us hl => match us, hl with | [_], _ => rfl)⟩
  · obtain ⟨a, t, rfl, _⟩ := h
    rfl
  · obtain ⟨a, t, rfl, fc, q⟩ := h
    obtain ⟨dx, p, q', e1, _⟩ := fc.ex
    exact ⟨_, rfl, a, C, dx, _, _, rfl, e1, T.cl, T.nT, rfl, _, rfl, q⟩
theorem scText : FnScope ["kind", "pieces", "letter"] ["kind", "pieces", "letter"] (defScope sTextOf) := ⟨rfl, rfl, rfl, by decide +kernel, rfl, by decide +kernel, by decide +kernel⟩
theorem cl_text (D : DefAt K mg "_text_of" sTextOf) (T : SayTxt K w mg C) (B : Blt mg) : Cl CX0 P w K mg base 3 "_text_of" ["kind", "pieces", "letter"] (spText K C) := by
  obtain ⟨f, fd, F, hm⟩ := D
  obtain ⟨fs, s1, s2, FS⟩ := ok_str (P := P) (base := base) T B
  obtain ⟨d, gS, kd⟩ := T.sg
  refine cl_of F hm (F.ok scText (fun vs H Q E h => ?_) (fun cdv A outer s H vs Q E hr h => ⟨_, PSs.nox (pss_cons
      (ps_if (pt_cmpR op_eq (pv 0) pe_str (nomark _)) (pss_one (ps_ret (pv 2))) pss_nil)
      (pss_cons (ps_if (pt_cmpR op_eq (pv 0) pe_str (nomark _)) (pss_one (ps_ret pe_str)) pss_nil)
      (pss_cons (ps_if (pt_cmpR op_eq (pv 0) pe_str (nomark _)) (pss_one (ps_ret pe_str)) pss_nil)
      (pss_cons (ps_if (pt_cmpR op_eq (pv 0) pe_str (nomark _)) (pss_one (ps_ret (pe_joined (.cons pe_str (.cons (pe_fmtO (pe_ix ix_tup (pv 1) pe_int (fun _ _ => rfl)) s1 s2 T.ow.fm T.ow.mo FS hr pass0) .nil))))) pss_nil)
      (pss_one (ps_ret (pe_joined (.cons pe_str (.cons (pe_fmtO (pe_ix ix_tup (pv 1) pe_int (fun _ _ => rfl)) s1 s2 T.ow.fm T.ow.mo FS hr pass0) (.cons pe_str (.cons (pe_fmt (pe_ix ix_kdict (pe_glob (v := .ref d) rfl gS rfl) (pv 0) (fun _ _ => rfl)))
        (.cons pe_str (.cons (pe_fmtO (pe_ix ix_tup (pv 1) pe_int (fun _ _ => rfl)) s1 s2 T.ow.fm T.ow.mo FS hr pass0) (.cons pe_str .nil)))))))))))))), ?_⟩)) fun _ _ _ _ _ _ us hl => match us, hl with | [_, _, _], _ => rfl
  · obtain ⟨p, t, bs, rfl, _⟩ := h
    rfl
  · obtain ⟨p, t, bs, rfl, hp, hb, sz, q⟩ := h
    have f0 : Str.empty.length = 0 := rfl
    have f4 : ("not " : Str).length = 4 := by decide
    have f1 : ("(" : Str).length = 1 := by decide
    have f2 : (" " : Str).length = 1 := by decide
    have f3 : (")" : Str).length = 1 := by decide
    cases t with
    | nm c =>
      refine ⟨_, rfl, rfl, _, rfl, ?_⟩
      refine iteT ?_
      exact ⟨_, rfl, q⟩
    | nev =>
      refine ⟨_, rfl, rfl, _, rfl, iteF ⟨_, rfl, rfl, _, rfl, iteT ?_⟩⟩
      exact q
    | alw =>
      refine ⟨_, rfl, rfl, _, rfl, iteF ⟨_, rfl, rfl, _, rfl, iteF ⟨_, rfl, rfl, _, rfl, iteT ?_⟩⟩⟩
      exact q
    | den a =>
      obtain ⟨b, rfl, hr1⟩ : ∃ b, bs = [b] ∧ SayAt K C H a b := by
        cases hb with
        | cons r rs =>
          cases rs
          exact ⟨_, rfl, r⟩
      have l1 := a.text_len
      have sz1 : a.size + 1 ≤ 1000 := sz
      obtain ⟨dx, p1, q1, e1, _⟩ := hr1.face.ex
      refine ⟨_, rfl, rfl, _, rfl, iteF ⟨_, rfl, rfl, _, rfl, iteF ⟨_, rfl, rfl, _, rfl, iteF ⟨_, rfl, rfl, _, rfl, iteT ?_⟩⟩⟩⟩
      refine ⟨_, rfl, by rw [slen, sizeLine_eq]; omega, ?_⟩
      refine ⟨_, rfl, p, _, _, _, rfl, rfl, hp, atI_nat (j := 0) rfl, b, dx, _, rfl, e1, b, a, rfl, hr1.face, _, rfl, _, rfl, ?_, ?_⟩
      · rw [slen, slen, sizeLine_eq]
        omega
      · exact q
    | bin k a b =>
      obtain ⟨c, d', rfl, hr1, hr2⟩ : ∃ c d', bs = [c, d'] ∧ SayAt K C H a c ∧ SayAt K C H b d' := by
        cases hb with
        | cons r rs =>
          cases rs with
          | cons r2 rs2 =>
            cases rs2
            exact ⟨_, _, rfl, r, r2⟩
      have l1 := a.text_len
      have l2 := b.text_len
      have l3 := k.sign_len
      have sz1 : a.size + b.size + 1 ≤ 1000 := sz
      obtain ⟨dx, p1, q1, e1, _⟩ := hr1.face.ex
      obtain ⟨dy, p2, q2, e2, _⟩ := hr2.face.ex
      have n1 : ¬ V.str (Sy.bin k a b).kind = V.str "name" := (by cases k <;> decide : ¬ V.str k.kind = V.str "name")
      have n2 : ¬ V.str (Sy.bin k a b).kind = V.str "never" := (by cases k <;> decide : ¬ V.str k.kind = V.str "never")
      have n3 : ¬ V.str (Sy.bin k a b).kind = V.str "always" := (by cases k <;> decide : ¬ V.str k.kind = V.str "always")
      have n4 : ¬ V.str (Sy.bin k a b).kind = V.str "denied" := (by cases k <;> decide : ¬ V.str k.kind = V.str "denied")
      refine ⟨_, rfl, rfl, _, rfl, ?_⟩
      rw [decide_eq_false n1]
      refine iteF ⟨_, rfl, rfl, _, rfl, ?_⟩
      rw [decide_eq_false n2]
      refine iteF ⟨_, rfl, rfl, _, rfl, ?_⟩
      rw [decide_eq_false n3]
      refine iteF ⟨_, rfl, rfl, _, rfl, ?_⟩
      rw [decide_eq_false n4]
      refine iteF ?_
      refine ⟨_, rfl, by rw [slen, sizeLine_eq]; omega, ?_⟩
      refine ⟨_, rfl, p, _, _, _, rfl, rfl, hp, atI_nat (j := 0) rfl, c, dx, _, rfl, e1, c, a, rfl, hr1.face, _, rfl, _, rfl, ?_, ?_⟩
      · rw [slen, slen, sizeLine_eq]
        omega
      refine ⟨_, rfl, by rw [slen, slen, slen, sizeLine_eq]; omega, ?_⟩
      refine ⟨_, rfl, d, k.kind, _, rfl, rfl, kd k, .inl ⟨_, rfl, by rw [sizeLine_eq]; omega, _, rfl, by rw [slen, slen, slen, slen, sizeLine_eq]; omega, ?_⟩⟩
      refine ⟨_, rfl, by rw [slen, slen, slen, slen, slen, sizeLine_eq]; omega, ?_⟩
      refine ⟨_, rfl, p, _, _, _, rfl, rfl, hp, atI_nat (j := 1) rfl, d', dy, _, rfl, e2, d', b, rfl, hr2.face, _, rfl, _, rfl, ?_, ?_⟩
      · rw [slen, slen, slen, slen, slen, slen, sizeLine_eq]
        omega
      refine ⟨_, rfl, by rw [slen, slen, slen, slen, slen, slen, slen, sizeLine_eq]; omega, ?_⟩
      exact q
end
end G1
set_option maxHeartbeats 4000000
namespace G1
open PySem PySem.Spec PyProof.Rows L2
section
variable {P : Program} {w : World} {K : PySem.W.Frag} {mg : Str → Option Value} {base : Heap} {C fI : Addr}
abbrev ErrN (K : PySem.W.Frag) (mg : Str → Option Value) (C fI : Addr) : Prop := ErrG K mg "InvalidName" "thing" "InvalidName.__init__" mInvalidNameInit C fI
theorem scInitN : FnScope ["self", "thing"] ["self", "thing"] (defScope mInvalidNameInit) := ⟨rfl, rfl, rfl, by decide +kernel, rfl, by decide +kernel, by decide +kernel⟩
theorem ok_errN {fd : FuncData} (T : ErrN K mg C fI) (F : FunD K "__init__" "InvalidName.__init__" (defArgs mInvalidNameInit) (defBody mInvalidNameInit) (defScope mInvalidNameInit) [] [] fI fd) : FnOk P w K mg base CX0 1 fI fd ["self", "thing"] (spErr "thing" C) := by
  refine F.ok scInitN (fun vs H Q E h => ?_) (fun cdv A outer s H vs Q E hr h => ⟨_, PSs.nox (pss_one (ps_ost (pv 0) (pv 1))), ?_⟩)
  · obtain ⟨a, v, rfl, _⟩ := h
    rfl
  · obtain ⟨a, v, rfl, e, q⟩ := h
    exact ⟨_, rfl, _, rfl, a, C, rfl, T.ox, T.no, .inl ⟨e, fun dx n ne => q dx n ne⟩⟩
theorem err_bindsN {fd : FuncData} (F : FunD K "__init__" "InvalidName.__init__" (defArgs mInvalidNameInit) (defBody mInvalidNameInit) (defScope mInvalidNameInit) [] [] fI fd) : Binds K fd ["self", "thing"] [] :=
  F.bindsN fun _ _ _ _ _ _ us hl => match us, hl with | [_, _], _ => rfl
abbrev ErrS (K : PySem.W.Frag) (mg : Str → Option Value) (C fI : Addr) : Prop := ErrG K mg "InvalidSaying" "thing" "InvalidSaying.__init__" mInvalidSayingInit C fI
theorem scInitS : FnScope ["self", "thing"] ["self", "thing"] (defScope mInvalidSayingInit) := ⟨rfl, rfl, rfl, by decide +kernel, rfl, by decide +kernel, by decide +kernel⟩
theorem ok_errS {fd : FuncData} (T : ErrS K mg C fI) (F : FunD K "__init__" "InvalidSaying.__init__" (defArgs mInvalidSayingInit) (defBody mInvalidSayingInit) (defScope mInvalidSayingInit) [] [] fI fd) : FnOk P w K mg base CX0 1 fI fd ["self", "thing"] (spErr "thing" C) := by
  refine F.ok scInitS (fun vs H Q E h => ?_) (fun cdv A outer s H vs Q E hr h => ⟨_, PSs.nox (pss_one (ps_ost (pv 0) (pv 1))), ?_⟩)
  · obtain ⟨a, v, rfl, _⟩ := h
    rfl
  · obtain ⟨a, v, rfl, e, q⟩ := h
    exact ⟨_, rfl, _, rfl, a, C, rfl, T.ox, T.no, .inl ⟨e, fun dx n ne => q dx n ne⟩⟩
theorem err_bindsS {fd : FuncData} (F : FunD K "__init__" "InvalidSaying.__init__" (defArgs mInvalidSayingInit) (defBody mInvalidSayingInit) (defScope mInvalidSayingInit) [] [] fI fd) : Binds K fd ["self", "thing"] [] :=
  F.bindsN fun _ _ _ _ _ _ us hl => match us, hl with | [_, _], _ => rfl
abbrev ErrL (K : PySem.W.Frag) (mg : Str → Option Value) (C fI : Addr) : Prop := ErrG K mg "TooLarge" "size" "TooLarge.__init__" mTooLargeInit C fI
theorem scInitL : FnScope ["self", "size"] ["self", "size"] (defScope mTooLargeInit) := ⟨rfl, rfl, rfl, by decide +kernel, rfl, by decide +kernel, by decide +kernel⟩
theorem ok_errL {fd : FuncData} (T : ErrL K mg C fI) (F : FunD K "__init__" "TooLarge.__init__" (defArgs mTooLargeInit) (defBody mTooLargeInit) (defScope mTooLargeInit) [] [] fI fd) : FnOk P w K mg base CX0 1 fI fd ["self", "size"] (spErr "size" C) := by
  refine F.ok scInitL (fun vs H Q E h => ?_) (fun cdv A outer s H vs Q E hr h => ⟨_, PSs.nox (pss_one (ps_ost (pv 0) (pv 1))), ?_⟩)
  · obtain ⟨a, v, rfl, _⟩ := h
    rfl
  · obtain ⟨a, v, rfl, e, q⟩ := h
    exact ⟨_, rfl, _, rfl, a, C, rfl, T.ox, T.no, .inl ⟨e, fun dx n ne => q dx n ne⟩⟩
theorem err_bindsL {fd : FuncData} (F : FunD K "__init__" "TooLarge.__init__" (defArgs mTooLargeInit) (defBody mTooLargeInit) (defScope mTooLargeInit) [] [] fI fd) : Binds K fd ["self", "size"] [] :=
  F.bindsN fun _ _ _ _ _ _ us hl => match us, hl with | [_, _], _ => rfl
abbrev ErrT (K : PySem.W.Frag) (mg : Str → Option Value) (C fI : Addr) : Prop := ErrG K mg "InvalidText" "at" "InvalidText.__init__" mInvalidTextInit C fI
theorem scInitT : FnScope ["self", "at"] ["self", "at"] (defScope mInvalidTextInit) := ⟨rfl, rfl, rfl, by decide +kernel, rfl, by decide +kernel, by decide +kernel⟩
theorem ok_errT {fd : FuncData} (T : ErrT K mg C fI) (F : FunD K "__init__" "InvalidText.__init__" (defArgs mInvalidTextInit) (defBody mInvalidTextInit) (defScope mInvalidTextInit) [] [] fI fd) : FnOk P w K mg base CX0 1 fI fd ["self", "at"] (spErr "at" C) := by
  refine F.ok scInitT (fun vs H Q E h => ?_) (fun cdv A outer s H vs Q E hr h => ⟨_, PSs.nox (pss_one (ps_ost (pv 0) (pv 1))), ?_⟩)
  · obtain ⟨a, v, rfl, _⟩ := h
    rfl
  · obtain ⟨a, v, rfl, e, q⟩ := h
    exact ⟨_, rfl, _, rfl, a, C, rfl, T.ox, T.no, .inl ⟨e, fun dx n ne => q dx n ne⟩⟩
theorem err_bindsT {fd : FuncData} (F : FunD K "__init__" "InvalidText.__init__" (defArgs mInvalidTextInit) (defBody mInvalidTextInit) (defScope mInvalidTextInit) [] [] fI fd) : Binds K fd ["self", "at"] [] :=
  F.bindsN fun _ _ _ _ _ _ us hl => match us, hl with | [_, _], _ => rfl
end
end G1
set_option maxHeartbeats 8000000
namespace G1
open PySem PySem.Spec PyProof.Rows L2 SY TXS OW
/-! ### making a saying -/
theorem paired_on {K : PySem.W.Frag} {C : Addr} {H H' : Hp} (e : Same H H') : ∀ {xs : List Sy} {ys : List Addr}, Paired (SayAt K C H) xs ys → Paired (SayAt K C H') xs ys
  | _, _, .nil => .nil
  | _, _, .cons r rs => .cons (r.on e) (paired_on e rs)
theorem SayAt.mk {K : PySem.W.Frag} {C : Addr} {H : Hp} {t : Sy} {a dx p q : Addr} {bs : List Addr} (e : H a = some (.ins C dx (t.fields p q))) (hq : SqT K H q (t.names.map V.str)) (hp : SqT K H p (bs.map V.ref)) (hb : Paired (SayAt K C H) t.subs bs) : SayAt K C H t a := by
  cases t with
  | nm c => cases hb; exact ⟨dx, p, q, e, hq, hp⟩
  | nev => cases hb; exact ⟨dx, p, q, e, hq, hp⟩
  | alw => cases hb; exact ⟨dx, p, q, e, hq, hp⟩
  | den u =>
    cases hb with
    | cons r rs =>
      cases rs
      exact ⟨dx, p, q, _, e, hq, hp, r⟩
  | bin k u v =>
    cases hb with
    | cons r rs =>
      cases rs with
      | cons r2 rs2 =>
        cases rs2
        exact ⟨dx, p, q, _, _, e, hq, hp, r, r2⟩
theorem size_sum (t : Sy) : (t.size : Int) = 1 + (t.subs.map fun s => (s.size : Int)).sum := by
  cases t <;> simp [Sy.size, Sy.subs] <;> omega
def spInitS (K : PySem.W.Frag) (C CL : Addr) : Sp := fun vs H Q E => ∃ (a dx p : Addr) (G : Hp) (t : Sy) (bs : List Addr), vs = [.ref a, .str t.kind, .ref p, t.letter] ∧ H a = some (.ins C dx []) ∧ Same G H ∧ G a = none ∧
  SqT K G p (bs.map V.ref) ∧ Paired (SayAt K C G) t.subs bs ∧ t.ok ∧ (200 < t.size → Rs "size" CL G (.int t.size) E) ∧ (t.size ≤ 200 → ∀ H', Same G H' → SayAt K C H' t a → Q .non H')
section
variable {P : Program} {w : World} {K : PySem.W.Frag} {mg : Str → Option Value} {base : Heap} {C CL fL : Addr}
theorem gn {i : Nat} {x : V} {σ σ' : L2.St} {H : Hp} {Q : L2.St → Hp → Prop} (e : σ.set i (some x) = σ') (h : Q σ' H) : gName i x σ H Q := by
  subst e
  exact h
theorem tup_ins {K : PySem.W.Frag} {H : Hp} {q a C dx : Addr} {xs : List V} {fs : List (Str × V)} {o : HO} (h : SqT K H q xs) (e : H a = some (.ins C dx fs)) : SqT K (upd H a o) q xs :=
  h.elim (fun h => .inl (h.elim (fun h => .inl ((upd_ne (fun z => by rw [z, e] at h; cases h)).trans h)) fun ⟨o', h⟩ => .inr ⟨o', (upd_ne (fun z => by rw [z, e] at h; cases h)).trans h⟩)) fun h => .inr h
theorem mk_a {a : Addr} {G H : Hp} (o : HO) (n : G a = none) (s : Same G H) : ∃ H', upd H a o = H' ∧ Same G H' ∧ H' a = some o := ⟨_, rfl, same_new n s, upd_same⟩
theorem scMake : FnScope ["self", "kind", "pieces", "letter", "size", "piece"] ["self", "kind", "pieces", "letter"] (defScope mSayingInit) := ⟨rfl, rfl, rfl, by decide +kernel, rfl, by decide +kernel, by decide +kernel⟩
theorem ok_initS {fI : Addr} {fd : FuncData} {dvs : List V} (F : FnM K C "__init__" "Saying.__init__" mSayingInit dvs fI fd) (T : SayTxt K w mg C) (B : Blt mg) (TL : ErrL K mg CL fL) (gM : ∃ t, mg "MOST_NODES" = some (.int 200 t))
    (cN : Cl CX0 P w K mg base 1 "_names" ["pieces", "letter"] (spNames K C)) (cT : Cl CX0 P w K mg base 3 "_text_of" ["kind", "pieces", "letter"] (spText K C)) :
    FnOk P w K mg base (L2.CX P w) 4 fI fd ["self", "kind", "pieces", "letter"] (spInitS K C CL) := by
  obtain ⟨fdL, FL⟩ := TL.fn
  obtain ⟨tk, gM⟩ := gM
  refine F.ok scMake (fun vs H Q E h => ?_) (fun cdv A outer s H vs Q E hr h => ⟨_, pss_cons
      (ps_set (i := 4) scMake.nd rfl (Or.inl rfl) (pe_op op_add pe_int (pe_callB (cr_sum rfl) (by rfl) B.sum (by decide +kernel) (pa_cons
        (pe_lc (own := [("piece", 5)]) (g := gName 5) (tt := tYes) (te := tFld K (tVar 5) "size") (by rfl) scMake.nd (pi_tup (pv 2)) (blkOk_by (N := ["self", "kind", "pieces", "letter", "size", "piece"]) (sc := defScope mSayingInit) (by decide +kernel))
          (fun _ _ _ _ _ => pg_name (i := 5) scMake.nd rfl (Or.inl rfl)) (fun _ _ _ _ _ => pts_nil) (fun _ _ _ _ _ => pe_fld (pv 5) rfl)) pa_nil))))
      (pss_cons (ps_if (pt_cmpR op_gt (pv 4) (pe_glob (v := .int 200) rfl gM ⟨_, rfl⟩) (nomark _))
        (pss_one (ps_raise rfl (takes_of rfl rfl rfl rfl) (pmk_oex TL.ox TL.iC TL.tI (ok_errL TL FL) (hr.mono (by decide)) (err_bindsL FL) .nil pass0 (by rfl) TL.gC (pa_cons (pv 4) pa_nil)))) pss_nil)
      (pss_cons (ps_fld (pv 0) (pv 1) rfl)
      (pss_cons (ps_fld (pv 0) (pv 2) rfl)
      (pss_cons (ps_fld (pv 0) (pv 3) rfl)
      (pss_cons (ps_fld (pv 0) (pv 4) rfl)
      (pss_cons (ps_fld (pv 0) (pe_c0 cN hr (by decide) (by rfl) (pa_cons (pv 2) (pa_cons (pv 3) pa_nil))) rfl)
      (pss_one (ps_fld (pv 0) (pe_c0 cT hr (by decide) (by rfl) (pa_cons (pv 1) (pa_cons (pv 2) (pa_cons (pv 3) pa_nil)))) rfl)))))))), ?_⟩)
  · obtain ⟨a, dx, p, G, t, bs, rfl, _⟩ := h
    rfl
  · obtain ⟨a, dx, p, G, t, bs, rfl, ha, sG, nA, hp, hb, ok, r, q⟩ := h
    have hpH := tup_on hp sG
    have hbH := paired_on sG hb
    refine ⟨_, rfl, p, rfl, ⟨_, hpH⟩, fun D nD => ?_⟩
    refine lc_tup (K := K) (xs := bs.map V.ref) (fun i H' => Same H H' ∧ H' D = some (.lst (((t.subs.take i).map fun s => (s.size : Int)).map V.int))) ⟨same_new nD (Same.refl _), upd_same⟩ (fun i H' _ h => tup_on hpH h.1) ?_ ?_
    · rintro i x H' hx ⟨sm, hD⟩
      obtain ⟨u, b, hu, hb', rfl, hr⟩ := paired_at hbH hx
      obtain ⟨dx', p', q', e1, e2, _⟩ := hr.face.ex
      refine ⟨rfl, yes_of ?_⟩
      rw [if_pos rfl]
      refine ⟨_, rfl, b, C, dx', _, _, rfl, sm _ _ e1, T.cl, T.nS, rfl, _, hD, ?_, same_new nD sm, ?_⟩
      · have := subs_len t
        rw [List.length_map, List.length_map, List.length_take, sizeLine_eq]
        omega
      · rw [upd_same, take_next hu, List.map_append, List.map_append]
        rfl
    · rintro H1 ⟨sm, hD⟩
      have el : (bs.map V.ref).length = t.subs.length := by rw [List.length_map]; exact (hb.length).symm
      rw [el, List.take_length] at hD
      refine ⟨D, _, rfl, SqL.of hD, _, _, rfl, rfl, ?_⟩
      refine gn (σ' := [some (.ref a), some (.str t.kind), some (.ref p), some t.letter, some (.int t.size), none]) (by rw [size_sum]; rfl) ?_
      have s1 := sG.trans sm
      have h1 : H1 a = some (.ins C dx []) := sm _ _ ha
      refine ⟨_, rfl, _, _, rfl, rfl, _, rfl, ?_⟩
      by_cases c : (t.size : Int) > 200
      · rw [decide_eq_true c]
        exact iteT ⟨_, rfl, len1 _, fun x hx => mk_rs ((r (by omega)).from s1) x hx⟩
      · rw [decide_eq_false c]
        refine iteF ?_
        have sz : t.size ≤ 200 := by omega
        refine ⟨_, rfl, _, rfl, a, C, dx, _, rfl, h1, T.cl, T.nK, (by decide), ?_⟩
        obtain ⟨H2, e2, s2, f2⟩ := mk_a (.ins C dx (putF "kind" (.str t.kind) [])) nA s1
        rw [e2]
        refine ⟨_, rfl, _, rfl, a, C, dx, _, rfl, f2, T.cl, T.nP, (by show 1 < 1000; decide), ?_⟩
        obtain ⟨H3, e3, s3, f3⟩ := mk_a (.ins C dx (putF "pieces" (.ref p) (putF "kind" (.str t.kind) []))) nA s2
        rw [e3]
        have f3' : H3 a = some (.ins C dx [("kind", .str t.kind), ("pieces", .ref p)]) := f3
        refine ⟨_, rfl, _, rfl, a, C, dx, _, rfl, f3', T.cl, T.nL, (by show 2 < 1000; decide), ?_⟩
        obtain ⟨H4, e4, s4, f4⟩ := mk_a (.ins C dx (putF "letter" t.letter [("kind", .str t.kind), ("pieces", .ref p)])) nA s3
        rw [e4]
        have f4' : H4 a = some (.ins C dx [("kind", .str t.kind), ("pieces", .ref p), ("letter", t.letter)]) := f4
        refine ⟨_, rfl, _, rfl, a, C, dx, _, rfl, f4', T.cl, T.nS, (by show 3 < 1000; decide), ?_⟩
        obtain ⟨H5, e5, s5, f5⟩ := mk_a (.ins C dx (putF "size" (.int t.size) [("kind", .str t.kind), ("pieces", .ref p), ("letter", t.letter)])) nA s4
        rw [e5]
        have f5' : H5 a = some (.ins C dx [("kind", .str t.kind), ("pieces", .ref p), ("letter", t.letter), ("size", .int t.size)]) := f5
        refine ⟨_, rfl, _, rfl, p, t, bs, rfl, tup_on hp s5, paired_on s5 hb, ok, fun qn H6 s6 hq => ?_⟩
        refine ⟨_, rfl, a, C, dx, _, rfl, s6 _ _ f5', T.cl, T.nN, (by show 4 < 1000; decide), ?_⟩
        obtain ⟨H7, e7, s7, f7⟩ := mk_a (.ins C dx (putF "names" (.ref qn) [("kind", .str t.kind), ("pieces", .ref p), ("letter", t.letter), ("size", .int t.size)])) nA (s5.trans s6)
        have hq7 : SqT K H7 qn (t.names.map V.str) := by
          rw [← e7]
          exact tup_ins hq (s6 _ _ f5')
        rw [e7]
        have f7' : H7 a = some (.ins C dx [("kind", .str t.kind), ("pieces", .ref p), ("letter", t.letter), ("size", .int t.size), ("names", .ref qn)]) := f7
        refine ⟨_, rfl, _, rfl, _, rfl, p, t, bs, rfl, tup_on hp s7, paired_on s7 hb, by omega, ?_⟩
        refine ⟨_, rfl, a, C, dx, _, rfl, f7', T.cl, T.nT, (by show 5 < 1000; decide), ?_⟩
        refine q sz _ (same_new nA s7) (SayAt.mk (p := p) (q := qn) (bs := bs) upd_same ?_ (tup_on hp (same_new nA s7)) (paired_on (same_new nA s7) hb))
        exact tup_ins hq7 f7'
end
end G1
set_option maxHeartbeats 8000000
namespace G1
open PySem PySem.Spec PyProof.Rows L2 SY TXS OW
section
variable {P : Program} {w : World} {K : PySem.W.Frag} {mg : Str → Option Value} {base : Heap} {C CL CS fL fS : Addr}
theorem kit_no (T : SayTxt K w mg C) : ∀ {H : Hp} {v : V}, Kn H v → ∃ t, TyX K H v t ∧ PySem.W.kitOne K t (.ref C) = some false
  | _, .non, _ => ⟨_, .base .non, T.ow.ki _ (by decide)⟩
  | _, .bl b, _ => ⟨_, .base (.bl b), T.ow.ki _ (by decide)⟩
  | _, .int i, _ => ⟨_, .base (.int i), T.ow.ki _ (by decide)⟩
  | _, .str z, _ => ⟨_, .base (.str z), T.ow.ki _ (by decide)⟩
  | _, .ref a, h => by
    rcases h with ⟨xs, e⟩ | ⟨xs, e⟩ | ⟨xs, e⟩
    · exact ⟨_, .base (.lst e), T.ow.ki _ (by decide)⟩
    · exact ⟨_, .base (.tup e), T.ow.ki _ (by decide)⟩
    · exact ⟨_, .base (.dK e), T.ow.ki _ (by decide)⟩
theorem kit_yes (T : SayTxt K w mg C) {H : Hp} {a dx : Addr} {fs : List (Str × V)} (e : H a = some (.ins C dx fs)) : ∃ t, TyX K H (.ref a) t ∧ PySem.W.kitOne K t (.ref C) = some true :=
  ⟨_, .base (.ins e T.cl T.ow.isCls T.ow.getCls T.ow.takesCls T.ow.mo), by unfold PySem.W.kitOne; rw [if_pos (beq_self_eq_true _)]⟩
/-- the class as it is called -/
structure Maker (P : Program) (w : World) (K : PySem.W.Frag) (mg : Str → Option Value) (base : Heap) (C CL : Addr) : Prop where
  ex : ∃ (fI : Addr) (fd : FuncData) (e0 : Addr) (d1 d2 : List Value), Mk K C fI ∧ FnOk P w K mg base (L2.CX P w) 4 fI fd ["self", "kind", "pieces", "letter"] (spInitS K C CL) ∧ (∀ H, SqT K H e0 []) ∧
    Binds K fd ["self", "kind", "pieces", "letter"] [] ∧ Binds K fd ["self", "kind", "pieces", "letter"] d1 ∧ Vals [.non] d1 ∧ Binds K fd ["self", "kind", "pieces", "letter"] d2 ∧ Vals [.ref e0, .non] d2
theorem maker (T : SayTxt K w mg C) (B : Blt mg) (TL : ErrL K mg CL fL) (gM : ∃ t, mg "MOST_NODES" = some (.int 200 t))
    (cN : Cl CX0 P w K mg base 1 "_names" ["pieces", "letter"] (spNames K C)) (cT : Cl CX0 P w K mg base 3 "_text_of" ["kind", "pieces", "letter"] (spText K C)) : Maker P w K mg base C CL := by
  obtain ⟨fI, fd, e0, M, F, h0⟩ := T.ini
  obtain ⟨d0, v0, b0⟩ := F.binds1 (ps := ["self", "kind", "pieces", "letter"]) 4 2 (by simp) rfl fun T kV doc pm an cdv ct us its hu hi => match us, its, hu, hi with | [_, _, _, _], [_, _], _, _ => ⟨_, rfl, rfl⟩
  obtain ⟨d1, v1, b1⟩ := F.binds1 (ps := ["self", "kind", "pieces", "letter"]) 3 1 (by simp) rfl fun T kV doc pm an cdv ct us its hu hi => match us, its, hu, hi with | [_, _, _], [_, _], _, _ => ⟨_, rfl, rfl⟩
  obtain ⟨d2, v2, b2⟩ := F.binds1 (ps := ["self", "kind", "pieces", "letter"]) 2 0 (by simp) rfl fun T kV doc pm an cdv ct us its hu hi => match us, its, hu, hi with | [_, _], [_, _], _, _ => ⟨_, rfl, rfl⟩
  cases v0
  exact ⟨fI, fd, e0, d1, d2, M, ok_initS F T B TL gM cN cT, h0, b0, b1, v1, b2, v2⟩
end
end G1
set_option maxHeartbeats 8000000
namespace G1
open PySem PySem.Spec PyProof.Rows L2 SY TXS OW
/-- t stands anew, or is too large -/
structure New (K : PySem.W.Frag) (C CL : Addr) (t : Sy) (H : Hp) (Q : VK) (E : XK) : Prop where
  big : 200 < t.size → Rs "size" CL H (.int t.size) E
  fit : t.size ≤ 200 → ∀ c H', Same H H' → H c = none → SayAt K C H' t c → Q (.ref c) H'
structure JoinP (K : PySem.W.Frag) (C CL CS : Addr) (k : Bk) (a : Addr) (y : V) (H : Hp) (Q : VK) (E : XK) : Prop where
  ex : ∃ t, SayAt K C H t a ∧ t.ok ∧ ((Kn H y ∧ Rs "thing" CS H y E) ∨ ∃ b u, y = .ref b ∧ SayAt K C H u b ∧ u.ok ∧ New K C CL (.bin k t u) H Q E)
def spJoined (K : PySem.W.Frag) (C CL CS : Addr) : Sp := fun vs H Q E => ∃ (k : Bk) (a : Addr) (y : V), vs = [.str k.kind, .ref a, y] ∧ JoinP K C CL CS k a y H Q E
def spBin (K : PySem.W.Frag) (C CL CS : Addr) (k : Bk) : Sp := fun vs H Q E => ∃ (a : Addr) (y : V), vs = [.ref a, y] ∧ JoinP K C CL CS k a y H Q E
def spDen (K : PySem.W.Frag) (C CL : Addr) : Sp := fun vs H Q E => ∃ (a : Addr) (t : Sy), vs = [.ref a] ∧ SayAt K C H t a ∧ t.ok ∧ New K C CL (.den t) H Q E
def spNever (K : PySem.W.Frag) (C CL : Addr) : Sp := fun vs H Q E => vs = [] ∧ New K C CL .nev H Q E
theorem made_sp {K : PySem.W.Frag} {C CL : Addr} {G : Hp} {x dx p : Addr} {t : Sy} {bs : List Addr} {Q : VK} {E : XK} (hx : G x = none) (hd : G dx = none) (hp : SqT K G p (bs.map V.ref)) (hb : Paired (SayAt K C G) t.subs bs) (ok : t.ok)
    (big : 200 < t.size → Rs "size" CL G (.int t.size) E) (fit : t.size ≤ 200 → ∀ H', Same G H' → SayAt K C H' t x → Q (.ref x) H') :
    spInitS K C CL [.ref x, .str t.kind, .ref p, t.letter] (upd (upd G dx (.own x)) x (.ins C dx [])) (fun v H2 => v = .non ∧ Q (.ref x) H2) E :=
  ⟨x, dx, p, G, t, bs, rfl, upd_same, same_new hx (same_new hd (Same.refl _)), hx, hp, hb, ok, big, fun sz H' s h => ⟨rfl, fit sz H' s h⟩⟩
section
variable {P : Program} {w : World} {K : PySem.W.Frag} {mg : Str → Option Value} {base : Heap} {C CL CS fL fS : Addr}
theorem scJoined : FnScope ["kind", "first", "second"] ["kind", "first", "second"] (defScope sJoined) := ⟨rfl, rfl, rfl, by decide +kernel, rfl, by decide +kernel, by decide +kernel⟩
theorem cl_joined (D : DefAt K mg "_joined" sJoined) (T : SayTxt K w mg C) (B : Blt mg) (TS : ErrS K mg CS fS) (M : Maker P w K mg base C CL) : Cl (L2.CX P w) P w K mg base 6 "_joined" ["kind", "first", "second"] (spJoined K C CL CS) := by
  obtain ⟨f, fd, F, hm⟩ := D
  obtain ⟨fdS, FS⟩ := TS.fn
  obtain ⟨fI, fdI, e0, d1, d2, MM, FI, h0, b0, b1, v1, b2, v2⟩ := M.ex
  refine cl_of F hm (F.ok scJoined (fun vs H Q E h => ?_) (fun cdv A outer s H vs Q E hr h => ⟨_, pss_cons
      (ps_if (pt_not (pt_val (pe_callB call_isi (by rfl) B.isin (by decide +kernel) (pa_cons (pv 2) (pa_cons (pe_glob (v := .ref C) rfl T.gC rfl) pa_nil)))))
        (pss_one (ps_raise rfl (takes_of rfl rfl rfl rfl) (pmk_oex TS.ox TS.iC TS.tI (ok_errS TS FS) (hr.mono (by decide)) (err_bindsS FS) .nil pass0 (by rfl) TS.gC (pa_cons (pv 2) pa_nil)))) pss_nil)
      (pss_one (ps_ret (pe_make (E := E) MM FI hr (by rfl) T.gC b1 v1 (passes_call (takes_of rfl rfl rfl rfl) fun _ _ _ _ h => h) (pa_cons (pv 0) (pa_cons (pe_tup (pa_cons (pv 1) (pa_cons (pv 2) pa_nil))) pa_nil))))), ?_⟩)) fun _ _ _ _ _ _ us hl => match us, hl with | [_, _, _], _ => rfl
  · obtain ⟨k, a, y, rfl, _⟩ := h
    rfl
  · obtain ⟨k, a, y, rfl, j⟩ := h
    obtain ⟨t, ht, ok, j⟩ := j.ex
    rcases j with ⟨kn, r⟩ | ⟨b, u, rfl, hu, oku, n⟩
    · obtain ⟨ty, h1, h2⟩ := kit_no T kn
      refine ⟨_, rfl, y, .ref C, ty, _, _, rfl, .own C, h1, h2, _, rfl, iteT ?_⟩
      exact ⟨_, rfl, len1 _, fun x hx => mk_rs r x hx⟩
    · obtain ⟨dx, p, q, e1, _⟩ := hu.face.ex
      obtain ⟨ty, h1, h2⟩ := kit_yes T e1
      refine ⟨_, rfl, .ref b, .ref C, ty, _, _, rfl, .own C, h1, h2, _, rfl, iteF ?_⟩
      refine ⟨_, rfl, _, rfl, _, rfl, (by show 2 ≤ sizeLine; decide), fun p1 n1 => ?_⟩
      intro x dx hx hdx ne
      have s1 : Same H (upd H p1 (.tup [.ref a, .ref b])) := same_new n1 (Same.refl _)
      exact made_sp (t := .bin k t u) (bs := [a, b]) hx hdx (SqT.of upd_same) (.cons (ht.on s1) (.cons (hu.on s1) .nil)) ⟨ok, oku⟩ (fun c => (n.big c).from s1) fun sz H' s' h' => n.fit sz x H' (s1.trans s') (s1.free hx) h'
theorem sc_both : FnScope ["self", "other"] ["self", "other"] (defScope mSayingBoth) := ⟨rfl, rfl, rfl, by decide +kernel, rfl, by decide +kernel, by decide +kernel⟩
theorem ok_both (T : SayTxt K w mg C) (cJ : Cl (L2.CX P w) P w K mg base 6 "_joined" ["kind", "first", "second"] (spJoined K C CL CS)) :
    ∃ f fd, Meth K C "both" f ∧ FnOk P w K mg base (L2.CX P w) 7 f fd ["self", "other"] (spBin K C CL CS .both) ∧ Binds K fd ["self", "other"] [] := by
  obtain ⟨f, fd, M, F⟩ := T.both.ex
  refine ⟨f, fd, M, F.ok sc_both (fun vs H Q E h => ?_) (fun cdv A outer s H vs Q E hr h => ⟨_, pss_one (ps_ret (pe_cS cJ hr (by decide) (takes_of rfl rfl rfl rfl) (by rfl) (pa_cons pe_str (pa_cons (pv 0) (pa_cons (pv 1) pa_nil))))), ?_⟩), F.bindsN fun _ _ _ _ _ _ us hl => match us, hl with | [_, _], _ => rfl⟩
  · obtain ⟨a, y, rfl, _⟩ := h
    rfl
  · obtain ⟨a, y, rfl, j⟩ := h
    exact ⟨_, rfl, _, rfl, .both, a, y, rfl, j⟩
theorem sc_thn : FnScope ["self", "other"] ["self", "other"] (defScope mSayingThen) := ⟨rfl, rfl, rfl, by decide +kernel, rfl, by decide +kernel, by decide +kernel⟩
theorem ok_thn (T : SayTxt K w mg C) (cJ : Cl (L2.CX P w) P w K mg base 6 "_joined" ["kind", "first", "second"] (spJoined K C CL CS)) :
    ∃ f fd, Meth K C "then" f ∧ FnOk P w K mg base (L2.CX P w) 7 f fd ["self", "other"] (spBin K C CL CS .thn) ∧ Binds K fd ["self", "other"] [] := by
  obtain ⟨f, fd, M, F⟩ := T.thn.ex
  refine ⟨f, fd, M, F.ok sc_thn (fun vs H Q E h => ?_) (fun cdv A outer s H vs Q E hr h => ⟨_, pss_one (ps_ret (pe_cS cJ hr (by decide) (takes_of rfl rfl rfl rfl) (by rfl) (pa_cons pe_str (pa_cons (pv 0) (pa_cons (pv 1) pa_nil))))), ?_⟩), F.bindsN fun _ _ _ _ _ _ us hl => match us, hl with | [_, _], _ => rfl⟩
  · obtain ⟨a, y, rfl, _⟩ := h
    rfl
  · obtain ⟨a, y, rfl, j⟩ := h
    exact ⟨_, rfl, _, rfl, .thn, a, y, rfl, j⟩
theorem sc_lower : FnScope ["self", "other"] ["self", "other"] (defScope mSayingLower) := ⟨rfl, rfl, rfl, by decide +kernel, rfl, by decide +kernel, by decide +kernel⟩
theorem ok_lower (T : SayTxt K w mg C) (cJ : Cl (L2.CX P w) P w K mg base 6 "_joined" ["kind", "first", "second"] (spJoined K C CL CS)) :
    ∃ f fd, Meth K C "lower" f ∧ FnOk P w K mg base (L2.CX P w) 7 f fd ["self", "other"] (spBin K C CL CS .lower) ∧ Binds K fd ["self", "other"] [] := by
  obtain ⟨f, fd, M, F⟩ := T.lower.ex
  refine ⟨f, fd, M, F.ok sc_lower (fun vs H Q E h => ?_) (fun cdv A outer s H vs Q E hr h => ⟨_, pss_one (ps_ret (pe_cS cJ hr (by decide) (takes_of rfl rfl rfl rfl) (by rfl) (pa_cons pe_str (pa_cons (pv 0) (pa_cons (pv 1) pa_nil))))), ?_⟩), F.bindsN fun _ _ _ _ _ _ us hl => match us, hl with | [_, _], _ => rfl⟩
  · obtain ⟨a, y, rfl, _⟩ := h
    rfl
  · obtain ⟨a, y, rfl, j⟩ := h
    exact ⟨_, rfl, _, rfl, .lower, a, y, rfl, j⟩
theorem sc_higher : FnScope ["self", "other"] ["self", "other"] (defScope mSayingHigher) := ⟨rfl, rfl, rfl, by decide +kernel, rfl, by decide +kernel, by decide +kernel⟩
theorem ok_higher (T : SayTxt K w mg C) (cJ : Cl (L2.CX P w) P w K mg base 6 "_joined" ["kind", "first", "second"] (spJoined K C CL CS)) :
    ∃ f fd, Meth K C "higher" f ∧ FnOk P w K mg base (L2.CX P w) 7 f fd ["self", "other"] (spBin K C CL CS .higher) ∧ Binds K fd ["self", "other"] [] := by
  obtain ⟨f, fd, M, F⟩ := T.higher.ex
  refine ⟨f, fd, M, F.ok sc_higher (fun vs H Q E h => ?_) (fun cdv A outer s H vs Q E hr h => ⟨_, pss_one (ps_ret (pe_cS cJ hr (by decide) (takes_of rfl rfl rfl rfl) (by rfl) (pa_cons pe_str (pa_cons (pv 0) (pa_cons (pv 1) pa_nil))))), ?_⟩), F.bindsN fun _ _ _ _ _ _ us hl => match us, hl with | [_, _], _ => rfl⟩
  · obtain ⟨a, y, rfl, _⟩ := h
    rfl
  · obtain ⟨a, y, rfl, j⟩ := h
    exact ⟨_, rfl, _, rfl, .higher, a, y, rfl, j⟩
theorem sc_same : FnScope ["self", "other"] ["self", "other"] (defScope mSayingSame) := ⟨rfl, rfl, rfl, by decide +kernel, rfl, by decide +kernel, by decide +kernel⟩
theorem ok_same (T : SayTxt K w mg C) (cJ : Cl (L2.CX P w) P w K mg base 6 "_joined" ["kind", "first", "second"] (spJoined K C CL CS)) :
    ∃ f fd, Meth K C "same" f ∧ FnOk P w K mg base (L2.CX P w) 7 f fd ["self", "other"] (spBin K C CL CS .same) ∧ Binds K fd ["self", "other"] [] := by
  obtain ⟨f, fd, M, F⟩ := T.same.ex
  refine ⟨f, fd, M, F.ok sc_same (fun vs H Q E h => ?_) (fun cdv A outer s H vs Q E hr h => ⟨_, pss_one (ps_ret (pe_cS cJ hr (by decide) (takes_of rfl rfl rfl rfl) (by rfl) (pa_cons pe_str (pa_cons (pv 0) (pa_cons (pv 1) pa_nil))))), ?_⟩), F.bindsN fun _ _ _ _ _ _ us hl => match us, hl with | [_, _], _ => rfl⟩
  · obtain ⟨a, y, rfl, _⟩ := h
    rfl
  · obtain ⟨a, y, rfl, j⟩ := h
    exact ⟨_, rfl, _, rfl, .same, a, y, rfl, j⟩
theorem scDenied : FnScope ["self"] ["self"] (defScope mSayingDenied) := ⟨rfl, rfl, rfl, by decide +kernel, rfl, by decide +kernel, by decide +kernel⟩
theorem ok_den (T : SayTxt K w mg C) (M : Maker P w K mg base C CL) :
    ∃ f fd, Meth K C "denied" f ∧ FnOk P w K mg base (L2.CX P w) 6 f fd ["self"] (spDen K C CL) ∧ Binds K fd ["self"] [] := by
  obtain ⟨f, fd, MM, F⟩ := T.denied.ex
  obtain ⟨fI, fdI, e0, d1, d2, MK, FI, h0, b0, b1, v1, b2, v2⟩ := M.ex
  refine ⟨f, fd, MM, F.ok scDenied (fun vs H Q E h => ?_) (fun cdv A outer s H vs Q E hr h => ⟨_, pss_one (ps_ret (pe_make (E := E) MK FI hr (by rfl) T.gC b1 v1 (passes_call (takes_of rfl rfl rfl rfl) fun _ _ _ _ h => h) (pa_cons pe_str (pa_cons (pe_tup (pa_cons (pv 0) pa_nil)) pa_nil)))), ?_⟩), F.bindsN fun _ _ _ _ _ _ us hl => match us, hl with | [_], _ => rfl⟩
  · obtain ⟨a, t, rfl, _⟩ := h
    rfl
  · obtain ⟨a, t, rfl, ht, ok, n⟩ := h
    refine ⟨_, rfl, (by show 1 ≤ sizeLine; decide), fun p1 n1 => ?_⟩
    intro x dx hx hdx ne
    have s1 : Same H (upd H p1 (.tup [.ref a])) := same_new n1 (Same.refl _)
    exact made_sp (t := .den t) (bs := [a]) hx hdx (SqT.of upd_same) (.cons (ht.on s1) .nil) ok (fun c => (n.big c).from s1) fun sz H' s' h' => n.fit sz x H' (s1.trans s') (s1.free hx) h'
theorem scNever : FnScope [] [] (defScope sNever) := ⟨rfl, rfl, rfl, by decide +kernel, rfl, by decide +kernel, by decide +kernel⟩
theorem cl_never (D : DefAt K mg "never" sNever) (T : SayTxt K w mg C) (M : Maker P w K mg base C CL) : Cl (L2.CX P w) P w K mg base 6 "never" [] (spNever K C CL) := by
  obtain ⟨f, fd, F, hm⟩ := D
  obtain ⟨fI, fdI, e0, d1, d2, MK, FI, h0, b0, b1, v1, b2, v2⟩ := M.ex
  refine cl_of F hm (F.ok scNever (fun vs H Q E h => ?_) (fun cdv A outer s H vs Q E hr h => ⟨_, pss_one (ps_ret (pe_make (E := E) MK FI hr (by rfl) T.gC b2 v2 (passes_call (takes_of rfl rfl rfl rfl) fun _ _ _ _ h => h) (pa_cons pe_str pa_nil))), ?_⟩)) fun _ _ _ _ _ _ us hl => match us, hl with | [], _ => rfl
  · rw [h.1]
    rfl
  · obtain ⟨rfl, n⟩ := h
    intro x dx hx hdx ne
    exact made_sp (t := .nev) (bs := []) hx hdx (h0 _) .nil trivial n.big fun sz H' s' h' => n.fit sz x H' s' hx h'
end
end G1
set_option maxHeartbeats 8000000
namespace G1
open PySem PySem.Spec PyProof.Rows L2 SY TXS OW
inductive NoLet : V → Prop where
  | non : NoLet .non
  | bl (b : Bool) : NoLet (.bl b)
  | int (i : Int) : NoLet (.int i)
  | ref (a : Addr) : NoLet (.ref a)
  | len {z : Str} (h : z.length ≤ sizeLine) (n : z.length ≠ 1) : NoLet (.str z)
  | off {c : Nat} (n : ¬ (97 ≤ c ∧ c ≤ 122)) : NoLet (.str (one c))
structure NamedP (K : PySem.W.Frag) (C CL CN : Addr) (y : V) (H : Hp) (Q : VK) (E : XK) : Prop where
  ex : (∃ c, y = .str (one c) ∧ (Sy.nm c).ok ∧ New K C CL (.nm c) H Q E) ∨ (Kn H y ∧ NoLet y ∧ Rs "thing" CN H y E)
def spNamed (K : PySem.W.Frag) (C CL CN : Addr) : Sp := fun vs H Q E => ∃ y : V, vs = [y] ∧ NamedP K C CL CN y H Q E
def spLetter : Sp := fun vs H Q _ => ∃ (y : V) (b : Bool), vs = [y] ∧ ((∃ c, y = .str (one c) ∧ (Sy.nm c).ok ∧ b = true) ∨ (Kn H y ∧ NoLet y ∧ b = false)) ∧ Q (.bl b) H
def spEqS (K : PySem.W.Frag) (C : Addr) : Sp := fun vs H Q _ => ∃ (a b : Addr) (t u : Sy), vs = [.ref a, .ref b] ∧ Face K C H t a ∧ Face K C H u b ∧ Q (.bl (decide (V.str t.text = V.str u.text))) H
structure BinP (K : PySem.W.Frag) (C CL : Addr) (k : Bk) (a b : Addr) (H : Hp) (Q : VK) (E : XK) : Prop where
  ex : ∃ t u, SayAt K C H t a ∧ t.ok ∧ SayAt K C H u b ∧ u.ok ∧ New K C CL (.bin k t u) H Q E
def spOp (K : PySem.W.Frag) (C CL : Addr) (k : Bk) : Sp := fun vs H Q E => ∃ (a b : Addr), vs = [.ref a, .ref b] ∧ BinP K C CL k a b H Q E
section
variable {P : Program} {w : World} {K : PySem.W.Frag} {mg : Str → Option Value} {base : Heap} {C CL CS CN fL fS fN : Addr}
theorem kit_str : ∀ {H : Hp} {v : V}, Kn H v → ∃ t, TyX K H v t ∧ PySem.W.kitOne K t (.type "str") = some (match v with | .str _ => true | _ => false)
  | _, .non, _ => ⟨_, .base .non, kit_ty (show kitB "NoneType" "str" = some false by decide +kernel)⟩
  | _, .bl b, _ => ⟨_, .base (.bl b), kit_ty (show kitB "bool" "str" = some false by decide +kernel)⟩
  | _, .int i, _ => ⟨_, .base (.int i), kit_ty (show kitB "int" "str" = some false by decide +kernel)⟩
  | _, .str z, _ => ⟨_, .base (.str z), kit_ty (show kitB "str" "str" = some true by decide +kernel)⟩
  | _, .ref a, h => by
    rcases h with ⟨xs, e⟩ | ⟨xs, e⟩ | ⟨xs, e⟩
    · exact ⟨_, .base (.lst e), kit_ty (show kitB "list" "str" = some false by decide +kernel)⟩
    · exact ⟨_, .base (.tup e), kit_ty (show kitB "tuple" "str" = some false by decide +kernel)⟩
    · exact ⟨_, .base (.dK e), kit_ty (show kitB "dict" "str" = some false by decide +kernel)⟩
theorem one_lt (c d : Nat) : ([c] : List Nat) < [d] ↔ c < d := by
  constructor
  · intro h
    cases h with
    | rel h => exact h
    | cons h => cases h
  · intro h
    exact List.Lex.rel h
theorem lowA (c : Nat) : decide ((one c).cps.toList < ("a" : Str).cps.toList) = decide (c < 97) := decide_eq_decide.mpr (one_lt c 97)
theorem highZ (c : Nat) : decide (("z" : Str).cps.toList < (one c).cps.toList) = decide (122 < c) := decide_eq_decide.mpr (one_lt 122 c)
theorem scIsLetter : FnScope ["thing"] ["thing"] (defScope sIsLetter) := ⟨rfl, rfl, rfl, by decide +kernel, rfl, by decide +kernel, by decide +kernel⟩
theorem cl_letter (D : DefAt K mg "is_letter" sIsLetter) (B : Blt mg) : Cl CX0 P w K mg base 1 "is_letter" ["thing"] spLetter := by
  obtain ⟨f, fd, F, hm⟩ := D
  refine cl_of F hm (F.ok scIsLetter (fun vs H Q E h => ?_) (fun cdv A outer s H vs Q E hr h => ⟨_, PSs.nox (pss_one (ps_ret
      (pe_and (pe_callB call_isi (by rfl) B.isin (by decide +kernel) (pa_cons (pv 0) (pa_cons (pe_bltn (v := .ty "str") (by rfl) B.str (by decide +kernel) rfl) pa_nil)))
        (pe_and (pe_cmpR op_eq (pe_callB call_len_str (by rfl) B.len PySem.boot_len (pa_cons (pv 0) pa_nil)) pe_int (nomark _))
          (pe_one (pe_chain op_le_str op_le_str pe_str (pv 0) pe_str)))))), ?_⟩)) fun _ _ _ _ _ _ us hl => match us, hl with | [_], _ => rfl
  · obtain ⟨y, b, rfl, _⟩ := h
    rfl
  · obtain ⟨y, b, rfl, is, q⟩ := h
    rcases is with ⟨c, rfl, ok, rfl⟩ | ⟨kn, nl, rfl⟩
    · obtain ⟨ty, h1, h2⟩ := kit_str (K := K) (H := H) (v := .str (one c)) trivial
      refine ⟨_, rfl, .str (one c), .ty "str", ty, _, _, rfl, .ty "str", h1, h2, _, rfl, iteT ?_⟩
      refine ⟨_, rfl, _, rfl, (by show 1 ≤ sizeLine; decide), rfl, _, rfl, iteT ?_⟩
      refine ⟨_, rfl, _, _, rfl, rfl, _, rfl, ?_⟩
      rw [lowA, decide_eq_false (show ¬ c < 97 from Nat.not_lt.mpr ok.1)]
      refine iteT ⟨_, _, rfl, rfl, ?_⟩
      rw [highZ, decide_eq_false (show ¬ 122 < c from Nat.not_lt.mpr ok.2)]
      exact q
    · obtain ⟨ty, h1, h2⟩ := kit_str (K := K) kn
      refine ⟨_, rfl, y, .ty "str", ty, _, _, rfl, .ty "str", h1, h2, _, rfl, ?_⟩
      cases nl with
      | non => exact iteF q
      | bl b => exact iteF q
      | int i => exact iteF q
      | ref a => exact iteF q
      | @len z hz n =>
        refine iteT ⟨_, rfl, _, rfl, hz, rfl, _, rfl, ?_⟩
        rw [decide_eq_false (show ¬ V.int ((z.length : Nat) : Int) = V.int 1 from fun e => n (by injection e with e; omega))]
        exact iteF q
      | @off c n =>
        refine iteT ⟨_, rfl, _, rfl, (by show 1 ≤ sizeLine; decide), rfl, _, rfl, iteT ?_⟩
        refine ⟨_, rfl, _, _, rfl, rfl, _, rfl, ?_⟩
        rw [lowA]
        by_cases h9 : c < 97
        · rw [decide_eq_true h9]
          exact iteF q
        · rw [decide_eq_false h9]
          refine iteT ⟨_, _, rfl, rfl, ?_⟩
          rw [highZ, decide_eq_true (show 122 < c by omega)]
          exact q
theorem scNamed : FnScope ["name"] ["name"] (defScope sNamed) := ⟨rfl, rfl, rfl, by decide +kernel, rfl, by decide +kernel, by decide +kernel⟩
theorem cl_named (D : DefAt K mg "named" sNamed) (T : SayTxt K w mg C) (TN : ErrN K mg CN fN) (M : Maker P w K mg base C CL) (cI : Cl CX0 P w K mg base 1 "is_letter" ["thing"] spLetter) : Cl (L2.CX P w) P w K mg base 6 "named" ["name"] (spNamed K C CL CN) := by
  obtain ⟨f, fd, F, hm⟩ := D
  obtain ⟨fdN, FN⟩ := TN.fn
  obtain ⟨fI, fdI, e0, d1, d2, MM, FI, h0, b0, b1, v1, b2, v2⟩ := M.ex
  refine cl_of F hm (F.ok scNamed (fun vs H Q E h => ?_) (fun cdv A outer s H vs Q E hr h => ⟨_, pss_cons
      (ps_if (pt_not (pt_val (pe_c0 cI hr (by decide) (by rfl) (pa_cons (pv 0) pa_nil))))
        (pss_one (ps_raise rfl (takes_of rfl rfl rfl rfl) (pmk_oex TN.ox TN.iC TN.tI (ok_errN TN FN) (hr.mono (by decide)) (err_bindsN FN) .nil pass0 (by rfl) TN.gC (pa_cons (pv 0) pa_nil)))) pss_nil)
      (pss_one (ps_ret (pe_make (E := E) MM FI hr (by rfl) T.gC b0 .nil (passes_call (takes_of rfl rfl rfl rfl) fun _ _ _ _ h => h) (pa_cons pe_str (pa_cons (pe_tup pa_nil) (pa_cons (pv 0) pa_nil)))))), ?_⟩)) fun _ _ _ _ _ _ us hl => match us, hl with | [_], _ => rfl
  · obtain ⟨y, rfl, _⟩ := h
    rfl
  · obtain ⟨y, rfl, h⟩ := h
    rcases h.ex with ⟨c, rfl, ok, n⟩ | ⟨kn, nl, r⟩
    · refine ⟨_, rfl, _, true, rfl, .inl ⟨c, rfl, ok, rfl⟩, _, rfl, iteF ?_⟩
      refine ⟨(by show 0 ≤ sizeLine; decide), fun p1 n1 => ⟨_, rfl, ?_⟩⟩
      intro x dx hx hdx ne
      have s1 : Same H (upd H p1 (.tup [])) := same_new n1 (Same.refl _)
      exact made_sp (t := .nm c) (bs := []) hx hdx (SqT.of upd_same) .nil ok (fun c' => (n.big c').from s1) fun sz H' s' h' => n.fit sz x H' (s1.trans s') (s1.free hx) h'
    · refine ⟨_, rfl, y, false, rfl, .inr ⟨kn, nl, rfl⟩, _, rfl, iteT ?_⟩
      exact ⟨_, rfl, len1 _, fun x hx => mk_rs r x hx⟩
theorem scEq : FnScope ["self", "other"] ["self", "other"] (defScope mSayingEq) := ⟨rfl, rfl, rfl, by decide +kernel, rfl, by decide +kernel, by decide +kernel⟩
theorem ok_eq (T : SayTxt K w mg C) (B : Blt mg) : ∃ f, Meth K C "__eq__" f ∧ FnR P w K mg base CX0 1 f (spEqS K C) := by
  obtain ⟨f, fd, M, F⟩ := T.eq.ex
  refine ⟨f, M, raw0 (ps := ["self", "other"]) (F.ok scEq (fun vs H Q E h => ?_) (fun cdv A outer s H vs Q E hr h => ⟨_, PSs.nox (pss_one (ps_ret
      (pe_and (pe_callB call_isi (by rfl) B.isin (by decide +kernel) (pa_cons (pv 1) (pa_cons (pe_glob (v := .ref C) rfl T.gC rfl) pa_nil))) (pe_one (pe_cmpR op_eq (pe_fld (pv 0) rfl) (pe_fld (pv 1) rfl) (nomark _)))))), ?_⟩))
    (F.bindsN fun _ _ _ _ _ _ us hl => match us, hl with | [_, _], _ => rfl)⟩
  · obtain ⟨a, b, t, u, rfl, _⟩ := h
    rfl
  · obtain ⟨a, b, t, u, rfl, ha, hb, q⟩ := h
    obtain ⟨dx, p, q1, e1, _⟩ := ha.ex
    obtain ⟨dy, p', q2, e2, _⟩ := hb.ex
    obtain ⟨ty, h1, h2⟩ := kit_yes T e2
    refine ⟨_, rfl, .ref b, .ref C, ty, _, _, rfl, .own C, h1, h2, _, rfl, iteT ?_⟩
    exact ⟨_, rfl, a, C, dx, _, _, rfl, e1, T.cl, T.nT, rfl, _, rfl, b, C, dy, _, _, rfl, e2, T.cl, T.nT, rfl, rfl, q⟩
theorem scmAnd : FnScope ["self", "other"] ["self", "other"] (defScope mSayingAnd) := ⟨rfl, rfl, rfl, by decide +kernel, rfl, by decide +kernel, by decide +kernel⟩
theorem ok_and_ (T : SayTxt K w mg C) (B : Blt mg) (cJ : Cl (L2.CX P w) P w K mg base 6 "_joined" ["kind", "first", "second"] (spJoined K C CL CS)) :
    ∃ f, Meth K C "__and__" f ∧ FnR P w K mg base (L2.CX P w) 8 f (spOp K C CL .both) := by
  obtain ⟨f, fd, M, F⟩ := T.and_.ex
  obtain ⟨f2, fd2, M2, F2, b2⟩ := ok_both T cJ
  refine ⟨f, M, raw0 (ps := ["self", "other"]) (F.ok scmAnd (fun vs H Q E h => ?_) (fun cdv A outer s H vs Q E hr h => ⟨_, pss_cons
      (ps_if (pt_not (pt_val (pe_callB call_isi (by rfl) B.isin (by decide +kernel) (pa_cons (pv 1) (pa_cons (pe_glob (v := .ref C) rfl T.gC rfl) pa_nil))))) (pss_one ps_never) pss_nil)
      (pss_one (ps_ret (pe_meth (E := E) (pv 0) T.cl M2 F2 hr b2 .nil (passes_call (takes_of rfl rfl rfl rfl) fun _ _ _ _ h => h) (pa_cons (pv 1) pa_nil)))), ?_⟩))
    (F.bindsN fun _ _ _ _ _ _ us hl => match us, hl with | [_, _], _ => rfl)⟩
  · obtain ⟨a, b, rfl, _⟩ := h
    rfl
  · obtain ⟨a, b, rfl, h⟩ := h
    obtain ⟨t, u, ht, okt, hu, oku, n⟩ := h.ex
    obtain ⟨dx, p, q1, e1, _⟩ := ht.face.ex
    obtain ⟨dy, p', q2, e2, _⟩ := hu.face.ex
    obtain ⟨ty, h1, h2⟩ := kit_yes T e2
    refine ⟨_, rfl, .ref b, .ref C, ty, _, _, rfl, .own C, h1, h2, _, rfl, iteF ?_⟩
    exact ⟨_, rfl, a, dx, _, rfl, e1, rfl, _, rfl, a, .ref b, rfl, ⟨t, ht, okt, .inr ⟨b, u, rfl, hu, oku, n⟩⟩⟩
theorem scmRsh : FnScope ["self", "other"] ["self", "other"] (defScope mSayingRsh) := ⟨rfl, rfl, rfl, by decide +kernel, rfl, by decide +kernel, by decide +kernel⟩
theorem ok_rsh (T : SayTxt K w mg C) (B : Blt mg) (cJ : Cl (L2.CX P w) P w K mg base 6 "_joined" ["kind", "first", "second"] (spJoined K C CL CS)) :
    ∃ f, Meth K C "__rshift__" f ∧ FnR P w K mg base (L2.CX P w) 8 f (spOp K C CL .thn) := by
  obtain ⟨f, fd, M, F⟩ := T.rsh.ex
  obtain ⟨f2, fd2, M2, F2, b2⟩ := ok_thn T cJ
  refine ⟨f, M, raw0 (ps := ["self", "other"]) (F.ok scmRsh (fun vs H Q E h => ?_) (fun cdv A outer s H vs Q E hr h => ⟨_, pss_cons
      (ps_if (pt_not (pt_val (pe_callB call_isi (by rfl) B.isin (by decide +kernel) (pa_cons (pv 1) (pa_cons (pe_glob (v := .ref C) rfl T.gC rfl) pa_nil))))) (pss_one ps_never) pss_nil)
      (pss_one (ps_ret (pe_meth (E := E) (pv 0) T.cl M2 F2 hr b2 .nil (passes_call (takes_of rfl rfl rfl rfl) fun _ _ _ _ h => h) (pa_cons (pv 1) pa_nil)))), ?_⟩))
    (F.bindsN fun _ _ _ _ _ _ us hl => match us, hl with | [_, _], _ => rfl)⟩
  · obtain ⟨a, b, rfl, _⟩ := h
    rfl
  · obtain ⟨a, b, rfl, h⟩ := h
    obtain ⟨t, u, ht, okt, hu, oku, n⟩ := h.ex
    obtain ⟨dx, p, q1, e1, _⟩ := ht.face.ex
    obtain ⟨dy, p', q2, e2, _⟩ := hu.face.ex
    obtain ⟨ty, h1, h2⟩ := kit_yes T e2
    refine ⟨_, rfl, .ref b, .ref C, ty, _, _, rfl, .own C, h1, h2, _, rfl, iteF ?_⟩
    exact ⟨_, rfl, a, dx, _, rfl, e1, rfl, _, rfl, a, .ref b, rfl, ⟨t, ht, okt, .inr ⟨b, u, rfl, hu, oku, n⟩⟩⟩
theorem scInv : FnScope ["self"] ["self"] (defScope mSayingInv) := ⟨rfl, rfl, rfl, by decide +kernel, rfl, by decide +kernel, by decide +kernel⟩
theorem ok_inv (T : SayTxt K w mg C) (M : Maker P w K mg base C CL) : ∃ f, Meth K C "__invert__" f ∧ FnR P w K mg base (L2.CX P w) 7 f (spDen K C CL) := by
  obtain ⟨f, fd, MM, F⟩ := T.inv.ex
  obtain ⟨f2, fd2, M2, F2, b2⟩ := ok_den T M
  refine ⟨f, MM, raw0 (ps := ["self"]) (F.ok scInv (fun vs H Q E h => ?_) (fun cdv A outer s H vs Q E hr h => ⟨_, pss_one
      (ps_ret (pe_meth0 (E := E) (pv 0) T.cl M2 F2 hr b2 .nil (passes_call (takes_of rfl rfl rfl rfl) fun _ _ _ _ h => h))), ?_⟩))
    (F.bindsN fun _ _ _ _ _ _ us hl => match us, hl with | [_], _ => rfl)⟩
  · obtain ⟨a, t, rfl, _⟩ := h
    rfl
  · obtain ⟨a, t, rfl, ht, ok, n⟩ := h
    obtain ⟨dx, p, q1, e1, _⟩ := ht.face.ex
    exact ⟨_, rfl, a, dx, _, rfl, e1, rfl, a, t, rfl, ht, ok, n⟩
end
end G1
set_option maxHeartbeats 4000000
/-! each saying has a text of its own -/
namespace SY
open PySem PySem.Spec PyProof.Rows L2
def Bk.signC : Bk → List Nat
  | .both => [38] | .thn => [45, 62] | .lower => [109, 105, 110] | .higher => [109, 97, 120] | .same => [115, 97, 109, 101]
def Sy.codes : Sy → List Nat
  | .nm c => [c] | .nev => [48] | .alw => [49]
  | .den a => 110 :: 111 :: 116 :: 32 :: a.codes
  | .bin k a b => 40 :: (a.codes ++ 32 :: (k.signC ++ 32 :: (b.codes ++ [41])))
theorem cps_app (a b : Str) : (a ++ b).cps.toList = a.cps.toList ++ b.cps.toList := by
  show (a.cps ++ b.cps).toList = _
  simp
theorem sign_codes (k : Bk) : k.sign.cps.toList = k.signC := by cases k <;> decide
theorem text_codes : ∀ t : Sy, t.text.cps.toList = t.codes
  | .nm c => rfl
  | .nev => by decide
  | .alw => by decide
  | .den a => by
    show ((Str.empty ++ "not ") ++ a.text).cps.toList = _
    rw [cps_app, cps_app, text_codes a]
    have e : (Str.empty).cps.toList ++ ("not " : Str).cps.toList = [110, 111, 116, 32] := by decide
    rw [e]
    rfl
  | .bin k a b => by
    show ((((((Str.empty ++ "(") ++ a.text) ++ " ") ++ k.sign) ++ " ") ++ b.text ++ ")").cps.toList = _
    rw [cps_app, cps_app, cps_app, cps_app, cps_app, cps_app, cps_app, text_codes a, text_codes b, sign_codes]
    have e1 : (Str.empty).cps.toList ++ ("(" : Str).cps.toList = [40] := by decide
    have e2 : (" " : Str).cps.toList = [32] := by decide
    have e3 : (")" : Str).cps.toList = [41] := by decide
    rw [e1, e2, e3]
    simp [Sy.codes]
/-- what may come behind a saying -/
def Stop (x : List Nat) : Prop := ∀ c r, x = c :: r → c = 32 ∨ c = 41
theorem stop_cons {c : Nat} {x : List Nat} (h : c = 32 ∨ c = 41) : Stop (c :: x) := fun d r e => by
  injection e with e1 e2
  rw [← e1]
  exact h
theorem codes_inj : ∀ {t u : Sy} {x y : List Nat}, t.ok → u.ok → Stop x → Stop y → t.codes ++ x = u.codes ++ y → t = u ∧ x = y := by
  intro t
  induction t with
  | nm c =>
    intro u x y ht hu sx sy h
    have c1 : 97 ≤ c ∧ c ≤ 122 := ht
    cases u with
    | nm d =>
      simp only [Sy.codes, List.cons_append, List.nil_append, List.cons.injEq] at h
      exact ⟨by rw [h.1], h.2⟩
    | nev =>
      simp only [Sy.codes, List.cons_append, List.nil_append, List.cons.injEq] at h
      omega
    | alw =>
      simp only [Sy.codes, List.cons_append, List.nil_append, List.cons.injEq] at h
      omega
    | den a =>
      simp only [Sy.codes, List.cons_append, List.nil_append, List.cons.injEq] at h
      have := sx _ _ h.2
      omega
    | bin k a b =>
      simp only [Sy.codes, List.cons_append, List.nil_append, List.cons.injEq] at h
      omega
  | nev =>
    intro u x y ht hu sx sy h
    cases u with
    | nm d =>
      have c1 : 97 ≤ d ∧ d ≤ 122 := hu
      simp only [Sy.codes, List.cons_append, List.nil_append, List.cons.injEq] at h
      omega
    | nev =>
      simp only [Sy.codes, List.cons_append, List.nil_append, List.cons.injEq] at h
      exact ⟨rfl, h.2⟩
    | alw =>
      simp only [Sy.codes, List.cons_append, List.nil_append, List.cons.injEq] at h
      omega
    | den a =>
      simp only [Sy.codes, List.cons_append, List.nil_append, List.cons.injEq] at h
      omega
    | bin k a b =>
      simp only [Sy.codes, List.cons_append, List.nil_append, List.cons.injEq] at h
      omega
  | alw =>
    intro u x y ht hu sx sy h
    cases u with
    | nm d =>
      have c1 : 97 ≤ d ∧ d ≤ 122 := hu
      simp only [Sy.codes, List.cons_append, List.nil_append, List.cons.injEq] at h
      omega
    | nev =>
      simp only [Sy.codes, List.cons_append, List.nil_append, List.cons.injEq] at h
      omega
    | alw =>
      simp only [Sy.codes, List.cons_append, List.nil_append, List.cons.injEq] at h
      exact ⟨rfl, h.2⟩
    | den a =>
      simp only [Sy.codes, List.cons_append, List.nil_append, List.cons.injEq] at h
      omega
    | bin k a b =>
      simp only [Sy.codes, List.cons_append, List.nil_append, List.cons.injEq] at h
      omega
  | den a ih =>
    intro u x y ht hu sx sy h
    cases u with
    | nm d =>
      simp only [Sy.codes, List.cons_append, List.nil_append, List.cons.injEq] at h
      have := sy _ _ h.2.symm
      omega
    | nev =>
      simp only [Sy.codes, List.cons_append, List.nil_append, List.cons.injEq] at h
      omega
    | alw =>
      simp only [Sy.codes, List.cons_append, List.nil_append, List.cons.injEq] at h
      omega
    | den b =>
      simp only [Sy.codes, List.cons_append, List.cons.injEq, true_and] at h
      obtain ⟨e, r⟩ := ih (u := b) ht hu sx sy h
      exact ⟨by rw [e], r⟩
    | bin k b d =>
      simp only [Sy.codes, List.cons_append, List.nil_append, List.cons.injEq] at h
      omega
  | bin k a b ih1 ih2 =>
    intro u x y ht hu sx sy h
    cases u with
    | nm d =>
      have c1 : 97 ≤ d ∧ d ≤ 122 := hu
      simp only [Sy.codes, List.cons_append, List.nil_append, List.cons.injEq] at h
      omega
    | nev =>
      simp only [Sy.codes, List.cons_append, List.nil_append, List.cons.injEq] at h
      omega
    | alw =>
      simp only [Sy.codes, List.cons_append, List.nil_append, List.cons.injEq] at h
      omega
    | den d =>
      simp only [Sy.codes, List.cons_append, List.nil_append, List.cons.injEq] at h
      omega
    | bin l c d =>
      simp only [Sy.codes, List.cons_append, List.append_assoc, List.cons.injEq, true_and, List.nil_append] at h
      obtain ⟨e, r⟩ := ih1 (u := c) ht.1 hu.1 (stop_cons (.inl rfl)) (stop_cons (.inl rfl)) h
      injection r with _ r
      have kl : k = l := by
        cases k <;> cases l <;> first | rfl | (exfalso; simp [Bk.signC] at r)
      subst kl
      have r2 := List.append_cancel_left r
      injection r2 with _ r2
      obtain ⟨e2, r3⟩ := ih2 (u := d) (x := 41 :: x) (y := 41 :: y) ht.2 hu.2 (stop_cons (.inr rfl)) (stop_cons (.inr rfl)) (by simpa using r2)
      injection r3 with _ r3
      exact ⟨by rw [e, e2], r3⟩
theorem text_inj {t u : Sy} (ht : t.ok) (hu : u.ok) (h : t.text = u.text) : t = u := by
  have e : t.codes ++ [] = u.codes ++ [] := by
    rw [← text_codes t, ← text_codes u, h]
  exact (codes_inj ht hu (fun c r z => by cases z) (fun c r z => by cases z) e).1
end SY
set_option maxHeartbeats 4000000
/-! ### sayings as rows of tokens -/
namespace SY
open PySem PySem.Spec PyProof.Rows L2
inductive Tk where | lt (c : Nat) | zero | one | neg | opn | cls | sg (k : Bk)
  deriving DecidableEq
def Tk.str : Tk → Str
  | .lt c => SY.one c | .zero => "0" | .one => "1" | .neg => "not" | .opn => "(" | .cls => ")" | .sg k => k.sign
def Tk.codes : Tk → List Nat
  | .lt c => [c] | .zero => [48] | .one => [49] | .neg => [110, 111, 116] | .opn => [40] | .cls => [41] | .sg k => k.signC
/-- its letters go on in letters -/
def Tk.word : Tk → Bool
  | .lt _ => true | .neg => true | .sg .lower => true | .sg .higher => true | .sg .same => true | _ => false
def Tk.ok : Tk → Prop
  | .lt c => 97 ≤ c ∧ c ≤ 122 | _ => True
theorem Tk.str_codes (k : Tk) : k.str.cps.toList = k.codes := by
  cases k with
  | lt c => rfl
  | sg k => exact sign_codes k
  | _ => decide
def Sy.toks : Sy → List Tk
  | .nm c => [.lt c] | .nev => [.zero] | .alw => [.one] | .den a => .neg :: a.toks | .bin k a b => .opn :: (a.toks ++ .sg k :: (b.toks ++ [.cls]))
/-- how deep its parentheses go -/
def Sy.opens : Sy → Nat
  | .den a => a.opens | .bin _ a b => max a.opens b.opens + 1 | _ => 0
def isL (c : Nat) : Bool := decide (97 ≤ c ∧ c ≤ 122)
def headL : List Nat → Bool
  | c :: _ => isL c | [] => false
theorem toks_ok : ∀ {t : Sy}, t.ok → ∀ k ∈ t.toks, k.ok
  | .nm c, h, k, hk => by
    rw [List.mem_singleton.mp hk]
    exact h
  | .nev, _, k, hk => by
    rw [List.mem_singleton.mp hk]
    trivial
  | .alw, _, k, hk => by
    rw [List.mem_singleton.mp hk]
    trivial
  | .den a, h, k, hk => by
    rcases List.mem_cons.mp hk with e | e
    · rw [e]
      trivial
    · exact toks_ok (t := a) h k e
  | .bin _ a b, h, k, hk => by
    rcases List.mem_cons.mp hk with e | e
    · rw [e]
      trivial
    · rcases List.mem_append.mp e with e | e
      · exact toks_ok (t := a) h.1 k e
      · rcases List.mem_cons.mp e with e | e
        · rw [e]
          trivial
        · rcases List.mem_append.mp e with e | e
          · exact toks_ok (t := b) h.2 k e
          · rw [List.mem_singleton.mp e]
            trivial
/-- the row of signs reads as these tokens, blanks left out -/
inductive Reads : List Tk → List Nat → Prop
  | nil : Reads [] []
  | blank {ws : List Tk} {r : List Nat} (h : Reads ws r) : Reads ws (32 :: r)
  | tok {ws : List Tk} {r : List Nat} (k : Tk) (ok : k.ok) (b : k.word = true → headL r = false) (h : Reads ws r) : Reads (k :: ws) (k.codes ++ r)
/-- the same, no two blanks side by side, none at the end -/
inductive Reads1 : List Tk → List Nat → Prop
  | nil : Reads1 [] []
  | tok {ws : List Tk} {r : List Nat} (k : Tk) (ok : k.ok) (b : k.word = true → headL r = false) (h : Reads1 ws r) : Reads1 (k :: ws) (k.codes ++ r)
  | btok {ws : List Tk} {r : List Nat} (k : Tk) (ok : k.ok) (b : k.word = true → headL r = false) (h : Reads1 ws r) : Reads1 (k :: ws) (32 :: (k.codes ++ r))
theorem Reads1.reads {ws : List Tk} {r : List Nat} (h : Reads1 ws r) : Reads ws r := by
  induction h with
  | nil => exact .nil
  | tok k ok b _ ih => exact .tok k ok b ih
  | btok k ok b _ ih => exact .blank (.tok k ok b ih)
theorem sign_tok (k : Bk) : (Tk.sg k).codes = k.signC := rfl
/-- a text reads as its tokens, whatever comes behind it; a blank may come ahead -/
theorem reads_text : ∀ {t : Sy} {ws : List Tk} {r : List Nat}, t.ok → headL r = false → Reads1 ws r → Reads1 (t.toks ++ ws) (t.codes ++ r) ∧ Reads1 (t.toks ++ ws) (32 :: (t.codes ++ r))
  | .nm c, ws, r, ok, n, h => ⟨.tok (.lt c) ok (fun _ => n) h, .btok (.lt c) ok (fun _ => n) h⟩
  | .nev, ws, r, ok, n, h => ⟨.tok .zero trivial (fun z => nomatch z) h, .btok .zero trivial (fun z => nomatch z) h⟩
  | .alw, ws, r, ok, n, h => ⟨.tok .one trivial (fun z => nomatch z) h, .btok .one trivial (fun z => nomatch z) h⟩
  | .den a, ws, r, ok, n, h => by
    have q := (reads_text (t := a) ok n h).2
    exact ⟨.tok .neg trivial (fun _ => rfl) q, .btok .neg trivial (fun _ => rfl) q⟩
  | .bin k a b, ws, r, ok, n, h => by
    have q3 : Reads1 (.cls :: ws) (41 :: r) := .tok .cls trivial (fun z => nomatch z) h
    have q2 := (reads_text (t := b) ok.2 (r := 41 :: r) rfl q3).2
    have q1 : Reads1 (.sg k :: (b.toks ++ .cls :: ws)) (32 :: (k.signC ++ 32 :: (b.codes ++ 41 :: r))) := .btok (.sg k) trivial (fun _ => rfl) q2
    have q0 := (reads_text (t := a) ok.1 (r := 32 :: (k.signC ++ 32 :: (b.codes ++ 41 :: r))) rfl q1).1
    have et : (Sy.bin k a b).toks ++ ws = .opn :: (a.toks ++ .sg k :: (b.toks ++ .cls :: ws)) := by simp [Sy.toks]
    have ec : (Sy.bin k a b).codes ++ r = 40 :: (a.codes ++ 32 :: (k.signC ++ 32 :: (b.codes ++ 41 :: r))) := by simp [Sy.codes]
    rw [et, ec]
    exact ⟨.tok .opn trivial (fun z => nomatch z) q0, .btok .opn trivial (fun z => nomatch z) q0⟩
theorem reads_own {t : Sy} (ok : t.ok) : Reads1 t.toks t.codes := by
  have h := (reads_text (t := t) (ws := []) (r := []) ok rfl .nil).1
  rw [List.append_nil, List.append_nil] at h
  exact h
/-- what blanks put in and left out make of a row of signs: the sign ahead, the row, what it becomes -/
inductive Bl : Option Nat → List Nat → List Nat → Prop
  | nil {p : Option Nat} : Bl p [] []
  | keep {p : Option Nat} {c : Nat} {s r : List Nat} (h : Bl (some c) s r) : Bl p (c :: s) (c :: r)
  | drop {p : Option Nat} {s r : List Nat} (no : ((∃ c, p = some c ∧ isL c = true) ∧ headL s = true) → False) (h : Bl (some 32) s r) : Bl p (32 :: s) r
  | more {p : Option Nat} {c : Nat} {s r : List Nat} (n : Nat) (at_ : c ∈ [32, 40, 41, 38, 48, 49]) (h : Bl (some c) s r) : Bl p (c :: s) (c :: (List.replicate n 32 ++ r))
theorem reads_blanks {ws : List Tk} {r : List Nat} (h : Reads ws r) : ∀ n, Reads ws (List.replicate n 32 ++ r)
  | 0 => h
  | n + 1 => .blank (reads_blanks h n)
theorem bl_letters : ∀ {w : List Nat} {p : Option Nat} {s r : List Nat}, (∀ c ∈ w, isL c = true) → Bl p (w ++ s) r → ∃ r', r = w ++ r' ∧ Bl (w.getLast?.or p) s r'
  | [], p, s, r, _, h => ⟨r, rfl, h⟩
  | c :: w, p, s, r, hw, h => by
    have hc := hw c List.mem_cons_self
    have go : ∀ {r1 : List Nat}, Bl (some c) (w ++ s) r1 → ∃ r', c :: r1 = c :: w ++ r' ∧ Bl ((c :: w).getLast?.or p) s r' := fun h1 => by
      obtain ⟨r', e, b⟩ := bl_letters (fun d hd => hw d (List.mem_cons_of_mem _ hd)) h1
      refine ⟨r', by rw [e]; rfl, ?_⟩
      cases w with
      | nil => exact b
      | cons d w => 
        have e2 : (c :: d :: w).getLast?.or p = (d :: w).getLast?.or (some c) := by
          rw [List.getLast?_cons_cons]
          cases h : (d :: w).getLast? with
          | none => simp at h
          | some z => rfl
        rw [e2]
        exact b
    cases h with
    | keep h1 => exact go h1
    | drop _ _ => exact absurd hc (by decide)
    | more n at_ _ =>
      exfalso
      simp only [List.mem_cons, List.not_mem_nil, or_false] at at_
      unfold isL at hc
      have := of_decide_eq_true hc
      omega
theorem word_codes {k : Tk} (ok : k.ok) (w : k.word = true) : (∀ c ∈ k.codes, isL c = true) ∧ ∃ c r, k.codes = c :: r ∧ isL (k.codes.getLast?.getD 0) = true ∧ k.codes.getLast? ≠ none := by
  cases k with
  | lt c =>
    have q : isL c = true := decide_eq_true ok
    refine ⟨fun d hd => ?_, c, [], rfl, q, nofun⟩
    rw [List.mem_singleton.mp hd]
    exact q
  | neg => exact ⟨by decide, _, _, rfl, by decide, nofun⟩
  | sg k =>
    cases k with
    | both => cases w
    | thn => cases w
    | lower => exact ⟨by decide, _, _, rfl, by decide, nofun⟩
    | higher => exact ⟨by decide, _, _, rfl, by decide, nofun⟩
    | same => exact ⟨by decide, _, _, rfl, by decide, nofun⟩
  | _ => cases w
theorem plain_codes {k : Tk} (w : k.word = false) : (∃ c, k.codes = [c] ∧ c ∈ [40, 41, 38, 48, 49]) ∨ k.codes = [45, 62] := by
  cases k with
  | lt c => cases w
  | neg => cases w
  | zero => exact .inl ⟨_, rfl, by decide⟩
  | one => exact .inl ⟨_, rfl, by decide⟩
  | opn => exact .inl ⟨_, rfl, by decide⟩
  | cls => exact .inl ⟨_, rfl, by decide⟩
  | sg k =>
    cases k with
    | both => exact .inl ⟨_, rfl, by decide⟩
    | thn => exact .inr rfl
    | _ => cases w
def BlOk (ws : List Tk) (s : List Nat) : Prop := ∀ p r, Bl p s r → Reads ws r ∧ (headL s = false → (∃ c, p = some c ∧ isL c = true) → headL r = false)
theorem bl_tok {ws : List Tk} {s : List Nat} {k : Tk} (ok : k.ok) (b : k.word = true → headL s = false) (ih : BlOk ws s) {p : Option Nat} {r : List Nat} (h : Bl p (k.codes ++ s) r) : Reads (k :: ws) r ∧ (headL (k.codes ++ s) = false → headL r = false) := by
  cases w : k.word with
  | true =>
    obtain ⟨all, c, rest, ec, last, some_⟩ := word_codes ok w
    obtain ⟨r', e, h'⟩ := bl_letters all h
    have lp : ∃ d, k.codes.getLast?.or p = some d ∧ isL d = true := by
      cases z : k.codes.getLast? with
      | none => exact absurd z some_
      | some d =>
        refine ⟨d, rfl, ?_⟩
        rw [z] at last
        exact last
    obtain ⟨q1, q2⟩ := ih _ _ h'
    have q3 := q2 (b w) lp
    rw [e]
    refine ⟨.tok k ok (fun _ => q3) q1, fun z => ?_⟩
    rw [ec] at z
    have hc := all c (by rw [ec]; exact List.mem_cons_self)
    have z' : isL c = false := z
    rw [hc] at z'
    cases z'
  | false =>
    rcases plain_codes w with ⟨c, ec, at_⟩ | ec
    · have nl : isL c = false := by
        simp only [List.mem_cons, List.not_mem_nil, or_false] at at_
        unfold isL
        exact decide_eq_false (by omega)
      rw [ec] at h ⊢
      have mk : ∀ {r' : List Nat}, Reads ws r' → Reads (k :: ws) (c :: r') := fun {r'} q => by
        have t := Reads.tok k ok (fun z => by rw [w] at z; cases z) q
        rw [ec] at t
        exact t
      cases h with
      | keep h1 => exact ⟨mk (ih _ _ h1).1, fun _ => nl⟩
      | drop _ _ => exact absurd at_ (by decide)
      | more n _ h1 => exact ⟨mk (reads_blanks (ih _ _ h1).1 n), fun _ => nl⟩
    · rw [ec] at h ⊢
      cases h with
      | more n a _ => exact absurd a (by decide)
      | keep h1 =>
        cases h1 with
        | more n a _ => exact absurd a (by decide)
        | keep h2 =>
          have t := Reads.tok k ok (fun z => by rw [w] at z; cases z) (ih _ _ h2).1
          rw [ec] at t
          exact ⟨t, fun _ => rfl⟩
theorem bl_reads {ws : List Tk} {s : List Nat} (h : Reads1 ws s) : BlOk ws s := by
  induction h with
  | nil =>
    intro p r h
    cases h
    exact ⟨.nil, fun _ _ => rfl⟩
  | tok k ok b _ ih =>
    intro p r h
    obtain ⟨q1, q2⟩ := bl_tok ok b ih h
    exact ⟨q1, fun z _ => q2 z⟩
  | btok k ok b _ ih =>
    intro p r h
    cases h with
    | keep h1 => exact ⟨.blank (bl_tok ok b ih h1).1, fun _ _ => rfl⟩
    | more n _ h1 => exact ⟨.blank (reads_blanks (bl_tok ok b ih h1).1 n), fun _ _ => rfl⟩
    | drop no h1 =>
      obtain ⟨q1, q2⟩ := bl_tok ok b ih h1
      exact ⟨q1, fun _ lp => q2 (Bool.eq_false_iff.mpr fun e => no ⟨lp, e⟩)⟩
/-! ### the order of tokens -/
/-- what must come behind the sayings that are being read, the innermost first; what is wanted -/
def stepO : List Str × Str → Tk → Option (List Str × Str)
  | (b, w), k =>
    if w = "saying" then match k, b with
      | .opn, b => if b.length ≤ 60 then some ("sign" :: b, "saying") else none
      | .neg, b => some (b, "saying")
      | .lt _, x :: r => some (x :: r, x)
      | .zero, x :: r => some (x :: r, x)
      | .one, x :: r => some (x :: r, x)
      | _, _ => none
    else if w = "sign" then match k, b with
      | .sg _, _ :: r => some ("close" :: r, "saying")
      | _, _ => none
    else if w = "close" then match k, b with
      | .cls, _ :: x :: r => some (x :: r, x)
      | _, _ => none
    else none
def runO : List Str × Str → List Tk → Option (List Str × Str)
  | s, [] => some s
  | s, k :: ks => match stepO s k with
    | some s' => runO s' ks
    | none => none
theorem runO_app (s : List Str × Str) (a b : List Tk) : runO s (a ++ b) = (runO s a).bind fun s' => runO s' b := by
  induction a generalizing s with
  | nil => rfl
  | cons k ks ih =>
    show (match stepO s k with | some s' => runO s' (ks ++ b) | none => none) = (match stepO s k with | some s' => runO s' ks | none => none).bind fun s' => runO s' b
    cases stepO s k with
    | none => rfl
    | some s' => exact ih s'
theorem toks_order : ∀ {t : Sy} {x : Str} {b : List Str}, (x :: b).length + t.opens ≤ 61 → runO (x :: b, "saying") t.toks = some (x :: b, x)
  | .nm c, x, b, _ => rfl
  | .nev, x, b, _ => rfl
  | .alw, x, b, _ => rfl
  | .den a, x, b, h => toks_order (t := a) h
  | .bin k t u, x, b, h => by
    have h' : (x :: b).length + (max t.opens u.opens + 1) ≤ 61 := h
    have s1 : stepO (x :: b, "saying") .opn = some (("sign" : Str) :: x :: b, ("saying" : Str)) := by
      show (if (x :: b).length ≤ 60 then _ else _) = _
      rw [if_pos (by omega)]
    have q1 := toks_order (t := t) (x := "sign") (b := x :: b) (by show (x :: b).length + 1 + _ ≤ 61; omega)
    have q2 := toks_order (t := u) (x := "close") (b := x :: b) (by show (x :: b).length + 1 + _ ≤ 61; omega)
    show runO (x :: b, "saying") (.opn :: (t.toks ++ .sg k :: (u.toks ++ [.cls]))) = _
    unfold runO
    rw [s1]
    show runO (("sign" : Str) :: x :: b, ("saying" : Str)) (t.toks ++ .sg k :: (u.toks ++ [.cls])) = _
    rw [runO_app, q1]
    show runO (("sign" : Str) :: x :: b, ("sign" : Str)) (.sg k :: (u.toks ++ [.cls])) = _
    show runO (("close" : Str) :: x :: b, ("saying" : Str)) (u.toks ++ [.cls]) = _
    rw [runO_app, q2]
    rfl
/-- a row that runs through runs through each of its beginnings -/
theorem runO_at {s e : List Str × Str} : ∀ {ks : List Tk}, runO s ks = some e → ∀ (i : Nat) (k : Tk), ks[i]? = some k → ∃ s1 s2, runO s (ks.take i) = some s1 ∧ stepO s1 k = some s2 ∧ runO s (ks.take (i + 1)) = some s2
  | [], _, i, k, h => by simp at h
  | k0 :: ks, h, i, k, hi => by
    unfold runO at h
    cases hs : stepO s k0 with
    | none =>
      rw [hs] at h
      cases h
    | some s' =>
      rw [hs] at h
      cases i with
      | zero =>
        have ek : k0 = k := by simpa using hi
        rw [← ek]
        refine ⟨s, s', rfl, hs, ?_⟩
        show runO s [k0] = _
        unfold runO
        rw [hs]
        rfl
      | succ i =>
        obtain ⟨s1, s2, h1, h2, h3⟩ := runO_at (ks := ks) h i k (by simpa using hi)
        refine ⟨s1, s2, ?_, h2, ?_⟩
        · show runO s (k0 :: ks.take i) = _
          unfold runO
          rw [hs]
          exact h1
        · show runO s (k0 :: ks.take (i + 1)) = _
          unfold runO
          rw [hs]
          exact h3
/-! ### the saying out of its tokens, from the last one -/
def stepB : Tk → List Sy × List Bk → Option (List Sy × List Bk)
  | .sg k, (s, g) => some (s, k :: g)
  | .neg, (t :: s, g) => some (.den t :: s, g)
  | .opn, (t :: u :: s, k :: g) => some (.bin k t u :: s, g)
  | .cls, (s, g) => some (s, g)
  | .lt c, (s, g) => some (.nm c :: s, g)
  | .zero, (s, g) => some (.nev :: s, g)
  | .one, (s, g) => some (.alw :: s, g)
  | _, _ => none
def runB : List Tk → List Sy × List Bk → Option (List Sy × List Bk)
  | [], x => some x
  | k :: ks, x => (runB ks x).bind (stepB k)
theorem runB_app (a b : List Tk) (x : List Sy × List Bk) : runB (a ++ b) x = (runB b x).bind (runB a) := by
  induction a with
  | nil =>
    show runB b x = (runB b x).bind fun y => some y
    cases runB b x <;> rfl
  | cons k ks ih =>
    show (runB (ks ++ b) x).bind (stepB k) = _
    rw [ih]
    cases runB b x <;> rfl
theorem toks_built : ∀ (t : Sy) (s : List Sy) (g : List Bk), runB t.toks (s, g) = some (t :: s, g)
  | .nm c, s, g => rfl
  | .nev, s, g => rfl
  | .alw, s, g => rfl
  | .den a, s, g => by
    show (runB a.toks (s, g)).bind (stepB .neg) = _
    rw [toks_built a]
    rfl
  | .bin k t u, s, g => by
    show (runB (t.toks ++ .sg k :: (u.toks ++ [.cls])) (s, g)).bind (stepB .opn) = _
    have q : runB (.sg k :: (u.toks ++ [.cls])) (s, g) = some (u :: s, k :: g) := by
      show (runB (u.toks ++ [.cls]) (s, g)).bind (stepB (.sg k)) = _
      rw [runB_app]
      show (runB u.toks (s, g)).bind (stepB (.sg k)) = _
      rw [toks_built u]
      rfl
    rw [runB_app, q]
    show (runB t.toks (u :: s, k :: g)).bind (stepB .opn) = _
    rw [toks_built t]
    rfl
theorem runB_drop {e x : List Sy × List Bk} : ∀ {ks : List Tk}, runB ks x = some e → ∀ i : Nat, i ≤ ks.length → ∃ y, runB (ks.drop i) x = some y
  | [], h, i, hi => ⟨x, by rw [List.drop_nil]; rfl⟩
  | k :: ks, h, 0, _ => ⟨e, h⟩
  | k :: ks, h, i + 1, hi => by
    have h' : (runB ks x).bind (stepB k) = some e := h
    cases q : runB ks x with
    | none =>
      rw [q] at h'
      cases h'
    | some y => exact runB_drop q i (by simpa using hi)
/-- how much has been read -/
def szB (x : List Sy × List Bk) : Nat := (x.1.map Sy.size).sum + x.2.length
theorem stepB_sz {k : Tk} {x y : List Sy × List Bk} (h : stepB k x = some y) : szB x ≤ szB y := by
  obtain ⟨s, g⟩ := x
  cases k with
  | sg k =>
    rw [← Option.some.inj h]
    show (s.map Sy.size).sum + g.length ≤ (s.map Sy.size).sum + (k :: g).length
    rw [List.length_cons]
    omega
  | neg =>
    cases s with
    | nil => cases h
    | cons t s =>
      rw [← Option.some.inj h]
      show ((t :: s).map Sy.size).sum + g.length ≤ ((Sy.den t :: s).map Sy.size).sum + g.length
      rw [List.map_cons, List.map_cons, List.sum_cons, List.sum_cons]
      show t.size + _ + _ ≤ t.size + 1 + _ + _
      omega
  | opn =>
    rcases s with _ | ⟨t, _ | ⟨u, s⟩⟩
    · cases h
    · cases g <;> cases h
    · cases g with
      | nil => cases h
      | cons k g =>
        rw [← Option.some.inj h]
        show ((t :: u :: s).map Sy.size).sum + (k :: g).length ≤ ((Sy.bin k t u :: s).map Sy.size).sum + g.length
        rw [List.map_cons, List.map_cons, List.map_cons, List.sum_cons, List.sum_cons, List.sum_cons, List.length_cons]
        show t.size + (u.size + _) + _ ≤ t.size + u.size + 1 + _ + _
        omega
  | cls =>
    rw [← Option.some.inj h]
    exact Nat.le_refl _
  | lt c =>
    rw [← Option.some.inj h]
    show (s.map Sy.size).sum + g.length ≤ ((Sy.nm c :: s).map Sy.size).sum + g.length
    rw [List.map_cons, List.sum_cons]
    omega
  | zero =>
    rw [← Option.some.inj h]
    show (s.map Sy.size).sum + g.length ≤ ((Sy.nev :: s).map Sy.size).sum + g.length
    rw [List.map_cons, List.sum_cons]
    omega
  | one =>
    rw [← Option.some.inj h]
    show (s.map Sy.size).sum + g.length ≤ ((Sy.alw :: s).map Sy.size).sum + g.length
    rw [List.map_cons, List.sum_cons]
    omega
theorem runB_sz {e x : List Sy × List Bk} : ∀ {ks : List Tk}, runB ks x = some e → ∀ {i : Nat} {y : List Sy × List Bk}, runB (ks.drop i) x = some y → szB y ≤ szB e
  | [], h, i, y, hy => by
    rw [List.drop_nil] at hy
    rw [← Option.some.inj (h.symm.trans hy)]
    exact Nat.le_refl _
  | k :: ks, h, 0, y, hy => by
    rw [← Option.some.inj (h.symm.trans hy)]
    exact Nat.le_refl _
  | k :: ks, h, i + 1, y, hy => by
    have h' : (runB ks x).bind (stepB k) = some e := h
    cases q : runB ks x with
    | none =>
      rw [q] at h'
      cases h'
    | some z =>
      rw [q] at h'
      exact Nat.le_trans (runB_sz q hy) (stepB_sz h')
theorem toks_size : ∀ t : Sy, t.toks.length = t.size + t.toks.count .opn + t.toks.count .cls
  | .nm c => rfl
  | .nev => rfl
  | .alw => rfl
  | .den a => by
    have h := toks_size a
    show (Tk.neg :: a.toks).length = a.size + 1 + (Tk.neg :: a.toks).count .opn + (Tk.neg :: a.toks).count .cls
    rw [List.length_cons, List.count_cons_of_ne (by decide), List.count_cons_of_ne (by decide), h]
    omega
  | .bin k t u => by
    have h1 := toks_size t
    have h2 := toks_size u
    show (Tk.opn :: (t.toks ++ .sg k :: (u.toks ++ [.cls]))).length = t.size + u.size + 1 + (Tk.opn :: (t.toks ++ .sg k :: (u.toks ++ [.cls]))).count .opn + (Tk.opn :: (t.toks ++ .sg k :: (u.toks ++ [.cls]))).count .cls
    have n1 : Tk.sg k ≠ .opn := by intro z; cases z
    have n2 : Tk.sg k ≠ .cls := by intro z; cases z
    rw [List.length_cons, List.length_append, List.length_cons, List.length_append, List.count_cons_self, List.count_cons_of_ne (by decide), List.count_append, List.count_append, List.count_cons_of_ne n1, List.count_cons_of_ne n2, List.count_append, List.count_append]
    have e1 : [Tk.cls].count .opn = 0 := by decide
    have e2 : [Tk.cls].count .cls = 1 := by decide
    have e3 : [Tk.cls].length = 1 := rfl
    omega
end SY
set_option maxHeartbeats 8000000
namespace G1
open PySem PySem.Spec PyProof.Rows L2
/-! ### data that str writes -/
mutual
inductive Dq (H : Hp) : V → PyData → Prop
  | non : Dq H .non .none
  | bl (b : Bool) : Dq H (.bl b) (.bool b)
  | int (i : Int) : Dq H (.int i) (.int i)
  | str (x : Str) : Dq H (.str x) (.str x)
  | lst {a : Addr} {xs : List V} {ds : List PyData} : H a = some (.lst xs) → DqAll H xs ds → Dq H (.ref a) (.list ds)
  | tup {a : Addr} {xs : List V} {ds : List PyData} : H a = some (.tup xs) → DqAll H xs ds → Dq H (.ref a) (.tuple ds)
  | dk {a : Addr} : H a = some (.dK []) → Dq H (.ref a) (.dict [])
inductive DqAll (H : Hp) : List V → List PyData → Prop
  | nil : DqAll H [] []
  | cons {v : V} {vs : List V} {d : PyData} {ds : List PyData} : Dq H v d → DqAll H vs ds → DqAll H (v :: vs) (d :: ds)
end
mutual
theorem Dq.same {H H' : Hp} (s : Same H H') : ∀ (d : PyData) (v : V), Dq H v d → Dq H' v d
  | .none, _, h => by cases h; exact .non
  | .bool b, _, h => by cases h; exact .bl b
  | .int i, _, h => by cases h; exact .int i
  | .str x, _, h => by cases h; exact .str x
  | .list ds, _, h => by
    cases h with
    | lst e k => exact .lst (s _ _ e) (DqAll.same s ds _ k)
  | .tuple ds, _, h => by
    cases h with
    | tup e k => exact .tup (s _ _ e) (DqAll.same s ds _ k)
  | .dict _, _, h => by
    cases h with
    | dk e => exact .dk (s _ _ e)
theorem DqAll.same {H H' : Hp} (s : Same H H') : ∀ (ds : List PyData) (vs : List V), DqAll H vs ds → DqAll H' vs ds
  | [], _, h => by cases h; exact .nil
  | d :: ds, _, h => by
    cases h with
    | cons h1 h2 => exact .cons (Dq.same s d _ h1) (DqAll.same s ds _ h2)
end
section
variable {X : Cx} {pins : List (Addr × Obj)} {σ : L2.St} {H : Hp} {s : Shared}
mutual
theorem Dq.reads (I : Inv X pins σ H s) (hm : H sysModules = none) : ∀ (d : PyData) (v : V) (u : Value), Dq H v d → RelV v u → ∃ as, Reads s.heap u d as ∧ sysModules ∉ as
  | .none, _, _, h, r => by
    cases h
    cases r
    exact ⟨_, Reads.none, by simp⟩
  | .bool b, _, _, h, r => by
    cases h
    cases r
    exact ⟨_, Reads.bool b, by simp⟩
  | .int i, _, _, h, r => by
    cases h
    obtain ⟨t, rfl⟩ := r
    exact ⟨_, Reads.int i t, by simp⟩
  | .str x, _, _, h, r => by
    cases h
    obtain ⟨t, rfl⟩ := r
    exact ⟨_, Reads.str x t, by simp⟩
  | .list ds, _, _, h, r => by
    cases h with
    | @lst a xs _ e k =>
      cases r
      obtain ⟨_, its, n, rv, g⟩ := (show ObjOk X.prog X.w H s.heap a (.lst xs) from I.hok a _ e)
      obtain ⟨as, hr, hn⟩ := DqAll.reads I hm ds _ its k rv
      refine ⟨_, Reads.list g rfl rfl (by simpa using hr), fun q => ?_⟩
      rcases List.mem_cons.mp q with q | q
      · rw [← q, hm] at e
        cases e
      · exact hn q
  | .tuple ds, _, _, h, r => by
    cases h with
    | @tup a xs _ e k =>
      cases r
      obtain ⟨_, its, rv, o, g1, g2, n, g3⟩ := (show ObjOk X.prog X.w H s.heap a (.tup xs) from I.hok a _ e)
      obtain ⟨as, hr, hn⟩ := DqAll.reads I hm ds _ its k rv
      exact ⟨_, Reads.tuple g1 g2 g3 (by simpa using hr), hn⟩
  | .dict _, _, _, h, r => by
    cases h with
    | @dk a e =>
      cases r
      obtain ⟨_, _, vs, rv, o, es, ep, g1, g2, g3, g4, g5, _⟩ := (show ObjOk X.prog X.w H s.heap a (.dK []) from I.hok a _ e)
      cases rv
      have e0 : es.toList = [] := by
        generalize es.toList = l at g5
        cases g5
        rfl
      refine ⟨_, Reads.dict g1 g2.1 g3 (as := []) (bs := []) (by rw [e0]; exact ReadsAll.nil) (by rw [e0]; exact ReadsAll.nil), fun q => ?_⟩
      have q2 : sysModules = a := by simpa using q
      rw [← q2, hm] at e
      cases e
theorem DqAll.reads (I : Inv X pins σ H s) (hm : H sysModules = none) : ∀ (ds : List PyData) (vs : List V) (us : List Value), DqAll H vs ds → Vals vs us → ∃ as, ReadsAll s.heap us ds as ∧ sysModules ∉ as
  | [], _, _, h, r => by
    cases h
    cases r
    exact ⟨_, ReadsAll.nil, by simp⟩
  | d :: ds, _, _, h, r => by
    cases h with
    | cons h1 h2 =>
      cases r with
      | cons r1 r2 =>
        obtain ⟨as, q1, n1⟩ := Dq.reads I hm d _ _ h1 r1
        obtain ⟨bs, q2, n2⟩ := DqAll.reads I hm ds _ _ h2 r2
        exact ⟨_, ReadsAll.cons q1 q2, fun q => (List.mem_append.mp q).elim n1 n2⟩
end
end
structure Small (d : PyData) : Prop where
  sh : d.showable = true
  lv : d.leavesShort 100 = true
  wt : d.weight ≤ 10000
  dp : d.depth ≤ 50
theorem call_str_dat {X : Cx} (gd : X.A.guards = some []) (hu : X.A.units + 64 < cLine) (hm : ∃ o, X.K.lookup sysModules = some o) : CallR X (.type "str") (fun xs H Q => ∃ (a : Addr) (d : PyData), xs = [.ref a] ∧ Dq H (.ref a) d ∧ Small d ∧ Q (.str d.shown) H) := by
  intro pn s st H xs us Q I r ask
  obtain ⟨a, d, rfl, hd, sm, q⟩ := ask
  cases r with
  | cons r1 r2 =>
    cases r2
    cases r1
    obtain ⟨o, ho⟩ := hm
    have hn : H sysModules = none := (I.bs sysModules o (I.ok.mod.kin _ _ ho)).2
    obtain ⟨as, hr, na⟩ := Dq.reads I hn d _ _ hd rfl
    have h1 := PyData.shown_le 100 (by decide) d sm.lv
    have h2 := sm.wt
    have h3 : (100 + 2) * d.weight ≤ 102 * 10000 := Nat.mul_le_mul (by decide) h2
    have h4 := sm.dp
    refine str_of_reads hr sm.sh (fun _ => na) gd (by omega) (fun _ _ e => e) (fun h' u tk hk => ?_) (by rw [sizeLine_eq]; omega)
    exact ⟨.str d.shown, H, I.kept (t' := tk) hk, ⟨_, rfl⟩, q⟩
/-! ### a def's promise where no repr is under way -/
structure FnG (CX : CXT) (P : Program) (w : World) (K : PySem.W.Frag) (mg : Str → Option Value) (base : Heap) (k : Nat) (f : Addr) (fd : FuncData) (ps : List Str) (sp : Sp) : Prop where
  len : ∀ vs H (Q : VK) (E : XK), sp vs H Q E → vs.length = ps.length
  run : ∀ (A : Around) (outer : List Env) (s : Shared) (H : Hp) (args : Args) (us : List Value) (vs : List V) (Q : VK) (E : XK),
    A.guards = some [] → Room k A → Env0 P w K mg base A outer s H → BindsTo s fd args (ps.zip us) → Vals vs us → sp vs H Q E → codeAny (model P w) A (.call (.ref f) args) (CR CX outer P w H s Q E) s
section
variable {P : Program} {w : World} {K : PySem.W.Frag} {mg : Str → Option Value} {base : Heap} {f : Addr} {fd : FuncData} {x qual : Str} {params : Arguments} {body : List Stmt} {scope : Scope} {dvs : List V} {kws : List (Str × V)}
theorem okG {CX : CXT} {N ps : List Str} {k : Nat} {sp : Sp} (F : FunD K x qual params body scope dvs kws f fd) (S : FnScope N ps scope) (len : ∀ vs H Q E, sp vs H Q E → vs.length = ps.length)
    (hb : ∀ (cdv : Value) (A : Around) (outer : List Env) (s : Shared) (H : Hp) (vs : List V) (Q : VK) (E : XK), A.guards = some [] → Room k (A.deeper (envOfC qual scope s.heap.objs.size f cdv)) → sp vs H Q E →
      ∃ t, PSs (cxOf CX P w K mg base N qual scope f cdv A outer s H E) body t ∧ t { nx := fun _ H' => Q .non H', rt := Q } (start N vs) H) : FnG CX P w K mg base (k + 1) f fd ps sp := by
  obtain ⟨c0, d0, v0, k0, doc, pm, an, code, ct, sl0, rfl, stands, coded, _, _⟩ := F.ex
  constructor
  · exact len
  · intro A outer s H args us vs Q E gd hr e0 bind r hsp
    have old : ∀ b o, base.get? b = some o → s.heap.get? b = some o := fun b o e => (e0.bs b o e).1
    have kin : K.In s.heap := e0.mod.kin.keeps old
    have lim : s.heap.NoLimit := e0.mod.nolimit.keeps old
    have kinds : ∀ y ∈ ps.zip us, scope.names.lookup y.1 = some .local ∨ (scope.names.lookup y.1 = some .cell ∧ ((cellsFrom (s.heap.objs.size + 1) scope.names []).lookup y.1).isSome = true) := by
      rintro ⟨n, v⟩ hy
      cases S.par n (List.of_mem_zip hy).1 with
      | inl q => exact .inl q
      | inr q => exact .inr ⟨q, PySem.W.cellsFrom_some _ _ _ (.inl q)⟩
    apply codeAny_call_function hr.depth (kin _ _ stands) rfl S.co S.gen rfl (PySem.W.codeRec_of kin coded)
    apply bind
    apply wpAny_newFunctionEnv_cells S.kind kinds
    intro env he s1 y
    subst he
    refine ⟨lim.keeps y.toInCall.keep, codeAny_func ?_⟩
    obtain ⟨t, ht, hq⟩ := hb code A outer s H vs Q E gd (hr.deeper _) hsp
    have I : Inv (cxOf CX P w K mg base N qual scope f code A outer s H E) [] (start N vs) H s1 := inv_start S hr.hd e0 (len _ _ _ _ hsp) r y
    refine wpAny_mono (ht.run [] s1 (start N vs) H _ I hq) ?_ (fun _ _ z => z)
    intro fl s' hs
    cases fl with
    | ret u =>
      have ⟨v, _, H2, J, rv, q⟩ := hs
      exact ⟨v, H2, J.os, J.bare, J.base, J.hok, rv, q⟩
    | next =>
      obtain ⟨σ', H', J, q⟩ := hs
      exact ⟨V.non, H', J.os, J.bare, J.base, J.hok, rfl, q⟩
    | brk =>
      obtain ⟨_, _, _, q⟩ := hs
      exact q.elim
    | cont =>
      obtain ⟨_, _, _, q⟩ := hs
      exact q.elim
/-- called by its name -/
structure ClG (CX : CXT) (P : Program) (w : World) (K : PySem.W.Frag) (mg : Str → Option Value) (base : Heap) (k : Nat) (x : Str) (ps : List Str) (sp : Sp) : Prop where
  ex : ∃ (f : Addr) (fd : FuncData), FnG CX P w K mg base k f fd ps sp ∧ mg x = some (.ref f) ∧ PySem.W.keepIn K (.ref f) = true ∧ Binds K fd ps []
end
section
variable {X : Cx} {k j : Nat} {x : Str} {ps : List Str} {sp : Sp} {p pos : Pos} {e : Expr} {es : List Expr} {t : TA}
theorem pe_cG (c : ClG CX0 X.prog X.w X.K X.mg X.base k x ps sp) (gd : X.A.guards = some []) (hr : Room j X.A) (hk : k ≤ j) (hg : Gl X x) (ha : PA X (e :: es) t)
    (nodbg : (x == ("__debug__" : Str)) = false := by decide) (first : starEach (e :: es) X.env = (false, eval e X.env) :: starEach es X.env := by rfl) (plain : (backTo pos (starEach es X.env)).any (·.1) = false := by rfl) :
    PE X (.Call (.Name x p) (e :: es) [] pos) (tCall sp [] E0 t) := by
  obtain ⟨f, fd, F, hm, kp, b⟩ := c.ex
  constructor
  intro pins s σ H Q I h
  apply wpAny_Call_Name_kw
  apply ld_glob I hg hm _ nodbg
  apply PySem.W.callWith_K (h₀ := X.base) I.ok.mod.kin kp _ first plain
  apply thn (ha.run pos pins s σ H _ I h)
  rintro us s1 ⟨vs, H1, I1, r, q⟩
  refine ⟨I1.kIn, wpAny_call ?_⟩
  have q' : sp vs H1 Q E0 := by
    have q0 : sp (vs ++ []) H1 Q E0 := q
    rw [List.append_nil] at q0
    exact q0
  have hl : us.length = ps.length := r.length.symm.trans (F.len _ _ _ _ q')
  have bb := b s1 us I1.kIn (by rw [List.append_nil]; exact hl)
  rw [List.append_nil] at bb
  refine codeAny_mono (F.run X.A X.stack s1 H1 ⟨us, []⟩ us vs Q E0 gd (hr.mono hk) I1.env0 bb r q') ?_
  intro rr s' hq
  cases rr with
  | error e => exact hq.elim
  | ok fl =>
    cases fl with
    | ret u => exact I1.after hq
    | next => exact hq.elim
    | brk => exact hq.elim
    | cont => exact hq.elim
end
/-! ### the law's own call -/
/-- nothing but what stands at a -/
def onlyAt (a : Addr) (o : Option HO) : Hp := fun b => if b = a then o else none
theorem onlyAt_some {a b : Addr} {o : Option HO} {u : HO} (h : onlyAt a o b = some u) : b = a ∧ o = some u := by
  unfold onlyAt at h
  split at h
  · exact ⟨by assumption, h⟩
  · cases h
theorem onlyAt_same {a : Addr} {o : Option HO} : onlyAt a o a = o := if_pos rfl
/-- the script as a list object -/
abbrev scriptO (vs : List Value) : Obj := { cls := .type "list", data := .seq vs.toArray }
theorem script_heap {P : Program} {w : World} {K : PySem.W.Frag} {h : Heap} {a : Addr} {vs : List Value} {ns : List Int} (X : K.In h) (at_ : h.get? a = some (scriptO vs)) (whole : IntsAre vs ns) (few : ns.length ≤ sizeLine) :
    ∃ o : Option HO, SqL K (onlyAt a o) a (ns.map V.int) ∧ HOk P w (onlyAt a o) h ∧ ∀ u, o = some u → (∃ ob xs, u = .frz ob (.lst xs)) ∧ K.lookup a = none := by
  have rel := vals_ints whole
  have size : vs.toArray.size ≤ sizeLine := by
    have e := whole.length
    rw [List.size_toArray, e]
    exact few
  cases written : K.lookup a with
  | some ob =>
    have e : some (scriptO vs) = some ob := at_.symm.trans (X a ob written)
    cases e
    exact ⟨none, .inr ⟨_, vs.toArray, _, written, rfl, rfl, rfl, size, by simpa using rel⟩, (fun b u z => nomatch (onlyAt_some z).2), nofun⟩
  | none =>
    refine ⟨some (.frz (scriptO vs) (.lst (ns.map V.int))), .inl (.inr ⟨_, onlyAt_same⟩), fun b u z => ?_, fun u z => ?_⟩
    · obtain ⟨rfl, e⟩ := onlyAt_some z
      cases e
      exact ⟨at_, by rw [List.length_map]; exact few, vs, _, rel, at_⟩
    · cases z
      exact ⟨⟨_, _, rfl⟩, rfl⟩
theorem law_callG {P : Program} {w : World} {K : PySem.W.Frag} {mg mb : Str → Option Value} {k : Nat} {fa a : Addr} {fd : FuncData} {x : Str} {sp : Sp} {s : Shared} {vs : List Value} {ns : List Int}
    (X : K.In s.heap) (main : s.heap.Ns mainGlobals mg) (blt : s.heap.Ns builtinsNs mb) (boot : ∀ y : Str, y ≠ "__name__" → mb y = bootBuiltins y) (calm : s.heap.NoLimit) (noGens : s.gens = #[])
    (at_ : s.heap.get? a = some (scriptO vs)) (whole : IntsAre vs ns) (few : ns.length ≤ sizeLine) (room : Room k callerA)
    (F : ∀ base : Heap, K.In base → base.Ns mainGlobals mg → FnG CX0 P w K mg base k fa fd [x] sp) (bind : ∀ (t : Shared) (u : Value), BindsTo t fd ⟨[u], []⟩ [(x, u)])
    (ask : ∀ H : Hp, SqL K H a (ns.map V.int) → sp [.ref a] H (fun v _ => v = .bl true) E0) :
    codeAny (model P w) callerA (.call (.ref fa) ⟨[.ref a], []⟩) (fun r t => r = .ok (.ret (.bool true)) ∧ (OldK s.heap t.heap ∧ (t.os = s.os ∧ AllBare t.gens))) s := by
  obtain ⟨o, sq, ok, off⟩ := script_heap (P := P) (w := w) X at_ whole few
  obtain ⟨H, eH⟩ : ∃ H, onlyAt a o = H := ⟨_, rfl⟩
  have only : ∀ b u, H b = some u → b = a ∧ o = some u := fun b u z => onlyAt_some (by rw [eH]; exact z)
  rw [eH] at sq ok
  have stays : ∀ {b : Addr} {u : Obj}, s.heap.get? b = some u → (∀ ob xs, b = a → o = some (.frz ob (.lst xs)) → False) → (hidT s.heap H).get? b = some u := by
    intro b u e n
    refine hidT_get e ?_
    cases q : H b with
    | none => rfl
    | some v =>
      obtain ⟨eb, ev⟩ := only b v q
      obtain ⟨⟨ob, xs, rfl⟩, _⟩ := off v ev
      exact (n ob xs eb ev).elim
  have names : ∀ {b : Addr} {m : Str → Option Value}, s.heap.Ns b m → (hidT s.heap H).Ns b m := by
    rintro b m ⟨u, es, ep, e, d, r⟩
    refine ⟨u, es, ep, stays e (fun _ _ eb _ => ?_), d, r⟩
    rw [eb, at_] at e
    cases e
    cases d
  have kept : K.In (hidT s.heap H) := fun b u e => stays (X b u e) fun ob xs eb eo => by
    rw [eb, (off _ eo).2] at e
    cases e
  have limit : (hidT s.heap H).NoLimit := by
    obtain ⟨mc, h1, h2⟩ := calm
    exact ⟨mc, names h1, h2⟩
  have start : Env0 P w K mg (hidT s.heap H) callerA [] s H :=
    { frames := rfl, mod := ⟨kept, names main, ⟨mb, names blt, boot⟩, limit⟩, bs := fun _ _ e => of_hidT e, bsz := Nat.le_of_eq (hidT_size _ _), funs := trivial, frf := fun _ z => (by cases z), hok := ok, bare := .of_eq noGens }
  have run := (F _ kept (names main)).run callerA [] s H ⟨[.ref a], []⟩ [.ref a] [.ref a] _ _ rfl room start (bind s (.ref a)) (.cons rfl .nil) (ask H sq)
  refine codeAny_mono run fun r t h => ?_
  cases r with
  | error e => exact h.elim
  | ok fl =>
    cases fl with
    | ret u =>
      obtain ⟨v, G, sameOs, bare, un, okG', rv, q⟩ := h
      cases (show v = V.bl true from q)
      cases (show u = Value.bool true from rv)
      refine ⟨rfl, .of_keep fun b ob e => ?_, sameOs, bare⟩
      cases z : H b with
      | none => exact un.keep b ob e z nofun nofun
      | some u =>
        obtain ⟨eb, eo⟩ := only b u z
        obtain ⟨⟨fr, xs, rfl⟩, _⟩ := off u eo
        have before := (ok b _ z).1
        have behind := (okG' b _ (un.frzs b fr _ z)).1
        rw [e] at before
        cases before
        exact behind
    | next => exact h.elim
    | brk => exact h.elim
    | cont => exact h.elim
end G1
set_option maxHeartbeats 4000000
namespace G1
open PySem PySem.Spec PyProof.Rows L2
/-! ### arguments by name alone -/
structure KB0 (K : PySem.W.Frag) (fd : FuncData) (ps ks : List Str) (g : List Value → List Value) (gV : List V → List V) : Prop where
  to : ∀ (s : Shared) (ws : List Value), ws.length = ks.length → BindsTo s fd ⟨[], ks.zip ws⟩ (ps.zip (g ws))
  rel : ∀ {zs : List V} {ws : List Value}, Vals zs ws → Vals (gV zs) (g ws)
def tCallW (n : Nat) (sp : Sp) (gV : List V → List V) (tk : TA) : TE := fun σ H Q => tk σ H fun zs H1 => zs.length = n ∧ sp (gV zs) H1 Q E0
section
variable {X : Cx} {k j : Nat} {x : Str} {ps ks : List Str} {sp : Sp} {p pos : Pos} {kws : List Keyword} {tk : TA} {f : Addr} {fd : FuncData} {g : List Value → List Value} {gV : List V → List V} {CX : CXT}
theorem pe_kw (F : FnOk X.prog X.w X.K X.mg X.base CX k f fd ps sp) (hr : Room j X.A) (hk : k ≤ j) (hg : Gl X x) (hm : X.mg x = some (.ref f)) (kp : PySem.W.keepIn X.K (.ref f) = true) (hb : KB0 X.K fd ps ks g gV) (hx : Passes CX X E0)
    (hkw : PK X kws tk) (hall : (backToKw pos (keywordEach kws X.env)).all (·.1.isSome) = true := by rfl) (hks : (backToKw pos (keywordEach kws X.env)).filterMap (·.1) = ks := by rfl)
    (nodbg : (x == ("__debug__" : Str)) = false := by decide)
    (plain : ((backTo pos (starEach [] X.env)).any (·.1) || (backToKw pos (keywordEach kws X.env)).any (·.1.isNone)) = false := by rfl) :
    PE X (.Call (.Name x p) [] kws pos) (tCallW ks.length sp gV tk) := by
  constructor
  intro pins s σ H Q I h
  apply wpAny_Call_Name_kw
  apply ld_glob I hg hm _ nodbg
  apply PySem.W.callWith_KW0 (h₀ := X.base) I.ok.mod.kin kp hall _ plain
  refine thn (hkw.run pos pins s σ H _ I h) ?_
  rintro ws s2 ⟨zs, H2, I2, rz, l2, q2⟩
  refine ⟨I2.kIn, ?_⟩
  rw [hks]
  refine wpAny_call (codeAny_mono (F.run X.A X.stack s2 H2 ⟨[], ks.zip ws⟩ (g ws) (gV zs) Q E0 (hr.mono hk) I2.env0 (hb.to s2 ws (rz.length.symm.trans l2)) (hb.rel rz) q2) ?_)
  intro r s' hq
  cases r with
  | error e => exact hx pins σ H2 s2 e s' I2 hq
  | ok fl =>
    cases fl with
    | ret u => exact I2.after hq
    | next => exact hq.elim
    | brk => exact hq.elim
    | cont => exact hq.elim
end
/-- a def that is called by names -/
structure ClK (CX : CXT) (P : Program) (w : World) (K : PySem.W.Frag) (mg : Str → Option Value) (base : Heap) (k : Nat) (x : Str) (ps : List Str) (sp : Sp) (ks : List Str) (gV : List V → List V) : Prop where
  ex : ∃ (f : Addr) (fd : FuncData) (g : List Value → List Value), FnOk P w K mg base CX k f fd ps sp ∧ mg x = some (.ref f) ∧ PySem.W.keepIn K (.ref f) = true ∧ KB0 K fd ps ks g gV
theorem clk_of {CX : CXT} {P : Program} {w : World} {K : PySem.W.Frag} {mg : Str → Option Value} {base : Heap} {k : Nat} {x : Str} {st : Stmt} {ps ks : List Str} {sp : Sp} {g : List Value → List Value} {gV : List V → List V} (c : Cl CX P w K mg base k x ps sp) (D : DefAt K mg x st)
    (h : ∀ (kV doc pm : Value) (an : Option Addr) (cdv ct : Value) (ws : List Value), ws.length = ks.length → bindArgs (PySem.W.fnOf x x (defArgs st) (defBody st) (defScope st) .none kV doc pm an cdv ct) ⟨[], ks.zip ws⟩ = pure (ps.zip (g ws)))
    (rel : ∀ {zs : List V} {ws : List Value}, Vals zs ws → Vals (gV zs) (g ws)) : ClK CX P w K mg base k x ps sp ks gV := by
  obtain ⟨f, fd, F, hm, kp, b, oc, od, osl, lk⟩ := c.ex
  obtain ⟨f', fd', F', hm'⟩ := D
  rw [hm] at hm'
  cases hm'
  obtain ⟨oc', od', dV, kV, doc, pm, an, cdv, ct, osl', e, lk', _, hD, _⟩ := F'.ex
  rw [lk] at lk'
  cases lk'
  rcases hD with ⟨_, rfl⟩ | ⟨z, _⟩
  · refine ⟨f, fd, g, F, hm, kp, ⟨fun s ws hl => ?_, rel⟩⟩
    rw [e]
    exact .of_eq (h kV doc pm an cdv ct ws hl)
  · exact absurd rfl z
section
variable {X : Cx} {k j : Nat} {x : Str} {ps ks : List Str} {sp : Sp} {p pos : Pos} {kws : List Keyword} {tk : TA} {gV : List V → List V}
theorem pe_kw0 (c : ClK CX0 X.prog X.w X.K X.mg X.base k x ps sp ks gV) (hr : Room j X.A) (hk : k ≤ j) (hg : Gl X x)
    (hkw : PK X kws tk) (hall : (backToKw pos (keywordEach kws X.env)).all (·.1.isSome) = true := by rfl) (hks : (backToKw pos (keywordEach kws X.env)).filterMap (·.1) = ks := by rfl)
    (nodbg : (x == ("__debug__" : Str)) = false := by decide)
    (plain : ((backTo pos (starEach [] X.env)).any (·.1) || (backToKw pos (keywordEach kws X.env)).any (·.1.isNone)) = false := by rfl) :
    PE X (.Call (.Name x p) [] kws pos) (tCallW ks.length sp gV tk) := by
  obtain ⟨f, fd, g, F, hm, kp, b⟩ := c.ex
  exact pe_kw F hr hk hg hm kp b pass0 hkw hall hks nodbg plain
theorem pe_kwX (c : ClK (L2.CX X.prog X.w) X.prog X.w X.K X.mg X.base k x ps sp ks gV) (hr : Room j X.A) (hk : k ≤ j) (hg : Gl X x)
    (hkw : PK X kws tk) (hall : (backToKw pos (keywordEach kws X.env)).all (·.1.isSome) = true := by rfl) (hks : (backToKw pos (keywordEach kws X.env)).filterMap (·.1) = ks := by rfl)
    (nodbg : (x == ("__debug__" : Str)) = false := by decide)
    (plain : ((backTo pos (starEach [] X.env)).any (·.1) || (backToKw pos (keywordEach kws X.env)).any (·.1.isNone)) = false := by rfl) :
    PE X (.Call (.Name x p) [] kws pos) (tCallW ks.length sp gV tk) := by
  obtain ⟨f, fd, g, F, hm, kp, b⟩ := c.ex
  exact pe_kw F hr hk hg hm kp b passL hkw hall hks nodbg plain
end
theorem rel1 {zs : List V} {ws : List Value} (r : Vals zs ws) : Vals (id zs) (id ws) := r
def flip2 {α : Type} : List α → List α
  | [b, t] => [t, b]
  | l => l
theorem rel2 {zs : List V} {ws : List Value} (r : Vals zs ws) : Vals (flip2 zs) (flip2 ws) := by
  cases r with
  | nil => exact .nil
  | cons r1 r2 =>
    cases r2 with
    | nil => exact .cons r1 .nil
    | cons r3 r4 =>
      cases r4 with
      | nil => exact .cons r3 (.cons r1 .nil)
      | cons r5 r6 => exact .cons r1 (.cons r3 (.cons r5 r6))
/-! ### what stands beside the purse -/
def hide (p : Addr) (H : Hp) : Hp := fun b => if b = p then none else H b
theorem hide_ne {p b : Addr} {H : Hp} (h : b ≠ p) : hide p H b = H b := if_neg h
theorem hide_same {p : Addr} {H : Hp} : Same (hide p H) H := fun b o e => by
  by_cases h : b = p
  · have e' : (none : Option HO) = some o := (if_pos h).symm.trans e
    cases e'
  · rw [hide_ne h] at e
    exact e
theorem But.hide {p : Addr} {H H' : Hp} (h : But p H H') : Same (hide p H) (hide p H') := fun b o e => by
  by_cases hb : b = p
  · have e' : (none : Option HO) = some o := (if_pos hb).symm.trans e
    cases e'
  · rw [hide_ne hb] at e ⊢
    exact h b o hb e
theorem Same.but {p : Addr} {H H' : Hp} (h : Same H H') : But p H H' := fun b o _ e => h b o e
theorem PurseAt.same {p : Addr} {c : Int} {H H' : Hp} (P : PurseAt H p c) (h : Same H H') : PurseAt H' p c := by
  obtain ⟨a, b, e, r⟩ := P.ex
  exact ⟨⟨a, b, h _ _ e, r⟩, P.c0⟩
theorem PurseAt.at {p q : Addr} {c : Int} {H : Hp} (P : PurseAt H p c) (n : H q = none) : q ≠ p := by
  obtain ⟨a, b, e, r⟩ := P.ex
  intro z
  rw [z, e] at n
  cases n
theorem mk_at {p q : Addr} {H : Hp} {c : Int} (o : HO) (P : PurseAt H p c) (n : H q = none) : ∃ H', upd H q o = H' ∧ PurseAt H' p c ∧ But p H H' ∧ hide p H' q = some o := by
  have s : Same H (upd H q o) := fun b u e => by
    rw [upd_ne (ne_of_none e n)]
    exact e
  refine ⟨_, rfl, P.same s, Same.but s, ?_⟩
  rw [hide_ne (P.at n), upd_same]
/-! ### odd things -/
structure Small0 (d : PyData) : Prop where
  sh : d.showable = true
  lv : d.leavesShort 100 = true
  wt : d.weight ≤ 200
  dp : d.depth ≤ 5
theorem int_short {i : Int} (h : i.natAbs < 10 ^ 20) : PyData.leavesShort 100 (.int i) = true := by
  have e := int_text_length_le10 (k := 20) (by decide) h
  unfold PyData.leavesShort
  refine decide_eq_true ?_
  show (Str.ofString (toString i)).length ≤ 100
  rw [PySem.ofString_length]
  omega
theorem int_shows {i : Int} (h : i.natAbs < 10 ^ 20) : PyData.showable (.int i) = true := by
  unfold PyData.showable
  refine decide_eq_true ?_
  have h1 : i.natAbs < 2 ^ 1920 := Nat.lt_trans h (by decide +kernel)
  exact PySem.Flt.log2_lt_of (by decide) h1
theorem int_weight {i : Int} (h : i.natAbs < 10 ^ 20) : PyData.weight (.int i) ≤ 67 := by
  have h1 : i.natAbs < 2 ^ 67 := Nat.lt_trans h (by decide +kernel)
  have h2 : i.natAbs.log2 < 67 := PySem.Flt.log2_lt_of (by decide) h1
  simp only [PyData.weight]
  split <;> omega
theorem small_pair {i j : Int} (hi : i.natAbs < 10 ^ 20) (hj : j.natAbs < 10 ^ 20) : Small0 (.tuple [.int i, .int j]) := by
  refine ⟨?_, ?_, ?_, ?_⟩
  · simp only [PyData.showable, PyData.showableAll, Bool.and_true, Bool.and_eq_true]
    exact ⟨int_shows hi, int_shows hj⟩
  · simp only [PyData.leavesShort, PyData.leavesShortAll, Bool.and_true, Bool.and_eq_true]
    exact ⟨int_short hi, int_short hj⟩
  · have h1 := int_weight hi
    have h2 := int_weight hj
    simp only [PyData.weight, PyData.weightAll] at h1 h2 ⊢
    omega
  · simp only [PyData.depth, PyData.depthAll]
    decide
theorem small_list {i j : Int} (hi : i.natAbs < 10 ^ 20) (hj : j.natAbs < 10 ^ 20) : Small0 (.list [.int i, .int j]) := by
  refine ⟨?_, ?_, ?_, ?_⟩
  · simp only [PyData.showable, PyData.showableAll, Bool.and_true, Bool.and_eq_true]
    exact ⟨int_shows hi, int_shows hj⟩
  · simp only [PyData.leavesShort, PyData.leavesShortAll, Bool.and_true, Bool.and_eq_true]
    exact ⟨int_short hi, int_short hj⟩
  · have h1 := int_weight hi
    have h2 := int_weight hj
    simp only [PyData.weight, PyData.weightAll] at h1 h2 ⊢
    omega
  · simp only [PyData.depth, PyData.depthAll]
    decide
theorem ne_if {b : Bool} {A B : Prop} (e : b = true) (h : B) : if (!b) = true then A else B := by
  rw [e]
  exact h
theorem as_val {v w : V} {H : Hp} {Q : VK} (e : v = w) (h : Q w H) : Q v H := by
  rw [e]
  exact h
theorem at_mem {xs : List V} {d : Int} (h0 : 0 ≤ d) (h1 : d < (xs.length : Int)) : ∃ v, atI xs d = some v ∧ v ∈ xs := by
  have h2 : d.toNat < xs.length := by omega
  exact ⟨xs[d.toNat], at_of (j := d.toNat) (by omega) (by simp [h2]), List.getElem_mem h2⟩
theorem mk_s {q : Addr} {H : Hp} (o : HO) (n : H q = none) : ∃ H', upd H q o = H' ∧ Same H H' ∧ H' q = some o :=
  ⟨_, rfl, fun b u e => (upd_ne (ne_of_none e n)).trans e, upd_same⟩
end G1
set_option maxHeartbeats 4000000
/-! ### two ways -/
namespace G1
theorem if_no {b : Bool} {A B : Prop} (e : b = false) (h : B) : if b = true then A else B := by
  rw [e]
  exact h
theorem if_yes {b : Bool} {A B : Prop} (e : b = true) (h : A) : if b = true then A else B := by
  rw [e]
  exact h
open PySem PySem.Spec PyProof.Rows L2
theorem units1 {k : Nat} {A : Around} (r : Room k A) : A.units + 1 < cLine := by
  have := r.un
  omega
theorem seq_c {x : V} {i : Nat} {b : TS} {D : Ends} {σ σ' : L2.St} {H : Hp} (e : σ.set i (some x) = σ') (h : b D σ' H) : tSeq (tAsg (tC x) (gName i)) b D σ H := by
  subst e
  exact h
theorem seq_while {c : TT} {tb b : TS} {D : Ends} {σ : L2.St} {H : Hp} (Pv : L2.St → Hp → Prop) (μ : L2.St → Hp → Nat) (h0 : Pv σ H)
    (hs : ∀ σ H, Pv σ H → c σ H fun k H1 => if k = true then tb { D with nx := fun σ' H' => Pv σ' H' ∧ μ σ' H' < μ σ H, ct := fun σ' H' => Pv σ' H' ∧ μ σ' H' < μ σ H, bk := b D } σ H1 else b D σ H1)
    (mono : ∀ σ H Q Q', (∀ k H1, Q k H1 → Q' k H1) → c σ H Q → c σ H Q') : tSeq (tWhile c tb) b D σ H :=
  while_by (D := { D with nx := b D }) Pv μ h0 hs mono
theorem st1 {σ σ' : L2.St} {H : Hp} {f : L2.St → Hp → Prop} (e : σ = σ') (h : f σ' H) : f σ H := by
  subst e
  exact h
end G1
set_option maxHeartbeats 8000000
namespace G1
open PySem PySem.Spec PyProof.Rows L2 SY TXS OW
def spTokAt : Sp := fun vs H Q _ => ∃ (z : Str) (i : Nat) (k : Tk) (r : List Nat), vs = [.str z, .int i] ∧ z.cps.toList.drop i = k.codes ++ r ∧ k.ok ∧ (k.word = true → headL r = false) ∧ z.length ≤ sizeLine ∧ Q (.str k.str) H
/-! ### pieces of strings -/
theorem zlen (z : Str) : z.length = z.cps.toList.length := by
  show z.cps.size = _
  rw [Array.length_toList]
theorem str_eq {x y : Str} (h : x.cps.toList = y.cps.toList) : x = y := by
  cases x
  cases y
  congr
  exact Array.toList_inj.mp h
theorem cutS_nat (z : Str) (i n : Nat) (h : i + n ≤ z.length) : (cutS z (some (i : Int)) (some ((i + n : Nat) : Int))).cps.toList = (z.cps.toList.drop i).take n := by
  unfold cutS
  rw [HT.sIx_nat, HT.sIx_nat, Nat.min_eq_left (by omega : i ≤ z.length), Nat.min_eq_left h, Nat.add_sub_cancel_left]
theorem drop_at {l : List Nat} {i : Nat} {c : Nat} {r : List Nat} (h : l.drop i = c :: r) : l[i]? = some c ∧ l.drop (i + 1) = r := by
  refine ⟨?_, ?_⟩
  · have e : (l.drop i)[0]? = some c := by rw [h]; rfl
    rw [List.getElem?_drop] at e
    exact e
  · have e : (l.drop i).drop 1 = r := by rw [h]; rfl
    rw [List.drop_drop] at e
    exact e
theorem drop_len {l : List Nat} {i : Nat} {a b : List Nat} (h : l.drop i = a ++ b) : a.length + b.length = l.length - i := by
  have e := congrArg List.length h
  rw [List.length_drop, List.length_append] at e
  exact e.symm
theorem drop_more {l : List Nat} {i : Nat} {a b : List Nat} (h : l.drop i = a ++ b) : l.drop (i + a.length) = b := by
  rw [← List.drop_drop, h, List.drop_left]
theorem cutS_two (z : Str) (i : Nat) (h : i ≤ z.length) : (cutS z (some (i : Int)) (some ((i : Int) + 2))).cps.toList = (z.cps.toList.drop i).take 2 := by
  have e : ((i : Int) + 2) = ((i + 2 : Nat) : Int) := by omega
  rw [e]
  by_cases le : i + 2 ≤ z.length
  · exact cutS_nat z i 2 le
  · unfold cutS
    have l := zlen z
    rw [HT.sIx_nat, HT.sIx_nat, Nat.min_eq_left h, Nat.min_eq_right (by omega : z.length ≤ i + 2)]
    show (z.cps.toList.drop i).take (z.length - i) = _
    rw [List.take_of_length_le (by rw [List.length_drop]; omega), List.take_of_length_le (by rw [List.length_drop]; omega)]
theorem codes_pos (k : Tk) : 0 < k.codes.length := by
  cases k with
  | sg k => cases k <;> decide
  | lt c => exact Nat.one_pos
  | _ => decide
theorem one_str (c : Nat) : (⟨#[c]⟩ : Str) = SY.one c := rfl
theorem let_or {H : Hp} (c : Nat) : (∃ d, V.str ⟨#[c]⟩ = .str (SY.one d) ∧ (Sy.nm d).ok ∧ isL c = true) ∨ (Kn H (.str ⟨#[c]⟩) ∧ NoLet (.str ⟨#[c]⟩) ∧ isL c = false) := by
  cases h : isL c with
  | true => exact .inl ⟨c, rfl, of_decide_eq_true (p := 97 ≤ c ∧ c ≤ 122) h, rfl⟩
  | false => exact .inr ⟨trivial, .off (of_decide_eq_false h), rfl⟩
def tLet : TT := tAnd (tTest (tOp (rI0 fun i j => .bl (decide (i < j))) (tVar 2) (tCB (fun xs H Q => ∃ z, xs = [.str z] ∧ z.length ≤ sizeLine ∧ Q (.int z.length) H) (tCons (tVar 0) tNil))))
  (tB (tCall spLetter [] E0 (tCons (tOp rIxS (tVar 0) (tVar 2)) tNil)))
theorem tLet_ok {z : Str} {a : Option V} {e : Nat} {H : Hp} {Q : Bool → Hp → Prop} (zl : z.length ≤ sizeLine) (le : e ≤ z.length) (q : Q (headL (z.cps.toList.drop e)) H) : tLet [some (.str z), a, some (.int (e : Nat))] H Q := by
  have len := zlen z
  refine ⟨_, rfl, _, rfl, z, rfl, zl, _, _, rfl, rfl, _, rfl, ?_⟩
  cases hd : z.cps.toList.drop e with
  | nil =>
    have l0 : e = z.length := by
      have := congrArg List.length hd
      rw [List.length_drop] at this
      have z0 : ([] : List Nat).length = 0 := rfl
      omega
    rw [hd] at q
    refine if_no (decide_eq_false (by omega)) ?_
    exact q
  | cons c r =>
    rw [hd] at q
    obtain ⟨h1, _⟩ := drop_at hd
    have lt := (List.getElem?_eq_some_iff.mp h1).1
    refine if_yes (decide_eq_true (by omega)) ?_
    exact ⟨_, rfl, _, rfl, z, _, c, rfl, rfl, zl, atI_nat h1, .str ⟨#[c]⟩, isL c, rfl, let_or c, _, rfl, q⟩
theorem tLet_mono {σ : L2.St} {H : Hp} {Q Q' : Bool → Hp → Prop} (m : ∀ b H1, Q b H1 → Q' b H1) (h : tLet σ H Q) : tLet σ H Q' := by
  obtain ⟨v1, e1, v2, e2, z, e3, zl, i, j, e4, e5, b, e6, h⟩ := h
  refine ⟨v1, e1, v2, e2, z, e3, zl, i, j, e4, e5, b, e6, ?_⟩
  cases b with
  | false => exact m _ _ h
  | true =>
    obtain ⟨w1, f1, w2, f2, z2, k, c, f3, f4, zl2, f5, y, b2, f6, f7, c2, f8, h⟩ := h
    exact ⟨w1, f1, w2, f2, z2, k, c, f3, f4, zl2, f5, y, b2, f6, f7, c2, f8, m _ _ h⟩
section
variable {P : Program} {w : World} {K : PySem.W.Frag} {mg : Str → Option Value} {base : Heap} {C : Addr}
theorem scTokAt : FnScope ["text", "at", "end"] ["text", "at"] (defScope sTokenAt) := ⟨rfl, rfl, rfl, by decide +kernel, rfl, by decide +kernel, by decide +kernel⟩
theorem cl_tokat (D : DefAt K mg "_token_at" sTokenAt) (B : Blt mg) (cI : Cl CX0 P w K mg base 1 "is_letter" ["thing"] spLetter) : Cl CX0 P w K mg base 2 "_token_at" ["text", "at"] spTokAt := by
  obtain ⟨f, fd, F, hm⟩ := D
  refine cl_of F hm (F.ok scTokAt (fun vs H Q E h => ?_) (fun cdv A outer s H vs Q E hr h => ⟨_, PSs.nox (pss_cons
      (ps_set (i := 2) scTokAt.nd rfl (Or.inl rfl) (pv 1))
      (pss_cons (ps_while PassesOwn.never (PW.pt (pw_and (pt_cmpR op_lt (pv 2) (pe_callB call_len_str (by rfl) B.len PySem.boot_len (pa_cons (pv 0) pa_nil)) (nomark _))
          (pw_and1 (pt_val (pe_c0 cI hr (by decide) (by rfl) (pa_cons (pe_ix ix_str (pv 0) (pv 2) (fun _ _ => rfl)) pa_nil))))))
        (pss_one (ps_aug (i := 2) scTokAt.nd rfl (Or.inl rfl) pe_int ip_add)))
      (pss_cons (ps_if (pt_cmpR op_gt (pv 2) (pv 1) (nomark _)) (pss_one (ps_ret (pe_slice sl_str (pv 0) (po_some (pv 1)) (po_some (pv 2))))) pss_nil)
      (pss_cons (ps_if (pt_cmpR op_eq (pe_slice sl_str (pv 0) (po_some (pv 1)) (po_some (pe_op op_add (pv 1) pe_int))) pe_str (nomark _)) (pss_one (ps_ret pe_str)) pss_nil)
      (pss_one (ps_ret (pe_ifExp (pt_cmpR op_in_sign (pe_ix ix_str (pv 0) (pv 1) (fun _ _ => rfl)) pe_str (by rfl)) (pe_ix ix_str (pv 0) (pv 1) (fun _ _ => rfl)) pe_str))))))), ?_⟩)) fun _ _ _ _ _ _ us hl => match us, hl with | [_, _], _ => rfl
  · obtain ⟨z, i, k, r, rfl, _⟩ := h
    rfl
  · obtain ⟨z, i, k, r, rfl, hd, ok, bd, zl, q⟩ := h
    refine ⟨_, rfl, ?_⟩
    refine gn1 (σ' := [some (.str z), some (.int i), some (.int i)]) rfl ?_
    dsimp only
    unfold tSeq
    -- what is read: letters, then no letter
    obtain ⟨pre, rest, hpr, hl, hn⟩ : ∃ pre rest, z.cps.toList.drop i = pre ++ rest ∧ (∀ c ∈ pre, isL c = true) ∧ headL rest = false ∧ (if k.word = true then pre = k.codes else pre = []) := by
      cases w : k.word with
      | true => exact ⟨k.codes, r, hd, (word_codes ok w).1, bd w, rfl⟩
      | false =>
        refine ⟨[], k.codes ++ r, hd, (fun _ z => nomatch z), ?_, rfl⟩
        rcases plain_codes w with ⟨c, ec, at_⟩ | ec
        · rw [ec]
          simp only [List.mem_cons, List.not_mem_nil, or_false] at at_
          show isL c = false
          unfold isL
          exact decide_eq_false (by omega)
        · rw [ec]
          rfl
    obtain ⟨hn, hw⟩ := hn
    have len := zlen z
    have ll := drop_len hpr
    have il : i < z.length := by
      have := drop_len hd
      have := codes_pos k
      omega
    have letter : ∀ {j : Nat} {c : Nat}, pre[j]? = some c → z.cps.toList[i + j]? = some c := fun {j c} h => by
      have e : (z.cps.toList.drop i)[j]? = some c := by
        rw [hpr, List.getElem?_append_left (List.getElem?_eq_some_iff.mp h).1]
        exact h
      rw [List.getElem?_drop] at e
      exact e
    have hre := drop_more hpr
    refine while_by (c := tLet) (fun σ H' => ∃ j : Nat, j ≤ pre.length ∧ σ = [some (.str z), some (.int (i : Int)), some (.int ((i + j : Nat) : Int))] ∧ H' = H) (fun σ _ => match σ with | [_, _, some (.int y)] => pre.length + i - y.toNat | _ => 0) ⟨0, Nat.zero_le _, rfl, rfl⟩ ?_ (fun σ H Q Q' m h => tLet_mono m h)
    rintro σ H' ⟨j, hj, rfl, rfl⟩
    refine tLet_ok zl (by omega) ?_
    by_cases lt : j < pre.length
    · have hc := List.getElem?_eq_getElem lt
      have e : headL (z.cps.toList.drop (i + j)) = true := by
        have h1 := letter hc
        have l2 := (List.getElem?_eq_some_iff.mp h1)
        rw [List.drop_eq_getElem_cons l2.1, l2.2]
        exact hl _ (List.getElem_mem lt)
      refine if_yes e ?_
      refine ⟨_, rfl, _, _, rfl, rfl, ⟨j + 1, lt, rfl, rfl⟩, ?_⟩
      show pre.length + i - (((i + j : Nat) : Int) + 1).toNat < pre.length + i - ((i + j : Nat) : Int).toNat
      omega
    · have ej : j = pre.length := by omega
      rw [ej]
      refine if_no (by rw [hre]; exact hn) ?_
      refine ⟨_, rfl, _, rfl, _, _, rfl, rfl, _, rfl, ?_⟩
      cases w : k.word with
      | true =>
        rw [w] at hw
        have hw' : pre = k.codes := hw
        obtain ⟨_, c, rr, ec, _⟩ := word_codes ok w
        have pos : 0 < pre.length := by rw [hw', ec]; exact Nat.succ_pos _
        refine if_yes (decide_eq_true (by omega)) ?_
        refine ⟨_, rfl, _, rfl, _, rfl, _, rfl, _, rfl, z, rfl, zl, ?_⟩
        have ek : cutS z (some (i : Int)) (some ((i + pre.length : Nat) : Int)) = k.str := str_eq (by
          rw [cutS_nat z i pre.length (by omega), hpr, List.take_left, hw', k.str_codes])
        rw [ek]
        exact q
      | false =>
        rw [w] at hw
        have hw' : pre = [] := hw
        rw [hw']
        refine if_no (decide_eq_false (by show ¬ (i : Int) < ((i + 0 : Nat) : Int); omega)) ?_
        refine ⟨_, rfl, _, rfl, _, rfl, _, rfl, _, _, rfl, rfl, _, rfl, z, rfl, zl, rfl, _, rfl, ?_⟩
        rcases plain_codes w with ⟨c, ec, at_⟩ | ec
        · have nd : cutS z (some (i : Int)) (some ((i : Int) + 2)) ≠ "->" := fun e => by
            have h1 := cutS_two z i (Nat.le_of_lt il)
            rw [e, hd, ec] at h1
            have h2 : (45 : Nat) = c := by
              have := congrArg List.head? h1
              have l1 : (("->" : Str).cps.toList).head? = some 45 := by decide
              rw [l1] at this
              have t2 : ((([c] ++ r).take 2).head?) = some c := rfl
              rw [t2] at this
              exact Option.some.inj this
            simp only [List.mem_cons, List.not_mem_nil, or_false] at at_
            omega
          refine if_no (decide_eq_false fun e => nd (by injection e)) ?_
          have hd' := hd
          rw [ec] at hd'
          have h1 := (drop_at hd').1
          have ek : (⟨#[c]⟩ : Str) = k.str := str_eq (by rw [k.str_codes, ec])
          refine ⟨_, rfl, _, rfl, z, _, c, rfl, rfl, zl, atI_nat h1, c, _, rfl, rfl, _, rfl, if_yes ?_ ?_⟩
          · refine decide_eq_true ?_
            have el : ("&()01" : Str).cps.toList = [38, 40, 41, 48, 49] := by decide
            rw [el]
            simp only [List.mem_cons, List.not_mem_nil, or_false] at at_ ⊢
            omega
          · refine ⟨_, rfl, _, rfl, z, _, c, rfl, rfl, zl, atI_nat h1, ?_⟩
            rw [ek]
            exact q
        · have ek : cutS z (some (i : Int)) (some ((i : Int) + 2)) = "->" := str_eq (by
            rw [cutS_two z i (Nat.le_of_lt il), hd, ec]
            have el : ("->" : Str).cps.toList = [45, 62] := by decide
            rw [el]
            rfl)
          have es : k.str = "->" := str_eq (by
            rw [k.str_codes, ec]
            have el : ("->" : Str).cps.toList = [45, 62] := by decide
            rw [el])
          rw [es] at q
          refine if_yes (decide_eq_true (congrArg V.str ek)) ?_
          exact q
end
end G1
set_option maxHeartbeats 4000000
/-! ### any row of signs as tokens; the first that cannot stand -/
namespace SY
open PySem PySem.Spec PyProof.Rows L2
/-- a token of any row: a run of letters, the arrow, or one sign -/
def TokC (w r : List Nat) : Prop := (w ≠ [] ∧ (∀ c ∈ w, isL c = true) ∧ headL r = false) ∨ w = [45, 62] ∨ ∃ c, w = [c] ∧ isL c = false ∧ c ≠ 32 ∧ ¬ (c = 45 ∧ r.head? = some 62)
inductive Lex : Nat → List Nat → List (Nat × Str) → Prop
  | nil {i : Nat} : Lex i [] []
  | blank {i : Nat} {r : List Nat} {ts : List (Nat × Str)} (h : Lex (i + 1) r ts) : Lex i (32 :: r) ts
  | tok {i : Nat} {r : List Nat} {ts : List (Nat × Str)} (k : Str) (b : TokC k.cps.toList r) (h : Lex (i + k.length) r ts) : Lex i (k.cps.toList ++ r) ((i, k) :: ts)
theorem tokC_pos {w r : List Nat} (h : TokC w r) : 0 < w.length := by
  rcases h with ⟨n, _⟩ | rfl | ⟨c, rfl, _⟩
  · exact List.length_pos_iff.mpr n
  · decide
  · exact Nat.one_pos
theorem strlen (z : Str) : z.length = z.cps.toList.length := by
  show z.cps.size = _
  rw [Array.length_toList]
theorem lex_some : ∀ (n : Nat) (i : Nat) (s : List Nat), s.length ≤ n → ∃ ts, Lex i s ts := by
  intro n
  induction n with
  | zero =>
    intro i s h
    rw [List.eq_nil_of_length_eq_zero (Nat.le_zero.mp h)]
    exact ⟨[], .nil⟩
  | succ n ih =>
    intro i s h
    have go : ∀ (w r : List Nat), s = w ++ r → TokC w r → ∃ ts, Lex i s ts := fun w r e b => by
      have p := tokC_pos b
      have l := congrArg List.length e
      rw [List.length_append] at l
      obtain ⟨ts, ht⟩ := ih (i + (⟨w.toArray⟩ : Str).length) r (by omega)
      refine ⟨(i, ⟨w.toArray⟩) :: ts, ?_⟩
      rw [e]
      exact Lex.tok (⟨w.toArray⟩ : Str) b ht
    cases s with
    | nil => exact ⟨[], .nil⟩
    | cons c r =>
      by_cases e : c = 32
      · rw [e]
        obtain ⟨ts, ht⟩ := ih (i + 1) r (by rw [List.length_cons] at h; omega)
        exact ⟨ts, .blank ht⟩
      · cases l : isL c with
        | true =>
          refine go ((c :: r).takeWhile isL) ((c :: r).dropWhile isL) List.takeWhile_append_dropWhile.symm (.inl ⟨?_, ?_, ?_⟩)
          · rw [List.takeWhile_cons, if_pos l]
            exact nofun
          · intro d hd
            have q := List.all_takeWhile (l := c :: r) (p := isL)
            exact List.all_eq_true.mp q d hd
          · have q := List.head?_dropWhile_not isL (c :: r)
            cases z : (c :: r).dropWhile isL with
            | nil => rfl
            | cons d t =>
              rw [z] at q
              simpa [headL] using q
        | false =>
          by_cases a : c = 45 ∧ r.head? = some 62
          · obtain ⟨rfl, hr⟩ := a
            cases r with
            | nil => cases hr
            | cons d t =>
              have ed : d = 62 := Option.some.inj hr
              subst ed
              exact go [45, 62] t rfl (.inr (.inl rfl))
          · exact go [c] r rfl (.inr (.inr ⟨c, rfl, l, e, a⟩))
/-- what a text of a token is -/
def tkOf (z : Str) : Option Tk :=
  if z = "(" then some .opn else if z = ")" then some .cls else if z = "0" then some .zero else if z = "1" then some .one else if z = "not" then some .neg
  else if z = "&" then some (.sg .both) else if z = "->" then some (.sg .thn) else if z = "min" then some (.sg .lower) else if z = "max" then some (.sg .higher) else if z = "same" then some (.sg .same)
  else match z.cps.toList with
    | [c] => if isL c then some (.lt c) else none
    | _ => none
theorem str_ext {x y : Str} (h : x.cps.toList = y.cps.toList) : x = y := by
  cases x
  cases y
  congr
  exact Array.toList_inj.mp h
theorem tkOf_some {z : Str} {k : Tk} (h : tkOf z = some k) : k.ok ∧ z = k.str := by
  unfold tkOf at h
  by_cases e1 : z = "("
  · rw [if_pos e1] at h
    rw [← Option.some.inj h]
    exact ⟨trivial, e1⟩
  rw [if_neg e1] at h
  by_cases e2 : z = ")"
  · rw [if_pos e2] at h
    rw [← Option.some.inj h]
    exact ⟨trivial, e2⟩
  rw [if_neg e2] at h
  by_cases e3 : z = "0"
  · rw [if_pos e3] at h
    rw [← Option.some.inj h]
    exact ⟨trivial, e3⟩
  rw [if_neg e3] at h
  by_cases e4 : z = "1"
  · rw [if_pos e4] at h
    rw [← Option.some.inj h]
    exact ⟨trivial, e4⟩
  rw [if_neg e4] at h
  by_cases e5 : z = "not"
  · rw [if_pos e5] at h
    rw [← Option.some.inj h]
    exact ⟨trivial, e5⟩
  rw [if_neg e5] at h
  by_cases e6 : z = "&"
  · rw [if_pos e6] at h
    rw [← Option.some.inj h]
    exact ⟨trivial, e6⟩
  rw [if_neg e6] at h
  by_cases e7 : z = "->"
  · rw [if_pos e7] at h
    rw [← Option.some.inj h]
    exact ⟨trivial, e7⟩
  rw [if_neg e7] at h
  by_cases e8 : z = "min"
  · rw [if_pos e8] at h
    rw [← Option.some.inj h]
    exact ⟨trivial, e8⟩
  rw [if_neg e8] at h
  by_cases e9 : z = "max"
  · rw [if_pos e9] at h
    rw [← Option.some.inj h]
    exact ⟨trivial, e9⟩
  rw [if_neg e9] at h
  by_cases e10 : z = "same"
  · rw [if_pos e10] at h
    rw [← Option.some.inj h]
    exact ⟨trivial, e10⟩
  rw [if_neg e10] at h
  split at h
  · rename_i c e
    by_cases l : isL c = true
    · rw [if_pos l] at h
      rw [← Option.some.inj h]
      exact ⟨of_decide_eq_true (p := 97 ≤ c ∧ c ≤ 122) l, str_ext (by rw [e]; rfl)⟩
    · rw [if_neg l] at h
      cases h
  · cases h
theorem one_not {c : Nat} (l : 97 ≤ c ∧ c ≤ 122) {x : Str} {d : Nat} {t : List Nat} (e : x.cps.toList = d :: t) (n : d < 97 ∨ t ≠ []) : ¬ SY.one c = x := fun h => by
  have q : [c] = x.cps.toList := congrArg (fun s : Str => s.cps.toList) h
  rw [e] at q
  have a := (List.cons.inj q).1
  have b := (List.cons.inj q).2
  rcases n with n | n
  · omega
  · exact n b.symm
theorem tkOf_str : ∀ {k : Tk}, k.ok → tkOf k.str = some k
  | .lt c, ok => by
    have l : 97 ≤ c ∧ c ≤ 122 := ok
    show tkOf (SY.one c) = _
    unfold tkOf
    rw [if_neg (one_not l (d := 40) (t := []) (by decide) (.inl (by decide))), if_neg (one_not l (d := 41) (t := []) (by decide) (.inl (by decide))), if_neg (one_not l (d := 48) (t := []) (by decide) (.inl (by decide))),
      if_neg (one_not l (d := 49) (t := []) (by decide) (.inl (by decide))), if_neg (one_not l (d := 110) (t := [111, 116]) (by decide) (.inr nofun)), if_neg (one_not l (d := 38) (t := []) (by decide) (.inl (by decide))),
      if_neg (one_not l (d := 45) (t := [62]) (by decide) (.inl (by decide))), if_neg (one_not l (d := 109) (t := [105, 110]) (by decide) (.inr nofun)), if_neg (one_not l (d := 109) (t := [97, 120]) (by decide) (.inr nofun)),
      if_neg (one_not l (d := 115) (t := [97, 109, 101]) (by decide) (.inr nofun))]
    show (if isL c = true then some (Tk.lt c) else none) = _
    have lc : isL c = true := decide_eq_true l
    rw [if_pos lc]
  | .zero, _ => by decide
  | .one, _ => by decide
  | .neg, _ => by decide
  | .opn, _ => by decide
  | .cls, _ => by decide
  | .sg k, _ => by cases k <;> decide
/-- one token read, whatever it is -/
def stepZ (s : List Str × Str) (z : Str) : Option (List Str × Str) := (tkOf z).bind (stepO s)
/-- the place of the first token that cannot stand where it does; n: the length -/
def placeO (n : Nat) : List Str × Str → List (Nat × Str) → Option Nat
  | s, [] => if s.2 = "end" then none else some n
  | s, (i, z) :: ts => match stepZ s z with
    | none => some i
    | some s' => placeO n s' ts
/-- what the program's reader makes of the tokens: it stops at the first sign that is none -/
def plainZ (z : Str) : Bool := match z.cps.toList with
  | [c] => isL c || decide (c ∈ [38, 40, 41, 48, 49])
  | _ => true
def cutP : List (Nat × Str) → List (Nat × Str)
  | [] => []
  | (i, z) :: ts => if plainZ z then (i, z) :: cutP ts else [(i, "")]
theorem cut_plain {i : Nat} {z : Str} {ts : List (Nat × Str)} (h : plainZ z = true) : cutP ((i, z) :: ts) = (i, z) :: cutP ts := if_pos h
theorem cut_bad {i : Nat} {z : Str} {ts : List (Nat × Str)} (h : plainZ z = false) : cutP ((i, z) :: ts) = [(i, ("" : Str))] := if_neg (Bool.eq_false_iff.mp h)
theorem tkOf_empty : tkOf "" = none := by decide
theorem plain_of {z : Str} {k : Tk} (h : tkOf z = some k) : plainZ z = true := by
  obtain ⟨ok, rfl⟩ := tkOf_some h
  unfold plainZ
  rw [k.str_codes]
  cases k with
  | lt c =>
    have l : isL c = true := decide_eq_true (p := 97 ≤ c ∧ c ≤ 122) ok
    show (isL c || _) = true
    rw [l]
    rfl
  | sg k => cases k <;> decide
  | _ => decide
theorem place_cut (n : Nat) : ∀ (ts : List (Nat × Str)) (s : List Str × Str), placeO n s (cutP ts) = placeO n s ts
  | [], s => rfl
  | (i, z) :: ts, s => by
    unfold cutP
    cases h : plainZ z with
    | false =>
      rw [if_neg (by decide)]
      have no : stepZ s z = none := by
        cases q : tkOf z with
        | none => unfold stepZ; rw [q]; rfl
        | some k => rw [plain_of q] at h; cases h
      have n2 : stepZ s "" = none := by unfold stepZ; rw [tkOf_empty]; rfl
      unfold placeO
      rw [no, n2]
    | true =>
      rw [if_pos rfl]
      unfold placeO
      cases stepZ s z with
      | none => rfl
      | some s' => exact place_cut n ts s'
theorem step_sign {b : List Str} {k : Tk} {s2 : List Str × Str} (h : stepO (b, "sign") k = some s2) : ∃ kk x r, k = .sg kk ∧ b = x :: r ∧ s2 = (("close" : Str) :: r, ("saying" : Str)) := by
  cases k with
  | sg kk =>
    cases b with
    | nil => cases h
    | cons x r => exact ⟨kk, x, r, rfl, rfl, (Option.some.inj h).symm⟩
  | _ => cases b <;> cases h
theorem step_close {b : List Str} {k : Tk} {s2 : List Str × Str} (h : stepO (b, "close") k = some s2) : ∃ x y r, k = .cls ∧ b = x :: y :: r ∧ s2 = (y :: r, y) := by
  cases k with
  | cls =>
    rcases b with _ | ⟨x, _ | ⟨y, r⟩⟩
    · cases h
    · cases h
    · exact ⟨x, y, r, rfl, rfl, (Option.some.inj h).symm⟩
  | _ => rcases b with _ | ⟨x, _ | ⟨y, r⟩⟩ <;> cases h
/-! ### what always holds of the reader's state -/
def InvO (s : List Str × Str) : Prop := ∃ p : List Str, (∀ x ∈ p, x = "sign" ∨ x = "close") ∧ s.1 = p ++ [(("end" : Str))] ∧ (s.2 = "saying" ∨ s.1.head? = some s.2)
theorem inv_start : InvO (["end"], "saying") := ⟨[], (fun _ z => (List.not_mem_nil z).elim), rfl, .inl rfl⟩
theorem InvO.cons {b : List Str} {w : Str} (h : InvO (b, w)) : ∃ x r, b = x :: r := by
  obtain ⟨p, _, e, _⟩ := h
  have e' : b = p ++ [(("end" : Str))] := e
  cases p with
  | nil => exact ⟨_, _, e'⟩
  | cons x r => exact ⟨_, _, e'⟩
theorem InvO.close {b : List Str} (h : InvO (b, "close")) : ∃ x y r, b = x :: y :: r := by
  obtain ⟨p, _, e, hd⟩ := h
  have e' : b = p ++ [(("end" : Str))] := e
  cases p with
  | nil =>
    exfalso
    rcases hd with z | z
    · have z' : ("close" : Str) = "saying" := z
      exact absurd z' (by decide)
    · have z' : b.head? = some "close" := z
      rw [e'] at z'
      have := Option.some.inj z'
      exact absurd this (by decide)
  | cons x r =>
    cases r with
    | nil => exact ⟨_, _, _, e'⟩
    | cons y r => exact ⟨_, _, _, e'⟩
theorem inv_step {s s' : List Str × Str} {k : Tk} (h : InvO s) (st : stepO s k = some s') : InvO s' := by
  obtain ⟨b, w⟩ := s
  obtain ⟨x, r, eb⟩ := h.cons
  obtain ⟨p, hp, e, hd⟩ := h
  have e' : b = p ++ [(("end" : Str))] := e
  by_cases w1 : w = "saying"
  · subst w1
    cases k with
    | opn =>
      by_cases le : b.length ≤ 60
      · have z : stepO (b, "saying") .opn = some (("sign" : Str) :: b, ("saying" : Str)) := by
          show (if b.length ≤ 60 then _ else _) = _
          rw [if_pos le] <;> rfl
        rw [z] at st
        rw [← Option.some.inj st]
        refine ⟨"sign" :: p, fun y hy => ?_, by show ("sign" : Str) :: b = _; rw [e']; rfl, .inl rfl⟩
        rcases List.mem_cons.mp hy with q | q
        · exact .inl q
        · exact hp y q
      · have z : stepO (b, "saying") .opn = none := by
          show (if b.length ≤ 60 then _ else _) = _
          rw [if_neg le] <;> rfl
        rw [z] at st
        cases st
    | neg =>
      rw [eb] at st
      rw [← Option.some.inj st, ← eb]
      exact ⟨p, hp, e', .inl rfl⟩
    | lt c =>
      rw [eb] at st
      rw [← Option.some.inj st]
      exact ⟨p, hp, by rw [← e', eb], .inr rfl⟩
    | zero =>
      rw [eb] at st
      rw [← Option.some.inj st]
      exact ⟨p, hp, by rw [← e', eb], .inr rfl⟩
    | one =>
      rw [eb] at st
      rw [← Option.some.inj st]
      exact ⟨p, hp, by rw [← e', eb], .inr rfl⟩
    | cls =>
      rw [eb] at st
      cases st
    | sg k =>
      rw [eb] at st
      cases st
  · have hd' : b.head? = some w := hd.resolve_left w1
    by_cases w2 : w = "sign"
    · subst w2
      obtain ⟨kk, x', r', rfl, eb', es⟩ := step_sign st
      rw [es]
      cases p with
      | nil =>
        rw [e'] at hd'
        exact absurd (Option.some.inj hd') (by decide)
      | cons y p =>
        have e2 : r' = p ++ [(("end" : Str))] := by
          rw [eb'] at e'
          exact (List.cons.inj e').2
        refine ⟨"close" :: p, fun y hy => ?_, by rw [e2]; rfl, .inl rfl⟩
        rcases List.mem_cons.mp hy with q | q
        · exact .inr q
        · exact hp y (List.mem_cons_of_mem _ q)
    · by_cases w3 : w = "close"
      · subst w3
        obtain ⟨x', y', r', rfl, eb', es⟩ := step_close st
        rw [es]
        cases p with
        | nil =>
          rw [e'] at eb'
          cases eb'
        | cons y p =>
          have e2 : y' :: r' = p ++ [(("end" : Str))] := by
            rw [eb'] at e'
            exact (List.cons.inj e').2
          exact ⟨p, fun y hy => hp y (List.mem_cons_of_mem _ hy), e2, .inr rfl⟩
      · have e0 : stepO (b, w) k = none := by
          show (if w = "saying" then _ else if w = "sign" then _ else if w = "close" then _ else none) = none
          rw [if_neg w1, if_neg w2, if_neg w3]
        rw [e0] at st
        cases st
/-! ### what runs to its end is a saying -/
theorem step_end {b : List Str} {k : Tk} : stepO (b, "end") k = none := by
  cases k <;> rcases b with _ | ⟨x, _ | ⟨y, r⟩⟩ <;> rfl
theorem run_cons {s e : List Str × Str} {k : Tk} {ks : List Tk} (h : runO s (k :: ks) = some e) : ∃ s1, stepO s k = some s1 ∧ runO s1 ks = some e := by
  unfold runO at h
  cases q : stepO s k with
  | none =>
    rw [q] at h
    cases h
  | some s1 =>
    rw [q] at h
    exact ⟨s1, rfl, h⟩
theorem say_end : ("saying" : Str) ≠ "end" := by decide
theorem sign_end : ("sign" : Str) ≠ "end" := by decide
theorem close_end : ("close" : Str) ≠ "end" := by decide
theorem run_saying : ∀ (n : Nat) {x : Str} {b : List Str} {ks : List Tk} {e : List Str × Str}, ks.length ≤ n → (∀ k ∈ ks, k.ok) → runO (x :: b, "saying") ks = some e → e.2 = "end" → (x :: b).length ≤ 61 →
    ∃ (t : Sy) (ks' : List Tk), ks = t.toks ++ ks' ∧ t.ok ∧ runO (x :: b, x) ks' = some e ∧ (x :: b).length + t.opens ≤ 61 := by
  intro n
  induction n with
  | zero =>
    intro x b ks e hn _ run he _
    rw [List.eq_nil_of_length_eq_zero (Nat.le_zero.mp hn)] at run
    rw [← Option.some.inj run] at he
    exact absurd he say_end
  | succ n ih =>
    intro x b ks e hn oks run he hb
    cases ks with
    | nil =>
      rw [← Option.some.inj run] at he
      exact absurd he say_end
    | cons k ks1 =>
      obtain ⟨s1, st, run1⟩ := run_cons run
      have oks1 : ∀ k ∈ ks1, k.ok := fun k hk => oks k (List.mem_cons_of_mem _ hk)
      have hn1 : ks1.length ≤ n := by rw [List.length_cons] at hn; omega
      cases k with
      | lt c =>
        rw [← Option.some.inj st] at run1
        exact ⟨.nm c, ks1, rfl, oks _ List.mem_cons_self, run1, by show (x :: b).length + 0 ≤ 61; omega⟩
      | zero =>
        rw [← Option.some.inj st] at run1
        exact ⟨.nev, ks1, rfl, trivial, run1, by show (x :: b).length + 0 ≤ 61; omega⟩
      | one =>
        rw [← Option.some.inj st] at run1
        exact ⟨.alw, ks1, rfl, trivial, run1, by show (x :: b).length + 0 ≤ 61; omega⟩
      | neg =>
        rw [← Option.some.inj st] at run1
        obtain ⟨t, ks', e1, ok, r, op⟩ := ih hn1 oks1 run1 he hb
        exact ⟨.den t, ks', by rw [e1]; rfl, ok, r, op⟩
      | cls => cases st
      | sg kk => cases st
      | opn =>
        have le : (x :: b).length ≤ 60 := by
          by_cases le : (x :: b).length ≤ 60
          · exact le
          · have z : stepO (x :: b, "saying") .opn = none := by
              show (if (x :: b).length ≤ 60 then _ else _) = _
              rw [if_neg le] <;> rfl
            rw [z] at st
            cases st
        have z : stepO (x :: b, "saying") .opn = some (("sign" : Str) :: x :: b, ("saying" : Str)) := by
          show (if (x :: b).length ≤ 60 then _ else _) = _
          rw [if_pos le] <;> rfl
        rw [z] at st
        rw [← Option.some.inj st] at run1
        obtain ⟨t, ks2, e1, ok1, r1, op1⟩ := ih hn1 oks1 run1 he (by show (x :: b).length + 1 ≤ 61; omega)
        rw [e1] at hn1 oks1
        cases ks2 with
        | nil =>
          rw [← Option.some.inj r1] at he
          exact absurd he sign_end
        | cons k2 ks3 =>
          obtain ⟨s3, st3, run3⟩ := run_cons r1
          obtain ⟨kk, x', r', rfl, eb, es⟩ := step_sign st3
          rw [es] at run3
          have er : r' = x :: b := (List.cons.inj eb).2.symm
          rw [er] at run3
          rw [List.length_append, List.length_cons] at hn1
          obtain ⟨u, ks4, e4, ok2, r4, op2⟩ := ih (ks := ks3) (by omega) (fun k hk => oks1 k (List.mem_append_right _ (List.mem_cons_of_mem _ hk))) run3 he (by show (x :: b).length + 1 ≤ 61; omega)
          cases ks4 with
          | nil =>
            rw [← Option.some.inj r4] at he
            exact absurd he close_end
          | cons k5 ks6 =>
            obtain ⟨s5, st5, run5⟩ := run_cons r4
            obtain ⟨x2, y2, r2, rfl, eb2, es2⟩ := step_close st5
            rw [es2] at run5
            have e6 : y2 :: r2 = x :: b := (List.cons.inj eb2).2.symm
            have e7 : y2 = x := (List.cons.inj e6).1
            rw [e6, e7] at run5
            refine ⟨.bin kk t u, ks6, ?_, ⟨ok1, ok2⟩, run5, ?_⟩
            · rw [e1, e4]
              simp [Sy.toks]
            · have a1 : (x :: b).length + 1 + t.opens ≤ 61 := op1
              have a2 : (x :: b).length + 1 + u.opens ≤ 61 := op2
              show (x :: b).length + (max t.opens u.opens + 1) ≤ 61
              omega
theorem place_none (n : Nat) : ∀ {ts : List (Nat × Str)} {s : List Str × Str}, placeO n s ts = none → ∃ ks e, ts.map Prod.snd = ks.map Tk.str ∧ (∀ k ∈ ks, k.ok) ∧ runO s ks = some e ∧ e.2 = "end"
  | [], s, h => by
    refine ⟨[], s, rfl, (fun _ z => (List.not_mem_nil z).elim), rfl, ?_⟩
    by_cases e : s.2 = "end"
    · exact e
    · have z : placeO n s [] = some n := by
        unfold placeO
        rw [if_neg e]
      rw [z] at h
      cases h
  | (i, z) :: ts, s, h => by
    unfold placeO at h
    cases q : stepZ s z with
    | none =>
      rw [q] at h
      cases h
    | some s1 =>
      rw [q] at h
      obtain ⟨ks, e, h1, h2, h3, h4⟩ := place_none n (ts := ts) h
      unfold stepZ at q
      cases qk : tkOf z with
      | none =>
        rw [qk] at q
        cases q
      | some k =>
        rw [qk] at q
        obtain ⟨ok, ez⟩ := tkOf_some qk
        have q' : stepO s k = some s1 := q
        refine ⟨k :: ks, e, ?_, ?_, ?_, h4⟩
        · rw [List.map_cons, List.map_cons, h1, ez]
        · intro j hj
          rcases List.mem_cons.mp hj with w | w
          · rw [w]
            exact ok
          · exact h2 j w
        · unfold runO
          rw [q']
          exact h3
theorem lex_len {i : Nat} {s : List Nat} {ts : List (Nat × Str)} (h : Lex i s ts) : (ts.map fun p => p.2.length).sum ≤ s.length := by
  induction h with
  | nil => exact Nat.le_refl _
  | blank _ ih => exact Nat.le_succ_of_le ih
  | tok k _ _ ih =>
    rw [List.map_cons, List.sum_cons, List.length_append]
    have e := strlen k
    show k.length + _ ≤ _
    omega
theorem toks_chars : ∀ t : Sy, 2 * t.size ≤ (t.toks.map fun k => k.str.length).sum + 1
  | .nm _ => by show 2 * 1 ≤ 1 + 0 + 1; decide
  | .nev => by decide
  | .alw => by decide
  | .den a => by
    have h := toks_chars a
    show 2 * (a.size + 1) ≤ ((Tk.neg :: a.toks).map fun k => k.str.length).sum + 1
    rw [List.map_cons, List.sum_cons]
    have e : Tk.neg.str.length = 3 := by decide
    omega
  | .bin k a b => by
    have h1 := toks_chars a
    have h2 := toks_chars b
    show 2 * (a.size + b.size + 1) ≤ ((Tk.opn :: (a.toks ++ .sg k :: (b.toks ++ [.cls]))).map fun k => k.str.length).sum + 1
    rw [List.map_cons, List.sum_cons, List.map_append, List.sum_append, List.map_cons, List.sum_cons, List.map_append, List.sum_append]
    have e1 : Tk.opn.str.length = 1 := by decide
    have e2 : ([Tk.cls].map fun k => k.str.length).sum = 1 := by decide
    have e3 : 1 ≤ (Tk.sg k).str.length := by cases k <;> decide
    omega
/-- a row of signs in which each token can stand where it does is the text of a saying -/
theorem place_saying {z : Str} {ts : List (Nat × Str)} (lx : Lex 0 z.cps.toList ts) (h : placeO z.length (["end"], "saying") ts = none) (len : z.length ≤ 400) : ∃ t : Sy, ts.map Prod.snd = t.toks.map Tk.str ∧ t.ok ∧ t.size ≤ 200 ∧ t.opens ≤ 60 := by
  obtain ⟨ks, e, h1, oks, run, he⟩ := place_none _ h
  obtain ⟨t, ks', h2, ok, r, op⟩ := run_saying _ (Nat.le_refl _) oks run he (by decide)
  have e0 : ks' = [] := by
    cases ks' with
    | nil => rfl
    | cons k ks2 =>
      obtain ⟨s1, st, _⟩ := run_cons r
      rw [step_end] at st
      cases st
  rw [e0, List.append_nil] at h2
  rw [h2] at h1
  refine ⟨t, h1, ok, ?_, ?_⟩
  · have a := lex_len lx
    have b := toks_chars t
    have c := strlen z
    have d : (ts.map fun p => p.2.length) = t.toks.map fun k => k.str.length := by
      have q := congrArg (fun l : List Str => l.map Str.length) h1
      have q' : (ts.map Prod.snd).map Str.length = (t.toks.map Tk.str).map Str.length := q
      rw [List.map_map, List.map_map] at q'
      exact q'
    rw [d] at a
    omega
  · have q : 1 + t.opens ≤ 61 := op
    omega
end SY
set_option maxHeartbeats 8000000
namespace G1
open PySem PySem.Spec PyProof.Rows L2 SY TXS OW
def spTokAtX : Sp := fun vs H Q _ => ∃ (z : Str) (i : Nat) (k : Str) (r : List Nat), vs = [.str z, .int i] ∧ z.cps.toList.drop i = k.cps.toList ++ r ∧ TokC k.cps.toList r ∧ z.length ≤ sizeLine ∧ Q (.str (if plainZ k = true then k else "")) H
section
variable {P : Program} {w : World} {K : PySem.W.Frag} {mg : Str → Option Value} {base : Heap} {C : Addr}
theorem cl_tokatX (D : DefAt K mg "_token_at" sTokenAt) (B : Blt mg) (cI : Cl CX0 P w K mg base 1 "is_letter" ["thing"] spLetter) : Cl CX0 P w K mg base 2 "_token_at" ["text", "at"] spTokAtX := by
  obtain ⟨f, fd, F, hm⟩ := D
  refine cl_of F hm (F.ok scTokAt (fun vs H Q E h => ?_) (fun cdv A outer s H vs Q E hr h => ⟨_, PSs.nox (pss_cons
      (ps_set (i := 2) scTokAt.nd rfl (Or.inl rfl) (pv 1))
      (pss_cons (ps_while PassesOwn.never (PW.pt (pw_and (pt_cmpR op_lt (pv 2) (pe_callB call_len_str (by rfl) B.len PySem.boot_len (pa_cons (pv 0) pa_nil)) (nomark _))
          (pw_and1 (pt_val (pe_c0 cI hr (by decide) (by rfl) (pa_cons (pe_ix ix_str (pv 0) (pv 2) (fun _ _ => rfl)) pa_nil))))))
        (pss_one (ps_aug (i := 2) scTokAt.nd rfl (Or.inl rfl) pe_int ip_add)))
      (pss_cons (ps_if (pt_cmpR op_gt (pv 2) (pv 1) (nomark _)) (pss_one (ps_ret (pe_slice sl_str (pv 0) (po_some (pv 1)) (po_some (pv 2))))) pss_nil)
      (pss_cons (ps_if (pt_cmpR op_eq (pe_slice sl_str (pv 0) (po_some (pv 1)) (po_some (pe_op op_add (pv 1) pe_int))) pe_str (nomark _)) (pss_one (ps_ret pe_str)) pss_nil)
      (pss_one (ps_ret (pe_ifExp (pt_cmpR op_in_sign (pe_ix ix_str (pv 0) (pv 1) (fun _ _ => rfl)) pe_str (by rfl)) (pe_ix ix_str (pv 0) (pv 1) (fun _ _ => rfl)) pe_str))))))), ?_⟩)) fun _ _ _ _ _ _ us hl => match us, hl with | [_, _], _ => rfl
  · obtain ⟨z, i, k, r, rfl, _⟩ := h
    rfl
  · obtain ⟨z, i, k, r, rfl, hd, tc, zl, q⟩ := h
    refine ⟨_, rfl, ?_⟩
    refine gn1 (σ' := [some (.str z), some (.int i), some (.int i)]) rfl ?_
    dsimp only
    unfold tSeq
    obtain ⟨pre, rest, hpr, hl, hn, hw⟩ : ∃ pre rest, z.cps.toList.drop i = pre ++ rest ∧ (∀ c ∈ pre, isL c = true) ∧ headL rest = false ∧ ((pre ≠ [] ∧ pre = k.cps.toList) ∨ (pre = [] ∧ (k.cps.toList = [45, 62] ∨ ∃ c, k.cps.toList = [c] ∧ isL c = false ∧ c ≠ 32 ∧ ¬ (c = 45 ∧ r.head? = some 62)))) := by
      rcases tc with ⟨n, a, b⟩ | e | ⟨c, e, nl, n32, na⟩
      · exact ⟨k.cps.toList, r, hd, a, b, .inl ⟨n, rfl⟩⟩
      · exact ⟨[], k.cps.toList ++ r, hd, (fun _ z => nomatch z), by rw [e]; rfl, .inr ⟨rfl, .inl e⟩⟩
      · exact ⟨[], k.cps.toList ++ r, hd, (fun _ z => nomatch z), by rw [e]; exact nl, .inr ⟨rfl, .inr ⟨c, e, nl, n32, na⟩⟩⟩
    have len := zlen z
    have ll := drop_len hpr
    have il : i < z.length := by
      have := drop_len hd
      have := tokC_pos tc
      omega
    have letter : ∀ {j : Nat} {c : Nat}, pre[j]? = some c → z.cps.toList[i + j]? = some c := fun {j c} h => by
      have e : (z.cps.toList.drop i)[j]? = some c := by
        rw [hpr, List.getElem?_append_left (List.getElem?_eq_some_iff.mp h).1]
        exact h
      rw [List.getElem?_drop] at e
      exact e
    have hre := drop_more hpr
    refine while_by (c := tLet) (fun σ H' => ∃ j : Nat, j ≤ pre.length ∧ σ = [some (.str z), some (.int (i : Int)), some (.int ((i + j : Nat) : Int))] ∧ H' = H) (fun σ _ => match σ with | [_, _, some (.int y)] => pre.length + i - y.toNat | _ => 0) ⟨0, Nat.zero_le _, rfl, rfl⟩ ?_ (fun σ H Q Q' m h => tLet_mono m h)
    rintro σ H' ⟨j, hj, rfl, rfl⟩
    refine tLet_ok zl (by omega) ?_
    by_cases lt : j < pre.length
    · have hc := List.getElem?_eq_getElem lt
      have e : headL (z.cps.toList.drop (i + j)) = true := by
        have h1 := letter hc
        have l2 := (List.getElem?_eq_some_iff.mp h1)
        rw [List.drop_eq_getElem_cons l2.1, l2.2]
        exact hl _ (List.getElem_mem lt)
      refine if_yes e ?_
      refine ⟨_, rfl, _, _, rfl, rfl, ⟨j + 1, lt, rfl, rfl⟩, ?_⟩
      show pre.length + i - (((i + j : Nat) : Int) + 1).toNat < pre.length + i - ((i + j : Nat) : Int).toNat
      omega
    · have ej : j = pre.length := by omega
      rw [ej]
      refine if_no (by rw [hre]; exact hn) ?_
      refine ⟨_, rfl, _, rfl, _, _, rfl, rfl, _, rfl, ?_⟩
      rcases hw with ⟨np, hw'⟩ | ⟨hw', hk⟩
      · have pos : 0 < pre.length := List.length_pos_iff.mpr np
        refine if_yes (decide_eq_true (by omega)) ?_
        refine ⟨_, rfl, _, rfl, _, rfl, _, rfl, _, rfl, z, rfl, zl, ?_⟩
        have ek : cutS z (some (i : Int)) (some ((i + pre.length : Nat) : Int)) = k := str_eq (by
          rw [cutS_nat z i pre.length (by omega), hpr, List.take_left, hw'])
        have pl : plainZ k = true := by
          unfold plainZ
          rw [← hw']
          cases pre with
          | nil => rfl
          | cons c t =>
            cases t with
            | nil =>
              show (isL c || _) = true
              rw [hl c List.mem_cons_self]
              rfl
            | cons d u => rfl
        rw [ek]
        rw [if_pos pl] at q
        exact q
      · rw [hw']
        refine if_no (decide_eq_false (by show ¬ (i : Int) < ((i + 0 : Nat) : Int); omega)) ?_
        refine ⟨_, rfl, _, rfl, _, rfl, _, rfl, _, _, rfl, rfl, _, rfl, z, rfl, zl, rfl, _, rfl, ?_⟩
        rcases hk with ek | ⟨c, ek, nl, n32, na⟩
        · have e2 : cutS z (some (i : Int)) (some ((i : Int) + 2)) = "->" := str_eq (by
            rw [cutS_two z i (Nat.le_of_lt il), hd, ek]
            have el : ("->" : Str).cps.toList = [45, 62] := by decide
            rw [el]
            rfl)
          have es : k = "->" := str_eq (by
            rw [ek]
            have el : ("->" : Str).cps.toList = [45, 62] := by decide
            rw [el])
          have pl : plainZ k = true := by
            rw [es]
            decide
          rw [if_pos pl, es] at q
          exact if_yes (decide_eq_true (congrArg V.str e2)) q
        · have nd : cutS z (some (i : Int)) (some ((i : Int) + 2)) ≠ "->" := fun e => by
            have h1 := cutS_two z i (Nat.le_of_lt il)
            have el : ("->" : Str).cps.toList = [45, 62] := by decide
            rw [e, hd, ek, el] at h1
            cases r with
            | nil => cases h1
            | cons d t =>
              have h2 : [45, 62] = [c, d] := h1
              have a1 := (List.cons.inj h2).1
              have a2 := (List.cons.inj (List.cons.inj h2).2).1
              exact na ⟨a1.symm, by rw [← a2]; rfl⟩
          refine if_no (decide_eq_false fun e => nd (by injection e)) ?_
          have hd' := hd
          rw [ek] at hd'
          have h1 := (drop_at hd').1
          have ez : (⟨#[c]⟩ : Str) = k := str_eq (by rw [ek])
          have el : ("&()01" : Str).cps.toList = [38, 40, 41, 48, 49] := by decide
          have pe : plainZ k = decide (c ∈ [38, 40, 41, 48, 49]) := by
            unfold plainZ
            rw [ek]
            show (isL c || _) = _
            rw [nl]
            rfl
          refine ⟨_, rfl, _, rfl, z, _, c, rfl, rfl, zl, atI_nat h1, c, _, rfl, rfl, _, rfl, ?_⟩
          rw [el]
          by_cases m : c ∈ [38, 40, 41, 48, 49]
          · refine if_yes (decide_eq_true m) ?_
            rw [pe, decide_eq_true m, if_pos rfl] at q
            refine ⟨_, rfl, _, rfl, z, _, c, rfl, rfl, zl, atI_nat h1, ?_⟩
            rw [ez]
            exact q
          · refine if_no (decide_eq_false m) ?_
            rw [pe, decide_eq_false m, if_neg (by decide)] at q
            exact q
end
end G1
set_option maxHeartbeats 4000000
namespace G1
open PySem PySem.Spec PyProof.Rows L2
section
variable {P : Program} {w : World} {K : PySem.W.Frag} {mg : Str → Option Value} {base : Heap}
theorem scMixed : FnScope ["cell", "k", "stirred"] ["cell", "k"] (defScope sMixed) := ⟨rfl, rfl, rfl, by decide +kernel, rfl, by decide +kernel, by decide +kernel⟩
theorem cl_mixed (D : DefAt K mg "_law_mixed" sMixed) (T : Blt mg) : Cl CX0 P w K mg base 1 "_law_mixed" ["cell", "k"] spMixed := by
  obtain ⟨f, fd, F, hm⟩ := D
  refine cl_of F hm (F.ok scMixed (fun vs H Q E h => ?_) (fun cdv A outer s H vs Q E hr h => ⟨_, PSs.nox (pss_cons (ps_set (i := 2) scMixed.nd rfl (Or.inl rfl)
      (pe_op op_mod (pe_callTy call_int1 (by rfl) T.int (by decide +kernel) (pa_cons (pe_op op_add (pe_op op_add (pe_op op_add (pe_op op_mul (pv 0) pe_int) (pe_op op_mul (pe_op op_mul pe_int (pv 1)) (pv 1))) (pe_op op_mul pe_int (pv 1))) pe_int) pa_nil)) pe_int))
    (pss_one (ps_ret (pe_op op_fdiv (pe_op op_mod (pe_callTy call_int1 (by rfl) T.int (by decide +kernel) (pa_cons (pe_op op_add (pe_op op_add (pe_op op_mul (pv 2) (pv 2)) (pe_op op_mul pe_int (pv 2))) pe_int) pa_nil)) pe_int) pe_int)))), ?_⟩)) fun _ _ _ _ _ _ us hl => match us, hl with | [_, _], _ => rfl
  · obtain ⟨c, k, rfl, _⟩ := h
    rfl
  · obtain ⟨c, k, rfl, c0, c1, k0, k1, q⟩ := h
    refine ⟨_, rfl, _, _, rfl, rfl, .inr ⟨by decide, by decide⟩, _, rfl, _, _, rfl, rfl, .inl ⟨by decide, by decide⟩, _, rfl, _, _, rfl, rfl, .inr ⟨by omega, by omega⟩, _, _, rfl, rfl, _, rfl, _, _, rfl, rfl, .inl ⟨by decide, by decide⟩, _, _, rfl, rfl, _, _, rfl, rfl, .inl ⟨_, rfl, ?_⟩⟩
    refine ⟨_, _, rfl, rfl, (by show (0 : Int) < 2147483647; decide), ?_⟩
    generalize hz : (c * 2654435761 + 40503 * k * k + 97 * k + 13) % 2147483647 = z
    have z0 : 0 ≤ z := by omega
    have z1 : z < 2147483647 := by omega
    refine ⟨_, rfl, _, rfl, _, _, rfl, rfl, .inr ⟨by omega, by omega⟩, _, rfl, _, _, rfl, rfl, .inl ⟨by decide, by decide⟩, _, _, rfl, rfl, _, _, rfl, rfl, .inl ⟨_, rfl, ?_⟩⟩
    refine ⟨_, _, rfl, rfl, (by show (0 : Int) < 2147483629; decide), _, _, rfl, rfl, ⟨by decide, by decide⟩, ?_⟩
    exact q _ (by omega)
theorem scDraw : FnScope ["purse", "out_of", "drawn"] ["purse", "out_of"] (defScope sDraw) := ⟨rfl, rfl, rfl, by decide +kernel, rfl, by decide +kernel, by decide +kernel⟩
theorem cl_draw (D : DefAt K mg "_law_draw" sDraw) (T : Blt mg) (cM : Cl CX0 P w K mg base 1 "_law_mixed" ["cell", "k"] spMixed) : Cl CX0 P w K mg base 2 "_law_draw" ["purse", "out_of"] spDraw := by
  obtain ⟨f, fd, F, hm⟩ := D
  refine cl_of F hm (F.ok scDraw (fun vs H Q E h => ?_) (fun cdv A outer s H vs Q E hr h => ⟨_, PSs.nox (pss_cons
      (ps_if (pt_cmpR op_gt (pe_ix ix_list (pv 0) pe_int (fun _ _ => rfl)) pe_int (nomark _))
        (pss_cons (ps_set (i := 2) scDraw.nd rfl (Or.inl rfl) (pe_op op_mod (pe_callTy call_int1 (by rfl) T.int (by decide +kernel) (pa_cons (pe_ix ix_list (pv 0) pe_int (fun _ _ => rfl)) pa_nil)) (pv 1)))
        (pss_cons (ps_asg (pe_op op_fdivW (pe_ix ix_list (pv 0) pe_int (fun _ _ => rfl)) (pv 1)) (pg_sub (pv 0) pe_int set_list))
        (pss_one (ps_ret (pv 2))))) pss_nil)
      (pss_cons (ps_asg (pe_op op_add (pe_ix ix_list (pv 0) pe_int (fun _ _ => rfl)) pe_int) (pg_sub (pv 0) pe_int set_list))
      (pss_one (ps_ret (pe_op op_mod (pe_callTy call_int1 (by rfl) T.int (by decide +kernel) (pa_cons (pe_c0 cM hr (Nat.le_refl 1) (by rfl) (pa_cons (pe_ix ix_list (pv 0) pe_int (fun _ _ => rfl)) (pa_cons (pe_ix ix_list (pv 0) pe_int (fun _ _ => rfl)) pa_nil))) pa_nil)) (pv 1)))))), ?_⟩)) fun _ _ _ _ _ _ us hl => match us, hl with | [_, _], _ => rfl
  · obtain ⟨p, n, c, rfl, _⟩ := h
    rfl
  · obtain ⟨p, n, c, rfl, ⟨⟨a, b, e, a0, a1, b0, b1⟩, c0⟩, c1, n0, n1, q⟩ := h
    refine ⟨_, rfl, p, _, _, _, rfl, rfl, SqL.of e, rfl, _, _, rfl, rfl, _, rfl, ite2 (fun h => ?_) (fun h => ?_)⟩
    · have h0 : 0 < a := of_decide_eq_true h
      refine ⟨_, rfl, p, _, _, _, rfl, rfl, SqL.of e, rfl, .inl ⟨_, rfl, _, rfl, _, _, rfl, rfl, n0, ?_⟩⟩
      refine ⟨_, rfl, p, _, _, _, rfl, rfl, SqL.of e, rfl, _, rfl, _, _, rfl, rfl, wide_div (b := 60) n0 (by omega) (by decide) (by decide), ?_⟩
      refine ⟨_, rfl, p, _, _, 0, rfl, rfl, e, rfl, _, rfl, ?_⟩
      refine q _ c _ (Int.emod_nonneg _ (by omega)) (Int.emod_lt_of_pos _ n0) (by omega) ⟨⟨a / n, b, upd_same, Int.ediv_nonneg a0 (by omega), ?_, b0, b1⟩, c0⟩ fun x o hx ho => ?_
      · refine Nat.lt_of_le_of_lt ?_ a1
        have : a / n ≤ a := Int.ediv_le_self _ a0
        have : 0 ≤ a / n := Int.ediv_nonneg a0 (by omega)
        omega
      · rw [upd_ne hx]
        exact ho
    · refine ⟨_, rfl, p, _, _, _, rfl, rfl, SqL.of e, rfl, _, _, rfl, rfl, ?_⟩
      refine ⟨_, rfl, p, _, _, 2, rfl, rfl, e, rfl, ?_⟩
      refine ⟨_, rfl, p, _, _, _, rfl, rfl, SqL.of upd_same, rfl, _, rfl, p, _, _, _, rfl, rfl, SqL.of upd_same, rfl, ?_⟩
      refine ⟨b, c + 1, rfl, b0, b1, by omega, by omega, fun r r0 => .inl ⟨_, rfl, _, rfl, _, _, rfl, rfl, n0, ?_⟩⟩
      refine q _ (c + 1) _ (Int.emod_nonneg _ (by omega)) (Int.emod_lt_of_pos _ n0) (by omega) ⟨⟨a, b, upd_same, a0, a1, b0, b1⟩, by omega⟩ fun x o hx ho => ?_
      rw [upd_ne hx]
      exact ho
end
section
variable {P : Program} {w : World} {K : PySem.W.Frag} {mg : Str → Option Value} {base : Heap}
theorem scPurse : FnScope ["cells", "at", "cell"] ["cells", "at"] (defScope sPurse) := ⟨rfl, rfl, rfl, by decide +kernel, rfl, by decide +kernel, by decide +kernel⟩
theorem pow_bits1 : CPowW 10 18 := ⟨by decide, by decide +kernel⟩
theorem pow_bits2 : CPowW 10 60 := ⟨by decide, by decide +kernel⟩
theorem pow_bits3 : CPowW (10 ^ (60 : Int).toNat) 8 := ⟨by decide, by decide +kernel⟩
theorem pow_bits4 : CPowW 10 11 := ⟨by decide, by decide +kernel⟩
theorem big_lt : ((10 : Int) ^ (60 : Int).toNat) ^ (8 : Int).toNat < 2 ^ 1600 := by decide +kernel
theorem big_pos : (0 : Int) < ((10 : Int) ^ (60 : Int).toNat) ^ (8 : Int).toNat := by decide +kernel
theorem purse_end {H : Hp} {i z y : Int} {Q : VK} (i0 : 0 ≤ i) (k : ∀ (p : Addr) (H' : Hp), H p = none → Same H H' → PurseAt H' p (1000 * i) → Q (.ref p) H')
    (p : Addr) (hp : H p = none) : Q (.ref p) (upd H p (.lst [.int (z % (((10 : Int) ^ (60 : Int).toNat) ^ (8 : Int).toNat)), .int (y % 2147483647), .int (1000 * i)])) := by
  refine k p _ hp (fun b o e => ?_) ⟨⟨_, _, upd_same, Int.emod_nonneg _ ?_, ?_, by omega, by omega⟩, by omega⟩
  · rw [upd_ne (ne_of_none e hp)]
    exact e
  · have := big_pos
    omega
  · have h1 := big_pos
    have h2 := big_lt
    have h3 := Int.emod_nonneg z (show ((10 : Int) ^ (60 : Int).toNat) ^ (8 : Int).toNat ≠ 0 by omega)
    have h4 := Int.emod_lt_of_pos z h1
    have h5 : ((2 ^ 1600 : Nat) : Int) = (2 : Int) ^ 1600 := by decide +kernel
    omega
theorem cl_purse (D : DefAt K mg "_law_purse" sPurse) (T : Blt mg) : Cl CX0 P w K mg base 1 "_law_purse" ["cells", "at"] (spPurse K) := by
  obtain ⟨f, fd, F, hm⟩ := D
  refine cl_of F hm (F.ok scPurse (fun vs H Q E h => ?_) (fun cdv A outer s H vs Q E hr h => ⟨_, PSs.nox (pss_cons
      (ps_set (i := 2) scPurse.nd rfl (Or.inl rfl) pe_int)
      (pss_cons (ps_if (pt_cmpR op_lt (pv 1) (pe_callB call_len_seq (by rfl) T.len PySem.boot_len (pa_cons (pv 0) pa_nil)) (nomark _))
        (pss_one (ps_set (i := 2) scPurse.nd rfl (Or.inl rfl) (pe_ix ix_list (pv 0) (pv 1) (fun _ _ => rfl)))) pss_nil)
      (pss_one (ps_ret (pe_lst (pa_cons (pe_op op_mod (pe_callTy call_int1 (by rfl) T.int (by decide +kernel) (pa_cons (pe_callB (call_max2 rfl) (by rfl) T.max (by decide +kernel) (pa_cons (pe_op op_sub (pv 2) (pe_op op_powW pe_int pe_int)) (pa_cons pe_int pa_nil))) pa_nil)) (pe_op op_powW (pe_op op_powW pe_int pe_int) pe_int))
        (pa_cons (pe_op op_mod (pe_callTy call_int1 (by rfl) T.int (by decide +kernel) (pa_cons (pv 2) pa_nil)) pe_int) (pa_cons (pe_op op_mul pe_int (pv 1)) pa_nil)))))))), ?_⟩)) fun _ _ _ _ _ _ us hl => match us, hl with | [_, _], _ => rfl
  · obtain ⟨a, ns, i, rfl, _⟩ := h
    rfl
  · obtain ⟨a, ns, i, rfl, hS, i0, i1, q⟩ := h
    refine ⟨_, rfl, _, rfl, a, _, rfl, .inl hS, _, _, rfl, rfl, _, rfl, ite2 (fun h => ?_) (fun h => ?_)⟩
    · have h1 : i < ((ns.map V.int).length : Int) := of_decide_eq_true h
      have h2 : i.toNat < ns.length := by
        rw [List.length_map] at h1
        omega
      have h3 : atI (ns.map V.int) i = some (.int ns[i.toNat]) := at_of (j := i.toNat) (by omega) (by simp [h2])
      refine ⟨_, rfl, _, rfl, a, _, _, _, rfl, rfl, hS, h3, ?_⟩
      refine ⟨_, rfl, _, _, rfl, rfl, pow_bits1, _, _, rfl, rfl, _, _, rfl, .inl ⟨_, rfl, _, _, rfl, rfl, pow_bits2, _, _, rfl, rfl, pow_bits3, _, _, rfl, rfl, big_pos, _, rfl, .inl ⟨_, rfl, _, _, rfl, rfl, (by show (0 : Int) < 2147483647; decide), _, rfl, _, _, rfl, rfl, .inl ⟨by decide, by decide⟩, (by show 3 ≤ sizeLine; decide), ?_⟩⟩⟩
      exact purse_end i0 q
    · refine ⟨_, rfl, _, _, rfl, rfl, pow_bits1, _, _, rfl, rfl, _, _, rfl, .inl ⟨_, rfl, _, _, rfl, rfl, pow_bits2, _, _, rfl, rfl, pow_bits3, _, _, rfl, rfl, big_pos, _, rfl, .inl ⟨_, rfl, _, _, rfl, rfl, (by show (0 : Int) < 2147483647; decide), _, rfl, _, _, rfl, rfl, .inl ⟨by decide, by decide⟩, (by show 3 ≤ sizeLine; decide), ?_⟩⟩⟩
      exact purse_end i0 q
end
end G1
set_option maxHeartbeats 4000000
/-! sayings as nested tuples -/
namespace SY
open PySem PySem.Spec PyProof.Rows L2 G1
def RawAt (K : PySem.W.Frag) (H : Hp) : Sy → Addr → Prop
  | .nm c, a => ∃ p, SqT K H a [.str "name", .str (one c), .ref p] ∧ SqT K H p []
  | .nev, a => ∃ p, SqT K H a [.str "never", .non, .ref p] ∧ SqT K H p []
  | .alw, a => ∃ p, SqT K H a [.str "always", .non, .ref p] ∧ SqT K H p []
  | .den t, a => ∃ p b, SqT K H a [.str "denied", .non, .ref p] ∧ SqT K H p [.ref b] ∧ RawAt K H t b
  | .bin k t u, a => ∃ p b c, SqT K H a [.str k.kind, .non, .ref p] ∧ SqT K H p [.ref b, .ref c] ∧ RawAt K H t b ∧ RawAt K H u c
theorem RawAt.on {K : PySem.W.Frag} {H H' : Hp} (e : Same H H') : ∀ {t : Sy} {a : Addr}, RawAt K H t a → RawAt K H' t a
  | .nm c, a, ⟨p, h1, h2⟩ => ⟨p, tup_on h1 e, tup_on h2 e⟩
  | .nev, a, ⟨p, h1, h2⟩ => ⟨p, tup_on h1 e, tup_on h2 e⟩
  | .alw, a, ⟨p, h1, h2⟩ => ⟨p, tup_on h1 e, tup_on h2 e⟩
  | .den t, a, ⟨p, b, h1, h2, h3⟩ => ⟨p, b, tup_on h1 e, tup_on h2 e, RawAt.on e h3⟩
  | .bin k t u, a, ⟨p, b, c, h1, h2, h3, h4⟩ => ⟨p, b, c, tup_on h1 e, tup_on h2 e, RawAt.on e h3, RawAt.on e h4⟩
/-- what each of them shows -/
structure RawF (K : PySem.W.Frag) (H : Hp) (t : Sy) (a : Addr) : Prop where
  ex : ∃ p, SqT K H a [.str t.kind, t.letter, .ref p] ∧ ∃ bs : List Addr, SqT K H p (bs.map V.ref) ∧ Paired (RawAt K H) t.subs bs
theorem RawAt.face {K : PySem.W.Frag} {H : Hp} : ∀ {t : Sy} {a : Addr}, RawAt K H t a → RawF K H t a
  | .nm c, a, ⟨p, h1, h2⟩ => ⟨p, h1, [], h2, .nil⟩
  | .nev, a, ⟨p, h1, h2⟩ => ⟨p, h1, [], h2, .nil⟩
  | .alw, a, ⟨p, h1, h2⟩ => ⟨p, h1, [], h2, .nil⟩
  | .den t, a, ⟨p, b, h1, h2, h3⟩ => ⟨p, h1, [b], h2, .cons h3 .nil⟩
  | .bin k t u, a, ⟨p, b, c, h1, h2, h3, h4⟩ => ⟨p, h1, [b, c], h2, .cons h3 (.cons h4 .nil)⟩
/-! ### as data -/
def dRaw : Sy → PyData
  | .nm c => .tuple [.str "name", .str (one c), .tuple []]
  | .nev => .tuple [.str "never", .none, .tuple []]
  | .alw => .tuple [.str "always", .none, .tuple []]
  | .den t => .tuple [.str "denied", .none, .tuple [dRaw t]]
  | .bin k t u => .tuple [.str k.kind, .none, .tuple [dRaw t, dRaw u]]
theorem raw_dp {K : PySem.W.Frag} {H : Hp} : ∀ {t : Sy} {a : Addr}, RawAt K H t a → Dp K H (.ref a) (dRaw t)
  | .nm c, a, ⟨p, h1, h2⟩ => .tup h1 (.cons (.str _) (.cons (.str _) (.cons (.tup h2 .nil) .nil)))
  | .nev, a, ⟨p, h1, h2⟩ => .tup h1 (.cons (.str _) (.cons .non (.cons (.tup h2 .nil) .nil)))
  | .alw, a, ⟨p, h1, h2⟩ => .tup h1 (.cons (.str _) (.cons .non (.cons (.tup h2 .nil) .nil)))
  | .den t, a, ⟨p, b, h1, h2, h3⟩ => .tup h1 (.cons (.str _) (.cons .non (.cons (.tup h2 (.cons (raw_dp h3) .nil)) .nil)))
  | .bin k t u, a, ⟨p, b, c, h1, h2, h3, h4⟩ => .tup h1 (.cons (.str _) (.cons .non (.cons (.tup h2 (.cons (raw_dp h3) (.cons (raw_dp h4) .nil))) .nil)))
theorem raws_dp {K : PySem.W.Frag} {H : Hp} : ∀ {ts : List Sy} {as : List Addr}, Paired (RawAt K H) ts as → DpAll K H (as.map V.ref) (ts.map dRaw)
  | _, _, .nil => .nil
  | _, _, .cons r rs => .cons (raw_dp r) (raws_dp rs)
def Sy.depth : Sy → Nat
  | .den t => t.depth + 1 | .bin _ t u => max t.depth u.depth + 1 | _ => 1
theorem kind_ok (k : Bk) : PyData.strOk k.kind = true := by cases k <;> decide +kernel
theorem one_ok {c : Nat} (h : 97 ≤ c ∧ c ≤ 122) : PyData.strOk (one c) = true := by
  have m := mem_alphabet.mpr h
  have all : ∀ d ∈ alphabet, PyData.strOk (one d) = true := by decide +kernel
  exact all c m
theorem dRaw_depth : ∀ t : Sy, PyData.depth (dRaw t) = 2 * t.depth
  | .nm c => by simp [dRaw, PyData.depth, PyData.depthAll, Sy.depth]
  | .nev => by simp [dRaw, PyData.depth, PyData.depthAll, Sy.depth]
  | .alw => by simp [dRaw, PyData.depth, PyData.depthAll, Sy.depth]
  | .den t => by
    have h := dRaw_depth t
    simp [dRaw, PyData.depth, PyData.depthAll, Sy.depth, h]
    omega
  | .bin k t u => by
    have h := dRaw_depth t
    have h2 := dRaw_depth u
    simp [dRaw, PyData.depth, PyData.depthAll, Sy.depth, h, h2]
    omega
theorem dRaw_lay : ∀ {t : Sy}, t.ok → PyData.canLay0 (dRaw t) = true
  | .nm c, h => by
    have := one_ok h
    have e : PyData.strOk ("name" : Str) = true := by decide +kernel
    simp [dRaw, PyData.canLay0, PyData.canLayAll0, this, e]
  | .nev, _ => by
    have e : PyData.strOk ("never" : Str) = true := by decide +kernel
    simp [dRaw, PyData.canLay0, PyData.canLayAll0, e]
  | .alw, _ => by
    have e : PyData.strOk ("always" : Str) = true := by decide +kernel
    simp [dRaw, PyData.canLay0, PyData.canLayAll0, e]
  | .den t, h => by
    have i := dRaw_lay (t := t) h
    have e : PyData.strOk ("denied" : Str) = true := by decide +kernel
    simp [dRaw, PyData.canLay0, PyData.canLayAll0, e, i]
  | .bin k t u, h => by
    have i := dRaw_lay (t := t) h.1
    have j := dRaw_lay (t := u) h.2
    have e := kind_ok k
    simp [dRaw, PyData.canLay0, PyData.canLayAll0, e, i, j]
theorem dRaw_shp {t : Sy} (h : t.ok) (d : t.depth ≤ 30) : SeqAt.shaped (dRaw t) = true := by
  unfold SeqAt.shaped
  rw [dRaw_lay h, dRaw_depth, Bool.true_and]
  exact decide_eq_true (by omega)
theorem raws_lay : ∀ {ts : List Sy}, (∀ t ∈ ts, t.ok ∧ t.depth ≤ 30) → PyData.canLayAll0 (ts.map dRaw) = true ∧ PyData.depthAll (ts.map dRaw) ≤ 60
  | [], _ => by simp [PyData.canLayAll0, PyData.depthAll]
  | t :: ts, h => by
    obtain ⟨h1, h2⟩ := raws_lay (ts := ts) fun u hu => h u (List.mem_cons_of_mem _ hu)
    obtain ⟨o, d⟩ := h t List.mem_cons_self
    have e := dRaw_depth t
    refine ⟨?_, ?_⟩
    · show PyData.canLayAll0 (dRaw t :: ts.map dRaw) = true
      simp [PyData.canLayAll0, h1, dRaw_lay o]
    · show PyData.depthAll (dRaw t :: ts.map dRaw) ≤ 60
      simp only [PyData.depthAll]
      omega
theorem raws_shp {ts : List Sy} (h : ∀ t ∈ ts, t.ok ∧ t.depth ≤ 30) : SeqAt.shaped (.list (ts.map dRaw)) = true := by
  obtain ⟨h1, h2⟩ := raws_lay h
  unfold SeqAt.shaped
  simp [PyData.canLay0, PyData.depth, h1]
  omega
theorem kind_inj : ∀ {k l : Bk}, k.kind = l.kind → k = l := by
  intro k l h
  cases k <;> cases l <;> first | rfl | (exfalso; revert h; decide)
theorem str_eqv (a b : Str) : PyData.eqv (.str a) (.str b) = decide (a = b) := by
  simp [PyData.eqv]
  rfl
theorem dRaw_eqv : ∀ t u : Sy, PyData.eqv (dRaw t) (dRaw u) = decide (t = u) := by
  intro t
  induction t with
  | nm c =>
    intro u
    cases u with
    | nm d =>
      simp only [dRaw, PyData.eqv, PyData.eqvAll, Bool.and_true]
      by_cases h : c = d
      · subst h
        simp
      · have n : ¬ one c = one d := fun z => h (one_inj z)
        simp [h, n]
    | bin k a b => cases k <;> simp [dRaw, PyData.eqv, PyData.eqvAll, Bk.kind]
    | _ => simp [dRaw, PyData.eqv, PyData.eqvAll]
  | nev =>
    intro u
    cases u with
    | bin k a b =>
      cases k <;> simp [dRaw, PyData.eqv, PyData.eqvAll, Bk.kind] <;> decide
    | nm d => simp [dRaw, PyData.eqv, PyData.eqvAll]
    | nev => simp [dRaw, PyData.eqv, PyData.eqvAll]
    | alw =>
      simp [dRaw, PyData.eqv, PyData.eqvAll]
      decide
    | den a =>
      simp [dRaw, PyData.eqv, PyData.eqvAll]
  | alw =>
    intro u
    cases u with
    | bin k a b =>
      cases k <;> simp [dRaw, PyData.eqv, PyData.eqvAll, Bk.kind] <;> decide
    | nm d => simp [dRaw, PyData.eqv, PyData.eqvAll]
    | nev =>
      simp [dRaw, PyData.eqv, PyData.eqvAll]
      decide
    | alw => simp [dRaw, PyData.eqv, PyData.eqvAll]
    | den a =>
      simp [dRaw, PyData.eqv, PyData.eqvAll]
  | den t ih =>
    intro u
    cases u with
    | den a =>
      simp only [dRaw, PyData.eqv, PyData.eqvAll, Bool.and_true, ih a]
      by_cases h : t = a
      · subst h
        simp
      · simp [h]
    | bin k a b => cases k <;> simp [dRaw, PyData.eqv, PyData.eqvAll, Bk.kind]
    | nm d => simp [dRaw, PyData.eqv, PyData.eqvAll]
    | nev => simp [dRaw, PyData.eqv, PyData.eqvAll]
    | alw => simp [dRaw, PyData.eqv, PyData.eqvAll]
  | bin k t v ih1 ih2 =>
    intro u
    cases u with
    | bin l a b =>
      simp only [dRaw, PyData.eqv, PyData.eqvAll, Bool.and_true, ih1 a, ih2 b]
      by_cases h : k = l
      · subst h
        by_cases h1 : t = a
        · by_cases h2 : v = b
          · simp [h1, h2]
          · simp [h2]
        · simp [h1]
      · have n : ¬ k.kind = l.kind := fun z => h (kind_inj z)
        simp [h, n]
    | den a => cases k <;> simp [dRaw, PyData.eqv, PyData.eqvAll, Bk.kind]
    | nm d => cases k <;> simp [dRaw, PyData.eqv, PyData.eqvAll, Bk.kind]
    | nev => cases k <;> simp [dRaw, PyData.eqv, PyData.eqvAll, Bk.kind]
    | alw => cases k <;> simp [dRaw, PyData.eqv, PyData.eqvAll, Bk.kind]
theorem raws_any (ts : List Sy) (t : Sy) : ((ts.map dRaw).any fun z => PyData.eqv z (dRaw t)) = decide (t ∈ ts) := by
  induction ts with
  | nil => simp
  | cons u us ih =>
    rw [List.map_cons, List.any_cons, ih, dRaw_eqv]
    by_cases h : u = t
    · simp [h]
    · have n : ¬ t = u := fun z => h z.symm
      simp [h, n]
theorem raws_eqv (ts us : List Sy) : PyData.eqv (.list (ts.map dRaw)) (.list (us.map dRaw)) = decide (ts = us) := by
  have go : ∀ ts us : List Sy, PyData.eqvAll (ts.map dRaw) (us.map dRaw) = decide (ts = us) := by
    intro ts
    induction ts with
    | nil =>
      intro us
      cases us <;> simp [PyData.eqvAll]
    | cons t r ih =>
      intro us
      cases us with
      | nil => simp [PyData.eqvAll]
      | cons u q =>
        rw [List.map_cons, List.map_cons, PyData.eqvAll, ih q, dRaw_eqv]
        by_cases c : t = u
        · simp [c]
        · simp [c]
  have e : PyData.eqv (.list (ts.map dRaw)) (.list (us.map dRaw)) = PyData.eqvAll (ts.map dRaw) (us.map dRaw) := by simp [PyData.eqv]
  rw [e]
  exact go ts us
theorem Sy.depth_pos : ∀ t : Sy, 0 < t.depth
  | .nm _ => Nat.one_pos | .nev => Nat.one_pos | .alw => Nat.one_pos
  | .den _ => Nat.succ_pos _ | .bin _ _ _ => Nat.succ_pos _
end SY
set_option maxHeartbeats 16000000
namespace G1
open PySem PySem.Spec PyProof.Rows L2 SY
/-! ### the law's drawn trees -/
structure Nm (nm : Str) : Prop where
  abc : ∀ c ∈ nm.cps.toList, 97 ≤ c ∧ c ≤ 122
  some_ : 1 ≤ nm.length
  few : nm.length ≤ 26
structure RawP (K : PySem.W.Frag) (p : Addr) (c z : Int) (nm : Str) (H : Hp) (Q : VK) : Prop where
  at_ : PurseAt H p c
  lo : c + 4 * z ≤ 2 ^ 39
  fin : ∀ (a : Addr) (t : Sy) (c' : Int) (H' : Hp), c' ≤ c + 2 * t.size → RawAt K (hide p H') t a → t.ok → (t.size : Int) ≤ 2 * z - 1 → (t.depth : Int) ≤ z → (∀ d, t.has d = true → d ∈ nm.cps.toList) → PurseAt H' p c' → But p H H' → Q (.ref a) H'
def spRaw (K : PySem.W.Frag) (n : Nat) : Sp := fun vs H Q _ => ∃ (p : Addr) (c z : Int) (nm : Str), vs = [.ref p, .int z, .str nm] ∧ 1 ≤ z ∧ z ≤ n ∧ Nm nm ∧ RawP K p c z nm H Q
theorem at_mem' {xs : List Nat} {d : Int} (h0 : 0 ≤ d) (h1 : d < (xs.length : Int)) : ∃ v, atI xs d = some v ∧ v ∈ xs := by
  obtain ⟨j, rfl⟩ : ∃ j : Nat, d = (j : Int) := ⟨d.toNat, by omega⟩
  have lt : j < xs.length := by omega
  exact ⟨xs[j], atI_nat (by simp [lt]), List.getElem_mem lt⟩
section
variable {P : Program} {w : World} {K : PySem.W.Frag} {mg : Str → Option Value} {base : Heap}
abbrev nRaw : List Str := ["purse", "size", "names", "some", "kind", "cut"]
theorem scRaw : FnScope nRaw ["purse", "size", "names"] (defScope lRaw) := ⟨rfl, rfl, rfl, by decide +kernel, rfl, by decide +kernel, by decide +kernel⟩
theorem cl_raw (D : DefAt K mg "_law_raw" lRaw) (B : Blt mg) (cD : Cl CX0 P w K mg base 2 "_law_draw" ["purse", "out_of"] spDraw) : ∀ n : Nat, Cl CX0 P w K mg base (n + 4) "_law_raw" ["purse", "size", "names"] (spRaw K n) := by
  obtain ⟨f, fd, F, hm⟩ := D
  intro n
  induction n with
  | zero =>
    refine cl_of F hm (F.ok scRaw (fun vs H Q E h => ?_) (fun cdv A outer s H vs Q E hr h => ?_)) fun _ _ _ _ _ _ us hl => match us, hl with | [_, _, _], _ => rfl
    · obtain ⟨p, c, z, nm, rfl, _⟩ := h
      rfl
    · obtain ⟨p, c, z, nm, rfl, h1, h2, _⟩ := h
      exact absurd h2 (by omega)
  | succ n cR =>
    refine cl_of F hm (F.ok scRaw (fun vs H Q E h => ?_) (fun cdv A outer s H vs Q E hr h => ⟨_, PSs.nox (pss_cons
        (ps_if (pt_cmpR op_lt (pv 1) pe_int (nomark _))
          (pss_cons (ps_set (i := 3) scRaw.nd rfl (Or.inl rfl) (pe_lst (pa_cons (pe_tup (pa_cons pe_str (pa_cons (pe_ix ix_str (pv 2) (pe_c0 cD hr (by omega) (by rfl) (pa_cons (pv 0) (pa_cons (pe_callB call_len_str (by rfl) B.len PySem.boot_len (pa_cons (pv 2) pa_nil)) pa_nil))) (fun _ _ => rfl)) (pa_cons (pe_tup pa_nil) pa_nil))))
            (pa_cons (pe_tup (pa_cons pe_str (pa_cons pe_non (pa_cons (pe_tup pa_nil) pa_nil)))) (pa_cons (pe_tup (pa_cons pe_str (pa_cons pe_non (pa_cons (pe_tup pa_nil) pa_nil)))) pa_nil)))))
          (pss_one (ps_ret (pe_ix ix_list (pv 3) (pe_ix ix_list (pe_lst (pa_cons pe_int (pa_cons pe_int (pa_cons pe_int (pa_cons pe_int (pa_cons pe_int (pa_cons pe_int (pa_cons pe_int (pa_cons pe_int pa_nil)))))))))
            (pe_c0 cD hr (by omega) (by rfl) (pa_cons (pv 0) (pa_cons pe_int pa_nil))) (fun _ _ => rfl)) (fun _ _ => rfl))))) pss_nil)
        (pss_cons (ps_set (i := 4) scRaw.nd rfl (Or.inl rfl) (pe_ix ix_list (pe_lst (pa_cons pe_str (pa_cons pe_str (pa_cons pe_str (pa_cons pe_str (pa_cons pe_str (pa_cons pe_str (pa_cons pe_str (pa_cons pe_str pa_nil)))))))))
            (pe_c0 cD hr (by omega) (by rfl) (pa_cons (pv 0) (pa_cons pe_int pa_nil))) (fun _ _ => rfl)))
        (pss_cons (ps_if (pt_cmpR op_eq (pv 4) pe_str (nomark _)) (pss_one (ps_ret (pe_tup (pa_cons (pv 4) (pa_cons pe_non (pa_cons (pe_tup (pa_cons (pe_c0 cR hr (by omega) (by rfl) (pa_cons (pv 0) (pa_cons (pe_op op_sub (pv 1) pe_int) (pa_cons (pv 2) pa_nil)))) pa_nil)) pa_nil)))))) pss_nil)
        (pss_cons (ps_set (i := 5) scRaw.nd rfl (Or.inl rfl) (pe_op op_add pe_int (pe_c0 cD hr (by omega) (by rfl) (pa_cons (pv 0) (pa_cons (pe_callB (call_max2 rfl) (by rfl) B.max (by decide +kernel) (pa_cons pe_int (pa_cons (pe_op op_sub (pv 1) pe_int) pa_nil))) pa_nil)))))
        (pss_one (ps_ret (pe_tup (pa_cons (pv 4) (pa_cons pe_non (pa_cons (pe_tup (pa_cons (pe_c0 cR hr (by omega) (by rfl) (pa_cons (pv 0) (pa_cons (pv 5) (pa_cons (pv 2) pa_nil))))
          (pa_cons (pe_c0 cR hr (by omega) (by rfl) (pa_cons (pv 0) (pa_cons (pe_callB (call_max2 rfl) (by rfl) B.max (by decide +kernel) (pa_cons pe_int (pa_cons (pe_op op_sub (pe_op op_sub (pv 1) pe_int) (pv 5)) pa_nil))) (pa_cons (pv 2) pa_nil)))) pa_nil))) pa_nil)))))))))), ?_⟩)) fun _ _ _ _ _ _ us hl => match us, hl with | [_, _, _], _ => rfl
    · obtain ⟨p, c, z, nm, rfl, _⟩ := h
      rfl
    · obtain ⟨p, c, z, nm, rfl, z1, zn, hn, h⟩ := h
      have P0 := h.at_
      have c0 := h.lo
      have c00 := P0.c0
      have n1 := hn.some_
      have n26 := hn.few
      refine ⟨_, rfl, _, _, rfl, rfl, _, rfl, ?_⟩
      by_cases small : z < 2
      · rw [decide_eq_true small]
        refine iteT ?_
        have nml : nm.cps.toList.length = nm.length := Array.length_toList
        refine ⟨_, rfl, _, rfl, _, rfl, _, rfl, by rw [sizeLine_eq]; omega, p, (nm.length : Int), c, rfl, P0, by omega, by omega, by omega, fun d c1 H1 d0 d1 k1 P1 B1 => ?_⟩
        obtain ⟨x, hat, mx⟩ := at_mem' (xs := nm.cps.toList) d0 (by rw [nml]; exact d1)
        refine ⟨nm, d, x, rfl, rfl, by rw [sizeLine_eq]; omega, hat, ?_⟩
        refine ⟨(by show 0 ≤ sizeLine; decide), fun q0 n0 => ?_⟩
        obtain ⟨H2, e2, P2, B2, f2⟩ := mk_at (.tup []) P1 n0
        rw [e2]
        refine ⟨(by show 3 ≤ sizeLine; decide), fun q1 n1' => ?_⟩
        obtain ⟨H3, e3, P3, B3, f3⟩ := mk_at (.tup [.str "name", .str (one x), .ref q0]) P2 n1'
        rw [show upd H2 q1 (.tup [.str "name", .str ⟨#[x]⟩, .ref q0]) = H3 from e3]
        refine ⟨(by show 0 ≤ sizeLine; decide), fun q2 n2 => ?_⟩
        obtain ⟨H4, e4, P4, B4, f4⟩ := mk_at (.tup []) P3 n2
        rw [e4]
        refine ⟨(by show 3 ≤ sizeLine; decide), fun q3 n3 => ?_⟩
        obtain ⟨H5, e5, P5, B5, f5⟩ := mk_at (.tup [.str "never", .non, .ref q2]) P4 n3
        rw [e5]
        refine ⟨(by show 0 ≤ sizeLine; decide), fun q4 n4 => ?_⟩
        obtain ⟨H6, e6, P6, B6, f6⟩ := mk_at (.tup []) P5 n4
        rw [e6]
        refine ⟨(by show 3 ≤ sizeLine; decide), fun q5 n5 => ?_⟩
        obtain ⟨H7, e7, P7, B7, f7⟩ := mk_at (.tup [.str "always", .non, .ref q4]) P6 n5
        rw [e7]
        refine ⟨(by show 3 ≤ sizeLine; decide), fun q6 n6 => ?_⟩
        obtain ⟨H8, e8, P8, B8, f8⟩ := mk_at (.lst [.ref q1, .ref q3, .ref q5]) P7 n6
        rw [e8]
        refine gn1 (σ' := [some (.ref p), some (.int z), some (.str nm), some (.ref q6), none, none]) rfl ?_
        refine ⟨_, rfl, (by show 8 ≤ sizeLine; decide), fun q7 n7 => ?_⟩
        obtain ⟨H9, e9, P9, B9, f9⟩ := mk_at (.lst [.int 0, .int 0, .int 0, .int 0, .int 0, .int 0, .int 1, .int 2]) P8 n7
        rw [e9]
        refine ⟨_, rfl, p, 8, c1, rfl, P9, by omega, by decide, by decide, fun e c2 H10 e0 e1 k2 P10 B10 => ?_⟩
        have h10 := B10.hide
        have h9 := B9.hide.trans h10
        have h8 := B8.hide.trans h9
        have h7 := B7.hide.trans h8
        have h6 := B6.hide.trans h7
        have h5 := B5.hide.trans h6
        have h4 := B4.hide.trans h5
        have h3 := B3.hide.trans h4
        have BB : But p H H10 := B1.trans (B2.trans (B3.trans (B4.trans (B5.trans (B6.trans (B7.trans (B8.trans (B9.trans B10))))))))
        have ra : RawAt K (hide p H10) (.nm x) q1 := ⟨q0, SqT.of (h4 _ _ f3), SqT.of (h3 _ _ f2)⟩
        have rb : RawAt K (hide p H10) .nev q3 := ⟨q2, SqT.of (h6 _ _ f5), SqT.of (h5 _ _ f4)⟩
        have rc : RawAt K (hide p H10) .alw q5 := ⟨q4, SqT.of (h8 _ _ f7), SqT.of (h7 _ _ f6)⟩
        have fl := SqL.of (K := K) (hide_same _ _ (h9 _ _ f8))
        have fi := SqL.of (K := K) (hide_same _ _ (h10 _ _ f9))
        have three : ∃ v, atI [V.int 0, .int 0, .int 0, .int 0, .int 0, .int 0, .int 1, .int 2] e = some (.int v) ∧ (v = 0 ∨ v = 1 ∨ v = 2) := by
          have he : e = 0 ∨ e = 1 ∨ e = 2 ∨ e = 3 ∨ e = 4 ∨ e = 5 ∨ e = 6 ∨ e = 7 := by omega
          rcases he with rfl | rfl | rfl | rfl | rfl | rfl | rfl | rfl
          · exact ⟨0, rfl, .inl rfl⟩
          · exact ⟨0, rfl, .inl rfl⟩
          · exact ⟨0, rfl, .inl rfl⟩
          · exact ⟨0, rfl, .inl rfl⟩
          · exact ⟨0, rfl, .inl rfl⟩
          · exact ⟨0, rfl, .inl rfl⟩
          · exact ⟨1, rfl, .inr (.inl rfl)⟩
          · exact ⟨2, rfl, .inr (.inr rfl)⟩
        obtain ⟨v, hv, v3⟩ := three
        refine ⟨q7, _, _, _, rfl, rfl, fi, hv, ?_⟩
        have sz1 : ∀ t : Sy, t.size = 1 → ((t.size : Nat) : Int) = 1 := fun t e => by rw [e]; rfl
        rcases v3 with rfl | rfl | rfl
        · refine ⟨q6, _, _, .ref q1, rfl, rfl, fl, rfl, ?_⟩
          refine h.fin q1 (.nm x) c2 H10 (by have := sz1 (.nm x) rfl; omega) ra (hn.abc x mx) (by have := sz1 (.nm x) rfl; omega) (by show (1 : Int) ≤ z; omega) (fun d hd => ?_) P10 BB
          have : x = d := by simpa [Sy.has] using hd
          rw [← this]
          exact mx
        · refine ⟨q6, _, _, .ref q3, rfl, rfl, fl, rfl, ?_⟩
          exact h.fin q3 .nev c2 H10 (by have := sz1 .nev rfl; omega) rb trivial (by have := sz1 .nev rfl; omega) (by show (1 : Int) ≤ z; omega) (fun d hd => by cases hd) P10 BB
        · refine ⟨q6, _, _, .ref q5, rfl, rfl, fl, rfl, ?_⟩
          exact h.fin q5 .alw c2 H10 (by have := sz1 .alw rfl; omega) rc trivial (by have := sz1 .alw rfl; omega) (by show (1 : Int) ≤ z; omega) (fun d hd => by cases hd) P10 BB
      · rw [decide_eq_false small]
        refine iteF ?_
        refine ⟨(by show 8 ≤ sizeLine; decide), fun l hl => ?_⟩
        obtain ⟨H1, e1, P1, B1, f1⟩ := mk_at (.lst [.str "both", .str "then", .str "then", .str "lower", .str "higher", .str "same", .str "denied", .str "both"]) P0 hl
        rw [e1]
        refine ⟨_, rfl, p, 8, c, rfl, P1, by omega, by decide, by decide, fun d c2 H2 d0 d8 k2 P2 B2 => ?_⟩
        have hk : atI [V.str "both", .str "then", .str "then", .str "lower", .str "higher", .str "same", .str "denied", .str "both"] d = some (.str "denied") ∨ ∃ k : Bk, atI [V.str "both", .str "then", .str "then", .str "lower", .str "higher", .str "same", .str "denied", .str "both"] d = some (.str k.kind) := by
          have hd : d = 0 ∨ d = 1 ∨ d = 2 ∨ d = 3 ∨ d = 4 ∨ d = 5 ∨ d = 6 ∨ d = 7 := by omega
          rcases hd with rfl | rfl | rfl | rfl | rfl | rfl | rfl | rfl
          · exact .inr ⟨.both, rfl⟩
          · exact .inr ⟨.thn, rfl⟩
          · exact .inr ⟨.thn, rfl⟩
          · exact .inr ⟨.lower, rfl⟩
          · exact .inr ⟨.higher, rfl⟩
          · exact .inr ⟨.same, rfl⟩
          · exact .inl rfl
          · exact .inr ⟨.both, rfl⟩
        have B12 := B1.trans B2
        have fl2 := SqL.of (K := K) (hide_same _ _ (B2.hide _ _ f1))
        rcases hk with hk | ⟨k, hk⟩
        · refine ⟨l, _, _, _, rfl, rfl, fl2, hk, ?_⟩
          refine gn1 (σ' := [some (.ref p), some (.int z), some (.str nm), none, some (.str "denied"), none]) rfl ?_
          refine ⟨_, rfl, rfl, _, rfl, iteT ?_⟩
          refine ⟨_, rfl, _, rfl, _, rfl, _, _, rfl, rfl, _, rfl, p, c2, z - 1, nm, rfl, by omega, by omega, hn, ⟨P2, by omega, fun a t c3 H3 k3 ra ok sz dp hs P3 B3 => ?_⟩⟩
          refine ⟨(by show 1 ≤ sizeLine; decide), fun tp ntp => ?_⟩
          obtain ⟨H4, e4, P4, B4, f4⟩ := mk_at (.tup [.ref a]) P3 ntp
          rw [e4]
          refine ⟨(by show 3 ≤ sizeLine; decide), fun tq ntq => ?_⟩
          obtain ⟨H5, e5, P5, B5, f5⟩ := mk_at (.tup [.str "denied", .non, .ref tp]) P4 ntq
          rw [e5]
          have sz2 : ((Sy.den t).size : Int) = t.size + 1 := by show ((t.size + 1 : Nat) : Int) = _; omega
          have dp2 : ((Sy.den t).depth : Int) = t.depth + 1 := by show ((t.depth + 1 : Nat) : Int) = _; omega
          exact h.fin tq (.den t) c3 H5 (by omega) ⟨tp, a, SqT.of f5, SqT.of (B5.hide _ _ f4), (ra.on B4.hide).on B5.hide⟩ ok (by omega) (by omega) hs P5 (B12.trans (B3.trans (B4.trans B5)))
        · refine ⟨l, _, _, _, rfl, rfl, fl2, hk, ?_⟩
          refine gn1 (σ' := [some (.ref p), some (.int z), some (.str nm), none, some (.str k.kind), none]) rfl ?_
          have nd : ¬ V.str k.kind = V.str "denied" := by cases k <;> decide
          refine ⟨_, rfl, rfl, _, rfl, ?_⟩
          rw [decide_eq_false nd]
          refine iteF ?_
          obtain ⟨m, hm', m1, m2⟩ : ∃ m : Int, (if z - 2 > 1 then z - 2 else 1) = m ∧ 1 ≤ m ∧ (m = 1 ∨ m = z - 2) := by
            refine ⟨_, rfl, ?_, ?_⟩ <;> split <;> omega
          refine ⟨_, rfl, _, rfl, _, _, rfl, rfl, 1, z - 2, rfl, p, m, c2, ?_, P2, by omega, by omega, by omega, fun d5 c5 H5 a5 b5 k5 P5 B5 => ?_⟩
          · show [V.ref p, V.int (if z - 2 > 1 then z - 2 else 1)] ++ [] = _
            rw [hm']
            rfl
          refine ⟨_, _, rfl, rfl, ?_⟩
          obtain ⟨cut, hcut, cut1, cutm⟩ : ∃ cut : Int, 1 + d5 = cut ∧ 1 ≤ cut ∧ cut ≤ m := ⟨_, rfl, by omega, by omega⟩
          refine gn1 (σ' := [some (.ref p), some (.int z), some (.str nm), none, some (.str k.kind), some (.int cut)]) (by rw [← hcut]; rfl) ?_
          refine ⟨_, rfl, _, rfl, _, rfl, _, rfl, p, c5, cut, nm, rfl, by omega, by omega, hn, ⟨P5, by omega, fun a1 t1 c6 H6 k6 ra1 ok1 sz1 dp1 hs1 P6 B6 => ?_⟩⟩
          obtain ⟨z2, hz2, z21, z2m⟩ : ∃ z2 : Int, (if z - 1 - cut > 1 then z - 1 - cut else 1) = z2 ∧ 1 ≤ z2 ∧ (z2 = 1 ∨ z2 = z - 1 - cut) := by
            refine ⟨_, rfl, ?_, ?_⟩ <;> split <;> omega
          have z2b : 2 * cut - 1 + (2 * z2 - 1) + 1 ≤ 2 * z - 1 ∧ z2 ≤ z - 1 ∧ cut ≤ z - 1 := by
            rcases m2 with e | e <;> rcases z2m with e' | e' <;> omega
          refine ⟨_, rfl, _, rfl, _, _, rfl, rfl, _, rfl, _, _, rfl, rfl, 1, z - 1 - cut, rfl, _, rfl, p, c6, z2, nm, ?_, z21, by omega, hn, ⟨P6, by omega, fun a2 t2 c7 H7 k7 ra2 ok2 sz2 dp2 hs2 P7 B7 => ?_⟩⟩
          · show [V.ref p, V.int (if z - 1 - cut > 1 then z - 1 - cut else 1), V.str nm] ++ [] = _
            rw [hz2]
            rfl
          refine ⟨(by show 2 ≤ sizeLine; decide), fun tp ntp => ?_⟩
          obtain ⟨H8, e8, P8, B8, f8⟩ := mk_at (.tup [.ref a1, .ref a2]) P7 ntp
          rw [e8]
          refine ⟨(by show 3 ≤ sizeLine; decide), fun tq ntq => ?_⟩
          obtain ⟨H9, e9, P9, B9, f9⟩ := mk_at (.tup [.str k.kind, .non, .ref tp]) P8 ntq
          rw [e9]
          have szb : ((Sy.bin k t1 t2).size : Int) = t1.size + t2.size + 1 := by show ((t1.size + t2.size + 1 : Nat) : Int) = _; omega
          have dpb : ((Sy.bin k t1 t2).depth : Int) ≤ z := by
            show ((max t1.depth t2.depth + 1 : Nat) : Int) ≤ z
            omega
          exact h.fin tq (.bin k t1 t2) c7 H9 (by omega) ⟨tp, a1, a2, SqT.of f9, SqT.of (B9.hide _ _ f8), ((ra1.on B7.hide).on B8.hide).on B9.hide, (ra2.on B8.hide).on B9.hide⟩ ⟨ok1, ok2⟩ (by omega) dpb
            (fun d hd => ((Bool.or_eq_true _ _ ▸ hd : t1.has d = true ∨ t2.has d = true)).elim (hs1 d) (hs2 d)) P9 (B12.trans (B5.trans (B6.trans (B7.trans (B8.trans B9)))))
end
end G1
set_option maxHeartbeats 4000000
/-! xs.extend(a tuple); list(d.values()) -/
namespace OW
open PySem PySem.Spec PyProof.Rows
theorem ext_tup (l : Addr) (old : Array Value) (n : Nat) (b : Addr) (new : Array Value) (n2 : Nat) (dd : Option Addr) (sl : Array (Option Value)) (c0 : ¬(!old.isEmpty && Builtin.List.listTooLong (old.size + new.size)) = true) (c1 : old.size ≤ sizeLine) (c2 : old.size + new.size ≤ sizeLine + 1) :
    Meets (Builtin.«list.extend» ⟨[.ref l, .ref b], []⟩) (fun _ R s => s.heap.get? l = some { cls := .type "list", dict := none, data := .seq old n, slots := #[] } ∧ s.heap.get? b = some { cls := .type "tuple", dict := dd, data := .seq new n2, slots := sl } ∧
      R (.ok (.ret Value.none)) { s with heap := s.heap.update l (Obj.mapSeq fun x => x ++ new), toks := s.toks }) := by
  apply Meets.of_wp
  rintro prog w A R ⟨hp, gs, dr, tk, os⟩ ⟨atL, atB, r⟩
  have i1 := PySem.AutoSeq1.idx_int
  have i2 := PySem.AutoSeq1.sub_tuple_tuple
  have i3 := PySem.AutoSeq1.sub_list_list
  have i4 := PySem.AutoSeq1.sub_tuple_list
  have i5 := PySem.AutoSeq1.sub_list_tuple
  have fits : (old ++ new).size ≤ sizeLine + 1 := Array.size_append ▸ c2
  wp_walk using (wpAny_updateSeq atL rfl (hz := c1) (_hz' := fits)), PySem.AutoSeq1.wpAny_loadPart' atL, PySem.AutoSeq1.wpAny_loadPart' atB
  exact ⟨_, rfl, r⟩
end OW
namespace OW
open PySem PySem.Spec PyProof.Rows L2
section
variable {X : Cx}
def rExtT (K : PySem.W.Frag) : V → List V → Hp → VK → Prop := fun x vs H Q => ∃ l b xs zs, x = .ref l ∧ vs = [.ref b] ∧ H l = some (.lst xs) ∧ SqT K H b zs ∧ xs.length + zs.length ≤ sizeLine ∧ Q .non (upd H l (.lst (xs ++ zs)))
theorem mt_extT : MtM X "list.extend" (rExtT X.K) := by
  intro pn st sl H x vs v us Q I r1 rs ask
  obtain ⟨l, b, xs, zs, rfl, rfl, atL, atB, most, q⟩ := ask
  have e1 : v = Value.ref l := r1
  have e2 : us = [Value.ref b] := Vals.ref1 rs
  subst e1 e2
  obtain ⟨_, as, n, ra, la, oa⟩ := I.lstM atL
  obtain ⟨bs, rb, ⟨⟨oc, od, odata, osl⟩, ob, kc, n2, kd⟩, lb⟩ := I.tuple atB
  dsimp only at kc kd
  subst kc kd
  have k1 := ra.length
  have k2 := rb.length
  have small : as.toArray.size + bs.toArray.size ≤ sizeLine := by
    simp only [List.size_toArray]
    omega
  have short : ¬ (!as.toArray.isEmpty && Builtin.List.listTooLong (as.toArray.size + bs.toArray.size)) = true := by
    intro z
    rw [Bool.and_eq_true, notLongL small] at z
    exact Bool.false_ne_true z.2
  have one : as.toArray.size ≤ sizeLine := Nat.le_trans (Nat.le_add_right _ _) small
  have isL : st.TypeIs (.ref l) "list" := ⟨_, oa, rfl⟩
  have does := ext_tup l as.toArray n b bs.toArray n2 od osl short one (Nat.le_succ_of_le small)
  refine call_meets F.slot_list_extend isL F.entry_list_extend (F.args_list_extend_2 _ _) does ⟨oa, ob, ?_⟩
  refine ⟨V.non, _, I.lset (its' := as ++ bs) atL oa (by simp) (ra.append rb) ?_, rfl, q⟩
  rw [List.length_append]
  omega
/-- list(e.values()) -/
def rValsL : V → Hp → VK → Prop := fun x H Q => ∃ (d : Addr) (kvs : List (Key × V)), x = .ref d ∧ H d = some (.dK kvs) ∧ ∀ l, H l = none → Q (.ref l) (upd H l (.lst (kvs.map (·.2))))
def tListVals (te : TE) : TE := fun σ H Q => te σ H fun x H1 => rValsL x H1 Q
variable {e : Expr} {te : TE} {p apos cpos pos : Pos}
theorem kv_snd : ∀ {kvs : List (Key × V)} {vs : List (Key × Value)}, KV kvs vs → Vals (kvs.map (·.2)) (vs.map (·.2))
  | _, _, .nil => .nil
  | _, _, .cons r rs => .cons r.2 (kv_snd rs)
/-- a view of the values, made into a list -/
theorem view_list {pn : List (Addr × Obj)} {sl : L2.St} {H : Hp} {st : Shared} {d r : Addr} {kvs : List (Key × V)} {vs : List (Key × Value)} {ep : Nat} {Q : VK} (calm : X.calm = true) (I : Inv X pn sl H st) (kv : KV kvs vs) (few : kvs.length ≤ sizeLine)
    (view : st.heap.IsValuesView r d) (at_ : st.heap.DictAt (mixKind X.prog X.w) d vs ep) (q : ∀ l, H l = none → Q (.ref l) (upd H l (.lst (kvs.map (·.2))))) : wpAny (model X.prog X.w) X.A (call (.type "list") [.ref r]) (EP X pn sl Q) X.xe st := by
  have same : kvs.length = vs.length := Paired.length kv
  apply PySem.W.kdl_call (PySem.W.kdl_values (knd := mixKind X.prog X.w) (kvs := vs) (ep := ep) (d := d)) (I.ok.hd calm) ⟨view, at_⟩ (same ▸ few)
  intro h' tk acc c keep made items
  have all : acc.toList = vs.map (·.2) := by
    apply PySem.W.kdl_vals_eq acc.toList
    · simpa using items.1
    · intro j v hv
      exact items.2 j v (by simpa using hv)
  have most : (kvs.map (·.2)).length ≤ sizeLine := List.length_map (as := kvs) (·.2) ▸ few
  exact ⟨V.ref _, _, I.laid (t' := tk) (o := .lst (kvs.map (·.2))) keep (Nat.le_refl _) ⟨most, acc.toList, c, all ▸ kv_snd kv, by simpa using made⟩, rfl, q _ (I.hok.fresh (Nat.le_refl _))⟩
theorem pe_listVals (calm : X.calm = true) (he : PE X e te) (gl : Gl X "list") (free : X.mg "list" = none) (bv : bootBuiltins "list" = some (.type "list")) (base : attributeBase e "values" X.env (eval e X.env) = eval e X.env := by rfl) (line : (apos.endLine == cpos.line) = true := by rfl)
    (each : starEach [.Call (.Attribute e "values" apos) [] [] cpos] X.env = (false, eval (.Call (.Attribute e "values" apos) [] [] cpos) X.env) :: starEach [] X.env := by rfl) :
    PE X (.Call (.Name "list" p) [.Call (.Attribute e "values" apos) [] [] cpos] [] pos) (tListVals te) := by
  constructor
  intro pn st sl H Q I ask
  apply wpAny_Call_Name_kw
  apply ld_blt I gl free bv
  refine PyProof.Rows.callWith_type1 (T := "list") ?_ each rfl
  rw [each]
  apply Calls.spliced_cons
  apply wpAny_Call_method (T := "dict") (id := "dict.values") base rfl line F.plainAttrs_dict F.slot_dict_values F.type_dict_values
  refine thn (he.run pn st sl H _ I ask) ?_
  rintro u s1 ⟨x, H1, I1, rel, d, kvs, rfl, here, q⟩
  have eu : u = Value.ref d := rel
  subst eu
  have its := I1.hok d _ here
  obtain ⟨few, low, vs, kv, isD⟩ := its
  obtain ⟨ep, at_⟩ := isD.dictAt
  let view : Obj := { cls := .type "dict_values", data := .fields #[.ref d] }
  have I2 : Inv X pn sl H1 { s1 with heap := s1.heap.push view } := I1.kept (t' := s1.toks) fun _ _ z => Heap.get?_push_of_some _ z
  constructor
  · exact isD.typeIs
  constructor
  · exact isD.mapOf.noDict
  apply method_meetsIn F.slot_dict_values F.entry_dict_values rfl
  refine PySem.evalArgs_none ⟨rfl, isD.typeIs, F.args_dict_values_1 _, _, meets_dict_values (mixKind X.prog X.w) d low, ⟨vs, isD⟩, ?_⟩
  apply Calls.spliced_nil
  exact view_list calm I2 kv few ⟨_, Heap.get?_push_size _ rfl, rfl, rfl⟩ (at_.push _) q
end
end OW
set_option maxHeartbeats 8000000
namespace G1
open PySem PySem.Spec PyProof.Rows L2 SY TXS OW
/-! ### the parts -/
def post : Sy → List Sy
  | .nm c => [.nm c] | .nev => [.nev] | .alw => [.alw]
  | .den a => post a ++ [.den a]
  | .bin k a b => post a ++ post b ++ [.bin k a b]
theorem post_subs (t : Sy) : post t = t.subs.flatMap post ++ [t] := by
  cases t with
  | bin k a b => show post a ++ post b ++ [_] = (post a ++ (post b ++ [])) ++ [_]; rw [List.append_nil]
  | den a => show post a ++ [_] = (post a ++ []) ++ [_]; rw [List.append_nil]
  | _ => rfl
theorem post_len : ∀ t : Sy, (post t).length = t.size
  | .nm _ => rfl | .nev => rfl | .alw => rfl
  | .den a => by
    show (post a ++ [_]).length = a.size + 1
    rw [List.length_append, post_len a]
    rfl
  | .bin k a b => by
    show (post a ++ post b ++ [_]).length = a.size + b.size + 1
    rw [List.length_append, List.length_append, post_len a, post_len b]
    rfl
def addU (acc : List Sy) (u : Sy) : List Sy := if acc.any (fun v => decide (v.text = u.text)) then acc else acc ++ [u]
def uniq (ts : List Sy) : List Sy := ts.foldl addU []
theorem addU_old {acc : List Sy} {u : Sy} (h : acc.any (fun v => decide (v.text = u.text)) = true) : addU acc u = acc := if_pos h
theorem addU_new {acc : List Sy} {u : Sy} (h : acc.any (fun v => decide (v.text = u.text)) = false) : addU acc u = acc ++ [u] := if_neg (by rw [h]; exact Bool.false_ne_true)
theorem addU_len (acc : List Sy) (u : Sy) : (addU acc u).length ≤ acc.length + 1 := by
  unfold addU
  split
  · omega
  · simp
theorem fold_addU_len : ∀ (ts acc : List Sy), (ts.foldl addU acc).length ≤ acc.length + ts.length
  | [], acc => by simp
  | t :: ts, acc => by
    have h1 := fold_addU_len ts (addU acc t)
    have h2 := addU_len acc t
    rw [List.foldl_cons, List.length_cons]
    omega
theorem paired_snoc {α β : Type} {R : α → β → Prop} : ∀ {xs : List α} {ys : List β}, Paired R xs ys → ys ≠ [] → ∃ xs0 x ys0 y, xs = xs0 ++ [x] ∧ ys = ys0 ++ [y] ∧ Paired R xs0 ys0 ∧ R x y
  | _, _, .nil, h => absurd rfl h
  | _, _, .cons (a := x) (b := y) r .nil, _ => ⟨[], x, [], y, rfl, rfl, .nil, r⟩
  | _, _, .cons (a := x) (b := y) r (.cons r2 rs), _ => by
    obtain ⟨xs0, x', ys0, y', e1, e2, p, q⟩ := paired_snoc (.cons r2 rs) (by simp)
    exact ⟨x :: xs0, x', y :: ys0, y', by rw [e1]; rfl, by rw [e2]; rfl, .cons r p, q⟩
theorem paired_app {α β : Type} {R : α → β → Prop} : ∀ {xs xs' : List α} {ys ys' : List β}, Paired R xs ys → Paired R xs' ys' → Paired R (xs ++ xs') (ys ++ ys')
  | _, _, _, _, .nil, h => h
  | _, _, _, _, .cons r rs, h => .cons r (paired_app rs h)
theorem paired_fwd {α β : Type} {R : α → β → Prop} : ∀ {xs : List α} {ys : List β} {i : Nat} {x : α}, Paired R xs ys → xs[i]? = some x → ∃ y, ys[i]? = some y ∧ R x y
  | _, _, _, _, .nil, h => by cases h
  | _, _, 0, _, .cons r _, h => by
    cases h
    exact ⟨_, rfl, r⟩
  | _, _, i + 1, v, .cons _ rs, h => paired_fwd (i := i) rs h
def mkK : List Sy → List Addr → List (Key × V)
  | t :: ts, a :: as => (Sum.inr t.text, V.ref a) :: mkK ts as
  | _, _ => []
theorem mkK_snd {R : Sy → Addr → Prop} : ∀ {ts : List Sy} {as : List Addr}, Paired R ts as → (mkK ts as).map (·.2) = as.map V.ref
  | _, _, .nil => rfl
  | _, _, .cons _ rs => by
    show _ :: _ = _ :: _
    rw [mkK_snd rs]
theorem mkK_len {R : Sy → Addr → Prop} : ∀ {ts : List Sy} {as : List Addr}, Paired R ts as → (mkK ts as).length = ts.length
  | _, _, .nil => rfl
  | _, _, .cons _ rs => by
    show _ + 1 = _ + 1
    rw [mkK_len rs]
theorem mkK_val {R : Sy → Addr → Prop} (x : Str) : ∀ {ts : List Sy} {as : List Addr}, Paired R ts as → ((valV (mkK ts as) (Sum.inr x)).isSome = ts.any fun v => decide (v.text = x))
  | _, _, .nil => rfl
  | _, _, .cons (a := t) (b := a) (l₁ := ts) (l₂ := as) _ rs => by
    show (valV ((Sum.inr t.text, V.ref a) :: mkK ts as) (Sum.inr x)).isSome = (decide (t.text = x) || ts.any fun v => decide (v.text = x))
    by_cases c : t.text = x
    · rw [valV_pos (by rw [c]), decide_eq_true c]
      rfl
    · rw [valV_neg (fun z => c (by injection z)), decide_eq_false c, Bool.false_or]
      exact mkK_val x rs
theorem mkK_snoc {R : Sy → Addr → Prop} {u : Sy} {b : Addr} : ∀ {ts : List Sy} {as : List Addr}, Paired R ts as → mkK (ts ++ [u]) (as ++ [b]) = mkK ts as ++ [(Sum.inr u.text, V.ref b)]
  | _, _, .nil => rfl
  | _, _, .cons _ rs => congrArg (_ :: ·) (mkK_snoc rs)
structure PartsP (K : PySem.W.Frag) (C : Addr) (t : Sy) (H : Hp) (Q : VK) : Prop where
  fin : ∀ l H' (as : List Addr), Same H H' → H l = none → H' l = some (.lst (as.map V.ref)) → Paired (SayAt K C H') (uniq (post t)) as → Q (.ref l) H'
def spParts (K : PySem.W.Frag) (C : Addr) : Sp := fun vs H Q _ => ∃ (a : Addr) (t : Sy), vs = [.ref a] ∧ SayAt K C H t a ∧ t.size ≤ 1000 ∧ PartsP K C t H Q
end G1
set_option maxHeartbeats 16000000
namespace G1
open PySem PySem.Spec PyProof.Rows L2 SY TXS OW
/-! ### the law's size and names -/
theorem dpos (t : Sy) : ¬ t.depth ≤ 0 := by
  have := t.depth_pos
  omega
theorem sub_depth {t s : Sy} {n : Nat} (h : s ∈ t.subs) (d : t.depth ≤ n + 1) : s.depth ≤ n := by
  cases t with
  | den a =>
    have e : s = a := by simpa [Sy.subs] using h
    have d' : a.depth + 1 ≤ n + 1 := d
    rw [e]
    omega
  | bin k a b =>
    have e : s = a ∨ s = b := by simpa [Sy.subs] using h
    have d' : max a.depth b.depth + 1 ≤ n + 1 := d
    rcases e with e | e <;> rw [e] <;> omega
  | _ => cases h
theorem sub_size {t s : Sy} (h : s ∈ t.subs) : s.size < t.size := by
  cases t with
  | den a =>
    have e : s = a := by simpa [Sy.subs] using h
    rw [e]
    show a.size < a.size + 1
    omega
  | bin k a b =>
    have e : s = a ∨ s = b := by simpa [Sy.subs] using h
    rcases e with e | e <;> rw [e]
    · show a.size < a.size + b.size + 1
      omega
    · show b.size < a.size + b.size + 1
      omega
  | _ => cases h
theorem sub_ok {t s : Sy} (h : s ∈ t.subs) (o : t.ok) : s.ok := by
  cases t with
  | den a =>
    have e : s = a := by simpa [Sy.subs] using h
    rw [e]
    exact o
  | bin k a b =>
    have e : s = a ∨ s = b := by simpa [Sy.subs] using h
    rcases e with e | e <;> rw [e]
    · exact o.1
    · exact o.2
  | _ => cases h
theorem raws_on {K : PySem.W.Frag} {H H' : Hp} (e : Same H H') {ts : List Sy} {as : List Addr} (h : Paired (RawAt K H) ts as) : Paired (RawAt K H') ts as := by
  induction h with
  | nil => exact .nil
  | cons r _ ih => exact .cons (r.on e) ih
def spSizeL (K : PySem.W.Frag) (n : Nat) : Sp := fun vs H Q _ => ∃ (a : Addr) (t : Sy), vs = [.ref a] ∧ RawAt K H t a ∧ t.depth ≤ n ∧ ∀ H', Same H H' → Q (.int t.size) H'
def spNamesL (K : PySem.W.Frag) (n : Nat) : Sp := fun vs H Q _ => ∃ (a : Addr) (t : Sy), vs = [.ref a] ∧ RawAt K H t a ∧ t.ok ∧ t.depth ≤ n ∧ ∀ l H', Same H H' → H l = none → H' l = some (.lst (t.names.map V.str)) → Q (.ref l) H'
theorem kind_noname {t : Sy} (h : ∀ c, t ≠ .nm c) : ¬ V.str t.kind = V.str "name" := by
  cases t with
  | nm c => exact absurd rfl (h c)
  | bin k x y => exact (by cases k <;> decide : ¬ V.str k.kind = V.str "name")
  | den x => exact (by decide : ¬ V.str "denied" = V.str "name")
  | nev => decide
  | alw => decide
def preN : Sy → List Str
  | .nm c => [one c] | _ => []
theorem preN_len (t : Sy) : (preN t).length ≤ 1 := by cases t <;> simp [preN]
theorem mem_pre {t : Sy} (h : t.ok) (x : Str) : x ∈ preN t ++ allNames t.subs ↔ ∃ c, t.has c = true ∧ x = one c := by
  by_cases n : ∃ c, t = .nm c
  · obtain ⟨c, rfl⟩ := n
    have e : preN (.nm c) ++ allNames (Sy.nm c).subs = [one c] := rfl
    rw [e, List.mem_singleton]
    constructor
    · rintro rfl
      exact ⟨c, by simp [Sy.has], rfl⟩
    · rintro ⟨d, e, rfl⟩
      have : c = d := by simpa [Sy.has] using e
      rw [this]
  · have nn : ∀ c, t ≠ .nm c := fun c e => n ⟨c, e⟩
    have e : preN t = [] := by
      cases t with
      | nm c => exact absurd rfl (nn c)
      | _ => rfl
    rw [e, List.nil_append]
    exact mem_allNames h nn x
section
variable {P : Program} {w : World} {K : PySem.W.Frag} {mg : Str → Option Value} {base : Heap}
theorem scSizeL : FnScope ["raw", "inner"] ["raw"] (defScope lSize) := ⟨rfl, rfl, rfl, by decide +kernel, rfl, by decide +kernel, by decide +kernel⟩
theorem cl_sizel (D : DefAt K mg "_law_size" lSize) (B : Blt mg) : ∀ n : Nat, Cl CX0 P w K mg base (n + 1) "_law_size" ["raw"] (spSizeL K n) := by
  obtain ⟨f, fd, F, hm⟩ := D
  intro n
  induction n with
  | zero =>
    refine cl_of F hm (F.ok scSizeL (fun vs H Q E h => ?_) (fun cdv A outer s H vs Q E hr h => ?_)) fun _ _ _ _ _ _ us hl => match us, hl with | [_], _ => rfl
    · obtain ⟨a, t, rfl, _⟩ := h
      rfl
    · obtain ⟨a, t, rfl, _, d, _⟩ := h
      exact absurd d (dpos t)
  | succ n cR =>
    refine cl_of F hm (F.ok scSizeL (fun vs H Q E h => ?_) (fun cdv A outer s H vs Q E hr h => ⟨_, PSs.nox (pss_one (ps_ret (pe_op op_add pe_int (pe_callB (cr_sum rfl) (by rfl) B.sum (by decide +kernel) (pa_cons
        (pe_lc (own := [("inner", 1)]) (g := gName 1) (tt := tYes) (te := tCall (spSizeL K n) [] E0 (tCons (tVar 1) tNil)) (by rfl) scSizeL.nd (pi_tup (pe_ix ix_tup (pv 0) pe_int (fun _ _ => rfl))) (blkOk_by (N := ["raw", "inner"]) (sc := defScope lSize) (by decide +kernel))
          (fun _ _ _ _ _ => pg_name (i := 1) scSizeL.nd rfl (Or.inl rfl)) (fun _ _ _ _ _ => pts_nil) (fun _ _ _ _ _ => pe_c0 cR hr (by omega) (by rfl) (pa_cons (pv 1) pa_nil))) pa_nil))))), ?_⟩)) fun _ _ _ _ _ _ us hl => match us, hl with | [_], _ => rfl
    · obtain ⟨a, t, rfl, _⟩ := h
      rfl
    · obtain ⟨a, t, rfl, ra, dp, q⟩ := h
      obtain ⟨p, h1, bs, h2, pb⟩ := ra.face.ex
      refine ⟨_, rfl, a, _, _, .ref p, rfl, rfl, h1, rfl, p, rfl, ⟨_, h2⟩, fun D nD => ?_⟩
      refine lc_tup (K := K) (xs := bs.map V.ref) (fun i H' => Same H H' ∧ H' D = some (.lst (((t.subs.take i).map fun s => (s.size : Int)).map V.int))) ⟨same_new nD (Same.refl _), upd_same⟩ (fun i H' _ h => tup_on h2 h.1) ?_ ?_
      · rintro i x H' hx ⟨sm, hD⟩
        obtain ⟨u, b, hu, hb', rfl, hr⟩ := paired_at pb hx
        refine ⟨rfl, yes_to ?_⟩
        rw [if_pos rfl]
        refine ⟨_, rfl, b, u, rfl, hr.on sm, sub_depth (List.mem_of_getElem? hu) dp, fun H2 s2 => ?_⟩
        refine ⟨_, s2 _ _ hD, ?_, same_new nD (sm.trans s2), ?_⟩
        · have := subs_len t
          rw [List.length_map, List.length_map, List.length_take, sizeLine_eq]
          omega
        · rw [upd_same, take_next hu, List.map_append, List.map_append]
          rfl
      · rintro H1 ⟨sm, hD⟩
        have el : (bs.map V.ref).length = t.subs.length := by rw [List.length_map]; exact (pb.length).symm
        rw [el, List.take_length] at hD
        refine ⟨D, _, rfl, SqL.of hD, _, _, rfl, rfl, ?_⟩
        have e := size_sum t
        show Q (.int (1 + (t.subs.map fun s => (s.size : Int)).sum)) H1
        rw [← e]
        exact q H1 sm
theorem scNamesL : FnScope ["raw", "found", "inner"] ["raw"] (defScope lNames) := ⟨rfl, rfl, rfl, by decide +kernel, rfl, by decide +kernel, by decide +kernel⟩
theorem cl_namesl (D : DefAt K mg "_law_names" lNames) (B : Blt mg) : ∀ n : Nat, Cl CX0 P w K mg base (n + 1) "_law_names" ["raw"] (spNamesL K n) := by
  obtain ⟨f, fd, F, hm⟩ := D
  intro n
  induction n with
  | zero =>
    refine cl_of F hm (F.ok scNamesL (fun vs H Q E h => ?_) (fun cdv A outer s H vs Q E hr h => ?_)) fun _ _ _ _ _ _ us hl => match us, hl with | [_], _ => rfl
    · obtain ⟨a, t, rfl, _⟩ := h
      rfl
    · obtain ⟨a, t, rfl, _, _, d, _⟩ := h
      exact absurd d (dpos t)
  | succ n cR =>
    refine cl_of F hm (F.ok scNamesL (fun vs H Q E h => ?_) (fun cdv A outer s H vs Q E hr h => ⟨_, PSs.nox (pss_cons
        (ps_set (i := 1) scNamesL.nd rfl (Or.inl rfl) (pe_ifExp (pt_cmpR op_eq (pe_ix ix_tup (pv 0) pe_int (fun _ _ => rfl)) pe_str (nomark _)) (pe_lst (pa_cons (pe_ix ix_tup (pv 0) pe_int (fun _ _ => rfl)) pa_nil)) (pe_lst pa_nil)))
        (pss_cons (ps_for PassesOwn.never rfl (pi_tup (pe_ix ix_tup (pv 0) pe_int (fun _ _ => rfl))) (pg_name (i := 2) scNamesL.nd rfl (Or.inl rfl))
          (pss_one (ps_set (i := 1) scNamesL.nd rfl (Or.inl rfl) (pe_op op_cat (pv 1) (pe_c0 cR hr (by omega) (by rfl) (pa_cons (pv 2) pa_nil))))))
        (pss_one (ps_ret (pe_callB (cr_sortX rfl) (by rfl) B.sorted (by decide +kernel) (pa_cons (pe_callTy (cr_setX rfl) (by rfl) B.set (by decide +kernel) (pa_cons (pv 1) pa_nil)) pa_nil)))))), ?_⟩)) fun _ _ _ _ _ _ us hl => match us, hl with | [_], _ => rfl
    · obtain ⟨a, t, rfl, _⟩ := h
      rfl
    · obtain ⟨a, t, rfl, ra, ok, dp, q⟩ := h
      obtain ⟨p, h1, bs, h2, pb⟩ := ra.face.ex
      have lb : bs.length = t.subs.length := (pb.length).symm
      have l2 := subs_len t
      have lp := preN_len t
      refine ⟨_, rfl, a, _, _, .str t.kind, rfl, rfl, h1, rfl, rfl, _, rfl, ?_⟩
      have first : ∀ {Q' : VK}, (∀ l H', H l = none → Same H H' → H' l = some (.lst ((preN t).map V.str)) → Q' (.ref l) H') →
          if decide (V.str t.kind = V.str "name") = true then (tLst (tCons (tOp (rIxT K) (tVar 0) (tC (.int 1))) tNil)) [some (.ref a), none, none] H Q' else (tLst tNil) [some (.ref a), none, none] H Q' := by
        intro Q' go
        by_cases n : ∃ c, t = .nm c
        · obtain ⟨c, rfl⟩ := n
          refine iteT ⟨_, rfl, a, _, _, .str (one c), rfl, rfl, h1, rfl, (by show 1 ≤ sizeLine; decide), fun l nl => ?_⟩
          obtain ⟨H', e', s', f'⟩ := mk_s (.lst [.str (one c)]) nl
          rw [e']
          exact go l H' nl s' f'
        · have nn : ¬ V.str t.kind = V.str "name" := kind_noname fun c e => n ⟨c, e⟩
          have ep : preN t = [] := by
            cases t with
            | nm c => exact absurd ⟨c, rfl⟩ n
            | _ => rfl
          rw [decide_eq_false nn]
          refine iteF ⟨(by show 0 ≤ sizeLine; decide), fun l nl => ?_⟩
          obtain ⟨H', e', s', f'⟩ := mk_s (.lst []) nl
          rw [e']
          exact go l H' nl s' (by rw [ep]; exact f')
      refine first fun l0 H1 nl0 s1 f1 => ?_
      refine gn1 (σ' := [some (.ref a), some (.ref l0), none]) rfl ?_
      refine ⟨_, rfl, a, _, _, .ref p, rfl, rfl, tup_on h1 s1, rfl, p, rfl, ⟨_, tup_on h2 s1⟩, for_tup (xs := bs.map V.ref) (fun i σ G => ∃ (l : Addr) (v2 : Option V), σ = [some (.ref a), some (.ref l), v2] ∧ Same H G ∧ G l = some (.lst ((preN t ++ allNames (t.subs.take i)).map V.str))) ⟨l0, none, rfl, s1, ?_⟩ (fun i σ G _ h => ?_) ?_ ?_⟩
      · rw [List.take_zero]
        show _ = some (HO.lst ((preN t ++ []).map V.str))
        rw [List.append_nil]
        exact f1
      · obtain ⟨_, _, _, sG, _⟩ := h
        exact tup_on h2 sG
      · rintro i x σ G hx ⟨l, v2, rfl, sG, fl⟩
        obtain ⟨u, b, hu, hb', rfl, hr⟩ := paired_at pb hx
        have mu := List.mem_of_getElem? hu
        refine gn1 (σ' := [some (.ref a), some (.ref l), some (.ref b)]) rfl ?_
        refine ⟨_, rfl, _, rfl, b, u, rfl, hr.on sG, sub_ok mu ok, sub_depth mu dp, fun l3 G2 s2 nl3 fl3 => ?_⟩
        have ln := names_len u
        have la := allNames_len (t.subs.take i)
        rw [List.length_take] at la
        refine ⟨l, l3, _, _, rfl, rfl, s2 _ _ fl, fl3, ?_, fun l4 nl4 => ?_⟩
        · rw [List.length_map, List.length_map, List.length_append, sizeLine_eq]
          omega
        obtain ⟨G3, e3, s3, f3⟩ := mk_s (.lst ((preN t ++ allNames (t.subs.take i)).map V.str ++ u.names.map V.str)) nl4
        rw [e3]
        refine ⟨l4, _, rfl, sG.trans (s2.trans s3), ?_⟩
        rw [f3, take_next hu]
        unfold allNames
        rw [List.flatMap_append, List.flatMap_cons, List.flatMap_nil, List.append_nil, ← List.append_assoc, List.map_append (l₂ := u.names)]
      · rintro σ G ⟨l, v2, rfl, sG, fl⟩
        rw [List.length_map, lb, List.take_length] at fl
        have la := allNames_len t.subs
        have few : (preN t ++ allNames t.subs).length + 1 < scanBound := by
          rw [List.length_append]
          unfold scanBound
          omega
        refine ⟨_, rfl, l, _, rfl, SqL.of fl, few, fun S l' nS nd hm' hl2 => ?_⟩
        refine ⟨S, l', rfl, upd_same, by omega, fun ys p1 hs nd' hm2 hlen np => ?_⟩
        have ey : ys = t.names := names_of_sorted ok hs nd' fun x => (hm2 x).trans ((hm' x).trans (mem_pre ok x))
        subst ey
        have t1 : Same G (upd G S (TSetO P w S l')) := same_new nS (Same.refl _)
        have t2 := same_new (o := .lst (t.names.map V.str)) np (Same.refl _)
        exact q p1 _ (sG.trans (t1.trans t2)) (sG.free (t1.free np)) upd_same
end
end G1
set_option maxHeartbeats 16000000
namespace G1
open PySem PySem.Spec PyProof.Rows L2 SY TXS OW
/-! ### sayings of the law's trees -/
def spAlways (K : PySem.W.Frag) (C CL : Addr) : Sp := fun vs H Q E => vs = [] ∧ New K C CL .alw H Q E
def spBuiltL (K : PySem.W.Frag) (C : Addr) (n : Nat) : Sp := fun vs H Q _ => ∃ (a : Addr) (t : Sy), vs = [.ref a] ∧ RawAt K H t a ∧ t.ok ∧ t.depth ≤ n ∧ t.size ≤ 200 ∧ ∀ b H', Same H H' → H b = none → SayAt K C H' t b → Q (.ref b) H'
theorem no_empty {K : PySem.W.Frag} {H : Hp} {t : Sy} {bs : List Addr} (pb : Paired (RawAt K H) t.subs bs) (ok : t.ok) (d : t.depth ≤ 30) : PyData.eqv (.tuple (t.subs.map dRaw)) (.tuple []) = decide (t.subs = []) ∧ SeqAt.shaped (.tuple (t.subs.map dRaw)) = true := by
  have all : ∀ s ∈ t.subs, s.ok ∧ s.depth ≤ 30 := fun s hs => ⟨sub_ok hs ok, sub_depth hs (by omega)⟩
  obtain ⟨h1, h2⟩ := raws_lay all
  refine ⟨?_, ?_⟩
  · cases e : t.subs with
    | nil => simp [PyData.eqv, PyData.eqvAll]
    | cons x r => simp [PyData.eqv, PyData.eqvAll]
  · unfold SeqAt.shaped
    simp [PyData.canLay0, PyData.depth, h1]
    omega
theorem tup_but {K : PySem.W.Frag} {D b : Addr} {H H' : Hp} {xs ys : List V} (h : SqT K H b xs) (d : H D = some (.lst ys)) (s : But D H H') : SqT K H' b xs := by
  have go : ∀ o, H b = some o → (∀ zs, o ≠ .lst zs) → H' b = some o := fun o z n => s b o (fun e => by
    rw [e, d] at z
    cases z
    exact n _ rfl) z
  match h with
  | .inl (.inl h) => exact .inl (.inl (go _ h (fun _ => nofun)))
  | .inl (.inr ⟨u, h⟩) => exact .inl (.inr ⟨u, go _ h (fun _ => nofun)⟩)
  | .inr h => exact .inr h
theorem ins_but {D b C dx : Addr} {H H' : Hp} {fs : List (Str × V)} {ys : List V} (h : H b = some (.ins C dx fs)) (d : H D = some (.lst ys)) (s : But D H H') : H' b = some (.ins C dx fs) := by
  refine s b _ (fun e => ?_) h
  rw [e, d] at h
  cases h
theorem SayAt.but {K : PySem.W.Frag} {C D : Addr} {H H' : Hp} {ys : List V} (d : H D = some (.lst ys)) (s : But D H H') : ∀ {t : Sy} {a : Addr}, SayAt K C H t a → SayAt K C H' t a
  | .nm c, a, ⟨dx, p, q, h, h1, h2⟩ => ⟨dx, p, q, ins_but h d s, tup_but h1 d s, tup_but h2 d s⟩
  | .nev, a, ⟨dx, p, q, h, h1, h2⟩ => ⟨dx, p, q, ins_but h d s, tup_but h1 d s, tup_but h2 d s⟩
  | .alw, a, ⟨dx, p, q, h, h1, h2⟩ => ⟨dx, p, q, ins_but h d s, tup_but h1 d s, tup_but h2 d s⟩
  | .den t, a, ⟨dx, p, q, b, h, h1, h2, h3⟩ => ⟨dx, p, q, b, ins_but h d s, tup_but h1 d s, tup_but h2 d s, SayAt.but d s h3⟩
  | .bin k t u, a, ⟨dx, p, q, b, c, h, h1, h2, h3, h4⟩ => ⟨dx, p, q, b, c, ins_but h d s, tup_but h1 d s, tup_but h2 d s, SayAt.but d s h3, SayAt.but d s h4⟩
theorem says_but {K : PySem.W.Frag} {C D : Addr} {H H' : Hp} {ys : List V} (d : H D = some (.lst ys)) (s : But D H H') {ts : List Sy} {as : List Addr} (h : Paired (SayAt K C H) ts as) : Paired (SayAt K C H') ts as := by
  induction h with
  | nil => exact .nil
  | cons r _ ih => exact .cons (SayAt.but d s r) ih
theorem upd_but {D : Addr} {H : Hp} {o : HO} : But D H (upd H D o) := fun _ _ n h => (upd_ne n).trans h
section
variable {P : Program} {w : World} {K : PySem.W.Frag} {mg : Str → Option Value} {base : Heap} {C CL CS CN fL fS fN : Addr}
theorem scAlways : FnScope [] [] (defScope sAlways) := ⟨rfl, rfl, rfl, by decide +kernel, rfl, by decide +kernel, by decide +kernel⟩
theorem cl_always (D : DefAt K mg "always" sAlways) (T : SayTxt K w mg C) (M : Maker P w K mg base C CL) : Cl (L2.CX P w) P w K mg base 6 "always" [] (spAlways K C CL) := by
  obtain ⟨f, fd, F, hm⟩ := D
  obtain ⟨fI, fdI, e0, d1, d2, MK, FI, h0, b0, b1, v1, b2, v2⟩ := M.ex
  refine cl_of F hm (F.ok scAlways (fun vs H Q E h => ?_) (fun cdv A outer s H vs Q E hr h => ⟨_, pss_one (ps_ret (pe_make (E := E) MK FI hr (by rfl) T.gC b2 v2 (passes_call (takes_of rfl rfl rfl rfl) fun _ _ _ _ h => h) (pa_cons pe_str pa_nil))), ?_⟩)) fun _ _ _ _ _ _ us hl => match us, hl with | [], _ => rfl
  · rw [h.1]
    rfl
  · obtain ⟨rfl, n⟩ := h
    intro x dx hx hdx ne
    exact made_sp (t := .alw) (bs := []) hx hdx (h0 _) .nil trivial n.big fun sz H' s' h' => n.fit sz x H' s' hx h'
abbrev nBuilt : List Str := ["raw", "kind", "letter", "inner", "made", "one"]
theorem scBuilt : FnScope nBuilt ["raw"] (defScope lBuilt) := ⟨rfl, rfl, rfl, by decide +kernel, rfl, by decide +kernel, by decide +kernel⟩
theorem cl_built (D : DefAt K mg "_law_built" lBuilt) (T : SayTxt K w mg C) (B : Blt mg) (M : Maker P w K mg base C CL) (cNm : Cl (L2.CX P w) P w K mg base 6 "named" ["name"] (spNamed K C CL CN)) (cNv : Cl (L2.CX P w) P w K mg base 6 "never" [] (spNever K C CL))
    (cAw : Cl (L2.CX P w) P w K mg base 6 "always" [] (spAlways K C CL)) (cJ : Cl (L2.CX P w) P w K mg base 6 "_joined" ["kind", "first", "second"] (spJoined K C CL CS)) : ∀ n : Nat, n ≤ 30 → Cl CX0 P w K mg base (n + 8) "_law_built" ["raw"] (spBuiltL K C n) := by
  obtain ⟨f, fd, F, hm⟩ := D
  obtain ⟨f1, g1, M1, F1, b1⟩ := ok_both T cJ
  obtain ⟨f2, g2, M2, F2, b2⟩ := ok_thn T cJ
  obtain ⟨f3, g3, M3, F3, b3⟩ := ok_lower T cJ
  obtain ⟨f4, g4, M4, F4, b4⟩ := ok_higher T cJ
  obtain ⟨f5, g5, M5, F5, b5⟩ := ok_same T cJ
  obtain ⟨f6, g6, M6, F6, b6⟩ := ok_den T M
  obtain ⟨fv, gv, Fv, hv, kv, bv, _⟩ := cNv.ex
  obtain ⟨fw, gw, Fw, hw, kw, bw, _⟩ := cAw.ex
  intro n
  induction n with
  | zero =>
    intro _
    refine cl_of F hm (F.ok scBuilt (fun vs H Q E h => ?_) (fun cdv A outer s H vs Q E hr h => ?_)) fun _ _ _ _ _ _ us hl => match us, hl with | [_], _ => rfl
    · obtain ⟨a, t, rfl, _⟩ := h
      rfl
    · obtain ⟨a, t, rfl, _, _, d, _⟩ := h
      exact absurd d (dpos t)
  | succ n ih =>
    intro n30
    have cR := ih (by omega)
    refine cl_of F hm (F.ok scBuilt (fun vs H Q E h => ?_) (fun cdv A outer s H vs Q E hr h => ⟨_, PSs.nox (pss_cons
        (ps_asg (pv 0) (pg_tup (by rfl) (pgs_cons (pg_name (i := 1) scBuilt.nd rfl (Or.inl rfl)) (pgs_cons (pg_name (i := 2) scBuilt.nd rfl (Or.inl rfl)) (pgs_cons (pg_name (i := 3) scBuilt.nd rfl (Or.inl rfl)) pgs_nil)))))
        (pss_cons (ps_if (pt_cmpR (op_eqD hr.units) (pv 3) (pe_tup pa_nil) (nomark _)) (pss_one (ps_ret (pe_ifExp (pt_cmpR op_eq (pv 1) pe_str (nomark _)) (pe_cX cNm hr (by omega) (by rfl) (pa_cons (pv 2) pa_nil))
          (pe_ix ix_list (pe_lst (pa_cons (pe_call0 (E := E0) Fv (hr.mono (by omega)) (by rfl) hv kv bv .nil passL) (pa_cons (pe_call0 (E := E0) Fw (hr.mono (by omega)) (by rfl) hw kw bw .nil passL) pa_nil))) (pe_callTy call_int1 (by rfl) B.int (by decide +kernel) (pa_cons (pe_cmpR op_eq (pv 1) pe_str (nomark _)) pa_nil)) (fun _ _ => rfl))))) pss_nil)
        (pss_cons (ps_setLc (i := 4) (own := [("one", 5)]) (g := gName 5) (tt := tYes) (te := tCall (spBuiltL K C n) [] E0 (tCons (tVar 5) tNil)) (by rfl) scBuilt.nd rfl rfl (sw_true rfl rfl rfl (by decide +kernel)) (pi_tup (pv 3)) (blkOk_by (N := nBuilt) (sc := defScope lBuilt) (by decide +kernel))
            (fun _ _ _ _ _ => pg_name (i := 5) scBuilt.nd rfl (Or.inl rfl)) (fun _ _ _ _ _ => pts_nil) (fun _ _ _ _ _ => pe_c0 cR hr (by omega) (by rfl) (pa_cons (pv 5) pa_nil)))
        (pss_cons (ps_if (pt_cmpR op_eq (pv 1) pe_str (nomark _)) (pss_one (ps_ret (pe_meth0 (E := E0) (pe_ix ix_list (pv 4) pe_int (fun _ _ => rfl)) T.cl M6 F6 (hr.mono (by omega)) b6 .nil passL))) pss_nil)
        (pss_cons (ps_if (pt_cmpR op_eq (pv 1) pe_str (nomark _)) (pss_one (ps_ret (pe_meth (E := E0) (pe_ix ix_list (pv 4) pe_int (fun _ _ => rfl)) T.cl M1 F1 (hr.mono (by omega)) b1 .nil passL (pa_cons (pe_ix ix_list (pv 4) pe_int (fun _ _ => rfl)) pa_nil)))) pss_nil)
        (pss_cons (ps_if (pt_cmpR op_eq (pv 1) pe_str (nomark _)) (pss_one (ps_ret (pe_meth (E := E0) (pe_ix ix_list (pv 4) pe_int (fun _ _ => rfl)) T.cl M2 F2 (hr.mono (by omega)) b2 .nil passL (pa_cons (pe_ix ix_list (pv 4) pe_int (fun _ _ => rfl)) pa_nil)))) pss_nil)
        (pss_cons (ps_if (pt_cmpR op_eq (pv 1) pe_str (nomark _)) (pss_one (ps_ret (pe_meth (E := E0) (pe_ix ix_list (pv 4) pe_int (fun _ _ => rfl)) T.cl M5 F5 (hr.mono (by omega)) b5 .nil passL (pa_cons (pe_ix ix_list (pv 4) pe_int (fun _ _ => rfl)) pa_nil)))) pss_nil)
        (pss_one (ps_ret (pe_ifExp (pt_cmpR op_eq (pv 1) pe_str (nomark _)) (pe_meth (E := E0) (pe_ix ix_list (pv 4) pe_int (fun _ _ => rfl)) T.cl M3 F3 (hr.mono (by omega)) b3 .nil passL (pa_cons (pe_ix ix_list (pv 4) pe_int (fun _ _ => rfl)) pa_nil))
          (pe_meth (E := E0) (pe_ix ix_list (pv 4) pe_int (fun _ _ => rfl)) T.cl M4 F4 (hr.mono (by omega)) b4 .nil passL (pa_cons (pe_ix ix_list (pv 4) pe_int (fun _ _ => rfl)) pa_nil)))))))))))), ?_⟩)) fun _ _ _ _ _ _ us hl => match us, hl with | [_], _ => rfl
    · obtain ⟨a, t, rfl, _⟩ := h
      rfl
    · obtain ⟨a, t, rfl, ra, ok, dp, sz, q⟩ := h
      obtain ⟨p, h1, bs, h2, pb⟩ := ra.face.ex
      obtain ⟨ev, sh⟩ := no_empty pb ok (by omega)
      refine ⟨_, rfl, a, _, rfl, h1, rfl, _, _, rfl, _, _, rfl, _, _, rfl, rfl, ?_⟩
      refine ⟨_, rfl, (by show 0 ≤ sizeLine; decide), fun te ne => ?_⟩
      obtain ⟨H1, e1, s1, f1⟩ := mk_s (.tup []) ne
      rw [e1]
      refine ⟨.tuple (t.subs.map dRaw), .tuple [], .tup (tup_on h2 s1) (raws_dp (raws_on s1 pb)), .tup (SqT.of f1) .nil, sh, (by decide), _, rfl, ?_⟩
      rw [ev]
      have one_ok : ∀ t' : Sy, t'.size = 1 → ¬ 200 < t'.size := fun t' e => by omega
      have leaf2 : ∀ {Q' : VK}, (∀ l b1 b2 G, Same H1 G → H1 b1 = none → H1 b2 = none → G l = some (.lst [.ref b1, .ref b2]) → SayAt K C G .nev b1 → SayAt K C G .alw b2 → Q' (.ref l) G) →
          (tLst (tCons (tCall (spNever K C CL) [] E0 tNil) (tCons (tCall (spAlways K C CL) [] E0 tNil) tNil))) [some (.ref a), some (.str t.kind), some t.letter, some (.ref p), none, none] H1 Q' := by
        intro Q' go
        refine ⟨rfl, ⟨fun c => absurd c (one_ok .nev rfl), fun _ b1' G1 t1 n1 y1 => ?_⟩⟩
        refine ⟨rfl, ⟨fun c => absurd c (one_ok .alw rfl), fun _ b2' G2 t2 n2 y2 => ?_⟩⟩
        refine ⟨(by show 2 ≤ sizeLine; decide), fun l nl => ?_⟩
        obtain ⟨G3, e3, t3, f3⟩ := mk_s (.lst [.ref b1', .ref b2']) nl
        rw [e3]
        exact go l b1' b2' G3 (t1.trans (t2.trans t3)) n1 (t1.free n2) f3 ((y1.on t2).on t3) (y2.on t3)
      by_cases lf : t.subs = []
      · rw [decide_eq_true lf]
        refine iteT ?_
        cases t with
        | nm c =>
          refine ⟨_, rfl, rfl, _, rfl, iteT ?_⟩
          exact ⟨_, rfl, .str (one c), rfl, ⟨.inl ⟨c, rfl, ok, ⟨fun c' => absurd c' (one_ok (.nm c) rfl), fun _ b H2 s2 nb h2 => q b H2 (s1.trans s2) (s1.free nb) h2⟩⟩⟩⟩
        | nev =>
          refine ⟨_, rfl, rfl, _, rfl, iteF ?_⟩
          refine leaf2 fun l c1 c2 G sG n1 n2 fl y1 y2 => ?_
          refine ⟨_, rfl, rfl, .inr ⟨_, rfl, ?_⟩⟩
          exact ⟨l, _, _, .ref c1, rfl, rfl, SqL.of fl, rfl, q c1 G (s1.trans sG) (s1.free n1) y1⟩
        | alw =>
          refine ⟨_, rfl, rfl, _, rfl, iteF ?_⟩
          refine leaf2 fun l c1 c2 G sG n1 n2 fl y1 y2 => ?_
          refine ⟨_, rfl, rfl, .inr ⟨_, rfl, ?_⟩⟩
          exact ⟨l, _, _, .ref c2, rfl, rfl, SqL.of fl, rfl, q c2 G (s1.trans sG) (s1.free n2) y2⟩
        | den u => cases lf
        | bin k u v => cases lf
      · rw [decide_eq_false lf]
        refine iteF ?_
        refine ⟨_, rfl, p, rfl, ⟨_, tup_on h2 s1⟩, fun D nD => ?_⟩
        have nDH : H1 D = none := nD
        refine lc_tup (K := K) (xs := bs.map V.ref) (fun i G => Same H1 G ∧ ∃ cs : List Addr, G D = some (.lst (cs.map V.ref)) ∧ Paired (SayAt K C G) (t.subs.take i) cs) ⟨same_new nDH (Same.refl _), [], upd_same, .nil⟩ (fun i G _ h => tup_on h2 (s1.trans h.1)) ?_ ?_
        · rintro i x G hx ⟨sG, cs, fD, pc⟩
          obtain ⟨u, b, hu, hb', rfl, hr⟩ := paired_at pb hx
          have mu := List.mem_of_getElem? hu
          refine ⟨rfl, yes_to ?_⟩
          rw [if_pos rfl]
          refine ⟨_, rfl, b, u, rfl, hr.on (s1.trans sG), sub_ok mu ok, sub_depth mu dp, by have := sub_size mu; omega, fun c G2 s2 nc yc => ?_⟩
          have fD2 := s2 _ _ fD
          have lc := Paired.length pc
          have l2 := subs_len t
          rw [List.length_take] at lc
          refine ⟨_, fD2, by rw [List.length_map, sizeLine_eq]; omega, same_new nDH (sG.trans s2), cs ++ [c], by rw [upd_same, List.map_append]; rfl, ?_⟩
          rw [take_next hu]
          exact says_but fD2 upd_but (paired_app (paired_on s2 pc) (.cons yc .nil))
        · rintro G ⟨sG, cs, fD, pc⟩
          have el : (bs.map V.ref).length = t.subs.length := by rw [List.length_map]; exact (pb.length).symm
          rw [el, List.take_length] at pc
          have sHG := s1.trans sG
          refine gn1 (σ' := [some (.ref a), some (.str t.kind), some t.letter, some (.ref p), some (.ref D), none]) rfl ?_
          cases t with
          | nm c => exact absurd rfl lf
          | nev => exact absurd rfl lf
          | alw => exact absurd rfl lf
          | den u =>
            obtain ⟨c, rfl, yc⟩ : ∃ c, cs = [c] ∧ SayAt K C G u c := by
              cases pc with
              | cons r rs =>
                cases rs
                exact ⟨_, rfl, r⟩
            obtain ⟨dx, _, _, i1, _⟩ := yc.face.ex
            refine ⟨_, rfl, rfl, _, rfl, iteT ?_⟩
            exact ⟨_, rfl, D, _, _, .ref c, rfl, rfl, SqL.of fD, rfl, c, dx, _, rfl, i1, rfl, c, u, rfl, yc, ok, ⟨fun z => absurd z (Nat.not_lt.mpr sz), fun _ b H2 s2 nb h2 => q b H2 (sHG.trans s2) (sHG.free nb) h2⟩⟩
          | bin k u v =>
            obtain ⟨c, d, rfl, yc, yd⟩ : ∃ c d, cs = [c, d] ∧ SayAt K C G u c ∧ SayAt K C G v d := by
              cases pc with
              | cons r rs =>
                cases rs with
                | cons r2 rs2 =>
                  cases rs2
                  exact ⟨_, _, rfl, r, r2⟩
            obtain ⟨dx, _, _, i1, _⟩ := yc.face.ex
            have J : JoinP K C CL CS k c (.ref d) G Q E0 := ⟨u, yc, ok.1, .inr ⟨d, v, rfl, yd, ok.2, ⟨fun z => absurd z (Nat.not_lt.mpr sz), fun _ b H2 s2 nb h2 => q b H2 (sHG.trans s2) (sHG.free nb) h2⟩⟩⟩
            cases k with
            | both => exact ⟨_, rfl, rfl, _, rfl, iteF ⟨_, rfl, rfl, _, rfl, iteT ⟨_, rfl, D, _, _, .ref c, rfl, rfl, SqL.of fD, rfl, c, dx, _, rfl, i1, rfl, _, rfl, D, _, _, .ref d, rfl, rfl, SqL.of fD, rfl, c, .ref d, rfl, J⟩⟩⟩
            | thn => exact ⟨_, rfl, rfl, _, rfl, iteF ⟨_, rfl, rfl, _, rfl, iteF ⟨_, rfl, rfl, _, rfl, iteT ⟨_, rfl, D, _, _, .ref c, rfl, rfl, SqL.of fD, rfl, c, dx, _, rfl, i1, rfl, _, rfl, D, _, _, .ref d, rfl, rfl, SqL.of fD, rfl, c, .ref d, rfl, J⟩⟩⟩⟩
            | same => exact ⟨_, rfl, rfl, _, rfl, iteF ⟨_, rfl, rfl, _, rfl, iteF ⟨_, rfl, rfl, _, rfl, iteF ⟨_, rfl, rfl, _, rfl, iteT ⟨_, rfl, D, _, _, .ref c, rfl, rfl, SqL.of fD, rfl, c, dx, _, rfl, i1, rfl, _, rfl, D, _, _, .ref d, rfl, rfl, SqL.of fD, rfl, c, .ref d, rfl, J⟩⟩⟩⟩⟩
            | lower => exact ⟨_, rfl, rfl, _, rfl, iteF ⟨_, rfl, rfl, _, rfl, iteF ⟨_, rfl, rfl, _, rfl, iteF ⟨_, rfl, rfl, _, rfl, iteF ⟨_, rfl, rfl, _, rfl, iteT ⟨_, rfl, D, _, _, .ref c, rfl, rfl, SqL.of fD, rfl, c, dx, _, rfl, i1, rfl, _, rfl, D, _, _, .ref d, rfl, rfl, SqL.of fD, rfl, c, .ref d, rfl, J⟩⟩⟩⟩⟩⟩
            | higher => exact ⟨_, rfl, rfl, _, rfl, iteF ⟨_, rfl, rfl, _, rfl, iteF ⟨_, rfl, rfl, _, rfl, iteF ⟨_, rfl, rfl, _, rfl, iteF ⟨_, rfl, rfl, _, rfl, iteF ⟨_, rfl, D, _, _, .ref c, rfl, rfl, SqL.of fD, rfl, c, dx, _, rfl, i1, rfl, _, rfl, D, _, _, .ref d, rfl, rfl, SqL.of fD, rfl, c, .ref d, rfl, J⟩⟩⟩⟩⟩⟩
end
end G1
set_option maxHeartbeats 8000000
namespace G1
open PySem PySem.Spec PyProof.Rows L2 SY TXS OW
def TokAt (K : PySem.W.Frag) (H : Hp) (k : Tk) (p : Addr) : Prop := ∃ i : Int, SqT K H p [.int i, .str k.str]
theorem TokAt.on {K : PySem.W.Frag} {H H' : Hp} (s : Same H H') {k : Tk} {p : Addr} (h : TokAt K H k p) : TokAt K H' k p := by
  obtain ⟨i, h⟩ := h
  exact ⟨i, tup_on h s⟩
theorem TokAt.but {K : PySem.W.Frag} {D : Addr} {H H' : Hp} {ys : List V} (d : H D = some (.lst ys)) (s : But D H H') {k : Tk} {p : Addr} (h : TokAt K H k p) : TokAt K H' k p := by
  obtain ⟨i, h⟩ := h
  exact ⟨i, tup_but h d s⟩
theorem paired_map {α β : Type} {R R' : α → β → Prop} (m : ∀ {x y}, R x y → R' x y) : ∀ {xs : List α} {ys : List β}, Paired R xs ys → Paired R' xs ys
  | _, _, .nil => .nil
  | _, _, .cons h t => .cons (m h) (paired_map m t)
def spTokens (K : PySem.W.Frag) : Sp := fun vs H Q _ => ∃ (z : Str) (ws : List Tk), vs = [.str z] ∧ Reads ws z.cps.toList ∧ z.length ≤ 100000 ∧
  ∀ (l : Addr) (as : List Addr) (H' : Hp), Same H H' → H l = none → H' l = some (.lst (as.map V.ref)) → Paired (TokAt K H') ws as → Q (.ref l) H'
theorem codes_head {k : Tk} (ok : k.ok) : ∃ c r, k.codes = c :: r ∧ c ≠ 32 := by
  cases k with
  | lt c =>
    have ok' : 97 ≤ c ∧ c ≤ 122 := ok
    exact ⟨c, [], rfl, by omega⟩
  | sg k => cases k <;> exact ⟨_, _, rfl, by decide⟩
  | _ => exact ⟨_, _, rfl, by decide⟩
theorem tk_len (k : Tk) : k.str.length = k.codes.length := by
  rw [zlen, k.str_codes]
theorem reads_len {ws : List Tk} {r : List Nat} (h : Reads ws r) : ws.length ≤ r.length := by
  induction h with
  | nil => exact Nat.le_refl _
  | blank _ ih => exact Nat.le_succ_of_le ih
  | tok k _ _ _ ih =>
    have := codes_pos k
    rw [List.length_cons, List.length_append]
    omega
section
variable {P : Program} {w : World} {K : PySem.W.Frag} {mg : Str → Option Value} {base : Heap} {C : Addr}
theorem scTokens : FnScope ["text", "found", "at", "token"] ["text"] (defScope sTokens) := ⟨rfl, rfl, rfl, by decide +kernel, rfl, by decide +kernel, by decide +kernel⟩
theorem cl_tokens (D : DefAt K mg "_tokens" sTokens) (B : Blt mg) (cT : Cl CX0 P w K mg base 2 "_token_at" ["text", "at"] spTokAt) : Cl CX0 P w K mg base 3 "_tokens" ["text"] (spTokens K) := by
  obtain ⟨f, fd, F, hm⟩ := D
  refine cl_of F hm (F.ok scTokens (fun vs H Q E h => ?_) (fun cdv A outer s H vs Q E hr h => ⟨_, PSs.nox (pss_cons
      (ps_set (i := 1) scTokens.nd rfl (Or.inl rfl) (pe_lst pa_nil))
      (pss_cons (ps_set (i := 2) scTokens.nd rfl (Or.inl rfl) pe_int)
      (pss_cons (ps_while PassesOwn.never (pt_cmpR op_lt (pv 2) (pe_callB call_len_str (by rfl) B.len PySem.boot_len (pa_cons (pv 0) pa_nil)) (nomark _))
        (pss_cons (ps_if (pt_cmpR op_eq (pe_ix ix_str (pv 0) (pv 2) (fun _ _ => rfl)) pe_str (nomark _)) (pss_cons (ps_aug (i := 2) scTokens.nd rfl (Or.inl rfl) pe_int ip_add) (pss_one ps_continue)) pss_nil)
        (pss_cons (ps_set (i := 3) scTokens.nd rfl (Or.inl rfl) (pe_c0 cT hr (by decide) (by rfl) (pa_cons (pv 0) (pa_cons (pv 2) pa_nil))))
        (pss_cons (ps_expr (pe_bm PySem.F.plainAttrs_list PySem.F.slot_list_append PySem.F.type_list_append mt_append (pv 1) (pa_cons (pe_tup (pa_cons (pv 2) (pa_cons (pv 3) pa_nil))) pa_nil)))
        (pss_cons (ps_if (pt_cmpR op_eq (pv 3) pe_str (nomark _)) (pss_one ps_break) pss_nil)
        (pss_one (ps_aug (i := 2) scTokens.nd rfl (Or.inl rfl) (pe_callB call_len_str (by rfl) B.len PySem.boot_len (pa_cons (pv 3) pa_nil)) ip_add)))))))
      (pss_one (ps_ret (pv 1)))))), ?_⟩)) fun _ _ _ _ _ _ us hl => match us, hl with | [_], _ => rfl
  · obtain ⟨z, ws, rfl, _⟩ := h
    rfl
  · obtain ⟨z, ws, rfl, rd, zl, q⟩ := h
    have zs : z.length ≤ sizeLine := by rw [sizeLine_eq]; omega
    have len := zlen z
    refine ⟨(by show 0 ≤ sizeLine; decide), fun l nl => ?_⟩
    obtain ⟨H1, e1, s1, f1⟩ := mk_s (.lst []) nl
    rw [e1]
    refine gn1 (σ' := [some (.str z), some (.ref l), none, none]) rfl ?_
    refine seq_c (σ' := [some (.str z), some (.ref l), some (.int 0), none]) rfl ?_
    refine seq_while (fun σ H' => ∃ (e : Nat) (v : Option V) (done rest : List Tk) (as : List Addr), σ = [some (.str z), some (.ref l), some (.int (e : Int)), v] ∧ e ≤ z.length ∧ Same H H' ∧ H' l = some (.lst (as.map V.ref)) ∧ Paired (TokAt K H') done as ∧ done ++ rest = ws ∧ Reads rest (z.cps.toList.drop e))
      (fun σ _ => match σ with | [_, _, some (.int y), _] => z.length - y.toNat | _ => 0) ⟨0, none, [], ws, [], rfl, Nat.zero_le _, s1, f1, .nil, rfl, rd⟩ ?_ ?_
    · rintro σ H' ⟨e, v, done, rest, as, rfl, le, sH, fl, pd, tot, rr⟩
      refine ⟨_, rfl, _, rfl, z, rfl, zs, _, _, rfl, rfl, _, rfl, ?_⟩
      by_cases lt : e < z.length
      · refine if_yes (decide_eq_true (by omega)) ?_
        have dl : (z.cps.toList.drop e).length = z.length - e := by rw [List.length_drop, len]
        generalize hR : z.cps.toList.drop e = R at rr dl
        cases rr with
        | nil =>
          exfalso
          have z0 : ([] : List Nat).length = 0 := rfl
          omega
        | blank h =>
          obtain ⟨h1, h2⟩ := drop_at hR
          refine ⟨_, rfl, _, rfl, z, _, 32, rfl, rfl, zs, atI_nat h1, rfl, _, rfl, if_yes (decide_eq_true rfl) ?_⟩
          refine ⟨_, rfl, _, _, rfl, rfl, ⟨e + 1, v, done, rest, as, rfl, lt, sH, fl, pd, tot, by rw [h2]; exact h⟩, ?_⟩
          show z.length - ((e : Int) + 1).toNat < z.length - ((e : Int)).toNat
          omega
        | tok k ok bd h =>
          rename_i ws2 r2
          obtain ⟨c, r3, ec, nc⟩ := codes_head ok
          have hR' := hR
          rw [ec] at hR'
          obtain ⟨h1, _⟩ := drop_at hR'
          refine ⟨_, rfl, _, rfl, z, _, c, rfl, rfl, zs, atI_nat h1, rfl, _, rfl, if_no (decide_eq_false fun ee => ?_) ?_⟩
          · injection ee with ee
            have q1 := congrArg (fun s : Str => s.cps.toList) ee
            have q2 : [c] = (" " : Str).cps.toList := q1
            have q3 : (" " : Str).cps.toList = [32] := by decide
            rw [q3] at q2
            exact nc (List.cons.inj q2).1
          refine ⟨_, rfl, _, rfl, z, e, k, r2, rfl, hR, ok, bd, zs, ?_⟩
          refine gn1 (σ' := [some (.str z), some (.ref l), some (.int (e : Int)), some (.str k.str)]) rfl ?_
          refine ⟨_, rfl, .inl ⟨rfl, _, SqL.of fl⟩, _, rfl, _, rfl, (by show 2 ≤ sizeLine; decide), fun t nt => ?_⟩
          obtain ⟨H2, e2, s2, ft⟩ := mk_s (.tup [.int (e : Int), .str k.str]) nt
          rw [e2]
          have fl2 := s2 _ _ fl
          have la := Paired.length pd
          have lw := reads_len rd
          have ltot := congrArg List.length tot
          rw [List.length_append, List.length_cons] at ltot
          refine ⟨l, _, _, rfl, rfl, fl2, by rw [List.length_map, sizeLine_eq]; omega, ?_⟩
          obtain ⟨H3, e3, b3, f3⟩ : ∃ H3, upd H2 l (.lst (as.map V.ref ++ [.ref t])) = H3 ∧ But l H2 H3 ∧ H3 l = some (.lst (as.map V.ref ++ [.ref t])) := ⟨_, rfl, upd_but, upd_same⟩
          rw [e3]
          have kp := codes_pos k
          have kl := tk_len k
          have dl2 := drop_len hR
          refine ⟨_, rfl, rfl, _, rfl, if_no (decide_eq_false fun ee => ?_) ?_⟩
          · injection ee with ee
            have z0 : ("" : Str).length = 0 := rfl
            rw [ee] at kl
            omega
          refine ⟨_, rfl, _, rfl, k.str, rfl, by rw [kl, sizeLine_eq]; omega, _, _, rfl, rfl, ?_⟩
          have pd2 : Paired (TokAt K H3) (done ++ [k]) (as ++ [t]) := paired_app (paired_map (fun h => (TokAt.on s2 h).but fl2 b3) pd) (.cons (TokAt.but fl2 b3 ⟨e, SqT.of ft⟩) .nil)
          have sH3 : Same H H3 := fun b o z' => b3 b o (ne_of_none z' nl) (s2 b o (sH b o z'))
          have eL : z.cps.toList.drop (e + k.str.length) = r2 := by rw [kl]; exact drop_more hR
          refine ⟨⟨e + k.str.length, _, done ++ [k], ws2, as ++ [t], rfl, by rw [kl]; omega, sH3, by rw [f3, List.map_append]; rfl, pd2, by rw [List.append_assoc]; exact tot, by rw [eL]; exact h⟩, ?_⟩
          show z.length - ((e : Int) + (k.str.length : Int)).toNat < z.length - ((e : Int)).toNat
          omega
      · refine if_no (decide_eq_false (by omega)) ?_
        have dn : z.cps.toList.drop e = [] := List.drop_of_length_le (by omega)
        rw [dn] at rr
        have rn : rest = [] := List.eq_nil_of_length_eq_zero (Nat.le_zero.mp (reads_len rr))
        rw [rn, List.append_nil] at tot
        rw [tot] at pd
        exact ⟨_, rfl, q l as H' sH nl fl pd⟩
    · rintro σ H0 Q1 Q2 m ⟨v1, e1', v2, e2', z2, e3', zl2, i, j, e4, e5, b, e6, h⟩
      exact ⟨v1, e1', v2, e2', z2, e3', zl2, i, j, e4, e5, b, e6, m _ _ h⟩
end
end G1
set_option maxHeartbeats 8000000
namespace G1
open PySem PySem.Spec PyProof.Rows L2 SY TXS OW
def TokZ (K : PySem.W.Frag) (H : Hp) (q : Nat × Str) (p : Addr) : Prop := SqT K H p [.int (q.1 : Int), .str q.2]
theorem TokZ.on {K : PySem.W.Frag} {H H' : Hp} (s : Same H H') {q : Nat × Str} {p : Addr} (h : TokZ K H q p) : TokZ K H' q p := tup_on h s
theorem TokZ.but {K : PySem.W.Frag} {D : Addr} {H H' : Hp} {ys : List V} (d : H D = some (.lst ys)) (s : But D H H') {q : Nat × Str} {p : Addr} (h : TokZ K H q p) : TokZ K H' q p := tup_but h d s
def spTokensX (K : PySem.W.Frag) : Sp := fun vs H Q _ => ∃ (z : Str) (ts : List (Nat × Str)), vs = [.str z] ∧ Lex 0 z.cps.toList ts ∧ z.length ≤ 100000 ∧
  ∀ (l : Addr) (as : List Addr) (H' : Hp), Same H H' → H l = none → H' l = some (.lst (as.map V.ref)) → Paired (TokZ K H') (cutP ts) as → Q (.ref l) H'
theorem tokC_head {w r : List Nat} (h : TokC w r) : ∃ c t, w = c :: t ∧ c ≠ 32 := by
  rcases h with ⟨n, a, _⟩ | rfl | ⟨c, rfl, _, n, _⟩
  · cases w with
    | nil => exact (n rfl).elim
    | cons c t =>
      refine ⟨c, t, rfl, fun e => ?_⟩
      have := a c List.mem_cons_self
      rw [e] at this
      cases this
  · exact ⟨45, [62], rfl, by decide⟩
  · exact ⟨c, [], rfl, n⟩
theorem lex_few {i : Nat} {s : List Nat} {ts : List (Nat × Str)} (h : Lex i s ts) : ts.length ≤ s.length := by
  induction h with
  | nil => exact Nat.le_refl _
  | blank _ ih => exact Nat.le_succ_of_le ih
  | tok k b _ ih =>
    have := tokC_pos b
    rw [List.length_cons, List.length_append]
    omega
theorem plain_ne {k : Str} {r : List Nat} (b : TokC k.cps.toList r) (h : plainZ k = true) : k ≠ "" := fun e => by
  have p := tokC_pos b
  rw [e] at p
  exact absurd p (by decide)
section
variable {P : Program} {w : World} {K : PySem.W.Frag} {mg : Str → Option Value} {base : Heap} {C : Addr}
theorem cl_tokensX (D : DefAt K mg "_tokens" sTokens) (B : Blt mg) (cT : Cl CX0 P w K mg base 2 "_token_at" ["text", "at"] spTokAtX) : Cl CX0 P w K mg base 3 "_tokens" ["text"] (spTokensX K) := by
  obtain ⟨f, fd, F, hm⟩ := D
  refine cl_of F hm (F.ok scTokens (fun vs H Q E h => ?_) (fun cdv A outer s H vs Q E hr h => ⟨_, PSs.nox (pss_cons
      (ps_set (i := 1) scTokens.nd rfl (Or.inl rfl) (pe_lst pa_nil))
      (pss_cons (ps_set (i := 2) scTokens.nd rfl (Or.inl rfl) pe_int)
      (pss_cons (ps_while PassesOwn.never (pt_cmpR op_lt (pv 2) (pe_callB call_len_str (by rfl) B.len PySem.boot_len (pa_cons (pv 0) pa_nil)) (nomark _))
        (pss_cons (ps_if (pt_cmpR op_eq (pe_ix ix_str (pv 0) (pv 2) (fun _ _ => rfl)) pe_str (nomark _)) (pss_cons (ps_aug (i := 2) scTokens.nd rfl (Or.inl rfl) pe_int ip_add) (pss_one ps_continue)) pss_nil)
        (pss_cons (ps_set (i := 3) scTokens.nd rfl (Or.inl rfl) (pe_c0 cT hr (by decide) (by rfl) (pa_cons (pv 0) (pa_cons (pv 2) pa_nil))))
        (pss_cons (ps_expr (pe_bm PySem.F.plainAttrs_list PySem.F.slot_list_append PySem.F.type_list_append mt_append (pv 1) (pa_cons (pe_tup (pa_cons (pv 2) (pa_cons (pv 3) pa_nil))) pa_nil)))
        (pss_cons (ps_if (pt_cmpR op_eq (pv 3) pe_str (nomark _)) (pss_one ps_break) pss_nil)
        (pss_one (ps_aug (i := 2) scTokens.nd rfl (Or.inl rfl) (pe_callB call_len_str (by rfl) B.len PySem.boot_len (pa_cons (pv 3) pa_nil)) ip_add)))))))
      (pss_one (ps_ret (pv 1)))))), ?_⟩)) fun _ _ _ _ _ _ us hl => match us, hl with | [_], _ => rfl
  · obtain ⟨z, ws, rfl, _⟩ := h
    rfl
  · obtain ⟨z, ts, rfl, rd, zl, q⟩ := h
    have zs : z.length ≤ sizeLine := by rw [sizeLine_eq]; omega
    have len := zlen z
    refine ⟨(by show 0 ≤ sizeLine; decide), fun l nl => ?_⟩
    obtain ⟨H1, e1, s1, f1⟩ := mk_s (.lst []) nl
    rw [e1]
    refine gn1 (σ' := [some (.str z), some (.ref l), none, none]) rfl ?_
    refine seq_c (σ' := [some (.str z), some (.ref l), some (.int 0), none]) rfl ?_
    refine seq_while (fun σ H' => ∃ (e : Nat) (v : Option V) (done : List (Nat × Str)) (rest : List (Nat × Str)) (as : List Addr), σ = [some (.str z), some (.ref l), some (.int (e : Int)), v] ∧ e ≤ z.length ∧ Same H H' ∧ H' l = some (.lst (as.map V.ref)) ∧ Paired (TokZ K H') done as ∧ done ++ cutP rest = cutP ts ∧ done.length + rest.length ≤ ts.length ∧ Lex e (z.cps.toList.drop e) rest)
      (fun σ _ => match σ with | [_, _, some (.int y), _] => z.length - y.toNat | _ => 0) ⟨0, none, [], ts, [], rfl, Nat.zero_le _, s1, f1, .nil, rfl, by simp, rd⟩ ?_ ?_
    · rintro σ H' ⟨e, v, done, rest, as, rfl, le, sH, fl, pd, tot, few, rr⟩
      refine ⟨_, rfl, _, rfl, z, rfl, zs, _, _, rfl, rfl, _, rfl, ?_⟩
      by_cases lt : e < z.length
      · refine if_yes (decide_eq_true (by omega)) ?_
        have dl : (z.cps.toList.drop e).length = z.length - e := by rw [List.length_drop, len]
        generalize hR : z.cps.toList.drop e = R at rr dl
        cases rr with
        | nil =>
          exfalso
          have z0 : ([] : List Nat).length = 0 := rfl
          omega
        | blank h =>
          obtain ⟨h1, h2⟩ := drop_at hR
          refine ⟨_, rfl, _, rfl, z, _, 32, rfl, rfl, zs, atI_nat h1, rfl, _, rfl, if_yes (decide_eq_true rfl) ?_⟩
          refine ⟨_, rfl, _, _, rfl, rfl, ⟨e + 1, v, done, rest, as, rfl, lt, sH, fl, pd, tot, few, by rw [h2]; exact h⟩, ?_⟩
          show z.length - ((e : Int) + 1).toNat < z.length - ((e : Int)).toNat
          omega
        | tok k bd h =>
          rename_i r2 ts2
          obtain ⟨c, r3, ec, nc⟩ := tokC_head bd
          have hR' := hR
          rw [ec] at hR'
          obtain ⟨h1, _⟩ := drop_at hR'
          refine ⟨_, rfl, _, rfl, z, _, c, rfl, rfl, zs, atI_nat h1, rfl, _, rfl, if_no (decide_eq_false fun ee => ?_) ?_⟩
          · injection ee with ee
            have q1 := congrArg (fun s : Str => s.cps.toList) ee
            have q2 : [c] = (" " : Str).cps.toList := q1
            have q3 : (" " : Str).cps.toList = [32] := by decide
            rw [q3] at q2
            exact nc (List.cons.inj q2).1
          obtain ⟨k', ek'⟩ : ∃ k', (if plainZ k = true then k else "") = k' := ⟨_, rfl⟩
          refine ⟨_, rfl, _, rfl, z, e, k, r2, rfl, hR, bd, zs, ?_⟩
          rw [ek']
          refine gn1 (σ' := [some (.str z), some (.ref l), some (.int (e : Int)), some (.str k')]) rfl ?_
          refine ⟨_, rfl, .inl ⟨rfl, _, SqL.of fl⟩, _, rfl, _, rfl, (by show 2 ≤ sizeLine; decide), fun t nt => ?_⟩
          obtain ⟨H2, e2, s2, ft⟩ := mk_s (.tup [.int (e : Int), .str k']) nt
          rw [e2]
          have fl2 := s2 _ _ fl
          have la := Paired.length pd
          have lw := lex_few rd
          rw [List.length_cons] at few
          refine ⟨l, _, _, rfl, rfl, fl2, by rw [List.length_map, sizeLine_eq]; omega, ?_⟩
          obtain ⟨H3, e3, b3, f3⟩ : ∃ H3, upd H2 l (.lst (as.map V.ref ++ [.ref t])) = H3 ∧ But l H2 H3 ∧ H3 l = some (.lst (as.map V.ref ++ [.ref t])) := ⟨_, rfl, upd_but, upd_same⟩
          rw [e3]
          have kp := tokC_pos bd
          have kl := zlen k
          have dl2 := drop_len hR
          have pd2 : Paired (TokZ K H3) (done ++ [(e, k')]) (as ++ [t]) := paired_app (paired_map (fun h => (TokZ.on s2 h).but fl2 b3) pd) (.cons (TokZ.but (q := (e, k')) fl2 b3 (SqT.of ft)) .nil)
          have sH3 : Same H H3 := fun b o z' => b3 b o (ne_of_none z' nl) (s2 b o (sH b o z'))
          have fl3 : H3 l = some (.lst ((as ++ [t]).map V.ref)) := by rw [f3, List.map_append]; rfl
          cases hp : plainZ k with
          | true =>
            rw [if_pos hp] at ek'
            rw [← ek']
            rw [← ek'] at pd2
            refine ⟨_, rfl, rfl, _, rfl, if_no (decide_eq_false fun ee => ?_) ?_⟩
            · injection ee with ee
              exact plain_ne bd hp ee
            refine ⟨_, rfl, _, rfl, k, rfl, by rw [sizeLine_eq]; omega, _, _, rfl, rfl, ?_⟩
            have eL : z.cps.toList.drop (e + k.length) = r2 := by rw [kl]; exact drop_more hR
            refine ⟨⟨e + k.length, _, done ++ [(e, k)], ts2, as ++ [t], rfl, by omega, sH3, fl3, pd2, ?_, by rw [List.length_append]; show done.length + 1 + _ ≤ _; omega, by rw [eL]; exact h⟩, ?_⟩
            · rw [← tot, cut_plain hp, List.append_assoc]
              rfl
            · show z.length - ((e : Int) + (k.length : Int)).toNat < z.length - ((e : Int)).toNat
              omega
          | false =>
            rw [if_neg (by rw [hp]; decide)] at ek'
            rw [← ek']
            rw [← ek'] at pd2
            refine ⟨_, rfl, rfl, _, rfl, if_yes (decide_eq_true rfl) ?_⟩
            have et : done ++ [(e, ("" : Str))] = cutP ts := by rw [← tot, cut_bad hp]
            rw [et] at pd2
            exact ⟨_, rfl, q l (as ++ [t]) H3 sH3 nl fl3 pd2⟩
      · refine if_no (decide_eq_false (by omega)) ?_
        have dn : z.cps.toList.drop e = [] := List.drop_of_length_le (by omega)
        rw [dn] at rr
        have rn : rest = [] := List.eq_nil_of_length_eq_zero (Nat.le_zero.mp (lex_few rr))
        rw [rn] at tot
        have tot' : done ++ [] = cutP ts := tot
        rw [List.append_nil] at tot'
        rw [tot'] at pd
        exact ⟨_, rfl, q l as H' sH nl fl pd⟩
    · rintro σ H0 Q1 Q2 m ⟨v1, e1', v2, e2', z2, e3', zl2, i, j, e4, e5, b, e6, h⟩
      exact ⟨v1, e1', v2, e2', z2, e3', zl2, i, j, e4, e5, b, e6, m _ _ h⟩
end
end G1
set_option maxHeartbeats 8000000
namespace G1
open PySem PySem.Spec PyProof.Rows L2 SY TXS OW
def TokL (K : PySem.W.Frag) (H : Hp) (q : Nat × Str) (p : Addr) : Prop := SqT K H p [.str q.2, .int (q.1 : Int)]
theorem TokL.on {K : PySem.W.Frag} {H H' : Hp} (s : Same H H') {q : Nat × Str} {p : Addr} (h : TokL K H q p) : TokL K H' q p := tup_on h s
theorem TokL.but {K : PySem.W.Frag} {D : Addr} {H H' : Hp} {ys : List V} (d : H D = some (.lst ys)) (s : But D H H') {q : Nat × Str} {p : Addr} (h : TokL K H q p) : TokL K H' q p := tup_but h d s
def spTokensL (K : PySem.W.Frag) : Sp := fun vs H Q _ => ∃ (z : Str) (ts : List (Nat × Str)), vs = [.str z] ∧ Lex 0 z.cps.toList ts ∧ z.length ≤ 100000 ∧
  ∀ (l : Addr) (as : List Addr) (H' : Hp), Same H H' → H l = none → H' l = some (.lst (as.map V.ref)) → Paired (TokL K H') ts as → Q (.ref l) H'
def rLeZ : R2 := fun x y H Q => ∃ i j, x = .str i ∧ y = .str j ∧ Q (.bl (!decide (j.cps.toList < i.cps.toList))) H
def tAz (i : Nat) : TT := tTest (tChain rLeZ rLeZ (tC (.str "a")) (tOp rIxS (tVar 0) (tVar i)) (tC (.str "z")))
def tLen0 : TE := tCB (fun xs H Q => ∃ z, xs = [.str z] ∧ z.length ≤ sizeLine ∧ Q (.int z.length) H) (tCons (tVar 0) tNil)
def tIn : TT := tAnd (tAz 2) (tAnd (tTest (tOp (rI0 fun i j => .bl (decide (i < j))) (tVar 3) tLen0)) (tAz 3))
theorem az_ok {σ : L2.St} {z : Str} {i e c : Nat} {H : Hp} {Q : Bool → Hp → Prop} (h0 : σ[0]? = some (some (.str z))) (hi : σ[i]? = some (some (.int (e : Int)))) (zl : z.length ≤ sizeLine) (hc : z.cps.toList[e]? = some c) (q : Q (isL c) H) : tAz i σ H Q := by
  refine ⟨_, h0, _, hi, z, _, c, rfl, rfl, zl, atI_nat hc, _, _, rfl, rfl, _, rfl, ?_⟩
  show if (!decide ((one c).cps.toList < ("a" : Str).cps.toList)) = true then _ else _
  rw [lowA]
  by_cases h9 : c < 97
  · rw [decide_eq_true h9]
    have e : isL c = false := decide_eq_false (by omega)
    rw [e] at q
    exact ⟨_, rfl, q⟩
  · rw [decide_eq_false h9]
    refine ⟨_, _, rfl, rfl, ?_⟩
    show ∃ k, V.bl (!decide (("z" : Str).cps.toList < (one c).cps.toList)) = V.bl k ∧ Q k H
    rw [highZ]
    refine ⟨_, rfl, ?_⟩
    have e : isL c = !decide (122 < c) := by
      unfold isL
      by_cases h1 : 122 < c
      · rw [decide_eq_true h1, decide_eq_false (by omega)]
        rfl
      · rw [decide_eq_false h1, decide_eq_true (by omega)]
        rfl
    rw [← e]
    exact q
theorem az_mono {i : Nat} {σ : L2.St} {H : Hp} {Q Q' : Bool → Hp → Prop} (m : ∀ b H1, Q b H1 → Q' b H1) (h : tAz i σ H Q) : tAz i σ H Q' := by
  obtain ⟨v1, e1, v2, e2, z, i, c, e3, e4, zl, e5, i1, j1, e6, e7, k, e8, h⟩ := h
  refine ⟨v1, e1, v2, e2, z, i, c, e3, e4, zl, e5, i1, j1, e6, e7, k, e8, ?_⟩
  cases k with
  | true =>
    obtain ⟨i2, j2, e9, e10, k2, e11, h⟩ := h
    exact ⟨i2, j2, e9, e10, k2, e11, m _ _ h⟩
  | false =>
    obtain ⟨k2, e11, h⟩ := h
    exact ⟨k2, e11, m _ _ h⟩
theorem in_mono {σ : L2.St} {H : Hp} {Q Q' : Bool → Hp → Prop} (m : ∀ b H1, Q b H1 → Q' b H1) (h : tIn σ H Q) : tIn σ H Q' := by
  refine az_mono (fun b H1 h => ?_) h
  cases b with
  | false => exact m _ _ h
  | true =>
    obtain ⟨v1, e1, v2, e2, z, e3, zl, i, j, e4, e5, k, e6, h⟩ := h
    refine ⟨v1, e1, v2, e2, z, e3, zl, i, j, e4, e5, k, e6, ?_⟩
    cases k with
    | false => exact m _ _ h
    | true => exact az_mono m h
theorem inner_ok {b : TS} {D : Ends} {z : Str} {a : Option V} {e : Nat} {pre rest : List Nat} {H : Hp} (zl : z.length ≤ sizeLine) (lt : e < z.length) (hpr : z.cps.toList.drop e = pre ++ rest) (hl : ∀ c ∈ pre, isL c = true) (hn : headL rest = false)
    (q : b D [some (.str z), a, some (.int (e : Int)), some (.int ((e + max 1 pre.length : Nat) : Int))] H) :
    tSeq (tWhile tIn (tAsg (tOp (rI0 fun i j => .int (i + j)) (tVar 3) (tC (.int 1))) (gName 3))) b D [some (.str z), a, some (.int (e : Int)), some (.int ((e + 1 : Nat) : Int))] H := by
  have len := zlen z
  have ll := drop_len hpr
  obtain ⟨c0, hc0⟩ : ∃ c0, z.cps.toList[e]? = some c0 := ⟨_, List.getElem?_eq_getElem (by omega)⟩
  refine seq_while (fun σ H' => ∃ j : Nat, 1 ≤ j ∧ j ≤ max 1 pre.length ∧ σ = [some (.str z), a, some (.int (e : Int)), some (.int ((e + j : Nat) : Int))] ∧ H' = H) (fun σ _ => match σ with | [_, _, _, some (.int y)] => pre.length + 1 + e - y.toNat | _ => 0) ⟨1, Nat.le_refl _, by omega, rfl, rfl⟩ ?_ (fun σ H Q Q' m h => in_mono m h)
  rintro σ H' ⟨j, j1, jm, rfl, rfl⟩
  refine az_ok (z := z) (e := e) rfl rfl zl hc0 ?_
  cases pre with
  | nil =>
    have l0 : isL c0 = false := by
      rw [List.nil_append] at hpr
      have h1 := List.getElem?_eq_some_iff.mp hc0
      rw [List.drop_eq_getElem_cons h1.1, h1.2] at hpr
      rw [← hpr] at hn
      exact hn
    refine if_no l0 (if_no rfl ?_)
    have ej : j = 1 := by
      have : max 1 ([] : List Nat).length = 1 := rfl
      omega
    rw [ej]
    exact q
  | cons p0 pr =>
    have h1 := List.getElem?_eq_some_iff.mp hc0
    have e0 : c0 = p0 := by
      rw [List.drop_eq_getElem_cons h1.1, h1.2] at hpr
      exact (List.cons.inj hpr).1
    refine if_yes (by rw [e0]; exact hl p0 List.mem_cons_self) ?_
    refine ⟨_, rfl, _, rfl, z, rfl, zl, _, _, rfl, rfl, _, rfl, ?_⟩
    have m1 : max 1 (p0 :: pr).length = (p0 :: pr).length := by rw [List.length_cons]; omega
    rw [m1] at q jm
    by_cases ltz : e + j < z.length
    · refine if_yes (decide_eq_true (by omega)) ?_
      obtain ⟨cj, hcj⟩ : ∃ cj, z.cps.toList[e + j]? = some cj := ⟨_, List.getElem?_eq_getElem (by omega)⟩
      refine az_ok (z := z) (e := e + j) rfl rfl zl hcj ?_
      have hj : (p0 :: pr ++ rest)[j]? = some cj := by
        rw [← hpr, List.getElem?_drop]
        exact hcj
      by_cases lj : j < (p0 :: pr).length
      · rw [List.getElem?_append_left lj] at hj
        refine if_yes (hl cj (List.mem_of_getElem? hj)) ?_
        refine ⟨_, rfl, _, _, rfl, rfl, ⟨j + 1, by omega, by rw [m1]; omega, rfl, rfl⟩, ?_⟩
        show (p0 :: pr).length + 1 + e - (((e + j : Nat) : Int) + 1).toNat < (p0 :: pr).length + 1 + e - ((e + j : Nat) : Int).toNat
        omega
      · have ej : j = (p0 :: pr).length := by omega
        rw [List.getElem?_append_right (by omega), ej, Nat.sub_self] at hj
        refine if_no ?_ ?_
        · cases rest with
          | nil => cases hj
          | cons d u =>
            have ed : d = cj := Option.some.inj hj
            rw [← ed]
            exact hn
        · rw [ej]
          exact q
    · refine if_no (decide_eq_false (by omega)) (if_no rfl ?_)
      have ej : j = (p0 :: pr).length := by omega
      rw [ej]
      exact q
def tLast (K : PySem.W.Frag) : TS := tSeq (tIfS (tTest (tOp rNe (tOp rIxS (tVar 0) (tVar 2)) (tC (.str " ")))) (tDrop (tBM K "list" rAppend (tVar 1) (tCons (tTup (tCons (tSl rSlS (tVar 0) (tPart (tVar 2)) (tPart (tVar 3))) (tCons (tVar 2) tNil))) tNil))) tNext) (tAsg (tVar 3) (gName 2))
theorem last_ok {K : PySem.W.Frag} {D : Ends} {z k : Str} {l : Addr} {e : Nat} {r : List Nat} {as : List Addr} {H : Hp} (zl : z.length ≤ 100000) (hR : z.cps.toList.drop e = k.cps.toList ++ r) (bd : TokC k.cps.toList r) (fl : H l = some (.lst (as.map V.ref))) (few : as.length ≤ 100000)
    (q : ∀ (t : Addr) (H2 H3 : Hp), Same H H2 → H2 t = some (.tup [.str k, .int (e : Int)]) → H2 l = some (.lst (as.map V.ref)) → But l H2 H3 → H3 l = some (.lst ((as ++ [t]).map V.ref)) → D.nx [some (.str z), some (.ref l), some (.int ((e + k.length : Nat) : Int)), some (.int ((e + k.length : Nat) : Int))] H3) :
    tLast K D [some (.str z), some (.ref l), some (.int (e : Int)), some (.int ((e + k.length : Nat) : Int))] H := by
  have zs : z.length ≤ sizeLine := by rw [sizeLine_eq]; omega
  have len := zlen z
  obtain ⟨c, t0, ec, nc⟩ := tokC_head bd
  have hR' := hR
  rw [ec] at hR'
  obtain ⟨h1, _⟩ := drop_at hR'
  have kl := zlen k
  have dl2 := drop_len hR
  have kp := tokC_pos bd
  refine ⟨_, rfl, _, rfl, z, _, c, rfl, rfl, zs, atI_nat h1, rfl, _, rfl, if_yes (congrArg (!·) (decide_eq_false fun ee => ?_)) ?_⟩
  · injection ee with ee
    have q2 : [c] = (" " : Str).cps.toList := congrArg (fun s : Str => s.cps.toList) ee
    have q3 : (" " : Str).cps.toList = [32] := by decide
    rw [q3] at q2
    exact nc (List.cons.inj q2).1
  have ek : cutS z (some (e : Int)) (some ((e + k.length : Nat) : Int)) = k := str_eq (by rw [cutS_nat z e k.length (by omega), hR, kl, List.take_left])
  refine ⟨_, rfl, .inl ⟨rfl, _, SqL.of fl⟩, _, rfl, _, rfl, _, rfl, _, rfl, _, rfl, z, rfl, zs, ?_⟩
  rw [ek]
  refine ⟨_, rfl, (by show 2 ≤ sizeLine; decide), fun t nt => ?_⟩
  obtain ⟨H2, e2, s2, ft⟩ := mk_s (.tup [.str k, .int (e : Int)]) nt
  rw [e2]
  have fl2 := s2 _ _ fl
  refine ⟨l, _, _, rfl, rfl, fl2, by rw [List.length_map, sizeLine_eq]; omega, ?_⟩
  obtain ⟨H3, e3, b3, f3⟩ : ∃ H3, upd H2 l (.lst (as.map V.ref ++ [.ref t])) = H3 ∧ But l H2 H3 ∧ H3 l = some (.lst (as.map V.ref ++ [.ref t])) := ⟨_, rfl, upd_but, upd_same⟩
  rw [e3]
  refine ⟨_, rfl, ?_⟩
  exact gn1 (σ' := [some (.str z), some (.ref l), some (.int ((e + k.length : Nat) : Int)), some (.int ((e + k.length : Nat) : Int))]) rfl (q t H2 H3 s2 ft fl2 b3 (by rw [f3, List.map_append]; rfl))
section
variable {P : Program} {w : World} {K : PySem.W.Frag} {mg : Str → Option Value} {base : Heap} {C : Addr}
abbrev nLtk : List Str := ["string", "found", "spot", "end"]
theorem scLtk : FnScope nLtk ["string"] (defScope lTokens) := ⟨rfl, rfl, rfl, by decide +kernel, rfl, by decide +kernel, by decide +kernel⟩
theorem cl_ltokens (D : DefAt K mg "_law_tokens" lTokens) (B : Blt mg) : Cl CX0 P w K mg base 1 "_law_tokens" ["string"] (spTokensL K) := by
  obtain ⟨f, fd, F, hm⟩ := D
  refine cl_of F hm (F.ok scLtk (fun vs H Q E h => ?_) (fun cdv A outer s H vs Q E hr h => ⟨_, PSs.nox (pss_cons (ps_set (i := 1) scLtk.nd rfl (Or.inl rfl) (pe_lst pa_nil))
      (pss_cons (ps_set (i := 2) scLtk.nd rfl (Or.inl rfl) pe_int)
      (pss_cons (ps_while PassesOwn.never (pt_cmpR op_lt (pv 2) (pe_callB call_len_str (by rfl) B.len PySem.boot_len (pa_cons (pv 0) pa_nil)) (nomark _))
        (pss_cons (ps_set (i := 3) scLtk.nd rfl (Or.inl rfl) (pe_op op_add (pv 2) pe_int))
      (pss_cons (ps_while PassesOwn.never (PW.pt (pw_and (pt_chain op_le_str op_le_str pe_str (pe_ix ix_str (pv 0) (pv 2) (fun _ _ => rfl)) pe_str)
          (pw_and (pt_cmpR op_lt (pv 3) (pe_callB call_len_str (by rfl) B.len PySem.boot_len (pa_cons (pv 0) pa_nil)) (nomark _))
          (pw_and1 (pt_chain op_le_str op_le_str pe_str (pe_ix ix_str (pv 0) (pv 3) (fun _ _ => rfl)) pe_str)))))
          (pss_one (ps_set (i := 3) scLtk.nd rfl (Or.inl rfl) (pe_op op_add (pv 3) pe_int))))
      (pss_cons (ps_if (pt_cmpR op_eq (pe_slice sl_str (pv 0) (po_some (pv 2)) (po_some (pe_op op_add (pv 2) pe_int))) pe_str (nomark _)) (pss_one (ps_set (i := 3) scLtk.nd rfl (Or.inl rfl) (pe_op op_add (pv 2) pe_int))) pss_nil)
      (pss_cons (ps_if (pt_cmpR op_ne (pe_ix ix_str (pv 0) (pv 2) (fun _ _ => rfl)) pe_str (nomark _)) (pss_one (ps_expr (pe_bm PySem.F.plainAttrs_list PySem.F.slot_list_append PySem.F.type_list_append mt_append (pv 1) (pa_cons (pe_tup (pa_cons (pe_slice sl_str (pv 0) (po_some (pv 2)) (po_some (pv 3))) (pa_cons (pv 2) pa_nil))) pa_nil)))) pss_nil)
      (pss_one (ps_set (i := 2) scLtk.nd rfl (Or.inl rfl) (pv 3))))))))
      (pss_one (ps_ret (pv 1)))))), ?_⟩)) fun _ _ _ _ _ _ us hl => match us, hl with | [_], _ => rfl
  · obtain ⟨z, ts, rfl, _⟩ := h
    rfl
  · obtain ⟨z, ts, rfl, rd, zl, q⟩ := h
    have zs : z.length ≤ sizeLine := by rw [sizeLine_eq]; omega
    have len := zlen z
    refine ⟨(by show 0 ≤ sizeLine; decide), fun l nl => ?_⟩
    obtain ⟨H1, e1, s1, f1⟩ := mk_s (.lst []) nl
    rw [e1]
    refine gn1 (σ' := [some (.str z), some (.ref l), none, none]) rfl ?_
    refine seq_c (σ' := [some (.str z), some (.ref l), some (.int 0), none]) rfl ?_
    refine seq_while (fun σ H' => ∃ (e : Nat) (v : Option V) (done rest : List (Nat × Str)) (as : List Addr), σ = [some (.str z), some (.ref l), some (.int (e : Int)), v] ∧ e ≤ z.length ∧ Same H H' ∧ H' l = some (.lst (as.map V.ref)) ∧ Paired (TokL K H') done as ∧ done ++ rest = ts ∧ Lex e (z.cps.toList.drop e) rest)
      (fun σ _ => match σ with | [_, _, some (.int y), _] => z.length - y.toNat | _ => 0) ⟨0, none, [], ts, [], rfl, Nat.zero_le _, s1, f1, .nil, rfl, rd⟩ ?_ ?_
    · rintro σ H' ⟨e, v, done, rest, as, rfl, le, sH, fl, pd, tot, rr⟩
      refine ⟨_, rfl, _, rfl, z, rfl, zs, _, _, rfl, rfl, _, rfl, ?_⟩
      by_cases lt : e < z.length
      · refine if_yes (decide_eq_true (by omega)) ?_
        refine ⟨_, rfl, _, _, rfl, rfl, ?_⟩
        refine gn1 (σ' := [some (.str z), some (.ref l), some (.int (e : Int)), some (.int ((e + 1 : Nat) : Int))]) rfl ?_
        have dl : (z.cps.toList.drop e).length = z.length - e := by rw [List.length_drop, len]
        generalize hR : z.cps.toList.drop e = R at rr dl
        cases rr with
        | nil =>
          exfalso
          have z0 : ([] : List Nat).length = 0 := rfl
          omega
        | blank h =>
          obtain ⟨h1, h2⟩ := drop_at hR
          refine inner_ok (pre := []) zs lt hR (fun _ z => nomatch z) rfl ?_
          have nd : cutS z (some (e : Int)) (some ((e : Int) + 2)) ≠ "->" := fun ee => by
            have q1 := cutS_two z e (Nat.le_of_lt lt)
            have el : ("->" : Str).cps.toList = [45, 62] := by decide
            rw [ee, hR, el] at q1
            have := (List.cons.inj q1).1
            exact absurd this (by decide)
          refine ⟨_, rfl, _, rfl, _, rfl, _, rfl, _, _, rfl, rfl, _, rfl, z, rfl, zs, rfl, _, rfl, if_no (decide_eq_false fun ee => nd (by injection ee)) ?_⟩
          refine ⟨_, rfl, _, rfl, z, _, 32, rfl, rfl, zs, atI_nat h1, rfl, _, rfl, if_no (congrArg (!·) (decide_eq_true rfl)) ?_⟩
          refine ⟨_, rfl, ⟨e + 1, _, done, rest, as, rfl, lt, sH, fl, pd, tot, by rw [h2]; exact h⟩, ?_⟩
          show z.length - ((e + 1 : Nat) : Int).toNat < z.length - ((e : Int)).toNat
          omega
        | tok k bd h =>
          rename_i r2 ts2
          have lw := lex_few rd
          have la := Paired.length pd
          have ltot := congrArg List.length tot
          rw [List.length_append, List.length_cons] at ltot
          have kl := zlen k
          have kp := tokC_pos bd
          have dl2 := drop_len hR
          have eL : z.cps.toList.drop (e + k.length) = r2 := by rw [kl]; exact drop_more hR
          have fin := fun (t : Addr) (H2 H3 : Hp) (s2 : Same H' H2) (ft : H2 t = some (.tup [.str k, .int (e : Int)])) (fl2 : H2 l = some (.lst (as.map V.ref))) (b3 : But l H2 H3) (f3 : H3 l = some (.lst ((as ++ [t]).map V.ref))) =>
            (show (∃ (e1 : Nat) (v : Option V) (done rest : List (Nat × Str)) (as : List Addr), [some (V.str z), some (.ref l), some (.int ((e + k.length : Nat) : Int)), some (.int ((e + k.length : Nat) : Int))] = [some (.str z), some (.ref l), some (.int (e1 : Int)), v] ∧ e1 ≤ z.length ∧ Same H H3 ∧ H3 l = some (.lst (as.map V.ref)) ∧ Paired (TokL K H3) done as ∧ done ++ rest = ts ∧ Lex e1 (z.cps.toList.drop e1) rest) ∧ z.length - ((e + k.length : Nat) : Int).toNat < z.length - ((e : Int)).toNat from by
              have sH3 : Same H H3 := fun b o z' => b3 b o (ne_of_none z' nl) (s2 b o (sH b o z'))
              have pd2 : Paired (TokL K H3) (done ++ [(e, k)]) (as ++ [t]) := paired_app (paired_map (fun h => (TokL.on s2 h).but fl2 b3) pd) (.cons (TokL.but (q := (e, k)) fl2 b3 (SqT.of ft)) .nil)
              exact ⟨⟨e + k.length, _, done ++ [(e, k)], ts2, as ++ [t], rfl, by omega, sH3, f3, pd2, by rw [List.append_assoc]; exact tot, by rw [eL]; exact h⟩, by omega⟩)
          have arrow : ∀ {c : Nat} {t : List Nat}, k.cps.toList = c :: t → ¬ (c = 45 ∧ (t ++ r2).head? = some 62) → cutS z (some (e : Int)) (some ((e : Int) + 2)) ≠ "->" := fun {c t} ec no ee => by
            have q1 := cutS_two z e (Nat.le_of_lt lt)
            have el : ("->" : Str).cps.toList = [45, 62] := by decide
            rw [ee, hR, ec, el] at q1
            have q2 : [45, 62] = c :: (t ++ r2).take 1 := q1
            have a1 := (List.cons.inj q2).1
            have a2 := (List.cons.inj q2).2
            refine no ⟨a1.symm, ?_⟩
            cases q3 : t ++ r2 with
            | nil =>
              rw [q3] at a2
              cases a2
            | cons d u =>
              rw [q3] at a2
              have := (List.cons.inj a2).1
              rw [← this]
              rfl
          rcases id bd with ⟨n, a, b⟩ | ek | ⟨c, ek, nlc, n32, na⟩
          · refine inner_ok (pre := k.cps.toList) zs lt hR a b ?_
            have m1 : max 1 k.cps.toList.length = k.length := by rw [kl]; omega
            rw [m1]
            obtain ⟨c, t, ec, _⟩ := tokC_head bd
            have nd := arrow ec fun w => by
              have := a c (by rw [ec]; exact List.mem_cons_self)
              rw [w.1] at this
              cases this
            refine ⟨_, rfl, _, rfl, _, rfl, _, rfl, _, _, rfl, rfl, _, rfl, z, rfl, zs, rfl, _, rfl, if_no (decide_eq_false fun ee => nd (by injection ee)) ?_⟩
            exact last_ok (by omega) hR bd fl (by omega) fin
          · refine inner_ok (pre := []) zs lt hR (fun _ z => nomatch z) (by rw [ek]; rfl) ?_
            have k2 : k.length = 2 := by rw [kl, ek]; rfl
            have e2 : cutS z (some (e : Int)) (some ((e : Int) + 2)) = "->" := str_eq (by
              rw [cutS_two z e (Nat.le_of_lt lt), hR, ek]
              have el : ("->" : Str).cps.toList = [45, 62] := by decide
              rw [el]
              rfl)
            refine ⟨_, rfl, _, rfl, _, rfl, _, rfl, _, _, rfl, rfl, _, rfl, z, rfl, zs, rfl, _, rfl, if_yes (decide_eq_true (congrArg V.str e2)) ?_⟩
            refine ⟨_, rfl, _, _, rfl, rfl, ?_⟩
            refine gn1 (σ' := [some (.str z), some (.ref l), some (.int (e : Int)), some (.int ((e + k.length : Nat) : Int))]) (by rw [k2]; rfl) ?_
            exact last_ok (by omega) hR bd fl (by omega) fin
          · refine inner_ok (pre := []) zs lt hR (fun _ z => nomatch z) (by rw [ek]; exact nlc) ?_
            have k1 : k.length = 1 := by rw [kl, ek]; rfl
            have m1 : e + max 1 ([] : List Nat).length = e + k.length := by rw [k1]; rfl
            rw [m1]
            have nd := arrow (t := []) ek na
            refine ⟨_, rfl, _, rfl, _, rfl, _, rfl, _, _, rfl, rfl, _, rfl, z, rfl, zs, rfl, _, rfl, if_no (decide_eq_false fun ee => nd (by injection ee)) ?_⟩
            exact last_ok (by omega) hR bd fl (by omega) fin
      · refine if_no (decide_eq_false (by omega)) ?_
        have dn : z.cps.toList.drop e = [] := List.drop_of_length_le (by omega)
        rw [dn] at rr
        have rn : rest = [] := List.eq_nil_of_length_eq_zero (Nat.le_zero.mp (lex_few rr))
        rw [rn, List.append_nil] at tot
        rw [tot] at pd
        exact ⟨_, rfl, q l as H' sH nl fl pd⟩
    · rintro σ H0 Q1 Q2 m ⟨v1, e1', v2, e2', z2, e3', zl2, i, j, e4, e5, b, e6, h⟩
      exact ⟨v1, e1', v2, e2', z2, e3', zl2, i, j, e4, e5, b, e6, m _ _ h⟩
end
end G1
set_option maxHeartbeats 4000000
/-! ### in a table of the top; how often a string stands in a list -/
namespace G1
open PySem PySem.Spec PyProof.Rows L2
def rInKt (K : PySem.W.Frag) (w : World) : R2 := fun x y H Q => ∃ (z : Str) (d : Addr) (r : Option Value), x = .str z ∧ y = .ref d ∧ (d == sysModules) = false ∧
  (∃ es n, K.lookup d = some ⟨.type "dict", none, .dict es n, #[]⟩ ∧ PySem.W.KeysLit w.params es.toList) ∧ PySem.W.nsIn K d z = some r ∧ Q (.bl r.isSome) H
theorem op_in_kt {X : Cx} : OpR X (compareOp .In) (rInKt X.K X.w) := by
  intro pins s σ H x y v u Q I rx ry h
  obtain ⟨z, d, r, rfl, rfl, low, ⟨es, n, at_, lit⟩, e, q⟩ := h
  obtain ⟨t, rfl⟩ := rx
  cases ry
  refine wpAny_in_of (PySem.strKind_is X.prog X.w z t) low (PySem.W.mapOf_K (prog := X.prog) I.kIn at_ lit) ?_
  rw [PySem.W.find_K at_ e]
  exact ⟨.bl r.isSome, H, I.tok _, rfl, q⟩
def eqz (k : Str) (v : Value) : Bool := match v with
  | .str n _ => n == k
  | _ => false
theorem eqz_str (a b : Str) (t u : Tok) : MeetsSeq.EqGives (.str a t) (.str b u) (a == b) := by
  have h := SeqRoads2.EqGives.str a b t u
  have e : (a.cps.toList == b.cps.toList) = (a == b) := by
    rw [Bool.eq_iff_iff, beq_iff_eq, beq_iff_eq]
    exact ⟨fun h => by cases a; cases b; congr; exact Array.toList_inj.mp h, fun h => by rw [h]⟩
  rw [e] at h
  exact h
theorem eqz_all {k : Str} {t : Tok} : ∀ {zs : List Str} {us : List Value}, Vals (zs.map V.str) us → (∀ y ∈ us, MeetsSeq.EqGives y (.str k t) (eqz k y)) ∧ us.countP (eqz k) = zs.count k
  | [], us, h => by
    cases h
    exact ⟨fun _ z => (List.not_mem_nil z).elim, rfl⟩
  | z :: zs, us, h => by
    cases h with
    | cons r rs =>
      obtain ⟨t', rfl⟩ := r
      obtain ⟨h1, h2⟩ := eqz_all (k := k) (t := t) rs
      refine ⟨fun y hy => ?_, ?_⟩
      · rcases List.mem_cons.mp hy with e | e
        · rw [e]
          exact eqz_str z k t' t
        · exact h1 y e
      · rw [List.countP_cons, List.count_cons, h2]
        rfl
def rCntZ (K : PySem.W.Frag) : V → List V → Hp → VK → Prop := fun x xs H Q => ∃ (p : Addr) (zs : List Str) (k : Str), x = .ref p ∧ xs = [.str k] ∧ SqL K H p (zs.map V.str) ∧ Q (.int (zs.count k : Nat)) H
theorem mt_cntZ {X : Cx} : MtR X "list.count" (rCntZ X.K) := by
  intro pins s σ H x xs v us Q I rx rxs h
  obtain ⟨p, zs, k, rfl, rfl, hs, q⟩ := h
  cases rx
  obtain ⟨u, rfl, ru⟩ := rxs.one
  obtain ⟨t, rfl⟩ := ru
  obtain ⟨its, rv, ⟨⟨cls, dd, data, sl⟩, n, ho, hc, hdn, hd⟩, _⟩ := I.list hs
  simp only at hc hd
  subst hc hd
  obtain ⟨all, cnt⟩ := eqz_all (k := k) (t := t) rv
  refine call_meets PySem.F.slot_list_count ⟨_, ho, rfl⟩ PySem.F.entry_list_count (PySem.F.args_list_count_2 _ _)
    (SeqAt.list_countAt p its.toArray n dd sl (.str k t) (eqz k)) ⟨ho, fun y hy => (all y (by simpa using hy)).at _ _, ?_⟩
  refine ⟨.int (zs.count k : Nat), H, I.tok _, ⟨s.toks, ?_⟩, q⟩
  have ec : its.toArray.toList.countP (eqz k) = zs.count k := cnt
  show Value.int ((its.toArray.toList.countP (eqz k) : Nat) : Int) s.toks = Value.int ((zs.count k : Nat) : Int) s.toks
  rw [ec]
end G1
set_option maxHeartbeats 8000000
namespace G1
open PySem PySem.Spec PyProof.Rows L2 SY TXS OW
/-- the kinds, by their signs -/
structure Kinds (K : PySem.W.Frag) (w : World) (mg : Str → Option Value) : Prop where
  ex : ∃ d, mg "KINDS" = some (.ref d) ∧ (d == sysModules) = false ∧ (∀ k : Bk, KDct K w d k.sign (.str k.kind)) ∧ ∀ k : Tk, k.ok → (∀ b, k ≠ .sg b) → PySem.W.nsIn K d k.str = some none
def spFits : Sp := fun vs H Q _ => ∃ (k : Tk) (b : List Str) (w : Str), vs = [.str k.str, .str w, .int ((b.length : Int) - 1)] ∧ k.ok ∧ (stepO (b, w) k).isSome = true ∧ ∀ H', Same H H' → Q (.bl true) H'
theorem not_opn {k : Tk} (ok : k.ok) (n : k ≠ .opn) : decide (V.str k.str = V.str "(") = false := decide_eq_false fun e => by
  injection e with e
  have q := congrArg (fun s : Str => s.cps.toList) e
  have q1 : k.str.cps.toList = ("(" : Str).cps.toList := q
  rw [k.str_codes] at q1
  have q2 : ("(" : Str).cps.toList = [40] := by decide
  rw [q2] at q1
  cases k with
  | opn => exact n rfl
  | lt c =>
    have ok' : 97 ≤ c ∧ c ≤ 122 := ok
    have : c = 40 := (List.cons.inj q1).1
    omega
  | sg k => cases k <;> cases q1
  | _ => cases q1
section
variable {P : Program} {w : World} {K : PySem.W.Frag} {mg : Str → Option Value} {base : Heap} {C : Addr}
theorem scFits : FnScope ["token", "wanted", "opened"] ["token", "wanted", "opened"] (defScope sFits) := ⟨rfl, rfl, rfl, by decide +kernel, rfl, by decide +kernel, by decide +kernel⟩
theorem cl_fits (D : DefAt K mg "_fits" sFits) (B : Blt mg) (G : ∃ t, mg "MOST_OPEN" = some (.int 60 t)) (KS : Kinds K w mg) (cI : Cl CX0 P w K mg base 1 "is_letter" ["thing"] spLetter) : Cl CX0 P w K mg base 2 "_fits" ["token", "wanted", "opened"] spFits := by
  obtain ⟨f, fd, F, hm⟩ := D
  obtain ⟨d, gK, low, kd, _⟩ := KS.ex
  obtain ⟨tm, gM⟩ := G
  refine cl_of F hm (F.ok scFits (fun vs H Q E h => ?_) (fun cdv A outer s H vs Q E hr h => ⟨_, PSs.nox (pss_cons
      (ps_if (pt_cmpR op_eq (pv 1) pe_str (nomark _))
        (pss_cons (ps_if (pt_cmpR op_eq (pv 0) pe_str (nomark _)) (pss_one (ps_ret (pe_cmpR op_lt (pv 2) (pe_glob (v := .int 60) rfl gM ⟨_, rfl⟩) (nomark _)))) pss_nil)
        (pss_one (ps_ret (pe_or (pe_c0 cI hr (by decide) (by rfl) (pa_cons (pv 0) pa_nil)) (pe_one (pe_cmpR op_in_seq (pv 0) (pe_tup (pa_cons pe_str (pa_cons pe_str (pa_cons pe_str pa_nil)))) (by rfl))))))) pss_nil)
      (pss_cons (ps_if (pt_cmpR op_eq (pv 1) pe_str (nomark _)) (pss_one (ps_ret (pe_cmpR op_in_kt (pv 0) (pe_glob (v := .ref d) rfl gK rfl) (by rfl)))) pss_nil)
      (pss_one (ps_ret (pe_and (pe_cmpR op_eq (pv 1) pe_str (nomark _)) (pe_one (pe_cmpR op_eq (pv 0) pe_str (nomark _)))))))), ?_⟩)) fun _ _ _ _ _ _ us hl => match us, hl with | [_, _, _], _ => rfl
  · obtain ⟨k, b, w, rfl, _⟩ := h
    rfl
  · obtain ⟨k, b, wd, rfl, ok, st, q⟩ := h
    by_cases w1 : wd = "saying"
    · rw [w1] at st ⊢
      refine ⟨_, rfl, rfl, _, rfl, if_yes (decide_eq_true rfl) ?_⟩
      by_cases ko : k = .opn
      · rw [ko] at st ⊢
        refine ⟨_, rfl, rfl, _, rfl, if_yes (decide_eq_true rfl) ?_⟩
        have le : b.length ≤ 60 := by
          by_cases le : b.length ≤ 60
          · exact le
          · have e : stepO (b, "saying") .opn = none := by
              show (if b.length ≤ 60 then _ else _) = _
              rw [if_neg le]
            rw [e] at st
            cases st
        refine ⟨_, rfl, _, _, rfl, rfl, ?_⟩
        exact as_val (v := V.bl (decide ((b.length : Int) - 1 < 60))) (congrArg V.bl (decide_eq_true (by omega : (b.length : Int) - 1 < 60))) (q _ (Same.refl _))
      · refine ⟨_, rfl, rfl, _, rfl, if_no (not_opn ok ko) ?_⟩
        cases k with
        | lt c => exact ⟨_, rfl, _, true, rfl, .inl ⟨c, rfl, ok, rfl⟩, _, rfl, if_yes rfl (q _ (Same.refl _))⟩
        | zero =>
          refine ⟨_, rfl, _, false, rfl, .inr ⟨trivial, .off (c := 48) (by decide), rfl⟩, _, rfl, if_no rfl ⟨_, rfl, (by show 3 ≤ sizeLine; decide), fun t nt => ⟨t, _, rfl, .inr (SqT.of upd_same), rfl, rfl, ?_⟩⟩⟩
          exact q _ (same_at nt (Same.refl _))
        | one =>
          refine ⟨_, rfl, _, false, rfl, .inr ⟨trivial, .off (c := 49) (by decide), rfl⟩, _, rfl, if_no rfl ⟨_, rfl, (by show 3 ≤ sizeLine; decide), fun t nt => ⟨t, _, rfl, .inr (SqT.of upd_same), rfl, rfl, ?_⟩⟩⟩
          exact q _ (same_at nt (Same.refl _))
        | neg =>
          refine ⟨_, rfl, _, false, rfl, .inr ⟨trivial, .len (by show 3 ≤ sizeLine; decide) (by decide), rfl⟩, _, rfl, if_no rfl ⟨_, rfl, (by show 3 ≤ sizeLine; decide), fun t nt => ⟨t, _, rfl, .inr (SqT.of upd_same), rfl, rfl, ?_⟩⟩⟩
          exact q _ (same_at nt (Same.refl _))
        | opn => exact (ko rfl).elim
        | cls => cases b <;> cases st
        | sg k => cases b <;> cases st
    · have n1 : decide (V.str wd = V.str "saying") = false := decide_eq_false fun e => w1 (by injection e)
      refine ⟨_, rfl, rfl, _, rfl, if_no n1 ?_⟩
      by_cases w2 : wd = "sign"
      · rw [w2] at st ⊢
        refine ⟨_, rfl, rfl, _, rfl, if_yes (decide_eq_true rfl) ?_⟩
        cases k with
        | sg k =>
          obtain ⟨es, n, u, at_, lit, ns, _⟩ := kd k
          exact ⟨_, rfl, _, d, some u, rfl, rfl, low, ⟨es, n, at_, lit⟩, ns, q _ (Same.refl _)⟩
        | _ => cases b <;> cases st
      · have n2 : decide (V.str wd = V.str "sign") = false := decide_eq_false fun e => w2 (by injection e)
        refine ⟨_, rfl, rfl, _, rfl, if_no n2 ?_⟩
        have e0 : stepO (b, wd) k = if wd = "close" then (match k, b with | .cls, _ :: x :: r => some (x :: r, x) | _, _ => none) else none := by
          show (if wd = "saying" then _ else if wd = "sign" then _ else _) = _
          rw [if_neg w1, if_neg w2] <;> rfl
        by_cases w3 : wd = "close"
        · rw [w3] at st ⊢
          refine ⟨_, rfl, rfl, _, rfl, if_yes (decide_eq_true rfl) ?_⟩
          cases k with
          | cls => exact ⟨_, rfl, rfl, q _ (Same.refl _)⟩
          | _ =>
            exfalso
            rcases b with _ | ⟨x, _ | ⟨y, r⟩⟩ <;> cases st
        · rw [e0, if_neg w3] at st
          cases st
end
end G1
set_option maxHeartbeats 8000000
namespace G1
open PySem PySem.Spec PyProof.Rows L2 SY TXS OW
/-- the kinds, by their signs, and that there are no others -/
structure KindsX (K : PySem.W.Frag) (w : World) (mg : Str → Option Value) : Prop where
  ex : ∃ d, mg "KINDS" = some (.ref d) ∧ (d == sysModules) = false ∧ (∀ k : Bk, KDct K w d k.sign (.str k.kind)) ∧ ∀ z : Str, (∀ k : Bk, z ≠ k.sign) → PySem.W.nsIn K d z = some none
def spFitsX : Sp := fun vs H Q _ => ∃ (z : Str) (b : List Str) (w : Str), vs = [.str z, .str w, .int ((b.length : Int) - 1)] ∧ InvO (b, w) ∧ z.length ≤ sizeLine ∧ ∀ H', Same H H' → Q (.bl (stepZ (b, w) z).isSome) H'
theorem letter_str {H : Hp} (z : Str) (zl : z.length ≤ sizeLine) : (∃ c, V.str z = .str (SY.one c) ∧ (Sy.nm c).ok ∧ z = SY.one c) ∨ (Kn H (.str z) ∧ NoLet (.str z) ∧ ∀ c, 97 ≤ c ∧ c ≤ 122 → z ≠ SY.one c) := by
  by_cases h : ∃ c, z.cps.toList = [c]
  · obtain ⟨c, h⟩ := h
    have e : z = SY.one c := str_eq h
    by_cases l : 97 ≤ c ∧ c ≤ 122
    · exact .inl ⟨c, by rw [e], l, e⟩
    · refine .inr ⟨trivial, by rw [e]; exact .off l, fun d hd z' => ?_⟩
      have q : SY.one c = SY.one d := e.symm.trans z'
      have q2 : [c] = [d] := congrArg (fun s : Str => s.cps.toList) q
      have q3 := (List.cons.inj q2).1
      rw [q3] at l
      exact l hd
  · refine .inr ⟨trivial, .len zl fun l => h ?_, fun d _ z' => h ⟨d, by rw [z']; rfl⟩⟩
    rw [zlen] at l
    exact List.length_eq_one_iff.mp l
theorem in_some {z : Str} : inV (.str z) [.str "0", .str "1", .str "not"] = decide (z = "0" ∨ z = "1" ∨ z = "not") := by
  show ((("0" : Str) == z) || ((("1" : Str) == z) || ((("not" : Str) == z) || false))) = _
  rw [Bool.eq_iff_iff]
  simp only [Bool.or_eq_true, beq_iff_eq, decide_eq_true_eq, Bool.or_false]
  constructor
  · rintro (h | h | h)
    · exact .inl h.symm
    · exact .inr (.inl h.symm)
    · exact .inr (.inr h.symm)
  · rintro (h | h | h)
    · exact .inl h.symm
    · exact .inr (.inl h.symm)
    · exact .inr (.inr h.symm)
section
variable {P : Program} {w : World} {K : PySem.W.Frag} {mg : Str → Option Value} {base : Heap} {C : Addr}
theorem cl_fitsX (D : DefAt K mg "_fits" sFits) (B : Blt mg) (G : ∃ t, mg "MOST_OPEN" = some (.int 60 t)) (KS : KindsX K w mg) (cI : Cl CX0 P w K mg base 1 "is_letter" ["thing"] spLetter) : Cl CX0 P w K mg base 2 "_fits" ["token", "wanted", "opened"] spFitsX := by
  obtain ⟨f, fd, F, hm⟩ := D
  obtain ⟨d, gK, low, kd, off⟩ := KS.ex
  obtain ⟨tm, gM⟩ := G
  refine cl_of F hm (F.ok scFits (fun vs H Q E h => ?_) (fun cdv A outer s H vs Q E hr h => ⟨_, PSs.nox (pss_cons
      (ps_if (pt_cmpR op_eq (pv 1) pe_str (nomark _))
        (pss_cons (ps_if (pt_cmpR op_eq (pv 0) pe_str (nomark _)) (pss_one (ps_ret (pe_cmpR op_lt (pv 2) (pe_glob (v := .int 60) rfl gM ⟨_, rfl⟩) (nomark _)))) pss_nil)
        (pss_one (ps_ret (pe_or (pe_c0 cI hr (by decide) (by rfl) (pa_cons (pv 0) pa_nil)) (pe_one (pe_cmpR op_in_seq (pv 0) (pe_tup (pa_cons pe_str (pa_cons pe_str (pa_cons pe_str pa_nil)))) (by rfl))))))) pss_nil)
      (pss_cons (ps_if (pt_cmpR op_eq (pv 1) pe_str (nomark _)) (pss_one (ps_ret (pe_cmpR op_in_kt (pv 0) (pe_glob (v := .ref d) rfl gK rfl) (by rfl)))) pss_nil)
      (pss_one (ps_ret (pe_and (pe_cmpR op_eq (pv 1) pe_str (nomark _)) (pe_one (pe_cmpR op_eq (pv 0) pe_str (nomark _)))))))), ?_⟩)) fun _ _ _ _ _ _ us hl => match us, hl with | [_, _, _], _ => rfl
  · obtain ⟨z, b, w, rfl, _⟩ := h
    rfl
  · obtain ⟨z, b, wd, rfl, inv, zl, q⟩ := h
    have dict : ∃ es n, K.lookup d = some ⟨.type "dict", none, .dict es n, #[]⟩ ∧ PySem.W.KeysLit w.params es.toList := by
      obtain ⟨es, n, _, h1, h2, _⟩ := kd .both
      exact ⟨es, n, h1, h2⟩
    obtain ⟨x, r, eb⟩ := inv.cons
    have known : ∀ {k : Tk}, k.ok → z = k.str → stepZ (b, wd) z = stepO (b, wd) k := fun {k} ok e => by
      unfold stepZ
      rw [e, tkOf_str ok]
      rfl
    by_cases w1 : wd = "saying"
    · subst w1
      refine ⟨_, rfl, rfl, _, rfl, if_yes (decide_eq_true rfl) ?_⟩
      by_cases ko : z = "("
      · refine ⟨_, rfl, rfl, _, rfl, if_yes (decide_eq_true (by rw [ko])) ?_⟩
        have ek := known (k := .opn) trivial ko
        have er : (stepZ (b, "saying") z).isSome = decide ((b.length : Int) - 1 < 60) := by
          rw [ek]
          by_cases le : b.length ≤ 60
          · have e : stepO (b, "saying") .opn = some (("sign" : Str) :: b, ("saying" : Str)) := by
              show (if b.length ≤ 60 then _ else _) = _
              rw [if_pos le] <;> rfl
            rw [e, decide_eq_true (by omega : (b.length : Int) - 1 < 60)]
            rfl
          · have e : stepO (b, "saying") .opn = none := by
              show (if b.length ≤ 60 then _ else _) = _
              rw [if_neg le] <;> rfl
            rw [e, decide_eq_false (by omega : ¬ (b.length : Int) - 1 < 60)]
            rfl
        have q' := q H (Same.refl _)
        rw [er] at q'
        exact ⟨_, rfl, _, _, rfl, rfl, q'⟩
      · refine ⟨_, rfl, rfl, _, rfl, if_no (decide_eq_false fun e => ko (by injection e)) ?_⟩
        rcases letter_str (H := H) z zl with ⟨c, e1, ok, e2⟩ | ⟨kn, nl, no⟩
        · have ek := known (k := .lt c) ok e2
          have er : (stepZ (b, "saying") z).isSome = true := by
            rw [ek, eb]
            rfl
          have q' := q H (Same.refl _)
          rw [er] at q'
          exact ⟨_, rfl, _, true, rfl, .inl ⟨c, e1, ok, rfl⟩, _, rfl, if_yes rfl q'⟩
        · refine ⟨_, rfl, _, false, rfl, .inr ⟨kn, nl, rfl⟩, _, rfl, if_no rfl ⟨_, rfl, (by show 3 ≤ sizeLine; decide), fun t nt => ⟨t, _, rfl, .inr (SqT.of upd_same), rfl, rfl, ?_⟩⟩⟩
          have er : (stepZ (b, "saying") z).isSome = inV (.str z) [.str "0", .str "1", .str "not"] := by
            rw [in_some]
            by_cases m : z = "0" ∨ z = "1" ∨ z = "not"
            · rw [decide_eq_true m]
              rcases m with m | m | m
              · rw [known (k := .zero) trivial m, eb]
                rfl
              · rw [known (k := .one) trivial m, eb]
                rfl
              · rw [known (k := .neg) trivial m, eb]
                rfl
            · rw [decide_eq_false m]
              unfold stepZ
              cases qk : tkOf z with
              | none => rfl
              | some k =>
                obtain ⟨ok, ez⟩ := tkOf_some qk
                show (stepO (b, "saying") k).isSome = false
                cases k with
                | lt c => exact absurd ez (no c ok)
                | zero => exact absurd (.inl ez) m
                | one => exact absurd (.inr (.inl ez)) m
                | neg => exact absurd (.inr (.inr ez)) m
                | opn => exact absurd ez ko
                | cls => rw [eb]; rfl
                | sg k => rw [eb]; rfl
          have q' := q _ (same_at (o := HO.tup [.str "0", .str "1", .str "not"]) nt (Same.refl _))
          rw [er] at q'
          exact q'
    · have n1 : decide (V.str wd = V.str "saying") = false := decide_eq_false fun e => w1 (by injection e)
      refine ⟨_, rfl, rfl, _, rfl, if_no n1 ?_⟩
      by_cases w2 : wd = "sign"
      · subst w2
        refine ⟨_, rfl, rfl, _, rfl, if_yes (decide_eq_true rfl) ?_⟩
        by_cases m : ∃ k : Bk, z = k.sign
        · obtain ⟨k, ez⟩ := m
          have ek := known (k := .sg k) trivial ez
          have er : (stepZ (b, "sign") z).isSome = true := by
            rw [ek, eb]
            rfl
          have q' := q H (Same.refl _)
          rw [er] at q'
          obtain ⟨es, n, u, at_, lit, ns, _⟩ := kd k
          rw [← ez] at ns
          exact ⟨_, rfl, _, d, some u, rfl, rfl, low, dict, ns, q'⟩
        · have er : (stepZ (b, "sign") z).isSome = false := by
            unfold stepZ
            cases qk : tkOf z with
            | none => rfl
            | some k =>
              obtain ⟨ok, ez⟩ := tkOf_some qk
              show (stepO (b, "sign") k).isSome = false
              cases k with
              | sg k => exact absurd ⟨k, ez⟩ m
              | _ => rw [eb]; rfl
          have q' := q H (Same.refl _)
          rw [er] at q'
          exact ⟨_, rfl, _, d, none, rfl, rfl, low, dict, off z fun k e => m ⟨k, e⟩, q'⟩
      · have n2 : decide (V.str wd = V.str "sign") = false := decide_eq_false fun e => w2 (by injection e)
        refine ⟨_, rfl, rfl, _, rfl, if_no n2 ?_⟩
        by_cases w3 : wd = "close"
        · subst w3
          obtain ⟨x1, y1, r1, eb1⟩ := inv.close
          refine ⟨_, rfl, rfl, _, rfl, if_yes (decide_eq_true rfl) ?_⟩
          have er : (stepZ (b, "close") z).isSome = decide (V.str z = V.str ")") := by
            by_cases m : z = ")"
            · rw [known (k := .cls) trivial m, eb1, decide_eq_true (by rw [m])]
              rfl
            · rw [decide_eq_false fun e => m (by injection e)]
              unfold stepZ
              cases qk : tkOf z with
              | none => rfl
              | some k =>
                obtain ⟨ok, ez⟩ := tkOf_some qk
                show (stepO (b, "close") k).isSome = false
                cases k with
                | cls => exact absurd ez m
                | _ => rw [eb1]; rfl
          have q' := q H (Same.refl _)
          rw [er] at q'
          exact ⟨_, rfl, rfl, q'⟩
        · have n3 : decide (V.str wd = V.str "close") = false := decide_eq_false fun e => w3 (by injection e)
          have er : (stepZ (b, wd) z).isSome = false := by
            unfold stepZ
            cases tkOf z with
            | none => rfl
            | some k =>
              have e0 : stepO (b, wd) k = none := by
                show (if wd = "saying" then _ else if wd = "sign" then _ else if wd = "close" then _ else none) = none
                rw [if_neg w1, if_neg w2, if_neg w3]
              show (stepO (b, wd) k).isSome = false
              rw [e0]
              rfl
          have q' := q H (Same.refl _)
          rw [er] at q'
          exact ⟨_, rfl, rfl, _, rfl, if_no n3 q'⟩
end
end G1
set_option maxHeartbeats 8000000
namespace G1
open PySem PySem.Spec PyProof.Rows L2 SY TXS OW
abbrev zS : Str := "saying"
abbrev zG : Str := "sign"
abbrev zC : Str := "close"
abbrev zE : Str := "end"
def spOrder (K : PySem.W.Frag) : Sp := fun vs H Q _ => ∃ (z : Str) (l : Addr) (as : List Addr) (ws : List Tk), vs = [.str z, .ref l] ∧ H l = some (.lst (as.map V.ref)) ∧ Paired (TokAt K H) ws as ∧ (∀ k ∈ ws, k.ok) ∧
  runO ([zE], zS) ws = some ([zE], zE) ∧ ∀ H', Same H H' → Q .non H'
theorem stepO_cases {b : List Str} {w : Str} {k : Tk} {s2 : List Str × Str} (h : stepO (b, w) k = some s2) :
    (w = zS ∧ ((k = .opn ∧ b.length ≤ 60 ∧ s2 = (zG :: b, zS)) ∨ (k = .neg ∧ s2 = (b, zS)) ∨ ∃ x r, b = x :: r ∧ k ≠ .opn ∧ k ≠ .neg ∧ s2 = (x :: r, x))) ∨
    (w = zG ∧ ∃ x r, b = x :: r ∧ k ≠ .opn ∧ s2 = (zC :: r, zS)) ∨ (w = zC ∧ ∃ x y r, b = x :: y :: r ∧ k ≠ .opn ∧ k ≠ .neg ∧ s2 = (y :: r, y)) := by
  by_cases w1 : w = zS
  · refine .inl ⟨w1, ?_⟩
    rw [w1] at h
    cases k with
    | opn =>
      by_cases le : b.length ≤ 60
      · have e : stepO (b, zS) .opn = some (zG :: b, zS) := by
          show (if b.length ≤ 60 then _ else _) = _
          rw [if_pos le]
        rw [e] at h
        exact .inl ⟨rfl, le, (Option.some.inj h).symm⟩
      · have e : stepO (b, zS) .opn = none := by
          show (if b.length ≤ 60 then _ else _) = _
          rw [if_neg le]
        rw [e] at h
        cases h
    | neg =>
      cases b with
      | nil => exact .inr (.inl ⟨rfl, (Option.some.inj h).symm⟩)
      | cons x r => exact .inr (.inl ⟨rfl, (Option.some.inj h).symm⟩)
    | lt c =>
      cases b with
      | nil => cases h
      | cons x r => exact .inr (.inr ⟨x, r, rfl, nofun, nofun, (Option.some.inj h).symm⟩)
    | zero =>
      cases b with
      | nil => cases h
      | cons x r => exact .inr (.inr ⟨x, r, rfl, nofun, nofun, (Option.some.inj h).symm⟩)
    | one =>
      cases b with
      | nil => cases h
      | cons x r => exact .inr (.inr ⟨x, r, rfl, nofun, nofun, (Option.some.inj h).symm⟩)
    | cls => cases b <;> cases h
    | sg k => cases b <;> cases h
  · by_cases w2 : w = zG
    · refine .inr (.inl ⟨w2, ?_⟩)
      rw [w2] at h
      cases k with
      | sg k =>
        cases b with
        | nil => cases h
        | cons x r => exact ⟨x, r, rfl, nofun, (Option.some.inj h).symm⟩
      | _ => cases b <;> cases h
    · by_cases w3 : w = zC
      · refine .inr (.inr ⟨w3, ?_⟩)
        rw [w3] at h
        cases k with
        | cls =>
          rcases b with _ | ⟨x, _ | ⟨y, r⟩⟩
          · cases h
          · cases h
          · exact ⟨x, y, r, rfl, nofun, nofun, (Option.some.inj h).symm⟩
        | _ => rcases b with _ | ⟨x, _ | ⟨y, r⟩⟩ <;> cases h
      · have e0 : stepO (b, w) k = if w = zC then (match k, b with | .cls, _ :: x :: r => some (x :: r, x) | _, _ => none) else none := by
          show (if w = zS then _ else if w = zG then _ else _) = _
          rw [if_neg w1, if_neg w2] <;> rfl
        rw [e0, if_neg w3] at h
        cases h
theorem in_open {k : Tk} (ok : k.ok) (n1 : k ≠ .opn) (n2 : k ≠ .neg) : inV (.str k.str) [.str "(", .str "not"] = false := by
  cases k with
  | opn => exact (n1 rfl).elim
  | neg => exact (n2 rfl).elim
  | lt c =>
    have ok' : 97 ≤ c ∧ c ≤ 122 := ok
    have e1 : (("(" : Str) == SY.one c) = false := beq_eq_false_iff_ne.mpr fun e => by
      have q := congrArg (fun s : Str => s.cps.toList) e
      have q2 : [40] = [c] := (by decide : [40] = ("(" : Str).cps.toList).trans q
      have := (List.cons.inj q2).1
      omega
    have e2 : (("not" : Str) == SY.one c) = false := beq_eq_false_iff_ne.mpr fun e => by
      have q := congrArg (fun s : Str => s.cps.toList) e
      have q2 : [110, 111, 116] = [c] := (by decide : [110, 111, 116] = ("not" : Str).cps.toList).trans q
      cases q2
    show ((("(" : Str) == SY.one c) || ((("not" : Str) == SY.one c) || false)) = false
    rw [e1, e2]
    rfl
  | sg k => cases k <;> decide
  | _ => decide
theorem last_ix {l : List V} {x : V} : ixN (l ++ [x]).length (-1) = some l.length := by
  unfold ixN
  rw [if_neg (by decide), List.length_append]
  have e : [x].length = 1 := rfl
  rw [if_pos (by omega)]
  congr 1
  omega
theorem last_at {l : List V} {x : V} : atI (l ++ [x]) (-1) = some x := by
  unfold atI
  rw [last_ix]
  show (l ++ [x])[l.length]? = some x
  simp
theorem rev_cons (x : Str) (r : List Str) : (x :: r).reverse.map V.str = r.reverse.map V.str ++ [.str x] := by
  rw [List.reverse_cons, List.map_append]
  rfl
def tTail (K : PySem.W.Frag) : TS := tSeq (tAsg (tOrV (tOp rEq (tVar 3) (tC (.str "sign"))) (tOp (rIn K false) (tVar 5) (tTup (tCons (tC (.str "(")) (tCons (tC (.str "not")) tNil))))) (gName 6))
  (tAsg (tIf (tB (tVar 6)) (tC (.str "saying")) (tOp (rIxL K) (tVar 2) (tUn (rU fun i => .int (-i)) (tC (.int 1))))) (gName 3))
theorem tail_yes {K : PySem.W.Frag} {D0 : Ends} {a b v4 v6 : Option V} {D : Addr} {wd : Str} {k : Tk} {G : Hp} (h : wd = zG ∨ inV (.str k.str) [.str "(", .str "not"] = true)
    (q : ∀ G', Same G G' → D0.nx [a, b, some (.ref D), some (.str zS), v4, some (.str k.str), some (.bl true)] G') : tTail K D0 [a, b, some (.ref D), some (.str wd), v4, some (.str k.str), v6] G := by
  refine ⟨_, rfl, rfl, _, rfl, ?_⟩
  by_cases w : wd = zG
  · rw [w]
    exact if_yes (decide_eq_true rfl) ⟨_, rfl, _, rfl, if_yes rfl (q G (Same.refl _))⟩
  · have hi := h.resolve_left w
    refine if_no (decide_eq_false fun e => w (by injection e)) ?_
    refine ⟨_, rfl, (by show 2 ≤ sizeLine; decide), fun t nt => ⟨t, _, rfl, .inr (SqT.of upd_same), rfl, rfl, ?_⟩⟩
    refine st1 (f := fun σ H => tAsg (tIf (tB (tVar 6)) (tC (.str "saying")) (tOp (rIxL K) (tVar 2) (tUn (rU fun i => .int (-i)) (tC (.int 1))))) (gName 3) D0 σ H) (σ' := [a, b, some (.ref D), some (.str wd), v4, some (.str k.str), some (.bl true)]) (congrArg (fun x => [a, b, some (V.ref D), some (V.str wd), v4, some (V.str k.str), some (V.bl x)]) hi) ?_
    exact ⟨_, rfl, _, rfl, if_yes rfl (q _ (same_at nt (Same.refl _)))⟩
theorem tail_no {K : PySem.W.Frag} {D0 : Ends} {a b v4 v6 : Option V} {D : Addr} {wd x : Str} {r : List Str} {k : Tk} {G : Hp} (h1 : wd ≠ zG) (h2 : inV (.str k.str) [.str "(", .str "not"] = false) (fD : G D = some (.lst ((x :: r).reverse.map V.str)))
    (q : ∀ G', Same G G' → D0.nx [a, b, some (.ref D), some (.str x), v4, some (.str k.str), some (.bl false)] G') : tTail K D0 [a, b, some (.ref D), some (.str wd), v4, some (.str k.str), v6] G := by
  refine ⟨_, rfl, rfl, _, rfl, ?_⟩
  refine if_no (decide_eq_false fun e => h1 (by injection e)) ?_
  refine ⟨_, rfl, (by show 2 ≤ sizeLine; decide), fun t nt => ⟨t, _, rfl, .inr (SqT.of upd_same), rfl, rfl, ?_⟩⟩
  refine st1 (f := fun σ H => tAsg (tIf (tB (tVar 6)) (tC (.str "saying")) (tOp (rIxL K) (tVar 2) (tUn (rU fun i => .int (-i)) (tC (.int 1))))) (gName 3) D0 σ H) (σ' := [a, b, some (.ref D), some (.str wd), v4, some (.str k.str), some (.bl false)]) (congrArg (fun x => [a, b, some (V.ref D), some (V.str wd), v4, some (V.str k.str), some (V.bl x)]) h2) ?_
  have s1 := same_at (o := HO.tup [.str "(", .str "not"]) nt (Same.refl G)
  have f2 := s1 _ _ fD
  rw [rev_cons] at f2
  exact ⟨_, rfl, _, rfl, if_no rfl ⟨_, rfl, _, rfl, D, _, _, _, rfl, rfl, SqL.of f2, last_at, q _ s1⟩⟩
section
variable {P : Program} {w : World} {K : PySem.W.Frag} {mg : Str → Option Value} {base : Heap} {C : Addr}
theorem scOrder : FnScope ["text", "tokens", "behind", "wanted", "at", "token", "unfinished"] ["text", "tokens"] (defScope sCheckOrder) := ⟨rfl, rfl, rfl, by decide +kernel, rfl, by decide +kernel, by decide +kernel⟩
theorem cl_order (D : DefAt K mg "_check_order" sCheckOrder) (B : Blt mg) (cF : Cl CX0 P w K mg base 2 "_fits" ["token", "wanted", "opened"] spFits) : Cl CX0 P w K mg base 3 "_check_order" ["text", "tokens"] (spOrder K) := by
  obtain ⟨f, fd, F, hm⟩ := D
  refine cl_of F hm (F.ok scOrder (fun vs H Q E h => ?_) (fun cdv A outer s H vs Q E hr h => ⟨_, PSs.nox (pss_cons
      (ps_set (i := 2) scOrder.nd rfl (Or.inl rfl) (pe_lst (pa_cons pe_str pa_nil)))
      (pss_cons (ps_set (i := 3) scOrder.nd rfl (Or.inl rfl) pe_str)
      (pss_cons (ps_for PassesOwn.never rfl (pi_list (pv 1)) (pg_tup (by rfl) (pgs_cons (pg_name (i := 4) scOrder.nd rfl (Or.inl rfl)) (pgs_cons (pg_name (i := 5) scOrder.nd rfl (Or.inl rfl)) pgs_nil)))
        (pss_cons (ps_if (pt_not (pt_val (pe_c0 cF hr (by decide) (by rfl) (pa_cons (pv 5) (pa_cons (pv 3) (pa_cons (pe_op op_sub (pe_callB call_len_seq (by rfl) B.len PySem.boot_len (pa_cons (pv 2) pa_nil)) pe_int) pa_nil)))))) (pss_one ps_never) pss_nil)
        (pss_cons (ps_if (pt_cmpR op_eq (pv 5) pe_str (nomark _)) (pss_one (ps_expr (pe_bm PySem.F.plainAttrs_list PySem.F.slot_list_append PySem.F.type_list_append mt_append (pv 2) (pa_cons pe_str pa_nil))))
          (pss_one (ps_if (pt_cmpR op_eq (pv 3) pe_str (nomark _)) (pss_one (ps_asg pe_str (pg_sub (pv 2) (pe_un un_neg pe_int) set_list)))
            (pss_one (ps_if (pt_cmpR op_eq (pv 3) pe_str (nomark _)) (pss_one (ps_expr (pe_bm0 PySem.F.plainAttrs_list PySem.F.slot_list_pop PySem.F.type_list_pop mt_pop (pv 2)))) pss_nil)))))
        (pss_cons (ps_set (i := 6) scOrder.nd rfl (Or.inl rfl) (pe_or (pe_cmpR op_eq (pv 3) pe_str (nomark _)) (pe_one (pe_cmpR op_in_seq (pv 5) (pe_tup (pa_cons pe_str (pa_cons pe_str pa_nil))) (by rfl)))))
        (pss_one (ps_set (i := 3) scOrder.nd rfl (Or.inl rfl) (pe_ifExp (pt_val (pv 6)) pe_str (pe_ix ix_list (pv 2) (pe_un un_neg pe_int) (fun _ _ => rfl)))))))))
      (pss_one (ps_if (pt_cmpR op_ne (pv 3) pe_str (nomark _)) (pss_one ps_never) pss_nil))))), ?_⟩)) fun _ _ _ _ _ _ us hl => match us, hl with | [_, _], _ => rfl
  · obtain ⟨z, l, as, ws, rfl, _⟩ := h
    rfl
  · obtain ⟨z, l, as, ws, rfl, fl, pr, oks, run, q⟩ := h
    refine ⟨(by show 1 ≤ sizeLine; decide), fun D nD => ?_⟩
    obtain ⟨H1, e1, s1, f1⟩ := mk_s (.lst [.str "end"]) nD
    rw [e1]
    refine gn1 (σ' := [some (.str z), some (.ref l), some (.ref D), none, none, none, none]) rfl ?_
    refine seq_c (σ' := [some (.str z), some (.ref l), some (.ref D), some (.str zS), none, none, none]) rfl ?_
    refine ⟨_, rfl, l, rfl, ⟨_, SqL.of (s1 _ _ fl)⟩, for_list (xs := as.map V.ref) (fun i σ G => ∃ (b : List Str) (wd : Str) (v4 v5 v6 : Option V), σ = [some (.str z), some (.ref l), some (.ref D), some (.str wd), v4, v5, v6] ∧ Same H G ∧ G D = some (.lst (b.reverse.map V.str)) ∧ runO ([zE], zS) (ws.take i) = some (b, wd))
      ⟨[zE], zS, none, none, none, rfl, s1, f1, rfl⟩ (fun i σ G _ h => ?_) ?_ ?_⟩
    · obtain ⟨_, _, _, _, _, _, sG, _⟩ := h
      exact SqL.of (sG _ _ fl)
    · rintro i x σ G hx ⟨b, wd, v4, v5, v6, rfl, sG, fD, rn⟩
      obtain ⟨k, a, hk, ha, rfl, at_⟩ := paired_at pr hx
      have ok := oks k (List.mem_of_getElem? hk)
      obtain ⟨ai, ht⟩ := at_.on sG
      obtain ⟨⟨b1, w1⟩, s2, r1, st, r2⟩ := runO_at run i k hk
      rw [rn] at r1
      obtain ⟨rfl, rfl⟩ : b = b1 ∧ wd = w1 := by
        have e := Option.some.inj r1
        exact ⟨congrArg Prod.fst e, congrArg Prod.snd e⟩
      refine ⟨a, _, rfl, ht, rfl, _, _, rfl, _, _, rfl, rfl, ?_⟩
      refine st1 (σ' := [some (.str z), some (.ref l), some (.ref D), some (.str wd), some (.int ai), some (.str k.str), v6]) rfl ?_
      refine ⟨_, rfl, _, rfl, _, rfl, D, _, rfl, .inl (SqL.of fD), _, _, rfl, rfl, k, b, wd, congrArg (fun n : Nat => [V.str k.str, V.str wd, V.int ((n : Int) - 1)]) (by rw [List.length_map, List.length_reverse] : (b.reverse.map V.str).length = b.length), ok, by rw [st]; rfl, fun G1 g1 => ⟨_, rfl, if_no rfl ?_⟩⟩
      have sG1 := sG.trans g1
      have fD1 := g1 _ _ fD
      have nDH : H D = none := nD
      rcases stepO_cases st with ⟨rfl, ⟨rfl, le, rfl⟩ | ⟨rfl, rfl⟩ | ⟨x, r, rfl, n1, n2, rfl⟩⟩ | ⟨rfl, x, r, rfl, n1, rfl⟩ | ⟨rfl, x, y, r, rfl, n1, n2, rfl⟩
      · refine ⟨_, rfl, rfl, _, rfl, if_yes (decide_eq_true rfl) ?_⟩
        refine ⟨_, rfl, .inl ⟨rfl, _, SqL.of fD1⟩, D, _, _, rfl, rfl, fD1, by rw [List.length_map, List.length_reverse, sizeLine_eq]; omega, ?_⟩
        refine tail_yes (k := .opn) (.inr rfl) fun G' g' => ?_
        refine ⟨zG :: b, zS, _, _, _, rfl, (same_new nDH sG1).trans g', ?_, r2⟩
        rw [rev_cons]
        exact g' _ _ upd_same
      · refine ⟨_, rfl, rfl, _, rfl, if_no (not_opn ok nofun) ?_⟩
        refine ⟨_, rfl, rfl, _, rfl, if_no (by decide) ?_⟩
        refine ⟨_, rfl, rfl, _, rfl, if_no (by decide) ?_⟩
        refine tail_yes (k := .neg) (.inr rfl) fun G' g' => ?_
        exact ⟨b, zS, _, _, _, rfl, sG1.trans g', g' _ _ fD1, r2⟩
      · refine ⟨_, rfl, rfl, _, rfl, if_no (not_opn ok n1) ?_⟩
        refine ⟨_, rfl, rfl, _, rfl, if_no (by decide) ?_⟩
        refine ⟨_, rfl, rfl, _, rfl, if_no (by decide) ?_⟩
        refine tail_no (by decide) (in_open ok n1 n2) fD1 fun G' g' => ?_
        exact ⟨x :: r, x, _, _, _, rfl, sG1.trans g', g' _ _ fD1, r2⟩
      · refine ⟨_, rfl, rfl, _, rfl, if_no (not_opn ok n1) ?_⟩
        refine ⟨_, rfl, rfl, _, rfl, if_yes (decide_eq_true rfl) ?_⟩
        rw [rev_cons] at fD1
        refine ⟨_, rfl, _, rfl, D, _, _, _, rfl, rfl, fD1, last_ix, ?_⟩
        refine tail_yes (.inl rfl) fun G' g' => ?_
        refine ⟨zC :: r, zS, _, _, _, rfl, (same_new nDH sG1).trans g', ?_, r2⟩
        rw [rev_cons]
        have e : (r.reverse.map V.str ++ [V.str x]).set (r.reverse.map V.str).length (V.str "close") = r.reverse.map V.str ++ [V.str zC] := by
          rw [List.set_append_right _ _ (Nat.le_refl _), Nat.sub_self]
          rfl
        rw [← e]
        exact g' _ _ upd_same
      · refine ⟨_, rfl, rfl, _, rfl, if_no (not_opn ok n1) ?_⟩
        refine ⟨_, rfl, rfl, _, rfl, if_no (by decide) ?_⟩
        refine ⟨_, rfl, rfl, _, rfl, if_yes (decide_eq_true rfl) ?_⟩
        rw [rev_cons] at fD1
        refine ⟨_, rfl, .inl ⟨rfl, _, SqL.of fD1⟩, D, _, V.str x, rfl, rfl, fD1, by simp, ?_⟩
        have e : (((y :: r).reverse.map V.str) ++ [V.str x]).dropLast = (y :: r).reverse.map V.str := List.dropLast_concat
        refine tail_no (x := y) (r := r) (by decide) (in_open ok n1 n2) (upd_same.trans (by rw [e])) fun G' g' => ?_
        exact ⟨y :: r, y, _, _, _, rfl, (same_new nDH sG1).trans g', g' _ _ (upd_same.trans (by rw [e])), r2⟩
    · rintro σ G ⟨b, wd, v4, v5, v6, rfl, sG, fD, rn⟩
      have la := Paired.length pr
      rw [List.length_map, ← la, List.take_length, run] at rn
      have e := Option.some.inj rn
      have ew : zE = wd := congrArg Prod.snd e
      rw [← ew]
      exact ⟨_, rfl, rfl, _, rfl, if_no rfl (q G sG)⟩
end
end G1
set_option maxHeartbeats 8000000
namespace G1
open PySem PySem.Spec PyProof.Rows L2 SY TXS OW
structure OrderP (CT : Addr) (z : Str) (cs : List (Nat × Str)) (H : Hp) (Q : VK) (E : XK) : Prop where
  bad : ∀ p, placeO z.length ([zE], zS) cs = some p → ∀ H', Same H H' → Rs "at" CT H' (.int (p : Int)) E
  fit : placeO z.length ([zE], zS) cs = none → ∀ H', Same H H' → Q .non H'
def spOrderX (K : PySem.W.Frag) (CT : Addr) : Sp := fun vs H Q E => ∃ (z : Str) (l : Addr) (as : List Addr) (cs : List (Nat × Str)), vs = [.str z, .ref l] ∧ H l = some (.lst (as.map V.ref)) ∧ Paired (TokZ K H) cs as ∧ z.length ≤ 100000 ∧ (∀ q ∈ cs, q.2.length ≤ sizeLine) ∧ OrderP CT z cs H Q E
theorem place_next {n : Nat} {s : List Str × Str} {i : Nat} {z : Str} {ts : List (Nat × Str)} : placeO n s ((i, z) :: ts) = match stepZ s z with | none => some i | some s' => placeO n s' ts := rfl
section
variable {P : Program} {w : World} {K : PySem.W.Frag} {mg : Str → Option Value} {base : Heap} {C CT fT : Addr}
theorem cl_orderX (D : DefAt K mg "_check_order" sCheckOrder) (B : Blt mg) (TT : ErrT K mg CT fT) (cF : Cl CX0 P w K mg base 2 "_fits" ["token", "wanted", "opened"] spFitsX) : Cl (L2.CX P w) P w K mg base 4 "_check_order" ["text", "tokens"] (spOrderX K CT) := by
  obtain ⟨f, fd, F, hm⟩ := D
  obtain ⟨fdT, FT⟩ := TT.fn
  refine cl_of F hm (F.ok scOrder (fun vs H Q E h => ?_) (fun cdv A outer s H vs Q E hr h => ⟨_, (pss_cons
      (ps_set (i := 2) scOrder.nd rfl (Or.inl rfl) (pe_lst (pa_cons pe_str pa_nil)))
      (pss_cons (ps_set (i := 3) scOrder.nd rfl (Or.inl rfl) pe_str)
      (pss_cons (ps_for (passes_of rfl) rfl (pi_list (pv 1)) (pg_tup (by rfl) (pgs_cons (pg_name (i := 4) scOrder.nd rfl (Or.inl rfl)) (pgs_cons (pg_name (i := 5) scOrder.nd rfl (Or.inl rfl)) pgs_nil)))
        (pss_cons (ps_if (pt_not (pt_val (pe_c0 cF hr (by decide) (by rfl) (pa_cons (pv 5) (pa_cons (pv 3) (pa_cons (pe_op op_sub (pe_callB call_len_seq (by rfl) B.len PySem.boot_len (pa_cons (pv 2) pa_nil)) pe_int) pa_nil)))))) (pss_one (ps_raise rfl (takes_of rfl rfl rfl rfl) (pmk_oex TT.ox TT.iC TT.tI (ok_errT TT FT) (hr.mono (by decide)) (err_bindsT FT) .nil pass0 (by rfl) TT.gC (pa_cons (pv 4) pa_nil)))) pss_nil)
        (pss_cons (ps_if (pt_cmpR op_eq (pv 5) pe_str (nomark _)) (pss_one (ps_expr (pe_bm PySem.F.plainAttrs_list PySem.F.slot_list_append PySem.F.type_list_append mt_append (pv 2) (pa_cons pe_str pa_nil))))
          (pss_one (ps_if (pt_cmpR op_eq (pv 3) pe_str (nomark _)) (pss_one (ps_asg pe_str (pg_sub (pv 2) (pe_un un_neg pe_int) set_list)))
            (pss_one (ps_if (pt_cmpR op_eq (pv 3) pe_str (nomark _)) (pss_one (ps_expr (pe_bm0 PySem.F.plainAttrs_list PySem.F.slot_list_pop PySem.F.type_list_pop mt_pop (pv 2)))) pss_nil)))))
        (pss_cons (ps_set (i := 6) scOrder.nd rfl (Or.inl rfl) (pe_or (pe_cmpR op_eq (pv 3) pe_str (nomark _)) (pe_one (pe_cmpR op_in_seq (pv 5) (pe_tup (pa_cons pe_str (pa_cons pe_str pa_nil))) (by rfl)))))
        (pss_one (ps_set (i := 3) scOrder.nd rfl (Or.inl rfl) (pe_ifExp (pt_val (pv 6)) pe_str (pe_ix ix_list (pv 2) (pe_un un_neg pe_int) (fun _ _ => rfl)))))))))
      (pss_one (ps_if (pt_cmpR op_ne (pv 3) pe_str (nomark _)) (pss_one (ps_raise rfl (takes_of rfl rfl rfl rfl) (pmk_oex TT.ox TT.iC TT.tI (ok_errT TT FT) (hr.mono (by decide)) (err_bindsT FT) .nil pass0 (by rfl) TT.gC (pa_cons (pe_callB call_len_str (by rfl) B.len PySem.boot_len (pa_cons (pv 0) pa_nil)) pa_nil)))) pss_nil))))), ?_⟩)) fun _ _ _ _ _ _ us hl => match us, hl with | [_, _], _ => rfl
  · obtain ⟨z, l, as, ws, rfl, _⟩ := h
    rfl
  · obtain ⟨z, l, as, cs, rfl, fl, pr, zl, tl, hp⟩ := h
    have zs : z.length ≤ sizeLine := by rw [sizeLine_eq]; omega
    refine ⟨(by show 1 ≤ sizeLine; decide), fun D nD => ?_⟩
    obtain ⟨H1, e1, s1, f1⟩ := mk_s (.lst [.str "end"]) nD
    rw [e1]
    refine gn1 (σ' := [some (.str z), some (.ref l), some (.ref D), none, none, none, none]) rfl ?_
    refine seq_c (σ' := [some (.str z), some (.ref l), some (.ref D), some (.str zS), none, none, none]) rfl ?_
    refine ⟨_, rfl, l, rfl, ⟨_, SqL.of (s1 _ _ fl)⟩, for_list (xs := as.map V.ref) (fun i σ G => ∃ (b : List Str) (wd : Str) (v4 v5 v6 : Option V), σ = [some (.str z), some (.ref l), some (.ref D), some (.str wd), v4, v5, v6] ∧ Same H G ∧ G D = some (.lst (b.reverse.map V.str)) ∧ InvO (b, wd) ∧ placeO z.length ([zE], zS) cs = placeO z.length (b, wd) (cs.drop i))
      ⟨[zE], zS, none, none, none, rfl, s1, f1, inv_start, rfl⟩ (fun i σ G _ h => ?_) ?_ ?_⟩
    · obtain ⟨_, _, _, _, _, _, sG, _⟩ := h
      exact SqL.of (sG _ _ fl)
    · rintro i x σ G hx ⟨b, wd, v4, v5, v6, rfl, sG, fD, inv, pl⟩
      obtain ⟨⟨ai, zz⟩, a, hk, ha, rfl, at_⟩ := paired_at pr hx
      have zzl := tl _ (List.mem_of_getElem? hk)
      have ht : SqT K G a [.int (ai : Int), .str zz] := at_.on sG
      have ed : cs.drop i = (ai, zz) :: cs.drop (i + 1) := by
        obtain ⟨lt, e⟩ := List.getElem?_eq_some_iff.mp hk
        rw [List.drop_eq_getElem_cons lt, e]
      rw [ed, place_next] at pl
      refine ⟨a, _, rfl, ht, rfl, _, _, rfl, _, _, rfl, rfl, ?_⟩
      refine st1 (σ' := [some (.str z), some (.ref l), some (.ref D), some (.str wd), some (.int (ai : Int)), some (.str zz), v6]) rfl ?_
      refine ⟨_, rfl, _, rfl, _, rfl, D, _, rfl, .inl (SqL.of fD), _, _, rfl, rfl, zz, b, wd, congrArg (fun n : Nat => [V.str zz, V.str wd, V.int ((n : Int) - 1)]) (by rw [List.length_map, List.length_reverse] : (b.reverse.map V.str).length = b.length), inv, zzl, fun G1 g1 => ⟨_, rfl, ?_⟩⟩
      have sG1 := sG.trans g1
      have fD1 := g1 _ _ fD
      cases qs : stepZ (b, wd) zz with
      | none =>
        rw [qs] at pl
        refine if_yes rfl ?_
        exact ⟨_, rfl, len1 _, fun x hx => mk_rs (hp.bad ai pl G1 sG1) x hx⟩
      | some s2 =>
      rw [qs] at pl
      refine if_no rfl ?_
      obtain ⟨k, qk, st⟩ : ∃ k, tkOf zz = some k ∧ stepO (b, wd) k = some s2 := by
        unfold stepZ at qs
        cases qk : tkOf zz with
        | none =>
          rw [qk] at qs
          cases qs
        | some k =>
          rw [qk] at qs
          exact ⟨k, rfl, qs⟩
      obtain ⟨ok, rfl⟩ := tkOf_some qk
      have inv2 := inv_step inv st
      have pl2 : placeO z.length ([zE], zS) cs = placeO z.length s2 (cs.drop (i + 1)) := pl
      have nDH : H D = none := nD
      rcases stepO_cases st with ⟨rfl, ⟨rfl, le, rfl⟩ | ⟨rfl, rfl⟩ | ⟨x, r, rfl, n1, n2, rfl⟩⟩ | ⟨rfl, x, r, rfl, n1, rfl⟩ | ⟨rfl, x, y, r, rfl, n1, n2, rfl⟩
      · refine ⟨_, rfl, rfl, _, rfl, if_yes (decide_eq_true rfl) ?_⟩
        refine ⟨_, rfl, .inl ⟨rfl, _, SqL.of fD1⟩, D, _, _, rfl, rfl, fD1, by rw [List.length_map, List.length_reverse, sizeLine_eq]; omega, ?_⟩
        refine tail_yes (k := .opn) (.inr rfl) fun G' g' => ?_
        refine ⟨zG :: b, zS, _, _, _, rfl, (same_new nDH sG1).trans g', ?_, inv2, pl2⟩
        rw [rev_cons]
        exact g' _ _ upd_same
      · refine ⟨_, rfl, rfl, _, rfl, if_no (not_opn ok nofun) ?_⟩
        refine ⟨_, rfl, rfl, _, rfl, if_no (by decide) ?_⟩
        refine ⟨_, rfl, rfl, _, rfl, if_no (by decide) ?_⟩
        refine tail_yes (k := .neg) (.inr rfl) fun G' g' => ?_
        exact ⟨b, zS, _, _, _, rfl, sG1.trans g', g' _ _ fD1, inv2, pl2⟩
      · refine ⟨_, rfl, rfl, _, rfl, if_no (not_opn ok n1) ?_⟩
        refine ⟨_, rfl, rfl, _, rfl, if_no (by decide) ?_⟩
        refine ⟨_, rfl, rfl, _, rfl, if_no (by decide) ?_⟩
        refine tail_no (by decide) (in_open ok n1 n2) fD1 fun G' g' => ?_
        exact ⟨x :: r, x, _, _, _, rfl, sG1.trans g', g' _ _ fD1, inv2, pl2⟩
      · refine ⟨_, rfl, rfl, _, rfl, if_no (not_opn ok n1) ?_⟩
        refine ⟨_, rfl, rfl, _, rfl, if_yes (decide_eq_true rfl) ?_⟩
        rw [rev_cons] at fD1
        refine ⟨_, rfl, _, rfl, D, _, _, _, rfl, rfl, fD1, last_ix, ?_⟩
        refine tail_yes (.inl rfl) fun G' g' => ?_
        refine ⟨zC :: r, zS, _, _, _, rfl, (same_new nDH sG1).trans g', ?_, inv2, pl2⟩
        rw [rev_cons]
        have e : (r.reverse.map V.str ++ [V.str x]).set (r.reverse.map V.str).length (V.str "close") = r.reverse.map V.str ++ [V.str zC] := by
          rw [List.set_append_right _ _ (Nat.le_refl _), Nat.sub_self]
          rfl
        rw [← e]
        exact g' _ _ upd_same
      · refine ⟨_, rfl, rfl, _, rfl, if_no (not_opn ok n1) ?_⟩
        refine ⟨_, rfl, rfl, _, rfl, if_no (by decide) ?_⟩
        refine ⟨_, rfl, rfl, _, rfl, if_yes (decide_eq_true rfl) ?_⟩
        rw [rev_cons] at fD1
        refine ⟨_, rfl, .inl ⟨rfl, _, SqL.of fD1⟩, D, _, V.str x, rfl, rfl, fD1, by simp, ?_⟩
        have e : (((y :: r).reverse.map V.str) ++ [V.str x]).dropLast = (y :: r).reverse.map V.str := List.dropLast_concat
        refine tail_no (x := y) (r := r) (by decide) (in_open ok n1 n2) (upd_same.trans (by rw [e])) fun G' g' => ?_
        exact ⟨y :: r, y, _, _, _, rfl, (same_new nDH sG1).trans g', g' _ _ (upd_same.trans (by rw [e])), inv2, pl2⟩
    · rintro σ G ⟨b, wd, v4, v5, v6, rfl, sG, fD, inv, pl⟩
      have la := Paired.length pr
      rw [List.length_map, ← la, List.drop_length] at pl
      have pe : placeO z.length (b, wd) [] = if wd = "end" then none else some z.length := rfl
      rw [pe] at pl
      by_cases we : wd = "end"
      · rw [if_pos we] at pl
        exact ⟨_, rfl, rfl, _, rfl, if_no (congrArg (!·) (decide_eq_true (by rw [we]))) (hp.fit pl G sG)⟩
      · rw [if_neg we] at pl
        refine ⟨_, rfl, rfl, _, rfl, if_yes (congrArg (!·) (decide_eq_false fun e => we (by injection e))) ?_⟩
        exact ⟨_, rfl, z, rfl, zs, len1 _, fun x hx => mk_rs (hp.bad z.length pl G sG) x hx⟩
end
end G1
set_option maxHeartbeats 8000000
namespace G1
open PySem PySem.Spec PyProof.Rows L2 SY TXS OW
def leafT : Tk → Option Sy
  | .lt c => some (.nm c) | .zero => some .nev | .one => some .alw | _ => none
def spAlone (K : PySem.W.Frag) (C : Addr) : Sp := fun vs H Q _ => ∃ (k : Tk) (t : Sy), vs = [.str k.str] ∧ k.ok ∧ leafT k = some t ∧ ∀ e H', Same H H' → SayAt K C H' t e → Q (.ref e) H'
theorem one_ne {c : Nat} {x : Str} {d : Nat} (h : x.cps.toList = [d]) (n : c ≠ d) : decide (V.str (SY.one c) = V.str x) = false := decide_eq_false fun e => by
  injection e with e
  have q := congrArg (fun s : Str => s.cps.toList) e
  have q2 : [c] = x.cps.toList := q
  rw [h] at q2
  exact n (List.cons.inj q2).1
section
variable {P : Program} {w : World} {K : PySem.W.Frag} {mg : Str → Option Value} {base : Heap} {C CL CN : Addr}
theorem scAlone : FnScope ["word"] ["word"] (defScope sAlone) := ⟨rfl, rfl, rfl, by decide +kernel, rfl, by decide +kernel, by decide +kernel⟩
theorem cl_alone (D : DefAt K mg "_alone" sAlone) (cNm : Cl (L2.CX P w) P w K mg base 6 "named" ["name"] (spNamed K C CL CN)) (cNv : Cl (L2.CX P w) P w K mg base 6 "never" [] (spNever K C CL)) (cAw : Cl (L2.CX P w) P w K mg base 6 "always" [] (spAlways K C CL)) :
    Cl CX0 P w K mg base 7 "_alone" ["word"] (spAlone K C) := by
  obtain ⟨f, fd, F, hm⟩ := D
  obtain ⟨fv, gv, Fv, hv, kv, bv, _⟩ := cNv.ex
  obtain ⟨fw, gw, Fw, hw, kw, bw, _⟩ := cAw.ex
  refine cl_of F hm (F.ok scAlone (fun vs H Q E h => ?_) (fun cdv A outer s H vs Q E hr h => ⟨_, PSs.nox (pss_cons
      (ps_if (pt_cmpR op_eq (pv 0) pe_str (nomark _)) (pss_one (ps_ret (pe_call0 (E := E0) Fv (hr.mono (by decide)) (by rfl) hv kv bv .nil passL))) pss_nil)
      (pss_cons (ps_if (pt_cmpR op_eq (pv 0) pe_str (nomark _)) (pss_one (ps_ret (pe_call0 (E := E0) Fw (hr.mono (by decide)) (by rfl) hw kw bw .nil passL))) pss_nil)
      (pss_one (ps_ret (pe_cX cNm hr (by decide) (by rfl) (pa_cons (pv 0) pa_nil)))))), ?_⟩)) fun _ _ _ _ _ _ us hl => match us, hl with | [_], _ => rfl
  · obtain ⟨k, t, rfl, _⟩ := h
    rfl
  · obtain ⟨k, t, rfl, ok, lf, q⟩ := h
    have small : ∀ (t : Sy) (G : Hp), Same H G → t.size ≤ 200 → (∀ e G', Same H G' → SayAt K C G' t e → Q (.ref e) G') → New K C CL t G Q E0 := fun t G sG sz go =>
      ⟨fun big => absurd sz (Nat.not_le.mpr big), fun _ e G' s' _ y' => go e G' (sG.trans s') y'⟩
    cases k with
    | lt c =>
      cases lf
      have ok' : 97 ≤ c ∧ c ≤ 122 := ok
      refine ⟨_, rfl, rfl, _, rfl, if_no (one_ne (d := 48) (by decide) (by omega)) ?_⟩
      refine ⟨_, rfl, rfl, _, rfl, if_no (one_ne (d := 49) (by decide) (by omega)) ?_⟩
      exact ⟨_, rfl, _, rfl, ⟨.inl ⟨c, rfl, ok, small _ _ (Same.refl _) (by show 1 ≤ 200; decide) q⟩⟩⟩
    | zero =>
      cases lf
      exact ⟨_, rfl, rfl, _, rfl, if_yes (decide_eq_true rfl) ⟨rfl, small _ _ (Same.refl _) (by decide) q⟩⟩
    | one =>
      cases lf
      refine ⟨_, rfl, rfl, _, rfl, if_no (by decide) ?_⟩
      exact ⟨_, rfl, rfl, _, rfl, if_yes (decide_eq_true rfl) ⟨rfl, small _ _ (Same.refl _) (by decide) q⟩⟩
    | _ => cases lf
end
end G1
set_option maxHeartbeats 16000000
namespace G1
open PySem PySem.Spec PyProof.Rows L2 SY TXS OW
def spBuiltT (K : PySem.W.Frag) (C : Addr) : Sp := fun vs H Q _ => ∃ (l : Addr) (t : Sy), vs = [.ref l] ∧ H l = some (.lst (t.toks.map fun k => V.str k.str)) ∧ t.ok ∧ t.size ≤ 200 ∧ ∀ e H', Same H H' → SayAt K C H' t e → Q (.ref e) H'
theorem made_sq {K : PySem.W.Frag} {C CL : Addr} {G : Hp} {x dx p : Addr} {t : Sy} {bs : List Addr} {Q : VK} {E : XK} (hx : G x = none) (hd : G dx = none) (hp : SqT K G p (bs.map V.ref)) (hb : Paired (SayAt K C G) t.subs bs) (ok : t.ok)
    (big : 200 < t.size → Rs "size" CL G (.int t.size) E) (fit : t.size ≤ 200 → ∀ H', Same G H' → SayAt K C H' t x → Q .non H') :
    spInitS K C CL [.ref x, .str t.kind, .ref p, t.letter] (upd (upd G dx (.own x)) x (.ins C dx [])) Q E :=
  ⟨x, dx, p, G, t, bs, rfl, upd_same, same_new hx (same_new hd (Same.refl _)), hx, hp, hb, ok, big, fun sz H' s h => fit sz H' s h⟩
theorem tk_inj {k k' : Tk} (o : k.ok) (o' : k'.ok) (h : k.codes = k'.codes) : k = k' := by
  rcases k with c | _ | _ | _ | _ | _ | kb <;> rcases k' with c' | _ | _ | _ | _ | _ | kb' <;> (try cases kb) <;> (try cases kb') <;> first
    | rfl
    | (cases h; done)
    | (exfalso; have o2 : 97 ≤ _ ∧ _ ≤ 122 := o; have e := (List.cons.inj h).1; omega)
    | (exfalso; have o2 : 97 ≤ _ ∧ _ ≤ 122 := o'; have e := (List.cons.inj h).1; omega)
    | (have e := (List.cons.inj h).1; rw [e])
    | skip
theorem tk_ne {k k' : Tk} {x : Str} (o : k.ok) (o' : k'.ok) (hx : x = k'.str) (n : k ≠ k') : decide (V.str k.str = V.str x) = false := decide_eq_false fun e => n (by
  injection e with e
  rw [hx] at e
  have q : k.str.cps.toList = k'.str.cps.toList := congrArg (fun s : Str => s.cps.toList) e
  rw [k.str_codes, k'.str_codes] at q
  exact tk_inj o o' q)
theorem runB_step {ks : List Tk} {x y : List Sy × List Bk} {i : Nat} {k : Tk} (h : runB (ks.drop (ks.length - i)) x = some y) (hi : i < ks.length) (hk : ks[ks.length - 1 - i]? = some k) : runB (ks.drop (ks.length - (i + 1))) x = stepB k y := by
  have e : ks.drop (ks.length - (i + 1)) = k :: ks.drop (ks.length - i) := by
    obtain ⟨lt, e⟩ := List.getElem?_eq_some_iff.mp hk
    have a : ks.length - (i + 1) = ks.length - 1 - i := by omega
    have b : ks.length - i = ks.length - 1 - i + 1 := by omega
    rw [a, b, List.drop_eq_getElem_cons lt, e]
  rw [e]
  show (runB (ks.drop (ks.length - i)) x).bind (stepB k) = _
  rw [h]
  rfl
theorem toks_len3 : ∀ t : Sy, t.toks.length + 2 ≤ 3 * t.size
  | .nm _ => Nat.le_refl _
  | .nev => Nat.le_refl _
  | .alw => Nat.le_refl _
  | .den a => by
    have h := toks_len3 a
    show (Tk.neg :: a.toks).length + 2 ≤ 3 * (a.size + 1)
    rw [List.length_cons]
    omega
  | .bin k t u => by
    have h1 := toks_len3 t
    have h2 := toks_len3 u
    show (Tk.opn :: (t.toks ++ .sg k :: (u.toks ++ [.cls]))).length + 2 ≤ 3 * (t.size + u.size + 1)
    rw [List.length_cons, List.length_append, List.length_cons, List.length_append]
    show t.toks.length + (u.toks.length + 1 + 1) + 1 + 2 ≤ _
    omega
theorem len_sum : ∀ ss : List Sy, ss.length ≤ (ss.map Sy.size).sum
  | [] => Nat.le_refl _
  | t :: ss => by
    have h := len_sum ss
    have p := t.size_pos
    rw [List.map_cons, List.sum_cons, List.length_cons]
    omega
theorem rev_refs (a : Addr) (r : List Addr) : (a :: r).reverse.map V.ref = r.reverse.map V.ref ++ [.ref a] := by
  rw [List.reverse_cons, List.map_append]
  rfl
theorem rev_signs (k : Bk) (r : List Bk) : ((k :: r).reverse.map fun k => V.str k.sign) = (r.reverse.map fun k => V.str k.sign) ++ [.str k.sign] := by
  rw [List.reverse_cons, List.map_append]
  rfl
section
variable {P : Program} {w : World} {K : PySem.W.Frag} {mg : Str → Option Value} {base : Heap} {C CL CN : Addr}
abbrev nBuiltT : List Str := ["words", "sayings", "signs", "word", "piece", "first", "second"]
theorem scBuiltT : FnScope nBuiltT ["words"] (defScope sBuilt) := ⟨rfl, rfl, rfl, by decide +kernel, rfl, by decide +kernel, by decide +kernel⟩
theorem cl_builtT (D : DefAt K mg "_built" sBuilt) (T : SayTxt K w mg C) (B : Blt mg) (M : Maker P w K mg base C CL) (KS : Kinds K w mg) (cA : Cl CX0 P w K mg base 7 "_alone" ["word"] (spAlone K C)) : Cl CX0 P w K mg base 8 "_built" ["words"] (spBuiltT K C) := by
  obtain ⟨f, fd, F, hm⟩ := D
  obtain ⟨fI, fdI, e0, d1, d2, MM, FI, h0, b0, b1, v1, b2, v2⟩ := M.ex
  obtain ⟨f6, g6, M6, F6, b6⟩ := ok_den T M
  obtain ⟨d, gK, low, kd, off⟩ := KS.ex
  refine cl_of F hm (F.ok scBuiltT (fun vs H Q E h => ?_) (fun cdv A outer s H vs Q E hr h => ⟨_, PSs.nox (pss_cons (ps_set (i := 1) scBuiltT.nd rfl (Or.inl rfl) (pe_lst pa_nil))
      (pss_cons (ps_set (i := 2) scBuiltT.nd rfl (Or.inl rfl) (pe_lst pa_nil))
      (pss_cons (ps_for PassesOwn.never rfl (pi_reversed (by rfl) B.rev (pa_cons (pv 0) pa_nil)) (pg_name (i := 3) scBuiltT.nd rfl (Or.inl rfl))
        (pss_one (ps_if (pt_cmpR op_in_kt (pv 3) (pe_glob (v := .ref d) rfl gK rfl) (by rfl)) (pss_one (ps_expr (pe_bm PySem.F.plainAttrs_list PySem.F.slot_list_append PySem.F.type_list_append mt_append (pv 2) (pa_cons (pv 3) pa_nil)))) (pss_one (ps_if (pt_cmpR op_eq (pv 3) pe_str (nomark _)) (pss_cons (ps_set (i := 4) scBuiltT.nd rfl (Or.inl rfl) (pe_bm0 PySem.F.plainAttrs_list PySem.F.slot_list_pop PySem.F.type_list_pop mt_pop (pv 1)))
      (pss_one (ps_expr (pe_bm PySem.F.plainAttrs_list PySem.F.slot_list_append PySem.F.type_list_append mt_append (pv 1) (pa_cons (pe_meth0 (E := E0) (pv 4) T.cl M6 F6 (hr.mono (by decide)) b6 .nil passL) pa_nil))))) (pss_one (ps_if (pt_cmpR op_eq (pv 3) pe_str (nomark _)) (pss_cons (ps_set (i := 5) scBuiltT.nd rfl (Or.inl rfl) (pe_bm0 PySem.F.plainAttrs_list PySem.F.slot_list_pop PySem.F.type_list_pop mt_pop (pv 1)))
      (pss_cons (ps_set (i := 6) scBuiltT.nd rfl (Or.inl rfl) (pe_bm0 PySem.F.plainAttrs_list PySem.F.slot_list_pop PySem.F.type_list_pop mt_pop (pv 1)))
      (pss_one (ps_expr (pe_bm PySem.F.plainAttrs_list PySem.F.slot_list_append PySem.F.type_list_append mt_append (pv 1) (pa_cons (pe_make (E := E0) MM FI (hr.mono (by decide)) (by rfl) T.gC b1 v1 passL (pa_cons (pe_ix ix_kdict (pe_glob (v := .ref d) rfl gK rfl) (pe_bm0 PySem.F.plainAttrs_list PySem.F.slot_list_pop PySem.F.type_list_pop mt_pop (pv 2)) (fun _ _ => rfl)) (pa_cons (pe_tup (pa_cons (pv 5) (pa_cons (pv 6) pa_nil))) pa_nil))) pa_nil)))))) (pss_one (ps_if (pt_cmpR op_ne (pv 3) pe_str (nomark _)) (pss_one (ps_expr (pe_bm PySem.F.plainAttrs_list PySem.F.slot_list_append PySem.F.type_list_append mt_append (pv 1) (pa_cons (pe_c0 cA hr (by decide) (by rfl) (pa_cons (pv 3) pa_nil)) pa_nil)))) pss_nil)))))))))
      (pss_one (ps_ret (pe_ix ix_list (pv 1) pe_int (fun _ _ => rfl))))))), ?_⟩)) fun _ _ _ _ _ _ us hl => match us, hl with | [_], _ => rfl
  · obtain ⟨l, t, rfl, _⟩ := h
    rfl
  · obtain ⟨l, t, rfl, fl, ok, sz, q⟩ := h
    refine ⟨(by show 0 ≤ sizeLine; decide), fun D1 n1 => ?_⟩
    obtain ⟨H1, e1, s1, f1⟩ := mk_s (.lst []) n1
    rw [e1]
    refine gn1 (σ' := [some (.ref l), some (.ref D1), none, none, none, none, none]) rfl ?_
    refine ⟨(by show 0 ≤ sizeLine; decide), fun D2 n2 => ?_⟩
    obtain ⟨H2, e2, s2, f2⟩ := mk_s (.lst []) n2
    rw [e2]
    refine gn1 (σ' := [some (.ref l), some (.ref D1), some (.ref D2), none, none, none, none]) rfl ?_
    have nD1 : H D1 = none := n1
    have nD2 : H D2 = none := s1.free n2
    have ne : D1 ≠ D2 := ne_of_none f1 n2
    have oks := toks_ok ok
    have all := toks_built t [] []
    obtain ⟨ks, hks⟩ : ∃ ks, t.toks = ks := ⟨_, rfl⟩
    rw [hks] at fl oks all
    have few : ks.length ≤ 1000 := by
      have := toks_len3 t
      rw [hks] at this
      omega
    have dict : ∃ es n, K.lookup d = some ⟨.type "dict", none, .dict es n, #[]⟩ ∧ PySem.W.KeysLit w.params es.toList := by
      obtain ⟨es, n, _, h1, h2, _⟩ := kd .both
      exact ⟨es, n, h1, h2⟩
    have szt : szB ([t], []) = t.size := by show t.size + 0 + 0 = t.size; omega
    refine ⟨_, rfl, l, _, rfl, SqL.of (s2 _ _ (s1 _ _ fl)), ?_⟩
    refine for_it (walk_rev (K := K) (a := l) (xs := ks.map fun k => V.str k.str)) (fun i σ G => ∃ (ss : List Sy) (g : List Bk) (as : List Addr) (v3 v4 v5 v6 : Option V), σ = [some (.ref l), some (.ref D1), some (.ref D2), v3, v4, v5, v6] ∧ Same H G ∧
      G D1 = some (.lst (as.reverse.map V.ref)) ∧ G D2 = some (.lst (g.reverse.map fun k => V.str k.sign)) ∧ Paired (SayAt K C G) ss as ∧ (∀ u ∈ ss, u.ok) ∧ runB (ks.drop (ks.length - i)) ([], []) = some (ss, g))
      ⟨[], [], [], none, none, none, none, rfl, s1.trans s2, s2 _ _ f1, f2, .nil, (fun _ z => (List.not_mem_nil z).elim), by rw [Nat.sub_zero, List.drop_length]; rfl⟩ (fun i σ G _ h => ?_) ?_ ?_
    · obtain ⟨_, _, _, _, _, _, _, _, sG, _⟩ := h
      exact SqL.of (sG _ _ fl)
    · rintro i x σ G0 G hi ⟨ss, g, as, v3, v4, v5, v6, rfl, sG, fd1, fd2, pr, os, rn⟩ ⟨rfl, hx⟩
      rw [List.length_map] at hi hx
      rw [List.getElem?_map] at hx
      obtain ⟨k, hk, rfl⟩ := Option.map_eq_some_iff.mp hx
      have okk := oks k (List.mem_of_getElem? hk)
      have st := runB_step rn hi hk
      obtain ⟨y, hy⟩ := runB_drop all (ks.length - (i + 1)) (by omega)
      have big := runB_sz all hy
      rw [st] at hy
      rw [hy] at st
      have las := Paired.length pr
      have low1 := runB_sz all rn
      have lss := len_sum ss
      have low2 : (ss.map Sy.size).sum + g.length ≤ t.size := by rw [← szt]; exact low1
      refine gn1 (σ' := [some (.ref l), some (.ref D1), some (.ref D2), some (.str k.str), v4, v5, v6]) rfl ?_
      cases k with
      | sg kk =>
        have e := Option.some.inj hy
        obtain ⟨es, n, u, at_, lit, ns, _⟩ := kd kk
        refine ⟨_, rfl, _, d, some u, rfl, rfl, low, ⟨es, n, at_, lit⟩, ns, _, rfl, if_yes rfl ?_⟩
        refine ⟨_, rfl, .inl ⟨rfl, _, SqL.of fd2⟩, _, rfl, D2, _, _, rfl, rfl, fd2, by rw [List.length_map, List.length_reverse, sizeLine_eq]; omega, ?_⟩
        refine ⟨ss, kk :: g, as, _, _, _, _, rfl, same_new nD2 sG, (upd_ne ne).trans fd1, by rw [upd_same, rev_signs]; rfl, says_but fd2 upd_but pr, os, ?_⟩
        rw [st, ← e]
      | neg =>
        cases ss with
        | nil => cases hy
        | cons t1 ss1 =>
        cases pr with
        | cons r1 pr1 =>
        rename_i a as1
        have l1 : as1.length ≤ 1000 := by
          have z1 := las
          have z2 := lss
          rw [List.length_cons, List.length_cons] at z1
          rw [List.length_cons] at z2
          omega
        have e := Option.some.inj hy
        rw [← e] at big st
        have big1 : t1.size + 1 ≤ 200 := by
          have b2 : ((Sy.den t1 :: ss1).map Sy.size).sum + g.length ≤ t.size := by rw [← szt]; exact big
          rw [List.map_cons, List.sum_cons] at b2
          have b3 : (Sy.den t1).size = t1.size + 1 := rfl
          omega
        refine ⟨_, rfl, _, d, none, rfl, rfl, low, dict, off _ okk nofun, _, rfl, if_no rfl ?_⟩
        refine ⟨_, rfl, rfl, _, rfl, if_yes (decide_eq_true rfl) ?_⟩
        rw [rev_refs] at fd1
        refine ⟨_, rfl, .inl ⟨rfl, _, SqL.of fd1⟩, D1, _, V.ref a, rfl, rfl, fd1, by simp, ?_⟩
        obtain ⟨G1, e5, b5, f5⟩ : ∃ G1, upd G D1 (.lst (as1.reverse.map V.ref ++ [V.ref a]).dropLast) = G1 ∧ But D1 G G1 ∧ G1 D1 = some (.lst (as1.reverse.map V.ref)) := ⟨_, rfl, upd_but, upd_same.trans (by rw [List.dropLast_concat])⟩
        rw [e5]
        refine gn1 (σ' := [some (.ref l), some (.ref D1), some (.ref D2), some (.str Tk.neg.str), some (.ref a), v5, v6]) rfl ?_
        have r2 := SayAt.but fd1 b5 r1
        have pr2 := says_but fd1 b5 pr1
        have g2' := b5 _ _ ne.symm fd2
        have sG1 : Same H G1 := fun b o z' => b5 b o (ne_of_none z' nD1) (sG b o z')
        obtain ⟨dx, _, _, ii, _⟩ := id r2.face.ex
        refine ⟨_, rfl, .inl ⟨rfl, _, SqL.of f5⟩, _, rfl, a, dx, _, rfl, ii, rfl, a, t1, rfl, r2, os _ List.mem_cons_self, ⟨fun bg => absurd bg (by show ¬ 200 < t1.size + 1; omega), fun _ c G2 g2 _ y2 => ?_⟩⟩
        have f6 := g2 _ _ f5
        refine ⟨D1, _, _, rfl, rfl, f6, by rw [List.length_map, List.length_reverse, sizeLine_eq]; omega, ?_⟩
        refine ⟨.den t1 :: ss1, g, c :: as1, _, _, _, _, rfl, same_new nD1 (sG1.trans g2), by rw [upd_same, rev_refs], (upd_ne ne.symm).trans (g2 _ _ g2'), .cons (SayAt.but f6 upd_but y2) (says_but f6 upd_but (paired_on g2 pr2)), ?_, st⟩
        intro u hu
        rcases List.mem_cons.mp hu with z | z
        · rw [z]
          exact os t1 List.mem_cons_self
        · exact os u (List.mem_cons_of_mem _ z)
      | opn =>
        rcases ss with _ | ⟨t1, _ | ⟨t2, ss1⟩⟩
        · cases hy
        · cases g <;> cases hy
        cases g with
        | nil => cases hy
        | cons kk g1 =>
        cases pr with
        | cons r1 pr1 =>
        cases pr1 with
        | cons r2 pr1 =>
        rename_i a b as1
        have l1 : as1.length ≤ 1000 := by
          have z1 := las
          have z2 := lss
          rw [List.length_cons, List.length_cons, List.length_cons, List.length_cons] at z1
          rw [List.length_cons, List.length_cons] at z2
          omega
        have e := Option.some.inj hy
        rw [← e] at big st
        have big1 : t1.size + t2.size + 1 ≤ 200 := by
          have b2 : ((Sy.bin kk t1 t2 :: ss1).map Sy.size).sum + g1.length ≤ t.size := by rw [← szt]; exact big
          rw [List.map_cons, List.sum_cons] at b2
          have b3 : (Sy.bin kk t1 t2).size = t1.size + t2.size + 1 := rfl
          omega
        have ok1 := os t1 List.mem_cons_self
        have ok2 := os t2 (List.mem_cons_of_mem _ List.mem_cons_self)
        refine ⟨_, rfl, _, d, none, rfl, rfl, low, dict, off _ okk nofun, _, rfl, if_no rfl ?_⟩
        refine ⟨_, rfl, rfl, _, rfl, if_no (by decide) ?_⟩
        refine ⟨_, rfl, rfl, _, rfl, if_yes (decide_eq_true rfl) ?_⟩
        rw [rev_refs] at fd1
        refine ⟨_, rfl, .inl ⟨rfl, _, SqL.of fd1⟩, D1, _, V.ref a, rfl, rfl, fd1, by simp, ?_⟩
        obtain ⟨G1, e5, b5, f5⟩ : ∃ G1, upd G D1 (.lst ((b :: as1).reverse.map V.ref ++ [V.ref a]).dropLast) = G1 ∧ But D1 G G1 ∧ G1 D1 = some (.lst ((b :: as1).reverse.map V.ref)) := ⟨_, rfl, upd_but, upd_same.trans (by rw [List.dropLast_concat])⟩
        rw [e5]
        refine gn1 (σ' := [some (.ref l), some (.ref D1), some (.ref D2), some (.str Tk.opn.str), v4, some (.ref a), v6]) rfl ?_
        rw [rev_refs] at f5
        refine ⟨_, rfl, .inl ⟨rfl, _, SqL.of f5⟩, D1, _, V.ref b, rfl, rfl, f5, by simp, ?_⟩
        obtain ⟨G2, e6, b6', f6'⟩ : ∃ G2, upd G1 D1 (.lst (as1.reverse.map V.ref ++ [V.ref b]).dropLast) = G2 ∧ But D1 G1 G2 ∧ G2 D1 = some (.lst (as1.reverse.map V.ref)) := ⟨_, rfl, upd_but, upd_same.trans (by rw [List.dropLast_concat])⟩
        rw [e6]
        refine gn1 (σ' := [some (.ref l), some (.ref D1), some (.ref D2), some (.str Tk.opn.str), v4, some (.ref a), some (.ref b)]) rfl ?_
        have fd2' := b6' _ _ ne.symm (b5 _ _ ne.symm fd2)
        rw [rev_signs] at fd2'
        refine ⟨_, rfl, .inl ⟨rfl, _, SqL.of f6'⟩, _, rfl, .inl ⟨rfl, _, SqL.of fd2'⟩, D2, _, V.str kk.sign, rfl, rfl, fd2', by simp, ?_⟩
        obtain ⟨G3, e7, b7, f7'⟩ : ∃ G3, upd G2 D2 (.lst ((g1.reverse.map fun k => V.str k.sign) ++ [V.str kk.sign]).dropLast) = G3 ∧ But D2 G2 G3 ∧ G3 D2 = some (.lst (g1.reverse.map fun k => V.str k.sign)) := ⟨_, rfl, upd_but, upd_same.trans (by rw [List.dropLast_concat])⟩
        rw [e7]
        have x1 := SayAt.but fd2' b7 (SayAt.but f5 b6' (SayAt.but fd1 b5 r1))
        have x2 := SayAt.but fd2' b7 (SayAt.but f5 b6' (SayAt.but fd1 b5 r2))
        have xs := says_but fd2' b7 (says_but f5 b6' (says_but fd1 b5 pr1))
        have f8 := b7 _ _ ne f6'
        have sG3 : Same H G3 := fun b' o z' => b7 b' o (ne_of_none z' nD2) (b6' b' o (ne_of_none z' nD1) (b5 b' o (ne_of_none z' nD1) (sG b' o z')))
        refine ⟨d, _, _, rfl, rfl, kd kk, _, rfl, _, rfl, (by show 2 ≤ sizeLine; decide), fun p1 np => ?_⟩
        obtain ⟨G4, e8, s8, f8'⟩ := mk_s (.tup [.ref a, .ref b]) np
        rw [e8]
        intro x dx hx hdx nx
        refine made_sq (t := .bin kk t1 t2) (bs := [a, b]) hx hdx (SqT.of f8') (.cons (x1.on s8) (.cons (x2.on s8) .nil)) ⟨ok1, ok2⟩ (fun bg => absurd bg (by show ¬ 200 < t1.size + t2.size + 1; omega)) fun _ G5 s9 y5 => ⟨rfl, ?_⟩
        have s89 := s8.trans s9
        have f9 := s89 _ _ f8
        refine ⟨D1, _, _, rfl, rfl, f9, by rw [List.length_map, List.length_reverse, sizeLine_eq]; omega, ?_⟩
        refine ⟨.bin kk t1 t2 :: ss1, g1, x :: as1, _, _, _, _, rfl, same_new nD1 (sG3.trans s89), by rw [upd_same, rev_refs], (upd_ne ne.symm).trans (s89 _ _ f7'), .cons (SayAt.but f9 upd_but y5) (says_but f9 upd_but (paired_on s89 xs)), ?_, st⟩
        intro u hu
        rcases List.mem_cons.mp hu with z | z
        · rw [z]
          exact ⟨ok1, ok2⟩
        · exact os u (List.mem_cons_of_mem _ (List.mem_cons_of_mem _ z))
      | cls =>
        have e := Option.some.inj hy
        rw [← e] at st
        refine ⟨_, rfl, _, d, none, rfl, rfl, low, dict, off _ okk nofun, _, rfl, if_no rfl ?_⟩
        refine ⟨_, rfl, rfl, _, rfl, if_no (by decide) ?_⟩
        refine ⟨_, rfl, rfl, _, rfl, if_no (by decide) ?_⟩
        refine ⟨_, rfl, rfl, _, rfl, if_no (by decide) ?_⟩
        exact ⟨ss, g, as, _, _, _, _, rfl, sG, fd1, fd2, pr, os, st⟩
      | lt c =>
        have e := Option.some.inj hy
        rw [← e] at st
        refine ⟨_, rfl, _, d, none, rfl, rfl, low, dict, off _ okk nofun, _, rfl, if_no rfl ?_⟩
        refine ⟨_, rfl, rfl, _, rfl, if_no (tk_ne okk (k' := .neg) trivial rfl nofun) ?_⟩
        refine ⟨_, rfl, rfl, _, rfl, if_no (tk_ne okk (k' := .opn) trivial rfl nofun) ?_⟩
        refine ⟨_, rfl, rfl, _, rfl, if_yes (congrArg (!·) (tk_ne okk (k' := .cls) trivial rfl nofun)) ?_⟩
        refine ⟨_, rfl, .inl ⟨rfl, _, SqL.of fd1⟩, _, rfl, _, _, rfl, okk, rfl, fun ad G2 g2 y2 => ?_⟩
        have f5 := g2 _ _ fd1
        refine ⟨D1, _, _, rfl, rfl, f5, by rw [List.length_map, List.length_reverse, sizeLine_eq]; omega, ?_⟩
        refine ⟨.nm c :: ss, g, ad :: as, _, _, _, _, rfl, same_new nD1 (sG.trans g2), by rw [upd_same, rev_refs], (upd_ne ne.symm).trans (g2 _ _ fd2), .cons (SayAt.but f5 upd_but y2) (says_but f5 upd_but (paired_on g2 pr)), ?_, st⟩
        intro u hu
        rcases List.mem_cons.mp hu with z | z
        · rw [z]
          exact okk
        · exact os u z
      | zero =>
        have e := Option.some.inj hy
        rw [← e] at st
        refine ⟨_, rfl, _, d, none, rfl, rfl, low, dict, off _ okk nofun, _, rfl, if_no rfl ?_⟩
        refine ⟨_, rfl, rfl, _, rfl, if_no (tk_ne okk (k' := .neg) trivial rfl nofun) ?_⟩
        refine ⟨_, rfl, rfl, _, rfl, if_no (tk_ne okk (k' := .opn) trivial rfl nofun) ?_⟩
        refine ⟨_, rfl, rfl, _, rfl, if_yes (congrArg (!·) (tk_ne okk (k' := .cls) trivial rfl nofun)) ?_⟩
        refine ⟨_, rfl, .inl ⟨rfl, _, SqL.of fd1⟩, _, rfl, _, _, rfl, okk, rfl, fun ad G2 g2 y2 => ?_⟩
        have f5 := g2 _ _ fd1
        refine ⟨D1, _, _, rfl, rfl, f5, by rw [List.length_map, List.length_reverse, sizeLine_eq]; omega, ?_⟩
        refine ⟨.nev :: ss, g, ad :: as, _, _, _, _, rfl, same_new nD1 (sG.trans g2), by rw [upd_same, rev_refs], (upd_ne ne.symm).trans (g2 _ _ fd2), .cons (SayAt.but f5 upd_but y2) (says_but f5 upd_but (paired_on g2 pr)), ?_, st⟩
        intro u hu
        rcases List.mem_cons.mp hu with z | z
        · rw [z]
          exact trivial
        · exact os u z
      | one =>
        have e := Option.some.inj hy
        rw [← e] at st
        refine ⟨_, rfl, _, d, none, rfl, rfl, low, dict, off _ okk nofun, _, rfl, if_no rfl ?_⟩
        refine ⟨_, rfl, rfl, _, rfl, if_no (tk_ne okk (k' := .neg) trivial rfl nofun) ?_⟩
        refine ⟨_, rfl, rfl, _, rfl, if_no (tk_ne okk (k' := .opn) trivial rfl nofun) ?_⟩
        refine ⟨_, rfl, rfl, _, rfl, if_yes (congrArg (!·) (tk_ne okk (k' := .cls) trivial rfl nofun)) ?_⟩
        refine ⟨_, rfl, .inl ⟨rfl, _, SqL.of fd1⟩, _, rfl, _, _, rfl, okk, rfl, fun ad G2 g2 y2 => ?_⟩
        have f5 := g2 _ _ fd1
        refine ⟨D1, _, _, rfl, rfl, f5, by rw [List.length_map, List.length_reverse, sizeLine_eq]; omega, ?_⟩
        refine ⟨.alw :: ss, g, ad :: as, _, _, _, _, rfl, same_new nD1 (sG.trans g2), by rw [upd_same, rev_refs], (upd_ne ne.symm).trans (g2 _ _ fd2), .cons (SayAt.but f5 upd_but y2) (says_but f5 upd_but (paired_on g2 pr)), ?_, st⟩
        intro u hu
        rcases List.mem_cons.mp hu with z | z
        · rw [z]
          exact trivial
        · exact os u z
    · rintro σ G ⟨ss, g, as, v3, v4, v5, v6, rfl, sG, fd1, fd2, pr, os, rn⟩
      rw [List.length_map, Nat.sub_self, List.drop_zero, ← hks] at rn
      rw [hks] at rn
      rw [all] at rn
      have e := Option.some.inj rn
      have e1 : [t] = ss := congrArg Prod.fst e
      rw [← e1] at pr
      cases pr with
      | cons r rs =>
        cases rs
        rename_i a
        exact ⟨_, rfl, D1, _, _, _, rfl, rfl, SqL.of fd1, rfl, q a G sG r⟩
end
end G1
set_option maxHeartbeats 16000000
namespace G1
open PySem PySem.Spec PyProof.Rows L2 SY TXS OW
def spParsed (K : PySem.W.Frag) (C : Addr) : Sp := fun vs H Q _ => ∃ (z : Str) (t : Sy), vs = [.str z] ∧ Reads t.toks z.cps.toList ∧ z.length ≤ 100000 ∧ t.ok ∧ t.size ≤ 200 ∧ t.opens ≤ 60 ∧ ∀ e H', Same H H' → SayAt K C H' t e → Q (.ref e) H'
theorem count_strs (k : Tk) (o : k.ok) : ∀ {ws : List Tk}, (∀ j ∈ ws, j.ok) → (ws.map Tk.str).count k.str = ws.count k
  | [], _ => rfl
  | j :: ws, h => by
    have ih := count_strs k o (ws := ws) fun i hi => h i (List.mem_cons_of_mem _ hi)
    have oj := h j List.mem_cons_self
    rw [List.map_cons, List.count_cons, List.count_cons, ih]
    congr 1
    by_cases e : j = k
    · rw [e]
      simp
    · have ne : j.str ≠ k.str := fun z => e (tk_inj oj o (by
        have q : j.str.cps.toList = k.str.cps.toList := congrArg (fun s : Str => s.cps.toList) z
        rw [j.str_codes, k.str_codes] at q
        exact q))
      rw [beq_eq_false_iff_ne.mpr ne, beq_eq_false_iff_ne.mpr e]
section
variable {P : Program} {w : World} {K : PySem.W.Frag} {mg : Str → Option Value} {base : Heap} {C CL CN : Addr}
abbrev nParsed : List Str := ["text", "tokens", "words", "size", "at", "token"]
theorem scParsed : FnScope nParsed ["text"] (defScope sParsed) := ⟨rfl, rfl, rfl, by decide +kernel, rfl, by decide +kernel, by decide +kernel⟩
theorem cl_parsed (D : DefAt K mg "parsed" sParsed) (B : Blt mg) (G : ∃ t, mg "MOST_NODES" = some (.int 200 t)) (cT : Cl CX0 P w K mg base 3 "_tokens" ["text"] (spTokens K)) (cO : Cl CX0 P w K mg base 3 "_check_order" ["text", "tokens"] (spOrder K)) (cB : Cl CX0 P w K mg base 8 "_built" ["words"] (spBuiltT K C)) :
    Cl CX0 P w K mg base 9 "parsed" ["text"] (spParsed K C) := by
  obtain ⟨f, fd, F, hm⟩ := D
  obtain ⟨tm, gM⟩ := G
  refine cl_of F hm (F.ok scParsed (fun vs H Q E h => ?_) (fun cdv A outer s H vs Q E hr h => ⟨_, PSs.nox (pss_cons (ps_if (pt_not (pt_val (pe_callB call_isi (by rfl) B.isin (by decide +kernel) (pa_cons (pv 0) (pa_cons (pe_bltn (v := .ty "str") (by rfl) B.str (by decide +kernel) rfl) pa_nil))))) (pss_one ps_never) pss_nil)
      (pss_cons (ps_set (i := 1) scParsed.nd rfl (Or.inl rfl) (pe_c0 cT hr (by decide) (by rfl) (pa_cons (pv 0) pa_nil)))
      (pss_cons (ps_expr (pe_c0 cO hr (by decide) (by rfl) (pa_cons (pv 0) (pa_cons (pv 1) pa_nil))))
      (pss_cons (ps_setLc (i := 2) (own := [("at", 4), ("token", 5)]) (g := gTup K 2 (gCons (gName 4) (gCons (gName 5) gNil))) (tt := tYes) (te := tVar 5) (by rfl) scParsed.nd rfl rfl (sw_true rfl rfl rfl (by decide +kernel)) (pi_list (pv 1)) (blkOk_by (N := nParsed) (sc := defScope sParsed) (by decide +kernel))
        (fun _ _ _ _ _ => (pg_tup (by rfl) (pgs_cons (pg_name (i := 4) scParsed.nd rfl (Or.inl rfl)) (pgs_cons (pg_name (i := 5) scParsed.nd rfl (Or.inl rfl)) pgs_nil)))) (fun _ _ _ _ _ => pts_nil) (fun _ _ _ _ _ => pv 5))
      (pss_cons (ps_set (i := 3) scParsed.nd rfl (Or.inl rfl) (pe_op op_sub (pe_op op_sub (pe_callB call_len_seq (by rfl) B.len PySem.boot_len (pa_cons (pv 2) pa_nil)) (pe_bm PySem.F.plainAttrs_list PySem.F.slot_list_count PySem.F.type_list_count mt_cntZ (pv 2) (pa_cons pe_str pa_nil))) (pe_bm PySem.F.plainAttrs_list PySem.F.slot_list_count PySem.F.type_list_count mt_cntZ (pv 2) (pa_cons pe_str pa_nil))))
      (pss_cons (ps_if (pt_cmpR op_gt (pv 3) (pe_glob (v := .int 200) rfl gM ⟨_, rfl⟩) (nomark _)) (pss_one ps_never) pss_nil)
      (pss_one (ps_ret (pe_c0 cB hr (by decide) (by rfl) (pa_cons (pv 2) pa_nil)))))))))), ?_⟩)) fun _ _ _ _ _ _ us hl => match us, hl with | [_], _ => rfl
  · obtain ⟨z, t, rfl, _⟩ := h
    rfl
  · obtain ⟨z, t, rfl, rd, zl, ok, sz, op, q⟩ := h
    have oks := toks_ok ok
    have run := toks_order (t := t) (x := zE) (b := []) (by show 1 + t.opens ≤ 61; omega)
    have tsz := toks_size t
    have tl := toks_len3 t
    refine ⟨_, rfl, .str z, .ty "str", _, _, true, rfl, .ty "str", .base (.str z), kit_ty (r := true) (by decide +kernel), _, rfl, if_no rfl ?_⟩
    refine ⟨_, rfl, z, t.toks, rfl, rd, zl, fun l as H1 s1 nl fl pr => ?_⟩
    refine gn1 (σ' := [some (.str z), some (.ref l), none, none, none, none]) rfl ?_
    refine ⟨_, rfl, _, rfl, z, l, as, t.toks, rfl, fl, pr, oks, run, fun H2 s2 => ?_⟩
    have fl2 := s2 _ _ fl
    have pr2 := paired_map (fun h => TokAt.on s2 h) pr
    refine ⟨_, rfl, l, rfl, ⟨_, SqL.of fl2⟩, fun D nD => ?_⟩
    have nDH : H2 D = none := nD
    refine lc_list (K := K) (a := l) (xs := as.map V.ref) (fun i G => Same H2 G ∧ G D = some (.lst ((t.toks.take i).map fun k => V.str k.str))) ⟨same_new nDH (Same.refl _), upd_same⟩ (fun i G _ h => SqL.of (h.1 _ _ fl2)) ?_ ?_
    · rintro i x G hx ⟨sG, fD⟩
      obtain ⟨k, a, hk, ha, rfl, at_⟩ := paired_at pr2 hx
      obtain ⟨ai, ht⟩ := at_.on sG
      refine ⟨a, _, rfl, ht, rfl, _, _, rfl, _, _, rfl, rfl, ?_⟩
      refine ⟨rfl, yes_to ?_⟩
      rw [if_pos rfl]
      have le : (t.toks.take i).length ≤ t.toks.length := by rw [List.length_take]; omega
      refine ⟨_, rfl, _, fD, by rw [List.length_map, sizeLine_eq]; omega, same_new nDH sG, ?_⟩
      rw [upd_same, take_next hk, List.map_append]
      rfl
    rintro G ⟨sG, fD⟩
    have la := Paired.length pr2
    rw [List.length_map, ← la, List.take_length] at fD
    refine gn1 (σ' := [some (.str z), some (.ref l), some (.ref D), none, none, none]) rfl ?_
    have eW : (t.toks.map fun k => V.str k.str) = (t.toks.map Tk.str).map V.str := by rw [List.map_map]; rfl
    have fW := fD
    rw [eW] at fW
    have c1 := count_strs .opn trivial oks
    have c2 := count_strs .cls trivial oks
    refine ⟨_, rfl, D, _, rfl, .inl (SqL.of fW), _, rfl, .inl ⟨rfl, _, SqL.of fW⟩, D, _, _, rfl, rfl, SqL.of fW, ?_⟩
    refine ⟨_, _, rfl, rfl, _, rfl, .inl ⟨rfl, _, SqL.of fW⟩, D, _, _, rfl, rfl, SqL.of fW, _, _, rfl, rfl, ?_⟩
    refine gn1 rfl ?_
    refine ⟨_, rfl, _, _, rfl, rfl, _, rfl, if_no (decide_eq_false ?_) ?_⟩
    · have n0 : ((t.toks.map Tk.str).map V.str).length = t.toks.length := by rw [List.length_map, List.length_map]
      have c1' : List.count ("(" : Str) (t.toks.map Tk.str) = t.toks.count .opn := c1
      have c2' : List.count (")" : Str) (t.toks.map Tk.str) = t.toks.count .cls := c2
      rw [n0, c1', c2']
      omega
    · exact ⟨_, rfl, D, t, rfl, fD, ok, sz, fun e H' s' y => q e H' (s1.trans (s2.trans (sG.trans s'))) y⟩
end
end G1
set_option maxHeartbeats 16000000
namespace G1
open PySem PySem.Spec PyProof.Rows L2 SY TXS OW
structure ParseP (K : PySem.W.Frag) (C CT : Addr) (y : V) (H : Hp) (Q : VK) (E : XK) : Prop where
  ex : (Kn H y ∧ (∀ z, y ≠ .str z) ∧ Rs "at" CT H .non E) ∨ ∃ (z : Str) (ts : List (Nat × Str)), y = .str z ∧ Lex 0 z.cps.toList ts ∧ z.length ≤ 400 ∧
    (∀ p, placeO z.length ([zE], zS) ts = some p → ∀ H', Same H H' → Rs "at" CT H' (.int (p : Int)) E) ∧ (placeO z.length ([zE], zS) ts = none → ∀ e t H', Same H H' → SayAt K C H' t e → Q (.ref e) H')
def spParsedX (K : PySem.W.Frag) (C CT : Addr) : Sp := fun vs H Q E => ∃ y : V, vs = [y] ∧ ParseP K C CT y H Q E
theorem cut_all (n : Nat) : ∀ {ts : List (Nat × Str)} {s : List Str × Str}, placeO n s ts = none → cutP ts = ts
  | [], _, _ => rfl
  | (i, z) :: ts, s, h => by
    rw [place_next] at h
    cases q : stepZ s z with
    | none =>
      rw [q] at h
      cases h
    | some s1 =>
      rw [q] at h
      have pl : plainZ z = true := by
        unfold stepZ at q
        cases qk : tkOf z with
        | none =>
          rw [qk] at q
          cases q
        | some k => exact plain_of qk
      rw [cut_plain pl, cut_all n (ts := ts) h]
theorem lex_each {i : Nat} {s : List Nat} {ts : List (Nat × Str)} (h : Lex i s ts) : ∀ q ∈ ts, q.2.length ≤ s.length := by
  induction h with
  | nil => exact fun _ z => (List.not_mem_nil z).elim
  | blank _ ih => exact fun q hq => Nat.le_succ_of_le (ih q hq)
  | tok k b _ ih =>
    intro q hq
    rw [List.length_append]
    have e := zlen k
    rcases List.mem_cons.mp hq with w | w
    · rw [w]
      show k.length ≤ _
      omega
    · have := ih q w
      omega
theorem cut_each {n : Nat} : ∀ {ts : List (Nat × Str)}, (∀ q ∈ ts, q.2.length ≤ n) → ∀ q ∈ cutP ts, q.2.length ≤ n
  | [], _, q, hq => (List.not_mem_nil hq).elim
  | (i, z) :: ts, h, q, hq => by
    cases pl : plainZ z with
    | true =>
      rw [cut_plain pl] at hq
      rcases List.mem_cons.mp hq with w | w
      · rw [w]
        exact h (i, z) List.mem_cons_self
      · exact cut_each (fun q hq => h q (List.mem_cons_of_mem _ hq)) q w
    | false =>
      rw [cut_bad pl] at hq
      rw [List.mem_singleton.mp hq]
      exact Nat.zero_le _
section
variable {P : Program} {w : World} {K : PySem.W.Frag} {mg : Str → Option Value} {base : Heap} {C CL CT fT : Addr}
theorem cl_parsedX (D : DefAt K mg "parsed" sParsed) (B : Blt mg) (TT : ErrT K mg CT fT) (G : ∃ t, mg "MOST_NODES" = some (.int 200 t)) (cT : Cl CX0 P w K mg base 3 "_tokens" ["text"] (spTokensX K)) (cO : Cl (L2.CX P w) P w K mg base 4 "_check_order" ["text", "tokens"] (spOrderX K CT))
    (cB : Cl CX0 P w K mg base 8 "_built" ["words"] (spBuiltT K C)) : Cl (L2.CX P w) P w K mg base 9 "parsed" ["text"] (spParsedX K C CT) := by
  obtain ⟨f, fd, F, hm⟩ := D
  obtain ⟨tm, gM⟩ := G
  obtain ⟨fdT, FT⟩ := TT.fn
  refine cl_of F hm (F.ok scParsed (fun vs H Q E h => ?_) (fun cdv A outer s H vs Q E hr h => ⟨_, (pss_cons (ps_if (pt_not (pt_val (pe_callB call_isi (by rfl) B.isin (by decide +kernel) (pa_cons (pv 0) (pa_cons (pe_bltn (v := .ty "str") (by rfl) B.str (by decide +kernel) rfl) pa_nil))))) (pss_one (ps_raise rfl (takes_of rfl rfl rfl rfl) (pmk_oex TT.ox TT.iC TT.tI (ok_errT TT FT) (hr.mono (by decide)) (err_bindsT FT) .nil pass0 (by rfl) TT.gC (pa_cons pe_non pa_nil)))) pss_nil)
      (pss_cons (ps_set (i := 1) scParsed.nd rfl (Or.inl rfl) (pe_c0 cT hr (by decide) (by rfl) (pa_cons (pv 0) pa_nil)))
      (pss_cons (ps_expr (pe_cS cO hr (by decide) (takes_of rfl rfl rfl rfl) (by rfl) (pa_cons (pv 0) (pa_cons (pv 1) pa_nil))))
      (pss_cons (ps_setLc (i := 2) (own := [("at", 4), ("token", 5)]) (g := gTup K 2 (gCons (gName 4) (gCons (gName 5) gNil))) (tt := tYes) (te := tVar 5) (by rfl) scParsed.nd rfl rfl (sw_true rfl rfl rfl (by decide +kernel)) (pi_list (pv 1)) (blkOk_by (N := nParsed) (sc := defScope sParsed) (by decide +kernel))
        (fun _ _ _ _ _ => (pg_tup (by rfl) (pgs_cons (pg_name (i := 4) scParsed.nd rfl (Or.inl rfl)) (pgs_cons (pg_name (i := 5) scParsed.nd rfl (Or.inl rfl)) pgs_nil)))) (fun _ _ _ _ _ => pts_nil) (fun _ _ _ _ _ => pv 5))
      (pss_cons (ps_set (i := 3) scParsed.nd rfl (Or.inl rfl) (pe_op op_sub (pe_op op_sub (pe_callB call_len_seq (by rfl) B.len PySem.boot_len (pa_cons (pv 2) pa_nil)) (pe_bm PySem.F.plainAttrs_list PySem.F.slot_list_count PySem.F.type_list_count mt_cntZ (pv 2) (pa_cons pe_str pa_nil))) (pe_bm PySem.F.plainAttrs_list PySem.F.slot_list_count PySem.F.type_list_count mt_cntZ (pv 2) (pa_cons pe_str pa_nil))))
      (pss_cons (ps_if (pt_cmpR op_gt (pv 3) (pe_glob (v := .int 200) rfl gM ⟨_, rfl⟩) (nomark _)) (pss_one ps_never) pss_nil)
      (pss_one (ps_ret (pe_c0 cB hr (by decide) (by rfl) (pa_cons (pv 2) pa_nil)))))))))), ?_⟩)) fun _ _ _ _ _ _ us hl => match us, hl with | [_], _ => rfl
  · obtain ⟨y, rfl, _⟩ := h
    rfl
  · obtain ⟨y, rfl, h⟩ := h
    rcases h.ex with ⟨kn, no, rs⟩ | ⟨z, ts, rfl, lx, zl, bad, fit⟩
    · obtain ⟨ty, h1, h2⟩ := kit_str (K := K) kn
      have h3 : PySem.W.kitOne K ty (.type "str") = some false := by
        rw [h2]
        cases y with
        | str z => exact absurd rfl (no z)
        | _ => rfl
      refine ⟨_, rfl, y, .ty "str", ty, _, false, rfl, .ty "str", h1, h3, _, rfl, if_yes rfl ?_⟩
      exact ⟨len1 _, fun x hx => mk_rs rs x hx⟩
    · refine ⟨_, rfl, .str z, .ty "str", _, _, true, rfl, .ty "str", .base (.str z), kit_ty (r := true) (by decide +kernel), _, rfl, if_no rfl ?_⟩
      refine ⟨_, rfl, z, ts, rfl, lx, by omega, fun l as H1 s1 nl fl pr => ?_⟩
      refine gn1 (σ' := [some (.str z), some (.ref l), none, none, none, none]) rfl ?_
      have tl : ∀ q ∈ cutP ts, q.2.length ≤ sizeLine := cut_each fun q hq => by
        have := lex_each lx q hq
        have := zlen z
        rw [sizeLine_eq]
        omega
      refine ⟨_, rfl, _, rfl, z, l, as, cutP ts, rfl, fl, pr, by omega, tl, ⟨fun p hp H' s' => bad p (by rw [← place_cut]; exact hp) H' (s1.trans s'), fun hp H2 s2 => ?_⟩⟩
      rw [place_cut] at hp
      obtain ⟨t, et, ok, sz, op⟩ := place_saying lx hp zl
      rw [cut_all _ hp] at pr
      have oks := toks_ok ok
      have tsz := toks_size t
      have tl3 := toks_len3 t
      have fl2 := s2 _ _ fl
      have pr2 := paired_map (fun h => TokZ.on s2 h) pr
      have eln : ts.length = t.toks.length := by
        have q := congrArg List.length et
        rw [List.length_map, List.length_map] at q
        exact q
      refine ⟨_, rfl, l, rfl, ⟨_, SqL.of fl2⟩, fun D nD => ?_⟩
      have nDH : H2 D = none := nD
      refine lc_list (K := K) (a := l) (xs := as.map V.ref) (fun i G => Same H2 G ∧ G D = some (.lst ((ts.take i).map fun q => V.str q.2))) ⟨same_new nDH (Same.refl _), upd_same⟩ (fun i G _ h => SqL.of (h.1 _ _ fl2)) ?_ ?_
      · rintro i x G hx ⟨sG, fD⟩
        obtain ⟨⟨ai, zz⟩, a, hk, ha, rfl, at_⟩ := paired_at pr2 hx
        have ht : SqT K G a [.int (ai : Int), .str zz] := at_.on sG
        refine ⟨a, _, rfl, ht, rfl, _, _, rfl, _, _, rfl, rfl, ?_⟩
        refine ⟨rfl, yes_to ?_⟩
        rw [if_pos rfl]
        have le : (ts.take i).length ≤ ts.length := by rw [List.length_take]; omega
        refine ⟨_, rfl, _, fD, by rw [List.length_map, sizeLine_eq]; omega, same_new nDH sG, ?_⟩
        rw [upd_same, take_next hk, List.map_append]
        rfl
      rintro G ⟨sG, fD⟩
      have la := Paired.length pr2
      rw [List.length_map, ← la, List.take_length] at fD
      have e1 : (ts.map fun q => V.str q.2) = (ts.map Prod.snd).map V.str := by rw [List.map_map]; rfl
      rw [e1, et] at fD
      refine gn1 (σ' := [some (.str z), some (.ref l), some (.ref D), none, none, none]) rfl ?_
      have eW : (t.toks.map fun k => V.str k.str) = (t.toks.map Tk.str).map V.str := by rw [List.map_map]; rfl
      have fW := fD
      rw [← eW] at fD
      have c1 := count_strs .opn trivial oks
      have c2 := count_strs .cls trivial oks
      refine ⟨_, rfl, D, _, rfl, .inl (SqL.of fW), _, rfl, .inl ⟨rfl, _, SqL.of fW⟩, D, _, _, rfl, rfl, SqL.of fW, ?_⟩
      refine ⟨_, _, rfl, rfl, _, rfl, .inl ⟨rfl, _, SqL.of fW⟩, D, _, _, rfl, rfl, SqL.of fW, _, _, rfl, rfl, ?_⟩
      refine gn1 rfl ?_
      refine ⟨_, rfl, _, _, rfl, rfl, _, rfl, if_no (decide_eq_false ?_) ?_⟩
      · have n0 : ((t.toks.map Tk.str).map V.str).length = t.toks.length := by rw [List.length_map, List.length_map]
        have c1' : List.count ("(" : Str) (t.toks.map Tk.str) = t.toks.count .opn := c1
        have c2' : List.count (")" : Str) (t.toks.map Tk.str) = t.toks.count .cls := c2
        rw [n0, c1', c2']
        omega
      · exact ⟨_, rfl, D, t, rfl, fD, ok, sz, fun e H' s' y => fit hp e t H' (s1.trans (s2.trans (sG.trans s'))) y⟩
end
end G1
set_option maxHeartbeats 8000000
namespace G1
open PySem PySem.Spec PyProof.Rows L2 SY TXS OW
theorem asg_c {x : V} {i : Nat} {D : Ends} {σ σ' : L2.St} {H : Hp} (e : σ.set i (some x) = σ') (h : D.nx σ' H) : tAsg (tC x) (gName i) D σ H := by
  subst e
  exact h
/-- the law's pile -/
def fs (x : Str) : Str := if x = "sign" then "first" else "second"
def pileD (p : List Str) : List PyData := p.reverse.map fun x => .str (fs x)
def hd (p : List Str) : Str := match p with
  | [] => "end"
  | x :: _ => x
def Pl (p : List Str) : Prop := ∀ x ∈ p, x = "sign" ∨ x = "close"
theorem strs_lay : ∀ l : List Str, (∀ z ∈ l, PyData.strOk z = true) → PyData.canLayAll0 (l.map PyData.str) = true ∧ PyData.depthAll (l.map PyData.str) ≤ 1
  | [], _ => by simp [PyData.canLayAll0, PyData.depthAll]
  | z :: l, h => by
    obtain ⟨h1, h2⟩ := strs_lay l fun y hy => h y (List.mem_cons_of_mem _ hy)
    have h3 := h z List.mem_cons_self
    refine ⟨?_, ?_⟩
    · show PyData.canLayAll0 (.str z :: l.map PyData.str) = true
      simp [PyData.canLayAll0, h1, PyData.canLay0, h3]
    · show PyData.depthAll (.str z :: l.map PyData.str) ≤ 1
      simp [PyData.depthAll, PyData.depth]
      omega
theorem strs_shp {l : List Str} (h : ∀ z ∈ l, PyData.strOk z = true) : SeqAt.shaped (.list (l.map PyData.str)) = true := by
  obtain ⟨h1, h2⟩ := strs_lay l h
  unfold SeqAt.shaped
  simp [PyData.canLay0, PyData.depth, h1]
  omega
theorem strs_dp {K : PySem.W.Frag} {H : Hp} : ∀ l : List Str, DpAll K H (l.map V.str) (l.map PyData.str)
  | [] => .nil
  | z :: l => .cons (.str z) (strs_dp l)
theorem fs_ok (x : Str) : PyData.strOk (fs x) = true := by
  unfold fs
  by_cases h : x = "sign"
  · rw [if_pos h]
    decide +kernel
  · rw [if_neg h]
    decide +kernel
def pile (p : List Str) : List Str := p.reverse.map fs
theorem pile_ok (p : List Str) : ∀ z ∈ pile p, PyData.strOk z = true := fun z hz => by
  obtain ⟨x, _, rfl⟩ := List.mem_map.mp hz
  exact fs_ok x
theorem pile_cons (x : Str) (p : List Str) : (pile (x :: p)).map V.str = (pile p).map V.str ++ [.str (fs x)] := by
  unfold pile
  rw [List.reverse_cons, List.map_append, List.map_append]
  rfl
theorem pile_eqv (p : List Str) : PyData.eqv (.list ((pile p).map PyData.str)) (.list []) = decide (p = []) := by
  cases p with
  | nil => rfl
  | cons x r =>
    rw [decide_eq_false nofun]
    have ne : ((pile (x :: r)).map PyData.str) ≠ [] := by
      intro h
      have := congrArg List.length h
      rw [List.length_map] at this
      unfold pile at this
      rw [List.length_map, List.length_reverse] at this
      cases this
    cases q : (pile (x :: r)).map PyData.str with
    | nil => exact (ne q).elim
    | cons d ds => simp [PyData.eqv, PyData.eqvAll]
theorem fs_second {x : Str} (h : x = "sign" ∨ x = "close") : decide (V.str (fs x) = V.str "second") = decide (x = "close") := by
  rcases h with h | h <;> rw [h] <;> decide
/-! is the pile empty; its last -/
section
variable {K : PySem.W.Frag} {H : Hp} {D : Addr} {p : List Str} {σ : L2.St}
def tNe (K : PySem.W.Frag) : TE := tOp (rNeD K) (tVar 1) (tLst tNil)
def tTop (K : PySem.W.Frag) : TE := tOp (rIxL K) (tVar 1) (tUn (rU fun i => .int (-i)) (tC (.int 1)))
theorem ne_ok {Q : VK} (h1 : σ[1]? = some (some (.ref D))) (fD : H D = some (.lst ((pile p).map V.str))) (q : ∀ H', Same H H' → Q (.bl (!decide (p = []))) H') : tNe K σ H Q := by
  refine ⟨_, h1, (by show 0 ≤ sizeLine; decide), fun e ne => ?_⟩
  obtain ⟨H1, e1, s1, f1⟩ := mk_s (.lst []) ne
  rw [e1]
  refine ⟨.list ((pile p).map PyData.str), .list [], .lst (SqL.of (s1 _ _ fD)) (strs_dp _), .lst (SqL.of f1) .nil, strs_shp (pile_ok p), (by decide), ?_⟩
  rw [pile_eqv]
  exact q H1 s1
theorem top_ok {Q : VK} {x : Str} {r : List Str} (h1 : σ[1]? = some (some (.ref D))) (fD : H D = some (.lst ((pile (x :: r)).map V.str))) (q : Q (.str (fs x)) H) : tTop K σ H Q := by
  rw [pile_cons] at fD
  exact ⟨_, h1, _, rfl, D, _, _, _, rfl, rfl, SqL.of fD, last_at, q⟩
def tW1 (K : PySem.W.Frag) : TS := tSeq (tAsg (tOp (rIxL K) (tLst (tCons (tIf (tTest (tNe K)) (tTop K) (tC (.str "end"))) (tCons (tC (.str "close")) tNil)))
    (tCB (fun xs H Q => (∃ i, xs = [V.int i] ∧ Q (V.int i) H) ∨ ∃ k, xs = [V.bl k] ∧ Q (V.int (if k = true then 1 else 0)) H) (tCons (tAndV (tNe K) (tOp rEq (tTop K) (tC (.str "second")))) tNil))) (gName 2))
  (tAsg (tIf (tTest (tOp rEq (tVar 2) (tC (.str "first")))) (tC (.str "sign")) (tVar 2)) (gName 2))
theorem w1_ok {D0 : Ends} {a w0 v3 v4 : Option V} (fD : H D = some (.lst ((pile p).map V.str))) (hp : Pl p) (q : ∀ H', Same H H' → D0.nx [a, some (.ref D), some (.str (hd p)), v3, v4] H') : tW1 K D0 [a, some (.ref D), w0, v3, v4] H := by
  refine ne_ok rfl fD fun H1 s1 => ⟨_, rfl, ?_⟩
  have fD1 := s1 _ _ fD
  cases p with
  | nil =>
    refine if_no rfl ?_
    refine ⟨(by show 2 ≤ sizeLine; decide), fun l nl => ?_⟩
    obtain ⟨H2, e2, s2, f2⟩ := mk_s (.lst [.str "end", .str "close"]) nl
    rw [e2]
    refine ne_ok (p := []) rfl (s2 _ _ fD1) fun H3 s3 => ⟨_, rfl, if_no rfl ?_⟩
    refine .inr ⟨_, rfl, l, _, _, _, rfl, rfl, SqL.of (s3 _ _ f2), rfl, ?_⟩
    refine gn1 (σ' := [a, some (.ref D), some (.str "end"), v3, v4]) rfl ?_
    refine ⟨_, rfl, rfl, _, rfl, if_no (by decide) ?_⟩
    exact ⟨_, rfl, q H3 (s1.trans (s2.trans s3))⟩
  | cons x r =>
    have hx := hp x List.mem_cons_self
    refine if_yes rfl ?_
    refine top_ok (x := x) (r := r) rfl fD1 ?_
    refine ⟨(by show 2 ≤ sizeLine; decide), fun l nl => ?_⟩
    obtain ⟨H2, e2, s2, f2⟩ := mk_s (.lst [.str (fs x), .str "close"]) nl
    rw [e2]
    refine ne_ok (p := x :: r) rfl (s2 _ _ fD1) fun H3 s3 => ⟨_, rfl, if_yes rfl ?_⟩
    refine top_ok (x := x) (r := r) rfl (s3 _ _ (s2 _ _ fD1)) ?_
    refine ⟨rfl, ?_⟩
    rw [fs_second hx]
    rcases hx with e | e
    · subst e
      refine .inr ⟨_, rfl, l, _, _, .str "first", rfl, rfl, SqL.of (s3 _ _ f2), rfl, ?_⟩
      refine gn1 (σ' := [a, some (.ref D), some (.str "first"), v3, v4]) rfl ?_
      refine ⟨_, rfl, rfl, _, rfl, if_yes (decide_eq_true rfl) ?_⟩
      exact q H3 (s1.trans (s2.trans s3))
    · subst e
      refine .inr ⟨_, rfl, l, _, _, .str "close", rfl, rfl, SqL.of (s3 _ _ f2), rfl, ?_⟩
      refine gn1 (σ' := [a, some (.ref D), some (.str "close"), v3, v4]) rfl ?_
      refine ⟨_, rfl, rfl, _, rfl, if_no (by decide) ?_⟩
      exact ⟨_, rfl, q H3 (s1.trans (s2.trans s3))⟩
def tW3 (K : PySem.W.Frag) : TS := tAsg (tIf (tTest (tOp (rEqD K) (tVar 1) (tLst tNil))) (tC (.str "end")) (tOp (rIxL K) (tLst (tCons (tC (.str "sign")) (tCons (tC (.str "close")) tNil)))
    (tCB (fun xs H Q => (∃ i, xs = [V.int i] ∧ Q (V.int i) H) ∨ ∃ k, xs = [V.bl k] ∧ Q (V.int (if k = true then 1 else 0)) H) (tCons (tOp rEq (tTop K) (tC (.str "second"))) tNil)))) (gName 2)
theorem w3_ok {D0 : Ends} {a w0 v3 v4 : Option V} (fD : H D = some (.lst ((pile p).map V.str))) (hp : Pl p) (q : ∀ H', Same H H' → D0.nx [a, some (.ref D), some (.str (hd p)), v3, v4] H') : tW3 K D0 [a, some (.ref D), w0, v3, v4] H := by
  refine ⟨_, rfl, (by show 0 ≤ sizeLine; decide), fun e ne => ?_⟩
  obtain ⟨H1, e1, s1, f1⟩ := mk_s (.lst []) ne
  rw [e1]
  have fD1 := s1 _ _ fD
  refine ⟨.list ((pile p).map PyData.str), .list [], .lst (SqL.of fD1) (strs_dp _), .lst (SqL.of f1) .nil, strs_shp (pile_ok p), (by decide), _, rfl, ?_⟩
  rw [pile_eqv]
  cases p with
  | nil => exact if_yes rfl (gn1 (σ' := [a, some (.ref D), some (.str "end"), v3, v4]) rfl (q H1 s1))
  | cons x r =>
    have hx := hp x List.mem_cons_self
    refine if_no rfl ?_
    refine ⟨(by show 2 ≤ sizeLine; decide), fun l nl => ?_⟩
    obtain ⟨H2, e2, s2, f2⟩ := mk_s (.lst [.str "sign", .str "close"]) nl
    rw [e2]
    refine top_ok (x := x) (r := r) rfl (s2 _ _ fD1) ?_
    refine ⟨rfl, ?_⟩
    rw [fs_second hx]
    rcases hx with e | e
    · subst e
      exact .inr ⟨_, rfl, l, _, _, .str "sign", rfl, rfl, SqL.of f2, rfl, gn1 (σ' := [a, some (.ref D), some (.str "sign"), v3, v4]) rfl (q H2 (s1.trans s2))⟩
    · subst e
      exact .inr ⟨_, rfl, l, _, _, .str "close", rfl, rfl, SqL.of f2, rfl, gn1 (σ' := [a, some (.ref D), some (.str "close"), v3, v4]) rfl (q H2 (s1.trans s2))⟩
end
end G1
set_option maxHeartbeats 8000000
namespace G1
open PySem PySem.Spec PyProof.Rows L2 SY TXS OW
structure PlaceP (z : Str) (ts : List (Nat × Str)) (H : Hp) (Q : VK) : Prop where
  bad : ∀ p, placeO z.length ([zE], zS) ts = some p → ∀ H', Same H H' → Q (.int (p : Int)) H'
  fit : placeO z.length ([zE], zS) ts = none → ∀ H', Same H H' → Q .non H'
def spPlaceL : Sp := fun vs H Q _ => ∃ (z : Str) (ts : List (Nat × Str)), vs = [.str z] ∧ Lex 0 z.cps.toList ts ∧ z.length ≤ 100000 ∧ PlaceP z ts H Q
def ws (w : Str) : Str := if w = "saying" then "one" else w
def isLet (z : Str) : Bool := match z.cps.toList with
  | [c] => isL c
  | _ => false
def tLetT : TT := tAnd (tTest (tOp rEq (tCB (fun xs H Q => ∃ z, xs = [.str z] ∧ z.length ≤ sizeLine ∧ Q (.int z.length) H) (tCons (tVar 3) tNil)) (tC (.int 1)))) (tTest (tChain rLeZ rLeZ (tC (.str "a")) (tVar 3) (tC (.str "z"))))
theorem let_ok {σ : L2.St} {z : Str} {H : Hp} {Q : Bool → Hp → Prop} (h3 : σ[3]? = some (some (.str z))) (zl : z.length ≤ sizeLine) (q : Q (isLet z) H) : tLetT σ H Q := by
  refine ⟨_, h3, z, rfl, zl, rfl, _, rfl, ?_⟩
  by_cases l1 : z.length = 1
  · obtain ⟨c, hc⟩ : ∃ c, z.cps.toList = [c] := List.length_eq_one_iff.mp (by rw [← zlen]; exact l1)
    have ez : z = one c := str_eq hc
    refine if_yes (decide_eq_true (by rw [l1]; rfl)) ?_
    have ql : isLet z = isL c := by
      unfold isLet
      rw [hc]
    rw [ql] at q
    refine ⟨_, h3, _, _, rfl, rfl, _, rfl, ?_⟩
    rw [ez]
    show if (!decide ((one c).cps.toList < ("a" : Str).cps.toList)) = true then _ else _
    rw [lowA]
    by_cases h9 : c < 97
    · rw [decide_eq_true h9]
      have e : isL c = false := decide_eq_false (by omega)
      rw [e] at q
      exact ⟨_, rfl, q⟩
    · rw [decide_eq_false h9]
      refine ⟨_, _, rfl, rfl, ?_⟩
      show ∃ k, V.bl (!decide (("z" : Str).cps.toList < (one c).cps.toList)) = V.bl k ∧ Q k H
      rw [highZ]
      refine ⟨_, rfl, ?_⟩
      have e : isL c = !decide (122 < c) := by
        unfold isL
        by_cases h1 : 122 < c
        · rw [decide_eq_true h1, decide_eq_false (by omega)]
          rfl
        · rw [decide_eq_false h1, decide_eq_true (by omega)]
          rfl
      rw [← e]
      exact q
  · refine if_no (decide_eq_false fun e => l1 ?_) ?_
    · injection e with e
      omega
    · have ql : isLet z = false := by
        unfold isLet
        split
        · rename_i e
          rw [zlen, e] at l1
          exact (l1 rfl).elim
        · rfl
      rw [ql] at q
      exact q
theorem isLet_of {z : Str} (h : isLet z = true) : ∃ c, (Tk.lt c).ok ∧ z = (Tk.lt c).str := by
  unfold isLet at h
  split at h
  · rename_i c e
    exact ⟨c, of_decide_eq_true (p := 97 ≤ c ∧ c ≤ 122) h, str_eq e⟩
  · cases h
theorem isLet_lt {c : Nat} (ok : 97 ≤ c ∧ c ≤ 122) : isLet (one c) = true := decide_eq_true ok
theorem ws_say : ws zS = "one" := by decide
theorem ws_hd {p : List Str} (hp : Pl p) : ws (hd p) = hd p := by
  unfold ws
  refine if_neg ?_
  cases p with
  | nil => decide
  | cons x r =>
    show ¬ x = "saying"
    rcases hp x List.mem_cons_self with e | e <;> rw [e] <;> decide
theorem head_hd (p : List Str) : (p ++ [zE]).head? = some (hd p) := by cases p <;> rfl
theorem hd_cons (p : List Str) : ∃ r, p ++ [zE] = hd p :: r := by cases p <;> exact ⟨_, rfl⟩
theorem in2 {z : Str} : inV (.str z) [.str "0", .str "1"] = decide (z = "0" ∨ z = "1") := by
  show ((("0" : Str) == z) || ((("1" : Str) == z) || false)) = _
  rw [Bool.eq_iff_iff]
  simp only [Bool.or_eq_true, beq_iff_eq, decide_eq_true_eq, Bool.or_false]
  exact ⟨fun h => h.elim (fun h => .inl h.symm) (fun h => .inr h.symm), fun h => h.elim (fun h => .inl h.symm) (fun h => .inr h.symm)⟩
theorem in5 {z : Str} : inV (.str z) [.str "&", .str "->", .str "min", .str "max", .str "same"] = true ↔ ∃ k : Bk, z = k.sign := by
  show ((("&" : Str) == z) || ((("->" : Str) == z) || ((("min" : Str) == z) || ((("max" : Str) == z) || ((("same" : Str) == z) || false))))) = true ↔ _
  simp only [Bool.or_eq_true, beq_iff_eq, Bool.or_false]
  constructor
  · rintro (h | h | h | h | h)
    · exact ⟨.both, h.symm⟩
    · exact ⟨.thn, h.symm⟩
    · exact ⟨.lower, h.symm⟩
    · exact ⟨.higher, h.symm⟩
    · exact ⟨.same, h.symm⟩
  · rintro ⟨k, h⟩
    cases k with
    | both => exact .inl h.symm
    | thn => exact .inr (.inl h.symm)
    | lower => exact .inr (.inr (.inl h.symm))
    | higher => exact .inr (.inr (.inr (.inl h.symm)))
    | same => exact .inr (.inr (.inr (.inr h.symm)))
def tAtom (K : PySem.W.Frag) : TS := tIfS (tOr (tTest (tOp (rIn K false) (tVar 3) (tTup (tCons (tC (.str "0")) (tCons (tC (.str "1")) tNil))))) tLetT) (tW1 K) (tIfS (tTest (tOp rNe (tVar 3) (tC (.str "not")))) (tRet (tVar 4)) tNext)
theorem atom_ok {K : PySem.W.Frag} {D0 : Ends} {a w0 : Option V} {D : Addr} {zz : Str} {ai : Int} {p : List Str} {G : Hp} (fD : G D = some (.lst ((pile p).map V.str))) (hp : Pl p) (zl : zz.length ≤ sizeLine)
    (qA : (zz = "0" ∨ zz = "1" ∨ isLet zz = true) → ∀ G', Same G G' → D0.nx [a, some (.ref D), some (.str (hd p)), some (.str zz), some (.int ai)] G') (qN : zz = "not" → ∀ G', Same G G' → D0.nx [a, some (.ref D), w0, some (.str zz), some (.int ai)] G')
    (qR : ¬ (zz = "0" ∨ zz = "1" ∨ isLet zz = true) → zz ≠ "not" → ∀ G', Same G G' → D0.rt (.int ai) G') : tAtom K D0 [a, some (.ref D), w0, some (.str zz), some (.int ai)] G := by
  refine ⟨_, rfl, (by show 2 ≤ sizeLine; decide), fun t nt => ?_⟩
  obtain ⟨G1, e1, s1, f1⟩ := mk_s (.tup [.str "0", .str "1"]) nt
  rw [e1]
  refine ⟨t, _, rfl, .inr (SqT.of f1), rfl, rfl, _, rfl, ?_⟩
  have fD1 := s1 _ _ fD
  show if inV (.str zz) [.str "0", .str "1"] = true then _ else _
  rw [in2]
  by_cases m : zz = "0" ∨ zz = "1"
  · refine if_yes (decide_eq_true m) ?_
    exact w1_ok fD1 hp fun G' s => qA (m.elim .inl fun e => .inr (.inl e)) G' (s1.trans s)
  · refine if_no (decide_eq_false m) ?_
    refine let_ok (z := zz) rfl zl ?_
    cases l : isLet zz with
    | true => exact if_yes rfl (w1_ok fD1 hp fun G' s => qA (.inr (.inr l)) G' (s1.trans s))
    | false =>
      refine if_no rfl ?_
      refine ⟨_, rfl, rfl, _, rfl, ?_⟩
      by_cases n : zz = "not"
      · exact if_no (congrArg (!·) (decide_eq_true (by rw [n]))) (qN n G1 s1)
      · refine if_yes (congrArg (!·) (decide_eq_false fun e => n (by injection e))) ?_
        refine ⟨_, rfl, qR (fun h => ?_) n G1 s1⟩
        rcases h with h | h | h
        · exact m (.inl h)
        · exact m (.inr h)
        · rw [l] at h
          cases h
section
variable {P : Program} {w : World} {K : PySem.W.Frag} {mg : Str → Option Value} {base : Heap} {C : Addr}
abbrev nPl : List Str := ["string", "pile", "wants", "token", "spot"]
theorem scPl : FnScope nPl ["string"] (defScope lPlace) := ⟨rfl, rfl, rfl, by decide +kernel, rfl, by decide +kernel, by decide +kernel⟩
theorem cl_lplace (D : DefAt K mg "_law_place" lPlace) (B : Blt mg) (cT : Cl CX0 P w K mg base 1 "_law_tokens" ["string"] (spTokensL K)) : Cl CX0 P w K mg base 2 "_law_place" ["string"] spPlaceL := by
  obtain ⟨f, fd, F, hm⟩ := D
  refine cl_of F hm (F.ok scPl (fun vs H Q E h => ?_) (fun cdv A outer s H vs Q E hr h => ⟨_, PSs.nox (pss_cons (ps_par (i := 1) (j := 2) (by rfl) scPl.nd rfl rfl (by decide) rfl rfl (pa_cons (pe_lst pa_nil) (pa_cons pe_str pa_nil)) (by rfl))
      (pss_cons (ps_for PassesOwn.never rfl (pi_list (pe_c0 cT hr (by decide) (by rfl) (pa_cons (pv 0) pa_nil))) (pg_tup (by rfl) (pgs_cons (pg_name (i := 3) scPl.nd rfl (Or.inl rfl)) (pgs_cons (pg_name (i := 4) scPl.nd rfl (Or.inl rfl)) pgs_nil)))
        (pss_one (ps_if (pt_cmpR op_eq (pv 2) pe_str (nomark _)) (pss_one (ps_if (PW.pt (pw_and (pt_cmpR op_eq (pv 3) pe_str (nomark _))
          (pw_and1 (pt_cmpR op_lt (pe_callB call_len_seq (by rfl) B.len PySem.boot_len (pa_cons (pv 1) pa_nil)) pe_int (nomark _))))) (pss_one (ps_expr (pe_bm PySem.F.plainAttrs_list PySem.F.slot_list_append PySem.F.type_list_append mt_append (pv 1) (pa_cons pe_str pa_nil)))) (pss_one (ps_if (PW.pt (pw_or (pt_cmpR op_in_seq (pv 3) (pe_tup (pa_cons pe_str (pa_cons pe_str pa_nil))) (by rfl)) (pw_or1 (PW.pt (pw_and (pt_cmpR op_eq (pe_callB call_len_str (by rfl) B.len PySem.boot_len (pa_cons (pv 3) pa_nil)) pe_int (nomark _))
          (pw_and1 (pt_chain op_le_str op_le_str pe_str (pv 3) pe_str))))))) (pss_cons (ps_set (i := 2) scPl.nd rfl (Or.inl rfl) (pe_ix ix_list (pe_lst (pa_cons (pe_ifExp (pt_cmpR (op_neD hr.units) (pv 1) (pe_lst pa_nil) (nomark _)) (pe_ix ix_list (pv 1) (pe_un un_neg pe_int) (fun _ _ => rfl)) pe_str) (pa_cons pe_str pa_nil))) (pe_callTy call_int1 (by rfl) B.int (by decide +kernel) (pa_cons (pe_and (pe_cmpR (op_neD hr.units) (pv 1) (pe_lst pa_nil) (nomark _))
          (pe_one (pe_cmpR op_eq (pe_ix ix_list (pv 1) (pe_un un_neg pe_int) (fun _ _ => rfl)) pe_str (nomark _)))) pa_nil)) (fun _ _ => rfl)))
      (pss_one (ps_set (i := 2) scPl.nd rfl (Or.inl rfl) (pe_ifExp (pt_cmpR op_eq (pv 2) pe_str (nomark _)) pe_str (pv 2))))) (pss_one (ps_if (pt_cmpR op_ne (pv 3) pe_str (nomark _)) (pss_one (ps_ret (pv 4))) pss_nil)))))) (pss_one (ps_if (PW.pt (pw_and (pt_cmpR op_eq (pv 2) pe_str (nomark _))
          (pw_and1 (pt_cmpR op_in_seq (pv 3) (pe_tup (pa_cons pe_str (pa_cons pe_str (pa_cons pe_str (pa_cons pe_str (pa_cons pe_str pa_nil)))))) (by rfl))))) (pss_cons (ps_asg pe_str (pg_sub (pv 1) (pe_un un_neg pe_int) set_list))
      (pss_one (ps_set (i := 2) scPl.nd rfl (Or.inl rfl) pe_str))) (pss_one (ps_if (PW.pt (pw_and (pt_cmpR op_eq (pv 2) pe_str (nomark _))
          (pw_and1 (pt_cmpR op_eq (pv 3) pe_str (nomark _))))) (pss_cons (ps_expr (pe_bm0 PySem.F.plainAttrs_list PySem.F.slot_list_pop PySem.F.type_list_pop mt_pop (pv 1)))
      (pss_one (ps_set (i := 2) scPl.nd rfl (Or.inl rfl) (pe_ifExp (pt_cmpR (op_eqD hr.units) (pv 1) (pe_lst pa_nil) (nomark _)) pe_str (pe_ix ix_list (pe_lst (pa_cons pe_str (pa_cons pe_str pa_nil))) (pe_callTy call_int1 (by rfl) B.int (by decide +kernel) (pa_cons (pe_cmpR op_eq (pe_ix ix_list (pv 1) (pe_un un_neg pe_int) (fun _ _ => rfl)) pe_str (nomark _)) pa_nil)) (fun _ _ => rfl)))))) (pss_one (ps_ret (pv 4))))))))))
      (pss_one (ps_ret (pe_ifExp (pt_cmpR op_eq (pv 2) pe_str (nomark _)) pe_non (pe_callB call_len_str (by rfl) B.len PySem.boot_len (pa_cons (pv 0) pa_nil))))))), ?_⟩)) fun _ _ _ _ _ _ us hl => match us, hl with | [_], _ => rfl
  · obtain ⟨z, ts, rfl, _⟩ := h
    rfl
  · obtain ⟨z, ts, rfl, rd, zl, q⟩ := h
    have zs : z.length ≤ sizeLine := by rw [sizeLine_eq]; omega
    refine ⟨(by show 0 ≤ sizeLine; decide), fun D nD => ?_⟩
    obtain ⟨H1, e1, s1, f1⟩ := mk_s (.lst []) nD
    rw [e1]
    refine ⟨_, _, rfl, ?_⟩
    refine st1 (σ' := [some (.str z), some (.ref D), some (.str "one"), none, none]) rfl ?_
    refine ⟨_, rfl, z, ts, rfl, rd, zl, fun l as H2 s2 nl fl pr => ?_⟩
    have f2 := s2 _ _ f1
    have s12 := s1.trans s2
    refine ⟨l, rfl, ⟨_, SqL.of fl⟩, for_list (xs := as.map V.ref) (fun i σ G => ∃ (p : List Str) (wd : Str) (v3 v4 : Option V), σ = [some (.str z), some (.ref D), some (.str (ws wd)), v3, v4] ∧ Same H G ∧ G l = some (.lst (as.map V.ref)) ∧ Paired (TokL K G) ts as ∧ G D = some (.lst ((pile p).map V.str)) ∧ Pl p ∧ (wd = zS ∨ wd = hd p) ∧ placeO z.length ([zE], zS) ts = placeO z.length (p ++ [zE], wd) (ts.drop i))
      ⟨[], zS, none, none, rfl, s12, fl, pr, f2, (fun _ z => (List.not_mem_nil z).elim), .inl rfl, rfl⟩ (fun i σ G _ h => ?_) ?_ ?_⟩
    · obtain ⟨_, _, _, _, _, _, fl', _⟩ := h
      exact SqL.of fl'
    · rintro i x σ G hx ⟨p, wd, v3, v4, rfl, sG, flG, prG, fD, hp, hw, pl⟩
      obtain ⟨⟨ai, zz⟩, a, hk, ha, rfl, at_⟩ := paired_at prG hx
      have ht : SqT K G a [.str zz, .int (ai : Int)] := at_
      have zzl : zz.length ≤ sizeLine := by
        have h1 := lex_each rd _ (List.mem_of_getElem? hk)
        have h2 := zlen z
        have h3 : zz.length ≤ z.cps.toList.length := h1
        rw [sizeLine_eq]
        omega
      have ed : ts.drop i = (ai, zz) :: ts.drop (i + 1) := by
        obtain ⟨lt, e⟩ := List.getElem?_eq_some_iff.mp hk
        rw [List.drop_eq_getElem_cons lt, e]
      rw [ed, place_next] at pl
      have nDl : D ≠ l := ne_of_none f1 nl
      have nDH : H D = none := nD
      have inv : InvO (p ++ [zE], wd) := ⟨p, hp, rfl, hw.elim .inl fun e => .inr (by rw [e]; exact head_hd p)⟩
      obtain ⟨rb, eb⟩ := hd_cons p
      have known : ∀ {k : Tk}, k.ok → zz = k.str → stepZ (p ++ [zE], wd) zz = stepO (p ++ [zE], wd) k := fun {k} ok e => by
        unfold stepZ
        rw [e, tkOf_str ok]
        rfl
      have keep : ∀ {G' : Hp}, Same G G' → Paired (TokL K G') ts as := fun s => paired_map (fun h => TokL.on s h) prG
      have change : ∀ {G' : Hp} {ys zs' : List V}, Same G G' → G' D = some (.lst ys) → ∀ G2, upd G' D (.lst zs') = G2 → Same H G2 ∧ G2 l = some (.lst (as.map V.ref)) ∧ Paired (TokL K G2) ts as ∧ G2 D = some (.lst zs') := fun {G' ys zs'} s f G2 e => by
        rw [← e]
        exact ⟨same_new nDH (sG.trans s), (upd_ne nDl.symm).trans (s _ _ flG), paired_map (fun h => TokL.but f upd_but h) (keep s), upd_same⟩
      refine ⟨a, _, rfl, ht, rfl, _, _, rfl, _, _, rfl, rfl, ?_⟩
      refine st1 (σ' := [some (.str z), some (.ref D), some (.str (ws wd)), some (.str zz), some (.int (ai : Int))]) rfl ?_
      by_cases w1 : wd = zS
      · subst w1
        refine ⟨_, rfl, rfl, _, rfl, if_yes (decide_eq_true (by rw [ws_say])) ?_⟩
        have stay : ∀ (s2 : List Str × Str) (G' : Hp), stepZ (p ++ [zE], zS) zz = some s2 → Same G G' → s2 = (p ++ [zE], zS) → ∃ (p' : List Str) (wd' : Str) (v3' v4' : Option V), [some (.str z), some (.ref D), some (.str (ws zS)), some (.str zz), some (.int (ai : Int))] = [some (.str z), some (.ref D), some (.str (ws wd')), v3', v4'] ∧ Same H G' ∧ G' l = some (.lst (as.map V.ref)) ∧ Paired (TokL K G') ts as ∧ G' D = some (.lst ((pile p').map V.str)) ∧ Pl p' ∧ (wd' = zS ∨ wd' = hd p') ∧ placeO z.length ([zE], zS) ts = placeO z.length (p' ++ [zE], wd') (ts.drop (i + 1)) := fun s2 G' e s e2 => by
          rw [e, e2] at pl
          exact ⟨p, zS, _, _, rfl, sG.trans s, s _ _ flG, keep s, s _ _ fD, hp, .inl rfl, pl⟩
        have bad : ∀ G', Same G G' → stepZ (p ++ [zE], zS) zz = none → Q (.int (ai : Int)) G' := fun G' s e => by
          rw [e] at pl
          exact q.bad ai pl G' (sG.trans s)
        by_cases zo : zz = "("
        · have ek := known (k := .opn) trivial zo
          refine ⟨_, rfl, rfl, _, rfl, if_yes (decide_eq_true (by rw [zo])) ?_⟩
          refine ⟨_, rfl, D, _, rfl, .inl (SqL.of fD), _, _, rfl, rfl, _, rfl, ?_⟩
          have pl0 : ((pile p).map V.str).length = p.length := by unfold pile; rw [List.length_map, List.length_map, List.length_reverse]
          by_cases lt : p.length < 60
          · refine if_yes (decide_eq_true (by rw [pl0]; omega)) ?_
            have e : stepO (p ++ [zE], zS) .opn = some (zG :: (p ++ [zE]), zS) := by
              show (if (p ++ [zE]).length ≤ 60 then _ else _) = _
              rw [if_pos (by rw [List.length_append]; show p.length + 1 ≤ 60; omega)] <;> rfl
            rw [ek, e] at pl
            refine ⟨_, rfl, .inl ⟨rfl, _, SqL.of fD⟩, D, _, _, rfl, rfl, fD, by rw [pl0, sizeLine_eq]; omega, ?_⟩
            obtain ⟨c1, c2, c3, c4⟩ := change (Same.refl G) fD _ rfl
            refine ⟨zG :: p, zS, _, _, rfl, c1, c2, c3, ?_, fun x hx => ?_, .inl rfl, pl⟩
            · rw [c4, pile_cons]
              rfl
            · rcases List.mem_cons.mp hx with w | w
              · exact .inl w
              · exact hp x w
          · refine if_no (decide_eq_false (by rw [pl0]; omega)) ?_
            have none_ : stepZ (p ++ [zE], zS) zz = none := by
              rw [ek]
              show (if (p ++ [zE]).length ≤ 60 then _ else _) = _
              rw [if_neg (by rw [List.length_append]; show ¬ p.length + 1 ≤ 60; omega)] <;> rfl
            refine atom_ok fD hp zzl (fun h => ?_) (fun h => ?_) fun _ _ G' s => bad G' s none_
            · rw [zo] at h
              exact absurd h (by decide)
            · rw [zo] at h
              exact absurd h (by decide)
        · refine ⟨_, rfl, rfl, _, rfl, if_no (decide_eq_false fun e => zo (by injection e)) (if_no rfl ?_)⟩
          refine atom_ok fD hp zzl (fun h G' s => ?_) (fun h G' s => ?_) fun h1 h2 G' s => bad G' s ?_
          · have e : stepZ (p ++ [zE], zS) zz = some (p ++ [zE], hd p) := by
              rcases h with h | h | h
              · rw [known (k := .zero) trivial h, eb]
                rfl
              · rw [known (k := .one) trivial h, eb]
                rfl
              · obtain ⟨c, ok, ec⟩ := isLet_of h
                rw [known ok ec, eb]
                rfl
            rw [e] at pl
            exact ⟨p, hd p, _, _, by rw [ws_hd hp], sG.trans s, s _ _ flG, keep s, s _ _ fD, hp, .inr rfl, pl⟩
          · have e : stepZ (p ++ [zE], zS) zz = some (p ++ [zE], zS) := by
              rw [known (k := .neg) trivial h, eb]
              rfl
            exact stay _ G' e s rfl
          · unfold stepZ
            cases qk : tkOf zz with
            | none => rfl
            | some k =>
              obtain ⟨ok, ez⟩ := tkOf_some qk
              show stepO (p ++ [zE], zS) k = none
              cases k with
              | lt c => exact absurd (.inr (.inr (by rw [ez]; exact isLet_lt ok))) h1
              | zero => exact absurd (.inl ez) h1
              | one => exact absurd (.inr (.inl ez)) h1
              | neg => exact absurd ez h2
              | opn => exact absurd ez zo
              | cls => rw [eb]; rfl
              | sg k => rw [eb]; rfl
      · have ehd : wd = hd p := hw.resolve_left w1
        have ew : ws wd = wd := if_neg w1
        have n1 : decide (V.str (ws wd) = V.str "one") = false := by
          rw [ew, ehd]
          cases p with
          | nil => decide
          | cons x r =>
            show decide (V.str x = V.str "one") = false
            rcases hp x List.mem_cons_self with e | e <;> rw [e] <;> decide
        refine ⟨_, rfl, rfl, _, rfl, if_no n1 ?_⟩
        have bad : ∀ G', Same G G' → stepZ (p ++ [zE], wd) zz = none → Q (.int (ai : Int)) G' := fun G' s e => by
          rw [e] at pl
          exact q.bad ai pl G' (sG.trans s)
        have cons_ : wd ≠ zE → ∃ x r, p = x :: r ∧ hd p = x := fun ne => by
          cases p with
          | nil => exact absurd ehd ne
          | cons x r => exact ⟨x, r, rfl, rfl⟩
        by_cases w2 : wd = zG
        · obtain ⟨x, r, rfl, ex⟩ := cons_ (by rw [w2]; decide)
          have exG : x = zG := by rw [← ex, ← ehd]; exact w2
          have fD' := fD
          rw [pile_cons] at fD'
          refine ⟨_, rfl, rfl, _, rfl, if_yes (decide_eq_true (by rw [ew, w2])) ?_⟩
          refine ⟨_, rfl, (by show 5 ≤ sizeLine; decide), fun t nt => ?_⟩
          obtain ⟨G1, e1', s1', f1'⟩ := mk_s (.tup [.str "&", .str "->", .str "min", .str "max", .str "same"]) nt
          rw [e1']
          refine ⟨t, _, rfl, .inr (SqT.of f1'), rfl, rfl, _, rfl, ?_⟩
          by_cases m : ∃ k : Bk, zz = k.sign
          · refine if_yes (in5.mpr m) ?_
            obtain ⟨kk, ez⟩ := m
            have e : stepZ (x :: r ++ [zE], wd) zz = some (zC :: (r ++ [zE]), zS) := by
              rw [known (k := .sg kk) trivial ez, w2]
              rfl
            rw [e] at pl
            have fD1 := s1' _ _ fD'
            refine ⟨_, rfl, _, rfl, D, _, _, _, rfl, rfl, fD1, last_ix, ?_⟩
            obtain ⟨c1, c2, c3, c4⟩ := change s1' fD1 (upd G1 D (.lst (((pile r).map V.str ++ [V.str (fs x)]).set ((pile r).map V.str).length (V.str "second")))) rfl
            dsimp only
            refine asg_c (σ' := [some (.str z), some (.ref D), some (.str "one"), some (.str zz), some (.int (ai : Int))]) rfl ?_
            refine ⟨zC :: r, zS, _, _, by rw [ws_say], c1, c2, c3, ?_, fun y hy => ?_, .inl rfl, pl⟩
            · rw [c4, pile_cons, List.set_append_right _ _ (Nat.le_refl _), Nat.sub_self]
              rfl
            · rcases List.mem_cons.mp hy with w | w
              · exact .inr w
              · exact hp y (List.mem_cons_of_mem _ w)
          · refine if_no (Bool.eq_false_iff.mpr fun h => m (in5.mp h)) ?_
            refine ⟨_, rfl, rfl, _, rfl, if_no (decide_eq_false fun e => ?_) (if_no rfl ⟨_, rfl, bad G1 s1' ?_⟩)⟩
            · injection e with e
              rw [ew, w2] at e
              exact absurd e (by decide)
            · unfold stepZ
              cases qk : tkOf zz with
              | none => rfl
              | some k =>
                obtain ⟨ok, ez⟩ := tkOf_some qk
                show stepO (x :: r ++ [zE], wd) k = none
                rw [w2]
                cases k with
                | sg k => exact absurd ⟨k, ez⟩ m
                | _ => rfl
        · refine ⟨_, rfl, rfl, _, rfl, if_no (decide_eq_false fun e => w2 (by injection e with e; rw [ew] at e; exact e)) (if_no rfl ?_)⟩
          by_cases w3 : wd = zC
          · obtain ⟨x, r, rfl, ex⟩ := cons_ (by rw [w3]; decide)
            have hr : Pl r := fun y hy => hp y (List.mem_cons_of_mem _ hy)
            have fD' := fD
            rw [pile_cons] at fD'
            obtain ⟨rr, er⟩ := hd_cons r
            refine ⟨_, rfl, rfl, _, rfl, if_yes (decide_eq_true (by rw [ew, w3])) ?_⟩
            by_cases m : zz = ")"
            · refine ⟨_, rfl, rfl, _, rfl, if_yes (decide_eq_true (by rw [m])) ?_⟩
              have e : stepZ (x :: r ++ [zE], wd) zz = some (r ++ [zE], hd r) := by
                rw [known (k := .cls) trivial m, w3]
                show stepO (x :: (r ++ [zE]), zC) .cls = some (r ++ [zE], hd r)
                rw [er]
                rfl
              rw [e] at pl
              refine ⟨_, rfl, .inl ⟨rfl, _, SqL.of fD'⟩, D, _, V.str (fs x), rfl, rfl, fD', by simp, ?_⟩
              obtain ⟨c1, c2, c3, c4⟩ := change (Same.refl G) fD' (upd G D (.lst ((pile r).map V.str ++ [V.str (fs x)]).dropLast)) rfl
              have c4' := c4.trans (show some (HO.lst ((pile r).map V.str ++ [V.str (fs x)]).dropLast) = some (.lst ((pile r).map V.str)) by rw [List.dropLast_concat])
              refine w3_ok c4' hr fun G' s => ?_
              exact ⟨r, hd r, _, _, by rw [ws_hd hr], c1.trans s, s _ _ c2, paired_map (fun h => TokL.on s h) c3, s _ _ c4', hr, .inr rfl, pl⟩
            · refine ⟨_, rfl, rfl, _, rfl, if_no (decide_eq_false fun e => m (by injection e)) ⟨_, rfl, bad G (Same.refl _) ?_⟩⟩
              unfold stepZ
              cases qk : tkOf zz with
              | none => rfl
              | some k =>
                obtain ⟨ok, ez⟩ := tkOf_some qk
                show stepO (x :: (r ++ [zE]), wd) k = none
                rw [w3, er]
                cases k with
                | cls => exact absurd ez m
                | _ => rfl
          · refine ⟨_, rfl, rfl, _, rfl, if_no (decide_eq_false fun e => w3 (by injection e with e; rw [ew] at e; exact e)) (if_no rfl ?_)⟩
            refine ⟨_, rfl, bad G (Same.refl _) ?_⟩
            unfold stepZ
            cases tkOf zz with
            | none => rfl
            | some k =>
              show (if wd = "saying" then _ else if wd = "sign" then _ else if wd = "close" then _ else none) = none
              rw [if_neg w1, if_neg w2, if_neg w3]
    · rintro σ G ⟨p, wd, v3, v4, rfl, sG, flG, prG, fD, hp, hw, pl⟩
      have la := Paired.length prG
      rw [List.length_map, ← la, List.drop_length] at pl
      have pe : placeO z.length (p ++ [zE], wd) [] = if wd = "end" then none else some z.length := rfl
      rw [pe] at pl
      refine ⟨_, rfl, rfl, _, rfl, ?_⟩
      by_cases we : wd = "end"
      · rw [if_pos we] at pl
        have ew : ws wd = "end" := by rw [we]; decide
        exact if_yes (decide_eq_true (by rw [ew])) (q.fit pl G sG)
      · rw [if_neg we] at pl
        have nw : ws wd ≠ "end" := by
          unfold ws
          split
          · decide
          · exact we
        exact if_no (decide_eq_false fun e => nw (by injection e)) ⟨_, rfl, z, rfl, zs, q.bad z.length pl G sG⟩
end
end G1
set_option maxHeartbeats 8000000
namespace G1
open PySem PySem.Spec PyProof.Rows L2 SY TXS OW
structure BentP (p : Addr) (c : Int) (z : Str) (H : Hp) (Q : VK) : Prop where
  at_ : PurseAt H p c
  lo : c < 2 ^ 38
  len : z.length ≤ 1000
  fin : ∀ (r : Str) (c' : Int) (H' : Hp), r.length ≤ 2 * z.length + 6 → c' ≤ c + 3 → PurseAt H' p c' → But p H H' → Q (.str r) H'
def spBent : Sp := fun vs H Q _ => ∃ (p : Addr) (c : Int) (z : Str), vs = [.ref p, .str z] ∧ BentP p c z H Q
def tk14 : List Str := ["a", "not", "min", "max", "same", "&", "->", "(", ")", "0", "1", " ", "-", ">"]
def tk6 : List Str := ["ab", "A", "2", "\n", "|", "="]
theorem tk_short : ∀ s ∈ tk14 ++ tk6, s.length ≤ 4 := by decide
theorem strs_at {l : List Str} {d : Int} (h0 : 0 ≤ d) (h1 : d < (l.length : Int)) : ∃ s, atI (l.map V.str) d = some (.str s) ∧ s ∈ l := by
  obtain ⟨j, rfl⟩ : ∃ j : Nat, d = (j : Int) := ⟨d.toNat, by omega⟩
  have lt : j < l.length := by omega
  exact ⟨l[j], atI_nat (by simp [lt]), List.getElem_mem lt⟩
theorem same_but {p : Addr} {H H' : Hp} (s : Same H H') : But p H H' := fun b o _ h => s b o h
section
variable {P : Program} {w : World} {K : PySem.W.Frag} {mg : Str → Option Value} {base : Heap} {C : Addr}
abbrev nBe : List Str := ["purse", "string", "at", "tokens", "token", "some"]
theorem scBe : FnScope nBe ["purse", "string"] (defScope lBent) := ⟨rfl, rfl, rfl, by decide +kernel, rfl, by decide +kernel, by decide +kernel⟩
theorem cl_bent (D : DefAt K mg "_law_bent" lBent) (B : Blt mg) (cD : Cl CX0 P w K mg base 2 "_law_draw" ["purse", "out_of"] spDraw) : Cl CX0 P w K mg base 3 "_law_bent" ["purse", "string"] spBent := by
  obtain ⟨f, fd, F, hm⟩ := D
  refine cl_of F hm (F.ok scBe (fun vs H Q E h => ?_) (fun cdv A outer s H vs Q E hr h => ⟨_, PSs.nox (pss_cons (ps_set (i := 2) scBe.nd rfl (Or.inl rfl) (pe_c0 cD hr (by decide) (by rfl) (pa_cons (pv 0) (pa_cons (pe_op op_add (pe_callB call_len_str (by rfl) B.len PySem.boot_len (pa_cons (pv 1) pa_nil)) pe_int) pa_nil))))
      (pss_cons (ps_set (i := 3) scBe.nd rfl (Or.inl rfl) (pe_lst (pa_cons pe_str (pa_cons pe_str (pa_cons pe_str (pa_cons pe_str (pa_cons pe_str (pa_cons pe_str (pa_cons pe_str (pa_cons pe_str (pa_cons pe_str (pa_cons pe_str (pa_cons pe_str (pa_cons pe_str (pa_cons pe_str (pa_cons pe_str pa_nil))))))))))))))))
      (pss_cons (ps_set (i := 3) scBe.nd rfl (Or.inl rfl) (pe_op op_cat (pv 3) (pe_lst (pa_cons pe_str (pa_cons pe_str (pa_cons pe_str (pa_cons pe_str (pa_cons pe_str (pa_cons pe_str pa_nil)))))))))
      (pss_cons (ps_set (i := 4) scBe.nd rfl (Or.inl rfl) (pe_ix ix_list (pv 3) (pe_c0 cD hr (by decide) (by rfl) (pa_cons (pv 0) (pa_cons (pe_callB call_len_seq (by rfl) B.len PySem.boot_len (pa_cons (pv 3) pa_nil)) pa_nil))) (fun _ _ => rfl)))
      (pss_cons (ps_set (i := 5) scBe.nd rfl (Or.inl rfl) (pe_lst (pa_cons (pe_slice sl_str (pv 1) po_none (po_some (pv 2))) (pa_cons (pe_op op_add_str (pe_op op_add_str (pe_slice sl_str (pv 1) po_none (po_some (pv 2))) (pv 4)) (pe_slice sl_str (pv 1) (po_some (pv 2)) po_none)) (pa_cons (pe_op op_add_str (pe_op op_add_str (pe_op op_add_str (pe_op op_add_str (pe_slice sl_str (pv 1) po_none (po_some (pv 2))) pe_str) (pv 4)) pe_str) (pe_slice sl_str (pv 1) (po_some (pv 2)) po_none)) pa_nil)))))
      (pss_cons (ps_set (i := 5) scBe.nd rfl (Or.inl rfl) (pe_op op_cat (pv 5) (pe_lst (pa_cons (pe_op op_add_str (pe_slice sl_str (pv 1) po_none (po_some (pv 2))) (pe_slice sl_str (pv 1) (po_some (pe_op op_add (pv 2) pe_int)) po_none)) (pa_cons (pe_op op_add_str (pe_op op_add_str (pe_slice sl_str (pv 1) po_none (po_some (pv 2))) (pv 4)) (pe_slice sl_str (pv 1) (po_some (pe_op op_add (pv 2) pe_int)) po_none)) (pa_cons (pe_slice sl_str (pv 1) (po_some (pv 2)) po_none) pa_nil))))))
      (pss_one (ps_ret (pe_ix ix_list (pv 5) (pe_c0 cD hr (by decide) (by rfl) (pa_cons (pv 0) (pa_cons pe_int pa_nil))) (fun _ _ => rfl)))))))))), ?_⟩)) fun _ _ _ _ _ _ us hl => match us, hl with | [_, _], _ => rfl
  · obtain ⟨p, c, z, rfl, _⟩ := h
    rfl
  · obtain ⟨p, c, z, rfl, h⟩ := h
    have P0 := h.at_
    have c0 := h.lo
    have zl := h.len
    have zs : z.length ≤ sizeLine := by rw [sizeLine_eq]; omega
    have cl : ∀ lo hi, (cutS z lo hi).length ≤ 1000 := fun lo hi => Nat.le_trans (cutS_length z lo hi) zl
    refine ⟨_, rfl, _, rfl, z, rfl, zs, _, _, rfl, rfl, p, _, c, rfl, P0, by omega, by omega, by omega, fun d c1 H1 d0 d1 k1 P1 B1 => ?_⟩
    refine gn1 (σ' := [some (.ref p), some (.str z), some (.int d), none, none, none]) rfl ?_
    refine ⟨(by show 14 ≤ sizeLine; decide), fun l nl => ?_⟩
    obtain ⟨H2, e2, s2, f2⟩ : ∃ H2, upd H1 l (.lst [.str "a", .str "not", .str "min", .str "max", .str "same", .str "&", .str "->", .str "(", .str ")", .str "0", .str "1", .str " ", .str "-", .str ">"]) = H2 ∧ Same H1 H2 ∧ H2 l = some (.lst (tk14.map V.str)) := ⟨_, rfl, same_at nl (Same.refl _), upd_same⟩
    rw [e2]
    refine gn1 (σ' := [some (.ref p), some (.str z), some (.int d), some (.ref l), none, none]) rfl ?_
    refine ⟨_, rfl, (by show 6 ≤ sizeLine; decide), fun l6 n6 => ?_⟩
    obtain ⟨H3, e3, s3, f3⟩ : ∃ H3, upd H2 l6 (.lst [.str "ab", .str "A", .str "2", .str "\n", .str "|", .str "="]) = H3 ∧ Same H2 H3 ∧ H3 l6 = some (.lst (tk6.map V.str)) := ⟨_, rfl, same_at n6 (Same.refl _), upd_same⟩
    rw [e3]
    refine ⟨l, l6, _, _, rfl, rfl, s3 _ _ f2, f3, (by decide), fun l20 n20 => ?_⟩
    obtain ⟨H4, e4, s4, f4⟩ : ∃ H4, upd H3 l20 (.lst (tk14.map V.str ++ tk6.map V.str)) = H4 ∧ Same H3 H4 ∧ H4 l20 = some (.lst ((tk14 ++ tk6).map V.str)) := ⟨_, rfl, same_at n20 (Same.refl _), upd_same.trans (by rw [List.map_append])⟩
    rw [e4]
    have s14 := s2.trans (s3.trans s4)
    have P4 := P1.same s14
    refine gn1 (σ' := [some (.ref p), some (.str z), some (.int d), some (.ref l20), none, none]) rfl ?_
    have ne20 : l20 ≠ p := (P1.same (s2.trans s3)).at n20
    refine ⟨_, rfl, _, rfl, _, rfl, l20, _, rfl, .inl (SqL.of f4), p, _, c1, rfl, P4, by omega, by decide, by decide, fun d2 c2 H5 e0 e1 k2 P5 B5 => ?_⟩
    have f5 := B5 _ _ ne20 f4
    obtain ⟨tk, hat, hm⟩ := strs_at (l := tk14 ++ tk6) e0 (by have : ((((tk14 ++ tk6).map V.str).length : Nat) : Int) = ((tk14 ++ tk6).length : Nat) := by rw [List.length_map]
                                                              omega)
    have ht := tk_short tk hm
    refine ⟨l20, _, _, _, rfl, rfl, SqL.of f5, hat, ?_⟩
    refine gn1 (σ' := [some (.ref p), some (.str z), some (.int d), some (.ref l20), some (.str tk), none]) rfl ?_
    have cA := cutS_length z none (some d)
    have cB := cutS_length z (some d) none
    have cC := cutS_length z (some (d + 1)) none
    have l1 : (" " : Str).length = 1 := by decide
    refine ⟨_, rfl, _, rfl, _, rfl, z, rfl, zs, _, rfl, _, rfl, _, rfl, z, rfl, zs, _, rfl, _, _, rfl, rfl, by (try simp only [slen]); rw [sizeLine_eq]; omega, _, rfl, _, rfl, _, rfl, z, rfl, zs, _, _, rfl, rfl, by (try simp only [slen]); rw [sizeLine_eq]; omega, ?_⟩
    refine ⟨_, rfl, _, rfl, _, rfl, z, rfl, zs, _, _, rfl, rfl, by (try simp only [slen]); rw [sizeLine_eq]; omega, _, rfl, _, _, rfl, rfl, by (try simp only [slen]); rw [sizeLine_eq]; omega, _, _, rfl, rfl, by (try simp only [slen]); rw [sizeLine_eq]; omega, _, rfl, _, rfl, _, rfl, z, rfl, zs, _, _, rfl, rfl, by (try simp only [slen]); rw [sizeLine_eq]; omega, ?_⟩
    refine ⟨(by show 3 ≤ sizeLine; decide), fun a3 m3 => ?_⟩
    obtain ⟨L1, eL1⟩ : ∃ L1 : List Str, ([cutS z none (some d), cutS z none (some d) ++ tk ++ cutS z (some d) none, cutS z none (some d) ++ " " ++ tk ++ " " ++ cutS z (some d) none] : List Str) = L1 := ⟨_, rfl⟩
    obtain ⟨L2, eL2⟩ : ∃ L2 : List Str, ([cutS z none (some d) ++ cutS z (some (d + 1)) none, cutS z none (some d) ++ tk ++ cutS z (some (d + 1)) none, cutS z (some d) none] : List Str) = L2 := ⟨_, rfl⟩
    obtain ⟨H6, e6, s6, f6⟩ : ∃ H6, upd H5 a3 (.lst (([cutS z none (some d), cutS z none (some d) ++ tk ++ cutS z (some d) none, cutS z none (some d) ++ " " ++ tk ++ " " ++ cutS z (some d) none] : List Str).map V.str)) = H6 ∧ Same H5 H6 ∧ H6 a3 = some (.lst (L1.map V.str)) := ⟨_, rfl, same_at m3 (Same.refl _), upd_same.trans (by rw [eL1])⟩
    have e6' : upd H5 a3 (.lst [.str (cutS z none (some d)), .str (cutS z none (some d) ++ tk ++ cutS z (some d) none), .str (cutS z none (some d) ++ " " ++ tk ++ " " ++ cutS z (some d) none)]) = H6 := e6
    rw [e6']
    refine gn1 (σ' := [some (.ref p), some (.str z), some (.int d), some (.ref l20), some (.str tk), some (.ref a3)]) rfl ?_
    refine ⟨_, rfl, _, rfl, _, rfl, _, rfl, z, rfl, zs, _, rfl, _, rfl, _, _, rfl, rfl, _, rfl, z, rfl, zs, _, _, rfl, rfl, by (try simp only [slen]); rw [sizeLine_eq]; omega, ?_⟩
    refine ⟨_, rfl, _, rfl, _, rfl, z, rfl, zs, _, rfl, _, _, rfl, rfl, by (try simp only [slen]); rw [sizeLine_eq]; omega, _, rfl, _, rfl, _, _, rfl, rfl, _, rfl, z, rfl, zs, _, _, rfl, rfl, by (try simp only [slen]); rw [sizeLine_eq]; omega, ?_⟩
    refine ⟨_, rfl, _, rfl, _, rfl, z, rfl, zs, (by show 3 ≤ sizeLine; decide), fun a4 m4 => ?_⟩
    obtain ⟨H7, e7, s7, f7⟩ : ∃ H7, upd H6 a4 (.lst (([cutS z none (some d) ++ cutS z (some (d + 1)) none, cutS z none (some d) ++ tk ++ cutS z (some (d + 1)) none, cutS z (some d) none] : List Str).map V.str)) = H7 ∧ Same H6 H7 ∧ H7 a4 = some (.lst (L2.map V.str)) := ⟨_, rfl, same_at m4 (Same.refl _), upd_same.trans (by rw [eL2])⟩
    have e7' : upd H6 a4 (.lst [.str (cutS z none (some d) ++ cutS z (some (d + 1)) none), .str (cutS z none (some d) ++ tk ++ cutS z (some (d + 1)) none), .str (cutS z (some d) none)]) = H7 := e7
    rw [e7']
    have n1 : L1.length = 3 := by rw [← eL1]; rfl
    have n2 : L2.length = 3 := by rw [← eL2]; rfl
    have short : ∀ s ∈ L1 ++ L2, s.length ≤ 2 * z.length + 6 := by
      intro s hs
      rw [← eL1, ← eL2] at hs
      simp only [List.cons_append, List.nil_append, List.mem_cons, List.not_mem_nil, or_false] at hs
      rcases hs with rfl | rfl | rfl | rfl | rfl | rfl <;> (try simp only [slen]) <;> omega
    refine ⟨a3, a4, _, _, rfl, rfl, s7 _ _ f6, f7, by rw [List.length_map, List.length_map, n1, n2, sizeLine_eq]; decide, fun a5 m5 => ?_⟩
    obtain ⟨H8, e8, s8, f8⟩ : ∃ H8, upd H7 a5 (.lst (L1.map V.str ++ L2.map V.str)) = H8 ∧ Same H7 H8 ∧ H8 a5 = some (.lst ((L1 ++ L2).map V.str)) := ⟨_, rfl, same_at m5 (Same.refl _), upd_same.trans (by rw [List.map_append])⟩
    rw [e8]
    refine gn1 (σ' := [some (.ref p), some (.str z), some (.int d), some (.ref l20), some (.str tk), some (.ref a5)]) rfl ?_
    have P7 := P5.same (s6.trans s7)
    have ne5 : a5 ≠ p := P7.at m5
    refine ⟨_, rfl, _, rfl, p, 6, c2, rfl, P7.same s8, by omega, by decide, by decide, fun d3 c3 H9 g0 g1 k3 P9 B9 => ?_⟩
    have f9 := B9 _ _ ne5 f8
    obtain ⟨r, hat2, hm2⟩ := strs_at (l := L1 ++ L2) g0 (by rw [List.length_append, n1, n2]; omega)
    refine ⟨a5, _, _, _, rfl, rfl, SqL.of f9, hat2, ?_⟩
    exact h.fin r c3 H9 (short r hm2) (by omega) P9 (B1.trans ((same_but s14).trans (B5.trans ((same_but (s6.trans (s7.trans s8))).trans B9))))
end
end G1
set_option maxHeartbeats 4000000
/-! try with several clauses of the form except X as e; those behind them are never asked -/
namespace OW
open PySem PySem.Spec PyProof.Rows L2
def endsWo (D : Ends) (i : Nat) : Ends := { nx := fun z G => D.nx (z.set i none) G, rt := D.rt, bk := fun z G => D.bk (z.set i none) G, ct := fun z G => D.ct (z.set i none) G }
/-- one clause: its class, the slot of its name, its suite -/
structure Cz where
  c : Value
  i : Nat
  ts : Addr → Value → Option Addr → TS
def wNmd (K : PySem.W.Frag) (D : Ends) : List Cz → WX
  | [] => fun _ _ _ _ => False
  | z :: r => fun cls d σ H => ∃ b, PySem.W.exmOne K cls z.c = some b ∧ (b = true → ∀ a, H a = none → z.ts a cls d (endsWo D z.i) (σ.set z.i (some (.ref a))) H) ∧ (b = false → wNmd K D r cls d σ H)
inductive CzOk (X : Cx) (more : List ExceptHandler) : List ExceptHandler → List Cz → Prop
  | nil : CzOk X more more []
  | cons {x n : Str} {z : Cz} {st0 : Stmt} {suite : List Stmt} {np hp : Pos} {hds : List ExceptHandler} {l : List Cz} (nms : Names X x z.c) (atI : X.N[z.i]? = some n) (loc : X.env.kindOf n = some .local)
      (hSuite : ∀ (a : Addr) (oe : Obj) (cls : Value) (d : Option Addr) (xs : List (Addr × Obj)), Zc cls d oe → (∃ vs, oe.data = .fields vs) → PSs (X.suite a ((a, oe) :: xs)) (st0 :: suite) (z.ts a cls d)) (r : CzOk X more hds l) :
      CzOk X more (.ExceptHandler (some (.Name x np)) (some n) (st0 :: suite) hp :: hds) (z :: l)
section
variable {X : Cx} {body : List Stmt} {h₀ : ExceptHandler} {hds more : List ExceptHandler} {l : List Cz} {pos : Pos} {tb : WX → TS}
theorem ps_try_nmd (stk : X.stack = X.env :: X.outer) (frm : X.env.frame = some X.env.locals) (nod : X.N.Nodup)
    (hBody : ∀ (W : WX) (xs : List (Addr × Obj)) (xe : Value → Shared → Prop), Takes (X.tr xs xe) W → PassesOwn (model X.prog X.w) X.A X.env xe → PSs (X.tr xs xe) body (tb W))
    (hh : CzOk X more (h₀ :: hds) l) : PS X (.Try body (h₀ :: hds) [] [] pos) (fun D σ H => tb (wNmd X.K D l) D σ H) := by
  constructor
  intro pins s σ H D I h
  have okX := I.ok
  have frs' : X.A.frames = some (X.env :: X.outer) := okX.frames.trans (congrArg some stk)
  apply wpAny_Try_except
  refine wpAny_mono ((hBody (wNmd X.K D l) (X.pn ++ pins) (fun e t1 => wpAny (model X.prog X.w) X.A (noteFrame e X.env) (fun _ t2 => wpAny (model X.prog X.w) X.A (setFlight e none) (fun _ t3 =>
    wpAny (model X.prog X.w) X.A (handleBy e X.env (h₀ :: hds)) (SP X pins D) X.xe t3) X.xe t2) X.xe t1) ?_ PassesOwn.looking).run [] s σ H D (I.toTry _) h) ?_ (fun _ _ z => z)
  · rintro u s' ⟨a, B, sI, pins', σ', H', cls, d, rfl, J', nb, up, sky, na, os, ag, w⟩
    have J : Inv X pins σ' H' sI := J'.ofTry okX
    rw [stk] at sky
    refine Sky.land Zc.steady frs' frm sky fun h3 fl3 up3 => ?_
    have J3 : Inv X pins σ' H' ({ s' with heap := h3 } : Shared) := J.landed nb fl3.1 (up.trans up3) os ag
    obtain ⟨o3, v3, g3, z3, d3⟩ := fl3.there
    have out : ∀ {k : Heap} {o : Obj} {vs : Array Value}, k.FunFrames B (X.env :: X.outer) → k.get? a = some o → o.data = .fields vs → a ∉ frs (X.env :: X.outer) := by
      intro k o vs ff e dd hm
      obtain ⟨_, o', e', hn⟩ := ff.mem hm
      rw [e] at e'
      cases e'
      exact hn _ dd
    have out3 := out fl3.2.2.1 g3 d3
    have nL : a ≠ X.env.locals := by
      intro z
      exact out3 (List.mem_filterMap.mpr ⟨X.env, List.mem_cons_self, by rw [frm, z]⟩)
    have nF : a ∉ X.fs := by
      intro hm
      have ⟨e, there, at_⟩ := List.mem_filterMap.mp hm
      exact out3 (List.mem_filterMap.mpr ⟨e, List.mem_cons_of_mem _ there, at_⟩)
    have S3 := J3.suite g3 d3 na nL nF
    have go : ∀ {hs' : List ExceptHandler} {l' : List Cz}, CzOk X more hs' l' → wNmd X.K D l' cls d σ' H' → wpAny (model X.prog X.w) X.A (handleBy (.ref a) X.env hs') (SP X pins D) X.xe { s' with heap := h3 } := by
      intro hs' l' hk
      induction hk with
      | nil =>
        intro w
        exact w.elim
      | @cons x n z st0 suite np hp hds2 l2 nms atI loc hSuite r ih =>
        intro w
        obtain ⟨b, te, hyes, hno⟩ := w
        refine wpAny_handleBy_cons (codeAny_handlers_test ?_) (fun q => by cases q)
        have LT : PySem.W.Looks (model X.prog X.w) h3 (typeOf (.ref a)) cls := fun _ _ _ _ k q => wpAny_typeOf_ref (k _ _ g3) (z3.1.symm ▸ q)
        have LM := PySem.W.exm_one (M := model X.prog X.w) J3.kIn LT te
        have tst : ∀ {Q E : Value → Shared → Prop}, Q z.c { s' with heap := h3 } → wpAny (model X.prog X.w) (X.A.mark (some (.ref a))) (eval (.Name x np) X.env) Q E { s' with heap := h3 } := by
          intro Q E q
          obtain ⟨hg, hdb, hm | ⟨hm, hv, hnn⟩⟩ := nms
          · exact ld_glob (X := X.suite a ((a, o3) :: (X.pn ++ pins))) S3 hg hm q hdb
          · exact ld_blt (X := X.suite a ((a, o3) :: (X.pn ++ pins))) S3 hg hm hv q hnn hdb
        refine tst (LM.here ?_)
        cases b with
        | false =>
          exact ih (hno rfl)
        | true =>
          refine codeAny_handlers_suite_as (HandSPX.lands_againZ fl3 fun h4 fl4 up4 => ?_)
          have J4 : Inv X pins σ' H' ({ s' with heap := h4 } : Shared) := J.landed nb fl4.1 ((up.trans up3).trans up4) os ag
          obtain ⟨o4, v4, g4, z4, d4⟩ := fl4.there
          have S4 := J4.suite g4 d4 na nL nF
          refine store_ok (X := X.suite a ((a, o4) :: (X.pn ++ pins))) (v := .ref a) S4 nod atI (.inl loc) rfl (fun s5 S5 => ?_) (.inr loc)
          refine wpAny_mono ((hSuite a o4 cls d (X.pn ++ pins) z4 ⟨_, d4⟩).run [] s5 _ H' _ S5 (hyes rfl a na)) ?_ (fun _ _ z => z.elim)
          intro f s6 hsp
          have fin : ∀ {y : L2.St} {G : Hp} {Q : Shared → Prop}, Inv (X.suite a ((a, o4) :: (X.pn ++ pins))) [] y G s6 → (∀ s7, Inv X pins (y.set z.i none) G s7 → Q s7) →
              wpAny (model X.prog X.w) X.A (do bindName X.env n .none; unbindBehindTheSuite X.env n hp) (fun _ s7 => Q s7) X.xe s6 := fun S6 hq => gone_ok (S6.unsuite okX) nod atI loc hq
          cases f with
          | next =>
            obtain ⟨y, G, S6, q6⟩ := hsp
            exact fin S6 fun _ J7 => ⟨_, _, J7, q6⟩
          | brk =>
            obtain ⟨y, G, S6, q6⟩ := hsp
            exact fin S6 fun _ J7 => ⟨_, _, J7, q6⟩
          | cont =>
            obtain ⟨y, G, S6, q6⟩ := hsp
            exact fin S6 fun _ J7 => ⟨_, _, J7, q6⟩
          | ret u =>
            obtain ⟨v, y, G, S6, r6, q6⟩ := hsp
            exact fin S6 fun _ J7 => ⟨_, _, _, J7, r6, q6⟩
    exact go hh w
  · intro f s1 hsp
    cases f with
    | next =>
      obtain ⟨y, G, J', q⟩ := hsp
      exact wpAny_execs_nil ⟨y, G, J'.ofTry okX, q⟩
    | brk =>
      obtain ⟨y, G, J', q⟩ := hsp
      exact ⟨y, G, J'.ofTry okX, q⟩
    | cont =>
      obtain ⟨y, G, J', q⟩ := hsp
      exact ⟨y, G, J'.ofTry okX, q⟩
    | ret u =>
      obtain ⟨v, y, G, J', r, q⟩ := hsp
      exact ⟨v, y, G, J'.ofTry okX, r, q⟩
end
end OW
set_option maxHeartbeats 8000000
namespace G1
open PySem PySem.Spec PyProof.Rows L2 SY TXS OW
structure CaughtP (y : V) (H : Hp) (Q : VK) : Prop where
  ex : (Kn H y ∧ (∀ z, y ≠ .str z) ∧ ∀ l H', H l = none → Same H H' → H' l = some (.lst [.str "at", .non]) → Q (.ref l) H') ∨ ∃ (z : Str) (ts : List (Nat × Str)), y = .str z ∧ Lex 0 z.cps.toList ts ∧ z.length ≤ 400 ∧
    (∀ p, placeO z.length ([zE], zS) ts = some p → ∀ l H', H l = none → Same H H' → H' l = some (.lst [.str "at", .int (p : Int)]) → Q (.ref l) H') ∧ (placeO z.length ([zE], zS) ts = none → ∀ H', Same H H' → Q .non H')
def spCaught : Sp := fun vs H Q _ => ∃ y : V, vs = [y] ∧ CaughtP y H Q
section
variable {P : Program} {w : World} {K : PySem.W.Frag} {mg : Str → Option Value} {base : Heap} {C CT fT : Addr}
theorem scCaught : FnScope ["string", "caught", "error"] ["string"] (defScope lCaught) := ⟨rfl, rfl, rfl, by decide +kernel, rfl, by decide +kernel, by decide +kernel⟩
theorem cl_caught (D : DefAt K mg "_law_caught" lCaught) (TT : ErrT K mg CT fT) (cPa : Cl (L2.CX P w) P w K mg base 9 "parsed" ["text"] (spParsedX K C CT)) : Cl CX0 P w K mg base 10 "_law_caught" ["string"] spCaught := by
  obtain ⟨f, fd, F, hm⟩ := D
  refine cl_of F hm (F.ok scCaught (fun vs H Q E h => ?_) (fun cdv A outer s H vs Q E hr h => ⟨_, PSs.nox (pss_cons
      (ps_set (i := 1) scCaught.nd rfl (Or.inl rfl) pe_non)
      (pss_cons (ps_try_nmd (tb := fun W => tDrop (tCallS (spParsedX K C CT) (WE W) (tCons (tVar 0) tNil))) rfl rfl scCaught.nd
          (fun W xs xe tk _ => pss_one (ps_expr (pe_cS cPa hr (by decide) tk (by rfl) (pa_cons (pv 0) pa_nil))))
          (.cons (z := ⟨.ref CT, 2, _⟩) ⟨rfl, by decide, .inl TT.gC⟩ rfl rfl (fun a oe cls d xs hz hf => pss_one (ps_set (i := 1) scCaught.nd rfl (Or.inl rfl) (pe_lst (pa_cons pe_str (pa_cons (pe_xf TT.xf TT.no hz hf (pv 2)) pa_nil)))))
          .nil))
      (pss_one (ps_ret (pv 1))))), ?_⟩)) fun _ _ _ _ _ _ us hl => match us, hl with | [_], _ => rfl
  · obtain ⟨y, rfl, _⟩ := h
    rfl
  · obtain ⟨y, rfl, h⟩ := h
    refine ⟨_, rfl, ?_⟩
    dsimp only [tNil]
    rcases h.ex with ⟨kn, no, q⟩ | ⟨z, ts, rfl, lx, zl, bad, fit⟩
    · refine ⟨y, rfl, ⟨.inl ⟨kn, no, fun d H' nd s hd => ?_⟩⟩⟩
      exact ⟨true, TT.te, fun _ a ha => ⟨_, rfl, rfl, rfl, d, _, .non, rfl, hd, by simp [List.lookup], (by show 2 ≤ sizeLine; decide), fun l hl => ⟨_, rfl, q l _ (s.free hl) (same_new (s.free hl) s) upd_same⟩⟩, fun z => Bool.noConfusion z⟩
    · refine ⟨.str z, rfl, ⟨.inr ⟨z, ts, rfl, lx, zl, fun p hp H' s' d H'' nd s hd => ?_, fun hp e t H' s' y' => ?_⟩⟩⟩
      · have sS := s'.trans s
        exact ⟨true, TT.te, fun _ a ha => ⟨_, rfl, rfl, rfl, d, _, .int (p : Int), rfl, hd, by simp [List.lookup], (by show 2 ≤ sizeLine; decide), fun l hl => ⟨_, rfl, bad p hp l _ (sS.free hl) (same_new (sS.free hl) sS) upd_same⟩⟩, fun z => Bool.noConfusion z⟩
      · exact ⟨_, rfl, fit hp H' s'⟩
end
end G1
set_option maxHeartbeats 16000000
namespace G1
open PySem PySem.Spec PyProof.Rows L2 SY TXS OW
def spTextL (K : PySem.W.Frag) (n : Nat) : Sp := fun vs H Q _ => ∃ (a : Addr) (t : Sy), vs = [.ref a] ∧ RawAt K H t a ∧ t.ok ∧ t.depth ≤ n ∧ t.size ≤ 200 ∧ ∀ H', Same H H' → Q (.str t.text) H'
def spz : Bk → Str
  | .both => " & " | .thn => " -> " | .lower => " min " | .higher => " max " | .same => " same "
theorem spz_codes (k : Bk) : (spz k).cps.toList = 32 :: (k.signC ++ [32]) := by cases k <;> decide
def signsK : List (L2.Key × V) := [(.inr "both", .str " & "), (.inr "then", .str " -> "), (.inr "lower", .str " min "), (.inr "higher", .str " max "), (.inr "same", .str " same ")]
theorem signs_val (k : Bk) : valV (mergeK [] signsK) (.inr k.kind) = some (.str (spz k)) := by cases k <;> decide
theorem spz_len (k : Bk) : (spz k).length ≤ 6 := by cases k <;> decide
theorem bin_text (k : Bk) (a b : Sy) : ((((("(" : Str) ++ a.text) ++ spz k) ++ b.text) ++ ")") = (Sy.bin k a b).text := str_eq (by
  rw [text_codes, cps_app, cps_app, cps_app, cps_app, text_codes, text_codes, spz_codes]
  have e1 : ("(" : Str).cps.toList = [40] := by decide
  have e2 : (")" : Str).cps.toList = [41] := by decide
  rw [e1, e2]
  simp [Sy.codes])
section
variable {P : Program} {w : World} {K : PySem.W.Frag} {mg : Str → Option Value} {base : Heap} {C : Addr}
abbrev nTextL : List Str := ["raw", "kind", "letter", "inner", "some", "signs", "one"]
theorem scTextL : FnScope nTextL ["raw"] (defScope lText) := ⟨rfl, rfl, rfl, by decide +kernel, rfl, by decide +kernel, by decide +kernel⟩
theorem cl_textl (D : DefAt K mg "_law_text" lText) (B : Blt mg) : ∀ n : Nat, n ≤ 30 → Cl CX0 P w K mg base (n + 2) "_law_text" ["raw"] (spTextL K n) := by
  obtain ⟨f, fd, F, hm⟩ := D
  intro n
  induction n with
  | zero =>
    intro _
    refine cl_of F hm (F.ok scTextL (fun vs H Q E h => ?_) (fun cdv A outer s H vs Q E hr h => ?_)) fun _ _ _ _ _ _ us hl => match us, hl with | [_], _ => rfl
    · obtain ⟨a, t, rfl, _⟩ := h
      rfl
    · obtain ⟨a, t, rfl, _, _, d, _⟩ := h
      exact absurd d (dpos t)
  | succ n ih =>
    intro n30
    have cR := ih (by omega)
    refine cl_of F hm (F.ok scTextL (fun vs H Q E h => ?_) (fun cdv A outer s H vs Q E hr h => ⟨_, PSs.nox (pss_cons (ps_asg (pv 0) (pg_tup (by rfl) (pgs_cons (pg_name (i := 1) scTextL.nd rfl (Or.inl rfl)) (pgs_cons (pg_name (i := 2) scTextL.nd rfl (Or.inl rfl)) (pgs_cons (pg_name (i := 3) scTextL.nd rfl (Or.inl rfl)) pgs_nil)))))
      (pss_cons (ps_if (pt_cmpR (op_eqD hr.units) (pv 3) (pe_tup pa_nil) (nomark _)) (pss_one (ps_ret (pe_ifExp (pt_cmpR op_eq (pv 1) pe_str (nomark _)) (pv 2) (pe_ix ix_str pe_str (pe_callTy call_int1 (by rfl) B.int (by decide +kernel) (pa_cons (pe_cmpR op_eq (pv 1) pe_str (nomark _)) pa_nil)) (fun _ _ => rfl))))) pss_nil)
      (pss_cons (ps_setLc (i := 4) (own := [("one", 6)]) (g := gName 6) (tt := tYes) (te := tCall (spTextL K n) [] E0 (tCons (tVar 6) tNil)) (by rfl) scTextL.nd rfl rfl (sw_true rfl rfl rfl (by decide +kernel)) (pi_tup (pv 3)) (blkOk_by (N := nTextL) (sc := defScope lText) (by decide +kernel))
            (fun _ _ _ _ _ => pg_name (i := 6) scTextL.nd rfl (Or.inl rfl)) (fun _ _ _ _ _ => pts_nil) (fun _ _ _ _ _ => pe_c0 cR hr (by omega) (by rfl) (pa_cons (pv 6) pa_nil)))
      (pss_cons (ps_if (pt_cmpR op_eq (pv 1) pe_str (nomark _)) (pss_one (ps_ret (pe_op op_add_str pe_str (pe_ix ix_list (pv 4) pe_int (fun _ _ => rfl))))) pss_nil)
      (pss_cons (ps_set (i := 5) scTextL.nd rfl (Or.inl rfl) (pe_disp (pps_cons pe_str pe_str (pps_cons pe_str pe_str (pps_cons pe_str pe_str (pps_cons pe_str pe_str (pps_cons pe_str pe_str pps_nil))))) rfl rfl nofun (by decide)))
      (pss_one (ps_ret (pe_op op_add_str (pe_op op_add_str (pe_op op_add_str (pe_op op_add_str pe_str (pe_ix ix_list (pv 4) pe_int (fun _ _ => rfl))) (pe_dget (units1 hr) (pv 5) (pv 1) (fun _ _ => rfl))) (pe_ix ix_list (pv 4) pe_int (fun _ _ => rfl))) pe_str)))))))), ?_⟩)) fun _ _ _ _ _ _ us hl => match us, hl with | [_], _ => rfl
    · obtain ⟨a, t, rfl, _⟩ := h
      rfl
    · obtain ⟨a, t, rfl, ra, ok, dp, sz, q⟩ := h
      obtain ⟨p, h1, bs, h2, pb⟩ := ra.face.ex
      obtain ⟨ev, sh⟩ := no_empty pb ok (by omega)
      refine ⟨_, rfl, a, _, rfl, h1, rfl, _, _, rfl, _, _, rfl, _, _, rfl, rfl, ?_⟩
      refine ⟨_, rfl, (by show 0 ≤ sizeLine; decide), fun te ne => ?_⟩
      obtain ⟨H1, e1, s1, f1⟩ := mk_s (.tup []) ne
      rw [e1]
      refine ⟨.tuple (t.subs.map dRaw), .tuple [], .tup (tup_on h2 s1) (raws_dp (raws_on s1 pb)), .tup (SqT.of f1) .nil, sh, (by decide), _, rfl, ?_⟩
      rw [ev]
      by_cases lf : t.subs = []
      · rw [decide_eq_true lf]
        refine iteT ?_
        cases t with
        | nm c =>
          refine ⟨_, rfl, rfl, _, rfl, iteT ?_⟩
          exact ⟨_, rfl, q H1 s1⟩
        | nev =>
          refine ⟨_, rfl, rfl, _, rfl, iteF ?_⟩
          exact ⟨_, rfl, rfl, .inr ⟨_, rfl, _, _, 48, rfl, rfl, (by decide), rfl, q H1 s1⟩⟩
        | alw =>
          refine ⟨_, rfl, rfl, _, rfl, iteF ?_⟩
          exact ⟨_, rfl, rfl, .inr ⟨_, rfl, _, _, 49, rfl, rfl, (by decide), rfl, q H1 s1⟩⟩
        | den u => cases lf
        | bin k u v => cases lf
      · rw [decide_eq_false lf]
        refine iteF ?_
        refine ⟨_, rfl, p, rfl, ⟨_, tup_on h2 s1⟩, fun D nD => ?_⟩
        have nDH : H1 D = none := nD
        refine lc_tup (K := K) (xs := bs.map V.ref) (fun i G => Same H1 G ∧ G D = some (.lst ((t.subs.take i).map fun u => V.str u.text))) ⟨same_new nDH (Same.refl _), upd_same⟩ (fun i G _ h => tup_on h2 (s1.trans h.1)) ?_ ?_
        · rintro i x G hx ⟨sG, fD⟩
          obtain ⟨u, b, hu, hb', rfl, hr'⟩ := paired_at pb hx
          have mu := List.mem_of_getElem? hu
          refine ⟨rfl, yes_to ?_⟩
          rw [if_pos rfl]
          refine ⟨_, rfl, b, u, rfl, hr'.on (s1.trans sG), sub_ok mu ok, sub_depth mu dp, by have := sub_size mu; omega, fun G2 s2 => ?_⟩
          have fD2 := s2 _ _ fD
          have l2 := subs_len t
          refine ⟨_, fD2, by rw [List.length_map, List.length_take, sizeLine_eq]; omega, same_new nDH (sG.trans s2), ?_⟩
          rw [upd_same, take_next hu, List.map_append]
          rfl
        · rintro G ⟨sG, fD⟩
          have el : (bs.map V.ref).length = t.subs.length := by rw [List.length_map]; exact (pb.length).symm
          rw [el, List.take_length] at fD
          have sHG := s1.trans sG
          refine gn1 (σ' := [some (.ref a), some (.str t.kind), some t.letter, some (.ref p), some (.ref D), none, none]) rfl ?_
          cases t with
          | nm c => exact absurd rfl lf
          | nev => exact absurd rfl lf
          | alw => exact absurd rfl lf
          | den u =>
            have tl := Sy.text_len u
            have sz' : u.size + 1 ≤ 200 := sz
            refine ⟨_, rfl, rfl, _, rfl, iteT ?_⟩
            refine ⟨_, rfl, D, _, _, .str u.text, rfl, rfl, SqL.of fD, rfl, _, _, rfl, rfl, ?_, ?_⟩
            · have e : ("not " : Str).length = 4 := by decide
              rw [e, sizeLine_eq]
              omega
            · have e : ("not " : Str) ++ u.text = (Sy.den u).text := str_eq (by
                rw [text_codes, cps_app, text_codes]
                have e1 : ("not " : Str).cps.toList = [110, 111, 116, 32] := by decide
                rw [e1]
                rfl)
              exact as_val (congrArg V.str e) (q G sHG)
          | bin k u v =>
            refine ⟨_, rfl, rfl, _, rfl, if_no (by show decide (V.str k.kind = V.str "denied") = false; cases k <;> decide) ?_⟩
            refine fun dd nd => ⟨upd_same, signsK, rfl, (by decide), ?_⟩
            obtain ⟨G2, e2, s2, f2⟩ : ∃ G2, upd (upd G dd (.dK [])) dd (.dK (mergeK [] signsK)) = G2 ∧ Same G G2 ∧ G2 dd = some (.dK (mergeK [] signsK)) := ⟨_, rfl, same_new nd (same_new nd (Same.refl _)), upd_same⟩
            rw [e2]
            refine gn1 (σ' := [some (.ref a), some (.str k.kind), some (Sy.bin k u v).letter, some (.ref p), some (.ref D), some (.ref dd), none]) rfl ?_
            have fD2 := s2 _ _ fD
            have sz' : u.size + v.size + 1 ≤ 200 := sz
            have tu := Sy.text_len u
            have tv := Sy.text_len v
            have ls := spz_len k
            have l1 : ("(" : Str).length = 1 := by decide
            have l2 : (")" : Str).length = 1 := by decide
            have g1 := slen ("(" : Str) u.text
            have g2 := slen ((("(" : Str) ++ u.text)) (spz k)
            have g3 := slen (((("(" : Str) ++ u.text)) ++ spz k) v.text
            refine ⟨_, rfl, D, _, _, .str u.text, rfl, rfl, SqL.of fD2, rfl, _, _, rfl, rfl, by rw [sizeLine_eq]; omega, ?_⟩
            refine ⟨_, rfl, _, rfl, dd, .str (spz k), rfl, ?_, _, _, rfl, rfl, by rw [sizeLine_eq]; omega, ?_⟩
            · have z := DGet.k (k := .inr k.kind) f2
              rw [signs_val] at z
              exact z
            refine ⟨_, rfl, D, _, _, .str v.text, rfl, rfl, SqL.of fD2, rfl, _, _, rfl, rfl, by rw [sizeLine_eq]; omega, ?_⟩
            refine ⟨_, _, rfl, rfl, by rw [sizeLine_eq]; omega, ?_⟩
            exact as_val (congrArg V.str (bin_text k u v)) (q G2 (sHG.trans s2))
end
end G1
set_option maxHeartbeats 16000000
namespace G1
open PySem PySem.Spec PyProof.Rows L2 SY TXS OW
structure RightP (p : Addr) (c : Int) (H : Hp) (Q : VK) : Prop where
  at_ : PurseAt H p c
  lo : c < 2 ^ 37
  fin : ∀ (c' : Int) (H' : Hp), c' ≤ c + 200 → PurseAt H' p c' → But p H H' → Q (.bl true) H'
def spRight : Sp := fun vs H Q _ => ∃ (p : Addr) (c : Int), vs = [.ref p] ∧ RightP p c H Q
def abz : Str := "abz"
theorem nm_abz : Nm abz := ⟨by decide +kernel, by decide +kernel, by decide +kernel⟩
theorem cut_len (z : Str) : (cutS z none (some 400)).length ≤ 400 := by
  rw [zlen]
  unfold cutS
  have e : HT.sIx z.length z.length (some (400 : Int)) = min 400 z.length := HT.sIx_nat z.length z.length 400
  rw [HT.sIx_none, e]
  show ((z.cps.toList.drop 0).take (min 400 z.length - 0)).length ≤ 400
  rw [List.length_take]
  omega
def atD (x : PyData) : PyData := .list [.str "at", x]
theorem at_ok : PyData.strOk "at" = true := by decide +kernel
theorem atD_shp (i : Int) : SeqAt.shaped (atD (.int i)) = true := by
  unfold SeqAt.shaped atD
  simp [PyData.canLay0, PyData.canLayAll0, PyData.depth, PyData.depthAll, at_ok]
theorem atN_shp : SeqAt.shaped (atD .none) = true := by
  unfold SeqAt.shaped atD
  simp [PyData.canLay0, PyData.canLayAll0, PyData.depth, PyData.depthAll, at_ok]
theorem atD_eqv (x : PyData) (h : SeqAt.shaped (atD x) = true) : PyData.eqv (atD x) (atD x) = true := SeqAt.eqv_refl _ (SeqAt.canLay_of_shaped h)
section
variable {P : Program} {w : World} {K : PySem.W.Frag} {mg : Str → Option Value} {base : Heap} {C : Addr}
abbrev nRight : List Str := ["purse", "string", "turn", "place", "odd"]
theorem scRight : FnScope nRight ["purse"] (defScope sRight) := ⟨rfl, rfl, rfl, by decide +kernel, rfl, by decide +kernel, by decide +kernel⟩
theorem cl_right (D : DefAt K mg "_law_right" sRight) (B : Blt mg) (cD : Cl CX0 P w K mg base 2 "_law_draw" ["purse", "out_of"] spDraw) (cRw : ∀ n : Nat, Cl CX0 P w K mg base (n + 4) "_law_raw" ["purse", "size", "names"] (spRaw K n))
    (cTxl : ∀ n : Nat, n ≤ 30 → Cl CX0 P w K mg base (n + 2) "_law_text" ["raw"] (spTextL K n)) (cBe : Cl CX0 P w K mg base 3 "_law_bent" ["purse", "string"] spBent) (cPl : Cl CX0 P w K mg base 2 "_law_place" ["string"] spPlaceL)
    (cCa : Cl CX0 P w K mg base 10 "_law_caught" ["string"] spCaught) : Cl CX0 P w K mg base 25 "_law_right" ["purse"] spRight := by
  obtain ⟨f, fd, F, hm⟩ := D
  have cR := cRw 20
  have cTx := cTxl 20 (by decide)
  refine cl_of F hm (F.ok scRight (fun vs H Q E h => ?_) (fun cdv A outer s H vs Q E hr h => ⟨_, PSs.nox (pss_cons (ps_set (i := 1) scRight.nd rfl (Or.inl rfl) (pe_c0 cTx hr (by decide) (by rfl) (pa_cons (pe_c0 cR hr (by decide) (by rfl) (pa_cons (pv 0) (pa_cons (pe_op op_add pe_int (pe_c0 cD hr (by decide) (by rfl) (pa_cons (pv 0) (pa_cons pe_int pa_nil)))) (pa_cons pe_str pa_nil)))) pa_nil)))
      (pss_cons (ps_for PassesOwn.never rfl (pi_range1 (by rfl) B.range (pa_cons pe_int pa_nil)) (pg_name (i := 2) scRight.nd rfl (Or.inl rfl))
        (pss_cons (ps_set (i := 1) scRight.nd rfl (Or.inl rfl) (pe_slice sl_str (pe_c0 cBe hr (by decide) (by rfl) (pa_cons (pv 0) (pa_cons (pv 1) pa_nil))) po_none (po_some pe_int)))
      (pss_cons (ps_set (i := 3) scRight.nd rfl (Or.inl rfl) (pe_c0 cPl hr (by decide) (by rfl) (pa_cons (pv 1) pa_nil)))
      (pss_one (ps_if (pt_cmpR (op_neD hr.units) (pe_c0 cCa hr (by decide) (by rfl) (pa_cons (pv 1) pa_nil)) (pe_ix ix_list (pe_lst (pa_cons (pe_lst (pa_cons pe_str (pa_cons (pv 3) pa_nil))) (pa_cons pe_non pa_nil))) (pe_callTy call_int1 (by rfl) B.int (by decide +kernel) (pa_cons (pe_cmpR op_isN (pv 3) pe_non (nomark _)) pa_nil)) (fun _ _ => rfl)) (nomark _)) (pss_one (ps_ret pe_bl)) pss_nil)))))
      (pss_cons (ps_set (i := 4) scRight.nd rfl (Or.inl rfl) (pe_ix ix_list (pe_lst (pa_cons pe_non (pa_cons pe_int (pa_cons pe_bl (pa_cons (pe_lst (pa_cons pe_str pa_nil)) (pa_cons (pe_tup (pa_cons pe_str pa_nil)) (pa_cons pe_dnewK pa_nil))))))) (pe_c0 cD hr (by decide) (by rfl) (pa_cons (pv 0) (pa_cons pe_int pa_nil))) (fun _ _ => rfl)))
      (pss_one (ps_ret (pe_cmpR (op_eqD hr.units) (pe_c0 cCa hr (by decide) (by rfl) (pa_cons (pv 4) pa_nil)) (pe_lst (pa_cons pe_str (pa_cons pe_non pa_nil))) (nomark _))))))), ?_⟩)) fun _ _ _ _ _ _ us hl => match us, hl with | [_], _ => rfl
  · obtain ⟨p, c, rfl, _⟩ := h
    rfl
  · obtain ⟨p, c, rfl, h⟩ := h
    have P0 := h.at_
    have c0 := h.lo
    refine ⟨_, rfl, _, rfl, p, 20, c, rfl, P0, by omega, by decide, by decide, fun d c2 G2 d0 d20 k2 P2 B2 => ?_⟩
    refine ⟨_, _, rfl, rfl, ?_⟩
    refine ⟨p, c2, 1 + d, abz, rfl, by omega, by omega, nm_abz, ⟨P2, by omega, fun a t c3 G3 k3 ra ok sz dp hs P3 B3 => ?_⟩⟩
    have ra3 : RawAt K G3 t a := ra.on hide_same
    have tl := Sy.text_len t
    refine ⟨a, t, rfl, ra3, ok, by omega, by omega, fun G4 s4 => ?_⟩
    refine gn1 (σ' := [some (.ref p), some (.str t.text), none, none, none]) rfl ?_
    have B4 : But p H G4 := B2.trans (B3.trans (same_but s4))
    refine ⟨3, rfl, by decide, by decide, for_range (lo := 0) (n := 3) (fun j σ G => ∃ (z : Str) (c' : Int) (v2 v3 : Option V), σ = [some (.ref p), some (.str z), v2, v3, none] ∧ z.length ≤ 400 ∧ But p H G ∧ PurseAt G p c' ∧ c' ≤ c + 90 + 3 * j) ⟨t.text, c3, none, none, rfl, by omega, B4, P3.same s4, by omega⟩ ?_ ?_⟩
    · rintro j σ G hj ⟨z, c', v2, v3, rfl, zl, BG, PG, kc⟩
      refine gn1 (σ' := [some (.ref p), some (.str z), some (.int (0 + (j : Int))), v3, none]) rfl ?_
      refine ⟨_, rfl, _, rfl, p, c', z, rfl, ⟨PG, by omega, by omega, fun r c4 G5 rl k4 P5 B5 => ?_⟩⟩
      refine ⟨_, rfl, r, rfl, by rw [sizeLine_eq]; omega, ?_⟩
      obtain ⟨y, hy⟩ : ∃ y, cutS r none (some 400) = y := ⟨_, rfl⟩
      have yl := cut_len r
      rw [hy] at yl
      refine gn1 (σ' := [some (.ref p), some (.str y), some (.int (0 + (j : Int))), v3, none]) (by rw [← hy]; rfl) ?_
      obtain ⟨ts, lx⟩ := lex_some _ 0 y.cps.toList (Nat.le_refl _)
      refine ⟨_, rfl, y, ts, rfl, lx, by omega, ⟨fun q hq G6 s6 => ?_, fun hq G6 s6 => ?_⟩⟩
      · refine gn1 (σ' := [some (.ref p), some (.str y), some (.int (0 + (j : Int))), some (.int (q : Int)), none]) rfl ?_
        refine ⟨_, rfl, .str y, rfl, ⟨.inr ⟨y, ts, rfl, lx, yl, fun q2 hq2 l1 G7 _ s7 f1 => ?_, fun no => ?_⟩⟩⟩
        · have eq2 : q2 = q := by
            rw [hq] at hq2
            exact (Option.some.inj hq2).symm
          rw [eq2] at f1
          refine ⟨_, rfl, (by show 2 ≤ sizeLine; decide), fun l2 m2 => ?_⟩
          obtain ⟨G8, e8, s8, f8⟩ := mk_s (.lst [.str "at", .int (q : Int)]) m2
          rw [e8]
          refine ⟨(by show 2 ≤ sizeLine; decide), fun l3 m3 => ?_⟩
          obtain ⟨G9, e9, s9, f9⟩ := mk_s (.lst [.ref l2, .non]) m3
          rw [e9]
          have s89 := s8.trans s9
          refine ⟨_, rfl, rfl, .inr ⟨_, rfl, l3, _, _, .ref l2, rfl, rfl, SqL.of f9, rfl, ?_⟩⟩
          have dd : DpAll K G9 [.str "at", .int (q : Int)] [.str "at", .int (q : Int)] := .cons (.str _) (.cons (.int _) .nil)
          refine ⟨atD (.int (q : Int)), atD (.int (q : Int)), .lst (SqL.of (s89 _ _ f1)) dd, .lst (SqL.of (s9 _ _ f8)) dd, atD_shp _, atD_shp _, _, rfl, if_no (by rw [atD_eqv _ (atD_shp _)]; rfl) ?_⟩
          have sE := s6.trans (s7.trans s89)
          exact ⟨_, c4, _, _, rfl, yl, BG.trans (B5.trans (same_but sE)), P5.same sE, by omega⟩
        · rw [hq] at no
          cases no
      · refine gn1 (σ' := [some (.ref p), some (.str y), some (.int (0 + (j : Int))), some .non, none]) rfl ?_
        refine ⟨_, rfl, .str y, rfl, ⟨.inr ⟨y, ts, rfl, lx, yl, fun q2 hq2 => ?_, fun _ G7 s7 => ?_⟩⟩⟩
        · rw [hq] at hq2
          cases hq2
        · refine ⟨_, rfl, (by show 2 ≤ sizeLine; decide), fun l2 m2 => ?_⟩
          obtain ⟨G8, e8, s8, f8⟩ := mk_s (.lst [.str "at", .non]) m2
          rw [e8]
          refine ⟨(by show 2 ≤ sizeLine; decide), fun l3 m3 => ?_⟩
          obtain ⟨G9, e9, s9, f9⟩ := mk_s (.lst [.ref l2, .non]) m3
          rw [e9]
          refine ⟨_, rfl, rfl, .inr ⟨_, rfl, l3, _, _, .non, rfl, rfl, SqL.of f9, rfl, ?_⟩⟩
          refine ⟨.none, .none, .non, .non, by decide, by decide, _, rfl, if_no rfl ?_⟩
          have sE := s6.trans (s7.trans (s8.trans s9))
          exact ⟨_, c4, _, _, rfl, yl, BG.trans (B5.trans (same_but sE)), P5.same sE, by omega⟩
    · rintro σ G ⟨z, c', v2, v3, rfl, zl, BG, PG, kc⟩
      refine ⟨(by show 1 ≤ sizeLine; decide), fun b1 m1 => ?_⟩
      obtain ⟨G1, e1, s1, f1⟩ := mk_s (.lst [.str "a"]) m1
      rw [e1]
      refine ⟨(by show 1 ≤ sizeLine; decide), fun b2 m2 => ?_⟩
      obtain ⟨G2', e2, s2, f2⟩ := mk_s (.tup [.str "a"]) m2
      rw [e2]
      refine fun b3 m3 => ?_
      obtain ⟨G3', e3, s3, f3⟩ := mk_s (.dK []) m3
      rw [e3]
      refine ⟨(by show 6 ≤ sizeLine; decide), fun l4 m4 => ?_⟩
      obtain ⟨G4', e4, s4', f4⟩ := mk_s (.lst [.non, .int 5, .bl true, .ref b1, .ref b2, .ref b3]) m4
      rw [e4]
      have s14 := s1.trans (s2.trans (s3.trans s4'))
      have n4 : l4 ≠ p := (PG.same (s1.trans (s2.trans s3))).at m4
      have n1 : b1 ≠ p := PG.at m1
      have n2 : b2 ≠ p := (PG.same s1).at m2
      have n3 : b3 ≠ p := (PG.same (s1.trans s2)).at m3
      refine ⟨_, rfl, p, 6, c', rfl, PG.same s14, by omega, by decide, by decide, fun d3 c5 G5 g0 g1 k5 P5 B5 => ?_⟩
      have f45 := B5 _ _ n4 f4
      have six : ∃ y, atI [V.non, .int 5, .bl true, .ref b1, .ref b2, .ref b3] d3 = some y ∧ Kn G5 y ∧ ∀ z, y ≠ .str z := by
        obtain ⟨j, rfl⟩ : ∃ j : Nat, d3 = (j : Int) := ⟨d3.toNat, by omega⟩
        have lt : j < 6 := by omega
        match j, lt with
        | 0, _ => exact ⟨.non, rfl, trivial, nofun⟩
        | 1, _ => exact ⟨.int 5, rfl, trivial, nofun⟩
        | 2, _ => exact ⟨.bl true, rfl, trivial, nofun⟩
        | 3, _ => exact ⟨.ref b1, rfl, .inl ⟨_, B5 _ _ n1 (s4' _ _ (s3 _ _ (s2 _ _ f1)))⟩, nofun⟩
        | 4, _ => exact ⟨.ref b2, rfl, .inr (.inl ⟨_, B5 _ _ n2 (s4' _ _ (s3 _ _ f2))⟩), nofun⟩
        | 5, _ => exact ⟨.ref b3, rfl, .inr (.inr ⟨_, B5 _ _ n3 (s4' _ _ f3)⟩), nofun⟩
      obtain ⟨y, hy, kn, no⟩ := six
      refine ⟨l4, _, _, y, rfl, rfl, SqL.of f45, hy, ?_⟩
      refine gn1 (σ' := [some (.ref p), some (.str z), v2, v3, some y]) rfl ?_
      refine ⟨_, rfl, y, rfl, ⟨.inl ⟨kn, no, fun l G6 _ s6 f6 => ?_⟩⟩⟩
      refine ⟨(by show 2 ≤ sizeLine; decide), fun l5 m5 => ?_⟩
      obtain ⟨G7, e7, s7, f7⟩ := mk_s (.lst [.str "at", .non]) m5
      rw [e7]
      have dd : DpAll K G7 [.str "at", .non] [.str "at", .none] := .cons (.str _) (.cons .non .nil)
      refine ⟨atD .none, atD .none, .lst (SqL.of (s7 _ _ f6)) dd, .lst (SqL.of f7) dd, atN_shp, atN_shp, ?_⟩
      rw [atD_eqv _ atN_shp]
      have sE := s6.trans s7
      exact h.fin c5 G7 (by omega) (P5.same sE) (BG.trans ((same_but s14).trans (B5.trans (same_but sE))))
end
end G1
set_option maxHeartbeats 4000000
/-! ### the tokens of a given row of signs, worked out -/
namespace SY
open PySem PySem.Spec PyProof.Rows L2
def lexC : Nat → Nat → List Nat → List (Nat × Str)
  | 0, _, _ => []
  | _ + 1, _, [] => []
  | n + 1, i, c :: r =>
    if c = 32 then lexC n (i + 1) r
    else if isL c = true then (i, (⟨((c :: r).takeWhile isL).toArray⟩ : Str)) :: lexC n (i + ((c :: r).takeWhile isL).length) ((c :: r).dropWhile isL)
    else if c = 45 ∧ r.head? = some 62 then (i, (⟨#[45, 62]⟩ : Str)) :: lexC n (i + 2) r.tail
    else (i, (⟨#[c]⟩ : Str)) :: lexC n (i + 1) r
theorem lexC_ok : ∀ (n i : Nat) (s : List Nat), s.length ≤ n → Lex i s (lexC n i s) := by
  intro n
  induction n with
  | zero =>
    intro i s h
    rw [List.eq_nil_of_length_eq_zero (Nat.le_zero.mp h)]
    exact .nil
  | succ n ih =>
    intro i s h
    cases s with
    | nil => exact .nil
    | cons c r =>
      rw [List.length_cons] at h
      unfold lexC
      by_cases e : c = 32
      · rw [if_pos e, e]
        exact .blank (ih _ _ (by omega))
      · rw [if_neg e]
        by_cases l : isL c = true
        · rw [if_pos l]
          have eq : (c :: r).takeWhile isL ++ (c :: r).dropWhile isL = c :: r := List.takeWhile_append_dropWhile
          have pos : 0 < ((c :: r).takeWhile isL).length := by
            rw [List.takeWhile_cons, if_pos l]
            exact Nat.succ_pos _
          have len := congrArg List.length eq
          rw [List.length_append, List.length_cons] at len
          have b : TokC ((⟨((c :: r).takeWhile isL).toArray⟩ : Str)).cps.toList ((c :: r).dropWhile isL) := by
            refine .inl ⟨?_, ?_, ?_⟩
            · show (c :: r).takeWhile isL ≠ []
              rw [List.takeWhile_cons, if_pos l]
              exact nofun
            · intro d hd
              have q := List.all_takeWhile (l := c :: r) (p := isL)
              exact List.all_eq_true.mp q d hd
            · have q := List.head?_dropWhile_not isL (c :: r)
              cases z : (c :: r).dropWhile isL with
              | nil => rfl
              | cons d t =>
                rw [z] at q
                simpa [headL] using q
          have t := Lex.tok (i := i) (r := (c :: r).dropWhile isL) (ts := lexC n (i + ((c :: r).takeWhile isL).length) ((c :: r).dropWhile isL)) (⟨((c :: r).takeWhile isL).toArray⟩ : Str) b (by
            have e2 : (⟨((c :: r).takeWhile isL).toArray⟩ : Str).length = ((c :: r).takeWhile isL).length := strlen _
            rw [e2]
            exact ih _ _ (by omega))
          have e3 : (⟨((c :: r).takeWhile isL).toArray⟩ : Str).cps.toList ++ (c :: r).dropWhile isL = c :: r := eq
          rw [e3] at t
          exact t
        · rw [if_neg l]
          by_cases a : c = 45 ∧ r.head? = some 62
          · rw [if_pos a]
            obtain ⟨rfl, hr⟩ := a
            cases r with
            | nil => cases hr
            | cons d t =>
              have ed : d = 62 := Option.some.inj hr
              subst ed
              rw [List.length_cons] at h
              exact Lex.tok (i := i) (r := t) (⟨#[45, 62]⟩ : Str) (.inr (.inl rfl)) (ih _ _ (by omega))
          · rw [if_neg a]
            exact Lex.tok (i := i) (r := r) (⟨#[c]⟩ : Str) (.inr (.inr ⟨c, rfl, Bool.eq_false_iff.mpr l, e, a⟩)) (ih _ _ (by omega))
/-- where a given string cannot be read on -/
def placeC (z : Str) : Option Nat := placeO z.length (["end"], "saying") (lexC 400 0 z.cps.toList)
theorem place_ex : [("" : Str), "a b", "(a & b", "(a)", "a & b", "(a & b))", "not", "nota", "(a - > b)", "()", "(a -> b) c", "(a < b)"].map placeC = [some 0, some 2, some 6, some 2, some 2, some 7, some 3, some 0, some 3, some 1, some 9, some 3] := by decide +kernel
end SY
set_option maxHeartbeats 16000000
/-! ### a text so many times -/
namespace G1
open PySem PySem.Spec PyProof.Rows L2
theorem op_mulT {X : Cx} : OpR X (binaryOp .Mult) (fun x y H Q => ∃ (z : Str) (n : Int), x = .str z ∧ y = .int n ∧ MulOk z n ∧ Q (.str (Txt.mul z n)) H) := by
  intro pn st sl H x y v u Q I r1 r2 ask
  obtain ⟨z, n, rfl, rfl, ok, q⟩ := ask
  obtain ⟨t1, rfl⟩ := r1
  obtain ⟨t2, rfl⟩ := r2
  exact SB.mul ok fun _ _ => ⟨.str (Txt.mul z n), H, I.tok _, ⟨_, rfl⟩, q⟩
/-- so many blanks -/
def blanks : Nat → Str
  | 0 => ⟨#[]⟩ | 1 => ⟨#[32]⟩ | _ => ⟨#[32, 32]⟩
theorem blanks_codes : ∀ {n : Nat}, n ≤ 2 → (blanks n).cps.toList = List.replicate n 32
  | 0, _ => rfl
  | 1, _ => rfl
  | 2, _ => rfl
  | n + 3, h => by omega
theorem mul_blanks : ∀ {n : Nat}, n ≤ 2 → MulOk " " (n : Int) ∧ Txt.mul " " (n : Int) = blanks n
  | 0, _ => ⟨⟨by decide +kernel, by decide +kernel, by decide +kernel⟩, by decide +kernel⟩
  | 1, _ => ⟨⟨by decide +kernel, fun _ _ => by decide +kernel, fun _ _ => by decide +kernel⟩, by decide +kernel⟩
  | 2, _ => ⟨⟨by decide +kernel, fun _ _ => by decide +kernel, fun _ _ => by decide +kernel⟩, by decide +kernel⟩
  | n + 3, h => by omega
end G1
set_option maxHeartbeats 16000000
namespace G1
open PySem PySem.Spec PyProof.Rows L2 SY TXS OW
/-- what was caught, as a value; as data -/
def CaughtAt (G : Hp) (o : Option Nat) (v : V) : Prop := match o with
  | some p => ∃ a, v = .ref a ∧ G a = some (.lst [.str "at", .int (p : Int)])
  | none => v = .non
def cD : Option Nat → PyData
  | some p => atD (.int (p : Int))
  | none => .none
theorem CaughtAt.on {G G' : Hp} (s : Same G G') : ∀ {o : Option Nat} {v : V}, CaughtAt G o v → CaughtAt G' o v
  | some p, v, ⟨a, e, f⟩ => ⟨a, e, s _ _ f⟩
  | none, v, h => h
theorem CaughtAt.upd {G : Hp} {D : Addr} {x : HO} : ∀ {o : Option Nat} {v : V}, CaughtAt G o v → (∀ a, v = .ref a → a ≠ D) → CaughtAt (upd G D x) o v
  | some p, v, ⟨a, e, f⟩, n => ⟨a, e, (upd_ne (n a e)).trans f⟩
  | none, v, h, _ => h
theorem CaughtAt.not_str {G : Hp} : ∀ {o : Option Nat} {z : Str}, ¬ CaughtAt G o (.str z)
  | some p, z, ⟨a, e, _⟩ => by cases e
  | none, z, h => by cases h
theorem cas_ne {G : Hp} {D : Addr} : ∀ {os os' : List (Option Nat)} {vals vals' : List V}, G D = some (.lst vals') → Paired (CaughtAt G) os' vals' → Paired (CaughtAt G) os vals → ∀ v ∈ vals, ∀ a, v = .ref a → a ≠ D
  | _, _, _, _, _, _, .nil => fun _ z => (List.not_mem_nil z).elim
  | o :: os, os', v :: vals, vals', fD, pr, .cons h t => by
    intro u hu a ea ed
    rcases List.mem_cons.mp hu with e | e
    · subst e
      cases o with
      | none =>
        have z : u = .non := h
        rw [z] at ea
        cases ea
      | some p =>
        obtain ⟨a2, e2, f2⟩ := h
        rw [ea] at e2
        injection e2 with e2
        rw [← e2, ed, fD] at f2
        injection f2 with f2
        injection f2 with f2
        rw [f2] at pr
        cases pr with
        | cons h1 _ => exact CaughtAt.not_str h1
    · exact cas_ne fD pr t u e a ea ed
theorem cas_upd {G : Hp} {D : Addr} {x : HO} : ∀ {os : List (Option Nat)} {vals : List V}, Paired (CaughtAt G) os vals → (∀ v ∈ vals, ∀ a, v = .ref a → a ≠ D) → Paired (CaughtAt (upd G D x)) os vals
  | _, _, .nil, _ => .nil
  | _, _, .cons h t, n => .cons (h.upd (n _ List.mem_cons_self)) (cas_upd t fun v hv => n v (List.mem_cons_of_mem _ hv))
theorem cas_on {G G' : Hp} (s : Same G G') {os : List (Option Nat)} {vals : List V} (h : Paired (CaughtAt G) os vals) : Paired (CaughtAt G') os vals := paired_map (fun h => CaughtAt.on s h) h
theorem cas_dp {K : PySem.W.Frag} {G : Hp} : ∀ {os : List (Option Nat)} {vals : List V}, Paired (CaughtAt G) os vals → DpAll K G vals (os.map cD)
  | _, _, .nil => .nil
  | some p :: _, _, .cons ⟨a, e, f⟩ t => by
    rw [e]
    exact .cons (.lst (SqL.of f) (.cons (.str _) (.cons (.int _) .nil))) (cas_dp t)
  | none :: _, _, .cons h t => by
    have z : _ = V.non := h
    rw [z]
    exact .cons .non (cas_dp t)
section
variable {K : PySem.W.Frag} {G : Hp} {Q : VK} {l : Addr} {zs : List Str} {a0 a1 a2 a3 a4 a5 : Option V}
theorem caughts_ok (fl : G l = some (.lst (zs.map V.str))) (all : ∀ z ∈ zs, z.length ≤ 400) (few : zs.length ≤ 100) (q : ∀ D G' vals, Same G G' → G' D = some (.lst vals) → Paired (CaughtAt G') (zs.map placeC) vals → Q (.ref D) G') :
    tLc (iList K (tVar 4)) (gName 6) tYes (tCall spCaught [] E0 (tCons (tVar 6) tNil)) [6] [a0, a1, a2, a3, some (.ref l), a5, none, none] G Q := by
  refine ⟨_, rfl, l, rfl, ⟨_, SqL.of fl⟩, fun D nD => ?_⟩
  have nDG : G D = none := nD
  refine lc_list (K := K) (a := l) (xs := zs.map V.str) (fun i G' => Same G G' ∧ ∃ vals, G' D = some (.lst vals) ∧ Paired (CaughtAt G') ((zs.take i).map placeC) vals) ⟨same_at nDG (Same.refl _), [], upd_same, .nil⟩ (fun i G' _ h => SqL.of (h.1 _ _ fl)) ?_ ?_
  · rintro i x G' hx ⟨sG, vals, fD, pr⟩
    rw [List.getElem?_map] at hx
    obtain ⟨z, hz, rfl⟩ := Option.map_eq_some_iff.mp hx
    have zl := all z (List.mem_of_getElem? hz)
    have lv := Paired.length pr
    rw [List.length_map, List.length_take] at lv
    refine ⟨rfl, yes_to ?_⟩
    rw [if_pos rfl]
    have next : ∀ (y : V) (G2 : Hp), Same G' G2 → CaughtAt G2 (placeC z) y → (∀ b, y = .ref b → b ≠ D) → ∃ acc, G2 D = some (.lst acc) ∧ acc.length < sizeLine ∧ Same G (upd G2 D (.lst (acc ++ [y]))) ∧ ∃ vals, upd G2 D (.lst (acc ++ [y])) D = some (.lst vals) ∧ Paired (CaughtAt (upd G2 D (.lst (acc ++ [y])))) ((zs.take (i + 1)).map placeC) vals := fun y G2 s2 cy ny => by
      have f2 := s2 _ _ fD
      have p2 := cas_on s2 pr
      refine ⟨vals, f2, by rw [sizeLine_eq]; omega, same_new nDG (sG.trans s2), vals ++ [y], upd_same, ?_⟩
      rw [take_next hz, List.map_append]
      exact paired_app (cas_upd p2 (cas_ne f2 p2 p2)) (.cons (cy.upd ny) .nil)
    have lx := lexC_ok 400 0 z.cps.toList (by rw [← zlen]; exact zl)
    refine ⟨_, rfl, .str z, rfl, ⟨.inr ⟨z, _, rfl, lx, zl, fun p hp l2 G2 n2 s2 f2 => ?_, fun hp G2 s2 => ?_⟩⟩⟩
    · have ep : placeC z = some p := hp
      refine next _ G2 s2 (by rw [ep]; exact ⟨l2, rfl, f2⟩) fun b eb => ?_
      injection eb with eb
      rw [← eb]
      exact (ne_of_none fD n2).symm
    · have ep : placeC z = none := hp
      exact next _ G2 s2 (by rw [ep]; rfl) fun b eb => by cases eb
  · rintro G' ⟨sG, vals, fD, pr⟩
    rw [List.length_map, List.take_length] at pr
    exact q D G' vals sG fD pr
theorem ats_ok {tt : TE} {ps : List Nat} (few : ps.length ≤ 100) (ht : ∀ {Q : VK}, (∀ tp G1, Same G G1 → SqT K G1 tp (ps.map fun p : Nat => V.int (p : Int)) → Q (.ref tp) G1) → tt [a0, a1, a2, a3, a4, a5, none, none] G Q)
    (q : ∀ D G' vals, Same G G' → G' D = some (.lst vals) → Paired (CaughtAt G') (ps.map some) vals → Q (.ref D) G') :
    tLc (iTup K tt) (gName 7) tYes (tLst (tCons (tC (.str "at")) (tCons (tVar 7) tNil))) [7] [a0, a1, a2, a3, a4, a5, none, none] G Q := by
  refine ht fun tp G1 s1 ft => ?_
  refine ⟨tp, rfl, ⟨_, ft⟩, fun D nD => ?_⟩
  have nDG : G1 D = none := nD
  refine lc_tup (K := K) (xs := ps.map fun p : Nat => V.int (p : Int)) (fun i G' => Same G1 G' ∧ ∃ vals, G' D = some (.lst vals) ∧ Paired (CaughtAt G') ((ps.take i).map some) vals) ⟨same_at nDG (Same.refl _), [], upd_same, .nil⟩ (fun i G' _ h => tup_on ft h.1) ?_ ?_
  · rintro i x G' hx ⟨sG, vals, fD, pr⟩
    rw [List.getElem?_map] at hx
    obtain ⟨p, hp, rfl⟩ := Option.map_eq_some_iff.mp hx
    have lv := Paired.length pr
    rw [List.length_map, List.length_take] at lv
    refine ⟨rfl, yes_to ?_⟩
    rw [if_pos rfl]
    refine ⟨_, rfl, (by show 2 ≤ sizeLine; decide), fun l2 n2 => ?_⟩
    obtain ⟨G2, e2, s2, f2⟩ := mk_s (.lst [.str "at", .int (p : Int)]) n2
    rw [e2]
    have fD2 := s2 _ _ fD
    have p2 := cas_on s2 pr
    refine ⟨vals, fD2, by rw [sizeLine_eq]; omega, same_new nDG (sG.trans s2), vals ++ [.ref l2], upd_same, ?_⟩
    rw [take_next hp, List.map_append]
    have n2' : l2 ≠ D := (ne_of_none fD n2).symm
    exact paired_app (cas_upd p2 (cas_ne fD2 p2 p2)) (.cons (CaughtAt.upd (o := some p) ⟨l2, rfl, f2⟩ fun b eb => by injection eb with eb; rw [← eb]; exact n2') .nil)
  · rintro G' ⟨sG, vals, fD, pr⟩
    rw [List.length_map, List.take_length] at pr
    exact q D G' vals (s1.trans sG) fD pr
theorem eqv_of {d : PyData} (h : SeqAt.shaped d = true) : (!PyData.eqv d d) = false := by rw [SeqAt.eqv_refl _ (SeqAt.canLay_of_shaped h)]; rfl
def tCaughts (K : PySem.W.Frag) : TE := tLc (iList K (tVar 4)) (gName 6) tYes (tCall spCaught [] E0 (tCons (tVar 6) tNil)) [6]
def tAts (K : PySem.W.Frag) (tt : TE) : TE := tLc (iTup K tt) (gName 7) tYes (tLst (tCons (tC (.str "at")) (tCons (tVar 7) tNil))) [7]
theorem seq_cmp {b : TS} {D0 : Ends} {tt : TE} {ps : List Nat} (fl : G l = some (.lst (zs.map V.str))) (all : ∀ z ∈ zs, z.length ≤ 400) (few : zs.length ≤ 100) (cz : zs.map placeC = ps.map some) (fp : ps.length ≤ 100) (shp : SeqAt.shaped (.list ((ps.map some).map cD)) = true)
    (ht : ∀ {G0 : Hp} {Q : VK}, (∀ tp G1, Same G0 G1 → SqT K G1 tp (ps.map fun p : Nat => V.int (p : Int)) → Q (.ref tp) G1) → tt [a0, a1, a2, a3, some (.ref l), a5, none, none] G0 Q)
    (q : ∀ G', Same G G' → b D0 [a0, a1, a2, a3, some (.ref l), a5, none, none] G') :
    tSeq (tIfS (tTest (tOp (rNeD K) (tCaughts K) (tAts K tt))) (tRet (tC (.bl false))) tNext) b D0 [a0, a1, a2, a3, some (.ref l), a5, none, none] G := by
  have go1 : ∀ {Q : VK}, (∀ D G' vals, Same G G' → G' D = some (.lst vals) → Paired (CaughtAt G') (zs.map placeC) vals → Q (.ref D) G') → tCaughts K [a0, a1, a2, a3, some (.ref l), a5, none, none] G Q := fun {Q} q => caughts_ok fl all few q
  have go2 : ∀ {G0 : Hp} {Q : VK}, (∀ D G' vals, Same G0 G' → G' D = some (.lst vals) → Paired (CaughtAt G') (ps.map some) vals → Q (.ref D) G') → tAts K tt [a0, a1, a2, a3, some (.ref l), a5, none, none] G0 Q := fun {G0 Q} q => ats_ok fp (fun go => ht go) q
  unfold tSeq tIfS tTest tOp
  refine go1 fun D1 A1 w1 u1 g1 p1 => ?_
  refine go2 fun D2 A2 w2 u2 g2 p2 => ?_
  rw [cz] at p1
  exact ⟨.list ((ps.map some).map cD), .list ((ps.map some).map cD), .lst (SqL.of (u2 _ _ g1)) (cas_dp (cas_on u2 p1)), .lst (SqL.of g2) (cas_dp p2), shp, shp, _, rfl, if_no (eqv_of shp) (q A2 (u1.trans u2))⟩
end
end G1
set_option maxHeartbeats 16000000
namespace G1
open PySem PySem.Spec PyProof.Rows L2 SY TXS OW
def ex12 : List Str := ["", "a b", "(a & b", "(a)", "a & b", "(a & b))", "not", "nota", "(a - > b)", "()", "(a -> b) c", "(a < b)"]
def pl12 : List Nat := [0, 2, 6, 2, 2, 7, 3, 0, 3, 1, 9, 3]
def deep : Str := (Txt.mul "(" 60 ++ "a") ++ Txt.mul " & a)" 60
def ex4 : List Str := [("(" ++ deep) ++ " & a)", "(a & a" ++ Txt.mul ")" 3, Txt.mul "(a&a)" 2, "((a&a)&" ++ Txt.mul "(" 60]
def pl4 : List Nat := [60, 7, 5, 66]
def ex1 : Str := (Txt.mul "(" 60 ++ "not (a & a)") ++ Txt.mul " & a)" 60
def ex3 : List Str := [Txt.mul "not " 60 ++ "(a & b)", ((Txt.mul "not " 40 ++ Txt.mul "(" 30) ++ "a") ++ Txt.mul "&a)" 30, (Txt.mul "(" 59 ++ "not (a & a)") ++ Txt.mul " & a)" 59]
def ex0 : Str := Txt.mul "not " 99 ++ "a"
theorem c12 : ex12.map placeC = pl12.map some := by decide +kernel
theorem c4 : ex4.map placeC = pl4.map some := by decide +kernel
theorem c1' : placeC ex1 = some 64 := by decide +kernel
theorem c3 : ex3.map placeC = [none, none, none] := by decide +kernel
theorem c0' : placeC ex0 = none := by decide +kernel
theorem cd' : placeC deep = none := by decide +kernel
theorem l12 : ∀ z ∈ ex12, z.length ≤ 400 := by decide +kernel
theorem l4 : ∀ z ∈ ex4, z.length ≤ 400 := by decide +kernel
theorem l3 : ∀ z ∈ ex3, z.length ≤ 400 := by decide +kernel
theorem l1' : ex1.length ≤ 400 := by decide +kernel
theorem l0' : ex0.length ≤ 400 := by decide +kernel
theorem ld' : deep.length ≤ 400 := by decide +kernel
theorem shp12 : SeqAt.shaped (.list ((pl12.map some).map cD)) = true := by decide +kernel
theorem shp4 : SeqAt.shaped (.list ((pl4.map some).map cD)) = true := by decide +kernel
theorem shp3 : SeqAt.shaped (.list [.none, .none, .none]) = true := by decide +kernel
end G1
set_option maxHeartbeats 8000000
namespace G1
open PySem PySem.Spec PyProof.Rows L2
/-! ### what the head tells -/
def oexB (K : PySem.W.Frag) (C : Addr) : Bool :=
  (match K.lookup C with
  | some ⟨.type "type", _, .cls info, slots⟩ =>
    (match info.mro, slots.toList with
    | .ref first :: rest, [_, _, _, _, some (.builtin maker), _] => first == C && (maker == "ValueError.__new__" && (!info.hasDel && (PySem.HandSPX.refsVE rest && info.hasDict)))
    | _, _ => false)
  | _ => false) && (He.eqO (PySem.W.findIn K (.ref C) "__setattr__") (some (some (.builtin "object.__setattr__"))) && (decide (PySem.W.subIn K (.ref C) (.type "BaseException") = some true) && (decide (PySem.W.typeIn K (.ref C) = some (.type "type")) && PySem.W.keepIn K (.ref C))))
theorem oexB_ok {K : PySem.W.Frag} {C : Addr} (h : oexB K C = true) : OexC K C := by
  obtain ⟨laid, h⟩ := He.ba h
  obtain ⟨stores, h⟩ := He.ba h
  obtain ⟨below, h⟩ := He.ba h
  obtain ⟨kind, keeps⟩ := He.ba h
  refine ⟨?_, He.eqO_ok stores, of_decide_eq_true below, of_decide_eq_true kind, keeps⟩
  split at laid
  · rename_i own info slots stands
    split at laid
    · rename_i first rest s0 s1 s2 s3 maker s5 order made
      obtain ⟨g1, laid⟩ := He.ba laid
      obtain ⟨g2, laid⟩ := He.ba laid
      obtain ⟨g3, laid⟩ := He.ba laid
      obtain ⟨g4, g5⟩ := He.ba laid
      have e1 := eq_of_beq g1
      have e2 := eq_of_beq g2
      subst e1 e2
      obtain ⟨nm, bs, mro, ns, qn, hasDict, sn, sub, ab, col, hasDel⟩ := info
      cases hasDel with
      | true => cases g3
      | false =>
        cases hasDict with
        | false => cases g5
        | true =>
          cases order
          obtain ⟨l⟩ := slots
          cases made
          exact ⟨nm, qn, ns, bs, rest, sn, sub, ab, col, own, s0, s1, s2, s3, s5, stands, g4⟩
    · cases laid
  · cases laid
/-- an error of one field, x -/
def errB (nm x : Str) (K : PySem.W.Frag) : Bool :=
  oexB K (He.ga K nm) && (xfB K (He.ga K nm) && (He.eqO (PySem.W.findIn K (.ref (He.ga K nm)) x) (some none) && (He.eqO (PySem.W.findIn K (.ref (He.ga K nm)) "__init__") (some (some (.ref (He.ma K (He.ga K nm) "__init__")))) &&
  (decide (PySem.W.typeIn K (.ref (He.ma K (He.ga K nm) "__init__")) = some (.type "function")) && decide (PySem.W.exmOne K (.ref (He.ga K nm)) (.ref (He.ga K nm)) = some true)))))
theorem errB_ok {K : PySem.W.Frag} {mg : Str → Option Value} {nm x qual : Str} {st : Stmt} (h : errB nm x K = true) (g : mg nm = some (.ref (He.ga K nm)))
    (fn : ∃ fd, FunD K "__init__" qual (defArgs st) (defBody st) (defScope st) [] [] (He.ma K (He.ga K nm) "__init__") fd) : ErrG K mg nm x qual st (He.ga K nm) (He.ma K (He.ga K nm) "__init__") := by
  obtain ⟨h1, h⟩ := He.ba h
  obtain ⟨h2, h⟩ := He.ba h
  obtain ⟨h3, h⟩ := He.ba h
  obtain ⟨h4, h⟩ := He.ba h
  obtain ⟨h5, h6⟩ := He.ba h
  exact ⟨oexB_ok h1, xfB_ok h2, g, He.eqO_ok h3, He.eqO_ok h4, of_decide_eq_true h5, of_decide_eq_true h6, fn⟩
def sysB (K : PySem.W.Frag) : Bool := (K.lookup sysModules).isSome
def gcdB (K : PySem.W.Frag) : Bool := He.eqO (PySem.W.nsIn K mainGlobals "gcd") (some (some (.builtin "math.gcd")))
/-- a class of one's own, as isinstance, == and format look at it -/
def ownB (nm : Str) (K : PySem.W.Frag) : Bool :=
  He.eqO (PySem.W.findIn K (.ref (He.ga K nm)) "__ne__") (some (some (.builtin "object.__ne__"))) && (decide (PySem.W.mroIn K (He.ga K nm) (.type "object") = some true) &&
  (PySem.W.selfFirst K (He.ga K nm) && (He.eqO (PySem.W.findIn K (.ref (He.ga K nm)) "__class__") (some (some (.builtin "object.__class__"))) &&
  (He.eqO (PySem.W.specialIn K (.builtin "object.__class__") "__get__") (some (some (.builtin "getset_descriptor.__get__"))) && (decide (PySem.W.takesIn K (.builtin "object.__class__") = some true) &&
  ((["NoneType", "bool", "int", "str", "list", "tuple", "dict"].all fun n => decide (PySem.W.kitOne K (.type n) (.ref (He.ga K nm)) = some false)) && He.eqO (PySem.W.findIn K (.ref (He.ga K nm)) "__format__") (some (some (.builtin "object.__format__")))))))))
theorem ownB_ok {K : PySem.W.Frag} {nm : Str} (h : ownB nm K = true) : OwnF K (He.ga K nm) := by
  obtain ⟨h1, h⟩ := He.ba h
  obtain ⟨h2, h⟩ := He.ba h
  obtain ⟨h3, h⟩ := He.ba h
  obtain ⟨h4, h⟩ := He.ba h
  obtain ⟨h5, h⟩ := He.ba h
  obtain ⟨h6, h⟩ := He.ba h
  obtain ⟨h7, h8⟩ := He.ba h
  exact ⟨He.eqO_ok h1, of_decide_eq_true h2, h3, He.eqO_ok h4, He.eqO_ok h5, of_decide_eq_true h6, fun n hn => of_decide_eq_true (List.all_eq_true.mp h7 n hn), He.eqO_ok h8⟩
/-- a table of the top, its values by key -/
def tabB (x : Str) (kvs : List (Str × He.Dv)) (K : PySem.W.Frag) : Bool := He.valsB K (He.ga K x) kvs
theorem tab_kd {K : PySem.W.Frag} {w : World} {x : Str} {kvs : List (Str × He.Dv)} (h : tabB x kvs K = true) (t : ∃ es n, KDict K w (He.ga K x) es n) {q : Str × He.Dv} (hq : q ∈ kvs) : KDct K w (He.ga K x) q.1 (q.2.v K) := by
  obtain ⟨es, n, D⟩ := t
  obtain ⟨u, h1, h2⟩ := He.valsB_ok h hq
  exact ⟨es, n, u, D.at_, D.lit, h1, h2⟩
/-- strings that are no keys of a table of the top -/
def offB (x : Str) (zs : List Str) (K : PySem.W.Frag) : Bool := zs.all fun z => He.eqO (PySem.W.nsIn K (He.ga K x) z) (some none)
theorem offB_ok {K : PySem.W.Frag} {x : Str} {zs : List Str} (h : offB x zs K = true) : ∀ z ∈ zs, PySem.W.nsIn K (He.ga K x) z = some none := fun z hz => He.eqO_ok (List.all_eq_true.mp h z hz)
/-- the only keys of a table of the top -/
def keysB (x : Str) (ks : List Str) (K : PySem.W.Frag) : Bool := match K.lookup (He.ga K x) with
  | some ⟨_, _, .dict es _, _⟩ => es.toList.all fun e => (ks.any fun k => e.key.isStr k) && !e.refKey
  | _ => false
theorem key_of {v : Value} {a b : Str} (h1 : v.isStr a = true) (h2 : v.isStr b = true) : a = b := by
  cases v with
  | str s t =>
    have e1 : (s == a) = true := h1
    have e2 : (s == b) = true := h2
    exact (beq_iff_eq.mp e1).symm.trans (beq_iff_eq.mp e2)
  | _ => cases h1
theorem keysB_ok {K : PySem.W.Frag} {x : Str} {ks : List Str} (h : keysB x ks K = true) : ∀ z, z ∉ ks → PySem.W.nsIn K (He.ga K x) z = some none := by
  intro z hz
  unfold keysB at h
  unfold PySem.W.nsIn
  split at h
  · rename_i q
    rw [q]
    have all := List.all_eq_true.mp h
    rename_i es _ _
    have f1 : es.toList.find? (·.key.isStr z) = none := by
      rw [List.find?_eq_none]
      intro e he hk
      have a := (He.ba (all e he)).1
      obtain ⟨k, hk1, hk2⟩ := List.any_eq_true.mp a
      exact hz (key_of hk hk2 ▸ hk1)
    have f2 : es.toList.any (·.refKey) = false := by
      rw [List.any_eq_false]
      intro e he hr
      have a := (He.ba (all e he)).2
      rw [hr] at a
      cases a
    show (match es.toList.find? (·.key.isStr z) with | some e => some (some e.val) | none => if es.toList.any (·.refKey) then none else some none) = some none
    rw [f1, f2]
    rfl
  · cases h
/-- an empty tuple -/
def emptB (K : PySem.W.Frag) (a : Addr) : Bool := match K.lookup a with
  | some ⟨.type c, _, .seq its _, _⟩ => decide (c = "tuple") && (decide (its.size ≤ sizeLine) && He.relAll [] its.toList)
  | _ => false
theorem emptB_ok {K : PySem.W.Frag} {a : Addr} (h : emptB K a = true) (H : Hp) : SqT K H a [] := by
  unfold emptB at h
  split at h
  · rename_i c dk its n sl q
    obtain ⟨h1, h2⟩ := He.ba h
    obtain ⟨h3, h4⟩ := He.ba h2
    exact .inr ⟨_, its, n, q, congrArg Value.type (of_decide_eq_true h1), rfl, of_decide_eq_true h3, He.relAll_ok h4⟩
  · cases h
abbrev Ex : Type := PySem.W.Frag → Bool
def obsX (fa : List He.Fa) (fn : List He.DefD) (ts : List He.Tab) (ex : List Ex) (K : PySem.W.Frag) : He.AlT :=
  (((ex.all fun e => e K) && (He.obsT fa fn ts K).1.1, (He.obsT fa fn ts K).1.2), (He.obsT fa fn ts K).2)
def frX (n : Nat) (g : Addr → Option Obj) : PySem.W.Frag := He.frG g (sysModules :: He.asD g n)
/-- what of the program's top the proof leans on -/
structure Told (fa : List He.Fa) (fn : List He.DefD) (ts : List He.Tab) (ex : List Ex) (w : World) (K : PySem.W.Frag) : Prop where
  more : ∀ e ∈ ex, e K = true
  says : He.SaysT fa fn ts w K
theorem Told.ex {fa : List He.Fa} {fn : List He.DefD} {ts : List He.Tab} {ex : List Ex} {w : World} {K : PySem.W.Frag} (t : Told fa fn ts ex w K) (i : Nat) {e : Ex} (h : ex[i]? = some e := by rfl) : e K = true := t.more e (List.mem_of_getElem? h)
def hookX (n : Nat) (fa : List He.Fa) (fn : List He.DefD) (ts : List He.Tab) (ex : List Ex) : PySem.W.Hook where
  α := He.AlT
  obs := fun s => obsX fa fn ts ex (frX n s.heap.get?)
  val := fun w => He.valT fn ts w
  says := fun w h => ∃ K : PySem.W.Frag, K.In h ∧ Told fa fn ts ex w K
  of := fun w s e => by
    have e1 : ((ex.all fun e => e (frX n s.heap.get?)) && (He.obsD fa fn (frX n s.heap.get?)).1) = true := congrArg (fun z : He.AlT => z.1.1) e
    have e2 : (He.obsD fa fn (frX n s.heap.get?)).2 = fn.map He.DefD.val := congrArg (fun z : He.AlT => z.1.2) e
    have e0 : obsX fa fn ts ex (frX n s.heap.get?) = He.valT fn ts w := e
    have e3 := congrArg (fun z : He.AlT => z.2) e0
    obtain ⟨h1, h2⟩ := He.ba e1
    exact ⟨frX n s.heap.get?, He.frG_in, fun x hx => List.all_eq_true.mp h1 x hx, Prod.ext (Prod.ext h2 e2) e3⟩
  keeps := fun _ _ _ z k => z.elim fun K c => ⟨K, PySem.W.Frag.In.keeps c.1 k, c.2⟩
def dd (x : Str) (st : Stmt) : He.DefD := ⟨(x, none), x, x, defArgs st, defBody st, defScope st, [], []⟩
def dm (C m q : Str) (st : Stmt) (dfl : List He.Dv) : He.DefD := ⟨(C, some m), m, q, defArgs st, defBody st, defScope st, dfl, []⟩
def obX (n : Nat) (fa : List He.Fa) (fn : List He.DefD) (ts : List He.Tab) (ex : List Ex) (s : PySem.W.SharedT) : He.AlT := obsX fa fn ts ex (frX n (HandSHeadRun.getT s))
theorem obX_eq {n : Nat} {fa : List He.Fa} {fn : List He.DefD} {ts : List He.Tab} {ex : List Ex} (s : PySem.W.SharedT) : obX n fa fn ts ex s = (hookX n fa fn ts ex).obs s.abs := by
  have e : HandSHeadRun.getT s = s.abs.heap.get? := funext (HandSHeadRun.getT_eq s)
  show obsX fa fn ts ex (frX n (HandSHeadRun.getT s)) = obsX fa fn ts ex (frX n s.abs.heap.get?)
  rw [e]
section
variable {fa : List He.Fa} {fn : List He.DefD} {ts : List He.Tab} {ex : List Ex} {w : World} {K : PySem.W.Frag} {h : Heap} {mg : Str → Option Value}
theorem at_def (X : K.In h) (G : h.Ns mainGlobals mg) (t : Told fa fn ts ex w K) {x : Str} {st : Stmt} (i j : Nat) (hi : fn[i]? = some (dd x st)) (hj : fa[j]? = some (.glo x)) : DefAt K mg x st := by
  obtain ⟨fd, F⟩ := t.says.d.def_ i hi
  exact ⟨He.ga K x, fd, F, He.glo_ok X G (t.says.d.fact j hj)⟩
theorem at_meth (t : Told fa fn ts ex w K) {C m q : Str} {st : Stmt} (i j : Nat) (hi : fn[i]? = some (dm C m q st [])) (hj : fa[j]? = some (.meth C m)) :
    ∃ (f : Addr) (fd : FuncData), Meth K (He.ga K C) m f ∧ FunD K m q (defArgs st) (defBody st) (defScope st) [] [] f fd := by
  obtain ⟨fd, F⟩ := t.says.d.def_ i hi
  exact ⟨_, fd, He.meth_ok (t.says.d.fact j hj), F⟩
end
theorem walk_ofG {l : PySem.W.OpenLaw} {n k : Nat} {q : Program} {loose : List Str} {XP : (Str → Option Value) → Heap → Prop} {YP : World → Heap → Prop} {d : DefRec} {x : Str} (hn : l.most = some n) (hn2 : n ≤ sizeLine) (hdf : d.params.defaults = []) (hr : Room k callerA)
    (all : ∀ (w : World) (mg : Str → Option Value) (fa : Addr) (h : Heap), YP w h → h.Ns mainGlobals mg → mg d.name = some (.ref fa) →
      ∃ (K : PySem.W.Frag) (fd : FuncData) (sp : Sp), K.In h ∧ (∀ (s : Shared) (u : Value), BindsTo s fd ⟨[u], []⟩ [(x, u)]) ∧ (∀ (H : Hp) (a : Addr) (ns : List Int), ns.length ≤ n → SqL K H a (ns.map V.int) → sp [.ref a] H (fun v _ => v = .bl true) E0) ∧
        ∀ base : Heap, K.In base → base.Ns mainGlobals mg → FnG CX0 l.prog w K mg base k fa fd [x] sp) : PySem.W.WalkO q loose XP YP l.row.toRowW d [] (fun f vs => PySem.call f vs) := by
  refine Att.attach_call hn hdf ?_
  intro w s₀ s₁ mg mb fa o pm cd doc a vs ns G Y ho hd hcd hmg hobj hints hlen hg
  obtain ⟨K, fd, sp, KX, hb, hsp, hF⟩ := all w mg fa _ Y G.T.g hmg
  exact law_callG KX G.T.g G.T.b G.T.builtins G.T.nolimit hg hobj hints (Nat.le_trans hlen hn2) hr hF hb (fun H hS => hsp H a ns hlen hS)
end G1
set_option maxHeartbeats 16000000
namespace G1
open PySem PySem.Spec PyProof.Rows L2 SY TXS OW
theorem FnG.of {CX : CXT} {P : Program} {w : World} {K : PySem.W.Frag} {mg : Str → Option Value} {base : Heap} {k : Nat} {f : Addr} {fd : FuncData} {ps : List Str} {sp : Sp} (F : FnOk P w K mg base CX k f fd ps sp) : FnG CX P w K mg base k f fd ps sp :=
  ⟨F.len, fun A outer s H args us vs Q E _ room env bind rel ask => F.run A outer s H args us vs Q E room env bind rel ask⟩
def spLawR (K : PySem.W.Frag) : Sp := fun vs H Q _ => ∃ (a : Addr) (ns : List Int), vs = [.ref a] ∧ SqL K H a (ns.map V.int) ∧ ns.length ≤ 63 ∧ ∀ H', Q (.bl true) H'
theorem seq_cmpN {K : PySem.W.Frag} {G : Hp} {l : Addr} {zs : List Str} {a0 a1 a2 a3 a5 : Option V} {b : TS} {D0 : Ends} (fl : G l = some (.lst (zs.map V.str))) (all : ∀ z ∈ zs, z.length ≤ 400) (few : zs.length ≤ 100) (cz : zs.map placeC = [none, none, none])
    (q : ∀ G', Same G G' → b D0 [a0, a1, a2, a3, some (.ref l), a5, none, none] G') :
    tSeq (tIfS (tTest (tOp (rNeD K) (tCaughts K) (tOp rRep (tLst (tCons (tC .non) tNil)) (tC (.int 3))))) (tRet (tC (.bl false))) tNext) b D0 [a0, a1, a2, a3, some (.ref l), a5, none, none] G := by
  have go1 : ∀ {Q : VK}, (∀ D G' vals, Same G G' → G' D = some (.lst vals) → Paired (CaughtAt G') (zs.map placeC) vals → Q (.ref D) G') → tCaughts K [a0, a1, a2, a3, some (.ref l), a5, none, none] G Q := fun {Q} q => caughts_ok fl all few q
  unfold tSeq tIfS tTest tOp
  refine go1 fun D1 A1 w1 u1 g1 p1 => ?_
  rw [cz] at p1
  refine ⟨(by show 1 ≤ sizeLine; decide), fun l1 n1 => ?_⟩
  obtain ⟨A2, e2, s2, f2⟩ := mk_s (.lst [.non]) n1
  rw [e2]
  refine ⟨l1, 3, [.non], rfl, rfl, f2, by decide, by decide, by decide, fun p np => ?_⟩
  obtain ⟨A3, e3, s3, f3⟩ : ∃ A3, upd A2 p (.lst (List.replicate (3 : Int).toNat [V.non]).flatten) = A3 ∧ Same A2 A3 ∧ A3 p = some (.lst [.non, .non, .non]) := ⟨_, rfl, same_at np (Same.refl _), upd_same⟩
  rw [e3]
  have dn : DpAll K A3 [.non, .non, .non] [.none, .none, .none] := .cons .non (.cons .non (.cons .non .nil))
  have s23 := s2.trans s3
  exact ⟨.list [.none, .none, .none], .list [.none, .none, .none], .lst (SqL.of (s23 _ _ g1)) (cas_dp (cas_on s23 p1)), .lst (SqL.of f3) dn, shp3, shp3, _, rfl, if_no (eqv_of shp3) (q A3 (u1.trans s23))⟩
section
variable {P : Program} {w : World} {K : PySem.W.Frag} {mg : Str → Option Value} {base : Heap} {C : Addr}
abbrev nLaw : List Str := ["script", "at", "purse", "turn", "some", "deep", "one", "spot"]
theorem scLaw : FnScope nLaw ["script"] (defScope sLaw) := ⟨rfl, rfl, rfl, by decide +kernel, rfl, by decide +kernel, by decide +kernel⟩
theorem ok_law {f : Addr} {fd : FuncData} (F : FnP K "law" sLaw f fd) (B : Blt mg) (cP : Cl CX0 P w K mg base 1 "_law_purse" ["cells", "at"] (spPurse K)) (cR : Cl CX0 P w K mg base 25 "_law_right" ["purse"] spRight)
    (cCa : Cl CX0 P w K mg base 10 "_law_caught" ["string"] spCaught) : FnOk P w K mg base CX0 26 f fd ["script"] (spLawR K) := by
  refine F.ok scLaw (fun vs H Q E h => ?_) (fun cdv A outer s H vs Q E hr h => ⟨_, PSs.nox (pss_cons (ps_for PassesOwn.never rfl (pi_range1 (by rfl) B.range (pa_cons (pe_op op_add pe_int (pe_callB (call_min2 rfl) (by rfl) B.min (by decide +kernel) (pa_cons pe_int (pa_cons (pe_callB call_len_seq (by rfl) B.len PySem.boot_len (pa_cons (pv 0) pa_nil)) pa_nil)))) pa_nil)) (pg_name (i := 1) scLaw.nd rfl (Or.inl rfl))
        (pss_cons (ps_set (i := 2) scLaw.nd rfl (Or.inl rfl) (pe_c0 cP hr (by decide) (by rfl) (pa_cons (pv 0) (pa_cons (pv 1) pa_nil))))
      (pss_one (ps_for PassesOwn.never rfl (pi_range1 (by rfl) B.range (pa_cons pe_int pa_nil)) (pg_name (i := 3) scLaw.nd rfl (Or.inl rfl))
        (pss_one (ps_if (pt_not (pt_val (pe_c0 cR hr (by decide) (by rfl) (pa_cons (pv 2) pa_nil)))) (pss_one (ps_ret pe_bl)) pss_nil))))))
      (pss_cons (ps_set (i := 4) scLaw.nd rfl (Or.inl rfl) (pe_lst (pa_cons pe_str (pa_cons pe_str (pa_cons pe_str (pa_cons pe_str (pa_cons pe_str (pa_cons pe_str (pa_cons pe_str (pa_cons pe_str (pa_cons pe_str (pa_cons pe_str (pa_cons pe_str (pa_cons pe_str pa_nil))))))))))))))
      (pss_cons (ps_if (pt_cmpR (op_neD hr.units) (pe_lc (own := [("one", 6)]) (g := gName 6) (tt := tYes) (te := tCall spCaught [] E0 (tCons (tVar 6) tNil)) (by rfl) scLaw.nd (pi_list (pv 4)) (blkOk_by (N := nLaw) (sc := defScope sLaw) (by decide +kernel))
              (fun _ _ _ _ _ => pg_name (i := 6) scLaw.nd rfl (Or.inl rfl)) (fun _ _ _ _ _ => pts_nil) (fun _ _ _ _ _ => (pe_c0 cCa hr (by decide) (by rfl) (pa_cons (pv 6) pa_nil)))) (pe_lc (own := [("spot", 7)]) (g := gName 7) (tt := tYes) (te := tLst (tCons (tC (.str "at")) (tCons (tVar 7) tNil))) (by rfl) scLaw.nd (pi_tup (pe_tup (pa_cons pe_int (pa_cons pe_int (pa_cons pe_int (pa_cons pe_int (pa_cons pe_int (pa_cons pe_int (pa_cons pe_int (pa_cons pe_int (pa_cons pe_int (pa_cons pe_int (pa_cons pe_int (pa_cons pe_int pa_nil)))))))))))))) (blkOk_by (N := nLaw) (sc := defScope sLaw) (by decide +kernel))
              (fun _ _ _ _ _ => pg_name (i := 7) scLaw.nd rfl (Or.inl rfl)) (fun _ _ _ _ _ => pts_nil) (fun _ _ _ _ _ => pe_lst (pa_cons pe_str (pa_cons (pv 7) pa_nil)))) (nomark _)) (pss_one (ps_ret pe_bl)) pss_nil)
      (pss_cons (ps_set (i := 5) scLaw.nd rfl (Or.inl rfl) (pe_op op_add_str (pe_op op_add_str (pe_op op_mulT pe_str pe_int) pe_str) (pe_op op_mulT pe_str pe_int)))
      (pss_cons (ps_set (i := 4) scLaw.nd rfl (Or.inl rfl) (pe_lst (pa_cons (pe_op op_add_str (pe_op op_add_str pe_str (pv 5)) pe_str) (pa_cons (pe_op op_add_str pe_str (pe_op op_mulT pe_str pe_int)) (pa_cons (pe_op op_mulT pe_str pe_int) (pa_cons (pe_op op_add_str pe_str (pe_op op_mulT pe_str pe_int)) pa_nil))))))
      (pss_cons (ps_if (pt_cmpR (op_neD hr.units) (pe_lc (own := [("one", 6)]) (g := gName 6) (tt := tYes) (te := tCall spCaught [] E0 (tCons (tVar 6) tNil)) (by rfl) scLaw.nd (pi_list (pv 4)) (blkOk_by (N := nLaw) (sc := defScope sLaw) (by decide +kernel))
              (fun _ _ _ _ _ => pg_name (i := 6) scLaw.nd rfl (Or.inl rfl)) (fun _ _ _ _ _ => pts_nil) (fun _ _ _ _ _ => (pe_c0 cCa hr (by decide) (by rfl) (pa_cons (pv 6) pa_nil)))) (pe_lc (own := [("spot", 7)]) (g := gName 7) (tt := tYes) (te := tLst (tCons (tC (.str "at")) (tCons (tVar 7) tNil))) (by rfl) scLaw.nd (pi_tup (pe_tup (pa_cons pe_int (pa_cons pe_int (pa_cons pe_int (pa_cons pe_int pa_nil)))))) (blkOk_by (N := nLaw) (sc := defScope sLaw) (by decide +kernel))
              (fun _ _ _ _ _ => pg_name (i := 7) scLaw.nd rfl (Or.inl rfl)) (fun _ _ _ _ _ => pts_nil) (fun _ _ _ _ _ => pe_lst (pa_cons pe_str (pa_cons (pv 7) pa_nil)))) (nomark _)) (pss_one (ps_ret pe_bl)) pss_nil)
      (pss_cons (ps_if (pt_cmpR (op_neD hr.units) (pe_c0 cCa hr (by decide) (by rfl) (pa_cons (pe_op op_add_str (pe_op op_add_str (pe_op op_mulT pe_str pe_int) pe_str) (pe_op op_mulT pe_str pe_int)) pa_nil)) (pe_lst (pa_cons pe_str (pa_cons pe_int pa_nil))) (nomark _)) (pss_one (ps_ret pe_bl)) pss_nil)
      (pss_cons (ps_set (i := 4) scLaw.nd rfl (Or.inl rfl) (pe_lst (pa_cons (pe_op op_add_str (pe_op op_mulT pe_str pe_int) pe_str) (pa_cons (pe_op op_add_str (pe_op op_add_str (pe_op op_add_str (pe_op op_mulT pe_str pe_int) (pe_op op_mulT pe_str pe_int)) pe_str) (pe_op op_mulT pe_str pe_int)) (pa_cons (pe_op op_add_str (pe_op op_add_str (pe_op op_mulT pe_str pe_int) pe_str) (pe_op op_mulT pe_str pe_int)) pa_nil)))))
      (pss_cons (ps_if (pt_cmpR (op_neD hr.units) (pe_lc (own := [("one", 6)]) (g := gName 6) (tt := tYes) (te := tCall spCaught [] E0 (tCons (tVar 6) tNil)) (by rfl) scLaw.nd (pi_list (pv 4)) (blkOk_by (N := nLaw) (sc := defScope sLaw) (by decide +kernel))
              (fun _ _ _ _ _ => pg_name (i := 6) scLaw.nd rfl (Or.inl rfl)) (fun _ _ _ _ _ => pts_nil) (fun _ _ _ _ _ => (pe_c0 cCa hr (by decide) (by rfl) (pa_cons (pv 6) pa_nil)))) (pe_op op_rep (pe_lst (pa_cons pe_non pa_nil)) pe_int) (nomark _)) (pss_one (ps_ret pe_bl)) pss_nil)
      (pss_one (ps_ret (pe_and (pe_cmpR op_isN (pe_c0 cCa hr (by decide) (by rfl) (pa_cons (pv 5) pa_nil)) pe_non (nomark _))
          (pe_one (pe_cmpR op_isN (pe_c0 cCa hr (by decide) (by rfl) (pa_cons (pe_op op_add_str (pe_op op_mulT pe_str pe_int) pe_str) pa_nil)) pe_non (nomark _))))))))))))))), ?_⟩)
  · obtain ⟨a, ns, rfl, _⟩ := h
    rfl
  · obtain ⟨a, ns, rfl, hS, hn, q⟩ := h
    obtain ⟨m, hm, hm8⟩ : ∃ m : Nat, (1 : Int) + (if ((ns.map V.int).length : Int) < 8 then ((ns.map V.int).length : Int) else 8) = (m : Int) ∧ m ≤ 9 := by
      refine ⟨((1 : Int) + (if ((ns.map V.int).length : Int) < 8 then ((ns.map V.int).length : Int) else 8)).toNat, ?_, ?_⟩ <;> split <;> omega
    refine ⟨_, rfl, a, _, rfl, .inl hS, _, _, rfl, _, _, rfl, rfl, m, congrArg (fun z => [V.int z]) hm, by omega, by omega, ?_⟩
    refine for_range (lo := 0) (n := (m : Int).toNat) (fun i σ H' => ∃ v1 v2 v3 : Option V, σ = [some (.ref a), v1, v2, v3, none, none, none, none] ∧ Same H H') ⟨none, none, none, rfl, .refl _⟩ ?_ ?_
    · rintro i σ H' hi ⟨v1, v2, v3, rfl, s1⟩
      refine gn1 (σ' := [some (.ref a), some (.int (0 + (i : Int))), v2, v3, none, none, none, none]) rfl ?_
      refine ⟨_, rfl, _, rfl, a, ns, _, rfl, s1.seq hS, by omega, by omega, fun p H1 n1 s2 P1 => ?_⟩
      refine gn1 (σ' := [some (.ref a), some (.int (0 + (i : Int))), some (.ref p), v3, none, none, none, none]) rfl ?_
      refine ⟨4, rfl, by decide, by decide, for_range (lo := 0) (n := 4) (fun j σ H2 => ∃ (c : Int) (v : Option V), σ = [some (.ref a), some (.int (0 + (i : Int))), some (.ref p), v, none, none, none, none] ∧ Same H' H2 ∧ PurseAt H2 p c ∧ c ≤ 9000 + 200 * j) ⟨_, v3, rfl, s2, P1, by omega⟩ ?_ ?_⟩
      · rintro j σ H2 hj ⟨c, v, rfl, s3, P2, hc⟩
        refine ⟨_, rfl, p, c, rfl, ⟨P2, by omega, fun c' H3 hc' P3 B3 => ⟨_, rfl, iteF ?_⟩⟩⟩
        exact ⟨c', _, rfl, fun b o e => B3 b o (ne_of_none e n1) (s3 b o e), P3, by omega⟩
      · rintro σ H2 ⟨c, v, rfl, s3, P2, hc⟩
        exact ⟨_, _, _, rfl, s1.trans s3⟩
    · rintro σ G ⟨v1, v2, v3, rfl, s1'⟩
      refine ⟨(by show 12 ≤ sizeLine; decide), fun l nl => ?_⟩
      obtain ⟨G1, e1, t1, f1⟩ : ∃ G1, upd G l (.lst [.str "", .str "a b", .str "(a & b", .str "(a)", .str "a & b", .str "(a & b))", .str "not", .str "nota", .str "(a - > b)", .str "()", .str "(a -> b) c", .str "(a < b)"]) = G1 ∧ Same G G1 ∧ G1 l = some (.lst (ex12.map V.str)) := ⟨_, rfl, same_at nl (Same.refl _), upd_same⟩
      rw [e1]
      refine gn1 (σ' := [some (.ref a), v1, v2, v3, some (.ref l), none, none, none]) rfl ?_
      refine seq_cmp (zs := ex12) (ps := pl12) f1 l12 (by decide) c12 (by decide) shp12 (fun go => ⟨(by show 12 ≤ sizeLine; decide), fun tp np => go tp _ (same_at np (Same.refl _)) (SqT.of upd_same)⟩) fun A2 u2 => ?_
      -- deep
      refine ⟨_, _, rfl, rfl, ⟨by decide +kernel, fun _ _ => by decide +kernel, fun _ _ => by decide +kernel⟩, _, _, rfl, rfl, by decide +kernel, _, _, rfl, rfl, ⟨by decide +kernel, fun _ _ => by decide +kernel, fun _ _ => by decide +kernel⟩, _, _, rfl, rfl, by decide +kernel, ?_⟩
      refine gn1 (σ' := [some (.ref a), v1, v2, v3, some (.ref l), some (.str deep), none, none]) rfl ?_
      refine ⟨_, rfl, _, _, rfl, rfl, by decide +kernel, _, _, rfl, rfl, by decide +kernel, ?_⟩
      refine ⟨_, _, rfl, rfl, ⟨by decide +kernel, fun _ _ => by decide +kernel, fun _ _ => by decide +kernel⟩, _, _, rfl, rfl, by decide +kernel, ?_⟩
      refine ⟨_, _, rfl, rfl, ⟨by decide +kernel, fun _ _ => by decide +kernel, fun _ _ => by decide +kernel⟩, ?_⟩
      refine ⟨_, _, rfl, rfl, ⟨by decide +kernel, fun _ _ => by decide +kernel, fun _ _ => by decide +kernel⟩, _, _, rfl, rfl, by decide +kernel, (by show 4 ≤ sizeLine; decide), fun l4' n4' => ?_⟩
      obtain ⟨B1, e2, t2, f2⟩ : ∃ B1, upd A2 l4' (.lst (ex4.map V.str)) = B1 ∧ Same A2 B1 ∧ B1 l4' = some (.lst (ex4.map V.str)) := ⟨_, rfl, same_at n4' (Same.refl _), upd_same⟩
      have e2' : upd A2 l4' (.lst [.str (("(" ++ deep) ++ " & a)"), .str ("(a & a" ++ Txt.mul ")" 3), .str (Txt.mul "(a&a)" 2), .str ("((a&a)&" ++ Txt.mul "(" 60)]) = B1 := e2
      rw [e2']
      refine gn1 (σ' := [some (.ref a), v1, v2, v3, some (.ref l4'), some (.str deep), none, none]) rfl ?_
      refine seq_cmp (zs := ex4) (ps := pl4) f2 l4 (by decide) c4 (by decide) shp4 (fun go => ⟨(by show 4 ≤ sizeLine; decide), fun tp np => go tp _ (same_at np (Same.refl _)) (SqT.of upd_same)⟩) fun A3 u3 => ?_
      have up : ∀ {z : Str} {o : Option Nat}, z.length ≤ 400 → placeC z = o → ∀ (H0 : Hp) (Q0 : VK), (∀ v G', Same H0 G' → CaughtAt G' o v → Q0 v G') → CaughtP (.str z) H0 Q0 := fun {z o} zl ep H0 Q0 go => by
        have lx := lexC_ok 400 0 z.cps.toList (by rw [← zlen]; exact zl)
        refine ⟨.inr ⟨z, _, rfl, lx, zl, fun p hp l2 G2 n2 s2 f2 => ?_, fun hp G2 s2 => ?_⟩⟩
        · have e : o = some p := ep.symm.trans hp
          exact go _ G2 s2 (by rw [e]; exact ⟨l2, rfl, f2⟩)
        · have e : o = none := ep.symm.trans hp
          exact go _ G2 s2 (by rw [e]; rfl)
      refine ⟨_, _, rfl, rfl, ⟨by decide +kernel, fun _ _ => by decide +kernel, fun _ _ => by decide +kernel⟩, _, _, rfl, rfl, by decide +kernel, _, _, rfl, rfl, ⟨by decide +kernel, fun _ _ => by decide +kernel, fun _ _ => by decide +kernel⟩, _, _, rfl, rfl, by decide +kernel, .str ex1, rfl, up l1' c1' _ _ fun v G4 s4 cv => ?_⟩
      obtain ⟨b4, rfl, f4⟩ := cv
      refine ⟨(by show 2 ≤ sizeLine; decide), fun l5 n5 => ?_⟩
      obtain ⟨G5, e5, s5, f5⟩ := mk_s (.lst [.str "at", .int 64]) n5
      rw [e5]
      have dd : DpAll K G5 [.str "at", .int 64] [.str "at", .int 64] := .cons (.str _) (.cons (.int _) .nil)
      refine ⟨atD (.int 64), atD (.int 64), .lst (SqL.of (s5 _ _ f4)) dd, .lst (SqL.of f5) dd, atD_shp _, atD_shp _, _, rfl, if_no (eqv_of (atD_shp _)) ?_⟩
      refine ⟨_, _, rfl, rfl, ⟨by decide +kernel, fun _ _ => by decide +kernel, fun _ _ => by decide +kernel⟩, _, _, rfl, rfl, by decide +kernel, ?_⟩
      refine ⟨_, _, rfl, rfl, ⟨by decide +kernel, fun _ _ => by decide +kernel, fun _ _ => by decide +kernel⟩, _, _, rfl, rfl, ⟨by decide +kernel, fun _ _ => by decide +kernel, fun _ _ => by decide +kernel⟩, _, _, rfl, rfl, by decide +kernel, _, _, rfl, rfl, by decide +kernel, _, _, rfl, rfl, ⟨by decide +kernel, fun _ _ => by decide +kernel, fun _ _ => by decide +kernel⟩, _, _, rfl, rfl, by decide +kernel, ?_⟩
      refine ⟨_, _, rfl, rfl, ⟨by decide +kernel, fun _ _ => by decide +kernel, fun _ _ => by decide +kernel⟩, _, _, rfl, rfl, by decide +kernel, _, _, rfl, rfl, ⟨by decide +kernel, fun _ _ => by decide +kernel, fun _ _ => by decide +kernel⟩, _, _, rfl, rfl, by decide +kernel, (by show 3 ≤ sizeLine; decide), fun l6 n6 => ?_⟩
      obtain ⟨G6, e6, s6, f6⟩ : ∃ G6, upd G5 l6 (.lst (ex3.map V.str)) = G6 ∧ Same G5 G6 ∧ G6 l6 = some (.lst (ex3.map V.str)) := ⟨_, rfl, same_at n6 (Same.refl _), upd_same⟩
      have e6' : upd G5 l6 (.lst [.str (Txt.mul "not " 60 ++ "(a & b)"), .str (((Txt.mul "not " 40 ++ Txt.mul "(" 30) ++ "a") ++ Txt.mul "&a)" 30), .str ((Txt.mul "(" 59 ++ "not (a & a)") ++ Txt.mul " & a)" 59)]) = G6 := e6
      rw [e6']
      refine gn1 (σ' := [some (.ref a), v1, v2, v3, some (.ref l6), some (.str deep), none, none]) rfl ?_
      refine seq_cmpN (zs := ex3) f6 l3 (by decide) c3 fun A7 u7 => ?_
      refine ⟨_, rfl, .str deep, rfl, up ld' cd' _ _ fun v G8 s8 cv => ?_⟩
      have cv' : v = .non := cv
      rw [cv']
      refine ⟨rfl, _, rfl, if_yes rfl ?_⟩
      refine ⟨_, _, rfl, rfl, ⟨by decide +kernel, fun _ _ => by decide +kernel, fun _ _ => by decide +kernel⟩, _, _, rfl, rfl, by decide +kernel, .str ex0, rfl, up l0' c0' _ _ fun v2 G9 s9 cv2 => ?_⟩
      have cv2' : v2 = .non := cv2
      rw [cv2']
      exact ⟨rfl, q _⟩
end
end G1
set_option maxHeartbeats 0
namespace G1
open PySem PySem.Spec PyProof.Rows L2 SY TXS OW
def fnL : List He.DefD := [dd "_wall" sWall,
  dm "InvalidName" "__init__" "InvalidName.__init__" mInvalidNameInit [],
  dm "InvalidSaying" "__init__" "InvalidSaying.__init__" mInvalidSayingInit [],
  dm "TooLarge" "__init__" "TooLarge.__init__" mTooLargeInit [],
  dm "InvalidText" "__init__" "InvalidText.__init__" mInvalidTextInit [],
  dd "is_letter" sIsLetter,
  dd "named" sNamed,
  dd "never" sNever,
  dd "always" sAlways,
  dd "_joined" sJoined,
  dd "_names" sNames,
  dd "_text_of" sTextOf,
  dd "parsed" sParsed,
  dd "_tokens" sTokens,
  dd "_token_at" sTokenAt,
  dd "_check_order" sCheckOrder,
  dd "_fits" sFits,
  dd "_built" sBuilt,
  dd "_alone" sAlone,
  dd "_law_mixed" sMixed,
  dd "_law_purse" sPurse,
  dd "_law_draw" sDraw,
  dd "_law_great" sGreat,
  dd "_law_raw" lRaw,
  dd "_law_size" lSize,
  dd "_law_names" lNames,
  dd "_law_built" lBuilt,
  dd "_law_text" lText,
  dd "_law_tokens" lTokens,
  dd "_law_place" lPlace,
  dd "_law_bent" lBent,
  dd "_law_caught" lCaught,
  dd "_law_right" sRight,
  dm "Saying" "__init__" "Saying.__init__" mSayingInit [.adr (He.dflAt ("Saying", some "__init__") 0), .non],
  dm "Saying" "both" "Saying.both" mSayingBoth [],
  dm "Saying" "then" "Saying.then" mSayingThen [],
  dm "Saying" "lower" "Saying.lower" mSayingLower [],
  dm "Saying" "higher" "Saying.higher" mSayingHigher [],
  dm "Saying" "same" "Saying.same" mSayingSame [],
  dm "Saying" "denied" "Saying.denied" mSayingDenied [],
  dm "Saying" "parts" "Saying.parts" mSayingParts [],
  dm "Saying" "__and__" "Saying.__and__" mSayingAnd [],
  dm "Saying" "__rshift__" "Saying.__rshift__" mSayingRsh [],
  dm "Saying" "__invert__" "Saying.__invert__" mSayingInv [],
  dm "Saying" "__eq__" "Saying.__eq__" mSayingEq [],
  dm "Saying" "__str__" "Saying.__str__" mSayingStr [],
  dd "law" sLaw]
def faL : List He.Fa := [.free "int",
  .free "max",
  .free "min",
  .free "len",
  .free "range",
  .free "abs",
  .free "str",
  .free "list",
  .free "isinstance",
  .free "bool",
  .free "tuple",
  .free "set",
  .free "sorted",
  .free "sum",
  .free "reversed",
  .free "enumerate",
  .free "zip",
  .free "dict",
  .glo "_wall",
  .glo "InvalidName",
  .glo "InvalidSaying",
  .glo "TooLarge",
  .glo "InvalidText",
  .glo "is_letter",
  .glo "named",
  .glo "never",
  .glo "always",
  .glo "_joined",
  .glo "_names",
  .glo "_text_of",
  .glo "parsed",
  .glo "_tokens",
  .glo "_token_at",
  .glo "_check_order",
  .glo "_fits",
  .glo "_built",
  .glo "_alone",
  .glo "_law_mixed",
  .glo "_law_purse",
  .glo "_law_draw",
  .glo "_law_great",
  .glo "_law_raw",
  .glo "_law_size",
  .glo "_law_names",
  .glo "_law_built",
  .glo "_law_text",
  .glo "_law_tokens",
  .glo "_law_place",
  .glo "_law_bent",
  .glo "_law_caught",
  .glo "_law_right",
  .int "MOST_NODES" 200,
  .glo "SIGNS",
  .int "MOST_OPEN" 60,
  .glo "KINDS",
  .glo "Saying",
  .cls "Saying",
  .mkr "Saying",
  .noat "Saying" "kind",
  .noat "Saying" "pieces",
  .noat "Saying" "letter",
  .noat "Saying" "size",
  .noat "Saying" "names",
  .noat "Saying" "_text",
  .meth "Saying" "both",
  .meth "Saying" "then",
  .meth "Saying" "lower",
  .meth "Saying" "higher",
  .meth "Saying" "same",
  .meth "Saying" "denied",
  .meth "Saying" "parts",
  .meth "Saying" "__and__",
  .meth "Saying" "__rshift__",
  .meth "Saying" "__invert__",
  .meth "Saying" "__eq__",
  .meth "Saying" "__str__",
  .glo "law"]
def tsL : List He.Tab := [(fun K => He.ga K "SIGNS", ["both", "then", "lower", "higher", "same"]), (fun K => He.ga K "KINDS", ["&", "->", "min", "max", "same"])]
def exL : List Ex := [sysB,
  errB "InvalidName" "thing",
  errB "InvalidSaying" "thing",
  errB "TooLarge" "size",
  errB "InvalidText" "at",
  tabB "SIGNS" [("both", .str "&"), ("then", .str "->"), ("lower", .str "min"), ("higher", .str "max"), ("same", .str "same")],
  tabB "KINDS" [("&", .str "both"), ("->", .str "then"), ("min", .str "lower"), ("max", .str "higher"), ("same", .str "same")],
  keysB "KINDS" ["&", "->", "min", "max", "same"],
  ownB "Saying",
  fun K => emptB K (He.dflAt ("Saying", some "__init__") 0 K)]
structure HF (w : World) (K : PySem.W.Frag) (mg : Str → Option Value) : Prop where
  blt : Blt mg
  sm : ∃ o, K.lookup sysModules = some o
  d_wall : DefAt K mg "_wall" sWall
  eN : ErrN K mg (He.ga K "InvalidName") (He.ma K (He.ga K "InvalidName") "__init__")
  eS : ErrS K mg (He.ga K "InvalidSaying") (He.ma K (He.ga K "InvalidSaying") "__init__")
  eL : ErrL K mg (He.ga K "TooLarge") (He.ma K (He.ga K "TooLarge") "__init__")
  eT : ErrT K mg (He.ga K "InvalidText") (He.ma K (He.ga K "InvalidText") "__init__")
  d_is_letter : DefAt K mg "is_letter" sIsLetter
  d_named : DefAt K mg "named" sNamed
  d_never : DefAt K mg "never" sNever
  d_always : DefAt K mg "always" sAlways
  d_joined : DefAt K mg "_joined" sJoined
  d_names : DefAt K mg "_names" sNames
  d_text_of : DefAt K mg "_text_of" sTextOf
  d_parsed : DefAt K mg "parsed" sParsed
  d_tokens : DefAt K mg "_tokens" sTokens
  d_token_at : DefAt K mg "_token_at" sTokenAt
  d_check_order : DefAt K mg "_check_order" sCheckOrder
  d_fits : DefAt K mg "_fits" sFits
  d_built : DefAt K mg "_built" sBuilt
  d_alone : DefAt K mg "_alone" sAlone
  d_law_mixed : DefAt K mg "_law_mixed" sMixed
  d_law_purse : DefAt K mg "_law_purse" sPurse
  d_law_draw : DefAt K mg "_law_draw" sDraw
  d_law_great : DefAt K mg "_law_great" sGreat
  d_law_raw : DefAt K mg "_law_raw" lRaw
  d_law_size : DefAt K mg "_law_size" lSize
  d_law_names : DefAt K mg "_law_names" lNames
  d_law_built : DefAt K mg "_law_built" lBuilt
  d_law_text : DefAt K mg "_law_text" lText
  d_law_tokens : DefAt K mg "_law_tokens" lTokens
  d_law_place : DefAt K mg "_law_place" lPlace
  d_law_bent : DefAt K mg "_law_bent" lBent
  d_law_caught : DefAt K mg "_law_caught" lCaught
  d_law_right : DefAt K mg "_law_right" sRight
  cMOST_NODES : ∃ t, mg "MOST_NODES" = some (.int 200 t)
  cSIGNS : ∃ d, mg "SIGNS" = some (.ref d) ∧ ∀ q ∈ ([("both", .str "&"), ("then", .str "->"), ("lower", .str "min"), ("higher", .str "max"), ("same", .str "same")] : List (Str × He.Dv)), KDct K w d q.1 (q.2.v K)
  lSIGNS : ∃ d, mg "SIGNS" = some (.ref d) ∧ (d == sysModules) = false
  cMOST_OPEN : ∃ t, mg "MOST_OPEN" = some (.int 60 t)
  cKINDS : ∃ d, mg "KINDS" = some (.ref d) ∧ ∀ q ∈ ([("&", .str "both"), ("->", .str "then"), ("min", .str "lower"), ("max", .str "higher"), ("same", .str "same")] : List (Str × He.Dv)), KDct K w d q.1 (q.2.v K)
  kKINDS : ∃ d, mg "KINDS" = some (.ref d) ∧ ∀ z, z ∉ (["&", "->", "min", "max", "same"] : List Str) → PySem.W.nsIn K d z = some none
  lKINDS : ∃ d, mg "KINDS" = some (.ref d) ∧ (d == sysModules) = false
  gSaying : mg "Saying" = some (.ref (He.ga K "Saying"))
  clSaying : Cls K (He.ga K "Saying")
  mkSaying : Mk K (He.ga K "Saying") (He.ma K (He.ga K "Saying") "__init__")
  owSaying : OwnF K (He.ga K "Saying")
  nSayingkind : NoAttr K (He.ga K "Saying") "kind"
  nSayingpieces : NoAttr K (He.ga K "Saying") "pieces"
  nSayingletter : NoAttr K (He.ga K "Saying") "letter"
  nSayingsize : NoAttr K (He.ga K "Saying") "size"
  nSayingnames : NoAttr K (He.ga K "Saying") "names"
  nSaying_text : NoAttr K (He.ga K "Saying") "_text"
  iSaying : ∃ fd, FunD K "__init__" "Saying.__init__" (defArgs mSayingInit) (defBody mSayingInit) (defScope mSayingInit) [.ref (He.dflAt ("Saying", some "__init__") 0 K), .non] [] (He.ma K (He.ga K "Saying") "__init__") fd
  eSaying0 : ∀ H, SqT K H (He.dflAt ("Saying", some "__init__") 0 K) []
  mSayingBoth : ∃ (f : Addr) (fd : FuncData), Meth K (He.ga K "Saying") "both" f ∧ FunD K "both" "Saying.both" (defArgs mSayingBoth) (defBody mSayingBoth) (defScope mSayingBoth) [] [] f fd
  mSayingThen : ∃ (f : Addr) (fd : FuncData), Meth K (He.ga K "Saying") "then" f ∧ FunD K "then" "Saying.then" (defArgs mSayingThen) (defBody mSayingThen) (defScope mSayingThen) [] [] f fd
  mSayingLower : ∃ (f : Addr) (fd : FuncData), Meth K (He.ga K "Saying") "lower" f ∧ FunD K "lower" "Saying.lower" (defArgs mSayingLower) (defBody mSayingLower) (defScope mSayingLower) [] [] f fd
  mSayingHigher : ∃ (f : Addr) (fd : FuncData), Meth K (He.ga K "Saying") "higher" f ∧ FunD K "higher" "Saying.higher" (defArgs mSayingHigher) (defBody mSayingHigher) (defScope mSayingHigher) [] [] f fd
  mSayingSame : ∃ (f : Addr) (fd : FuncData), Meth K (He.ga K "Saying") "same" f ∧ FunD K "same" "Saying.same" (defArgs mSayingSame) (defBody mSayingSame) (defScope mSayingSame) [] [] f fd
  mSayingDenied : ∃ (f : Addr) (fd : FuncData), Meth K (He.ga K "Saying") "denied" f ∧ FunD K "denied" "Saying.denied" (defArgs mSayingDenied) (defBody mSayingDenied) (defScope mSayingDenied) [] [] f fd
  mSayingParts : ∃ (f : Addr) (fd : FuncData), Meth K (He.ga K "Saying") "parts" f ∧ FunD K "parts" "Saying.parts" (defArgs mSayingParts) (defBody mSayingParts) (defScope mSayingParts) [] [] f fd
  mSayingAnd : ∃ (f : Addr) (fd : FuncData), Meth K (He.ga K "Saying") "__and__" f ∧ FunD K "__and__" "Saying.__and__" (defArgs mSayingAnd) (defBody mSayingAnd) (defScope mSayingAnd) [] [] f fd
  mSayingRsh : ∃ (f : Addr) (fd : FuncData), Meth K (He.ga K "Saying") "__rshift__" f ∧ FunD K "__rshift__" "Saying.__rshift__" (defArgs mSayingRsh) (defBody mSayingRsh) (defScope mSayingRsh) [] [] f fd
  mSayingInv : ∃ (f : Addr) (fd : FuncData), Meth K (He.ga K "Saying") "__invert__" f ∧ FunD K "__invert__" "Saying.__invert__" (defArgs mSayingInv) (defBody mSayingInv) (defScope mSayingInv) [] [] f fd
  mSayingEq : ∃ (f : Addr) (fd : FuncData), Meth K (He.ga K "Saying") "__eq__" f ∧ FunD K "__eq__" "Saying.__eq__" (defArgs mSayingEq) (defBody mSayingEq) (defScope mSayingEq) [] [] f fd
  mSayingStr : ∃ (f : Addr) (fd : FuncData), Meth K (He.ga K "Saying") "__str__" f ∧ FunD K "__str__" "Saying.__str__" (defArgs mSayingStr) (defBody mSayingStr) (defScope mSayingStr) [] [] f fd
theorem hf {w : World} {K : PySem.W.Frag} {h : Heap} {mg : Str → Option Value} (X : K.In h) (G : h.Ns mainGlobals mg) (t : Told faL fnL tsL exL w K) : HF w K mg :=
  {
    blt := { int := He.free_ok X G (t.says.d.fact 0 (f := .free "int") rfl), max := He.free_ok X G (t.says.d.fact 1 (f := .free "max") rfl), min := He.free_ok X G (t.says.d.fact 2 (f := .free "min") rfl), len := He.free_ok X G (t.says.d.fact 3 (f := .free "len") rfl), range := He.free_ok X G (t.says.d.fact 4 (f := .free "range") rfl), abs := He.free_ok X G (t.says.d.fact 5 (f := .free "abs") rfl), str := He.free_ok X G (t.says.d.fact 6 (f := .free "str") rfl), list := He.free_ok X G (t.says.d.fact 7 (f := .free "list") rfl), isin := He.free_ok X G (t.says.d.fact 8 (f := .free "isinstance") rfl), bool := He.free_ok X G (t.says.d.fact 9 (f := .free "bool") rfl), tuple := He.free_ok X G (t.says.d.fact 10 (f := .free "tuple") rfl), set := He.free_ok X G (t.says.d.fact 11 (f := .free "set") rfl), sorted := He.free_ok X G (t.says.d.fact 12 (f := .free "sorted") rfl), sum := He.free_ok X G (t.says.d.fact 13 (f := .free "sum") rfl), rev := He.free_ok X G (t.says.d.fact 14 (f := .free "reversed") rfl), enum := He.free_ok X G (t.says.d.fact 15 (f := .free "enumerate") rfl), zip := He.free_ok X G (t.says.d.fact 16 (f := .free "zip") rfl), dict := He.free_ok X G (t.says.d.fact 17 (f := .free "dict") rfl) }
    sm := Option.isSome_iff_exists.mp (t.ex 0 (e := sysB) rfl)
    d_wall := at_def X G t (x := "_wall") (st := sWall) 0 18 rfl rfl
    eN := errB_ok (t.ex 1 (e := errB "InvalidName" "thing") rfl) (He.glo_ok X G (t.says.d.fact 19 (f := .glo "InvalidName") rfl)) (t.says.d.def_ 1 (d := dm "InvalidName" "__init__" "InvalidName.__init__" mInvalidNameInit []) rfl)
    eS := errB_ok (t.ex 2 (e := errB "InvalidSaying" "thing") rfl) (He.glo_ok X G (t.says.d.fact 20 (f := .glo "InvalidSaying") rfl)) (t.says.d.def_ 2 (d := dm "InvalidSaying" "__init__" "InvalidSaying.__init__" mInvalidSayingInit []) rfl)
    eL := errB_ok (t.ex 3 (e := errB "TooLarge" "size") rfl) (He.glo_ok X G (t.says.d.fact 21 (f := .glo "TooLarge") rfl)) (t.says.d.def_ 3 (d := dm "TooLarge" "__init__" "TooLarge.__init__" mTooLargeInit []) rfl)
    eT := errB_ok (t.ex 4 (e := errB "InvalidText" "at") rfl) (He.glo_ok X G (t.says.d.fact 22 (f := .glo "InvalidText") rfl)) (t.says.d.def_ 4 (d := dm "InvalidText" "__init__" "InvalidText.__init__" mInvalidTextInit []) rfl)
    d_is_letter := at_def X G t (x := "is_letter") (st := sIsLetter) 5 23 rfl rfl
    d_named := at_def X G t (x := "named") (st := sNamed) 6 24 rfl rfl
    d_never := at_def X G t (x := "never") (st := sNever) 7 25 rfl rfl
    d_always := at_def X G t (x := "always") (st := sAlways) 8 26 rfl rfl
    d_joined := at_def X G t (x := "_joined") (st := sJoined) 9 27 rfl rfl
    d_names := at_def X G t (x := "_names") (st := sNames) 10 28 rfl rfl
    d_text_of := at_def X G t (x := "_text_of") (st := sTextOf) 11 29 rfl rfl
    d_parsed := at_def X G t (x := "parsed") (st := sParsed) 12 30 rfl rfl
    d_tokens := at_def X G t (x := "_tokens") (st := sTokens) 13 31 rfl rfl
    d_token_at := at_def X G t (x := "_token_at") (st := sTokenAt) 14 32 rfl rfl
    d_check_order := at_def X G t (x := "_check_order") (st := sCheckOrder) 15 33 rfl rfl
    d_fits := at_def X G t (x := "_fits") (st := sFits) 16 34 rfl rfl
    d_built := at_def X G t (x := "_built") (st := sBuilt) 17 35 rfl rfl
    d_alone := at_def X G t (x := "_alone") (st := sAlone) 18 36 rfl rfl
    d_law_mixed := at_def X G t (x := "_law_mixed") (st := sMixed) 19 37 rfl rfl
    d_law_purse := at_def X G t (x := "_law_purse") (st := sPurse) 20 38 rfl rfl
    d_law_draw := at_def X G t (x := "_law_draw") (st := sDraw) 21 39 rfl rfl
    d_law_great := at_def X G t (x := "_law_great") (st := sGreat) 22 40 rfl rfl
    d_law_raw := at_def X G t (x := "_law_raw") (st := lRaw) 23 41 rfl rfl
    d_law_size := at_def X G t (x := "_law_size") (st := lSize) 24 42 rfl rfl
    d_law_names := at_def X G t (x := "_law_names") (st := lNames) 25 43 rfl rfl
    d_law_built := at_def X G t (x := "_law_built") (st := lBuilt) 26 44 rfl rfl
    d_law_text := at_def X G t (x := "_law_text") (st := lText) 27 45 rfl rfl
    d_law_tokens := at_def X G t (x := "_law_tokens") (st := lTokens) 28 46 rfl rfl
    d_law_place := at_def X G t (x := "_law_place") (st := lPlace) 29 47 rfl rfl
    d_law_bent := at_def X G t (x := "_law_bent") (st := lBent) 30 48 rfl rfl
    d_law_caught := at_def X G t (x := "_law_caught") (st := lCaught) 31 49 rfl rfl
    d_law_right := at_def X G t (x := "_law_right") (st := sRight) 32 50 rfl rfl
    cMOST_NODES := He.int_ok X G (t.says.d.fact 51 (f := .int "MOST_NODES" 200) rfl)
    cSIGNS := ⟨_, He.glo_ok X G (t.says.d.fact 52 (f := .glo "SIGNS") rfl), fun q hq => tab_kd (w := w) (t.ex 5 (e := tabB "SIGNS" [("both", .str "&"), ("then", .str "->"), ("lower", .str "min"), ("higher", .str "max"), ("same", .str "same")]) rfl) (t.says.tab 0 (t := (fun K => He.ga K "SIGNS", ["both", "then", "lower", "higher", "same"])) rfl) hq⟩
    lSIGNS := ⟨_, He.glo_ok X G (t.says.d.fact 52 (f := .glo "SIGNS") rfl), (t.says.tab 0 (t := (fun K => He.ga K "SIGNS", ["both", "then", "lower", "higher", "same"])) rfl).elim fun _ h => h.elim fun _ D => D.low⟩
    cMOST_OPEN := He.int_ok X G (t.says.d.fact 53 (f := .int "MOST_OPEN" 60) rfl)
    cKINDS := ⟨_, He.glo_ok X G (t.says.d.fact 54 (f := .glo "KINDS") rfl), fun q hq => tab_kd (w := w) (t.ex 6 (e := tabB "KINDS" [("&", .str "both"), ("->", .str "then"), ("min", .str "lower"), ("max", .str "higher"), ("same", .str "same")]) rfl) (t.says.tab 1 (t := (fun K => He.ga K "KINDS", ["&", "->", "min", "max", "same"])) rfl) hq⟩
    kKINDS := ⟨_, He.glo_ok X G (t.says.d.fact 54 (f := .glo "KINDS") rfl), keysB_ok (t.ex 7 (e := keysB "KINDS" ["&", "->", "min", "max", "same"]) rfl)⟩
    lKINDS := ⟨_, He.glo_ok X G (t.says.d.fact 54 (f := .glo "KINDS") rfl), (t.says.tab 1 (t := (fun K => He.ga K "KINDS", ["&", "->", "min", "max", "same"])) rfl).elim fun _ h => h.elim fun _ D => D.low⟩
    gSaying := He.glo_ok X G (t.says.d.fact 55 (f := .glo "Saying") rfl)
    clSaying := He.cls_ok (t.says.d.fact 56 (f := .cls "Saying") rfl)
    mkSaying := He.mkr_ok (t.says.d.fact 57 (f := .mkr "Saying") rfl)
    owSaying := ownB_ok (t.ex 8 (e := ownB "Saying") rfl)
    nSayingkind := He.noat_ok (t.says.d.fact 58 (f := .noat "Saying" "kind") rfl)
    nSayingpieces := He.noat_ok (t.says.d.fact 59 (f := .noat "Saying" "pieces") rfl)
    nSayingletter := He.noat_ok (t.says.d.fact 60 (f := .noat "Saying" "letter") rfl)
    nSayingsize := He.noat_ok (t.says.d.fact 61 (f := .noat "Saying" "size") rfl)
    nSayingnames := He.noat_ok (t.says.d.fact 62 (f := .noat "Saying" "names") rfl)
    nSaying_text := He.noat_ok (t.says.d.fact 63 (f := .noat "Saying" "_text") rfl)
    iSaying := t.says.d.def_ 33 (d := dm "Saying" "__init__" "Saying.__init__" mSayingInit [.adr (He.dflAt ("Saying", some "__init__") 0), .non]) rfl
    eSaying0 := emptB_ok (t.ex 9 (e := fun K => emptB K (He.dflAt ("Saying", some "__init__") 0 K)) rfl)
    mSayingBoth := at_meth t (C := "Saying") (m := "both") (q := "Saying.both") (st := mSayingBoth) 34 64 rfl rfl
    mSayingThen := at_meth t (C := "Saying") (m := "then") (q := "Saying.then") (st := mSayingThen) 35 65 rfl rfl
    mSayingLower := at_meth t (C := "Saying") (m := "lower") (q := "Saying.lower") (st := mSayingLower) 36 66 rfl rfl
    mSayingHigher := at_meth t (C := "Saying") (m := "higher") (q := "Saying.higher") (st := mSayingHigher) 37 67 rfl rfl
    mSayingSame := at_meth t (C := "Saying") (m := "same") (q := "Saying.same") (st := mSayingSame) 38 68 rfl rfl
    mSayingDenied := at_meth t (C := "Saying") (m := "denied") (q := "Saying.denied") (st := mSayingDenied) 39 69 rfl rfl
    mSayingParts := at_meth t (C := "Saying") (m := "parts") (q := "Saying.parts") (st := mSayingParts) 40 70 rfl rfl
    mSayingAnd := at_meth t (C := "Saying") (m := "__and__") (q := "Saying.__and__") (st := mSayingAnd) 41 71 rfl rfl
    mSayingRsh := at_meth t (C := "Saying") (m := "__rshift__") (q := "Saying.__rshift__") (st := mSayingRsh) 42 72 rfl rfl
    mSayingInv := at_meth t (C := "Saying") (m := "__invert__") (q := "Saying.__invert__") (st := mSayingInv) 43 73 rfl rfl
    mSayingEq := at_meth t (C := "Saying") (m := "__eq__") (q := "Saying.__eq__") (st := mSayingEq) 44 74 rfl rfl
    mSayingStr := at_meth t (C := "Saying") (m := "__str__") (q := "Saying.__str__") (st := mSayingStr) 45 75 rfl rfl }
theorem law_at {w : World} {K : PySem.W.Frag} {h : Heap} {mg : Str → Option Value} {fa : Addr} (X : K.In h) (G : h.Ns mainGlobals mg) (t : Told faL fnL tsL exL w K) (hfa : mg ("law" : Str) = some (.ref fa)) :
    ∃ fd, FnP K "law" sLaw fa fd ∧ ∀ (s : Shared) (v : Value), BindsTo s fd ⟨[v], []⟩ [("script", v)] := by
  obtain ⟨fd, F⟩ := t.says.d.def_ 46 (d := dd "law" sLaw) rfl
  have e := hfa.symm.trans (He.glo_ok X G (t.says.d.fact 76 (f := .glo "law") rfl))
  cases e
  have b := FunD.bindsA (ps := ["script"]) F fun _ _ _ _ _ _ us hl => match us, hl with
    | [_], _ => rfl
  exact ⟨fd, F, fun s v => b s [v] rfl⟩
abbrev R : PySem.W.OpenRow := PySem.W.OpenLaw.row PySem.Challenge.rw_gradetalk_k06_strings_that_are_no_texts
abbrev hk : PySem.W.Hook := hookX 6 faL fnL tsL exL
def lsL : List PySem.Str := (["_wall", "GradeError", "InvalidName", "InvalidSaying", "TooLarge", "InvalidText", "MOST_NODES", "SIGNS", "Saying", "is_letter", "named", "never", "always", "_joined", "_names", "_text_of", "MOST_OPEN", "KINDS", "parsed", "_tokens"] : List PySem.Str) ++ (["_token_at", "_check_order", "_fits", "_built", "_alone", "_law_mixed", "_law_purse", "_law_draw", "_law_great", "_law_raw", "_law_size", "_law_names", "_law_built", "_law_text", "_law_tokens", "_law_place", "_law_bent", "_law_caught", "_law_right"] : List PySem.Str)
theorem run (w : World) : HandSHeadRun.RunEq R (PySem.W.view R.prog [43]) hk (obX 6 faL fnL tsL exL) 4000 lsL w :=
  PySem.W.byRow2 "special-get-raises" (P := fun w => HandSHeadRun.RunEq R (PySem.W.view R.prog [43]) hk (obX 6 faL fnL tsL exL) 4000 lsL w) (fun w => by
    intro os
    kernel_rfl) (fun w => by
    intro os
    kernel_rfl) w

end G1
set_option maxHeartbeats 0
namespace G1
open PySem PySem.Spec PyProof.Rows L2 SY TXS OW
theorem say_txt {w : World} {K : PySem.W.Frag} {mg : Str → Option Value} (F : HF w K mg) : SayTxt K w mg (He.ga K "Saying") := by
  have o := F.owSaying
  obtain ⟨fI, hI⟩ := F.iSaying
  obtain ⟨ds, gs, ks⟩ := F.cSIGNS
  refine ⟨F.gSaying, F.clSaying, F.nSayingkind, F.nSayingpieces, F.nSayingletter, F.nSayingsize, F.nSayingnames, F.nSaying_text, o, ⟨_, fI, _, F.mkSaying, hI, F.eSaying0⟩,
    ⟨F.mSayingStr⟩, ⟨F.mSayingBoth⟩, ⟨F.mSayingThen⟩, ⟨F.mSayingLower⟩, ⟨F.mSayingHigher⟩, ⟨F.mSayingSame⟩, ⟨F.mSayingDenied⟩, ⟨F.mSayingParts⟩, ⟨F.mSayingAnd⟩, ⟨F.mSayingRsh⟩, ⟨F.mSayingInv⟩, ⟨F.mSayingEq⟩, ⟨ds, gs, fun k => ?_⟩⟩
  cases k with
  | both => exact ks ("both", .str "&") (by simp)
  | thn => exact ks ("then", .str "->") (by simp)
  | lower => exact ks ("lower", .str "min") (by simp)
  | higher => exact ks ("higher", .str "max") (by simp)
  | same => exact ks ("same", .str "same") (by simp)
theorem kinds {w : World} {K : PySem.W.Frag} {mg : Str → Option Value} (F : HF w K mg) : KindsX K w mg := by
  obtain ⟨d, g, kd⟩ := F.cKINDS
  obtain ⟨d1, g1, low⟩ := F.lKINDS
  obtain ⟨d2, g2, off⟩ := F.kKINDS
  have e1 : d = d1 := by
    have e := g.symm.trans g1
    injection e with e
    injection e
  have e2 : d = d2 := by
    have e := g.symm.trans g2
    injection e with e
    injection e
  rw [← e1] at low
  rw [← e2] at off
  refine ⟨d, g, low, fun k => ?_, fun z no => off z fun hz => ?_⟩
  · cases k with
    | both => exact kd ("&", .str "both") (by simp)
    | thn => exact kd ("->", .str "then") (by simp)
    | lower => exact kd ("min", .str "lower") (by simp)
    | higher => exact kd ("max", .str "higher") (by simp)
    | same => exact kd ("same", .str "same") (by simp)
  · simp only [List.mem_cons, List.not_mem_nil, or_false] at hz
    rcases hz with h | h | h | h | h
    · exact no .both h
    · exact no .thn h
    · exact no .lower h
    · exact no .higher h
    · exact no .same h
theorem kinds0 {w : World} {K : PySem.W.Frag} {mg : Str → Option Value} (X : KindsX K w mg) : Kinds K w mg := by
  obtain ⟨d, g, low, kd, off⟩ := X.ex
  refine ⟨d, g, low, kd, fun k ok no => off _ fun b e => ?_⟩
  have q : k.str.cps.toList = b.sign.cps.toList := congrArg (fun s : Str => s.cps.toList) e
  rw [k.str_codes, sign_codes] at q
  exact no b (tk_inj ok (k' := .sg b) trivial q)
theorem law_facts {P : Program} {w : World} {K : PySem.W.Frag} {base : Heap} {mg : Str → Option Value} {fa : Addr} {fd : FuncData} (F : HF w K mg) (L : FnP K "law" sLaw fa fd) : FnG CX0 P w K mg base 26 fa fd ["script"] (spLawR K) := by
  have T := say_txt F
  have B := F.blt
  have KX := kinds F
  have KS := kinds0 KX
  have cN := cl_names (P := P) (w := w) (base := base) F.d_names B T.cl T.nN
  have cX := cl_text (P := P) (base := base) F.d_text_of T B
  have M := maker (P := P) (base := base) T B F.eL F.cMOST_NODES cN cX
  have cI := cl_letter (P := P) (w := w) (base := base) F.d_is_letter B
  have cNm := cl_named F.d_named T F.eN M cI
  have cNv := cl_never F.d_never T M
  have cAw := cl_always F.d_always T M
  have cMx := cl_mixed (P := P) (w := w) (base := base) F.d_law_mixed B
  have cDr := cl_draw F.d_law_draw B cMx
  have cP := cl_purse (P := P) (w := w) (base := base) F.d_law_purse B
  have cRw := cl_raw F.d_law_raw B cDr
  have cTl := cl_textl (P := P) (w := w) (base := base) F.d_law_text B
  have cTa := cl_tokatX F.d_token_at B cI
  have cTs := cl_tokensX F.d_tokens B cTa
  have cFi := cl_fitsX F.d_fits B F.cMOST_OPEN KX cI
  have cOr := cl_orderX F.d_check_order B F.eT cFi
  have cAl := cl_alone F.d_alone cNm cNv cAw
  have cBt := cl_builtT F.d_built T B M KS cAl
  have cPa := cl_parsedX F.d_parsed B F.eT F.cMOST_NODES cTs cOr cBt
  have cLt := cl_ltokens (P := P) (w := w) (base := base) F.d_law_tokens B
  have cLp := cl_lplace F.d_law_place B cLt
  have cBe := cl_bent F.d_law_bent B cDr
  have cCa := cl_caught F.d_law_caught F.eT cPa
  have cRt := cl_right F.d_law_right B cDr cRw cTl cBe cLp cCa
  exact FnG.of (ok_law L B cP cRt cCa)
end G1
open PySem PySem.W PySem.Calls PyProof.Rows
set_option maxHeartbeats 0 in
theorem PySem.Challenge.cw_gradetalk_k06_strings_that_are_no_texts_holds : PySem.Challenge.rw_gradetalk_k06_strings_that_are_no_texts.Holds := by
  w_on; o_law
  refine HandSHeadRun.head_any (r := OpenLaw.row PySem.Challenge.rw_gradetalk_k06_strings_that_are_no_texts) (q := view (OpenLaw.row PySem.Challenge.rw_gradetalk_k06_strings_that_are_no_texts).prog [43]) (H := G1.hk) (ob := G1.obX 6 G1.faL G1.fnL G1.tsL G1.exL) (M := 4000) (loose := G1.lsL) (d := HandSHeadRun.topDef (OpenLaw.row PySem.Challenge.rw_gradetalk_k06_strings_that_are_no_texts).prog 43) (kwd := []) G1.obX_eq
    (by kernel_rfl) (fun s => by kernel_rfl) G1.run (by kernel_rfl) (by kernel_rfl) (by kernel_rfl) (by rfl) (by first | assumption | decide +kernel) (by decide +kernel) ⟨rfl, rfl, rfl, rfl, rfl, by decide +kernel⟩ ?hw ?hc
  case hw => w_witness2
  case hc =>
    refine G1.walk_ofG (l := PySem.Challenge.rw_gradetalk_k06_strings_that_are_no_texts) (n := 63) (k := 26) (x := "script") rfl (by decide) (by kernel_rfl) ⟨rfl, by decide, by decide⟩ ?F
    intro w mg fa h Y G hmg0
    obtain ⟨K, KX, t⟩ := Y
    have nm : (HandSHeadRun.topDef (OpenLaw.row PySem.Challenge.rw_gradetalk_k06_strings_that_are_no_texts).prog 43).name = ("law" : PySem.Str) := by kernel_rfl
    rw [nm] at hmg0
    obtain ⟨fd, F, hb⟩ := G1.law_at KX G t hmg0
    exact ⟨K, fd, G1.spLawR K, KX, hb, fun H a ns hl hS => ⟨a, ns, rfl, hS, hl, fun _ => rfl⟩, fun base _ _ => G1.law_facts (G1.hf KX G t) F⟩
#print axioms PySem.Challenge.cw_gradetalk_k06_strings_that_are_no_texts_holds
