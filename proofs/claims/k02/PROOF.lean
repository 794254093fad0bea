import PyProof.Rows.All
import Wide.All
import OpenK.AllK
import Wide.FinOn
import HandS.ForExc
import HandS.ForMost
import HandS.Wide
import HandS.IsInst
import HandS.TryMany
import HandS.Style
import HandS.Flow
import HandS.Defaults
import HandS.ExcInit
import HandS.ExcField
import HandS.SetKeys
import HandS.Gcd
import HandS.HeadHook2
import HandS.HeadHook3
import HandS.TupSets
import HandS.SetTxt0
import PyProof.Rows.SortShellAny
import HandS.FStr
import HandS.SlotsOwn
import KE.KFmtOwn
import KE.KOpsOwn
import PyProof.InstEq
import HandS.ListItems
import KE.KDictList
import HandS.Walk
import PyProof.ReprLen
import PyProof.ReprRoads
import PyProof.StrBlock2
import HandS.Head0
import HandS.Head1
import HandS.Head2
import HandS.Head3
import HandS.HeadEnd
import PySem.Challenge.RW_gradetalk_k02_sayings_refused
set_option Elab.async false
set_option linter.all false
set_option maxRecDepth 100000
set_option maxHeartbeats 4000000
namespace G1
open PySem PySem.Spec PyProof.Rows L2
/-- a def of the top under its own name -/
abbrev FnP (K : PySem.W.Frag) (x : Str) (st : Stmt) (f : Addr) (fd : FuncData) : Prop :=
  FunD K x x (defArgs st) (defBody st) (defScope st) [] [] f fd
/-! ### further rules -/
def CPowW (i j : Int) : Prop := 0 ≤ j ∧ (Builtin.Int.intBits i : Int) * j ≤ 2 ^ 27
theorem op_powW {X : Cx} : OpR X (binaryOp .Pow) (rI CPowW fun i j => .int (i ^ j.toNat)) := opI fun _ _ _ _ _ _ _ hc q => pow_int hc.1 hc.2 q
/-- f and its arguments by name alone -/
def tCallN0 (sp : Sp) (g : List V → List V) (E : XK) (tk : TA) : TE := fun σ H Q => tk σ H fun zs H1 => sp (g zs) H1 Q E
section
variable {X : Cx} {CX : CXT} {k : Nat} {f : Addr} {fd : FuncData} {ps ks : List Str} {sp : Sp} {E : XK} {x : Str} {p pos : Pos} {kws : List Keyword} {tk : TA} {g : List Value → List Value → List Value} {gV : List V → List V → List V}
theorem pe_callN0 (F : FnOk X.prog X.w X.K X.mg X.base CX k f fd ps sp) (hr : Room k X.A) (hg : Gl X x) (hm : X.mg x = some (.ref f)) (hk : PySem.W.keepIn X.K (.ref f) = true) (hb : KBinds X.K fd ps ks g gV) (hx : Passes CX X E)
    (hkw : PK X kws tk) (hall : (backToKw pos (keywordEach kws X.env)).all (·.1.isSome) = true := by rfl) (hks : (backToKw pos (keywordEach kws X.env)).filterMap (·.1) = ks := by rfl)
    (nodbg : (x == ("__debug__" : Str)) = false := by decide)
    (plain : ((backTo pos (starEach [] X.env)).any (·.1) || (backToKw pos (keywordEach kws X.env)).any (·.1.isNone)) = false := by rfl) :
    PE X (.Call (.Name x p) [] kws pos) (tCallN0 sp (gV []) E tk) := by
  constructor
  intro pins s σ H Q I h
  apply wpAny_Call_Name_kw
  apply ld_glob I hg hm _ nodbg
  apply PySem.W.callWith_KW0 (h₀ := X.base) I.ok.mod.kin hk hall _ plain
  refine thn (hkw.run pos pins s σ H _ I h) ?_
  rintro ws s2 ⟨zs, H2, I2, rz, q2⟩
  refine ⟨I2.kIn, ?_⟩
  rw [hks]
  exact run_fnk (us := []) F hr hb hx I2 .nil rz q2
end
theorem call_str_bl {X : Cx} : CallR X (.type "str") (fun xs H Q => ∃ b : Bool, xs = [.bl b] ∧ Q (.str (if b then "True" else "False")) H) := by
  intro pn s st H xs us Q I r ask
  obtain ⟨b, rfl, q⟩ := ask
  cases r with
  | cons r1 r2 =>
    cases r2
    cases r1
    exact PySem.P.str_of_bool ⟨.str (if b then "True" else "False"), H, I.tok _, ⟨_, rfl⟩, q⟩
/-! ### the purse -/
structure PurseAt (H : Hp) (p : Addr) (c : Int) : Prop where
  ex : ∃ a b : Int, H p = some (.lst [.int a, .int b, .int c]) ∧ 0 ≤ a ∧ a.natAbs < 2 ^ 1600 ∧ 0 ≤ b ∧ b < 2147483647
  c0 : 0 ≤ c
/-- all but p stands -/
def But (p : Addr) (H H' : Hp) : Prop := ∀ x o, x ≠ p → H x = some o → H' x = some o
theorem But.free {p : Addr} {H H' : Hp} {o : HO} (b : But p H H') (hp : H' p = some o) {x : Addr} (h : H' x = none) : H x = none := by
  cases q : H x with
  | none => rfl
  | some u =>
    have ne : x ≠ p := by
      intro e
      rw [e, hp] at h
      cases h
    rw [b x u ne q] at h
    cases h
theorem But.trans {p : Addr} {H H1 H2 : Hp} (a : But p H H1) (b : But p H1 H2) : But p H H2 := fun x o n h => b x o n (a x o n h)
theorem But.refl {p : Addr} {H : Hp} : But p H H := fun _ _ _ h => h
theorem PurseAt.free {p : Addr} {H H' : Hp} {c : Int} (P : PurseAt H' p c) (b : But p H H') {x : Addr} (h : H' x = none) : H x = none := by
  obtain ⟨a, d, e, _⟩ := P.ex
  exact b.free e h
/-! ### promises -/
def spMixed : Sp := fun vs H Q _ => ∃ c k : Int, vs = [.int c, .int k] ∧ 0 ≤ c ∧ c < 2147483647 ∧ 0 ≤ k ∧ k < 2 ^ 50 ∧ ∀ r, 0 ≤ r → Q (.int r) H
def spPurse (K : PySem.W.Frag) : Sp := fun vs H Q _ => ∃ (a : Addr) (ns : List Int) (i : Int), vs = [.ref a, .int i] ∧ SqL K H a (ns.map V.int) ∧ 0 ≤ i ∧ i ≤ 8 ∧
  ∀ (p : Addr) (H' : Hp), H p = none → Same H H' → PurseAt H' p (1000 * i) → Q (.ref p) H'
def spDraw : Sp := fun vs H Q _ => ∃ (p : Addr) (n c : Int), vs = [.ref p, .int n] ∧ PurseAt H p c ∧ c < 2 ^ 40 ∧ 0 < n ∧ n < 2 ^ 60 ∧
  ∀ (d c' : Int) (H' : Hp), 0 ≤ d → d < n → c' ≤ c + 1 → PurseAt H' p c' → But p H H' → Q (.int d) H'
/-- what the top has bound -/
structure Blt (mg : Str → Option Value) : Prop where
  int : mg "int" = none
  max : mg "max" = none
  min : mg "min" = none
  len : mg "len" = none
  range : mg "range" = none
  abs : mg "abs" = none
  str : mg "str" = none
  list : mg "list" = none
  isin : mg "isinstance" = none
  bool : mg "bool" = none
  tuple : mg "tuple" = none
  set : mg "set" = none
  sorted : mg "sorted" = none
  sum : mg "sum" = none
  rev : mg "reversed" = none
  enum : mg "enumerate" = none
  zip : mg "zip" = none
  dict : mg "dict" = none
/-- a def of the top, called by its name -/
def DefAt (K : PySem.W.Frag) (mg : Str → Option Value) (x : Str) (st : Stmt) : Prop := ∃ (f : Addr) (fd : FuncData), FnP K x st f fd ∧ mg x = some (.ref f)
section
variable {P : Program} {w : World} {K : PySem.W.Frag} {mg : Str → Option Value} {base : Heap} {f : Addr} {fd : FuncData} {x : Str} {st : Stmt} {ps : List Str} {sp : Sp} {k : Nat}
/-- .. and its promise; CX: what it may let out -/
structure Cl (CX : CXT) (P : Program) (w : World) (K : PySem.W.Frag) (mg : Str → Option Value) (base : Heap) (k : Nat) (x : Str) (ps : List Str) (sp : Sp) : Prop where
  ex : ∃ (f : Addr) (fd : FuncData), FnOk P w K mg base CX k f fd ps sp ∧ mg x = some (.ref f) ∧ PySem.W.keepIn K (.ref f) = true ∧ Binds K fd ps [] ∧ ∃ (oc : Value) (od : Option Addr) (osl : Array (Option Value)), K.lookup f = some ⟨oc, od, .func fd, osl⟩
theorem cl_of {CX : CXT} (F : FnP K x st f fd) (hm : mg x = some (.ref f)) (G : FnOk P w K mg base CX k f fd ps sp)
    (b : ∀ (kV doc pm : Value) (an : Option Addr) (cdv ct : Value) (us : List Value), us.length = ps.length → bindArgs (PySem.W.fnOf x x (defArgs st) (defBody st) (defScope st) .none kV doc pm an cdv ct) ⟨us, []⟩ = pure (ps.zip us)) : Cl CX P w K mg base k x ps sp := by
  obtain ⟨oc, od, dV, kV, doc, pm, an, cdv, ct, osl, e, lk, _⟩ := id F.ex
  exact ⟨f, fd, G, hm, F.kp, F.bindsN b, oc, od, osl, lk⟩
end
section
variable {X : Cx} {k j : Nat} {x : Str} {ps : List Str} {sp : Sp} {p pos : Pos} {e : Expr} {es : List Expr} {t : TA}
theorem pe_c0 (c : Cl CX0 X.prog X.w X.K X.mg X.base k x ps sp) (hr : Room j X.A) (hk : k ≤ j) (hg : Gl X x) (ha : PA X (e :: es) t)
    (nodbg : (x == ("__debug__" : Str)) = false := by decide) (first : starEach (e :: es) X.env = (false, eval e X.env) :: starEach es X.env := by rfl) (plain : (backTo pos (starEach es X.env)).any (·.1) = false := by rfl) :
    PE X (.Call (.Name x p) (e :: es) [] pos) (tCall sp [] E0 t) := by
  obtain ⟨f, fd, F, hm, kp, b, _⟩ := c.ex
  exact pe_call F (hr.mono hk) hg hm kp b .nil pass0 ha nodbg first plain
/-- a def that may raise, where it does not -/
theorem pe_cX (c : Cl (L2.CX X.prog X.w) X.prog X.w X.K X.mg X.base k x ps sp) (hr : Room j X.A) (hk : k ≤ j) (hg : Gl X x) (ha : PA X (e :: es) t)
    (nodbg : (x == ("__debug__" : Str)) = false := by decide) (first : starEach (e :: es) X.env = (false, eval e X.env) :: starEach es X.env := by rfl) (plain : (backTo pos (starEach es X.env)).any (·.1) = false := by rfl) :
    PE X (.Call (.Name x p) (e :: es) [] pos) (tCall sp [] E0 t) := by
  obtain ⟨f, fd, F, hm, kp, b, _⟩ := c.ex
  exact pe_call F (hr.mono hk) hg hm kp b .nil passL ha nodbg first plain
/-- .. where what it raises is wished for -/
theorem pe_cS {W : WX} (c : Cl (L2.CX X.prog X.w) X.prog X.w X.K X.mg X.base k x ps sp) (hr : Room j X.A) (hk : k ≤ j) (tk : Takes X W) (hg : Gl X x) (ha : PA X (e :: es) t)
    (nodbg : (x == ("__debug__" : Str)) = false := by decide) (first : starEach (e :: es) X.env = (false, eval e X.env) :: starEach es X.env := by rfl) (plain : (backTo pos (starEach es X.env)).any (·.1) = false := by rfl) :
    PE X (.Call (.Name x p) (e :: es) [] pos) (tCallS sp (WE W) t) := by
  obtain ⟨f, fd, F, hm, kp, b, _⟩ := c.ex
  exact pe_callS F (hr.mono hk) hg hm kp b (fun σ => passAt tk σ) ha nodbg first plain
end
/-! ### what stays -/
/-- a tuple stands on -/
theorem sqt_on {K : PySem.W.Frag} {H H' : Hp} {a : Addr} {xs : List V} (h : SqT K H a xs) (e : Same H H') : SqT K H' a xs :=
  match h with
  | .inl (.inl h) => .inl (.inl (e a _ h))
  | .inl (.inr ⟨o, h⟩) => .inl (.inr ⟨o, e a _ h⟩)
  | .inr h => .inr h
theorem ty_tup {K : PySem.W.Frag} {H : Hp} {a : Addr} {xs : List V} (h : SqT K H a xs) : TyX K H (.ref a) (.type "tuple") :=
  match h with
  | .inl (.inl h) => .base (.tup h)
  | .inl (.inr ⟨_, h⟩) => .fTuple h
  | .inr ⟨_, _, _, e, c, _⟩ => .kTuple e c
/-- things that are no objects of the package -/
def Kn (H : Hp) : V → Prop
  | .non => True | .bl _ => True | .int _ => True | .str _ => True
  | .ref a => (∃ xs, H a = some (.lst xs)) ∨ (∃ xs, H a = some (.tup xs)) ∨ (∃ kvs, H a = some (.dK kvs))
  | _ => False
theorem Kn.same {H H' : Hp} (s : Same H H') : ∀ {v : V}, Kn H v → Kn H' v
  | .non, _ => trivial | .bl _, _ => trivial | .int _, _ => trivial | .str _, _ => trivial
  | .ref a, h => by
    rcases h with ⟨xs, e⟩ | ⟨xs, e⟩ | ⟨xs, e⟩
    · exact .inl ⟨xs, s _ _ e⟩
    · exact .inr (.inl ⟨xs, s _ _ e⟩)
    · exact .inr (.inr ⟨xs, s _ _ e⟩)
  | .byt _, h => h.elim | .flt _, h => h.elim | .ty _, h => h.elim
/-! ### small steps -/
theorem units65 {k : Nat} {A : Around} (r : Room k A) : A.units + 65 < cLine := by
  have := r.un
  omega
theorem same_at {H G : Hp} {D : Addr} {o : HO} (n : H D = none) (s : Same H G) : Same H (upd G D o) := fun b u e => (upd_ne (ne_of_none e n)).trans (s b u e)
theorem yes_to {σ : L2.St} {H : Hp} {Q : Bool → Hp → Prop} (h : Q true H) : tYes σ H Q := h
theorem gn1 {i : Nat} {x : V} {σ σ' : L2.St} {H : Hp} {Q : L2.St → Hp → Prop} (e : σ.set i (some x) = σ') (h : Q σ' H) : gName i x σ H Q := by
  subst e
  exact h
/-! ### a class of one's own -/
structure OwnF (K : PySem.W.Frag) (C : Addr) : Prop where
  ne : PySem.W.findIn K (.ref C) "__ne__" = some (some (.builtin "object.__ne__"))
  mo : PySem.W.mroIn K C (.type "object") = some true
  sf : PySem.W.selfFirst K C = true
  isCls : PySem.W.findIn K (.ref C) "__class__" = some (some (.builtin "object.__class__"))
  getCls : PySem.W.specialIn K (.builtin "object.__class__") "__get__" = some (some (.builtin "getset_descriptor.__get__"))
  takesCls : PySem.W.takesIn K (.builtin "object.__class__") = some true
  ki : ∀ n ∈ ["NoneType", "bool", "int", "str", "list", "tuple", "dict"], PySem.W.kitOne K (.type n) (.ref C) = some false
  fm : PySem.W.findIn K (.ref C) "__format__" = some (some (.builtin "object.__format__"))
/-! ### errors of one field -/
/-- C(v) leaves, its own dict at d -/
def Rs (x : Str) (C : Addr) (H : Hp) (v : V) (E : XK) : Prop := ∀ (d : Addr) (H' : Hp), H d = none → Same H H' → H' d = some (.xd [(x, v)]) → E (.ref C) (some d) H'
def spErr (x : Str) (C : Addr) : Sp := fun vs H Q _ => ∃ (a : Addr) (v : V), vs = [.ref a, v] ∧ H a = some (exo a C none) ∧ ∀ dx, H dx = none → dx ≠ a → Q .non (upd (upd H dx (exd dx [(x, v)])) a (exo a C (some dx)))
theorem Rs.imp {x : Str} {C : Addr} {H : Hp} {v : V} {E E' : XK} (h : Rs x C H v E) (k : ∀ c d H', E c d H' → E' c d H') : Rs x C H v E' := fun d H' n s e => k _ _ _ (h d H' n s e)
theorem Rs.from {x : Str} {C : Addr} {H H1 : Hp} {v : V} {E : XK} (h : Rs x C H v E) (s : Same H H1) : Rs x C H1 v E := fun d H' n s' e => h d H' (s.free n) (s.trans s') e
theorem len1 (v : V) : [v].length ≤ 1000 := (by decide : 1 ≤ 1000)
theorem mk_rs {x : Str} {C : Addr} {H : Hp} {v : V} {E : XK} (h : Rs x C H v E) (a : Addr) (ha : H a = none) :
    spErr x C [.ref a, v] (upd H a (exo a C none)) (fun u H2 => u = .non ∧ ∃ (d : Addr) (fs : List (Str × V)), H2 a = some (exo a C (some d)) ∧ H2 d = some (exd d fs) ∧ H d = none ∧ E (.ref C) (some d) (upd (del H2 a) d (.xd fs))) (fun _ _ _ => False) := by
  refine ⟨a, v, rfl, upd_same, fun dx n ne => ⟨rfl, dx, [(x, v)], upd_same, ?_, ?_, ?_⟩⟩
  · rw [upd_ne ne, upd_same]
  · rw [upd_ne ne] at n
    exact n
  · have n' : H dx = none := by
      rw [upd_ne ne] at n
      exact n
    refine h dx _ n' (fun b o e => ?_) upd_same
    have n1 : b ≠ dx := ne_of_none e n'
    have n2 : b ≠ a := ne_of_none e ha
    rw [upd_ne n1, del_ne n2, upd_ne n2, upd_ne n1, upd_ne n2]
    exact e
/-- what the top has written of one -/
structure ErrG (K : PySem.W.Frag) (mg : Str → Option Value) (nm x qual : Str) (st : Stmt) (C fI : Addr) : Prop where
  ox : OexC K C
  xf : XfC K C
  gC : mg nm = some (.ref C)
  no : PySem.W.findIn K (.ref C) x = some none
  iC : PySem.W.findIn K (.ref C) "__init__" = some (some (.ref fI))
  tI : PySem.W.typeIn K (.ref fI) = some (.type "function")
  te : PySem.W.exmOne K (.ref C) (.ref C) = some true
  fn : ∃ fd, FunD K "__init__" qual (defArgs st) (defBody st) (defScope st) [] [] fI fd
end G1
set_option maxHeartbeats 4000000
namespace G1
open PySem PySem.Spec PyProof.Rows L2
/-! ### the text by places -/
def top (i : Nat) : Stmt := PySem.Challenge.pw_gradetalk_k02_sayings_refused.main.body.getD i (.Pass ⟨0, 0, 0, 0⟩)
abbrev sGradeError : Stmt := top 1
abbrev mInvalidNameInit : Stmt := inClass (top 2) 0
abbrev mInvalidSayingInit : Stmt := inClass (top 3) 0
abbrev mTooLargeInit : Stmt := inClass (top 4) 0
abbrev mSayingInit : Stmt := inClass (top 8) 0
abbrev mSayingBoth : Stmt := inClass (top 8) 1
abbrev mSayingThen : Stmt := inClass (top 8) 2
abbrev mSayingLower : Stmt := inClass (top 8) 3
abbrev mSayingHigher : Stmt := inClass (top 8) 4
abbrev mSayingSame : Stmt := inClass (top 8) 5
abbrev mSayingDenied : Stmt := inClass (top 8) 6
abbrev mSayingParts : Stmt := inClass (top 8) 7
abbrev mSayingAnd : Stmt := inClass (top 8) 8
abbrev mSayingRsh : Stmt := inClass (top 8) 9
abbrev mSayingInv : Stmt := inClass (top 8) 10
abbrev mSayingEq : Stmt := inClass (top 8) 11
abbrev mSayingStr : Stmt := inClass (top 8) 12
abbrev sIsLetter : Stmt := top 9
abbrev sNamed : Stmt := top 10
abbrev sNever : Stmt := top 11
abbrev sJoined : Stmt := top 12
abbrev sNames : Stmt := top 13
abbrev sTextOf : Stmt := top 14
abbrev sMixed : Stmt := top 16
abbrev sPurse : Stmt := top 17
abbrev sDraw : Stmt := top 18
abbrev sGreat : Stmt := top 19
abbrev sMade : Stmt := top 20
abbrev sTold : Stmt := top 21
abbrev sRow : Stmt := top 22
abbrev sRight : Stmt := top 23
abbrev sLaw : Stmt := top 24
end G1
set_option maxHeartbeats 4000000
namespace TXS
open PySem PySem.Spec PyProof.Rows L2 PySem.Froz
/-! ### sets of texts -/
theorem tail_ris {ep : Nat} {es : Array (Int × Value)} {t : SetTable} {wd : Bool} (r : Ris t.place.toList) : Ris (tailTx ep es t wd).2.2.place.toList := by
  unfold tailTx
  by_cases c : (!wd && t.tooFull) = true
  · rw [if_pos c]
    exact relayAll_ris _ _ _
  · rw [if_neg c]
    exact r
theorem tail_led {ep : Nat} {es : Array (Int × Value)} {t : SetTable} {wd : Bool} : (tailTx ep es t wd).2.2.led = t.led := by
  unfold tailTx
  by_cases c : (!wd && t.tooFull) = true
  · rw [if_pos c]
    exact relayAll_led _ _ _
  · rw [if_neg c]
theorem tx_ris {D : SD} {h : Int} {x : Value} (r : Ris D.2.2.place.toList) : Ris (addTx h x D).2.2.place.toList := by
  have r1 := layNew_ris D.2.2 D.1 h x r
  unfold addTx
  refine tail_ris ?_
  split <;> exact r1
theorem tx_led {D : SD} {h : Int} {x : Value} : (addTx h x D).2.2.led = D.2.2.led := by
  have r1 := layNew_led D.2.2 D.1 h x
  unfold addTx
  rw [tail_led]
  split <;> exact r1
/-- at a a set of the texts l, each once -/
structure TSet (P : Program) (w : World) (h : Heap) (a : Addr) (l : List Str) : Prop where
  ex : ∃ D : SD, h.get? a = some (sObj "set" D) ∧ TxOk P w D l ∧ Ris D.2.2.place.toList ∧ (w.params.followText "set-order" = true ∨ D.2.2.led = true)
  nd : l.Nodup
theorem TSet.keep {P : Program} {w : World} {h h' : Heap} {a : Addr} {l : List Str} (S : TSet P w h a l) (k : ∀ o, h.get? a = some o → h'.get? a = some o) : TSet P w h' a l := by
  obtain ⟨D, e, r⟩ := S.ex
  exact ⟨⟨D, k _ e, r⟩, S.nd⟩
def putT (l : List Str) (k : Str) : List Str := if k ∈ l then l else k :: l
section
variable {P : Program} {w : World} {A : Around} {E : Value → Shared → Prop} {s : Shared} {a : Addr} {l : List Str} {k : Str} {u : Tok}
theorem tset_old (S : TSet P w s.heap a l) (hk : k ∈ l) (hb : l.length < scanBound) {Q : Bool → Shared → Prop} (hQ : Q false s) : wpAny (model P w) A (setAddHashed a (.str k u) (hashStr w k)) Q E s := by
  obtain ⟨⟨es, ep, t⟩, here, ok, _⟩ := S.ex
  have few : es.size < scanBound := by
    have same : es.size = l.length := ok.sz
    omega
  have found : ∃ j, List.findIdx? (fun e => (strKind P w).is k e.2) es.toList = some j := by
    rw [← Option.isSome_iff_exists, List.findIdx?_isSome, List.any_eq_true]
    exact (ok.mem k).mp hk
  obtain ⟨j, hj⟩ := found
  rw [setAddHashed, setAddHashedIn]
  apply wpAny_holding
  apply wpAny_bind
  apply wpAny_setState_of here rfl ok.fit
  dsimp only
  rw [byScan_of rfl few ok.el]
  simp only [↓reduceIte]
  rw [setAddByScan]
  apply wpAny_bind
  apply wpAny_bind
  apply wpAny_rule
  apply wpAny_bind
  apply wpAny_setScan_of (knd := strKind P w) (k := k) (is_str k u) here rfl ok.fit ok.el
  rw [hj]
  exact wpAny_pure (wpAny_pure hQ)
theorem tset_add (S : TSet P w s.heap a l) (hb : l.length + 1 < scanBound) {Q : Bool → Shared → Prop} (hQ : ∀ b h', Heap.SameBut a s.heap h' → TSet P w h' a (putT l k) → Q b { s with heap := h' }) : wpAny (model P w) A (setAddHashed a (.str k u) (hashStr w k)) Q E s := by
  unfold putT at hQ
  by_cases hk : k ∈ l
  · rw [if_pos hk] at hQ
    refine tset_old S hk (by omega) ?_
    exact hQ false s.heap ⟨rfl, fun b hb => rfl⟩ S
  · rw [if_neg hk] at hQ
    obtain ⟨D, ho, F, r, ld⟩ := S.ex
    refine add_x ho F hk hb ?_
    refine hQ true _ (Heap.SameBut.update ..) ⟨⟨_, get_upd _ ho rfl, add_ok u F, tx_ris r, ?_⟩, List.nodup_cons.mpr ⟨hk, S.nd⟩⟩
    rw [tx_led]
    exact ld
end
/-- what set(xs) holds behind the first i texts -/
def gotT (xs : List Str) (i : Nat) : List Str := (xs.take i).foldl putT []
theorem gotT_more {xs : List Str} {i : Nat} {x : Str} (h : xs[i]? = some x) : gotT xs (i + 1) = putT (gotT xs i) x := by
  unfold gotT
  rw [take_next h, List.foldl_append]
  rfl
theorem putT_len (l : List Str) (k : Str) : (putT l k).length ≤ l.length + 1 := by
  unfold putT
  split
  · omega
  · simp
theorem mem_putT {l : List Str} {k x : Str} : x ∈ putT l k ↔ x = k ∨ x ∈ l := by
  unfold putT
  split
  · constructor
    · exact .inr
    · rintro (rfl | h)
      · assumption
      · exact h
  · exact List.mem_cons
theorem mem_fold : ∀ (xs l : List Str) (x : Str), x ∈ xs.foldl putT l ↔ x ∈ xs ∨ x ∈ l
  | [], l, x => by simp
  | y :: r, l, x => by
    rw [List.foldl_cons, mem_fold r, mem_putT, List.mem_cons]
    constructor
    · rintro (h | h | h)
      · exact .inl (.inr h)
      · exact .inl (.inl h)
      · exact .inr h
    · rintro ((h | h) | h)
      · exact .inr (.inl h)
      · exact .inl h
      · exact .inr (.inr h)
theorem fold_len : ∀ (xs l : List Str), (xs.foldl putT l).length ≤ l.length + xs.length
  | [], l => by simp
  | y :: r, l => by
    have h1 := fold_len r (putT l y)
    have h2 := putT_len l y
    have e : (y :: r).length = r.length + 1 := rfl
    rw [List.foldl_cons, e]
    omega
theorem gotT_len (xs : List Str) (i : Nat) : (gotT xs i).length ≤ i := by
  have h := fold_len (xs.take i) []
  rw [List.length_take] at h
  unfold gotT
  have : ([] : List Str).length = 0 := rfl
  omega
end TXS
set_option maxHeartbeats 8000000
namespace TXS
open PySem PySem.Spec PyProof.Rows L2 PySem.Froz
section
variable {P : Program} {w : World} {A : Around} {E : Value → Shared → Prop} {s : Shared}
theorem tset_fresh {h : Heap} {a : Addr} (here : h.get? a = some { cls := .type "set", dict := none, data := .set #[] 0 (.fresh 0 0 (!w.params.followText "set-order")) }) : TSet P w h a [] := by
  have led : w.params.followText "set-order" = true ∨ (!w.params.followText "set-order") = true := by
    cases w.params.followText "set-order"
    · exact .inr rfl
    · exact .inl rfl
  exact ⟨⟨(#[], 0, .fresh 0 0 (!w.params.followText "set-order")), here, TxOk.nil rfl, List.Pairwise.nil, led⟩, List.nodup_nil⟩
/-- the loop of set.update over an iterator of texts -/
theorem upd_texts {it : Addr} {fp wr : List Addr} {G : Array GenState → Array GenState → Prop} {n : Nat} {Pv : Nat → Value → Prop} {St : Nat → Shared → Prop} {R : Result → Shared → Prop}
    (W : WalksS P w A.in1 it fp wr G n Pv St) (a : Addr) (out : a ∉ fp) (xs : List Str) (len : n = xs.length) (few : n + 1 < scanBound) (val : ∀ (i : Nat) (v : Value), Pv i v → ∃ x t, xs[i]? = some x ∧ v = Value.str x t) (m : Nat) :
    ∀ (i : Nat) (t : Shared), n - i = m → i ≤ n → St i t → TSet P w t.heap a (gotT xs i) →
      (∀ t', Moved (a :: wr) G t t' → TSet P w t'.heap a (gotT xs n) → R (.ok (.ret .none)) t') →
      codeAny (model P w) A (.builtin "set.update.loop" ⟨[.ref a, .ref it], []⟩) R t := by
  have apart : a ∉ wr := fun z => out (W.sub _ z)
  have wide : ∀ b ∈ wr, b ∈ a :: wr := fun _ z => .tail _ z
  have flat := fun (g : Args) => Around.under_plainId (A := A) F.plain_set_update_loop g
  induction m with
  | zero =>
    intro i t left le st T fin
    have e : i = n := by omega
    subst e
    apply codeAny_builtin F.entry_set_update_loop
    rw [flat]
    apply wpAny_bind
    apply W.done t _ _ st
    intro t' mv
    apply wpAny_pure
    exact fin t' (mv.mono wide) (T.keep fun o z => mv.heap a o apart z)
  | succ m ih =>
    intro i t left le st T fin
    have lt : i < n := by omega
    apply codeAny_builtin F.entry_set_update_loop
    rw [flat]
    apply wpAny_bind
    apply W.item i t _ _ lt st
    intro v t' pv st' mv
    obtain ⟨x, tk, at_, rfl⟩ := val i v pv
    have T' : TSet P w t'.heap a (gotT xs i) := T.keep fun o z => mv.heap a o apart z
    have room : (gotT xs i).length + 1 < scanBound := Nat.lt_of_le_of_lt (Nat.succ_le_succ (Nat.le_trans (gotT_len xs i) le)) few
    apply wpAny_bind
    apply wpAny_holding
    unfold setAdd
    apply wpAny_holding
    apply wpAny_bind
    apply (PySem.strKind P w).pyHash (is_str x tk)
    apply tset_add (s := { t' with toks := t'.toks + 1 }) T' room
    intro b h' but T2
    rw [← gotT_more at_] at T2
    have st2 := W.frame (i + 1) t' h' (t'.toks + 1) st' (Nat.le_succ _) fun c hc o z => (but.2 c (fun q => out (q ▸ hc))).trans z
    apply wpAny_pure
    refine ⟨plainId_quiet F.plain_set_update_loop _, ih (i + 1) _ (by omega) lt st2 T2 ?_⟩
    intro t2 mv2 T3
    refine fin t2 (Moved.trans W.gtrans ((mv.mono wide).then_heap (Nat.le_succ _) ?_) mv2) T3
    intro c o hc z
    exact (but.2 c (fun q => hc (q ▸ .head _))).trans z
/-- set(xs), xs a list of texts -/
theorem call_set_texts {l : Addr} {items : Array Value} (xs : List Str) {Q : Value → Shared → Prop} (calm : A.handled = none) (isL : s.heap.IsList l items) (val : ∀ (i : Nat) (v : Value), items[i]? = some v → ∃ x t, xs[i]? = some x ∧ v = Value.str x t) (len : items.size = xs.length) (few : xs.length + 1 < scanBound)
    (fin : ∀ (h' : Heap) (tk : Nat), TSet P w h' s.heap.objs.size (gotT xs xs.length) → (∀ b o, s.heap.get? b = some o → h'.get? b = some o) → Q (.ref s.heap.objs.size) { s with heap := h', toks := tk }) : wpAny (model P w) A (call (.type "set") [.ref l]) Q E s := by
  let o0 : Obj := { cls := .type "set", dict := none, data := .set #[] 0 (.fresh 0 0 (!w.params.followText "set-order")) }
  let h1 : Heap := s.heap.push o0
  have z1 : h1.objs.size = s.heap.objs.size + 1 := Heap.size_push ..
  have here : h1.get? s.heap.objs.size = some o0 := Heap.get?_push_size _ rfl
  have ty : Shared.TypeIs { s with heap := h1 } (.ref s.heap.objs.size) "set" := ⟨_, here, rfl⟩
  have old : ∀ b o, s.heap.get? b = some o → h1.get? b = some o := fun _ _ z => Heap.get?_push_of_some _ z
  obtain ⟨mc, ms, order⟩ := F.called_set.mro
  have born := F.called_set.made
  have below := F.called_set.sub
  have w1 := weight_type_call_type "set" [.ref l] []
  have p1 := F.called_set.notType
  have p2 := F.called_set.canCreate
  have p3 := F.typeCall_set_1 (.ref l)
  have p4 := F.called_set.init.lookup
  have p5 := F.called_set.init.bind (.ref s.heap.objs.size)
  apply wpAny_call
  apply codeAny_of_tree
  refine wpAny_pure (And.intro (Code.quiet_builtin _ (by decide +kernel)) ?_)
  apply codeAny_builtin F.entry_type_call
  rw [Around.under_plain w1 rfl]
  repeat any_goals (first | assumption | wp_step)
  refine codeAny_mono (code_set_led1 (.ref l) (E := E) (Q₁ := fun v t => v = .ref s.heap.objs.size ∧ t = { s with heap := h1 }) ⟨rfl, rfl⟩) ?_
  rintro (e | fl) t1 r1
  · exact r1
  cases fl with
  | next => exact r1.elim
  | brk => exact r1.elim
  | cont => exact r1.elim
  | ret v =>
  obtain ⟨rfl, rfl⟩ := r1
  repeat any_goals (first | assumption | wp_step)
  let Ends : Value → Shared → Prop := fun r t => r = .none ∧ ∃ h' tk, t = { s with heap := h', toks := tk } ∧ TSet P w h' s.heap.objs.size (gotT xs xs.length) ∧ (∀ b o, s.heap.get? b = some o → h'.get? b = some o)
  refine codeAny_mono (codeAny_call_builtin (R := wants Ends E) F.called_set.init.plain F.entry_set_init (check_set_init_1 ty ?inside)) ?after
  case after =>
    rintro (e | fl) t2 r2
    · exact r2
    cases fl with
    | next => exact r2.elim
    | brk => exact r2.elim
    | cont => exact r2.elim
    | ret v =>
    obtain ⟨rfl, h', tk, rfl, T, kept⟩ := r2
    repeat any_goals (first | assumption | wp_step)
    exact fin h' tk T kept
  case inside =>
    obtain ⟨⟨oc, od, odata, osl⟩, atL, kc, nl, kd⟩ := isL
    dsimp only at kc kd
    subst kc kd
    have atL1 : h1.get? l = some { cls := .type "list", dict := od, data := .seq items nl, slots := osl } := old _ _ atL
    have isL1 : h1.IsList l items := ⟨_, atL1, rfl, nl, rfl⟩
    have f1 := F.sub_list_set
    have f2 := F.sub_list_frozenset
    have f3 : (Value.type "list" == Value.type "dict") = false := by decide
    have calm3 : A.in1.in1.in1.handled = none := by simp [calm]
    have ltL : l < s.heap.objs.size := Heap.lt_size atL
    unfold Builtin.«set.__init__»
    unfold noKeywords
    unfold Builtin.Frozenset.updateFrom
    generalize eP : pyIter = pI
    wp_walk
    subst eP
    apply wpAny_pyIter_list isL1
    apply wpAny_bind
    apply wpAny_runValue
    have nI : l ≠ h1.objs.size := z1 ▸ Nat.ne_of_lt (Nat.lt_succ_of_lt ltL)
    have nS : s.heap.objs.size ∉ [h1.objs.size, l] := by
      rw [z1]
      simp only [List.mem_cons, List.not_mem_nil, or_false, not_or]
      exact ⟨Nat.ne_of_lt (Nat.lt_succ_self _), (Nat.ne_of_lt ltL).symm⟩
    have room : items.size + 1 < scanBound := len ▸ few
    apply upd_texts ((Walks.list calm3 _ l nI items).toS) s.heap.objs.size nS xs len room val (items.size - 0) 0 _ (by omega) (Nat.zero_le _) ⟨⟨_, Heap.get?_push_size _ rfl, rfl, rfl⟩, (isL1.push _)⟩
    · exact tset_fresh (Heap.get?_push_of_some _ here)
    · rintro ⟨h', g', d', tk', os'⟩ mv T
      have eg : g' = s.gens := mv.gens
      have ed : d' = s.drawn := mv.drawn
      have eo : os' = s.os := mv.os
      subst eg ed eo
      rw [len] at T
      apply wpAny_pure
      apply wpAny_pure
      refine ⟨rfl, h', tk', rfl, T, ?_⟩
      intro b o z
      have lb := Heap.lt_size z
      refine mv.heap b o ?_ (Heap.get?_push_of_some _ (old b o z))
      intro q
      cases List.mem_cons.mp q with
      | inl q => exact Nat.lt_irrefl _ (q ▸ lb)
      | inr q =>
        have q2 := List.mem_singleton.mp q
        rw [q2, z1] at lb
        exact Nat.lt_irrefl _ (Nat.lt_of_succ_lt lb)

end
end TXS
set_option maxHeartbeats 8000000
namespace TXS
open PySem PySem.Spec PyProof.Rows L2 PySem.Froz
section
variable {P : Program} {w : World} {A : Around} {E : Value → Shared → Prop} {s : Shared}
theorem strsAre_ex : ∀ (vs : List Value), (∀ v ∈ vs, ∃ x t, v = Value.str x t) → ∃ ys : List Str, StrsAre vs ys
  | [], _ => ⟨[], .nil⟩
  | v :: vs, h => by
    obtain ⟨x, t, rfl⟩ := h v List.mem_cons_self
    obtain ⟨ys, q⟩ := strsAre_ex vs fun u hu => h u (List.mem_cons_of_mem _ hu)
    exact ⟨x :: ys, .cons x t q⟩
theorem strsAre_mem : ∀ {vs : List Value} {ys : List Str}, StrsAre vs ys → ∀ x, x ∈ ys ↔ ∃ v ∈ vs, Value.isStrOf x v = true
  | _, _, .nil, x => by simp
  | _, _, .cons y t (vs := vs) (ys := ys) r, x => by
    have h := strsAre_mem r x
    rw [List.mem_cons, h]
    constructor
    · rintro (rfl | ⟨v, hv, e⟩)
      · exact ⟨_, List.mem_cons_self, by simp [Value.isStrOf]⟩
      · exact ⟨v, List.mem_cons_of_mem _ hv, e⟩
    · rintro ⟨v, hv, e⟩
      cases List.mem_cons.mp hv with
      | inl ev =>
        subst ev
        have e2 : (y == x) = true := e
        exact .inl (eq_of_beq e2).symm
      | inr hv => exact .inr ⟨v, hv, e⟩
/-- sorted(s), s a set of texts -/
theorem sorted_texts {a : Addr} {l : List Str} {Q : Value → Shared → Prop} (T : TSet P w s.heap a l) (calm : A.handled = none) (few : l.length < scanBound)
    (fin : ∀ t p (out : Array Value) (c : Nat) (ys : List Str), (∀ b o, s.heap.get? b = some o → t.heap.get? b = some o) → t.gens = s.gens → t.os = s.os → s.heap.objs.size ≤ p →
      t.heap.get? p = some (seqObj "list" out c) → StrsAre out.toList ys → sortedS ys = true → ys.length = l.length → (∀ x, x ∈ ys ↔ x ∈ l) → Q (.ref p) t) :
    wpAny (model P w) A (call (.builtin ("sorted" : String)) [Value.ref a]) Q E s := by
  obtain ⟨⟨es, ep, tb⟩, here, ok, ris, led⟩ := T.ex
  have many : es.size = l.length := ok.sz
  have scan : es.size < scanBound := many ▸ few
  apply Calls.call_function_entry kind_sorted plain_sorted entry_sorted (args_sorted1 _)
  unfold Builtin.«sorted»
  apply wpAny_bind (m := checkCount "sorted" 1 1 _)
  apply wpAny_pure
  apply wpAny_bind
  apply collect_set (A := A.in1) calm ⟨_, here, rfl, rfl⟩ ok.fit scan ris led
  intro t1 vs kept more gens os perm
  have count : vs.length = l.length := by
    have e := perm.length_eq
    rw [List.length_map, Array.length_toList] at e
    exact e.trans many
  have texts : ∀ v ∈ vs, ∃ x t, v = Value.str x t := by
    intro v hv
    have hm := List.mem_map.mp (perm.mem_iff.mp hv)
    obtain ⟨el, mem, rfl⟩ := hm
    obtain ⟨⟨x, is, _⟩, _⟩ := ok.el el mem
    obtain ⟨t, z⟩ := Value.isStrOf_shape is
    exact ⟨x, t, z⟩
  obtain ⟨xs, are⟩ := strsAre_ex vs texts
  have line : vs.length ≤ sizeLine := by
    unfold scanBound at few
    rw [count, sizeLine_eq]
    omega
  apply wpAny_bind
  apply wpAny_newList (h := ?_) line
  let fresh : Heap := t1.heap.push (seqObj "list" vs.toArray 0)
  have laid : fresh.get? t1.heap.objs.size = some (seqObj "list" vs.toArray 0) := Heap.get?_push_size _ rfl
  apply wpAny_bind
  apply wpAny_holding
  refine wpAny_call_entry slot_list_sort ⟨_, laid, rfl⟩ entry_list_sort (list_sort_treeKAny strKind_oneLt laid are.keysOf (fun _ _ _ e => keyKind_strs (e ▸ are)) line ?_) (args_list_sort _)
  intro st pm srt
  obtain ⟨ys, are2, same, rise⟩ := sorted_out_str are pm srt
  obtain ⟨c, at_⟩ := sortedHeap_at (vs := vs) (out := (arrOf st).map (·.2)) laid
  refine ⟨Value.none, rfl, wpAny_pure ⟨_, rfl, fin _ t1.heap.objs.size _ c ys ?_ gens os more at_ are2 rise ?_ ?_⟩⟩
  · intro b o z
    have z1 := kept b o z
    have lt := Heap.lt_size z1
    have old := sortedHeap_old (vs := vs) (out := (arrOf st).map (·.2)) (h := fresh) (a := t1.heap.objs.size) (b := b) (Nat.ne_of_lt lt) (Nat.lt_of_lt_of_eq (Nat.lt_succ_of_lt lt) (size_push' _ _).symm)
    exact old.trans (Heap.get?_push_of_some _ z1)
  · have e := same.length_eq
    rw [← are.len_eq, count] at e
    exact e
  · intro x
    have m1 := same.mem_iff (a := x)
    rw [m1, strsAre_mem are x, ok.mem x]
    constructor
    · rintro ⟨v, hv, is⟩
      have hm := List.mem_map.mp (perm.mem_iff.mp hv)
      obtain ⟨el, mem, rfl⟩ := hm
      exact ⟨el, mem, is⟩
    · rintro ⟨el, mem, is⟩
      exact ⟨el.2, perm.mem_iff.mpr (List.mem_map.mpr ⟨el, mem, rfl⟩), is⟩
end
theorem len_of_sub : ∀ (l ys : List Str), l.Nodup → (∀ x ∈ l, x ∈ ys) → l.length ≤ ys.length
  | [], ys, _, _ => Nat.zero_le _
  | a :: l, ys, nd, sub => by
    obtain ⟨na, nl⟩ := List.nodup_cons.mp nd
    have ha : a ∈ ys := sub a List.mem_cons_self
    have h := len_of_sub l (ys.erase a) nl fun x hx => (List.mem_erase_of_ne (fun z => na (by rw [← z]; exact hx))).mpr (sub x (List.mem_cons_of_mem _ hx))
    rw [List.length_erase_of_mem ha] at h
    have := List.length_pos_of_mem ha
    rw [List.length_cons]
    omega
theorem nodup_of_len : ∀ (l ys : List Str), l.Nodup → (∀ x ∈ l, x ∈ ys) → ys.length ≤ l.length → ys.Nodup
  | [], ys, _, _, h => by
    cases ys with
    | nil => exact List.nodup_nil
    | cons y r => simp at h
  | a :: l, ys, nd, sub, h => by
    obtain ⟨na, nl⟩ := List.nodup_cons.mp nd
    have ha : a ∈ ys := sub a List.mem_cons_self
    have hs : ∀ x ∈ l, x ∈ ys.erase a := fun x hx => (List.mem_erase_of_ne (fun z => na (by rw [← z]; exact hx))).mpr (sub x (List.mem_cons_of_mem _ hx))
    have hlen := List.length_erase_of_mem ha
    have hp := List.length_pos_of_mem ha
    rw [List.length_cons] at h
    have n1 := nodup_of_len l (ys.erase a) nl hs (by omega)
    refine (List.perm_cons_erase ha).nodup_iff.mpr (List.nodup_cons.mpr ⟨fun h2 => ?_, n1⟩)
    have h3 := len_of_sub l ((ys.erase a).erase a) nl fun x hx => (List.mem_erase_of_ne (fun z => na (by rw [← z]; exact hx))).mpr (hs x hx)
    rw [List.length_erase_of_mem h2] at h3
    have := List.length_pos_of_mem h2
    omega
/-! ### over the layer -/
def TSetO (P : Program) (w : World) (a : Addr) (l : List Str) : HO := .ext fun h => TSet P w h a l
theorem tsetO_new {P : Program} {w : World} {H : Hp} {h : Heap} {a : Addr} {l : List Str} (R : TSet P w h a l) : ObjOk P w H h a (TSetO P w a l) := by
  have ⟨D, ho, q⟩ := R.ex
  exact ⟨R, ⟨_, ho⟩, fun h1 h2 p k => TSet.keep p k⟩
theorem strs_vals : ∀ {xs : List Str} {us : List Value}, Vals (xs.map V.str) us → ∀ (i : Nat) (v : Value), us[i]? = some v → ∃ x t, xs[i]? = some x ∧ v = Value.str x t
  | [], _, .nil, i, v, h => by cases h
  | x :: xs, _, .cons r rs, 0, v, h => by
    obtain ⟨t, rfl⟩ := r
    cases h
    exact ⟨x, t, rfl, rfl⟩
  | x :: xs, _, .cons r rs, i + 1, v, h => strs_vals rs i v h
section
variable {X : Cx}
/-- set(xs), xs a list of texts -/
def rSetX (K : PySem.W.Frag) (P : Program) (w : World) : List V → Hp → VK → Prop := fun vs H Q => ∃ (l : Addr) (xs : List Str), vs = [V.ref l] ∧ SqL K H l (xs.map V.str) ∧ xs.length + 1 < scanBound ∧
  ∀ a l', H a = none → l'.Nodup → (∀ x, x ∈ l' ↔ x ∈ xs) → l'.length ≤ xs.length → Q (.ref a) (upd H a (TSetO P w a l'))
theorem cr_setX (hc : X.calm = true) : CallR X (.type "set") (rSetX X.K X.prog X.w) := by
  intro pn s st H vs us Q I r ask
  obtain ⟨l, xs, rfl, hl, few, q⟩ := ask
  rw [Vals.ref1 r]
  have ⟨its, rv, pl, _⟩ := I.list hl
  have free : H s.heap.objs.size = none := I.hok.fresh (Nat.le_refl s.heap.objs.size)
  have hlen := rv.length
  rw [List.length_map] at hlen
  refine call_set_texts (P := X.prog) (w := X.w) xs (I.ok.hd hc) pl.isList (fun i v e => strs_vals rv i v (by simpa using e)) (by simpa using hlen.symm) few fun h' tk R k => ?_
  refine ⟨.ref s.heap.objs.size, upd H s.heap.objs.size (TSetO X.prog X.w s.heap.objs.size (gotT xs xs.length)), I.laid (t' := tk) k (Nat.le_refl _) (tsetO_new R), rfl, q _ _ free R.nd (fun x => ?_) (gotT_len _ _)⟩
  unfold gotT
  rw [List.take_length, mem_fold]
  simp
/-- sorted(s), s a set of texts -/
def rSortX (P : Program) (w : World) : List V → Hp → VK → Prop := fun vs H Q => ∃ (a : Addr) (l : List Str), vs = [V.ref a] ∧ H a = some (TSetO P w a l) ∧ l.length < scanBound ∧
  ∀ (ys : List Str) (p : Addr), sortedS ys = true → ys.Nodup → (∀ x, x ∈ ys ↔ x ∈ l) → ys.length = l.length → H p = none → Q (.ref p) (upd H p (.lst (ys.map V.str)))
theorem cr_sortX (hc : X.calm = true) : CallR X (.builtin "sorted") (rSortX X.prog X.w) := by
  intro pn s st H vs us Q I r ask
  obtain ⟨a, l, rfl, ha, few, q⟩ := ask
  have R0 : TSet X.prog X.w s.heap a l := (I.hok a _ ha).1
  rw [Vals.ref1 r]
  refine sorted_texts R0 (I.ok.hd hc) few fun s' p out c ys k g o hp hg hS hs hlen hm => ?_
  have hl2 : (ys.map V.str).length ≤ sizeLine := by
    rw [List.length_map, hlen, sizeLine_eq]
    unfold scanBound at few
    omega
  have free : H p = none := I.hok.fresh hp
  have hv : Vals (ys.map V.str) out.toList := vals_of_strs hS
  have same : { s with heap := s'.heap, gens := s'.gens, drawn := s'.drawn, toks := s'.toks } = s' := by
    cases s'
    cases s
    cases o
    rfl
  have J : Inv X pn st (upd H p (.lst (ys.map V.str))) { s with heap := s'.heap, gens := s'.gens, drawn := s'.drawn, toks := s'.toks } :=
    I.call (ch := []) (Un.laid k hp free) (I.hok.laid k hp ⟨hl2, out.toList, c, hv, hg⟩) (by rw [g]; exact I.bare) (fun _ z => nomatch z)
  rw [same] at J
  have nd : ys.Nodup := by
    exact nodup_of_len l ys R0.nd (fun x hx => (hm x).mpr hx) (by omega)
  exact ⟨.ref p, _, J, rfl, q ys p hs nd hm hlen free⟩
end
end TXS
set_option maxHeartbeats 4000000
/-! own special methods of plain instances: str(x), f'{x}', the signs, == and != -/
namespace OW
open PySem PySem.Spec PyProof.Rows
section
variable {prog : Program} {w : World} {A : Around} {E : Value → Shared → Prop} {s : Shared} {K : PySem.W.Frag} {x C f : Addr} {ox : Obj} {od : Option Obj}
theorem str_own {Q : Value → Shared → Prop} (room : A.in1.in1.units < cLine) (kin : K.In s.heap) (J : PySem.W.InstAt s.heap x ox C od)
    (at_ : PySem.W.findIn K (.ref C) "__str__" = some (some (.ref f))) (fn : PySem.W.isFn K (.ref f) = true)
    (run : wpAny (model prog w) A.in1.in1 (call (.ref f) [.ref x]) (fun r t => ∃ y u, r = Value.str y u ∧ Q r t) E s) :
    wpAny (model prog w) A (call (.type "str") [.ref x]) Q E s := by
  let G : Value → Shared → Prop := fun r t => ∃ y u, r = Value.str y u ∧ Q r t
  have text : wpAny (model prog w) A.in1.in1 (PySem.Builtin.Str.strOf (.ref x)) G E s := by
    unfold Builtin.Str.strOf
    have off : PySem.Builtin.Str.isExactStr (.ref x) = false := rfl
    rw [off]
    apply wpAny_bind (m := cRoomFor _ _)
    apply wpAny_cRoomFor room
    apply wpAny_bind (m := callSpecial? (.ref x) (Str.ofString "__str__"))
    apply PySem.W.special_fn kin J at_ (beq_iff_eq.mp fn)
    refine wpAny_mono run ?_ (fun _ _ z => z)
    rintro r t ⟨y, u, rfl, q⟩
    exact wpAny_pure ⟨y, u, rfl, q⟩
  have born : codeAny (model prog w) A.in1 (.call (.builtin "str.__new__") ⟨[.type "str", .ref x], []⟩) (wants G E) s := by
    apply codeAny_of_tree
    apply wpAny_bind
    apply wpAny_of_eq (PySem.F.newCall_str_1 _)
    apply wpAny_pure
    constructor
    · exact plainId_quiet (by decide +kernel) _
    · apply codeAny_builtin PySem.F.entry_str_new
      have flat := Around.under_plainId (A := A.in1) (show plainId "str.__new__" = true by decide +kernel) ⟨[.type "str", .ref x], []⟩
      rw [flat, str_new_tree]
      apply wpAny_bind
      apply wpAny_pure
      apply wpAny_bind
      apply wpAny_of_eq isSubtype_str_str
      apply wpAny_bind
      refine wpAny_mono text ?_ (fun _ _ z => z)
      intro r t q
      exact wpAny_pure q
  apply callType_codes (Q₁ := G) PySem.F.called_str (PySem.F.typeCall_str_1 _) PySem.F.entry_object_init born
  rintro r t ⟨y, u, rfl, q⟩
  have own := PySem.F.called_str
  refine ⟨typeIs_str _ _ _, PySem.F.args_object_init_2 _ _, ?_⟩
  exact object_init_meets own.init.lookup own.made (by decide) prog w A.in1 _ t ⟨typeIs_str _ _ _, rfl, q⟩
/-- a special method that is a built-in's -/
theorem ifBound_b {M : Model} {name : Str} {id : String} {args : List Value} {Q : Option Value → Shared → Prop} (kin : K.In s.heap) (J : PySem.W.InstAt s.heap x ox C od)
    (at_ : PySem.W.findIn K (.ref C) name = some (some (.builtin id))) (bs : ∀ self, bindSpecial (.builtin id) self = pure (.builtin id, [self]))
    (run : wpAny M A (call (.builtin id) (.ref x :: args)) (fun v => Q (some v)) E s) : wpAny M A (callSpecialIfBound? (.ref x) name args) Q E s := by
  have bound := PySem.W.Looks.of_pure (M := M) (h := s.heap) (bs (.ref x))
  have last : wpAny M A (call (.builtin id) ([.ref x] ++ args) >>= fun v => pure (some v)) Q E s := by
    apply wpAny_bind
    exact wpAny_mono run (fun _ _ z => wpAny_pure z) (fun _ _ z => z)
  rw [callSpecialIfBound?]
  simp only [bindSpecialIfBound?]
  apply wpAny_holding
  apply wpAny_bind
  apply wpAny_bind
  apply wpAny_bind
  apply J.type.here
  apply (PySem.W.looks_findIn kin at_).here
  apply wpAny_bind
  apply wpAny_askSetting
  apply wpAny_ite
  split
  · apply wpAny_bind
    apply bound.here
    exact wpAny_pure (by exact last)
  · apply wpAny_tryCatch
    apply wpAny_bind
    apply bound.here
    exact wpAny_pure (by exact last)
/-- a comparison that its left side answers -/
theorem by_left {op : CmpOp} {b tb : Value} {Q : Value → Shared → Prop} (room : A.units < cLine) (kin : K.In s.heap) (J : PySem.W.InstAt s.heap x ox C od) (ty : PySem.W.Looks (model prog w) s.heap (typeOf b) tb)
    (nf : PySem.W.notFirst K C tb = true) (hit : wpAny (model prog w) A (tryCompare (.ref x) (cmpInfo op).2.1 b) (fun r t => ∃ v, r = some v ∧ Q v t) E s) :
    wpAny (model prog w) A (richCompare op (.ref x) b) Q E s := by
  unfold richCompare
  simp only [oneThing_ref]
  apply wpAny_holding
  apply wpAny_bind
  apply wpAny_cRoomFor room
  apply wpAny_bind
  apply J.type.here
  apply wpAny_bind
  apply ty.here
  split
  · next ne =>
    have sub : PySem.W.subIn K tb (.ref C) = some false := by
      have two := Bool.or_eq_true_iff.mp nf
      cases two with
      | inl e =>
        have same := beq_iff_eq.mp e
        rw [same] at ne
        simp at ne
      | inr e => exact beq_iff_eq.mp e
    apply wpAny_bind
    apply (PySem.W.looks_subIn kin sub).here
    rw [if_neg (by decide)]
    apply wpAny_bind
    refine wpAny_mono hit ?_ (fun _ _ z => z)
    rintro r t ⟨v, rfl, q⟩
    exact wpAny_pure q
  · apply wpAny_bind
    apply wpAny_pure
    rw [if_neg (by decide)]
    apply wpAny_bind
    refine wpAny_mono hit ?_ (fun _ _ z => z)
    rintro r t ⟨v, rfl, q⟩
    exact wpAny_pure q
/-- x != y, x with an own == alone -/
theorem ne_own {b tb : Value} {Q : Value → Shared → Prop} {h₀ : Heap} {L : Addr} {m : Str → Option Value} (room : A.units + 1 < cLine) (fr : Fr h₀ L s.heap m) (k0 : K.In h₀) (J : PySem.W.InstAt s.heap x ox C od)
    (ty : PySem.W.Looks (model prog w) s.heap (typeOf b) tb) (nf : PySem.W.notFirst K C tb = true)
    (nat : PySem.W.findIn K (.ref C) "__ne__" = some (some (.builtin "object.__ne__"))) (mo : PySem.W.mroIn K C (.type "object") = some true)
    (at_ : PySem.W.findIn K (.ref C) "__eq__" = some (some (.ref f))) (fn : PySem.W.isFn K (.ref f) = true)
    (run : wpAny (model prog w) A.in1 (call (.ref f) [.ref x, b]) (fun v t => ∃ k, v = Value.bool k ∧ Q (.bool (!k)) t) E s) : wpAny (model prog w) A (richCompare .NotEq (.ref x) b) Q E s := by
  have kin := k0.keeps fr.keep
  apply by_left (op := .NotEq) (Nat.lt_of_succ_lt room) kin J ty nf
  unfold tryCompare
  apply wpAny_bind
  apply ifBound_b kin J nat PySem.F.slot_object_ne.bind
  apply wpAny_call
  apply codeAny_call_builtin PySem.F.slot_object_ne.plain PySem.F.cmpEntry_ne
  refine PySem.W.check_slot PySem.F.cmpKind_ne PySem.F.cmpSplit_ne (J.type.andThen (PySem.W.looks_mroIn kin mo)) (PySem.F.cmpArgs_ne _ _) ?_
  unfold PySem.Builtin.«object.__ne__»
  apply wpAny_bind (m := slotArgs "__ne__" 1 _)
  apply wpAny_pure
  apply wpAny_bind (m := cRoomFor _ _)
  apply wpAny_cRoomFor (A := A.in1) room
  apply wpAny_bind (m := callSpecialIfBound? (.ref x) (Str.ofString "__eq__") _)
  apply PySem.W.ifBound_K kin J at_ fn
  refine wpAny_mono run ?_ (fun _ _ z => z)
  rintro r t ⟨k, rfl, q⟩
  apply wpAny_bind (m := truthy (.bool _))
  apply wpAny_truthy_bool
  first
    | exact wpAny_pure (wpAny_pure ⟨_, rfl, q⟩)
    | exact wpAny_pure ⟨_, rfl, wpAny_pure ⟨_, rfl, q⟩⟩
    | exact wpAny_pure ⟨_, rfl, q⟩
end
end OW
namespace OW
open PySem PySem.Spec PyProof.Rows L2
section
variable {X : Cx} {CX : CXT} {C g : Addr} {n : Nat} {sp : Sp} {E : XK}
theorem ins_at {pins : List (Addr × Obj)} {σ : L2.St} {H : Hp} {s : Shared} {a dx : Addr} {fs : List (Str × V)} (I : Inv X pins σ H s) (h : H a = some (.ins C dx fs)) : ∃ od, PySem.W.InstAt s.heap a (PySem.W.instObj C dx) C (some od) := by
  have got := ins_get I.hok h
  obtain ⟨_, J, _⟩ := got
  exact ⟨_, J.look.choose_spec.1⟩
/-- the own method run below, on the instance alone -/
theorem run1 {A : Around} {pins : List (Addr × Obj)} {σ : L2.St} {H : Hp} {s : Shared} {a : Addr} {Q : VK} (F : FnR X.prog X.w X.K X.mg X.base CX n g sp) (room : Room n A) (e0 : Env0 X.prog X.w X.K X.mg X.base A X.stack s H) (out : Passes CX X E)
    (I : Inv X pins σ H s) (q : sp [.ref a] H Q E) : wpAny (model X.prog X.w) A (call (.ref g) [.ref a]) (EP X pins σ Q) X.xe s :=
  wpAny_call (SlX.run_at (us := [.ref a]) (ws := [.ref a]) F room e0 out I (.cons rfl .nil) q)
/-- .. on two -/
theorem run2 {A : Around} {pins : List (Addr × Obj)} {σ : L2.St} {H : Hp} {s : Shared} {a b : Addr} {Q : VK} (F : FnR X.prog X.w X.K X.mg X.base CX n g sp) (room : Room n A) (e0 : Env0 X.prog X.w X.K X.mg X.base A X.stack s H) (out : Passes CX X E)
    (I : Inv X pins σ H s) (q : sp [.ref a, .ref b] H Q E) : wpAny (model X.prog X.w) A (call (.ref g) [.ref a, .ref b]) (EP X pins σ Q) X.xe s :=
  wpAny_call (SlX.run_at (us := [.ref a, .ref b]) (ws := [.ref a, .ref b]) F room e0 out I (.cons rfl (.cons rfl .nil)) q)
def rStrOwn (C : Addr) (sp : Sp) (E : XK) : List V → Hp → VK → Prop := fun xs H Q => ∃ a dx fs, xs = [V.ref a] ∧ H a = some (.ins C dx fs) ∧ sp [.ref a] H (fun z H' => ∃ y, z = .str y ∧ Q z H') E
/-- str(x) -/
theorem call_strOwn (at_ : PySem.W.findIn X.K (.ref C) "__str__" = some (some (.ref g))) (fn : PySem.W.isFn X.K (.ref g) = true) (F : FnR X.prog X.w X.K X.mg X.base CX n g sp) (room : Room (n + 2) X.A) (out : Passes CX X E) : CallR X (.type "str") (rStrOwn C sp E) := by
  intro pn st sl H xs us Q I vals ask
  obtain ⟨a, dx, fs, rfl, here, ask⟩ := ask
  obtain ⟨od, J⟩ := ins_at I here
  have e : us = [Value.ref a] := Vals.ref1 vals
  subst e
  have low : Room (n + 1) X.A.in1 := Room.in1 room
  apply str_own low.in1.units0 I.kIn J at_ fn
  refine wpAny_mono (run1 F low.in1 I.env0.in1.in1 out I ask) ?_ (fun _ _ z => z)
  rintro u st' ⟨z, H', I', rel, y, rfl, q⟩
  obtain ⟨t, rfl⟩ := rel
  exact ⟨y, t, rfl, V.str y, H', I', ⟨t, rfl⟩, q⟩
/-- {x} in an f-string -/
def tFmtO (C : Addr) (sp : Sp) (E : XK) (te : TE) : TE := fun σ H Q => te σ H fun x H1 => ∃ a dx fs, x = .ref a ∧ H1 a = some (.ins C dx fs) ∧ sp [.ref a] H1 (fun z H' => ∃ y, z = .str y ∧ Q (.str y) H') E
theorem pe_fmtO {e : Expr} {te : TE} {pos : Pos} (he : PE X e te) (at_ : PySem.W.findIn X.K (.ref C) "__str__" = some (some (.ref g))) (fn : PySem.W.isFn X.K (.ref g) = true)
    (fm : PySem.W.findIn X.K (.ref C) "__format__" = some (some (.builtin "object.__format__"))) (mo : PySem.W.mroIn X.K C (.type "object") = some true)
    (F : FnR X.prog X.w X.K X.mg X.base CX n g sp) (room : Room (n + 1) X.A) (out : Passes CX X E) : PE X (.FormattedValue e (-1) none pos) (tFmtO C sp E te) := by
  constructor
  intro pn st sl H Q I ask
  apply wpAny_FormattedValue_plain
  refine thn (he.run pn st sl H _ I ask) ?_
  rintro v s1 ⟨x, H1, I1, rel, a, dx, fs, rfl, here, ask⟩
  have ev : v = Value.ref a := rel
  subst ev
  have I2 := I1.tok (s1.toks + 1)
  have low : Room n X.A.in1 := Room.in1 room
  obtain ⟨od, J⟩ := ins_at I1 here
  apply PySem.W.kfo_fieldS low.units0 I1.kIn J fm mo at_ fn
  refine wpAny_mono (run1 F low I2.env0.in1 out I2 ask) ?_ (fun _ _ z => z)
  rintro u st' ⟨z, H', I', rel', y, rfl, q⟩
  obtain ⟨t, rfl⟩ := rel'
  exact ⟨V.str y, H', I', ⟨t, rfl⟩, q⟩
/-- x op y, both instances of the class at C with an own method for op -/
def rBinO (C : Addr) (sp : Sp) (E : XK) : R2 := fun x y H Q => ∃ a dx fs b dy gs, x = .ref a ∧ y = .ref b ∧ H a = some (.ins C dx fs) ∧ H b = some (.ins C dy gs) ∧ sp [.ref a, .ref b] H Q E
theorem op_binO {op : Operator} (sf : PySem.W.selfFirst X.K C = true) (at_ : PySem.W.findIn X.K (.ref C) (PySem.dunder op.info.2) = some (some (.ref g))) (fn : PySem.W.isFn X.K (.ref g) = true)
    (F : FnR X.prog X.w X.K X.mg X.base CX n g sp) (room : Room n X.A) (out : Passes CX X E) : OpR X (binaryOp op) (rBinO C sp E) := by
  intro pn st sl H x y v u Q I r1 r2 ask
  obtain ⟨a, dx, fs, b, dy, gs, rfl, rfl, here, there, ask⟩ := ask
  have e1 : v = Value.ref a := r1
  have e2 : u = Value.ref b := r2
  subst e1 e2
  obtain ⟨_, J⟩ := ins_at I here
  obtain ⟨_, J2⟩ := ins_at I there
  obtain ⟨_, fr⟩ := I.fr
  apply PySem.W.binop_K fr I.ok.mod.kin J J2.type sf at_ fn
  refine wpAny_mono (run2 F room I.env0 out I ask) ?_ (fun _ _ z => z)
  rintro r st' ⟨z, H', I', rel, q⟩
  exact SlX.cmpback rel ⟨z, H', I', rel, q⟩
/-- ~x -/
def rInvO (C : Addr) (sp : Sp) (E : XK) : V → Hp → VK → Prop := fun x H Q => ∃ a dx fs, x = .ref a ∧ H a = some (.ins C dx fs) ∧ sp [.ref a] H Q E
theorem un_invO (at_ : PySem.W.findIn X.K (.ref C) "__invert__" = some (some (.ref g))) (fn : PySem.W.isFn X.K (.ref g) = true)
    (F : FnR X.prog X.w X.K X.mg X.base CX n g sp) (room : Room n X.A) (out : Passes CX X E) : UnR X (unaryOp .Invert) (rInvO C sp E) := by
  intro pn st sl H x v Q I r1 ask
  obtain ⟨a, dx, fs, rfl, here, ask⟩ := ask
  have e1 : v = Value.ref a := r1
  subst e1
  obtain ⟨_, J⟩ := ins_at I here
  obtain ⟨_, fr⟩ := I.fr
  exact PySem.W.ksp_inv fr I.ok.mod.kin J at_ fn (run1 F room I.env0 out I ask)
/-- x == y -/
theorem op_eqO (at_ : PySem.W.findIn X.K (.ref C) "__eq__" = some (some (.ref g))) (fn : PySem.W.isFn X.K (.ref g) = true)
    (F : FnR X.prog X.w X.K X.mg X.base CX n g sp) (room : Room n X.A) (out : Passes CX X E) : OpR X (compareOp .Eq) (rBinO C sp E) := by
  intro pn st sl H x y v u Q I r1 r2 ask
  obtain ⟨a, dx, fs, b, dy, gs, rfl, rfl, here, there, ask⟩ := ask
  have e1 : v = Value.ref a := r1
  have e2 : u = Value.ref b := r2
  subst e1 e2
  obtain ⟨_, J⟩ := ins_at I here
  obtain ⟨_, J2⟩ := ins_at I there
  obtain ⟨_, fr⟩ := I.fr
  have nf : PySem.W.notFirst X.K C (.ref C) = true := by simp [PySem.W.notFirst]
  apply PySem.W.cmp_K (op := .Eq) room.units0 fr I.ok.mod.kin J J2.type nf at_ fn
  refine wpAny_mono (run2 F room I.env0 out I ask) ?_ (fun _ _ z => z)
  rintro r st' ⟨z, H', I', rel, q⟩
  exact SlX.cmpback rel ⟨z, H', I', rel, q⟩
/-- x != y, by the own == -/
def rNeO (C : Addr) (sp : Sp) (E : XK) : R2 := fun x y H Q => ∃ a dx fs b dy gs, x = .ref a ∧ y = .ref b ∧ H a = some (.ins C dx fs) ∧ H b = some (.ins C dy gs) ∧ sp [.ref a, .ref b] H (fun z H' => ∃ k, z = .bl k ∧ Q (.bl (!k)) H') E
theorem op_neO (at_ : PySem.W.findIn X.K (.ref C) "__eq__" = some (some (.ref g))) (fn : PySem.W.isFn X.K (.ref g) = true)
    (nat : PySem.W.findIn X.K (.ref C) "__ne__" = some (some (.builtin "object.__ne__"))) (mo : PySem.W.mroIn X.K C (.type "object") = some true)
    (F : FnR X.prog X.w X.K X.mg X.base CX n g sp) (room : Room (n + 1) X.A) (out : Passes CX X E) : OpR X (compareOp .NotEq) (rNeO C sp E) := by
  intro pn st sl H x y v u Q I r1 r2 ask
  obtain ⟨a, dx, fs, b, dy, gs, rfl, rfl, here, there, ask⟩ := ask
  have e1 : v = Value.ref a := r1
  have e2 : u = Value.ref b := r2
  subst e1 e2
  obtain ⟨_, J⟩ := ins_at I here
  obtain ⟨_, J2⟩ := ins_at I there
  obtain ⟨_, fr⟩ := I.fr
  have low : Room n X.A.in1 := Room.in1 room
  have nf : PySem.W.notFirst X.K C (.ref C) = true := by simp [PySem.W.notFirst]
  apply ne_own low.units0 fr I.ok.mod.kin J J2.type nf nat mo at_ fn
  refine wpAny_mono (run2 F low I.env0.in1 out I ask) ?_ (fun _ _ z => z)
  rintro r st' ⟨z, H', I', rel, k, rfl, q⟩
  have er : r = Value.bool k := rel
  exact ⟨k, er, V.bl (!k), H', I', rfl, q⟩
end
end OW
set_option maxHeartbeats 4000000
/-! sayings as trees: texts, sizes, names -/
namespace SY
open PySem PySem.Spec PyProof.Rows L2
/-- the five joinings of two sayings -/
inductive Bk where | both | thn | lower | higher | same
  deriving DecidableEq
def Bk.kind : Bk → Str
  | .both => "both" | .thn => "then" | .lower => "lower" | .higher => "higher" | .same => "same"
def Bk.sign : Bk → Str
  | .both => "&" | .thn => "->" | .lower => "min" | .higher => "max" | .same => "same"
inductive Sy where
  | nm (c : Nat) | nev | alw | den (a : Sy) | bin (k : Bk) (a b : Sy)
  deriving DecidableEq
def one (c : Nat) : Str := ⟨#[c]⟩
def Sy.kind : Sy → Str
  | .nm _ => "name" | .nev => "never" | .alw => "always" | .den _ => "denied" | .bin k _ _ => k.kind
def Sy.text : Sy → Str
  | .nm c => one c | .nev => "0" | .alw => "1"
  | .den a => (Str.empty ++ "not ") ++ a.text
  | .bin k a b => (((((Str.empty ++ "(") ++ a.text) ++ " ") ++ k.sign) ++ " ") ++ b.text ++ ")"
def Sy.size : Sy → Nat
  | .nm _ => 1 | .nev => 1 | .alw => 1 | .den a => a.size + 1 | .bin _ a b => a.size + b.size + 1
def Sy.letter : Sy → V
  | .nm c => .str (one c) | _ => .non
def Sy.subs : Sy → List Sy
  | .den a => [a] | .bin _ a b => [a, b] | _ => []
/-- c stands as a name in it -/
def Sy.has : Sy → Nat → Bool
  | .nm d, c => d == c | .den a, c => a.has c | .bin _ a b, c => a.has c || b.has c | _, _ => false
/-- its names are letters -/
def Sy.ok : Sy → Prop
  | .nm c => 97 ≤ c ∧ c ≤ 122 | .den a => a.ok | .bin _ a b => a.ok ∧ b.ok | _ => True
def alphabet : List Nat := [97, 98, 99, 100, 101, 102, 103, 104, 105, 106, 107, 108, 109, 110, 111, 112, 113, 114, 115, 116, 117, 118, 119, 120, 121, 122]
theorem mem_alphabet {c : Nat} : c ∈ alphabet ↔ 97 ≤ c ∧ c ≤ 122 := by
  unfold alphabet
  simp only [List.mem_cons, List.not_mem_nil, or_false]
  omega
def Sy.names (t : Sy) : List Str := (alphabet.filter t.has).map one
theorem Sy.has_ok : ∀ {t : Sy} {c : Nat}, t.ok → t.has c = true → 97 ≤ c ∧ c ≤ 122
  | .nm d, c, h, e => by
    have : d = c := by simpa [Sy.has] using e
    rw [← this]
    exact h
  | .den a, c, h, e => Sy.has_ok (t := a) h e
  | .bin k a b, c, h, e => by
    rcases (Bool.or_eq_true _ _ ▸ e : a.has c = true ∨ b.has c = true) with e | e
    · exact Sy.has_ok h.1 e
    · exact Sy.has_ok h.2 e
  | .nev, _, _, e => by cases e
  | .alw, _, _, e => by cases e
theorem one_inj {c d : Nat} (h : one c = one d) : c = d := by
  injection h with h
  injection h with h
  injection h
theorem mem_names {t : Sy} (h : t.ok) {x : Str} : x ∈ t.names ↔ ∃ c, t.has c = true ∧ x = one c := by
  unfold Sy.names
  rw [List.mem_map]
  constructor
  · rintro ⟨c, hc, rfl⟩
    exact ⟨c, (List.mem_filter.mp hc).2, rfl⟩
  · rintro ⟨c, hc, rfl⟩
    exact ⟨c, List.mem_filter.mpr ⟨mem_alphabet.mpr (Sy.has_ok h hc), hc⟩, rfl⟩
theorem names_len (t : Sy) : t.names.length ≤ 26 := by
  unfold Sy.names
  rw [List.length_map]
  exact List.length_filter_le _ _
theorem cps_one (c : Nat) : (one c).cps.toList = [c] := rfl
/-- sorted lists of texts without doubles, of the same texts, are the same -/
theorem sortedS_pairwise : ∀ {l : List Str}, sortedS l = true → l.Pairwise fun a b => ltCps b.cps.toList a.cps.toList = false := by
  have go : ∀ (p : Str) (l : List Str), risingS p l = true → (p :: l).Pairwise fun a b => ltCps b.cps.toList a.cps.toList = false := by
    intro p l
    induction l generalizing p with
    | nil => intro _; exact List.pairwise_singleton _ _
    | cons x r ih =>
      intro h
      have h' : (!ltCps x.cps.toList p.cps.toList && risingS x r) = true := h
      rw [Bool.and_eq_true, Bool.not_eq_true'] at h'
      have i := ih x h'.2
      refine List.pairwise_cons.mpr ⟨fun y hy => ?_, i⟩
      rcases List.mem_cons.mp hy with ey | hy
      · rw [ey]
        exact h'.1
      · have e1 := h'.1
        have e2 := (List.pairwise_cons.mp i).1 y hy
        rw [ltCps_eq] at e1 e2 ⊢
        have f1 := of_decide_eq_false e1
        have f2 := of_decide_eq_false e2
        refine decide_eq_false fun z => ?_
        exact absurd z (List.not_lt.mpr (List.le_trans (List.not_lt.mp f1) (List.not_lt.mp f2)))
  intro l h
  cases l with
  | nil => exact List.Pairwise.nil
  | cons x r => exact go x r h
theorem names_of_sorted {t : Sy} (h : t.ok) {ys : List Str} (hs : sortedS ys = true) (nd : ys.Nodup) (hm : ∀ x, x ∈ ys ↔ ∃ c, t.has c = true ∧ x = one c) : ys = t.names := by
  -- both are strictly rising
  have p1 : ys.Pairwise fun a b => a.cps.toList < b.cps.toList := by
    have q := sortedS_pairwise hs
    refine List.Pairwise.imp_of_mem (fun {a b} ha hb h => ?_) (List.Pairwise.and q (List.nodup_iff_pairwise_ne.mp nd))
    have e := h.1
    rw [ltCps_eq] at e
    have f := List.not_lt.mp (of_decide_eq_false e)
    rcases List.le_iff_lt_or_eq.mp f with g | g
    · exact g
    · refine absurd ?_ h.2
      obtain ⟨c, _, rfl⟩ := (hm a).mp ha
      obtain ⟨d, _, rfl⟩ := (hm b).mp hb
      rw [cps_one, cps_one] at g
      injection g with g
      rw [g]
  have p2 : t.names.Pairwise fun a b => a.cps.toList < b.cps.toList := by
    unfold Sy.names
    refine List.pairwise_map.mpr (List.Pairwise.filter _ ?_)
    have e : alphabet.Pairwise (· < ·) := by decide
    exact e.imp fun {a b} h => by
      rw [cps_one, cps_one]
      exact List.Lex.rel h
  have pm : ys.Perm t.names := by
    refine (List.perm_ext_iff_of_nodup nd ?_).mpr fun x => (hm x).trans (mem_names h).symm
    refine List.nodup_iff_pairwise_ne.mpr (p2.imp fun {a b} h e => ?_)
    rw [e] at h
    exact List.lt_irrefl _ h
  exact List.Perm.eq_of_pairwise (fun a b _ _ h1 h2 => absurd (List.lt_trans h1 h2) (List.lt_irrefl _)) p1 p2 pm
/-! ### sizes, lengths -/
theorem Sy.size_pos : ∀ t : Sy, 0 < t.size
  | .nm _ => Nat.one_pos | .nev => Nat.one_pos | .alw => Nat.one_pos
  | .den a => Nat.succ_pos _ | .bin _ _ _ => Nat.succ_pos _
theorem Bk.sign_len (k : Bk) : k.sign.length ≤ 4 := by cases k <;> decide
theorem slen (a b : Str) : (a ++ b).length = a.length + b.length := strLen_append a b
theorem Sy.text_len : ∀ t : Sy, t.text.length ≤ 10 * t.size
  | .nm _ => by show 1 ≤ 10; decide
  | .nev => by show 1 ≤ 10; decide
  | .alw => by show 1 ≤ 10; decide
  | .den a => by
    have h := Sy.text_len a
    show ((Str.empty ++ "not ") ++ a.text).length ≤ 10 * (a.size + 1)
    rw [slen, slen]
    have e1 : Str.empty.length = 0 := rfl
    have e2 : ("not " : Str).length = 4 := by decide
    omega
  | .bin k a b => by
    have h1 := Sy.text_len a
    have h2 := Sy.text_len b
    have h3 := k.sign_len
    show ((((((Str.empty ++ "(") ++ a.text) ++ " ") ++ k.sign) ++ " ") ++ b.text ++ ")").length ≤ 10 * (a.size + b.size + 1)
    rw [slen, slen, slen, slen, slen, slen, slen]
    have e1 : Str.empty.length = 0 := rfl
    have e2 : ("(" : Str).length = 1 := by decide
    have e3 : (" " : Str).length = 1 := by decide
    have e4 : (")" : Str).length = 1 := by decide
    omega
/-! ### in the heap -/
theorem tup_on {K : PySem.W.Frag} {H H' : Hp} {a : Addr} {xs : List V} (h : SqT K H a xs) (e : Same H H') : SqT K H' a xs :=
  match h with
  | .inl (.inl h) => .inl (.inl (e a _ h))
  | .inl (.inr ⟨o, h⟩) => .inl (.inr ⟨o, e a _ h⟩)
  | .inr h => .inr h
def Sy.fields (t : Sy) (p q : Addr) : List (Str × V) := [("kind", .str t.kind), ("pieces", .ref p), ("letter", t.letter), ("size", .int t.size), ("names", .ref q), ("_text", .str t.text)]
def SayAt (K : PySem.W.Frag) (C : Addr) (H : Hp) : Sy → Addr → Prop
  | .nm c, a => ∃ dx p q, H a = some (.ins C dx ((Sy.nm c).fields p q)) ∧ SqT K H q ((Sy.nm c).names.map V.str) ∧ SqT K H p []
  | .nev, a => ∃ dx p q, H a = some (.ins C dx (Sy.nev.fields p q)) ∧ SqT K H q (Sy.nev.names.map V.str) ∧ SqT K H p []
  | .alw, a => ∃ dx p q, H a = some (.ins C dx (Sy.alw.fields p q)) ∧ SqT K H q (Sy.alw.names.map V.str) ∧ SqT K H p []
  | .den t, a => ∃ dx p q b, H a = some (.ins C dx ((Sy.den t).fields p q)) ∧ SqT K H q ((Sy.den t).names.map V.str) ∧ SqT K H p [.ref b] ∧ SayAt K C H t b
  | .bin k t u, a => ∃ dx p q b c, H a = some (.ins C dx ((Sy.bin k t u).fields p q)) ∧ SqT K H q ((Sy.bin k t u).names.map V.str) ∧ SqT K H p [.ref b, .ref c] ∧ SayAt K C H t b ∧ SayAt K C H u c
theorem SayAt.on {K : PySem.W.Frag} {C : Addr} {H H' : Hp} (e : Same H H') : ∀ {t : Sy} {a : Addr}, SayAt K C H t a → SayAt K C H' t a
  | .nm c, a, ⟨dx, p, q, h, h1, h2⟩ => ⟨dx, p, q, e _ _ h, tup_on h1 e, tup_on h2 e⟩
  | .nev, a, ⟨dx, p, q, h, h1, h2⟩ => ⟨dx, p, q, e _ _ h, tup_on h1 e, tup_on h2 e⟩
  | .alw, a, ⟨dx, p, q, h, h1, h2⟩ => ⟨dx, p, q, e _ _ h, tup_on h1 e, tup_on h2 e⟩
  | .den t, a, ⟨dx, p, q, b, h, h1, h2, h3⟩ => ⟨dx, p, q, b, e _ _ h, tup_on h1 e, tup_on h2 e, SayAt.on e h3⟩
  | .bin k t u, a, ⟨dx, p, q, b, c, h, h1, h2, h3, h4⟩ => ⟨dx, p, q, b, c, e _ _ h, tup_on h1 e, tup_on h2 e, SayAt.on e h3, SayAt.on e h4⟩
/-- what every saying shows -/
structure Face (K : PySem.W.Frag) (C : Addr) (H : Hp) (t : Sy) (a : Addr) : Prop where
  ex : ∃ dx p q, H a = some (.ins C dx (t.fields p q)) ∧ SqT K H q (t.names.map V.str) ∧ ∃ bs : List Addr, SqT K H p (bs.map V.ref) ∧ Paired (SayAt K C H) t.subs bs
theorem SayAt.face {K : PySem.W.Frag} {C : Addr} {H : Hp} : ∀ {t : Sy} {a : Addr}, SayAt K C H t a → Face K C H t a
  | .nm c, a, ⟨dx, p, q, h, h1, h2⟩ => ⟨dx, p, q, h, h1, [], h2, .nil⟩
  | .nev, a, ⟨dx, p, q, h, h1, h2⟩ => ⟨dx, p, q, h, h1, [], h2, .nil⟩
  | .alw, a, ⟨dx, p, q, h, h1, h2⟩ => ⟨dx, p, q, h, h1, [], h2, .nil⟩
  | .den t, a, ⟨dx, p, q, b, h, h1, h2, h3⟩ => ⟨dx, p, q, h, h1, [b], h2, .cons h3 .nil⟩
  | .bin k t u, a, ⟨dx, p, q, b, c, h, h1, h2, h3, h4⟩ => ⟨dx, p, q, h, h1, [b, c], h2, .cons h3 (.cons h4 .nil)⟩
end SY
set_option maxHeartbeats 8000000
namespace G1
open PySem PySem.Spec PyProof.Rows L2 SY TXS
theorem same_new {H0 H : Hp} {D : Addr} {o : HO} (n : H0 D = none) (s : Same H0 H) : Same H0 (upd H D o) := fun b u e => (upd_ne (ne_of_none e n)).trans (s b u e)
/-- a walk over a tuple that stands: Pv by the turn, body with what comes next -/
theorem tup_turns {K : PySem.W.Frag} {a : Addr} {xs : List V} {from_ : Hp} {Qd : Hp → Prop} {body : V → Hp → (Hp → Prop) → Prop} (Pv : Nat → Hp → Prop)
    (first : Pv 0 from_) (stands : ∀ i H, i ≤ xs.length → Pv i H → SqT K H a xs)
    (turn : ∀ i x H, xs[i]? = some x → Pv i H → body x H (Pv (i + 1))) (last : ∀ H, Pv xs.length H → Qd H) :
    ∃ W : Nat → Nat → Hp → Prop, (∃ m, W 0 m from_) ∧ ∀ i m H, W i m H → ((Itt K a).stop i H ∧ Qd H) ∨
      ((Itt K a).go i H ∧ ∃ Nx : Hp → Prop, (∀ H', Nx H' → ∃ m', m' < m ∧ W (i + 1) m' H') ∧ ∀ x H', (Itt K a).yld i H x H' → body x H' Nx) := by
  let W : Nat → Nat → Hp → Prop := fun i m H => m + i = xs.length ∧ Pv i H
  refine ⟨W, ⟨xs.length, rfl, first⟩, ?_⟩
  intro i m H w
  obtain ⟨sum, p⟩ := w
  have tup := stands i H (by omega) p
  match m with
  | 0 =>
    left
    have e : i = xs.length := by omega
    subst e
    exact ⟨⟨xs, tup, Nat.le_refl _⟩, last H p⟩
  | m + 1 =>
    right
    have lt : i < xs.length := by omega
    refine ⟨⟨xs, xs[i], tup, List.getElem?_eq_getElem lt⟩, Pv (i + 1), ?_, ?_⟩
    · intro H' p'
      exact ⟨m, Nat.lt_succ_self m, by omega, p'⟩
    · intro x H' y
      obtain ⟨rfl, y⟩ := y
      exact turn i x _ (y xs tup) p
theorem paired_at {α β γ : Type} {R : α → β → Prop} {f : β → γ} : ∀ {xs : List α} {ys : List β} {i : Nat} {v : γ}, Paired R xs ys → (ys.map f)[i]? = some v → ∃ x y, xs[i]? = some x ∧ ys[i]? = some y ∧ v = f y ∧ R x y
  | _, _, _, _, .nil, h => by cases h
  | _, _, 0, _, .cons r _, h => by
    cases h
    exact ⟨_, _, rfl, rfl, rfl, r⟩
  | _, _, i + 1, v, .cons _ rs, h => paired_at (i := i) rs h
theorem yes_of {σ : L2.St} {H : Hp} {Q : Bool → Hp → Prop} (h : Q true H) : tYes σ H Q := h
theorem letter_two (t : Sy) : (∃ c, t = .nm c) ∨ (t.letter = .non ∧ ∀ c, t ≠ .nm c) := by
  cases t with
  | nm c => exact .inl ⟨c, rfl⟩
  | _ => exact .inr ⟨rfl, fun c z => by cases z⟩
/-! ### names -/
def allNames (ts : List Sy) : List Str := ts.flatMap Sy.names
theorem allNames_len : ∀ ts : List Sy, (allNames ts).length ≤ 26 * ts.length
  | [] => Nat.zero_le _
  | t :: ts => by
    have h := allNames_len ts
    have h2 := names_len t
    unfold allNames at h ⊢
    rw [List.flatMap_cons, List.length_append, List.length_cons]
    omega
theorem subs_len (t : Sy) : t.subs.length ≤ 2 := by cases t <;> simp [Sy.subs]
theorem mem_allNames {t : Sy} (h : t.ok) (nn : ∀ c, t ≠ .nm c) (x : Str) : x ∈ allNames t.subs ↔ ∃ c, t.has c = true ∧ x = one c := by
  unfold allNames
  cases t with
  | nm c => exact absurd rfl (nn c)
  | nev => simp [Sy.subs, Sy.has]
  | alw => simp [Sy.subs, Sy.has]
  | den a =>
    show x ∈ [a].flatMap Sy.names ↔ _
    rw [List.flatMap_cons, List.flatMap_nil, List.append_nil, mem_names (t := a) h]
    exact Iff.rfl
  | bin k a b =>
    show x ∈ [a, b].flatMap Sy.names ↔ _
    rw [List.flatMap_cons, List.flatMap_cons, List.flatMap_nil, List.append_nil, List.mem_append, mem_names h.1, mem_names h.2]
    constructor
    · rintro (⟨c, e, r⟩ | ⟨c, e, r⟩)
      · exact ⟨c, by show (a.has c || b.has c) = true; rw [e]; rfl, r⟩
      · exact ⟨c, by show (a.has c || b.has c) = true; rw [e, Bool.or_true], r⟩
    · rintro ⟨c, e, r⟩
      rcases (Bool.or_eq_true _ _ ▸ (show (a.has c || b.has c) = true from e) : a.has c = true ∨ b.has c = true) with e | e
      · exact .inl ⟨c, e, r⟩
      · exact .inr ⟨c, e, r⟩
theorem names_nm {c : Nat} (h : (Sy.nm c).ok) : (Sy.nm c).names = [one c] := by
  refine (names_of_sorted h (ys := [one c]) rfl (List.nodup_cons.mpr ⟨List.not_mem_nil, List.nodup_nil⟩) fun x => ?_).symm
  rw [List.mem_singleton]
  constructor
  · rintro rfl
    exact ⟨c, by simp [Sy.has], rfl⟩
  · rintro ⟨d, e, rfl⟩
    have : c = d := by simpa [Sy.has] using e
    rw [this]
def spNames (K : PySem.W.Frag) (C : Addr) : Sp := fun vs H Q _ => ∃ (p : Addr) (t : Sy) (bs : List Addr), vs = [.ref p, t.letter] ∧ SqT K H p (bs.map V.ref) ∧ Paired (SayAt K C H) t.subs bs ∧ t.ok ∧
  ∀ q H', Same H H' → SqT K H' q (t.names.map V.str) → Q (.ref q) H'
section
variable {P : Program} {w : World} {K : PySem.W.Frag} {mg : Str → Option Value} {base : Heap} {C : Addr}
theorem scNames : FnScope ["pieces", "letter", "letters", "piece", "name"] ["pieces", "letter"] (defScope sNames) := ⟨rfl, rfl, rfl, by decide +kernel, rfl, by decide +kernel, by decide +kernel⟩
theorem cl_names (D : DefAt K mg "_names" sNames) (B : Blt mg) (cC : Cls K C) (nN : NoAttr K C "names") : Cl CX0 P w K mg base 1 "_names" ["pieces", "letter"] (spNames K C) := by
  obtain ⟨f, fd, F, hm⟩ := D
  refine cl_of F hm (F.ok scNames (fun vs H Q E h => ?_) (fun cdv A outer s H vs Q E hr h => ⟨_, PSs.nox (pss_cons
      (ps_if (pt_cmp (pc_notN (pv 1))) (pss_one (ps_ret (pe_tup (pa_cons (pv 1) pa_nil)))) pss_nil)
      (pss_cons (ps_setLc2 (i := 2) (own := [("piece", 3), ("name", 4)]) (vs1 := [4]) (g := gName 3) (g1 := gName 4) (tt := tYes) (tt1 := tYes) (wi1 := iTup K (tFld K (tVar 3) "names")) (by rfl) scNames.nd rfl rfl (sw_true rfl rfl rfl (by decide +kernel)) (pi_tup (pv 0))
        (blkOk_by (N := ["pieces", "letter", "letters", "piece", "name"]) (sc := defScope sNames) (by decide +kernel)) (by decide)
        (fun _ _ _ _ _ => pg_name (i := 3) scNames.nd rfl (Or.inl rfl)) (fun _ _ _ _ _ => pts_nil)
        (fun _ _ _ _ _ => pi_tup (pe_fld (pv 3) rfl)) (fun _ _ _ _ _ => pg_name (i := 4) scNames.nd rfl (Or.inl rfl)) (fun _ _ _ _ _ => pts_nil) (fun _ _ _ _ _ => pv 4))
      (pss_one (ps_ret (pe_callTy call_tuple_of (by rfl) B.tuple (by decide +kernel) (pa_cons (pe_callB (cr_sortX rfl) (by rfl) B.sorted (by decide +kernel) (pa_cons (pe_callTy (cr_setX rfl) (by rfl) B.set (by decide +kernel) (pa_cons (pv 2) pa_nil)) pa_nil)) pa_nil)))))), ?_⟩)) fun _ _ _ _ _ _ us hl => match us, hl with | [_, _], _ => rfl
  · obtain ⟨p, t, bs, rfl, _⟩ := h
    rfl
  · obtain ⟨p, t, bs, rfl, hp, hb, ok, q⟩ := h
    refine ⟨_, rfl, _, rfl, ?_⟩
    rcases letter_two t with ⟨c, rfl⟩ | ⟨hl, nn⟩
    · rw [show decide ((Sy.nm c).letter = V.non) = false from decide_eq_false (fun z => by cases z)]
      refine iteT ⟨_, rfl, (by show 1 ≤ sizeLine; decide), fun T nT => ?_⟩
      refine q T _ (same_new nT (Same.refl _)) ?_
      rw [names_nm ok]
      exact SqT.of upd_same
    · rw [hl]
      refine iteF ?_
      refine ⟨_, rfl, p, rfl, ⟨_, hp⟩, fun D nD => ?_⟩
      have hs2 := subs_len t
      refine tup_turns (K := K) (xs := bs.map V.ref) (fun i H' => Same H H' ∧ H' D = some (.lst ((allNames (t.subs.take i)).map V.str))) ⟨same_new nD (Same.refl _), upd_same⟩ (fun i H' _ h => tup_on hp h.1) ?_ ?_
      · rintro i x H' hx ⟨sm, hD⟩
        obtain ⟨u, b, hu, hb', rfl, hr⟩ := paired_at hb hx
        refine ⟨rfl, yes_of ?_⟩
        rw [if_pos rfl]
        obtain ⟨dx, p', q', e1, e2, _⟩ := hr.face.ex
        refine ⟨_, rfl, b, C, dx, _, _, rfl, sm _ _ e1, cC, nN, rfl, q', rfl, ⟨_, tup_on e2 sm⟩, ?_⟩
        refine tup_turns (K := K) (xs := u.names.map V.str) (fun j H2 => Same H H2 ∧ H2 D = some (.lst ((allNames (t.subs.take i) ++ u.names.take j).map V.str))) ⟨sm, ?_⟩ (fun j H2 _ h => ?_) ?_ ?_
        · rw [List.take_zero, List.append_nil]
          exact hD
        · exact tup_on e2 h.1
        · rintro j y H2 hy ⟨sm2, hD2⟩
          rw [List.getElem?_map] at hy
          obtain ⟨z, hz, rfl⟩ := Option.map_eq_some_iff.mp hy
          refine ⟨rfl, yes_of ?_⟩
          rw [if_pos rfl]
          refine ⟨_, rfl, _, hD2, ?_, same_new nD sm2, ?_⟩
          · have a1 := allNames_len (t.subs.take i)
            have a2 := names_len u
            rw [List.length_map, List.length_append, List.length_take, sizeLine_eq]
            rw [List.length_take] at a1
            omega
          · rw [upd_same, take_next hz, ← List.append_assoc, List.map_append, List.map_append, List.map_append]
            rfl
        · rintro H2 ⟨sm2, hD2⟩
          refine ⟨sm2, ?_⟩
          rw [hD2, List.length_map, List.take_length, take_next hu]
          unfold allNames
          rw [List.flatMap_append, List.flatMap_cons, List.flatMap_nil, List.append_nil]
      · rintro H' ⟨sm, hD⟩
        have el : (bs.map V.ref).length = t.subs.length := by rw [List.length_map]; exact (hb.length).symm
        rw [el, List.take_length] at hD
        have few : (allNames t.subs).length + 1 < scanBound := by
          have a1 := allNames_len t.subs
          unfold scanBound
          omega
        refine ⟨_, rfl, D, allNames t.subs, rfl, SqL.of hD, few, fun S l' nS nd hm hl2 => ?_⟩
        refine ⟨S, l', rfl, upd_same, by omega, fun ys p1 hs nd' hm' hlen np => ?_⟩
        refine ⟨p1, _, rfl, .inl ⟨SqL.of upd_same, fun q1 nq => ?_⟩⟩
        have ey : ys = t.names := names_of_sorted ok hs nd' fun x => (hm' x).trans ((hm x).trans (mem_allNames ok nn x))
        subst ey
        have s1 : Same H' (upd H' S (TSetO P w S l')) := same_new nS (Same.refl _)
        have s2 := same_new (o := .lst (t.names.map V.str)) np (Same.refl _)
        have s3 := same_new (o := .tup (t.names.map V.str)) nq (Same.refl _)
        exact q q1 _ (sm.trans (s1.trans (s2.trans s3))) (SqT.of upd_same)
end
end G1
set_option maxHeartbeats 8000000
namespace G1
open PySem PySem.Spec PyProof.Rows L2 SY TXS OW
theorem raw0 {P : Program} {w : World} {K : PySem.W.Frag} {mg : Str → Option Value} {base : Heap} {CX : CXT} {k : Nat} {f : Addr} {fd : FuncData} {ps : List Str} {sp : Sp} (F : FnOk P w K mg base CX k f fd ps sp) (hb : Binds K fd ps []) : FnR P w K mg base CX k f sp :=
  (F.raw hb .nil).imp fun vs H Q E h => by rw [List.append_nil]; exact h
theorem call_strS {X : Cx} : CallR X (.type "str") (fun xs H Q => ∃ y : Str, xs = [.str y] ∧ Q (.str y) H) := by
  intro pn s st H xs us Q I r ask
  obtain ⟨y, rfl, q⟩ := ask
  cases r with
  | cons r1 r2 =>
    cases r2
    obtain ⟨t, rfl⟩ := r1
    exact PySem.P.str_of_str ⟨.str y, H, I, ⟨t, rfl⟩, q⟩
/-- a method of the class, as the head leaves it -/
abbrev FnM (K : PySem.W.Frag) (C : Addr) (m : Str) (qual : Str) (st : Stmt) (dvs : List V) (f : Addr) (fd : FuncData) : Prop := FunD K m qual (defArgs st) (defBody st) (defScope st) dvs [] f fd
structure MAt (K : PySem.W.Frag) (C : Addr) (m qual : Str) (st : Stmt) : Prop where
  ex : ∃ (f : Addr) (fd : FuncData), Meth K C m f ∧ FnM K C m qual st [] f fd
/-- what the head leaves of the class of sayings -/
structure SayTxt (K : PySem.W.Frag) (w : World) (mg : Str → Option Value) (C : Addr) : Prop where
  gC : mg "Saying" = some (.ref C)
  cl : Cls K C
  nK : NoAttr K C "kind"
  nP : NoAttr K C "pieces"
  nL : NoAttr K C "letter"
  nS : NoAttr K C "size"
  nN : NoAttr K C "names"
  nT : NoAttr K C "_text"
  ow : OwnF K C
  ini : ∃ (fI : Addr) (fd : FuncData) (e0 : Addr), Mk K C fI ∧ FnM K C "__init__" "Saying.__init__" mSayingInit [.ref e0, .non] fI fd ∧ ∀ H, SqT K H e0 []
  str : MAt K C "__str__" "Saying.__str__" mSayingStr
  both : MAt K C "both" "Saying.both" mSayingBoth
  thn : MAt K C "then" "Saying.then" mSayingThen
  lower : MAt K C "lower" "Saying.lower" mSayingLower
  higher : MAt K C "higher" "Saying.higher" mSayingHigher
  same : MAt K C "same" "Saying.same" mSayingSame
  denied : MAt K C "denied" "Saying.denied" mSayingDenied
  parts : MAt K C "parts" "Saying.parts" mSayingParts
  and_ : MAt K C "__and__" "Saying.__and__" mSayingAnd
  rsh : MAt K C "__rshift__" "Saying.__rshift__" mSayingRsh
  inv : MAt K C "__invert__" "Saying.__invert__" mSayingInv
  eq : MAt K C "__eq__" "Saying.__eq__" mSayingEq
  sg : ∃ d, mg "SIGNS" = some (.ref d) ∧ ∀ k : Bk, KDct K w d k.kind (.str k.sign)
theorem ifNo {x y : V} {f : Bool → Hp → Prop} {H : Hp} (n : ¬ x = y) (h : f false H) : f (decide (x = y)) H := by
  rw [decide_eq_false n]
  exact h
def spStr (K : PySem.W.Frag) (C : Addr) : Sp := fun vs H Q _ => ∃ a t, vs = [.ref a] ∧ Face K C H t a ∧ Q (.str t.text) H
def spText (K : PySem.W.Frag) (C : Addr) : Sp := fun vs H Q _ => ∃ (p : Addr) (t : Sy) (bs : List Addr), vs = [.str t.kind, .ref p, t.letter] ∧ SqT K H p (bs.map V.ref) ∧ Paired (SayAt K C H) t.subs bs ∧ t.size ≤ 1000 ∧ Q (.str t.text) H
section
variable {P : Program} {w : World} {K : PySem.W.Frag} {mg : Str → Option Value} {base : Heap} {C : Addr}
theorem scStr : FnScope ["self"] ["self"] (defScope mSayingStr) := ⟨rfl, rfl, rfl, by decide +kernel, rfl, by decide +kernel, by decide +kernel⟩
theorem ok_str (T : SayTxt K w mg C) (B : Blt mg) : ∃ f, PySem.W.findIn K (.ref C) "__str__" = some (some (.ref f)) ∧ PySem.W.isFn K (.ref f) = true ∧ FnR P w K mg base CX0 1 f (spStr K C) := by
  obtain ⟨f, fd, M, F⟩ := T.str.ex
  refine ⟨f, M.at_, M.fn, raw0 (ps := ["self"]) (F.ok scStr (fun vs H Q E h => ?_) (fun cdv A outer s H vs Q E hr h => ⟨_, PSs.nox (pss_one (ps_ret (pe_callTy call_strS (by rfl) B.str (by decide +kernel) (pa_cons (pe_fld (pv 0) rfl) pa_nil)))), ?_⟩))
    (F.bindsN fun _ _ _ _ _ _ us hl => match us, hl with | [_], _ => rfl)⟩
  · obtain ⟨a, t, rfl, _⟩ := h
    rfl
  · obtain ⟨a, t, rfl, fc, q⟩ := h
    obtain ⟨dx, p, q', e1, _⟩ := fc.ex
    exact ⟨_, rfl, a, C, dx, _, _, rfl, e1, T.cl, T.nT, rfl, _, rfl, q⟩
theorem scText : FnScope ["kind", "pieces", "letter"] ["kind", "pieces", "letter"] (defScope sTextOf) := ⟨rfl, rfl, rfl, by decide +kernel, rfl, by decide +kernel, by decide +kernel⟩
theorem cl_text (D : DefAt K mg "_text_of" sTextOf) (T : SayTxt K w mg C) (B : Blt mg) : Cl CX0 P w K mg base 3 "_text_of" ["kind", "pieces", "letter"] (spText K C) := by
  obtain ⟨f, fd, F, hm⟩ := D
  obtain ⟨fs, s1, s2, FS⟩ := ok_str (P := P) (base := base) T B
  obtain ⟨d, gS, kd⟩ := T.sg
  refine cl_of F hm (F.ok scText (fun vs H Q E h => ?_) (fun cdv A outer s H vs Q E hr h => ⟨_, PSs.nox (pss_cons
      (ps_if (pt_cmpR op_eq (pv 0) pe_str (nomark _)) (pss_one (ps_ret (pv 2))) pss_nil)
      (pss_cons (ps_if (pt_cmpR op_eq (pv 0) pe_str (nomark _)) (pss_one (ps_ret pe_str)) pss_nil)
      (pss_cons (ps_if (pt_cmpR op_eq (pv 0) pe_str (nomark _)) (pss_one (ps_ret pe_str)) pss_nil)
      (pss_cons (ps_if (pt_cmpR op_eq (pv 0) pe_str (nomark _)) (pss_one (ps_ret (pe_joined (.cons pe_str (.cons (pe_fmtO (pe_ix ix_tup (pv 1) pe_int (fun _ _ => rfl)) s1 s2 T.ow.fm T.ow.mo FS hr pass0) .nil))))) pss_nil)
      (pss_one (ps_ret (pe_joined (.cons pe_str (.cons (pe_fmtO (pe_ix ix_tup (pv 1) pe_int (fun _ _ => rfl)) s1 s2 T.ow.fm T.ow.mo FS hr pass0) (.cons pe_str (.cons (pe_fmt (pe_ix ix_kdict (pe_glob (v := .ref d) rfl gS rfl) (pv 0) (fun _ _ => rfl)))
        (.cons pe_str (.cons (pe_fmtO (pe_ix ix_tup (pv 1) pe_int (fun _ _ => rfl)) s1 s2 T.ow.fm T.ow.mo FS hr pass0) (.cons pe_str .nil)))))))))))))), ?_⟩)) fun _ _ _ _ _ _ us hl => match us, hl with | [_, _, _], _ => rfl
  · obtain ⟨p, t, bs, rfl, _⟩ := h
    rfl
  · obtain ⟨p, t, bs, rfl, hp, hb, sz, q⟩ := h
    have f0 : Str.empty.length = 0 := rfl
    have f4 : ("not " : Str).length = 4 := by decide
    have f1 : ("(" : Str).length = 1 := by decide
    have f2 : (" " : Str).length = 1 := by decide
    have f3 : (")" : Str).length = 1 := by decide
    cases t with
    | nm c =>
      refine ⟨_, rfl, rfl, _, rfl, ?_⟩
      refine iteT ?_
      exact ⟨_, rfl, q⟩
    | nev =>
      refine ⟨_, rfl, rfl, _, rfl, iteF ⟨_, rfl, rfl, _, rfl, iteT ?_⟩⟩
      exact q
    | alw =>
      refine ⟨_, rfl, rfl, _, rfl, iteF ⟨_, rfl, rfl, _, rfl, iteF ⟨_, rfl, rfl, _, rfl, iteT ?_⟩⟩⟩
      exact q
    | den a =>
      obtain ⟨b, rfl, hr1⟩ : ∃ b, bs = [b] ∧ SayAt K C H a b := by
        cases hb with
        | cons r rs =>
          cases rs
          exact ⟨_, rfl, r⟩
      have l1 := a.text_len
      have sz1 : a.size + 1 ≤ 1000 := sz
      obtain ⟨dx, p1, q1, e1, _⟩ := hr1.face.ex
      refine ⟨_, rfl, rfl, _, rfl, iteF ⟨_, rfl, rfl, _, rfl, iteF ⟨_, rfl, rfl, _, rfl, iteF ⟨_, rfl, rfl, _, rfl, iteT ?_⟩⟩⟩⟩
      refine ⟨_, rfl, by rw [slen, sizeLine_eq]; omega, ?_⟩
      refine ⟨_, rfl, p, _, _, _, rfl, rfl, hp, atI_nat (j := 0) rfl, b, dx, _, rfl, e1, b, a, rfl, hr1.face, _, rfl, _, rfl, ?_, ?_⟩
      · rw [slen, slen, sizeLine_eq]
        omega
      · exact q
    | bin k a b =>
      obtain ⟨c, d', rfl, hr1, hr2⟩ : ∃ c d', bs = [c, d'] ∧ SayAt K C H a c ∧ SayAt K C H b d' := by
        cases hb with
        | cons r rs =>
          cases rs with
          | cons r2 rs2 =>
            cases rs2
            exact ⟨_, _, rfl, r, r2⟩
      have l1 := a.text_len
      have l2 := b.text_len
      have l3 := k.sign_len
      have sz1 : a.size + b.size + 1 ≤ 1000 := sz
      obtain ⟨dx, p1, q1, e1, _⟩ := hr1.face.ex
      obtain ⟨dy, p2, q2, e2, _⟩ := hr2.face.ex
      have n1 : ¬ V.str (Sy.bin k a b).kind = V.str "name" := (by cases k <;> decide : ¬ V.str k.kind = V.str "name")
      have n2 : ¬ V.str (Sy.bin k a b).kind = V.str "never" := (by cases k <;> decide : ¬ V.str k.kind = V.str "never")
      have n3 : ¬ V.str (Sy.bin k a b).kind = V.str "always" := (by cases k <;> decide : ¬ V.str k.kind = V.str "always")
      have n4 : ¬ V.str (Sy.bin k a b).kind = V.str "denied" := (by cases k <;> decide : ¬ V.str k.kind = V.str "denied")
      refine ⟨_, rfl, rfl, _, rfl, ?_⟩
      rw [decide_eq_false n1]
      refine iteF ⟨_, rfl, rfl, _, rfl, ?_⟩
      rw [decide_eq_false n2]
      refine iteF ⟨_, rfl, rfl, _, rfl, ?_⟩
      rw [decide_eq_false n3]
      refine iteF ⟨_, rfl, rfl, _, rfl, ?_⟩
      rw [decide_eq_false n4]
      refine iteF ?_
      refine ⟨_, rfl, by rw [slen, sizeLine_eq]; omega, ?_⟩
      refine ⟨_, rfl, p, _, _, _, rfl, rfl, hp, atI_nat (j := 0) rfl, c, dx, _, rfl, e1, c, a, rfl, hr1.face, _, rfl, _, rfl, ?_, ?_⟩
      · rw [slen, slen, sizeLine_eq]
        omega
      refine ⟨_, rfl, by rw [slen, slen, slen, sizeLine_eq]; omega, ?_⟩
      refine ⟨_, rfl, d, k.kind, _, rfl, rfl, kd k, .inl ⟨_, rfl, by rw [sizeLine_eq]; omega, _, rfl, by rw [slen, slen, slen, slen, sizeLine_eq]; omega, ?_⟩⟩
      refine ⟨_, rfl, by rw [slen, slen, slen, slen, slen, sizeLine_eq]; omega, ?_⟩
      refine ⟨_, rfl, p, _, _, _, rfl, rfl, hp, atI_nat (j := 1) rfl, d', dy, _, rfl, e2, d', b, rfl, hr2.face, _, rfl, _, rfl, ?_, ?_⟩
      · rw [slen, slen, slen, slen, slen, slen, sizeLine_eq]
        omega
      refine ⟨_, rfl, by rw [slen, slen, slen, slen, slen, slen, slen, sizeLine_eq]; omega, ?_⟩
      exact q
end
end G1
set_option maxHeartbeats 4000000
namespace G1
open PySem PySem.Spec PyProof.Rows L2
section
variable {P : Program} {w : World} {K : PySem.W.Frag} {mg : Str → Option Value} {base : Heap} {C fI : Addr}
abbrev ErrN (K : PySem.W.Frag) (mg : Str → Option Value) (C fI : Addr) : Prop := ErrG K mg "InvalidName" "thing" "InvalidName.__init__" mInvalidNameInit C fI
theorem scInitN : FnScope ["self", "thing"] ["self", "thing"] (defScope mInvalidNameInit) := ⟨rfl, rfl, rfl, by decide +kernel, rfl, by decide +kernel, by decide +kernel⟩
theorem ok_errN {fd : FuncData} (T : ErrN K mg C fI) (F : FunD K "__init__" "InvalidName.__init__" (defArgs mInvalidNameInit) (defBody mInvalidNameInit) (defScope mInvalidNameInit) [] [] fI fd) : FnOk P w K mg base CX0 1 fI fd ["self", "thing"] (spErr "thing" C) := by
  refine F.ok scInitN (fun vs H Q E h => ?_) (fun cdv A outer s H vs Q E hr h => ⟨_, PSs.nox (pss_one (ps_ost (pv 0) (pv 1))), ?_⟩)
  · obtain ⟨a, v, rfl, _⟩ := h
    rfl
  · obtain ⟨a, v, rfl, e, q⟩ := h
    exact ⟨_, rfl, _, rfl, a, C, rfl, T.ox, T.no, .inl ⟨e, fun dx n ne => q dx n ne⟩⟩
theorem err_bindsN {fd : FuncData} (F : FunD K "__init__" "InvalidName.__init__" (defArgs mInvalidNameInit) (defBody mInvalidNameInit) (defScope mInvalidNameInit) [] [] fI fd) : Binds K fd ["self", "thing"] [] :=
  F.bindsN fun _ _ _ _ _ _ us hl => match us, hl with | [_, _], _ => rfl
abbrev ErrS (K : PySem.W.Frag) (mg : Str → Option Value) (C fI : Addr) : Prop := ErrG K mg "InvalidSaying" "thing" "InvalidSaying.__init__" mInvalidSayingInit C fI
theorem scInitS : FnScope ["self", "thing"] ["self", "thing"] (defScope mInvalidSayingInit) := ⟨rfl, rfl, rfl, by decide +kernel, rfl, by decide +kernel, by decide +kernel⟩
theorem ok_errS {fd : FuncData} (T : ErrS K mg C fI) (F : FunD K "__init__" "InvalidSaying.__init__" (defArgs mInvalidSayingInit) (defBody mInvalidSayingInit) (defScope mInvalidSayingInit) [] [] fI fd) : FnOk P w K mg base CX0 1 fI fd ["self", "thing"] (spErr "thing" C) := by
  refine F.ok scInitS (fun vs H Q E h => ?_) (fun cdv A outer s H vs Q E hr h => ⟨_, PSs.nox (pss_one (ps_ost (pv 0) (pv 1))), ?_⟩)
  · obtain ⟨a, v, rfl, _⟩ := h
    rfl
  · obtain ⟨a, v, rfl, e, q⟩ := h
    exact ⟨_, rfl, _, rfl, a, C, rfl, T.ox, T.no, .inl ⟨e, fun dx n ne => q dx n ne⟩⟩
theorem err_bindsS {fd : FuncData} (F : FunD K "__init__" "InvalidSaying.__init__" (defArgs mInvalidSayingInit) (defBody mInvalidSayingInit) (defScope mInvalidSayingInit) [] [] fI fd) : Binds K fd ["self", "thing"] [] :=
  F.bindsN fun _ _ _ _ _ _ us hl => match us, hl with | [_, _], _ => rfl
abbrev ErrL (K : PySem.W.Frag) (mg : Str → Option Value) (C fI : Addr) : Prop := ErrG K mg "TooLarge" "size" "TooLarge.__init__" mTooLargeInit C fI
theorem scInitL : FnScope ["self", "size"] ["self", "size"] (defScope mTooLargeInit) := ⟨rfl, rfl, rfl, by decide +kernel, rfl, by decide +kernel, by decide +kernel⟩
theorem ok_errL {fd : FuncData} (T : ErrL K mg C fI) (F : FunD K "__init__" "TooLarge.__init__" (defArgs mTooLargeInit) (defBody mTooLargeInit) (defScope mTooLargeInit) [] [] fI fd) : FnOk P w K mg base CX0 1 fI fd ["self", "size"] (spErr "size" C) := by
  refine F.ok scInitL (fun vs H Q E h => ?_) (fun cdv A outer s H vs Q E hr h => ⟨_, PSs.nox (pss_one (ps_ost (pv 0) (pv 1))), ?_⟩)
  · obtain ⟨a, v, rfl, _⟩ := h
    rfl
  · obtain ⟨a, v, rfl, e, q⟩ := h
    exact ⟨_, rfl, _, rfl, a, C, rfl, T.ox, T.no, .inl ⟨e, fun dx n ne => q dx n ne⟩⟩
theorem err_bindsL {fd : FuncData} (F : FunD K "__init__" "TooLarge.__init__" (defArgs mTooLargeInit) (defBody mTooLargeInit) (defScope mTooLargeInit) [] [] fI fd) : Binds K fd ["self", "size"] [] :=
  F.bindsN fun _ _ _ _ _ _ us hl => match us, hl with | [_, _], _ => rfl
end
end G1
set_option maxHeartbeats 8000000
namespace G1
open PySem PySem.Spec PyProof.Rows L2 SY TXS OW
/-! ### making a saying -/
theorem paired_on {K : PySem.W.Frag} {C : Addr} {H H' : Hp} (e : Same H H') : ∀ {xs : List Sy} {ys : List Addr}, Paired (SayAt K C H) xs ys → Paired (SayAt K C H') xs ys
  | _, _, .nil => .nil
  | _, _, .cons r rs => .cons (r.on e) (paired_on e rs)
theorem SayAt.mk {K : PySem.W.Frag} {C : Addr} {H : Hp} {t : Sy} {a dx p q : Addr} {bs : List Addr} (e : H a = some (.ins C dx (t.fields p q))) (hq : SqT K H q (t.names.map V.str)) (hp : SqT K H p (bs.map V.ref)) (hb : Paired (SayAt K C H) t.subs bs) : SayAt K C H t a := by
  cases t with
  | nm c => cases hb; exact ⟨dx, p, q, e, hq, hp⟩
  | nev => cases hb; exact ⟨dx, p, q, e, hq, hp⟩
  | alw => cases hb; exact ⟨dx, p, q, e, hq, hp⟩
  | den u =>
    cases hb with
    | cons r rs =>
      cases rs
      exact ⟨dx, p, q, _, e, hq, hp, r⟩
  | bin k u v =>
    cases hb with
    | cons r rs =>
      cases rs with
      | cons r2 rs2 =>
        cases rs2
        exact ⟨dx, p, q, _, _, e, hq, hp, r, r2⟩
theorem size_sum (t : Sy) : (t.size : Int) = 1 + (t.subs.map fun s => (s.size : Int)).sum := by
  cases t <;> simp [Sy.size, Sy.subs] <;> omega
def spInitS (K : PySem.W.Frag) (C CL : Addr) : Sp := fun vs H Q E => ∃ (a dx p : Addr) (G : Hp) (t : Sy) (bs : List Addr), vs = [.ref a, .str t.kind, .ref p, t.letter] ∧ H a = some (.ins C dx []) ∧ Same G H ∧ G a = none ∧
  SqT K G p (bs.map V.ref) ∧ Paired (SayAt K C G) t.subs bs ∧ t.ok ∧ (200 < t.size → Rs "size" CL G (.int t.size) E) ∧ (t.size ≤ 200 → ∀ H', Same G H' → SayAt K C H' t a → Q .non H')
section
variable {P : Program} {w : World} {K : PySem.W.Frag} {mg : Str → Option Value} {base : Heap} {C CL fL : Addr}
theorem gn {i : Nat} {x : V} {σ σ' : L2.St} {H : Hp} {Q : L2.St → Hp → Prop} (e : σ.set i (some x) = σ') (h : Q σ' H) : gName i x σ H Q := by
  subst e
  exact h
theorem tup_ins {K : PySem.W.Frag} {H : Hp} {q a C dx : Addr} {xs : List V} {fs : List (Str × V)} {o : HO} (h : SqT K H q xs) (e : H a = some (.ins C dx fs)) : SqT K (upd H a o) q xs :=
  h.elim (fun h => .inl (h.elim (fun h => .inl ((upd_ne (fun z => by rw [z, e] at h; cases h)).trans h)) fun ⟨o', h⟩ => .inr ⟨o', (upd_ne (fun z => by rw [z, e] at h; cases h)).trans h⟩)) fun h => .inr h
theorem mk_a {a : Addr} {G H : Hp} (o : HO) (n : G a = none) (s : Same G H) : ∃ H', upd H a o = H' ∧ Same G H' ∧ H' a = some o := ⟨_, rfl, same_new n s, upd_same⟩
theorem scMake : FnScope ["self", "kind", "pieces", "letter", "size", "piece"] ["self", "kind", "pieces", "letter"] (defScope mSayingInit) := ⟨rfl, rfl, rfl, by decide +kernel, rfl, by decide +kernel, by decide +kernel⟩
theorem ok_initS {fI : Addr} {fd : FuncData} {dvs : List V} (F : FnM K C "__init__" "Saying.__init__" mSayingInit dvs fI fd) (T : SayTxt K w mg C) (B : Blt mg) (TL : ErrL K mg CL fL) (gM : ∃ t, mg "MOST_NODES" = some (.int 200 t))
    (cN : Cl CX0 P w K mg base 1 "_names" ["pieces", "letter"] (spNames K C)) (cT : Cl CX0 P w K mg base 3 "_text_of" ["kind", "pieces", "letter"] (spText K C)) :
    FnOk P w K mg base (L2.CX P w) 4 fI fd ["self", "kind", "pieces", "letter"] (spInitS K C CL) := by
  obtain ⟨fdL, FL⟩ := TL.fn
  obtain ⟨tk, gM⟩ := gM
  refine F.ok scMake (fun vs H Q E h => ?_) (fun cdv A outer s H vs Q E hr h => ⟨_, pss_cons
      (ps_set (i := 4) scMake.nd rfl (Or.inl rfl) (pe_op op_add pe_int (pe_callB (cr_sum rfl) (by rfl) B.sum (by decide +kernel) (pa_cons
        (pe_lc (own := [("piece", 5)]) (g := gName 5) (tt := tYes) (te := tFld K (tVar 5) "size") (by rfl) scMake.nd (pi_tup (pv 2)) (blkOk_by (N := ["self", "kind", "pieces", "letter", "size", "piece"]) (sc := defScope mSayingInit) (by decide +kernel))
          (fun _ _ _ _ _ => pg_name (i := 5) scMake.nd rfl (Or.inl rfl)) (fun _ _ _ _ _ => pts_nil) (fun _ _ _ _ _ => pe_fld (pv 5) rfl)) pa_nil))))
      (pss_cons (ps_if (pt_cmpR op_gt (pv 4) (pe_glob (v := .int 200) rfl gM ⟨_, rfl⟩) (nomark _))
        (pss_one (ps_raise rfl (takes_of rfl rfl rfl rfl) (pmk_oex TL.ox TL.iC TL.tI (ok_errL TL FL) (hr.mono (by decide)) (err_bindsL FL) .nil pass0 (by rfl) TL.gC (pa_cons (pv 4) pa_nil)))) pss_nil)
      (pss_cons (ps_fld (pv 0) (pv 1) rfl)
      (pss_cons (ps_fld (pv 0) (pv 2) rfl)
      (pss_cons (ps_fld (pv 0) (pv 3) rfl)
      (pss_cons (ps_fld (pv 0) (pv 4) rfl)
      (pss_cons (ps_fld (pv 0) (pe_c0 cN hr (by decide) (by rfl) (pa_cons (pv 2) (pa_cons (pv 3) pa_nil))) rfl)
      (pss_one (ps_fld (pv 0) (pe_c0 cT hr (by decide) (by rfl) (pa_cons (pv 1) (pa_cons (pv 2) (pa_cons (pv 3) pa_nil)))) rfl)))))))), ?_⟩)
  · obtain ⟨a, dx, p, G, t, bs, rfl, _⟩ := h
    rfl
  · obtain ⟨a, dx, p, G, t, bs, rfl, ha, sG, nA, hp, hb, ok, r, q⟩ := h
    have hpH := tup_on hp sG
    have hbH := paired_on sG hb
    refine ⟨_, rfl, p, rfl, ⟨_, hpH⟩, fun D nD => ?_⟩
    refine lc_tup (K := K) (xs := bs.map V.ref) (fun i H' => Same H H' ∧ H' D = some (.lst (((t.subs.take i).map fun s => (s.size : Int)).map V.int))) ⟨same_new nD (Same.refl _), upd_same⟩ (fun i H' _ h => tup_on hpH h.1) ?_ ?_
    · rintro i x H' hx ⟨sm, hD⟩
      obtain ⟨u, b, hu, hb', rfl, hr⟩ := paired_at hbH hx
      obtain ⟨dx', p', q', e1, e2, _⟩ := hr.face.ex
      refine ⟨rfl, yes_of ?_⟩
      rw [if_pos rfl]
      refine ⟨_, rfl, b, C, dx', _, _, rfl, sm _ _ e1, T.cl, T.nS, rfl, _, hD, ?_, same_new nD sm, ?_⟩
      · have := subs_len t
        rw [List.length_map, List.length_map, List.length_take, sizeLine_eq]
        omega
      · rw [upd_same, take_next hu, List.map_append, List.map_append]
        rfl
    · rintro H1 ⟨sm, hD⟩
      have el : (bs.map V.ref).length = t.subs.length := by rw [List.length_map]; exact (hb.length).symm
      rw [el, List.take_length] at hD
      refine ⟨D, _, rfl, SqL.of hD, _, _, rfl, rfl, ?_⟩
      refine gn (σ' := [some (.ref a), some (.str t.kind), some (.ref p), some t.letter, some (.int t.size), none]) (by rw [size_sum]; rfl) ?_
      have s1 := sG.trans sm
      have h1 : H1 a = some (.ins C dx []) := sm _ _ ha
      refine ⟨_, rfl, _, _, rfl, rfl, _, rfl, ?_⟩
      by_cases c : (t.size : Int) > 200
      · rw [decide_eq_true c]
        exact iteT ⟨_, rfl, len1 _, fun x hx => mk_rs ((r (by omega)).from s1) x hx⟩
      · rw [decide_eq_false c]
        refine iteF ?_
        have sz : t.size ≤ 200 := by omega
        refine ⟨_, rfl, _, rfl, a, C, dx, _, rfl, h1, T.cl, T.nK, (by decide), ?_⟩
        obtain ⟨H2, e2, s2, f2⟩ := mk_a (.ins C dx (putF "kind" (.str t.kind) [])) nA s1
        rw [e2]
        refine ⟨_, rfl, _, rfl, a, C, dx, _, rfl, f2, T.cl, T.nP, (by show 1 < 1000; decide), ?_⟩
        obtain ⟨H3, e3, s3, f3⟩ := mk_a (.ins C dx (putF "pieces" (.ref p) (putF "kind" (.str t.kind) []))) nA s2
        rw [e3]
        have f3' : H3 a = some (.ins C dx [("kind", .str t.kind), ("pieces", .ref p)]) := f3
        refine ⟨_, rfl, _, rfl, a, C, dx, _, rfl, f3', T.cl, T.nL, (by show 2 < 1000; decide), ?_⟩
        obtain ⟨H4, e4, s4, f4⟩ := mk_a (.ins C dx (putF "letter" t.letter [("kind", .str t.kind), ("pieces", .ref p)])) nA s3
        rw [e4]
        have f4' : H4 a = some (.ins C dx [("kind", .str t.kind), ("pieces", .ref p), ("letter", t.letter)]) := f4
        refine ⟨_, rfl, _, rfl, a, C, dx, _, rfl, f4', T.cl, T.nS, (by show 3 < 1000; decide), ?_⟩
        obtain ⟨H5, e5, s5, f5⟩ := mk_a (.ins C dx (putF "size" (.int t.size) [("kind", .str t.kind), ("pieces", .ref p), ("letter", t.letter)])) nA s4
        rw [e5]
        have f5' : H5 a = some (.ins C dx [("kind", .str t.kind), ("pieces", .ref p), ("letter", t.letter), ("size", .int t.size)]) := f5
        refine ⟨_, rfl, _, rfl, p, t, bs, rfl, tup_on hp s5, paired_on s5 hb, ok, fun qn H6 s6 hq => ?_⟩
        refine ⟨_, rfl, a, C, dx, _, rfl, s6 _ _ f5', T.cl, T.nN, (by show 4 < 1000; decide), ?_⟩
        obtain ⟨H7, e7, s7, f7⟩ := mk_a (.ins C dx (putF "names" (.ref qn) [("kind", .str t.kind), ("pieces", .ref p), ("letter", t.letter), ("size", .int t.size)])) nA (s5.trans s6)
        have hq7 : SqT K H7 qn (t.names.map V.str) := by
          rw [← e7]
          exact tup_ins hq (s6 _ _ f5')
        rw [e7]
        have f7' : H7 a = some (.ins C dx [("kind", .str t.kind), ("pieces", .ref p), ("letter", t.letter), ("size", .int t.size), ("names", .ref qn)]) := f7
        refine ⟨_, rfl, _, rfl, _, rfl, p, t, bs, rfl, tup_on hp s7, paired_on s7 hb, by omega, ?_⟩
        refine ⟨_, rfl, a, C, dx, _, rfl, f7', T.cl, T.nT, (by show 5 < 1000; decide), ?_⟩
        refine q sz _ (same_new nA s7) (SayAt.mk (p := p) (q := qn) (bs := bs) upd_same ?_ (tup_on hp (same_new nA s7)) (paired_on (same_new nA s7) hb))
        exact tup_ins hq7 f7'
end
end G1
set_option maxHeartbeats 8000000
namespace G1
open PySem PySem.Spec PyProof.Rows L2 SY TXS OW
section
variable {P : Program} {w : World} {K : PySem.W.Frag} {mg : Str → Option Value} {base : Heap} {C CL CS fL fS : Addr}
theorem kit_no (T : SayTxt K w mg C) : ∀ {H : Hp} {v : V}, Kn H v → ∃ t, TyX K H v t ∧ PySem.W.kitOne K t (.ref C) = some false
  | _, .non, _ => ⟨_, .base .non, T.ow.ki _ (by decide)⟩
  | _, .bl b, _ => ⟨_, .base (.bl b), T.ow.ki _ (by decide)⟩
  | _, .int i, _ => ⟨_, .base (.int i), T.ow.ki _ (by decide)⟩
  | _, .str z, _ => ⟨_, .base (.str z), T.ow.ki _ (by decide)⟩
  | _, .ref a, h => by
    rcases h with ⟨xs, e⟩ | ⟨xs, e⟩ | ⟨xs, e⟩
    · exact ⟨_, .base (.lst e), T.ow.ki _ (by decide)⟩
    · exact ⟨_, .base (.tup e), T.ow.ki _ (by decide)⟩
    · exact ⟨_, .base (.dK e), T.ow.ki _ (by decide)⟩
theorem kit_yes (T : SayTxt K w mg C) {H : Hp} {a dx : Addr} {fs : List (Str × V)} (e : H a = some (.ins C dx fs)) : ∃ t, TyX K H (.ref a) t ∧ PySem.W.kitOne K t (.ref C) = some true :=
  ⟨_, .base (.ins e T.cl T.ow.isCls T.ow.getCls T.ow.takesCls T.ow.mo), by unfold PySem.W.kitOne; rw [if_pos (beq_self_eq_true _)]⟩
/-- the class as it is called -/
structure Maker (P : Program) (w : World) (K : PySem.W.Frag) (mg : Str → Option Value) (base : Heap) (C CL : Addr) : Prop where
  ex : ∃ (fI : Addr) (fd : FuncData) (e0 : Addr) (d1 d2 : List Value), Mk K C fI ∧ FnOk P w K mg base (L2.CX P w) 4 fI fd ["self", "kind", "pieces", "letter"] (spInitS K C CL) ∧ (∀ H, SqT K H e0 []) ∧
    Binds K fd ["self", "kind", "pieces", "letter"] [] ∧ Binds K fd ["self", "kind", "pieces", "letter"] d1 ∧ Vals [.non] d1 ∧ Binds K fd ["self", "kind", "pieces", "letter"] d2 ∧ Vals [.ref e0, .non] d2
theorem maker (T : SayTxt K w mg C) (B : Blt mg) (TL : ErrL K mg CL fL) (gM : ∃ t, mg "MOST_NODES" = some (.int 200 t))
    (cN : Cl CX0 P w K mg base 1 "_names" ["pieces", "letter"] (spNames K C)) (cT : Cl CX0 P w K mg base 3 "_text_of" ["kind", "pieces", "letter"] (spText K C)) : Maker P w K mg base C CL := by
  obtain ⟨fI, fd, e0, M, F, h0⟩ := T.ini
  obtain ⟨d0, v0, b0⟩ := F.binds1 (ps := ["self", "kind", "pieces", "letter"]) 4 2 (by simp) rfl fun T kV doc pm an cdv ct us its hu hi => match us, its, hu, hi with | [_, _, _, _], [_, _], _, _ => ⟨_, rfl, rfl⟩
  obtain ⟨d1, v1, b1⟩ := F.binds1 (ps := ["self", "kind", "pieces", "letter"]) 3 1 (by simp) rfl fun T kV doc pm an cdv ct us its hu hi => match us, its, hu, hi with | [_, _, _], [_, _], _, _ => ⟨_, rfl, rfl⟩
  obtain ⟨d2, v2, b2⟩ := F.binds1 (ps := ["self", "kind", "pieces", "letter"]) 2 0 (by simp) rfl fun T kV doc pm an cdv ct us its hu hi => match us, its, hu, hi with | [_, _], [_, _], _, _ => ⟨_, rfl, rfl⟩
  cases v0
  exact ⟨fI, fd, e0, d1, d2, M, ok_initS F T B TL gM cN cT, h0, b0, b1, v1, b2, v2⟩
end
end G1
set_option maxHeartbeats 8000000
namespace G1
open PySem PySem.Spec PyProof.Rows L2 SY TXS OW
/-- t stands anew, or is too large -/
structure New (K : PySem.W.Frag) (C CL : Addr) (t : Sy) (H : Hp) (Q : VK) (E : XK) : Prop where
  big : 200 < t.size → Rs "size" CL H (.int t.size) E
  fit : t.size ≤ 200 → ∀ c H', Same H H' → H c = none → SayAt K C H' t c → Q (.ref c) H'
structure JoinP (K : PySem.W.Frag) (C CL CS : Addr) (k : Bk) (a : Addr) (y : V) (H : Hp) (Q : VK) (E : XK) : Prop where
  ex : ∃ t, SayAt K C H t a ∧ t.ok ∧ ((Kn H y ∧ Rs "thing" CS H y E) ∨ ∃ b u, y = .ref b ∧ SayAt K C H u b ∧ u.ok ∧ New K C CL (.bin k t u) H Q E)
def spJoined (K : PySem.W.Frag) (C CL CS : Addr) : Sp := fun vs H Q E => ∃ (k : Bk) (a : Addr) (y : V), vs = [.str k.kind, .ref a, y] ∧ JoinP K C CL CS k a y H Q E
def spBin (K : PySem.W.Frag) (C CL CS : Addr) (k : Bk) : Sp := fun vs H Q E => ∃ (a : Addr) (y : V), vs = [.ref a, y] ∧ JoinP K C CL CS k a y H Q E
def spDen (K : PySem.W.Frag) (C CL : Addr) : Sp := fun vs H Q E => ∃ (a : Addr) (t : Sy), vs = [.ref a] ∧ SayAt K C H t a ∧ t.ok ∧ New K C CL (.den t) H Q E
def spNever (K : PySem.W.Frag) (C CL : Addr) : Sp := fun vs H Q E => vs = [] ∧ New K C CL .nev H Q E
theorem made_sp {K : PySem.W.Frag} {C CL : Addr} {G : Hp} {x dx p : Addr} {t : Sy} {bs : List Addr} {Q : VK} {E : XK} (hx : G x = none) (hd : G dx = none) (hp : SqT K G p (bs.map V.ref)) (hb : Paired (SayAt K C G) t.subs bs) (ok : t.ok)
    (big : 200 < t.size → Rs "size" CL G (.int t.size) E) (fit : t.size ≤ 200 → ∀ H', Same G H' → SayAt K C H' t x → Q (.ref x) H') :
    spInitS K C CL [.ref x, .str t.kind, .ref p, t.letter] (upd (upd G dx (.own x)) x (.ins C dx [])) (fun v H2 => v = .non ∧ Q (.ref x) H2) E :=
  ⟨x, dx, p, G, t, bs, rfl, upd_same, same_new hx (same_new hd (Same.refl _)), hx, hp, hb, ok, big, fun sz H' s h => ⟨rfl, fit sz H' s h⟩⟩
section
variable {P : Program} {w : World} {K : PySem.W.Frag} {mg : Str → Option Value} {base : Heap} {C CL CS fL fS : Addr}
theorem scJoined : FnScope ["kind", "first", "second"] ["kind", "first", "second"] (defScope sJoined) := ⟨rfl, rfl, rfl, by decide +kernel, rfl, by decide +kernel, by decide +kernel⟩
theorem cl_joined (D : DefAt K mg "_joined" sJoined) (T : SayTxt K w mg C) (B : Blt mg) (TS : ErrS K mg CS fS) (M : Maker P w K mg base C CL) : Cl (L2.CX P w) P w K mg base 6 "_joined" ["kind", "first", "second"] (spJoined K C CL CS) := by
  obtain ⟨f, fd, F, hm⟩ := D
  obtain ⟨fdS, FS⟩ := TS.fn
  obtain ⟨fI, fdI, e0, d1, d2, MM, FI, h0, b0, b1, v1, b2, v2⟩ := M.ex
  refine cl_of F hm (F.ok scJoined (fun vs H Q E h => ?_) (fun cdv A outer s H vs Q E hr h => ⟨_, pss_cons
      (ps_if (pt_not (pt_val (pe_callB call_isi (by rfl) B.isin (by decide +kernel) (pa_cons (pv 2) (pa_cons (pe_glob (v := .ref C) rfl T.gC rfl) pa_nil)))))
        (pss_one (ps_raise rfl (takes_of rfl rfl rfl rfl) (pmk_oex TS.ox TS.iC TS.tI (ok_errS TS FS) (hr.mono (by decide)) (err_bindsS FS) .nil pass0 (by rfl) TS.gC (pa_cons (pv 2) pa_nil)))) pss_nil)
      (pss_one (ps_ret (pe_make (E := E) MM FI hr (by rfl) T.gC b1 v1 (passes_call (takes_of rfl rfl rfl rfl) fun _ _ _ _ h => h) (pa_cons (pv 0) (pa_cons (pe_tup (pa_cons (pv 1) (pa_cons (pv 2) pa_nil))) pa_nil))))), ?_⟩)) fun _ _ _ _ _ _ us hl => match us, hl with | [_, _, _], _ => rfl
  · obtain ⟨k, a, y, rfl, _⟩ := h
    rfl
  · obtain ⟨k, a, y, rfl, j⟩ := h
    obtain ⟨t, ht, ok, j⟩ := j.ex
    rcases j with ⟨kn, r⟩ | ⟨b, u, rfl, hu, oku, n⟩
    · obtain ⟨ty, h1, h2⟩ := kit_no T kn
      refine ⟨_, rfl, y, .ref C, ty, _, _, rfl, .own C, h1, h2, _, rfl, iteT ?_⟩
      exact ⟨_, rfl, len1 _, fun x hx => mk_rs r x hx⟩
    · obtain ⟨dx, p, q, e1, _⟩ := hu.face.ex
      obtain ⟨ty, h1, h2⟩ := kit_yes T e1
      refine ⟨_, rfl, .ref b, .ref C, ty, _, _, rfl, .own C, h1, h2, _, rfl, iteF ?_⟩
      refine ⟨_, rfl, _, rfl, _, rfl, (by show 2 ≤ sizeLine; decide), fun p1 n1 => ?_⟩
      intro x dx hx hdx ne
      have s1 : Same H (upd H p1 (.tup [.ref a, .ref b])) := same_new n1 (Same.refl _)
      exact made_sp (t := .bin k t u) (bs := [a, b]) hx hdx (SqT.of upd_same) (.cons (ht.on s1) (.cons (hu.on s1) .nil)) ⟨ok, oku⟩ (fun c => (n.big c).from s1) fun sz H' s' h' => n.fit sz x H' (s1.trans s') (s1.free hx) h'
theorem sc_both : FnScope ["self", "other"] ["self", "other"] (defScope mSayingBoth) := ⟨rfl, rfl, rfl, by decide +kernel, rfl, by decide +kernel, by decide +kernel⟩
theorem ok_both (T : SayTxt K w mg C) (cJ : Cl (L2.CX P w) P w K mg base 6 "_joined" ["kind", "first", "second"] (spJoined K C CL CS)) :
    ∃ f fd, Meth K C "both" f ∧ FnOk P w K mg base (L2.CX P w) 7 f fd ["self", "other"] (spBin K C CL CS .both) ∧ Binds K fd ["self", "other"] [] := by
  obtain ⟨f, fd, M, F⟩ := T.both.ex
  refine ⟨f, fd, M, F.ok sc_both (fun vs H Q E h => ?_) (fun cdv A outer s H vs Q E hr h => ⟨_, pss_one (ps_ret (pe_cS cJ hr (by decide) (takes_of rfl rfl rfl rfl) (by rfl) (pa_cons pe_str (pa_cons (pv 0) (pa_cons (pv 1) pa_nil))))), ?_⟩), F.bindsN fun _ _ _ _ _ _ us hl => match us, hl with | [_, _], _ => rfl⟩
  · obtain ⟨a, y, rfl, _⟩ := h
    rfl
  · obtain ⟨a, y, rfl, j⟩ := h
    exact ⟨_, rfl, _, rfl, .both, a, y, rfl, j⟩
theorem sc_thn : FnScope ["self", "other"] ["self", "other"] (defScope mSayingThen) := ⟨rfl, rfl, rfl, by decide +kernel, rfl, by decide +kernel, by decide +kernel⟩
theorem ok_thn (T : SayTxt K w mg C) (cJ : Cl (L2.CX P w) P w K mg base 6 "_joined" ["kind", "first", "second"] (spJoined K C CL CS)) :
    ∃ f fd, Meth K C "then" f ∧ FnOk P w K mg base (L2.CX P w) 7 f fd ["self", "other"] (spBin K C CL CS .thn) ∧ Binds K fd ["self", "other"] [] := by
  obtain ⟨f, fd, M, F⟩ := T.thn.ex
  refine ⟨f, fd, M, F.ok sc_thn (fun vs H Q E h => ?_) (fun cdv A outer s H vs Q E hr h => ⟨_, pss_one (ps_ret (pe_cS cJ hr (by decide) (takes_of rfl rfl rfl rfl) (by rfl) (pa_cons pe_str (pa_cons (pv 0) (pa_cons (pv 1) pa_nil))))), ?_⟩), F.bindsN fun _ _ _ _ _ _ us hl => match us, hl with | [_, _], _ => rfl⟩
  · obtain ⟨a, y, rfl, _⟩ := h
    rfl
  · obtain ⟨a, y, rfl, j⟩ := h
    exact ⟨_, rfl, _, rfl, .thn, a, y, rfl, j⟩
theorem sc_lower : FnScope ["self", "other"] ["self", "other"] (defScope mSayingLower) := ⟨rfl, rfl, rfl, by decide +kernel, rfl, by decide +kernel, by decide +kernel⟩
theorem ok_lower (T : SayTxt K w mg C) (cJ : Cl (L2.CX P w) P w K mg base 6 "_joined" ["kind", "first", "second"] (spJoined K C CL CS)) :
    ∃ f fd, Meth K C "lower" f ∧ FnOk P w K mg base (L2.CX P w) 7 f fd ["self", "other"] (spBin K C CL CS .lower) ∧ Binds K fd ["self", "other"] [] := by
  obtain ⟨f, fd, M, F⟩ := T.lower.ex
  refine ⟨f, fd, M, F.ok sc_lower (fun vs H Q E h => ?_) (fun cdv A outer s H vs Q E hr h => ⟨_, pss_one (ps_ret (pe_cS cJ hr (by decide) (takes_of rfl rfl rfl rfl) (by rfl) (pa_cons pe_str (pa_cons (pv 0) (pa_cons (pv 1) pa_nil))))), ?_⟩), F.bindsN fun _ _ _ _ _ _ us hl => match us, hl with | [_, _], _ => rfl⟩
  · obtain ⟨a, y, rfl, _⟩ := h
    rfl
  · obtain ⟨a, y, rfl, j⟩ := h
    exact ⟨_, rfl, _, rfl, .lower, a, y, rfl, j⟩
theorem sc_higher : FnScope ["self", "other"] ["self", "other"] (defScope mSayingHigher) := ⟨rfl, rfl, rfl, by decide +kernel, rfl, by decide +kernel, by decide +kernel⟩
theorem ok_higher (T : SayTxt K w mg C) (cJ : Cl (L2.CX P w) P w K mg base 6 "_joined" ["kind", "first", "second"] (spJoined K C CL CS)) :
    ∃ f fd, Meth K C "higher" f ∧ FnOk P w K mg base (L2.CX P w) 7 f fd ["self", "other"] (spBin K C CL CS .higher) ∧ Binds K fd ["self", "other"] [] := by
  obtain ⟨f, fd, M, F⟩ := T.higher.ex
  refine ⟨f, fd, M, F.ok sc_higher (fun vs H Q E h => ?_) (fun cdv A outer s H vs Q E hr h => ⟨_, pss_one (ps_ret (pe_cS cJ hr (by decide) (takes_of rfl rfl rfl rfl) (by rfl) (pa_cons pe_str (pa_cons (pv 0) (pa_cons (pv 1) pa_nil))))), ?_⟩), F.bindsN fun _ _ _ _ _ _ us hl => match us, hl with | [_, _], _ => rfl⟩
  · obtain ⟨a, y, rfl, _⟩ := h
    rfl
  · obtain ⟨a, y, rfl, j⟩ := h
    exact ⟨_, rfl, _, rfl, .higher, a, y, rfl, j⟩
theorem sc_same : FnScope ["self", "other"] ["self", "other"] (defScope mSayingSame) := ⟨rfl, rfl, rfl, by decide +kernel, rfl, by decide +kernel, by decide +kernel⟩
theorem ok_same (T : SayTxt K w mg C) (cJ : Cl (L2.CX P w) P w K mg base 6 "_joined" ["kind", "first", "second"] (spJoined K C CL CS)) :
    ∃ f fd, Meth K C "same" f ∧ FnOk P w K mg base (L2.CX P w) 7 f fd ["self", "other"] (spBin K C CL CS .same) ∧ Binds K fd ["self", "other"] [] := by
  obtain ⟨f, fd, M, F⟩ := T.same.ex
  refine ⟨f, fd, M, F.ok sc_same (fun vs H Q E h => ?_) (fun cdv A outer s H vs Q E hr h => ⟨_, pss_one (ps_ret (pe_cS cJ hr (by decide) (takes_of rfl rfl rfl rfl) (by rfl) (pa_cons pe_str (pa_cons (pv 0) (pa_cons (pv 1) pa_nil))))), ?_⟩), F.bindsN fun _ _ _ _ _ _ us hl => match us, hl with | [_, _], _ => rfl⟩
  · obtain ⟨a, y, rfl, _⟩ := h
    rfl
  · obtain ⟨a, y, rfl, j⟩ := h
    exact ⟨_, rfl, _, rfl, .same, a, y, rfl, j⟩
theorem scDenied : FnScope ["self"] ["self"] (defScope mSayingDenied) := ⟨rfl, rfl, rfl, by decide +kernel, rfl, by decide +kernel, by decide +kernel⟩
theorem ok_den (T : SayTxt K w mg C) (M : Maker P w K mg base C CL) :
    ∃ f fd, Meth K C "denied" f ∧ FnOk P w K mg base (L2.CX P w) 6 f fd ["self"] (spDen K C CL) ∧ Binds K fd ["self"] [] := by
  obtain ⟨f, fd, MM, F⟩ := T.denied.ex
  obtain ⟨fI, fdI, e0, d1, d2, MK, FI, h0, b0, b1, v1, b2, v2⟩ := M.ex
  refine ⟨f, fd, MM, F.ok scDenied (fun vs H Q E h => ?_) (fun cdv A outer s H vs Q E hr h => ⟨_, pss_one (ps_ret (pe_make (E := E) MK FI hr (by rfl) T.gC b1 v1 (passes_call (takes_of rfl rfl rfl rfl) fun _ _ _ _ h => h) (pa_cons pe_str (pa_cons (pe_tup (pa_cons (pv 0) pa_nil)) pa_nil)))), ?_⟩), F.bindsN fun _ _ _ _ _ _ us hl => match us, hl with | [_], _ => rfl⟩
  · obtain ⟨a, t, rfl, _⟩ := h
    rfl
  · obtain ⟨a, t, rfl, ht, ok, n⟩ := h
    refine ⟨_, rfl, (by show 1 ≤ sizeLine; decide), fun p1 n1 => ?_⟩
    intro x dx hx hdx ne
    have s1 : Same H (upd H p1 (.tup [.ref a])) := same_new n1 (Same.refl _)
    exact made_sp (t := .den t) (bs := [a]) hx hdx (SqT.of upd_same) (.cons (ht.on s1) .nil) ok (fun c => (n.big c).from s1) fun sz H' s' h' => n.fit sz x H' (s1.trans s') (s1.free hx) h'
theorem scNever : FnScope [] [] (defScope sNever) := ⟨rfl, rfl, rfl, by decide +kernel, rfl, by decide +kernel, by decide +kernel⟩
theorem cl_never (D : DefAt K mg "never" sNever) (T : SayTxt K w mg C) (M : Maker P w K mg base C CL) : Cl (L2.CX P w) P w K mg base 6 "never" [] (spNever K C CL) := by
  obtain ⟨f, fd, F, hm⟩ := D
  obtain ⟨fI, fdI, e0, d1, d2, MK, FI, h0, b0, b1, v1, b2, v2⟩ := M.ex
  refine cl_of F hm (F.ok scNever (fun vs H Q E h => ?_) (fun cdv A outer s H vs Q E hr h => ⟨_, pss_one (ps_ret (pe_make (E := E) MK FI hr (by rfl) T.gC b2 v2 (passes_call (takes_of rfl rfl rfl rfl) fun _ _ _ _ h => h) (pa_cons pe_str pa_nil))), ?_⟩)) fun _ _ _ _ _ _ us hl => match us, hl with | [], _ => rfl
  · rw [h.1]
    rfl
  · obtain ⟨rfl, n⟩ := h
    intro x dx hx hdx ne
    exact made_sp (t := .nev) (bs := []) hx hdx (h0 _) .nil trivial n.big fun sz H' s' h' => n.fit sz x H' s' hx h'
end
end G1
set_option maxHeartbeats 8000000
namespace G1
open PySem PySem.Spec PyProof.Rows L2 SY TXS OW
inductive NoLet : V → Prop where
  | non : NoLet .non
  | bl (b : Bool) : NoLet (.bl b)
  | int (i : Int) : NoLet (.int i)
  | ref (a : Addr) : NoLet (.ref a)
  | len {z : Str} (h : z.length ≤ sizeLine) (n : z.length ≠ 1) : NoLet (.str z)
  | off {c : Nat} (n : ¬ (97 ≤ c ∧ c ≤ 122)) : NoLet (.str (one c))
structure NamedP (K : PySem.W.Frag) (C CL CN : Addr) (y : V) (H : Hp) (Q : VK) (E : XK) : Prop where
  ex : (∃ c, y = .str (one c) ∧ (Sy.nm c).ok ∧ New K C CL (.nm c) H Q E) ∨ (Kn H y ∧ NoLet y ∧ Rs "thing" CN H y E)
def spNamed (K : PySem.W.Frag) (C CL CN : Addr) : Sp := fun vs H Q E => ∃ y : V, vs = [y] ∧ NamedP K C CL CN y H Q E
def spLetter : Sp := fun vs H Q _ => ∃ (y : V) (b : Bool), vs = [y] ∧ ((∃ c, y = .str (one c) ∧ (Sy.nm c).ok ∧ b = true) ∨ (Kn H y ∧ NoLet y ∧ b = false)) ∧ Q (.bl b) H
def spEqS (K : PySem.W.Frag) (C : Addr) : Sp := fun vs H Q _ => ∃ (a b : Addr) (t u : Sy), vs = [.ref a, .ref b] ∧ Face K C H t a ∧ Face K C H u b ∧ Q (.bl (decide (V.str t.text = V.str u.text))) H
structure BinP (K : PySem.W.Frag) (C CL : Addr) (k : Bk) (a b : Addr) (H : Hp) (Q : VK) (E : XK) : Prop where
  ex : ∃ t u, SayAt K C H t a ∧ t.ok ∧ SayAt K C H u b ∧ u.ok ∧ New K C CL (.bin k t u) H Q E
def spOp (K : PySem.W.Frag) (C CL : Addr) (k : Bk) : Sp := fun vs H Q E => ∃ (a b : Addr), vs = [.ref a, .ref b] ∧ BinP K C CL k a b H Q E
section
variable {P : Program} {w : World} {K : PySem.W.Frag} {mg : Str → Option Value} {base : Heap} {C CL CS CN fL fS fN : Addr}
theorem kit_str : ∀ {H : Hp} {v : V}, Kn H v → ∃ t, TyX K H v t ∧ PySem.W.kitOne K t (.type "str") = some (match v with | .str _ => true | _ => false)
  | _, .non, _ => ⟨_, .base .non, kit_ty (show kitB "NoneType" "str" = some false by decide +kernel)⟩
  | _, .bl b, _ => ⟨_, .base (.bl b), kit_ty (show kitB "bool" "str" = some false by decide +kernel)⟩
  | _, .int i, _ => ⟨_, .base (.int i), kit_ty (show kitB "int" "str" = some false by decide +kernel)⟩
  | _, .str z, _ => ⟨_, .base (.str z), kit_ty (show kitB "str" "str" = some true by decide +kernel)⟩
  | _, .ref a, h => by
    rcases h with ⟨xs, e⟩ | ⟨xs, e⟩ | ⟨xs, e⟩
    · exact ⟨_, .base (.lst e), kit_ty (show kitB "list" "str" = some false by decide +kernel)⟩
    · exact ⟨_, .base (.tup e), kit_ty (show kitB "tuple" "str" = some false by decide +kernel)⟩
    · exact ⟨_, .base (.dK e), kit_ty (show kitB "dict" "str" = some false by decide +kernel)⟩
theorem one_lt (c d : Nat) : ([c] : List Nat) < [d] ↔ c < d := by
  constructor
  · intro h
    cases h with
    | rel h => exact h
    | cons h => cases h
  · intro h
    exact List.Lex.rel h
theorem lowA (c : Nat) : decide ((one c).cps.toList < ("a" : Str).cps.toList) = decide (c < 97) := decide_eq_decide.mpr (one_lt c 97)
theorem highZ (c : Nat) : decide (("z" : Str).cps.toList < (one c).cps.toList) = decide (122 < c) := decide_eq_decide.mpr (one_lt 122 c)
theorem scIsLetter : FnScope ["thing"] ["thing"] (defScope sIsLetter) := ⟨rfl, rfl, rfl, by decide +kernel, rfl, by decide +kernel, by decide +kernel⟩
theorem cl_letter (D : DefAt K mg "is_letter" sIsLetter) (B : Blt mg) : Cl CX0 P w K mg base 1 "is_letter" ["thing"] spLetter := by
  obtain ⟨f, fd, F, hm⟩ := D
  refine cl_of F hm (F.ok scIsLetter (fun vs H Q E h => ?_) (fun cdv A outer s H vs Q E hr h => ⟨_, PSs.nox (pss_one (ps_ret
      (pe_and (pe_callB call_isi (by rfl) B.isin (by decide +kernel) (pa_cons (pv 0) (pa_cons (pe_bltn (v := .ty "str") (by rfl) B.str (by decide +kernel) rfl) pa_nil)))
        (pe_and (pe_cmpR op_eq (pe_callB call_len_str (by rfl) B.len PySem.boot_len (pa_cons (pv 0) pa_nil)) pe_int (nomark _))
          (pe_one (pe_chain op_le_str op_le_str pe_str (pv 0) pe_str)))))), ?_⟩)) fun _ _ _ _ _ _ us hl => match us, hl with | [_], _ => rfl
  · obtain ⟨y, b, rfl, _⟩ := h
    rfl
  · obtain ⟨y, b, rfl, is, q⟩ := h
    rcases is with ⟨c, rfl, ok, rfl⟩ | ⟨kn, nl, rfl⟩
    · obtain ⟨ty, h1, h2⟩ := kit_str (K := K) (H := H) (v := .str (one c)) trivial
      refine ⟨_, rfl, .str (one c), .ty "str", ty, _, _, rfl, .ty "str", h1, h2, _, rfl, iteT ?_⟩
      refine ⟨_, rfl, _, rfl, (by show 1 ≤ sizeLine; decide), rfl, _, rfl, iteT ?_⟩
      refine ⟨_, rfl, _, _, rfl, rfl, _, rfl, ?_⟩
      rw [lowA, decide_eq_false (show ¬ c < 97 from Nat.not_lt.mpr ok.1)]
      refine iteT ⟨_, _, rfl, rfl, ?_⟩
      rw [highZ, decide_eq_false (show ¬ 122 < c from Nat.not_lt.mpr ok.2)]
      exact q
    · obtain ⟨ty, h1, h2⟩ := kit_str (K := K) kn
      refine ⟨_, rfl, y, .ty "str", ty, _, _, rfl, .ty "str", h1, h2, _, rfl, ?_⟩
      cases nl with
      | non => exact iteF q
      | bl b => exact iteF q
      | int i => exact iteF q
      | ref a => exact iteF q
      | @len z hz n =>
        refine iteT ⟨_, rfl, _, rfl, hz, rfl, _, rfl, ?_⟩
        rw [decide_eq_false (show ¬ V.int ((z.length : Nat) : Int) = V.int 1 from fun e => n (by injection e with e; omega))]
        exact iteF q
      | @off c n =>
        refine iteT ⟨_, rfl, _, rfl, (by show 1 ≤ sizeLine; decide), rfl, _, rfl, iteT ?_⟩
        refine ⟨_, rfl, _, _, rfl, rfl, _, rfl, ?_⟩
        rw [lowA]
        by_cases h9 : c < 97
        · rw [decide_eq_true h9]
          exact iteF q
        · rw [decide_eq_false h9]
          refine iteT ⟨_, _, rfl, rfl, ?_⟩
          rw [highZ, decide_eq_true (show 122 < c by omega)]
          exact q
theorem scNamed : FnScope ["name"] ["name"] (defScope sNamed) := ⟨rfl, rfl, rfl, by decide +kernel, rfl, by decide +kernel, by decide +kernel⟩
theorem cl_named (D : DefAt K mg "named" sNamed) (T : SayTxt K w mg C) (TN : ErrN K mg CN fN) (M : Maker P w K mg base C CL) (cI : Cl CX0 P w K mg base 1 "is_letter" ["thing"] spLetter) : Cl (L2.CX P w) P w K mg base 6 "named" ["name"] (spNamed K C CL CN) := by
  obtain ⟨f, fd, F, hm⟩ := D
  obtain ⟨fdN, FN⟩ := TN.fn
  obtain ⟨fI, fdI, e0, d1, d2, MM, FI, h0, b0, b1, v1, b2, v2⟩ := M.ex
  refine cl_of F hm (F.ok scNamed (fun vs H Q E h => ?_) (fun cdv A outer s H vs Q E hr h => ⟨_, pss_cons
      (ps_if (pt_not (pt_val (pe_c0 cI hr (by decide) (by rfl) (pa_cons (pv 0) pa_nil))))
        (pss_one (ps_raise rfl (takes_of rfl rfl rfl rfl) (pmk_oex TN.ox TN.iC TN.tI (ok_errN TN FN) (hr.mono (by decide)) (err_bindsN FN) .nil pass0 (by rfl) TN.gC (pa_cons (pv 0) pa_nil)))) pss_nil)
      (pss_one (ps_ret (pe_make (E := E) MM FI hr (by rfl) T.gC b0 .nil (passes_call (takes_of rfl rfl rfl rfl) fun _ _ _ _ h => h) (pa_cons pe_str (pa_cons (pe_tup pa_nil) (pa_cons (pv 0) pa_nil)))))), ?_⟩)) fun _ _ _ _ _ _ us hl => match us, hl with | [_], _ => rfl
  · obtain ⟨y, rfl, _⟩ := h
    rfl
  · obtain ⟨y, rfl, h⟩ := h
    rcases h.ex with ⟨c, rfl, ok, n⟩ | ⟨kn, nl, r⟩
    · refine ⟨_, rfl, _, true, rfl, .inl ⟨c, rfl, ok, rfl⟩, _, rfl, iteF ?_⟩
      refine ⟨(by show 0 ≤ sizeLine; decide), fun p1 n1 => ⟨_, rfl, ?_⟩⟩
      intro x dx hx hdx ne
      have s1 : Same H (upd H p1 (.tup [])) := same_new n1 (Same.refl _)
      exact made_sp (t := .nm c) (bs := []) hx hdx (SqT.of upd_same) .nil ok (fun c' => (n.big c').from s1) fun sz H' s' h' => n.fit sz x H' (s1.trans s') (s1.free hx) h'
    · refine ⟨_, rfl, y, false, rfl, .inr ⟨kn, nl, rfl⟩, _, rfl, iteT ?_⟩
      exact ⟨_, rfl, len1 _, fun x hx => mk_rs r x hx⟩
theorem scEq : FnScope ["self", "other"] ["self", "other"] (defScope mSayingEq) := ⟨rfl, rfl, rfl, by decide +kernel, rfl, by decide +kernel, by decide +kernel⟩
theorem ok_eq (T : SayTxt K w mg C) (B : Blt mg) : ∃ f, Meth K C "__eq__" f ∧ FnR P w K mg base CX0 1 f (spEqS K C) := by
  obtain ⟨f, fd, M, F⟩ := T.eq.ex
  refine ⟨f, M, raw0 (ps := ["self", "other"]) (F.ok scEq (fun vs H Q E h => ?_) (fun cdv A outer s H vs Q E hr h => ⟨_, PSs.nox (pss_one (ps_ret
      (pe_and (pe_callB call_isi (by rfl) B.isin (by decide +kernel) (pa_cons (pv 1) (pa_cons (pe_glob (v := .ref C) rfl T.gC rfl) pa_nil))) (pe_one (pe_cmpR op_eq (pe_fld (pv 0) rfl) (pe_fld (pv 1) rfl) (nomark _)))))), ?_⟩))
    (F.bindsN fun _ _ _ _ _ _ us hl => match us, hl with | [_, _], _ => rfl)⟩
  · obtain ⟨a, b, t, u, rfl, _⟩ := h
    rfl
  · obtain ⟨a, b, t, u, rfl, ha, hb, q⟩ := h
    obtain ⟨dx, p, q1, e1, _⟩ := ha.ex
    obtain ⟨dy, p', q2, e2, _⟩ := hb.ex
    obtain ⟨ty, h1, h2⟩ := kit_yes T e2
    refine ⟨_, rfl, .ref b, .ref C, ty, _, _, rfl, .own C, h1, h2, _, rfl, iteT ?_⟩
    exact ⟨_, rfl, a, C, dx, _, _, rfl, e1, T.cl, T.nT, rfl, _, rfl, b, C, dy, _, _, rfl, e2, T.cl, T.nT, rfl, rfl, q⟩
theorem scmAnd : FnScope ["self", "other"] ["self", "other"] (defScope mSayingAnd) := ⟨rfl, rfl, rfl, by decide +kernel, rfl, by decide +kernel, by decide +kernel⟩
theorem ok_and_ (T : SayTxt K w mg C) (B : Blt mg) (cJ : Cl (L2.CX P w) P w K mg base 6 "_joined" ["kind", "first", "second"] (spJoined K C CL CS)) :
    ∃ f, Meth K C "__and__" f ∧ FnR P w K mg base (L2.CX P w) 8 f (spOp K C CL .both) := by
  obtain ⟨f, fd, M, F⟩ := T.and_.ex
  obtain ⟨f2, fd2, M2, F2, b2⟩ := ok_both T cJ
  refine ⟨f, M, raw0 (ps := ["self", "other"]) (F.ok scmAnd (fun vs H Q E h => ?_) (fun cdv A outer s H vs Q E hr h => ⟨_, pss_cons
      (ps_if (pt_not (pt_val (pe_callB call_isi (by rfl) B.isin (by decide +kernel) (pa_cons (pv 1) (pa_cons (pe_glob (v := .ref C) rfl T.gC rfl) pa_nil))))) (pss_one ps_never) pss_nil)
      (pss_one (ps_ret (pe_meth (E := E) (pv 0) T.cl M2 F2 hr b2 .nil (passes_call (takes_of rfl rfl rfl rfl) fun _ _ _ _ h => h) (pa_cons (pv 1) pa_nil)))), ?_⟩))
    (F.bindsN fun _ _ _ _ _ _ us hl => match us, hl with | [_, _], _ => rfl)⟩
  · obtain ⟨a, b, rfl, _⟩ := h
    rfl
  · obtain ⟨a, b, rfl, h⟩ := h
    obtain ⟨t, u, ht, okt, hu, oku, n⟩ := h.ex
    obtain ⟨dx, p, q1, e1, _⟩ := ht.face.ex
    obtain ⟨dy, p', q2, e2, _⟩ := hu.face.ex
    obtain ⟨ty, h1, h2⟩ := kit_yes T e2
    refine ⟨_, rfl, .ref b, .ref C, ty, _, _, rfl, .own C, h1, h2, _, rfl, iteF ?_⟩
    exact ⟨_, rfl, a, dx, _, rfl, e1, rfl, _, rfl, a, .ref b, rfl, ⟨t, ht, okt, .inr ⟨b, u, rfl, hu, oku, n⟩⟩⟩
theorem scmRsh : FnScope ["self", "other"] ["self", "other"] (defScope mSayingRsh) := ⟨rfl, rfl, rfl, by decide +kernel, rfl, by decide +kernel, by decide +kernel⟩
theorem ok_rsh (T : SayTxt K w mg C) (B : Blt mg) (cJ : Cl (L2.CX P w) P w K mg base 6 "_joined" ["kind", "first", "second"] (spJoined K C CL CS)) :
    ∃ f, Meth K C "__rshift__" f ∧ FnR P w K mg base (L2.CX P w) 8 f (spOp K C CL .thn) := by
  obtain ⟨f, fd, M, F⟩ := T.rsh.ex
  obtain ⟨f2, fd2, M2, F2, b2⟩ := ok_thn T cJ
  refine ⟨f, M, raw0 (ps := ["self", "other"]) (F.ok scmRsh (fun vs H Q E h => ?_) (fun cdv A outer s H vs Q E hr h => ⟨_, pss_cons
      (ps_if (pt_not (pt_val (pe_callB call_isi (by rfl) B.isin (by decide +kernel) (pa_cons (pv 1) (pa_cons (pe_glob (v := .ref C) rfl T.gC rfl) pa_nil))))) (pss_one ps_never) pss_nil)
      (pss_one (ps_ret (pe_meth (E := E) (pv 0) T.cl M2 F2 hr b2 .nil (passes_call (takes_of rfl rfl rfl rfl) fun _ _ _ _ h => h) (pa_cons (pv 1) pa_nil)))), ?_⟩))
    (F.bindsN fun _ _ _ _ _ _ us hl => match us, hl with | [_, _], _ => rfl)⟩
  · obtain ⟨a, b, rfl, _⟩ := h
    rfl
  · obtain ⟨a, b, rfl, h⟩ := h
    obtain ⟨t, u, ht, okt, hu, oku, n⟩ := h.ex
    obtain ⟨dx, p, q1, e1, _⟩ := ht.face.ex
    obtain ⟨dy, p', q2, e2, _⟩ := hu.face.ex
    obtain ⟨ty, h1, h2⟩ := kit_yes T e2
    refine ⟨_, rfl, .ref b, .ref C, ty, _, _, rfl, .own C, h1, h2, _, rfl, iteF ?_⟩
    exact ⟨_, rfl, a, dx, _, rfl, e1, rfl, _, rfl, a, .ref b, rfl, ⟨t, ht, okt, .inr ⟨b, u, rfl, hu, oku, n⟩⟩⟩
theorem scInv : FnScope ["self"] ["self"] (defScope mSayingInv) := ⟨rfl, rfl, rfl, by decide +kernel, rfl, by decide +kernel, by decide +kernel⟩
theorem ok_inv (T : SayTxt K w mg C) (M : Maker P w K mg base C CL) : ∃ f, Meth K C "__invert__" f ∧ FnR P w K mg base (L2.CX P w) 7 f (spDen K C CL) := by
  obtain ⟨f, fd, MM, F⟩ := T.inv.ex
  obtain ⟨f2, fd2, M2, F2, b2⟩ := ok_den T M
  refine ⟨f, MM, raw0 (ps := ["self"]) (F.ok scInv (fun vs H Q E h => ?_) (fun cdv A outer s H vs Q E hr h => ⟨_, pss_one
      (ps_ret (pe_meth0 (E := E) (pv 0) T.cl M2 F2 hr b2 .nil (passes_call (takes_of rfl rfl rfl rfl) fun _ _ _ _ h => h))), ?_⟩))
    (F.bindsN fun _ _ _ _ _ _ us hl => match us, hl with | [_], _ => rfl)⟩
  · obtain ⟨a, t, rfl, _⟩ := h
    rfl
  · obtain ⟨a, t, rfl, ht, ok, n⟩ := h
    obtain ⟨dx, p, q1, e1, _⟩ := ht.face.ex
    exact ⟨_, rfl, a, dx, _, rfl, e1, rfl, a, t, rfl, ht, ok, n⟩
end
end G1
set_option maxHeartbeats 4000000
/-! xs.extend(a tuple); list(d.values()) -/
namespace OW
open PySem PySem.Spec PyProof.Rows
theorem ext_tup (l : Addr) (old : Array Value) (n : Nat) (b : Addr) (new : Array Value) (n2 : Nat) (dd : Option Addr) (sl : Array (Option Value)) (c0 : ¬(!old.isEmpty && Builtin.List.listTooLong (old.size + new.size)) = true) (c1 : old.size ≤ sizeLine) (c2 : old.size + new.size ≤ sizeLine + 1) :
    Meets (Builtin.«list.extend» ⟨[.ref l, .ref b], []⟩) (fun _ R s => s.heap.get? l = some { cls := .type "list", dict := none, data := .seq old n, slots := #[] } ∧ s.heap.get? b = some { cls := .type "tuple", dict := dd, data := .seq new n2, slots := sl } ∧
      R (.ok (.ret Value.none)) { s with heap := s.heap.update l (Obj.mapSeq fun x => x ++ new), toks := s.toks }) := by
  apply Meets.of_wp
  rintro prog w A R ⟨hp, gs, dr, tk, os⟩ ⟨atL, atB, r⟩
  have i1 := PySem.AutoSeq1.idx_int
  have i2 := PySem.AutoSeq1.sub_tuple_tuple
  have i3 := PySem.AutoSeq1.sub_list_list
  have i4 := PySem.AutoSeq1.sub_tuple_list
  have i5 := PySem.AutoSeq1.sub_list_tuple
  have fits : (old ++ new).size ≤ sizeLine + 1 := Array.size_append ▸ c2
  wp_walk using (wpAny_updateSeq atL rfl (hz := c1) (_hz' := fits)), PySem.AutoSeq1.wpAny_loadPart' atL, PySem.AutoSeq1.wpAny_loadPart' atB
  exact ⟨_, rfl, r⟩
end OW
namespace OW
open PySem PySem.Spec PyProof.Rows L2
section
variable {X : Cx}
def rExtT (K : PySem.W.Frag) : V → List V → Hp → VK → Prop := fun x vs H Q => ∃ l b xs zs, x = .ref l ∧ vs = [.ref b] ∧ H l = some (.lst xs) ∧ SqT K H b zs ∧ xs.length + zs.length ≤ sizeLine ∧ Q .non (upd H l (.lst (xs ++ zs)))
theorem mt_extT : MtM X "list.extend" (rExtT X.K) := by
  intro pn st sl H x vs v us Q I r1 rs ask
  obtain ⟨l, b, xs, zs, rfl, rfl, atL, atB, most, q⟩ := ask
  have e1 : v = Value.ref l := r1
  have e2 : us = [Value.ref b] := Vals.ref1 rs
  subst e1 e2
  obtain ⟨_, as, n, ra, la, oa⟩ := I.lstM atL
  obtain ⟨bs, rb, ⟨⟨oc, od, odata, osl⟩, ob, kc, n2, kd⟩, lb⟩ := I.tuple atB
  dsimp only at kc kd
  subst kc kd
  have k1 := ra.length
  have k2 := rb.length
  have small : as.toArray.size + bs.toArray.size ≤ sizeLine := by
    simp only [List.size_toArray]
    omega
  have short : ¬ (!as.toArray.isEmpty && Builtin.List.listTooLong (as.toArray.size + bs.toArray.size)) = true := by
    intro z
    rw [Bool.and_eq_true, notLongL small] at z
    exact Bool.false_ne_true z.2
  have one : as.toArray.size ≤ sizeLine := Nat.le_trans (Nat.le_add_right _ _) small
  have isL : st.TypeIs (.ref l) "list" := ⟨_, oa, rfl⟩
  have does := ext_tup l as.toArray n b bs.toArray n2 od osl short one (Nat.le_succ_of_le small)
  refine call_meets F.slot_list_extend isL F.entry_list_extend (F.args_list_extend_2 _ _) does ⟨oa, ob, ?_⟩
  refine ⟨V.non, _, I.lset (its' := as ++ bs) atL oa (by simp) (ra.append rb) ?_, rfl, q⟩
  rw [List.length_append]
  omega
/-- list(e.values()) -/
def rValsL : V → Hp → VK → Prop := fun x H Q => ∃ (d : Addr) (kvs : List (Key × V)), x = .ref d ∧ H d = some (.dK kvs) ∧ ∀ l, H l = none → Q (.ref l) (upd H l (.lst (kvs.map (·.2))))
def tListVals (te : TE) : TE := fun σ H Q => te σ H fun x H1 => rValsL x H1 Q
variable {e : Expr} {te : TE} {p apos cpos pos : Pos}
theorem kv_snd : ∀ {kvs : List (Key × V)} {vs : List (Key × Value)}, KV kvs vs → Vals (kvs.map (·.2)) (vs.map (·.2))
  | _, _, .nil => .nil
  | _, _, .cons r rs => .cons r.2 (kv_snd rs)
/-- a view of the values, made into a list -/
theorem view_list {pn : List (Addr × Obj)} {sl : L2.St} {H : Hp} {st : Shared} {d r : Addr} {kvs : List (Key × V)} {vs : List (Key × Value)} {ep : Nat} {Q : VK} (calm : X.calm = true) (I : Inv X pn sl H st) (kv : KV kvs vs) (few : kvs.length ≤ sizeLine)
    (view : st.heap.IsValuesView r d) (at_ : st.heap.DictAt (mixKind X.prog X.w) d vs ep) (q : ∀ l, H l = none → Q (.ref l) (upd H l (.lst (kvs.map (·.2))))) : wpAny (model X.prog X.w) X.A (call (.type "list") [.ref r]) (EP X pn sl Q) X.xe st := by
  have same : kvs.length = vs.length := Paired.length kv
  apply PySem.W.kdl_call (PySem.W.kdl_values (knd := mixKind X.prog X.w) (kvs := vs) (ep := ep) (d := d)) (I.ok.hd calm) ⟨view, at_⟩ (same ▸ few)
  intro h' tk acc c keep made items
  have all : acc.toList = vs.map (·.2) := by
    apply PySem.W.kdl_vals_eq acc.toList
    · simpa using items.1
    · intro j v hv
      exact items.2 j v (by simpa using hv)
  have most : (kvs.map (·.2)).length ≤ sizeLine := List.length_map (as := kvs) (·.2) ▸ few
  exact ⟨V.ref _, _, I.laid (t' := tk) (o := .lst (kvs.map (·.2))) keep (Nat.le_refl _) ⟨most, acc.toList, c, all ▸ kv_snd kv, by simpa using made⟩, rfl, q _ (I.hok.fresh (Nat.le_refl _))⟩
theorem pe_listVals (calm : X.calm = true) (he : PE X e te) (gl : Gl X "list") (free : X.mg "list" = none) (bv : bootBuiltins "list" = some (.type "list")) (base : attributeBase e "values" X.env (eval e X.env) = eval e X.env := by rfl) (line : (apos.endLine == cpos.line) = true := by rfl)
    (each : starEach [.Call (.Attribute e "values" apos) [] [] cpos] X.env = (false, eval (.Call (.Attribute e "values" apos) [] [] cpos) X.env) :: starEach [] X.env := by rfl) :
    PE X (.Call (.Name "list" p) [.Call (.Attribute e "values" apos) [] [] cpos] [] pos) (tListVals te) := by
  constructor
  intro pn st sl H Q I ask
  apply wpAny_Call_Name_kw
  apply ld_blt I gl free bv
  refine PyProof.Rows.callWith_type1 (T := "list") ?_ each rfl
  rw [each]
  apply Calls.spliced_cons
  apply wpAny_Call_method (T := "dict") (id := "dict.values") base rfl line F.plainAttrs_dict F.slot_dict_values F.type_dict_values
  refine thn (he.run pn st sl H _ I ask) ?_
  rintro u s1 ⟨x, H1, I1, rel, d, kvs, rfl, here, q⟩
  have eu : u = Value.ref d := rel
  subst eu
  have its := I1.hok d _ here
  obtain ⟨few, low, vs, kv, isD⟩ := its
  obtain ⟨ep, at_⟩ := isD.dictAt
  let view : Obj := { cls := .type "dict_values", data := .fields #[.ref d] }
  have I2 : Inv X pn sl H1 { s1 with heap := s1.heap.push view } := I1.kept (t' := s1.toks) fun _ _ z => Heap.get?_push_of_some _ z
  constructor
  · exact isD.typeIs
  constructor
  · exact isD.mapOf.noDict
  apply method_meetsIn F.slot_dict_values F.entry_dict_values rfl
  refine PySem.evalArgs_none ⟨rfl, isD.typeIs, F.args_dict_values_1 _, _, meets_dict_values (mixKind X.prog X.w) d low, ⟨vs, isD⟩, ?_⟩
  apply Calls.spliced_nil
  exact view_list calm I2 kv few ⟨_, Heap.get?_push_size _ rfl, rfl, rfl⟩ (at_.push _) q
end
end OW
set_option maxHeartbeats 8000000
namespace G1
open PySem PySem.Spec PyProof.Rows L2 SY TXS OW
/-! ### the parts -/
def post : Sy → List Sy
  | .nm c => [.nm c] | .nev => [.nev] | .alw => [.alw]
  | .den a => post a ++ [.den a]
  | .bin k a b => post a ++ post b ++ [.bin k a b]
theorem post_subs (t : Sy) : post t = t.subs.flatMap post ++ [t] := by
  cases t with
  | bin k a b => show post a ++ post b ++ [_] = (post a ++ (post b ++ [])) ++ [_]; rw [List.append_nil]
  | den a => show post a ++ [_] = (post a ++ []) ++ [_]; rw [List.append_nil]
  | _ => rfl
theorem post_len : ∀ t : Sy, (post t).length = t.size
  | .nm _ => rfl | .nev => rfl | .alw => rfl
  | .den a => by
    show (post a ++ [_]).length = a.size + 1
    rw [List.length_append, post_len a]
    rfl
  | .bin k a b => by
    show (post a ++ post b ++ [_]).length = a.size + b.size + 1
    rw [List.length_append, List.length_append, post_len a, post_len b]
    rfl
def addU (acc : List Sy) (u : Sy) : List Sy := if acc.any (fun v => decide (v.text = u.text)) then acc else acc ++ [u]
def uniq (ts : List Sy) : List Sy := ts.foldl addU []
theorem addU_old {acc : List Sy} {u : Sy} (h : acc.any (fun v => decide (v.text = u.text)) = true) : addU acc u = acc := if_pos h
theorem addU_new {acc : List Sy} {u : Sy} (h : acc.any (fun v => decide (v.text = u.text)) = false) : addU acc u = acc ++ [u] := if_neg (by rw [h]; exact Bool.false_ne_true)
theorem addU_len (acc : List Sy) (u : Sy) : (addU acc u).length ≤ acc.length + 1 := by
  unfold addU
  split
  · omega
  · simp
theorem fold_addU_len : ∀ (ts acc : List Sy), (ts.foldl addU acc).length ≤ acc.length + ts.length
  | [], acc => by simp
  | t :: ts, acc => by
    have h1 := fold_addU_len ts (addU acc t)
    have h2 := addU_len acc t
    rw [List.foldl_cons, List.length_cons]
    omega
theorem paired_snoc {α β : Type} {R : α → β → Prop} : ∀ {xs : List α} {ys : List β}, Paired R xs ys → ys ≠ [] → ∃ xs0 x ys0 y, xs = xs0 ++ [x] ∧ ys = ys0 ++ [y] ∧ Paired R xs0 ys0 ∧ R x y
  | _, _, .nil, h => absurd rfl h
  | _, _, .cons (a := x) (b := y) r .nil, _ => ⟨[], x, [], y, rfl, rfl, .nil, r⟩
  | _, _, .cons (a := x) (b := y) r (.cons r2 rs), _ => by
    obtain ⟨xs0, x', ys0, y', e1, e2, p, q⟩ := paired_snoc (.cons r2 rs) (by simp)
    exact ⟨x :: xs0, x', y :: ys0, y', by rw [e1]; rfl, by rw [e2]; rfl, .cons r p, q⟩
theorem paired_app {α β : Type} {R : α → β → Prop} : ∀ {xs xs' : List α} {ys ys' : List β}, Paired R xs ys → Paired R xs' ys' → Paired R (xs ++ xs') (ys ++ ys')
  | _, _, _, _, .nil, h => h
  | _, _, _, _, .cons r rs, h => .cons r (paired_app rs h)
theorem paired_fwd {α β : Type} {R : α → β → Prop} : ∀ {xs : List α} {ys : List β} {i : Nat} {x : α}, Paired R xs ys → xs[i]? = some x → ∃ y, ys[i]? = some y ∧ R x y
  | _, _, _, _, .nil, h => by cases h
  | _, _, 0, _, .cons r _, h => by
    cases h
    exact ⟨_, rfl, r⟩
  | _, _, i + 1, v, .cons _ rs, h => paired_fwd (i := i) rs h
def mkK : List Sy → List Addr → List (Key × V)
  | t :: ts, a :: as => (Sum.inr t.text, V.ref a) :: mkK ts as
  | _, _ => []
theorem mkK_snd {R : Sy → Addr → Prop} : ∀ {ts : List Sy} {as : List Addr}, Paired R ts as → (mkK ts as).map (·.2) = as.map V.ref
  | _, _, .nil => rfl
  | _, _, .cons _ rs => by
    show _ :: _ = _ :: _
    rw [mkK_snd rs]
theorem mkK_len {R : Sy → Addr → Prop} : ∀ {ts : List Sy} {as : List Addr}, Paired R ts as → (mkK ts as).length = ts.length
  | _, _, .nil => rfl
  | _, _, .cons _ rs => by
    show _ + 1 = _ + 1
    rw [mkK_len rs]
theorem mkK_val {R : Sy → Addr → Prop} (x : Str) : ∀ {ts : List Sy} {as : List Addr}, Paired R ts as → ((valV (mkK ts as) (Sum.inr x)).isSome = ts.any fun v => decide (v.text = x))
  | _, _, .nil => rfl
  | _, _, .cons (a := t) (b := a) (l₁ := ts) (l₂ := as) _ rs => by
    show (valV ((Sum.inr t.text, V.ref a) :: mkK ts as) (Sum.inr x)).isSome = (decide (t.text = x) || ts.any fun v => decide (v.text = x))
    by_cases c : t.text = x
    · rw [valV_pos (by rw [c]), decide_eq_true c]
      rfl
    · rw [valV_neg (fun z => c (by injection z)), decide_eq_false c, Bool.false_or]
      exact mkK_val x rs
theorem mkK_snoc {R : Sy → Addr → Prop} {u : Sy} {b : Addr} : ∀ {ts : List Sy} {as : List Addr}, Paired R ts as → mkK (ts ++ [u]) (as ++ [b]) = mkK ts as ++ [(Sum.inr u.text, V.ref b)]
  | _, _, .nil => rfl
  | _, _, .cons _ rs => congrArg (_ :: ·) (mkK_snoc rs)
structure PartsP (K : PySem.W.Frag) (C : Addr) (t : Sy) (H : Hp) (Q : VK) : Prop where
  fin : ∀ l H' (as : List Addr), Same H H' → H l = none → H' l = some (.lst (as.map V.ref)) → Paired (SayAt K C H') (uniq (post t)) as → Q (.ref l) H'
def spParts (K : PySem.W.Frag) (C : Addr) : Sp := fun vs H Q _ => ∃ (a : Addr) (t : Sy), vs = [.ref a] ∧ SayAt K C H t a ∧ t.size ≤ 1000 ∧ PartsP K C t H Q
section
variable {P : Program} {w : World} {K : PySem.W.Frag} {mg : Str → Option Value} {base : Heap} {C : Addr}
theorem scParts : FnScope ["self", "waiting", "backwards", "node", "found"] ["self"] (defScope mSayingParts) := ⟨rfl, rfl, rfl, by decide +kernel, rfl, by decide +kernel, by decide +kernel⟩
theorem ok_parts (T : SayTxt K w mg C) (B : Blt mg) : ∃ f fd, Meth K C "parts" f ∧ FnOk P w K mg base CX0 4 f fd ["self"] (spParts K C) ∧ Binds K fd ["self"] [] := by
  obtain ⟨f, fd, M, F⟩ := T.parts.ex
  obtain ⟨fs, s1, s2, FS⟩ := ok_str (P := P) (base := base) T B
  refine ⟨f, fd, M, F.ok scParts (fun vs H Q E h => ?_) (fun cdv A outer s H vs Q E hr h => ⟨_, PSs.nox (pss_cons
      (ps_set (i := 1) scParts.nd rfl (Or.inl rfl) (pe_lst (pa_cons (pv 0) pa_nil)))
      (pss_cons (ps_set (i := 2) scParts.nd rfl (Or.inl rfl) (pe_lst pa_nil))
      (pss_cons (ps_while PassesOwn.never (pt_truth (pv 1) (by intro _; rfl))
        (pss_cons (ps_set (i := 3) scParts.nd rfl (Or.inl rfl) (pe_bm0 PySem.F.plainAttrs_list PySem.F.slot_list_pop PySem.F.type_list_pop mt_pop (pv 1)))
        (pss_cons (ps_expr (pe_bm PySem.F.plainAttrs_list PySem.F.slot_list_append PySem.F.type_list_append mt_append (pv 2) (pa_cons (pv 3) pa_nil)))
        (pss_one (ps_expr (pe_bm PySem.F.plainAttrs_list PySem.F.slot_list_extend PySem.F.type_list_extend mt_extT (pv 1) (pa_cons (pe_fld (pv 3) rfl) pa_nil)))))))
      (pss_cons (ps_set (i := 4) scParts.nd rfl (Or.inl rfl) pe_dnewK)
      (pss_cons (ps_for PassesOwn.never rfl (pi_reversed (by rfl) B.rev (pa_cons (pv 2) pa_nil)) (pg_name (i := 3) scParts.nd rfl (Or.inl rfl))
        (pss_one (ps_expr (pe_dsetd (pv 4) (pe_callTy (call_strOwn s1 s2 FS hr pass0) (by rfl) B.str (by decide +kernel) (pa_cons (pv 3) pa_nil)) (pv 3) ⟨rfl, rfl, rfl, rfl⟩))))
      (pss_one (ps_ret (pe_listVals rfl (pv 4) (by rfl) B.list (by decide +kernel))))))))), ?_⟩), F.bindsN fun _ _ _ _ _ _ us hl => match us, hl with | [_], _ => rfl⟩
  · obtain ⟨a, t, rfl, _⟩ := h
    rfl
  · obtain ⟨a, t, rfl, ht, sz, q⟩ := h
    have n0 : (post t).length ≤ 1000 := by rw [post_len]; exact sz
    refine ⟨_, rfl, (by show 1 ≤ sizeLine; decide), fun wl nw => ?_⟩
    obtain ⟨H1, e1, S1, f1⟩ : ∃ H1, upd H wl (.lst [.ref a]) = H1 ∧ Same H H1 ∧ H1 wl = some (.lst [.ref a]) := ⟨_, rfl, same_new nw (Same.refl _), upd_same⟩
    rw [e1]
    refine gn (σ' := [some (.ref a), some (.ref wl), none, none, none]) rfl ?_
    refine ⟨(by show 0 ≤ sizeLine; decide), fun bl nb => ?_⟩
    obtain ⟨H2, e2, S2, f2⟩ : ∃ H2, upd H1 bl (.lst []) = H2 ∧ Same H1 H2 ∧ H2 bl = some (.lst []) := ⟨_, rfl, same_new nb (Same.refl _), upd_same⟩
    rw [e2]
    refine gn (σ' := [some (.ref a), some (.ref wl), some (.ref bl), none, none]) rfl ?_
    have nbH : H bl = none := S1.free nb
    have wb : wl ≠ bl := ne_of_none f1 nb
    dsimp only
    unfold tSeq
    refine while_by (fun σ H' => ∃ (v3 : Option V) (W Bk : List Addr) (ws bks : List Sy), σ = [some (.ref a), some (.ref wl), some (.ref bl), v3, none] ∧ Same H H' ∧ H' wl = some (.lst (W.map V.ref)) ∧ H' bl = some (.lst (Bk.map V.ref)) ∧
      Paired (SayAt K C H) ws W ∧ Paired (SayAt K C H) bks Bk ∧ ws.flatMap post ++ bks.reverse = post t)
      (fun _ H' => match H' bl with | some (.lst xs) => (post t).length - xs.length | _ => 0)
      ⟨none, [a], [], [t], [], rfl, S1.trans S2, S2 _ _ f1, f2, .cons ht .nil, .nil, by simp⟩ ?_ ?_
    · rintro σ G ⟨v3, W, Bk, ws, bks, rfl, sG, hw, hb, pw, pb, hinv⟩
      refine ⟨_, rfl, _, .inl ⟨_, SqL.of hw, rfl⟩, ?_⟩
      cases hW : W with
      | nil =>
        rw [hW] at pw hw
        cases pw
        refine iteF ?_
        have hbp : bks.reverse = post t := by simpa using hinv
        refine fun dd nd => ?_
        have ndH : H dd = none := sG.free nd
        obtain ⟨G1, g1, SG1, k1⟩ : ∃ G1, upd G dd (.dK []) = G1 ∧ Same G G1 ∧ G1 dd = some (.dK []) := ⟨_, rfl, same_new nd (Same.refl _), upd_same⟩
        rw [g1]
        refine gn (σ' := [some (.ref a), some (.ref wl), some (.ref bl), v3, some (.ref dd)]) rfl ?_
        have hb1 := SG1 _ _ hb
        have db : bl ≠ dd := ne_of_none hb nd
        have hlb : bks.length = Bk.length := Paired.length pb
        have lenN : Bk.length = (post t).length := by rw [← hbp, List.length_reverse, hlb]
        refine ⟨_, rfl, bl, _, rfl, SqL.of hb1, ?_⟩
        refine for_it (walk_rev (K := K) (a := bl) (xs := Bk.map V.ref)) (fun i σ H' => ∃ (v : Option V) (as : List Addr), σ = [some (.ref a), some (.ref wl), some (.ref bl), v, some (.ref dd)] ∧ Same H H' ∧ H' bl = some (.lst (Bk.map V.ref)) ∧
          Paired (SayAt K C H) (((post t).take i).foldl addU []) as ∧ H' dd = some (.dK (mkK (((post t).take i).foldl addU []) as))) ⟨v3, [], rfl, sG.trans SG1, hb1, .nil, k1⟩ (fun i σ H' _ h => ?_) ?_ ?_
        · obtain ⟨_, _, _, _, hb', _⟩ := h
          exact SqL.of hb'
        · rintro i x σ Ga Gb hi ⟨v, as, rfl, sa, ba, pa, da⟩ ⟨rfl, hx⟩
          rw [List.length_map] at hi hx
          rw [List.getElem?_map] at hx
          obtain ⟨m, hm, rfl⟩ := Option.map_eq_some_iff.mp hx
          have hib : i < bks.length := by omega
          obtain ⟨u, hu1⟩ : ∃ u, bks[bks.length - 1 - i]? = some u := by
            rw [List.getElem?_eq_getElem (by omega)]
            exact ⟨_, rfl⟩
          obtain ⟨m', hm', hu⟩ := paired_fwd pb hu1
          rw [hlb, hm] at hm'
          cases hm'
          have hpi : (post t)[i]? = some u := by rw [← hbp, List.getElem?_reverse hib]; exact hu1
          refine gn (σ' := [some (.ref a), some (.ref wl), some (.ref bl), some (.ref m), some (.ref dd)]) rfl ?_
          obtain ⟨dxu, pu, qu, eu, _⟩ := (hu.on sa).face.ex
          have fl := fold_addU_len ((post t).take i) []
          have tl : ((post t).take i).length ≤ (post t).length := by rw [List.length_take]; omega
          have el := mkK_len pa
          have vv := mkK_val u.text pa
          refine ⟨_, rfl, dd, rfl, .inl ⟨_, .inl da⟩, _, rfl, m, dxu, _, rfl, eu, m, u, rfl, (hu.on sa).face, _, rfl, _, rfl, _, .inr u.text, da, rfl, ?_, fun v hv => ?_, fun hv => ?_⟩
          · rw [el, sizeLine_eq]
            have : ([] : List Sy).length = 0 := rfl
            omega
          · rw [hv] at vv
            have ea : addU (((post t).take i).foldl addU []) u = ((post t).take i).foldl addU [] := addU_old vv.symm
            refine ⟨_, as, rfl, sa, ba, ?_, ?_⟩
            · rw [take_next hpi, List.foldl_append, List.foldl_cons, List.foldl_nil, ea]
              exact pa
            · rw [take_next hpi, List.foldl_append, List.foldl_cons, List.foldl_nil, ea]
              exact da
          · rw [hv] at vv
            have ea : addU (((post t).take i).foldl addU []) u = ((post t).take i).foldl addU [] ++ [u] := addU_new vv.symm
            refine ⟨_, as ++ [m], rfl, same_new ndH sa, (upd_ne db).trans ba, ?_, ?_⟩
            · rw [take_next hpi, List.foldl_append, List.foldl_cons, List.foldl_nil, ea]
              exact paired_app pa (.cons hu .nil)
            · rw [take_next hpi, List.foldl_append, List.foldl_cons, List.foldl_nil, ea, upd_same, putK_new _ hv, mkK_snoc pa]
        · rintro σ Ga ⟨v, as, rfl, sa, ba, pa, da⟩
          rw [List.length_map, lenN, List.take_length] at pa da
          refine ⟨_, rfl, dd, _, rfl, da, fun l nl => ?_⟩
          rw [mkK_snd pa]
          have sl := same_new (o := .lst (as.map V.ref)) nl (Same.refl Ga)
          exact q.fin l _ as (sa.trans sl) (sa.free nl) upd_same (paired_on (sa.trans sl) pa)
      | cons n1 r1 =>
        rw [← hW]
        obtain ⟨ws0, u, W0, n, rfl, eW, pw0, hu⟩ := paired_snoc pw (by rw [hW]; simp)
        subst eW
        have pos : (!(List.map V.ref (W0 ++ [n])).isEmpty) = true := by simp
        rw [pos]
        refine iteT ?_
        have hlen : (ws0 ++ [u]).length = (W0 ++ [n]).length := Paired.length pw
        have hlb : bks.length = Bk.length := Paired.length pb
        have htot := congrArg List.length hinv
        rw [List.length_append, List.length_reverse, List.flatMap_append, List.length_append, List.flatMap_cons, List.flatMap_nil, List.append_nil, post_len] at htot
        have upos := u.size_pos
        obtain ⟨dxu, pu, qu, eu, _, bs, hpu, hbs⟩ := hu.face.ex
        refine ⟨_, rfl, .inl ⟨rfl, _, SqL.of hw⟩, wl, _, .ref n, rfl, rfl, hw, ?_, ?_⟩
        · simp
        have ed : ((W0 ++ [n]).map V.ref).dropLast = W0.map V.ref := by simp
        rw [ed]
        obtain ⟨G1, g1, SG1, k1⟩ : ∃ G1, upd G wl (.lst (W0.map V.ref)) = G1 ∧ Same H G1 ∧ G1 wl = some (.lst (W0.map V.ref)) := ⟨_, rfl, same_new nw sG, upd_same⟩
        have kb1 : G1 bl = some (.lst (Bk.map V.ref)) := by rw [← g1, upd_ne wb.symm]; exact hb
        rw [g1]
        refine gn (σ' := [some (.ref a), some (.ref wl), some (.ref bl), some (.ref n), none]) rfl ?_
        refine ⟨_, rfl, .inl ⟨rfl, _, SqL.of kb1⟩, _, rfl, bl, _, _, rfl, rfl, kb1, ?_, ?_⟩
        · rw [List.length_map, sizeLine_eq]
          omega
        obtain ⟨G2, g2, SG2, k2⟩ : ∃ G2, upd G1 bl (.lst (Bk.map V.ref ++ [.ref n])) = G2 ∧ Same H G2 ∧ G2 bl = some (.lst (Bk.map V.ref ++ [.ref n])) := ⟨_, rfl, same_new nbH SG1, upd_same⟩
        have kw2 : G2 wl = some (.lst (W0.map V.ref)) := by rw [← g2, upd_ne wb]; exact k1
        rw [g2]
        refine ⟨_, rfl, .inl ⟨rfl, _, SqL.of kw2⟩, _, rfl, n, C, dxu, _, _, rfl, SG2 _ _ eu, T.cl, T.nP, rfl, wl, pu, _, _, rfl, rfl, kw2, tup_on hpu SG2, ?_, ?_⟩
        · have h1 : bs.length = u.subs.length := (Paired.length hbs).symm
          have h2 := subs_len u
          have h3 : ws0.length = W0.length := Paired.length pw0
          have h4 : ws0.length ≤ (ws0.flatMap post).length := by
            clear htot hinv pw hlen pw0 h3
            induction ws0 with
            | nil => exact Nat.zero_le _
            | cons x r ih =>
              have := x.size_pos
              have e := post_len x
              rw [List.flatMap_cons, List.length_append, List.length_cons]
              omega
          rw [List.length_map, List.length_map, sizeLine_eq]
          omega
        have wbk : upd G2 wl (.lst (W0.map V.ref ++ bs.map V.ref)) bl = some (.lst (Bk.map V.ref ++ [.ref n])) := by rw [upd_ne wb.symm]; exact k2
        refine ⟨⟨_, W0 ++ bs, Bk ++ [n], ws0 ++ u.subs, bks ++ [u], rfl, same_new nw SG2, ?_, ?_, paired_app pw0 hbs, paired_app pb (.cons hu .nil), ?_⟩, ?_⟩
        · rw [upd_same, List.map_append]
        · rw [wbk, List.map_append]
          rfl
        · rw [← hinv, List.flatMap_append, List.flatMap_append, List.flatMap_cons, List.flatMap_nil, List.append_nil, post_subs u, List.reverse_append]
          simp
        · show (match upd G2 wl (.lst (W0.map V.ref ++ bs.map V.ref)) bl with | some (.lst xs) => (post t).length - xs.length | _ => 0) < (match G bl with | some (.lst xs) => (post t).length - xs.length | _ => 0)
          rw [wbk, hb]
          show (post t).length - (Bk.map V.ref ++ [V.ref n]).length < (post t).length - (Bk.map V.ref).length
          rw [List.length_append, List.length_map]
          simp only [List.length_cons, List.length_nil]
          omega
    · rintro σ G Q1 Q2 m ⟨v, e, k, tr, x⟩
      exact ⟨v, e, k, tr, m _ _ x⟩
end
end G1
set_option maxHeartbeats 8000000
namespace G1
open PySem PySem.Spec PyProof.Rows L2 SY TXS OW
/-! ### the law's own steps -/
def Bk.ix : Bk → Int
  | .both => 1 | .thn => 2 | .lower => 3 | .higher => 4 | .same => 5
/-- what _law_made is asked -/
inductive MadeP (K : PySem.W.Frag) (C CL CS CN : Addr) (H : Hp) (Q : VK) (E : XK) : Int → V → V → Prop where
  | name {m o : V} (h : NamedP K C CL CN o H Q E) : MadeP K C CL CS CN H Q E 0 m o
  | join {k : Bk} {a : Addr} {o : V} (h : JoinP K C CL CS k a o H Q E) : MadeP K C CL CS CN H Q E (Bk.ix k) (.ref a) o
  | and_ {a b : Addr} (h : BinP K C CL .both a b H Q E) : MadeP K C CL CS CN H Q E 6 (.ref a) (.ref b)
  | rsh {a b : Addr} (h : BinP K C CL .thn a b H Q E) : MadeP K C CL CS CN H Q E 7 (.ref a) (.ref b)
  | inv {a : Addr} {t : Sy} {o : V} (h : SayAt K C H t a) (ok : t.ok) (n : New K C CL (.den t) H Q E) : MadeP K C CL CS CN H Q E 8 (.ref a) o
def spMade (K : PySem.W.Frag) (C CL CS CN : Addr) : Sp := fun vs H Q E => ∃ (i : Int) (m o : V), vs = [.int i, m, o] ∧ MadeP K C CL CS CN H Q E i m o
section
variable {P : Program} {w : World} {K : PySem.W.Frag} {mg : Str → Option Value} {base : Heap} {C CL CS CN fL fS fN : Addr}
theorem scMade : FnScope ["kind", "made", "odd"] ["kind", "made", "odd"] (defScope sMade) := ⟨rfl, rfl, rfl, by decide +kernel, rfl, by decide +kernel, by decide +kernel⟩
theorem cl_made (D : DefAt K mg "_law_made" sMade) (T : SayTxt K w mg C) (B : Blt mg) (M : Maker P w K mg base C CL) (cNm : Cl (L2.CX P w) P w K mg base 6 "named" ["name"] (spNamed K C CL CN))
    (cJ : Cl (L2.CX P w) P w K mg base 6 "_joined" ["kind", "first", "second"] (spJoined K C CL CS)) : Cl (L2.CX P w) P w K mg base 9 "_law_made" ["kind", "made", "odd"] (spMade K C CL CS CN) := by
  obtain ⟨f, fd, F, hm⟩ := D
  obtain ⟨f1, g1, M1, F1, b1⟩ := ok_both T cJ
  obtain ⟨f2, g2, M2, F2, b2⟩ := ok_thn T cJ
  obtain ⟨f3, g3, M3, F3, b3⟩ := ok_lower T cJ
  obtain ⟨f4, g4, M4, F4, b4⟩ := ok_higher T cJ
  obtain ⟨f5, g5, M5, F5, b5⟩ := ok_same T cJ
  obtain ⟨f6, M6, F6⟩ := ok_and_ T B cJ
  obtain ⟨f7, M7, F7⟩ := ok_rsh T B cJ
  obtain ⟨f8, M8, F8⟩ := ok_inv T M
  refine cl_of F hm (F.ok scMade (fun vs H Q E h => ?_) (fun cdv A outer s H vs Q E hr h => ⟨_, pss_cons
      (ps_if (pt_cmpR op_eq (pv 0) pe_int (nomark _)) (pss_one (ps_ret (pe_cS cNm hr (by decide) (takes_of rfl rfl rfl rfl) (by rfl) (pa_cons (pv 2) pa_nil)))) pss_nil)
      (pss_cons (ps_if (pt_cmpR op_eq (pv 0) pe_int (nomark _)) (pss_one (ps_ret (pe_meth (E := E) (pv 1) T.cl M1 F1 (hr.mono (by decide)) b1 .nil (passes_call (takes_of rfl rfl rfl rfl) fun _ _ _ _ h => h) (pa_cons (pv 2) pa_nil)))) pss_nil)
      (pss_cons (ps_if (pt_cmpR op_eq (pv 0) pe_int (nomark _)) (pss_one (ps_ret (pe_meth (E := E) (pv 1) T.cl M2 F2 (hr.mono (by decide)) b2 .nil (passes_call (takes_of rfl rfl rfl rfl) fun _ _ _ _ h => h) (pa_cons (pv 2) pa_nil)))) pss_nil)
      (pss_cons (ps_if (pt_cmpR op_eq (pv 0) pe_int (nomark _)) (pss_one (ps_ret (pe_meth (E := E) (pv 1) T.cl M3 F3 (hr.mono (by decide)) b3 .nil (passes_call (takes_of rfl rfl rfl rfl) fun _ _ _ _ h => h) (pa_cons (pv 2) pa_nil)))) pss_nil)
      (pss_cons (ps_if (pt_cmpR op_eq (pv 0) pe_int (nomark _)) (pss_one (ps_ret (pe_meth (E := E) (pv 1) T.cl M4 F4 (hr.mono (by decide)) b4 .nil (passes_call (takes_of rfl rfl rfl rfl) fun _ _ _ _ h => h) (pa_cons (pv 2) pa_nil)))) pss_nil)
      (pss_cons (ps_if (pt_cmpR op_eq (pv 0) pe_int (nomark _)) (pss_one (ps_ret (pe_meth (E := E) (pv 1) T.cl M5 F5 (hr.mono (by decide)) b5 .nil (passes_call (takes_of rfl rfl rfl rfl) fun _ _ _ _ h => h) (pa_cons (pv 2) pa_nil)))) pss_nil)
      (pss_cons (ps_if (pt_cmpR op_eq (pv 0) pe_int (nomark _)) (pss_one (ps_ret (pe_op (op_binO (E := E) T.ow.sf M6.at_ M6.fn F6 (hr.mono (by decide)) (passes_call (takes_of rfl rfl rfl rfl) fun _ _ _ _ h => h)) (pv 1) (pv 2)))) pss_nil)
      (pss_one (ps_ret (pe_ifExp (pt_cmpR op_eq (pv 0) pe_int (nomark _)) (pe_op (op_binO (E := E) T.ow.sf M7.at_ M7.fn F7 (hr.mono (by decide)) (passes_call (takes_of rfl rfl rfl rfl) fun _ _ _ _ h => h)) (pv 1) (pv 2))
        (pe_un (un_invO (E := E) M8.at_ M8.fn F8 (hr.mono (by decide)) (passes_call (takes_of rfl rfl rfl rfl) fun _ _ _ _ h => h)) (pv 1))))))))))), ?_⟩)) fun _ _ _ _ _ _ us hl => match us, hl with | [_, _, _], _ => rfl
  · obtain ⟨i, m, o, rfl, _⟩ := h
    rfl
  · obtain ⟨i, m, o, rfl, h⟩ := h
    cases h with
    | name h => exact ⟨_, rfl, rfl, _, rfl, iteT ⟨_, rfl, o, rfl, h⟩⟩
    | @join k a o h =>
      obtain ⟨t, ht, ok, j⟩ := id h.ex
      obtain ⟨dx, p, q1, e1, _⟩ := ht.face.ex
      cases k with
      | both => exact ⟨_, rfl, rfl, _, rfl, iteF ⟨_, rfl, rfl, _, rfl, iteT ⟨_, rfl, a, dx, _, rfl, e1, rfl, _, rfl, a, o, rfl, h⟩⟩⟩
      | thn => exact ⟨_, rfl, rfl, _, rfl, iteF ⟨_, rfl, rfl, _, rfl, iteF ⟨_, rfl, rfl, _, rfl, iteT ⟨_, rfl, a, dx, _, rfl, e1, rfl, _, rfl, a, o, rfl, h⟩⟩⟩⟩
      | lower => exact ⟨_, rfl, rfl, _, rfl, iteF ⟨_, rfl, rfl, _, rfl, iteF ⟨_, rfl, rfl, _, rfl, iteF ⟨_, rfl, rfl, _, rfl, iteT ⟨_, rfl, a, dx, _, rfl, e1, rfl, _, rfl, a, o, rfl, h⟩⟩⟩⟩⟩
      | higher => exact ⟨_, rfl, rfl, _, rfl, iteF ⟨_, rfl, rfl, _, rfl, iteF ⟨_, rfl, rfl, _, rfl, iteF ⟨_, rfl, rfl, _, rfl, iteF ⟨_, rfl, rfl, _, rfl, iteT ⟨_, rfl, a, dx, _, rfl, e1, rfl, _, rfl, a, o, rfl, h⟩⟩⟩⟩⟩⟩
      | same => exact ⟨_, rfl, rfl, _, rfl, iteF ⟨_, rfl, rfl, _, rfl, iteF ⟨_, rfl, rfl, _, rfl, iteF ⟨_, rfl, rfl, _, rfl, iteF ⟨_, rfl, rfl, _, rfl, iteF ⟨_, rfl, rfl, _, rfl, iteT ⟨_, rfl, a, dx, _, rfl, e1, rfl, _, rfl, a, o, rfl, h⟩⟩⟩⟩⟩⟩⟩
    | @and_ a b h =>
      obtain ⟨t, u, ht, okt, hu, oku, n⟩ := id h.ex
      obtain ⟨dx, p, q1, e1, _⟩ := ht.face.ex
      obtain ⟨dy, p', q2, e2, _⟩ := hu.face.ex
      exact ⟨_, rfl, rfl, _, rfl, iteF ⟨_, rfl, rfl, _, rfl, iteF ⟨_, rfl, rfl, _, rfl, iteF ⟨_, rfl, rfl, _, rfl, iteF ⟨_, rfl, rfl, _, rfl, iteF ⟨_, rfl, rfl, _, rfl, iteF ⟨_, rfl, rfl, _, rfl, iteT ⟨_, rfl, _, rfl, a, dx, _, b, dy, _, rfl, rfl, e1, e2, a, b, rfl, h⟩⟩⟩⟩⟩⟩⟩⟩
    | @rsh a b h =>
      obtain ⟨t, u, ht, okt, hu, oku, n⟩ := id h.ex
      obtain ⟨dx, p, q1, e1, _⟩ := ht.face.ex
      obtain ⟨dy, p', q2, e2, _⟩ := hu.face.ex
      exact ⟨_, rfl, rfl, _, rfl, iteF ⟨_, rfl, rfl, _, rfl, iteF ⟨_, rfl, rfl, _, rfl, iteF ⟨_, rfl, rfl, _, rfl, iteF ⟨_, rfl, rfl, _, rfl, iteF ⟨_, rfl, rfl, _, rfl, iteF ⟨_, rfl, rfl, _, rfl, iteF ⟨_, rfl, rfl, _, rfl, iteT ⟨_, rfl, _, rfl, a, dx, _, b, dy, _, rfl, rfl, e1, e2, a, b, rfl, h⟩⟩⟩⟩⟩⟩⟩⟩⟩
    | @inv a t o h ok n =>
      obtain ⟨dx, p, q1, e1, _⟩ := h.face.ex
      exact ⟨_, rfl, rfl, _, rfl, iteF ⟨_, rfl, rfl, _, rfl, iteF ⟨_, rfl, rfl, _, rfl, iteF ⟨_, rfl, rfl, _, rfl, iteF ⟨_, rfl, rfl, _, rfl, iteF ⟨_, rfl, rfl, _, rfl, iteF ⟨_, rfl, rfl, _, rfl, iteF ⟨_, rfl, rfl, _, rfl, iteF ⟨_, rfl, a, dx, _, rfl, e1, a, t, rfl, h, ok, n⟩⟩⟩⟩⟩⟩⟩⟩⟩
end
end G1
set_option maxHeartbeats 4000000
/-! try with several clauses of the form except X as e; those behind them are never asked -/
namespace OW
open PySem PySem.Spec PyProof.Rows L2
def endsWo (D : Ends) (i : Nat) : Ends := { nx := fun z G => D.nx (z.set i none) G, rt := D.rt, bk := fun z G => D.bk (z.set i none) G, ct := fun z G => D.ct (z.set i none) G }
/-- one clause: its class, the slot of its name, its suite -/
structure Cz where
  c : Value
  i : Nat
  ts : Addr → Value → Option Addr → TS
def wNmd (K : PySem.W.Frag) (D : Ends) : List Cz → WX
  | [] => fun _ _ _ _ => False
  | z :: r => fun cls d σ H => ∃ b, PySem.W.exmOne K cls z.c = some b ∧ (b = true → ∀ a, H a = none → z.ts a cls d (endsWo D z.i) (σ.set z.i (some (.ref a))) H) ∧ (b = false → wNmd K D r cls d σ H)
inductive CzOk (X : Cx) (more : List ExceptHandler) : List ExceptHandler → List Cz → Prop
  | nil : CzOk X more more []
  | cons {x n : Str} {z : Cz} {st0 : Stmt} {suite : List Stmt} {np hp : Pos} {hds : List ExceptHandler} {l : List Cz} (nms : Names X x z.c) (atI : X.N[z.i]? = some n) (loc : X.env.kindOf n = some .local)
      (hSuite : ∀ (a : Addr) (oe : Obj) (cls : Value) (d : Option Addr) (xs : List (Addr × Obj)), Zc cls d oe → (∃ vs, oe.data = .fields vs) → PSs (X.suite a ((a, oe) :: xs)) (st0 :: suite) (z.ts a cls d)) (r : CzOk X more hds l) :
      CzOk X more (.ExceptHandler (some (.Name x np)) (some n) (st0 :: suite) hp :: hds) (z :: l)
section
variable {X : Cx} {body : List Stmt} {h₀ : ExceptHandler} {hds more : List ExceptHandler} {l : List Cz} {pos : Pos} {tb : WX → TS}
theorem ps_try_nmd (stk : X.stack = X.env :: X.outer) (frm : X.env.frame = some X.env.locals) (nod : X.N.Nodup)
    (hBody : ∀ (W : WX) (xs : List (Addr × Obj)) (xe : Value → Shared → Prop), Takes (X.tr xs xe) W → PassesOwn (model X.prog X.w) X.A X.env xe → PSs (X.tr xs xe) body (tb W))
    (hh : CzOk X more (h₀ :: hds) l) : PS X (.Try body (h₀ :: hds) [] [] pos) (fun D σ H => tb (wNmd X.K D l) D σ H) := by
  constructor
  intro pins s σ H D I h
  have okX := I.ok
  have frs' : X.A.frames = some (X.env :: X.outer) := okX.frames.trans (congrArg some stk)
  apply wpAny_Try_except
  refine wpAny_mono ((hBody (wNmd X.K D l) (X.pn ++ pins) (fun e t1 => wpAny (model X.prog X.w) X.A (noteFrame e X.env) (fun _ t2 => wpAny (model X.prog X.w) X.A (setFlight e none) (fun _ t3 =>
    wpAny (model X.prog X.w) X.A (handleBy e X.env (h₀ :: hds)) (SP X pins D) X.xe t3) X.xe t2) X.xe t1) ?_ PassesOwn.looking).run [] s σ H D (I.toTry _) h) ?_ (fun _ _ z => z)
  · rintro u s' ⟨a, B, sI, pins', σ', H', cls, d, rfl, J', nb, up, sky, na, os, ag, w⟩
    have J : Inv X pins σ' H' sI := J'.ofTry okX
    rw [stk] at sky
    refine Sky.land Zc.steady frs' frm sky fun h3 fl3 up3 => ?_
    have J3 : Inv X pins σ' H' ({ s' with heap := h3 } : Shared) := J.landed nb fl3.1 (up.trans up3) os ag
    obtain ⟨o3, v3, g3, z3, d3⟩ := fl3.there
    have out : ∀ {k : Heap} {o : Obj} {vs : Array Value}, k.FunFrames B (X.env :: X.outer) → k.get? a = some o → o.data = .fields vs → a ∉ frs (X.env :: X.outer) := by
      intro k o vs ff e dd hm
      obtain ⟨_, o', e', hn⟩ := ff.mem hm
      rw [e] at e'
      cases e'
      exact hn _ dd
    have out3 := out fl3.2.2.1 g3 d3
    have nL : a ≠ X.env.locals := by
      intro z
      exact out3 (List.mem_filterMap.mpr ⟨X.env, List.mem_cons_self, by rw [frm, z]⟩)
    have nF : a ∉ X.fs := by
      intro hm
      have ⟨e, there, at_⟩ := List.mem_filterMap.mp hm
      exact out3 (List.mem_filterMap.mpr ⟨e, List.mem_cons_of_mem _ there, at_⟩)
    have S3 := J3.suite g3 d3 na nL nF
    have go : ∀ {hs' : List ExceptHandler} {l' : List Cz}, CzOk X more hs' l' → wNmd X.K D l' cls d σ' H' → wpAny (model X.prog X.w) X.A (handleBy (.ref a) X.env hs') (SP X pins D) X.xe { s' with heap := h3 } := by
      intro hs' l' hk
      induction hk with
      | nil =>
        intro w
        exact w.elim
      | @cons x n z st0 suite np hp hds2 l2 nms atI loc hSuite r ih =>
        intro w
        obtain ⟨b, te, hyes, hno⟩ := w
        refine wpAny_handleBy_cons (codeAny_handlers_test ?_) (fun q => by cases q)
        have LT : PySem.W.Looks (model X.prog X.w) h3 (typeOf (.ref a)) cls := fun _ _ _ _ k q => wpAny_typeOf_ref (k _ _ g3) (z3.1.symm ▸ q)
        have LM := PySem.W.exm_one (M := model X.prog X.w) J3.kIn LT te
        have tst : ∀ {Q E : Value → Shared → Prop}, Q z.c { s' with heap := h3 } → wpAny (model X.prog X.w) (X.A.mark (some (.ref a))) (eval (.Name x np) X.env) Q E { s' with heap := h3 } := by
          intro Q E q
          obtain ⟨hg, hdb, hm | ⟨hm, hv, hnn⟩⟩ := nms
          · exact ld_glob (X := X.suite a ((a, o3) :: (X.pn ++ pins))) S3 hg hm q hdb
          · exact ld_blt (X := X.suite a ((a, o3) :: (X.pn ++ pins))) S3 hg hm hv q hnn hdb
        refine tst (LM.here ?_)
        cases b with
        | false =>
          exact ih (hno rfl)
        | true =>
          refine codeAny_handlers_suite_as (HandSPX.lands_againZ fl3 fun h4 fl4 up4 => ?_)
          have J4 : Inv X pins σ' H' ({ s' with heap := h4 } : Shared) := J.landed nb fl4.1 ((up.trans up3).trans up4) os ag
          obtain ⟨o4, v4, g4, z4, d4⟩ := fl4.there
          have S4 := J4.suite g4 d4 na nL nF
          refine store_ok (X := X.suite a ((a, o4) :: (X.pn ++ pins))) (v := .ref a) S4 nod atI (.inl loc) rfl (fun s5 S5 => ?_) (.inr loc)
          refine wpAny_mono ((hSuite a o4 cls d (X.pn ++ pins) z4 ⟨_, d4⟩).run [] s5 _ H' _ S5 (hyes rfl a na)) ?_ (fun _ _ z => z.elim)
          intro f s6 hsp
          have fin : ∀ {y : L2.St} {G : Hp} {Q : Shared → Prop}, Inv (X.suite a ((a, o4) :: (X.pn ++ pins))) [] y G s6 → (∀ s7, Inv X pins (y.set z.i none) G s7 → Q s7) →
              wpAny (model X.prog X.w) X.A (do bindName X.env n .none; unbindBehindTheSuite X.env n hp) (fun _ s7 => Q s7) X.xe s6 := fun S6 hq => gone_ok (S6.unsuite okX) nod atI loc hq
          cases f with
          | next =>
            obtain ⟨y, G, S6, q6⟩ := hsp
            exact fin S6 fun _ J7 => ⟨_, _, J7, q6⟩
          | brk =>
            obtain ⟨y, G, S6, q6⟩ := hsp
            exact fin S6 fun _ J7 => ⟨_, _, J7, q6⟩
          | cont =>
            obtain ⟨y, G, S6, q6⟩ := hsp
            exact fin S6 fun _ J7 => ⟨_, _, J7, q6⟩
          | ret u =>
            obtain ⟨v, y, G, S6, r6, q6⟩ := hsp
            exact fin S6 fun _ J7 => ⟨_, _, _, J7, r6, q6⟩
    exact go hh w
  · intro f s1 hsp
    cases f with
    | next =>
      obtain ⟨y, G, J', q⟩ := hsp
      exact wpAny_execs_nil ⟨y, G, J'.ofTry okX, q⟩
    | brk =>
      obtain ⟨y, G, J', q⟩ := hsp
      exact ⟨y, G, J'.ofTry okX, q⟩
    | cont =>
      obtain ⟨y, G, J', q⟩ := hsp
      exact ⟨y, G, J'.ofTry okX, q⟩
    | ret u =>
      obtain ⟨v, y, G, J', r, q⟩ := hsp
      exact ⟨v, y, G, J'.ofTry okX, r, q⟩
end
end OW
set_option maxHeartbeats 8000000
namespace G1
open PySem PySem.Spec PyProof.Rows L2 SY TXS OW
theorem New.imp {K : PySem.W.Frag} {C CL : Addr} {t : Sy} {H : Hp} {Q Q' : VK} {E E' : XK} (h : New K C CL t H Q E) (hq : ∀ v H', Q v H' → Q' v H') (he : ∀ c d H', E c d H' → E' c d H') : New K C CL t H Q' E' :=
  ⟨fun b => (h.big b).imp he, fun f c H' s n y => hq _ _ (h.fit f c H' s n y)⟩
theorem JoinP.imp {K : PySem.W.Frag} {C CL CS : Addr} {k : Bk} {a : Addr} {y : V} {H : Hp} {Q Q' : VK} {E E' : XK} (h : JoinP K C CL CS k a y H Q E) (hq : ∀ v H', Q v H' → Q' v H') (he : ∀ c d H', E c d H' → E' c d H') : JoinP K C CL CS k a y H Q' E' := by
  obtain ⟨t, ht, ok, h⟩ := h.ex
  refine ⟨t, ht, ok, ?_⟩
  rcases h with ⟨kn, r⟩ | ⟨b, u, e, hu, oku, n⟩
  · exact .inl ⟨kn, r.imp he⟩
  · exact .inr ⟨b, u, e, hu, oku, n.imp hq he⟩
theorem NamedP.imp {K : PySem.W.Frag} {C CL CN : Addr} {y : V} {H : Hp} {Q Q' : VK} {E E' : XK} (h : NamedP K C CL CN y H Q E) (hq : ∀ v H', Q v H' → Q' v H') (he : ∀ c d H', E c d H' → E' c d H') : NamedP K C CL CN y H Q' E' := by
  refine ⟨?_⟩
  rcases h.ex with ⟨c, e, ok, n⟩ | ⟨kn, nl, r⟩
  · exact .inl ⟨c, e, ok, n.imp hq he⟩
  · exact .inr ⟨kn, nl, r.imp he⟩
theorem BinP.imp {K : PySem.W.Frag} {C CL : Addr} {k : Bk} {a b : Addr} {H : Hp} {Q Q' : VK} {E E' : XK} (h : BinP K C CL k a b H Q E) (hq : ∀ v H', Q v H' → Q' v H') (he : ∀ c d H', E c d H' → E' c d H') : BinP K C CL k a b H Q' E' := by
  obtain ⟨t, u, ht, okt, hu, oku, n⟩ := h.ex
  exact ⟨t, u, ht, okt, hu, oku, n.imp hq he⟩
theorem MadeP.imp {K : PySem.W.Frag} {C CL CS CN : Addr} {H : Hp} {Q Q' : VK} {E E' : XK} {i : Int} {m o : V} (h : MadeP K C CL CS CN H Q E i m o) (hq : ∀ v H', Q v H' → Q' v H') (he : ∀ c d H', E c d H' → E' c d H') : MadeP K C CL CS CN H Q' E' i m o := by
  cases h with
  | name h => exact .name (h.imp hq he)
  | join h => exact .join (h.imp hq he)
  | and_ h => exact .and_ (h.imp hq he)
  | rsh h => exact .rsh (h.imp hq he)
  | inv h ok n => exact .inv h ok (n.imp hq he)
/-! ### _law_told -/
def okT (K : PySem.W.Frag) (C : Addr) (Q : VK) : VK := fun v H' => ∃ a t, v = .ref a ∧ Face K C H' t a ∧ Q (.int t.size) H'
/-- one of the errors, and what is made of it -/
def er1 (C : Addr) (x nm : Str) (Q : VK) : XK := fun cls d H' => cls = .ref C ∧ ∃ (dd : Addr) (v : V), d = some dd ∧ H' dd = some (.xd [(x, v)]) ∧ ∀ l, H' l = none → Q (.ref l) (upd H' l (.lst [.str nm, v]))
structure ErT (CL CS CN : Addr) (Q : VK) (cls : Value) (d : Option Addr) (H' : Hp) : Prop where
  ex : er1 CN "thing" "name" Q cls d H' ∨ er1 CS "thing" "saying" Q cls d H' ∨ er1 CL "size" "large" Q cls d H'
structure ToldP (K : PySem.W.Frag) (C CL CS CN : Addr) (i : Int) (m o : V) (H : Hp) (Q : VK) : Prop where
  ex : MadeP K C CL CS CN H (okT K C Q) (ErT CL CS CN Q) i m o
def spTold (K : PySem.W.Frag) (C CL CS CN : Addr) : Sp := fun vs H Q _ => ∃ (i : Int) (m o : V), vs = [.int i, m, o] ∧ ToldP K C CL CS CN i m o H Q
/-- the errors are none beneath another -/
structure Apart (K : PySem.W.Frag) (CL CS CN : Addr) : Prop where
  sn : PySem.W.exmOne K (.ref CS) (.ref CN) = some false
  ln : PySem.W.exmOne K (.ref CL) (.ref CN) = some false
  ls : PySem.W.exmOne K (.ref CL) (.ref CS) = some false
section
variable {P : Program} {w : World} {K : PySem.W.Frag} {mg : Str → Option Value} {base : Heap} {C CL CS CN fL fS fN : Addr}
theorem scTold : FnScope ["kind", "made", "odd", "found", "error"] ["kind", "made", "odd"] (defScope sTold) := ⟨rfl, rfl, rfl, by decide +kernel, rfl, by decide +kernel, by decide +kernel⟩
theorem cl_told (D : DefAt K mg "_law_told" sTold) (T : SayTxt K w mg C) (TL : ErrL K mg CL fL) (TS : ErrS K mg CS fS) (TN : ErrN K mg CN fN) (ap : Apart K CL CS CN)
    (cM : Cl (L2.CX P w) P w K mg base 9 "_law_made" ["kind", "made", "odd"] (spMade K C CL CS CN)) : Cl CX0 P w K mg base 10 "_law_told" ["kind", "made", "odd"] (spTold K C CL CS CN) := by
  obtain ⟨f, fd, F, hm⟩ := D
  refine cl_of F hm (F.ok scTold (fun vs H Q E h => ?_) (fun cdv A outer s H vs Q E hr h => ⟨_, PSs.nox (pss_cons
      (ps_set (i := 3) scTold.nd rfl (Or.inl rfl) pe_non)
      (pss_cons (ps_try_nmd (tb := fun W => tAsg (tFld K (tCallS (spMade K C CL CS CN) (WE W) (tCons (tVar 0) (tCons (tVar 1) (tCons (tVar 2) tNil)))) "size") (gName 3)) rfl rfl scTold.nd
          (fun W xs xe tk _ => pss_one (ps_set (i := 3) scTold.nd rfl (Or.inl rfl) (pe_fld (pe_cS cM hr (by decide) tk (by rfl) (pa_cons (pv 0) (pa_cons (pv 1) (pa_cons (pv 2) pa_nil)))) rfl)))
          (.cons (z := ⟨.ref CN, 4, _⟩) ⟨rfl, by decide, .inl TN.gC⟩ rfl rfl (fun a oe cls d xs hz hf => pss_one (ps_set (i := 3) scTold.nd rfl (Or.inl rfl) (pe_lst (pa_cons pe_str (pa_cons (pe_xf TN.xf TN.no hz hf (pv 4)) pa_nil)))))
          (.cons (z := ⟨.ref CS, 4, _⟩) ⟨rfl, by decide, .inl TS.gC⟩ rfl rfl (fun a oe cls d xs hz hf => pss_one (ps_set (i := 3) scTold.nd rfl (Or.inl rfl) (pe_lst (pa_cons pe_str (pa_cons (pe_xf TS.xf TS.no hz hf (pv 4)) pa_nil)))))
          (.cons (z := ⟨.ref CL, 4, _⟩) ⟨rfl, by decide, .inl TL.gC⟩ rfl rfl (fun a oe cls d xs hz hf => pss_one (ps_set (i := 3) scTold.nd rfl (Or.inl rfl) (pe_lst (pa_cons pe_str (pa_cons (pe_xf TL.xf TL.no hz hf (pv 4)) pa_nil)))))
          .nil))))
      (pss_one (ps_ret (pv 3))))), ?_⟩)) fun _ _ _ _ _ _ us hl => match us, hl with | [_, _, _], _ => rfl
  · obtain ⟨i, m, o, rfl, _⟩ := h
    rfl
  · obtain ⟨i, m, o, rfl, h⟩ := h
    have h0 := h.ex
    clear h
    refine ⟨_, rfl, _, rfl, _, rfl, ?_⟩
    dsimp only [tNil]
    refine ⟨i, m, o, rfl, h0.imp (fun v H' q => ?_) fun c d H' q => ?_⟩
    · obtain ⟨a, t, rfl, fc, q⟩ := q
      obtain ⟨dx, p, q1, e1, _⟩ := fc.ex
      exact ⟨a, C, dx, _, _, rfl, e1, T.cl, T.nS, rfl, _, rfl, q⟩
    · rcases q.ex with ⟨rfl, dd, v, rfl, hd, q⟩ | ⟨rfl, dd, v, rfl, hd, q⟩ | ⟨rfl, dd, v, rfl, hd, q⟩
      · exact ⟨true, TN.te, fun _ a ha => ⟨_, rfl, rfl, rfl, dd, _, v, rfl, hd, by simp [List.lookup], (by show 2 ≤ sizeLine; decide), fun l hl => ⟨_, rfl, q l hl⟩⟩, fun z => Bool.noConfusion z⟩
      · exact ⟨false, ap.sn, fun z => Bool.noConfusion z, fun _ => ⟨true, TS.te, fun _ a ha => ⟨_, rfl, rfl, rfl, dd, _, v, rfl, hd, by simp [List.lookup], (by show 2 ≤ sizeLine; decide), fun l hl => ⟨_, rfl, q l hl⟩⟩, fun z => Bool.noConfusion z⟩⟩
      · exact ⟨false, ap.ln, fun z => Bool.noConfusion z, fun _ => ⟨false, ap.ls, fun z => Bool.noConfusion z, fun _ => ⟨true, TL.te, fun _ a ha => ⟨_, rfl, rfl, rfl, dd, _, v, rfl, hd, by simp [List.lookup], (by show 2 ≤ sizeLine; decide), fun l hl => ⟨_, rfl, q l hl⟩⟩, fun z => Bool.noConfusion z⟩⟩⟩
end
end G1
set_option maxHeartbeats 4000000
namespace G1
open PySem PySem.Spec PyProof.Rows L2
section
variable {P : Program} {w : World} {K : PySem.W.Frag} {mg : Str → Option Value} {base : Heap}
theorem scMixed : FnScope ["cell", "k", "stirred"] ["cell", "k"] (defScope sMixed) := ⟨rfl, rfl, rfl, by decide +kernel, rfl, by decide +kernel, by decide +kernel⟩
theorem cl_mixed (D : DefAt K mg "_law_mixed" sMixed) (T : Blt mg) : Cl CX0 P w K mg base 1 "_law_mixed" ["cell", "k"] spMixed := by
  obtain ⟨f, fd, F, hm⟩ := D
  refine cl_of F hm (F.ok scMixed (fun vs H Q E h => ?_) (fun cdv A outer s H vs Q E hr h => ⟨_, PSs.nox (pss_cons (ps_set (i := 2) scMixed.nd rfl (Or.inl rfl)
      (pe_op op_mod (pe_callTy call_int1 (by rfl) T.int (by decide +kernel) (pa_cons (pe_op op_add (pe_op op_add (pe_op op_add (pe_op op_mul (pv 0) pe_int) (pe_op op_mul (pe_op op_mul pe_int (pv 1)) (pv 1))) (pe_op op_mul pe_int (pv 1))) pe_int) pa_nil)) pe_int))
    (pss_one (ps_ret (pe_op op_fdiv (pe_op op_mod (pe_callTy call_int1 (by rfl) T.int (by decide +kernel) (pa_cons (pe_op op_add (pe_op op_add (pe_op op_mul (pv 2) (pv 2)) (pe_op op_mul pe_int (pv 2))) pe_int) pa_nil)) pe_int) pe_int)))), ?_⟩)) fun _ _ _ _ _ _ us hl => match us, hl with | [_, _], _ => rfl
  · obtain ⟨c, k, rfl, _⟩ := h
    rfl
  · obtain ⟨c, k, rfl, c0, c1, k0, k1, q⟩ := h
    refine ⟨_, rfl, _, _, rfl, rfl, .inr ⟨by decide, by decide⟩, _, rfl, _, _, rfl, rfl, .inl ⟨by decide, by decide⟩, _, rfl, _, _, rfl, rfl, .inr ⟨by omega, by omega⟩, _, _, rfl, rfl, _, rfl, _, _, rfl, rfl, .inl ⟨by decide, by decide⟩, _, _, rfl, rfl, _, _, rfl, rfl, .inl ⟨_, rfl, ?_⟩⟩
    refine ⟨_, _, rfl, rfl, (by show (0 : Int) < 2147483647; decide), ?_⟩
    generalize hz : (c * 2654435761 + 40503 * k * k + 97 * k + 13) % 2147483647 = z
    have z0 : 0 ≤ z := by omega
    have z1 : z < 2147483647 := by omega
    refine ⟨_, rfl, _, rfl, _, _, rfl, rfl, .inr ⟨by omega, by omega⟩, _, rfl, _, _, rfl, rfl, .inl ⟨by decide, by decide⟩, _, _, rfl, rfl, _, _, rfl, rfl, .inl ⟨_, rfl, ?_⟩⟩
    refine ⟨_, _, rfl, rfl, (by show (0 : Int) < 2147483629; decide), _, _, rfl, rfl, ⟨by decide, by decide⟩, ?_⟩
    exact q _ (by omega)
theorem scDraw : FnScope ["purse", "out_of", "drawn"] ["purse", "out_of"] (defScope sDraw) := ⟨rfl, rfl, rfl, by decide +kernel, rfl, by decide +kernel, by decide +kernel⟩
theorem cl_draw (D : DefAt K mg "_law_draw" sDraw) (T : Blt mg) (cM : Cl CX0 P w K mg base 1 "_law_mixed" ["cell", "k"] spMixed) : Cl CX0 P w K mg base 2 "_law_draw" ["purse", "out_of"] spDraw := by
  obtain ⟨f, fd, F, hm⟩ := D
  refine cl_of F hm (F.ok scDraw (fun vs H Q E h => ?_) (fun cdv A outer s H vs Q E hr h => ⟨_, PSs.nox (pss_cons
      (ps_if (pt_cmpR op_gt (pe_ix ix_list (pv 0) pe_int (fun _ _ => rfl)) pe_int (nomark _))
        (pss_cons (ps_set (i := 2) scDraw.nd rfl (Or.inl rfl) (pe_op op_mod (pe_callTy call_int1 (by rfl) T.int (by decide +kernel) (pa_cons (pe_ix ix_list (pv 0) pe_int (fun _ _ => rfl)) pa_nil)) (pv 1)))
        (pss_cons (ps_asg (pe_op op_fdivW (pe_ix ix_list (pv 0) pe_int (fun _ _ => rfl)) (pv 1)) (pg_sub (pv 0) pe_int set_list))
        (pss_one (ps_ret (pv 2))))) pss_nil)
      (pss_cons (ps_asg (pe_op op_add (pe_ix ix_list (pv 0) pe_int (fun _ _ => rfl)) pe_int) (pg_sub (pv 0) pe_int set_list))
      (pss_one (ps_ret (pe_op op_mod (pe_callTy call_int1 (by rfl) T.int (by decide +kernel) (pa_cons (pe_c0 cM hr (Nat.le_refl 1) (by rfl) (pa_cons (pe_ix ix_list (pv 0) pe_int (fun _ _ => rfl)) (pa_cons (pe_ix ix_list (pv 0) pe_int (fun _ _ => rfl)) pa_nil))) pa_nil)) (pv 1)))))), ?_⟩)) fun _ _ _ _ _ _ us hl => match us, hl with | [_, _], _ => rfl
  · obtain ⟨p, n, c, rfl, _⟩ := h
    rfl
  · obtain ⟨p, n, c, rfl, ⟨⟨a, b, e, a0, a1, b0, b1⟩, c0⟩, c1, n0, n1, q⟩ := h
    refine ⟨_, rfl, p, _, _, _, rfl, rfl, SqL.of e, rfl, _, _, rfl, rfl, _, rfl, ite2 (fun h => ?_) (fun h => ?_)⟩
    · have h0 : 0 < a := of_decide_eq_true h
      refine ⟨_, rfl, p, _, _, _, rfl, rfl, SqL.of e, rfl, .inl ⟨_, rfl, _, rfl, _, _, rfl, rfl, n0, ?_⟩⟩
      refine ⟨_, rfl, p, _, _, _, rfl, rfl, SqL.of e, rfl, _, rfl, _, _, rfl, rfl, wide_div (b := 60) n0 (by omega) (by decide) (by decide), ?_⟩
      refine ⟨_, rfl, p, _, _, 0, rfl, rfl, e, rfl, _, rfl, ?_⟩
      refine q _ c _ (Int.emod_nonneg _ (by omega)) (Int.emod_lt_of_pos _ n0) (by omega) ⟨⟨a / n, b, upd_same, Int.ediv_nonneg a0 (by omega), ?_, b0, b1⟩, c0⟩ fun x o hx ho => ?_
      · refine Nat.lt_of_le_of_lt ?_ a1
        have : a / n ≤ a := Int.ediv_le_self _ a0
        have : 0 ≤ a / n := Int.ediv_nonneg a0 (by omega)
        omega
      · rw [upd_ne hx]
        exact ho
    · refine ⟨_, rfl, p, _, _, _, rfl, rfl, SqL.of e, rfl, _, _, rfl, rfl, ?_⟩
      refine ⟨_, rfl, p, _, _, 2, rfl, rfl, e, rfl, ?_⟩
      refine ⟨_, rfl, p, _, _, _, rfl, rfl, SqL.of upd_same, rfl, _, rfl, p, _, _, _, rfl, rfl, SqL.of upd_same, rfl, ?_⟩
      refine ⟨b, c + 1, rfl, b0, b1, by omega, by omega, fun r r0 => .inl ⟨_, rfl, _, rfl, _, _, rfl, rfl, n0, ?_⟩⟩
      refine q _ (c + 1) _ (Int.emod_nonneg _ (by omega)) (Int.emod_lt_of_pos _ n0) (by omega) ⟨⟨a, b, upd_same, a0, a1, b0, b1⟩, by omega⟩ fun x o hx ho => ?_
      rw [upd_ne hx]
      exact ho
end
section
variable {P : Program} {w : World} {K : PySem.W.Frag} {mg : Str → Option Value} {base : Heap}
theorem scPurse : FnScope ["cells", "at", "cell"] ["cells", "at"] (defScope sPurse) := ⟨rfl, rfl, rfl, by decide +kernel, rfl, by decide +kernel, by decide +kernel⟩
theorem pow_bits1 : CPowW 10 18 := ⟨by decide, by decide +kernel⟩
theorem pow_bits2 : CPowW 10 60 := ⟨by decide, by decide +kernel⟩
theorem pow_bits3 : CPowW (10 ^ (60 : Int).toNat) 8 := ⟨by decide, by decide +kernel⟩
theorem pow_bits4 : CPowW 10 11 := ⟨by decide, by decide +kernel⟩
theorem big_lt : ((10 : Int) ^ (60 : Int).toNat) ^ (8 : Int).toNat < 2 ^ 1600 := by decide +kernel
theorem big_pos : (0 : Int) < ((10 : Int) ^ (60 : Int).toNat) ^ (8 : Int).toNat := by decide +kernel
theorem purse_end {H : Hp} {i z y : Int} {Q : VK} (i0 : 0 ≤ i) (k : ∀ (p : Addr) (H' : Hp), H p = none → Same H H' → PurseAt H' p (1000 * i) → Q (.ref p) H')
    (p : Addr) (hp : H p = none) : Q (.ref p) (upd H p (.lst [.int (z % (((10 : Int) ^ (60 : Int).toNat) ^ (8 : Int).toNat)), .int (y % 2147483647), .int (1000 * i)])) := by
  refine k p _ hp (fun b o e => ?_) ⟨⟨_, _, upd_same, Int.emod_nonneg _ ?_, ?_, by omega, by omega⟩, by omega⟩
  · rw [upd_ne (ne_of_none e hp)]
    exact e
  · have := big_pos
    omega
  · have h1 := big_pos
    have h2 := big_lt
    have h3 := Int.emod_nonneg z (show ((10 : Int) ^ (60 : Int).toNat) ^ (8 : Int).toNat ≠ 0 by omega)
    have h4 := Int.emod_lt_of_pos z h1
    have h5 : ((2 ^ 1600 : Nat) : Int) = (2 : Int) ^ 1600 := by decide +kernel
    omega
theorem cl_purse (D : DefAt K mg "_law_purse" sPurse) (T : Blt mg) : Cl CX0 P w K mg base 1 "_law_purse" ["cells", "at"] (spPurse K) := by
  obtain ⟨f, fd, F, hm⟩ := D
  refine cl_of F hm (F.ok scPurse (fun vs H Q E h => ?_) (fun cdv A outer s H vs Q E hr h => ⟨_, PSs.nox (pss_cons
      (ps_set (i := 2) scPurse.nd rfl (Or.inl rfl) pe_int)
      (pss_cons (ps_if (pt_cmpR op_lt (pv 1) (pe_callB call_len_seq (by rfl) T.len PySem.boot_len (pa_cons (pv 0) pa_nil)) (nomark _))
        (pss_one (ps_set (i := 2) scPurse.nd rfl (Or.inl rfl) (pe_ix ix_list (pv 0) (pv 1) (fun _ _ => rfl)))) pss_nil)
      (pss_one (ps_ret (pe_lst (pa_cons (pe_op op_mod (pe_callTy call_int1 (by rfl) T.int (by decide +kernel) (pa_cons (pe_callB (call_max2 rfl) (by rfl) T.max (by decide +kernel) (pa_cons (pe_op op_sub (pv 2) (pe_op op_powW pe_int pe_int)) (pa_cons pe_int pa_nil))) pa_nil)) (pe_op op_powW (pe_op op_powW pe_int pe_int) pe_int))
        (pa_cons (pe_op op_mod (pe_callTy call_int1 (by rfl) T.int (by decide +kernel) (pa_cons (pv 2) pa_nil)) pe_int) (pa_cons (pe_op op_mul pe_int (pv 1)) pa_nil)))))))), ?_⟩)) fun _ _ _ _ _ _ us hl => match us, hl with | [_, _], _ => rfl
  · obtain ⟨a, ns, i, rfl, _⟩ := h
    rfl
  · obtain ⟨a, ns, i, rfl, hS, i0, i1, q⟩ := h
    refine ⟨_, rfl, _, rfl, a, _, rfl, .inl hS, _, _, rfl, rfl, _, rfl, ite2 (fun h => ?_) (fun h => ?_)⟩
    · have h1 : i < ((ns.map V.int).length : Int) := of_decide_eq_true h
      have h2 : i.toNat < ns.length := by
        rw [List.length_map] at h1
        omega
      have h3 : atI (ns.map V.int) i = some (.int ns[i.toNat]) := at_of (j := i.toNat) (by omega) (by simp [h2])
      refine ⟨_, rfl, _, rfl, a, _, _, _, rfl, rfl, hS, h3, ?_⟩
      refine ⟨_, rfl, _, _, rfl, rfl, pow_bits1, _, _, rfl, rfl, _, _, rfl, .inl ⟨_, rfl, _, _, rfl, rfl, pow_bits2, _, _, rfl, rfl, pow_bits3, _, _, rfl, rfl, big_pos, _, rfl, .inl ⟨_, rfl, _, _, rfl, rfl, (by show (0 : Int) < 2147483647; decide), _, rfl, _, _, rfl, rfl, .inl ⟨by decide, by decide⟩, (by show 3 ≤ sizeLine; decide), ?_⟩⟩⟩
      exact purse_end i0 q
    · refine ⟨_, rfl, _, _, rfl, rfl, pow_bits1, _, _, rfl, rfl, _, _, rfl, .inl ⟨_, rfl, _, _, rfl, rfl, pow_bits2, _, _, rfl, rfl, pow_bits3, _, _, rfl, rfl, big_pos, _, rfl, .inl ⟨_, rfl, _, _, rfl, rfl, (by show (0 : Int) < 2147483647; decide), _, rfl, _, _, rfl, rfl, .inl ⟨by decide, by decide⟩, (by show 3 ≤ sizeLine; decide), ?_⟩⟩⟩
      exact purse_end i0 q
end
end G1
set_option maxHeartbeats 8000000
namespace G1
open PySem PySem.Spec PyProof.Rows L2 SY TXS OW
/-! ### _law_row -/
def rowT : Nat → Sy
  | 0 => .nm 97
  | j + 1 => .bin .both (rowT j) .nev
theorem rowT_size : ∀ j, (rowT j).size = 2 * j + 1
  | 0 => rfl
  | j + 1 => by
    show (rowT j).size + 1 + 1 = _
    rw [rowT_size j]
    omega
theorem rowT_ok : ∀ j, (rowT j).ok
  | 0 => by show 97 ≤ 97 ∧ 97 ≤ 122; decide
  | j + 1 => ⟨rowT_ok j, trivial⟩
structure RowP (K : PySem.W.Frag) (C : Addr) (n : Int) (H : Hp) (Q : VK) : Prop where
  fin : ∀ a t H', Same H H' → SayAt K C H' t a → t.ok → (t.size : Int) = n → Q (.ref a) H'
def spRow (K : PySem.W.Frag) (C : Addr) : Sp := fun vs H Q _ => ∃ n : Int, vs = [.int n] ∧ 1 ≤ n ∧ n ≤ 200 ∧ RowP K C n H Q
section
variable {P : Program} {w : World} {K : PySem.W.Frag} {mg : Str → Option Value} {base : Heap} {C CL CS CN fL fS fN : Addr}
theorem scRow : FnScope ["size", "made", "turn"] ["size"] (defScope sRow) := ⟨rfl, rfl, rfl, by decide +kernel, rfl, by decide +kernel, by decide +kernel⟩
theorem cl_row (D : DefAt K mg "_law_row" sRow) (T : SayTxt K w mg C) (B : Blt mg) (M : Maker P w K mg base C CL) (cNm : Cl (L2.CX P w) P w K mg base 6 "named" ["name"] (spNamed K C CL CN)) (cNv : Cl (L2.CX P w) P w K mg base 6 "never" [] (spNever K C CL))
    (cJ : Cl (L2.CX P w) P w K mg base 6 "_joined" ["kind", "first", "second"] (spJoined K C CL CS)) : Cl CX0 P w K mg base 8 "_law_row" ["size"] (spRow K C) := by
  obtain ⟨f, fd, F, hm⟩ := D
  obtain ⟨f1, g1, M1, F1, b1⟩ := ok_both T cJ
  obtain ⟨f2, g2, M2, F2, b2⟩ := ok_den T M
  obtain ⟨fn, gn', Fn, hmn, kpn, bn, _⟩ := cNv.ex
  refine cl_of F hm (F.ok scRow (fun vs H Q E h => ?_) (fun cdv A outer s H vs Q E hr h => ⟨_, PSs.nox (pss_cons
      (ps_set (i := 1) scRow.nd rfl (Or.inl rfl) (pe_cX cNm hr (by decide) (by rfl) (pa_cons pe_str pa_nil)))
      (pss_cons (ps_for PassesOwn.never rfl (pi_range1 (by rfl) B.range (pa_cons (pe_op op_fdiv (pe_op op_sub (pv 0) pe_int) pe_int) pa_nil)) (pg_name (i := 2) scRow.nd rfl (Or.inl rfl))
        (pss_one (ps_set (i := 1) scRow.nd rfl (Or.inl rfl) (pe_meth (E := E0) (pv 1) T.cl M1 F1 hr b1 .nil passL (pa_cons (pe_call0 (E := E0) Fn (hr.mono (by decide)) (by rfl) hmn kpn bn .nil passL) pa_nil)))))
      (pss_one (ps_ret (pe_ifExp (pt_cmpR op_eq (pe_op op_mod (pv 0) pe_int) pe_int (nomark _)) (pv 1) (pe_meth0 (E := E0) (pv 1) T.cl M2 F2 (hr.mono (by decide)) b2 .nil passL)))))), ?_⟩)) fun _ _ _ _ _ _ us hl => match us, hl with | [_], _ => rfl
  · obtain ⟨n, rfl, _⟩ := h
    rfl
  · obtain ⟨n, rfl, n1, n2, q⟩ := h
    refine ⟨.str (one 97), rfl, ⟨.inl ⟨97, rfl, rowT_ok 0, ⟨fun c => absurd c (by decide), fun _ a0 H0 s0 _ h0 => ?_⟩⟩⟩⟩
    refine gn (σ' := [some (.int n), some (.ref a0), none]) rfl ?_
    obtain ⟨m, hm⟩ : ∃ m : Nat, (n - 1) / 2 = (m : Int) := ⟨((n - 1) / 2).toNat, by omega⟩
    have m99 : m ≤ 99 := by omega
    refine ⟨_, rfl, _, _, rfl, rfl, _, _, rfl, rfl, ⟨by decide, by decide⟩, m, congrArg (fun z => [V.int z]) hm, by omega, by omega, ?_⟩
    refine for_range (lo := 0) (n := (m : Int).toNat) (fun i σ H' => ∃ (a : Addr) (v2 : Option V), σ = [some (.int n), some (.ref a), v2] ∧ Same H H' ∧ SayAt K C H' (rowT i) a) ⟨a0, none, rfl, s0, h0⟩ ?_ ?_
    · rintro i σ H' hi ⟨a, v2, rfl, s1, h1⟩
      have hi2 : i < m := by omega
      refine gn (σ' := [some (.int n), some (.ref a), some (.int (0 + (i : Int)))]) rfl ?_
      obtain ⟨dx, p, q1, e1, _⟩ := h1.face.ex
      refine ⟨_, rfl, a, dx, _, rfl, e1, rfl, rfl, ⟨fun c => absurd c (by decide), fun _ b H2 s2 _ h2 => ?_⟩⟩
      have sz : (rowT (i + 1)).size ≤ 200 := by rw [rowT_size]; omega
      refine ⟨a, .ref b, rfl, ⟨rowT i, h1.on s2, rowT_ok i, .inr ⟨b, .nev, rfl, h2, trivial, ⟨fun c => absurd c (Nat.not_lt.mpr sz), fun _ c H3 s3 _ h3 => ?_⟩⟩⟩⟩
      exact gn (σ' := [some (.int n), some (.ref c), some (.int (0 + (i : Int)))]) rfl ⟨c, _, rfl, s1.trans (s2.trans s3), h3⟩
    · rintro σ H' ⟨a, v2, rfl, s1, h1⟩
      have hmm : (m : Int).toNat = m := by omega
      rw [hmm] at h1
      have sz := rowT_size m
      refine ⟨_, rfl, _, _, rfl, rfl, (by show (0 : Int) < 2; decide), rfl, _, rfl, ?_⟩
      by_cases c : n % 2 = 1
      · rw [decide_eq_true (show V.int (n % 2) = V.int 1 by rw [c])]
        exact iteT ⟨_, rfl, q.fin a _ H' s1 h1 (rowT_ok m) (by omega)⟩
      · rw [decide_eq_false (show ¬ V.int (n % 2) = V.int 1 from fun z => c (by injection z))]
        refine iteF ?_
        obtain ⟨dx, p, q1, e1, _⟩ := h1.face.ex
        have sz2 : (Sy.den (rowT m)).size = 2 * m + 2 := by show (rowT m).size + 1 = _; rw [sz]
        refine ⟨_, rfl, a, dx, _, rfl, e1, rfl, a, rowT m, rfl, h1, rowT_ok m, ⟨fun c => absurd c (by rw [sz2]; omega), fun _ b H2 s2 _ h2 => ?_⟩⟩
        exact q.fin b _ H2 (s1.trans s2) h2 (rowT_ok m) (by rw [sz2]; omega)
end
end G1
set_option maxHeartbeats 8000000
namespace G1
open PySem PySem.Spec PyProof.Rows L2
/-! ### data that str writes -/
mutual
inductive Dq (H : Hp) : V → PyData → Prop
  | non : Dq H .non .none
  | bl (b : Bool) : Dq H (.bl b) (.bool b)
  | int (i : Int) : Dq H (.int i) (.int i)
  | str (x : Str) : Dq H (.str x) (.str x)
  | lst {a : Addr} {xs : List V} {ds : List PyData} : H a = some (.lst xs) → DqAll H xs ds → Dq H (.ref a) (.list ds)
  | tup {a : Addr} {xs : List V} {ds : List PyData} : H a = some (.tup xs) → DqAll H xs ds → Dq H (.ref a) (.tuple ds)
  | dk {a : Addr} : H a = some (.dK []) → Dq H (.ref a) (.dict [])
inductive DqAll (H : Hp) : List V → List PyData → Prop
  | nil : DqAll H [] []
  | cons {v : V} {vs : List V} {d : PyData} {ds : List PyData} : Dq H v d → DqAll H vs ds → DqAll H (v :: vs) (d :: ds)
end
mutual
theorem Dq.same {H H' : Hp} (s : Same H H') : ∀ (d : PyData) (v : V), Dq H v d → Dq H' v d
  | .none, _, h => by cases h; exact .non
  | .bool b, _, h => by cases h; exact .bl b
  | .int i, _, h => by cases h; exact .int i
  | .str x, _, h => by cases h; exact .str x
  | .list ds, _, h => by
    cases h with
    | lst e k => exact .lst (s _ _ e) (DqAll.same s ds _ k)
  | .tuple ds, _, h => by
    cases h with
    | tup e k => exact .tup (s _ _ e) (DqAll.same s ds _ k)
  | .dict _, _, h => by
    cases h with
    | dk e => exact .dk (s _ _ e)
theorem DqAll.same {H H' : Hp} (s : Same H H') : ∀ (ds : List PyData) (vs : List V), DqAll H vs ds → DqAll H' vs ds
  | [], _, h => by cases h; exact .nil
  | d :: ds, _, h => by
    cases h with
    | cons h1 h2 => exact .cons (Dq.same s d _ h1) (DqAll.same s ds _ h2)
end
section
variable {X : Cx} {pins : List (Addr × Obj)} {σ : L2.St} {H : Hp} {s : Shared}
mutual
theorem Dq.reads (I : Inv X pins σ H s) (hm : H sysModules = none) : ∀ (d : PyData) (v : V) (u : Value), Dq H v d → RelV v u → ∃ as, Reads s.heap u d as ∧ sysModules ∉ as
  | .none, _, _, h, r => by
    cases h
    cases r
    exact ⟨_, Reads.none, by simp⟩
  | .bool b, _, _, h, r => by
    cases h
    cases r
    exact ⟨_, Reads.bool b, by simp⟩
  | .int i, _, _, h, r => by
    cases h
    obtain ⟨t, rfl⟩ := r
    exact ⟨_, Reads.int i t, by simp⟩
  | .str x, _, _, h, r => by
    cases h
    obtain ⟨t, rfl⟩ := r
    exact ⟨_, Reads.str x t, by simp⟩
  | .list ds, _, _, h, r => by
    cases h with
    | @lst a xs _ e k =>
      cases r
      obtain ⟨_, its, n, rv, g⟩ := (show ObjOk X.prog X.w H s.heap a (.lst xs) from I.hok a _ e)
      obtain ⟨as, hr, hn⟩ := DqAll.reads I hm ds _ its k rv
      refine ⟨_, Reads.list g rfl rfl (by simpa using hr), fun q => ?_⟩
      rcases List.mem_cons.mp q with q | q
      · rw [← q, hm] at e
        cases e
      · exact hn q
  | .tuple ds, _, _, h, r => by
    cases h with
    | @tup a xs _ e k =>
      cases r
      obtain ⟨_, its, rv, o, g1, g2, n, g3⟩ := (show ObjOk X.prog X.w H s.heap a (.tup xs) from I.hok a _ e)
      obtain ⟨as, hr, hn⟩ := DqAll.reads I hm ds _ its k rv
      exact ⟨_, Reads.tuple g1 g2 g3 (by simpa using hr), hn⟩
  | .dict _, _, _, h, r => by
    cases h with
    | @dk a e =>
      cases r
      obtain ⟨_, _, vs, rv, o, es, ep, g1, g2, g3, g4, g5, _⟩ := (show ObjOk X.prog X.w H s.heap a (.dK []) from I.hok a _ e)
      cases rv
      have e0 : es.toList = [] := by
        generalize es.toList = l at g5
        cases g5
        rfl
      refine ⟨_, Reads.dict g1 g2.1 g3 (as := []) (bs := []) (by rw [e0]; exact ReadsAll.nil) (by rw [e0]; exact ReadsAll.nil), fun q => ?_⟩
      have q2 : sysModules = a := by simpa using q
      rw [← q2, hm] at e
      cases e
theorem DqAll.reads (I : Inv X pins σ H s) (hm : H sysModules = none) : ∀ (ds : List PyData) (vs : List V) (us : List Value), DqAll H vs ds → Vals vs us → ∃ as, ReadsAll s.heap us ds as ∧ sysModules ∉ as
  | [], _, _, h, r => by
    cases h
    cases r
    exact ⟨_, ReadsAll.nil, by simp⟩
  | d :: ds, _, _, h, r => by
    cases h with
    | cons h1 h2 =>
      cases r with
      | cons r1 r2 =>
        obtain ⟨as, q1, n1⟩ := Dq.reads I hm d _ _ h1 r1
        obtain ⟨bs, q2, n2⟩ := DqAll.reads I hm ds _ _ h2 r2
        exact ⟨_, ReadsAll.cons q1 q2, fun q => (List.mem_append.mp q).elim n1 n2⟩
end
end
structure Small (d : PyData) : Prop where
  sh : d.showable = true
  lv : d.leavesShort 100 = true
  wt : d.weight ≤ 10000
  dp : d.depth ≤ 50
theorem call_str_dat {X : Cx} (gd : X.A.guards = some []) (hu : X.A.units + 64 < cLine) (hm : ∃ o, X.K.lookup sysModules = some o) : CallR X (.type "str") (fun xs H Q => ∃ (a : Addr) (d : PyData), xs = [.ref a] ∧ Dq H (.ref a) d ∧ Small d ∧ Q (.str d.shown) H) := by
  intro pn s st H xs us Q I r ask
  obtain ⟨a, d, rfl, hd, sm, q⟩ := ask
  cases r with
  | cons r1 r2 =>
    cases r2
    cases r1
    obtain ⟨o, ho⟩ := hm
    have hn : H sysModules = none := (I.bs sysModules o (I.ok.mod.kin _ _ ho)).2
    obtain ⟨as, hr, na⟩ := Dq.reads I hn d _ _ hd rfl
    have h1 := PyData.shown_le 100 (by decide) d sm.lv
    have h2 := sm.wt
    have h3 : (100 + 2) * d.weight ≤ 102 * 10000 := Nat.mul_le_mul (by decide) h2
    have h4 := sm.dp
    refine str_of_reads hr sm.sh (fun _ => na) gd (by omega) (fun _ _ e => e) (fun h' u tk hk => ?_) (by rw [sizeLine_eq]; omega)
    exact ⟨.str d.shown, H, I.kept (t' := tk) hk, ⟨_, rfl⟩, q⟩
/-! ### a def's promise where no repr is under way -/
structure FnG (CX : CXT) (P : Program) (w : World) (K : PySem.W.Frag) (mg : Str → Option Value) (base : Heap) (k : Nat) (f : Addr) (fd : FuncData) (ps : List Str) (sp : Sp) : Prop where
  len : ∀ vs H (Q : VK) (E : XK), sp vs H Q E → vs.length = ps.length
  run : ∀ (A : Around) (outer : List Env) (s : Shared) (H : Hp) (args : Args) (us : List Value) (vs : List V) (Q : VK) (E : XK),
    A.guards = some [] → Room k A → Env0 P w K mg base A outer s H → BindsTo s fd args (ps.zip us) → Vals vs us → sp vs H Q E → codeAny (model P w) A (.call (.ref f) args) (CR CX outer P w H s Q E) s
section
variable {P : Program} {w : World} {K : PySem.W.Frag} {mg : Str → Option Value} {base : Heap} {f : Addr} {fd : FuncData} {x qual : Str} {params : Arguments} {body : List Stmt} {scope : Scope} {dvs : List V} {kws : List (Str × V)}
theorem okG {CX : CXT} {N ps : List Str} {k : Nat} {sp : Sp} (F : FunD K x qual params body scope dvs kws f fd) (S : FnScope N ps scope) (len : ∀ vs H Q E, sp vs H Q E → vs.length = ps.length)
    (hb : ∀ (cdv : Value) (A : Around) (outer : List Env) (s : Shared) (H : Hp) (vs : List V) (Q : VK) (E : XK), A.guards = some [] → Room k (A.deeper (envOfC qual scope s.heap.objs.size f cdv)) → sp vs H Q E →
      ∃ t, PSs (cxOf CX P w K mg base N qual scope f cdv A outer s H E) body t ∧ t { nx := fun _ H' => Q .non H', rt := Q } (start N vs) H) : FnG CX P w K mg base (k + 1) f fd ps sp := by
  obtain ⟨c0, d0, v0, k0, doc, pm, an, code, ct, sl0, rfl, stands, coded, _, _⟩ := F.ex
  constructor
  · exact len
  · intro A outer s H args us vs Q E gd hr e0 bind r hsp
    have old : ∀ b o, base.get? b = some o → s.heap.get? b = some o := fun b o e => (e0.bs b o e).1
    have kin : K.In s.heap := e0.mod.kin.keeps old
    have lim : s.heap.NoLimit := e0.mod.nolimit.keeps old
    have kinds : ∀ y ∈ ps.zip us, scope.names.lookup y.1 = some .local ∨ (scope.names.lookup y.1 = some .cell ∧ ((cellsFrom (s.heap.objs.size + 1) scope.names []).lookup y.1).isSome = true) := by
      rintro ⟨n, v⟩ hy
      cases S.par n (List.of_mem_zip hy).1 with
      | inl q => exact .inl q
      | inr q => exact .inr ⟨q, PySem.W.cellsFrom_some _ _ _ (.inl q)⟩
    apply codeAny_call_function hr.depth (kin _ _ stands) rfl S.co S.gen rfl (PySem.W.codeRec_of kin coded)
    apply bind
    apply wpAny_newFunctionEnv_cells S.kind kinds
    intro env he s1 y
    subst he
    refine ⟨lim.keeps y.toInCall.keep, codeAny_func ?_⟩
    obtain ⟨t, ht, hq⟩ := hb code A outer s H vs Q E gd (hr.deeper _) hsp
    have I : Inv (cxOf CX P w K mg base N qual scope f code A outer s H E) [] (start N vs) H s1 := inv_start S hr.hd e0 (len _ _ _ _ hsp) r y
    refine wpAny_mono (ht.run [] s1 (start N vs) H _ I hq) ?_ (fun _ _ z => z)
    intro fl s' hs
    cases fl with
    | ret u =>
      have ⟨v, _, H2, J, rv, q⟩ := hs
      exact ⟨v, H2, J.os, J.bare, J.base, J.hok, rv, q⟩
    | next =>
      obtain ⟨σ', H', J, q⟩ := hs
      exact ⟨V.non, H', J.os, J.bare, J.base, J.hok, rfl, q⟩
    | brk =>
      obtain ⟨_, _, _, q⟩ := hs
      exact q.elim
    | cont =>
      obtain ⟨_, _, _, q⟩ := hs
      exact q.elim
/-- called by its name -/
structure ClG (CX : CXT) (P : Program) (w : World) (K : PySem.W.Frag) (mg : Str → Option Value) (base : Heap) (k : Nat) (x : Str) (ps : List Str) (sp : Sp) : Prop where
  ex : ∃ (f : Addr) (fd : FuncData), FnG CX P w K mg base k f fd ps sp ∧ mg x = some (.ref f) ∧ PySem.W.keepIn K (.ref f) = true ∧ Binds K fd ps []
end
section
variable {X : Cx} {k j : Nat} {x : Str} {ps : List Str} {sp : Sp} {p pos : Pos} {e : Expr} {es : List Expr} {t : TA}
theorem pe_cG (c : ClG CX0 X.prog X.w X.K X.mg X.base k x ps sp) (gd : X.A.guards = some []) (hr : Room j X.A) (hk : k ≤ j) (hg : Gl X x) (ha : PA X (e :: es) t)
    (nodbg : (x == ("__debug__" : Str)) = false := by decide) (first : starEach (e :: es) X.env = (false, eval e X.env) :: starEach es X.env := by rfl) (plain : (backTo pos (starEach es X.env)).any (·.1) = false := by rfl) :
    PE X (.Call (.Name x p) (e :: es) [] pos) (tCall sp [] E0 t) := by
  obtain ⟨f, fd, F, hm, kp, b⟩ := c.ex
  constructor
  intro pins s σ H Q I h
  apply wpAny_Call_Name_kw
  apply ld_glob I hg hm _ nodbg
  apply PySem.W.callWith_K (h₀ := X.base) I.ok.mod.kin kp _ first plain
  apply thn (ha.run pos pins s σ H _ I h)
  rintro us s1 ⟨vs, H1, I1, r, q⟩
  refine ⟨I1.kIn, wpAny_call ?_⟩
  have q' : sp vs H1 Q E0 := by
    have q0 : sp (vs ++ []) H1 Q E0 := q
    rw [List.append_nil] at q0
    exact q0
  have hl : us.length = ps.length := r.length.symm.trans (F.len _ _ _ _ q')
  have bb := b s1 us I1.kIn (by rw [List.append_nil]; exact hl)
  rw [List.append_nil] at bb
  refine codeAny_mono (F.run X.A X.stack s1 H1 ⟨us, []⟩ us vs Q E0 gd (hr.mono hk) I1.env0 bb r q') ?_
  intro rr s' hq
  cases rr with
  | error e => exact hq.elim
  | ok fl =>
    cases fl with
    | ret u => exact I1.after hq
    | next => exact hq.elim
    | brk => exact hq.elim
    | cont => exact hq.elim
end
/-! ### the law's own call -/
/-- nothing but what stands at a -/
def onlyAt (a : Addr) (o : Option HO) : Hp := fun b => if b = a then o else none
theorem onlyAt_some {a b : Addr} {o : Option HO} {u : HO} (h : onlyAt a o b = some u) : b = a ∧ o = some u := by
  unfold onlyAt at h
  split at h
  · exact ⟨by assumption, h⟩
  · cases h
theorem onlyAt_same {a : Addr} {o : Option HO} : onlyAt a o a = o := if_pos rfl
/-- the script as a list object -/
abbrev scriptO (vs : List Value) : Obj := { cls := .type "list", data := .seq vs.toArray }
theorem script_heap {P : Program} {w : World} {K : PySem.W.Frag} {h : Heap} {a : Addr} {vs : List Value} {ns : List Int} (X : K.In h) (at_ : h.get? a = some (scriptO vs)) (whole : IntsAre vs ns) (few : ns.length ≤ sizeLine) :
    ∃ o : Option HO, SqL K (onlyAt a o) a (ns.map V.int) ∧ HOk P w (onlyAt a o) h ∧ ∀ u, o = some u → (∃ ob xs, u = .frz ob (.lst xs)) ∧ K.lookup a = none := by
  have rel := vals_ints whole
  have size : vs.toArray.size ≤ sizeLine := by
    have e := whole.length
    rw [List.size_toArray, e]
    exact few
  cases written : K.lookup a with
  | some ob =>
    have e : some (scriptO vs) = some ob := at_.symm.trans (X a ob written)
    cases e
    exact ⟨none, .inr ⟨_, vs.toArray, _, written, rfl, rfl, rfl, size, by simpa using rel⟩, (fun b u z => nomatch (onlyAt_some z).2), nofun⟩
  | none =>
    refine ⟨some (.frz (scriptO vs) (.lst (ns.map V.int))), .inl (.inr ⟨_, onlyAt_same⟩), fun b u z => ?_, fun u z => ?_⟩
    · obtain ⟨rfl, e⟩ := onlyAt_some z
      cases e
      exact ⟨at_, by rw [List.length_map]; exact few, vs, _, rel, at_⟩
    · cases z
      exact ⟨⟨_, _, rfl⟩, rfl⟩
theorem law_callG {P : Program} {w : World} {K : PySem.W.Frag} {mg mb : Str → Option Value} {k : Nat} {fa a : Addr} {fd : FuncData} {x : Str} {sp : Sp} {s : Shared} {vs : List Value} {ns : List Int}
    (X : K.In s.heap) (main : s.heap.Ns mainGlobals mg) (blt : s.heap.Ns builtinsNs mb) (boot : ∀ y : Str, y ≠ "__name__" → mb y = bootBuiltins y) (calm : s.heap.NoLimit) (noGens : s.gens = #[])
    (at_ : s.heap.get? a = some (scriptO vs)) (whole : IntsAre vs ns) (few : ns.length ≤ sizeLine) (room : Room k callerA)
    (F : ∀ base : Heap, K.In base → base.Ns mainGlobals mg → FnG CX0 P w K mg base k fa fd [x] sp) (bind : ∀ (t : Shared) (u : Value), BindsTo t fd ⟨[u], []⟩ [(x, u)])
    (ask : ∀ H : Hp, SqL K H a (ns.map V.int) → sp [.ref a] H (fun v _ => v = .bl true) E0) :
    codeAny (model P w) callerA (.call (.ref fa) ⟨[.ref a], []⟩) (fun r t => r = .ok (.ret (.bool true)) ∧ (OldK s.heap t.heap ∧ (t.os = s.os ∧ AllBare t.gens))) s := by
  obtain ⟨o, sq, ok, off⟩ := script_heap (P := P) (w := w) X at_ whole few
  obtain ⟨H, eH⟩ : ∃ H, onlyAt a o = H := ⟨_, rfl⟩
  have only : ∀ b u, H b = some u → b = a ∧ o = some u := fun b u z => onlyAt_some (by rw [eH]; exact z)
  rw [eH] at sq ok
  have stays : ∀ {b : Addr} {u : Obj}, s.heap.get? b = some u → (∀ ob xs, b = a → o = some (.frz ob (.lst xs)) → False) → (hidT s.heap H).get? b = some u := by
    intro b u e n
    refine hidT_get e ?_
    cases q : H b with
    | none => rfl
    | some v =>
      obtain ⟨eb, ev⟩ := only b v q
      obtain ⟨⟨ob, xs, rfl⟩, _⟩ := off v ev
      exact (n ob xs eb ev).elim
  have names : ∀ {b : Addr} {m : Str → Option Value}, s.heap.Ns b m → (hidT s.heap H).Ns b m := by
    rintro b m ⟨u, es, ep, e, d, r⟩
    refine ⟨u, es, ep, stays e (fun _ _ eb _ => ?_), d, r⟩
    rw [eb, at_] at e
    cases e
    cases d
  have kept : K.In (hidT s.heap H) := fun b u e => stays (X b u e) fun ob xs eb eo => by
    rw [eb, (off _ eo).2] at e
    cases e
  have limit : (hidT s.heap H).NoLimit := by
    obtain ⟨mc, h1, h2⟩ := calm
    exact ⟨mc, names h1, h2⟩
  have start : Env0 P w K mg (hidT s.heap H) callerA [] s H :=
    { frames := rfl, mod := ⟨kept, names main, ⟨mb, names blt, boot⟩, limit⟩, bs := fun _ _ e => of_hidT e, bsz := Nat.le_of_eq (hidT_size _ _), funs := trivial, frf := fun _ z => (by cases z), hok := ok, bare := .of_eq noGens }
  have run := (F _ kept (names main)).run callerA [] s H ⟨[.ref a], []⟩ [.ref a] [.ref a] _ _ rfl room start (bind s (.ref a)) (.cons rfl .nil) (ask H sq)
  refine codeAny_mono run fun r t h => ?_
  cases r with
  | error e => exact h.elim
  | ok fl =>
    cases fl with
    | ret u =>
      obtain ⟨v, G, sameOs, bare, un, okG', rv, q⟩ := h
      cases (show v = V.bl true from q)
      cases (show u = Value.bool true from rv)
      refine ⟨rfl, .of_keep fun b ob e => ?_, sameOs, bare⟩
      cases z : H b with
      | none => exact un.keep b ob e z nofun nofun
      | some u =>
        obtain ⟨eb, eo⟩ := only b u z
        obtain ⟨⟨fr, xs, rfl⟩, _⟩ := off u eo
        have before := (ok b _ z).1
        have behind := (okG' b _ (un.frzs b fr _ z)).1
        rw [e] at before
        cases before
        exact behind
    | next => exact h.elim
    | brk => exact h.elim
    | cont => exact h.elim
end G1
set_option maxHeartbeats 4000000
namespace G1
open PySem PySem.Spec PyProof.Rows L2
/-! ### arguments by name alone -/
structure KB0 (K : PySem.W.Frag) (fd : FuncData) (ps ks : List Str) (g : List Value → List Value) (gV : List V → List V) : Prop where
  to : ∀ (s : Shared) (ws : List Value), ws.length = ks.length → BindsTo s fd ⟨[], ks.zip ws⟩ (ps.zip (g ws))
  rel : ∀ {zs : List V} {ws : List Value}, Vals zs ws → Vals (gV zs) (g ws)
def tCallW (n : Nat) (sp : Sp) (gV : List V → List V) (tk : TA) : TE := fun σ H Q => tk σ H fun zs H1 => zs.length = n ∧ sp (gV zs) H1 Q E0
section
variable {X : Cx} {k j : Nat} {x : Str} {ps ks : List Str} {sp : Sp} {p pos : Pos} {kws : List Keyword} {tk : TA} {f : Addr} {fd : FuncData} {g : List Value → List Value} {gV : List V → List V} {CX : CXT}
theorem pe_kw (F : FnOk X.prog X.w X.K X.mg X.base CX k f fd ps sp) (hr : Room j X.A) (hk : k ≤ j) (hg : Gl X x) (hm : X.mg x = some (.ref f)) (kp : PySem.W.keepIn X.K (.ref f) = true) (hb : KB0 X.K fd ps ks g gV) (hx : Passes CX X E0)
    (hkw : PK X kws tk) (hall : (backToKw pos (keywordEach kws X.env)).all (·.1.isSome) = true := by rfl) (hks : (backToKw pos (keywordEach kws X.env)).filterMap (·.1) = ks := by rfl)
    (nodbg : (x == ("__debug__" : Str)) = false := by decide)
    (plain : ((backTo pos (starEach [] X.env)).any (·.1) || (backToKw pos (keywordEach kws X.env)).any (·.1.isNone)) = false := by rfl) :
    PE X (.Call (.Name x p) [] kws pos) (tCallW ks.length sp gV tk) := by
  constructor
  intro pins s σ H Q I h
  apply wpAny_Call_Name_kw
  apply ld_glob I hg hm _ nodbg
  apply PySem.W.callWith_KW0 (h₀ := X.base) I.ok.mod.kin kp hall _ plain
  refine thn (hkw.run pos pins s σ H _ I h) ?_
  rintro ws s2 ⟨zs, H2, I2, rz, l2, q2⟩
  refine ⟨I2.kIn, ?_⟩
  rw [hks]
  refine wpAny_call (codeAny_mono (F.run X.A X.stack s2 H2 ⟨[], ks.zip ws⟩ (g ws) (gV zs) Q E0 (hr.mono hk) I2.env0 (hb.to s2 ws (rz.length.symm.trans l2)) (hb.rel rz) q2) ?_)
  intro r s' hq
  cases r with
  | error e => exact hx pins σ H2 s2 e s' I2 hq
  | ok fl =>
    cases fl with
    | ret u => exact I2.after hq
    | next => exact hq.elim
    | brk => exact hq.elim
    | cont => exact hq.elim
end
/-- a def that is called by names -/
structure ClK (CX : CXT) (P : Program) (w : World) (K : PySem.W.Frag) (mg : Str → Option Value) (base : Heap) (k : Nat) (x : Str) (ps : List Str) (sp : Sp) (ks : List Str) (gV : List V → List V) : Prop where
  ex : ∃ (f : Addr) (fd : FuncData) (g : List Value → List Value), FnOk P w K mg base CX k f fd ps sp ∧ mg x = some (.ref f) ∧ PySem.W.keepIn K (.ref f) = true ∧ KB0 K fd ps ks g gV
theorem clk_of {CX : CXT} {P : Program} {w : World} {K : PySem.W.Frag} {mg : Str → Option Value} {base : Heap} {k : Nat} {x : Str} {st : Stmt} {ps ks : List Str} {sp : Sp} {g : List Value → List Value} {gV : List V → List V} (c : Cl CX P w K mg base k x ps sp) (D : DefAt K mg x st)
    (h : ∀ (kV doc pm : Value) (an : Option Addr) (cdv ct : Value) (ws : List Value), ws.length = ks.length → bindArgs (PySem.W.fnOf x x (defArgs st) (defBody st) (defScope st) .none kV doc pm an cdv ct) ⟨[], ks.zip ws⟩ = pure (ps.zip (g ws)))
    (rel : ∀ {zs : List V} {ws : List Value}, Vals zs ws → Vals (gV zs) (g ws)) : ClK CX P w K mg base k x ps sp ks gV := by
  obtain ⟨f, fd, F, hm, kp, b, oc, od, osl, lk⟩ := c.ex
  obtain ⟨f', fd', F', hm'⟩ := D
  rw [hm] at hm'
  cases hm'
  obtain ⟨oc', od', dV, kV, doc, pm, an, cdv, ct, osl', e, lk', _, hD, _⟩ := F'.ex
  rw [lk] at lk'
  cases lk'
  rcases hD with ⟨_, rfl⟩ | ⟨z, _⟩
  · refine ⟨f, fd, g, F, hm, kp, ⟨fun s ws hl => ?_, rel⟩⟩
    rw [e]
    exact .of_eq (h kV doc pm an cdv ct ws hl)
  · exact absurd rfl z
section
variable {X : Cx} {k j : Nat} {x : Str} {ps ks : List Str} {sp : Sp} {p pos : Pos} {kws : List Keyword} {tk : TA} {gV : List V → List V}
theorem pe_kw0 (c : ClK CX0 X.prog X.w X.K X.mg X.base k x ps sp ks gV) (hr : Room j X.A) (hk : k ≤ j) (hg : Gl X x)
    (hkw : PK X kws tk) (hall : (backToKw pos (keywordEach kws X.env)).all (·.1.isSome) = true := by rfl) (hks : (backToKw pos (keywordEach kws X.env)).filterMap (·.1) = ks := by rfl)
    (nodbg : (x == ("__debug__" : Str)) = false := by decide)
    (plain : ((backTo pos (starEach [] X.env)).any (·.1) || (backToKw pos (keywordEach kws X.env)).any (·.1.isNone)) = false := by rfl) :
    PE X (.Call (.Name x p) [] kws pos) (tCallW ks.length sp gV tk) := by
  obtain ⟨f, fd, g, F, hm, kp, b⟩ := c.ex
  exact pe_kw F hr hk hg hm kp b pass0 hkw hall hks nodbg plain
theorem pe_kwX (c : ClK (L2.CX X.prog X.w) X.prog X.w X.K X.mg X.base k x ps sp ks gV) (hr : Room j X.A) (hk : k ≤ j) (hg : Gl X x)
    (hkw : PK X kws tk) (hall : (backToKw pos (keywordEach kws X.env)).all (·.1.isSome) = true := by rfl) (hks : (backToKw pos (keywordEach kws X.env)).filterMap (·.1) = ks := by rfl)
    (nodbg : (x == ("__debug__" : Str)) = false := by decide)
    (plain : ((backTo pos (starEach [] X.env)).any (·.1) || (backToKw pos (keywordEach kws X.env)).any (·.1.isNone)) = false := by rfl) :
    PE X (.Call (.Name x p) [] kws pos) (tCallW ks.length sp gV tk) := by
  obtain ⟨f, fd, g, F, hm, kp, b⟩ := c.ex
  exact pe_kw F hr hk hg hm kp b passL hkw hall hks nodbg plain
end
theorem rel1 {zs : List V} {ws : List Value} (r : Vals zs ws) : Vals (id zs) (id ws) := r
def flip2 {α : Type} : List α → List α
  | [b, t] => [t, b]
  | l => l
theorem rel2 {zs : List V} {ws : List Value} (r : Vals zs ws) : Vals (flip2 zs) (flip2 ws) := by
  cases r with
  | nil => exact .nil
  | cons r1 r2 =>
    cases r2 with
    | nil => exact .cons r1 .nil
    | cons r3 r4 =>
      cases r4 with
      | nil => exact .cons r3 (.cons r1 .nil)
      | cons r5 r6 => exact .cons r1 (.cons r3 (.cons r5 r6))
/-! ### what stands beside the purse -/
def hide (p : Addr) (H : Hp) : Hp := fun b => if b = p then none else H b
theorem hide_ne {p b : Addr} {H : Hp} (h : b ≠ p) : hide p H b = H b := if_neg h
theorem hide_same {p : Addr} {H : Hp} : Same (hide p H) H := fun b o e => by
  by_cases h : b = p
  · have e' : (none : Option HO) = some o := (if_pos h).symm.trans e
    cases e'
  · rw [hide_ne h] at e
    exact e
theorem But.hide {p : Addr} {H H' : Hp} (h : But p H H') : Same (hide p H) (hide p H') := fun b o e => by
  by_cases hb : b = p
  · have e' : (none : Option HO) = some o := (if_pos hb).symm.trans e
    cases e'
  · rw [hide_ne hb] at e ⊢
    exact h b o hb e
theorem Same.but {p : Addr} {H H' : Hp} (h : Same H H') : But p H H' := fun b o _ e => h b o e
theorem PurseAt.same {p : Addr} {c : Int} {H H' : Hp} (P : PurseAt H p c) (h : Same H H') : PurseAt H' p c := by
  obtain ⟨a, b, e, r⟩ := P.ex
  exact ⟨⟨a, b, h _ _ e, r⟩, P.c0⟩
theorem PurseAt.at {p q : Addr} {c : Int} {H : Hp} (P : PurseAt H p c) (n : H q = none) : q ≠ p := by
  obtain ⟨a, b, e, r⟩ := P.ex
  intro z
  rw [z, e] at n
  cases n
theorem mk_at {p q : Addr} {H : Hp} {c : Int} (o : HO) (P : PurseAt H p c) (n : H q = none) : ∃ H', upd H q o = H' ∧ PurseAt H' p c ∧ But p H H' ∧ hide p H' q = some o := by
  have s : Same H (upd H q o) := fun b u e => by
    rw [upd_ne (ne_of_none e n)]
    exact e
  refine ⟨_, rfl, P.same s, Same.but s, ?_⟩
  rw [hide_ne (P.at n), upd_same]
/-! ### odd things -/
structure Small0 (d : PyData) : Prop where
  sh : d.showable = true
  lv : d.leavesShort 100 = true
  wt : d.weight ≤ 200
  dp : d.depth ≤ 5
theorem int_short {i : Int} (h : i.natAbs < 10 ^ 20) : PyData.leavesShort 100 (.int i) = true := by
  have e := int_text_length_le10 (k := 20) (by decide) h
  unfold PyData.leavesShort
  refine decide_eq_true ?_
  show (Str.ofString (toString i)).length ≤ 100
  rw [PySem.ofString_length]
  omega
theorem int_shows {i : Int} (h : i.natAbs < 10 ^ 20) : PyData.showable (.int i) = true := by
  unfold PyData.showable
  refine decide_eq_true ?_
  have h1 : i.natAbs < 2 ^ 1920 := Nat.lt_trans h (by decide +kernel)
  exact PySem.Flt.log2_lt_of (by decide) h1
theorem int_weight {i : Int} (h : i.natAbs < 10 ^ 20) : PyData.weight (.int i) ≤ 67 := by
  have h1 : i.natAbs < 2 ^ 67 := Nat.lt_trans h (by decide +kernel)
  have h2 : i.natAbs.log2 < 67 := PySem.Flt.log2_lt_of (by decide) h1
  simp only [PyData.weight]
  split <;> omega
theorem small_pair {i j : Int} (hi : i.natAbs < 10 ^ 20) (hj : j.natAbs < 10 ^ 20) : Small0 (.tuple [.int i, .int j]) := by
  refine ⟨?_, ?_, ?_, ?_⟩
  · simp only [PyData.showable, PyData.showableAll, Bool.and_true, Bool.and_eq_true]
    exact ⟨int_shows hi, int_shows hj⟩
  · simp only [PyData.leavesShort, PyData.leavesShortAll, Bool.and_true, Bool.and_eq_true]
    exact ⟨int_short hi, int_short hj⟩
  · have h1 := int_weight hi
    have h2 := int_weight hj
    simp only [PyData.weight, PyData.weightAll] at h1 h2 ⊢
    omega
  · simp only [PyData.depth, PyData.depthAll]
    decide
theorem small_list {i j : Int} (hi : i.natAbs < 10 ^ 20) (hj : j.natAbs < 10 ^ 20) : Small0 (.list [.int i, .int j]) := by
  refine ⟨?_, ?_, ?_, ?_⟩
  · simp only [PyData.showable, PyData.showableAll, Bool.and_true, Bool.and_eq_true]
    exact ⟨int_shows hi, int_shows hj⟩
  · simp only [PyData.leavesShort, PyData.leavesShortAll, Bool.and_true, Bool.and_eq_true]
    exact ⟨int_short hi, int_short hj⟩
  · have h1 := int_weight hi
    have h2 := int_weight hj
    simp only [PyData.weight, PyData.weightAll] at h1 h2 ⊢
    omega
  · simp only [PyData.depth, PyData.depthAll]
    decide
theorem ne_if {b : Bool} {A B : Prop} (e : b = true) (h : B) : if (!b) = true then A else B := by
  rw [e]
  exact h
theorem as_val {v w : V} {H : Hp} {Q : VK} (e : v = w) (h : Q w H) : Q v H := by
  rw [e]
  exact h
theorem at_mem {xs : List V} {d : Int} (h0 : 0 ≤ d) (h1 : d < (xs.length : Int)) : ∃ v, atI xs d = some v ∧ v ∈ xs := by
  have h2 : d.toNat < xs.length := by omega
  exact ⟨xs[d.toNat], at_of (j := d.toNat) (by omega) (by simp [h2]), List.getElem_mem h2⟩
theorem mk_s {q : Addr} {H : Hp} (o : HO) (n : H q = none) : ∃ H', upd H q o = H' ∧ Same H H' ∧ H' q = some o :=
  ⟨_, rfl, fun b u e => (upd_ne (ne_of_none e n)).trans e, upd_same⟩
end G1
set_option maxHeartbeats 8000000
namespace G1
open PySem PySem.Spec PyProof.Rows L2 SY TXS OW
/-! ### what _law_told tells, by cases -/
section
variable {K : PySem.W.Frag} {C CL CS CN : Addr} {H : Hp} {Q : VK} {y m : V} {a b : Addr} {t u : Sy}
theorem er1_of {x nm : Str} {v : V} {E : XK} (k : ∀ (l : Addr) (H' : Hp), Same H H' → H' l = some (.lst [.str nm, v]) → Q (.ref l) H') (i : ∀ c d H', er1 C x nm Q c d H' → E c d H') : Rs x C H v E := by
  intro d H' n s e
  refine i _ _ _ ⟨rfl, d, v, rfl, e, fun l hl => k l _ (s.trans (same_new hl (Same.refl _))) upd_same⟩
theorem told_name (kn : Kn H y) (nl : NoLet y) (k : ∀ (l : Addr) (H' : Hp), Same H H' → H' l = some (.lst [.str "name", y]) → Q (.ref l) H') : ToldP K C CL CS CN 0 m y H Q :=
  ⟨.name ⟨.inr ⟨kn, nl, er1_of k fun _ _ _ h => ⟨.inl h⟩⟩⟩⟩
theorem told_say (j : Bk) (ht : SayAt K C H t a) (ok : t.ok) (kn : Kn H y) (k : ∀ (l : Addr) (H' : Hp), Same H H' → H' l = some (.lst [.str "saying", y]) → Q (.ref l) H') : ToldP K C CL CS CN (Bk.ix j) (.ref a) y H Q :=
  ⟨.join ⟨⟨t, ht, ok, .inl ⟨kn, er1_of k fun _ _ _ h => ⟨.inr (.inl h)⟩⟩⟩⟩⟩
theorem told_new {s : Sy} (big : 200 < s.size → ∀ (l : Addr) (H' : Hp), Same H H' → H' l = some (.lst [.str "large", .int s.size]) → Q (.ref l) H') (fit : s.size ≤ 200 → ∀ H', Same H H' → Q (.int s.size) H') : New K C CL s H (okT K C Q) (ErT CL CS CN Q) :=
  ⟨fun c => er1_of (big c) fun _ _ _ h => ⟨.inr (.inr h)⟩, fun c x H' s1 _ h => ⟨x, s, rfl, h.face, fit c H' s1⟩⟩
theorem told_two {i : Int} (i1 : 1 ≤ i) (i7 : i ≤ 7) (ht : SayAt K C H t a) (ok : t.ok) (hu : SayAt K C H u b) (oku : u.ok)
    (big : 200 < t.size + u.size + 1 → ∀ (l : Addr) (H' : Hp), Same H H' → H' l = some (.lst [.str "large", .int ((t.size + u.size + 1 : Nat) : Int)]) → Q (.ref l) H')
    (fit : t.size + u.size + 1 ≤ 200 → ∀ H', Same H H' → Q (.int ((t.size + u.size + 1 : Nat) : Int)) H') : ToldP K C CL CS CN i (.ref a) (.ref b) H Q := by
  have n : ∀ j : Bk, New K C CL (.bin j t u) H (okT K C Q) (ErT CL CS CN Q) := fun j => told_new (s := .bin j t u) big fit
  have jn : ∀ j : Bk, ToldP K C CL CS CN (Bk.ix j) (.ref a) (.ref b) H Q := fun j => ⟨.join ⟨⟨t, ht, ok, .inr ⟨b, u, rfl, hu, oku, n j⟩⟩⟩⟩
  have hi : i = 1 ∨ i = 2 ∨ i = 3 ∨ i = 4 ∨ i = 5 ∨ i = 6 ∨ i = 7 := by omega
  rcases hi with rfl | rfl | rfl | rfl | rfl | rfl | rfl
  · exact jn .both
  · exact jn .thn
  · exact jn .lower
  · exact jn .higher
  · exact jn .same
  · exact ⟨.and_ ⟨⟨t, u, ht, ok, hu, oku, n .both⟩⟩⟩
  · exact ⟨.rsh ⟨⟨t, u, ht, ok, hu, oku, n .thn⟩⟩⟩
theorem told_not (ht : SayAt K C H t a) (ok : t.ok)
    (big : 200 < t.size + 1 → ∀ (l : Addr) (H' : Hp), Same H H' → H' l = some (.lst [.str "large", .int ((t.size + 1 : Nat) : Int)]) → Q (.ref l) H')
    (fit : t.size + 1 ≤ 200 → ∀ H', Same H H' → Q (.int ((t.size + 1 : Nat) : Int)) H') : ToldP K C CL CS CN 8 (.ref a) y H Q :=
  ⟨.inv ht ok (told_new (s := .den t) big fit)⟩
end
/-! ### odd things -/
structure Od (H : Hp) (v : V) : Prop where
  kn : Kn H v
  dat : ∃ d, Dq H v d ∧ Small0 d
theorem Od.same {H H' : Hp} {v : V} (o : Od H v) (s : Same H H') : Od H' v := by
  obtain ⟨d, h1, h2⟩ := o.dat
  exact ⟨o.kn.same s, d, Dq.same s d v h1, h2⟩
structure Small3 (d : PyData) : Prop where
  all : d.showable = true ∧ d.leavesShort 100 = true ∧ d.weight ≤ 200 ∧ d.depth ≤ 5
theorem od_of {H : Hp} {v : V} {d : PyData} (k : Kn H v) (q : Dq H v d) (s : Small3 d) : Od H v := ⟨k, d, q, ⟨s.all.1, s.all.2.1, s.all.2.2.1, s.all.2.2.2⟩⟩
theorem od_s {H : Hp} (z : Str) (s : Small3 (.str z)) : Od H (.str z) := od_of trivial (.str z) s
section
variable {G : Hp} {t u : Addr}
theorem odN : Od G .non := od_of trivial .non ⟨by decide +kernel⟩
theorem odB : Od G (.bl true) := od_of trivial (.bl true) ⟨by decide +kernel⟩
theorem odI : Od G (.int 1) := od_of trivial (.int 1) ⟨by decide +kernel⟩
theorem od1 (e : G t = some (.tup [.int 1])) : Od G (.ref t) := od_of (.inr (.inl ⟨_, e⟩)) (.tup e (.cons (.int 1) .nil)) ⟨by decide +kernel⟩
theorem odL0 (e : G t = some (.lst [])) : Od G (.ref t) := od_of (.inl ⟨_, e⟩) (.lst e .nil) ⟨by decide +kernel⟩
theorem odD0 (e : G t = some (.dK [])) : Od G (.ref t) := od_of (.inr (.inr ⟨_, e⟩)) (.dk e) ⟨by decide +kernel⟩
theorem odL1 (e : G t = some (.lst [.str "a"])) : Od G (.ref t) := od_of (.inl ⟨_, e⟩) (.lst e (.cons (.str "a") .nil)) ⟨by decide +kernel⟩
theorem odT3 (e : G t = some (.tup [.str "name", .str "a", .ref u])) (e2 : G u = some (.tup [])) : Od G (.ref t) :=
  od_of (.inr (.inl ⟨_, e⟩)) (.tup e (.cons (.str "name") (.cons (.str "a") (.cons (.tup e2 .nil) .nil)))) ⟨by decide +kernel⟩
end
theorem od_all {G : Hp} {v : V} {xs : List V} (h : Od G v) (k : ∀ u ∈ xs, Od G u) : ∀ u ∈ v :: xs, Od G u := fun u hu => (List.mem_cons.mp hu).elim (fun e => e ▸ h) (k u)
theorem od_none {G : Hp} : ∀ u ∈ ([] : List V), Od G u := fun u hu => by cases hu
theorem small_list2 {nm : Str} {d : PyData} (h : Small0 d) (e : Small3 (.str nm)) (hl : nm.length ≤ 10) : Small (.list [.str nm, d]) := by
  obtain ⟨e1, e2, e3, e4⟩ := e.all
  refine ⟨?_, ?_, ?_, ?_⟩
  · simp only [PyData.showable, PyData.showableAll, Bool.and_true, Bool.and_eq_true] at e1 ⊢
    exact ⟨e1, h.sh⟩
  · simp only [PyData.leavesShort, PyData.leavesShortAll, Bool.and_true, Bool.and_eq_true] at e2 ⊢
    exact ⟨e2, h.lv⟩
  · have := h.wt
    simp only [PyData.weight, PyData.weightAll] at *
    omega
  · have := h.dp
    simp only [PyData.depth, PyData.depthAll] at *
    omega
end G1
set_option maxHeartbeats 16000000
namespace G1
open PySem PySem.Spec PyProof.Rows L2 SY TXS OW
theorem nolet_bad {a : Addr} : ∀ u ∈ ([.str "ab", .str "", .str "A", .str "1", .int 1, .non, .bl true, .ref a, .str "a ", .str "{", .str "\n", .str "a\n"] : List V), NoLet u := by
  intro u hu
  simp only [List.mem_cons, List.not_mem_nil, or_false] at hu
  rcases hu with rfl | rfl | rfl | rfl | rfl | rfl | rfl | rfl | rfl | rfl | rfl | rfl
  · exact .len (by decide) (by decide)
  · exact .len (by decide) (by decide)
  · exact .off (c := 65) (by decide)
  · exact .off (c := 49) (by decide)
  · exact .int 1
  · exact .non
  · exact .bl true
  · exact .ref a
  · exact .len (by decide) (by decide)
  · exact .off (c := 123) (by decide)
  · exact .off (c := 10) (by decide)
  · exact .len (by decide) (by decide)
/-! ### sayings beside the purse -/
theorem hid_of {p a : Addr} {c : Int} {H : Hp} {o : HO} (P : PurseAt H p c) (e : H a = some o) (n : ∀ xs, o ≠ .lst xs) : hide p H a = some o := by
  obtain ⟨x, y, ep, _⟩ := P.ex
  refine (hide_ne fun z => ?_).trans e
  rw [z, ep] at e
  cases e
  exact n _ rfl
theorem tup_hid {K : PySem.W.Frag} {p q : Addr} {c : Int} {H : Hp} {xs : List V} (P : PurseAt H p c) (h : SqT K H q xs) : SqT K (hide p H) q xs := by
  rcases h with (h | ⟨o, h⟩) | h
  · exact .inl (.inl (hid_of P h fun _ => nofun))
  · exact .inl (.inr ⟨o, hid_of P h fun _ => nofun⟩)
  · exact .inr h
theorem say_hid {K : PySem.W.Frag} {C p : Addr} {c : Int} {H : Hp} (P : PurseAt H p c) : ∀ {t : Sy} {a : Addr}, SayAt K C H t a → SayAt K C (hide p H) t a
  | .nm _, _, ⟨dx, u, v, h, h1, h2⟩ => ⟨dx, u, v, hid_of P h (fun _ => nofun), tup_hid P h1, tup_hid P h2⟩
  | .nev, _, ⟨dx, u, v, h, h1, h2⟩ => ⟨dx, u, v, hid_of P h (fun _ => nofun), tup_hid P h1, tup_hid P h2⟩
  | .alw, _, ⟨dx, u, v, h, h1, h2⟩ => ⟨dx, u, v, hid_of P h (fun _ => nofun), tup_hid P h1, tup_hid P h2⟩
  | .den _, _, ⟨dx, u, v, b, h, h1, h2, h3⟩ => ⟨dx, u, v, b, hid_of P h (fun _ => nofun), tup_hid P h1, tup_hid P h2, say_hid P h3⟩
  | .bin _ _ _, _, ⟨dx, u, v, b, d, h, h1, h2, h3, h4⟩ => ⟨dx, u, v, b, d, hid_of P h (fun _ => nofun), tup_hid P h1, tup_hid P h2, say_hid P h3, say_hid P h4⟩
theorem say_but {K : PySem.W.Frag} {C p a : Addr} {c : Int} {H H' : Hp} {t : Sy} (P : PurseAt H p c) (b : But p H H') (h : SayAt K C H t a) : SayAt K C H' t a := ((say_hid P h).on b.hide).on hide_same
structure RightP (p : Addr) (c : Int) (H : Hp) (Q : VK) : Prop where
  at_ : PurseAt H p c
  lo : c < 2 ^ 38
  fin : ∀ (c' : Int) (H' : Hp), c' ≤ c + 100 → PurseAt H' p c' → But p H H' → Q (.bl true) H'
def spRight : Sp := fun vs H Q _ => ∃ (p : Addr) (c : Int), vs = [.ref p] ∧ RightP p c H Q
theorem dq_dp {K : PySem.W.Frag} {H : Hp} {v : V} {i : Int} (e : v = .int i) : Dp K H v (.int i) := by
  subst e
  exact .int i
theorem shp_ls (i : Int) : SeqAt.shaped (.list [.str "large", .int i]) = true := by
  have e : PyData.strOk "large" = true := by decide +kernel
  unfold SeqAt.shaped
  simp [PyData.canLay0, PyData.canLayAll0, PyData.depth, PyData.depthAll, e]
theorem eqv_ls (i : Int) : PyData.eqv (.list [.str "large", .int i]) (.list [.str "large", .int i]) = true := by simp [PyData.eqv, PyData.eqvAll]
theorem shp_i (i : Int) : SeqAt.shaped (.int i) = true := by
  unfold SeqAt.shaped
  simp [PyData.canLay0, PyData.depth]
theorem eqv_i (i : Int) : PyData.eqv (.int i) (.int i) = true := by simp [PyData.eqv]
theorem dp_ls {K : PySem.W.Frag} {H : Hp} {t : Addr} {nm : Str} {i : Int} (e : H t = some (.lst [.str nm, .int i])) : Dp K H (.ref t) (.list [.str nm, .int i]) := .lst (SqL.of e) (.cons (.str nm) (.cons (.int i) .nil))
section
variable {P : Program} {w : World} {K : PySem.W.Frag} {mg : Str → Option Value} {base : Heap} {C CL CS CN : Addr}
theorem scRight : FnScope ["purse", "odd", "bad", "made", "kind", "size", "more", "one", "second", "due"] ["purse"] (defScope sRight) := ⟨rfl, rfl, rfl, by decide +kernel, rfl, by decide +kernel, by decide +kernel⟩
theorem cl_right (D : DefAt K mg "_law_right" sRight) (B : Blt mg) (T : SayTxt K w mg C) (sm : ∃ o, K.lookup sysModules = some o) (cD : Cl CX0 P w K mg base 2 "_law_draw" ["purse", "out_of"] spDraw)
    (cT : Cl CX0 P w K mg base 10 "_law_told" ["kind", "made", "odd"] (spTold K C CL CS CN)) (cR : Cl CX0 P w K mg base 8 "_law_row" ["size"] (spRow K C)) : ClG CX0 P w K mg base 11 "_law_right" ["purse"] spRight := by
  obtain ⟨f, fd, F, hm⟩ := D
  refine ⟨f, fd, okG F scRight (fun vs H Q E h => ?_) (fun cdv A outer s H vs Q E gd hr h => ⟨_, PSs.nox (pss_cons (ps_set (i := 1) scRight.nd rfl (Or.inl rfl) (pe_ix ix_list (pe_lst (pa_cons pe_non (pa_cons pe_bl (pa_cons pe_str (pa_cons pe_str (pa_cons pe_int (pa_cons (pe_tup (pa_cons pe_int pa_nil))
        (pa_cons (pe_lst pa_nil) (pa_cons pe_dnewK (pa_cons pe_str (pa_cons pe_str (pa_cons (pe_tup (pa_cons pe_str (pa_cons pe_str (pa_cons (pe_tup pa_nil) pa_nil)))) (pa_cons pe_str pa_nil))))))))))))) (pe_c0 cD hr (by decide) (by rfl) (pa_cons (pv 0) (pa_cons pe_int pa_nil))) (fun _ _ => rfl)))
      (pss_cons (ps_set (i := 2) scRight.nd rfl (Or.inl rfl) (pe_ix ix_list (pe_lst (pa_cons pe_str (pa_cons pe_str (pa_cons pe_str (pa_cons pe_str (pa_cons pe_int (pa_cons pe_non (pa_cons pe_bl (pa_cons (pe_lst (pa_cons pe_str pa_nil))
        (pa_cons pe_str (pa_cons pe_str (pa_cons pe_str (pa_cons pe_str pa_nil))))))))))))) (pe_c0 cD hr (by decide) (by rfl) (pa_cons (pv 0) (pa_cons pe_int pa_nil))) (fun _ _ => rfl)))
      (pss_cons (ps_set (i := 3) scRight.nd rfl (Or.inl rfl) (pe_c0 cR hr (by decide) (by rfl) (pa_cons (pe_op op_add pe_int (pe_c0 cD hr (by decide) (by rfl) (pa_cons (pv 0) (pa_cons pe_int pa_nil)))) pa_nil)))
      (pss_cons (ps_if (pt_cmpR op_ne (pe_callTy (call_str_dat gd hr.units sm) (by rfl) B.str (by decide +kernel) (pa_cons (pe_c0 cT hr (by decide) (by rfl) (pa_cons pe_int (pa_cons pe_non (pa_cons (pv 2) pa_nil)))) pa_nil))
          (pe_callTy (call_str_dat gd hr.units sm) (by rfl) B.str (by decide +kernel) (pa_cons (pe_lst (pa_cons pe_str (pa_cons (pv 2) pa_nil))) pa_nil)) (nomark _)) (pss_one (ps_ret pe_bl)) pss_nil)
      (pss_cons (ps_for PassesOwn.never rfl (pi_range2 (by rfl) B.range (pa_cons pe_int (pa_cons pe_int pa_nil))) (pg_name (i := 4) scRight.nd rfl (Or.inl rfl))
        (pss_one (ps_if (PW.pt (pw_or (pt_cmpR op_ne (pe_callTy (call_str_dat gd hr.units sm) (by rfl) B.str (by decide +kernel) (pa_cons (pe_c0 cT hr (by decide) (by rfl) (pa_cons (pv 4) (pa_cons (pv 3) (pa_cons (pv 1) pa_nil)))) pa_nil))
          (pe_callTy (call_str_dat gd hr.units sm) (by rfl) B.str (by decide +kernel) (pa_cons (pe_lst (pa_cons pe_str (pa_cons (pv 1) pa_nil))) pa_nil)) (nomark _))
          (pw_or1 (pt_cmpR (op_neD hr.units) (pe_c0 cT hr (by decide) (by rfl) (pa_cons (pv 4) (pa_cons (pv 3) (pa_cons (pv 3) pa_nil)))) (pe_op op_add (pe_op op_mul pe_int (pe_fld (pv 3) rfl)) pe_int) (nomark _))))) (pss_one (ps_ret pe_bl)) pss_nil)))
      (pss_cons (ps_set (i := 5) scRight.nd rfl (Or.inl rfl) (pe_op op_add pe_int (pe_c0 cD hr (by decide) (by rfl) (pa_cons (pv 0) (pa_cons pe_int pa_nil)))))
      (pss_cons (ps_set (i := 6) scRight.nd rfl (Or.inl rfl) (pe_ix ix_list (pe_lst (pa_cons (pe_op op_add pe_int (pe_c0 cD hr (by decide) (by rfl) (pa_cons (pv 0) (pa_cons pe_int pa_nil))))
        (pa_cons (pe_callB (call_max2 rfl) (by rfl) B.max (by decide +kernel) (pa_cons pe_int (pa_cons (pe_op op_add (pe_op op_sub pe_int (pv 5)) (pe_c0 cD hr (by decide) (by rfl) (pa_cons (pv 0) (pa_cons pe_int pa_nil)))) pa_nil))) pa_nil)))
        (pe_c0 cD hr (by decide) (by rfl) (pa_cons (pv 0) (pa_cons pe_int pa_nil))) (fun _ _ => rfl)))
      (pss_cons (ps_par3 (i := 7) (j := 8) (l := 9) (by rfl) scRight.nd rfl rfl rfl (by decide) (by decide) (by decide) rfl rfl rfl
        (pa_cons (pe_c0 cR hr (by decide) (by rfl) (pa_cons (pv 5) pa_nil)) (pa_cons (pe_c0 cR hr (by decide) (by rfl) (pa_cons (pe_callB (call_min2 rfl) (by rfl) B.min (by decide +kernel) (pa_cons (pv 6) (pa_cons pe_int pa_nil))) pa_nil))
          (pa_cons (pe_op op_add (pe_op op_add (pv 5) (pe_callB (call_min2 rfl) (by rfl) B.min (by decide +kernel) (pa_cons (pv 6) (pa_cons pe_int pa_nil)))) pe_int) pa_nil))) (by rfl))
      (pss_cons (ps_set (i := 4) scRight.nd rfl (Or.inl rfl) (pe_op op_add pe_int (pe_c0 cD hr (by decide) (by rfl) (pa_cons (pv 0) (pa_cons pe_int pa_nil)))))
      (pss_cons (ps_if (pt_cmpR (op_neD hr.units) (pe_c0 cT hr (by decide) (by rfl) (pa_cons (pv 4) (pa_cons (pv 7) (pa_cons (pv 8) pa_nil))))
          (pe_ifExp (pt_cmpR op_le (pv 9) pe_int (nomark _)) (pv 9) (pe_lst (pa_cons pe_str (pa_cons (pv 9) pa_nil)))) (nomark _)) (pss_one (ps_ret pe_bl)) pss_nil)
      (pss_cons (ps_set (i := 5) scRight.nd rfl (Or.inl rfl) (pe_op op_add pe_int (pe_c0 cD hr (by decide) (by rfl) (pa_cons (pv 0) (pa_cons pe_int pa_nil)))))
      (pss_one (ps_ret (pe_cmpR (op_eqD hr.units) (pe_c0 cT hr (by decide) (by rfl) (pa_cons pe_int (pa_cons (pe_c0 cR hr (by decide) (by rfl) (pa_cons (pv 5) pa_nil)) (pa_cons pe_non pa_nil))))
        (pe_ifExp (pt_cmpR op_lt (pv 5) pe_int (nomark _)) (pe_op op_add (pv 5) pe_int) (pe_lst (pa_cons pe_str (pa_cons pe_int pa_nil)))) (nomark _))))))))))))))), ?_⟩), hm, F.kp, F.bindsN fun _ _ _ _ _ _ us hl => match us, hl with | [_], _ => rfl⟩
  · obtain ⟨p, c, rfl, _⟩ := h
    rfl
  · obtain ⟨p, c, rfl, h⟩ := h
    have P0 := h.at_
    have c0 := h.lo
    have q := h.fin
    clear h
    -- odd
    refine ⟨(by show 1 ≤ sizeLine; decide), fun t1 n1 => ?_⟩
    obtain ⟨H1, e1, P1, B1, f1⟩ := mk_at (.tup [.int 1]) P0 n1
    rw [e1]
    refine ⟨(by show 0 ≤ sizeLine; decide), fun l2 n2 => ?_⟩
    obtain ⟨H2, e2, P2, B2, f2⟩ := mk_at (.lst []) P1 n2
    rw [e2]
    refine fun d3 n3 => ?_
    obtain ⟨H3, e3, P3, B3, f3⟩ := mk_at (.dK []) P2 n3
    rw [e3]
    refine ⟨(by show 0 ≤ sizeLine; decide), fun t4 n4 => ?_⟩
    obtain ⟨H4, e4, P4, B4, f4⟩ := mk_at (.tup []) P3 n4
    rw [e4]
    refine ⟨(by show 3 ≤ sizeLine; decide), fun t5 n5 => ?_⟩
    obtain ⟨H5, e5, P5, B5, f5⟩ := mk_at (.tup [.str "name", .str "a", .ref t4]) P4 n5
    rw [e5]
    refine ⟨(by show 12 ≤ sizeLine; decide), fun l6 n6 => ?_⟩
    obtain ⟨H6, e6, P6, B6, f6⟩ := mk_at (.lst [.non, .bl true, .str "a", .str "ab", .int 1, .ref t1, .ref l2, .ref d3, .str "", .str "A", .ref t5, .str "a\n"]) P5 n6
    rw [e6]
    have S56 := B5.hide.trans B6.hide
    have S46 := B4.hide.trans S56
    have S36 := B3.hide.trans S46
    have S26 := B2.hide.trans S36
    have A6 : ∀ u ∈ ([.non, .bl true, .str "a", .str "ab", .int 1, .ref t1, .ref l2, .ref d3, .str "", .str "A", .ref t5, .str "a\n"] : List V), Od (hide p H6) u :=
      od_all odN (od_all odB (od_all (od_s _ ⟨by decide +kernel⟩) (od_all (od_s _ ⟨by decide +kernel⟩) (od_all odI (od_all (od1 (S26 _ _ f1)) (od_all (odL0 (S36 _ _ f2)) (od_all (odD0 (S46 _ _ f3))
        (od_all (od_s _ ⟨by decide +kernel⟩) (od_all (od_s _ ⟨by decide +kernel⟩) (od_all (odT3 (B6.hide _ _ f5) (S56 _ _ f4)) (od_all (od_s _ ⟨by decide +kernel⟩) od_none)))))))))))
    refine ⟨_, rfl, p, 12, c, rfl, P6, by omega, by decide, by decide, fun d7 c7 H7 a7 b7 k7 P7 B7 => ?_⟩
    obtain ⟨odd, hodd, modd⟩ := at_mem (xs := [.non, .bl true, .str "a", .str "ab", .int 1, .ref t1, .ref l2, .ref d3, .str "", .str "A", .ref t5, .str "a\n"]) a7 b7
    have O7 : Od (hide p H7) odd := (A6 odd modd).same B7.hide
    refine ⟨l6, _, _, _, rfl, rfl, SqL.of (hide_same _ _ (B7.hide _ _ f6)), hodd, ?_⟩
    refine gn (σ' := [some (.ref p), some odd, none, none, none, none, none, none, none, none]) rfl ?_
    -- bad
    refine ⟨(by show 1 ≤ sizeLine; decide), fun l8 n8 => ?_⟩
    obtain ⟨H8, e8, P8, B8, f8⟩ := mk_at (.lst [.str "a"]) P7 n8
    rw [e8]
    refine ⟨(by show 12 ≤ sizeLine; decide), fun l9 n9 => ?_⟩
    obtain ⟨H9, e9, P9, B9, f9⟩ := mk_at (.lst [.str "ab", .str "", .str "A", .str "1", .int 1, .non, .bl true, .ref l8, .str "a ", .str "{", .str "\n", .str "a\n"]) P8 n9
    rw [e9]
    have A9 : ∀ u ∈ ([.str "ab", .str "", .str "A", .str "1", .int 1, .non, .bl true, .ref l8, .str "a ", .str "{", .str "\n", .str "a\n"] : List V), Od (hide p H9) u :=
      od_all (od_s _ ⟨by decide +kernel⟩) (od_all (od_s _ ⟨by decide +kernel⟩) (od_all (od_s _ ⟨by decide +kernel⟩) (od_all (od_s _ ⟨by decide +kernel⟩) (od_all odI (od_all odN (od_all odB (od_all (odL1 (B9.hide _ _ f8))
        (od_all (od_s _ ⟨by decide +kernel⟩) (od_all (od_s _ ⟨by decide +kernel⟩) (od_all (od_s _ ⟨by decide +kernel⟩) (od_all (od_s _ ⟨by decide +kernel⟩) od_none)))))))))))
    refine ⟨_, rfl, p, 12, c7, rfl, P9, by omega, by decide, by decide, fun d10 c10 H10 a10 b10 k10 P10 B10 => ?_⟩
    obtain ⟨bad, hbad, mbad⟩ := at_mem (xs := [.str "ab", .str "", .str "A", .str "1", .int 1, .non, .bl true, .ref l8, .str "a ", .str "{", .str "\n", .str "a\n"]) a10 b10
    have Y10 : Od (hide p H10) bad := (A9 bad mbad).same B10.hide
    have nlb : NoLet bad := nolet_bad bad mbad
    refine ⟨l9, _, _, _, rfl, rfl, SqL.of (hide_same _ _ (B10.hide _ _ f9)), hbad, ?_⟩
    refine gn (σ' := [some (.ref p), some odd, some bad, none, none, none, none, none, none, none]) rfl ?_
    have O10 : Od (hide p H10) odd := O7.same (B8.hide.trans (B9.hide.trans B10.hide))
    clear A6 A9
    -- made
    refine ⟨_, rfl, p, 9, c10, rfl, P10, by omega, by decide, by decide, fun d11 c11 H11 a11 b11 k11 P11 B11 => ?_⟩
    refine ⟨_, _, rfl, rfl, 1 + d11, rfl, by omega, by omega, ⟨fun a12 tm H12 S12 M12 okm szm => ?_⟩⟩
    refine gn (σ' := [some (.ref p), some odd, some bad, some (.ref a12), none, none, none, none, none, none]) rfl ?_
    have P12 := P11.same S12
    have S10 := B11.hide.trans (Same.but S12).hide
    have O12 := (O10.same S10).same hide_same
    have Y12 := (Y10.same S10).same hide_same
    -- str of what is told of bad
    refine ⟨_, rfl, 0, .non, bad, rfl, told_name Y12.kn nlb fun l13 H13 S13 f13 => ?_⟩
    obtain ⟨db, qb, sb⟩ := (Y12.same S13).dat
    refine ⟨l13, .list [.str "name", db], rfl, .lst f13 (.cons (.str "name") (.cons qb .nil)), small_list2 sb ⟨by decide +kernel⟩ (by decide), ?_⟩
    refine ⟨_, rfl, (by show 2 ≤ sizeLine; decide), fun l14 n14 => ?_⟩
    obtain ⟨H14, e14, S14, f14⟩ := mk_s (.lst [.str "name", bad]) n14
    rw [e14]
    refine ⟨l14, .list [.str "name", db], rfl, .lst f14 (.cons (.str "name") (.cons (Dq.same S14 db bad qb) .nil)), small_list2 sb ⟨by decide +kernel⟩ (by decide), ?_⟩
    refine ⟨rfl, _, rfl, ne_if (decide_eq_true rfl) ?_⟩
    -- the kinds
    have M14 := M12.on (S13.trans S14)
    have O14 := O12.same (S13.trans S14)
    refine ⟨1, 6, rfl, ⟨by decide, by decide, by decide, by decide⟩, for_range (lo := 1) (n := ((6 : Int) - 1).toNat) (fun i σ H' => ∃ v4 : Option V, σ = [some (.ref p), some odd, some bad, some (.ref a12), v4, none, none, none, none, none] ∧ Same H14 H') ⟨none, rfl, .refl _⟩ ?_ ?_⟩
    · rintro i σ G hi ⟨v4, rfl, sG⟩
      refine gn (σ' := [some (.ref p), some odd, some bad, some (.ref a12), some (.int (1 + (i : Int))), none, none, none, none, none]) rfl ?_
      obtain ⟨bk, hbk⟩ : ∃ bk : Bk, (1 : Int) + (i : Int) = Bk.ix bk := by
        have hi5 : i < 5 := hi
        have h5 : i = 0 ∨ i = 1 ∨ i = 2 ∨ i = 3 ∨ i = 4 := by omega
        rcases h5 with rfl | rfl | rfl | rfl | rfl
        · exact ⟨.both, rfl⟩
        · exact ⟨.thn, rfl⟩
        · exact ⟨.lower, rfl⟩
        · exact ⟨.higher, rfl⟩
        · exact ⟨.same, rfl⟩
      have OG := O14.same sG
      have MG := M14.on sG
      refine ⟨_, rfl, _, rfl, _, rfl, 1 + (i : Int), .ref a12, odd, rfl, ?_⟩
      rw [hbk]
      refine told_say bk MG okm OG.kn fun l1 G1 s1 g1 => ?_
      obtain ⟨dd, qd, sd⟩ := (OG.same s1).dat
      refine ⟨l1, .list [.str "saying", dd], rfl, .lst g1 (.cons (.str "saying") (.cons qd .nil)), small_list2 sd ⟨by decide +kernel⟩ (by decide), ?_⟩
      refine ⟨_, rfl, (by show 2 ≤ sizeLine; decide), fun l2 m2 => ?_⟩
      obtain ⟨G2, eG2, s2, g2⟩ := mk_s (.lst [.str "saying", odd]) m2
      rw [eG2]
      refine ⟨l2, .list [.str "saying", dd], rfl, .lst g2 (.cons (.str "saying") (.cons (Dq.same s2 dd odd qd) .nil)), small_list2 sd ⟨by decide +kernel⟩ (by decide), ?_⟩
      refine ⟨rfl, _, rfl, ne_if (decide_eq_true rfl) ?_⟩
      have M2 := MG.on (s1.trans s2)
      refine ⟨_, rfl, _, rfl, _, rfl, Bk.ix bk, .ref a12, .ref a12, rfl, told_two (by rw [← hbk]; omega) (by have : i < 5 := hi; rw [← hbk]; omega) M2 okm M2 okm (fun c => absurd c (by omega)) fun _ G3 s3 => ?_⟩
      obtain ⟨dx, pp, qq, ee, _⟩ := (M2.on s3).face.ex
      refine ⟨_, rfl, a12, C, dx, _, _, rfl, ee, T.cl, T.nS, rfl, ?_⟩
      refine ⟨_, _, rfl, rfl, .inl ⟨by decide, by decide⟩, _, _, rfl, rfl, ?_⟩
      have ev : (2 : Int) * (tm.size : Int) + 1 = ((tm.size + tm.size + 1 : Nat) : Int) := by omega
      refine ⟨_, _, .int _, dq_dp (congrArg V.int ev), shp_i _, shp_i _, _, rfl, ne_if (eqv_i _) ?_⟩
      exact ⟨_, rfl, sG.trans (s1.trans (s2.trans s3))⟩
    · rintro σ H15 ⟨v4, rfl, S15⟩
      have P15 := ((P12.same S13).same S14).same S15
      have B15 : But p H H15 := (((((((B1.trans B2).trans B3).trans B4).trans B5).trans B6).trans B7).trans B8).trans (B9.trans (B10.trans (B11.trans (Same.but (S12.trans (S13.trans (S14.trans S15)))))))
      -- size
      refine ⟨_, rfl, p, 200, c11, rfl, P15, by omega, by decide, by decide, fun d16 c16 H16 a16 b16 k16 P16 B16 => ?_⟩
      refine ⟨_, _, rfl, rfl, ?_⟩
      obtain ⟨z, hz, z1, z2⟩ : ∃ z : Nat, (1 : Int) + d16 = (z : Int) ∧ 1 ≤ z ∧ z ≤ 200 := ⟨(1 + d16).toNat, by omega, by omega, by omega⟩
      refine gn (σ' := [some (.ref p), some odd, some bad, some (.ref a12), v4, some (.int z), none, none, none, none]) (by rw [← hz]; rfl) ?_
      -- more
      refine ⟨_, rfl, p, 200, c16, rfl, P16, by omega, by decide, by decide, fun d17 c17 H17 a17 b17 k17 P17 B17 => ?_⟩
      refine ⟨_, _, rfl, rfl, ?_⟩
      refine ⟨_, rfl, _, _, rfl, rfl, _, rfl, p, 4, c17, rfl, P17, by omega, by decide, by decide, fun d18 c18 H18 a18 b18 k18 P18 B18 => ?_⟩
      refine ⟨_, _, rfl, rfl, _, _, rfl, (by show 2 ≤ sizeLine; decide), fun l19 n19 => ?_⟩
      obtain ⟨mx, hmx⟩ : ∃ mx : Int, (if 198 - (z : Int) + d18 > 1 then 198 - (z : Int) + d18 else 1) = mx := ⟨_, rfl⟩
      have mx1 : 1 ≤ mx ∧ mx ≤ 200 := by
        rw [← hmx]
        split <;> omega
      obtain ⟨H19, e19, P19, B19, f19⟩ := mk_at (.lst [.int (1 + d17), .int mx]) P18 n19
      rw [← hmx] at e19
      rw [e19]
      refine ⟨_, rfl, p, 2, c18, rfl, P19, by omega, by decide, by decide, fun d20 c20 H20 a20 b20 k20 P20 B20 => ?_⟩
      obtain ⟨mo, hmo, mo1, mo2⟩ : ∃ mo : Nat, atI [V.int (1 + d17), .int mx] d20 = some (.int mo) ∧ 1 ≤ mo ∧ mo ≤ 200 := by
        have hd : d20 = 0 ∨ d20 = 1 := by omega
        rcases hd with rfl | rfl
        · exact ⟨(1 + d17).toNat, by rw [show (((1 + d17).toNat : Nat) : Int) = 1 + d17 by omega]; rfl, by omega, by omega⟩
        · exact ⟨mx.toNat, by rw [show ((mx.toNat : Nat) : Int) = mx by omega]; rfl, by omega, by omega⟩
      refine ⟨l19, _, _, _, rfl, rfl, SqL.of (hide_same _ _ (B20.hide _ _ f19)), hmo, ?_⟩
      refine gn (σ' := [some (.ref p), some odd, some bad, some (.ref a12), v4, some (.int z), some (.int mo), none, none, none]) rfl ?_
      have B20' := B15.trans (B16.trans (B17.trans (B18.trans (B19.trans B20))))
      -- one, second, due
      have emin : (if (200 : Int) < (mo : Int) then (200 : Int) else (mo : Int)) = (mo : Int) := if_neg (by omega)
      refine ⟨_, rfl, (z : Int), rfl, by omega, by omega, ⟨fun a21 t1 H21 S21 N21 ok21 sz21 => ?_⟩⟩
      refine ⟨_, rfl, _, _, rfl, (mo : Int), congrArg (fun x => [V.int x]) emin, by omega, by omega, ⟨fun a22 t2 H22 S22 N22 ok22 sz22 => ?_⟩⟩
      refine ⟨_, rfl, _, rfl, _, _, rfl, _, _, rfl, rfl, _, _, rfl, rfl, _, _, _, rfl, ?_⟩
      have edue : (z : Int) + (if (200 : Int) < (mo : Int) then (200 : Int) else (mo : Int)) + 1 = ((z + mo + 1 : Nat) : Int) := by rw [emin]; omega
      rw [show (List.set (List.set (List.set [some (.ref p), some odd, some bad, some (.ref a12), v4, some (.int (z : Int)), some (.int (mo : Int)), none, none, none] 7 (some (V.ref a21))) 8 (some (.ref a22))) 9 (some (.int ((z : Int) + (if (200 : Int) < (mo : Int) then (200 : Int) else (mo : Int)) + 1))) : L2.St)
        = [some (.ref p), some odd, some bad, some (.ref a12), v4, some (.int z), some (.int mo), some (.ref a21), some (.ref a22), some (.int ((z + mo + 1 : Nat) : Int))] from by rw [edue]; rfl]
      have S212 := S21.trans S22
      have P22 := P20.same S212
      -- kind
      refine ⟨_, rfl, p, 7, c20, rfl, P22, by omega, by decide, by decide, fun d23 c23 H23 a23 b23 k23 P23 B23 => ?_⟩
      refine ⟨_, _, rfl, rfl, ?_⟩
      refine gn (σ' := [some (.ref p), some odd, some bad, some (.ref a12), some (.int (1 + d23)), some (.int z), some (.int mo), some (.ref a21), some (.ref a22), some (.int ((z + mo + 1 : Nat) : Int))]) rfl ?_
      have M1 := say_but P22 B23 (N21.on S22)
      have M2 := say_but P22 B23 N22
      have e1 : t1.size = z := by omega
      have e2 : t2.size = mo := by omega
      refine ⟨_, rfl, _, rfl, _, rfl, 1 + d23, .ref a21, .ref a22, rfl, ?_⟩
      refine told_two (by omega) (by omega) M1 ok21 M2 ok22 (fun big l24 H24 S24 f24 => ?_) (fun fit H24 S24 => ?_)
      · rw [e1, e2] at big f24
        refine ⟨_, rfl, _, _, rfl, rfl, _, rfl, ?_⟩
        rw [decide_eq_false (show ¬ ((z + mo + 1 : Nat) : Int) ≤ 200 by omega)]
        refine iteF ⟨_, rfl, (by show 2 ≤ sizeLine; decide), fun l25 n25 => ?_⟩
        obtain ⟨H25, e25, S25, f25⟩ := mk_s (.lst [.str "large", .int ((z + mo + 1 : Nat) : Int)]) n25
        rw [e25]
        refine ⟨_, _, dp_ls (S25 _ _ f24), dp_ls f25, shp_ls _, shp_ls _, _, rfl, ne_if (eqv_ls _) ?_⟩
        have PG := (P23.same S24).same S25
        have BG : But p H H25 := (B20'.trans (Same.but S212)).trans (B23.trans (Same.but (S24.trans S25)))
        refine ⟨_, rfl, p, 3, c23, rfl, PG, by omega, by decide, by decide, fun d26 c26 H26 a26 b26 k26 P26 B26 => ?_⟩
        refine ⟨_, _, rfl, rfl, ?_⟩
        obtain ⟨y, hy, y1, y2⟩ : ∃ y : Nat, (198 : Int) + d26 = (y : Int) ∧ 198 ≤ y ∧ y ≤ 200 := ⟨(198 + d26).toNat, by omega, by omega, by omega⟩
        refine gn (σ' := [some (.ref p), some odd, some bad, some (.ref a12), some (.int (1 + d23)), some (.int y), some (.int mo), some (.ref a21), some (.ref a22), some (.int ((z + mo + 1 : Nat) : Int))]) (by rw [← hy]; rfl) ?_
        refine ⟨_, rfl, (y : Int), rfl, by omega, by omega, ⟨fun a27 t27 H27 S27 N27 ok27 sz27 => ?_⟩⟩
        have P27 := P26.same S27
        have B27 := BG.trans (B26.trans (Same.but S27))
        have ey : t27.size = y := by omega
        refine ⟨8, .ref a27, .non, rfl, told_not N27 ok27 (fun big l28 H28 S28 f28 => ?_) (fun fit H28 S28 => ?_)⟩
        · rw [ey] at big f28
          have y200 : y = 200 := by omega
          subst y200
          refine ⟨_, rfl, _, _, rfl, rfl, _, rfl, iteF ?_⟩
          refine ⟨(by show 2 ≤ sizeLine; decide), fun l29 n29 => ?_⟩
          obtain ⟨H29, e29, S29, f29⟩ := mk_s (.lst [.str "large", .int 201]) n29
          rw [e29]
          refine ⟨_, _, dp_ls (S29 _ _ f28), dp_ls f29, shp_ls _, shp_ls _, ?_⟩
          rw [show ((200 + 1 : Nat) : Int) = 201 from rfl, eqv_ls]
          exact q c26 _ (by omega) ((P27.same S28).same S29) (B27.trans (Same.but (S28.trans S29)))
        · rw [ey] at fit ⊢
          refine ⟨_, rfl, _, _, rfl, rfl, _, rfl, ?_⟩
          rw [decide_eq_true (show (y : Int) < 200 by omega)]
          refine iteT ⟨_, rfl, _, _, rfl, rfl, ?_⟩
          refine ⟨_, .int ((y + 1 : Nat) : Int), .int _, dq_dp (congrArg V.int (by omega)), shp_i _, shp_i _, ?_⟩
          rw [eqv_i]
          exact q c26 _ (by omega) (P27.same S28) (B27.trans (Same.but S28))
      · rw [e1, e2] at fit ⊢
        refine ⟨_, rfl, _, _, rfl, rfl, _, rfl, ?_⟩
        rw [decide_eq_true (show ((z + mo + 1 : Nat) : Int) ≤ 200 by omega)]
        refine iteT ⟨_, rfl, ?_⟩
        refine ⟨_, _, .int _, .int _, shp_i _, shp_i _, _, rfl, ne_if (eqv_i _) ?_⟩
        have PG := P23.same S24
        have BG : But p H H24 := (B20'.trans (Same.but S212)).trans (B23.trans (Same.but S24))
        refine ⟨_, rfl, p, 3, c23, rfl, PG, by omega, by decide, by decide, fun d26 c26 H26 a26 b26 k26 P26 B26 => ?_⟩
        refine ⟨_, _, rfl, rfl, ?_⟩
        obtain ⟨y, hy, y1, y2⟩ : ∃ y : Nat, (198 : Int) + d26 = (y : Int) ∧ 198 ≤ y ∧ y ≤ 200 := ⟨(198 + d26).toNat, by omega, by omega, by omega⟩
        refine gn (σ' := [some (.ref p), some odd, some bad, some (.ref a12), some (.int (1 + d23)), some (.int y), some (.int mo), some (.ref a21), some (.ref a22), some (.int ((z + mo + 1 : Nat) : Int))]) (by rw [← hy]; rfl) ?_
        refine ⟨_, rfl, (y : Int), rfl, by omega, by omega, ⟨fun a27 t27 H27 S27 N27 ok27 sz27 => ?_⟩⟩
        have P27 := P26.same S27
        have B27 := BG.trans (B26.trans (Same.but S27))
        have ey : t27.size = y := by omega
        refine ⟨8, .ref a27, .non, rfl, told_not N27 ok27 (fun big l28 H28 S28 f28 => ?_) (fun fit H28 S28 => ?_)⟩
        · rw [ey] at big f28
          have y200 : y = 200 := by omega
          subst y200
          refine ⟨_, rfl, _, _, rfl, rfl, _, rfl, iteF ?_⟩
          refine ⟨(by show 2 ≤ sizeLine; decide), fun l29 n29 => ?_⟩
          obtain ⟨H29, e29, S29, f29⟩ := mk_s (.lst [.str "large", .int 201]) n29
          rw [e29]
          refine ⟨_, _, dp_ls (S29 _ _ f28), dp_ls f29, shp_ls _, shp_ls _, ?_⟩
          rw [show ((200 + 1 : Nat) : Int) = 201 from rfl, eqv_ls]
          exact q c26 _ (by omega) ((P27.same S28).same S29) (B27.trans (Same.but (S28.trans S29)))
        · rw [ey] at fit ⊢
          refine ⟨_, rfl, _, _, rfl, rfl, _, rfl, ?_⟩
          rw [decide_eq_true (show (y : Int) < 200 by omega)]
          refine iteT ⟨_, rfl, _, _, rfl, rfl, ?_⟩
          refine ⟨_, .int ((y + 1 : Nat) : Int), .int _, dq_dp (congrArg V.int (by omega)), shp_i _, shp_i _, ?_⟩
          rw [eqv_i]
          exact q c26 _ (by omega) (P27.same S28) (B27.trans (Same.but S28))
end
end G1
set_option maxHeartbeats 16000000
namespace G1
open PySem PySem.Spec PyProof.Rows L2 SY TXS OW
/-- text * int -/
theorem op_mulS {X : Cx} : OpR X (binaryOp .Mult) (fun x y H Q => ∃ (z : Str) (n : Int), x = .str z ∧ y = .int n ∧ MulOk z n ∧ Q (.str (Txt.mul z n)) H) := by
  intro pn st sl H x y v u Q I r1 r2 ask
  obtain ⟨z, n, rfl, rfl, ok, q⟩ := ask
  obtain ⟨t1, rfl⟩ := r1
  obtain ⟨t2, rfl⟩ := r2
  exact SB.mul ok fun _ _ => ⟨.str (Txt.mul z n), H, I.tok _, ⟨_, rfl⟩, q⟩
/-! ### z denied over and over -/
def denT : Nat → Sy
  | 0 => .nm 122
  | n + 1 => .den (denT n)
theorem denT_ok : ∀ n, (denT n).ok
  | 0 => by show 97 ≤ 122 ∧ 122 ≤ 122; decide
  | n + 1 => denT_ok n
theorem denT_size : ∀ n, (denT n).size = n + 1
  | 0 => rfl
  | n + 1 => congrArg (· + 1) (denT_size n)
theorem denT_len : ∀ n, (denT n).text.length = 4 * n + 1
  | 0 => rfl
  | n + 1 => by
    show ((Str.empty ++ "not ") ++ (denT n).text).length = _
    rw [slen, slen, denT_len n]
    have e1 : Str.empty.length = 0 := rfl
    have e2 : ("not " : Str).length = 4 := by decide
    omega
theorem denT_post : ∀ n, post (denT n) = (List.range (n + 1)).map denT
  | 0 => rfl
  | n + 1 => by
    show post (denT n) ++ [denT (n + 1)] = _
    rw [denT_post n, List.range_succ (n := n + 1), List.map_append]
    rfl
theorem uniq_of : ∀ (ts acc : List Sy), (acc ++ ts).Pairwise (fun a b => a.text ≠ b.text) → ts.foldl addU acc = acc ++ ts
  | [], acc, _ => by rw [List.append_nil]; rfl
  | t :: ts, acc, h => by
    have e : acc ++ t :: ts = (acc ++ [t]) ++ ts := by simp
    have no : acc.any (fun v => decide (v.text = t.text)) = false := by
      rw [List.any_eq_false]
      intro v hv z
      exact (List.pairwise_append.mp h).2.2 v hv t List.mem_cons_self (of_decide_eq_true z)
    rw [List.foldl_cons, addU_new no, uniq_of ts (acc ++ [t]) (e ▸ h), e]
theorem denT_uniq (n : Nat) : uniq (post (denT n)) = (List.range (n + 1)).map denT := by
  unfold uniq
  rw [uniq_of _ [] ?_, List.nil_append, denT_post]
  rw [List.nil_append, denT_post]
  refine List.pairwise_map.mpr (List.Pairwise.imp_of_mem (R := fun a b => a < b) (fun {a b} _ _ hlt z => ?_) List.pairwise_lt_range)
  have z' := congrArg Str.length z
  rw [denT_len, denT_len] at z'
  omega
theorem fold_codes (x : Array Nat) : ∀ (n : Nat) (acc : Array Nat), ((List.replicate n x).foldl (· ++ ·) acc).toList = acc.toList ++ (List.replicate n x.toList).flatten
  | 0, acc => by simp
  | n + 1, acc => by
    rw [List.replicate_succ, List.foldl_cons, fold_codes x n, List.replicate_succ, List.flatten_cons, Array.toList_append, List.append_assoc]
theorem den_codes : ∀ n, (denT n).text.cps.toList = (List.replicate n ("not " : Str).cps.toList).flatten ++ [122]
  | 0 => rfl
  | n + 1 => by
    have e : (denT (n + 1)).text.cps.toList = ("not " : Str).cps.toList ++ (denT n).text.cps.toList := by
      show (((Str.empty ++ "not ") ++ (denT n).text : Str)).cps.toList = _
      exact Array.toList_append
    rw [e, den_codes n, List.replicate_succ, List.flatten_cons, List.append_assoc]
theorem den_mul : Txt.mul "not " 199 ++ "z" = (denT 199).text := by
  have e1 : Txt.mul "not " 199 = ⟨(List.replicate 199 ("not " : Str).cps).foldl (· ++ ·) #[]⟩ := rfl
  have e2 : (Txt.mul "not " 199 ++ "z" : Str).cps.toList = (denT 199).text.cps.toList := by
    rw [e1, den_codes]
    refine (Array.toList_append ..).trans ?_
    rw [fold_codes]
    rfl
  have e3 : (Txt.mul "not " 199 ++ "z" : Str).cps = (denT 199).text.cps := Array.toList_inj.mp e2
  generalize Txt.mul "not " 199 ++ "z" = x at e3
  generalize (denT 199).text = y at e3
  cases x
  cases y
  exact congrArg Str.mk e3
theorem mul_ok : MulOk "not " 199 := by
  refine ⟨by decide +kernel, fun _ _ => by decide +kernel, fun _ _ => by decide +kernel⟩
section
variable {K : PySem.W.Frag} {C CL CS CN : Addr} {H : Hp} {Q : VK} {m : V}
theorem told_nm {c : Nat} (ok : (Sy.nm c).ok) (k : ∀ H', Same H H' → Q (.int 1) H') : ToldP K C CL CS CN 0 m (.str (one c)) H Q :=
  ⟨.name ⟨.inl ⟨c, rfl, ok, told_new (s := .nm c) (fun z => absurd z (show ¬ 200 < 1 by decide)) fun _ => k⟩⟩⟩
theorem ones_dp {K : PySem.W.Frag} {H : Hp} : ∀ n, DpAll K H (List.replicate n (.int 1)) (List.replicate n (.int 1))
  | 0 => .nil
  | n + 1 => .cons (.int 1) (ones_dp n)
end
abbrev dOnes : PyData := .list (List.replicate 26 (.int 1))
theorem shp_ones : SeqAt.shaped dOnes = true := by decide +kernel
theorem eqv_ones : PyData.eqv dOnes dOnes = true := by decide +kernel
def spLawR (K : PySem.W.Frag) : Sp := fun vs H Q _ => ∃ (a : Addr) (ns : List Int), vs = [.ref a] ∧ SqL K H a (ns.map V.int) ∧ ns.length ≤ 63 ∧ ∀ H', Q (.bl true) H'
end G1
set_option maxHeartbeats 16000000
namespace G1
open PySem PySem.Spec PyProof.Rows L2 SY TXS OW
section
variable {P : Program} {w : World} {K : PySem.W.Frag} {mg : Str → Option Value} {base : Heap} {C CL CS CN : Addr}
theorem letters_ok : ∀ c ∈ ("abcdefghijklmnopqrstuvwxyz" : Str).cps.toList, 97 ≤ c ∧ c ≤ 122 := by decide +kernel
theorem den_sub {H : Hp} {t : Sy} {a : Addr} (h : SayAt K C H (.den t) a) : ∃ dx p q b, H a = some (.ins C dx ((Sy.den t).fields p q)) ∧ SqT K H p [.ref b] ∧ SayAt K C H t b := by
  obtain ⟨dx, p, q, b, e, _, e2, r⟩ := h
  exact ⟨dx, p, q, b, e, e2, r⟩
theorem scLaw : FnScope ["script", "at", "purse", "turn", "deep", "letter"] ["script"] (defScope sLaw) := ⟨rfl, rfl, rfl, by decide +kernel, rfl, by decide +kernel, by decide +kernel⟩
theorem ok_law {f : Addr} {fd : FuncData} (F : FnP K "law" sLaw f fd) (B : Blt mg) (T : SayTxt K w mg C) (M : Maker P w K mg base C CL) (cP : Cl CX0 P w K mg base 1 "_law_purse" ["cells", "at"] (spPurse K)) (cR : ClG CX0 P w K mg base 11 "_law_right" ["purse"] spRight)
    (cN : Cl (L2.CX P w) P w K mg base 6 "named" ["name"] (spNamed K C CL CN)) (cT : Cl CX0 P w K mg base 10 "_law_told" ["kind", "made", "odd"] (spTold K C CL CS CN)) : FnG CX0 P w K mg base 12 f fd ["script"] (spLawR K) := by
  obtain ⟨fi, Mi, Fi⟩ := ok_inv (P := P) (w := w) (mg := mg) (base := base) T M
  obtain ⟨fd2, g2, M2, F2, b2⟩ := ok_den T M
  obtain ⟨fe, Me, Fe⟩ := ok_eq (P := P) (base := base) T B
  obtain ⟨fs, s1, s2, FS⟩ := ok_str (P := P) (base := base) T B
  obtain ⟨fp, gp, Mp, Fp, bp⟩ := ok_parts (P := P) (base := base) T B
  refine okG F scLaw (fun vs H Q E h => ?_) (fun cdv A outer s H vs Q E gd hr h => ⟨_, PSs.nox (pss_cons
      (ps_for PassesOwn.never rfl (pi_range1 (by rfl) B.range (pa_cons (pe_op op_add pe_int (pe_callB (call_min2 rfl) (by rfl) B.min (by decide +kernel) (pa_cons pe_int (pa_cons (pe_callB call_len_seq (by rfl) B.len PySem.boot_len (pa_cons (pv 0) pa_nil)) pa_nil)))) pa_nil)) (pg_name (i := 1) scLaw.nd rfl (Or.inl rfl))
        (pss_cons (ps_set (i := 2) scLaw.nd rfl (Or.inl rfl) (pe_c0 cP hr (by decide) (by rfl) (pa_cons (pv 0) (pa_cons (pv 1) pa_nil))))
        (pss_one (ps_for PassesOwn.never rfl (pi_range1 (by rfl) B.range (pa_cons pe_int pa_nil)) (pg_name (i := 3) scLaw.nd rfl (Or.inl rfl))
          (pss_one (ps_if (pt_not (pt_val (pe_cG cR gd hr (by decide) (by rfl) (pa_cons (pv 2) pa_nil)))) (pss_one (ps_ret pe_bl)) pss_nil))))))
      (pss_cons (ps_set (i := 4) scLaw.nd rfl (Or.inl rfl) (pe_cX cN hr (by decide) (by rfl) (pa_cons pe_str pa_nil)))
      (pss_cons (ps_for PassesOwn.never rfl (pi_range1 (by rfl) B.range (pa_cons pe_int pa_nil)) (pg_name (i := 3) scLaw.nd rfl (Or.inl rfl))
        (pss_one (ps_set (i := 4) scLaw.nd rfl (Or.inl rfl) (pe_un (un_invO (E := E0) Mi.at_ Mi.fn Fi (hr.mono (by decide)) passL) (pv 4)))))
      (pss_cons (ps_if (PW.pt (pw_or (pt_cmpR op_ne (pe_fld (pv 4) rfl) pe_int (nomark _))
          (pw_or (pt_cmpR op_ne (pe_callTy (call_strOwn s1 s2 FS (hr.mono (by decide)) pass0) (by rfl) B.str (by decide +kernel) (pa_cons (pv 4) pa_nil)) (pe_op op_add_str (pe_op op_mulS pe_str pe_int) pe_str) (nomark _))
          (pw_or1 (pt_cmpR (op_neO (E := E0) Me.at_ Me.fn T.ow.ne T.ow.mo Fe (hr.mono (by decide)) pass0) (pv 4) (pe_meth0 (E := E0) (pe_ix ix_tup (pe_fld (pv 4) rfl) pe_int (fun _ _ => rfl)) T.cl M2 F2 (hr.mono (by decide)) b2 .nil passL) (nomark _))))))
        (pss_one (ps_ret pe_bl)) pss_nil)
      (pss_cons (ps_for PassesOwn.never rfl (pi_range1 (by rfl) B.range (pa_cons pe_int pa_nil)) (pg_name (i := 3) scLaw.nd rfl (Or.inl rfl))
        (pss_one (ps_set (i := 4) scLaw.nd rfl (Or.inl rfl) (pe_ix ix_tup (pe_fld (pv 4) rfl) pe_int (fun _ _ => rfl)))))
      (pss_cons (ps_if (pt_cmpR op_ne (pe_callB call_len_seq (by rfl) B.len PySem.boot_len (pa_cons (pe_meth0 (E := E0) (pv 4) T.cl Mp Fp (hr.mono (by decide)) bp .nil pass0) pa_nil)) pe_int (nomark _)) (pss_one (ps_ret pe_bl)) pss_nil)
      (pss_one (ps_ret (pe_cmpR (op_eqD hr.units) (pe_lc (own := [("letter", 5)]) (g := gName 5) (tt := tYes) (te := tCall (spTold K C CL CS CN) [] E0 (tCons (tC (.int 0)) (tCons (tC .non) (tCons (tVar 5) tNil)))) (by rfl) scLaw.nd (pi_str pe_str) (blkOk_by (N := ["script", "at", "purse", "turn", "deep", "letter"]) (sc := defScope sLaw) (by decide +kernel))
          (fun _ _ _ _ _ => pg_name (i := 5) scLaw.nd rfl (Or.inl rfl)) (fun _ _ _ _ _ => pts_nil) (fun _ _ _ _ _ => pe_c0 cT hr (by decide) (by rfl) (pa_cons pe_int (pa_cons pe_non (pa_cons (pv 5) pa_nil)))))
        (pe_op op_rep (pe_lst (pa_cons pe_int pa_nil)) pe_int) (nomark _)))))))))), ?_⟩)
  · obtain ⟨a, ns, rfl, _⟩ := h
    rfl
  · obtain ⟨a, ns, rfl, hS, hn, q⟩ := h
    obtain ⟨m, hm, hm8⟩ : ∃ m : Nat, (1 : Int) + (if ((ns.map V.int).length : Int) < 8 then ((ns.map V.int).length : Int) else 8) = (m : Int) ∧ m ≤ 9 := by
      refine ⟨((1 : Int) + (if ((ns.map V.int).length : Int) < 8 then ((ns.map V.int).length : Int) else 8)).toNat, ?_, ?_⟩ <;> split <;> omega
    refine ⟨_, rfl, a, _, rfl, .inl hS, _, _, rfl, _, _, rfl, rfl, m, congrArg (fun z => [V.int z]) hm, by omega, by omega, ?_⟩
    refine for_range (lo := 0) (n := (m : Int).toNat) (fun i σ H' => ∃ v1 v2 v3 : Option V, σ = [some (.ref a), v1, v2, v3, none, none] ∧ Same H H') ⟨none, none, none, rfl, .refl _⟩ ?_ ?_
    · rintro i σ H' hi ⟨v1, v2, v3, rfl, s1⟩
      refine gn (σ' := [some (.ref a), some (.int (0 + (i : Int))), v2, v3, none, none]) rfl ?_
      refine ⟨_, rfl, _, rfl, a, ns, _, rfl, s1.seq hS, by omega, by omega, fun p H1 n1 s2 P1 => ?_⟩
      refine gn (σ' := [some (.ref a), some (.int (0 + (i : Int))), some (.ref p), v3, none, none]) rfl ?_
      refine ⟨3, rfl, by decide, by decide, for_range (lo := 0) (n := 3) (fun j σ H2 => ∃ (c : Int) (v : Option V), σ = [some (.ref a), some (.int (0 + (i : Int))), some (.ref p), v, none, none] ∧ Same H' H2 ∧ PurseAt H2 p c ∧ c ≤ 9000 + 100 * j) ⟨_, v3, rfl, s2, P1, by omega⟩ ?_ ?_⟩
      · rintro j σ H2 hj ⟨c, v, rfl, s3, P2, hc⟩
        refine ⟨_, rfl, p, c, rfl, ⟨P2, by omega, fun c' H3 hc' P3 B3 => ⟨_, rfl, iteF ?_⟩⟩⟩
        refine ⟨c', _, rfl, fun b o e => B3 b o (ne_of_none e n1) (s3 b o e), P3, by omega⟩
      · rintro σ H2 ⟨c, v, rfl, s3, P2, hc⟩
        exact ⟨_, _, _, rfl, s1.trans s3⟩
    · rintro σ H' ⟨v1, v2, v3, rfl, s1'⟩
      refine ⟨.str (one 122), rfl, ⟨.inl ⟨122, rfl, denT_ok 0, ⟨fun c => absurd c (by decide), fun _ z0 H1 S1 _ h1 => ?_⟩⟩⟩⟩
      refine gn (σ' := [some (.ref a), v1, v2, v3, some (.ref z0), none]) rfl ?_
      refine ⟨199, rfl, by decide, by decide, for_range (lo := 0) (n := 199) (fun i σ G => ∃ (v : Option V) (x : Addr), σ = [some (.ref a), v1, v2, v, some (.ref x), none] ∧ SayAt K C G (denT i) x) ⟨v3, z0, rfl, h1⟩ ?_ ?_⟩
      · rintro i σ G hi ⟨v, x, rfl, hx⟩
        refine gn (σ' := [some (.ref a), v1, v2, some (.int (0 + (i : Int))), some (.ref x), none]) rfl ?_
        obtain ⟨dx, pp, qq, ee, _⟩ := hx.face.ex
        have sz : (denT (i + 1)).size ≤ 200 := by rw [denT_size]; omega
        refine ⟨_, rfl, x, dx, _, rfl, ee, x, denT i, rfl, hx, denT_ok i, ⟨fun c => absurd c (Nat.not_lt.mpr sz), fun _ y G2 S2 _ h2 => ?_⟩⟩
        exact gn (σ' := [some (.ref a), v1, v2, some (.int (0 + (i : Int))), some (.ref y), none]) rfl ⟨_, y, rfl, h2⟩
      · rintro σ G ⟨v, x, rfl, hx⟩
        have ok8 := denT_ok 198
        have sz8 := denT_size 198
        have tx8 : (Sy.den (denT 198)).text = Txt.mul "not " 199 ++ "z" := den_mul.symm
        have hx8 : SayAt K C G (Sy.den (denT 198)) x := hx
        obtain ⟨t8, h8⟩ : ∃ t8, denT 198 = t8 := ⟨_, rfl⟩
        rw [h8] at ok8 sz8 tx8 hx8
        clear hx
        obtain ⟨dx, pp, qq, b, ee, ep, hb⟩ := den_sub hx8
        have szd : (Sy.den t8).size = 200 := by rw [show (Sy.den t8).size = t8.size + 1 from rfl, sz8]
        refine ⟨_, rfl, x, C, dx, _, _, rfl, ee, T.cl, T.nS, rfl, rfl, _, rfl, ?_⟩
        rw [szd]
        refine iteF ?_
        refine ⟨_, rfl, x, dx, _, rfl, ee, x, .den t8, rfl, hx8.face, _, rfl, ?_⟩
        refine ⟨_, _, rfl, rfl, mul_ok, _, _, rfl, rfl, ?_⟩
        have ml : (Txt.mul "not " 199).length + ("z" : Str).length ≤ sizeLine := by
          have h1 := slen (Txt.mul "not " 199) "z"
          have h2 := Sy.text_len (.den t8)
          rw [← tx8] at h1
          rw [sizeLine_eq]
          omega
        generalize Txt.mul "not " 199 = mz at tx8 ml ⊢
        refine ⟨ml, rfl, _, rfl, ne_if (decide_eq_true (congrArg V.str tx8)) ?_⟩
        refine ⟨_, rfl, _, rfl, x, C, dx, _, _, rfl, ee, T.cl, T.nP, rfl, pp, _, _, _, rfl, rfl, ep, atI_nat (j := 0) rfl, ?_⟩
        obtain ⟨db, pb, qb, eb, _⟩ := hb.face.ex
        refine ⟨b, db, _, rfl, eb, rfl, b, t8, rfl, hb, ok8, ⟨fun c => absurd c (by rw [szd]; decide), fun _ y G2 S2 _ h2 => ?_⟩⟩
        obtain ⟨dy, py, qy, ey, _⟩ := h2.face.ex
        refine ⟨x, dx, _, y, dy, _, rfl, rfl, S2 _ _ ee, ey, x, y, .den t8, .den t8, rfl, (hx8.on S2).face, h2.face, ?_⟩
        refine ⟨_, rfl, _, rfl, ?_⟩
        rw [decide_eq_true (rfl : V.str (Sy.den t8).text = V.str (Sy.den t8).text)]
        refine iteF ?_
        have hx2 := hx8.on S2
        clear ml tx8
        -- the pieces
        refine ⟨150, rfl, by decide, by decide, for_range (lo := 0) (n := 150) (fun i σ G => ∃ (v : Option V) (x : Addr), σ = [some (.ref a), v1, v2, v, some (.ref x), none] ∧ SayAt K C G (denT (199 - i)) x) ⟨v, x, rfl, ?_⟩ ?_ ?_⟩
        · rw [show (199 - 0 : Nat) = 198 + 1 from rfl]
          show SayAt K C G2 (.den (denT 198)) x
          rw [h8]
          exact hx2
        · rintro i σ G3 hi ⟨v, x3, rfl, h3⟩
          refine gn (σ' := [some (.ref a), v1, v2, some (.int (0 + (i : Int))), some (.ref x3), none]) rfl ?_
          have e3 : 199 - i = (198 - i) + 1 := by omega
          rw [e3] at h3
          obtain ⟨dx3, pp3, qq3, b3, ee3, ep3, hb3⟩ := den_sub (t := denT (198 - i)) h3
          refine ⟨_, rfl, x3, C, dx3, _, _, rfl, ee3, T.cl, T.nP, rfl, pp3, _, _, _, rfl, rfl, ep3, atI_nat (j := 0) rfl, ?_⟩
          refine gn (σ' := [some (.ref a), v1, v2, some (.int (0 + (i : Int))), some (.ref b3), none]) rfl ⟨_, b3, rfl, ?_⟩
          rw [show 199 - (i + 1) = 198 - i by omega]
          exact hb3
        · rintro σ G3 ⟨v, x3, rfl, h3⟩
          have h49 : SayAt K C G3 (denT 49) x3 := h3
          have sz49 : (denT 49).size ≤ 1000 := by rw [denT_size]; decide
          have uq : (uniq (post (denT 49))).length = 50 := by rw [denT_uniq, List.length_map, List.length_range]
          clear h3
          obtain ⟨t49, e49⟩ : ∃ t, denT 49 = t := ⟨_, rfl⟩
          rw [e49] at h49 sz49 uq
          obtain ⟨dx3, pp3, qq3, ee3, _⟩ := h49.face.ex
          refine ⟨_, rfl, x3, dx3, _, rfl, ee3, rfl, x3, t49, rfl, h49, sz49, ⟨fun l G4 as S4 _ f4 pr => ?_⟩⟩
          refine ⟨l, _, rfl, .inl (SqL.of f4), rfl, _, rfl, ?_⟩
          rw [show ((as.map V.ref).length : Int) = 50 by rw [List.length_map, ← Paired.length pr, uq]; rfl]
          refine iteF ?_
          -- the letters
          refine ⟨"abcdefghijklmnopqrstuvwxyz", rfl, fun D nD => ?_⟩
          refine lc_it (walk_str (z := "abcdefghijklmnopqrstuvwxyz")) (fun i G => G D = some (.lst (List.replicate i (.int 1)))) upd_same (fun _ _ _ _ => trivial) ?_ ?_
          · rintro i u G5 G6 hi h5 ⟨rfl, c, hc, rfl⟩
            have okc : (Sy.nm c).ok := letters_ok c (Array.mem_toList_iff.mpr (Array.mem_of_getElem? hc))
            have hi26 : i < 26 := hi
            refine ⟨rfl, yes_of ?_⟩
            rw [if_pos rfl]
            refine ⟨_, rfl, 0, .non, .str (one c), rfl, told_nm okc fun G7 S7 => ?_⟩
            refine ⟨_, S7 _ _ h5, by rw [List.length_replicate, sizeLine_eq]; omega, ?_⟩
            rw [upd_same, List.replicate_succ']
          · intro G5 h5
            have h26 : G5 D = some (.lst (List.replicate 26 (.int 1))) := h5
            refine ⟨(by show 1 ≤ sizeLine; decide), fun l6 n6 => ?_⟩
            obtain ⟨G6, e6, S6, f6⟩ := mk_s (.lst [.int 1]) n6
            rw [e6]
            refine ⟨l6, 26, [.int 1], rfl, rfl, f6, by decide, by decide, by decide, fun l7 n7 => ?_⟩
            obtain ⟨G7, e7, S7, f7⟩ := mk_s (.lst (List.replicate (26 : Int).toNat [V.int 1]).flatten) n7
            rw [e7]
            have f7' : G7 l7 = some (.lst (List.replicate 26 (.int 1))) := f7
            refine ⟨dOnes, dOnes, .lst (SqL.of (S7 _ _ (S6 _ _ h26))) (ones_dp 26), .lst (SqL.of f7') (ones_dp 26), shp_ones, shp_ones, ?_⟩
            rw [eqv_ones]
            exact q _
end
end G1
set_option maxHeartbeats 8000000
namespace G1
open PySem PySem.Spec PyProof.Rows L2
/-! ### what the head tells -/
def oexB (K : PySem.W.Frag) (C : Addr) : Bool :=
  (match K.lookup C with
  | some ⟨.type "type", _, .cls info, slots⟩ =>
    (match info.mro, slots.toList with
    | .ref first :: rest, [_, _, _, _, some (.builtin maker), _] => first == C && (maker == "ValueError.__new__" && (!info.hasDel && (PySem.HandSPX.refsVE rest && info.hasDict)))
    | _, _ => false)
  | _ => false) && (He.eqO (PySem.W.findIn K (.ref C) "__setattr__") (some (some (.builtin "object.__setattr__"))) && (decide (PySem.W.subIn K (.ref C) (.type "BaseException") = some true) && (decide (PySem.W.typeIn K (.ref C) = some (.type "type")) && PySem.W.keepIn K (.ref C))))
theorem oexB_ok {K : PySem.W.Frag} {C : Addr} (h : oexB K C = true) : OexC K C := by
  obtain ⟨laid, h⟩ := He.ba h
  obtain ⟨stores, h⟩ := He.ba h
  obtain ⟨below, h⟩ := He.ba h
  obtain ⟨kind, keeps⟩ := He.ba h
  refine ⟨?_, He.eqO_ok stores, of_decide_eq_true below, of_decide_eq_true kind, keeps⟩
  split at laid
  · rename_i own info slots stands
    split at laid
    · rename_i first rest s0 s1 s2 s3 maker s5 order made
      obtain ⟨g1, laid⟩ := He.ba laid
      obtain ⟨g2, laid⟩ := He.ba laid
      obtain ⟨g3, laid⟩ := He.ba laid
      obtain ⟨g4, g5⟩ := He.ba laid
      have e1 := eq_of_beq g1
      have e2 := eq_of_beq g2
      subst e1 e2
      obtain ⟨nm, bs, mro, ns, qn, hasDict, sn, sub, ab, col, hasDel⟩ := info
      cases hasDel with
      | true => cases g3
      | false =>
        cases hasDict with
        | false => cases g5
        | true =>
          cases order
          obtain ⟨l⟩ := slots
          cases made
          exact ⟨nm, qn, ns, bs, rest, sn, sub, ab, col, own, s0, s1, s2, s3, s5, stands, g4⟩
    · cases laid
  · cases laid
/-- an error of one field, x -/
def errB (nm x : Str) (K : PySem.W.Frag) : Bool :=
  oexB K (He.ga K nm) && (xfB K (He.ga K nm) && (He.eqO (PySem.W.findIn K (.ref (He.ga K nm)) x) (some none) && (He.eqO (PySem.W.findIn K (.ref (He.ga K nm)) "__init__") (some (some (.ref (He.ma K (He.ga K nm) "__init__")))) &&
  (decide (PySem.W.typeIn K (.ref (He.ma K (He.ga K nm) "__init__")) = some (.type "function")) && decide (PySem.W.exmOne K (.ref (He.ga K nm)) (.ref (He.ga K nm)) = some true)))))
theorem errB_ok {K : PySem.W.Frag} {mg : Str → Option Value} {nm x qual : Str} {st : Stmt} (h : errB nm x K = true) (g : mg nm = some (.ref (He.ga K nm)))
    (fn : ∃ fd, FunD K "__init__" qual (defArgs st) (defBody st) (defScope st) [] [] (He.ma K (He.ga K nm) "__init__") fd) : ErrG K mg nm x qual st (He.ga K nm) (He.ma K (He.ga K nm) "__init__") := by
  obtain ⟨h1, h⟩ := He.ba h
  obtain ⟨h2, h⟩ := He.ba h
  obtain ⟨h3, h⟩ := He.ba h
  obtain ⟨h4, h⟩ := He.ba h
  obtain ⟨h5, h6⟩ := He.ba h
  exact ⟨oexB_ok h1, xfB_ok h2, g, He.eqO_ok h3, He.eqO_ok h4, of_decide_eq_true h5, of_decide_eq_true h6, fn⟩
def sysB (K : PySem.W.Frag) : Bool := (K.lookup sysModules).isSome
def gcdB (K : PySem.W.Frag) : Bool := He.eqO (PySem.W.nsIn K mainGlobals "gcd") (some (some (.builtin "math.gcd")))
/-- a class of one's own, as isinstance, == and format look at it -/
def ownB (nm : Str) (K : PySem.W.Frag) : Bool :=
  He.eqO (PySem.W.findIn K (.ref (He.ga K nm)) "__ne__") (some (some (.builtin "object.__ne__"))) && (decide (PySem.W.mroIn K (He.ga K nm) (.type "object") = some true) &&
  (PySem.W.selfFirst K (He.ga K nm) && (He.eqO (PySem.W.findIn K (.ref (He.ga K nm)) "__class__") (some (some (.builtin "object.__class__"))) &&
  (He.eqO (PySem.W.specialIn K (.builtin "object.__class__") "__get__") (some (some (.builtin "getset_descriptor.__get__"))) && (decide (PySem.W.takesIn K (.builtin "object.__class__") = some true) &&
  ((["NoneType", "bool", "int", "str", "list", "tuple", "dict"].all fun n => decide (PySem.W.kitOne K (.type n) (.ref (He.ga K nm)) = some false)) && He.eqO (PySem.W.findIn K (.ref (He.ga K nm)) "__format__") (some (some (.builtin "object.__format__")))))))))
theorem ownB_ok {K : PySem.W.Frag} {nm : Str} (h : ownB nm K = true) : OwnF K (He.ga K nm) := by
  obtain ⟨h1, h⟩ := He.ba h
  obtain ⟨h2, h⟩ := He.ba h
  obtain ⟨h3, h⟩ := He.ba h
  obtain ⟨h4, h⟩ := He.ba h
  obtain ⟨h5, h⟩ := He.ba h
  obtain ⟨h6, h⟩ := He.ba h
  obtain ⟨h7, h8⟩ := He.ba h
  exact ⟨He.eqO_ok h1, of_decide_eq_true h2, h3, He.eqO_ok h4, He.eqO_ok h5, of_decide_eq_true h6, fun n hn => of_decide_eq_true (List.all_eq_true.mp h7 n hn), He.eqO_ok h8⟩
/-- a table of the top, its values by key -/
def tabB (x : Str) (kvs : List (Str × He.Dv)) (K : PySem.W.Frag) : Bool := He.valsB K (He.ga K x) kvs
theorem tab_kd {K : PySem.W.Frag} {w : World} {x : Str} {kvs : List (Str × He.Dv)} (h : tabB x kvs K = true) (t : ∃ es n, KDict K w (He.ga K x) es n) {q : Str × He.Dv} (hq : q ∈ kvs) : KDct K w (He.ga K x) q.1 (q.2.v K) := by
  obtain ⟨es, n, D⟩ := t
  obtain ⟨u, h1, h2⟩ := He.valsB_ok h hq
  exact ⟨es, n, u, D.at_, D.lit, h1, h2⟩
/-- an empty tuple -/
def emptB (K : PySem.W.Frag) (a : Addr) : Bool := match K.lookup a with
  | some ⟨.type c, _, .seq its _, _⟩ => decide (c = "tuple") && (decide (its.size ≤ sizeLine) && He.relAll [] its.toList)
  | _ => false
theorem emptB_ok {K : PySem.W.Frag} {a : Addr} (h : emptB K a = true) (H : Hp) : SqT K H a [] := by
  unfold emptB at h
  split at h
  · rename_i c dk its n sl q
    obtain ⟨h1, h2⟩ := He.ba h
    obtain ⟨h3, h4⟩ := He.ba h2
    exact .inr ⟨_, its, n, q, congrArg Value.type (of_decide_eq_true h1), rfl, of_decide_eq_true h3, He.relAll_ok h4⟩
  · cases h
abbrev Ex : Type := PySem.W.Frag → Bool
def obsX (fa : List He.Fa) (fn : List He.DefD) (ts : List He.Tab) (ex : List Ex) (K : PySem.W.Frag) : He.AlT :=
  (((ex.all fun e => e K) && (He.obsT fa fn ts K).1.1, (He.obsT fa fn ts K).1.2), (He.obsT fa fn ts K).2)
def frX (n : Nat) (g : Addr → Option Obj) : PySem.W.Frag := He.frG g (sysModules :: He.asD g n)
/-- what of the program's top the proof leans on -/
structure Told (fa : List He.Fa) (fn : List He.DefD) (ts : List He.Tab) (ex : List Ex) (w : World) (K : PySem.W.Frag) : Prop where
  more : ∀ e ∈ ex, e K = true
  says : He.SaysT fa fn ts w K
theorem Told.ex {fa : List He.Fa} {fn : List He.DefD} {ts : List He.Tab} {ex : List Ex} {w : World} {K : PySem.W.Frag} (t : Told fa fn ts ex w K) (i : Nat) {e : Ex} (h : ex[i]? = some e := by rfl) : e K = true := t.more e (List.mem_of_getElem? h)
def hookX (n : Nat) (fa : List He.Fa) (fn : List He.DefD) (ts : List He.Tab) (ex : List Ex) : PySem.W.Hook where
  α := He.AlT
  obs := fun s => obsX fa fn ts ex (frX n s.heap.get?)
  val := fun w => He.valT fn ts w
  says := fun w h => ∃ K : PySem.W.Frag, K.In h ∧ Told fa fn ts ex w K
  of := fun w s e => by
    have e1 : ((ex.all fun e => e (frX n s.heap.get?)) && (He.obsD fa fn (frX n s.heap.get?)).1) = true := congrArg (fun z : He.AlT => z.1.1) e
    have e2 : (He.obsD fa fn (frX n s.heap.get?)).2 = fn.map He.DefD.val := congrArg (fun z : He.AlT => z.1.2) e
    have e0 : obsX fa fn ts ex (frX n s.heap.get?) = He.valT fn ts w := e
    have e3 := congrArg (fun z : He.AlT => z.2) e0
    obtain ⟨h1, h2⟩ := He.ba e1
    exact ⟨frX n s.heap.get?, He.frG_in, fun x hx => List.all_eq_true.mp h1 x hx, Prod.ext (Prod.ext h2 e2) e3⟩
  keeps := fun _ _ _ z k => z.elim fun K c => ⟨K, PySem.W.Frag.In.keeps c.1 k, c.2⟩
def dd (x : Str) (st : Stmt) : He.DefD := ⟨(x, none), x, x, defArgs st, defBody st, defScope st, [], []⟩
def dm (C m q : Str) (st : Stmt) (dfl : List He.Dv) : He.DefD := ⟨(C, some m), m, q, defArgs st, defBody st, defScope st, dfl, []⟩
def obX (n : Nat) (fa : List He.Fa) (fn : List He.DefD) (ts : List He.Tab) (ex : List Ex) (s : PySem.W.SharedT) : He.AlT := obsX fa fn ts ex (frX n (HandSHeadRun.getT s))
theorem obX_eq {n : Nat} {fa : List He.Fa} {fn : List He.DefD} {ts : List He.Tab} {ex : List Ex} (s : PySem.W.SharedT) : obX n fa fn ts ex s = (hookX n fa fn ts ex).obs s.abs := by
  have e : HandSHeadRun.getT s = s.abs.heap.get? := funext (HandSHeadRun.getT_eq s)
  show obsX fa fn ts ex (frX n (HandSHeadRun.getT s)) = obsX fa fn ts ex (frX n s.abs.heap.get?)
  rw [e]
section
variable {fa : List He.Fa} {fn : List He.DefD} {ts : List He.Tab} {ex : List Ex} {w : World} {K : PySem.W.Frag} {h : Heap} {mg : Str → Option Value}
theorem at_def (X : K.In h) (G : h.Ns mainGlobals mg) (t : Told fa fn ts ex w K) {x : Str} {st : Stmt} (i j : Nat) (hi : fn[i]? = some (dd x st)) (hj : fa[j]? = some (.glo x)) : DefAt K mg x st := by
  obtain ⟨fd, F⟩ := t.says.d.def_ i hi
  exact ⟨He.ga K x, fd, F, He.glo_ok X G (t.says.d.fact j hj)⟩
theorem at_meth (t : Told fa fn ts ex w K) {C m q : Str} {st : Stmt} (i j : Nat) (hi : fn[i]? = some (dm C m q st [])) (hj : fa[j]? = some (.meth C m)) :
    ∃ (f : Addr) (fd : FuncData), Meth K (He.ga K C) m f ∧ FunD K m q (defArgs st) (defBody st) (defScope st) [] [] f fd := by
  obtain ⟨fd, F⟩ := t.says.d.def_ i hi
  exact ⟨_, fd, He.meth_ok (t.says.d.fact j hj), F⟩
end
theorem walk_ofG {l : PySem.W.OpenLaw} {n k : Nat} {q : Program} {loose : List Str} {XP : (Str → Option Value) → Heap → Prop} {YP : World → Heap → Prop} {d : DefRec} {x : Str} (hn : l.most = some n) (hn2 : n ≤ sizeLine) (hdf : d.params.defaults = []) (hr : Room k callerA)
    (all : ∀ (w : World) (mg : Str → Option Value) (fa : Addr) (h : Heap), YP w h → h.Ns mainGlobals mg → mg d.name = some (.ref fa) →
      ∃ (K : PySem.W.Frag) (fd : FuncData) (sp : Sp), K.In h ∧ (∀ (s : Shared) (u : Value), BindsTo s fd ⟨[u], []⟩ [(x, u)]) ∧ (∀ (H : Hp) (a : Addr) (ns : List Int), ns.length ≤ n → SqL K H a (ns.map V.int) → sp [.ref a] H (fun v _ => v = .bl true) E0) ∧
        ∀ base : Heap, K.In base → base.Ns mainGlobals mg → FnG CX0 l.prog w K mg base k fa fd [x] sp) : PySem.W.WalkO q loose XP YP l.row.toRowW d [] (fun f vs => PySem.call f vs) := by
  refine Att.attach_call hn hdf ?_
  intro w s₀ s₁ mg mb fa o pm cd doc a vs ns G Y ho hd hcd hmg hobj hints hlen hg
  obtain ⟨K, fd, sp, KX, hb, hsp, hF⟩ := all w mg fa _ Y G.T.g hmg
  exact law_callG KX G.T.g G.T.b G.T.builtins G.T.nolimit hg hobj hints (Nat.le_trans hlen hn2) hr hF hb (fun H hS => hsp H a ns hlen hS)
end G1
set_option maxHeartbeats 0
namespace G1
open PySem PySem.Spec PyProof.Rows L2 SY TXS OW
def fnL : List He.DefD := [dm "InvalidName" "__init__" "InvalidName.__init__" mInvalidNameInit [],
  dm "InvalidSaying" "__init__" "InvalidSaying.__init__" mInvalidSayingInit [],
  dm "TooLarge" "__init__" "TooLarge.__init__" mTooLargeInit [],
  dd "is_letter" sIsLetter,
  dd "named" sNamed,
  dd "never" sNever,
  dd "_joined" sJoined,
  dd "_names" sNames,
  dd "_text_of" sTextOf,
  dd "_law_mixed" sMixed,
  dd "_law_purse" sPurse,
  dd "_law_draw" sDraw,
  dd "_law_great" sGreat,
  dd "_law_made" sMade,
  dd "_law_told" sTold,
  dd "_law_row" sRow,
  dd "_law_right" sRight,
  dm "Saying" "__init__" "Saying.__init__" mSayingInit [.adr (He.dflAt ("Saying", some "__init__") 0), .non],
  dm "Saying" "both" "Saying.both" mSayingBoth [],
  dm "Saying" "then" "Saying.then" mSayingThen [],
  dm "Saying" "lower" "Saying.lower" mSayingLower [],
  dm "Saying" "higher" "Saying.higher" mSayingHigher [],
  dm "Saying" "same" "Saying.same" mSayingSame [],
  dm "Saying" "denied" "Saying.denied" mSayingDenied [],
  dm "Saying" "parts" "Saying.parts" mSayingParts [],
  dm "Saying" "__and__" "Saying.__and__" mSayingAnd [],
  dm "Saying" "__rshift__" "Saying.__rshift__" mSayingRsh [],
  dm "Saying" "__invert__" "Saying.__invert__" mSayingInv [],
  dm "Saying" "__eq__" "Saying.__eq__" mSayingEq [],
  dm "Saying" "__str__" "Saying.__str__" mSayingStr [],
  dd "law" sLaw]
def faL : List He.Fa := [.free "int",
  .free "max",
  .free "min",
  .free "len",
  .free "range",
  .free "abs",
  .free "str",
  .free "list",
  .free "isinstance",
  .free "bool",
  .free "tuple",
  .free "set",
  .free "sorted",
  .free "sum",
  .free "reversed",
  .free "enumerate",
  .free "zip",
  .free "dict",
  .glo "InvalidName",
  .glo "InvalidSaying",
  .glo "TooLarge",
  .glo "is_letter",
  .glo "named",
  .glo "never",
  .glo "_joined",
  .glo "_names",
  .glo "_text_of",
  .glo "_law_mixed",
  .glo "_law_purse",
  .glo "_law_draw",
  .glo "_law_great",
  .glo "_law_made",
  .glo "_law_told",
  .glo "_law_row",
  .glo "_law_right",
  .exm "InvalidSaying" "InvalidName" false,
  .exm "TooLarge" "InvalidName" false,
  .exm "TooLarge" "InvalidSaying" false,
  .int "MOST_NODES" 200,
  .glo "SIGNS",
  .glo "Saying",
  .cls "Saying",
  .mkr "Saying",
  .noat "Saying" "kind",
  .noat "Saying" "pieces",
  .noat "Saying" "letter",
  .noat "Saying" "size",
  .noat "Saying" "names",
  .noat "Saying" "_text",
  .meth "Saying" "both",
  .meth "Saying" "then",
  .meth "Saying" "lower",
  .meth "Saying" "higher",
  .meth "Saying" "same",
  .meth "Saying" "denied",
  .meth "Saying" "parts",
  .meth "Saying" "__and__",
  .meth "Saying" "__rshift__",
  .meth "Saying" "__invert__",
  .meth "Saying" "__eq__",
  .meth "Saying" "__str__",
  .glo "law"]
def tsL : List He.Tab := [(fun K => He.ga K "SIGNS", ["both", "then", "lower", "higher", "same"])]
def exL : List Ex := [sysB,
  errB "InvalidName" "thing",
  errB "InvalidSaying" "thing",
  errB "TooLarge" "size",
  tabB "SIGNS" [("both", .str "&"), ("then", .str "->"), ("lower", .str "min"), ("higher", .str "max"), ("same", .str "same")],
  ownB "Saying",
  fun K => emptB K (He.dflAt ("Saying", some "__init__") 0 K)]
structure HF (w : World) (K : PySem.W.Frag) (mg : Str → Option Value) : Prop where
  blt : Blt mg
  sm : ∃ o, K.lookup sysModules = some o
  eN : ErrN K mg (He.ga K "InvalidName") (He.ma K (He.ga K "InvalidName") "__init__")
  eS : ErrS K mg (He.ga K "InvalidSaying") (He.ma K (He.ga K "InvalidSaying") "__init__")
  eL : ErrL K mg (He.ga K "TooLarge") (He.ma K (He.ga K "TooLarge") "__init__")
  d_is_letter : DefAt K mg "is_letter" sIsLetter
  d_named : DefAt K mg "named" sNamed
  d_never : DefAt K mg "never" sNever
  d_joined : DefAt K mg "_joined" sJoined
  d_names : DefAt K mg "_names" sNames
  d_text_of : DefAt K mg "_text_of" sTextOf
  d_law_mixed : DefAt K mg "_law_mixed" sMixed
  d_law_purse : DefAt K mg "_law_purse" sPurse
  d_law_draw : DefAt K mg "_law_draw" sDraw
  d_law_great : DefAt K mg "_law_great" sGreat
  d_law_made : DefAt K mg "_law_made" sMade
  d_law_told : DefAt K mg "_law_told" sTold
  d_law_row : DefAt K mg "_law_row" sRow
  d_law_right : DefAt K mg "_law_right" sRight
  aSN : PySem.W.exmOne K (.ref (He.ga K "InvalidSaying")) (.ref (He.ga K "InvalidName")) = some false
  aLN : PySem.W.exmOne K (.ref (He.ga K "TooLarge")) (.ref (He.ga K "InvalidName")) = some false
  aLS : PySem.W.exmOne K (.ref (He.ga K "TooLarge")) (.ref (He.ga K "InvalidSaying")) = some false
  cMOST_NODES : ∃ t, mg "MOST_NODES" = some (.int 200 t)
  cSIGNS : ∃ d, mg "SIGNS" = some (.ref d) ∧ ∀ q ∈ ([("both", .str "&"), ("then", .str "->"), ("lower", .str "min"), ("higher", .str "max"), ("same", .str "same")] : List (Str × He.Dv)), KDct K w d q.1 (q.2.v K)
  gSaying : mg "Saying" = some (.ref (He.ga K "Saying"))
  clSaying : Cls K (He.ga K "Saying")
  mkSaying : Mk K (He.ga K "Saying") (He.ma K (He.ga K "Saying") "__init__")
  owSaying : OwnF K (He.ga K "Saying")
  nSayingkind : NoAttr K (He.ga K "Saying") "kind"
  nSayingpieces : NoAttr K (He.ga K "Saying") "pieces"
  nSayingletter : NoAttr K (He.ga K "Saying") "letter"
  nSayingsize : NoAttr K (He.ga K "Saying") "size"
  nSayingnames : NoAttr K (He.ga K "Saying") "names"
  nSaying_text : NoAttr K (He.ga K "Saying") "_text"
  iSaying : ∃ fd, FunD K "__init__" "Saying.__init__" (defArgs mSayingInit) (defBody mSayingInit) (defScope mSayingInit) [.ref (He.dflAt ("Saying", some "__init__") 0 K), .non] [] (He.ma K (He.ga K "Saying") "__init__") fd
  eSaying0 : ∀ H, SqT K H (He.dflAt ("Saying", some "__init__") 0 K) []
  mSayingBoth : ∃ (f : Addr) (fd : FuncData), Meth K (He.ga K "Saying") "both" f ∧ FunD K "both" "Saying.both" (defArgs mSayingBoth) (defBody mSayingBoth) (defScope mSayingBoth) [] [] f fd
  mSayingThen : ∃ (f : Addr) (fd : FuncData), Meth K (He.ga K "Saying") "then" f ∧ FunD K "then" "Saying.then" (defArgs mSayingThen) (defBody mSayingThen) (defScope mSayingThen) [] [] f fd
  mSayingLower : ∃ (f : Addr) (fd : FuncData), Meth K (He.ga K "Saying") "lower" f ∧ FunD K "lower" "Saying.lower" (defArgs mSayingLower) (defBody mSayingLower) (defScope mSayingLower) [] [] f fd
  mSayingHigher : ∃ (f : Addr) (fd : FuncData), Meth K (He.ga K "Saying") "higher" f ∧ FunD K "higher" "Saying.higher" (defArgs mSayingHigher) (defBody mSayingHigher) (defScope mSayingHigher) [] [] f fd
  mSayingSame : ∃ (f : Addr) (fd : FuncData), Meth K (He.ga K "Saying") "same" f ∧ FunD K "same" "Saying.same" (defArgs mSayingSame) (defBody mSayingSame) (defScope mSayingSame) [] [] f fd
  mSayingDenied : ∃ (f : Addr) (fd : FuncData), Meth K (He.ga K "Saying") "denied" f ∧ FunD K "denied" "Saying.denied" (defArgs mSayingDenied) (defBody mSayingDenied) (defScope mSayingDenied) [] [] f fd
  mSayingParts : ∃ (f : Addr) (fd : FuncData), Meth K (He.ga K "Saying") "parts" f ∧ FunD K "parts" "Saying.parts" (defArgs mSayingParts) (defBody mSayingParts) (defScope mSayingParts) [] [] f fd
  mSayingAnd : ∃ (f : Addr) (fd : FuncData), Meth K (He.ga K "Saying") "__and__" f ∧ FunD K "__and__" "Saying.__and__" (defArgs mSayingAnd) (defBody mSayingAnd) (defScope mSayingAnd) [] [] f fd
  mSayingRsh : ∃ (f : Addr) (fd : FuncData), Meth K (He.ga K "Saying") "__rshift__" f ∧ FunD K "__rshift__" "Saying.__rshift__" (defArgs mSayingRsh) (defBody mSayingRsh) (defScope mSayingRsh) [] [] f fd
  mSayingInv : ∃ (f : Addr) (fd : FuncData), Meth K (He.ga K "Saying") "__invert__" f ∧ FunD K "__invert__" "Saying.__invert__" (defArgs mSayingInv) (defBody mSayingInv) (defScope mSayingInv) [] [] f fd
  mSayingEq : ∃ (f : Addr) (fd : FuncData), Meth K (He.ga K "Saying") "__eq__" f ∧ FunD K "__eq__" "Saying.__eq__" (defArgs mSayingEq) (defBody mSayingEq) (defScope mSayingEq) [] [] f fd
  mSayingStr : ∃ (f : Addr) (fd : FuncData), Meth K (He.ga K "Saying") "__str__" f ∧ FunD K "__str__" "Saying.__str__" (defArgs mSayingStr) (defBody mSayingStr) (defScope mSayingStr) [] [] f fd
theorem hf {w : World} {K : PySem.W.Frag} {h : Heap} {mg : Str → Option Value} (X : K.In h) (G : h.Ns mainGlobals mg) (t : Told faL fnL tsL exL w K) : HF w K mg :=
  {
    blt := { int := He.free_ok X G (t.says.d.fact 0 (f := .free "int") rfl), max := He.free_ok X G (t.says.d.fact 1 (f := .free "max") rfl), min := He.free_ok X G (t.says.d.fact 2 (f := .free "min") rfl), len := He.free_ok X G (t.says.d.fact 3 (f := .free "len") rfl), range := He.free_ok X G (t.says.d.fact 4 (f := .free "range") rfl), abs := He.free_ok X G (t.says.d.fact 5 (f := .free "abs") rfl), str := He.free_ok X G (t.says.d.fact 6 (f := .free "str") rfl), list := He.free_ok X G (t.says.d.fact 7 (f := .free "list") rfl), isin := He.free_ok X G (t.says.d.fact 8 (f := .free "isinstance") rfl), bool := He.free_ok X G (t.says.d.fact 9 (f := .free "bool") rfl), tuple := He.free_ok X G (t.says.d.fact 10 (f := .free "tuple") rfl), set := He.free_ok X G (t.says.d.fact 11 (f := .free "set") rfl), sorted := He.free_ok X G (t.says.d.fact 12 (f := .free "sorted") rfl), sum := He.free_ok X G (t.says.d.fact 13 (f := .free "sum") rfl), rev := He.free_ok X G (t.says.d.fact 14 (f := .free "reversed") rfl), enum := He.free_ok X G (t.says.d.fact 15 (f := .free "enumerate") rfl), zip := He.free_ok X G (t.says.d.fact 16 (f := .free "zip") rfl), dict := He.free_ok X G (t.says.d.fact 17 (f := .free "dict") rfl) }
    sm := Option.isSome_iff_exists.mp (t.ex 0 (e := sysB) rfl)
    eN := errB_ok (t.ex 1 (e := errB "InvalidName" "thing") rfl) (He.glo_ok X G (t.says.d.fact 18 (f := .glo "InvalidName") rfl)) (t.says.d.def_ 0 (d := dm "InvalidName" "__init__" "InvalidName.__init__" mInvalidNameInit []) rfl)
    eS := errB_ok (t.ex 2 (e := errB "InvalidSaying" "thing") rfl) (He.glo_ok X G (t.says.d.fact 19 (f := .glo "InvalidSaying") rfl)) (t.says.d.def_ 1 (d := dm "InvalidSaying" "__init__" "InvalidSaying.__init__" mInvalidSayingInit []) rfl)
    eL := errB_ok (t.ex 3 (e := errB "TooLarge" "size") rfl) (He.glo_ok X G (t.says.d.fact 20 (f := .glo "TooLarge") rfl)) (t.says.d.def_ 2 (d := dm "TooLarge" "__init__" "TooLarge.__init__" mTooLargeInit []) rfl)
    d_is_letter := at_def X G t (x := "is_letter") (st := sIsLetter) 3 21 rfl rfl
    d_named := at_def X G t (x := "named") (st := sNamed) 4 22 rfl rfl
    d_never := at_def X G t (x := "never") (st := sNever) 5 23 rfl rfl
    d_joined := at_def X G t (x := "_joined") (st := sJoined) 6 24 rfl rfl
    d_names := at_def X G t (x := "_names") (st := sNames) 7 25 rfl rfl
    d_text_of := at_def X G t (x := "_text_of") (st := sTextOf) 8 26 rfl rfl
    d_law_mixed := at_def X G t (x := "_law_mixed") (st := sMixed) 9 27 rfl rfl
    d_law_purse := at_def X G t (x := "_law_purse") (st := sPurse) 10 28 rfl rfl
    d_law_draw := at_def X G t (x := "_law_draw") (st := sDraw) 11 29 rfl rfl
    d_law_great := at_def X G t (x := "_law_great") (st := sGreat) 12 30 rfl rfl
    d_law_made := at_def X G t (x := "_law_made") (st := sMade) 13 31 rfl rfl
    d_law_told := at_def X G t (x := "_law_told") (st := sTold) 14 32 rfl rfl
    d_law_row := at_def X G t (x := "_law_row") (st := sRow) 15 33 rfl rfl
    d_law_right := at_def X G t (x := "_law_right") (st := sRight) 16 34 rfl rfl
    aSN := He.exm_ok (t.says.d.fact 35 (f := .exm "InvalidSaying" "InvalidName" false) rfl)
    aLN := He.exm_ok (t.says.d.fact 36 (f := .exm "TooLarge" "InvalidName" false) rfl)
    aLS := He.exm_ok (t.says.d.fact 37 (f := .exm "TooLarge" "InvalidSaying" false) rfl)
    cMOST_NODES := He.int_ok X G (t.says.d.fact 38 (f := .int "MOST_NODES" 200) rfl)
    cSIGNS := ⟨_, He.glo_ok X G (t.says.d.fact 39 (f := .glo "SIGNS") rfl), fun q hq => tab_kd (w := w) (t.ex 4 (e := tabB "SIGNS" [("both", .str "&"), ("then", .str "->"), ("lower", .str "min"), ("higher", .str "max"), ("same", .str "same")]) rfl) (t.says.tab 0 (t := (fun K => He.ga K "SIGNS", ["both", "then", "lower", "higher", "same"])) rfl) hq⟩
    gSaying := He.glo_ok X G (t.says.d.fact 40 (f := .glo "Saying") rfl)
    clSaying := He.cls_ok (t.says.d.fact 41 (f := .cls "Saying") rfl)
    mkSaying := He.mkr_ok (t.says.d.fact 42 (f := .mkr "Saying") rfl)
    owSaying := ownB_ok (t.ex 5 (e := ownB "Saying") rfl)
    nSayingkind := He.noat_ok (t.says.d.fact 43 (f := .noat "Saying" "kind") rfl)
    nSayingpieces := He.noat_ok (t.says.d.fact 44 (f := .noat "Saying" "pieces") rfl)
    nSayingletter := He.noat_ok (t.says.d.fact 45 (f := .noat "Saying" "letter") rfl)
    nSayingsize := He.noat_ok (t.says.d.fact 46 (f := .noat "Saying" "size") rfl)
    nSayingnames := He.noat_ok (t.says.d.fact 47 (f := .noat "Saying" "names") rfl)
    nSaying_text := He.noat_ok (t.says.d.fact 48 (f := .noat "Saying" "_text") rfl)
    iSaying := t.says.d.def_ 17 (d := dm "Saying" "__init__" "Saying.__init__" mSayingInit [.adr (He.dflAt ("Saying", some "__init__") 0), .non]) rfl
    eSaying0 := emptB_ok (t.ex 6 (e := fun K => emptB K (He.dflAt ("Saying", some "__init__") 0 K)) rfl)
    mSayingBoth := at_meth t (C := "Saying") (m := "both") (q := "Saying.both") (st := mSayingBoth) 18 49 rfl rfl
    mSayingThen := at_meth t (C := "Saying") (m := "then") (q := "Saying.then") (st := mSayingThen) 19 50 rfl rfl
    mSayingLower := at_meth t (C := "Saying") (m := "lower") (q := "Saying.lower") (st := mSayingLower) 20 51 rfl rfl
    mSayingHigher := at_meth t (C := "Saying") (m := "higher") (q := "Saying.higher") (st := mSayingHigher) 21 52 rfl rfl
    mSayingSame := at_meth t (C := "Saying") (m := "same") (q := "Saying.same") (st := mSayingSame) 22 53 rfl rfl
    mSayingDenied := at_meth t (C := "Saying") (m := "denied") (q := "Saying.denied") (st := mSayingDenied) 23 54 rfl rfl
    mSayingParts := at_meth t (C := "Saying") (m := "parts") (q := "Saying.parts") (st := mSayingParts) 24 55 rfl rfl
    mSayingAnd := at_meth t (C := "Saying") (m := "__and__") (q := "Saying.__and__") (st := mSayingAnd) 25 56 rfl rfl
    mSayingRsh := at_meth t (C := "Saying") (m := "__rshift__") (q := "Saying.__rshift__") (st := mSayingRsh) 26 57 rfl rfl
    mSayingInv := at_meth t (C := "Saying") (m := "__invert__") (q := "Saying.__invert__") (st := mSayingInv) 27 58 rfl rfl
    mSayingEq := at_meth t (C := "Saying") (m := "__eq__") (q := "Saying.__eq__") (st := mSayingEq) 28 59 rfl rfl
    mSayingStr := at_meth t (C := "Saying") (m := "__str__") (q := "Saying.__str__") (st := mSayingStr) 29 60 rfl rfl }
theorem law_at {w : World} {K : PySem.W.Frag} {h : Heap} {mg : Str → Option Value} {fa : Addr} (X : K.In h) (G : h.Ns mainGlobals mg) (t : Told faL fnL tsL exL w K) (hfa : mg ("law" : Str) = some (.ref fa)) :
    ∃ fd, FnP K "law" sLaw fa fd ∧ ∀ (s : Shared) (v : Value), BindsTo s fd ⟨[v], []⟩ [("script", v)] := by
  obtain ⟨fd, F⟩ := t.says.d.def_ 30 (d := dd "law" sLaw) rfl
  have e := hfa.symm.trans (He.glo_ok X G (t.says.d.fact 61 (f := .glo "law") rfl))
  cases e
  have b := FunD.bindsA (ps := ["script"]) F fun _ _ _ _ _ _ us hl => match us, hl with
    | [_], _ => rfl
  exact ⟨fd, F, fun s v => b s [v] rfl⟩
abbrev R : PySem.W.OpenRow := PySem.W.OpenLaw.row PySem.Challenge.rw_gradetalk_k02_sayings_refused
abbrev hk : PySem.W.Hook := hookX 6 faL fnL tsL exL
def lsL : List PySem.Str := (["GradeError", "InvalidName", "InvalidSaying", "TooLarge", "MOST_NODES", "SIGNS", "Saying", "is_letter", "named", "never", "_joined", "_names", "_text_of", "_law_mixed", "_law_purse", "_law_draw", "_law_great", "_law_made", "_law_told", "_law_row"] : List PySem.Str) ++ (["_law_right"] : List PySem.Str)
theorem run (w : World) : HandSHeadRun.RunEq R (PySem.W.view R.prog [24]) hk (obX 6 faL fnL tsL exL) 4000 lsL w :=
  PySem.W.byRow2 "special-get-raises" (P := fun w => HandSHeadRun.RunEq R (PySem.W.view R.prog [24]) hk (obX 6 faL fnL tsL exL) 4000 lsL w) (fun w => by
    intro os
    kernel_rfl) (fun w => by
    intro os
    kernel_rfl) w

end G1
set_option maxHeartbeats 0
namespace G1
open PySem PySem.Spec PyProof.Rows L2 SY TXS OW
theorem say_txt {w : World} {K : PySem.W.Frag} {mg : Str → Option Value} (F : HF w K mg) : SayTxt K w mg (He.ga K "Saying") := by
  have o := F.owSaying
  obtain ⟨fI, hI⟩ := F.iSaying
  obtain ⟨ds, gs, ks⟩ := F.cSIGNS
  refine ⟨F.gSaying, F.clSaying, F.nSayingkind, F.nSayingpieces, F.nSayingletter, F.nSayingsize, F.nSayingnames, F.nSaying_text, o, ⟨_, fI, _, F.mkSaying, hI, F.eSaying0⟩,
    ⟨F.mSayingStr⟩, ⟨F.mSayingBoth⟩, ⟨F.mSayingThen⟩, ⟨F.mSayingLower⟩, ⟨F.mSayingHigher⟩, ⟨F.mSayingSame⟩, ⟨F.mSayingDenied⟩, ⟨F.mSayingParts⟩, ⟨F.mSayingAnd⟩, ⟨F.mSayingRsh⟩, ⟨F.mSayingInv⟩, ⟨F.mSayingEq⟩, ⟨ds, gs, fun k => ?_⟩⟩
  cases k with
  | both => exact ks ("both", .str "&") (by simp)
  | thn => exact ks ("then", .str "->") (by simp)
  | lower => exact ks ("lower", .str "min") (by simp)
  | higher => exact ks ("higher", .str "max") (by simp)
  | same => exact ks ("same", .str "same") (by simp)
theorem law_facts {P : Program} {w : World} {K : PySem.W.Frag} {base : Heap} {mg : Str → Option Value} {fa : Addr} {fd : FuncData} (F : HF w K mg) (L : FnP K "law" sLaw fa fd) : FnG CX0 P w K mg base 12 fa fd ["script"] (spLawR K) := by
  have T := say_txt F
  have B := F.blt
  have cN := cl_names (P := P) (w := w) (base := base) F.d_names B T.cl T.nN
  have cX := cl_text (P := P) (base := base) F.d_text_of T B
  have M := maker (P := P) (base := base) T B F.eL F.cMOST_NODES cN cX
  have cJ := cl_joined F.d_joined T B F.eS M
  have cI := cl_letter (P := P) (w := w) (base := base) F.d_is_letter B
  have cNm := cl_named F.d_named T F.eN M cI
  have cNv := cl_never F.d_never T M
  have cMd := cl_made F.d_law_made T B M cNm cJ
  have cTd := cl_told F.d_law_told T F.eL F.eS F.eN ⟨F.aSN, F.aLN, F.aLS⟩ cMd
  have cR := cl_row F.d_law_row T B M cNm cNv cJ
  have cMx := cl_mixed (P := P) (w := w) (base := base) F.d_law_mixed B
  have cDr := cl_draw F.d_law_draw B cMx
  have cP := cl_purse (P := P) (w := w) (base := base) F.d_law_purse B
  have cRt := cl_right F.d_law_right B T F.sm cDr cTd cR
  exact ok_law L B T M cP cRt cNm cTd
end G1
open PySem PySem.W PySem.Calls PyProof.Rows
set_option maxHeartbeats 0 in
theorem PySem.Challenge.cw_gradetalk_k02_sayings_refused_holds : PySem.Challenge.rw_gradetalk_k02_sayings_refused.Holds := by
  w_on; o_law
  refine HandSHeadRun.head_any (r := OpenLaw.row PySem.Challenge.rw_gradetalk_k02_sayings_refused) (q := view (OpenLaw.row PySem.Challenge.rw_gradetalk_k02_sayings_refused).prog [24]) (H := G1.hk) (ob := G1.obX 6 G1.faL G1.fnL G1.tsL G1.exL) (M := 4000) (loose := G1.lsL) (d := HandSHeadRun.topDef (OpenLaw.row PySem.Challenge.rw_gradetalk_k02_sayings_refused).prog 24) (kwd := []) G1.obX_eq
    (by kernel_rfl) (fun s => by kernel_rfl) G1.run (by kernel_rfl) (by kernel_rfl) (by kernel_rfl) (by rfl) (by first | assumption | decide +kernel) (by decide +kernel) ⟨rfl, rfl, rfl, rfl, rfl, by decide +kernel⟩ ?hw ?hc
  case hw => w_witness2
  case hc =>
    refine G1.walk_ofG (l := PySem.Challenge.rw_gradetalk_k02_sayings_refused) (n := 63) (k := 12) (x := "script") rfl (by decide) (by kernel_rfl) ⟨rfl, by decide, by decide⟩ ?F
    intro w mg fa h Y G hmg0
    obtain ⟨K, KX, t⟩ := Y
    have nm : (HandSHeadRun.topDef (OpenLaw.row PySem.Challenge.rw_gradetalk_k02_sayings_refused).prog 24).name = ("law" : PySem.Str) := by kernel_rfl
    rw [nm] at hmg0
    obtain ⟨fd, F, hb⟩ := G1.law_at KX G t hmg0
    exact ⟨K, fd, G1.spLawR K, KX, hb, fun H a ns hl hS => ⟨a, ns, rfl, hS, hl, fun _ => rfl⟩, fun base _ _ => G1.law_facts (G1.hf KX G t) F⟩
#print axioms PySem.Challenge.cw_gradetalk_k02_sayings_refused_holds
