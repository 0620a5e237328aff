import PyProof.Rows.All
import Wide.All
import OpenK.AllK
import Wide.FinOn
import HandS.ForExc
import HandS.ExcInit
import HandS.ExcField
import HandS.TryMany
import HandS.FStr
import HandS.ForMost
import HandS.Codes
import HandS.IsInst
import HandS.WideBits
import HandS.NoneIn
import HandS.DictComp
import HandS.More
import PySem.Challenge.RW_cellcloth_k02_amounts
set_option Elab.async false
set_option linter.all false
set_option maxRecDepth 100000
set_option maxHeartbeats 4000000
namespace K2X
open PySem PySem.Spec PyProof.Rows L2
/-- Base.__init__(self, ..) of an own class over ValueError without an __init__ of its own -/
theorem pe_binit {X : Cx} {x : Str} {B : Addr} {mc : Value} {e : Expr} {es : List Expr} {ta : TA} {pn pa pc : Pos} {pl : Sem Bool} (hg : Gl X x) (hm : X.mg x = some (.ref B))
    (sp : PySem.W.specialIn X.K (.ref B) "__getattribute__" = some (some (.builtin "type.__getattribute__"))) (rd : PySem.W.readsIn X.K B mc = true)
    (fv : PySem.W.findCls X.K (.ref B) mc "__init__" = some (.val (.builtin "ValueError.__init__"))) (ha : PA X (e :: es) ta)
    (hev : eval (.Call (.Attribute (.Name x pn) "__init__" pa) (e :: es) [] pc) X.env =
      (eval (.Name x pn) X.env >>= fun ov => standAt pa.atName >>= fun _ => holding [ov] (getMethod ov "__init__" pl) >>= fun fx => callWith pc fx.1 fx.2 (backTo pc (starEach (e :: es) X.env)) (backToKw pc (keywordEach [] X.env))) := by rfl)
    (hdb : (x == ("__debug__" : Str)) = false := by decide) (hst : starEach (e :: es) X.env = (false, eval e X.env) :: starEach es X.env := by rfl) (hpl : (backTo pc (starEach es X.env)).any (·.1) = false := by rfl) :
    PE X (.Call (.Attribute (.Name x pn) "__init__" pa) (e :: es) [] pc) (tVeI X.K ta) := by
  constructor
  intro pins s σ H Q I h
  refine PySem.W.methodCall_KW (ld_glob I hg hm ?_ hdb) hev
  refine PySem.W.method_cls I.kIn sp (PySem.W.cls_value I.kIn rd fv rfl ?_)
  refine PyProof.Rows.callWith_method1 (thn (ha.run pc pins _ σ H _ (I.tok _) h) fun us s1 hh => ?_) hst hpl
  obtain ⟨vs, H1, I1, r1, a, C, ws, rfl, hl, T, ea, q⟩ := hh
  obtain ⟨u0, ur, rfl, ra, rr⟩ : ∃ u0 ur, us = u0 :: ur ∧ RelV (.ref a) u0 ∧ Vals ws ur := by
    cases r1 with
    | cons ra rr => exact ⟨_, _, rfl, ra, rr⟩
  obtain rfl : u0 = Value.ref a := ra
  have hz : ur.length ≤ sizeLine := by
    have e1 := rr.length
    rw [sizeLine_eq]
    omega
  exact oinit_ok T I1 ea hz fun s2 I2 => ⟨.non, H1, I2, rfl, q⟩
end K2X
namespace K2X
open PySem PySem.Spec PyProof.Rows L2
/-! try: .. except A as n: .. except B as n: .. -/
abbrev Alt := Value × (Addr → Value → Option Addr → TS)
def wAlt (K : PySem.W.Frag) (i : Nat) (Wout : WX) (D : Ends) : List Alt → WX
  | [] => Wout
  | (c, ts) :: r => wAs K c i ts (wAlt K i Wout D r) D
inductive AltsOk (X : Cx) (n : Str) : List ExceptHandler → List Alt → Prop
  | none : AltsOk X n [] []
  | more {x : Str} {c : Value} {ts : Addr → Value → Option Addr → TS} {b : Stmt} {bs : List Stmt} {q1 q2 : Pos} {hs : List ExceptHandler} {l : List Alt} (nm : Names X x c)
      (su : ∀ (a : Addr) (o : Obj) (cls : Value) (d : Option Addr) (pn : List (Addr × Obj)), Zc cls d o → (∃ vs, o.data = .fields vs) → PSs (X.suite a ((a, o) :: pn)) (b :: bs) (ts a cls d)) (rest : AltsOk X n hs l) :
      AltsOk X n (.ExceptHandler (some (.Name x q1)) (some n) (b :: bs) q2 :: hs) ((c, ts) :: l)
section
variable {X : Cx} {n : Str} {i : Nat} {body : List Stmt} {h1 : ExceptHandler} {hs : List ExceptHandler} {l : List Alt} {pos : Pos} {tb : WX → TS} {Wout : WX}
theorem ps_try_alts (st : X.stack = X.env :: X.outer) (fr : X.env.frame = some X.env.locals) (nd : X.N.Nodup) (hi : X.N[i]? = some n) (hn : X.env.kindOf n = some .local) (tk : Takes X Wout)
    (hb : ∀ (W : WX) (pn : List (Addr × Obj)) (xe : Value → Shared → Prop), Takes (X.tr pn xe) W → PassesOwn (model X.prog X.w) X.A X.env xe → PSs (X.tr pn xe) body (tb W))
    (ok : AltsOk X n (h1 :: hs) l) : PS X (.Try body (h1 :: hs) [] [] pos) (fun D σ H => tb (wAlt X.K i Wout D l) D σ H) := by
  constructor
  intro pins s σ H D I h
  have okX := I.ok
  have frs' : X.A.frames = some (X.env :: X.outer) := by
    rw [okX.frames, st]
  refine wpAny_Try_except ?_
  let air : Value → Shared → Prop := fun e s1 => wpAny (model X.prog X.w) X.A (noteFrame e X.env) (fun _ s2 => wpAny (model X.prog X.w) X.A (setFlight e none) (fun _ s3 => wpAny (model X.prog X.w) X.A (handleBy e X.env (h1 :: hs)) (SP X pins D) X.xe s3) X.xe s2) X.xe s1
  have body_ok := (hb (wAlt X.K i Wout D l) (X.pn ++ pins) air ?caught PassesOwn.looking).run [] s σ H D (I.toTry _) h
  case caught =>
    rintro u sB ⟨a, B, sI, pinsI, σI, HI, cls, d, rfl, JI, keepB, up, sky, fresh, os, bare, wish⟩
    have J := JI.ofTry okX
    have sky' : Sky B (X.env :: X.outer) a (Zc cls d) X.env.locals sB.heap := st ▸ sky
    show wpAny (model X.prog X.w) X.A (noteFrame (.ref a) X.env) _ _ _
    refine Sky.land Zc.steady frs' fr sky' fun hL fl upL => ?_
    have JL : Inv X pins σI HI { sB with heap := hL } := J.landed keepB fl.1 (up.trans upL) os bare
    obtain ⟨oL, vL, getL, zL, dL⟩ := fl.there
    have aOut : a ∉ frs (X.env :: X.outer) := fun hm => by
      obtain ⟨_, o2, g2, no⟩ := fl.2.2.1.mem hm
      rw [getL] at g2
      cases g2
      exact no _ dL
    have aLoc : a ≠ X.env.locals := fun z => aOut (List.mem_filterMap.mpr ⟨X.env, List.mem_cons_self, by rw [fr, z]⟩)
    have aFs : a ∉ X.fs := fun hm => by
      obtain ⟨e, he, q⟩ := List.mem_filterMap.mp hm
      exact aOut (List.mem_filterMap.mpr ⟨e, List.mem_cons_of_mem _ he, q⟩)
    have SL := JL.suite getL dL fresh aLoc aFs
    have tyL : PySem.W.Looks (model X.prog X.w) hL (typeOf (.ref a)) cls := fun A Q E s k q => wpAny_typeOf_ref (k _ _ getL) (by rw [zL.1]; exact q)
    have all : ∀ {gs : List ExceptHandler} {l' : List Alt}, AltsOk X n gs l' → wAlt X.K i Wout D l' cls d σI HI → wpAny (model X.prog X.w) X.A (handleBy (.ref a) X.env gs) (SP X pins D) X.xe { sB with heap := hL } := by
      intro gs l' hk
      induction hk with
      | none =>
        intro w
        refine wpAny_handleBy_nil ?_
        obtain ⟨_, _, _, o, vs, T, _, _, g, z, dd, f1, _⟩ := id fl
        have out : wpAny (model X.prog X.w) X.A (setFlight (.ref a) X.env.frame) (fun _ s4 => wpAny (model X.prog X.w) X.A (throw (.ref a) : Sem Flow) (SP X pins D) X.xe s4) X.xe { sB with heap := hL } := by
          rw [fr]
          refine HandSPX.setFlight_upZ fl fun hU held upU => wpAny_throw (tk _ _ ⟨a, B, sI, pins, σI, HI, cls, d, rfl, J, keepB, (up.trans upL).trans upU, .inr (.inr (st ▸ held)), fresh, os, bare, w⟩)
        unfold PySem.passOn
        refine wpAny_bind (wpAny_field g dd f1 ?_)
        have nn : ¬ ((Value.ref T == Value.none) = true) := by simp
        rw [if_neg nn]
        first
          | exact wpAny_bind (wpAny_pure (wpAny_bind out))
          | exact wpAny_bind out
      | @more x c ts bb bs q1 q2 hs2 l2 nm su rest ih =>
        intro w
        obtain ⟨b, hit, yes, no⟩ := w
        refine wpAny_handleBy_cons (codeAny_handlers_test ?_) (by intro q; cases q)
        have look := PySem.W.exm_one (M := model X.prog X.w) JL.kIn tyL hit
        obtain ⟨gl, dbg, at_⟩ := nm
        have named : ∀ {Q : Value → Shared → Prop} {E : Value → Shared → Prop}, Q c { sB with heap := hL } → wpAny (model X.prog X.w) (X.A.mark (some (.ref a))) (eval (.Name x q1) X.env) Q E { sB with heap := hL } := fun {Q E} q => by
          rcases at_ with at_ | ⟨at_, bo, nn⟩
          · exact ld_glob (X := X.suite a ((a, oL) :: (X.pn ++ pins))) SL gl at_ q dbg
          · exact ld_blt (X := X.suite a ((a, oL) :: (X.pn ++ pins))) SL gl at_ bo q nn dbg
        refine named (look.here ?_)
        cases b with
        | false => exact ih (no rfl)
        | true =>
          refine codeAny_handlers_suite_as ?_
          refine HandSPX.lands_againZ fl fun hR flR upR => ?_
          have JR : Inv X pins σI HI { sB with heap := hR } := J.landed keepB flR.1 ((up.trans upL).trans upR) os bare
          obtain ⟨oR, vR, getR, zR, dR⟩ := flR.there
          refine store_ok (X := X.suite a ((a, oR) :: (X.pn ++ pins))) (v := .ref a) (JR.suite getR dR fresh aLoc aFs) nd hi (.inl hn) rfl (fun s5 S5 => ?_) (.inr hn)
          refine wpAny_mono ((su a oR cls d (X.pn ++ pins) zR ⟨_, dR⟩).run [] s5 _ HI _ S5 (yes rfl a fresh)) (fun f s6 fin => ?_) (fun _ _ z => False.elim z)
          have away : ∀ {σ6 : L2.St} {H6 : Hp} {Q : Shared → Prop}, Inv (X.suite a ((a, oR) :: (X.pn ++ pins))) [] σ6 H6 s6 → (∀ s7, Inv X pins (σ6.set i none) H6 s7 → Q s7) → wpAny (model X.prog X.w) X.A (do bindName X.env n .none; unbindBehindTheSuite X.env n q2) (fun _ s7 => Q s7) X.xe s6 :=
            fun S6 hq => gone_ok (S6.unsuite okX) nd hi hn hq
          cases f with
          | ret u =>
            obtain ⟨v6, σ6, H6, S6, r6, q6⟩ := fin
            exact away S6 fun s7 J7 => ⟨_, _, _, J7, r6, q6⟩
          | next =>
            obtain ⟨σ6, H6, S6, q6⟩ := fin
            exact away S6 fun s7 J7 => ⟨_, _, J7, q6⟩
          | brk =>
            obtain ⟨σ6, H6, S6, q6⟩ := fin
            exact away S6 fun s7 J7 => ⟨_, _, J7, q6⟩
          | cont =>
            obtain ⟨σ6, H6, S6, q6⟩ := fin
            exact away S6 fun s7 J7 => ⟨_, _, J7, q6⟩
    exact all ok wish
  refine wpAny_mono body_ok (fun f s1 fin => ?_) (fun e s1 he => he)
  cases f with
  | next =>
    obtain ⟨σ', H', J', q⟩ := fin
    exact wpAny_execs_nil ⟨σ', H', J'.ofTry okX, q⟩
  | ret u =>
    obtain ⟨v, σ', H', J', r, q⟩ := fin
    exact ⟨v, σ', H', J'.ofTry okX, r, q⟩
  | brk =>
    obtain ⟨σ', H', J', q⟩ := fin
    exact ⟨σ', H', J'.ofTry okX, q⟩
  | cont =>
    obtain ⟨σ', H', J', q⟩ := fin
    exact ⟨σ', H', J'.ofTry okX, q⟩
end
end K2X
namespace K2
open PySem PySem.Spec PyProof.Rows L2 K2X
def topS (i : Nat) : Stmt := PySem.Challenge.pw_cellcloth_k02_amounts.main.body.getD i (.Pass ⟨0, 0, 0, 0⟩)
abbrev s_amount : Stmt := topS 7
abbrev N_amount : List Str := ["e", "counters"]
theorem scamount : FnScope ["e", "counters"] ["e", "counters"] (defScope s_amount) := ⟨rfl, rfl, rfl, by decide +kernel, rfl, by decide +kernel, by decide +kernel⟩
abbrev s_amount_at : Stmt := topS 8
abbrev N_amount_at : List Str := ["e", "counters", "place", "number"]
theorem scamount_at : FnScope ["e", "counters", "place", "number"] ["e", "counters", "place"] (defScope s_amount_at) := ⟨rfl, rfl, rfl, by decide +kernel, rfl, by decide +kernel, by decide +kernel⟩
abbrev s__number_of : Stmt := topS 9
abbrev N__number_of : List Str := ["e", "counters", "place", "first", "second"]
theorem sc_number_of : FnScope ["e", "counters", "place", "first", "second"] ["e", "counters", "place"] (defScope s__number_of) := ⟨rfl, rfl, rfl, by decide +kernel, rfl, by decide +kernel, by decide +kernel⟩
abbrev s__operated : Stmt := topS 10
abbrev N__operated : List Str := ["op", "first", "second"]
theorem sc_operated : FnScope ["op", "first", "second"] ["op", "first", "second"] (defScope s__operated) := ⟨rfl, rfl, rfl, by decide +kernel, rfl, by decide +kernel, by decide +kernel⟩
abbrev s__law_draw : Stmt := topS 12
abbrev N__law_draw : List Str := ["state", "script", "size", "cell", "mixed", "digit"]
theorem sc_law_draw : FnScope ["state", "script", "size", "cell", "mixed", "digit"] ["state", "script", "size"] (defScope s__law_draw) := ⟨rfl, rfl, rfl, by decide +kernel, rfl, by decide +kernel, by decide +kernel⟩
abbrev s__law_any : Stmt := topS 13
abbrev N__law_any : List Str := ["state", "script", "depth", "pick", "big", "op"]
theorem sc_law_any : FnScope ["state", "script", "depth", "pick", "big", "op"] ["state", "script", "depth"] (defScope s__law_any) := ⟨rfl, rfl, rfl, by decide +kernel, rfl, by decide +kernel, by decide +kernel⟩
abbrev s__law_checked : Stmt := topS 14
abbrev N__law_checked : List Str := ["number"]
theorem sc_law_checked : FnScope ["number"] ["number"] (defScope s__law_checked) := ⟨rfl, rfl, rfl, by decide +kernel, rfl, by decide +kernel, by decide +kernel⟩
abbrev s__law_due : Stmt := topS 15
abbrev N__law_due : List Str := ["e", "counters", "parts", "one", "found", "two", "plain", "k"]
theorem sc_law_due : FnScope ["e", "counters", "parts", "one", "found", "two", "plain", "k"] ["e", "counters"] (defScope s__law_due) := ⟨rfl, rfl, rfl, by decide +kernel, rfl, by decide +kernel, by decide +kernel⟩
abbrev s__law_told : Stmt := topS 16
abbrev N__law_told : List Str := ["e", "counters", "error"]
theorem sc_law_told : FnScope ["e", "counters", "error"] ["e", "counters"] (defScope s__law_told) := ⟨rfl, rfl, rfl, by decide +kernel, rfl, by decide +kernel, by decide +kernel⟩
abbrev s_law : Stmt := topS 17
abbrev N_law : List Str := ["script", "state", "k", "counters", "kept", "e"]
theorem sclaw : FnScope ["script", "state", "k", "counters", "kept", "e"] ["script"] (defScope s_law) := ⟨rfl, rfl, rfl, by decide +kernel, rfl, by decide +kernel, by decide +kernel⟩
abbrev s_KI : Stmt := inClass (topS 2) 0
abbrev s_LI : Stmt := inClass (topS 3) 0
theorem scKI : FnScope ["self", "place"] ["self", "place"] (defScope s_KI) := ⟨rfl, rfl, rfl, by decide +kernel, rfl, by decide +kernel, by decide +kernel⟩
theorem scLI : FnScope ["self", "kind"] ["self", "kind"] (defScope s_LI) := ⟨rfl, rfl, rfl, by decide +kernel, rfl, by decide +kernel, by decide +kernel⟩
/-- a def of the text as callers need it -/
structure Def (K : PySem.W.Frag) (mg : Str → Option Value) (x : Str) (f : Addr) (fd : FuncData) (ps : List Str) : Prop where
  m : mg x = some (.ref f)
  k : PySem.W.keepIn K (.ref f) = true
  b : Binds K fd ps []
/-- an error class of the text, with its __init__ -/
structure Exc (K : PySem.W.Frag) (mg : Str → Option Value) (x : Str) (C fI : Addr) (fd : FuncData) (fld : Str) : Prop where
  m : mg x = some (.ref C)
  oex : OexC K C
  ini : PySem.W.findIn K (.ref C) "__init__" = some (some (.ref fI))
  ty : PySem.W.typeIn K (.ref fI) = some (.type "function")
  b : Binds K fd ["self", fld] []
  no : PySem.W.findIn K (.ref C) fld = some none
  xf : XfC K C
structure Txt (K : PySem.W.Frag) (mg : Str → Option Value) (B : Addr) (mc : Value) (tL tG : Tok) : Prop where
  m_ClothError : mg "ClothError" = some (.ref B)
  ga : PySem.W.specialIn K (.ref B) "__getattribute__" = some (some (.builtin "type.__getattribute__"))
  rd : PySem.W.readsIn K B mc = true
  vi : PySem.W.findCls K (.ref B) mc "__init__" = some (.val (.builtin "ValueError.__init__"))
  m_LEAST : mg "LEAST" = some (.int (-1000000) tL)
  m_GREATEST : mg "GREATEST" = some (.int 1000000 tG)
  m_dict : mg "dict" = none
  m_int : mg "int" = none
  m_str : mg "str" = none
  m_isinstance : mg "isinstance" = none
  m_len : mg "len" = none
  m_max : mg "max" = none
  m_min : mg "min" = none
  m_range : mg "range" = none
section
variable {P : Program} {w : World} {K : PySem.W.Frag} {mg : Str → Option Value} {base : Heap} {B : Addr} {mc : Value} {tL tG : Tok}
/-- an error's __init__: its field is the text -/
def spExc (K : PySem.W.Frag) (fld : Str) : Sp := fun vs H Q _ => ∃ (a C : Addr) (z : Str), vs = [.ref a, .str z] ∧ OexC K C ∧ PySem.W.findIn K (.ref C) fld = some none ∧ H a = some (exo a C none) ∧ z.length ≤ 1000 ∧
  ∀ dx, H dx = none → dx ≠ a → Q .non (upd (upd H dx (exd dx [(fld, .str z)])) a (exo a C (some dx)))
theorem app_len (a b : Str) : (a ++ b).length = a.length + b.length := by
  show (a.cps ++ b.cps).size = a.cps.size + b.cps.size
  rw [Array.size_append]
theorem small2000 {n : Nat} (h : n ≤ 2000) : n ≤ sizeLine := Nat.le_trans h (by decide)
theorem ok_KI {f : Addr} {fd : FuncData} (F : Fun K "__init__" "KindError.__init__" s_KI f fd) (T : Txt K mg B mc tL tG) : FnOk P w K mg base CX0 1 f fd ["self", "place"] (spExc K "place") := by
  refine F.ok scKI (fun vs H Q E h => ?_) (fun cdv A outer s H vs Q E hr h => ?_)
  · obtain ⟨a, C, z, rfl, _⟩ := h
    rfl
  · obtain ⟨a, C, z, rfl, hC, hno, ha, hz, q⟩ := h
    refine ⟨_, pss_cons (ps_expr (pe_binit (by rfl) T.m_ClothError T.ga T.rd T.vi (pa_cons (pv 0) (pa_cons (pe_joined (PJ.cons pe_str (PJ.cons (pe_fmt (pv 1)) PJ.nil))) pa_nil)))) (pss_one (ps_ost (pv 0) (pv 1))), ?_⟩
    refine ⟨_, rfl, _, rfl, by decide, _, rfl, .inl ⟨z, rfl, small2000 (by omega), z, rfl, ?_, a, C, _, rfl, by show 1 ≤ 1000; decide, hC, ha, ?_⟩⟩
    · rw [app_len]
      refine small2000 ?_
      have : (Str.empty ++ ("not as it has to be: " : Str)).length = 21 := by decide +kernel
      omega
    · exact ⟨_, rfl, _, rfl, a, C, rfl, hC, hno, .inl ⟨ha, fun dx n ne => q dx n ne⟩⟩
theorem ok_LI {f : Addr} {fd : FuncData} (F : Fun K "__init__" "LimitError.__init__" s_LI f fd) (T : Txt K mg B mc tL tG) : FnOk P w K mg base CX0 1 f fd ["self", "kind"] (spExc K "kind") := by
  refine F.ok scLI (fun vs H Q E h => ?_) (fun cdv A outer s H vs Q E hr h => ?_)
  · obtain ⟨a, C, z, rfl, _⟩ := h
    rfl
  · obtain ⟨a, C, z, rfl, hC, hno, ha, hz, q⟩ := h
    refine ⟨_, pss_cons (ps_expr (pe_binit (by rfl) T.m_ClothError T.ga T.rd T.vi (pa_cons (pv 0) (pa_cons (pe_joined (PJ.cons pe_str (PJ.cons (pe_fmt (pv 1)) PJ.nil))) pa_nil)))) (pss_one (ps_ost (pv 0) (pv 1))), ?_⟩
    refine ⟨_, rfl, _, rfl, by decide, _, rfl, .inl ⟨z, rfl, small2000 (by omega), z, rfl, ?_, a, C, _, rfl, by show 1 ≤ 1000; decide, hC, ha, ?_⟩⟩
    · rw [app_len]
      refine small2000 ?_
      have : (Str.empty ++ ("too much: " : Str)).length = 10 := by decide +kernel
      omega
    · exact ⟨_, rfl, _, rfl, a, C, rfl, hC, hno, .inl ⟨ha, fun dx n ne => q dx n ne⟩⟩
/-- what a raise of it leaves: its dict, new; all else as it was -/
theorem raised {C fI : Addr} {fd : FuncData} {x fld z : Str} {H : Hp} {E : XK} (X : Exc K mg x C fI fd fld) (hz : z.length ≤ 1000)
    (q : ∀ d H', Same H H' → H' d = some (.xd [(fld, .str z)]) → E (.ref C) (some d) H') : ∀ a, H a = none → spExc K fld (.ref a :: ([.str z] ++ [])) (upd H a (exo a C none))
      (fun v H2 => v = .non ∧ ∃ (d : Addr) (fs : List (Str × V)), H2 a = some (exo a C (some d)) ∧ H2 d = some (exd d fs) ∧ H d = none ∧ E (.ref C) (some d) (upd (del H2 a) d (.xd fs))) (fun _ _ _ => False) := by
  intro a na
  refine ⟨a, C, z, rfl, X.oex, X.no, upd_same, hz, fun dx ndx ne => ?_⟩
  have nd : H dx = none := by
    rw [upd_ne ne] at ndx
    exact ndx
  refine ⟨rfl, dx, _, upd_same, by rw [upd_ne ne, upd_same], nd, q dx _ (fun b o e => ?_) upd_same⟩
  have nba : b ≠ a := ne_of_none e na
  have nbd : b ≠ dx := ne_of_none e nd
  rw [upd_ne nbd, del_ne nba, upd_ne nba, upd_ne nbd, upd_ne nba]
  exact e
end
end K2
namespace K2
open PySem PySem.Spec PyProof.Rows L2 K2X
/-! ### amounts -/
inductive Am where
  | num (i : Int)
  | name (x : Str)
  | bits (e : Am)
  | op (o : Str) (a b : Am)
inductive Res where
  | ok (i : Int)
  | kind
  | limit
def chk : Res → Res
  | .ok i => if -1000000 ≤ i ∧ i ≤ 1000000 then .ok i else .limit
  | r => r
abbrev lOps : List Str := ["add", "sub", "mul", "div", "mod", "max", "min", "less", "same"]
def operate (o : Str) (f g : Int) : Int :=
  if o = "add" then f + g else if o = "sub" then f - g else if o = "mul" then f * g else if o = "div" then f.fdiv g else if o = "mod" then f.fmod g
  else if o = "max" then (if g > f then g else f) else if o = "min" then (if g < f then g else f) else if o = "less" then (if f < g then 1 else 0) else (if f = g then 1 else 0)
def bitsOf (f : Int) : Int := if ((Builtin.Int.intBits f : Nat) : Int) > 1 then ((Builtin.Int.intBits f : Nat) : Int) else 1
abbrev Cnt := List (Key × V)
def look (kvs : Cnt) (x : Str) : Res := match valV kvs (Sum.inr x) with
  | some (.int i) => .ok i
  | _ => .kind
def num (kvs : Cnt) : Am → Res
  | .num i => .ok i
  | .name x => look kvs x
  | .bits e => match chk (num kvs e) with
    | .ok f => if f < 0 then .kind else .ok (bitsOf f)
    | r => r
  | .op o a b => match chk (num kvs a) with
    | .ok f => match chk (num kvs b) with
      | .ok g => if (o = "div" ∨ o = "mod") ∧ g = 0 then .kind else .ok (operate o f g)
      | r => r
    | r => r
def Am.deep : Am → Nat
  | .num _ => 0
  | .name _ => 0
  | .bits e => e.deep + 1
  | .op _ a b => max a.deep b.deep + 1
/-- an amount as it stands in the heap -/
def Rep (H : Hp) : V → Am → Prop
  | v, .num i => v = .int i
  | v, .name x => v = .str x
  | v, .bits e => ∃ p u, v = .ref p ∧ H p = some (.tup [.str "bits", u]) ∧ Rep H u e
  | v, .op o a b => o ∈ lOps ∧ ∃ p u t, v = .ref p ∧ H p = some (.tup [.str o, u, t]) ∧ Rep H u a ∧ Rep H t b
theorem Rep.mono {H H' : Hp} (k : ∀ p xs, H p = some (.tup xs) → H' p = some (.tup xs)) : ∀ {e : Am} {v : V}, Rep H v e → Rep H' v e
  | .num _, _, h => h
  | .name _, _, h => h
  | .bits e, v, ⟨p, u, e1, e2, e3⟩ => ⟨p, u, e1, k _ _ e2, Rep.mono k e3⟩
  | .op o a b, v, ⟨n, p, u, t, e1, e2, e3, e4⟩ => ⟨n, p, u, t, e1, k _ _ e2, Rep.mono k e3, Rep.mono k e4⟩
theorem Rep.same {H H' : Hp} {e : Am} {v : V} (s : Same H H') (h : Rep H v e) : Rep H' v e := h.mono fun p xs q => s _ _ q
/-- counters whose names have numbers -/
def Nums (kvs : Cnt) : Prop := ∀ k v, valV kvs k = some v → ∃ i, v = .int i
/-- small enough for a product -/
theorem chk_ok {r : Res} {i : Int} (h : chk r = .ok i) : -1000000 ≤ i ∧ i ≤ 1000000 := by
  cases r with
  | ok j =>
    change (if -1000000 ≤ j ∧ j ≤ 1000000 then Res.ok j else Res.limit) = Res.ok i at h
    by_cases c : -1000000 ≤ j ∧ j ≤ 1000000
    · rw [if_pos c] at h
      cases h
      exact c
    · rw [if_neg c] at h
      cases h
  | kind => cases h
  | limit => cases h
section
variable {P : Program} {w : World} {K : PySem.W.Frag} {mg : Str → Option Value} {base : Heap} {B : Addr} {mc : Value} {tL tG : Tok}
def spOper : Sp := fun vs H Q _ => ∃ (o : Str) (f g : Int), vs = [.str o, .int f, .int g] ∧ (-1000000 ≤ f ∧ f ≤ 1000000) ∧ (-1000000 ≤ g ∧ g ≤ 1000000) ∧ ((o = "div" ∨ o = "mod") → g ≠ 0) ∧ Q (.int (operate o f g)) H
theorem dec_st (x y : Str) : decide (V.str x = V.str y) = decide (x = y) := by rw [Bool.eq_iff_iff]; simp
theorem ok_oper {f : Addr} {fd : FuncData} (F : Fun K "_operated" "_operated" s__operated f fd) (T : Txt K mg B mc tL tG) : FnOk P w K mg base CX0 1 f fd ["op", "first", "second"] spOper := by
  refine F.ok sc_operated (fun vs H Q E h => ?_) (fun cdv A outer s H vs Q E hr h => ?_)
  · obtain ⟨a, C, z, rfl, _⟩ := h
    rfl
  · obtain ⟨o, f, g, rfl, hf, hg, hz, q⟩ := h
    refine ⟨_, (pss_cons (ps_if (pt_cmpR op_eq (pv 0) pe_str (nomark _)) (pss_one (ps_ret (pe_op op_add (pv 1) (pv 2)))) pss_nil)
      (pss_cons (ps_if (pt_cmpR op_eq (pv 0) pe_str (nomark _)) (pss_one (ps_ret (pe_op op_sub (pv 1) (pv 2)))) pss_nil)
      (pss_cons (ps_if (pt_cmpR op_eq (pv 0) pe_str (nomark _)) (pss_one (ps_ret (pe_op op_mul (pv 1) (pv 2)))) pss_nil)
      (pss_cons (ps_if (pt_cmpR op_eq (pv 0) pe_str (nomark _)) (pss_one (ps_ret (pe_op op_fdivN (pv 1) (pv 2)))) pss_nil)
      (pss_cons (ps_if (pt_cmpR op_eq (pv 0) pe_str (nomark _)) (pss_one (ps_ret (pe_op op_modN (pv 1) (pv 2)))) pss_nil)
      (pss_cons (ps_if (pt_cmpR op_eq (pv 0) pe_str (nomark _)) (pss_one (ps_ret (pe_callB (call_max2 rfl) (by rfl) T.m_max (by decide +kernel) (pa_cons (pv 1) (pa_cons (pv 2) pa_nil))))) pss_nil)
      (pss_cons (ps_if (pt_cmpR op_eq (pv 0) pe_str (nomark _)) (pss_one (ps_ret (pe_callB (call_min2 rfl) (by rfl) T.m_min (by decide +kernel) (pa_cons (pv 1) (pa_cons (pv 2) pa_nil))))) pss_nil)
      (pss_cons (ps_if (pt_cmpR op_eq (pv 0) pe_str (nomark _)) (pss_one (ps_ret (pe_ifExp (pt_cmpR op_lt (pv 1) (pv 2) (nomark _)) pe_int pe_int))) pss_nil)
      (pss_one (ps_ret (pe_ifExp (pt_cmpR op_eq (pv 1) (pv 2) (nomark _)) pe_int pe_int))))))))))), ?_⟩
    unfold operate at q
    refine ⟨_, rfl, rfl, _, rfl, ?_⟩
    rw [dec_st]
    refine ite2 (fun h => ?_) (fun h => ?_)
    · rw [if_pos (of_decide_eq_true h)] at q
      exact ⟨_, rfl, _, rfl, _, _, rfl, rfl, q⟩
    rw [if_neg (fun e => h (decide_eq_true e))] at q
    refine ⟨_, rfl, rfl, _, rfl, ?_⟩
    rw [dec_st]
    refine ite2 (fun h => ?_) (fun h => ?_)
    · rw [if_pos (of_decide_eq_true h)] at q
      exact ⟨_, rfl, _, rfl, _, _, rfl, rfl, q⟩
    rw [if_neg (fun e => h (decide_eq_true e))] at q
    refine ⟨_, rfl, rfl, _, rfl, ?_⟩
    rw [dec_st]
    refine ite2 (fun h => ?_) (fun h => ?_)
    · rw [if_pos (of_decide_eq_true h)] at q
      exact ⟨_, rfl, _, rfl, _, _, rfl, rfl, .inl ⟨by omega, by omega⟩, q⟩
    rw [if_neg (fun e => h (decide_eq_true e))] at q
    refine ⟨_, rfl, rfl, _, rfl, ?_⟩
    rw [dec_st]
    refine ite2 (fun h => ?_) (fun h => ?_)
    · have h0 := hz (.inl (of_decide_eq_true h))
      rw [if_pos (of_decide_eq_true h)] at q
      exact ⟨_, rfl, _, rfl, _, _, rfl, rfl, ⟨h0, by show g.natAbs < 1073741824; omega⟩, q⟩
    rw [if_neg (fun e => h (decide_eq_true e))] at q
    refine ⟨_, rfl, rfl, _, rfl, ?_⟩
    rw [dec_st]
    refine ite2 (fun h => ?_) (fun h => ?_)
    · have h0 := hz (.inr (of_decide_eq_true h))
      rw [if_pos (of_decide_eq_true h)] at q
      exact ⟨_, rfl, _, rfl, _, _, rfl, rfl, h0, q⟩
    rw [if_neg (fun e => h (decide_eq_true e))] at q
    refine ⟨_, rfl, rfl, _, rfl, ?_⟩
    rw [dec_st]
    refine ite2 (fun h => ?_) (fun h => ?_)
    · rw [if_pos (of_decide_eq_true h)] at q
      exact ⟨_, rfl, _, rfl, _, _, rfl, q⟩
    rw [if_neg (fun e => h (decide_eq_true e))] at q
    refine ⟨_, rfl, rfl, _, rfl, ?_⟩
    rw [dec_st]
    refine ite2 (fun h => ?_) (fun h => ?_)
    · rw [if_pos (of_decide_eq_true h)] at q
      exact ⟨_, rfl, _, rfl, _, _, rfl, q⟩
    rw [if_neg (fun e => h (decide_eq_true e))] at q
    refine ⟨_, rfl, rfl, _, rfl, ?_⟩
    rw [dec_st]
    refine ite2 (fun h => ?_) (fun h => ?_)
    · rw [if_pos (of_decide_eq_true h)] at q
      refine ⟨_, rfl, _, rfl, _, _, rfl, rfl, _, rfl, ?_⟩
      by_cases e : f < g
      · rw [if_pos e] at q
        rw [decide_eq_true e]
        exact q
      · rw [if_neg e] at q
        rw [decide_eq_false e]
        exact q
    rw [if_neg (fun e => h (decide_eq_true e))] at q
    refine ⟨_, rfl, _, rfl, rfl, _, rfl, ?_⟩
    by_cases e : f = g
    · rw [if_pos e] at q
      rw [e, decide_eq_true rfl]
      exact q
    · rw [if_neg e] at q
      rw [decide_eq_false (fun z => e (V.int.inj z))]
      exact q
/-- what a call with a result may do -/
def Tells (CK CL : Addr) (place : Str) (r : Res) (H : Hp) (Q : VK) (E : XK) : Prop := match r with
  | .ok i => ∀ H', Same H H' → Q (.int i) H'
  | .kind => ∀ d H', Same H H' → H' d = some (.xd [("place", .str place)]) → E (.ref CK) (some d) H'
  | .limit => ∀ d H', Same H H' → H' d = some (.xd [("kind", .str "amount")]) → E (.ref CL) (some d) H'
theorem Tells.same {CK CL : Addr} {place : Str} {r : Res} {H H1 : Hp} {Q : VK} {E : XK} (h : Tells CK CL place r H Q E) (s : Same H H1) : Tells CK CL place r H1 Q E := by
  cases r with
  | ok i => exact fun H' s' => h H' (s.trans s')
  | kind => exact fun d H' s' => h d H' (s.trans s')
  | limit => exact fun d H' s' => h d H' (s.trans s')
def spNumO (CK CL : Addr) (n : Nat) (f : Cnt → Am → Res) : Sp := fun vs H Q E => ∃ (v : V) (e : Am) (c : Addr) (kvs : Cnt) (place : Str), vs = [v, .ref c, .str place] ∧ Rep H v e ∧ e.deep ≤ n ∧ H c = some (.dK kvs) ∧ Nums kvs ∧ place.length ≤ 1000 ∧ Tells CK CL place (f kvs e) H Q E
def spNum (CK CL : Addr) (n : Nat) : Sp := spNumO CK CL n num
def spAt (CK CL : Addr) (n : Nat) : Sp := spNumO CK CL n fun kvs e => chk (num kvs e)
theorem ok_at {CK CL fLI f fN : Addr} {fd fdN fdLI : FuncData} {n k : Nat} (F : Fun K "amount_at" "amount_at" s_amount_at f fd) (T : Txt K mg B mc tL tG) (hk : 2 ≤ k)
    (X_LimitError : Exc K mg "LimitError" CL fLI fdLI "kind") (G_LimitError : FnOk P w K mg base CX0 1 fLI fdLI ["self", "kind"] (spExc K "kind"))
    (G__number_of : FnOk P w K mg base (L2.CX P w) k fN fdN ["e", "counters", "place"] (spNum CK CL n)) (D__number_of : Def K mg "_number_of" fN fdN ["e", "counters", "place"]) :
    FnOk P w K mg base (L2.CX P w) (k + 1) f fd ["e", "counters", "place"] (spAt CK CL n) := by
  refine F.okX scamount_at (fun vs H Q E h => ?_) (fun cdv A outer s H vs Q E hr h => ?_)
  · obtain ⟨v, e, c, kvs, z, rfl, _⟩ := h
    rfl
  · obtain ⟨v, e, c, kvs, z, rfl, hR, hd, hc, hn, hz, q⟩ := h
    refine ⟨_, (pss_cons (ps_set (i := 3) scamount_at.nd rfl (.inl rfl) (pe_call G__number_of (hr.mono (by omega)) (by rfl) D__number_of.m D__number_of.k D__number_of.b .nil (passes_call (takes_of rfl rfl rfl rfl) (fun _ _ _ _ h => h)) (pa_cons (pv 0) (pa_cons (pv 1) (pa_cons (pv 2) pa_nil)))))
      (pss_cons (ps_if (pt_not (pt_chain op_le op_le (pe_glob (v := V.int _) rfl T.m_LEAST ⟨_, rfl⟩) (pv 3) (pe_glob (v := V.int _) rfl T.m_GREATEST ⟨_, rfl⟩))) (pss_one (ps_raise rfl (takes_of rfl rfl rfl rfl) (pmk_oex X_LimitError.oex X_LimitError.ini X_LimitError.ty G_LimitError (hr.mono (by omega)) X_LimitError.b .nil pass0 (by rfl) X_LimitError.m (pa_cons pe_str pa_nil)))) pss_nil)
      (pss_one (ps_ret (pv 3))))), ?_⟩
    refine ⟨_, rfl, _, rfl, _, rfl, v, e, c, kvs, z, rfl, hR, hd, hc, hn, hz, ?_⟩
    change Tells CK CL z (chk (num kvs e)) H Q E at q
    cases hnum : num kvs e with
    | kind =>
      rw [hnum] at q
      exact q
    | limit =>
      rw [hnum] at q
      exact q
    | ok i =>
      rw [hnum] at q
      change Tells CK CL z (if -1000000 ≤ i ∧ i ≤ 1000000 then .ok i else .limit) H Q E at q
      intro H1 s1
      refine ⟨_, rfl, _, _, rfl, rfl, _, rfl, ite2 (fun h1 => ?_) (fun h1 => ?_)⟩
      · have l1 : -1000000 ≤ i := of_decide_eq_true h1
        refine ⟨_, _, rfl, rfl, _, rfl, ?_⟩
        by_cases l2 : i ≤ 1000000
        · rw [if_pos ⟨l1, l2⟩] at q
          rw [decide_eq_true l2]
          exact iteF ⟨_, rfl, q H1 s1⟩
        · rw [if_neg (fun z => l2 z.2)] at q
          rw [decide_eq_false l2]
          exact iteT ⟨by show 1 ≤ 1000; decide, raised X_LimitError (by decide) fun d H' s' e' => q d H' (s1.trans s') e'⟩
      · have l1 : ¬ -1000000 ≤ i := fun z => h1 (decide_eq_true z)
        rw [if_neg (fun z => l1 z.1)] at q
        exact ⟨_, rfl, iteT ⟨by show 1 ≤ 1000; decide, raised X_LimitError (by decide) fun d H' s' e' => q d H' (s1.trans s') e'⟩⟩
def lev (n : Nat) : Nat := 3 + 2 * n
theorem ok_num {CK CL fKI f fA fO : Addr} {fd fdA fdO fdKI : FuncData} {n k : Nat} (F : Fun K "_number_of" "_number_of" s__number_of f fd) (T : Txt K mg B mc tL tG) (hk : 2 ≤ k)
    (X_KindError : Exc K mg "KindError" CK fKI fdKI "place") (G_KindError : FnOk P w K mg base CX0 1 fKI fdKI ["self", "place"] (spExc K "place"))
    (G_amount_at : FnOk P w K mg base (L2.CX P w) k fA fdA ["e", "counters", "place"] (fun vs H Q E => 0 < n ∧ spAt CK CL (n - 1) vs H Q E)) (D_amount_at : Def K mg "amount_at" fA fdA ["e", "counters", "place"])
    (G__operated : FnOk P w K mg base CX0 1 fO fdO ["op", "first", "second"] spOper) (D__operated : Def K mg "_operated" fO fdO ["op", "first", "second"]) :
    FnOk P w K mg base (L2.CX P w) (k + 1) f fd ["e", "counters", "place"] (spNum CK CL n) := by
  refine F.okX sc_number_of (fun vs H Q E h => ?_) (fun cdv A outer s H vs Q E hr h => ?_)
  · obtain ⟨v, e, c, kvs, z, rfl, _⟩ := h
    rfl
  · obtain ⟨v, e, c, kvs, z, rfl, hR, hd, hc, hn, hz, q⟩ := h
    refine ⟨_, (pss_cons (ps_if (pt_val (pe_callB call_isi (by rfl) T.m_isinstance (by decide +kernel) (pa_cons (pv 0) (pa_cons (pe_bltn (v := .ty "int") (u := .type "int") (by rfl) T.m_int (by decide +kernel) rfl) pa_nil)))) (pss_one (ps_ret (pv 0))) pss_nil)
      (pss_cons (ps_if (pt_val (pe_callB call_isi (by rfl) T.m_isinstance (by decide +kernel) (pa_cons (pv 0) (pa_cons (pe_bltn (v := .ty "str") (u := .type "str") (by rfl) T.m_str (by decide +kernel) rfl) pa_nil)))) (pss_cons (ps_if (pt_cmp (pc_dnotin (hu_of hr) (pv 0) (pv 1))) (pss_one (ps_raise rfl (takes_of rfl rfl rfl rfl) (pmk_oex X_KindError.oex X_KindError.ini X_KindError.ty G_KindError (hr.mono (by omega)) X_KindError.b .nil pass0 (by rfl) X_KindError.m (pa_cons (pv 2) pa_nil)))) pss_nil)
      (pss_one (ps_ret (pe_dget (hu_of hr) (pv 1) (pv 0) (fun _ _ => rfl))))) pss_nil)
      (pss_cons (ps_set (i := 3) sc_number_of.nd rfl (.inl rfl) (pe_call G_amount_at (hr.mono (by omega)) (by rfl) D_amount_at.m D_amount_at.k D_amount_at.b .nil (passes_call (takes_of rfl rfl rfl rfl) (fun _ _ _ _ h => h)) (pa_cons (pe_ix (r := rIxT K) ix_tup (pv 0) pe_int (fun _ _ => rfl)) (pa_cons (pv 1) (pa_cons (pv 2) pa_nil)))))
      (pss_cons (ps_if (pt_cmpR op_eq (pe_ix (r := rIxT K) ix_tup (pv 0) pe_int (fun _ _ => rfl)) pe_str (nomark _)) (pss_cons (ps_if (pt_cmpR op_lt (pv 3) pe_int (nomark _)) (pss_one (ps_raise rfl (takes_of rfl rfl rfl rfl) (pmk_oex X_KindError.oex X_KindError.ini X_KindError.ty G_KindError (hr.mono (by omega)) X_KindError.b .nil pass0 (by rfl) X_KindError.m (pa_cons (pv 2) pa_nil)))) pss_nil)
      (pss_one (ps_ret (pe_callB (call_max2 rfl) (by rfl) T.m_max (by decide +kernel) (pa_cons pe_int (pa_cons (pe_bits (pv 3)) pa_nil)))))) pss_nil)
      (pss_cons (ps_set (i := 4) sc_number_of.nd rfl (.inl rfl) (pe_call G_amount_at (hr.mono (by omega)) (by rfl) D_amount_at.m D_amount_at.k D_amount_at.b .nil (passes_call (takes_of rfl rfl rfl rfl) (fun _ _ _ _ h => h)) (pa_cons (pe_ix (r := rIxT K) ix_tup (pv 0) pe_int (fun _ _ => rfl)) (pa_cons (pv 1) (pa_cons (pv 2) pa_nil)))))
      (pss_cons (ps_if (PW.pt (pw_and (pt_cmpR (r := rIn K false) op_in_seq (pe_ix (r := rIxT K) ix_tup (pv 0) pe_int (fun _ _ => rfl)) (pe_tup (pa_cons pe_str (pa_cons pe_str pa_nil))) (by rfl)) (pw_and1 (pt_cmpR op_eq (pv 4) pe_int (nomark _))))) (pss_one (ps_raise rfl (takes_of rfl rfl rfl rfl) (pmk_oex X_KindError.oex X_KindError.ini X_KindError.ty G_KindError (hr.mono (by omega)) X_KindError.b .nil pass0 (by rfl) X_KindError.m (pa_cons (pv 2) pa_nil)))) pss_nil)
      (pss_one (ps_ret (pe_call G__operated (hr.mono (by omega)) (by rfl) D__operated.m D__operated.k D__operated.b .nil pass0 (pa_cons (pe_ix (r := rIxT K) ix_tup (pv 0) pe_int (fun _ _ => rfl)) (pa_cons (pv 3) (pa_cons (pv 4) pa_nil)))))))))))), ?_⟩
    change Tells CK CL z (num kvs e) H Q E at q
    cases e with
    | num i =>
      obtain rfl : v = .int i := hR
      exact ⟨_, rfl, .int i, .ty "int", .type "int", .type "int", true, rfl, .ty _, .base (.int i), kit_ty (by decide +kernel), _, rfl, iteT ⟨_, rfl, q H (Same.refl H)⟩⟩
    | name x =>
      obtain rfl : v = .str x := hR
      refine ⟨_, rfl, .str x, .ty "int", .type "str", .type "int", false, rfl, .ty _, .base (.str x), kit_ty (by decide +kernel), _, rfl, iteF ?_⟩
      refine ⟨_, rfl, .str x, .ty "str", .type "str", .type "str", true, rfl, .ty _, .base (.str x), kit_ty (by decide +kernel), _, rfl, iteT ?_⟩
      refine ⟨_, rfl, _, rfl, c, _, rfl, DGet.k (k := Sum.inr x) hc, _, rfl, ?_⟩
      change Tells CK CL z (look kvs x) H Q E at q
      cases hv : valV kvs (Sum.inr x) with
      | none =>
        unfold look at q
        rw [hv] at q
        exact iteT ⟨_, rfl, by show 1 ≤ 1000; decide, raised X_KindError hz fun d H' s' e' => q d H' s' e'⟩
      | some u =>
        obtain ⟨i, rfl⟩ := hn _ _ hv
        unfold look at q
        rw [hv] at q
        exact iteF ⟨_, rfl, _, rfl, c, _, rfl, by rw [← hv]; exact DGet.k (k := Sum.inr x) hc, q H (Same.refl H)⟩
    | bits e =>
      obtain ⟨p, u, rfl, hp, hu⟩ := hR
      have hdeep : e.deep + 1 ≤ n := hd
      refine ⟨_, rfl, .ref p, .ty "int", .type "tuple", .type "int", false, rfl, .ty _, .base (.tup hp), kit_ty (by decide +kernel), _, rfl, iteF ?_⟩
      refine ⟨_, rfl, .ref p, .ty "str", .type "tuple", .type "str", false, rfl, .ty _, .base (.tup hp), kit_ty (by decide +kernel), _, rfl, iteF ?_⟩
      refine ⟨_, rfl, p, _, 1, _, rfl, rfl, SqT.of hp, atI_nat (j := 1) rfl, _, rfl, _, rfl, by omega, u, e, c, kvs, z, rfl, hu, by omega, hc, hn, hz, ?_⟩
      change Tells CK CL z (match chk (num kvs e) with | .ok f => if f < 0 then .kind else .ok (bitsOf f) | r => r) H Q E at q
      show Tells CK CL z (chk (num kvs e)) H _ _
      cases hr1 : chk (num kvs e) with
      | kind =>
        rw [hr1] at q
        exact q
      | limit =>
        rw [hr1] at q
        exact q
      | ok f =>
        rw [hr1] at q
        change Tells CK CL z (if f < 0 then .kind else .ok (bitsOf f)) H Q E at q
        intro H1 s1
        refine ⟨_, rfl, p, _, 0, _, rfl, rfl, SqT.of (s1 _ _ hp), atI_nat (j := 0) rfl, rfl, _, rfl, ?_⟩
        rw [decide_eq_true rfl]
        refine iteT ⟨_, rfl, _, _, rfl, rfl, _, rfl, ite2 (fun h1 => ?_) (fun h1 => ?_)⟩
        · rw [if_pos (of_decide_eq_true h1)] at q
          exact ⟨_, rfl, by show 1 ≤ 1000; decide, raised X_KindError hz fun d H' s' e' => q d H' (s1.trans s') e'⟩
        · rw [if_neg (fun z => h1 (decide_eq_true z))] at q
          exact ⟨_, rfl, _, rfl, _, _, rfl, q H1 s1⟩
    | op o a b =>
      obtain ⟨no', p, u, t, rfl, hp, hu, ht⟩ := hR
      have no : o ≠ "bits" := fun z => absurd (z ▸ no') (by decide +kernel)
      have hdeep : max a.deep b.deep + 1 ≤ n := hd
      refine ⟨_, rfl, .ref p, .ty "int", .type "tuple", .type "int", false, rfl, .ty _, .base (.tup hp), kit_ty (by decide +kernel), _, rfl, iteF ?_⟩
      refine ⟨_, rfl, .ref p, .ty "str", .type "tuple", .type "str", false, rfl, .ty _, .base (.tup hp), kit_ty (by decide +kernel), _, rfl, iteF ?_⟩
      refine ⟨_, rfl, p, _, 1, _, rfl, rfl, SqT.of hp, atI_nat (j := 1) rfl, _, rfl, _, rfl, by omega, u, a, c, kvs, z, rfl, hu, by omega, hc, hn, hz, ?_⟩
      change Tells CK CL z (match chk (num kvs a) with | .ok f => (match chk (num kvs b) with | .ok g => if (o = "div" ∨ o = "mod") ∧ g = 0 then .kind else .ok (operate o f g) | r => r) | r => r) H Q E at q
      show Tells CK CL z (chk (num kvs a)) H _ _
      cases hr1 : chk (num kvs a) with
      | kind =>
        rw [hr1] at q
        exact q
      | limit =>
        rw [hr1] at q
        exact q
      | ok f =>
        rw [hr1] at q
        intro H1 s1
        change Tells CK CL z (match chk (num kvs b) with | .ok g => if (o = "div" ∨ o = "mod") ∧ g = 0 then .kind else .ok (operate o f g) | r => r) H Q E at q
        replace q := q.same s1
        have hp1 := s1 _ _ hp
        refine ⟨_, rfl, p, _, 0, _, rfl, rfl, SqT.of hp1, atI_nat (j := 0) rfl, rfl, _, rfl, ?_⟩
        rw [decide_eq_false (show ¬ V.str o = V.str "bits" from fun z => no (V.str.inj z))]
        refine iteF ⟨_, rfl, p, _, 2, _, rfl, rfl, SqT.of hp1, atI_nat (j := 2) rfl, _, rfl, _, rfl, by omega, t, b, c, kvs, z, rfl, ht.same s1, by omega, s1 _ _ hc, hn, hz, ?_⟩
        show Tells CK CL z (chk (num kvs b)) H1 _ _
        cases hr2 : chk (num kvs b) with
        | kind =>
          rw [hr2] at q
          exact q
        | limit =>
          rw [hr2] at q
          exact q
        | ok g =>
          rw [hr2] at q
          intro H2 s2
          change Tells CK CL z (if (o = "div" ∨ o = "mod") ∧ g = 0 then .kind else .ok (operate o f g)) H1 Q E at q
          replace q := q.same s2
          have hp2 := s2 _ _ hp1
          refine ⟨_, rfl, p, _, 0, _, rfl, rfl, SqT.of hp2, atI_nat (j := 0) rfl, by show 2 ≤ sizeLine; decide, fun l nl => ?_⟩
          have s3 : Same H2 (upd H2 l (.tup [.str "div", .str "mod"])) := fun y o e => by
            rw [upd_ne (ne_of_none e nl)]
            exact e
          have hp3 := s3 _ _ hp2
          refine ⟨l, [.str "div", .str "mod"], rfl, .inr (SqT.of upd_same), rfl, rfl, _, rfl, ?_⟩
          have ein : inV (.str o) [.str "div", .str "mod"] = decide (o = "div" ∨ o = "mod") := by
            show (eqV (.str "div") (.str o) || (eqV (.str "mod") (.str o) || false)) = _
            show ((("div" : Str) == o) || ((("mod" : Str) == o) || false)) = _
            by_cases h1 : o = "div"
            · rw [h1, decide_eq_true (.inl rfl), beq_self_eq_true, Bool.true_or]
            · by_cases h2 : o = "mod"
              · rw [h2, decide_eq_true (.inr rfl), beq_self_eq_true, Bool.true_or, Bool.or_true]
              · rw [decide_eq_false (fun z => z.elim h1 h2), beq_eq_false_iff_ne.mpr (fun z => h1 z.symm), beq_eq_false_iff_ne.mpr (fun z => h2 z.symm)]
                rfl
          change (if (if false = true then _ else inV (.str o) [.str "div", .str "mod"]) = true then _ else _)
          rw [if_neg Bool.false_ne_true, ein]
          have go : ((o = "div" ∨ o = "mod") → g ≠ 0) → Tells CK CL z (.ok (operate o f g)) H2 Q E → spOper ([V.str o, V.int f, V.int g] ++ []) (upd H2 l (.tup [.str "div", .str "mod"])) Q E0 := fun h1 h2 => ⟨o, f, g, rfl, chk_ok hr1, chk_ok hr2, h1, h2 _ s3⟩
          refine ite2 (fun h1 => ?_) (fun h1 => ?_)
          · have h1' : o = "div" ∨ o = "mod" := of_decide_eq_true h1
            refine ⟨_, rfl, rfl, _, rfl, ?_⟩
            by_cases h2 : g = 0
            · rw [if_pos ⟨h1', h2⟩] at q
              rw [h2, decide_eq_true rfl]
              exact iteT ⟨_, rfl, by show 1 ≤ 1000; decide, raised X_KindError hz fun d H' s' e' => q d H' (s3.trans s') e'⟩
            · rw [if_neg (fun z => h2 z.2)] at q
              rw [decide_eq_false (fun z => h2 (V.int.inj z))]
              exact iteF ⟨_, rfl, p, _, 0, _, rfl, rfl, SqT.of hp3, atI_nat (j := 0) rfl, _, rfl, _, rfl, go (fun _ => h2) q⟩
          · have h1' : ¬ (o = "div" ∨ o = "mod") := fun z => h1 (decide_eq_true z)
            rw [if_neg (fun z => h1' z.1)] at q
            exact ⟨_, rfl, p, _, 0, _, rfl, rfl, SqT.of hp3, atI_nat (j := 0) rfl, _, rfl, _, rfl, go (fun z => absurd z h1') q⟩
end
end K2
namespace K2
open PySem PySem.Spec PyProof.Rows L2 K2X
section
variable {P : Program} {w : World} {K : PySem.W.Frag} {mg : Str → Option Value} {base : Heap} {B : Addr} {mc : Value} {tL tG : Tok}
/-- both defs at every depth -/
theorem ok_both {CK CL fKI fLI fN fA fO : Addr} {fdN fdA fdO fdKI fdLI : FuncData} (FN : Fun K "_number_of" "_number_of" s__number_of fN fdN) (FA : Fun K "amount_at" "amount_at" s_amount_at fA fdA) (T : Txt K mg B mc tL tG)
    (X_KindError : Exc K mg "KindError" CK fKI fdKI "place") (G_KindError : FnOk P w K mg base CX0 1 fKI fdKI ["self", "place"] (spExc K "place"))
    (X_LimitError : Exc K mg "LimitError" CL fLI fdLI "kind") (G_LimitError : FnOk P w K mg base CX0 1 fLI fdLI ["self", "kind"] (spExc K "kind"))
    (D_amount_at : Def K mg "amount_at" fA fdA ["e", "counters", "place"]) (D__number_of : Def K mg "_number_of" fN fdN ["e", "counters", "place"])
    (G__operated : FnOk P w K mg base CX0 1 fO fdO ["op", "first", "second"] spOper) (D__operated : Def K mg "_operated" fO fdO ["op", "first", "second"]) :
    ∀ n, FnOk P w K mg base (L2.CX P w) (2 * n + 4) fA fdA ["e", "counters", "place"] (spAt CK CL n)
  | 0 => ok_at FA T (by omega) X_LimitError G_LimitError (ok_num (k := 2) FN T (by omega) X_KindError G_KindError ⟨fun _ _ _ _ h => absurd h.1 (by omega), fun _ _ _ _ _ _ _ _ _ _ _ _ _ h => absurd h.1 (by omega)⟩ D_amount_at G__operated D__operated) D__number_of
  | n + 1 => ok_at FA T (by omega) X_LimitError G_LimitError (ok_num (k := 2 * n + 4) FN T (by omega) X_KindError G_KindError ((ok_both FN FA T X_KindError G_KindError X_LimitError G_LimitError D_amount_at D__number_of G__operated D__operated n).imp fun _ _ _ _ h => h.2) D_amount_at G__operated D__operated) D__number_of
def spAmt (CK CL : Addr) (n : Nat) : Sp := fun vs H Q E => ∃ (v : V) (e : Am) (c : Addr) (kvs : Cnt), vs = [v, .ref c] ∧ Rep H v e ∧ e.deep ≤ n ∧ H c = some (.dK kvs) ∧ Nums kvs ∧ Tells CK CL "" (chk (num kvs e)) H Q E
theorem ok_amount {CK CL f fA : Addr} {fd fdA : FuncData} {n k : Nat} (F : Fun K "amount" "amount" s_amount f fd)
    (G_amount_at : FnOk P w K mg base (L2.CX P w) k fA fdA ["e", "counters", "place"] (spAt CK CL n)) (D_amount_at : Def K mg "amount_at" fA fdA ["e", "counters", "place"]) :
    FnOk P w K mg base (L2.CX P w) (k + 1) f fd ["e", "counters"] (spAmt CK CL n) := by
  refine F.okX scamount (fun vs H Q E h => ?_) (fun cdv A outer s H vs Q E hr h => ?_)
  · obtain ⟨v, e, c, kvs, rfl, _⟩ := h
    rfl
  · obtain ⟨v, e, c, kvs, rfl, hR, hd, hc, hn, q⟩ := h
    refine ⟨_, (pss_one (ps_ret (pe_call G_amount_at (hr.mono (by omega)) (by rfl) D_amount_at.m D_amount_at.k D_amount_at.b .nil (passes_call (takes_of rfl rfl rfl rfl) (fun _ _ _ _ h => h)) (pa_cons (pv 0) (pa_cons (pv 1) (pa_cons pe_str pa_nil)))))), ?_⟩
    exact ⟨_, rfl, _, rfl, v, e, c, kvs, "", rfl, hR, hd, hc, hn, by decide, q⟩
def resV : Res → V
  | .ok i => .int i
  | .kind => .str "kind"
  | .limit => .str "limit"
def spTold (n : Nat) : Sp := fun vs H Q _ => ∃ (v : V) (e : Am) (c : Addr) (kvs : Cnt), vs = [v, .ref c] ∧ Rep H v e ∧ e.deep ≤ n ∧ H c = some (.dK kvs) ∧ Nums kvs ∧ ∀ H', Same H H' → Q (resV (chk (num kvs e))) H'
def tSui (C : Addr) (fld yes good : Str) : Addr → Value → Option Addr → TS := fun a cls d => tRet (tIf (tTest (tOp rEq (tXf a cls d C fld (tVar 2)) (tC (.str good)))) (tC (.str yes)) (tC (.str "other")))
theorem ok_told {CK CL fKI fLI f fA : Addr} {fd fdA fdKI fdLI : FuncData} {n k : Nat} (F : Fun K "_law_told" "_law_told" s__law_told f fd) (X_KindError : Exc K mg "KindError" CK fKI fdKI "place") (X_LimitError : Exc K mg "LimitError" CL fLI fdLI "kind")
    (kk : PySem.W.exmOne K (.ref CK) (.ref CK) = some true) (lk : PySem.W.exmOne K (.ref CL) (.ref CK) = some false) (ll : PySem.W.exmOne K (.ref CL) (.ref CL) = some true)
    (G_amount : FnOk P w K mg base (L2.CX P w) k fA fdA ["e", "counters"] (spAmt CK CL n)) (D_amount : Def K mg "amount" fA fdA ["e", "counters"]) :
    FnOk P w K mg base CX0 (k + 1) f fd ["e", "counters"] (spTold n) := by
  refine F.ok sc_law_told (fun vs H Q E h => ?_) (fun cdv A outer s H vs Q E hr h => ?_)
  · obtain ⟨v, e, c, kvs, rfl, _⟩ := h
    rfl
  · obtain ⟨v, e, c, kvs, rfl, hR, hd, hc, hn, q⟩ := h
    refine ⟨_, pss_one (ps_try_alts (i := 2) (n := "error") (l := [(.ref CK, tSui CK "place" "kind" ""), (.ref CL, tSui CL "kind" "limit" "amount")]) (tb := fun W => tRet (tCallS (spAmt CK CL n) (WE W) (tCons (tVar 0) (tCons (tVar 1) tNil)))) (Wout := fun _ _ _ _ => False) rfl rfl sc_law_told.nd rfl rfl takes0
      (fun W pn xe tk _ => pss_one (ps_ret (by exact (pe_callS G_amount hr rfl D_amount.m D_amount.k D_amount.b (fun σ => passAt tk σ) (by exact (pa_cons (pv 0) (pa_cons (pv 1) pa_nil)))))))
      (.more ⟨rfl, by decide, .inl X_KindError.m⟩ (fun a o cls d pn hz hf => pss_one (ps_ret (by exact (pe_ifExp (pt_cmpR op_eq (pe_xf X_KindError.xf X_KindError.no hz hf (pv 2)) pe_str (nomark _)) pe_str pe_str))))
        (.more ⟨rfl, by decide, .inl X_LimitError.m⟩ (fun a o cls d pn hz hf => pss_one (ps_ret (by exact (pe_ifExp (pt_cmpR op_eq (pe_xf X_LimitError.xf X_LimitError.no hz hf (pv 2)) pe_str (nomark _)) pe_str pe_str)))) .none))), ?_⟩
    refine ⟨_, rfl, _, rfl, v, e, c, kvs, rfl, hR, hd, hc, hn, ?_⟩
    cases hres : chk (num kvs e) with
    | ok i =>
      rw [hres] at q
      exact fun H' s' => q H' s'
    | kind =>
      rw [hres] at q
      intro d H' s' hd'
      refine ⟨true, kk, fun _ a ha => ?_, fun z => nomatch z⟩
      exact ⟨_, rfl, rfl, rfl, d, _, _, rfl, hd', rfl, rfl, _, rfl, q H' s'⟩
    | limit =>
      rw [hres] at q
      intro d H' s' hd'
      refine ⟨false, lk, (fun z => nomatch z), fun _ => ⟨true, ll, fun _ a ha => ?_, (fun z => nomatch z)⟩⟩
      exact ⟨_, rfl, rfl, rfl, d, _, _, rfl, hd', rfl, rfl, _, rfl, q H' s'⟩
end
end K2
namespace K2
open PySem PySem.Spec PyProof.Rows L2 K2X
/-! ### the draws -/
/-- all but what stands at p is as it was -/
def Keep (p : Addr) (H H' : Hp) : Prop := ∀ b o, b ≠ p → H b = some o → H' b = some o
theorem Keep.refl (p : Addr) (H : Hp) : Keep p H H := fun _ _ _ h => h
theorem Keep.trans {p : Addr} {H H1 H2 : Hp} (a : Keep p H H1) (b : Keep p H1 H2) : Keep p H H2 := fun c o n h => b c o n (a c o n h)
theorem Keep.upd {p : Addr} {H H1 : Hp} {o : HO} (a : Keep p H H1) : Keep p H (upd H1 p o) := fun c u n h => by
  rw [upd_ne n]
  exact a c u n h
theorem Keep.of_same {p : Addr} {H H1 : Hp} (a : Same H H1) : Keep p H H1 := fun c u _ h => a c u h
/-- the script, which stood before what is at p was made -/
def Scr (K : PySem.W.Frag) (H : Hp) (p a : Addr) (ns : List Int) : Prop := ∃ H0, H0 p = none ∧ Same H0 H ∧ SqL K H0 a (ns.map V.int)
theorem Scr.keep {K : PySem.W.Frag} {H H' : Hp} {p a : Addr} {ns : List Int} (h : Scr K H p a ns) (k : Keep p H H') : Scr K H' p a ns := by
  obtain ⟨H0, n, s, q⟩ := h
  exact ⟨H0, n, fun b o e => k b o (ne_of_none e n) (s b o e), q⟩
theorem Scr.seq {K : PySem.W.Frag} {H : Hp} {p a : Addr} {ns : List Int} (h : Scr K H p a ns) : SqL K H a (ns.map V.int) := by
  obtain ⟨H0, n, s, q⟩ := h
  exact s.seq q
abbrev ls2 (i s : Int) : HO := .lst [.int i, .int s]
theorem ix_lst {K : PySem.W.Frag} {H : Hp} {p : Addr} {ws : List V} {z : Int} {i : Nat} {v : V} {Q : VK} (e : z = (i : Int)) (hs : SqL K H p ws) (h : ws[i]? = some v) (q : Q v H) : rIxL K (.ref p) (.int z) H Q := by
  subst e
  exact ⟨p, ws, _, v, rfl, rfl, hs, atI_nat h, q⟩
theorem emod_range {x m : Int} (h : 0 < m) : 0 ≤ x.fmod m ∧ x.fmod m < m := by
  rw [Int.fmod_eq_emod_of_nonneg x (by omega)]
  exact ⟨Int.emod_nonneg _ (by omega), Int.emod_lt_of_pos _ h⟩
theorem at_mod {ns : List Int} {i : Int} (h : 0 < (ns.length : Int)) : ∃ (k : Nat) (c : Int), i.fmod ((ns.map V.int).length : Int) = (k : Int) ∧ (ns.map V.int)[k]? = some (.int c) := by
  have r := emod_range (x := i) h
  rw [List.length_map]
  obtain ⟨k, hk⟩ : ∃ k : Nat, i.fmod (ns.length : Int) = (k : Int) := ⟨_, (Int.toNat_of_nonneg r.1).symm⟩
  have hk2 : k < ns.length := by omega
  refine ⟨k, ns[k], hk, ?_⟩
  rw [List.getElem?_map, List.getElem?_eq_getElem hk2]
  rfl
section
variable {P : Program} {w : World} {K : PySem.W.Frag} {mg : Str → Option Value} {base : Heap} {B : Addr} {mc : Value} {tL tG : Tok}
def spDraw (K : PySem.W.Frag) : Sp := fun vs H Q _ => ∃ (p a : Addr) (ns : List Int) (i s z : Int), vs = [.ref p, .ref a, .int z] ∧ H p = some (ls2 i s) ∧ 0 ≤ i ∧ 0 ≤ s ∧ Scr K H p a ns ∧ 0 < z ∧ z < 1073741824 ∧
  ∀ H' i' s' d, Keep p H H' → H' p = some (ls2 i' s') → 0 ≤ i' → 0 ≤ s' → 0 ≤ d → d < z → Q (.int d) H'
theorem ok_draw {f : Addr} {fd : FuncData} (F : Fun K "_law_draw" "_law_draw" s__law_draw f fd) (T : Txt K mg B mc tL tG) : FnOk P w K mg base CX0 1 f fd ["state", "script", "size"] (spDraw K) := by
  refine F.ok sc_law_draw (fun vs H Q E h => ?_) (fun cdv A outer s H vs Q E hr h => ?_)
  · obtain ⟨p, a, ns, i, s, z, rfl, _⟩ := h
    rfl
  · obtain ⟨p, a, ns, i, s, z, rfl, hp, hi, hs, hS, hz, hz2, q⟩ := h
    refine ⟨_, (C8.pss_cut (ps_if (pt_cmpR op_eq (pe_ix (r := rIxL K) ix_list (pv 0) pe_int (fun _ _ => rfl)) pe_int (nomark _)) (pss_cons (ps_set (i := 3) sc_law_draw.nd rfl (.inl rfl) pe_int)
      (C8.pss_cut (ps_if (pt_cmpR op_gt (pe_callB call_len_seq (by rfl) T.m_len (by decide +kernel) (pa_cons (pv 1) pa_nil)) pe_int (nomark _)) (pss_one (ps_set (i := 3) sc_law_draw.nd rfl (.inl rfl) (pe_ix (r := rIxL K) ix_list (pv 1) (pe_op op_modN (pe_ix (r := rIxL K) ix_list (pv 0) pe_int (fun _ _ => rfl)) (pe_callB call_len_seq (by rfl) T.m_len (by decide +kernel) (pa_cons (pv 1) pa_nil))) (fun _ _ => rfl)))) pss_nil)
      (C8.pss_cut (ps_if (pt_cmpR op_lt (pv 3) pe_int (nomark _)) (pss_one (ps_set (i := 3) sc_law_draw.nd rfl (.inl rfl) (pe_op op_sub pe_int (pe_op op_mul pe_int (pv 3))))) pss_nil)
      (pss_cons (ps_set (i := 4) sc_law_draw.nd rfl (.inl rfl) (pe_op op_modN (pe_callTy call_int1 (by rfl) T.m_int (by decide +kernel) (pa_cons (pe_op op_mul (pe_op op_add (pe_op op_add (pv 3) (pe_op op_mul (pe_ix (r := rIxL K) ix_list (pv 0) pe_int (fun _ _ => rfl)) pe_int)) pe_int) pe_int) pa_nil)) pe_int))
      (pss_cons (ps_asg (pe_op op_modN (pe_callTy call_int1 (by rfl) T.m_int (by decide +kernel) (pa_cons (pe_op op_add (pe_op op_mul (pv 4) pe_int) (pe_op op_mul (pe_ix (r := rIxL K) ix_list (pv 0) pe_int (fun _ _ => rfl)) pe_int)) pa_nil)) pe_int) (pg_sub (pv 0) pe_int set_list))
      (C8.pss_cut (ps_if (PW.pt (pw_and (pt_cmpR op_ge (pv 3) (pe_op op_pow pe_int pe_int) (nomark _)) (pw_and1 (pt_cmpR op_lt (pe_ix (r := rIxL K) ix_list (pv 0) pe_int (fun _ _ => rfl)) (pe_callB call_len_seq (by rfl) T.m_len (by decide +kernel) (pa_cons (pv 1) pa_nil)) (nomark _))))) (pss_one (ps_asg (pv 3) (pg_sub (pv 0) pe_int set_list))) pss_nil)
      (pss_one (ps_asg (pe_op op_add (pe_ix (r := rIxL K) ix_list (pv 0) pe_int (fun _ _ => rfl)) pe_int) (pg_sub (pv 0) pe_int set_list))))))))) pss_nil)
      (pss_cons (ps_set (i := 5) sc_law_draw.nd rfl (.inl rfl) (pe_op op_modN (pe_callTy call_int1 (by rfl) T.m_int (by decide +kernel) (pa_cons (pe_ix (r := rIxL K) ix_list (pv 0) pe_int (fun _ _ => rfl)) pa_nil)) (pv 2)))
      (pss_cons (ps_asg (pe_op op_fdivN (pe_ix (r := rIxL K) ix_list (pv 0) pe_int (fun _ _ => rfl)) (pv 2)) (pg_sub (pv 0) pe_int set_list))
      (pss_one (ps_ret (pv 5)))))), ?_⟩
    -- whatever the state was, behind the first if it is one from 0 on
    refine ⟨fun σ H' => ∃ (i' s' : Int) (y3 y4 : Option V), σ = [some (.ref p), some (.ref a), some (.int z), y3, y4, none] ∧ Keep p H H' ∧ H' p = some (ls2 i' s') ∧ 0 ≤ i' ∧ 0 ≤ s', ?_, ?_⟩
    · refine ⟨_, rfl, p, _, 1, _, rfl, rfl, SqL.of hp, atI_nat (j := 1) rfl, rfl, _, rfl, ite2 (fun h0 => ?_) (fun h0 => ?_)⟩
      · -- cell = 0; if len(script) > 0: ..
        refine ⟨fun σ H' => ∃ c : Int, σ = [some (.ref p), some (.ref a), some (.int z), some (.int c), none, none] ∧ H' = H, ?_, ?_⟩
        · refine ⟨_, rfl, a, _, rfl, .inl hS.seq, _, _, rfl, rfl, _, rfl, ite2 (fun h1 => ?_) (fun h1 => ?_)⟩
          · have h2 : (0 : Int) < ((ns.map V.int).length : Int) := of_decide_eq_true h1
            have h3 : (0 : Int) < (ns.length : Int) := by
              rw [List.length_map] at h2
              exact h2
            obtain ⟨k, c, ek, gk⟩ := at_mod (i := i) h3
            refine ⟨_, rfl, _, rfl, p, _, 0, _, rfl, rfl, SqL.of hp, atI_nat (j := 0) rfl, _, rfl, a, _, rfl, .inl hS.seq, _, _, rfl, rfl, ?_, a, _, _, .int c, rfl, rfl, hS.seq, at_of ek gk, ?_⟩
            · show ((ns.map V.int).length : Int) ≠ 0
              omega
            · exact ⟨c, rfl, rfl⟩
          · exact ⟨0, rfl, rfl⟩
        · rintro σ H' ⟨c, rfl, rfl⟩
          refine ⟨fun σ H'' => ∃ c : Int, σ = [some (.ref p), some (.ref a), some (.int z), some (.int c), none, none] ∧ 0 ≤ c ∧ H'' = H', ?_, ?_⟩
          · refine ⟨_, rfl, _, _, rfl, rfl, _, rfl, ite2 (fun h1 => ?_) (fun h1 => ?_)⟩
            · have h2 : c < 0 := of_decide_eq_true h1
              refine ⟨_, rfl, _, _, rfl, rfl, .inl ⟨by decide, by decide⟩, _, _, rfl, rfl, ?_⟩
              exact ⟨1 - 2 * c, rfl, by omega, rfl⟩
            · have h2 : ¬ c < 0 := fun e => h1 (decide_eq_true e)
              exact ⟨c, rfl, by omega, rfl⟩
          · rintro σ H'' ⟨c, rfl, hc, rfl⟩
            -- mixed, state[1]
            refine ⟨_, rfl, _, rfl, p, _, 0, _, rfl, rfl, SqL.of hp, atI_nat (j := 0) rfl, _, _, rfl, rfl, .inr ⟨by decide, by decide⟩, _, _, rfl, rfl, _, _, rfl, rfl, _, _, rfl, rfl, .inr ⟨by decide, by decide⟩, .inl ⟨_, rfl, _, _, rfl, rfl, (show (2147483647 : Int) ≠ 0 by decide), ?_⟩⟩
            refine ⟨_, rfl, _, _, rfl, rfl, .inr ⟨by decide, by decide⟩, _, rfl, p, _, 0, _, rfl, rfl, SqL.of hp, atI_nat (j := 0) rfl, _, _, rfl, rfl, .inr ⟨by decide, by decide⟩, _, _, rfl, rfl, .inl ⟨_, rfl, _, _, rfl, rfl, (show (4294967291 : Int) ≠ 0 by decide), ?_⟩⟩
            refine ⟨_, rfl, p, _, 1, 1, rfl, rfl, hp, rfl, ?_⟩
            have m2 := emod_range (x := ((c + i * 7919 + 1) * 48271).fmod 2147483647 * 69621 + i * 104729) (show (0 : Int) < 4294967291 by decide)
            refine ⟨fun σ H3 => ∃ (s2 : Int) (y4 : Option V), σ = [some (.ref p), some (.ref a), some (.int z), some (.int c), y4, none] ∧ Keep p H'' H3 ∧ H3 p = some (ls2 i s2) ∧ 0 ≤ s2, ?_, ?_⟩
            · have k1 : Keep p H'' (upd H'' p (ls2 i (Int.fmod (((c + i * 7919 + 1) * 48271).fmod 2147483647 * 69621 + i * 104729) 4294967291))) := (Keep.refl p H'').upd
              refine ⟨_, rfl, _, _, rfl, rfl, ⟨by decide, by decide, by decide⟩, _, _, rfl, rfl, _, rfl, ?_⟩
              refine ite2 (fun h1 => ?_) (fun h1 => ?_)
              · refine ⟨_, rfl, p, _, 0, _, rfl, rfl, SqL.of upd_same, atI_nat (j := 0) rfl, _, rfl, a, _, rfl, .inl (hS.keep k1).seq, _, _, rfl, rfl, _, rfl, ite2 (fun h2 => ?_) (fun h2 => ?_)⟩
                · refine ⟨_, rfl, _, rfl, p, _, 1, 1, rfl, rfl, upd_same, rfl, ?_⟩
                  exact ⟨c, _, rfl, k1.upd, upd_same, hc⟩
                · exact ⟨_, _, rfl, k1, upd_same, m2.1⟩
              · exact ⟨_, _, rfl, k1, upd_same, m2.1⟩
            · rintro σ H3 ⟨s2, y4, rfl, k3, h3, hs2⟩
              refine ⟨_, rfl, p, _, 0, _, rfl, rfl, SqL.of h3, atI_nat (j := 0) rfl, _, _, rfl, rfl, _, rfl, p, _, 0, 0, rfl, rfl, h3, rfl, ?_⟩
              exact ⟨i + 1, s2, _, _, rfl, k3.upd, upd_same, by omega, hs2⟩
      · exact ⟨i, s, none, none, rfl, Keep.refl _ _, hp, hi, hs⟩
    · rintro σ H' ⟨i', s', y3, y4, rfl, k, hp', hi', hs'⟩
      refine ⟨_, rfl, p, _, 1, _, rfl, rfl, SqL.of hp', atI_nat (j := 1) rfl, .inl ⟨_, rfl, _, rfl, _, _, rfl, rfl, ?_, ?_⟩⟩
      · show z ≠ 0
        omega
      · refine ⟨_, rfl, p, _, 1, _, rfl, rfl, SqL.of hp', atI_nat (j := 1) rfl, _, rfl, _, _, rfl, rfl, ⟨?_, ?_⟩, _, rfl, p, _, 1, 1, rfl, rfl, hp', rfl, _, rfl, ?_⟩
        · show z ≠ 0
          omega
        · show z.natAbs < 1073741824
          omega
        · have r := emod_range (x := s') hz
          refine q _ i' (s'.fdiv z) _ k.upd upd_same hi' ?_ r.1 r.2
          rw [Int.fdiv_eq_ediv_of_nonneg s' (by omega)]
          exact Int.ediv_nonneg hs' (by omega)

structure At (HB H : Hp) (p : Addr) : Prop where
  keep : Keep p HB H
  st : ∃ i s : Int, H p = some (ls2 i s) ∧ 0 ≤ i ∧ 0 ≤ s
theorem At.same {HB H H' : Hp} {p : Addr} (h : At HB H p) (s : Same H H') : At HB H' p := by
  obtain ⟨k, i, z, e, h0, h1⟩ := h
  exact ⟨k.trans (Keep.of_same s), i, z, s _ _ e, h0, h1⟩
theorem same_new {H : Hp} {p : Addr} {o : HO} (h : H p = none) : Same H (upd H p o) := fun b x e => by
  rw [upd_ne (ne_of_none e h)]
  exact e
theorem same_mut {H H' : Hp} {p : Addr} {o : HO} (e : Same H H') (h : H p = none) : Same H (upd H' p o) := fun a u ha => by
  rw [upd_ne (ne_of_none ha h)]
  exact e a u ha
/-! ### the law's own reckoning -/
def spChecked : Sp := fun vs H Q _ => ∃ i : Int, vs = [.int i] ∧ Q (resV (chk (.ok i))) H
theorem ok_checked {f : Addr} {fd : FuncData} (F : Fun K "_law_checked" "_law_checked" s__law_checked f fd) : FnOk P w K mg base CX0 1 f fd ["number"] spChecked := by
  refine F.ok sc_law_checked (fun vs H Q E h => ?_) (fun cdv A outer s H vs Q E hr h => ?_)
  · obtain ⟨i, rfl, _⟩ := h
    rfl
  · obtain ⟨i, rfl, q⟩ := h
    refine ⟨_, (pss_one (ps_ret (pe_ifExp (pt_chain op_le op_le (pe_un un_neg pe_int) (pv 0) pe_int) (pv 0) pe_str))), ?_⟩
    change Q (resV (if -1000000 ≤ i ∧ i ≤ 1000000 then .ok i else .limit)) H at q
    refine ⟨_, rfl, _, rfl, _, _, rfl, rfl, _, rfl, ite2 (fun h1 => ?_) (fun h1 => ?_)⟩
    · have l1 : -1000000 ≤ i := of_decide_eq_true h1
      refine ⟨_, _, rfl, rfl, _, rfl, ?_⟩
      by_cases l2 : i ≤ 1000000
      · rw [if_pos ⟨l1, l2⟩] at q
        rw [decide_eq_true l2]
        exact ⟨_, rfl, q⟩
      · rw [if_neg (fun z => l2 z.2)] at q
        rw [decide_eq_false l2]
        exact q
    · have l1 : ¬ -1000000 ≤ i := fun z => h1 (decide_eq_true z)
      rw [if_neg (fun z => l1 z.1)] at q
      exact ⟨_, rfl, q⟩
def Am.subs : Am → List Am
  | .bits e => [e]
  | .op _ a b => [a, b]
  | _ => []
theorem sub_deep {e s : Am} {i n : Nat} (h : e.subs[i]? = some s) (hd : e.deep ≤ n + 1) : s.deep ≤ n := by
  cases e with
  | num _ => simp [Am.subs] at h
  | name _ => simp [Am.subs] at h
  | bits e =>
    have hd' : e.deep + 1 ≤ n + 1 := hd
    cases i with
    | zero => have : e = s := Option.some.inj h; subst this; omega
    | succ i => simp [Am.subs] at h
  | op o a b =>
    have hd' : max a.deep b.deep + 1 ≤ n + 1 := hd
    match i, h with
    | 0, h => have : a = s := Option.some.inj h; subst this; omega
    | 1, h => have : b = s := Option.some.inj h; subst this; omega
    | i + 2, h => simp [Am.subs] at h
/-- a part that has no number decides, if those before it have one -/
theorem sub_bad {kvs : Cnt} {e s : Am} {i : Nat} (h : e.subs[i]? = some s) (hb : ∀ j t, j < i → e.subs[j]? = some t → ∃ f, chk (num kvs t) = .ok f) {r : Res} (hr : chk (num kvs s) = r) (nr : ∀ f, r ≠ .ok f) : chk (num kvs e) = r := by
  cases e with
  | num _ => simp [Am.subs] at h
  | name _ => simp [Am.subs] at h
  | bits e =>
    cases i with
    | succ i => simp [Am.subs] at h
    | zero =>
      have : e = s := Option.some.inj h
      subst this
      show chk (match chk (num kvs e) with | .ok f => if f < 0 then .kind else .ok (bitsOf f) | r => r) = r
      rw [hr]
      cases r with
      | ok f => exact absurd rfl (nr f)
      | kind => rfl
      | limit => rfl
  | op o a b =>
    show chk (match chk (num kvs a) with | .ok f => (match chk (num kvs b) with | .ok g => if (o = "div" ∨ o = "mod") ∧ g = 0 then .kind else .ok (operate o f g) | r => r) | r => r) = r
    match i, h, hb with
    | 0, h, hb =>
      have : a = s := Option.some.inj h
      subst this
      rw [hr]
      cases r with
      | ok f => exact absurd rfl (nr f)
      | kind => rfl
      | limit => rfl
    | 1, h, hb =>
      have : b = s := Option.some.inj h
      subst this
      obtain ⟨f, hf⟩ := hb 0 a (by omega) rfl
      rw [hf]
      show chk (match chk (num kvs b) with | .ok g => if (o = "div" ∨ o = "mod") ∧ g = 0 then .kind else .ok (operate o f g) | r => r) = r
      rw [hr]
      cases r with
      | ok f => exact absurd rfl (nr f)
      | kind => rfl
      | limit => rfl
    | i + 2, h, hb => simp [Am.subs] at h
theorem cut_tail (x : V) (us : List V) : cutV (x :: us) (some 1) none = us := by
  unfold cutV
  rw [HT.sIx_none, show HT.sIx (x :: us).length 0 (some 1) = min 1 (x :: us).length from HT.sIx_nat _ 0 1, List.length_cons, show min 1 (us.length + 1) = 1 by omega]
  show List.take (us.length + 1 - 1) us = us
  rw [Nat.add_sub_cancel]
  exact List.take_length
theorem rep_tup {H : Hp} {v : V} {e : Am} (h : Rep H v e) (h1 : ∀ i, e ≠ .num i) (h2 : ∀ x, e ≠ .name x) : ∃ (p : Addr) (o : Str) (us : List V), v = .ref p ∧ H p = some (.tup (.str o :: us)) ∧ us.length = e.subs.length ∧ ∀ (i : Nat) s, e.subs[i]? = some s → ∃ u, us[i]? = some u ∧ Rep H u s := by
  cases e with
  | num i => exact absurd rfl (h1 i)
  | name x => exact absurd rfl (h2 x)
  | bits e =>
    obtain ⟨p, u, rfl, hp, hu⟩ := h
    refine ⟨p, _, [u], rfl, hp, rfl, fun i s hs => ?_⟩
    match i, hs with
    | 0, hs => exact ⟨u, rfl, (Option.some.inj hs) ▸ hu⟩
    | i + 1, hs => simp [Am.subs] at hs
  | op o a b =>
    obtain ⟨_, p, u, t, rfl, hp, hu, ht⟩ := h
    refine ⟨p, _, [u, t], rfl, hp, rfl, fun i s hs => ?_⟩
    match i, hs with
    | 0, hs => exact ⟨u, rfl, (Option.some.inj hs) ▸ hu⟩
    | 1, hs => exact ⟨t, rfl, (Option.some.inj hs) ▸ ht⟩
    | i + 2, hs => simp [Am.subs] at hs
theorem bit_iff {f : Int} (h0 : 0 ≤ f) (k : Nat) : 0 < f / 2 ^ k ↔ k < Builtin.Int.intBits f := by
  have e1 : (Builtin.Int.intBits f ≤ k) ↔ f.natAbs < 2 ^ k := PySem.intBits_le_iff
  obtain ⟨n, rfl⟩ : ∃ n : Nat, f = (n : Int) := ⟨f.toNat, by omega⟩
  have e2 : ((n : Int) / 2 ^ k) = ((n / 2 ^ k : Nat) : Int) := by
    rw [Int.natCast_ediv, Int.natCast_pow]
    rfl
  rw [e2]
  have e3 : 0 < n / 2 ^ k ↔ 2 ^ k ≤ n := Nat.div_pos_iff.trans ⟨fun z => z.2, fun z => ⟨Nat.two_pow_pos k, z⟩⟩
  have e4 : ((n : Int)).natAbs = n := Int.natAbs_natCast n
  rw [e4] at e1
  omega
/-- what the law's comprehension makes of f up to i -/
def rungs (f : Int) (i : Nat) : List Int := ((List.range i).filter (fun k => decide (0 < f / 2 ^ k))).map (fun (k : Nat) => (k : Int) + 1)
theorem rungs_yes {f : Int} {i : Nat} (h : 0 < f / 2 ^ i) : rungs f (i + 1) = rungs f i ++ [(i : Int) + 1] := by
  unfold rungs
  rw [List.range_succ, List.filter_append, List.map_append, List.filter_cons, decide_eq_true h, if_pos rfl]
  rfl
theorem rungs_no {f : Int} {i : Nat} (h : ¬ 0 < f / 2 ^ i) : rungs f (i + 1) = rungs f i := by
  unfold rungs
  rw [List.range_succ, List.filter_append, List.map_append, List.filter_cons, decide_eq_false h, if_neg Bool.false_ne_true]
  show _ ++ [] = _
  rw [List.append_nil]
theorem rungs_len (f : Int) (i : Nat) : (rungs f i).length ≤ i := by
  unfold rungs
  rw [List.length_map]
  have h := List.length_filter_le (fun k => decide (0 < f / 2 ^ k)) (List.range i)
  rw [List.length_range] at h
  exact h
theorem mem_rungs {f : Int} (h0 : 0 ≤ f) {y : Int} {i : Nat} : y ∈ rungs f i ↔ ∃ k : Nat, k < i ∧ k < Builtin.Int.intBits f ∧ y = (k : Int) + 1 := by
  unfold rungs
  constructor
  · intro h
    obtain ⟨k, hk, rfl⟩ := List.mem_map.mp h
    obtain ⟨h1, h2⟩ := List.mem_filter.mp hk
    exact ⟨k, List.mem_range.mp h1, (bit_iff h0 k).mp (of_decide_eq_true h2), rfl⟩
  · rintro ⟨k, h1, h2, rfl⟩
    exact List.mem_map.mpr ⟨k, List.mem_filter.mpr ⟨List.mem_range.mpr h1, by rw [decide_eq_true ((bit_iff h0 k).mpr h2)]⟩, rfl⟩
theorem max_rungs {f : Int} (h0 : 0 ≤ f) (h1 : f ≤ 1000000) {m : Int} (hm : m ∈ 1 :: rungs f 30) (hall : ∀ y ∈ 1 :: rungs f 30, y ≤ m) : m = bitsOf f := by
  have hb : Builtin.Int.intBits f ≤ 20 := PySem.intBits_le_iff.mpr (by omega)
  have one : 1 ≤ m := hall 1 List.mem_cons_self
  have up : m ≤ 1 ∨ m ≤ (Builtin.Int.intBits f : Nat) := by
    rcases List.mem_cons.mp hm with h | h
    · exact .inl (by omega)
    · obtain ⟨k, _, h2, rfl⟩ := (mem_rungs h0).mp h
      exact .inr (by omega)
  unfold bitsOf
  by_cases hB : ((Builtin.Int.intBits f : Nat) : Int) > 1
  · rw [if_pos hB]
    have hin : (((Builtin.Int.intBits f - 1 : Nat) : Int) + 1) ∈ 1 :: rungs f 30 := List.mem_cons_of_mem _ ((mem_rungs h0).mpr ⟨_, by omega, by omega, rfl⟩)
    have := hall _ hin
    omega
  · rw [if_neg hB]
    omega
theorem res_flat (r : Res) : flatV (resV r) = true := by cases r <;> rfl
theorem valV_cons {k j : Key} {v : V} {r : Cnt} : valV ((k, v) :: r) j = if k = j then some v else valV r j := by
  unfold valV
  rw [List.find?_cons]
  by_cases h : k = j
  · rw [if_pos h, decide_eq_true h]
    rfl
  · rw [if_neg h, decide_eq_false h]
theorem merge_go : ∀ (kvs acc : Cnt), ((acc ++ kvs).map (·.1)).Nodup → mergeK acc kvs = acc ++ kvs
  | [], acc, _ => (List.append_nil acc).symm
  | (k, v) :: r, acc, h => by
    have hn : (acc.any fun kv => decide (kv.1 = k)) = false := by
      rw [List.any_eq_false]
      intro p hp e
      rw [List.map_append, List.nodup_append] at h
      exact h.2.2 p.1 (List.mem_map_of_mem hp) k (List.mem_map_of_mem (List.mem_cons_self)) (of_decide_eq_true e)
    have e1 : putK acc k v = acc ++ [(k, v)] := by
      unfold putK
      rw [hn, if_neg Bool.false_ne_true]
    show mergeK (putK acc k v) r = _
    rw [e1, merge_go r (acc ++ [(k, v)]) (by rw [List.append_assoc]; exact h), List.append_assoc]
    rfl
theorem merge_nodup {kvs : Cnt} (h : (kvs.map (·.1)).Nodup) : mergeK [] kvs = kvs := merge_go kvs [] h
theorem nk {a b : Str} (h : a ≠ b) : ¬ ((Sum.inr a : Key) = Sum.inr b) := fun z => h (Sum.inr.inj z)
def spDue (n : Nat) : Sp := fun vs H Q _ => ∃ (v : V) (e : Am) (c : Addr) (kvs : Cnt), vs = [v, .ref c] ∧ Rep H v e ∧ e.deep ≤ n ∧ H c = some (.dK kvs) ∧ Nums kvs ∧ ∀ H', Same H H' → Q (resV (chk (num kvs e))) H'
theorem ok_due {f fC : Addr} {fd fdC : FuncData} {n k : Nat} (F : Fun K "_law_due" "_law_due" s__law_due f fd) (T : Txt K mg B mc tL tG) (hk : 1 ≤ k)
    (G__law_checked : FnOk P w K mg base CX0 1 fC fdC ["number"] spChecked) (D__law_checked : Def K mg "_law_checked" fC fdC ["number"])
    (G__law_due : FnOk P w K mg base CX0 k f fd ["e", "counters"] (fun vs H Q E => 0 < n ∧ spDue (n - 1) vs H Q E)) (D__law_due : Def K mg "_law_due" f fd ["e", "counters"]) :
    FnOk P w K mg base CX0 (k + 1) f fd ["e", "counters"] (spDue n) := by
  refine F.ok sc_law_due (fun vs H Q E h => ?_) (fun cdv A outer s H vs Q E hr h => ?_)
  · obtain ⟨v, e, c, kvs, rfl, _⟩ := h
    rfl
  · obtain ⟨v, e, c, kvs, rfl, hR, hd, hc, hn, q⟩ := h
    refine ⟨_, (pss_cons (ps_if (pt_val (pe_callB call_isi (by rfl) T.m_isinstance (by decide +kernel) (pa_cons (pv 0) (pa_cons (pe_bltn (v := .ty "int") (u := .type "int") (by rfl) T.m_int (by decide +kernel) rfl) pa_nil)))) (pss_one (ps_ret (pe_call G__law_checked (hr.mono (by omega)) (by rfl) D__law_checked.m D__law_checked.k D__law_checked.b .nil pass0 (pa_cons (pv 0) pa_nil)))) pss_nil)
      (pss_cons (ps_if (pt_val (pe_callB call_isi (by rfl) T.m_isinstance (by decide +kernel) (pa_cons (pv 0) (pa_cons (pe_bltn (v := .ty "str") (u := .type "str") (by rfl) T.m_str (by decide +kernel) rfl) pa_nil)))) (pss_one (ps_ret (pe_ifExp (pt_cmp (pc_din (hu_of hr) (pv 0) (pv 1))) (pe_call G__law_checked (hr.mono (by omega)) (by rfl) D__law_checked.m D__law_checked.k D__law_checked.b .nil pass0 (pa_cons (pe_dget (hu_of hr) (pv 1) (pv 0) (fun _ _ => rfl)) pa_nil)) pe_str))) pss_nil)
      (pss_cons (ps_set (i := 2) sc_law_due.nd rfl (.inr rfl) (pe_lst pa_nil))
      (pss_cons (ps_for PassesOwn.never rfl (pi_tup (pe_slice sl_tup (pv 0) (po_some pe_int) po_none)) (pg_name (i := 3) sc_law_due.nd rfl (Or.inl rfl)) (pss_cons (ps_set (i := 4) sc_law_due.nd rfl (.inl rfl) (pe_call G__law_due (hr.mono (by omega)) (by rfl) D__law_due.m D__law_due.k D__law_due.b .nil pass0 (pa_cons (pv 3) (pa_cons (pv 1) pa_nil))))
      (pss_cons (ps_if (pt_cmpR (r := rIn K false) op_in_seq (pv 4) (pe_lst (pa_cons pe_str (pa_cons pe_str pa_nil))) (by rfl)) (pss_one (ps_ret (pv 4))) pss_nil)
      (pss_one (ps_expr (pe_bm PySem.F.plainAttrs_list PySem.F.slot_list_append PySem.F.type_list_append mt_append (pv 2) (pa_cons (pv 4) pa_nil)))))))
      (pss_cons (ps_if (pt_cmpR op_eq (pe_ix (r := rIxT K) ix_tup (pv 0) pe_int (fun _ _ => rfl)) pe_str (nomark _)) (pss_one (ps_ret (pe_ifExp (pt_cmpR op_lt (pe_ix (r := rIxL K) ix_list (pv 2) pe_int (fun _ _ => rfl)) pe_int (nomark _)) pe_str (pe_callB (cr_max rfl) (by rfl) T.m_max (by decide +kernel) (pa_cons (pe_op op_cat (pe_lst (pa_cons pe_int pa_nil)) (pe_lc (own := [("k", 7)]) (g := gName 7) rfl sc_law_due.nd (pi_range1 rfl T.m_range (pa_cons pe_int pa_nil)) (blkOk_by (N := N__law_due) (sc := defScope s__law_due) (by decide +kernel)) (fun _ _ _ _ _ => (pg_name (i := 7) sc_law_due.nd rfl (Or.inl rfl))) (fun _ _ _ _ _ => (pts_one (pt_cmpR op_gt (pe_op op_shr (pe_ix (r := rIxL K) ix_list (pv 2) pe_int (fun _ _ => rfl)) (pv 7)) pe_int (nomark _)))) (fun _ _ _ _ _ => (pe_op op_add (pv 7) pe_int)))) pa_nil))))) pss_nil)
      (pss_cons (ps_asg (pv 2) (pg_unl (by rfl) (pgs_cons (pg_name (i := 3) sc_law_due.nd rfl (Or.inl rfl)) (pgs_cons (pg_name (i := 5) sc_law_due.nd rfl (Or.inl rfl)) pgs_nil))))
      (pss_cons (ps_if (pt_cmpR (r := rIn K false) op_in_seq (pe_ix (r := rIxT K) ix_tup (pv 0) pe_int (fun _ _ => rfl)) (pe_lst (pa_cons pe_str (pa_cons pe_str pa_nil))) (by rfl)) (pss_cons (ps_if (pt_cmpR op_eq (pv 5) pe_int (nomark _)) (pss_one (ps_ret pe_str)) pss_nil)
      (pss_one (ps_ret (pe_call G__law_checked (hr.mono (by omega)) (by rfl) D__law_checked.m D__law_checked.k D__law_checked.b .nil pass0 (pa_cons (pe_ifExp (pt_cmpR op_eq (pe_ix (r := rIxT K) ix_tup (pv 0) pe_int (fun _ _ => rfl)) pe_str (nomark _)) (pe_op op_fdivN (pv 3) (pv 5)) (pe_op op_modN (pe_callTy call_int1 (by rfl) T.m_int (by decide +kernel) (pa_cons (pv 3) pa_nil)) (pv 5))) pa_nil))))) pss_nil)
      (pss_cons (ps_set (i := 6) sc_law_due.nd rfl (.inl rfl) (pe_disp (pps_cons pe_str (pe_op op_add (pv 3) (pv 5)) (pps_cons pe_str (pe_op op_sub (pv 3) (pv 5)) (pps_cons pe_str (pe_op op_mul (pv 3) (pv 5)) (pps_cons pe_str (pe_callB (call_max2 rfl) (by rfl) T.m_max (by decide +kernel) (pa_cons (pv 3) (pa_cons (pv 5) pa_nil))) (pps_cons pe_str (pe_callB (call_min2 rfl) (by rfl) T.m_min (by decide +kernel) (pa_cons (pv 3) (pa_cons (pv 5) pa_nil))) (pps_cons pe_str (pe_callTy call_int1 (by rfl) T.m_int (by decide +kernel) (pa_cons (pe_cmpR op_lt (pv 3) (pv 5) (nomark _)) pa_nil)) (pps_cons pe_str (pe_callTy call_int1 (by rfl) T.m_int (by decide +kernel) (pa_cons (pe_cmpR op_eq (pv 3) (pv 5) (nomark _)) pa_nil)) pps_nil))))))) rfl rfl (by intro h; cases h) (by decide)))
      (pss_one (ps_ret (pe_call G__law_checked (hr.mono (by omega)) (by rfl) D__law_checked.m D__law_checked.k D__law_checked.b .nil pass0 (pa_cons (pe_dget (hu_of hr) (pv 6) (pe_ix (r := rIxT K) ix_tup (pv 0) pe_int (fun _ _ => rfl)) (fun _ _ => rfl)) pa_nil)))))))))))), ?_⟩
    by_cases c1 : ∃ i, e = .num i
    · obtain ⟨i, rfl⟩ := c1
      obtain rfl : v = .int i := hR
      exact ⟨_, rfl, .int i, .ty "int", .type "int", .type "int", true, rfl, .ty _, .base (.int i), kit_ty (by decide +kernel), _, rfl, iteT ⟨_, rfl, i, rfl, q H (Same.refl H)⟩⟩
    by_cases c2 : ∃ x, e = .name x
    · obtain ⟨x, rfl⟩ := c2
      obtain rfl : v = .str x := hR
      refine ⟨_, rfl, .str x, .ty "int", .type "str", .type "int", false, rfl, .ty _, .base (.str x), kit_ty (by decide +kernel), _, rfl, iteF ?_⟩
      refine ⟨_, rfl, .str x, .ty "str", .type "str", .type "str", true, rfl, .ty _, .base (.str x), kit_ty (by decide +kernel), _, rfl, iteT ?_⟩
      refine ⟨_, rfl, _, rfl, c, _, rfl, DGet.k (k := Sum.inr x) hc, _, rfl, ?_⟩
      replace q := q H (Same.refl H)
      change Q (resV (chk (look kvs x))) H at q
      cases hv : valV kvs (Sum.inr x) with
      | none =>
        unfold look at q
        rw [hv] at q
        exact q
      | some u =>
        obtain ⟨i, rfl⟩ := hn _ _ hv
        unfold look at q
        rw [hv] at q
        exact ⟨_, rfl, _, rfl, c, _, rfl, by rw [← hv]; exact DGet.k (k := Sum.inr x) hc, i, rfl, q⟩
    obtain ⟨p, o, us, rfl, hp, hlen, hsub⟩ := rep_tup hR (fun i z => c1 ⟨i, z⟩) (fun x z => c2 ⟨x, z⟩)
    refine ⟨_, rfl, .ref p, .ty "int", .type "tuple", .type "int", false, rfl, .ty _, .base (.tup hp), kit_ty (by decide +kernel), _, rfl, iteF ?_⟩
    refine ⟨_, rfl, .ref p, .ty "str", .type "tuple", .type "str", false, rfl, .ty _, .base (.tup hp), kit_ty (by decide +kernel), _, rfl, iteF ?_⟩
    refine ⟨Nat.zero_le _, fun pl npl => ?_⟩
    have s1 : Same H (upd H pl (.lst [])) := same_new npl
    refine ⟨_, rfl, 1, rfl, p, _, rfl, SqT.of (s1 _ _ hp), ?_, fun sp nsp => ?_⟩
    · rintro ⟨z, _⟩
      rw [show HT.sIx (V.str o :: us).length 0 (some 1) = min 1 (V.str o :: us).length from HT.sIx_nat _ 0 1, List.length_cons] at z
      omega
    rw [cut_tail]
    have s2 : Same H (upd (upd H pl (.lst [])) sp (.tup us)) := s1.trans (same_new nsp)
    have nps : pl ≠ sp := ne_of_none upd_same nsp
    have hul : us.length ≤ 2 := by
      rw [hlen]
      cases e <;> simp [Am.subs]
    refine ⟨sp, rfl, ⟨us, SqT.of upd_same⟩, for_tup (xs := us) (fun i σ H' => ∃ (fs : List Int) (y3 y4 : Option V), σ = [some (.ref p), some (.ref c), some (.ref pl), y3, y4, none, none, none] ∧ fs.length = i ∧ Same H H' ∧ H' sp = some (.tup us) ∧ H' pl = some (.lst (fs.map V.int)) ∧
      ∀ (j : Nat) t, j < i → e.subs[j]? = some t → ∃ g, fs[j]? = some g ∧ chk (num kvs t) = .ok g) ⟨[], none, none, rfl, rfl, s2, upd_same, by rw [upd_ne nps, upd_same]; rfl, fun j t hj => absurd hj (by omega)⟩
      (fun i σ H' _ hW => ?_) ?_ ?_⟩
    · obtain ⟨_, _, _, _, _, _, hsp, _⟩ := hW
      exact SqT.of hsp
    · rintro i u σ H1 hu ⟨fs, y3, y4, rfl, hfl, sm, hsp, hpl, hall⟩
      have hi : i < e.subs.length := by
        have := (List.getElem?_eq_some_iff.mp hu).1
        omega
      have hs : e.subs[i]? = some e.subs[i] := List.getElem?_eq_getElem hi
      obtain ⟨u', hu', hRu⟩ := hsub i _ hs
      have eu : u' = u := Option.some.inj (hu'.symm.trans hu)
      subst eu
      generalize e.subs[i] = se at hs hRu
      have npos : 0 < n := by
        cases e with
        | num i => exact absurd ⟨i, rfl⟩ c1
        | name x => exact absurd ⟨x, rfl⟩ c2
        | bits e => exact Nat.lt_of_lt_of_le (Nat.succ_pos _) hd
        | op o a b => exact Nat.lt_of_lt_of_le (Nat.succ_pos _) hd
      have sd : se.deep ≤ n - 1 := sub_deep hs (by omega)
      refine ⟨_, rfl, _, rfl, npos, u', se, c, kvs, rfl, hRu.same sm, sd, sm _ _ hc, hn, fun H2 s2' => ?_⟩
      refine ⟨_, rfl, by show 2 ≤ sizeLine; decide, fun l nl => ?_⟩
      have s3 : Same H2 (upd H2 l (.lst [.str "kind", .str "limit"])) := same_new nl
      refine ⟨l, [.str "kind", .str "limit"], rfl, .inl (SqL.of upd_same), res_flat _, rfl, _, rfl, ?_⟩
      change (if (if false = true then _ else inV (resV (chk (num kvs se))) [.str "kind", .str "limit"]) = true then _ else _)
      rw [if_neg Bool.false_ne_true]
      cases hr1 : chk (num kvs se) with
      | kind =>
        have hb := sub_bad hs (fun j t hj ht => (hall j t hj ht).imp fun _ z => z.2) hr1 (fun f z => by cases z)
        rw [hb] at q
        exact ⟨_, rfl, q _ ((sm.trans s2').trans s3)⟩
      | limit =>
        have hb := sub_bad hs (fun j t hj ht => (hall j t hj ht).imp fun _ z => z.2) hr1 (fun f z => by cases z)
        rw [hb] at q
        exact ⟨_, rfl, q _ ((sm.trans s2').trans s3)⟩
      | ok g =>
        have hpl3 := s3 _ _ (s2' _ _ hpl)
        have hsp3 := s3 _ _ (s2' _ _ hsp)
        refine ⟨_, rfl, .inl ⟨rfl, _, SqL.of hpl3⟩, _, rfl, pl, _, _, rfl, rfl, hpl3, ?_, ?_⟩
        · rw [List.length_map]
          exact small1000 (by have := (List.getElem?_eq_some_iff.mp hu).1; omega)
        · refine ⟨fs ++ [g], _, _, rfl, by rw [List.length_append, hfl]; rfl, fun b o' e' => ?_, ?_, ?_, fun j t hj ht => ?_⟩
          · rw [upd_ne (ne_of_none e' npl)]
            exact s3 _ _ (s2' _ _ (sm _ _ e'))
          · rw [upd_ne (ne_of hsp3 hpl3 (by intro z; cases z))]
            exact hsp3
          · rw [upd_same, List.map_append]
            rfl
          · by_cases hji : j < i
            · obtain ⟨g', h1, h2⟩ := hall j t hji ht
              exact ⟨g', by rw [List.getElem?_append_left (by omega)]; exact h1, h2⟩
            · have hj' : j = i := by omega
              subst hj'
              rw [hs] at ht
              cases ht
              exact ⟨g, by rw [List.getElem?_append_right (by omega), hfl, Nat.sub_self]; rfl, hr1⟩
    · rintro σ H1 ⟨fs, y3, y4, rfl, hfl, sm, hsp, hpl, hall⟩
      have hp1 := sm _ _ hp
      cases e with
      | num i => exact absurd ⟨i, rfl⟩ c1
      | name x => exact absurd ⟨x, rfl⟩ c2
      | bits e1 =>
        obtain ⟨p', u1, ep, hp', hu1⟩ := hR
        cases ep
        rw [hp] at hp'
        injection hp' with hp'
        injection hp' with hp'
        injection hp' with ho hus
        injection ho with ho
        subst ho
        subst hus
        obtain ⟨f, hf0, hf⟩ := hall 0 e1 (by show 0 < 1; omega) rfl
        obtain ⟨b0, b1⟩ := chk_ok hf
        have hl1 : fs.length = 1 := hfl
        obtain rfl : fs = [f] := by
          match fs, hl1, hf0 with
          | [g], _, h => rw [Option.some.inj h]
        have ev : chk (num kvs (.bits e1)) = chk (if f < 0 then .kind else .ok (bitsOf f)) := by
          show chk (match chk (num kvs e1) with | .ok f => if f < 0 then .kind else .ok (bitsOf f) | r => r) = _
          rw [hf]
        rw [ev] at q
        refine ⟨_, rfl, p, _, 0, _, rfl, rfl, SqT.of hp1, atI_nat (j := 0) rfl, rfl, _, rfl, ?_⟩
        rw [decide_eq_true rfl]
        refine iteT ⟨_, rfl, pl, _, 0, _, rfl, rfl, SqL.of hpl, atI_nat (j := 0) rfl, _, _, rfl, rfl, _, rfl, ite2 (fun h1 => ?_) (fun h1 => ?_)⟩
        · rw [if_pos (of_decide_eq_true h1)] at q
          exact q _ sm
        have f0 : ¬ f < 0 := fun z => h1 (decide_eq_true z)
        rw [if_neg f0] at q
        refine ⟨by show 1 ≤ sizeLine; decide, fun l1 n1 => ⟨30, rfl, by decide, by decide, fun D nD => lc_range (n := 30) (fun i H' => Same (upd H1 l1 (.lst [.int 1])) H' ∧ H' D = some (.lst ((rungs f i).map V.int))) ⟨same_new nD, upd_same⟩ ?_ ?_⟩⟩
        · rintro i H2 hi ⟨sm2, hD⟩
          have hpl2 : H2 pl = some (.lst ([f].map V.int)) := sm2 _ _ ((same_new n1) _ _ hpl)
          refine ⟨rfl, _, rfl, pl, _, 0, _, rfl, rfl, SqL.of hpl2, atI_nat (j := 0) rfl, _, rfl, _, _, rfl, rfl, by show (0 : Int) ≤ 0 + (i : Int); omega, _, _, rfl, rfl, _, rfl, ?_⟩
          have ei : f / 2 ^ (0 + (i : Int)).toNat = f / 2 ^ i := by rw [Int.zero_add, Int.toNat_natCast]
          change (if decide (0 < f / 2 ^ (0 + (i : Int)).toNat) = true then _ else _)
          rw [ei]
          refine ite2 (fun h2 => ?_) (fun h2 => ?_)
          · refine ⟨_, rfl, _, _, rfl, rfl, _, hD, ?_, same_mut sm2 nD, ?_⟩
            · rw [List.length_map]
              exact small1000 (by have := rungs_len f i; omega)
            · rw [upd_same, rungs_yes (of_decide_eq_true h2), List.map_append, Int.zero_add]
              rfl
          · refine ⟨sm2, ?_⟩
            rw [rungs_no (fun z => h2 (decide_eq_true z))]
            exact hD
        · rintro H2 ⟨sm2, hD⟩
          have hl12 : H2 l1 = some (.lst [V.int 1]) := sm2 _ _ upd_same
          refine ⟨l1, D, _, _, rfl, rfl, hl12, hD, ?_, fun l3 n3 => ⟨l3, 1 :: rungs f 30, rfl, SqL.of upd_same, Nat.succ_pos _, fun m hm hall2 => ?_⟩⟩
          · rw [List.length_map]
            exact Nat.le_of_lt (small1000 (by have := rungs_len f 30; show 1 + _ ≤ 1000; omega))
          · have em := max_rungs (by omega) b1 hm hall2
            have eb : chk (.ok (bitsOf f)) = .ok (bitsOf f) := by
              have hb : Builtin.Int.intBits f ≤ 20 := PySem.intBits_le_iff.mpr (by omega)
              show (if -1000000 ≤ bitsOf f ∧ bitsOf f ≤ 1000000 then Res.ok (bitsOf f) else Res.limit) = _
              rw [if_pos]
              unfold bitsOf
              by_cases hB : ((Builtin.Int.intBits f : Nat) : Int) > 1
              · rw [if_pos hB]
                omega
              · rw [if_neg hB]
                omega
            rw [eb] at q
            rw [em]
            exact q _ ((sm.trans (same_new n1)).trans (sm2.trans (same_new n3)))
      | op o1 a b =>
        obtain ⟨hin, p', u1, t1, ep, hp', hu1, ht1⟩ := hR
        cases ep
        rw [hp] at hp'
        injection hp' with hp'
        injection hp' with hp'
        injection hp' with ho hus
        injection ho with ho
        subst ho
        subst hus
        obtain ⟨f, hf0, hf⟩ := hall 0 a (by show 0 < 2; omega) rfl
        obtain ⟨g, hg0, hg⟩ := hall 1 b (by show 1 < 2; omega) rfl
        obtain ⟨b0, b1⟩ := chk_ok hf
        obtain ⟨d0, d1⟩ := chk_ok hg
        have hl1 : fs.length = 2 := hfl
        obtain rfl : fs = [f, g] := by
          match fs, hl1, hf0, hg0 with
          | [x, y], _, h, h' =>
            have e1 : x = f := Option.some.inj h
            have e2 : y = g := Option.some.inj h'
            rw [e1, e2]
        have ev : chk (num kvs (.op o a b)) = chk (if (o = "div" ∨ o = "mod") ∧ g = 0 then .kind else .ok (operate o f g)) := by
          show chk (match chk (num kvs a) with | .ok f => (match chk (num kvs b) with | .ok g => if (o = "div" ∨ o = "mod") ∧ g = 0 then .kind else .ok (operate o f g) | r => r) | r => r) = _
          rw [hf]
          show chk (match chk (num kvs b) with | .ok g => if (o = "div" ∨ o = "mod") ∧ g = 0 then .kind else .ok (operate o f g) | r => r) = _
          rw [hg]
        rw [ev] at q
        have no : o ≠ "bits" := fun z => absurd (z ▸ hin) (by decide +kernel)
        refine ⟨_, rfl, p, _, 0, _, rfl, rfl, SqT.of hp1, atI_nat (j := 0) rfl, rfl, _, rfl, ?_⟩
        rw [decide_eq_false (show ¬ V.str o = V.str "bits" from fun z => no (V.str.inj z))]
        refine iteF ⟨_, rfl, pl, _, rfl, SqL.of hpl, rfl, _, _, rfl, _, _, rfl, rfl, ?_⟩
        refine ⟨_, rfl, p, _, 0, _, rfl, rfl, SqT.of hp1, atI_nat (j := 0) rfl, by show 2 ≤ sizeLine; decide, fun l nl => ⟨l, [.str "div", .str "mod"], rfl, .inl (SqL.of upd_same), rfl, rfl, _, rfl, ?_⟩⟩
        have s4 : Same H1 (upd H1 l (.lst [.str "div", .str "mod"])) := same_new nl
        have hp4 := s4 _ _ hp1
        have ein : inV (.str o) [.str "div", .str "mod"] = decide (o = "div" ∨ o = "mod") := by
          show ((("div" : Str) == o) || ((("mod" : Str) == o) || false)) = _
          by_cases h1 : o = "div"
          · rw [h1, decide_eq_true (.inl rfl), beq_self_eq_true, Bool.true_or]
          · by_cases h2 : o = "mod"
            · rw [h2, decide_eq_true (.inr rfl), beq_self_eq_true, Bool.true_or, Bool.or_true]
            · rw [decide_eq_false (fun z => z.elim h1 h2), beq_eq_false_iff_ne.mpr (fun z => h1 z.symm), beq_eq_false_iff_ne.mpr (fun z => h2 z.symm)]
              rfl
        change (if (if false = true then _ else inV (.str o) [.str "div", .str "mod"]) = true then _ else _)
        rw [if_neg Bool.false_ne_true, ein]
        refine ite2 (fun h1 => ?_) (fun h1 => ?_)
        · have h1' : o = "div" ∨ o = "mod" := of_decide_eq_true h1
          refine ⟨_, rfl, rfl, _, rfl, ?_⟩
          by_cases h2 : g = 0
          · rw [if_pos ⟨h1', h2⟩] at q
            rw [h2, decide_eq_true rfl]
            exact iteT (q _ (sm.trans s4))
          · rw [if_neg (fun z => h2 z.2)] at q
            rw [decide_eq_false (fun z => h2 (V.int.inj z))]
            refine iteF ⟨_, rfl, p, _, 0, _, rfl, rfl, SqT.of hp4, atI_nat (j := 0) rfl, rfl, _, rfl, ?_⟩
            rw [dec_st]
            refine ite2 (fun h3 => ?_) (fun h3 => ?_)
            · have h3' : o = "div" := of_decide_eq_true h3
              subst h3'
              refine ⟨_, rfl, _, rfl, _, _, rfl, rfl, ⟨h2, by show g.natAbs < 1073741824; omega⟩, _, rfl, ?_⟩
              have eo : operate "div" f g = f.fdiv g := by
                unfold operate
                rw [if_neg (show ¬ ("div" : Str) = "add" by decide +kernel), if_neg (show ¬ ("div" : Str) = "sub" by decide +kernel), if_neg (show ¬ ("div" : Str) = "mul" by decide +kernel), if_pos rfl]
              rw [eo] at q
              exact q _ (sm.trans s4)
            · have h3' : o = "mod" := h1'.resolve_left fun z => h3 (decide_eq_true z)
              subst h3'
              refine ⟨_, rfl, .inl ⟨_, rfl, _, rfl, _, _, rfl, rfl, h2, _, rfl, ?_⟩⟩
              have eo : operate "mod" f g = f.fmod g := by
                unfold operate
                rw [if_neg (show ¬ ("mod" : Str) = "add" by decide +kernel), if_neg (show ¬ ("mod" : Str) = "sub" by decide +kernel), if_neg (show ¬ ("mod" : Str) = "mul" by decide +kernel), if_neg (show ¬ ("mod" : Str) = "div" by decide +kernel), if_pos rfl]
              rw [eo] at q
              exact q _ (sm.trans s4)
        · have h1' : ¬ (o = "div" ∨ o = "mod") := fun z => h1 (decide_eq_true z)
          rw [if_neg (fun z => h1' z.1)] at q
          refine fun d nd => ?_
          refine ⟨_, rfl, _, rfl, _, _, rfl, rfl, _, rfl, _, rfl, _, _, rfl, rfl, _, rfl, _, rfl, _, _, rfl, rfl, .inl ⟨by omega, by omega⟩, _, rfl, _, rfl, _, _, rfl, _, rfl, _, rfl, _, _, rfl, _, rfl, _, rfl, _, _, rfl, rfl, .inr ⟨_, rfl, _, rfl, _, rfl, rfl, .inr ⟨_, rfl, upd_same,
            [(Sum.inr "add", V.int (f + g)), (Sum.inr "sub", V.int (f - g)), (Sum.inr "mul", V.int (f * g)), (Sum.inr "max", V.int (if g > f then g else f)), (Sum.inr "min", V.int (if g < f then g else f)), (Sum.inr "less", V.int (if decide (f < g) = true then 1 else 0)), (Sum.inr "same", V.int (if decide (V.int f = V.int g) = true then 1 else 0))], rfl, by show 7 ≤ 15; decide, ?_⟩⟩⟩
          rw [merge_nodup (by show ([Sum.inr "add", Sum.inr "sub", Sum.inr "mul", Sum.inr "max", Sum.inr "min", Sum.inr "less", Sum.inr "same"] : List Key).Nodup; decide +kernel)]
          have sd : Same H (upd (upd (upd H1 l (.lst [.str "div", .str "mod"])) d (.dK [])) d (.dK [(Sum.inr "add", V.int (f + g)), (Sum.inr "sub", V.int (f - g)), (Sum.inr "mul", V.int (f * g)), (Sum.inr "max", V.int (if g > f then g else f)), (Sum.inr "min", V.int (if g < f then g else f)), (Sum.inr "less", V.int (if decide (f < g) = true then 1 else 0)), (Sum.inr "same", V.int (if decide (V.int f = V.int g) = true then 1 else 0))])) := same_mut ((sm.trans s4).trans (same_new nd)) ((sm.trans s4).free nd)
          have hpd : (upd (upd (upd H1 l (.lst [.str "div", .str "mod"])) d (.dK [])) d (.dK [(Sum.inr "add", V.int (f + g)), (Sum.inr "sub", V.int (f - g)), (Sum.inr "mul", V.int (f * g)), (Sum.inr "max", V.int (if g > f then g else f)), (Sum.inr "min", V.int (if g < f then g else f)), (Sum.inr "less", V.int (if decide (f < g) = true then 1 else 0)), (Sum.inr "same", V.int (if decide (V.int f = V.int g) = true then 1 else 0))])) p = some (.tup [.str o, u1, t1]) := sd _ _ hp
          have pick : valV ([(Sum.inr "add", V.int (f + g)), (Sum.inr "sub", V.int (f - g)), (Sum.inr "mul", V.int (f * g)), (Sum.inr "max", V.int (if g > f then g else f)), (Sum.inr "min", V.int (if g < f then g else f)), (Sum.inr "less", V.int (if decide (f < g) = true then 1 else 0)), (Sum.inr "same", V.int (if decide (V.int f = V.int g) = true then 1 else 0))] : Cnt) (Sum.inr o) = some (V.int (operate o f g)) := by
            have hx : o = "add" ∨ o = "sub" ∨ o = "mul" ∨ o = "max" ∨ o = "min" ∨ o = "less" ∨ o = "same" := by
              simp only [List.mem_cons, List.not_mem_nil, or_false] at hin
              rcases hin with h | h | h | h | h | h | h | h | h
              · exact .inl h
              · exact .inr (.inl h)
              · exact .inr (.inr (.inl h))
              · exact absurd (.inl h) h1'
              · exact absurd (.inr h) h1'
              · exact .inr (.inr (.inr (.inl h)))
              · exact .inr (.inr (.inr (.inr (.inl h))))
              · exact .inr (.inr (.inr (.inr (.inr (.inl h)))))
              · exact .inr (.inr (.inr (.inr (.inr (.inr h)))))
            simp only [valV_cons]
            rcases hx with rfl | rfl | rfl | rfl | rfl | rfl | rfl
            · rw [if_pos rfl]
              have eo : operate "add" f g = f + g := by
                unfold operate
                rw [if_pos rfl]
              rw [eo]
            · rw [if_neg (nk (a := "add") (b := "sub") (by decide +kernel)), if_pos rfl]
              have eo : operate "sub" f g = f - g := by
                unfold operate
                rw [if_neg (show ¬ ("sub" : Str) = "add" by decide +kernel), if_pos rfl]
              rw [eo]
            · rw [if_neg (nk (a := "add") (b := "mul") (by decide +kernel)), if_neg (nk (a := "sub") (b := "mul") (by decide +kernel)), if_pos rfl]
              have eo : operate "mul" f g = f * g := by
                unfold operate
                rw [if_neg (show ¬ ("mul" : Str) = "add" by decide +kernel), if_neg (show ¬ ("mul" : Str) = "sub" by decide +kernel), if_pos rfl]
              rw [eo]
            · rw [if_neg (nk (a := "add") (b := "max") (by decide +kernel)), if_neg (nk (a := "sub") (b := "max") (by decide +kernel)), if_neg (nk (a := "mul") (b := "max") (by decide +kernel)), if_pos rfl]
              have eo : operate "max" f g = if g > f then g else f := by
                unfold operate
                rw [if_neg (show ¬ ("max" : Str) = "add" by decide +kernel), if_neg (show ¬ ("max" : Str) = "sub" by decide +kernel), if_neg (show ¬ ("max" : Str) = "mul" by decide +kernel), if_neg (show ¬ ("max" : Str) = "div" by decide +kernel), if_neg (show ¬ ("max" : Str) = "mod" by decide +kernel), if_pos rfl]
              rw [eo]
            · rw [if_neg (nk (a := "add") (b := "min") (by decide +kernel)), if_neg (nk (a := "sub") (b := "min") (by decide +kernel)), if_neg (nk (a := "mul") (b := "min") (by decide +kernel)), if_neg (nk (a := "max") (b := "min") (by decide +kernel)), if_pos rfl]
              have eo : operate "min" f g = if g < f then g else f := by
                unfold operate
                rw [if_neg (show ¬ ("min" : Str) = "add" by decide +kernel), if_neg (show ¬ ("min" : Str) = "sub" by decide +kernel), if_neg (show ¬ ("min" : Str) = "mul" by decide +kernel), if_neg (show ¬ ("min" : Str) = "div" by decide +kernel), if_neg (show ¬ ("min" : Str) = "mod" by decide +kernel), if_neg (show ¬ ("min" : Str) = "max" by decide +kernel), if_pos rfl]
              rw [eo]
            · rw [if_neg (nk (a := "add") (b := "less") (by decide +kernel)), if_neg (nk (a := "sub") (b := "less") (by decide +kernel)), if_neg (nk (a := "mul") (b := "less") (by decide +kernel)), if_neg (nk (a := "max") (b := "less") (by decide +kernel)), if_neg (nk (a := "min") (b := "less") (by decide +kernel)), if_pos rfl]
              have eo : operate "less" f g = if f < g then 1 else 0 := by
                unfold operate
                rw [if_neg (show ¬ ("less" : Str) = "add" by decide +kernel), if_neg (show ¬ ("less" : Str) = "sub" by decide +kernel), if_neg (show ¬ ("less" : Str) = "mul" by decide +kernel), if_neg (show ¬ ("less" : Str) = "div" by decide +kernel), if_neg (show ¬ ("less" : Str) = "mod" by decide +kernel), if_neg (show ¬ ("less" : Str) = "max" by decide +kernel), if_neg (show ¬ ("less" : Str) = "min" by decide +kernel), if_pos rfl]
              rw [eo]
              by_cases h : f < g
              · rw [decide_eq_true h, if_pos rfl, if_pos h]
              · rw [decide_eq_false h, if_neg Bool.false_ne_true, if_neg h]
            · rw [if_neg (nk (a := "add") (b := "same") (by decide +kernel)), if_neg (nk (a := "sub") (b := "same") (by decide +kernel)), if_neg (nk (a := "mul") (b := "same") (by decide +kernel)), if_neg (nk (a := "max") (b := "same") (by decide +kernel)), if_neg (nk (a := "min") (b := "same") (by decide +kernel)), if_neg (nk (a := "less") (b := "same") (by decide +kernel)), if_pos rfl]
              have eo : operate "same" f g = if f = g then 1 else 0 := by
                unfold operate
                rw [if_neg (show ¬ ("same" : Str) = "add" by decide +kernel), if_neg (show ¬ ("same" : Str) = "sub" by decide +kernel), if_neg (show ¬ ("same" : Str) = "mul" by decide +kernel), if_neg (show ¬ ("same" : Str) = "div" by decide +kernel), if_neg (show ¬ ("same" : Str) = "mod" by decide +kernel), if_neg (show ¬ ("same" : Str) = "max" by decide +kernel), if_neg (show ¬ ("same" : Str) = "min" by decide +kernel), if_neg (show ¬ ("same" : Str) = "less" by decide +kernel)]
              rw [eo]
              by_cases h : f = g
              · rw [h, decide_eq_true rfl, if_pos rfl, if_pos rfl]
              · rw [decide_eq_false (show ¬ V.int f = V.int g from fun z => h (V.int.inj z)), if_neg Bool.false_ne_true, if_neg h]
          refine ⟨_, rfl, _, rfl, p, _, 0, _, rfl, rfl, SqT.of hpd, atI_nat (j := 0) rfl, d, _, rfl, ?_, _, rfl, q _ sd⟩
          rw [← pick]
          exact DGet.k (k := Sum.inr o) upd_same
end
end K2
namespace K2
open PySem PySem.Spec PyProof.Rows L2 K2X
section
variable {P : Program} {w : World} {K : PySem.W.Frag} {mg : Str → Option Value} {base : Heap} {B : Addr} {mc : Value} {tL tG : Tok}
theorem ok_dues {f fC : Addr} {fd fdC : FuncData} (F : Fun K "_law_due" "_law_due" s__law_due f fd) (T : Txt K mg B mc tL tG)
    (G__law_checked : FnOk P w K mg base CX0 1 fC fdC ["number"] spChecked) (D__law_checked : Def K mg "_law_checked" fC fdC ["number"]) (D__law_due : Def K mg "_law_due" f fd ["e", "counters"]) :
    ∀ n, FnOk P w K mg base CX0 (n + 2) f fd ["e", "counters"] (spDue n)
  | 0 => ok_due (k := 1) F T (by omega) G__law_checked D__law_checked ⟨fun _ _ _ _ h => absurd h.1 (by omega), fun _ _ _ _ _ _ _ _ _ _ _ _ _ h => absurd h.1 (by omega)⟩ D__law_due
  | n + 1 => ok_due (k := n + 2) F T (by omega) G__law_checked D__law_checked ((ok_dues F T G__law_checked D__law_checked D__law_due n).imp fun _ _ _ _ h => h.2) D__law_due
theorem Rep.keep {H H' : Hp} {p : Addr} {xs : List V} {e : Am} {v : V} (hp : H p = some (.lst xs)) (k : Keep p H H') (h : Rep H v e) : Rep H' v e :=
  h.mono fun b ys q => k b _ (fun z => by rw [z, hp] at q; cases q) q
def spAny (K : PySem.W.Frag) (n : Nat) : Sp := fun vs H Q _ => ∃ (p a : Addr) (ns : List Int) (i s : Int), vs = [.ref p, .ref a, .int (n : Int)] ∧ H p = some (ls2 i s) ∧ 0 ≤ i ∧ 0 ≤ s ∧ Scr K H p a ns ∧
  ∀ H' i' s' v e, Keep p H H' → H' p = some (ls2 i' s') → 0 ≤ i' → 0 ≤ s' → Rep H' v e → e.deep ≤ n → Q v H'
theorem ok_any {f fW : Addr} {fd fdW : FuncData} {n k : Nat} (F : Fun K "_law_any" "_law_any" s__law_any f fd) (T : Txt K mg B mc tL tG) (hk : 1 ≤ k)
    (G__law_draw : FnOk P w K mg base CX0 1 fW fdW ["state", "script", "size"] (spDraw K)) (D__law_draw : Def K mg "_law_draw" fW fdW ["state", "script", "size"])
    (G__law_any : FnOk P w K mg base CX0 k f fd ["state", "script", "depth"] (fun vs H Q E => 0 < n ∧ spAny K (n - 1) vs H Q E)) (D__law_any : Def K mg "_law_any" f fd ["state", "script", "depth"]) :
    FnOk P w K mg base CX0 (k + 1) f fd ["state", "script", "depth"] (spAny K n) := by
  refine F.ok sc_law_any (fun vs H Q E h => ?_) (fun cdv A outer s H vs Q E hr h => ?_)
  · obtain ⟨p, a, ns, i, s, rfl, _⟩ := h
    rfl
  · obtain ⟨p, a, ns, i, s, rfl, hp, hi, hs, hS, q⟩ := h
    refine ⟨_, (pss_cons (ps_set (i := 3) sc_law_any.nd rfl (.inl rfl) (pe_call G__law_draw (hr.mono (by omega)) (by rfl) D__law_draw.m D__law_draw.k D__law_draw.b .nil pass0 (pa_cons (pv 0) (pa_cons (pv 1) (pa_cons pe_int pa_nil)))))
      (pss_cons (ps_if (PW.pt (pw_or (pt_cmpR op_eq (pv 2) pe_int (nomark _)) (pw_or1 (pt_cmpR op_lt (pv 3) pe_int (nomark _))))) (pss_cons (ps_set (i := 4) sc_law_any.nd rfl (.inl rfl) (pe_lst (pa_cons (pe_op op_sub (pe_call G__law_draw (hr.mono (by omega)) (by rfl) D__law_draw.m D__law_draw.k D__law_draw.b .nil pass0 (pa_cons (pv 0) (pa_cons (pv 1) (pa_cons pe_int pa_nil)))) pe_int) (pa_cons (pe_op op_sub (pe_call G__law_draw (hr.mono (by omega)) (by rfl) D__law_draw.m D__law_draw.k D__law_draw.b .nil pass0 (pa_cons (pv 0) (pa_cons (pv 1) (pa_cons pe_int pa_nil)))) pe_int) (pa_cons (pe_op op_add pe_int (pe_call G__law_draw (hr.mono (by omega)) (by rfl) D__law_draw.m D__law_draw.k D__law_draw.b .nil pass0 (pa_cons (pv 0) (pa_cons (pv 1) (pa_cons pe_int pa_nil))))) pa_nil)))))
      (pss_one (ps_ret (pe_ix (r := rIxL K) ix_list (pe_lst (pa_cons (pe_ix (r := rIxL K) ix_list (pv 4) pe_int (fun _ _ => rfl)) (pa_cons (pe_ix (r := rIxL K) ix_list (pv 4) pe_int (fun _ _ => rfl)) (pa_cons (pe_ix (r := rIxL K) ix_list (pv 4) pe_int (fun _ _ => rfl)) (pa_cons (pe_ix (r := rIxL K) ix_list (pv 4) pe_int (fun _ _ => rfl)) (pa_cons pe_str (pa_cons pe_str (pa_cons pe_str (pa_cons pe_str pa_nil))))))))) (pe_call G__law_draw (hr.mono (by omega)) (by rfl) D__law_draw.m D__law_draw.k D__law_draw.b .nil pass0 (pa_cons (pv 0) (pa_cons (pv 1) (pa_cons pe_int pa_nil)))) (fun _ _ => rfl))))) pss_nil)
      (pss_cons (ps_if (pt_cmpR op_eq (pv 3) pe_int (nomark _)) (pss_one (ps_ret (pe_tup (pa_cons pe_str (pa_cons (pe_call G__law_any (hr.mono (by omega)) (by rfl) D__law_any.m D__law_any.k D__law_any.b .nil pass0 (pa_cons (pv 0) (pa_cons (pv 1) (pa_cons (pe_op op_sub (pv 2) pe_int) pa_nil)))) pa_nil))))) pss_nil)
      (pss_cons (ps_set (i := 5) sc_law_any.nd rfl (.inl rfl) (pe_ix (r := rIxL K) ix_list (pe_lst (pa_cons pe_str (pa_cons pe_str (pa_cons pe_str (pa_cons pe_str (pa_cons pe_str (pa_cons pe_str (pa_cons pe_str (pa_cons pe_str (pa_cons pe_str pa_nil)))))))))) (pe_call G__law_draw (hr.mono (by omega)) (by rfl) D__law_draw.m D__law_draw.k D__law_draw.b .nil pass0 (pa_cons (pv 0) (pa_cons (pv 1) (pa_cons pe_int pa_nil)))) (fun _ _ => rfl)))
      (pss_one (ps_ret (pe_tup (pa_cons (pv 5) (pa_cons (pe_call G__law_any (hr.mono (by omega)) (by rfl) D__law_any.m D__law_any.k D__law_any.b .nil pass0 (pa_cons (pv 0) (pa_cons (pv 1) (pa_cons (pe_op op_sub (pv 2) pe_int) pa_nil)))) (pa_cons (pe_call G__law_any (hr.mono (by omega)) (by rfl) D__law_any.m D__law_any.k D__law_any.b .nil pass0 (pa_cons (pv 0) (pa_cons (pv 1) (pa_cons (pe_op op_sub (pv 2) pe_int) pa_nil)))) pa_nil)))))))))), ?_⟩
    refine ⟨_, rfl, _, rfl, p, a, ns, i, s, 14, rfl, hp, hi, hs, hS, by decide, by decide, fun H1 i1 z1 d k1 e1 h01 h11 d0 d1 => ?_⟩
    refine ⟨_, rfl, rfl, _, rfl, ite2 (fun h1 => ?_) (fun h1 => ⟨_, rfl, _, _, rfl, rfl, _, rfl, ite2 (fun h2 => ?_) (fun h2 => ?_)⟩)⟩
    · refine ⟨_, rfl, _, rfl, p, a, ns, i1, z1, 9, rfl, e1, h01, h11, hS.keep k1, by decide, by decide, fun H2 i2 z2 g0 k2 e2 h02 h12 _ _ => ⟨_, _, rfl, rfl, _, rfl, _, rfl, p, a, ns, i2, z2, 3000, rfl, e2, h02, h12, hS.keep (k1.trans k2), by decide, by decide, fun H3 i3 z3 g1 k3 e3 h03 h13 _ _ =>
        ⟨_, _, rfl, rfl, _, rfl, _, rfl, p, a, ns, i3, z3, 2, rfl, e3, h03, h13, hS.keep ((k1.trans k2).trans k3), by decide, by decide, fun H4 i4 z4 g2 k4 e4 h04 h14 _ _ => ⟨_, _, rfl, rfl, by show 3 ≤ sizeLine; decide, fun bl nbl => ?_⟩⟩⟩⟩
      have nbp : bl ≠ p := fun z => by
        rw [z, e4] at nbl
        cases nbl
      have hb : (upd H4 bl (.lst [.int (g0 - 3), .int (g1 - 1500), .int (1000000 + g2)])) bl = some (.lst [.int (g0 - 3), .int (g1 - 1500), .int (1000000 + g2)]) := upd_same
      have kb : Keep p H (upd H4 bl (.lst [.int (g0 - 3), .int (g1 - 1500), .int (1000000 + g2)])) := (((k1.trans k2).trans k3).trans k4).trans (Keep.of_same (same_new nbl))
      have eb : (upd H4 bl (.lst [.int (g0 - 3), .int (g1 - 1500), .int (1000000 + g2)])) p = some (ls2 i4 z4) := (same_new nbl) _ _ e4
      refine ⟨_, rfl, bl, _, 0, _, rfl, rfl, SqL.of hb, atI_nat (j := 0) rfl, _, rfl, bl, _, 0, _, rfl, rfl, SqL.of hb, atI_nat (j := 0) rfl, _, rfl, bl, _, 1, _, rfl, rfl, SqL.of hb, atI_nat (j := 1) rfl, _, rfl, bl, _, 2, _, rfl, rfl, SqL.of hb, atI_nat (j := 2) rfl, by show 8 ≤ sizeLine; decide, fun cl ncl => ?_⟩
      have ncp : cl ≠ p := fun z => by
        rw [z, eb] at ncl
        cases ncl
      have kc := kb.trans (Keep.of_same (same_new (o := .lst [.int (g0 - 3), .int (g0 - 3), .int (g1 - 1500), .int (1000000 + g2), .str "W", .str "W", .str "i", .str "none"]) ncl))
      have ec := (same_new (o := .lst [.int (g0 - 3), .int (g0 - 3), .int (g1 - 1500), .int (1000000 + g2), .str "W", .str "W", .str "i", .str "none"]) ncl) _ _ eb
      refine ⟨_, rfl, _, rfl, p, a, ns, i4, z4, 8, rfl, ec, h04, h14, hS.keep kc, by decide, by decide, fun H5 i5 z5 d' k5 e5 h05 h15 d0' d1' => ?_⟩
      have hcl : H5 cl = some (.lst [.int (g0 - 3), .int (g0 - 3), .int (g1 - 1500), .int (1000000 + g2), .str "W", .str "W", .str "i", .str "none"]) := k5 _ _ ncp upd_same
      obtain ⟨j, rfl⟩ : ∃ j : Nat, d' = (j : Int) := ⟨d'.toNat, by omega⟩
      have hj : j < ([.int (g0 - 3), .int (g0 - 3), .int (g1 - 1500), .int (1000000 + g2), .str "W", .str "W", .str "i", .str "none"] : List V).length := by
        show j < 8
        omega
      refine ⟨cl, _, _, _, rfl, rfl, SqL.of hcl, atI_nat (List.getElem?_eq_getElem hj), ?_⟩
      have leaf : ∀ x ∈ ([.int (g0 - 3), .int (g0 - 3), .int (g1 - 1500), .int (1000000 + g2), .str "W", .str "W", .str "i", .str "none"] : List V), ∃ e : Am, Rep H5 x e ∧ e.deep = 0 := by
        intro x hx
        simp only [List.mem_cons, List.not_mem_nil, or_false] at hx
        rcases hx with rfl | rfl | rfl | rfl | rfl | rfl | rfl | rfl
        · exact ⟨.num _, rfl, rfl⟩
        · exact ⟨.num _, rfl, rfl⟩
        · exact ⟨.num _, rfl, rfl⟩
        · exact ⟨.num _, rfl, rfl⟩
        · exact ⟨.name _, rfl, rfl⟩
        · exact ⟨.name _, rfl, rfl⟩
        · exact ⟨.name _, rfl, rfl⟩
        · exact ⟨.name _, rfl, rfl⟩
      obtain ⟨e, he, hd⟩ := leaf _ (List.getElem_mem hj)
      exact q _ i5 z5 _ e (kc.trans k5) e5 h05 h15 he (by omega)
    · refine ⟨_, rfl, _, rfl, p, a, ns, i1, z1, 9, rfl, e1, h01, h11, hS.keep k1, by decide, by decide, fun H2 i2 z2 g0 k2 e2 h02 h12 _ _ => ⟨_, _, rfl, rfl, _, rfl, _, rfl, p, a, ns, i2, z2, 3000, rfl, e2, h02, h12, hS.keep (k1.trans k2), by decide, by decide, fun H3 i3 z3 g1 k3 e3 h03 h13 _ _ =>
        ⟨_, _, rfl, rfl, _, rfl, _, rfl, p, a, ns, i3, z3, 2, rfl, e3, h03, h13, hS.keep ((k1.trans k2).trans k3), by decide, by decide, fun H4 i4 z4 g2 k4 e4 h04 h14 _ _ => ⟨_, _, rfl, rfl, by show 3 ≤ sizeLine; decide, fun bl nbl => ?_⟩⟩⟩⟩
      have nbp : bl ≠ p := fun z => by
        rw [z, e4] at nbl
        cases nbl
      have hb : (upd H4 bl (.lst [.int (g0 - 3), .int (g1 - 1500), .int (1000000 + g2)])) bl = some (.lst [.int (g0 - 3), .int (g1 - 1500), .int (1000000 + g2)]) := upd_same
      have kb : Keep p H (upd H4 bl (.lst [.int (g0 - 3), .int (g1 - 1500), .int (1000000 + g2)])) := (((k1.trans k2).trans k3).trans k4).trans (Keep.of_same (same_new nbl))
      have eb : (upd H4 bl (.lst [.int (g0 - 3), .int (g1 - 1500), .int (1000000 + g2)])) p = some (ls2 i4 z4) := (same_new nbl) _ _ e4
      refine ⟨_, rfl, bl, _, 0, _, rfl, rfl, SqL.of hb, atI_nat (j := 0) rfl, _, rfl, bl, _, 0, _, rfl, rfl, SqL.of hb, atI_nat (j := 0) rfl, _, rfl, bl, _, 1, _, rfl, rfl, SqL.of hb, atI_nat (j := 1) rfl, _, rfl, bl, _, 2, _, rfl, rfl, SqL.of hb, atI_nat (j := 2) rfl, by show 8 ≤ sizeLine; decide, fun cl ncl => ?_⟩
      have ncp : cl ≠ p := fun z => by
        rw [z, eb] at ncl
        cases ncl
      have kc := kb.trans (Keep.of_same (same_new (o := .lst [.int (g0 - 3), .int (g0 - 3), .int (g1 - 1500), .int (1000000 + g2), .str "W", .str "W", .str "i", .str "none"]) ncl))
      have ec := (same_new (o := .lst [.int (g0 - 3), .int (g0 - 3), .int (g1 - 1500), .int (1000000 + g2), .str "W", .str "W", .str "i", .str "none"]) ncl) _ _ eb
      refine ⟨_, rfl, _, rfl, p, a, ns, i4, z4, 8, rfl, ec, h04, h14, hS.keep kc, by decide, by decide, fun H5 i5 z5 d' k5 e5 h05 h15 d0' d1' => ?_⟩
      have hcl : H5 cl = some (.lst [.int (g0 - 3), .int (g0 - 3), .int (g1 - 1500), .int (1000000 + g2), .str "W", .str "W", .str "i", .str "none"]) := k5 _ _ ncp upd_same
      obtain ⟨j, rfl⟩ : ∃ j : Nat, d' = (j : Int) := ⟨d'.toNat, by omega⟩
      have hj : j < ([.int (g0 - 3), .int (g0 - 3), .int (g1 - 1500), .int (1000000 + g2), .str "W", .str "W", .str "i", .str "none"] : List V).length := by
        show j < 8
        omega
      refine ⟨cl, _, _, _, rfl, rfl, SqL.of hcl, atI_nat (List.getElem?_eq_getElem hj), ?_⟩
      have leaf : ∀ x ∈ ([.int (g0 - 3), .int (g0 - 3), .int (g1 - 1500), .int (1000000 + g2), .str "W", .str "W", .str "i", .str "none"] : List V), ∃ e : Am, Rep H5 x e ∧ e.deep = 0 := by
        intro x hx
        simp only [List.mem_cons, List.not_mem_nil, or_false] at hx
        rcases hx with rfl | rfl | rfl | rfl | rfl | rfl | rfl | rfl
        · exact ⟨.num _, rfl, rfl⟩
        · exact ⟨.num _, rfl, rfl⟩
        · exact ⟨.num _, rfl, rfl⟩
        · exact ⟨.num _, rfl, rfl⟩
        · exact ⟨.name _, rfl, rfl⟩
        · exact ⟨.name _, rfl, rfl⟩
        · exact ⟨.name _, rfl, rfl⟩
        · exact ⟨.name _, rfl, rfl⟩
      obtain ⟨e, he, hd⟩ := leaf _ (List.getElem_mem hj)
      exact q _ i5 z5 _ e (kc.trans k5) e5 h05 h15 he (by omega)
    · have npos : 0 < n := by
        have : ¬ V.int (n : Int) = V.int 0 := fun z => h1 (decide_eq_true z)
        rcases Nat.eq_zero_or_pos n with z | z
        · exact absurd (by rw [z]; rfl) this
        · exact z
      have ed : V.int ((n : Int) - 1) = V.int ((n - 1 : Nat) : Int) := by rw [show (n : Int) - 1 = ((n - 1 : Nat) : Int) by omega]
      refine ⟨_, rfl, rfl, _, rfl, ite2 (fun h3 => ?_) (fun h3 => ?_)⟩
      · refine ⟨_, rfl, _, rfl, _, rfl, _, _, rfl, rfl, npos, p, a, ns, i1, z1, ?_, e1, h01, h11, hS.keep k1, fun H2 i2 z2 v e k2 e2 h02 h12 he hd => ⟨by show 2 ≤ sizeLine; decide, fun t nt => ?_⟩⟩
        · show [V.ref p, V.ref a, V.int ((n : Int) - 1)] = _
          rw [ed]
        · exact q _ i2 z2 _ (.bits e) ((k1.trans k2).trans (Keep.of_same (same_new nt))) ((same_new nt) _ _ e2) h02 h12 ⟨t, v, rfl, upd_same, he.same (same_new nt)⟩ (by show e.deep + 1 ≤ n; omega)
      · refine ⟨by show 9 ≤ sizeLine; decide, fun ol nol => ?_⟩
        have nop : ol ≠ p := fun z => by
          rw [z, e1] at nol
          cases nol
        have ko : Keep p H (upd H1 ol (.lst (lOps.map V.str))) := k1.trans (Keep.of_same (same_new nol))
        have eo : (upd H1 ol (.lst (lOps.map V.str))) p = some (ls2 i1 z1) := (same_new nol) _ _ e1
        refine ⟨_, rfl, _, rfl, p, a, ns, i1, z1, 9, rfl, eo, h01, h11, hS.keep ko, by decide, by decide, fun H2 i2 z2 g k2 e2 h02 h12 g0 g1 => ?_⟩
        have hol : H2 ol = some (.lst (lOps.map V.str)) := k2 _ _ nop upd_same
        obtain ⟨j, rfl⟩ : ∃ j : Nat, g = (j : Int) := ⟨g.toNat, by omega⟩
        have hj : j < lOps.length := by
          show j < 9
          omega
        have gj : (lOps.map V.str)[j]? = some (V.str lOps[j]) := by
          rw [List.getElem?_map, List.getElem?_eq_getElem hj]
          rfl
        have hm : lOps[j] ∈ lOps := List.getElem_mem hj
        generalize lOps[j] = o at gj hm
        refine ⟨ol, _, _, _, rfl, rfl, SqL.of hol, atI_nat gj, ?_⟩
        refine ⟨_, rfl, _, rfl, _, rfl, _, rfl, _, _, rfl, rfl, npos, p, a, ns, i2, z2, ?_, e2, h02, h12, hS.keep (ko.trans k2), fun H3 i3 z3 u ea k3 e3 h03 h13 hea hda => ?_⟩
        · show [V.ref p, V.ref a, V.int ((n : Int) - 1)] = _
          rw [ed]
        refine ⟨_, rfl, _, rfl, _, rfl, _, _, rfl, rfl, npos, p, a, ns, i3, z3, ?_, e3, h03, h13, hS.keep ((ko.trans k2).trans k3), fun H4 i4 z4 t eb k4 e4 h04 h14 heb hdb => ⟨by show 3 ≤ sizeLine; decide, fun tp ntp => ?_⟩⟩
        · show [V.ref p, V.ref a, V.int ((n : Int) - 1)] = _
          rw [ed]
        exact q _ i4 z4 _ (.op o ea eb) ((((ko.trans k2).trans k3).trans k4).trans (Keep.of_same (same_new ntp))) ((same_new ntp) _ _ e4) h04 h14
          ⟨hm, tp, u, t, rfl, upd_same, (hea.keep e3 k4).same (same_new ntp), heb.same (same_new ntp)⟩ (by show max ea.deep eb.deep + 1 ≤ n; omega)
theorem ok_anys {f fW : Addr} {fd fdW : FuncData} (F : Fun K "_law_any" "_law_any" s__law_any f fd) (T : Txt K mg B mc tL tG)
    (G__law_draw : FnOk P w K mg base CX0 1 fW fdW ["state", "script", "size"] (spDraw K)) (D__law_draw : Def K mg "_law_draw" fW fdW ["state", "script", "size"]) (D__law_any : Def K mg "_law_any" f fd ["state", "script", "depth"]) :
    ∀ n, FnOk P w K mg base CX0 (n + 2) f fd ["state", "script", "depth"] (spAny K n)
  | 0 => ok_any (k := 1) F T (by omega) G__law_draw D__law_draw ⟨fun _ _ _ _ h => absurd h.1 (by omega), fun _ _ _ _ _ _ _ _ _ _ _ _ _ h => absurd h.1 (by omega)⟩ D__law_any
  | n + 1 => ok_any (k := n + 2) F T (by omega) G__law_draw D__law_draw ((ok_anys F T G__law_draw D__law_draw D__law_any n).imp fun _ _ _ _ h => h.2) D__law_any
end
end K2
namespace K2
open PySem PySem.Spec PyProof.Rows L2 K2X
section
variable {P : Program} {w : World} {K : PySem.W.Frag} {mg : Str → Option Value} {base : Heap} {B : Addr} {mc : Value} {tL tG : Tok}
def spLaw (K : PySem.W.Frag) : Sp := fun vs H Q _ => ∃ (a : Addr) (ns : List Int), vs = [.ref a] ∧ SqL K H a (ns.map V.int) ∧ ns.length ≤ 63 ∧ ∀ H', Q (.bl true) H'
abbrev two (x y : Int) : Cnt := [(Sum.inr "W", .int x), (Sum.inr "i", .int y)]
theorem nums_two (x y : Int) : Nums (two x y) := by
  intro k v h
  rw [valV_cons, valV_cons] at h
  by_cases h1 : (Sum.inr "W" : Key) = k
  · rw [if_pos h1] at h
    exact ⟨x, (Option.some.inj h).symm⟩
  · rw [if_neg h1] at h
    by_cases h2 : (Sum.inr "i" : Key) = k
    · rw [if_pos h2] at h
      exact ⟨y, (Option.some.inj h).symm⟩
    · rw [if_neg h2] at h
      cases h
theorem kept_two (x y : Int) : ∀ p ∈ two x y, valV (two x y) p.1 = some p.2 ∧ flatB p.2 = true := by
  intro p hp
  simp only [List.mem_cons, List.not_mem_nil, or_false] at hp
  rcases hp with rfl | rfl
  · exact ⟨by rw [valV_cons, if_pos rfl], rfl⟩
  · exact ⟨by rw [valV_cons, if_neg (nk (a := "W") (b := "i") (by decide +kernel)), valV_cons, if_pos rfl], rfl⟩
theorem scal_res (r : Res) : scal (resV r) (resV r) = true := by cases r <;> rfl
theorem ok_law {f fW fA fT fD : Addr} {fd fdW fdA fdT fdD : FuncData} (F : Fun K "law" "law" s_law f fd) (T : Txt K mg B mc tL tG)
    (G__law_draw : FnOk P w K mg base CX0 1 fW fdW ["state", "script", "size"] (spDraw K)) (D__law_draw : Def K mg "_law_draw" fW fdW ["state", "script", "size"])
    (G__law_any : FnOk P w K mg base CX0 6 fA fdA ["state", "script", "depth"] (spAny K 4)) (D__law_any : Def K mg "_law_any" fA fdA ["state", "script", "depth"])
    (G__law_told : FnOk P w K mg base CX0 14 fT fdT ["e", "counters"] (spTold 4)) (D__law_told : Def K mg "_law_told" fT fdT ["e", "counters"])
    (G__law_due : FnOk P w K mg base CX0 6 fD fdD ["e", "counters"] (spDue 4)) (D__law_due : Def K mg "_law_due" fD fdD ["e", "counters"]) :
    FnOk P w K mg base CX0 15 f fd ["script"] (spLaw K) := by
  refine F.ok sclaw (fun vs H Q E h => ?_) (fun cdv A outer s H vs Q E hr h => ?_)
  · obtain ⟨a, ns, rfl, _⟩ := h
    rfl
  · obtain ⟨a, ns, rfl, hS0, hl, q⟩ := h
    refine ⟨_, (pss_cons (ps_set (i := 1) sclaw.nd rfl (.inl rfl) (pe_lst (pa_cons pe_int (pa_cons pe_int pa_nil))))
      (pss_cons (ps_for PassesOwn.never rfl (pi_range1 rfl T.m_range (pa_cons pe_int pa_nil)) (pg_name (i := 2) sclaw.nd rfl (Or.inl rfl)) (C8.pss_cut (ps_set (i := 3) sclaw.nd rfl (.inl rfl) (pe_disp (pps_cons pe_str (pe_op op_sub (pe_call G__law_draw (hr.mono (by omega)) (by rfl) D__law_draw.m D__law_draw.k D__law_draw.b .nil pass0 (pa_cons (pv 1) (pa_cons (pv 0) (pa_cons pe_int pa_nil)))) pe_int) (pps_cons pe_str (pe_ix (r := rIxL K) ix_list (pe_lst (pa_cons (pe_call G__law_draw (hr.mono (by omega)) (by rfl) D__law_draw.m D__law_draw.k D__law_draw.b .nil pass0 (pa_cons (pv 1) (pa_cons (pv 0) (pa_cons pe_int pa_nil)))) (pa_cons pe_int pa_nil))) (pe_callTy call_int1 (by rfl) T.m_int (by decide +kernel) (pa_cons (pe_cmpR op_eq (pe_call G__law_draw (hr.mono (by omega)) (by rfl) D__law_draw.m D__law_draw.k D__law_draw.b .nil pass0 (pa_cons (pv 1) (pa_cons (pv 0) (pa_cons pe_int pa_nil)))) pe_int (nomark _)) pa_nil)) (fun _ _ => rfl)) pps_nil)) rfl rfl (by intro h; cases h) (by decide)))
      (pss_cons (ps_set (i := 4) sclaw.nd rfl (.inl rfl) (pe_callTy call_dictD (by rfl) T.m_dict (by decide +kernel) (pa_cons (pv 3) pa_nil)))
      (pss_cons (ps_set (i := 5) sclaw.nd rfl (.inl rfl) (pe_call G__law_any (hr.mono (by omega)) (by rfl) D__law_any.m D__law_any.k D__law_any.b .nil pass0 (pa_cons (pv 1) (pa_cons (pv 0) (pa_cons pe_int pa_nil)))))
      (pss_one (ps_if (PW.pt (pw_or (pt_cmpR op_ne (pe_call G__law_told (hr.mono (by omega)) (by rfl) D__law_told.m D__law_told.k D__law_told.b .nil pass0 (pa_cons (pv 5) (pa_cons (pv 3) pa_nil))) (pe_call G__law_due (hr.mono (by omega)) (by rfl) D__law_due.m D__law_due.k D__law_due.b .nil pass0 (pa_cons (pv 5) (pa_cons (pv 3) pa_nil))) (nomark _)) (pw_or1 (pt_cmpR (op_ne_dictA hr.units0) (pv 3) (pv 4) (nomark _))))) (pss_one (ps_ret pe_bl)) pss_nil))))))
      (pss_one (ps_ret pe_bl)))), ?_⟩
    refine ⟨by show 2 ≤ sizeLine; decide, fun p np => ?_⟩
    have hB : At (upd H p (ls2 0 0)) (upd H p (ls2 0 0)) p := ⟨Keep.refl _ _, 0, 0, upd_same, Int.le_refl _, Int.le_refl _⟩
    have hSc : Scr K (upd H p (ls2 0 0)) p a ns := ⟨H, np, same_new np, hS0⟩
    change tSeq _ _ _ _ (upd H p (ls2 0 0))
    generalize (upd H p (ls2 0 0)) = HB at hB hSc ⊢
    refine ⟨25, rfl, by decide, by decide, for_range (n := 25) (fun _ σ H' => ∃ y2 y3 y4 y5 : Option V, σ = [some (.ref a), some (.ref p), y2, y3, y4, y5] ∧ At HB H' p) ⟨_, _, _, _, rfl, hB⟩ ?_ ?_⟩
    case refine_2 =>
      rintro σ H' ⟨y2, y3, y4, y5, rfl, hA⟩
      exact q H'
    rintro j σ H1 hj ⟨y2, y3, y4, y5, rfl, hA⟩
    refine ⟨fun σ' H' => ∃ (c : Addr) (x y : Int) (y2 y4 y5 : Option V), σ' = [some (.ref a), some (.ref p), y2, some (.ref c), y4, y5] ∧ At HB H' p ∧ c ≠ p ∧ H' c = some (.dK (two x y)), ?_, ?_⟩
    · obtain ⟨k0, i0, z0, e0, h0, h1⟩ := hA
      refine fun c nc => ?_
      have ncp : c ≠ p := fun z => by
        rw [z, e0] at nc
        cases nc
      have kc := k0.trans (Keep.of_same (same_new (o := .dK []) nc))
      refine ⟨_, rfl, _, rfl, p, a, ns, i0, z0, 20, rfl, (same_new nc) _ _ e0, h0, h1, hSc.keep kc, by decide, by decide, fun H2 i2 z2 d2 k2 e2 h02 h12 _ _ => ⟨_, _, rfl, rfl, _, rfl, _, rfl, p, a, ns, i2, z2, 900, rfl, e2, h02, h12, hSc.keep (kc.trans k2), by decide, by decide, fun H3 i3 z3 d3 k3 e3 h03 h13 _ _ =>
        ⟨by show 2 ≤ sizeLine; decide, fun l nl => ?_⟩⟩⟩
      have nlp : l ≠ p := fun z => by
        rw [z, e3] at nl
        cases nl
      have kl := ((kc.trans k2).trans k3).trans (Keep.of_same (same_new (o := .lst [.int d3, .int 1000001]) nl))
      have c3 : H3 c = some (.dK []) := k3 _ _ ncp (k2 _ _ ncp upd_same)
      refine ⟨_, rfl, _, rfl, p, a, ns, i3, z3, 30, rfl, (same_new nl) _ _ e3, h03, h13, hSc.keep kl, by decide, by decide, fun H4 i4 z4 d4 k4 e4 h04 h14 _ _ => ⟨rfl, .inr ⟨_, rfl, ?_⟩⟩⟩
      have hl4 : H4 l = some (.lst [.int d3, .int 1000001]) := k4 _ _ nlp upd_same
      have c4 : H4 c = some (.dK []) := k4 _ _ ncp ((same_new nl) _ _ c3)
      obtain ⟨y, hy⟩ : ∃ y : Int, atI [V.int d3, V.int 1000001] (if decide (V.int d4 = V.int 0) = true then 1 else 0) = some (V.int y) := by
        by_cases h : V.int d4 = V.int 0
        · rw [decide_eq_true h, if_pos rfl]
          exact ⟨_, atI_nat (j := 1) rfl⟩
        · rw [decide_eq_false h, if_neg Bool.false_ne_true]
          exact ⟨_, atI_nat (j := 0) rfl⟩
      refine ⟨l, _, _, _, rfl, rfl, SqL.of hl4, hy, c4, two (d2 - 3) y, rfl, by show 2 ≤ 15; decide, ?_⟩
      have em : mergeK [] (two (d2 - 3) y) = two (d2 - 3) y := merge_nodup (by show ([Sum.inr "W", Sum.inr "i"] : List Key).Nodup; decide +kernel)
      rw [em]
      refine ⟨c, _, y, _, _, _, rfl, ⟨fun b o nb hb => ?_, i4, z4, ?_, h04, h14⟩, ncp, upd_same⟩
      · have hbc : b ≠ c := fun z => by
          rw [z] at hb
          rw [k0 _ _ ncp hb] at nc
          cases nc
        rw [upd_ne hbc]
        exact (kl.trans k4) b o nb hb
      · rw [upd_ne ncp.symm]
        exact e4
    clear hA y2 y3 y4 y5
    rintro σ H2 ⟨c, x, y, y2, y4, y5, rfl, ⟨k0, i0, z0, e0, h0, h1⟩, ncp, hc⟩
    -- kept = dict(counters); e = _law_any(..)
    refine ⟨_, rfl, c, _, rfl, .inl hc, fun kp nkp => ?_⟩
    have nkp' : kp ≠ p := fun z => by
      rw [z, e0] at nkp
      cases nkp
    have k1 := k0.trans (Keep.of_same (same_new (o := .dK (two x y)) nkp))
    refine ⟨_, rfl, _, rfl, p, a, ns, i0, z0, rfl, (same_new nkp) _ _ e0, h0, h1, hSc.keep k1, fun H3 i3 z3 v e k3 e3 h03 h13 he hd => ?_⟩
    have hc3 : H3 c = some (.dK (two x y)) := k3 _ _ ncp ((same_new nkp) _ _ hc)
    have hk3 : H3 kp = some (.dK (two x y)) := k3 _ _ nkp' upd_same
    refine ⟨_, rfl, _, rfl, v, e, c, two x y, rfl, he, hd, hc3, nums_two x y, fun H4 s4 => ⟨_, rfl, _, rfl, v, e, c, two x y, rfl, he.same s4, hd, s4 _ _ hc3, nums_two x y, fun H5 s5 => ⟨scal_res _, _, rfl, iteNS rfl ?_⟩⟩⟩
    refine ⟨_, rfl, _, rfl, c, kp, _, _, rfl, rfl, s5 _ _ (s4 _ _ hc3), s5 _ _ (s4 _ _ hk3), rfl, kept_two x y, _, rfl, iteF ?_⟩
    exact ⟨_, _, _, _, rfl, (k1.trans k3).trans (Keep.of_same (s4.trans s5)), i3, z3, s5 _ _ (s4 _ _ e3), h03, h13⟩
end
end K2
namespace K2
open PySem PySem.Spec PyProof.Rows L2 K2X
theorem exm_of {K : PySem.W.Frag} {A S : Addr} {b : Bool} (base : PySem.W.subIn K (.ref S) (.type "BaseException") = some true) (cls : PySem.W.isClsIn K S = true) (ty : PySem.W.typeIn K (.ref S) = some (.type "type")) (sub : PySem.W.subIn K (.ref A) (.ref S) = some b) : PySem.W.exmOne K (.ref A) (.ref S) = some b := by
  have c1 : (PySem.W.subIn K (.ref S) (.type "BaseException") == some true) = true := beq_iff_eq.mpr base
  have c2 : ((PySem.W.clsIn K S).isSome && PySem.W.typeIn K (.ref S) == some (.type "type")) = true := Bool.and_eq_true_iff.mpr ⟨cls, beq_iff_eq.mpr ty⟩
  unfold PySem.W.exmOne PySem.W.kitCls
  simp only [c1, if_true]
  exact (if_pos c2).trans sub
theorem all_mk {l : PySem.W.OpenLaw} {w : World} {K : PySem.W.Frag} {h : Heap} {mg : Str → Option Value} {fa B f1 f2 f3 f4 f5 f6 f7 f8 f9 f10 CK gK CL gL : Addr} {tkL tkG : Tok} (X : K.In h) (G : h.Ns mainGlobals mg) (hfa : mg "law" = some (.ref fa))
    {od1 an1 od2 an2 od3 an3 od4 an4 od5 an5 od6 an6 od7 an7 od8 an8 od9 an9 od10 an10 odK anK odL anL : Option Addr} {sl1 sl2 sl3 sl4 sl5 sl6 sl7 sl8 sl9 sl10 slK slL : Array (Option Value)} {oc1 kV1 dc1 pm1 cd1 ct1 oc2 kV2 dc2 pm2 cd2 ct2 oc3 kV3 dc3 pm3 cd3 ct3 oc4 kV4 dc4 pm4 cd4 ct4 oc5 kV5 dc5 pm5 cd5 ct5 oc6 kV6 dc6 pm6 cd6 ct6 oc7 kV7 dc7 pm7 cd7 ct7 oc8 kV8 dc8 pm8 cd8 ct8 oc9 kV9 dc9 pm9 cd9 ct9 oc10 kV10 dc10 pm10 cd10 ct10 ocK kVK dcK pmK cdK ctK ocL kVL dcL pmL cdL ctL : Value}
    {nmK qnK : Str} {NK : Addr} {bsK bmK suK : List Value} {snK : List Str} {abK : Bool} {coK : Option Bool} {ddK : Option Addr} {kaK kbK kcK kdK keK : Option Value}
    {nmL qnL : Str} {NL : Addr} {bsL bmL suL : List Value} {snL : List Str} {abL : Bool} {coL : Option Bool} {ddL : Option Addr} {kaL kbL kcL kdL keL : Option Value}
    (a1 : PySem.W.nsIn K mainGlobals "amount" = some (some (.ref f1))) (l1 : K.lookup f1 = some ⟨oc1, od1, .func (PySem.W.fnOf "amount" "amount" (defArgs s_amount) (defBody s_amount) (defScope s_amount) .none kV1 dc1 pm1 an1 cd1 ct1), sl1⟩) (c1 : PySem.W.codeIn K cd1 "amount" = true) (k1 : PySem.W.keepIn K (.ref f1) = true)
    (a2 : PySem.W.nsIn K mainGlobals "amount_at" = some (some (.ref f2))) (l2 : K.lookup f2 = some ⟨oc2, od2, .func (PySem.W.fnOf "amount_at" "amount_at" (defArgs s_amount_at) (defBody s_amount_at) (defScope s_amount_at) .none kV2 dc2 pm2 an2 cd2 ct2), sl2⟩) (c2 : PySem.W.codeIn K cd2 "amount_at" = true) (k2 : PySem.W.keepIn K (.ref f2) = true)
    (a3 : PySem.W.nsIn K mainGlobals "_number_of" = some (some (.ref f3))) (l3 : K.lookup f3 = some ⟨oc3, od3, .func (PySem.W.fnOf "_number_of" "_number_of" (defArgs s__number_of) (defBody s__number_of) (defScope s__number_of) .none kV3 dc3 pm3 an3 cd3 ct3), sl3⟩) (c3 : PySem.W.codeIn K cd3 "_number_of" = true) (k3 : PySem.W.keepIn K (.ref f3) = true)
    (a4 : PySem.W.nsIn K mainGlobals "_operated" = some (some (.ref f4))) (l4 : K.lookup f4 = some ⟨oc4, od4, .func (PySem.W.fnOf "_operated" "_operated" (defArgs s__operated) (defBody s__operated) (defScope s__operated) .none kV4 dc4 pm4 an4 cd4 ct4), sl4⟩) (c4 : PySem.W.codeIn K cd4 "_operated" = true) (k4 : PySem.W.keepIn K (.ref f4) = true)
    (a5 : PySem.W.nsIn K mainGlobals "_law_draw" = some (some (.ref f5))) (l5 : K.lookup f5 = some ⟨oc5, od5, .func (PySem.W.fnOf "_law_draw" "_law_draw" (defArgs s__law_draw) (defBody s__law_draw) (defScope s__law_draw) .none kV5 dc5 pm5 an5 cd5 ct5), sl5⟩) (c5 : PySem.W.codeIn K cd5 "_law_draw" = true) (k5 : PySem.W.keepIn K (.ref f5) = true)
    (a6 : PySem.W.nsIn K mainGlobals "_law_any" = some (some (.ref f6))) (l6 : K.lookup f6 = some ⟨oc6, od6, .func (PySem.W.fnOf "_law_any" "_law_any" (defArgs s__law_any) (defBody s__law_any) (defScope s__law_any) .none kV6 dc6 pm6 an6 cd6 ct6), sl6⟩) (c6 : PySem.W.codeIn K cd6 "_law_any" = true) (k6 : PySem.W.keepIn K (.ref f6) = true)
    (a7 : PySem.W.nsIn K mainGlobals "_law_checked" = some (some (.ref f7))) (l7 : K.lookup f7 = some ⟨oc7, od7, .func (PySem.W.fnOf "_law_checked" "_law_checked" (defArgs s__law_checked) (defBody s__law_checked) (defScope s__law_checked) .none kV7 dc7 pm7 an7 cd7 ct7), sl7⟩) (c7 : PySem.W.codeIn K cd7 "_law_checked" = true) (k7 : PySem.W.keepIn K (.ref f7) = true)
    (a8 : PySem.W.nsIn K mainGlobals "_law_due" = some (some (.ref f8))) (l8 : K.lookup f8 = some ⟨oc8, od8, .func (PySem.W.fnOf "_law_due" "_law_due" (defArgs s__law_due) (defBody s__law_due) (defScope s__law_due) .none kV8 dc8 pm8 an8 cd8 ct8), sl8⟩) (c8 : PySem.W.codeIn K cd8 "_law_due" = true) (k8 : PySem.W.keepIn K (.ref f8) = true)
    (a9 : PySem.W.nsIn K mainGlobals "_law_told" = some (some (.ref f9))) (l9 : K.lookup f9 = some ⟨oc9, od9, .func (PySem.W.fnOf "_law_told" "_law_told" (defArgs s__law_told) (defBody s__law_told) (defScope s__law_told) .none kV9 dc9 pm9 an9 cd9 ct9), sl9⟩) (c9 : PySem.W.codeIn K cd9 "_law_told" = true) (k9 : PySem.W.keepIn K (.ref f9) = true)
    (a10 : PySem.W.nsIn K mainGlobals "law" = some (some (.ref f10))) (l10 : K.lookup f10 = some ⟨oc10, od10, .func (PySem.W.fnOf "law" "law" (defArgs s_law) (defBody s_law) (defScope s_law) .none kV10 dc10 pm10 an10 cd10 ct10), sl10⟩) (c10 : PySem.W.codeIn K cd10 "law" = true) (k10 : PySem.W.keepIn K (.ref f10) = true)
    (aB : PySem.W.nsIn K mainGlobals "ClothError" = some (some (.ref B))) (gB : PySem.W.specialIn K (.ref B) "__getattribute__" = some (some (.builtin "type.__getattribute__"))) (rB : PySem.W.readsIn K B (.type "type") = true) (vB : PySem.W.findCls K (.ref B) (.type "type") "__init__" = some (.val (.builtin "ValueError.__init__")))
    (aL : PySem.W.nsIn K mainGlobals "LEAST" = some (some (.int (-1000000) tkL))) (aG : PySem.W.nsIn K mainGlobals "GREATEST" = some (some (.int 1000000 tkG)))
    (mK : PySem.W.nsIn K mainGlobals "KindError" = some (some (.ref CK))) (oK : K.lookup CK = some (excClassObj nmK qnK CK NK bsK bmK true snK suK abK coK ddK kaK kbK kcK kdK keK "ValueError.__new__")) (vK : PySem.HandSPX.refsVE bmK = true)
    (iK : PySem.W.findIn K (.ref CK) "__init__" = some (some (.ref gK))) (lK : K.lookup gK = some ⟨ocK, odK, .func (PySem.W.fnOf "__init__" "KindError.__init__" (defArgs s_KI) (defBody s_KI) (defScope s_KI) .none kVK dcK pmK anK cdK ctK), slK⟩) (cK : PySem.W.codeIn K cdK "KindError.__init__" = true) (kK : PySem.W.keepIn K (.ref gK) = true) (tK : PySem.W.typeIn K (.ref gK) = some (.type "function"))
    (sK : PySem.W.findIn K (.ref CK) "__setattr__" = some (some (.builtin "object.__setattr__"))) (eK : PySem.W.subIn K (.ref CK) (.type "BaseException") = some true) (yK : PySem.W.typeIn K (.ref CK) = some (.type "type")) (pK : PySem.W.keepIn K (.ref CK) = true) (nK : PySem.W.findIn K (.ref CK) "place" = some none)
    (uK : PySem.W.findIn K (.ref CK) "__getattribute__" = some (some (.builtin "BaseException.__getattribute__"))) (wK : PySem.W.findIn K (.ref CK) "__getattr__" = some none) (dK : PySem.W.hasDictIn K CK = true)
    (mL : PySem.W.nsIn K mainGlobals "LimitError" = some (some (.ref CL))) (oL : K.lookup CL = some (excClassObj nmL qnL CL NL bsL bmL true snL suL abL coL ddL kaL kbL kcL kdL keL "ValueError.__new__")) (vL : PySem.HandSPX.refsVE bmL = true)
    (iL : PySem.W.findIn K (.ref CL) "__init__" = some (some (.ref gL))) (lL : K.lookup gL = some ⟨ocL, odL, .func (PySem.W.fnOf "__init__" "LimitError.__init__" (defArgs s_LI) (defBody s_LI) (defScope s_LI) .none kVL dcL pmL anL cdL ctL), slL⟩) (cL : PySem.W.codeIn K cdL "LimitError.__init__" = true) (kL : PySem.W.keepIn K (.ref gL) = true) (tL : PySem.W.typeIn K (.ref gL) = some (.type "function"))
    (sL : PySem.W.findIn K (.ref CL) "__setattr__" = some (some (.builtin "object.__setattr__"))) (eL : PySem.W.subIn K (.ref CL) (.type "BaseException") = some true) (yL : PySem.W.typeIn K (.ref CL) = some (.type "type")) (pL : PySem.W.keepIn K (.ref CL) = true) (nL : PySem.W.findIn K (.ref CL) "kind" = some none)
    (uL : PySem.W.findIn K (.ref CL) "__getattribute__" = some (some (.builtin "BaseException.__getattribute__"))) (wL : PySem.W.findIn K (.ref CL) "__getattr__" = some none) (dL : PySem.W.hasDictIn K CL = true)
    (qK : PySem.W.isClsIn K CK = true) (qL : PySem.W.isClsIn K CL = true) (xKK : PySem.W.subIn K (.ref CK) (.ref CK) = some true) (xLK : PySem.W.subIn K (.ref CL) (.ref CK) = some false) (xLL : PySem.W.subIn K (.ref CL) (.ref CL) = some true)
    (z_dict : PySem.W.nsIn K mainGlobals "dict" = some none)
    (z_int : PySem.W.nsIn K mainGlobals "int" = some none)
    (z_str : PySem.W.nsIn K mainGlobals "str" = some none)
    (z_isinstance : PySem.W.nsIn K mainGlobals "isinstance" = some none)
    (z_len : PySem.W.nsIn K mainGlobals "len" = some none)
    (z_max : PySem.W.nsIn K mainGlobals "max" = some none)
    (z_min : PySem.W.nsIn K mainGlobals "min" = some none)
    (z_range : PySem.W.nsIn K mainGlobals "range" = some none) :
    ∃ fd : FuncData, (∀ (s : Shared) (v : Value), BindsTo s fd ⟨[v], []⟩ [("script", v)]) ∧ ∀ base : Heap, K.In base → base.Ns mainGlobals mg → FnOk l.prog w K mg base CX0 15 fa fd ["script"] (spLaw K) := by
  have e := hfa.symm.trans (PySem.W.mg_of X G a10)
  cases e
  have T : Txt K mg B (.type "type") tkL tkG := ⟨PySem.W.mg_of X G aB, gB, rB, vB, PySem.W.mg_of X G aL, PySem.W.mg_of X G aG, PySem.W.mg_none_of X G z_dict, PySem.W.mg_none_of X G z_int, PySem.W.mg_none_of X G z_str, PySem.W.mg_none_of X G z_isinstance, PySem.W.mg_none_of X G z_len, PySem.W.mg_none_of X G z_max, PySem.W.mg_none_of X G z_min, PySem.W.mg_none_of X G z_range⟩
  have F1 := fun_mk (st := s_amount) l1 c1 k1
  have D1 : Def K mg "amount" f1 _ ["e", "counters"] := ⟨PySem.W.mg_of X G a1, F1.kp, F1.binds (ps := ["e", "counters"]) fun _ _ _ _ _ _ us hl => match us, hl with | [_, _], _ => rfl⟩
  have F2 := fun_mk (st := s_amount_at) l2 c2 k2
  have D2 : Def K mg "amount_at" f2 _ ["e", "counters", "place"] := ⟨PySem.W.mg_of X G a2, F2.kp, F2.binds (ps := ["e", "counters", "place"]) fun _ _ _ _ _ _ us hl => match us, hl with | [_, _, _], _ => rfl⟩
  have F3 := fun_mk (st := s__number_of) l3 c3 k3
  have D3 : Def K mg "_number_of" f3 _ ["e", "counters", "place"] := ⟨PySem.W.mg_of X G a3, F3.kp, F3.binds (ps := ["e", "counters", "place"]) fun _ _ _ _ _ _ us hl => match us, hl with | [_, _, _], _ => rfl⟩
  have F4 := fun_mk (st := s__operated) l4 c4 k4
  have D4 : Def K mg "_operated" f4 _ ["op", "first", "second"] := ⟨PySem.W.mg_of X G a4, F4.kp, F4.binds (ps := ["op", "first", "second"]) fun _ _ _ _ _ _ us hl => match us, hl with | [_, _, _], _ => rfl⟩
  have F5 := fun_mk (st := s__law_draw) l5 c5 k5
  have D5 : Def K mg "_law_draw" f5 _ ["state", "script", "size"] := ⟨PySem.W.mg_of X G a5, F5.kp, F5.binds (ps := ["state", "script", "size"]) fun _ _ _ _ _ _ us hl => match us, hl with | [_, _, _], _ => rfl⟩
  have F6 := fun_mk (st := s__law_any) l6 c6 k6
  have D6 : Def K mg "_law_any" f6 _ ["state", "script", "depth"] := ⟨PySem.W.mg_of X G a6, F6.kp, F6.binds (ps := ["state", "script", "depth"]) fun _ _ _ _ _ _ us hl => match us, hl with | [_, _, _], _ => rfl⟩
  have F7 := fun_mk (st := s__law_checked) l7 c7 k7
  have D7 : Def K mg "_law_checked" f7 _ ["number"] := ⟨PySem.W.mg_of X G a7, F7.kp, F7.binds (ps := ["number"]) fun _ _ _ _ _ _ us hl => match us, hl with | [_], _ => rfl⟩
  have F8 := fun_mk (st := s__law_due) l8 c8 k8
  have D8 : Def K mg "_law_due" f8 _ ["e", "counters"] := ⟨PySem.W.mg_of X G a8, F8.kp, F8.binds (ps := ["e", "counters"]) fun _ _ _ _ _ _ us hl => match us, hl with | [_, _], _ => rfl⟩
  have F9 := fun_mk (st := s__law_told) l9 c9 k9
  have D9 : Def K mg "_law_told" f9 _ ["e", "counters"] := ⟨PySem.W.mg_of X G a9, F9.kp, F9.binds (ps := ["e", "counters"]) fun _ _ _ _ _ _ us hl => match us, hl with | [_, _], _ => rfl⟩
  have F10 := fun_mk (st := s_law) l10 c10 k10
  have FK := fun_mk (st := s_KI) lK cK kK
  have XK : Exc K mg "KindError" CK gK _ "place" := ⟨PySem.W.mg_of X G mK, ⟨⟨nmK, qnK, NK, bsK, bmK, snK, suK, abK, coK, ddK, kaK, kbK, kcK, kdK, keK, oK, vK⟩, sK, eK, yK, pK⟩, iK, tK, FK.binds (ps := ["self", "place"]) fun _ _ _ _ _ _ us hl => match us, hl with | [_, _], _ => rfl, nK, ⟨uK, wK, eK, dK⟩⟩
  have FL := fun_mk (st := s_LI) lL cL kL
  have XL : Exc K mg "LimitError" CL gL _ "kind" := ⟨PySem.W.mg_of X G mL, ⟨⟨nmL, qnL, NL, bsL, bmL, snL, suL, abL, coL, ddL, kaL, kbL, kcL, kdL, keL, oL, vL⟩, sL, eL, yL, pL⟩, iL, tL, FL.binds (ps := ["self", "kind"]) fun _ _ _ _ _ _ us hl => match us, hl with | [_, _], _ => rfl, nL, ⟨uL, wL, eL, dL⟩⟩
  refine ⟨PySem.W.fnOf "law" "law" (defArgs s_law) (defBody s_law) (defScope s_law) .none kV10 dc10 pm10 an10 cd10 ct10, fun s v => .of_eq rfl, fun base _ _ => ?_⟩
  have GK : FnOk l.prog w K mg base CX0 1 gK _ ["self", "place"] (spExc K "place") := ok_KI FK T
  have GL : FnOk l.prog w K mg base CX0 1 gL _ ["self", "kind"] (spExc K "kind") := ok_LI FL T
  have G4 : FnOk l.prog w K mg base CX0 1 f4 _ ["op", "first", "second"] spOper := ok_oper F4 T
  have G2 : FnOk l.prog w K mg base (L2.CX l.prog w) 12 f2 _ ["e", "counters", "place"] (spAt CK CL 4) := ok_both F3 F2 T XK GK XL GL D2 D3 G4 D4 4
  have G1 : FnOk l.prog w K mg base (L2.CX l.prog w) 13 f1 _ ["e", "counters"] (spAmt CK CL 4) := ok_amount F1 G2 D2
  have G5 : FnOk l.prog w K mg base CX0 1 f5 _ ["state", "script", "size"] (spDraw K) := ok_draw F5 T
  have G6 : FnOk l.prog w K mg base CX0 6 f6 _ ["state", "script", "depth"] (spAny K 4) := ok_anys F6 T G5 D5 D6 4
  have G7 : FnOk l.prog w K mg base CX0 1 f7 _ ["number"] spChecked := ok_checked F7
  have G8 : FnOk l.prog w K mg base CX0 6 f8 _ ["e", "counters"] (spDue 4) := ok_dues F8 T G7 D7 D8 4
  have G9 : FnOk l.prog w K mg base CX0 14 f9 _ ["e", "counters"] (spTold 4) := ok_told F9 XK XL (exm_of eK qK yK xKK) (exm_of eK qK yK xLK) (exm_of eL qL yL xLL) G1 D1
  exact ok_law F10 T G5 D5 G6 D6 G9 D9 G8 D8
end K2
open PySem PySem.W PyProof.Rows
set_option maxHeartbeats 0 in
theorem PySem.Challenge.cw_cellcloth_k02_amounts_holds : PySem.Challenge.rw_cellcloth_k02_amounts.Holds := by
  w_on; o_law; k_head; (case hw => w_witness2)
  k_fill
  refine L2.walk_of (l := PySem.Challenge.rw_cellcloth_k02_amounts) (n := 63) (k := 15) (x := "script") (CX := fun _ => L2.CX0) (sp := fun w => K2.spLaw _) rfl (by decide) rfl ⟨rfl, by decide, by decide⟩ (fun w h Y => PySem.W.kIn_of Y) ?F (fun _ _ a ns hl _ hS => ⟨a, ns, rfl, hS, hl, fun _ => rfl⟩) (fun _ _ _ _ _ h => h)
  case F =>
    intro w mg fa h KX G hmg
    refine' K2.all_mk KX G hmg ?a1 ?l1 ?c1 ?k1 ?a2 ?l2 ?c2 ?k2 ?a3 ?l3 ?c3 ?k3 ?a4 ?l4 ?c4 ?k4 ?a5 ?l5 ?c5 ?k5 ?a6 ?l6 ?c6 ?k6 ?a7 ?l7 ?c7 ?k7 ?a8 ?l8 ?c8 ?k8 ?a9 ?l9 ?c9 ?k9 ?a10 ?l10 ?c10 ?k10 ?aB ?gB ?rB ?vB ?aL ?aG ?mK ?oK ?vK ?iK ?lK ?cK ?kK ?tK ?sK ?eK ?yK ?pK ?nK ?uK ?wK ?dK ?mL ?oL ?vL ?iL ?lL ?cL ?kL ?tL ?sL ?eL ?yL ?pL ?nL ?uL ?wL ?dL ?qK ?qL ?xKK ?xLK ?xLL ?z_dict ?z_int ?z_str ?z_isinstance ?z_len ?z_max ?z_min ?z_range
    (case a1 => k_is)
    (case l1 => k_is)
    (case c1 => k_is)
    (case k1 => k_is)
    (case a2 => k_is)
    (case l2 => k_is)
    (case c2 => k_is)
    (case k2 => k_is)
    (case a3 => k_is)
    (case l3 => k_is)
    (case c3 => k_is)
    (case k3 => k_is)
    (case a4 => k_is)
    (case l4 => k_is)
    (case c4 => k_is)
    (case k4 => k_is)
    (case a5 => k_is)
    (case l5 => k_is)
    (case c5 => k_is)
    (case k5 => k_is)
    (case a6 => k_is)
    (case l6 => k_is)
    (case c6 => k_is)
    (case k6 => k_is)
    (case a7 => k_is)
    (case l7 => k_is)
    (case c7 => k_is)
    (case k7 => k_is)
    (case a8 => k_is)
    (case l8 => k_is)
    (case c8 => k_is)
    (case k8 => k_is)
    (case a9 => k_is)
    (case l9 => k_is)
    (case c9 => k_is)
    (case k9 => k_is)
    (case a10 => k_is)
    (case l10 => k_is)
    (case c10 => k_is)
    (case k10 => k_is)
    (case aB => k_is)
    (case gB => k_is)
    (case rB => k_is)
    (case vB => k_is)
    (case aL => k_is)
    (case aG => k_is)
    (case mK => k_is)
    (case oK => k_is)
    (case vK => exact rfl)
    (case iK => k_is)
    (case lK => k_is)
    (case cK => k_is)
    (case kK => k_is)
    (case tK => k_is)
    (case sK => k_is)
    (case eK => k_is)
    (case yK => k_is)
    (case pK => k_is)
    (case nK => k_is)
    (case uK => k_is)
    (case wK => k_is)
    (case dK => k_is)
    (case mL => k_is)
    (case oL => k_is)
    (case vL => exact rfl)
    (case iL => k_is)
    (case lL => k_is)
    (case cL => k_is)
    (case kL => k_is)
    (case tL => k_is)
    (case sL => k_is)
    (case eL => k_is)
    (case yL => k_is)
    (case pL => k_is)
    (case nL => k_is)
    (case uL => k_is)
    (case wL => k_is)
    (case dL => k_is)
    (case qK => k_is)
    (case qL => k_is)
    (case xKK => k_is)
    (case xLK => k_is)
    (case xLL => k_is)
    (case z_dict => k_is)
    (case z_int => k_is)
    (case z_str => k_is)
    (case z_isinstance => k_is)
    (case z_len => k_is)
    (case z_max => k_is)
    (case z_min => k_is)
    (case z_range => k_is)
