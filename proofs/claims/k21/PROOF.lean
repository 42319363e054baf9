import PyProof.Rows.All
import Wide.All
import OpenK.AllK
import Wide.FinOn
import HandS.ForMost
import HandS.Codes
import HandS.Nested
import HandS.ClsMeth
import HandS.IsInst
import HandS.Conv
import HandS.Deep
import HandS.MakeKw
import HandS.Defaults
import HandS.TupAny
import HandS.Style
import HandS.RevTup
import HandS.Rev
import KE.KSuper
import HandS.AnyAll
import HandS.EndTab
import PyProof.GenCompD
import KE.KStateDown
import HandS.Head0
import HandS.Head1
import HandS.Head2
import HandS.HeadHook1
import HandS.HeadHook2
import KE.RegKSuper
import HandS.WideBits
import HandS.DictComp
import HandS.Walk
import HandS.Zip
import HandS.ForExc
import HandS.ExcIs
import HandS.RaiseMore
import HandS.FStr
import HandS.Base
import HandS.Call
import HandS.List
import HandS.Text
import HandS.Star
import PyProof.ReprRoads
import PyProof.ReprLen
import HandS.TryOnly
import PySem.Challenge.RW_evenbend_k21_whole_bad_points
set_option Elab.async false
set_option linter.all false
set_option maxRecDepth 100000
set_option maxHeartbeats 4000000
/-! own words: choice among rules, a super() call within a def -/
namespace Ax
open PySem PySem.Spec PyProof.Rows L2

/-! ### choice among rules, at the reading -/
theorem pe_any {X : Cx} {e : Expr} {ι : Type} {t : ι → TE} (h : ∀ i, PE X e (t i)) : PE X e (fun σ H Q => ∃ i, t i σ H Q) :=
  ⟨fun pins s σ H Q I ⟨i, q⟩ => (h i).run pins s σ H Q I q⟩
theorem pe_or2 {X : Cx} {e : Expr} {t u : TE} (h : PE X e t) (h' : PE X e u) : PE X e (fun σ H Q => t σ H Q ∨ u σ H Q) :=
  ⟨fun pins s σ H Q I q => q.elim (h.run pins s σ H Q I) (h'.run pins s σ H Q I)⟩
def tAnyP {ι : Type} (p : ι → Prop) (t : ι → TE) : TE := fun σ H Q => ∃ i, p i ∧ t i σ H Q
theorem pe_anyP {X : Cx} {e : Expr} {ι : Type} {p : ι → Prop} {t : ι → TE} (h : ∀ i, p i → PE X e (t i)) : PE X e (tAnyP p t) :=
  ⟨fun pins s σ H Q I ⟨i, hp, q⟩ => (h i hp).run pins s σ H Q I q⟩

/-! ### a def whose activation is known -/
structure PEA (X : Cx) (body : List Stmt) (e : Expr) (t : TE) : Prop where
  run : ∀ (pins : List (Addr × Obj)) (s : Shared) (σ : L2.St) (H : Hp) (Q : VK), Inv X pins σ H s → t σ H Q → _root_.PySem.wpAt (model X.prog X.w) X.A (.func body X.env) (eval e X.env) (EP X pins σ Q) X.xe s
structure PSA (X : Cx) (body : List Stmt) (st : Stmt) (t : TS) : Prop where
  run : ∀ (pins : List (Addr × Obj)) (s : Shared) (σ : L2.St) (H : Hp) (D : Ends), Inv X pins σ H s → t D σ H → _root_.PySem.wpAt (model X.prog X.w) X.A (.func body X.env) (exec st X.env) (SP X pins D) X.xe s
structure PSsA (X : Cx) (body : List Stmt) (sts : List Stmt) (t : TS) : Prop where
  run : ∀ (pins : List (Addr × Obj)) (s : Shared) (σ : L2.St) (H : Hp) (D : Ends), Inv X pins σ H s → t D σ H → _root_.PySem.wpAt (model X.prog X.w) X.A (.func body X.env) (execs sts X.env) (SP X pins D) X.xe s
section
variable {X : Cx} {body : List Stmt} {st : Stmt} {sts rest : List Stmt} {e : Expr} {t u : TS} {te : TE} {pos : Pos}
theorem pssA_of (h : PSs X sts t) : PSsA X body sts t := ⟨fun pins s σ H D I q => wpAt_of_wpAny (h.run pins s σ H D I q)⟩
theorem psA_of (h : PS X st t) : PSA X body st t := ⟨fun pins s σ H D I q => wpAt_of_wpAny (h.run pins s σ H D I q)⟩
theorem pssA_cons (h1 : PSA X body st t) (h2 : PSsA X body rest u) : PSsA X body (st :: rest) (tSeq t u) := by
  refine ⟨fun pins s σ H D I h => ?_⟩
  refine ks_wpAt_execs_cons (ks_wpAt_mono (h1.run pins s σ H { D with nx := u D } I h) (fun f s1 q => ?_) fun _ _ x => x)
  cases f with
  | next =>
    obtain ⟨σ', H', I', q⟩ := q
    exact h2.run pins s1 σ' H' D I' q
  | ret v => exact q
  | brk => exact q
  | cont => exact q
theorem pssA_one (h1 : PSA X body st t) : PSsA X body [st] t := by
  refine ⟨fun pins s σ H D I h => ?_⟩
  refine ks_wpAt_execs_cons (ks_wpAt_mono (h1.run pins s σ H D I h) (fun f s1 q => ?_) fun _ _ x => x)
  cases f with
  | next =>
    obtain ⟨σ', H', I', q⟩ := q
    exact wpAt_of_wpAny (wpAny_execs_nil ⟨σ', H', I', q⟩)
  | ret v => exact q
  | brk => exact q
  | cont => exact q
theorem psA_expr (he : PEA X body e te) (hs : swapsWith e none pos.line X.env = pure false := by rfl) : PSA X body (.Expr e pos) (tDrop te) := by
  refine ⟨fun pins s σ H D I h => ?_⟩
  refine ks_wpAt_Expr_any (ks_wpAt_mono (he.run pins s σ H _ I h) (fun v s1 ⟨x, H1, I1, r, q⟩ => ?_) fun _ _ x => x) I.quiet hs
  exact ⟨σ, H1, I1, q⟩
theorem psA_ret (he : PEA X body e te) : PSA X body (.Return (some e) pos) (tRet te) := by
  refine ⟨fun pins s σ H D I h => ?_⟩
  refine ks_wpAt_Return_some (ks_wpAt_mono (he.run pins s σ H _ I h) (fun v s1 ⟨x, H1, I1, r, q⟩ => ?_) fun _ _ x => x)
  exact ⟨x, σ, H1, I1, r, q⟩
end

/-! ### super().m(..) -/
/-- what the text must have for super() in the def at f (its class D, cell cc, code cda), an instance of C, and the def f2 that is found -/
structure SupOk (P : Program) (K : PySem.W.Frag) (mg : Str → Option Value) (f cc cda C D : Addr) (m : Str) (f2 : Addr) : Prop where
  fn : ∃ (oc : Value) (od : Option Addr) (fd : FuncData) (osl : Array (Option Value)) (ar : Arg), K.lookup f = some ⟨oc, od, .func fd, osl⟩ ∧ (fd.params.posonlyargs ++ fd.params.args).head? = some ar ∧ ar.arg = "self"
  code : ∃ (c : Value) (d : Option Addr) (vs : Array Value) (sl : Array (Option Value)) (file : Str) (tf : Tok), K.lookup cda = some ⟨c, d, .fields vs, sl⟩ ∧ vs[2]? = some (.str file tf) ∧ ((P.main.file : Str) == file) = true
  cell : ∃ (c : Value) (d : Option Addr) (sl : Array (Option Value)), K.lookup cc = some ⟨c, d, .cell (some (.ref D)), sl⟩
  cls : ∃ cd, PySem.W.clsIn K D = some cd
  clsC : ∃ cd, PySem.W.clsIn K C = some cd
  sub : PySem.W.mroIn K C (.ref D) = some true
  top : (P.main.scope.names.lookup ("super" : Str)).isSome = false
  sup : mg "super" = none
  opq : PySem.W.nsIn K cStatics "thirdparty.any" = some none
  met : PySem.W.ks_superIn K C D m = some (some (.ref f2))
  ty : PySem.W.typeIn K (.ref f2) = some (.type "function")
  fi : PySem.W.fnIn K f2 = true
  nm : (m == ("__class__" : Str)) = false

/-- a def's promise as it is called: at f, by the level k -/
structure CalO (P : Program) (w : World) (K : PySem.W.Frag) (mg : Str → Option Value) (base : Heap) (k : Nat) (f : Addr) (sp : Sp) (dvs : List V) : Prop where
  ex : ∃ (fd : FuncData) (ps : List Str) (ds : List Value), FnOk P w K mg base CX0 k f fd ps sp ∧ Binds K fd ps ds ∧ Vals dvs ds

def tSup (C : Addr) (sp : Sp) (dvs : List V) (t : TA) : TE := fun σ H Q => ∃ x dx fs, σ[0]? = some (some (.ref x)) ∧ H x = some (.ins C dx fs) ∧ t σ H fun vs H1 => sp (.ref x :: (vs ++ dvs)) H1 Q E0

section
variable {X : Cx} {body : List Stmt} {C D f cc cda f2 : Addr} {m : Str} {k : Nat} {sp : Sp} {dvs : List V} {t : TA} {e : Expr} {es args : List Expr} {p0 p1 apos pos : Pos} {pl : Sem Bool}

theorem supBase (S : SupOk X.prog X.K X.mg f cc cda C D m f2) (hN : X.N[0]? = some ("self" : Str)) (hself : X.env.scope.names.lookup ("self" : Str) = some .local)
    (hks : X.env.scope.names.lookup ("super" : Str) = some .globalImplicit) (hkc : X.env.scope.names.lookup ("__class__" : Str) = some .free) (hfu : X.env.func = some f) (hco : X.env.code = .ref cda) (hce : X.env.cells.lookup ("__class__" : Str) = some cc)
    {pins : List (Addr × Obj)} {s : Shared} {σ : L2.St} {H : Hp} {Q : Value → Shared → Prop} {x dx : Addr} {fs : List (Str × V)} {whole : Sem Value} (I : Inv X pins σ H s) (h0 : σ[0]? = some (some (.ref x))) (hx : H x = some (.ins C dx fs))
    (h : ∀ so h', h'.get? so = some (PySem.W.ks_superObj D x C) → (∀ y o, s.heap.get? y = some o → h'.get? y = some o) → Q (.ref so) { s with heap := h' }) :
    _root_.PySem.wpAt (model X.prog X.w) X.A (.func body X.env) (attributeBase (.Call (.Name "super" p0) [] [] p1) m X.env whole) Q X.xe s := by
  obtain ⟨oc, od, fd, osl, ar, hf, hp, har⟩ := S.fn
  obtain ⟨cc1, cd1, vs, sl1, file, tf, hcode, hvs, hfile⟩ := S.code
  obtain ⟨c2, d2, sl2, hcell⟩ := S.cell
  obtain ⟨cdD, hD⟩ := S.cls
  have KX : X.K.In s.heap := I.kIn
  obtain ⟨mA, O, _, _, _, _⟩ := ins_get I.hok hx
  obtain ⟨ml, hns, hl⟩ := I.loc
  obtain ⟨u, ru, lk⟩ := hl 0 ("self" : Str) (.ref x) hN h0 (.inl hself)
  cases (show u = Value.ref x from ru)
  have hm : ml "self" = some (.ref x) := by
    rcases lk with ⟨_, q⟩ | ⟨q, _⟩
    · exact q
    · rcases q with q | q
      · rw [show X.env.kindOf "self" = some .local from hself] at q; cases q
      · rw [show X.env.kindOf "self" = some .local from hself] at q; cases q
  obtain ⟨mb, hb1, hb2⟩ := I.mod.blt
  obtain ⟨hh, g, d, tk, os⟩ := s
  obtain ⟨oD, hD1, hD2⟩ : ∃ oD, hh.get? D = some oD ∧ oD.data = .cls cdD := by
    unfold PySem.W.clsIn at hD
    split at hD
    · rename_i c d cd' sl ho
      cases hD
      exact ⟨_, KX _ _ ho, rfl⟩
    · cases hD
  refine ks_wpAt_super_base (ar := ar) (env := X.env) hks hkc S.nm hfu (KX _ _ hf) rfl hp hco (KX _ _ hcode) rfl hvs hfile S.top ?_
  refine PySem.W.ks_loadName_global I.ok.kind hks ?_
  refine Calls.loadGlobal_builtin (by rw [I.ok.glob]; exact I.mod.glob.keeps I.bk) S.sup (by rw [I.ok.blt]; exact hb1.keeps I.bk) ((hb2 _ (by decide)).trans (by decide +kernel : bootBuiltins "super" = some (.type "super"))) ⟨rfl, ?_⟩
  refine wpAny_loadName_free I.ok.kind hkc hce ⟨_, KX _ _ hcell, rfl⟩ ?_
  rw [har]
  refine wpAny_loadName_local I.ok.kind hself hns hm ?_
  refine ks_wpAny_isType_cls hD1 hD2 ⟨rfl, ?_⟩
  exact ks_wpAny_call_super hD1 hD2 O.obj rfl (fun c e => nomatch e) (PySem.W.looks_mroIn KX S.sub) (fun h' e kp => h _ _ e kp)

theorem supMeth (S : SupOk X.prog X.K X.mg f cc cda C D m f2) {pins : List (Addr × Obj)} {s : Shared} {σ : L2.St} {H : Hp} {Q : Value × List Value → Shared → Prop} {x dx so : Addr} {fs : List (Str × V)} {E : Value → Shared → Prop} {A : Around} (I : Inv X pins σ H s) (hx : H x = some (.ins C dx fs))
    (hso : s.heap.get? so = some (PySem.W.ks_superObj D x C))
    (h : ∀ s', Inv X ((s.heap.objs.size, PySem.W.methodObj (.ref f2) (.ref x)) :: pins) σ H s' → Q (.ref s.heap.objs.size, []) s') : wpAny (model X.prog X.w) A (getMethod (.ref so) m pl) Q E s := by
  obtain ⟨cdC, hC⟩ := S.clsC
  have KX : X.K.In s.heap := I.kIn
  have hm := S.met
  unfold PySem.W.ks_superIn at hm
  rw [hC] at hm
  obtain ⟨of, hof, hofc⟩ : ∃ of, s.heap.get? f2 = some of ∧ of.cls = .type "function" := by
    have ht' : (X.K.lookup f2).map (·.cls) = some (.type "function") := S.ty
    cases z : X.K.lookup f2 with
    | none => rw [z] at ht'; cases ht'
    | some of => rw [z] at ht'; exact ⟨of, KX _ _ z, Option.some.inj ht'⟩
  obtain ⟨mA, O, _, _, _, _⟩ := ins_get I.hok hx
  have hxC : x ≠ C := by
    rintro rfl
    have hC' := hC
    unfold PySem.W.clsIn at hC'
    split at hC'
    · rename_i c d cd' sl ho
      have e := KX _ _ ho
      have e2 := O.obj
      rw [e] at e2
      cases e2
    · cases hC'
  have key := ClX.met_new (g := f2) (C := x) I
  obtain ⟨hh, g, d, tk, os⟩ := s
  refine ks_wpAny_getMethod_super hso (PySem.W.looks_opaque KX S.opq) (l₀ := cdC.mro) ?_ rfl KX hm hof hofc hxC S.nm ?_
  · exact fun A Q E s k q => wpAny_bind ((PySem.W.looks_clsIn KX hC) A _ E s k (wpAny_pure q))
  · exact h _ key

theorem run_met {q x : Addr} {pins : List (Addr × Obj)} {σ : L2.St} {H : Hp} {s : Shared} {Q : VK} {us : List Value} {vs : List V} (F : CalO X.prog X.w X.K X.mg X.base k f2 sp dvs) (hr : Room k X.A) (I : Inv X ((q, PySem.W.methodObj (.ref f2) (.ref x)) :: pins) σ H s)
    (r : Vals vs us) (h : sp (.ref x :: (vs ++ dvs)) H Q E0) : wpAny (model X.prog X.w) X.A (call (.ref q) us) (EP X pins σ Q) X.xe s := by
  obtain ⟨fd, ps, ds, F, hb, hd⟩ := F.ex
  have r2 : Vals (.ref x :: (vs ++ dvs)) (Value.ref x :: (us ++ ds)) := .cons rfl (r.append hd)
  have hl : (Value.ref x :: (us ++ ds)).length = ps.length := by rw [← r2.length]; exact F.len _ _ _ _ h
  have z : wpAny (model X.prog X.w) X.A (call (.ref q) us) (EP X ((q, PySem.W.methodObj (.ref f2) (.ref x)) :: pins) σ Q) X.xe s := by
    refine wpAny_call (PySem.W.method_call (ClX.pin_at I) (codeAny_mono (F.run X.A X.stack s H ⟨.ref x :: us, []⟩ (Value.ref x :: (us ++ ds)) (.ref x :: (vs ++ dvs)) Q E0 hr I.env0 (hb s (.ref x :: us) I.kIn hl) r2 h) fun r s' hq => ?_))
    cases r with
    | error e => exact False.elim hq
    | ok fl =>
      cases fl with
      | ret u => exact I.after hq
      | next => exact False.elim hq
      | brk => exact False.elim hq
      | cont => exact False.elim hq
  exact thn z fun _ _ y => ClX.unpinE y

/-- super().m(e, ..) -/
theorem peA_super (S : SupOk X.prog X.K X.mg f cc cda C D m f2) (F : CalO X.prog X.w X.K X.mg X.base k f2 sp dvs) (hr : Room k X.A) (ha : PA X (e :: es) t)
    (hN : X.N[0]? = some ("self" : Str) := by rfl) (hself : X.env.scope.names.lookup ("self" : Str) = some .local := by rfl)
    (hks : X.env.scope.names.lookup ("super" : Str) = some .globalImplicit := by rfl) (hkc : X.env.scope.names.lookup ("__class__" : Str) = some .free := by rfl) (hfu : X.env.func = some f := by rfl) (hco : X.env.code = .ref cda := by rfl) (hce : X.env.cells.lookup ("__class__" : Str) = some cc := by rfl)
    (hst : starEach (e :: es) X.env = (false, eval e X.env) :: starEach es X.env := by rfl) (hpl : (backTo pos (starEach es X.env)).any (·.1) = false := by rfl)
    (ht : eval (.Call (.Attribute (.Call (.Name "super" p0) [] [] p1) m apos) (e :: es) [] pos) X.env = (do
      let ov ← attributeBase (.Call (.Name "super" p0) [] [] p1) m X.env (eval (.Call (.Name "super" p0) [] [] p1) X.env)
      standAt apos.atName
      let (f, first) ← holding [ov] (getMethod ov m pl)
      callWith pos f first (backTo pos (starEach (e :: es) X.env)) []) := by rfl) :
    PEA X body (.Call (.Attribute (.Call (.Name "super" p0) [] [] p1) m apos) (e :: es) [] pos) (tSup C sp dvs t) := by
  refine ⟨fun pins s σ H Q I h => ?_⟩
  obtain ⟨x, dx, fs, h0, hx, q⟩ := h
  refine ks_wpAt_MethodCall (pl := pl) ?_ ht
  refine supBase S hN hself hks hkc hfu hco hce I h0 hx fun so h' hso kp => ?_
  have I1 : Inv X pins σ H { s with heap := h' } := I.kept (t' := s.toks) kp
  refine supMeth S I1 hx hso fun s2 I2 => ?_
  refine ClX.callwith_cm I2 (ClX.base_none I1 (Nat.le_refl _)) S.fi (thn (ha.run pos _ s2 σ H _ I2 q) fun us s3 ⟨vs, H2, I3, rv, q2⟩ => ⟨⟨ClX.pin_at I3, I3.kIn⟩, ?_⟩) hst hpl
  exact run_met F hr I3 rv q2
/-- super().m() -/
theorem peA_super0 (S : SupOk X.prog X.K X.mg f cc cda C D m f2) (F : CalO X.prog X.w X.K X.mg X.base k f2 sp dvs) (hr : Room k X.A)
    (hN : X.N[0]? = some ("self" : Str) := by rfl) (hself : X.env.scope.names.lookup ("self" : Str) = some .local := by rfl)
    (hks : X.env.scope.names.lookup ("super" : Str) = some .globalImplicit := by rfl) (hkc : X.env.scope.names.lookup ("__class__" : Str) = some .free := by rfl) (hfu : X.env.func = some f := by rfl) (hco : X.env.code = .ref cda := by rfl) (hce : X.env.cells.lookup ("__class__" : Str) = some cc := by rfl)
    (ht : eval (.Call (.Attribute (.Call (.Name "super" p0) [] [] p1) m apos) [] [] pos) X.env = (do
      let ov ← attributeBase (.Call (.Name "super" p0) [] [] p1) m X.env (eval (.Call (.Name "super" p0) [] [] p1) X.env)
      standAt apos.atName
      let (f, first) ← holding [ov] (getMethod ov m pl)
      callWith pos f first (backTo pos (starEach [] X.env)) []) := by rfl) :
    PEA X body (.Call (.Attribute (.Call (.Name "super" p0) [] [] p1) m apos) [] [] pos) (tSup C sp dvs tNil) := by
  refine ⟨fun pins s σ H Q I h => ?_⟩
  obtain ⟨x, dx, fs, h0, hx, q⟩ := h
  refine ks_wpAt_MethodCall (pl := pl) ?_ ht
  refine supBase S hN hself hks hkc hfu hco hce I h0 hx fun so h' hso kp => ?_
  have I1 : Inv X pins σ H { s with heap := h' } := I.kept (t' := s.toks) kp
  refine supMeth S I1 hx hso fun s2 I2 => ?_
  refine PySem.W.callWith_M0 (first := []) ⟨ClX.pin_at I2, I2.kIn⟩ S.fi ?_
  exact run_met (vs := []) (us := []) F hr I2 .nil q
end
end Ax

namespace Ev
open PySem L2 Ax
def top (i : Nat) : Stmt := PySem.Challenge.pw_evenbend_k21_whole_bad_points.main.body.getD i (.Pass ⟨0, 0, 0, 0⟩)

abbrev s_demands_within : Stmt := (top 2)
theorem sc_demands_within : FnScope ["one", "other", "limits", "least", "greatest", "tightest"] ["one", "other", "limits"] (defScope s_demands_within) := ⟨rfl, rfl, rfl, by decide +kernel, rfl, by decide +kernel, by decide +kernel⟩
abbrev s_hall_demands : Stmt := (top 3)
theorem sc_hall_demands : FnScope ["hall", "tightest", "place", "part", "places", "other"] ["hall"] (defScope s_hall_demands) := ⟨rfl, rfl, rfl, by decide +kernel, rfl, by decide +kernel, by decide +kernel⟩
abbrev s_is_ring : Stmt := (top 4)
theorem sc_is_ring : FnScope ["demands", "before", "demand"] ["demands"] (defScope s_is_ring) := ⟨rfl, rfl, rfl, by decide +kernel, rfl, by decide +kernel, by decide +kernel⟩
abbrev s_all_asked : Stmt := (top 5)
theorem sc_all_asked : FnScope ["demands", "tightest", "asked", "one", "other", "gap"] ["demands", "tightest"] (defScope s_all_asked) := ⟨rfl, rfl, rfl, by decide +kernel, rfl, by decide +kernel, by decide +kernel⟩
abbrev s_is_number : Stmt := (top 7)
theorem sc_is_number : FnScope ["value"] ["value"] (defScope s_is_number) := ⟨rfl, rfl, rfl, by decide +kernel, rfl, by decide +kernel, by decide +kernel⟩
abbrev s_is_number_from : Stmt := (top 8)
theorem sc_is_number_from : FnScope ["value", "low", "high"] ["value", "low", "high"] (defScope s_is_number_from) := ⟨rfl, rfl, rfl, by decide +kernel, rfl, by decide +kernel, by decide +kernel⟩
abbrev s_Least_init : Stmt := (inClass (top 11) 0)
theorem sc_Least_init : FnScope ["self", "lowest", "highest", "total"] ["self", "lowest", "highest", "total"] (defScope s_Least_init) := ⟨rfl, rfl, rfl, by decide +kernel, rfl, by decide +kernel, by decide +kernel⟩
abbrev s_Nowhere_init : Stmt := (inClass (top 12) 0)
theorem sc_Nowhere_init : FnScope ["self", "demands"] ["self", "demands"] (defScope s_Nowhere_init) := ⟨rfl, rfl, rfl, by decide +kernel, rfl, by decide +kernel, by decide +kernel⟩
abbrev s_Nowhere_shows : Stmt := (inClass (top 12) 1)
theorem sc_Nowhere_shows : FnScope ["self", "hall", "demand"] ["self", "hall"] (defScope s_Nowhere_shows) := ⟨rfl, rfl, rfl, by decide +kernel, rfl, by decide +kernel, by decide +kernel⟩
abbrev s_Crooked_init : Stmt := (inClass (top 17) 0)
theorem sc_Crooked_init : NdefX.NScope ["self", "one", "other", "__class__"] ["self", "one", "other"] ["__class__"] (defScope s_Crooked_init) := NdefX.nscope_by (by decide +kernel)
abbrev s_points_below : Stmt := (top 22)
theorem sc_points_below : FnScope ["sizes", "points", "size", "point", "number"] ["sizes"] (defScope s_points_below) := ⟨rfl, rfl, rfl, by decide +kernel, rfl, by decide +kernel, by decide +kernel⟩
abbrev s_check_sizes : Stmt := (top 23)
theorem sc_check_sizes : FnScope ["sizes", "size"] ["sizes"] (defScope s_check_sizes) := ⟨rfl, rfl, rfl, by decide +kernel, rfl, by decide +kernel, by decide +kernel⟩
abbrev s_check_worths : Stmt := (top 24)
theorem sc_check_worths : FnScope ["worths", "many", "worth"] ["worths", "many"] (defScope s_check_worths) := ⟨rfl, rfl, rfl, by decide +kernel, rfl, by decide +kernel, by decide +kernel⟩
abbrev s_halves : Stmt := (top 25)
theorem sc_halves : FnScope ["one", "other", "sums", "here", "there", "total"] ["one", "other"] (defScope s_halves) := ⟨rfl, rfl, rfl, by decide +kernel, rfl, by decide +kernel, by decide +kernel⟩
abbrev s_check_bends : Stmt := (top 26)
theorem sc_check_bends : FnScope ["table", "points", "at", "one", "other", "up", "down"] ["table"] (defScope s_check_bends) := ⟨rfl, rfl, rfl, by decide +kernel, rfl, by decide +kernel, by decide +kernel⟩
abbrev s_Chart_init : Stmt := (inClass (top 27) 0)
theorem sc_Chart_init : FnScope ["self", "sizes", "worths", "points", "point", "worth"] ["self", "sizes", "worths"] (defScope s_Chart_init) := ⟨rfl, rfl, rfl, by decide +kernel, rfl, by decide +kernel, by decide +kernel⟩
abbrev s_Chart_worth : Stmt := (inClass (top 27) 1)
theorem sc_Chart_worth : FnScope ["self", "point", "worth"] ["self", "point"] (defScope s_Chart_worth) := ⟨rfl, rfl, rfl, by decide +kernel, rfl, by decide +kernel, by decide +kernel⟩
abbrev s_Chart_least : Stmt := (inClass (top 27) 2)
theorem sc_Chart_least : FnScope ["self", "total", "points", "lowest", "highest", "point", "worth", "numbers"] ["self"] (defScope s_Chart_least) := ⟨rfl, rfl, rfl, by decide +kernel, rfl, by decide +kernel, by decide +kernel⟩
abbrev s_law_cell_at : Stmt := (top 29)
theorem sc_law_cell_at : FnScope ["_law_script", "_law_k"] ["_law_script", "_law_k"] (defScope s_law_cell_at) := ⟨rfl, rfl, rfl, by decide +kernel, rfl, by decide +kernel, by decide +kernel⟩
abbrev s_law_points : Stmt := (top 30)
theorem sc_law_points : FnScope ["_law_sizes", "_law_found", "_law_size", "_law_longer", "_law_point", "_law_number"] ["_law_sizes"] (defScope s_law_points) := ⟨rfl, rfl, rfl, by decide +kernel, rfl, by decide +kernel, by decide +kernel⟩
abbrev s_law_bad : Stmt := (top 31)
theorem sc_law_bad : FnScope ["_law_cell", "_law_size"] ["_law_cell", "_law_size"] (defScope s_law_bad) := ⟨rfl, rfl, rfl, by decide +kernel, rfl, by decide +kernel, by decide +kernel⟩
abbrev s_law_spoilt : Stmt := (top 32)
theorem sc_law_spoilt : FnScope ["_law_some", "_law_bounds", "_law_one", "_law_two", "_law_at", "_law_kind"] ["_law_some", "_law_bounds", "_law_one", "_law_two"] (defScope s_law_spoilt) := ⟨rfl, rfl, rfl, by decide +kernel, rfl, by decide +kernel, by decide +kernel⟩
abbrev s_law_sort : Stmt := (top 33)
theorem sc_law_sort : FnScope ["_law_door", "_law_chart", "_law_sizes", "_law_worths"] ["_law_door", "_law_chart", "_law_sizes", "_law_worths"] (defScope s_law_sort) := ⟨rfl, rfl, rfl, by decide +kernel, rfl, by decide +kernel, by decide +kernel⟩
abbrev s_law_bad_sizes : Stmt := (top 34)
theorem sc_law_bad_sizes : FnScope ["_law_sizes", "_law_cell", "_law_at", "_law_bad_here"] ["_law_sizes", "_law_cell"] (defScope s_law_bad_sizes) := ⟨rfl, rfl, rfl, by decide +kernel, rfl, by decide +kernel, by decide +kernel⟩
abbrev s_law_copies : Stmt := (top 35)
theorem sc_law_copies : FnScope ["_law_script", "_law_one", "_law_other", "_law_told", "_law_demands", "_law_ring"] ["_law_script"] (defScope s_law_copies) := ⟨rfl, rfl, rfl, by decide +kernel, rfl, by decide +kernel, by decide +kernel⟩
abbrev s_law : Stmt := (top 36)
theorem sc_law : FnScope ["_law_script", "_law_many", "_law_sizes", "_law_slopes", "_law_points_here", "_law_worths", "_law_chart", "_law_point", "_law_k", "_law_bad_here", "_law_as_it_was", "_law_cell", "_law_some"] ["_law_script"] (defScope s_law) := ⟨rfl, rfl, rfl, by decide +kernel, rfl, by decide +kernel, by decide +kernel⟩
/-- the module's names -/
structure Txt (K : PySem.W.Frag) (mg : Str → Option Value) (C : Str → Addr) : Prop where
  b_all : mg "all" = none
  b_bool : mg "bool" = none
  b_enumerate : mg "enumerate" = none
  b_int : mg "int" = none
  b_isinstance : mg "isinstance" = none
  b_len : mg "len" = none
  b_list : mg "list" = none
  b_max : mg "max" = none
  b_min : mg "min" = none
  b_range : mg "range" = none
  b_repr : mg "repr" = none
  b_sum : mg "sum" = none
  b_tuple : mg "tuple" = none
  b_zip : mg "zip" = none
  g_GROUND : ∃ u, mg "GROUND" = some u ∧ RelV (.int (-1)) u
  g_MOST_SIZES : ∃ u, mg "MOST_SIZES" = some u ∧ RelV (.int (3)) u
  g_GREATEST_SIZE : ∃ u, mg "GREATEST_SIZE" = some u ∧ RelV (.int (4)) u
  g_WORTH : ∃ u, mg "WORTH" = some u ∧ RelV (.int (10 ^ 30)) u
  g_Answer : ∃ u, mg "Answer" = some u ∧ RelV (.ref (C "Answer")) u
  g_Least : ∃ u, mg "Least" = some u ∧ RelV (.ref (C "Least")) u
  g_Nowhere : ∃ u, mg "Nowhere" = some u ∧ RelV (.ref (C "Nowhere")) u
  g_Chart : ∃ u, mg "Chart" = some u ∧ RelV (.ref (C "Chart")) u
end Ev

namespace Ax
open PySem PySem.Spec PyProof.Rows L2

/-- a def with super(): it closes over __class__ -/
structure FunS (K : PySem.W.Frag) (x qual : Str) (st : Stmt) (f cc cda D : Addr) (fd : FuncData) : Prop where
  ex : ∃ (oc : Value) (od : Option Addr) (dV kV doc pm : Value) (an : Option Addr) (ct : Value) (osl : Array (Option Value)),
    fd = PySem.W.ksFn x qual (C8.fnArgs st) (C8.fnBody st) (C8.fnScope st) dV kV doc pm an (.ref cda) ct cc ∧ K.lookup f = some ⟨oc, od, .func fd, osl⟩ ∧ PySem.W.codeIn K (.ref cda) qual = true
  cell : ∃ (c : Value) (d : Option Addr) (sl : Array (Option Value)), K.lookup cc = some ⟨c, d, .cell (some (.ref D)), sl⟩
def nfS (st : Stmt) (x qual : Str) (cc cda : Addr) : NdefX.NF := ⟨x, qual, C8.fnArgs st, C8.fnBody st, C8.fnScope st, [("__class__", cc)], cda⟩
section
variable {P : Program} {w : World} {K : PySem.W.Frag} {mg : Str → Option Value} {base : Heap}
theorem FunS.ok {x qual : Str} {st : Stmt} {f cc cda D : Addr} {fd : FuncData} {N ps : List Str} {k : Nat} {sp : Sp} (F : FunS K x qual st f cc cda D fd) (S : NdefX.NScope N ps ["__class__"] (C8.fnScope st)) (len : ∀ vs H Q E, sp vs H Q E → vs.length = ps.length)
    (hbody : ∀ (A : Around) (outer : List Env) (s : Shared) (H : Hp) (vs : List V) (Q : VK) (E : XK), Room k (A.deeper (NdefX.envF (nfS st x qual cc cda) f s.heap.objs.size)) → sp vs H Q E →
      ∃ t, PSsA (NdefX.ncx C8.CX0 P w K mg base N (nfS st x qual cc cda) f A outer s H E).nox (C8.fnBody st) (C8.fnBody st) t ∧ t { nx := fun _ H' => Q .non H', rt := Q } (NdefX.startF N vs [none]) H) : FnOk P w K mg base C8.CX0 (k + 1) f fd ps sp := by
  obtain ⟨oc, od, dV, kV, doc, pm, an, ct, osl, rfl, lk, hcd⟩ := F.ex
  obtain ⟨c1, d1, sl1, hcc⟩ := F.cell
  refine ⟨len, fun A outer s H args us vs Q E hr e0 hb r hsp => ?_⟩
  have hl := len _ _ _ _ hsp
  have KX : K.In s.heap := e0.mod.kin.keeps fun b o e => (e0.bs b o e).1
  have lim : s.heap.NoLimit := e0.mod.nolimit.keeps fun b o e => (e0.bs b o e).1
  have hcell : H cc = none := (e0.bs _ _ (e0.mod.kin _ _ hcc)).2
  have C : NdefX.CellsAt [(("__class__" : Str), cc)] ["__class__"] [none] s.heap H := by
    have key : ∀ y c, List.lookup y [(("__class__" : Str), cc)] = some c → y = "__class__" ∧ c = cc := fun y c e => by
      rw [List.lookup_cons] at e
      by_cases h : y = ("__class__" : Str)
      · rw [beq_iff_eq.mpr h] at e
        exact ⟨h, (Option.some.inj e).symm⟩
      · rw [beq_eq_false_iff_ne.mpr h] at e
        cases e
    refine ⟨rfl, fun y c e => ?_, fun y z c e1 e2 => ?_, fun i y e => ?_⟩
    · obtain ⟨_, rfl⟩ := key y c e
      exact ⟨hcell, _, _, KX _ _ hcc, rfl⟩
    · exact (key y c e1).1.trans (key z c e2).1.symm
    · have hi : y = "__class__" := by
        have := List.mem_of_getElem? e
        simpa using this
      subst hi
      refine ⟨cc, by rw [List.lookup_cons, beq_self_eq_true], fun v hv => ?_⟩
      exfalso
      cases i with
      | zero => simp at hv
      | succ i => simp at hv
  refine ks_codeAny_call_defAt (fd := PySem.W.ksFn x qual (C8.fnArgs st) (C8.fnBody st) (C8.fnScope st) dV kV doc pm an (.ref cda) ct cc) (body := C8.fnBody st) (binds := ps.zip us) hr.depth (KX _ _ lk) rfl lim (PySem.W.codeRec_of KX hcd) rfl hb S.nocell
    (fun ⟨n, v⟩ hy => S.par n (List.of_mem_zip hy).1) (fun h₁ hns kp => ?_) S.co S.gen S.kind
  obtain ⟨t, ht, hq⟩ := hbody A outer s H vs Q E (hr.deeper _) hsp
  have I : Inv (NdefX.ncx C8.CX0 P w K mg base N (nfS st x qual cc cda) f A outer s H E).nox [] (NdefX.startF N vs [none]) H { s with heap := h₁, toks := s.toks + (ps.zip us).length } :=
    (NdefX.inv_startN (F := nfS st x qual cc cda) S hr.hd e0 hl r C hns kp).wish _
  refine ks_wpAt_mono (ht.run [] _ (NdefX.startF N vs [none]) H _ I hq) (fun fl s' hs => ?_) fun e s' hs => hs.elim
  have fin : ∀ {σ' : L2.St} {H' : Hp} {v : V} {u : Value}, Inv (NdefX.ncx C8.CX0 P w K mg base N (nfS st x qual cc cda) f A outer s H E).nox [] σ' H' s' → L2.RelV v u → Q v H' → CE outer P w H s Q u s' :=
    fun {σ' H' v u} J rv q => ⟨v, H', J.os, J.bare, J.base, J.hok, rv, q⟩
  cases fl with
  | ret u =>
    obtain ⟨v, σ', H', J, rv, q⟩ := hs
    exact fin J rv q
  | next =>
    obtain ⟨σ', H', J, q⟩ := hs
    exact fin (v := V.non) (u := Value.none) J rfl q
  | brk =>
    obtain ⟨_, _, _, q⟩ := hs
    exact False.elim q
  | cont =>
    obtain ⟨_, _, _, q⟩ := hs
    exact False.elim q
end
end Ax

namespace Ax
open PySem PySem.Spec PyProof.Rows L2
/-- a class that may be made by its name with n values and the keywords ks -/
structure MakKw (P : Program) (w : World) (K : PySem.W.Frag) (mg : Str → Option Value) (base : Heap) (k n : Nat) (x : Str) (C : Addr) (ks : List Str) (sp : Sp) (gV : List V → List V → List V) : Prop where
  ex : ∃ (f : Addr) (fd : FuncData) (ps : List Str) (g : List Value → List Value → List Value), Mk K C f ∧ FnOk P w K mg base C8.CX0 k f fd ps sp ∧ mg x = some (.ref C) ∧ KBn K fd ps (n + 1) ks g gV
section
variable {X : Cx} {k j n : Nat} {C : Addr} {x : Str} {ks : List Str} {sp : Sp} {gV : List V → List V → List V} {p pos : Pos} {e : Expr} {es : List Expr} {kws : List Keyword} {t tk : TA}
theorem pe_mkw (c : MakKw X.prog X.w X.K X.mg X.base k n x C ks sp gV) (hr : Room j X.A) (hk : k + 1 ≤ j) (hg : Gl X x)
    (ha : PA X (e :: es) t) (hkw : PK X kws tk) (hall : (backToKw pos (keywordEach kws X.env)).all (·.1.isSome) = true := by rfl) (hks : (backToKw pos (keywordEach kws X.env)).filterMap (·.1) = ks := by rfl)
    (hdb : (x == ("__debug__" : Str)) = false := by decide) (he : starEach (e :: es) X.env = (false, eval e X.env) :: starEach es X.env := by rfl)
    (hpl : ((backTo pos (starEach (e :: es) X.env)).any (·.1) || (backToKw pos (keywordEach kws X.env)).any (·.1.isNone)) = false := by rfl) :
    PE X (.Call (.Name x p) (e :: es) kws pos) (tMakeN C n ks.length sp gV C8.E0 t tk) := by
  obtain ⟨f, fd, ps, g, M, F, hm, b⟩ := c.ex
  exact pe_makeN M F (hr.mono hk) hg hm b C8.pass0 ha hkw hall hks hdb he hpl
end
end Ax

/-! the parts as data -/
namespace Ev
open PySem L2 Ax

def absI (i : Int) : Int := if i < 0 then -i else i
inductive PD where
  | slope (p w : Int) | aim (p a w : Int) | square (p a w : Int) | row (p f : Int) (ws : List Int) | wall (p lo hi : Int)
  | near (o t a w : Int) | gaps (o t f : Int) (ws : List Int) | ahead (o t g : Int)
  | times (q : PD) (m : Int) | moved (q : PD) (b : Int)
def rowAt (f : Int) (ws : List Int) (x : Int) : Option Int := if 0 ≤ x - f then ws[(x - f).toNat]? else none
def PD.worth : PD → Int → Option Int
  | .slope _ w, x => some (w * x)
  | .aim _ a w, x => some (w * absI (x - a))
  | .square _ a w, x => some (w * (x - a) * (x - a))
  | .row _ f ws, x => rowAt f ws x
  | .wall _ lo hi, x => if lo ≤ x ∧ x ≤ hi then some 0 else none
  | .near _ _ a w, x => some (w * absI (x - a))
  | .gaps _ _ f ws, x => rowAt f ws x
  | .ahead _ _ g, x => if x ≤ g then some 0 else none
  | .times q m, x => (q.worth x).map fun y => m * y
  | .moved q b, x => q.worth (x - b)
def PD.limits : PD → Option Int × Option Int
  | .row _ f ws => (some f, some (f + (ws.length : Int) - 1))
  | .wall _ lo hi => (some lo, some hi)
  | .gaps _ _ f ws => (some f, some (f + (ws.length : Int) - 1))
  | .ahead _ _ g => (none, some g)
  | .times q _ => q.limits
  | .moved q b => (q.limits.1.map fun y => y + b, q.limits.2.map fun y => y + b)
  | _ => (none, none)
def PD.stands : PD → List Int
  | .slope p _ => [p]
  | .aim p _ _ => [p]
  | .square p _ _ => [p]
  | .row p _ _ => [p]
  | .wall p _ _ => [p]
  | .near o t _ _ => [o, t]
  | .gaps o t _ _ => [o, t]
  | .ahead o t _ => [o, t]
  | .times q _ => q.stands
  | .moved q _ => q.stands
def PD.wraps : PD → Nat
  | .times q _ => q.wraps + 1
  | .moved q _ => q.wraps + 1
  | _ => 0
def PD.cls : PD → Str
  | .slope .. => "Slope" | .aim .. => "Aim" | .square .. => "Square" | .row .. => "Row" | .wall .. => "Wall"
  | .near .. => "Near" | .gaps .. => "Gaps" | .ahead .. => "Ahead" | .times .. => "Times" | .moved .. => "Moved"
def clss : List Str := ["Slope", "Aim", "Square", "Row", "Wall", "Near", "Gaps", "Ahead", "Times", "Moved"]
def flds : List Str := ["place", "weight", "aim", "first", "worths", "low", "high", "other", "one", "gap", "part", "many", "by", "wraps"]
theorem PD.cls_mem (pd : PD) : pd.cls ∈ clss := by
  cases pd <;> (unfold PD.cls clss; simp)
def Plc (p : Int) : Prop := 0 ≤ p ∧ p ≤ 7
def Rch (p : Int) : Prop := -100 ≤ p ∧ p ≤ 100
def Even (ws : List Int) : Prop := ∀ i : Nat, i + 2 < ws.length → 2 * ws.getD (i + 1) 0 ≤ ws.getD i 0 + ws.getD (i + 2) 0
structure RowOk (f : Int) (ws : List Int) : Prop where
  f : Rch f
  l1 : 1 ≤ ws.length
  l2 : ws.length ≤ 40
  wb : ∀ x ∈ ws, -1000000 ≤ x ∧ x ≤ 1000000
  ev : Even ws
def PD.ok : PD → Prop
  | .slope p w => Plc p ∧ -1000 ≤ w ∧ w ≤ 1000
  | .aim p a w => Plc p ∧ Rch a ∧ 0 ≤ w ∧ w ≤ 1000
  | .square p a w => Plc p ∧ Rch a ∧ 0 ≤ w ∧ w ≤ 1000
  | .row p f ws => Plc p ∧ RowOk f ws
  | .wall p lo hi => Plc p ∧ Rch lo ∧ Rch hi ∧ lo ≤ hi
  | .near o t a w => Plc o ∧ Plc t ∧ o ≠ t ∧ Rch a ∧ 0 ≤ w ∧ w ≤ 1000
  | .gaps o t f ws => Plc o ∧ Plc t ∧ o ≠ t ∧ RowOk f ws
  | .ahead o t g => Plc o ∧ Plc t ∧ o ≠ t ∧ Rch g
  | .times q m => q.ok ∧ q.wraps < 8 ∧ 1 ≤ m ∧ m ≤ 100
  | .moved q b => q.ok ∧ q.wraps < 8 ∧ Rch b
def Rd (n : Nat) (x : Int) : Prop := -(2 ^ 60 - 100 * (n : Int)) ≤ x ∧ x ≤ 2 ^ 60 - 100 * (n : Int)

def vO : Option Int → V
  | none => .non
  | some i => .int i

/-! how a part stands in the heap -/
abbrev Flds := List (Str × V)
abbrev lk (fs : Flds) (f : Str) : Option V := fs.lookup f
def fSlope (p w : Int) : Flds := [("place", .int p), ("weight", .int w)]
def fAim (p a w : Int) : Flds := [("place", .int p), ("aim", .int a), ("weight", .int w)]
def fRow (p f : Int) (t : Addr) : Flds := [("place", .int p), ("first", .int f), ("worths", .ref t)]
def fWall (p lo hi : Int) : Flds := [("place", .int p), ("low", .int lo), ("high", .int hi)]
def fNear (o t a w : Int) : Flds := [("place", .int o), ("aim", .int a), ("weight", .int w), ("other", .int t)]
def fGaps (o u f : Int) (t : Addr) : Flds := [("place", .int o), ("first", .int f), ("worths", .ref t), ("other", .int u)]
def fAhead (o t g : Int) : Flds := [("one", .int o), ("other", .int t), ("gap", .int g)]
def fTimes (r : Addr) (m n : Int) : Flds := [("part", .ref r), ("many", .int m), ("wraps", .int n)]
def fMoved (r : Addr) (b n : Int) : Flds := [("part", .ref r), ("by", .int b), ("wraps", .int n)]

def PartAt (C : Str → Addr) (H : Hp) : PD → Addr → Prop
  | .slope p w, a => ∃ dx, H a = some (.ins (C "Slope") dx (fSlope p w))
  | .aim p b w, a => ∃ dx, H a = some (.ins (C "Aim") dx (fAim p b w))
  | .square p b w, a => ∃ dx, H a = some (.ins (C "Square") dx (fAim p b w))
  | .row p f ws, a => ∃ dx t, H a = some (.ins (C "Row") dx (fRow p f t)) ∧ H t = some (.tup (ws.map V.int))
  | .wall p lo hi, a => ∃ dx, H a = some (.ins (C "Wall") dx (fWall p lo hi))
  | .near o t b w, a => ∃ dx, H a = some (.ins (C "Near") dx (fNear o t b w))
  | .gaps o u f ws, a => ∃ dx t, H a = some (.ins (C "Gaps") dx (fGaps o u f t)) ∧ H t = some (.tup (ws.map V.int))
  | .ahead o t g, a => ∃ dx, H a = some (.ins (C "Ahead") dx (fAhead o t g))
  | .times q m, a => ∃ dx r, H a = some (.ins (C "Times") dx (fTimes r m ((q.wraps + 1 : Nat) : Int))) ∧ PartAt C H q r
  | .moved q b, a => ∃ dx r, H a = some (.ins (C "Moved") dx (fMoved r b ((q.wraps + 1 : Nat) : Int))) ∧ PartAt C H q r
theorem PartAt.same {C : Str → Addr} {H H' : Hp} (s : Same H H') : ∀ {pd : PD} {a : Addr}, PartAt C H pd a → PartAt C H' pd a
  | .slope .., _, ⟨dx, h⟩ => ⟨dx, s _ _ h⟩
  | .aim .., _, ⟨dx, h⟩ => ⟨dx, s _ _ h⟩
  | .square .., _, ⟨dx, h⟩ => ⟨dx, s _ _ h⟩
  | .row .., _, ⟨dx, t, h, h2⟩ => ⟨dx, t, s _ _ h, s _ _ h2⟩
  | .wall .., _, ⟨dx, h⟩ => ⟨dx, s _ _ h⟩
  | .near .., _, ⟨dx, h⟩ => ⟨dx, s _ _ h⟩
  | .gaps .., _, ⟨dx, t, h, h2⟩ => ⟨dx, t, s _ _ h, s _ _ h2⟩
  | .ahead .., _, ⟨dx, h⟩ => ⟨dx, s _ _ h⟩
  | .times .., _, ⟨dx, r, h, h2⟩ => ⟨dx, r, s _ _ h, PartAt.same s h2⟩
  | .moved .., _, ⟨dx, r, h, h2⟩ => ⟨dx, r, s _ _ h, PartAt.same s h2⟩
/-- an attribute that no part has -/
def noF (m : Str) : Prop := ∀ f ∈ flds, (m == f) = false
theorem lookup_no {m : Str} (n : noF m) : ∀ {fs : Flds}, (∀ p ∈ fs, p.1 ∈ flds) → fs.lookup m = none
  | [], _ => rfl
  | (f, v) :: r, h => by
    rw [List.lookup_cons, n f (h _ List.mem_cons_self)]
    exact lookup_no n fun p hp => h p (List.mem_cons_of_mem _ hp)
theorem noF_of {m : Str} (h : flds.all (fun f => !(m == f)) = true) : noF m := fun f hf => by
  have := List.all_eq_true.mp h f hf
  simpa using this
theorem no_stands : noF "stands" := noF_of (by decide +kernel)
theorem no_worth : noF "worth_of" := noF_of (by decide +kernel)
theorem no_limits : noF "limits" := noF_of (by decide +kernel)
theorem PartAt.ins {C : Str → Addr} {H : Hp} : ∀ {pd : PD} {a : Addr}, PartAt C H pd a → ∃ dx fs, H a = some (.ins (C pd.cls) dx fs) ∧ ∀ p ∈ fs, p.1 ∈ flds
  | .slope .., _, ⟨dx, h⟩ => ⟨dx, _, h, by intro p hp; simp [fSlope] at hp; rcases hp with rfl | rfl <;> simp [flds]⟩
  | .aim .., _, ⟨dx, h⟩ => ⟨dx, _, h, by intro p hp; simp [fAim] at hp; rcases hp with rfl | rfl | rfl <;> simp [flds]⟩
  | .square .., _, ⟨dx, h⟩ => ⟨dx, _, h, by intro p hp; simp [fAim] at hp; rcases hp with rfl | rfl | rfl <;> simp [flds]⟩
  | .row .., _, ⟨dx, t, h, h2⟩ => ⟨dx, _, h, by intro p hp; simp [fRow] at hp; rcases hp with rfl | rfl | rfl <;> simp [flds]⟩
  | .wall .., _, ⟨dx, h⟩ => ⟨dx, _, h, by intro p hp; simp [fWall] at hp; rcases hp with rfl | rfl | rfl <;> simp [flds]⟩
  | .near .., _, ⟨dx, h⟩ => ⟨dx, _, h, by intro p hp; simp [fNear] at hp; rcases hp with rfl | rfl | rfl | rfl <;> simp [flds]⟩
  | .gaps .., _, ⟨dx, t, h, h2⟩ => ⟨dx, _, h, by intro p hp; simp [fGaps] at hp; rcases hp with rfl | rfl | rfl | rfl <;> simp [flds]⟩
  | .ahead .., _, ⟨dx, h⟩ => ⟨dx, _, h, by intro p hp; simp [fAhead] at hp; rcases hp with rfl | rfl | rfl <;> simp [flds]⟩
  | .times .., _, ⟨dx, r, h, h2⟩ => ⟨dx, _, h, by intro p hp; simp [fTimes] at hp; rcases hp with rfl | rfl | rfl <;> simp [flds]⟩
  | .moved .., _, ⟨dx, r, h, h2⟩ => ⟨dx, _, h, by intro p hp; simp [fMoved] at hp; rcases hp with rfl | rfl | rfl <;> simp [flds]⟩

/-- a list that changes is no object of a part -/
theorem PartAt.updL {C : Str → Addr} {H : Hp} {l : Addr} {xs : List V} {u : HO} (hl : H l = some (.lst xs)) : ∀ {pd : PD} {a : Addr}, PartAt C H pd a → PartAt C (upd H l u) pd a := by
  have key : ∀ {b : Addr} {o : HO}, H b = some o → (o ≠ .lst xs) → upd H l u b = some o := fun {b o} h n => by
    rw [upd_ne (ne_of h hl n)]
    exact h
  intro pd
  induction pd with
  | slope => rintro a ⟨dx, h⟩; exact ⟨dx, key h (by intro z; cases z)⟩
  | aim => rintro a ⟨dx, h⟩; exact ⟨dx, key h (by intro z; cases z)⟩
  | square => rintro a ⟨dx, h⟩; exact ⟨dx, key h (by intro z; cases z)⟩
  | row => rintro a ⟨dx, t, h, h2⟩; exact ⟨dx, t, key h (by intro z; cases z), key h2 (by intro z; cases z)⟩
  | wall => rintro a ⟨dx, h⟩; exact ⟨dx, key h (by intro z; cases z)⟩
  | near => rintro a ⟨dx, h⟩; exact ⟨dx, key h (by intro z; cases z)⟩
  | gaps => rintro a ⟨dx, t, h, h2⟩; exact ⟨dx, t, key h (by intro z; cases z), key h2 (by intro z; cases z)⟩
  | ahead => rintro a ⟨dx, h⟩; exact ⟨dx, key h (by intro z; cases z)⟩
  | times q m ih => rintro a ⟨dx, r, h, h2⟩; exact ⟨dx, r, key h (by intro z; cases z), ih h2⟩
  | moved q m ih => rintro a ⟨dx, r, h, h2⟩; exact ⟨dx, r, key h (by intro z; cases z), ih h2⟩
/-- what the heap keeps but the object p -/
def But (p : Addr) (H H' : Hp) : Prop := ∀ b o, b ≠ p → H b = some o → H' b = some o
theorem But.refl (p : Addr) (H : Hp) : But p H H := fun _ _ _ h => h
theorem But.trans {p : Addr} {H H1 H2 : Hp} (a : But p H H1) (b : But p H1 H2) : But p H H2 := fun c o n h => b c o n (a c o n h)
theorem But.of {p : Addr} {H H' : Hp} (s : Same H H') : But p H H' := fun b o _ h => s b o h
theorem But.upd {p : Addr} {H : Hp} {o : HO} : But p H (upd H p o) := fun b _ n h => by rw [upd_ne n]; exact h
theorem Same.upd {p : Addr} {H : Hp} {o : HO} (h : H p = none) : Same H (upd H p o) := fun b _ e => by rw [upd_ne (ne_of_none e h)]; exact e
/-- a new instance at x, its dict at dx -/
theorem Same.new {H : Hp} {x dx : Addr} {C : Addr} {fs : Flds} (hx : H x = none) (hd : H dx = none) : Same H (L2.upd (L2.upd H dx (.own x)) x (.ins C dx fs)) := fun b o e => by
  rw [upd_ne (ne_of_none e hx), upd_ne (ne_of_none e hd)]
  exact e
theorem Same.made {H H' : Hp} {x dx : Addr} {C : Addr} {fs : Flds} (hx : H x = none) (hd : H dx = none) (b : But x (L2.upd (L2.upd H dx (.own x)) x (.ins C dx fs)) H') : Same H H' := fun a o e =>
  b a o (ne_of_none e hx) (Same.new hx hd a o e)

/-- what of the classes is asked -/
structure ClsT (K : PySem.W.Frag) (C : Str → Addr) : Prop where
  cl : ∀ c ∈ clss, Cls K (C c)
  na : ∀ c ∈ clss, ∀ f ∈ flds, NoAttr K (C c) f
section
variable {K : PySem.W.Frag} {C : Str → Addr}
theorem ClsT.clm (T : ClsT K C) (pd : PD) : Cls K (C pd.cls) := T.cl _ pd.cls_mem
end
/-- what isinstance asks of the classes -/
structure IsT (K : PySem.W.Frag) (C : Str → Addr) : Prop where
  cls : ∀ c ∈ clss, PySem.W.findIn K (.ref (C c)) "__class__" = some (some (.builtin "object.__class__"))
  sp : PySem.W.specialIn K (.builtin "object.__class__") "__get__" = some (some (.builtin "getset_descriptor.__get__"))
  tk : PySem.W.takesIn K (.builtin "object.__class__") = some true
  mro : ∀ c ∈ clss, PySem.W.mroIn K (C c) (.type "object") = some true
  par : ∀ c ∈ clss, PySem.W.kitOne K (.ref (C c)) (.ref (C "Part")) = some true
  tim : ∀ c ∈ clss, PySem.W.kitOne K (.ref (C c)) (.ref (C "Times")) = some (c == "Times")
  mov : ∀ c ∈ clss, PySem.W.kitOne K (.ref (C c)) (.ref (C "Moved")) = some (c == "Moved")
/-- two bases more -/
structure IsT2 (K : PySem.W.Frag) (C : Str → Addr) : Prop where
  na : PySem.W.kitOne K (.ref (C "Near")) (.ref (C "Aim")) = some true
  gr : PySem.W.kitOne K (.ref (C "Gaps")) (.ref (C "Row")) = some true
theorem ty_of {K : PySem.W.Frag} {C : Str → Addr} (IT : IsT K C) (TC : ClsT K C) {H : Hp} {a dx : Addr} {c : Str} {fs : Flds} (hc : c ∈ clss) (h : H a = some (.ins (C c) dx fs)) : TyX K H (.ref a) (.ref (C c)) :=
  .base (.ins h (TC.cl c hc) (IT.cls c hc) IT.sp IT.tk (IT.mro c hc))
theorem Met.mono {P : Program} {w : World} {K : PySem.W.Frag} {mg : Str → Option Value} {base : Heap} {j k : Nat} {C : Addr} {m : Str} {sp : Sp} {dvs : List V} (c : C8.Met P w K mg base j C m sp dvs) (h : j ≤ k) : C8.Met P w K mg base k C m sp dvs := by
  obtain ⟨f, fd, ps, ds, a, b, F, d, e⟩ := c.ex
  exact ⟨f, fd, ps, ds, a, b, F.mono h, d, e⟩
theorem Met.imp {P : Program} {w : World} {K : PySem.W.Frag} {mg : Str → Option Value} {base : Heap} {k : Nat} {C : Addr} {m : Str} {sp sp' : Sp} {dvs : List V} (c : C8.Met P w K mg base k C m sp dvs) (h : ∀ vs H Q E, sp' vs H Q E → sp vs H Q E) : C8.Met P w K mg base k C m sp' dvs := by
  obtain ⟨f, fd, ps, ds, a, b, F, d, e⟩ := c.ex
  exact ⟨f, fd, ps, ds, a, b, F.imp h, d, e⟩
end Ev

/-! own words: quiet expressions (they keep all but the heap's new objects), a quiet def, all(..) of a generator expression over a list of ints -/
namespace Gq
open PySem PySem.Spec PyProof.Rows L2

theorem kp_refl (s : Shared) : Keeps s s := ⟨s.heap, s.toks, rfl, fun _ _ e => e⟩
theorem kp_tok (s : Shared) (k : Nat) : Keeps s { s with toks := k } := ⟨s.heap, k, rfl, fun _ _ e => e⟩
theorem kp_trans {a b c : Shared} (h1 : Keeps a b) (h2 : Keeps b c) : Keeps a c := by
  obtain ⟨x, t, rfl, e1⟩ := h1
  obtain ⟨y, u, rfl, e2⟩ := h2
  exact ⟨y, u, rfl, fun b o e => e2 b o (e1 b o e)⟩
theorem kp_get {a b : Shared} (h : Keeps a b) : ∀ p o, a.heap.get? p = some o → b.heap.get? p = some o := by
  obtain ⟨x, t, rfl, e1⟩ := h
  exact e1

/-- where a quiet expression is read: its frame's names, and what was written ahead -/
structure At (base : Heap) (env : Env) (m : Str → Option Value) (s : Shared) : Prop where
  ns : s.heap.Ns env.locals m
  bk : ∀ b o, base.get? b = some o → s.heap.get? b = some o
theorem At.kp {base : Heap} {env : Env} {m : Str → Option Value} {s s' : Shared} (a : At base env m s) (k : Keeps s s') : At base env m s' :=
  ⟨a.ns.keeps (kp_get k), fun b o e => kp_get k _ _ (a.bk b o e)⟩
structure EnvOk (env : Env) : Prop where
  kind : env.scope.kind = .function
  glob : env.globals = mainGlobals
  blt : env.builtins = builtinsNs
/-- e gives a value of R, quietly -/
def QE (P : Program) (w : World) (base : Heap) (k : Nat) (env : Env) (m : Str → Option Value) (e : Expr) (R : Value → Prop) : Prop :=
  ∀ (A : Around) (E : Value → Shared → Prop) (s : Shared), Room k A → At base env m s → wpAny (model P w) A (eval e env) (fun v s' => R v ∧ Keeps s s') E s
def QOp (P : Program) (w : World) (op : CmpOp) (R1 R2 R : Value → Prop) : Prop :=
  ∀ (A : Around) (E : Value → Shared → Prop) (s : Shared) (v u : Value), R1 v → R2 u → wpAny (model P w) A (compareOp op v u) (fun v s' => R v ∧ Keeps s s') E s
def IsI (n : Int) : Value → Prop := fun v => ∃ t, v = .int n t
def IsB (b : Bool) : Value → Prop := fun v => v = .bool b
section
variable {P : Program} {w : World} {K : PySem.W.Frag} {mg : Str → Option Value} {base : Heap} {k : Nat} {env : Env} {m : Str → Option Value} {e e1 e2 e3 : Expr} {R R1 R2 R3 : Value → Prop} {x : Str} {u : Value} {p p0 p1 pos : Pos}
theorem qe_imp {R' : Value → Prop} (h : QE P w base k env m e R) (i : ∀ v, R v → R' v) : QE P w base k env m e R' := fun A E s r a => wpAny_mono (h A E s r a) (fun v s' q => ⟨i v q.1, q.2⟩) fun _ _ x => x
theorem qe_loc (O : EnvOk env) (hl : env.scope.names.lookup x = some .local) (hm : m x = some u) (hd : (x == ("__debug__" : Str)) = false := by decide) : QE P w base k env m (.Name x p) (fun v => v = u) := fun A E s r a =>
  wpAny_Name (wpAny_loadName_local O.kind hl a.ns hm ⟨rfl, kp_refl _⟩) hd
theorem qe_glob (M : L2.Mod K mg base) (O : EnvOk env) (hl : env.scope.names.lookup x = some .globalImplicit) (hm : mg x = some u) (hd : (x == ("__debug__" : Str)) = false := by decide) : QE P w base k env m (.Name x p) (fun v => v = u) := fun A E s r a =>
  Calls.Name_function_global O.kind hl (Calls.loadGlobal_global (by rw [O.glob]; exact M.glob.keeps a.bk) hm ⟨rfl, kp_refl _⟩) hd
theorem qe_blt (M : L2.Mod K mg base) (O : EnvOk env) (hl : env.scope.names.lookup x = some .globalImplicit) (hm : mg x = none) (hv : bootBuiltins x = some u) (hn : x ≠ "__name__" := by decide) (hd : (x == ("__debug__" : Str)) = false := by decide) :
    QE P w base k env m (.Name x p) (fun v => v = u) := fun A E s r a => by
  obtain ⟨mb, h1, h2⟩ := M.blt
  exact Calls.Name_function_global O.kind hl (Calls.loadGlobal_builtin (by rw [O.glob]; exact M.glob.keeps a.bk) hm (by rw [O.blt]; exact h1.keeps a.bk) ((h2 x hn).trans hv) ⟨rfl, kp_refl _⟩) hd
theorem qe_neg {n : Int} (h : QE P w base k env m e (IsI n)) : QE P w base k env m (.UnaryOp .USub e pos) (IsI (-n)) := fun A E s r a => by
  refine UnaryOp_ (wpAny_mono (h A E s r a) (fun v s1 q => ?_) fun _ _ x => x)
  obtain ⟨⟨t, rfl⟩, kp⟩ := q
  exact neg_int ⟨⟨_, rfl⟩, kp_trans kp (kp_tok _ _)⟩
theorem qe_not {b : Bool} (h : QE P w base k env m e (IsB b)) : QE P w base k env m (.UnaryOp .Not e pos) (IsB (!b)) := fun A E s r a => by
  refine UnaryOp_ (wpAny_mono (h A E s r a) (fun v s1 q => ?_) fun _ _ x => x)
  obtain ⟨rfl, kp⟩ := q
  exact not_of (wpAny_truthy_bool ⟨rfl, kp⟩)
theorem qe_and {a b : Bool} (h1 : QE P w base k env m e1 (IsB a)) (h2 : QE P w base k env m e2 (IsB b)) : QE P w base k env m (.BoolOp .And [e1, e2] pos) (IsB (a && b)) := fun A E s r at_ => by
  refine BoolOp_and (wpAny_mono (h1 A E s r at_) (fun v s1 q => ?_) fun _ _ x => x)
  obtain ⟨rfl, kp⟩ := q
  refine wpAny_truthy_bool ?_
  cases a with
  | true => exact BoolOp_one (wpAny_mono (h2 A E s1 r (at_.kp kp)) (fun v s2 q => ⟨q.1, kp_trans kp q.2⟩) fun _ _ x => x)
  | false => exact ⟨rfl, kp⟩
theorem qo_le {i j : Int} : QOp P w .LtE (IsI i) (IsI j) (IsB (decide (i ≤ j))) := fun A E s v u ⟨t, hv⟩ ⟨t', hu⟩ => by
  subst hv hu
  exact le_int ⟨rfl, kp_refl _⟩
theorem qe_chain {op op' : CmpOp} {a b : Bool} (ho : QOp P w op R1 R2 (IsB a)) (ho' : QOp P w op' R2 R3 (IsB b)) (h1 : QE P w base k env m e1 R1) (h2 : QE P w base k env m e2 R2) (h3 : QE P w base k env m e3 R3)
    (hm : lastMarks [op, op'] [e2, e3] = false := by with_unfolding_all rfl) : QE P w base k env m (.Compare e1 [op, op'] [e2, e3] pos) (IsB (a && b)) := fun A E s r at_ => by
  refine Compare_chain (wpAny_mono (h1 A E s r at_) (fun v s1 q1 => ?_) fun _ _ x => x) hm
  refine chain_link (wpAny_mono (h2 A E s1 r (at_.kp q1.2)) (fun u s2 q2 => ?_) fun _ _ x => x)
  have k2 := kp_trans q1.2 q2.2
  refine wpAny_mono (ho A E s2 v u q1.1 q2.1) (fun d s3 q3 => ?_) fun _ _ x => x
  obtain ⟨rfl, kp3⟩ := q3
  have k3 := kp_trans k2 kp3
  refine wpAny_truthy_bool ?_
  cases a with
  | false => exact ite_ff ⟨rfl, k3⟩
  | true =>
    refine ite_tt (chain_last (wpAny_mono (h3 A E s3 r (at_.kp k3)) (fun z s4 q4 => ?_) fun _ _ x => x))
    exact wpAny_mono (ho' A E s4 u z q2.1 q4.1) (fun d s5 q5 => ⟨q5.1, kp_trans k3 (kp_trans q4.2 q5.2)⟩) fun _ _ x => x
/-- a quiet def: its arguments' relation, its answer -/
structure QF (P : Program) (w : World) (K : PySem.W.Frag) (mg : Str → Option Value) (base : Heap) (k : Nat) (x : Str) (n : Nat) (R : List Value → Value → Prop) (W : List Value → Prop) : Prop where
  ex : ∃ f : Addr, mg x = some (.ref f) ∧ PySem.W.keepIn K (.ref f) = true ∧ ∀ (A : Around) (s : Shared) (us : List Value), Room k A → (∀ b o, base.get? b = some o → s.heap.get? b = some o) → us.length = n → W us →
    codeAny (model P w) A (.call (.ref f) ⟨us, []⟩) (fun r s' => ∃ v, r = .ok (.ret v) ∧ R us v ∧ Keeps s s') s
/-- from its body, one return -/
theorem qf_of {name : Str} {st : Stmt} {fd : FuncData} {f : Addr} {ps N : List Str} {e : Expr} {R : List Value → Value → Prop} {W : List Value → Prop} (M : L2.Mod K mg base) (F : C8.Def K mg name st f fd) (b : Binds K fd ps []) (S : FnScope N ps (C8.fnScope st)) (hb : C8.fnBody st = [.Return (some e) pos])
    (hloc : ∀ y ∈ ps, (C8.fnScope st).names.lookup y = some .local)
    (h : ∀ (env : Env) (m : Str → Option Value) (us : List Value), env.scope = C8.fnScope st → EnvOk env → us.length = ps.length → W us → (∀ (i : Nat) (x : Str) (u : Value), ps[i]? = some x → us[i]? = some u → m x = some u) → QE P w base k env m e (R us)) : QF P w K mg base (k + 1) name ps.length R W := by
  obtain ⟨oc, od, dV, kV, doc, pm, an, cdv, ct, osl, rfl, lk, hcd⟩ := F.fn.ex
  refine ⟨f, F.mgf, F.kp, fun A s us r bk hl hW => ?_⟩
  have KX : K.In s.heap := M.kin.keeps bk
  have lim : s.heap.NoLimit := M.nolimit.keeps bk
  have hbd := b s us KX (by rw [List.append_nil]; exact hl)
  rw [List.append_nil] at hbd
  have hkind : ∀ y ∈ ps.zip us, (C8.fnScope st).names.lookup y.1 = some .local ∨ ((C8.fnScope st).names.lookup y.1 = some .cell ∧ ((cellsFrom (s.heap.objs.size + 1) (C8.fnScope st).names []).lookup y.1).isSome = true) := fun ⟨n, v⟩ hy => .inl (hloc n (List.of_mem_zip hy).1)
  refine codeAny_call_function r.depth (KX _ _ lk) rfl S.co S.gen rfl (PySem.W.codeRec_of KX hcd) (hbd _ _ _ _ ?_)
  refine wpAny_newFunctionEnv_cells S.kind hkind fun env he s1 x => ?_
  subst he
  refine ⟨lim.keeps x.toInCall.keep, codeAny_func ?_⟩
  obtain ⟨h1, tk, rfl, hk⟩ := x.done
  have k1 : Keeps s { s with heap := h1, toks := tk } := ⟨h1, tk, rfl, hk⟩
  have ndP : ps.Nodup := by rw [← S.pre]; exact S.nd.sublist (List.take_sublist _ _)
  have q := fun E' => h (envOfC name (C8.fnScope st) s.heap.objs.size f cdv) _ us rfl ⟨S.kind, rfl, rfl⟩ hl hW (fun i y u e1 e2 => bindL_get ndP e1 e2 (hloc y (List.mem_of_getElem? e1)))
    (A.deeper (envOfC name (C8.fnScope st) s.heap.objs.size f cdv)) E' { s with heap := h1, toks := tk } (r.deeper _) ⟨x.toInCall.ns, fun b o e => hk b o (bk b o e)⟩
  show wpAny _ _ (execs (C8.fnBody st) _) _ _ _
  rw [hb]
  refine wpAny_execs_cons (wpAny_Return_some (wpAny_mono (q _) (fun v s2 q2 => ?_) fun _ _ x => x))
  exact ⟨v, rfl, q2.1, kp_trans k1 q2.2⟩
/-- arguments, quietly -/
def QA (P : Program) (w : World) (base : Heap) (k : Nat) (env : Env) (m : Str → Option Value) (es : List Expr) (R : List Value → Prop) : Prop :=
  ∀ (pos : Pos) (A : Around) (E : Value → Shared → Prop) (s : Shared), Room k A → At base env m s → wpAny (model P w) A (spliced (backTo pos (starEach es env))) (fun us s' => R us ∧ Keeps s s') E s
theorem qa_nil : QA P w base k env m [] (fun us => us = []) := fun pos A E s r a => Calls.spliced_nil ⟨rfl, kp_refl _⟩
theorem qa_cons {es : List Expr} {Rs : List Value → Prop} (h : QE P w base k env m e R) (hr : QA P w base k env m es Rs) (he : starEach (e :: es) env = (false, eval e env) :: starEach es env := by rfl) : QA P w base k env m (e :: es) (fun us => ∃ v vs, us = v :: vs ∧ R v ∧ Rs vs) := fun pos A E s r a => by
  rw [he]
  show wpAny _ _ (spliced ((false, eval e env) :: backTo pos (starEach es env))) _ _ s
  refine Calls.spliced_cons (wpAny_mono (h A E s r a) (fun v s1 q => ?_) fun _ _ x => x)
  exact wpAny_mono (hr pos A E s1 r (a.kp q.2)) (fun vs s2 q2 => ⟨⟨v, vs, rfl, q.1, q2.1⟩, kp_trans q.2 q2.2⟩) fun _ _ x => x
theorem qe_call {es : List Expr} {n : Nat} {Rs : List Value → Prop} {Rf : List Value → Value → Prop} {W : List Value → Prop} (M : L2.Mod K mg base) (O : EnvOk env) (F : QF P w K mg base k x n Rf W) (hl : env.scope.names.lookup x = some .globalImplicit) (ha : QA P w base k env m (e :: es) Rs) (hn : ∀ us, Rs us → us.length = n ∧ W us) (hR : ∀ us v, Rs us → Rf us v → R v)
    (hd : (x == ("__debug__" : Str)) = false := by decide) (he : starEach (e :: es) env = (false, eval e env) :: starEach es env := by rfl) (hpl : (backTo pos (starEach es env)).any (·.1) = false := by rfl) :
    QE P w base k env m (.Call (.Name x p) (e :: es) [] pos) R := fun A E s r a => by
  obtain ⟨f, hm, hk, hF⟩ := F.ex
  refine wpAny_Call_Name_kw (wpAny_mono (qe_glob (p := p) (k := k) (P := P) (w := w) (m := m) M O hl hm hd A E s r a) (fun v s1 q => ?_) fun _ _ x => x)
  obtain ⟨rfl, k0⟩ := q
  have a1 := a.kp k0
  refine PySem.W.callWith_K (h₀ := base) M.kin hk (wpAny_mono (ha pos A E s1 r a1) (fun us s2 q2 => ⟨M.kin.keeps (a1.kp q2.2).bk, ?_⟩) fun _ _ x => x) he hpl
  obtain ⟨hl2, hW⟩ := hn us q2.1
  refine wpAny_call (codeAny_mono (hF A s2 us r (a1.kp q2.2).bk hl2 hW) fun rr s3 q3 => ?_)
  obtain ⟨v, rfl, hv, k3⟩ := q3
  exact ⟨hR us v q2.1 hv, kp_trans k0 (kp_trans q2.2 k3)⟩
/-- isinstance(e1, T), T a built-in type -/
theorem qe_isi {n : Int} {b : Bool} {T : String} {es : List Expr} (M : L2.Mod K mg base) (O : EnvOk env) (hl : env.scope.names.lookup ("isinstance" : Str) = some .globalImplicit) (hm : mg "isinstance" = none) {Rs : List Value → Prop} (ha : QA P w base k env m (e1 :: es) Rs) (hR : ∀ us, Rs us → ∃ t, us = [.int n t, .type T]) (hk : PySem.W.kitOne K (.type "int") (.type T) = some b)
    (he : starEach (e1 :: es) env = (false, eval e1 env) :: starEach es env := by rfl) (hpl : (backTo pos (starEach es env)).any (·.1) = false := by rfl) :
    QE P w base k env m (.Call (.Name "isinstance" p) (e1 :: es) [] pos) (IsB b) := fun A E s r a => by
  refine wpAny_Call_Name_kw (wpAny_mono (qe_blt (p := p) (k := k) (P := P) (w := w) (m := m) M O hl hm (by decide +kernel : bootBuiltins "isinstance" = some (.builtin "isinstance")) (by decide) (by decide) A E s r a) (fun v s1 q => ?_) fun _ _ x => x)
  obtain ⟨rfl, k0⟩ := q
  have a1 := a.kp k0
  refine PyProof.Rows.callWith_builtin1 (wpAny_mono (ha pos A E s1 r a1) (fun us s2 q2 => ?_) fun _ _ x => x) he hpl
  obtain ⟨t, rfl⟩ := hR us q2.1
  exact PySem.W.kia_one (H := fun _ => True) PySem.W.kitx_int (M.kin.keeps (a1.kp q2.2).bk) True.intro hk (fun z => nomatch z) fun tk => ⟨rfl, kp_trans k0 (kp_trans q2.2 (kp_tok _ _))⟩
end

/-! ### all(.. for x in xs), xs a list of ints -/
open GxR
/-- the element: a test of the int n -/
def EltI (P : Program) (w : World) (base : Heap) (k : Nat) (scope : Scope) (x : Str) (elt : Expr) (pb : Int → Bool) : Prop :=
  ∀ (env : Env) (m : Str → Option Value) (n : Int) (t : Tok), env.scope = scope → EnvOk env → m x = some (.int n t) → QE P w base k env m elt (IsB (pb n))
def trI (pb : Int → Bool) (l : List Int) (j : Nat) : Bool := match l[j]? with
  | some b => pb b
  | none => false
theorem trI_some {pb : Int → Bool} {l : List Int} {j : Nat} {b : Int} (h : l[j]? = some b) : trI pb l j = pb b := by
  unfold trI
  rw [h]
theorem all_trI (l : List Int) (pb : Int → Bool) : (List.range l.length).all (trI pb l) = l.all pb := by
  rw [Bool.eq_iff_iff, List.all_eq_true, List.all_eq_true]
  constructor
  · intro h b hb
    obtain ⟨j, hj, e⟩ := List.getElem_of_mem hb
    have q := h j (List.mem_range.mpr hj)
    rw [trI_some (List.getElem?_eq_getElem hj), e] at q
    exact q
  · intro h j hj
    have hj' := List.mem_range.mp hj
    rw [trI_some (List.getElem?_eq_getElem hj')]
    exact h _ (List.getElem_mem hj')
def ReadyI (X : Cx) (pins : List (Addr × Obj)) (σ : L2.St) (H1 : Hp) (P : Addr) (ns : List Int) (pb : Int → Bool) (g : Addr) (s5 : Shared) : Prop :=
  ∃ (fp wr : List Addr) (G : Array GenState → Array GenState → Prop) (F : Nat → Value → Prop) (St : Nat → Shared → Prop),
    WalksS X.prog X.w X.A.in1 g fp wr G ns.length F St ∧ St 0 s5 ∧
    TruthOf X.prog X.w X.A.in1 F (trI pb ns) ∧
    ∀ s', Moved wr G s5 s' → ∃ H2, Tabbed P H1 H2 ∧ Inv X pins σ H2 s'
/-- the expression's code object: found in the table, or new there; both ways at once -/
theorem code_step {P : Program} {w : World} {A : Around} {E : Value → Shared → Prop} {Q : Value → Shared → Prop} {env : Env} {pos : Pos} {qual : Str} {scope : Scope} {c tb : Addr} {ps : Array Value} {s : Shared}
    (hc : env.code = .ref c) (cd : PySem.W.CodeHd s.heap c tb) (hp : s.heap.get? tb = some { cls := .none, data := .fields ps }) (tr : TriplesOk ps.toList)
    (go : ∀ (cv : Value) (h : Heap) (tk : Nat) (more : Array Value), s.heap.ExtBut tb h → s.heap.objs.size ≤ h.objs.size → h.get? tb = some { cls := .none, data := .fields (ps ++ more) } → TriplesOk (ps ++ more).toList → Q cv { s with heap := h, toks := tk }) :
    wpAny (model P w) A (genexprCode env pos qual scope) Q E s := by
  cases found : codeAmong pos ps.toList with
  | some cv => exact wpAny_genexprCode_hit hc (cd.code hp tr) found (go cv s.heap s.toks #[] (Heap.ExtBut.refl _ _) (Nat.le_refl _) (by rw [Array.append_empty]; exact hp) (by rw [Array.append_empty]; exact tr))
  | none =>
    refine wpAny_genexprCodeX hc (cd.code hp tr) (cd.tab hp) found fun c' h tk ext ge lt co _ tab _ => ?_
    obtain ⟨_, _, _, _, _, _, _, _, _, _, _, _, _, _, _, _, _, _, _, tr', _⟩ := co
    exact go _ h tk _ ext (Nat.le_of_lt (Nat.lt_of_le_of_lt ge lt)) tab.2 tr'
/-- a tracked list of ints, item by item -/
theorem ints_at {P : Program} {w : World} {H : Hp} {h : Heap} {a : Addr} {ns : List Int} (ok : HOk P w H h) (ha : H a = some (.lst (ns.map V.int))) :
    ∃ its : Array Value, h.IsList a its ∧ its.size = ns.length ∧ ∀ (i : Nat) (v : Value), its[i]? = some v → ∃ z t, ns[i]? = some z ∧ v = .int z t := by
  obtain ⟨_, its, nn, rv, ob⟩ := (show ObjOk P w H h a (.lst (ns.map V.int)) from ok a _ ha)
  have len : its.length = ns.length := by rw [← rv.length, List.length_map]
  refine ⟨its.toArray, ⟨_, ob, rfl, nn, rfl⟩, by rw [List.size_toArray, len], fun i v hv => ?_⟩
  have hv' : its[i]? = some v := by simpa using hv
  have hi : i < ns.length := by
    rw [← len]
    exact (List.getElem?_eq_some_iff.mp hv').1
  obtain ⟨u, hu, r⟩ := rv.get (i := i) (x := V.int ns[i]) (by rw [List.getElem?_map, List.getElem?_eq_getElem hi]; rfl)
  rw [hv'] at hu
  cases hu
  obtain ⟨t, rfl⟩ := r
  exact ⟨_, t, List.getElem?_eq_getElem hi, rfl⟩
section
variable {X : Cx} {pins : List (Addr × Obj)} {σ : L2.St} {H : Hp} {s : Shared}
theorem gen_ints {c tb : Addr} {elt iter : Expr} {x : Str} {px gpos : Pos} {scope : Scope} {pb : Int → Bool} {te : TE} {k : Nat} {Q' : Value → Shared → Prop} {R : Addr → List Int → Hp → Prop}
    (hr : Room (k + 1) X.A) (TB : TabB X.base X.mg c tb) (hcode : X.env.code = .ref c) (S : GenS X.env scope x) (hi : PE X iter te) (hel : L2.Mod X.K X.mg X.base → EltI X.prog X.w X.base k scope x elt pb)
    (hs : ∀ v, genFold iter X.env v = pure v) (I : Inv X pins σ H s) (h : te σ H fun v H1 => ∃ (a : Addr) (ns : List Int), v = .ref a ∧ H1 a = some (.lst (ns.map V.int)) ∧ TabG H1 tb ∧ R a ns H1)
    (hQ : ∀ a ns H1 g s5, R a ns H1 → ReadyI X pins σ H1 tb ns pb g s5 → Q' (.ref g) s5) :
    wpAny (model X.prog X.w) X.A (eval (.GeneratorExp elt [⟨.Name x px, iter, [], 0⟩] scope gpos) X.env) Q' X.xe s := by
  have depth : X.A.depth < recursionLimit := by have := hr.dp; omega
  refine wpAny_GeneratorExp_walksQD hr.hd S.co (closure_ok S.free) S.cell S.dot S.loc S.kind depth (thn (hi.run pins s σ H _ I h) fun xv s1 r => ?_) hs
  obtain ⟨v, H1, I1, r1, a, ns, rfl, ha, ⟨ps, hT, tr⟩, q1⟩ := r
  cases (show xv = Value.ref a from r1)
  obtain ⟨its, isl, lenI, item⟩ := ints_at I1.hok ha
  have oT : s1.heap.get? tb = some { cls := .none, data := .fields ps } := I1.hok tb _ hT
  have ltT := Heap.lt_size oT
  have ltA : a < s1.heap.objs.size := let ⟨_, e, _⟩ := isl; Heap.lt_size e
  have aT : a ≠ tb := fun e => by
    rw [e, hT] at ha
    cases ha
  -- what was written ahead is not the table
  have bT : ∀ b u, X.base.get? b = some u → b ≠ tb := fun b u e z => by
    have q := (I1.bs b u e).2
    rw [z, hT] at q
    cases q
  refine wpAny_pyIter_list isl ⟨I1.nolimit.push _, ?_⟩
  generalize hio : ({ cls := .type "list_iterator", data := .fields #[.ref a, .int 0 0] } : Obj) = io
  have push : ∀ b u, s1.heap.get? b = some u → (s1.heap.push io).get? b = some u := fun b u e => Heap.get?_push_of_some _ e
  refine code_step hcode (TB.code.keeps fun b u e => push b u (I1.bk b u e)) (push _ _ oT) tr fun cv h3 tk more ext size3 oT3 tr3 => ?_
  have sizeP : (s1.heap.push io).objs.size = s1.heap.objs.size + 1 := Heap.size_push ..
  have size3' : s1.heap.objs.size < h3.objs.size := by
    have : s1.heap.objs.size + 1 ≤ h3.objs.size := by rw [← sizeP]; exact size3
    exact this
  have kept : ∀ b u, b ≠ tb → s1.heap.get? b = some u → h3.get? b = some u := fun b u n e => ext b u n (push b u e)
  have statT : cStatics ≠ tb := fun e => by
    obtain ⟨_, ⟨_, _, _, so, sd, _⟩, _⟩ := I1.nolimit
    rw [e, oT] at so
    cases so
    cases sd
  have statLt : cStatics < s1.heap.objs.size := let ⟨_, sn, _⟩ := I1.nolimit; sn.lt
  have onlyI : ∀ {b : Addr}, b ∈ [s1.heap.objs.size] → b = s1.heap.objs.size := fun hb => by simpa using hb
  have iter0 : (s1.heap.push io).IsListIter s1.heap.objs.size a 0 := ⟨_, Heap.get?_push_size _ (by rw [← hio]; rfl), by rw [← hio], by rw [← hio]; rfl⟩
  obtain ⟨bm, ob, m1, m2, m3, m4, m5, m6, m7, m8⟩ := TB.bm
  have glob3 : h3.Ns X.env.globals X.mg := by
    rw [I1.ok.glob]
    exact ((I1.mod.glob.keeps I1.bk).push io).extBut ext TB.gP
  refine wpAny_builtinsFor glob3 m1 m2 (kept _ _ m4 (I1.bk _ _ m5)) m6 m7 m8 ?_
  refine ⟨s1.heap.objs.size, [s1.heap.objs.size, a], [s1.heap.objs.size], its.size, fun i v => its[i]? = some v, _, fun _ => true, fun i y => ∃ z, ns[i]? = some z ∧ y = .bool (pb z), rfl, fun A' hA => Walks.list hA _ _ (Nat.ne_of_lt ltA) its,
    ⟨iter0.at fun u e => ext _ u (Nat.ne_of_gt ltT) e, (isl.push io).at fun u e => ext _ u aT e⟩, fun b hb => ?_, (I1.nolimit.push io).extBut ext statT, fun z => Nat.ne_of_lt statLt (onlyI z), fun href keep => ⟨?_, ?_⟩, ?_⟩
  · show b < h3.objs.size
    simp only [List.mem_cons, List.not_mem_nil, or_false] at hb
    rcases hb with z | z
    · rw [z]; exact size3'
    · rw [z]; exact Nat.lt_trans ltA size3'
  · intro A' E' i v s₂ m₂ _ _ _ _ _ _ _
    rw [List.forIn_nil]
    exact wpAny_pure ⟨rfl, kp_refl _⟩
  · intro A' E' i v s₂ m₂ noH dep uni hv _ hn hm stays
    obtain ⟨z, t, hz, rfl⟩ := item i v hv
    have room : Room k A' := ⟨noH, by have := hr.dp; omega, by have := hr.un; omega⟩
    have there : At X.base (genEnv scope (cloFrom X.env.cells scope.names []) h3.objs.size cv builtinsNs X.env) m₂ s₂ := ⟨hn, fun b u e => by
      have e1 := I1.bk b u e
      have e3 := kept b u (bT b u e) e1
      exact stays b (List.mem_range.mpr (Heap.lt_size e3)) (fun q => Nat.ne_of_lt (Heap.lt_size e1) (onlyI q)) u (keep b u e3)⟩
    exact wpAny_mono (hel I1.mod (genEnv scope (cloFrom X.env.cells scope.names []) h3.objs.size cv builtinsNs X.env) m₂ z t rfl ⟨S.kind, I1.ok.glob, rfl⟩ hm A' E' s₂ room there) (fun y s3 r => ⟨⟨z, hz, r.1⟩, r.2⟩) fun _ _ e => e
  · intro g h5 tk5 gs bareG _ _ keep5 W5 at5
    rw [GxR.passing_true, lenI, List.length_range] at W5
    rw [lenI] at at5
    refine hQ a ns H1 g _ q1 ⟨_, _, _, _, _, W5.in4_1, at5, fun j y sj Qj Ej hy hQj => ?_, fun s' mv => ?_⟩
    · obtain ⟨i, hij, z, hz, rfl⟩ := hy
      obtain ⟨_, ej⟩ := List.getElem?_eq_some_iff.mp hij
      rw [List.getElem_range] at ej
      have e : trI pb ns j = pb z := trI_some (by rw [ej]; exact hz)
      rw [e] at hQj
      exact wpAny_truthy_bool hQj
    · have out : ∀ b u, s1.heap.get? b = some u → b ∉ h3.objs.size :: [s1.heap.objs.size] := fun b u e hb => by
        have l := Heap.lt_size e
        rcases List.mem_cons.mp hb with z | z
        · exact Nat.lt_irrefl _ (Nat.lt_trans size3' (by rw [z] at l; exact l))
        · exact Nat.ne_of_lt l (onlyI z)
      have all5 : ∀ b u, b ≠ tb → s1.heap.get? b = some u → s'.heap.get? b = some u := fun b u n e => mv.heap b u (out b u e) (keep5 b u (kept b u n e))
      have tab5 : s'.heap.get? tb = some { cls := .none, data := .fields (ps ++ more) } := mv.heap tb _ (out tb _ oT) (keep5 tb _ oT3)
      have J := inv_tab (more := more) (h' := s'.heap) (g' := s'.gens) (d' := s'.drawn) (t' := s'.toks) I1 hT all5 tab5 (AllBare.movedS (I1.bare.push bareG) mv)
      rw [sh_eta s1 s' mv.os] at J
      exact ⟨upd H1 tb (.tbl (ps ++ more)), ⟨⟨ps ++ more, upd_same, tr3⟩, fun b hb => upd_ne hb⟩, J⟩
def tAllI (P : Addr) (pb : Int → Bool) (te : TE) : TE := fun σ H Q => te σ H fun v H1 => ∃ (a : Addr) (ns : List Int), v = .ref a ∧ H1 a = some (.lst (ns.map V.int)) ∧ TabG H1 P ∧ ∀ H2, Tabbed P H1 H2 → Q (.bl (ns.all pb)) H2
theorem pe_allI {c P : Addr} {elt iter : Expr} {x : Str} {px p pos gpos : Pos} {scope : Scope} {pb : Int → Bool} {te : TE} {k : Nat}
    (hr : Room (k + 1) X.A) (hg : Gl X "all") (hm : X.mg "all" = none) (TB : TabB X.base X.mg c P) (hcode : X.env.code = .ref c) (S : GenS X.env scope x) (hi : PE X iter te) (hel : L2.Mod X.K X.mg X.base → EltI X.prog X.w X.base k scope x elt pb)
    (hs : ∀ v, genFold iter X.env v = pure v)
    (he : starEach [.GeneratorExp elt [⟨.Name x px, iter, [], 0⟩] scope gpos] X.env = (false, eval (.GeneratorExp elt [⟨.Name x px, iter, [], 0⟩] scope gpos) X.env) :: starEach [] X.env := by rfl) :
    PE X (.Call (.Name "all" p) [.GeneratorExp elt [⟨.Name x px, iter, [], 0⟩] scope gpos] [] pos) (tAllI P pb te) := by
  refine ⟨fun pins s σ H Q I h => ?_⟩
  refine wpAny_Call_Name_kw (ld_blt I hg hm (by decide +kernel : bootBuiltins "all" = some (.builtin "all")) ?_)
  refine PyProof.Rows.callWith_builtin1 ?_ he (by rfl)
  rw [he]
  show wpAny _ _ (spliced ((false, eval (.GeneratorExp elt [⟨.Name x px, iter, [], 0⟩] scope gpos) X.env) :: backTo pos (starEach [] X.env))) _ _ s
  refine Calls.spliced_cons (gen_ints (R := fun a ns H1 => ∀ H2, Tabbed P H1 H2 → Q (.bl (ns.all pb)) H2) hr TB hcode S hi hel hs I h fun a ns H1 g s5 hR hG => ?_)
  obtain ⟨fp, wr, G, F, St, W, hst, htr, hI⟩ := hG
  refine Calls.spliced_nil ?_
  refine call_all_walkS (W.self 0 _ _ _ hst ⟨g, fp, wr, G, _, F, St, _, rfl, W, hst, htr, fun s' hmv => ?_⟩)
  obtain ⟨H2, hT, J⟩ := hI s' hmv
  refine ⟨.bl _, H2, J, rfl, ?_⟩
  rw [all_trI ns pb]
  exact hR H2 hT
end
end Gq

/-! halls as data; what the heap keeps but tables -/
namespace Ev
open PySem L2 Ax

/-- what the heap keeps, tables may grow -/
structure SmT (H H' : Hp) : Prop where
  at_ : ∀ b o, (∀ ps, o ≠ .tbl ps) → H b = some o → H' b = some o
  any : ∀ b ps, H b = some (.tbl ps) → ∃ ps', H' b = some (.tbl ps')
  tab : ∀ b, GxR.TabG H b → GxR.TabG H' b
theorem SmT.refl (H : Hp) : SmT H H := ⟨fun _ _ _ h => h, fun _ ps h => ⟨ps, h⟩, fun _ h => h⟩
theorem SmT.trans {H H1 H2 : Hp} (a : SmT H H1) (b : SmT H1 H2) : SmT H H2 :=
  ⟨fun c o n h => b.at_ c o n (a.at_ c o n h), fun c ps h => let ⟨q, e⟩ := a.any c ps h; b.any c q e, fun c h => b.tab c (a.tab c h)⟩
theorem SmT.of {H H' : Hp} (s : Same H H') : SmT H H' := ⟨fun b o _ h => s b o h, fun b ps h => ⟨ps, s b _ h⟩, fun b ⟨ps, h, t⟩ => ⟨ps, s b _ h, t⟩⟩
theorem SmT.tabbed {P : Addr} {H H' : Hp} (h0 : GxR.TabG H P) (t : GxR.Tabbed P H H') : SmT H H' := by
  obtain ⟨ps0, e0, _⟩ := h0
  obtain ⟨⟨ps, e, tr⟩, k⟩ := t
  refine ⟨fun b o n h => ?_, fun b qs h => ?_, fun b ⟨qs, h, tq⟩ => ?_⟩
  · by_cases hb : b = P
    · rw [hb, e0] at h
      exact absurd (Option.some.inj h).symm (n ps0)
    · rw [k b hb]; exact h
  · by_cases hb : b = P
    · rw [hb]; exact ⟨ps, e⟩
    · rw [k b hb]; exact ⟨qs, h⟩
  · by_cases hb : b = P
    · rw [hb]; exact ⟨ps, e, tr⟩
    · exact ⟨qs, by rw [k b hb]; exact h, tq⟩
theorem SmT.free {H H' : Hp} (s : SmT H H') {p : Addr} (h : H' p = none) : H p = none := by
  cases e : H p with
  | none => rfl
  | some o =>
    by_cases n : ∃ ps, o = .tbl ps
    · obtain ⟨ps, rfl⟩ := n
      obtain ⟨q, z⟩ := s.any p ps e
      rw [h] at z; cases z
    · have z := s.at_ p o (fun ps q => n ⟨ps, q⟩) e
      rw [h] at z; cases z
theorem SmT.lst {H H' : Hp} (s : SmT H H') {a : Addr} {xs : List V} (h : H a = some (.lst xs)) : H' a = some (.lst xs) := s.at_ _ _ (fun _ z => by cases z) h
theorem SmT.tup {H H' : Hp} (s : SmT H H') {a : Addr} {xs : List V} (h : H a = some (.tup xs)) : H' a = some (.tup xs) := s.at_ _ _ (fun _ z => by cases z) h
theorem SmT.ins {H H' : Hp} (s : SmT H H') {a C dx : Addr} {fs : List (Str × V)} (h : H a = some (.ins C dx fs)) : H' a = some (.ins C dx fs) := s.at_ _ _ (fun _ z => by cases z) h
theorem SmT.updN {H H1 : Hp} {p : Addr} {o : HO} (s : SmT H H1) (h : H1 p = none) : SmT H (L2.upd H1 p o) := s.trans (.of (Same.upd h))
/-- what is new may change -/
theorem SmT.updF {H H1 : Hp} {p : Addr} {o : HO} (s : SmT H H1) (h : H p = none) : SmT H (L2.upd H1 p o) :=
  ⟨fun b u n e => by rw [upd_ne (ne_of_none e h)]; exact s.at_ b u n e, fun b ps e => by rw [upd_ne (ne_of_none e h)]; exact s.any b ps e, fun b t => by
    obtain ⟨ps, e, tr⟩ := s.tab b t
    obtain ⟨ps0, e0, _⟩ := t
    exact ⟨ps, by rw [upd_ne (ne_of_none e0 h)]; exact e, tr⟩⟩
theorem SmT.sql {K : PySem.W.Frag} {H H' : Hp} {a : Addr} {xs : List V} (s : SmT H H') (h : SqL K H a xs) : SqL K H' a xs := by
  rcases h with (h | ⟨o, h⟩) | h
  · exact .inl (.inl (s.lst h))
  · exact .inl (.inr ⟨o, s.at_ _ _ (fun _ z => by cases z) h⟩)
  · exact .inr h
theorem PartAt.smt {C : Str → Addr} {H H' : Hp} (s : SmT H H') : ∀ {pd : PD} {a : Addr}, PartAt C H pd a → PartAt C H' pd a
  | .slope .., _, ⟨dx, h⟩ => ⟨dx, s.ins h⟩
  | .aim .., _, ⟨dx, h⟩ => ⟨dx, s.ins h⟩
  | .square .., _, ⟨dx, h⟩ => ⟨dx, s.ins h⟩
  | .row .., _, ⟨dx, t, h, h2⟩ => ⟨dx, t, s.ins h, s.tup h2⟩
  | .wall .., _, ⟨dx, h⟩ => ⟨dx, s.ins h⟩
  | .near .., _, ⟨dx, h⟩ => ⟨dx, s.ins h⟩
  | .gaps .., _, ⟨dx, t, h, h2⟩ => ⟨dx, t, s.ins h, s.tup h2⟩
  | .ahead .., _, ⟨dx, h⟩ => ⟨dx, s.ins h⟩
  | .times .., _, ⟨dx, r, h, h2⟩ => ⟨dx, r, s.ins h, PartAt.smt s h2⟩
  | .moved .., _, ⟨dx, r, h, h2⟩ => ⟨dx, r, s.ins h, PartAt.smt s h2⟩

/-! what a part reads of a point; a hall's worths -/
def readPD (p : PD) (x : List Int) : Int := match p.stands with
  | [a] => x.getD a.toNat 0
  | [a, b] => x.getD a.toNat 0 - x.getD b.toNat 0
  | _ => 0
theorem stands_shape : ∀ p : PD, (∃ a, p.stands = [a]) ∨ ∃ a b, p.stands = [a, b]
  | .slope p _ => .inl ⟨p, rfl⟩
  | .aim p _ _ => .inl ⟨p, rfl⟩
  | .square p _ _ => .inl ⟨p, rfl⟩
  | .row p _ _ => .inl ⟨p, rfl⟩
  | .wall p _ _ => .inl ⟨p, rfl⟩
  | .near o t _ _ => .inr ⟨o, t, rfl⟩
  | .gaps o t _ _ => .inr ⟨o, t, rfl⟩
  | .ahead o t _ => .inr ⟨o, t, rfl⟩
  | .times q _ => stands_shape q
  | .moved q _ => stands_shape q
def sumW (ps : List PD) (x : List Int) : Option Int := ps.foldl (fun acc p => acc.bind fun t => (p.worth (readPD p x)).map fun w => t + w) (some 0)
theorem foldW_none {ps : List PD} {x : List Int} : ps.foldl (fun acc p => acc.bind fun t => (p.worth (readPD p x)).map fun w => t + w) none = none := by
  induction ps with
  | nil => rfl
  | cons p r ih => exact ih
theorem sumW_stop {ps : List PD} {x : List Int} {i : Nat} {p : PD} {t : Int} (h : sumW (ps.take i) x = some t) (hp : ps[i]? = some p) (hw : p.worth (readPD p x) = none) : sumW ps x = none := by
  have e : ps = ps.take i ++ p :: ps.drop (i + 1) := by
    obtain ⟨hl, he⟩ := List.getElem?_eq_some_iff.mp hp
    rw [← he, List.getElem_cons_drop, List.take_append_drop]
  rw [e]
  unfold sumW at h ⊢
  rw [List.foldl_append, h, List.foldl_cons]
  show List.foldl _ ((p.worth (readPD p x)).map fun w => t + w) _ = none
  rw [hw]
  exact foldW_none
theorem sumW_next {ps : List PD} {x : List Int} {i : Nat} {p : PD} {t w : Int} (h : sumW (ps.take i) x = some t) (hp : ps[i]? = some p) (hw : p.worth (readPD p x) = some w) : sumW (ps.take (i + 1)) x = some (t + w) := by
  unfold sumW at h ⊢
  rw [List.take_add_one, hp, List.foldl_append, h]
  show (p.worth (readPD p x)).map (fun w => t + w) = _
  rw [hw]
  rfl
structure HD where
  many : Int
  lo : Int
  hi : Int
  ps : List PD
def Inside (lo hi : Int) (x : List Int) : Prop := ∀ y ∈ x, lo ≤ y ∧ y ≤ hi
instance (lo hi : Int) (x : List Int) : Decidable (Inside lo hi x) := inferInstanceAs (Decidable (∀ y ∈ x, lo ≤ y ∧ y ≤ hi))
def HD.worth (h : HD) (x : List Int) : Option Int := if Inside h.lo h.hi x then sumW h.ps x else none
structure HD.ok (h : HD) : Prop where
  m1 : 1 ≤ h.many
  m8 : h.many ≤ 8
  lh : h.lo ≤ h.hi
  l : -50 ≤ h.lo
  u : h.hi ≤ 50
  n : h.ps.length ≤ 25
  pk : ∀ p ∈ h.ps, p.ok
  pw : ∀ p ∈ h.ps, p.wraps ≤ 8
  pl : ∀ p ∈ h.ps, ∀ s ∈ p.stands, 0 ≤ s ∧ s < h.many
/-- a point: so many numbers from -1000 to 1000 -/
structure Pt (h : HD) (x : List Int) : Prop where
  len : (x.length : Int) = h.many
  bd : ∀ y ∈ x, -1000 ≤ y ∧ y ≤ 1000
theorem Pt.read {h : HD} {x : List Int} (P : Pt h x) (ok : h.ok) {p : PD} (hp : p ∈ h.ps) : -2000 ≤ readPD p x ∧ readPD p x ≤ 2000 := by
  have key : ∀ a : Int, 0 ≤ a → a < h.many → -1000 ≤ x.getD a.toNat 0 ∧ x.getD a.toNat 0 ≤ 1000 := fun a h0 h1 => by
    have l := P.len
    rw [List.getD_eq_getElem?_getD, List.getElem?_eq_getElem (by omega : a.toNat < x.length)]
    exact P.bd _ (List.getElem_mem _)
  unfold readPD
  rcases stands_shape p with ⟨a, e⟩ | ⟨a, b, e⟩
  · rw [e]
    obtain ⟨h0, h1⟩ := ok.pl p hp a (by rw [e]; simp)
    have := key a h0 h1
    exact ⟨by simp only; omega, by simp only; omega⟩
  · rw [e]
    obtain ⟨h0, h1⟩ := ok.pl p hp a (by rw [e]; simp)
    obtain ⟨g0, g1⟩ := ok.pl p hp b (by rw [e]; simp)
    have := key a h0 h1
    have := key b g0 g1
    exact ⟨by simp only; omega, by simp only; omega⟩

/-! how a hall stands in the heap -/
def hflds : List Str := ["many", "low", "high", "kept"]
def fHall (m lo hi : Int) (l : Addr) : List (Str × V) := [("many", .int m), ("low", .int lo), ("high", .int hi), ("kept", .ref l)]
/-- parts side by side with their addresses -/
structure PartsAt (C : Str → Addr) (H : Hp) (ps : List PD) (as : List Addr) : Prop where
  len : as.length = ps.length
  all : ∀ (i : Nat) (p : PD) (a : Addr), ps[i]? = some p → as[i]? = some a → PartAt C H p a
theorem PartsAt.smt {C : Str → Addr} {H H' : Hp} (s : SmT H H') {ps : List PD} {as : List Addr} (h : PartsAt C H ps as) : PartsAt C H' ps as := ⟨h.len, fun i p a e1 e2 => (h.all i p a e1 e2).smt s⟩
structure HallAt (C : Str → Addr) (H : Hp) (h : HD) (a l : Addr) (as : List Addr) : Prop where
  at_ : ∃ dx, H a = some (.ins (C "Hall") dx (fHall h.many h.lo h.hi l))
  kept : H l = some (.lst (as.map V.ref))
  parts : PartsAt C H h.ps as
theorem HallAt.smt {C : Str → Addr} {H H' : Hp} (s : SmT H H') {h : HD} {a l : Addr} {as : List Addr} (t : HallAt C H h a l as) : HallAt C H' h a l as :=
  ⟨let ⟨dx, e⟩ := t.at_; ⟨dx, s.ins e⟩, s.lst t.kept, t.parts.smt s⟩
structure HallT (K : PySem.W.Frag) (C : Str → Addr) : Prop where
  cl : Cls K (C "Hall")
  na : ∀ f ∈ hflds, NoAttr K (C "Hall") f
theorem fh_many : ("many" : Str) ∈ hflds := by unfold hflds; simp
theorem fh_low : ("low" : Str) ∈ hflds := by unfold hflds; simp
theorem fh_high : ("high" : Str) ∈ hflds := by unfold hflds; simp
theorem fh_kept : ("kept" : Str) ∈ hflds := by unfold hflds; simp
theorem lk_Hall_many {m lo hi : Int} {l : Addr} : List.lookup ("many" : Str) (fHall m lo hi l) = some (.int m) := by kernel_rfl
theorem lk_Hall_low {m lo hi : Int} {l : Addr} : List.lookup ("low" : Str) (fHall m lo hi l) = some (.int lo) := by kernel_rfl
theorem lk_Hall_high {m lo hi : Int} {l : Addr} : List.lookup ("high" : Str) (fHall m lo hi l) = some (.int hi) := by kernel_rfl
theorem lk_Hall_kept {m lo hi : Int} {l : Addr} : List.lookup ("kept" : Str) (fHall m lo hi l) = some (.ref l) := by kernel_rfl
theorem pf_Hall {m lo hi : Int} {l : Addr} : putF "kept" (.ref l) (putF "high" (.int hi) (putF "low" (.int lo) (putF "many" (.int m) []))) = fHall m lo hi l := by kernel_rfl

/-- a def whose code object is known -/
theorem calC {P : Program} {w : World} {K : PySem.W.Frag} {mg : Str → Option Value} {base : Heap} {x : Str} {st : Stmt} {f c : Addr} {fd : FuncData} {N ps : List Str} {ds : List Value} {dvs : List V} {k : Nat} {sp : Sp} (F : C8.Def K mg x st f fd) (hc : fd.code = .ref c) (b : Binds K fd ps ds) (d : Vals dvs ds) (S : FnScope N ps (C8.fnScope st)) (len : ∀ vs H Q E, sp vs H Q E → vs.length = ps.length)
    (hbody : ∀ (A : Around) (outer : List Env) (s : Shared) (H : Hp) (vs : List V) (Q : VK) (E : XK), Room k (A.deeper (PyProof.Rows.envOfC x (C8.fnScope st) s.heap.objs.size f (.ref c))) → sp vs H Q E →
      ∃ t, PSs (cxOf C8.CX0 P w K mg base N x (C8.fnScope st) f (.ref c) A outer s H E).nox (C8.fnBody st) t ∧ t { nx := fun _ H' => Q .non H', rt := Q } (start N vs) H) : C8.Cal P w K mg base (k + 1) x sp dvs := by
  obtain ⟨oc, od, dV, kV, doc, pm, an, cdv, ct, osl, e, lk, hcd⟩ := F.fn.ex
  subst e
  have ec : cdv = .ref c := hc
  subst ec
  refine ⟨f, _, ps, ds, fn_of lk hcd S len fun A outer s H vs Q E hr hsp => ?_, F.mgf, F.kp, b, d⟩
  obtain ⟨t, h, q⟩ := hbody A outer s H vs Q E hr hsp
  exact ⟨t, h.nox, q⟩
end Ev

/-! the head by one kernel run; what is looked at, as bits, and the functions -/
namespace Hx
open PySem PySem.Spec PyProof.Rows L2 Ax He
open PySem.W (Frag nsIn findIn isFn keepIn codeIn makesIn kitOne fnOf ksFn clsIn mroIn ks_superIn typeIn fnIn)
/-! ### a part of the heap without tables -/
def isTab : Option Obj → Bool
  | some ⟨.none, _, .fields _, _⟩ => true
  | _ => false
def frX (g : Addr → Option Obj) (as : List Addr) : Frag := frG g (as.filter fun a => !isTab (g a))
theorem frX_in {as : List Addr} {h : Heap} : (frX h.get? as).In h := frG_in
theorem frG_mem {g : Addr → Option Obj} {a : Addr} {o : Obj} : ∀ l : List Addr, (frG g l).lookup a = some o → a ∈ l
  | [], e => nomatch (show (none : Option Obj) = some o from e)
  | b :: r, e => by
    unfold frG at e
    rw [List.filterMap_cons] at e
    cases hb : g b with
    | none =>
      rw [hb] at e
      exact List.mem_cons_of_mem _ (frG_mem r e)
    | some ob =>
      rw [hb] at e
      have e2 : (match a == b with | true => some ob | false => (frG g r).lookup a) = some o := e
      cases q : (a == b) with
      | true => rw [beq_iff_eq.mp q]; exact List.mem_cons_self
      | false =>
        rw [q] at e2
        exact List.mem_cons_of_mem _ (frG_mem r e2)
theorem frX_tab {g : Addr → Option Obj} {as : List Addr} {a : Addr} (h : isTab (g a) = true) : (frX g as).lookup a = none := by
  cases e : (frX g as).lookup a with
  | none => rfl
  | some o =>
    have m := (List.mem_filter.mp (frG_mem _ e)).2
    rw [h] at m
    cases m
/-- what an object leads to: a namespace its values, a def its code, defaults, cells, a class its namespace -/
def refsX (o : Obj) : List Addr := match o.data with
  | .dict es _ => es.toList.flatMap fun e => refV e.val
  | .func fd => refV fd.code ++ (refV fd.defaults ++ fd.closure.map (·.2))
  | .cls cd => [cd.ns]
  | _ => []
/-- those of them that were not there yet -/
def newX (old : List Addr) : List Addr → List Addr
  | [] => []
  | a :: r => let s := newX old r
    bif old.contains a || s.contains a then s else a :: s
def stepX (g : Addr → Option Obj) (as : List Addr) : List Addr := as.flatMap fun a => match g a with
  | some o => refsX o
  | none => []
/-- level by level: what was reached, the last level -/
def asX (g : Addr → Option Obj) : Nat → List Addr × List Addr → List Addr
  | 0, (old, last) => old ++ last
  | n + 1, (old, last) => asX g n (old ++ last, newX (old ++ last) (stepX g last))
def startX : List Addr × List Addr := ([cStatics], [mainGlobals])
/-! ### functions -/
abbrev FnX : Type := Option (Str × Str × Arguments × FuncBody × Scope × Addr × List Str × Addr)
def fnX (K : Frag) (f : Addr) : FnX := match K.lookup f with
  | some ⟨_, _, .func fd, _⟩ => some (fd.name, fd.qualname, fd.params, fd.body, fd.scope, fd.globals, fd.closure.map (·.1), fd.builtins)
  | _ => none
def valX (name qual : Str) (st : Stmt) (cl : List Str) : FnX := some (name, qual, C8.fnArgs st, .stmts (C8.fnBody st), C8.fnScope st, mainGlobals, cl, builtinsNs)
def codeOf (K : Frag) (f : Addr) : Addr := match K.lookup f with
  | some ⟨_, _, .func fd, _⟩ => (match fd.code with
    | .ref c => c
    | _ => 0)
  | _ => 0
def cellOf (K : Frag) (f : Addr) : Addr := match K.lookup f with
  | some ⟨_, _, .func fd, _⟩ => (match fd.closure with
    | [(_, c)] => c
    | _ => 0)
  | _ => 0
/-- a tuple of these ints, no tuple where there are none -/
def intsB : List Int → List Value → Bool
  | [], [] => true
  | i :: r, .int j _ :: s => decide (j = i) && intsB r s
  | _, _ => false
def dflX (K : Frag) (v : Value) (ns : List Int) : Bool := match v with
  | .none => decide (ns = [])
  | .ref T => !decide (ns = []) && (match K.lookup T with
    | some ⟨_, _, .seq its _, _⟩ => intsB ns its.toList
    | _ => false)
  | _ => false
def defX (K : Frag) (f : Addr) (qual : Str) (ns : List Int) : Bool := match K.lookup f with
  | some ⟨_, _, .func fd, _⟩ => dflX K fd.defaults ns && (match fd.code with
    | .ref c => codeIn K (.ref c) qual
    | _ => false)
  | _ => false
theorem fun_of {K : Frag} {f : Addr} {name qual : Str} {st : Stmt} {ns : List Int} {cl : List Str} (e : fnX K f = valX name qual st cl) (b : defX K f qual ns = true) :
    ∃ (oc : Value) (od : Option Addr) (fd : FuncData) (osl : Array (Option Value)), K.lookup f = some ⟨oc, od, .func fd, osl⟩ ∧ fd.code = .ref (codeOf K f) ∧ codeIn K (.ref (codeOf K f)) qual = true ∧ dflX K fd.defaults ns = true ∧
      fd.name = name ∧ fd.qualname = qual ∧ fd.params = C8.fnArgs st ∧ fd.body = .stmts (C8.fnBody st) ∧ fd.scope = C8.fnScope st ∧ fd.globals = mainGlobals ∧ fd.closure.map (·.1) = cl ∧ fd.builtins = builtinsNs := by
  unfold fnX at e
  unfold defX at b
  unfold codeOf
  cases q : K.lookup f with
  | none => rw [q] at e; cases e
  | some o =>
    obtain ⟨oc, od, dt, osl⟩ := o
    rw [q] at e b
    cases dt with
    | func fd =>
      have e2 : (some (fd.name, fd.qualname, fd.params, fd.body, fd.scope, fd.globals, fd.closure.map (·.1), fd.builtins) : FnX) = valX name qual st cl := e
      unfold valX at e2
      simp only [Option.some.injEq, Prod.mk.injEq] at e2
      obtain ⟨h1, h2, h3, h4, h5, h6, h7, h8⟩ := e2
      obtain ⟨b1, b2⟩ := ba (show (dflX K fd.defaults ns && (match fd.code with | .ref c => codeIn K (.ref c) qual | _ => false)) = true from b)
      cases hc : fd.code with
      | ref c =>
        rw [hc] at b2
        exact ⟨oc, od, fd, osl, rfl, (by simp only [hc]), (by simp only [hc]; exact b2), b1, h1, h2, h3, h4, h5, h6, h7, h8⟩
      | _ => rw [hc] at b2; cases b2
    | _ => cases e
/-- .. without a closure -/
theorem fun_of0 {K : Frag} {f : Addr} {name qual : Str} {st : Stmt} {ns : List Int} (e : fnX K f = valX name qual st []) (b : defX K f qual ns = true) :
    ∃ (oc dV kV doc pm ct : Value) (od an : Option Addr) (osl : Array (Option Value)), K.lookup f = some ⟨oc, od, .func (fnOf name qual (C8.fnArgs st) (C8.fnBody st) (C8.fnScope st) dV kV doc pm an (.ref (codeOf K f)) ct), osl⟩ ∧ codeIn K (.ref (codeOf K f)) qual = true ∧ dflX K dV ns = true := by
  obtain ⟨oc, od, fd, osl, l, c1, c2, d, h1, h2, h3, h4, h5, h6, h7, h8⟩ := fun_of e b
  obtain ⟨n1, n2, n3, n4, n5, n6, n7, n8, n9, n10, n11, n12, n13, n14, n15⟩ := fd
  simp only at h1 h2 h3 h4 h5 h6 h7 h8 c1 d
  have h7' : n7 = [] := List.map_eq_nil_iff.mp h7
  subst h1 h2 h3 h4 h5 h6 h7' h8 c1
  exact ⟨oc, n8, n9, n10, n11, n14, od, n12, osl, l, c2, d⟩
/-- .. that closes over __class__ -/
theorem fun_ofS {K : Frag} {f : Addr} {name qual : Str} {st : Stmt} {ns : List Int} (e : fnX K f = valX name qual st ["__class__"]) (b : defX K f qual ns = true) :
    ∃ (oc dV kV doc pm ct : Value) (od an : Option Addr) (osl : Array (Option Value)), K.lookup f = some ⟨oc, od, .func (ksFn name qual (C8.fnArgs st) (C8.fnBody st) (C8.fnScope st) dV kV doc pm an (.ref (codeOf K f)) ct (cellOf K f)), osl⟩ ∧ codeIn K (.ref (codeOf K f)) qual = true ∧ dflX K dV ns = true := by
  obtain ⟨oc, od, fd, osl, l, c1, c2, d, h1, h2, h3, h4, h5, h6, h7, h8⟩ := fun_of e b
  have hc : fd.closure = [(("__class__" : Str), cellOf K f)] := by
    unfold cellOf
    rw [l]
    simp only
    cases q : fd.closure with
    | nil => rw [q] at h7; cases h7
    | cons a r =>
      rw [q] at h7
      obtain ⟨a1, a2⟩ := a
      cases r with
      | nil =>
        have : a1 = "__class__" := (List.cons.inj h7).1
        rw [this]
      | cons => cases (List.cons.inj h7).2
  obtain ⟨n1, n2, n3, n4, n5, n6, n7, n8, n9, n10, n11, n12, n13, n14, n15⟩ := fd
  simp only at h1 h2 h3 h4 h5 h6 h8 hc c1 d
  subst h1 h2 h3 h4 h5 h6 h8 hc c1
  exact ⟨oc, n8, n9, n10, n11, n14, od, n12, osl, l, c2, d⟩
theorem dfl0 {K : Frag} {v : Value} (h : dflX K v [] = true) : v = .none := by
  cases v with
  | none => rfl
  | ref T => cases h
  | _ => cases h
theorem ints1 {i : Int} {l : List Value} (h : intsB [i] l = true) : ∃ t, l = [.int i t] := by
  cases l with
  | nil => cases h
  | cons v r =>
    cases v with
    | int j t =>
      obtain ⟨h1, h2⟩ := ba (show (decide (j = i) && intsB [] r) = true from h)
      cases r with
      | nil => rw [of_decide_eq_true h1]; exact ⟨t, rfl⟩
      | cons => cases h2
    | _ => cases h
theorem ints2 {i j : Int} {l : List Value} (h : intsB [i, j] l = true) : ∃ t u, l = [.int i t, .int j u] := by
  cases l with
  | nil => cases h
  | cons v r =>
    cases v with
    | int k t =>
      obtain ⟨h1, h2⟩ := ba (show (decide (k = i) && intsB [j] r) = true from h)
      obtain ⟨u, rfl⟩ := ints1 h2
      rw [of_decide_eq_true h1]
      exact ⟨t, u, rfl⟩
    | _ => cases h
theorem dfl_ref {K : Frag} {v : Value} {i : Int} {r : List Int} (h : dflX K v (i :: r) = true) : ∃ T tc td its n tsl, v = .ref T ∧ K.lookup T = some ⟨tc, td, .seq its n, tsl⟩ ∧ intsB (i :: r) its.toList = true := by
  cases v with
  | ref T =>
    obtain ⟨_, h2⟩ := ba (show (!decide (i :: r = []) && (match K.lookup T with | some ⟨_, _, .seq its _, _⟩ => intsB (i :: r) its.toList | _ => false)) = true from h)
    cases q : K.lookup T with
    | none => rw [q] at h2; cases h2
    | some o =>
      obtain ⟨tc, td, dt, tsl⟩ := o
      rw [q] at h2
      cases dt with
      | seq its n => exact ⟨T, tc, td, its, n, tsl, rfl, q, h2⟩
      | _ => cases h2
  | none => cases (show decide ((i :: r) = []) = true from h)
  | _ => cases h
theorem dfl1 {K : Frag} {v : Value} {i : Int} (h : dflX K v [i] = true) : ∃ T tc td n tsl t, v = .ref T ∧ K.lookup T = some ⟨tc, td, .seq [Value.int i t].toArray n, tsl⟩ := by
  obtain ⟨T, tc, td, its, n, tsl, e, l, q⟩ := dfl_ref h
  obtain ⟨t, hl⟩ := ints1 q
  have : its = [Value.int i t].toArray := by rw [← hl]
  exact ⟨T, tc, td, n, tsl, t, e, by rw [l, this]⟩
theorem dfl2 {K : Frag} {v : Value} {i j : Int} (h : dflX K v [i, j] = true) : ∃ T tc td n tsl t u, v = .ref T ∧ K.lookup T = some ⟨tc, td, .seq [Value.int i t, Value.int j u].toArray n, tsl⟩ := by
  obtain ⟨T, tc, td, its, n, tsl, e, l, q⟩ := dfl_ref h
  obtain ⟨t, u, hl⟩ := ints2 q
  have : its = [Value.int i t, Value.int j u].toArray := by rw [← hl]
  exact ⟨T, tc, td, n, tsl, t, u, e, by rw [l, this]⟩
/-! ### bits of the rest -/
def ctyX (K : Frag) (c : Addr) : Bool := PySem.W.plainGet K c Str.empty && (PySem.W.hasDictIn K c && (PySem.W.plainOver K c && (eqO (findIn K (.ref c) "__setattr__") (some (some (.builtin "object.__setattr__"))) && (eqO (findIn K (.ref c) "__class__") (some (some (.builtin "object.__class__"))) && decide (mroIn K c (.type "object") = some true)))))
def metX (K : Frag) (C : Addr) (m : Str) : Bool := eqO (findIn K (.ref C) m) (some (some (.ref (ma K C m)))) && (isFn K (.ref (ma K C m)) && keepIn K (.ref (ma K C m)))
def mkX (K : Frag) (C : Addr) : Bool := makesIn K C && (keepIn K (.ref C) && (eqO (findIn K (.ref C) "__init__") (some (some (.ref (ma K C "__init__")))) && isFn K (.ref (ma K C "__init__"))))
def gloX (K : Frag) (x : Str) : Bool := eqO (nsIn K mainGlobals x) (some (some (.ref (ga K x))))
def freeX (K : Frag) (x : Str) : Bool := eqO (nsIn K mainGlobals x) (some none)
def intX (K : Frag) (x : Str) (i : Int) : Bool := match nsIn K mainGlobals x with
  | some (some (.int j _)) => decide (j = i)
  | _ => false
theorem int_of {K : Frag} {x : Str} {i : Int} (h : intX K x i = true) : ∃ t, nsIn K mainGlobals x = some (some (.int i t)) := by
  unfold intX at h
  split at h
  · rename_i j t e
    rw [of_decide_eq_true h] at e
    exact ⟨t, e⟩
  · cases h
/-- super() in the method m of the class at D, whose base is at B -/
def supX (K : Frag) (file : Str) (D B : Addr) (m : Str) : Bool :=
  (match K.lookup (cellOf K (ma K D m)) with
    | some ⟨_, _, .cell (some (.ref d)), _⟩ => decide (d = D)
    | _ => false) &&
  ((match K.lookup (codeOf K (ma K D m)) with
    | some ⟨_, _, .fields vs, _⟩ => (match (vs[2]? : Option Value) with
      | some (.str f _) => f == file
      | _ => false)
    | _ => false) &&
  ((clsIn K D).isSome && (decide (mroIn K D (.ref D) = some true) && (eqO (nsIn K cStatics "thirdparty.any") (some none) && (eqO (ks_superIn K D D m) (some (some (.ref (ma K B m)))) && (decide (typeIn K (.ref (ma K B m)) = some (.type "function")) && (fnIn K (ma K B m) && eqO (findIn K (.ref B) m) (some (some (.ref (ma K B m)))))))))))
theorem sup_of {K : Frag} {file : Str} {D B : Addr} {m : Str} (h : supX K file D B m = true) :
    (∃ c d sl, K.lookup (cellOf K (ma K D m)) = some ⟨c, d, .cell (some (.ref D)), sl⟩) ∧ (∃ c d vs sl f t, K.lookup (codeOf K (ma K D m)) = some ⟨c, d, .fields vs, sl⟩ ∧ vs[2]? = some (.str f t) ∧ (f == file) = true) ∧ (∃ cd, clsIn K D = some cd) ∧ mroIn K D (.ref D) = some true ∧ nsIn K cStatics "thirdparty.any" = some none ∧
      ks_superIn K D D m = some (some (.ref (ma K B m))) ∧ typeIn K (.ref (ma K B m)) = some (.type "function") ∧ fnIn K (ma K B m) = true ∧ findIn K (.ref B) m = some (some (.ref (ma K B m))) := by
  unfold supX at h
  obtain ⟨h1, h⟩ := ba h
  obtain ⟨h2, h⟩ := ba h
  obtain ⟨h3, h⟩ := ba h
  obtain ⟨h4, h⟩ := ba h
  obtain ⟨h5, h⟩ := ba h
  obtain ⟨h6, h⟩ := ba h
  obtain ⟨h7, h⟩ := ba h
  obtain ⟨h8, h9⟩ := ba h
  refine ⟨?_, ?_, Option.isSome_iff_exists.mp h3, of_decide_eq_true h4, eqO_ok h5, eqO_ok h6, of_decide_eq_true h7, h8, eqO_ok h9⟩
  · split at h1
    · rename_i c d a sl e
      rw [of_decide_eq_true h1] at e
      exact ⟨_, _, _, e⟩
    · cases h1
  · split at h2
    · rename_i c d vs sl e
      split at h2
      · rename_i f t e2
        exact ⟨_, _, _, _, _, _, e, e2, h2⟩
      · cases h2
    · cases h2
/-! ### tables -/
def tabOf (K : Frag) (f : Addr) : Addr := match K.lookup (codeOf K f) with
  | some ⟨_, _, .fields vs, _⟩ => (match (vs[11]? : Option Value) with
    | some (.ref P) => P
    | _ => 0)
  | _ => 0
/-- the code object of the function at f, its empty table -/
def tabX (g : Addr → Option Obj) (K : Frag) (f : Addr) : Bool := (match K.lookup (codeOf K f) with
  | some ⟨.type c, _, .fields vs, _⟩ => decide (c = "code") && ((match (vs[11]? : Option Value) with
      | some (.ref P) => !decide (codeOf K f = P)
      | _ => false) && ((match vs.getD 18 .none with
      | .str _ _ => true
      | _ => false) && ((match vs.getD 7 .none with
      | .int _ _ => true
      | _ => false) && ((match vs.getD 9 .none with
      | .bool _ => true
      | _ => false) && (match vs.getD 10 .none with
      | .int _ _ => true
      | _ => false)))))
  | _ => false) && (match g (tabOf K f) with
  | some ⟨.none, none, .fields vs, sl⟩ => decide (vs.size = 0) && decide (sl.size = 0)
  | _ => false)
theorem tab_of {h : Heap} {K : Frag} {f : Addr} (X : K.In h) (b : tabX h.get? K f = true) : PySem.W.CodeHd h (codeOf K f) (tabOf K f) ∧ h.get? (tabOf K f) = some (PySem.W.tabObj #[]) := by
  unfold tabX at b
  obtain ⟨b1, b2⟩ := ba b
  constructor
  · split at b1
    · rename_i c d vs sl e
      obtain ⟨c1, b1⟩ := ba b1
      obtain ⟨c2, b1⟩ := ba b1
      obtain ⟨c3, b1⟩ := ba b1
      obtain ⟨c4, b1⟩ := ba b1
      obtain ⟨c5, c6⟩ := ba b1
      have et : tabOf K f = (match (vs[11]? : Option Value) with | some (.ref P) => P | _ => 0) := by
        unfold tabOf
        rw [e]
      split at c2
      · rename_i P e11
        rw [e11] at et
        simp only at et
        rw [et]
        split at c3
        · rename_i s t e18
          split at c4
          · rename_i i ti e7
            split at c5
            · rename_i bb e9
              split at c6
              · rename_i j tj e10
                refine ⟨_, vs, s, t, i, ti, bb, j, tj, X _ _ e, congrArg Value.type (of_decide_eq_true c1), rfl, e11, ?_, e18, e7, e9, e10, ?_⟩
                · rw [Array.getD_eq_getD_getElem?, e11]
                  rfl
                · intro z
                  rw [decide_eq_true z] at c2
                  cases c2
              · cases c6
            · cases c5
          · cases c4
        · cases c3
      · cases c2
    · cases b1
  · split at b2
    · rename_i vs sl e
      obtain ⟨d1, d2⟩ := ba b2
      have e1 : vs = #[] := Array.eq_empty_of_size_eq_zero (of_decide_eq_true d1)
      have e2 : sl = #[] := Array.eq_empty_of_size_eq_zero (of_decide_eq_true d2)
      rw [e, e1, e2]
    · cases b2
/-! ### the Hook -/
abbrev AlX : Type := Bool × List FnX
/-- bs: the bits; fs: the functions' addresses; ts: functions whose tables are looked at -/
def obsX (n : Nat) (bs : Frag → List Bool) (fs : Frag → List Addr) (ts : Frag → List Addr) (g : Addr → Option Obj) : AlX :=
  let K := frX g (asX g n startX)
  (((bs K).all id) && ((ts K).all fun f => tabX g K f), (fs K).map (fnX K))
def hookX (n : Nat) (bs : Frag → List Bool) (fs ts : Frag → List Addr) (vs : List FnX) : PySem.W.Hook where
  α := AlX
  obs := fun s => obsX n bs fs ts s.heap.get?
  val := fun _ => (true, vs)
  says := fun _ h => ∃ K : Frag, K.In h ∧ (∀ b ∈ bs K, b = true) ∧ (fs K).map (fnX K) = vs ∧ ∀ f ∈ ts K, K.lookup (tabOf K f) = none ∧ PySem.W.CodeHd h (codeOf K f) (tabOf K f) ∧ h.get? (tabOf K f) = some (PySem.W.tabObj #[])
  of := fun _ s e => by
    have e1 := congrArg (fun z : AlX => z.1) e
    have e2 := congrArg (fun z : AlX => z.2) e
    obtain ⟨b1, b2⟩ := ba (show (((bs (frX s.heap.get? (asX s.heap.get? n startX))).all id) && ((ts (frX s.heap.get? (asX s.heap.get? n startX))).all fun f => tabX s.heap.get? (frX s.heap.get? (asX s.heap.get? n startX)) f)) = true from e1)
    refine ⟨frX s.heap.get? (asX s.heap.get? n startX), frX_in, fun b hb => List.all_eq_true.mp b1 b hb, e2, fun f hf => ?_⟩
    have t := tab_of frX_in (List.all_eq_true.mp b2 f hf)
    exact ⟨frX_tab (by rw [t.2]; rfl), t.1, t.2⟩
  keeps := fun _ _ _ ⟨K, hK, c1, c2, c3⟩ k => ⟨K, PySem.W.Frag.In.keeps hK k, c1, c2, fun f hf => ⟨(c3 f hf).1, (c3 f hf).2.1.keeps k, k _ _ (c3 f hf).2.2⟩⟩
theorem obsX_eq {n : Nat} {bs : Frag → List Bool} {fs ts : Frag → List Addr} {vs : List FnX} {g : Addr → Option Obj} {s : Shared} (h : ∀ a, g a = s.heap.get? a) : obsX n bs fs ts g = (hookX n bs fs ts vs).obs s := by
  have e : g = s.heap.get? := funext h
  rw [e] <;> rfl
/-- a law: F gives the written part, the tables, the promise over every base -/
theorem walk {l : PySem.W.OpenLaw} {n k : Nat} {q : Program} {loose : List Str} {XP : (Str → Option Value) → Heap → Prop} {YP : World → Heap → Prop} {d : DefRec} {x : Str}
    (hn : l.most = some n) (hn2 : n ≤ sizeLine) (hdf : d.params.defaults = []) (hr : Room k callerA)
    (F : ∀ (w : World) (mg : Str → Option Value) (fa : Addr) (h : Heap), YP w h → h.Ns mainGlobals mg → mg d.name = some (.ref fa) → ∃ K : Frag, K.In h ∧ LamX.LawAtS l w K L2.CX0 k n x mg fa h) :
    PySem.W.WalkO q loose XP YP l.row.toRowW d [] (fun f vs => PySem.call f vs) := by
  refine Att.attach_callB hn hdf fun w s₀ s₁ mg mb fa o pm cd doc a vs ns G Y ho hd hcd hmg hobj hints hlen hbits hg => ?_
  obtain ⟨K, X, fd, cs, sp, t1, t2, t3, t4, t5, t6⟩ := F w mg fa _ Y G.T.g hmg
  exact LamX.law_callTs X G.T.g G.T.b G.T.builtins G.T.nolimit hg t1 t2 t3 G.T.bmain hobj hints (Nat.le_trans hlen hn2) hr t6 t4 (fun H hH hS => t5 H a ns hlen hbits hH hS) fun _ _ _ z => z
end Hx

/-! what the top has written, as existence -/
namespace Ev
open PySem L2 Ax
open PySem.W (nsIn findIn isFn keepIn codeIn makesIn kitOne fnOf ksFn)
def HasDef (K : PySem.W.Frag) (mg : Str → Option Value) (x : Str) (st : Stmt) (ps : List Str) : Prop := ∃ f fd, C8.Def K mg x st f fd ∧ Binds K fd ps []
def HasMet (K : PySem.W.Frag) (C : Addr) (m qual : Str) (st : Stmt) (ps : List Str) : Prop := ∃ f fd, Meth K C m f ∧ C8.Fun K m qual st f fd ∧ Binds K fd ps []
def HasInit (K : PySem.W.Frag) (C : Addr) (qual : Str) (st : Stmt) (ps : List Str) : Prop := ∃ f fd, Mk K C f ∧ C8.Fun K "__init__" qual st f fd ∧ Binds K fd ps []
abbrev BnOk (x qual : Str) (st : Stmt) (ps : List Str) : Prop := ∀ (kV doc pm : Value) (an : Option Addr) (cdv ct : Value) (us : List Value), us.length = ps.length → bindArgs (fnOf x qual (C8.fnArgs st) (C8.fnBody st) (C8.fnScope st) .none kV doc pm an cdv ct) ⟨us, []⟩ = pure (ps.zip us)
section
variable {K : PySem.W.Frag} {h : Heap} {mg : Str → Option Value} {x m qual : Str} {st : Stmt} {ps : List Str} {f C D T : Addr} {oc kV doc pm cdv ct tc : Value} {od an td : Option Addr} {osl tsl : Array (Option Value)}
theorem def_mk (X : K.In h) (G : h.Ns mainGlobals mg) (a : nsIn K mainGlobals x = some (some (.ref f))) (l : K.lookup f = some ⟨oc, od, .func (fnOf x x (C8.fnArgs st) (C8.fnBody st) (C8.fnScope st) .none kV doc pm an cdv ct), osl⟩)
    (c : codeIn K cdv x = true) (k : keepIn K (.ref f) = true) (b : BnOk x x st ps) : HasDef K mg x st ps :=
  have F : C8.Fun K x x st f (fnOf x x (C8.fnArgs st) (C8.fnBody st) (C8.fnScope st) .none kV doc pm an cdv ct) := ⟨oc, od, .none, kV, doc, pm, an, cdv, ct, osl, rfl, l, c⟩
  ⟨f, _, ⟨F, PySem.W.mg_of X G a, k⟩, F.binds rfl b⟩
theorem met_mk (a : findIn K (.ref C) m = some (some (.ref f))) (i : isFn K (.ref f) = true) (l : K.lookup f = some ⟨oc, od, .func (fnOf m qual (C8.fnArgs st) (C8.fnBody st) (C8.fnScope st) .none kV doc pm an cdv ct), osl⟩)
    (c : codeIn K cdv qual = true) (k : keepIn K (.ref f) = true) (b : BnOk m qual st ps) : HasMet K C m qual st ps :=
  have F : C8.Fun K m qual st f (fnOf m qual (C8.fnArgs st) (C8.fnBody st) (C8.fnScope st) .none kV doc pm an cdv ct) := ⟨oc, od, .none, kV, doc, pm, an, cdv, ct, osl, rfl, l, c⟩
  ⟨f, _, ⟨a, i, k⟩, F, F.binds rfl b⟩
theorem init_mk (mk : makesIn K C = true) (kc : keepIn K (.ref C) = true) (a : findIn K (.ref C) "__init__" = some (some (.ref f))) (i : isFn K (.ref f) = true) (l : K.lookup f = some ⟨oc, od, .func (fnOf "__init__" qual (C8.fnArgs st) (C8.fnBody st) (C8.fnScope st) .none kV doc pm an cdv ct), osl⟩)
    (c : codeIn K cdv qual = true) (b : BnOk "__init__" qual st ps) : HasInit K C qual st ps :=
  have F : C8.Fun K "__init__" qual st f (fnOf "__init__" qual (C8.fnArgs st) (C8.fnBody st) (C8.fnScope st) .none kV doc pm an cdv ct) := ⟨oc, od, .none, kV, doc, pm, an, cdv, ct, osl, rfl, l, c⟩
  ⟨f, _, ⟨mk, a, i, kc⟩, F, F.binds rfl b⟩
/-! defaults: a tuple at T -/
end
structure ClsF (K : PySem.W.Frag) (c : Addr) : Prop where
  pg : PySem.W.plainGet K c Str.empty = true
  hd : PySem.W.hasDictIn K c = true
  po : PySem.W.plainOver K c = true
  sa : findIn K (.ref c) "__setattr__" = some (some (.builtin "object.__setattr__"))
  ca : findIn K (.ref c) "__class__" = some (some (.builtin "object.__class__"))
  mo : PySem.W.mroIn K c (.type "object") = some true

def HasDefC (K : PySem.W.Frag) (mg : Str → Option Value) (x : Str) (st : Stmt) (ps : List Str) (c : Addr) : Prop := ∃ f fd, C8.Def K mg x st f fd ∧ Binds K fd ps [] ∧ fd.code = .ref c
def HasMetC (K : PySem.W.Frag) (C : Addr) (m qual : Str) (st : Stmt) (ps : List Str) (c : Addr) : Prop := ∃ f fd, Meth K C m f ∧ C8.Fun K m qual st f fd ∧ Binds K fd ps [] ∧ fd.code = .ref c
theorem metC_mk {K : PySem.W.Frag} {C f c : Addr} {m qual : Str} {st : Stmt} {ps : List Str} {oc kV doc pm ct : Value} {od an : Option Addr} {osl : Array (Option Value)} (a : findIn K (.ref C) m = some (some (.ref f))) (i : isFn K (.ref f) = true)
    (l : K.lookup f = some ⟨oc, od, .func (fnOf m qual (C8.fnArgs st) (C8.fnBody st) (C8.fnScope st) .none kV doc pm an (.ref c) ct), osl⟩) (cc : codeIn K (.ref c) qual = true) (k : keepIn K (.ref f) = true) (b : BnOk m qual st ps) : HasMetC K C m qual st ps c :=
  have F : C8.Fun K m qual st f (fnOf m qual (C8.fnArgs st) (C8.fnBody st) (C8.fnScope st) .none kV doc pm an (.ref c) ct) := ⟨oc, od, .none, kV, doc, pm, an, .ref c, ct, osl, rfl, l, cc⟩
  ⟨f, _, ⟨a, i, k⟩, F, F.binds rfl b, rfl⟩
end Ev

namespace Ev
open PySem L2 Ax
open PySem.W (nsIn findIn isFn keepIn codeIn makesIn fnOf ksFn)
def nafB (K : PySem.W.Frag) (c : Addr) (fl : List Str) : Bool := fl.all fun f => match findIn K (.ref c) f with | some none => true | _ => false
def tyB (K : PySem.W.Frag) (v : Value) : Bool := match PySem.W.typeIn K v with | some (.type s) => s == "type" | _ => false
def bs0 (K : PySem.W.Frag) : List Bool := [Hx.gloX K "Answer",
  Hx.gloX K "Least",
  Hx.gloX K "Nowhere",
  Hx.gloX K "Chart",
  Hx.freeX K "all",
  Hx.freeX K "bool",
  Hx.freeX K "enumerate",
  Hx.freeX K "int",
  Hx.freeX K "isinstance",
  Hx.freeX K "len",
  Hx.freeX K "list",
  Hx.freeX K "max",
  Hx.freeX K "min",
  Hx.freeX K "range",
  Hx.freeX K "repr",
  Hx.freeX K "sum",
  Hx.freeX K "tuple",
  Hx.freeX K "zip",
  Hx.intX K "GROUND" (-1),
  Hx.intX K "MOST_SIZES" (3),
  Hx.intX K "GREATEST_SIZE" (4),
  Hx.intX K "WORTH" (10 ^ 30),
  Hx.ctyX K (He.ga K "Chart"),
  nafB K (He.ga K "Chart") ["table"],
  Hx.ctyX K (He.ga K "Least"),
  nafB K (He.ga K "Least") ["lowest", "highest", "total"],
  Hx.ctyX K (He.ga K "Nowhere"),
  nafB K (He.ga K "Nowhere") ["demands"],
  He.eqO (PySem.W.specialIn K (.builtin "object.__class__") "__get__") (some (some (.builtin "getset_descriptor.__get__"))),
  decide (PySem.W.takesIn K (.builtin "object.__class__") = some true)]
def bs1 (K : PySem.W.Frag) : List Bool := [decide (PySem.W.kitOne K (.ref (He.ga K "Least")) (.ref (He.ga K "Answer")) = some true),
  decide (PySem.W.kitOne K (.ref (He.ga K "BadPoint")) (.ref (He.ga K "BadPoint")) = some true),
  decide (PySem.W.kitOne K (.ref (He.ga K "BadPoint")) (.ref (He.ga K "BadChart")) = some false),
  decide (PySem.W.kitOne K (.ref (He.ga K "BadChart")) (.ref (He.ga K "BadPoint")) = some false),
  decide (PySem.W.kitOne K (.ref (He.ga K "BadChart")) (.ref (He.ga K "BadChart")) = some true),
  Hx.gloX K "BendError",
  Hx.gloX K "BadPoint",
  PySem.W.excIn K (He.ga K "BadPoint") [.type "ValueError", .type "Exception", .type "BaseException", .type "object"] "ValueError.__new__",
  PySem.W.keepIn K (.ref (He.ga K "BadPoint")),
  decide (PySem.W.subIn K (.ref (He.ga K "BadPoint")) (.type "BaseException") = some true),
  tyB K (.ref (He.ga K "BadPoint")),
  decide (PySem.W.exmOne K (.ref (He.ga K "BadPoint")) (.ref (He.ga K "BendError")) = some true),
  He.eqO (PySem.W.findIn K (.ref (He.ga K "BadPoint")) "__getattribute__") (some (some (.builtin "BaseException.__getattribute__"))),
  He.eqO (PySem.W.findIn K (.ref (He.ga K "BadPoint")) "__getattr__") (some none),
  PySem.W.hasDictIn K (He.ga K "BadPoint"),
  He.eqO (PySem.W.findIn K (.ref (He.ga K "BadPoint")) "__class__") (some (some (.builtin "object.__class__"))),
  decide (PySem.W.mroIn K (He.ga K "BadPoint") (.type "object") = some true),
  Hx.gloX K "BadChart",
  PySem.W.excIn K (He.ga K "BadChart") [.type "ValueError", .type "Exception", .type "BaseException", .type "object"] "ValueError.__new__",
  PySem.W.keepIn K (.ref (He.ga K "BadChart")),
  decide (PySem.W.subIn K (.ref (He.ga K "BadChart")) (.type "BaseException") = some true),
  tyB K (.ref (He.ga K "BadChart")),
  decide (PySem.W.exmOne K (.ref (He.ga K "BadChart")) (.ref (He.ga K "BendError")) = some true),
  He.eqO (PySem.W.findIn K (.ref (He.ga K "BadChart")) "__getattribute__") (some (some (.builtin "BaseException.__getattribute__"))),
  He.eqO (PySem.W.findIn K (.ref (He.ga K "BadChart")) "__getattr__") (some none),
  PySem.W.hasDictIn K (He.ga K "BadChart"),
  He.eqO (PySem.W.findIn K (.ref (He.ga K "BadChart")) "__class__") (some (some (.builtin "object.__class__"))),
  decide (PySem.W.mroIn K (He.ga K "BadChart") (.type "object") = some true),
  Hx.gloX K "is_number" && (PySem.W.keepIn K (.ref (He.ga K "is_number")) && Hx.defX K (He.ga K "is_number") "is_number" []),
  Hx.gloX K "is_number_from" && (PySem.W.keepIn K (.ref (He.ga K "is_number_from")) && Hx.defX K (He.ga K "is_number_from") "is_number_from" [])]
def bs2 (K : PySem.W.Frag) : List Bool := [Hx.gloX K "points_below" && (PySem.W.keepIn K (.ref (He.ga K "points_below")) && Hx.defX K (He.ga K "points_below") "points_below" []),
  Hx.gloX K "check_sizes" && (PySem.W.keepIn K (.ref (He.ga K "check_sizes")) && Hx.defX K (He.ga K "check_sizes") "check_sizes" []),
  Hx.gloX K "check_worths" && (PySem.W.keepIn K (.ref (He.ga K "check_worths")) && Hx.defX K (He.ga K "check_worths") "check_worths" []),
  Hx.gloX K "halves" && (PySem.W.keepIn K (.ref (He.ga K "halves")) && Hx.defX K (He.ga K "halves") "halves" []),
  Hx.gloX K "check_bends" && (PySem.W.keepIn K (.ref (He.ga K "check_bends")) && Hx.defX K (He.ga K "check_bends") "check_bends" []),
  Hx.gloX K "_law_cell_at" && (PySem.W.keepIn K (.ref (He.ga K "_law_cell_at")) && Hx.defX K (He.ga K "_law_cell_at") "_law_cell_at" []),
  Hx.gloX K "_law_points" && (PySem.W.keepIn K (.ref (He.ga K "_law_points")) && Hx.defX K (He.ga K "_law_points") "_law_points" []),
  Hx.gloX K "_law_bad" && (PySem.W.keepIn K (.ref (He.ga K "_law_bad")) && Hx.defX K (He.ga K "_law_bad") "_law_bad" []),
  Hx.gloX K "_law_spoilt" && (PySem.W.keepIn K (.ref (He.ga K "_law_spoilt")) && Hx.defX K (He.ga K "_law_spoilt") "_law_spoilt" []),
  Hx.gloX K "_law_sort" && (PySem.W.keepIn K (.ref (He.ga K "_law_sort")) && Hx.defX K (He.ga K "_law_sort") "_law_sort" []),
  Hx.gloX K "_law_bad_sizes" && (PySem.W.keepIn K (.ref (He.ga K "_law_bad_sizes")) && Hx.defX K (He.ga K "_law_bad_sizes") "_law_bad_sizes" []),
  Hx.gloX K "_law_copies" && (PySem.W.keepIn K (.ref (He.ga K "_law_copies")) && Hx.defX K (He.ga K "_law_copies") "_law_copies" []),
  Hx.gloX K "law" && (PySem.W.keepIn K (.ref (He.ga K "law")) && Hx.defX K (He.ga K "law") "law" []),
  Hx.mkX K (He.ga K "Least") && Hx.defX K (He.ma K (He.ga K "Least") "__init__") "Least.__init__" [],
  Hx.mkX K (He.ga K "Nowhere") && Hx.defX K (He.ma K (He.ga K "Nowhere") "__init__") "Nowhere.__init__" [],
  Hx.mkX K (He.ga K "Chart") && Hx.defX K (He.ma K (He.ga K "Chart") "__init__") "Chart.__init__" [],
  Hx.metX K (He.ga K "Chart") "worth" && Hx.defX K (He.ma K (He.ga K "Chart") "worth") "Chart.worth" []]
def bsX (K : PySem.W.Frag) : List Bool := bs0 K ++ (bs1 K ++ (bs2 K))
def fs0 (K : PySem.W.Frag) : List Addr := [(He.ga K "is_number"), (He.ga K "is_number_from"), (He.ga K "points_below"), (He.ga K "check_sizes"), (He.ga K "check_worths"), (He.ga K "halves"), (He.ga K "check_bends"), (He.ga K "_law_cell_at"), (He.ga K "_law_points"), (He.ga K "_law_bad"), (He.ga K "_law_spoilt"), (He.ga K "_law_sort"), (He.ga K "_law_bad_sizes"), (He.ga K "_law_copies"), (He.ga K "law"), (He.ma K (He.ga K "Least") "__init__"), (He.ma K (He.ga K "Nowhere") "__init__"), (He.ma K (He.ga K "Chart") "__init__"), (He.ma K (He.ga K "Chart") "worth")]
def vs0 : List Hx.FnX := [Hx.valX "is_number" "is_number" s_is_number [], Hx.valX "is_number_from" "is_number_from" s_is_number_from [], Hx.valX "points_below" "points_below" s_points_below [], Hx.valX "check_sizes" "check_sizes" s_check_sizes [], Hx.valX "check_worths" "check_worths" s_check_worths [], Hx.valX "halves" "halves" s_halves [], Hx.valX "check_bends" "check_bends" s_check_bends [], Hx.valX "_law_cell_at" "_law_cell_at" s_law_cell_at [], Hx.valX "_law_points" "_law_points" s_law_points [], Hx.valX "_law_bad" "_law_bad" s_law_bad [], Hx.valX "_law_spoilt" "_law_spoilt" s_law_spoilt [], Hx.valX "_law_sort" "_law_sort" s_law_sort [], Hx.valX "_law_bad_sizes" "_law_bad_sizes" s_law_bad_sizes [], Hx.valX "_law_copies" "_law_copies" s_law_copies [], Hx.valX "law" "law" s_law [], Hx.valX "__init__" "Least.__init__" s_Least_init [], Hx.valX "__init__" "Nowhere.__init__" s_Nowhere_init [], Hx.valX "__init__" "Chart.__init__" s_Chart_init [], Hx.valX "worth" "Chart.worth" s_Chart_worth []]
def fsX (K : PySem.W.Frag) : List Addr := fs0 K
def vsX : List Hx.FnX := vs0
def tsX (K : PySem.W.Frag) : List Addr := [(He.ma K (He.ga K "Chart") "worth")]
end Ev

/-! the head by several kernel runs, each with a part of what is looked at: so each stays small -/
namespace Hx
open PySem PySem.W PySem.Calls PyProof.Rows HandSHeadRun
noncomputable def endY (r : OpenRow) (M : Nat) (w : World) (os : OsState) : Option SharedT := endF (stepQ (denQ tabQ) r.prog w) M r.prog w os
def KY (n : Nat) (s : SharedT) : Frag := frX (getT s) (asX (getT s) n startX)
noncomputable def seenY (r : OpenRow) (q : Program) (loose : List PySem.Str) (w : World) (s : SharedT) := (looksF r.prog (boot_heap w.params) s.abs, seenQ q loose (importedModules r.prog.main.body) (fun s => xlAt q [] s && recOk r.toRowW.records s) s.abs)
theorem of_map {α β : Type} {E : Option α} {f : α → β} {b : β} (h : E.map f = some b) {s : α} (e : E = some s) : f s = b := by
  rw [e] at h
  exact Option.some.inj h
theorem run_join {r : OpenRow} {q : Program} {n : Nat} {bs : Frag → List Bool} {fs ts : Frag → List Addr} {vs : List FnX} {M : Nat} {loose : List PySem.Str} {w : World}
    (h0 : ∀ os, (endY r M w os).map (fun s => seenY r q loose w s) = some (true, openGood q loose))
    (h : ∀ os s, endY r M w os = some s → (bs (KY n s)).all id = true ∧ (fs (KY n s)).map (fnX (KY n s)) = vs ∧ ((ts (KY n s)).all fun f => tabX (getT s) (KY n s) f) = true) : RunEq r q (hookX n bs fs ts vs) (fun s => obsX n bs fs ts (getT s)) M loose w := by
  intro os
  have z := h0 os
  show (endY r M w os).map _ = _
  cases e : endY r M w os with
  | none => rw [e] at z; cases z
  | some s =>
    rw [e] at z
    obtain ⟨a, b, c⟩ := h os s e
    have z2 : (looksF r.prog (boot_heap w.params) s.abs, seenQ q loose (importedModules r.prog.main.body) (fun s => xlAt q [] s && recOk r.toRowW.records s) s.abs) = (true, openGood q loose) := Option.some.inj z
    have z3 := congrArg Prod.fst z2
    have z4 := congrArg Prod.snd z2
    show some (looksF r.prog (boot_heap w.params) s.abs, seenQ q loose (importedModules r.prog.main.body) (fun s => xlAt q [] s && recOk r.toRowW.records s) s.abs, obsX n bs fs ts (getT s)) = some (true, openGood q loose, (true, vs))
    have e3 : looksF r.prog (boot_heap w.params) s.abs = true := z3
    have e4 : seenQ q loose (importedModules r.prog.main.body) (fun s => xlAt q [] s && recOk r.toRowW.records s) s.abs = openGood q loose := z4
    have e5 : obsX n bs fs ts (getT s) = (true, vs) := by
      show (((bs (KY n s)).all id) && ((ts (KY n s)).all fun f => tabX (getT s) (KY n s) f), (fs (KY n s)).map (fnX (KY n s))) = _
      rw [a, b, c]
      rfl
    rw [e3, e4, e5]
theorem all_app {a b : List Bool} (h1 : a.all id = true) (h2 : b.all id = true) : (a ++ b).all id = true := by
  rw [List.all_append, h1, h2]
  rfl
theorem map_app {α β : Type} {f : α → β} {a b : List α} {c d : List β} (h1 : a.map f = c) (h2 : b.map f = d) : (a ++ b).map f = c ++ d := by
  rw [List.map_append, h1, h2]
end Hx

namespace Ev
open PySem PySem.W PySem.Calls PyProof.Rows
abbrev RX : OpenRow := OpenLaw.row PySem.Challenge.rw_evenbend_k21_whole_bad_points
def nm0 : List PySem.Str := [("GROUND" : PySem.Str), ("demands_within" : PySem.Str), ("hall_demands" : PySem.Str), ("is_ring" : PySem.Str), ("all_asked" : PySem.Str), ("is_number" : PySem.Str), ("is_number_from" : PySem.Str), ("Answer" : PySem.Str), ("Least" : PySem.Str), ("Nowhere" : PySem.Str), ("BendError" : PySem.Str), ("BadPoint" : PySem.Str), ("BadChart" : PySem.Str), ("Crooked" : PySem.Str), ("MOST_SIZES" : PySem.Str), ("GREATEST_SIZE" : PySem.Str), ("WORTH" : PySem.Str), ("points_below" : PySem.Str), ("check_sizes" : PySem.Str), ("check_worths" : PySem.Str), ("halves" : PySem.Str), ("check_bends" : PySem.Str), ("Chart" : PySem.Str), ("_law_cell_at" : PySem.Str), ("_law_points" : PySem.Str), ("_law_bad" : PySem.Str), ("_law_spoilt" : PySem.Str), ("_law_sort" : PySem.Str), ("_law_bad_sizes" : PySem.Str), ("_law_copies" : PySem.Str)]
def nmX : List PySem.Str := nm0
abbrev hkX : Hook := Hx.hookX 4 bsX fsX tsX vsX
def obX (s : SharedT) : Hx.AlX := Hx.obsX 4 bsX fsX tsX (HandSHeadRun.getT s)
theorem obX_eq (s : SharedT) : obX s = hkX.obs s.abs := Hx.obsX_eq (HandSHeadRun.getT_eq s)
theorem run0 (w : World) (os : OsState) : (Hx.endY RX 16000 w os).map (fun s => Hx.seenY RX (view RX.prog [36]) nmX w s) = some (true, openGood (view RX.prog [36]) nmX) := by
  kernel_rfl
theorem runB0 (w : World) (os : OsState) : (Hx.endY RX 16000 w os).map (fun s => (bs0 (Hx.KY 4 s)).all id && (bs1 (Hx.KY 4 s)).all id) = some true := by
  kernel_rfl
theorem runB1 (w : World) (os : OsState) : (Hx.endY RX 16000 w os).map (fun s => (bs2 (Hx.KY 4 s)).all id && ((tsX (Hx.KY 4 s)).all fun f => Hx.tabX (HandSHeadRun.getT s) (Hx.KY 4 s) f)) = some true := by
  kernel_rfl
theorem runF0 (w : World) (os : OsState) : (Hx.endY RX 16000 w os).map (fun s => ((fs0 (Hx.KY 4 s)).map (Hx.fnX (Hx.KY 4 s)))) = some (vs0) := by
  kernel_rfl
theorem runX (w : World) : HandSHeadRun.RunEq RX (view RX.prog [36]) hkX obX 16000 nmX w :=
  Hx.run_join (fun os => run0 w os) fun os s e => ⟨(Hx.all_app (He.ba (Hx.of_map (runB0 w os) e)).1 (Hx.all_app (He.ba (Hx.of_map (runB0 w os) e)).2 (He.ba (Hx.of_map (runB1 w os) e)).1)),
    (Hx.of_map (runF0 w os) e),
    (He.ba (Hx.of_map (runB1 w os) e)).2⟩

end Ev

/-! what the law draws, as data: a base part, and its wraps from without -/
namespace Ev
open PySem L2 Ax

abbrev Wr := List (Bool × Int)
def wrap1 (w : Bool × Int) (q : PD) : PD := if w.1 then .times q w.2 else .moved q w.2
def wrap (wr : Wr) (b : PD) : PD := wr.foldr wrap1 b
def PD.base : PD → Prop
  | .times .. => False
  | .moved .. => False
  | _ => True
def PD.word : PD → Str
  | .slope .. => "slope" | .aim .. => "aim" | .square .. => "square" | .row .. => "row" | .wall .. => "wall"
  | .near .. => "near" | .gaps .. => "gaps" | .ahead .. => "ahead" | .times .. => "" | .moved .. => ""
def wrW (t : Bool) : Str := if t then "times" else "moved"
/-- one turn of the loop over the wraps, on what is many times and what is read -/
def wstep (s : Int × Int) (w : Bool × Int) : Int × Int := if w.1 then (s.1 * w.2, s.2) else (s.1, s.2 - w.2)
theorem wraps_wrap (b : PD) (hb : b.base) : ∀ wr : Wr, (wrap wr b).wraps = wr.length
  | [] => by
    show b.wraps = 0
    cases b <;> first | rfl | exact hb.elim
  | w :: r => by
    show (wrap1 w (wrap r b)).wraps = r.length + 1
    unfold wrap1
    cases w.1 <;> exact congrArg (· + 1) (wraps_wrap b hb r)
theorem stands_wrap (b : PD) : ∀ wr : Wr, (wrap wr b).stands = b.stands
  | [] => rfl
  | w :: r => by
    show (wrap1 w (wrap r b)).stands = _
    unfold wrap1
    cases w.1 <;> exact stands_wrap b r
theorem map_mul (o : Option Int) (a c : Int) : (o.map fun y => a * y).map (fun y => c * y) = o.map fun y => (c * a) * y := by
  cases o with
  | none => rfl
  | some y => show some (c * (a * y)) = some (c * a * y); rw [Int.mul_assoc]
theorem worth_wrap (b : PD) : ∀ (wr : Wr) (m x : Int), ((wrap wr b).worth x).map (fun y => m * y) = (b.worth (wr.foldl wstep (m, x)).2).map (fun y => (wr.foldl wstep (m, x)).1 * y)
  | [], _, _ => rfl
  | (true, n) :: r, m, x => by
    show ((PD.times (wrap r b) n).worth x).map (fun y => m * y) = _
    rw [show (PD.times (wrap r b) n).worth x = ((wrap r b).worth x).map fun y => n * y from rfl, map_mul]
    exact worth_wrap b r (m * n) x
  | (false, n) :: r, m, x => by
    show ((PD.moved (wrap r b) n).worth x).map (fun y => m * y) = _
    rw [show (PD.moved (wrap r b) n).worth x = (wrap r b).worth (x - n) from rfl]
    exact worth_wrap b r m (x - n)
theorem worth_wrap1 (b : PD) (wr : Wr) (x : Int) : (wrap wr b).worth x = (b.worth (wr.foldl wstep (1, x)).2).map (fun y => (wr.foldl wstep (1, x)).1 * y) := by
  rw [← worth_wrap]
  cases (wrap wr b).worth x with
  | none => rfl
  | some y => show some y = some (1 * y); rw [Int.one_mul]
/-- the wraps are small -/
def WrOk (wr : Wr) : Prop := wr.length ≤ 8 ∧ ∀ w ∈ wr, -100 ≤ w.2 ∧ w.2 ≤ 100 ∧ (w.1 = true → 1 ≤ w.2)
theorem WrOk.tail {w : Bool × Int} {r : Wr} (h : WrOk (w :: r)) : WrOk r := ⟨Nat.le_trans (Nat.le_succ _) h.1, fun v hv => h.2 v (List.mem_cons_of_mem _ hv)⟩
theorem ok_wrap {b : PD} (hb : b.base) (h : b.ok) : ∀ {wr : Wr}, WrOk wr → (wrap wr b).ok
  | [], _ => h
  | (t, n) :: r, hw => by
    have ih := ok_wrap hb h hw.tail
    have l : (wrap r b).wraps < 8 := by
      rw [wraps_wrap b hb]
      exact hw.1
    obtain ⟨h1, h2, h3⟩ := hw.2 _ List.mem_cons_self
    cases t with
    | true => exact ⟨ih, l, h3 rfl, h2⟩
    | false => exact ⟨ih, l, h1, h2⟩
/-- reading stays near: wraps move by at most 100 each -/
theorem wfold_read : ∀ (wr : Wr) (m x : Int), (∀ w ∈ wr, -100 ≤ w.2 ∧ w.2 ≤ 100) → -(100 * (wr.length : Int)) ≤ (wr.foldl wstep (m, x)).2 - x ∧ (wr.foldl wstep (m, x)).2 - x ≤ 100 * (wr.length : Int)
  | [], m, x, _ => by simp
  | (t, n) :: r, m, x, h => by
    have h1 := h _ List.mem_cons_self
    have h2 := fun w hw => h w (List.mem_cons_of_mem _ hw)
    have h1' : -100 ≤ n ∧ n ≤ 100 := h1
    rw [List.foldl_cons, List.length_cons]
    cases t with
    | true =>
      have ih := wfold_read r (m * n) x h2
      rw [show wstep (m, x) (true, n) = (m * n, x) from rfl]
      omega
    | false =>
      have ih := wfold_read r m (x - n) h2
      rw [show wstep (m, x) (false, n) = (m, x - n) from rfl]
      omega

/-! how the law's part stands in the heap -/
def NumAt (H : Hp) : PD → Addr → Prop
  | .slope _ w, a => H a = some (.lst [.int w])
  | .aim _ b w, a => H a = some (.lst [.int b, .int w])
  | .square _ b w, a => H a = some (.lst [.int b, .int w])
  | .row _ f ws, a => ∃ l, H a = some (.lst [.int f, .ref l]) ∧ H l = some (.lst (ws.map V.int))
  | .wall _ lo hi, a => H a = some (.lst [.int lo, .int hi])
  | .near _ _ b w, a => H a = some (.lst [.int b, .int w])
  | .gaps _ _ f ws, a => ∃ l, H a = some (.lst [.int f, .ref l]) ∧ H l = some (.lst (ws.map V.int))
  | .ahead _ _ g, a => H a = some (.lst [.int g])
  | _, _ => False
theorem NumAt.same {H H' : Hp} (s : Same H H') : ∀ {b : PD} {a : Addr}, NumAt H b a → NumAt H' b a
  | .slope .., _, h => s _ _ h
  | .aim .., _, h => s _ _ h
  | .square .., _, h => s _ _ h
  | .row .., _, ⟨l, h, h2⟩ => ⟨l, s _ _ h, s _ _ h2⟩
  | .wall .., _, h => s _ _ h
  | .near .., _, h => s _ _ h
  | .gaps .., _, ⟨l, h, h2⟩ => ⟨l, s _ _ h, s _ _ h2⟩
  | .ahead .., _, h => s _ _ h
/-- the wraps: tuples of a word and a number -/
def wrV (H : Hp) (w : Bool × Int) (v : V) : Prop := ∃ t, v = .ref t ∧ H t = some (.tup [.str (wrW w.1), .int w.2])
structure WrAt (H : Hp) (wr : Wr) (a : Addr) (vs : List V) : Prop where
  at_ : H a = some (.lst vs)
  len : vs.length = wr.length
  all : ∀ (i : Nat) (w : Bool × Int) (v : V), wr[i]? = some w → vs[i]? = some v → wrV H w v
theorem wrV.same {H H' : Hp} (s : Same H H') {w : Bool × Int} {v : V} (h : wrV H w v) : wrV H' w v := by
  obtain ⟨t, e, h⟩ := h
  exact ⟨t, e, s _ _ h⟩
theorem WrAt.same {H H' : Hp} (s : Same H H') {wr : Wr} {a : Addr} {vs : List V} (h : WrAt H wr a vs) : WrAt H' wr a vs := ⟨s _ _ h.at_, h.len, fun i w v e1 e2 => (h.all i w v e1 e2).same s⟩
/-- a law's part at a: (word, places, numbers, wraps) -/
structure LAt (H : Hp) (b : PD) (wr : Wr) (a : Addr) (wl nl rl : Addr) (vs : List V) : Prop where
  base : b.base
  at_ : H a = some (.tup [.str b.word, .ref wl, .ref nl, .ref rl])
  wh : H wl = some (.lst (b.stands.map V.int))
  num : NumAt H b nl
  wr : WrAt H wr rl vs
theorem LAt.same {H H' : Hp} (s : Same H H') {b : PD} {wr : Wr} {a wl nl rl : Addr} {vs : List V} (h : LAt H b wr a wl nl rl vs) : LAt H' b wr a wl nl rl vs := ⟨h.base, s _ _ h.at_, s _ _ h.wh, h.num.same s, h.wr.same s⟩

/-- a new object, its heap by what it keeps -/
theorem newO {H : Hp} {o : HO} {Q : V → Hp → Prop} (h : ∀ (p : Addr) (H' : Hp), Same H H' → H p = none → H' p = some o → Q (.ref p) H') : ∀ p, H p = none → Q (.ref p) (upd H p o) := fun p hp => h p _ (Same.upd hp) hp upd_same
end Ev

/-! the law's plain halls -/
namespace Ev
open PySem L2 Ax
theorem yes_go {σ : L2.St} {H : Hp} {A B : Hp → Prop} (h : A H) : tYes σ H (fun b H3 => if b = true then A H3 else B H3) := by
  show (if true = true then A H else B H)
  exact iteT h
structure LP where
  b : PD
  wr : Wr
def LP.pd (x : LP) : PD := wrap x.wr x.b
/-- what the law draws of wraps -/
def WrGood3 (wr : Wr) : Prop := WrOk wr ∧ wr.length ≤ 3 ∧ ∀ w ∈ wr, w.1 = false → -3 ≤ w.2 ∧ w.2 ≤ 3
structure LP.good (many : Int) (x : LP) : Prop where
  ok : x.b.ok
  wr : WrGood3 x.wr
  pl : ∀ s ∈ x.b.stands, s < many
def LPAt (H : Hp) (x : LP) (a : Addr) : Prop := ∃ wl nl rl vs, LAt H x.b x.wr a wl nl rl vs
theorem LAt.smt {H H' : Hp} (s : SmT H H') {b : PD} {wr : Wr} {a wl nl rl : Addr} {vs : List V} (h : LAt H b wr a wl nl rl vs) : LAt H' b wr a wl nl rl vs := by
  refine ⟨h.base, s.tup h.at_, s.lst h.wh, ?_, ⟨s.lst h.wr.at_, h.wr.len, fun i w v e1 e2 => ?_⟩⟩
  · have n := h.num
    cases b with
    | slope => exact s.lst n
    | aim => exact s.lst n
    | square => exact s.lst n
    | row => obtain ⟨l, h1, h2⟩ := n; exact ⟨l, s.lst h1, s.lst h2⟩
    | wall => exact s.lst n
    | near => exact s.lst n
    | gaps => obtain ⟨l, h1, h2⟩ := n; exact ⟨l, s.lst h1, s.lst h2⟩
    | ahead => exact s.lst n
    | times => exact h.base.elim
    | moved => exact h.base.elim
  · obtain ⟨t, e, z⟩ := h.wr.all i w v e1 e2
    exact ⟨t, e, s.tup z⟩
theorem LPAt.smt {H H' : Hp} (s : SmT H H') {x : LP} {a : Addr} (h : LPAt H x a) : LPAt H' x a := by
  obtain ⟨wl, nl, rl, vs, h⟩ := h
  exact ⟨wl, nl, rl, vs, h.smt s⟩
structure LPsAt (H : Hp) (xs : List LP) (as : List Addr) : Prop where
  len : as.length = xs.length
  all : ∀ (i : Nat) (x : LP) (a : Addr), xs[i]? = some x → as[i]? = some a → LPAt H x a
theorem LPsAt.smt {H H' : Hp} (s : SmT H H') {xs : List LP} {as : List Addr} (h : LPsAt H xs as) : LPsAt H' xs as := ⟨h.len, fun i x a e1 e2 => (h.all i x a e1 e2).smt s⟩
theorem LPsAt.nil {H : Hp} : LPsAt H [] [] := ⟨rfl, fun i x a e _ => by simp at e⟩
theorem getElem?_snoc {α : Type} {l : List α} {x y : α} {i : Nat} (h : (l ++ [x])[i]? = some y) : (i < l.length ∧ l[i]? = some y) ∨ (i = l.length ∧ y = x) := by
  by_cases hi : i < l.length
  · rw [List.getElem?_append_left hi] at h
    exact .inl ⟨hi, h⟩
  · rw [List.getElem?_append_right (by omega)] at h
    by_cases h2 : i = l.length
    · rw [h2, Nat.sub_self] at h
      exact .inr ⟨h2, (Option.some.inj h).symm⟩
    · rw [List.getElem?_eq_none_iff.mpr (by simp; omega)] at h
      cases h
theorem LPsAt.snoc {H : Hp} {xs : List LP} {as : List Addr} {x : LP} {a : Addr} (h : LPsAt H xs as) (hx : LPAt H x a) : LPsAt H (xs ++ [x]) (as ++ [a]) := by
  refine ⟨by rw [List.length_append, List.length_append, h.len]; rfl, fun i y b e1 e2 => ?_⟩
  rcases getElem?_snoc e1 with ⟨h1, e1⟩ | ⟨h1, rfl⟩
  · rcases getElem?_snoc e2 with ⟨h2, e2⟩ | ⟨h2, rfl⟩
    · exact h.all i y b e1 e2
    · have := h.len
      omega
  · rcases getElem?_snoc e2 with ⟨h2, e2⟩ | ⟨h2, rfl⟩
    · have := h.len
      omega
    · exact hx
theorem PartsAt.nil {C : Str → Addr} {H : Hp} : PartsAt C H [] [] := ⟨rfl, fun i x a e _ => by simp at e⟩
theorem PartsAt.snoc {C : Str → Addr} {H : Hp} {xs : List PD} {as : List Addr} {x : PD} {a : Addr} (h : PartsAt C H xs as) (hx : PartAt C H x a) : PartsAt C H (xs ++ [x]) (as ++ [a]) := by
  refine ⟨by rw [List.length_append, List.length_append, h.len]; rfl, fun i y b e1 e2 => ?_⟩
  rcases getElem?_snoc e1 with ⟨h1, e1⟩ | ⟨h1, rfl⟩
  · rcases getElem?_snoc e2 with ⟨h2, e2⟩ | ⟨h2, rfl⟩
    · exact h.all i y b e1 e2
    · have := h.len
      omega
  · rcases getElem?_snoc e2 with ⟨h2, e2⟩ | ⟨h2, rfl⟩
    · have := h.len
      omega
    · exact hx
/-- the law's plain hall: its low, high, parts -/
structure PlainAt (H : Hp) (lo hi : Int) (xs : List LP) (pl ll : Addr) (as : List Addr) : Prop where
  at_ : H pl = some (.lst [.int lo, .int hi, .ref ll])
  lst : H ll = some (.lst (as.map V.ref))
  parts : LPsAt H xs as
theorem PlainAt.smt {H H' : Hp} (s : SmT H H') {lo hi : Int} {xs : List LP} {pl ll : Addr} {as : List Addr} (h : PlainAt H lo hi xs pl ll as) : PlainAt H' lo hi xs pl ll as := ⟨s.lst h.at_, s.lst h.lst, h.parts.smt s⟩
/-- a plain hall that the law draws -/
structure PlainOk (many lo hi : Int) (xs : List LP) : Prop where
  m1 : 1 ≤ many
  m8 : many ≤ 8
  l : -3 ≤ lo
  l0 : lo ≤ 0
  lh : lo ≤ hi
  u : hi ≤ 40
  n : xs.length ≤ 25
  good : ∀ x ∈ xs, x.good many
def mkHD (many lo hi : Int) (xs : List LP) : HD := ⟨many, lo, hi, xs.map LP.pd⟩
theorem base_wraps {b : PD} (h : b.base) : b.wraps = 0 := by cases b <;> first | rfl | exact h.elim
theorem stands_nonneg : ∀ {b : PD}, b.ok → ∀ s ∈ b.stands, 0 ≤ s
  | .slope .., h, s, hs => by simp [PD.stands] at hs; rw [hs]; exact h.1.1
  | .aim .., h, s, hs => by simp [PD.stands] at hs; rw [hs]; exact h.1.1
  | .square .., h, s, hs => by simp [PD.stands] at hs; rw [hs]; exact h.1.1
  | .row .., h, s, hs => by simp [PD.stands] at hs; rw [hs]; exact h.1.1
  | .wall .., h, s, hs => by simp [PD.stands] at hs; rw [hs]; exact h.1.1
  | .near .., h, s, hs => by simp [PD.stands] at hs; rcases hs with e | e <;> rw [e]; exact h.1.1; exact h.2.1.1
  | .gaps .., h, s, hs => by simp [PD.stands] at hs; rcases hs with e | e <;> rw [e]; exact h.1.1; exact h.2.1.1
  | .ahead .., h, s, hs => by simp [PD.stands] at hs; rcases hs with e | e <;> rw [e]; exact h.1.1; exact h.2.1.1
  | .times q _, h, s, hs => stands_nonneg (b := q) h.1 s hs
  | .moved q _, h, s, hs => stands_nonneg (b := q) h.1 s hs
theorem mkHD_ok {H : Hp} {many lo hi : Int} {xs : List LP} {as : List Addr} (P : PlainOk many lo hi xs) (h : LPsAt H xs as) : (mkHD many lo hi xs).ok := by
  have base : ∀ x ∈ xs, x.b.base := fun x hx => by
    obtain ⟨i, hi⟩ := List.mem_iff_getElem?.mp hx
    have hl := (List.getElem?_eq_some_iff.mp hi).1
    obtain ⟨_, _, _, _, z⟩ := h.all i x _ hi (List.getElem?_eq_getElem (by rw [h.len]; exact hl))
    exact z.base
  have mem : ∀ p ∈ xs.map LP.pd, ∃ x ∈ xs, p = x.pd := fun p hp => by
    obtain ⟨x, hx, e⟩ := List.mem_map.mp hp
    exact ⟨x, hx, e.symm⟩
  have l := P.l
  have lh := P.lh
  have u := P.u
  have n := P.n
  refine ⟨P.m1, P.m8, lh, by show -50 ≤ lo; omega, by show hi ≤ 50; omega, by show (xs.map LP.pd).length ≤ 25; rw [List.length_map]; omega, fun p hp => ?_, fun p hp => ?_, fun p hp s hs => ?_⟩
  · obtain ⟨x, hx, rfl⟩ := mem p hp
    have g := P.good x hx
    exact ok_wrap (base x hx) g.ok g.wr.1
  · obtain ⟨x, hx, rfl⟩ := mem p hp
    have g := P.good x hx
    show (wrap x.wr x.b).wraps ≤ 8
    rw [wraps_wrap _ (base x hx)]
    exact g.wr.1.1
  · obtain ⟨x, hx, rfl⟩ := mem p hp
    have g := P.good x hx
    have e : (LP.pd x).stands = x.b.stands := stands_wrap x.b x.wr
    rw [e] at hs
    exact ⟨stands_nonneg g.ok s hs, g.pl s hs⟩
theorem readPD_wrap (b : PD) (wr : Wr) (x : List Int) : readPD (wrap wr b) x = readPD b x := by
  unfold readPD
  rw [stands_wrap]
/-- a plain hall of wider bounds -/
structure LP.goodW (many : Int) (x : LP) : Prop where
  ok : x.b.ok
  wr : WrOk x.wr
  pl : ∀ s ∈ x.b.stands, s < many
structure PlainW (many lo hi : Int) (xs : List LP) : Prop where
  m1 : 1 ≤ many
  m8 : many ≤ 8
  l : -50 ≤ lo
  lh : lo ≤ hi
  u : hi ≤ 50
  n : xs.length ≤ 25
  good : ∀ x ∈ xs, x.goodW many
theorem LP.good.w {many : Int} {x : LP} (h : x.good many) : x.goodW many := ⟨h.ok, h.wr.1, h.pl⟩
theorem PlainOk.w {many lo hi : Int} {xs : List LP} (h : PlainOk many lo hi xs) : PlainW many lo hi xs := ⟨h.m1, h.m8, by have := h.l; omega, h.lh, by have := h.u; omega, h.n, fun x hx => (h.good x hx).w⟩
theorem mkHD_okW {H : Hp} {many lo hi : Int} {xs : List LP} {as : List Addr} (P : PlainW many lo hi xs) (h : LPsAt H xs as) : (mkHD many lo hi xs).ok := by
  have base : ∀ x ∈ xs, x.b.base := fun x hx => by
    obtain ⟨i, hi⟩ := List.mem_iff_getElem?.mp hx
    have hl := (List.getElem?_eq_some_iff.mp hi).1
    obtain ⟨_, _, _, _, z⟩ := h.all i x _ hi (List.getElem?_eq_getElem (by rw [h.len]; exact hl))
    exact z.base
  have mem : ∀ p ∈ xs.map LP.pd, ∃ x ∈ xs, p = x.pd := fun p hp => by
    obtain ⟨x, hx, e⟩ := List.mem_map.mp hp
    exact ⟨x, hx, e.symm⟩
  have n := P.n
  refine ⟨P.m1, P.m8, P.lh, P.l, P.u, by show (xs.map LP.pd).length ≤ 25; rw [List.length_map]; omega, fun p hp => ?_, fun p hp => ?_, fun p hp s hs => ?_⟩
  · obtain ⟨x, hx, rfl⟩ := mem p hp
    have g := P.good x hx
    exact ok_wrap (base x hx) g.ok g.wr
  · obtain ⟨x, hx, rfl⟩ := mem p hp
    have g := P.good x hx
    show (wrap x.wr x.b).wraps ≤ 8
    rw [wraps_wrap _ (base x hx)]
    exact g.wr.1
  · obtain ⟨x, hx, rfl⟩ := mem p hp
    have g := P.good x hx
    have e : (LP.pd x).stands = x.b.stands := stands_wrap x.b x.wr
    rw [e] at hs
    exact ⟨stands_nonneg g.ok s hs, g.pl s hs⟩
end Ev

/-! parts bend evenly: of two numbers read, two between them with the same sum are worth no more -/
namespace Ev
open PySem L2 Ax
def Cvx (f : Int → Option Int) : Prop := ∀ x y u v a b : Int, f x = some a → f y = some b → u + v = x + y → x ≤ u → u ≤ y → ∃ c d, f u = some c ∧ f v = some d ∧ c + d ≤ a + b
/-- a sequence that bends evenly -/
theorem seq_cvx {g : Int → Int} {lo hi : Int} (h : ∀ i, lo < i → i < hi → 2 * g i ≤ g (i - 1) + g (i + 1)) : ∀ (n : Nat) (x y : Int), lo ≤ x → y ≤ hi → y = x + (n : Int) → ∀ u v, u + v = x + y → x ≤ u → u ≤ y → g u + g v ≤ g x + g y := by
  -- steps never fall
  have step : ∀ (k : Nat) (i : Int), lo ≤ i → i + (k : Int) + 1 ≤ hi → g (i + 1) - g i ≤ g (i + (k : Int) + 1) - g (i + (k : Int)) := by
    intro k
    induction k with
    | zero => intro i _ _; simp
    | succ k ih =>
      intro i h1 h2
      have a := ih i h1 (by omega)
      have b := h (i + (k : Int) + 1) (by omega) (by omega)
      rw [show i + ((k + 1 : Nat) : Int) + 1 = i + (k : Int) + 1 + 1 by omega, show i + ((k + 1 : Nat) : Int) = i + (k : Int) + 1 by omega]
      rw [show i + (k : Int) + 1 - 1 = i + (k : Int) by omega] at b
      omega
  have key : ∀ (n : Nat) (x y : Int), lo ≤ x → y ≤ hi → y = x + (n : Int) → ∀ m : Nat, (m : Int) ≤ n → g (x + (m : Int)) + g (y - (m : Int)) ≤ g x + g y := by
    intro n
    induction n using Nat.strongRecOn with
    | ind n ih =>
      intro x y h1 h2 e m hm
      cases m with
      | zero => simp
      | succ m =>
        by_cases hn : n < 2
        · -- the ends change places
          have : n = 1 := by omega
          subst this
          have : m = 0 := by omega
          subst this
          rw [show x + ((0 + 1 : Nat) : Int) = y by omega, show y - ((0 + 1 : Nat) : Int) = x by omega]
          omega
        · have s := step (n - 1) x h1 (by omega)
          have e1 : x + ((n - 1 : Nat) : Int) + 1 = y := by omega
          have e2 : x + ((n - 1 : Nat) : Int) = y - 1 := by omega
          rw [e1, e2] at s
          by_cases hm2 : m ≤ n - 2
          · have q := ih (n - 2) (by omega) (x + 1) (y - 1) (by omega) (by omega) (by omega) m (by omega)
            rw [show x + 1 + (m : Int) = x + ((m + 1 : Nat) : Int) by omega, show y - 1 - (m : Int) = y - ((m + 1 : Nat) : Int) by omega] at q
            omega
          · have : m + 1 = n := by omega
            rw [show x + ((m + 1 : Nat) : Int) = y by omega, show y - ((m + 1 : Nat) : Int) = x by omega]
            omega
  intro n x y h1 h2 e u v hs hu1 hu2
  have q := key n x y h1 h2 e (u - x).toNat (by omega)
  rw [show x + (((u - x).toNat : Nat) : Int) = u by omega, show y - (((u - x).toNat : Nat) : Int) = v by omega] at q
  exact q
theorem cvx_of {g : Int → Int} (h : ∀ i, 2 * g i ≤ g (i - 1) + g (i + 1)) : Cvx fun x => some (g x) := fun x y u v a b ha hb hs h1 h2 => by
  cases ha
  cases hb
  exact ⟨_, _, rfl, rfl, seq_cvx (lo := x - 1) (hi := y + 1) (fun i _ _ => h i) (y - x).toNat x y (by omega) (by omega) (by omega) u v hs h1 h2⟩
theorem abs_cvx (a : Int) (i : Int) : 2 * absI (i - a) ≤ absI (i - 1 - a) + absI (i + 1 - a) := by
  unfold absI
  split <;> split <;> split <;> omega
theorem mul_cvx {w : Int} (hw : 0 ≤ w) {p q r : Int} (h : 2 * p ≤ q + r) : 2 * (w * p) ≤ w * q + w * r := by
  have k := Int.mul_le_mul_of_nonneg_left h hw
  rw [Int.mul_add, Int.mul_left_comm] at k
  exact k
theorem cvx_aim {a w : Int} (hw : 0 ≤ w) : Cvx fun x => some (w * absI (x - a)) := cvx_of (g := fun x => w * absI (x - a)) fun i => mul_cvx hw (abs_cvx a i)
theorem cvx_slope (w : Int) : Cvx fun x => some (w * x) := cvx_of (g := fun x => w * x) fun i => by
  rw [Int.mul_sub, Int.mul_add]
  omega
theorem cvx_square {a w : Int} (hw : 0 ≤ w) : Cvx fun x => some (w * (x - a) * (x - a)) := cvx_of (g := fun x => w * (x - a) * (x - a)) fun i => by
  have e : ∀ t : Int, w * t * t = w * (t * t) := fun t => Int.mul_assoc w t t
  rw [e, e, e]
  refine mul_cvx hw ?_
  have e1 : i - 1 - a = i - a - 1 := by omega
  have e2 : i + 1 - a = i - a + 1 := by omega
  rw [e1, e2]
  generalize i - a = t
  rw [Int.sub_mul, Int.mul_sub, Int.add_mul, Int.mul_add]
  omega
theorem cvx_row {f : Int} {ws : List Int} (ev : Even ws) : Cvx fun x => rowAt f ws x := fun x y u v a b ha hb hs h1 h2 => by
  have key : ∀ {z c : Int}, rowAt f ws z = some c → f ≤ z ∧ z < f + (ws.length : Int) ∧ c = ws.getD (z - f).toNat 0 := fun {z c} e => by
    unfold rowAt at e
    by_cases h0 : 0 ≤ z - f
    · rw [if_pos h0] at e
      have hl := (List.getElem?_eq_some_iff.mp e).1
      exact ⟨by omega, by omega, by rw [List.getD_eq_getElem?_getD, e]; rfl⟩
    · rw [if_neg h0] at e
      cases e
  have back : ∀ {z : Int}, f ≤ z → z < f + (ws.length : Int) → rowAt f ws z = some (ws.getD (z - f).toNat 0) := fun {z} h0 h1 => by
    unfold rowAt
    rw [if_pos (by omega), List.getD_eq_getElem?_getD, List.getElem?_eq_getElem (by omega : (z - f).toNat < ws.length)]
    rfl
  obtain ⟨x1, x2, rfl⟩ := key ha
  obtain ⟨y1, y2, rfl⟩ := key hb
  refine ⟨_, _, back (by omega) (by omega), back (by omega) (by omega), ?_⟩
  refine seq_cvx (g := fun z => ws.getD (z - f).toNat 0) (lo := f) (hi := f + (ws.length : Int) - 1) (fun i i1 i2 => ?_) (y - x).toNat x y (by omega) (by omega) (by omega) u v hs h1 h2
  have q := ev (i - 1 - f).toNat (by omega)
  rw [show (i - 1 - f).toNat + 1 = (i - f).toNat by omega, show (i - 1 - f).toNat + 2 = (i + 1 - f).toNat by omega] at q
  exact q
theorem cvx_wall (lo hi : Int) : Cvx fun x => if lo ≤ x ∧ x ≤ hi then some 0 else none := fun x y u v a b ha hb hs h1 h2 => by
  have key : ∀ {z c : Int}, (if lo ≤ z ∧ z ≤ hi then some (0 : Int) else none) = some c → lo ≤ z ∧ z ≤ hi ∧ c = 0 := fun {z c} e => by
    by_cases h0 : lo ≤ z ∧ z ≤ hi
    · rw [if_pos h0] at e
      cases e
      exact ⟨h0.1, h0.2, rfl⟩
    · rw [if_neg h0] at e
      cases e
  obtain ⟨x1, x2, rfl⟩ := key ha
  obtain ⟨y1, y2, rfl⟩ := key hb
  exact ⟨0, 0, if_pos ⟨by omega, by omega⟩, if_pos ⟨by omega, by omega⟩, by omega⟩
theorem cvx_ahead (g : Int) : Cvx fun x => if x ≤ g then some 0 else none := fun x y u v a b ha hb hs h1 h2 => by
  have key : ∀ {z c : Int}, (if z ≤ g then some (0 : Int) else none) = some c → z ≤ g ∧ c = 0 := fun {z c} e => by
    by_cases h0 : z ≤ g
    · rw [if_pos h0] at e
      cases e
      exact ⟨h0, rfl⟩
    · rw [if_neg h0] at e
      cases e
  obtain ⟨x2, rfl⟩ := key ha
  obtain ⟨y2, rfl⟩ := key hb
  exact ⟨0, 0, if_pos (by omega), if_pos (by omega), by omega⟩
theorem PD.cvx : ∀ {pd : PD}, pd.ok → Cvx pd.worth
  | .slope _ w, _ => cvx_slope w
  | .aim _ a w, h => cvx_aim h.2.2.1
  | .square _ a w, h => cvx_square h.2.2.1
  | .row _ f ws, h => cvx_row h.2.ev
  | .wall _ lo hi, _ => cvx_wall lo hi
  | .near _ _ a w, h => cvx_aim h.2.2.2.2.1
  | .gaps _ _ f ws, h => cvx_row h.2.2.2.ev
  | .ahead _ _ g, _ => cvx_ahead g
  | .times q m, h => fun x y u v a b ha hb hs h1 h2 => by
    have ih := PD.cvx (pd := q) h.1
    have ha' : (q.worth x).map (fun z => m * z) = some a := ha
    have hb' : (q.worth y).map (fun z => m * z) = some b := hb
    obtain ⟨a', e1, rfl⟩ := Option.map_eq_some_iff.mp ha'
    obtain ⟨b', e2, rfl⟩ := Option.map_eq_some_iff.mp hb'
    obtain ⟨c, d, hc, hd, hcd⟩ := ih x y u v a' b' e1 e2 hs h1 h2
    refine ⟨m * c, m * d, ?_, ?_, ?_⟩
    · show (q.worth u).map (fun z => m * z) = _
      rw [hc]
      rfl
    · show (q.worth v).map (fun z => m * z) = _
      rw [hd]
      rfl
    · have hm : 0 ≤ m := by
        have := h.2.2.1
        omega
      have k := Int.mul_le_mul_of_nonneg_left hcd hm
      rw [Int.mul_add, Int.mul_add] at k
      exact k
  | .moved q b', h => fun x y u v a b ha hb hs h1 h2 => PD.cvx (pd := q) h.1 (x - b') (y - b') (u - b') (v - b') a b ha hb (by omega) (by omega) (by omega)
end Ev

/-! halls bend evenly -/
namespace Ev
open PySem L2 Ax
theorem Cvx.two {f : Int → Option Int} (h : Cvx f) : ∀ x y u v a b : Int, f x = some a → f y = some b → u + v = x + y → (x ≤ u ∧ u ≤ y ∨ y ≤ u ∧ u ≤ x) → ∃ c d, f u = some c ∧ f v = some d ∧ c + d ≤ a + b := fun x y u v a b ha hb hs hm => by
  rcases hm with ⟨h1, h2⟩ | ⟨h1, h2⟩
  · exact h x y u v a b ha hb hs h1 h2
  · obtain ⟨c, d, hc, hd, hcd⟩ := h y x u v b a hb ha (by omega) h1 h2
    exact ⟨c, d, hc, hd, by omega⟩
/-- u and v are two points between x and y, at each place, and between each two -/
structure Btw (n : Nat) (x y u v : List Int) : Prop where
  lx : x.length = n
  ly : y.length = n
  lu : u.length = n
  lv : v.length = n
  sum : ∀ i, i < n → u.getD i 0 + v.getD i 0 = x.getD i 0 + y.getD i 0
  one : ∀ i, i < n → (x.getD i 0 ≤ u.getD i 0 ∧ u.getD i 0 ≤ y.getD i 0) ∨ (y.getD i 0 ≤ u.getD i 0 ∧ u.getD i 0 ≤ x.getD i 0)
  two : ∀ i j, i < n → j < n → (x.getD i 0 - x.getD j 0 ≤ u.getD i 0 - u.getD j 0 ∧ u.getD i 0 - u.getD j 0 ≤ y.getD i 0 - y.getD j 0) ∨ (y.getD i 0 - y.getD j 0 ≤ u.getD i 0 - u.getD j 0 ∧ u.getD i 0 - u.getD j 0 ≤ x.getD i 0 - x.getD j 0)
theorem getD_map2 {α : Type} {l : List α} {f : α → Int} {d : α} {i : Nat} (h : i < l.length) : (l.map f).getD i 0 = f (l.getD i d) := by
  rw [List.getD_eq_getElem?_getD, List.getElem?_map, List.getD_eq_getElem?_getD, List.getElem?_eq_getElem h]
  rfl
theorem Btw.halves {x y : List Int} (h : x.length = y.length) : Btw x.length x y ((x.zip y).map fun q => (q.1 + q.2) / 2) ((x.zip y).map fun q => (q.1 + q.2 + 1) / 2) := by
  have lz : (x.zip y).length = x.length := by rw [List.length_zip, ← h, Nat.min_self]
  have key : ∀ i, i < x.length → (x.zip y).getD i (0, 0) = (x.getD i 0, y.getD i 0) := fun i hi => by
    simp only [List.getD_eq_getElem?_getD]
    rw [List.getElem?_eq_getElem (by omega : i < (x.zip y).length), List.getElem?_eq_getElem hi, List.getElem?_eq_getElem (by omega : i < y.length)]
    simp
  have hu : ∀ i, i < x.length → ((x.zip y).map fun q => (q.1 + q.2) / 2).getD i 0 = (x.getD i 0 + y.getD i 0) / 2 := fun i hi => by
    rw [getD_map2 (d := (0, 0)) (by omega), key i hi]
  have hv : ∀ i, i < x.length → ((x.zip y).map fun q => (q.1 + q.2 + 1) / 2).getD i 0 = (x.getD i 0 + y.getD i 0 + 1) / 2 := fun i hi => by
    rw [getD_map2 (d := (0, 0)) (by omega), key i hi]
  refine ⟨rfl, h.symm, by rw [List.length_map, lz], by rw [List.length_map, lz], fun i hi => ?_, fun i hi => ?_, fun i j hi hj => ?_⟩
  · rw [hu i hi, hv i hi]; omega
  · rw [hu i hi]; omega
  · rw [hu i hi, hu j hj]; omega
def minI (a b : Int) : Int := if a ≤ b then a else b
def maxI (a b : Int) : Int := if a ≤ b then b else a
theorem Btw.meet {x y : List Int} (h : x.length = y.length) : Btw x.length x y ((x.zip y).map fun q => minI q.1 q.2) ((x.zip y).map fun q => maxI q.1 q.2) := by
  have lz : (x.zip y).length = x.length := by rw [List.length_zip, ← h, Nat.min_self]
  have key : ∀ i, i < x.length → (x.zip y).getD i (0, 0) = (x.getD i 0, y.getD i 0) := fun i hi => by
    simp only [List.getD_eq_getElem?_getD]
    rw [List.getElem?_eq_getElem (by omega : i < (x.zip y).length), List.getElem?_eq_getElem hi, List.getElem?_eq_getElem (by omega : i < y.length)]
    simp
  have hu : ∀ i, i < x.length → ((x.zip y).map fun q => minI q.1 q.2).getD i 0 = minI (x.getD i 0) (y.getD i 0) := fun i hi => by
    rw [getD_map2 (d := (0, 0)) (by omega), key i hi]
  have hv : ∀ i, i < x.length → ((x.zip y).map fun q => maxI q.1 q.2).getD i 0 = maxI (x.getD i 0) (y.getD i 0) := fun i hi => by
    rw [getD_map2 (d := (0, 0)) (by omega), key i hi]
  refine ⟨rfl, h.symm, by rw [List.length_map, lz], by rw [List.length_map, lz], fun i hi => ?_, fun i hi => ?_, fun i j hi hj => ?_⟩
  · rw [hu i hi, hv i hi]; unfold minI maxI; split <;> omega
  · rw [hu i hi]; unfold minI; split <;> omega
  · rw [hu i hi, hu j hj]; unfold minI; split <;> split <;> omega
/-- sums, one part after the other -/
def sumR : List PD → List Int → Option Int
  | [], _ => some 0
  | p :: r, x => (p.worth (readPD p x)).bind fun w => (sumR r x).map fun t => w + t
theorem sumW_fold : ∀ (ps : List PD) (x : List Int) (t : Int), ps.foldl (fun acc p => acc.bind fun t => (p.worth (readPD p x)).map fun w => t + w) (some t) = (sumR ps x).map fun s => t + s
  | [], x, t => by simp [sumR]
  | p :: r, x, t => by
    rw [List.foldl_cons]
    show List.foldl _ ((p.worth (readPD p x)).map fun w => t + w) r = (((p.worth (readPD p x)).bind fun w => (sumR r x).map fun t => w + t)).map fun s => t + s
    cases p.worth (readPD p x) with
    | none => exact foldW_none
    | some w =>
      show List.foldl _ (some (t + w)) r = ((sumR r x).map fun t => w + t).map fun s => t + s
      rw [sumW_fold r x (t + w)]
      cases sumR r x with
      | none => rfl
      | some z => show some (t + w + z) = some (t + (w + z)); rw [Int.add_assoc]
theorem sumW_eq (ps : List PD) (x : List Int) : sumW ps x = sumR ps x := by
  unfold sumW
  rw [sumW_fold ps x 0]
  cases sumR ps x with
  | none => rfl
  | some z => show some (0 + z) = some z; rw [Int.zero_add]
theorem part_even {p : PD} {n : Nat} {x y u v : List Int} (hok : p.ok) (hst : ∀ s ∈ p.stands, 0 ≤ s ∧ s < (n : Int)) (B : Btw n x y u v) {a b : Int} (ha : p.worth (readPD p x) = some a) (hb : p.worth (readPD p y) = some b) :
    ∃ c d, p.worth (readPD p u) = some c ∧ p.worth (readPD p v) = some d ∧ c + d ≤ a + b := by
  refine (PD.cvx hok).two _ _ _ _ a b ha hb ?_ ?_
  · rcases stands_shape p with ⟨i, e⟩ | ⟨i, j, e⟩
    · obtain ⟨h0, h1⟩ := hst i (by rw [e]; simp)
      simp only [readPD, e]
      exact B.sum i.toNat (by omega)
    · obtain ⟨h0, h1⟩ := hst i (by rw [e]; simp)
      obtain ⟨g0, g1⟩ := hst j (by rw [e]; simp)
      simp only [readPD, e]
      have s1 := B.sum i.toNat (by omega)
      have s2 := B.sum j.toNat (by omega)
      omega
  · rcases stands_shape p with ⟨i, e⟩ | ⟨i, j, e⟩
    · obtain ⟨h0, h1⟩ := hst i (by rw [e]; simp)
      simp only [readPD, e]
      exact B.one i.toNat (by omega)
    · obtain ⟨h0, h1⟩ := hst i (by rw [e]; simp)
      obtain ⟨g0, g1⟩ := hst j (by rw [e]; simp)
      simp only [readPD, e]
      exact B.two i.toNat j.toNat (by omega) (by omega)
theorem sum_even {n : Nat} {x y u v : List Int} (B : Btw n x y u v) : ∀ (ps : List PD), (∀ p ∈ ps, p.ok) → (∀ p ∈ ps, ∀ s ∈ p.stands, 0 ≤ s ∧ s < (n : Int)) → ∀ a b : Int, sumR ps x = some a → sumR ps y = some b → ∃ c d, sumR ps u = some c ∧ sumR ps v = some d ∧ c + d ≤ a + b
  | [], _, _, a, b, ha, hb => by
    cases ha
    cases hb
    exact ⟨0, 0, rfl, rfl, by omega⟩
  | p :: r, hok, hst, a, b, ha, hb => by
    obtain ⟨a1, ea1, ha⟩ := Option.bind_eq_some_iff.mp (show (p.worth (readPD p x)).bind (fun w => (sumR r x).map fun t => w + t) = some a from ha)
    obtain ⟨a2, ea2, rfl⟩ := Option.map_eq_some_iff.mp ha
    obtain ⟨b1, eb1, hb⟩ := Option.bind_eq_some_iff.mp (show (p.worth (readPD p y)).bind (fun w => (sumR r y).map fun t => w + t) = some b from hb)
    obtain ⟨b2, eb2, rfl⟩ := Option.map_eq_some_iff.mp hb
    obtain ⟨c1, d1, ec1, ed1, h1⟩ := part_even (hok p List.mem_cons_self) (hst p List.mem_cons_self) B ea1 eb1
    obtain ⟨c2, d2, ec2, ed2, h2⟩ := sum_even B r (fun q hq => hok q (List.mem_cons_of_mem _ hq)) (fun q hq => hst q (List.mem_cons_of_mem _ hq)) a2 b2 ea2 eb2
    refine ⟨c1 + c2, d1 + d2, ?_, ?_, by omega⟩
    · show (p.worth (readPD p u)).bind (fun w => (sumR r u).map fun t => w + t) = _
      rw [ec1, ec2]
      rfl
    · show (p.worth (readPD p v)).bind (fun w => (sumR r v).map fun t => w + t) = _
      rw [ed1, ed2]
      rfl
theorem mem_getD {x : List Int} {y : Int} (h : y ∈ x) : ∃ i, i < x.length ∧ y = x.getD i 0 := by
  obtain ⟨i, hi, e⟩ := List.getElem_of_mem h
  exact ⟨i, hi, by rw [List.getD_eq_getElem?_getD, List.getElem?_eq_getElem hi, e]; rfl⟩
theorem getD_mem {x : List Int} {i : Nat} (h : i < x.length) : x.getD i 0 ∈ x := by
  rw [List.getD_eq_getElem?_getD, List.getElem?_eq_getElem h]
  exact List.getElem_mem h
theorem HD.even {h : HD} (ok : h.ok) {x y u v : List Int} {n : Nat} (hn : (n : Int) = h.many) (B : Btw n x y u v) {a b : Int} (ha : h.worth x = some a) (hb : h.worth y = some b) : ∃ c d, h.worth u = some c ∧ h.worth v = some d ∧ c + d ≤ a + b := by
  unfold HD.worth at ha hb ⊢
  by_cases ix : Inside h.lo h.hi x
  · by_cases iy : Inside h.lo h.hi y
    · rw [if_pos ix, sumW_eq] at ha
      rw [if_pos iy, sumW_eq] at hb
      obtain ⟨c, d, hc, hd, hcd⟩ := sum_even B h.ps ok.pk (fun p hp s hs => by rw [hn]; exact ok.pl p hp s hs) a b ha hb
      have lx := B.lx
      have ly := B.ly
      have lu := B.lu
      have lv := B.lv
      have iu : Inside h.lo h.hi u := fun z hz => by
        obtain ⟨i, hi, rfl⟩ := mem_getD hz
        have h1 := ix _ (getD_mem (i := i) (by omega))
        have h2 := iy _ (getD_mem (i := i) (by omega))
        have h3 := B.one i (by omega)
        omega
      have iv : Inside h.lo h.hi v := fun z hz => by
        obtain ⟨i, hi, rfl⟩ := mem_getD hz
        have h1 := ix _ (getD_mem (i := i) (by omega))
        have h2 := iy _ (getD_mem (i := i) (by omega))
        have h3 := B.one i (by omega)
        have h4 := B.sum i (by omega)
        omega
      exact ⟨c, d, by rw [if_pos iu, sumW_eq]; exact hc, by rw [if_pos iv, sumW_eq]; exact hd, hcd⟩
    · rw [if_neg iy] at hb
      cases hb
  · rw [if_neg ix] at ha
    cases ha
end Ev

/-! moves of a point by sets: what is gained, what is needed -/
namespace Ev
open PySem L2 Ax
/-! ### sums to k -/
def sumTo (f : Nat → Int) : Nat → Int
  | 0 => 0
  | k + 1 => sumTo f k + f k
theorem sumTo_congr {f g : Nat → Int} : ∀ k, (∀ i, i < k → f i = g i) → sumTo f k = sumTo g k
  | 0, _ => rfl
  | k + 1, h => by
    show sumTo f k + f k = sumTo g k + g k
    rw [sumTo_congr k fun i hi => h i (by omega), h k (by omega)]
theorem sumTo_zero : ∀ k, sumTo (fun _ => 0) k = 0
  | 0 => rfl
  | k + 1 => by
    show sumTo (fun _ => 0) k + 0 = 0
    rw [sumTo_zero k]
    rfl
theorem sumTo_add {f g : Nat → Int} : ∀ k, sumTo (fun i => f i + g i) k = sumTo f k + sumTo g k
  | 0 => rfl
  | k + 1 => by
    show sumTo (fun i => f i + g i) k + (f k + g k) = sumTo f k + f k + (sumTo g k + g k)
    rw [sumTo_add k]
    omega
theorem sumTo_one {c : Nat} {v : Int} : ∀ k, sumTo (fun i => if i = c then v else 0) k = if c < k then v else 0
  | 0 => by rw [if_neg (by omega)]; rfl
  | k + 1 => by
    show sumTo (fun i => if i = c then v else 0) k + (if k = c then v else 0) = _
    rw [sumTo_one k]
    by_cases h : c < k
    · rw [if_pos h, if_neg (by omega), if_pos (by omega)]; omega
    · by_cases h2 : k = c
      · rw [if_neg h, if_pos h2, if_pos (by omega)]; omega
      · rw [if_neg h, if_neg h2, if_neg (by omega)]; rfl
abbrev Gn := Nat → Nat → Int
/-- what is spared at place i, of the others before k -/
def spd (G : Gn) (S : Nat → Bool) (i k : Nat) : Int := sumTo (fun j => if S j then G i j + G j i else 0) k
def tot (n : Nat) (G : Gn) (i : Nat) : Int := sumTo (G i) (n + 1)
def chg (n : Nat) (G : Gn) (S : Nat → Bool) (k : Nat) : Int := sumTo (fun i => if S i then tot n G i - spd G S i i else 0) k
theorem spd_congr {G : Gn} {S T : Nat → Bool} {i k : Nat} (h : ∀ j, j < k → S j = T j) : spd G S i k = spd G T i k := sumTo_congr k fun j hj => by rw [h j hj]
theorem chg_congr {n : Nat} {G : Gn} {S T : Nat → Bool} {k : Nat} (h : ∀ j, j < k → S j = T j) : chg n G S k = chg n G T k := sumTo_congr k fun j hj => by
  rw [h j hj, spd_congr (S := S) (T := T) fun i hi => h i (by omega)]
theorem chg_add {n : Nat} {G g : Gn} {S : Nat → Bool} {k : Nat} : chg n (fun i j => G i j + g i j) S k = chg n G S k + chg n g S k := by
  unfold chg
  rw [← sumTo_add]
  refine sumTo_congr k fun i _ => ?_
  cases S i with
  | false => rfl
  | true =>
    show tot n (fun i j => G i j + g i j) i - spd (fun i j => G i j + g i j) S i i = tot n G i - spd G S i i + (tot n g i - spd g S i i)
    have h1 : tot n (fun i j => G i j + g i j) i = tot n G i + tot n g i := sumTo_add _
    have h2 : spd (fun i j => G i j + g i j) S i i = spd G S i i + spd g S i i := by
      unfold spd
      rw [← sumTo_add]
      refine sumTo_congr i fun j _ => ?_
      cases S j with
      | false => rfl
      | true => show G i j + g i j + (G j i + g j i) = G i j + G j i + (g i j + g j i); omega
    rw [h1, h2]
    omega
/-- one entry alone -/
def dlt (a b : Nat) (d : Int) : Gn := fun i j => if i = a ∧ j = b then d else 0
theorem tot_dlt {n a b : Nat} {d : Int} (hb : b ≤ n) (i : Nat) : tot n (dlt a b d) i = if i = a then d else 0 := by
  by_cases h : i = a
  · rw [if_pos h]
    have e : tot n (dlt a b d) i = sumTo (fun j => if j = b then d else 0) (n + 1) := sumTo_congr _ fun j _ => by
      unfold dlt
      by_cases hj : j = b
      · rw [if_pos ⟨h, hj⟩, if_pos hj]
      · rw [if_neg fun q => hj q.2, if_neg hj]
    rw [e, sumTo_one, if_pos (by omega)]
  · rw [if_neg h]
    have e : tot n (dlt a b d) i = sumTo (fun _ => 0) (n + 1) := sumTo_congr _ fun j _ => by
      unfold dlt
      rw [if_neg fun q => h q.1]
    rw [e, sumTo_zero]
theorem spd_dlt {a b : Nat} {d : Int} (hab : a ≠ b) (S : Nat → Bool) (i : Nat) : spd (dlt a b d) S i i = (if b < i then (if i = a ∧ S b = true then d else 0) else 0) + (if a < i then (if i = b ∧ S a = true then d else 0) else 0) := by
  have e : spd (dlt a b d) S i i = sumTo (fun j => (if j = b then (if i = a ∧ S b = true then d else 0) else 0) + (if j = a then (if i = b ∧ S a = true then d else 0) else 0)) i := sumTo_congr _ fun j _ => by
    unfold dlt
    by_cases h1 : j = b
    · have h2 : ¬ j = a := fun q => hab (q.symm.trans h1)
      subst h1
      by_cases h3 : i = a <;> cases hS : S j <;> simp [h2, h3, hS]
    · by_cases h2 : j = a
      · subst h2
        by_cases h3 : i = b <;> cases hS : S j <;> simp [h1, h3, hS]
      · cases hS : S j <;> simp [h1, h2]
  rw [e, sumTo_add, sumTo_one, sumTo_one]
theorem chg_dlt {n a b : Nat} {d : Int} (ha : a < n) (hb : b ≤ n) (hab : a ≠ b) (S : Nat → Bool) (hS : S n = false) : chg n (dlt a b d) S n = if S a = true ∧ S b = false then d else 0 := by
  have e : chg n (dlt a b d) S n = sumTo (fun i => (if i = a then ((if S a = true then d else 0) - (if b < a ∧ S a = true ∧ S b = true then d else 0)) else 0) + (if i = b then (0 - (if a < b ∧ S a = true ∧ S b = true then d else 0)) else 0)) n := sumTo_congr _ fun i _ => by
    rw [tot_dlt hb, spd_dlt hab]
    by_cases h1 : i = a
    · have h2 : ¬ i = b := fun q => hab (h1.symm.trans q)
      subst h1
      cases hA : S i <;> cases hB : S b <;> by_cases h3 : b < i <;> simp [h2, h3]
    · by_cases h2 : i = b
      · subst h2
        cases hA : S a <;> cases hB : S i <;> by_cases h3 : a < i <;> simp [h1, h3]
      · cases hI : S i <;> simp [h1, h2]
  rw [e, sumTo_add, sumTo_one, sumTo_one, if_pos ha]
  cases h1 : S a with
  | false => simp
  | true =>
    cases h2 : S b with
    | false => simp
    | true =>
      have hbn : b < n := by
        rcases Nat.lt_or_eq_of_le hb with q | q
        · exact q
        · rw [q, hS] at h2; cases h2
      rcases Nat.lt_or_gt_of_ne hab with q | q
      · have q2 : ¬ b < a := by omega
        simp [hbn, q, q2]
        omega
      · have q2 : ¬ a < b := by omega
        simp [hbn, q, q2]
/-! ### a point moved by a set -/
def mvd (x : List Int) (S : Nat → Bool) (by_ : Int) : List Int := (List.range x.length).map fun i => x.getD i 0 + (if S i then by_ else 0)
theorem mvd_len (x : List Int) (S : Nat → Bool) (b : Int) : (mvd x S b).length = x.length := by unfold mvd; rw [List.length_map, List.length_range]
theorem mvd_at {x : List Int} {S : Nat → Bool} {b : Int} {i : Nat} (h : i < x.length) : (mvd x S b).getD i 0 = x.getD i 0 + (if S i then b else 0) := by
  unfold mvd
  rw [getD_map2 (d := 0) (by rw [List.length_range]; exact h)]
  simp [List.getD_eq_getElem?_getD, List.getElem?_range h]
end Ev

/-! sets that are free, what they change: part by part -/
namespace Ev
open PySem L2 Ax
def freeS (n : Nat) (Nd : Nat → Nat) (S : Nat → Bool) : Prop := ∀ i, i < n → S i = true → ∀ j, (Nd i).testBit j = true → S j = true
def addN (Nd : Nat → Nat) (a b : Nat) : Nat → Nat := fun i => if i = a then Nd i ||| 2 ^ b else Nd i
theorem tb_add {m b j : Nat} : (m ||| 2 ^ b).testBit j = (m.testBit j || decide (b = j)) := by
  rw [Nat.testBit_or, Nat.testBit_two_pow]
theorem free_addN {n : Nat} {Nd : Nat → Nat} {S : Nat → Bool} {a b : Nat} (ha : a < n) : freeS n (addN Nd a b) S ↔ freeS n Nd S ∧ ¬ (S a = true ∧ S b = false) := by
  constructor
  · intro h
    refine ⟨fun i hi hs j hj => h i hi hs j ?_, fun ⟨q1, q2⟩ => ?_⟩
    · unfold addN
      by_cases e : i = a
      · rw [if_pos e, tb_add, hj]; rfl
      · rw [if_neg e]; exact hj
    · have z := h a ha q1 b (by unfold addN; rw [if_pos rfl, tb_add]; simp)
      rw [q2] at z
      cases z
  · rintro ⟨h1, h2⟩ i hi hs j hj
    unfold addN at hj
    by_cases e : i = a
    · rw [if_pos e, tb_add, Bool.or_eq_true] at hj
      rcases hj with q | q
      · exact h1 i hi hs j q
      · have q2 : b = j := of_decide_eq_true q
        subst q2
        cases z : S b with
        | true => rfl
        | false => exact absurd ⟨e ▸ hs, z⟩ h2
    · rw [if_neg e] at hj
      exact h1 i hi hs j hj
def tgG (G : Gn) (a b : Nat) (t : Option Int) (w : Int) : Gn := match t with
  | none => G
  | some z => fun i j => G i j + dlt a b (z - w) i j
def tgN (Nd : Nat → Nat) (a b : Nat) (t : Option Int) : Nat → Nat := match t with
  | none => addN Nd a b
  | some _ => Nd
/-- r: what a set's moving changes, none where it is barred -/
def Stt (n : Nat) (S : Nat → Bool) (G : Gn) (Nd : Nat → Nat) (r : Option Int) : Prop := (freeS n Nd S → r = some (chg n G S n)) ∧ (¬ freeS n Nd S → r = none)
theorem Stt.tg {n : Nat} {S : Nat → Bool} {G : Gn} {Nd : Nat → Nat} {r t : Option Int} {a b : Nat} {w : Int} (ha : a < n) (hb : b ≤ n) (hab : a ≠ b) (hS : S n = false) (h : Stt n S G Nd r) :
    Stt n S (tgG G a b t w) (tgN Nd a b t) (r.bind fun c => (if S a = true ∧ S b = false then t.map (fun z => z - w) else some 0).map fun d => c + d) := by
  cases t with
  | none =>
    show Stt n S G (addN Nd a b) _
    by_cases q : S a = true ∧ S b = false
    · simp only [if_pos q]
      refine ⟨fun z => absurd q ((free_addN ha).mp z).2, fun _ => ?_⟩
      cases r <;> rfl
    · simp only [if_neg q]
      refine ⟨fun z => ?_, fun z => ?_⟩
      · rw [h.1 ((free_addN ha).mp z).1]
        simp
      · rw [h.2 fun y => z ((free_addN ha).mpr ⟨y, q⟩)]
        rfl
  | some z =>
    show Stt n S (fun i j => G i j + dlt a b (z - w) i j) Nd _
    unfold Stt
    rw [chg_add, chg_dlt ha hb hab S hS]
    refine ⟨fun y => ?_, fun y => ?_⟩
    · rw [h.1 y]
      by_cases q : S a = true ∧ S b = false
      · simp only [if_pos q]; rfl
      · simp only [if_neg q]; rfl
    · rw [h.2 y]
      rfl
def pG (n : Nat) (G : Gn) (p : PD) (x : List Int) (way w : Int) : Gn := match p.stands with
  | [a] => tgG G a.toNat n (p.worth (readPD p x + way)) w
  | [a, b] => tgG (tgG G a.toNat b.toNat (p.worth (readPD p x + way)) w) b.toNat a.toNat (p.worth (readPD p x + -way)) w
  | _ => G
def pN (n : Nat) (Nd : Nat → Nat) (p : PD) (x : List Int) (way : Int) : Nat → Nat := match p.stands with
  | [a] => tgN Nd a.toNat n (p.worth (readPD p x + way))
  | [a, b] => tgN (tgN Nd a.toNat b.toNat (p.worth (readPD p x + way))) b.toNat a.toNat (p.worth (readPD p x + -way))
  | _ => Nd
theorem opt_map_zero {r : Option Int} {w : Int} (o : Option Int) (h : o = some w) : (r.bind fun c => (some (0 : Int)).map fun d => c + d) = r.bind fun c => o.map fun z => c + (z - w) := by
  cases r with
  | none => rfl
  | some c => rw [h]; simp
theorem part_step {p : PD} {n : Nat} {x : List Int} {S : Nat → Bool} {way w : Int} {G : Gn} {Nd : Nat → Nat} {r : Option Int} (hx : x.length = n) (hst : ∀ s ∈ p.stands, 0 ≤ s ∧ s < (n : Int)) (hne : ∀ i j, p.stands = [i, j] → i ≠ j) (hS : S n = false) (hw : p.worth (readPD p x) = some w) (h : Stt n S G Nd r) :
    Stt n S (pG n G p x way w) (pN n Nd p x way) (r.bind fun c => (p.worth (readPD p (mvd x S way))).map fun z => c + (z - w)) := by
  rcases stands_shape p with ⟨i, e⟩ | ⟨i, j, e⟩
  · obtain ⟨h0, h1⟩ := hst i (by rw [e]; simp)
    have hi : i.toNat < n := by omega
    have er : readPD p (mvd x S way) = readPD p x + (if S i.toNat then way else 0) := by
      simp only [readPD, e]
      exact mvd_at (by omega)
    have z := h.tg (t := p.worth (readPD p x + way)) (w := w) hi (Nat.le_refl n) (by omega) hS
    simp only [pG, pN, e]
    rw [er]
    cases q : S i.toNat with
    | false =>
      simp only [q, hS] at z
      rw [if_neg (by simp)] at z
      rw [if_neg (by simp), Int.add_zero, ← opt_map_zero _ hw]
      exact z
    | true =>
      simp only [q, hS] at z
      rw [if_pos (by simp)] at z
      rw [if_pos rfl]
      simp only [Option.map_map] at z
      exact z
  · obtain ⟨h0, h1⟩ := hst i (by rw [e]; simp)
    obtain ⟨g0, g1⟩ := hst j (by rw [e]; simp)
    have hi : i.toNat < n := by omega
    have hj : j.toNat < n := by omega
    have hij : i.toNat ≠ j.toNat := by have := hne i j e; omega
    have er : readPD p (mvd x S way) = readPD p x + ((if S i.toNat then way else 0) - (if S j.toNat then way else 0)) := by
      simp only [readPD, e]
      rw [mvd_at (by omega), mvd_at (by omega)]
      omega
    have z1 := h.tg (t := p.worth (readPD p x + way)) (w := w) hi (Nat.le_of_lt hj) hij hS
    have z := z1.tg (t := p.worth (readPD p x + -way)) (w := w) hj (Nat.le_of_lt hi) hij.symm hS
    simp only [pG, pN, e]
    rw [er]
    clear z1
    cases q1 : S i.toNat with
    | false =>
      cases q2 : S j.toNat with
      | false =>
        simp only [q1, q2] at z
        rw [if_neg (by simp)] at z
        rw [if_neg (by simp), Int.sub_zero, Int.add_zero, ← opt_map_zero _ hw]
        cases r with
        | none => exact z
        | some c => simp at z ⊢; exact z
      | true =>
        simp only [q1, q2] at z
        rw [if_neg (by simp), if_pos (by simp)] at z
        rw [if_neg (by simp), if_pos rfl, Int.zero_sub]
        cases r with
        | none => exact z
        | some c =>
          cases q3 : p.worth (readPD p x + -way) with
          | none => rw [q3] at z; exact z
          | some y => rw [q3] at z; simp at z ⊢; exact z
    | true =>
      cases q2 : S j.toNat with
      | false =>
        simp only [q1, q2] at z
        rw [if_pos (by simp), if_neg (by simp)] at z
        rw [if_pos rfl, if_neg (by simp), Int.sub_zero]
        cases r with
        | none => exact z
        | some c =>
          cases q3 : p.worth (readPD p x + way) with
          | none => rw [q3] at z; exact z
          | some y => rw [q3] at z; simp at z ⊢; exact z
      | true =>
        simp only [q1, q2] at z
        rw [if_neg (by simp)] at z
        rw [if_pos rfl, Int.sub_self, Int.add_zero, ← opt_map_zero _ hw]
        cases r with
        | none => exact z
        | some c => simp at z ⊢; exact z
/-! ### the best sets -/
theorem mvd_btw {x : List Int} {S T : Nat → Bool} {way : Int} (hw : way = 1 ∨ way = -1) : Btw x.length (mvd x S way) (mvd x T way) (mvd x (fun i => S i && T i) way) (mvd x (fun i => S i || T i) way) := by
  refine ⟨mvd_len .., mvd_len .., mvd_len .., mvd_len .., fun i hi => ?_, fun i hi => ?_, fun i j hi hj => ?_⟩
  · rw [mvd_at hi, mvd_at hi, mvd_at hi, mvd_at hi]
    cases S i <;> cases T i <;> simp <;> omega
  · rw [mvd_at hi, mvd_at hi, mvd_at hi]
    cases S i <;> cases T i <;> simp <;> omega
  · rw [mvd_at hi, mvd_at hi, mvd_at hi, mvd_at hj, mvd_at hj, mvd_at hj]
    cases S i <;> cases T i <;> cases S j <;> cases T j <;> simp <;> omega
/-- of two best sets, what they have in common is best -/
theorem best_meet {h : HD} (ok : h.ok) {x : List Int} (hn : (x.length : Int) = h.many) {S T : Nat → Bool} {way m : Int} (hw : way = 1 ∨ way = -1) (hmin : ∀ U : Nat → Bool, ∀ z, h.worth (mvd x U way) = some z → m ≤ z) (h1 : h.worth (mvd x S way) = some m) (h2 : h.worth (mvd x T way) = some m) : h.worth (mvd x (fun i => S i && T i) way) = some m := by
  obtain ⟨c, d, hc, hd, hcd⟩ := HD.even ok hn (mvd_btw hw) h1 h2
  have q1 := hmin _ _ hc
  have q2 := hmin _ _ hd
  have : c = m := by omega
  rw [← this]
  exact hc
end Ev

/-! xs[i] += e of a list of ints -/
namespace Ev
open PySem L2 Ax
def rGetL (K : PySem.W.Frag) : V → V → Hp → VK → Prop := fun x y H Q => ∃ p xs j v, x = V.ref p ∧ y = V.int ((j : Nat) : Int) ∧ SqL K H p xs ∧ xs[j]? = some v ∧ Q v H
theorem get_list {X : Cx} : PGet X (rGetL X.K) := by
  intro pins s σ H o i ov iv Q I ro ri h
  obtain ⟨p, xs, j, v, rfl, rfl, hq, he, q⟩ := h
  cases ro
  obtain ⟨t, rfl⟩ := ri
  obtain ⟨its, r, pl, hz⟩ := Inv.list I hq
  obtain ⟨w, ew, rw'⟩ := Vals.get r he
  have hl := Vals.length r
  have hj : j < xs.length := (List.getElem?_eq_some_iff.mp he).1
  have := line63
  refine PySem.wpAny_getItem_list pl.isList (by omega) ?_ ?_ ⟨v, H, I, rw', q⟩
  · have : ((xs.length : Nat) : Int) ≤ (sizeLine : Int) := by exact_mod_cast hz
    have : ((sizeLine : Nat) : Int) < 2 ^ 63 := by exact_mod_cast line63
    omega
  · rw [Int.toNat_natCast, List.getElem?_toArray]
    exact ew
theorem pe_fldK {K : PySem.W.Frag} {X : Cx} {e : Expr} {f : Str} {pos : Pos} {ta : TE} (hK : X.K = K) (h : PE X e ta) (hb : attributeBase e f X.env (eval e X.env) = eval e X.env) : PE X (.Attribute e f pos) (tFld K ta f) := hK ▸ pe_fld h hb
def tTr (K : PySem.W.Frag) (ta : TE) : TT := fun σ H Q => ta σ H fun x H' => ∃ k, TruV K x H' k ∧ Q k H'
theorem pt_truthK {K : PySem.W.Frag} {X : Cx} {a : Expr} {ta : TE} (hK : X.K = K) (h : PE X a ta) (he : ∀ whole, isTrue a X.env whole = (do let v ← whole; standAt a.pos; holding [v] (truthy v))) : PT X a (tTr K ta) := hK ▸ pt_truth h he
end Ev

/-! how moves stand in the heap -/
namespace Ev
open PySem L2 Ax
def mflds : List Str := ["many", "gains", "needs"]
def fMoves (n : Int) (ga na : Addr) : List (Str × V) := [("many", .int n), ("gains", .ref ga), ("needs", .ref na)]
theorem fmv_many : ("many" : Str) ∈ mflds := by unfold mflds; simp
theorem fmv_gains : ("gains" : Str) ∈ mflds := by unfold mflds; simp
theorem fmv_needs : ("needs" : Str) ∈ mflds := by unfold mflds; simp
theorem lk_Moves_many {n : Int} {ga na : Addr} : List.lookup ("many" : Str) (fMoves n ga na) = some (.int n) := by kernel_rfl
theorem lk_Moves_gains {n : Int} {ga na : Addr} : List.lookup ("gains" : Str) (fMoves n ga na) = some (.ref ga) := by kernel_rfl
theorem lk_Moves_needs {n : Int} {ga na : Addr} : List.lookup ("needs" : Str) (fMoves n ga na) = some (.ref na) := by kernel_rfl
theorem pf_Moves {n : Int} {ga na : Addr} : putF "needs" (.ref na) (putF "gains" (.ref ga) (putF "many" (.int n) [])) = fMoves n ga na := by kernel_rfl
structure MovT (K : PySem.W.Frag) (C : Str → Addr) : Prop where
  cl : Cls K (C "Moves")
  na : ∀ f ∈ mflds, NoAttr K (C "Moves") f
def rowG (n : Nat) (G : Gn) (i : Nat) : List V := (List.range (n + 1)).map fun j => V.int (G i j)
def lstN (n : Nat) (Nd : Nat → Nat) : List V := (List.range n).map fun i => V.int ((Nd i : Nat) : Int)
structure MvAt (C : Str → Addr) (H : Hp) (n : Nat) (m ga na : Addr) (rows : List Addr) (G : Gn) (Nd : Nat → Nat) : Prop where
  obj : ∃ dx, H m = some (.ins (C "Moves") dx (fMoves n ga na))
  gl : H ga = some (.lst (rows.map V.ref))
  len : rows.length = n
  row : ∀ i r, rows[i]? = some r → H r = some (.lst (rowG n G i))
  nd : H na = some (.lst (lstN n Nd))
  dist : rows.Nodup
  nga : ga ∉ rows
  nna : na ∉ rows
  nn : na ≠ ga
theorem MvAt.same {C : Str → Addr} {H H' : Hp} {n : Nat} {m ga na : Addr} {rows : List Addr} {G : Gn} {Nd : Nat → Nat} (s : Same H H') (h : MvAt C H n m ga na rows G Nd) : MvAt C H' n m ga na rows G Nd :=
  ⟨let ⟨dx, e⟩ := h.obj; ⟨dx, s _ _ e⟩, s _ _ h.gl, h.len, fun i r e => s _ _ (h.row i r e), s _ _ h.nd, h.dist, h.nga, h.nna, h.nn⟩
/-- what the heap keeps but at some places -/
def Buts (L : List Addr) (H H' : Hp) : Prop := ∀ b o, b ∉ L → H b = some o → H' b = some o
theorem Buts.refl (L : List Addr) (H : Hp) : Buts L H H := fun _ _ _ h => h
theorem Buts.trans {L : List Addr} {H H1 H2 : Hp} (a : Buts L H H1) (b : Buts L H1 H2) : Buts L H H2 := fun c o n h => b c o n (a c o n h)
theorem Buts.of {L : List Addr} {H H' : Hp} (s : Same H H') : Buts L H H' := fun b o _ h => s b o h
theorem Buts.upd {L : List Addr} {H : Hp} {p : Addr} {o : HO} (h : p ∈ L) : Buts L H (L2.upd H p o) := fun b _ n e => by
  rw [upd_ne (fun q => n (by rw [q]; exact h))]; exact e
theorem Buts.lst {L : List Addr} {H H' : Hp} (s : Buts L H H') {b : Addr} {o : HO} (n : b ∉ L) (h : H b = some o) : H' b = some o := s b o n h
theorem getr {α : Type} {f : Nat → α} {n i : Nat} (h : i < n) : ((List.range n).map f)[i]? = some (f i) := by
  rw [List.getElem?_map, List.getElem?_range h]; rfl
theorem setr {α : Type} {f g : Nat → α} {n a : Nat} {v : α} (hv : g a = v) (hg : ∀ i, i ≠ a → g i = f i) : ((List.range n).map f).set a v = (List.range n).map g := by
  apply List.ext_getElem?
  intro i
  rw [List.getElem?_set]
  by_cases h : a = i
  · subst h
    rw [if_pos rfl]
    by_cases hi : a < n
    · rw [List.length_map, List.length_range, if_pos hi, getr hi, hv]
    · rw [List.length_map, List.length_range, if_neg hi, List.getElem?_eq_none (by rw [List.length_map, List.length_range]; omega)]
  · rw [if_neg h]
    by_cases hi : i < n
    · rw [getr hi, getr hi, hg i (fun q => h q.symm)]
    · rw [List.getElem?_eq_none (by rw [List.length_map, List.length_range]; omega), List.getElem?_eq_none (by rw [List.length_map, List.length_range]; omega)]
theorem MvAt.setN {C : Str → Addr} {H : Hp} {n : Nat} {m ga na : Addr} {rows : List Addr} {G : Gn} {Nd : Nat → Nat} {a b : Nat} {v : Int} (h : MvAt C H n m ga na rows G Nd) (hv : v = ((Nd a ||| 2 ^ b : Nat) : Int)) :
    MvAt C (upd H na (.lst ((lstN n Nd).set a (.int v)))) n m ga na rows G (addN Nd a b) := by
  have nm : m ≠ na := by
    obtain ⟨dx, e⟩ := h.obj
    intro q; rw [q, h.nd] at e; cases e
  refine ⟨let ⟨dx, e⟩ := h.obj; ⟨dx, by rw [upd_ne nm]; exact e⟩, by rw [upd_ne h.nn.symm]; exact h.gl, h.len, fun i r e => ?_, ?_, h.dist, h.nga, h.nna, h.nn⟩
  · rw [upd_ne (fun q => h.nna (by rw [← q]; exact List.mem_of_getElem? e))]
    exact h.row i r e
  · rw [upd_same]
    congr 2
    refine setr ?_ fun i hi => ?_
    · unfold addN; rw [if_pos rfl, hv]
    · unfold addN; rw [if_neg hi]
theorem MvAt.setG {C : Str → Addr} {H : Hp} {n : Nat} {m ga na : Addr} {rows : List Addr} {G : Gn} {Nd : Nat → Nat} {a b : Nat} {r : Addr} {v d : Int} (h : MvAt C H n m ga na rows G Nd) (hr : rows[a]? = some r) (hv : v = G a b + d) :
    MvAt C (upd H r (.lst ((rowG n G a).set b (.int v)))) n m ga na rows (fun i j => G i j + dlt a b d i j) Nd := by
  have hm := List.mem_of_getElem? hr
  have nm : m ≠ r := by
    obtain ⟨dx, e⟩ := h.obj
    intro q; rw [q, h.row a r hr] at e; cases e
  refine ⟨let ⟨dx, e⟩ := h.obj; ⟨dx, by rw [upd_ne nm]; exact e⟩, by rw [upd_ne (fun q => h.nga (by rw [q]; exact hm))]; exact h.gl, h.len, fun i t e => ?_, by rw [upd_ne (fun q => h.nna (by rw [q]; exact hm))]; exact h.nd, h.dist, h.nga, h.nna, h.nn⟩
  by_cases q : i = a
  · subst q
    rw [e] at hr
    cases hr
    rw [upd_same]
    congr 2
    refine setr ?_ fun j hj => ?_
    · show V.int (G i b + dlt i b d i b) = _; unfold dlt; rw [if_pos ⟨rfl, rfl⟩, hv]
    · show V.int (G i j + dlt i b d i j) = _; unfold dlt; rw [if_neg (fun z => hj z.2), Int.add_zero]
  · have nt : t ≠ r := fun z => q (by
      subst z
      obtain ⟨h1, e1⟩ := List.getElem?_eq_some_iff.mp e
      obtain ⟨h2, e2⟩ := List.getElem?_eq_some_iff.mp hr
      exact (List.getElem_inj h.dist).mp (e1.trans e2.symm))
    rw [upd_ne nt, h.row i t e]
    congr 2
    unfold rowG
    congr 1
    funext j
    show _ = V.int (G i j + dlt a b d i j)
    unfold dlt
    rw [if_neg (fun z => q z.1), Int.add_zero]
end Ev

/-! own words: {tuple: value for .. in ..} without tests, the keys tuples of ints and texts -/
namespace L2
open PySem PySem.Spec PyProof.Rows
section
variable {X : Cx}
/-- d[k] = v for a key that is a tuple, told of the heap -/
theorem put_t {pins : List (Addr × Obj)} {σ : St} {H : Hp} {s : Shared} {E : Value → Shared → Prop} {A : Around} {D b : Addr} {kvs : List (List Key × V)} {k : List Key} {v : V} {u r : Value} {Q : Unit → Shared → Prop} (hu : A.units + 1 < cLine) (I : Inv X pins σ H s)
    (hD : H D = some (.dT kvs)) (hb : H b = some (.tup (k.map kV))) (hz : kvs.length < sizeLine) (ry : RelV (.ref b) u) (rv : RelV v r) (h : ∀ s', Inv X pins σ (upd H D (.dT (putK kvs k v))) s' → Q () s') :
    wpAny (model X.prog X.w) A (dictSet D u r) Q E s := by
  cases (show u = Value.ref b from ry)
  obtain ⟨z, hd, xs, rel, dd⟩ := dt_of I.hok hD
  have hl := length_putK kvs k v
  refine wpAny_dictSet_heap (hsz := by rw [← Paired.length rel]; exact z) (show A.units < cLine by omega) (key_of I.hok hb) dd fun h' new same => h _ ?_
  obtain ⟨q, es, ep, hq, c1, c2, c3, _, c5⟩ := new
  refine d_write I (by rw [hD]; exact True.intro) same ⟨q, hq⟩ ⟨by omega, hd, _, (rel.put k hb rv).keeps fun c ys ec => ?_, q, es, ep, hq, c1, c2, c3, c5⟩
  rw [upd_ne (ne_of ec hD (fun z => nomatch z))]
  exact ec
/-- what is read: over the iterable, the new dict at D -/
def tDcT (wi : TI) (g : TG) (tk tv : TE) (vs : List Nat) : TE := fun σ H Q => wi σ H fun J H1 => ∀ D, H1 D = none → ∃ W : Nat → Nat → Hp → Prop, (∃ m, W 0 m (upd H1 D (.dT []))) ∧ ∀ i m H, W i m H →
  (J.stop i H ∧ Q (.ref D) H) ∨ (J.go i H ∧ ∃ Nx : Hp → Prop, (∀ H', Nx H' → ∃ m', m' < m ∧ W (i + 1) m' H') ∧ ∀ x H', J.yld i H x H' → g x (wipe σ vs) H' fun σ2 H2 => wipe σ2 vs = wipe σ vs ∧
    tk σ2 H2 fun y H4 => tv σ2 H4 fun z H5 => ∃ kvs k b, y = .ref b ∧ H5 b = some (.tup (k.map kV)) ∧ H5 D = some (.dT kvs) ∧ kvs.length < sizeLine ∧ Nx (upd H5 D (.dT (putK kvs k z))))
theorem pe_dcT {kx vx tg iter : Expr} {scope : Scope} {own : List (Str × Nat)} {pos : Pos} {wi : TI} {g : TG} {tk tv : TE} (hu : X.A.units + 1 < cLine) (hc : X.calm = true) (hN : X.N.Nodup) (hi : PI X tg iter wi) (ok : BlkOk X.N X.env.scope scope own)
    (hg : ∀ (s : Shared) (H : Hp) (C : Addr) (cl : List (Str × Addr)) (fp : List Addr), PG (X.blk s H scope (compEnvC scope cl C X.env) fp) tg g)
    (hk : ∀ (s : Shared) (H : Hp) (C : Addr) (cl : List (Str × Addr)) (fp : List Addr), PE (X.blk s H scope (compEnvC scope cl C X.env) fp) kx tk)
    (he : ∀ (s : Shared) (H : Hp) (C : Addr) (cl : List (Str × Addr)) (fp : List Addr), PE (X.blk s H scope (compEnvC scope cl C X.env) fp) vx tv) (hs : ∀ x, foldedSetIterable iter X.env x = pure x := by intro _; rfl) :
    PE X (.DictComp kx vx [⟨tg, iter, [], 0⟩] scope pos) (tDcT wi g tk tv (own.map (·.2))) := by
  refine ⟨fun pins s σ H Q I h => ?_⟩
  rw [arm_eval_DictComp]
  have hfree : ∀ y ∈ scope.names, y.2 = .free → ∃ c, X.env.cells.lookup y.1 = some c := fun y hy e => (ok.free y hy e).elim (fun k => I.ok.has _ (.inl k)) fun k => I.ok.has _ (.inr k)
  refine wpAny_comprehension_free (use := none) rfl hs (closure_ok hfree) ok.kind (fun y hy e => by rw [ok.uniq y hy, e]) (thn (hi.run pins s σ H _ I h) fun xv s1 hx => thn hx fun itv s2 h2 => ?_)
  obtain ⟨it, fp, tn, J, H2, rfl, I2, T, st2, f2, q⟩ := h2
  refine wpAny_newObj_type (newEnv_comp ?_)
  obtain ⟨D, hD⟩ : ∃ D, s2.heap.objs.size = D := ⟨_, rfl⟩
  obtain ⟨W, ⟨m0, w0⟩, turn⟩ := q D (I2.hok.fresh (Nat.le_of_eq hD))
  obtain ⟨s3, hs3⟩ : ∃ s3 : Shared, { s2 with heap := s2.heap.push { cls := .type "dict", data := .dict #[] } } = s3 := ⟨_, rfl⟩
  have I3 : Inv X pins σ (upd H2 D (.dT [])) s3 := by
    subst hs3
    refine I2.laid (t' := s2.toks) (fun b o e => Heap.get?_push_of_some _ e) (Nat.le_of_eq hD) ?_
    subst hD
    exact dt_empty s2.heap I2.big
  have h3 : s3.heap = s2.heap.push { cls := .type "dict", data := .dict #[] } := by rw [← hs3]
  have f3 : ∀ b ∈ fp, FpOk X pins (upd H2 D (.dT [])) b ∧ b < s3.heap.objs.size := fun b hb => by
    obtain ⟨o, e, _⟩ := T.obj _ _ st2 b hb
    have hlt := Heap.lt_size e
    refine ⟨⟨?_, (f2 b hb).2⟩, by rw [h3, Heap.size_push]; exact Nat.lt_succ_of_lt hlt⟩
    rw [upd_ne (by rw [← hD]; exact Nat.ne_of_lt hlt)]
    exact (f2 b hb).1
  have st3 : tn 0 s3.heap := T.keep _ _ _ st2 fun b _ o e => by rw [h3]; exact Heap.get?_push_of_some _ e
  rw [hD, hs3]
  have I4 := block_start I3 ok hN f3
  obtain ⟨cl, hcl⟩ : ∃ cl, cellsFrom (s3.heap.objs.size + 1) scope.names (cloFrom X.env.cells scope.names []) = cl := ⟨_, rfl⟩
  rw [hcl] at I4
  have pg := hg s3 (upd H2 D (.dT [])) s3.heap.objs.size cl fp
  have pk := hk s3 (upd H2 D (.dT [])) s3.heap.objs.size cl fp
  have pe := he s3 (upd H2 D (.dT [])) s3.heap.objs.size cl fp
  have cL : (compEnvC scope cl s3.heap.objs.size X.env).locals = s3.heap.objs.size := rfl
  show codeAny _ _ (.compStart (.DictComp kx vx [⟨tg, iter, [], 0⟩] scope pos) 0 (.ref it) (.ref D) (compEnvC scope (cellsFrom (s3.heap.objs.size + 1) scope.names (cloFrom X.env.cells scope.names [])) s3.heap.objs.size X.env)) _ { s3 with heap := pushCells (s3.heap.push { cls := .type "dict", data := .dict #[] }) scope.names }
  rw [hcl]
  generalize compEnvC scope cl s3.heap.objs.size X.env = ce at I4 pg pk pe cL ⊢
  have nfp : ∀ b ∈ fp, (upd H2 D (.dT [])) b = none := fun b hb => (f3 b hb).1.1
  generalize upd H2 D (.dT []) = H3 at I3 I4 pg pk pe w0 nfp f3
  generalize hs4 : ({ s3 with heap := pushCells (s3.heap.push { cls := .type "dict", data := .dict #[] }) scope.names } : Shared) = s4 at I4 ⊢
  have st4 : tn 0 s4.heap := T.keep _ _ _ st3 fun b _ o e => by rw [← hs4]; exact pushCells_keeps _ _ _ _ (Heap.get?_push_of_some _ e)
  have stat : ∀ {σ' : St} {H' : Hp} {s' : Shared}, Inv (X.blk s3 H3 scope ce fp) [] σ' H' s' → (∀ b ∈ fp, H' b = none) → ∀ b ∈ fp, FpOk (X.blk s3 H3 scope ce fp) [] H' b := fun {σ' H' s'} I' hn b hb =>
    ⟨hn b hb, (I'.ok.exf b hb).1, I'.ok.exfs b hb, .inl hb, fun x c e => (I'.ok.exf b hb).2 x c e, fun p hp => absurd (show p ∈ ([] : List (Addr × Obj)) ++ [] from hp) (by simp)⟩
  suffices loop : codeAny (model X.prog X.w) X.A (.compLoop (.DictComp kx vx [⟨tg, iter, [], 0⟩] scope pos) 0 (.ref it) (.ref D) ce) _ s4 from codeAny_compStart_dict loop (T.self X.A 0 _ _ _ st4 loop)
  refine compLoop_anyD (fun n s' => ∃ i H', Inv (X.blk s3 H3 scope ce fp) [] (wipe σ (own.map (·.2))) H' s' ∧ tn i s'.heap ∧ (∀ b ∈ fp, H' b = none) ∧ W i n H') ?_ m0 ⟨0, H3, I4, st4, nfp, w0⟩
  rintro n s5 ⟨i, H5, I5, st5, n5, w5⟩
  rcases turn i n H5 w5 with ⟨stop, qq⟩ | ⟨go, Nx, hNx, step⟩
  · refine thnF (T.done (X.blk s3 H3 scope ce fp) rfl rfl rfl hc i [] s5 _ H5 (fun _ _ => False) I5 (stat I5 n5) st5 stop) fun r s6 ⟨hr, I6⟩ => ?_
    subst hr
    have I7 : Inv X pins σ H5 s6 := I3.call' (ch := fp) I6.os I6.base I6.hok I6.bare fun b hb => ⟨(f3 b hb).1.2.2.2.1, (f3 b hb).1.2.1, (f3 b hb).1.2.2.2.2.1, (f3 b hb).1.2.2.2.2.2⟩
    have nC : H5 s3.heap.objs.size = none := by
      have z : H5 ce.locals = none := I6.free
      rwa [cL] at z
    obtain ⟨m, hn, _⟩ := I6.loc
    have hn : s6.heap.Ns ce.locals m := hn
    rw [cL] at hn
    obtain ⟨k0, k1, k2, k3, k4, k5⟩ := I3.fpOk (Nat.le_refl _) nC
    exact ⟨m, hn, fun h'' sb => ⟨.ref D, H5, I7.turned (t' := s6.toks) (fun b o hb e => (sb.2 b hb).trans e) k0 k1 k3 k4 k5, rfl, qq⟩⟩
  · refine thnF (T.item (X.blk s3 H3 scope ce fp) rfl rfl rfl hc i [] s5 _ H5 (fun _ _ => False) I5 (stat I5 n5) st5 go) fun r s6 ⟨u, hr, h6⟩ => ?_
    subst hr
    refine thnF h6 fun _ s7 ⟨x, H7, I7, r7, y7, st7, n7⟩ => ?_
    refine thnF (pg.run _ s7 _ H7 x u _ (I7.pinned (stat I7 n7) (T.obj _ _ st7)) r7 (step x H7 y7)) fun _ s8 ⟨σ8, H8, I8, hw8, q8⟩ => ?_
    refine wpAny_pure ?_
    refine thnF (pk.run _ s8 σ8 H8 _ I8 q8) fun z s10 ⟨yk, H10, I10, r10, q10⟩ => ?_
    refine thnF (pe.run _ s10 σ8 H10 _ I10 q10) fun z2 s11 ⟨yv, H11, I11, r11, kvs, k, b, ek, hb11, hD11, hz11, nx⟩ => ?_
    subst ek
    refine put_t (X := X.blk s3 H3 scope ce fp) hu I11 hD11 hb11 hz11 r10 r11 fun s' I' => ?_
    obtain ⟨m', hm, w'⟩ := hNx _ nx
    have pin' : ∀ b ∈ fp, ∀ o, s7.heap.get? b = some o → s'.heap.get? b = some o ∧ (upd H11 D (.dT (putK kvs k yv))) b = none := fun b hb o e =>
      have z := I'.pin (b, o) (List.mem_append_right _ (List.mem_append_right _ (mem_pinsAt hb e)))
      ⟨z.1, z.2.1⟩
    refine ⟨m', hm, i + 1, _, (I'.unpinned (pins := [])).weak (by rw [← hw8, wipe_length]) (fun j v e => ?_), T.keep _ _ _ st7 fun b hb o e => (pin' b hb o e).1, fun b hb => ?_, w'⟩
    · rw [← hw8] at e
      exact (wipe_some e).1
    · obtain ⟨o, e, _⟩ := T.obj _ _ st7 b hb
      exact (pin' b hb o e).2
end
/-- any walk, its turn told by F -/
theorem wk_it {J : It} {n : Nat} {G : Hp → Prop} {Y : Nat → Hp → V → Hp → Prop} (w : Walk J n G Y) {H0 : Hp} {Qd : Hp → Prop} {F : (Hp → Prop) → V → Hp → Prop} (Pv : Nat → Hp → Prop) (h0 : Pv 0 H0) (hG : ∀ i H, i ≤ n → Pv i H → G H)
    (hs : ∀ i x H H', i < n → Pv i H → Y i H x H' → F (Pv (i + 1)) x H') (hd : ∀ H, Pv n H → Qd H) :
    ∃ W : Nat → Nat → Hp → Prop, (∃ m, W 0 m H0) ∧ ∀ i m H, W i m H → (J.stop i H ∧ Qd H) ∨ (J.go i H ∧ ∃ Nx : Hp → Prop, (∀ H', Nx H' → ∃ m', m' < m ∧ W (i + 1) m' H') ∧ ∀ x H', J.yld i H x H' → F Nx x H') := by
  refine ⟨fun i m H => m = n - i ∧ i ≤ n ∧ Pv i H, ⟨n, by simp, Nat.zero_le _, h0⟩, ?_⟩
  rintro i m H ⟨rfl, hi, p⟩
  have q := hG i H hi p
  rcases Nat.lt_or_ge i n with hlt | hge
  · exact .inr ⟨w.goes i H hlt q, Pv (i + 1), fun H' p' => ⟨n - (i + 1), by omega, rfl, hlt, p'⟩, fun x H' y => hs i x H H' hlt p (w.yields i H x H' hlt q y)⟩
  · obtain rfl : i = n := by omega
    exact .inl ⟨w.stops H q, hd H p⟩
end L2

/-! charts as data: the points below some sizes, the table of their worths -/
namespace Ev
open PySem L2 Ax
def pB (pts : List (List Int)) (s : Int) : List (List Int) := pts.flatMap fun p => (List.range s.toNat).map fun j => p ++ [((j : Nat) : Int)]
def ptsB (ss : List Int) : List (List Int) := ss.foldl pB [[]]
def InB : List Int → List Int → Prop
  | [], p => p = []
  | s :: ss, p => ∃ x r, p = x :: r ∧ 0 ≤ x ∧ x < s ∧ InB ss r
theorem mem_pB {pts : List (List Int)} {s : Int} {p : List Int} : p ∈ pB pts s ↔ ∃ q x, q ∈ pts ∧ p = q ++ [x] ∧ 0 ≤ x ∧ x < s := by
  unfold pB
  rw [List.mem_flatMap]
  constructor
  · rintro ⟨q, hq, hp⟩
    obtain ⟨j, hj, rfl⟩ := List.mem_map.mp hp
    exact ⟨q, _, hq, rfl, Int.natCast_nonneg _, by have := List.mem_range.mp hj; omega⟩
  · rintro ⟨q, x, hq, rfl, h0, h1⟩
    exact ⟨q, hq, List.mem_map.mpr ⟨x.toNat, List.mem_range.mpr (by omega), by rw [Int.toNat_of_nonneg h0]⟩⟩
theorem mem_foldB : ∀ (ss : List Int) (pts : List (List Int)) (p : List Int), p ∈ ss.foldl pB pts ↔ ∃ q r, q ∈ pts ∧ p = q ++ r ∧ InB ss r
  | [], pts, p => ⟨fun h => ⟨p, [], h, by rw [List.append_nil], rfl⟩, fun ⟨q, r, hq, e, hr⟩ => by
      rw [show r = [] from hr, List.append_nil] at e
      rw [e]; exact hq⟩
  | s :: ss, pts, p => by
    rw [List.foldl_cons, mem_foldB ss]
    constructor
    · rintro ⟨q, r, hq, rfl, hr⟩
      obtain ⟨q', x, hq', rfl, h0, h1⟩ := mem_pB.mp hq
      exact ⟨q', x :: r, hq', by rw [List.append_assoc]; rfl, x, r, rfl, h0, h1, hr⟩
    · rintro ⟨q, r, hq, rfl, x, r', rfl, h0, h1, hr⟩
      exact ⟨q ++ [x], r', mem_pB.mpr ⟨q, x, hq, rfl, h0, h1⟩, by rw [List.append_assoc]; rfl, hr⟩
theorem mem_ptsB {ss p : List Int} : p ∈ ptsB ss ↔ InB ss p := by
  unfold ptsB
  rw [mem_foldB]
  constructor
  · rintro ⟨q, r, hq, rfl, hr⟩
    rw [List.mem_singleton.mp hq]
    exact hr
  · exact fun h => ⟨[], p, List.mem_singleton.mpr rfl, rfl, h⟩
theorem nodup_pB {pts : List (List Int)} {s : Int} (h : pts.Nodup) : (pB pts s).Nodup := by
  unfold pB List.Nodup
  rw [List.pairwise_flatMap]
  refine ⟨fun q _ => ?_, h.imp_of_mem fun {a b} _ _ hab x hx y hy e => ?_⟩
  · rw [List.pairwise_map]
    refine List.nodup_range.imp_of_mem fun {a b} _ _ hab e => hab ?_
    have := (List.append_inj' e rfl).2
    have := List.cons.inj this
    omega
  · obtain ⟨i, _, rfl⟩ := List.mem_map.mp hx
    obtain ⟨j, _, rfl⟩ := List.mem_map.mp hy
    exact hab (List.append_inj' e rfl).1
theorem nodup_foldB : ∀ (ss : List Int) (pts : List (List Int)), pts.Nodup → (ss.foldl pB pts).Nodup
  | [], _, h => h
  | _ :: ss, _, h => nodup_foldB ss _ (nodup_pB h)
theorem nodup_ptsB (ss : List Int) : (ptsB ss).Nodup := nodup_foldB ss _ (List.pairwise_singleton _ _)
theorem len_pB : ∀ (pts : List (List Int)) (s : Int), (pB pts s).length = pts.length * s.toNat
  | [], s => by unfold pB; simp
  | p :: pts, s => by
    have e : pB (p :: pts) s = ((List.range s.toNat).map fun j => p ++ [((j : Nat) : Int)]) ++ pB pts s := by unfold pB; rw [List.flatMap_cons]
    rw [e, List.length_append, List.length_map, List.length_range, len_pB pts s, List.length_cons, Nat.add_mul, Nat.one_mul, Nat.add_comm]
/-- sizes that are some -/
def SzOk (ss : List Int) : Prop := 0 < ss.length ∧ ss.length ≤ 3 ∧ ∀ s ∈ ss, 1 ≤ s ∧ s ≤ 4
theorem len_foldB : ∀ (ss : List Int) (pts : List (List Int)), (∀ s ∈ ss, 1 ≤ s ∧ s ≤ 4) → (ss.foldl pB pts).length ≤ pts.length * 4 ^ ss.length ∧ (0 < pts.length → 0 < (ss.foldl pB pts).length)
  | [], pts, _ => by simp
  | s :: ss, pts, h => by
    have ih := len_foldB ss (pB pts s) fun t ht => h t (List.mem_cons_of_mem _ ht)
    rw [len_pB] at ih
    have hs := h s List.mem_cons_self
    have l4 : s.toNat ≤ 4 := by omega
    have l1 : 0 < s.toNat := by omega
    rw [List.foldl_cons, List.length_cons, Nat.pow_succ]
    refine ⟨Nat.le_trans ih.1 ?_, fun hp => ih.2 (Nat.mul_pos hp l1)⟩
    rw [show pts.length * (4 ^ ss.length * 4) = pts.length * 4 * 4 ^ ss.length by rw [Nat.mul_assoc, Nat.mul_comm (4 ^ ss.length) 4]]
    exact Nat.mul_le_mul_right _ (Nat.mul_le_mul_left _ l4)
theorem InB.len : ∀ {ss p : List Int}, InB ss p → p.length = ss.length
  | [], _, h => by rw [show _ = [] from h]
  | _ :: _, _, ⟨x, r, e, _, _, h⟩ => by rw [e, List.length_cons, List.length_cons, h.len]
theorem InB.get : ∀ {ss p : List Int}, InB ss p → ∀ (i : Nat) (x : Int), p[i]? = some x → 0 ≤ x ∧ ∃ s, ss[i]? = some s ∧ x < s
  | [], _, h, i, x, e => by rw [show _ = [] from h] at e; simp at e
  | s :: ss, _, ⟨y, r, rfl, h0, h1, h⟩, 0, x, e => by
    simp at e
    subst e
    exact ⟨h0, s, rfl, h1⟩
  | s :: ss, _, ⟨y, r, rfl, h0, h1, h⟩, i + 1, x, e => by
    simp at e
    simpa using h.get i x e
theorem InB.of : ∀ {ss p : List Int}, p.length = ss.length → (∀ (i : Nat) (x s : Int), p[i]? = some x → ss[i]? = some s → 0 ≤ x ∧ x < s) → InB ss p
  | [], p, l, _ => List.length_eq_zero_iff.mp l
  | s :: ss, [], l, _ => by simp at l
  | s :: ss, x :: r, l, h => ⟨x, r, rfl, (h 0 x s rfl rfl).1, (h 0 x s rfl rfl).2, InB.of (by simpa using l) fun i y t e1 e2 => h (i + 1) y t (by simpa using e1) (by simpa using e2)⟩
/-! halves -/
def upL (x y : List Int) : List Int := (x.zip y).map fun q => (q.1 + q.2 + 1) / 2
def dnL (x y : List Int) : List Int := (x.zip y).map fun q => (q.1 + q.2) / 2
theorem InB.up : ∀ {ss x y : List Int}, InB ss x → InB ss y → InB ss (upL x y)
  | [], _, _, h, h2 => by rw [show _ = [] from h, show _ = [] from h2]; rfl
  | s :: ss, _, _, ⟨x, r, e, a0, a1, h⟩, ⟨y, q, e2, b0, b1, h2⟩ => by
    subst e e2
    exact ⟨(x + y + 1) / 2, upL r q, rfl, by omega, by omega, h.up h2⟩
theorem InB.dn : ∀ {ss x y : List Int}, InB ss x → InB ss y → InB ss (dnL x y)
  | [], _, _, h, h2 => by rw [show _ = [] from h, show _ = [] from h2]; rfl
  | s :: ss, _, _, ⟨x, r, e, a0, a1, h⟩, ⟨y, q, e2, b0, b1, h2⟩ => by
    subst e e2
    exact ⟨(x + y) / 2, dnL r q, rfl, by omega, by omega, h.dn h2⟩
/-- the worths bend evenly -/
def CvxB (ss : List Int) (W : List Int → Int) : Prop := ∀ x y, InB ss x → InB ss y → W (upL x y) + W (dnL x y) ≤ W x + W y
/-! the table -/
def kI (p : List Int) : List Key := p.map Sum.inl
theorem kI_kV (p : List Int) : (kI p).map kV = p.map V.int := by unfold kI; rw [List.map_map]; rfl
theorem kI_inj {p q : List Int} (h : kI p = kI q) : p = q := by
  unfold kI at h
  exact List.map_inj_right (fun a b e => Sum.inl.inj e) |>.mp h
def tabK (pts : List (List Int)) (W : List Int → Int) : List (List Key × V) := pts.map fun p => (kI p, V.int (W p))
theorem val_tab : ∀ (pts : List (List Int)) (W : List Int → Int) (q : List Int), valV (tabK pts W) (kI q) = if q ∈ pts then some (V.int (W q)) else none
  | [], _, _ => rfl
  | p :: pts, W, q => by
    unfold tabK valV
    rw [List.map_cons, List.find?_cons]
    by_cases e : p = q
    · subst e
      rw [show decide (kI p = kI p) = true from decide_eq_true rfl, if_pos List.mem_cons_self]
      rfl
    · rw [show decide (kI p = kI q) = false from decide_eq_false fun z => e (kI_inj z)]
      have ih := val_tab pts W q
      unfold tabK valV at ih
      show Option.map _ (List.find? _ (List.map _ pts)) = _
      rw [ih]
      by_cases m : q ∈ pts
      · rw [if_pos m, if_pos (List.mem_cons_of_mem _ m)]
      · rw [if_neg m, if_neg fun z => (List.mem_cons.mp z).elim (fun z => e z.symm) m]
theorem put_new {kvs : List (List Key × V)} {k : List Key} {v : V} (h : ∀ kv ∈ kvs, kv.1 ≠ k) : putK kvs k v = kvs ++ [(k, v)] := by
  unfold putK
  rw [if_neg]
  intro z
  obtain ⟨kv, hm, e⟩ := List.any_eq_true.mp z
  exact h kv hm (by simpa using e)
theorem tab_snoc {pts : List (List Int)} {W : List Int → Int} {i : Nat} {p : List Int} (nd : pts.Nodup) (h : pts[i]? = some p) : putK (tabK (pts.take i) W) (kI p) (V.int (W p)) = tabK (pts.take (i + 1)) W := by
  rw [put_new fun kv hkv e => ?_, List.take_add_one, h]
  · unfold tabK
    rw [List.map_append]
    rfl
  · obtain ⟨q, hq, rfl⟩ := List.mem_map.mp hkv
    have e : q = p := kI_inj e
    subst e
    obtain ⟨hi, ge⟩ := List.getElem?_eq_some_iff.mp h
    obtain ⟨j, hj, ge2⟩ := List.getElem_of_mem hq
    rw [List.getElem_take] at ge2
    have l : j < i := by rw [List.length_take] at hj; omega
    have := (List.getElem_inj nd).mp (ge2.trans ge.symm)
    omega
/-! lists of points in the heap -/
structure LsAt (H : Hp) (ps : List (List Int)) (as : List Addr) : Prop where
  len : as.length = ps.length
  all : ∀ (i : Nat) (p : List Int) (a : Addr), ps[i]? = some p → as[i]? = some a → H a = some (.lst (p.map V.int))
theorem LsAt.smt {H H' : Hp} {ps : List (List Int)} {as : List Addr} (h : LsAt H ps as) (s : SmT H H') : LsAt H' ps as := ⟨h.len, fun i p a e1 e2 => s.lst (h.all i p a e1 e2)⟩
theorem LsAt.nil {H : Hp} : LsAt H [] [] := ⟨rfl, fun i p a e _ => by simp at e⟩
theorem LsAt.snoc {H H' : Hp} {ps : List (List Int)} {as : List Addr} (h : LsAt H ps as) (s : SmT H H') {p : List Int} {a : Addr} (e : H' a = some (.lst (p.map V.int))) : LsAt H' (ps ++ [p]) (as ++ [a]) := by
  refine ⟨by simp [h.len], fun i q b e1 e2 => ?_⟩
  by_cases l : i < ps.length
  · rw [List.getElem?_append_left l] at e1
    rw [List.getElem?_append_left (by rw [h.len]; exact l)] at e2
    exact s.lst (h.all i q b e1 e2)
  · rw [List.getElem?_append_right (by omega)] at e1
    rw [List.getElem?_append_right (by rw [h.len]; omega)] at e2
    obtain ⟨l1, g1⟩ := List.getElem?_eq_some_iff.mp e1
    simp at l1
    have z : i - ps.length = 0 := by omega
    have z2 : i - as.length = 0 := by rw [h.len]; omega
    rw [z] at e1
    rw [z2] at e2
    simp at e1 e2
    subst e1 e2
    exact e
theorem LsAt.app {H : Hp} {ps qs : List (List Int)} {as bs : List Addr} (h : LsAt H ps as) (h2 : LsAt H qs bs) : LsAt H (ps ++ qs) (as ++ bs) := by
  refine ⟨by simp [h.len, h2.len], fun i q b e1 e2 => ?_⟩
  by_cases l : i < ps.length
  · rw [List.getElem?_append_left l] at e1
    rw [List.getElem?_append_left (by rw [h.len]; exact l)] at e2
    exact h.all i q b e1 e2
  · rw [List.getElem?_append_right (by omega)] at e1
    rw [List.getElem?_append_right (by rw [h.len]; omega), h.len] at e2
    exact h2.all _ q b e1 e2
theorem LsAt.get {H : Hp} {ps : List (List Int)} {as : List Addr} (h : LsAt H ps as) {i : Nat} {v : V} (e : (as.map V.ref)[i]? = some v) : ∃ a p, v = .ref a ∧ ps[i]? = some p ∧ as[i]? = some a ∧ H a = some (.lst (p.map V.int)) := by
  rw [List.getElem?_map] at e
  obtain ⟨a, ha, rfl⟩ := Option.map_eq_some_iff.mp e
  have hi : i < ps.length := by rw [← h.len]; exact (List.getElem?_eq_some_iff.mp ha).1
  exact ⟨a, ps[i], rfl, List.getElem?_eq_getElem hi, ha, h.all i _ a (List.getElem?_eq_getElem hi) ha⟩
theorem LsAt.lst {H : Hp} {ps : List (List Int)} {as : List Addr} (h : LsAt H ps as) {q : Addr} (hq : q ∈ as) : ∃ p ∈ ps, H q = some (.lst (p.map V.int)) := by
  obtain ⟨i, hi, e⟩ := List.getElem_of_mem hq
  have e2 := List.getElem?_eq_getElem (show i < ps.length by rw [← h.len]; exact hi)
  exact ⟨_, List.mem_of_getElem? e2, h.all i _ q e2 (by rw [List.getElem?_eq_getElem hi, e])⟩
theorem prd_get {α β : Type} {F : α → β → Prop} : ∀ {l₁ : List α} {l₂ : List β}, PySem.Paired F l₁ l₂ → ∀ {i : Nat} {x : α}, l₁[i]? = some x → ∃ u, l₂[i]? = some u ∧ F x u
  | _, _, .nil, i, x, e => by simp at e
  | _, _, .cons r t, 0, x, e => by simp at e; subst e; exact ⟨_, rfl, r⟩
  | _, _, .cons r t, i + 1, x, e => by
    obtain ⟨u, hu, q⟩ := prd_get t (i := i) (by simpa using e)
    exact ⟨u, by simpa using hu, q⟩
theorem LsAt.updD {H : Hp} {ps : List (List Int)} {as : List Addr} {D : Addr} {o : HO} (h : LsAt H ps as) (n : D ∉ as) : LsAt (upd H D o) ps as :=
  ⟨h.len, fun i p a e1 e2 => by rw [upd_ne (fun q => n (by rw [← q]; exact List.mem_of_getElem? e2))]; exact h.all i p a e1 e2⟩
theorem pB_snoc {pts : List (List Int)} {s : Int} {j : Nat} {p : List Int} (h : pts[j]? = some p) : pB (pts.take (j + 1)) s = pB (pts.take j) s ++ (List.range s.toNat).map fun t => p ++ [((t : Nat) : Int)] := by
  unfold pB
  rw [List.take_add_one, h, List.flatMap_append]
  simp
theorem pB_room {pts : List (List Int)} {k : Nat} {j t : Nat} (hj : j < pts.length) (ht : t ≤ k) : (pB (pts.take j) ((k : Nat) : Int)).length + t ≤ (pB pts ((k : Nat) : Int)).length := by
  rw [len_pB, len_pB, List.length_take, Nat.min_eq_left (Nat.le_of_lt hj), Int.toNat_natCast]
  have := Nat.mul_le_mul_right k (show j + 1 ≤ pts.length from hj)
  rw [Nat.add_mul] at this
  omega
theorem len_takeB {ss : List Int} (h : SzOk ss) (i : Nat) : ((ss.take i).foldl pB [[]]).length ≤ 64 := by
  have := (len_foldB (ss.take i) [[]] fun s hs => h.2.2 s (List.mem_of_mem_take hs)).1
  have l : (ss.take i).length ≤ 3 := by rw [List.length_take]; have := h.2.1; omega
  have p : 4 ^ (ss.take i).length ≤ 4 ^ 3 := Nat.pow_le_pow_right (by decide) l
  simp only [List.length_cons, List.length_nil] at this
  omega
theorem fold_snoc {ss : List Int} {i : Nat} {s : Int} (h : ss[i]? = some s) : (ss.take (i + 1)).foldl pB [[]] = pB ((ss.take i).foldl pB [[]]) s := by
  rw [List.take_add_one, h, List.foldl_append]
  rfl
/-- the keys of a table, as tuples -/
theorem keys_of {H : Hp} {W : List Int → Int} {pts : List (List Int)} {bs : List Addr} (h : IsKeys H (tabK pts W) bs) : bs.length = pts.length ∧ ∀ (i : Nat) (p : List Int) (b : Addr), pts[i]? = some p → bs[i]? = some b → H b = some (.tup (p.map V.int)) := by
  refine ⟨by rw [← Paired.length h]; unfold tabK; rw [List.length_map], fun i p b e1 e2 => ?_⟩
  obtain ⟨u, hu, r⟩ := prd_get h (i := i) (x := (kI p, V.int (W p))) (by unfold tabK; rw [List.getElem?_map, e1]; rfl)
  rw [e2] at hu
  cases hu
  rw [kI_kV] at r
  exact r
theorem walk_zipT {K : PySem.W.Frag} {a b : Addr} {xs ys : List V} {n : Nat} (hn : n = min xs.length ys.length) : Walk (RZ.ItzT K a b) n (fun H => SqT K H a xs ∧ SqT K H b ys) (YPair (fun i => xs[i]?) (fun i => ys[i]?)) := by
  subst hn
  refine ⟨fun i H hi q => ?_, fun H q => ⟨xs, ys, q.1, q.2, by omega⟩, fun i H v H' _ q y => ?_⟩
  · have h1 : i < xs.length := by omega
    have h2 : i < ys.length := by omega
    exact ⟨xs, ys, xs[i], ys[i], q.1, q.2, by simp [h1], by simp [h2]⟩
  · obtain ⟨T, x, z, h1, h2, h3, h4, h5⟩ := y
    exact ⟨T, x, z, h1, h2, h3, h4 xs q.1, h5 ys q.2⟩
def smL (x y : List Int) : List Int := (x.zip y).map fun q => q.1 + q.2
theorem up_sm (x y : List Int) : upL x y = (smL x y).map fun t => (t + 1) / 2 := by unfold upL smL; rw [List.map_map]; rfl
theorem dn_sm (x y : List Int) : dnL x y = (smL x y).map fun t => t / 2 := by unfold dnL smL; rw [List.map_map]; rfl
/-- tuple(e), the fragment told -/
def rTupOf (K : PySem.W.Frag) : List V → Hp → VK → Prop := fun xs H Q => ∃ p ys, xs = [.ref p] ∧ ((SqL K H p ys ∧ ∀ l, H l = none → Q (.ref l) (upd H l (.tup ys))) ∨ (SqT K H p ys ∧ Q (.ref p) H))
/-! a chart -/
def fChart (t : Addr) : List (Str × V) := [("table", .ref t)]
structure ChAtB (C : Str → Addr) (H : Hp) (ss : List Int) (W : List Int → Int) (c : Addr) : Prop where
  ex : ∃ dx t, H c = some (.ins (C "Chart") dx (fChart t)) ∧ H t = some (.dT (tabK (ptsB ss) W))
theorem ChAtB.smt {C : Str → Addr} {H H' : Hp} {ss : List Int} {W : List Int → Int} {c : Addr} (h : ChAtB C H ss W c) (s : SmT H H') : ChAtB C H' ss W c :=
  let ⟨dx, t, e1, e2⟩ := h.ex
  ⟨dx, t, s.ins e1, s.at_ _ _ (fun _ z => by cases z) e2⟩
theorem len_ptsB {ss : List Int} (h : SzOk ss) : 0 < (ptsB ss).length ∧ (ptsB ss).length ≤ 64 := by
  have := len_foldB ss [[]] h.2.2
  have p : 4 ^ ss.length ≤ 4 ^ 3 := Nat.pow_le_pow_right (by decide) h.2.1
  have e : ptsB ss = ss.foldl pB [[]] := rfl
  rw [e]
  simp only [List.length_cons, List.length_nil] at this
  exact ⟨this.2 (by decide), by omega⟩
end Ev

/-! as Gq, with objects told to be there: quiet expressions (they keep all but the heap's new objects), a quiet def, all(..) of a generator expression over a list of ints -/
namespace Gm
open Gq (kp_refl kp_tok kp_trans kp_get code_step EnvOk QOp IsI IsB)
open PySem PySem.Spec PyProof.Rows L2

/-- where a quiet expression is read: its frame's names, and what was written ahead -/
abbrev Pins := List (Addr × Obj)
structure At (base : Heap) (L : Pins) (env : Env) (m : Str → Option Value) (s : Shared) : Prop where
  ns : s.heap.Ns env.locals m
  pn : ∀ p ∈ L, s.heap.get? p.1 = some p.2
  bk : ∀ b o, base.get? b = some o → s.heap.get? b = some o
theorem At.kp {base : Heap} {L : Pins} {env : Env} {m : Str → Option Value} {s s' : Shared} (a : At base L env m s) (k : Keeps s s') : At base L env m s' :=
  ⟨a.ns.keeps (kp_get k), fun p hp => kp_get k _ _ (a.pn p hp), fun b o e => kp_get k _ _ (a.bk b o e)⟩
/-- e gives a value of R, quietly -/
def QE (P : Program) (w : World) (base : Heap) (L : Pins) (k : Nat) (env : Env) (m : Str → Option Value) (e : Expr) (R : Value → Prop) : Prop :=
  ∀ (A : Around) (E : Value → Shared → Prop) (s : Shared), Room k A → At base L env m s → wpAny (model P w) A (eval e env) (fun v s' => R v ∧ Keeps s s') E s
section
variable {P : Program} {w : World} {K : PySem.W.Frag} {mg : Str → Option Value} {base : Heap} {L : Pins} {k : Nat} {env : Env} {m : Str → Option Value} {e e1 e2 e3 : Expr} {R R1 R2 R3 : Value → Prop} {x : Str} {u : Value} {p p0 p1 pos : Pos}
theorem qe_imp {R' : Value → Prop} (h : QE P w base L k env m e R) (i : ∀ v, R v → R' v) : QE P w base L k env m e R' := fun A E s r a => wpAny_mono (h A E s r a) (fun v s' q => ⟨i v q.1, q.2⟩) fun _ _ x => x
theorem qe_loc (O : EnvOk env) (hl : env.scope.names.lookup x = some .local) (hm : m x = some u) (hd : (x == ("__debug__" : Str)) = false := by decide) : QE P w base L k env m (.Name x p) (fun v => v = u) := fun A E s r a =>
  wpAny_Name (wpAny_loadName_local O.kind hl a.ns hm ⟨rfl, kp_refl _⟩) hd
theorem qe_glob (M : L2.Mod K mg base) (O : EnvOk env) (hl : env.scope.names.lookup x = some .globalImplicit) (hm : mg x = some u) (hd : (x == ("__debug__" : Str)) = false := by decide) : QE P w base L k env m (.Name x p) (fun v => v = u) := fun A E s r a =>
  Calls.Name_function_global O.kind hl (Calls.loadGlobal_global (by rw [O.glob]; exact M.glob.keeps a.bk) hm ⟨rfl, kp_refl _⟩) hd
theorem qe_blt (M : L2.Mod K mg base) (O : EnvOk env) (hl : env.scope.names.lookup x = some .globalImplicit) (hm : mg x = none) (hv : bootBuiltins x = some u) (hn : x ≠ "__name__" := by decide) (hd : (x == ("__debug__" : Str)) = false := by decide) :
    QE P w base L k env m (.Name x p) (fun v => v = u) := fun A E s r a => by
  obtain ⟨mb, h1, h2⟩ := M.blt
  exact Calls.Name_function_global O.kind hl (Calls.loadGlobal_builtin (by rw [O.glob]; exact M.glob.keeps a.bk) hm (by rw [O.blt]; exact h1.keeps a.bk) ((h2 x hn).trans hv) ⟨rfl, kp_refl _⟩) hd
theorem qe_neg {n : Int} (h : QE P w base L k env m e (IsI n)) : QE P w base L k env m (.UnaryOp .USub e pos) (IsI (-n)) := fun A E s r a => by
  refine UnaryOp_ (wpAny_mono (h A E s r a) (fun v s1 q => ?_) fun _ _ x => x)
  obtain ⟨⟨t, rfl⟩, kp⟩ := q
  exact neg_int ⟨⟨_, rfl⟩, kp_trans kp (kp_tok _ _)⟩
theorem qe_not {b : Bool} (h : QE P w base L k env m e (IsB b)) : QE P w base L k env m (.UnaryOp .Not e pos) (IsB (!b)) := fun A E s r a => by
  refine UnaryOp_ (wpAny_mono (h A E s r a) (fun v s1 q => ?_) fun _ _ x => x)
  obtain ⟨rfl, kp⟩ := q
  exact not_of (wpAny_truthy_bool ⟨rfl, kp⟩)
theorem qe_and {a b : Bool} (h1 : QE P w base L k env m e1 (IsB a)) (h2 : QE P w base L k env m e2 (IsB b)) : QE P w base L k env m (.BoolOp .And [e1, e2] pos) (IsB (a && b)) := fun A E s r at_ => by
  refine BoolOp_and (wpAny_mono (h1 A E s r at_) (fun v s1 q => ?_) fun _ _ x => x)
  obtain ⟨rfl, kp⟩ := q
  refine wpAny_truthy_bool ?_
  cases a with
  | true => exact BoolOp_one (wpAny_mono (h2 A E s1 r (at_.kp kp)) (fun v s2 q => ⟨q.1, kp_trans kp q.2⟩) fun _ _ x => x)
  | false => exact ⟨rfl, kp⟩
/-- a quiet def: its arguments' relation, its answer -/
structure QF (P : Program) (w : World) (K : PySem.W.Frag) (mg : Str → Option Value) (base : Heap) (L : Pins) (k : Nat) (x : Str) (n : Nat) (R : List Value → Value → Prop) (W : List Value → Prop) : Prop where
  ex : ∃ f : Addr, mg x = some (.ref f) ∧ PySem.W.keepIn K (.ref f) = true ∧ ∀ (A : Around) (s : Shared) (us : List Value), Room k A → (∀ p ∈ L, s.heap.get? p.1 = some p.2) → (∀ b o, base.get? b = some o → s.heap.get? b = some o) → us.length = n → W us →
    codeAny (model P w) A (.call (.ref f) ⟨us, []⟩) (fun r s' => ∃ v, r = .ok (.ret v) ∧ R us v ∧ Keeps s s') s
/-- from its body, one return -/
theorem qf_of {name : Str} {st : Stmt} {fd : FuncData} {f : Addr} {ps N : List Str} {e : Expr} {R : List Value → Value → Prop} {W : List Value → Prop} (M : L2.Mod K mg base) (F : C8.Def K mg name st f fd) (b : Binds K fd ps []) (S : FnScope N ps (C8.fnScope st)) (hb : C8.fnBody st = [.Return (some e) pos])
    (hloc : ∀ y ∈ ps, (C8.fnScope st).names.lookup y = some .local)
    (h : ∀ (env : Env) (m : Str → Option Value) (us : List Value), env.scope = C8.fnScope st → EnvOk env → us.length = ps.length → W us → (∀ (i : Nat) (x : Str) (u : Value), ps[i]? = some x → us[i]? = some u → m x = some u) → QE P w base L k env m e (R us)) : QF P w K mg base L (k + 1) name ps.length R W := by
  obtain ⟨oc, od, dV, kV, doc, pm, an, cdv, ct, osl, rfl, lk, hcd⟩ := F.fn.ex
  refine ⟨f, F.mgf, F.kp, fun A s us r pn bk hl hW => ?_⟩
  have KX : K.In s.heap := M.kin.keeps bk
  have lim : s.heap.NoLimit := M.nolimit.keeps bk
  have hbd := b s us KX (by rw [List.append_nil]; exact hl)
  rw [List.append_nil] at hbd
  have hkind : ∀ y ∈ ps.zip us, (C8.fnScope st).names.lookup y.1 = some .local ∨ ((C8.fnScope st).names.lookup y.1 = some .cell ∧ ((cellsFrom (s.heap.objs.size + 1) (C8.fnScope st).names []).lookup y.1).isSome = true) := fun ⟨n, v⟩ hy => .inl (hloc n (List.of_mem_zip hy).1)
  refine codeAny_call_function r.depth (KX _ _ lk) rfl S.co S.gen rfl (PySem.W.codeRec_of KX hcd) (hbd _ _ _ _ ?_)
  refine wpAny_newFunctionEnv_cells S.kind hkind fun env he s1 x => ?_
  subst he
  refine ⟨lim.keeps x.toInCall.keep, codeAny_func ?_⟩
  obtain ⟨h1, tk, rfl, hk⟩ := x.done
  have k1 : Keeps s { s with heap := h1, toks := tk } := ⟨h1, tk, rfl, hk⟩
  have ndP : ps.Nodup := by rw [← S.pre]; exact S.nd.sublist (List.take_sublist _ _)
  have q := fun E' => h (envOfC name (C8.fnScope st) s.heap.objs.size f cdv) _ us rfl ⟨S.kind, rfl, rfl⟩ hl hW (fun i y u e1 e2 => bindL_get ndP e1 e2 (hloc y (List.mem_of_getElem? e1)))
    (A.deeper (envOfC name (C8.fnScope st) s.heap.objs.size f cdv)) E' { s with heap := h1, toks := tk } (r.deeper _) ⟨x.toInCall.ns, fun p hp => hk _ _ (pn p hp), fun b o e => hk b o (bk b o e)⟩
  show wpAny _ _ (execs (C8.fnBody st) _) _ _ _
  rw [hb]
  refine wpAny_execs_cons (wpAny_Return_some (wpAny_mono (q _) (fun v s2 q2 => ?_) fun _ _ x => x))
  exact ⟨v, rfl, q2.1, kp_trans k1 q2.2⟩
/-- arguments, quietly -/
def QA (P : Program) (w : World) (base : Heap) (L : Pins) (k : Nat) (env : Env) (m : Str → Option Value) (es : List Expr) (R : List Value → Prop) : Prop :=
  ∀ (pos : Pos) (A : Around) (E : Value → Shared → Prop) (s : Shared), Room k A → At base L env m s → wpAny (model P w) A (spliced (backTo pos (starEach es env))) (fun us s' => R us ∧ Keeps s s') E s
theorem qa_nil : QA P w base L k env m [] (fun us => us = []) := fun pos A E s r a => Calls.spliced_nil ⟨rfl, kp_refl _⟩
theorem qa_cons {es : List Expr} {Rs : List Value → Prop} (h : QE P w base L k env m e R) (hr : QA P w base L k env m es Rs) (he : starEach (e :: es) env = (false, eval e env) :: starEach es env := by rfl) : QA P w base L k env m (e :: es) (fun us => ∃ v vs, us = v :: vs ∧ R v ∧ Rs vs) := fun pos A E s r a => by
  rw [he]
  show wpAny _ _ (spliced ((false, eval e env) :: backTo pos (starEach es env))) _ _ s
  refine Calls.spliced_cons (wpAny_mono (h A E s r a) (fun v s1 q => ?_) fun _ _ x => x)
  exact wpAny_mono (hr pos A E s1 r (a.kp q.2)) (fun vs s2 q2 => ⟨⟨v, vs, rfl, q.1, q2.1⟩, kp_trans q.2 q2.2⟩) fun _ _ x => x
theorem qe_call {es : List Expr} {n : Nat} {Rs : List Value → Prop} {Rf : List Value → Value → Prop} {W : List Value → Prop} (M : L2.Mod K mg base) (O : EnvOk env) (F : QF P w K mg base L k x n Rf W) (hl : env.scope.names.lookup x = some .globalImplicit) (ha : QA P w base L k env m (e :: es) Rs) (hn : ∀ us, Rs us → us.length = n ∧ W us) (hR : ∀ us v, Rs us → Rf us v → R v)
    (hd : (x == ("__debug__" : Str)) = false := by decide) (he : starEach (e :: es) env = (false, eval e env) :: starEach es env := by rfl) (hpl : (backTo pos (starEach es env)).any (·.1) = false := by rfl) :
    QE P w base L k env m (.Call (.Name x p) (e :: es) [] pos) R := fun A E s r a => by
  obtain ⟨f, hm, hk, hF⟩ := F.ex
  refine wpAny_Call_Name_kw (wpAny_mono (qe_glob (p := p) (k := k) (P := P) (w := w) (m := m) (L := L) M O hl hm hd A E s r a) (fun v s1 q => ?_) fun _ _ x => x)
  obtain ⟨rfl, k0⟩ := q
  have a1 := a.kp k0
  refine PySem.W.callWith_K (h₀ := base) M.kin hk (wpAny_mono (ha pos A E s1 r a1) (fun us s2 q2 => ⟨M.kin.keeps (a1.kp q2.2).bk, ?_⟩) fun _ _ x => x) he hpl
  obtain ⟨hl2, hW⟩ := hn us q2.1
  refine wpAny_call (codeAny_mono (hF A s2 us r (a1.kp q2.2).pn (a1.kp q2.2).bk hl2 hW) fun rr s3 q3 => ?_)
  obtain ⟨v, rfl, hv, k3⟩ := q3
  exact ⟨hR us v q2.1 hv, kp_trans k0 (kp_trans q2.2 k3)⟩
/-- what isinstance asks of a value -/
def Kx (K : PySem.W.Frag) (L : Pins) (T : String) (b : Bool) (v : Value) : Prop := ∃ (tt : Value) (HH : Heap → Prop), PySem.W.KitX K v tt HH ∧ PySem.W.kitOne K tt (.type T) = some b ∧ v ≠ .builtin "__main__.__loader__#opaque" ∧ ∀ h : Heap, (∀ p ∈ L, h.get? p.1 = some p.2) → HH h
theorem qe_isi {b : Bool} {T : String} {es : List Expr} (M : L2.Mod K mg base) (O : EnvOk env) (hl : env.scope.names.lookup ("isinstance" : Str) = some .globalImplicit) (hm : mg "isinstance" = none) {Rs : List Value → Prop} (ha : QA P w base L k env m (e1 :: es) Rs) (hR : ∀ us, Rs us → ∃ v, us = [v, .type T] ∧ Kx K L T b v)
    (he : starEach (e1 :: es) env = (false, eval e1 env) :: starEach es env := by rfl) (hpl : (backTo pos (starEach es env)).any (·.1) = false := by rfl) :
    QE P w base L k env m (.Call (.Name "isinstance" p) (e1 :: es) [] pos) (IsB b) := fun A E s r a => by
  refine wpAny_Call_Name_kw (wpAny_mono (qe_blt (p := p) (k := k) (P := P) (w := w) (m := m) (L := L) M O hl hm (by decide +kernel : bootBuiltins "isinstance" = some (.builtin "isinstance")) (by decide) (by decide) A E s r a) (fun v s1 q => ?_) fun _ _ x => x)
  obtain ⟨rfl, k0⟩ := q
  have a1 := a.kp k0
  refine PyProof.Rows.callWith_builtin1 (wpAny_mono (ha pos A E s1 r a1) (fun us s2 q2 => ?_) fun _ _ x => x) he hpl
  obtain ⟨v, rfl, tt, HH, Z, hk, nx, hH⟩ := hR us q2.1
  exact PySem.W.kia_one (H := HH) Z (M.kin.keeps (a1.kp q2.2).bk) (hH _ (a1.kp q2.2).pn) hk nx fun tk => ⟨rfl, kp_trans k0 (kp_trans q2.2 (kp_tok _ _))⟩
end

/-! ### all(.. for x in xs), xs a list of values of any sort -/
open GxR
/-- a value of a list, its object told if it is one -/
def Knd (x : V) : Prop := (∀ b, x ≠ .byt b) ∧ (∀ b, x ≠ .flt b) ∧ ∀ n, x ≠ .ty n
def MixV (L : Pins) : V → Value → Prop := fun x u => RelV x u ∧ (∀ q, x = .ref q → ∃ o, (q, o) ∈ L ∧ o.cls = .type "list") ∧ Knd x
/-- the element: a test of the value x -/
def EltI (P : Program) (w : World) (base : Heap) (k : Nat) (scope : Scope) (x : Str) (elt : Expr) (pb : V → Bool) : Prop :=
  ∀ (L : Pins) (env : Env) (m : Str → Option Value) (n : V) (u : Value), env.scope = scope → EnvOk env → MixV L n u → m x = some u → QE P w base L k env m elt (IsB (pb n))
def trI (pb : V → Bool) (l : List V) (j : Nat) : Bool := match l[j]? with
  | some b => pb b
  | none => false
theorem trI_some {pb : V → Bool} {l : List V} {j : Nat} {b : V} (h : l[j]? = some b) : trI pb l j = pb b := by
  unfold trI
  rw [h]
theorem all_trI (l : List V) (pb : V → Bool) : (List.range l.length).all (trI pb l) = l.all pb := by
  rw [Bool.eq_iff_iff, List.all_eq_true, List.all_eq_true]
  constructor
  · intro h b hb
    obtain ⟨j, hj, e⟩ := List.getElem_of_mem hb
    have q := h j (List.mem_range.mpr hj)
    rw [trI_some (List.getElem?_eq_getElem hj), e] at q
    exact q
  · intro h j hj
    have hj' := List.mem_range.mp hj
    rw [trI_some (List.getElem?_eq_getElem hj')]
    exact h _ (List.getElem_mem hj')
def ReadyI (X : Cx) (pins : List (Addr × Obj)) (σ : L2.St) (H1 : Hp) (P : Addr) (ns : List V) (pb : V → Bool) (g : Addr) (s5 : Shared) : Prop :=
  ∃ (fp wr : List Addr) (G : Array GenState → Array GenState → Prop) (F : Nat → Value → Prop) (St : Nat → Shared → Prop),
    WalksS X.prog X.w X.A.in1 g fp wr G ns.length F St ∧ St 0 s5 ∧
    TruthOf X.prog X.w X.A.in1 F (trI pb ns) ∧
    ∀ s', Moved wr G s5 s' → ∃ H2, Tabbed P H1 H2 ∧ Inv X pins σ H2 s'
/-- a tracked list, item by item -/
theorem ints_at {P : Program} {w : World} {H : Hp} {h : Heap} {a : Addr} {ns : List V} (ok : HOk P w H h) (ha : H a = some (.lst ns)) :
    ∃ its : Array Value, h.IsList a its ∧ its.size = ns.length ∧ ∀ (i : Nat) (v : Value), its[i]? = some v → ∃ z, ns[i]? = some z ∧ RelV z v := by
  obtain ⟨_, its, nn, rv, ob⟩ := (show ObjOk P w H h a (.lst ns) from ok a _ ha)
  have len : its.length = ns.length := by rw [← rv.length]
  refine ⟨its.toArray, ⟨_, ob, rfl, nn, rfl⟩, by rw [List.size_toArray, len], fun i v hv => ?_⟩
  have hv' : its[i]? = some v := by simpa using hv
  have hi : i < ns.length := by
    rw [← len]
    exact (List.getElem?_eq_some_iff.mp hv').1
  obtain ⟨u, hu, r⟩ := rv.get (i := i) (x := ns[i]) (List.getElem?_eq_getElem hi)
  rw [hv'] at hu
  cases hu
  exact ⟨_, List.getElem?_eq_getElem hi, r⟩
/-- the lists among some values -/
def RefsL (H : Hp) (ns : List V) : Prop := (∀ q, V.ref q ∈ ns → ∃ ys, H q = some (.lst ys)) ∧ ∀ x ∈ ns, Knd x
theorem refs_pins {P : Program} {w : World} {H : Hp} {h : Heap} (ok : HOk P w H h) : ∀ {ns : List V}, RefsL H ns → ∃ L : Pins, (∀ p ∈ L, h.get? p.1 = some p.2) ∧ (∀ p ∈ L, ∃ ys, H p.1 = some (.lst ys)) ∧ ∀ q, V.ref q ∈ ns → ∃ o, (q, o) ∈ L ∧ o.cls = .type "list"
  | [], _ => ⟨[], fun p hp => (nomatch hp), fun p hp => (nomatch hp), fun q hq => (nomatch hq)⟩
  | x :: ns, R => by
    obtain ⟨L, h1, h0, h2⟩ := refs_pins ok (ns := ns) ⟨fun q hq => R.1 q (List.mem_cons_of_mem _ hq), fun x hx => R.2 x (List.mem_cons_of_mem _ hx)⟩
    by_cases hx : ∃ q, x = V.ref q
    · obtain ⟨q, rfl⟩ := hx
      obtain ⟨ys, hq⟩ := R.1 q List.mem_cons_self
      obtain ⟨_, its, nn, rv, ob⟩ := (show ObjOk P w H h q (.lst ys) from ok q _ hq)
      refine ⟨(q, { cls := .type "list", data := .seq its.toArray nn }) :: L, fun p hp => ?_, fun p hp => ?_, fun r hr => ?_⟩
      · rcases List.mem_cons.mp hp with e | hp
        · subst e; exact ob
        · exact h1 p hp
      · rcases List.mem_cons.mp hp with e | hp
        · subst e; exact ⟨ys, hq⟩
        · exact h0 p hp
      · rcases List.mem_cons.mp hr with e | hr
        · cases e; exact ⟨_, List.mem_cons_self, rfl⟩
        · obtain ⟨o, ho, hc⟩ := h2 r hr
          exact ⟨o, List.mem_cons_of_mem _ ho, hc⟩
    · refine ⟨L, h1, h0, fun q hq => ?_⟩
      rcases List.mem_cons.mp hq with e | hq
      · exact (hx ⟨q, e.symm⟩).elim
      · exact h2 q hq
section
variable {X : Cx} {pins : List (Addr × Obj)} {σ : L2.St} {H : Hp} {s : Shared}
theorem gen_ints {c tb : Addr} {elt iter : Expr} {x : Str} {px gpos : Pos} {scope : Scope} {pb : V → Bool} {te : TE} {k : Nat} {Q' : Value → Shared → Prop} {R : Addr → List V → Hp → Prop}
    (hr : Room (k + 1) X.A) (TB : TabB X.base X.mg c tb) (hcode : X.env.code = .ref c) (S : GenS X.env scope x) (hi : PE X iter te) (hel : L2.Mod X.K X.mg X.base → EltI X.prog X.w X.base k scope x elt pb)
    (hs : ∀ v, genFold iter X.env v = pure v) (I : Inv X pins σ H s) (h : te σ H fun v H1 => ∃ (a : Addr) (ns : List V), v = .ref a ∧ H1 a = some (.lst ns) ∧ RefsL H1 ns ∧ TabG H1 tb ∧ R a ns H1)
    (hQ : ∀ a ns H1 g s5, R a ns H1 → ReadyI X pins σ H1 tb ns pb g s5 → Q' (.ref g) s5) :
    wpAny (model X.prog X.w) X.A (eval (.GeneratorExp elt [⟨.Name x px, iter, [], 0⟩] scope gpos) X.env) Q' X.xe s := by
  have depth : X.A.depth < recursionLimit := by have := hr.dp; omega
  refine wpAny_GeneratorExp_walksQD hr.hd S.co (closure_ok S.free) S.cell S.dot S.loc S.kind depth (thn (hi.run pins s σ H _ I h) fun xv s1 r => ?_) hs
  obtain ⟨v, H1, I1, r1, a, ns, rfl, ha, hRL, ⟨ps, hT, tr⟩, q1⟩ := r
  cases (show xv = Value.ref a from r1)
  obtain ⟨its, isl, lenI, item⟩ := ints_at I1.hok ha
  obtain ⟨L, pL, pLl, mL⟩ := refs_pins I1.hok hRL
  have oT : s1.heap.get? tb = some { cls := .none, data := .fields ps } := I1.hok tb _ hT
  have ltT := Heap.lt_size oT
  have ltA : a < s1.heap.objs.size := let ⟨_, e, _⟩ := isl; Heap.lt_size e
  have aT : a ≠ tb := fun e => by
    rw [e, hT] at ha
    cases ha
  -- what was written ahead is not the table
  have bT : ∀ b u, X.base.get? b = some u → b ≠ tb := fun b u e z => by
    have q := (I1.bs b u e).2
    rw [z, hT] at q
    cases q
  refine wpAny_pyIter_list isl ⟨I1.nolimit.push _, ?_⟩
  generalize hio : ({ cls := .type "list_iterator", data := .fields #[.ref a, .int 0 0] } : Obj) = io
  have push : ∀ b u, s1.heap.get? b = some u → (s1.heap.push io).get? b = some u := fun b u e => Heap.get?_push_of_some _ e
  refine code_step hcode (TB.code.keeps fun b u e => push b u (I1.bk b u e)) (push _ _ oT) tr fun cv h3 tk more ext size3 oT3 tr3 => ?_
  have sizeP : (s1.heap.push io).objs.size = s1.heap.objs.size + 1 := Heap.size_push ..
  have size3' : s1.heap.objs.size < h3.objs.size := by
    have : s1.heap.objs.size + 1 ≤ h3.objs.size := by rw [← sizeP]; exact size3
    exact this
  have kept : ∀ b u, b ≠ tb → s1.heap.get? b = some u → h3.get? b = some u := fun b u n e => ext b u n (push b u e)
  have statT : cStatics ≠ tb := fun e => by
    obtain ⟨_, ⟨_, _, _, so, sd, _⟩, _⟩ := I1.nolimit
    rw [e, oT] at so
    cases so
    cases sd
  have statLt : cStatics < s1.heap.objs.size := let ⟨_, sn, _⟩ := I1.nolimit; sn.lt
  have onlyI : ∀ {b : Addr}, b ∈ [s1.heap.objs.size] → b = s1.heap.objs.size := fun hb => by simpa using hb
  have iter0 : (s1.heap.push io).IsListIter s1.heap.objs.size a 0 := ⟨_, Heap.get?_push_size _ (by rw [← hio]; rfl), by rw [← hio], by rw [← hio]; rfl⟩
  obtain ⟨bm, ob, m1, m2, m3, m4, m5, m6, m7, m8⟩ := TB.bm
  have glob3 : h3.Ns X.env.globals X.mg := by
    rw [I1.ok.glob]
    exact ((I1.mod.glob.keeps I1.bk).push io).extBut ext TB.gP
  refine wpAny_builtinsFor glob3 m1 m2 (kept _ _ m4 (I1.bk _ _ m5)) m6 m7 m8 ?_
  refine ⟨s1.heap.objs.size, [s1.heap.objs.size, a], [s1.heap.objs.size], its.size, fun i v => its[i]? = some v, _, fun _ => true, fun i y => ∃ z, ns[i]? = some z ∧ y = .bool (pb z), rfl, fun A' hA => Walks.list hA _ _ (Nat.ne_of_lt ltA) its,
    ⟨iter0.at fun u e => ext _ u (Nat.ne_of_gt ltT) e, (isl.push io).at fun u e => ext _ u aT e⟩, fun b hb => ?_, (I1.nolimit.push io).extBut ext statT, fun z => Nat.ne_of_lt statLt (onlyI z), fun href keep => ⟨?_, ?_⟩, ?_⟩
  · show b < h3.objs.size
    simp only [List.mem_cons, List.not_mem_nil, or_false] at hb
    rcases hb with z | z
    · rw [z]; exact size3'
    · rw [z]; exact Nat.lt_trans ltA size3'
  · intro A' E' i v s₂ m₂ _ _ _ _ _ _ _
    rw [List.forIn_nil]
    exact wpAny_pure ⟨rfl, kp_refl _⟩
  · intro A' E' i v s₂ m₂ noH dep uni hv _ hn hm stays
    obtain ⟨z, hz, rz⟩ := item i v hv
    have room : Room k A' := ⟨noH, by have := hr.dp; omega, by have := hr.un; omega⟩
    have there : At X.base L (genEnv scope (cloFrom X.env.cells scope.names []) h3.objs.size cv builtinsNs X.env) m₂ s₂ := ⟨hn, fun p hp => by
      have e1 := pL p hp
      have nT : p.1 ≠ tb := fun e => by
        obtain ⟨ys, e2⟩ := pLl p hp
        rw [e, hT] at e2
        cases e2
      have e3 := kept p.1 p.2 nT e1
      exact stays p.1 (List.mem_range.mpr (Heap.lt_size e3)) (fun q => Nat.ne_of_lt (Heap.lt_size e1) (onlyI q)) p.2 (keep p.1 p.2 e3), fun b u e => by
      have e1 := I1.bk b u e
      have e3 := kept b u (bT b u e) e1
      exact stays b (List.mem_range.mpr (Heap.lt_size e3)) (fun q => Nat.ne_of_lt (Heap.lt_size e1) (onlyI q)) u (keep b u e3)⟩
    exact wpAny_mono (hel I1.mod L (genEnv scope (cloFrom X.env.cells scope.names []) h3.objs.size cv builtinsNs X.env) m₂ z v rfl ⟨S.kind, I1.ok.glob, rfl⟩ ⟨rz, fun q e => mL q (by rw [← e]; exact List.mem_of_getElem? hz), hRL.2 _ (List.mem_of_getElem? hz)⟩ hm A' E' s₂ room there) (fun y s3 r => ⟨⟨z, hz, r.1⟩, r.2⟩) fun _ _ e => e
  · intro g h5 tk5 gs bareG _ _ keep5 W5 at5
    rw [GxR.passing_true, lenI, List.length_range] at W5
    rw [lenI] at at5
    refine hQ a ns H1 g _ q1 ⟨_, _, _, _, _, W5.in4_1, at5, fun j y sj Qj Ej hy hQj => ?_, fun s' mv => ?_⟩
    · obtain ⟨i, hij, z, hz, rfl⟩ := hy
      obtain ⟨_, ej⟩ := List.getElem?_eq_some_iff.mp hij
      rw [List.getElem_range] at ej
      have e : trI pb ns j = pb z := trI_some (by rw [ej]; exact hz)
      rw [e] at hQj
      exact wpAny_truthy_bool hQj
    · have out : ∀ b u, s1.heap.get? b = some u → b ∉ h3.objs.size :: [s1.heap.objs.size] := fun b u e hb => by
        have l := Heap.lt_size e
        rcases List.mem_cons.mp hb with z | z
        · exact Nat.lt_irrefl _ (Nat.lt_trans size3' (by rw [z] at l; exact l))
        · exact Nat.ne_of_lt l (onlyI z)
      have all5 : ∀ b u, b ≠ tb → s1.heap.get? b = some u → s'.heap.get? b = some u := fun b u n e => mv.heap b u (out b u e) (keep5 b u (kept b u n e))
      have tab5 : s'.heap.get? tb = some { cls := .none, data := .fields (ps ++ more) } := mv.heap tb _ (out tb _ oT) (keep5 tb _ oT3)
      have J := inv_tab (more := more) (h' := s'.heap) (g' := s'.gens) (d' := s'.drawn) (t' := s'.toks) I1 hT all5 tab5 (AllBare.movedS (I1.bare.push bareG) mv)
      rw [sh_eta s1 s' mv.os] at J
      exact ⟨upd H1 tb (.tbl (ps ++ more)), ⟨⟨ps ++ more, upd_same, tr3⟩, fun b hb => upd_ne hb⟩, J⟩
def tAllI (P : Addr) (pb : V → Bool) (te : TE) : TE := fun σ H Q => te σ H fun v H1 => ∃ (a : Addr) (ns : List V), v = .ref a ∧ H1 a = some (.lst ns) ∧ RefsL H1 ns ∧ TabG H1 P ∧ ∀ H2, Tabbed P H1 H2 → Q (.bl (ns.all pb)) H2
theorem pe_allI {c P : Addr} {elt iter : Expr} {x : Str} {px p pos gpos : Pos} {scope : Scope} {pb : V → Bool} {te : TE} {k : Nat}
    (hr : Room (k + 1) X.A) (hg : Gl X "all") (hm : X.mg "all" = none) (TB : TabB X.base X.mg c P) (hcode : X.env.code = .ref c) (S : GenS X.env scope x) (hi : PE X iter te) (hel : L2.Mod X.K X.mg X.base → EltI X.prog X.w X.base k scope x elt pb)
    (hs : ∀ v, genFold iter X.env v = pure v)
    (he : starEach [.GeneratorExp elt [⟨.Name x px, iter, [], 0⟩] scope gpos] X.env = (false, eval (.GeneratorExp elt [⟨.Name x px, iter, [], 0⟩] scope gpos) X.env) :: starEach [] X.env := by rfl) :
    PE X (.Call (.Name "all" p) [.GeneratorExp elt [⟨.Name x px, iter, [], 0⟩] scope gpos] [] pos) (tAllI P pb te) := by
  refine ⟨fun pins s σ H Q I h => ?_⟩
  refine wpAny_Call_Name_kw (ld_blt I hg hm (by decide +kernel : bootBuiltins "all" = some (.builtin "all")) ?_)
  refine PyProof.Rows.callWith_builtin1 ?_ he (by rfl)
  rw [he]
  show wpAny _ _ (spliced ((false, eval (.GeneratorExp elt [⟨.Name x px, iter, [], 0⟩] scope gpos) X.env) :: backTo pos (starEach [] X.env))) _ _ s
  refine Calls.spliced_cons (gen_ints (R := fun a ns H1 => ∀ H2, Tabbed P H1 H2 → Q (.bl (ns.all pb)) H2) hr TB hcode S hi hel hs I h fun a ns H1 g s5 hR hG => ?_)
  obtain ⟨fp, wr, G, F, St, W, hst, htr, hI⟩ := hG
  refine Calls.spliced_nil ?_
  refine call_all_walkS (W.self 0 _ _ _ hst ⟨g, fp, wr, G, _, F, St, _, rfl, W, hst, htr, fun s' hmv => ?_⟩)
  obtain ⟨H2, hT, J⟩ := hI s' hmv
  refine ⟨.bl _, H2, J, rfl, ?_⟩
  rw [all_trI ns pb]
  exact hR H2 hT
end
end Gm

namespace Ev
open PySem L2 Ax
section
variable {P : Program} {w : World} {K : PySem.W.Frag} {mg : Str → Option Value} {base : Heap} {C : Str → Addr} {f : Addr} {fd : FuncData}

/-- values of any sort that a list may hold here -/
def MixT (H : Hp) (x : V) : Prop := x = .non ∨ (∃ b, x = .bl b) ∨ (∃ n, x = .int n) ∨ (∃ s, x = .str s) ∨ ∃ a xs, x = .ref a ∧ H a = some (.lst xs)
def aI : V → Bool
  | .int _ => true
  | .bl _ => true
  | _ => false
def aB : V → Bool
  | .bl _ => true
  | _ => false
theorem MixT.ty {H : Hp} {x : V} (h : MixT H x) : ∃ t, TyOf K H x t ∧ PySem.W.kitOne K t (.type "int") = some (aI x) ∧ PySem.W.kitOne K t (.type "bool") = some (aB x) := by
  rcases h with rfl | ⟨b, rfl⟩ | ⟨n, rfl⟩ | ⟨s, rfl⟩ | ⟨a, xs, rfl, e⟩
  · exact ⟨_, .non, (show PySem.W.kitOne K (.type "NoneType") (.type "int") = some false from kit_ty (by decide +kernel)), (show PySem.W.kitOne K (.type "NoneType") (.type "bool") = some false from kit_ty (by decide +kernel))⟩
  · exact ⟨_, .bl b, (show PySem.W.kitOne K (.type "bool") (.type "int") = some true from kit_ty (by decide +kernel)), (show PySem.W.kitOne K (.type "bool") (.type "bool") = some true from kit_ty (by decide +kernel))⟩
  · exact ⟨_, .int n, (show PySem.W.kitOne K (.type "int") (.type "int") = some true from kit_ty (by decide +kernel)), (show PySem.W.kitOne K (.type "int") (.type "bool") = some false from kit_ty (by decide +kernel))⟩
  · exact ⟨_, .str s, (show PySem.W.kitOne K (.type "str") (.type "int") = some false from kit_ty (by decide +kernel)), (show PySem.W.kitOne K (.type "str") (.type "bool") = some false from kit_ty (by decide +kernel))⟩
  · exact ⟨_, .lst e, (show PySem.W.kitOne K (.type "list") (.type "int") = some false from kit_ty (by decide +kernel)), (show PySem.W.kitOne K (.type "list") (.type "bool") = some false from kit_ty (by decide +kernel))⟩
theorem MixT.smt {H H' : Hp} {x : V} (h : MixT H x) (s : SmT H H') : MixT H' x := by
  rcases h with h | h | h | h | ⟨a, xs, h, e⟩
  · exact .inl h
  · exact .inr (.inl h)
  · exact .inr (.inr (.inl h))
  · exact .inr (.inr (.inr (.inl h)))
  · exact .inr (.inr (.inr (.inr ⟨a, xs, h, s.lst e⟩)))
theorem MixT.int {H : Hp} {n : Int} : MixT H (.int n) := .inr (.inr (.inl ⟨n, rfl⟩))
def isI : V → Bool
  | .int _ => true
  | _ => false
def inR (lo hi : Int) : V → Bool
  | .int n => decide (lo ≤ n) && decide (n ≤ hi)
  | _ => false
def spIsNumber : Sp := fun vs H Q _ => ∃ x : V, vs = [x] ∧ MixT H x ∧ Q (.bl (isI x)) H
def spIsNumberFrom : Sp := fun vs H Q _ => ∃ (x : V) (lo hi : Int), vs = [x, .int lo, .int hi] ∧ MixT H x ∧ Q (.bl (inR lo hi x)) H

theorem ok_is_number (T : Txt K mg C)  (F : C8.Def K mg "is_number" s_is_number f fd) (b : Binds K fd ["value"] []) : C8.Cal P w K mg base 1 "is_number" spIsNumber [] := by
  refine C8.cal0 F b .nil sc_is_number (fun vs H Q E h => ?_) (fun cdv A outer s H vs Q E hr h => ?_)
  · obtain ⟨x, rfl, hx, k⟩ := h
    rfl
  · obtain ⟨x, rfl, hx, k⟩ := h
    refine ⟨_, (pss_one (ps_ret (pe_and (pe_callB call_isi (by rfl) T.b_isinstance (by decide +kernel) (pa_cons (pv 0) (pa_cons (pe_bltn (v := .ty "int") (u := .type "int") (by rfl) T.b_int (by decide +kernel) rfl) pa_nil))) (pe_one (pe_not (pe_callB call_isi (by rfl) T.b_isinstance (by decide +kernel) (pa_cons (pv 0) (pa_cons (pe_bltn (v := .ty "bool") (u := .type "bool") (by rfl) T.b_bool (by decide +kernel) rfl) pa_nil)))))))), ?_⟩
    obtain ⟨t, ty, k1, k2⟩ := hx.ty (K := K)
    refine ⟨_, rfl, _, _, _, _, _, rfl, .ty _, .base ty, k1, _, rfl, ?_⟩
    rcases hx with rfl | ⟨b, rfl⟩ | ⟨n, rfl⟩ | ⟨s, rfl⟩ | ⟨a, xs, rfl, e⟩
    · exact iteF k
    · refine iteT ⟨_, rfl, _, _, _, _, _, rfl, .ty _, .base ty, k2, _, rfl, ?_⟩
      exact k
    · refine iteT ⟨_, rfl, _, _, _, _, _, rfl, .ty _, .base ty, k2, _, rfl, ?_⟩
      exact k
    · exact iteF k
    · exact iteF k

theorem ok_is_number_from (T : Txt K mg C) (c_is_number : C8.Cal P w K mg base 1 "is_number" spIsNumber []) (F : C8.Def K mg "is_number_from" s_is_number_from f fd) (b : Binds K fd ["value", "low", "high"] []) : C8.Cal P w K mg base 2 "is_number_from" spIsNumberFrom [] := by
  refine C8.cal0 F b .nil sc_is_number_from (fun vs H Q E h => ?_) (fun cdv A outer s H vs Q E hr h => ?_)
  · obtain ⟨x, lo, hi, rfl, hx, k⟩ := h
    rfl
  · obtain ⟨x, lo, hi, rfl, hx, k⟩ := h
    refine ⟨_, (pss_one (ps_ret (pe_and (C8.pe_c c_is_number hr (by decide) rfl (pa_cons (pv 0) pa_nil)) (pe_one (pe_chain op_le op_le (pv 1) (pv 0) (pv 2)))))), ?_⟩
    refine ⟨_, rfl, x, rfl, hx, _, rfl, ?_⟩
    rcases hx with rfl | ⟨b, rfl⟩ | ⟨n, rfl⟩ | ⟨s, rfl⟩ | ⟨a, xs, rfl, e⟩
    · exact iteF k
    · exact iteF k
    · refine iteT ⟨_, rfl, _, rfl, _, _, rfl, rfl, _, rfl, ?_⟩
      have e : inR lo hi (.int n) = (decide (lo ≤ n) && decide (n ≤ hi)) := rfl
      rw [e] at k
      by_cases h1 : lo ≤ n
      · rw [decide_eq_true h1] at k ⊢
        refine iteT ⟨_, rfl, _, _, rfl, rfl, ?_⟩
        exact k
      · rw [decide_eq_false h1] at k ⊢
        exact iteF k
    · exact iteF k
    · exact iteF k

theorem qf_is_number (T : Txt K mg C) (M : L2.Mod K mg base) {f1 : Addr} {fd1 : FuncData} (F1 : C8.Def K mg "is_number" s_is_number f1 fd1) (b1 : Binds K fd1 ["value"] []) (L : Gm.Pins) (x : V) :
    Gm.QF P w K mg base L 1 "is_number" 1 (fun us v => Gq.IsB (isI x) v) (fun us => ∃ u, us = [u] ∧ Gm.MixV L x u) := by
  refine Gm.qf_of (ps := ["value"]) (e := _) M F1 b1 sc_is_number rfl (by decide +kernel) fun env m us hs O hl hW hm => ?_
  obtain ⟨u, rfl, hr, hL, hx, hf, hT⟩ := hW
  have hv := hm 0 "value" _ rfl rfl
  have ql : ∀ {p : Pos}, Gm.QE P w base L 0 env m (.Name "value" p) (fun v => v = u) := Gm.qe_loc O (by rw [hs]; decide +kernel) hv
  have key : ∃ i b : Bool, Gm.Kx K L "int" i u ∧ Gm.Kx K L "bool" b u ∧ (i && !b) = isI x := by
    cases x with
    | non => cases (show u = Value.none from hr); exact ⟨false, false, ⟨_, _, PySem.W.kitx_none, kit_ty (by decide +kernel), (fun z => nomatch z), fun _ _ => True.intro⟩, ⟨_, _, PySem.W.kitx_none, kit_ty (by decide +kernel), (fun z => nomatch z), fun _ _ => True.intro⟩, rfl⟩
    | bl b => cases (show u = Value.bool b from hr); exact ⟨true, true, ⟨_, _, PySem.W.kitx_bool, kit_ty (by decide +kernel), (fun z => nomatch z), fun _ _ => True.intro⟩, ⟨_, _, PySem.W.kitx_bool, kit_ty (by decide +kernel), (fun z => nomatch z), fun _ _ => True.intro⟩, rfl⟩
    | int n => obtain ⟨t, rfl⟩ := hr; exact ⟨true, false, ⟨_, _, PySem.W.kitx_int, kit_ty (by decide +kernel), (fun z => nomatch z), fun _ _ => True.intro⟩, ⟨_, _, PySem.W.kitx_int, kit_ty (by decide +kernel), (fun z => nomatch z), fun _ _ => True.intro⟩, rfl⟩
    | str y => obtain ⟨t, rfl⟩ := hr; exact ⟨false, false, ⟨_, _, PySem.W.kitx_str, kit_ty (by decide +kernel), (fun z => nomatch z), fun _ _ => True.intro⟩, ⟨_, _, PySem.W.kitx_str, kit_ty (by decide +kernel), (fun z => nomatch z), fun _ _ => True.intro⟩, rfl⟩
    | byt b => exact (hx b rfl).elim
    | flt b => exact (hf b rfl).elim
    | ref a =>
      cases (show u = Value.ref a from hr)
      obtain ⟨o, ho, hc⟩ := hL a rfl
      exact ⟨false, false, ⟨_, _, PySem.W.kitx_list, kit_ty (by decide +kernel), (fun z => nomatch z), fun h hh => ⟨o, hh _ ho, hc⟩⟩, ⟨_, _, PySem.W.kitx_list, kit_ty (by decide +kernel), (fun z => nomatch z), fun h hh => ⟨o, hh _ ho, hc⟩⟩, rfl⟩
    | ty n => exact (hT n rfl).elim
  obtain ⟨i, b, k1, k2, e⟩ := key
  rw [← e]
  refine Gm.qe_and (a := i) (b := !b) (Gm.qe_isi (T := "int") M O (by rw [hs]; decide +kernel) T.b_isinstance (Gm.qa_cons ql (Gm.qa_cons (Gm.qe_blt M O (by rw [hs]; decide +kernel) T.b_int (u := .type "int") (by decide +kernel)) Gm.qa_nil)) (fun us h => ?_))
    (Gm.qe_not (b := b) (Gm.qe_isi (T := "bool") M O (by rw [hs]; decide +kernel) T.b_isinstance (Gm.qa_cons ql (Gm.qa_cons (Gm.qe_blt M O (by rw [hs]; decide +kernel) T.b_bool (u := .type "bool") (by decide +kernel)) Gm.qa_nil)) (fun us h => ?_)))
  · obtain ⟨v, vs, rfl, rfl, v2, vs2, rfl, rfl, rfl⟩ := h
    exact ⟨_, rfl, k1⟩
  · obtain ⟨v, vs, rfl, rfl, v2, vs2, rfl, rfl, rfl⟩ := h
    exact ⟨_, rfl, k2⟩

end
end Ev

namespace Ev
open PySem L2 Ax
section
variable {P : Program} {w : World} {K : PySem.W.Frag} {mg : Str → Option Value} {base : Heap} {C : Str → Addr} {f : Addr} {fd : FuncData}

theorem iteY {c : Bool} {A B : Prop} (h : c = true) (a : A) : if c = true then A else B := by rw [if_pos h]; exact a
theorem iteN {c : Bool} {A B : Prop} (h : c = false) (b : B) : if c = true then A else B := by rw [h]; exact iteF b
theorem _root_.L2.Same.updN {H H1 : Hp} {p : Addr} {o : HO} (s : Same H H1) (h : H p = none) : Same H (upd H1 p o) := fun b u e => by
  rw [upd_ne (ne_of_none e h)]
  exact s b u e
theorem small1000 {n : Nat} (h : n ≤ 1000) : n < sizeLine := Nat.lt_of_le_of_lt h (by decide)
theorem int_item {ws : List Int} {i : Nat} {y : V} (h : (ws.map V.int)[i]? = some y) : ∃ u, ws[i]? = some u ∧ y = V.int u := by
  rw [List.getElem?_map] at h
  obtain ⟨u, hu, rfl⟩ := Option.map_eq_some_iff.mp h
  exact ⟨u, hu, rfl⟩
def spPtsBelow : Sp := fun vs H Q _ => ∃ (a : Addr) (ss : List Int), vs = [.ref a] ∧ H a = some (.lst (ss.map V.int)) ∧ SzOk ss ∧
  ∀ l as H', Same H H' → H l = none → H' l = some (.lst (as.map V.ref)) → LsAt H' (ptsB ss) as → Q (.ref l) H'

theorem ok_points_below (T : Txt K mg C)  (F : C8.Def K mg "points_below" s_points_below f fd) (b : Binds K fd ["sizes"] []) : C8.Cal P w K mg base 1 "points_below" spPtsBelow [] := by
  refine C8.cal0 F b .nil sc_points_below (fun vs H Q E h => ?_) (fun cdv A outer s H vs Q E hr h => ?_)
  · obtain ⟨a, ss, rfl, ha, hz, k⟩ := h
    rfl
  · obtain ⟨a, ss, rfl, ha, hz, k⟩ := h
    refine ⟨_, (pss_cons (ps_set (i := 1) sc_points_below.nd rfl (Or.inl rfl) (pe_lst (pa_cons (pe_lst pa_nil) pa_nil)))
    (pss_cons (ps_for PassesOwn.never rfl (pi_list (pv 0)) (pg_name (i := 2) sc_points_below.nd rfl (Or.inr rfl)) (pss_one (ps_setLc2 (i := 1) (own := [("point", 3), ("number", 4)]) (vs1 := [4]) (g := gName 3) (g1 := gName 4) (tt := tYes) (tt1 := tYes) rfl sc_points_below.nd rfl rfl (sw_true rfl rfl rfl (by decide +kernel)) (pi_list (pv 1)) (blkOk_by (own := [("point", 3), ("number", 4)]) (N := ["sizes", "points", "size", "point", "number"]) (sc := (defScope s_points_below)) (by decide +kernel)) (by decide) (fun _ _ _ _ _ => pg_name (i := 3) sc_points_below.nd rfl (Or.inl rfl)) (fun _ _ _ _ _ => pts_nil) (fun _ _ _ _ _ => (pi_range1 (by rfl) T.b_range (pa_cons (pv 2) pa_nil))) (fun _ _ _ _ _ => pg_name (i := 4) sc_points_below.nd rfl (Or.inl rfl)) (fun _ _ _ _ _ => pts_nil) (fun _ _ _ _ _ => (pe_op op_cat (pv 3) (pe_lst (pa_cons (pv 4) pa_nil)))))))
    (pss_one (ps_ret (pv 1))))), ?_⟩
    refine ⟨Nat.zero_le _, fun q hq => ⟨(by show 1 ≤ sizeLine; decide), fun l hl => ?_⟩⟩
    have s1 : Same H (upd (upd H q (.lst [])) l (.lst [.ref q])) := (Same.upd hq).trans (Same.upd hl)
    have hl0 : H l = none := (Same.upd hq).free hl
    have e1 : upd (upd H q (.lst [])) l (.lst [.ref q]) l = some (.lst ([q].map V.ref)) := upd_same
    have e2 : LsAt (upd (upd H q (.lst [])) l (.lst [.ref q])) [[]] [q] := ⟨rfl, fun i p b z1 z2 => by
      cases i with
      | zero =>
        simp at z1 z2
        subst z1 z2
        exact (Same.upd hl) _ _ upd_same
      | succ i => simp at z1⟩
    generalize upd (upd H q (.lst [])) l (.lst [.ref q]) = H1 at s1 e1 e2 ⊢
    refine ⟨_, rfl, a, rfl, ⟨_, .of (s1 _ _ ha)⟩, for_list (K := K) (a := a) (xs := ss.map V.int) (fun i σ H' => ∃ l as v2, σ = [some (.ref a), some (.ref l), v2, none, none] ∧ Same H H' ∧ H l = none ∧ H' l = some (.lst (as.map V.ref)) ∧ LsAt H' ((ss.take i).foldl pB [[]]) as) ⟨l, [q], none, rfl, s1, hl0, e1, e2⟩ (fun i σ H' _ ⟨l, as, v2, _, s, _⟩ => .of (s _ _ ha)) ?_ ?_⟩
    · rintro i y σ H2 hi ⟨l, as, v2, rfl, s2, hl, eL, hL⟩
      obtain ⟨s, hs, rfl⟩ := int_item hi
      have sb := hz.2.2 s (List.mem_of_getElem? hs)
      obtain ⟨m, rfl⟩ : ∃ m : Nat, s = (m : Int) := ⟨s.toNat, by omega⟩
      have b64 := len_takeB hz (i + 1)
      rw [fold_snoc hs] at b64
      have hpl : ∀ p ∈ (ss.take i).foldl pB [[]], p.length ≤ 3 := fun p hp => by
        obtain ⟨q, r, hq, rfl, hr⟩ := (mem_foldB _ _ _).mp hp
        rw [List.mem_singleton.mp hq, List.nil_append, hr.len, List.length_take]
        have := hz.2.1
        omega
      obtain ⟨pts, hpts⟩ : ∃ pts, (ss.take i).foldl pB [[]] = pts := ⟨_, rfl⟩
      rw [hpts] at hL b64 hpl
      refine ⟨_, rfl, l, rfl, ⟨_, .of eL⟩, fun D hD => ?_⟩
      have l0 := hL.len
      refine wk_it (walk_list (K := K) (a := l) (xs := as.map V.ref)) (fun j H' => Same H2 H' ∧ ∃ ds : List Addr, H' D = some (.lst (ds.map V.ref)) ∧ LsAt H' (pB (pts.take j) ((m : Nat) : Int)) ds ∧ D ∉ ds) ⟨Same.upd hD, [], upd_same, LsAt.nil, by simp⟩ (fun j H' _ p => .of (p.1 _ _ eL)) ?_ ?_
      · rintro j x H3 H4 hj ⟨s3, ds, eD, hds, nD⟩ ⟨rfl, hx⟩
        obtain ⟨b, pt, rfl, hpt, hb, eb⟩ := hL.get hx
        have jl : j < pts.length := (List.getElem?_eq_some_iff.mp hpt).1
        refine ⟨rfl, yes_go ?_⟩
        refine ⟨_, rfl, m, rfl, by omega, by omega, ?_⟩
        refine wk_it (walk_range (lo := 0) (n := m)) (fun t H' => Same H2 H' ∧ ∃ ds : List Addr, H' D = some (.lst (ds.map V.ref)) ∧ LsAt H' (pB (pts.take j) ((m : Nat) : Int) ++ (List.range t).map fun t => pt ++ [((t : Nat) : Int)]) ds ∧ D ∉ ds) ⟨s3, ds, eD, (by simpa using hds), nD⟩ (fun _ _ _ _ => True.intro) ?_ ?_
        · rintro t x H5 H6 ht ⟨s5, ds, eD, hds, nD⟩ ⟨rfl, rfl⟩
          refine ⟨rfl, yes_go ?_⟩
          refine ⟨_, rfl, _, rfl, (by show 1 ≤ sizeLine; decide), fun c hc => ?_⟩
          have s6 := s5.trans (Same.upd (o := .lst [.int (0 + (t : Int))]) hc)
          refine ⟨b, c, pt.map V.int, [.int (0 + (t : Int))], rfl, rfl, s6 _ _ eb, upd_same, ?_, fun r hr => ?_⟩
          · rw [List.length_map, List.length_singleton]
            exact Nat.le_of_lt (small1000 (by have := hpl pt (List.mem_of_getElem? hpt); omega))
          have cD : D ≠ c := fun e => by rw [← e, eD] at hc; cases hc
          have rD : D ≠ r := fun e => by rw [← e, upd_ne cD, eD] at hr; cases hr
          have h57 : Same H6 (upd (upd H6 c (.lst [.int (0 + (t : Int))])) r (.lst (pt.map V.int ++ [.int (0 + (t : Int))]))) := (Same.upd hc).trans (Same.upd hr)
          refine ⟨ds.map V.ref, by rw [upd_ne rD, upd_ne cD]; exact eD, ?_, ?_⟩
          · have := hds.len
            rw [List.length_append, List.length_map, List.length_range] at this
            have z := pB_room (k := m) jl (Nat.le_of_lt ht)
            rw [List.length_map]
            exact small1000 (by omega)
          refine ⟨?_, ds ++ [r], ?_, ?_, ?_⟩
          · exact fun x o e => by
              have n : x ≠ D := fun z => by rw [z, hD] at e; cases e
              rw [upd_ne n]
              exact h57 _ _ (s5 _ _ e)
          · rw [upd_same, List.map_append]; rfl
          · rw [List.range_succ, List.map_append, ← List.append_assoc]
            refine (LsAt.snoc hds (.of h57) ?_).updD ?_
            · rw [upd_same, List.map_append]
              simp
            · simp only [List.mem_append, List.mem_singleton, not_or]
              exact ⟨nD, rD⟩
          · simp only [List.mem_append, List.mem_singleton, not_or]
            exact ⟨nD, rD⟩
        · rintro H5 ⟨s5, ds, eD, hds, nD⟩
          refine ⟨s5, ds, eD, ?_, nD⟩
          rw [pB_snoc hpt, Int.toNat_natCast]
          exact hds
      · rintro H3 ⟨s3, ds, eD, hds, nD⟩
        rw [List.length_map, l0, List.take_length] at hds
        refine ⟨D, ds, _, rfl, s2.trans s3, s2.free hD, eD, ?_⟩
        rw [fold_snoc hs, hpts]
        exact hds
    · rintro σ H2 ⟨l, as, v2, rfl, s2, hl, eL, hL⟩
      rw [List.length_map, List.take_length] at hL
      exact ⟨_, rfl, k l as H2 s2 hl eL hL⟩

end
end Ev

namespace Ev
open PySem L2 Ax
section
variable {P : Program} {w : World} {K : PySem.W.Frag} {mg : Str → Option Value} {base : Heap} {C : Str → Addr} {f : Addr} {fd : FuncData}

def spChkS : Sp := fun vs H Q _ => ∃ (a : Addr) (ss : List Int), vs = [.ref a] ∧ H a = some (.lst (ss.map V.int)) ∧ SzOk ss ∧ Q .non H
def spChkW : Sp := fun vs H Q _ => ∃ (a : Addr) (n : Nat) (ws : List Int), vs = [.ref a, .int (n : Int)] ∧ H a = some (.lst (ws.map V.int)) ∧ ws.length = n ∧ (∀ u ∈ ws, -(10 ^ 30) ≤ u ∧ u ≤ 10 ^ 30) ∧ Q .non H

theorem ok_check_sizes (T : Txt K mg C) (c_is_number_from : C8.Cal P w K mg base 2 "is_number_from" spIsNumberFrom []) (F : C8.Def K mg "check_sizes" s_check_sizes f fd) (b : Binds K fd ["sizes"] []) : C8.Cal P w K mg base 3 "check_sizes" spChkS [] := by
  refine C8.cal0 F b .nil sc_check_sizes (fun vs H Q E h => ?_) (fun cdv A outer s H vs Q E hr h => ?_)
  · obtain ⟨a, ss, rfl, ha, hz, k⟩ := h
    rfl
  · obtain ⟨a, ss, rfl, ha, hz, k⟩ := h
    refine ⟨_, (pss_cons (ps_if (pt_not (pt_val (pe_callB call_isi (by rfl) T.b_isinstance (by decide +kernel) (pa_cons (pv 0) (pa_cons (pe_bltn (v := .ty "list") (u := .type "list") (by rfl) T.b_list (by decide +kernel) rfl) pa_nil))))) (pss_one ps_never) pss_nil)
    (pss_cons (ps_if (pt_not (pt_chain op_le op_le pe_int (pe_callB call_len (by rfl) T.b_len (by decide +kernel) (pa_cons (pv 0) pa_nil)) (C8.pe_gc rfl T.g_MOST_SIZES))) (pss_one ps_never) pss_nil)
    (pss_one (ps_for PassesOwn.never rfl (pi_list (pv 0)) (pg_name (i := 1) sc_check_sizes.nd rfl (Or.inl rfl)) (pss_one (ps_if (pt_not (pt_val (C8.pe_c c_is_number_from hr (by decide) rfl (pa_cons (pv 1) (pa_cons pe_int (pa_cons (C8.pe_gc rfl T.g_GREATEST_SIZE) pa_nil)))))) (pss_one ps_never) pss_nil)))))), ?_⟩
    have l1 := hz.1
    have l2 := hz.2.1
    refine ⟨_, rfl, _, _, _, _, true, rfl, .ty _, .base (.lst ha), kit_ty (by decide +kernel), _, rfl, iteF ?_⟩
    refine ⟨_, rfl, _, _, rfl, .inl ⟨_, .of ha, rfl⟩, _, _, rfl, rfl, _, rfl, ?_⟩
    rw [decide_eq_true (by rw [List.length_map]; omega)]
    refine iteT ⟨_, _, rfl, rfl, _, rfl, ?_⟩
    rw [decide_eq_true (by rw [List.length_map]; omega)]
    refine iteF ?_
    refine ⟨_, rfl, a, rfl, ⟨_, .of ha⟩, for_list (K := K) (a := a) (xs := ss.map V.int) (fun i σ H' => H' = H ∧ ∃ v1, σ = [some (.ref a), v1]) ⟨rfl, none, rfl⟩ (fun i σ H' _ ⟨e, _⟩ => by rw [e]; exact .of ha) ?_ ?_⟩
    · rintro i y σ H2 hi ⟨rfl, v1, rfl⟩
      obtain ⟨u, hu, rfl⟩ := int_item hi
      have sb := hz.2.2 u (List.mem_of_getElem? hu)
      refine ⟨_, rfl, .int u, 1, 4, rfl, MixT.int, _, rfl, ?_⟩
      rw [show inR 1 4 (.int u) = true by show (decide (1 ≤ u) && decide (u ≤ 4)) = true; rw [decide_eq_true sb.1, decide_eq_true sb.2]; rfl]
      refine iteF ?_
      exact ⟨rfl, _, rfl⟩
    · rintro σ H2 ⟨rfl, v1, rfl⟩
      exact k

theorem ok_check_worths (T : Txt K mg C) (c_is_number_from : C8.Cal P w K mg base 2 "is_number_from" spIsNumberFrom []) (F : C8.Def K mg "check_worths" s_check_worths f fd) (b : Binds K fd ["worths", "many"] []) : C8.Cal P w K mg base 3 "check_worths" spChkW [] := by
  refine C8.cal0 F b .nil sc_check_worths (fun vs H Q E h => ?_) (fun cdv A outer s H vs Q E hr h => ?_)
  · obtain ⟨a, n, ws, rfl, ha, hl, hb, k⟩ := h
    rfl
  · obtain ⟨a, n, ws, rfl, ha, hl, hb, k⟩ := h
    refine ⟨_, (pss_cons (ps_if (pt_not (pt_val (pe_callB call_isi (by rfl) T.b_isinstance (by decide +kernel) (pa_cons (pv 0) (pa_cons (pe_bltn (v := .ty "list") (u := .type "list") (by rfl) T.b_list (by decide +kernel) rfl) pa_nil))))) (pss_one ps_never) pss_nil)
    (pss_cons (ps_if (pt_cmpR op_ne (pe_callB call_len (by rfl) T.b_len (by decide +kernel) (pa_cons (pv 0) pa_nil)) (pv 1) (nomark _)) (pss_one ps_never) pss_nil)
    (pss_one (ps_for PassesOwn.never rfl (pi_list (pv 0)) (pg_name (i := 2) sc_check_worths.nd rfl (Or.inl rfl)) (pss_one (ps_if (pt_not (pt_val (C8.pe_c c_is_number_from hr (by decide) rfl (pa_cons (pv 2) (pa_cons (pe_un un_neg (C8.pe_gc rfl T.g_WORTH)) (pa_cons (C8.pe_gc rfl T.g_WORTH) pa_nil)))))) (pss_one ps_never) pss_nil)))))), ?_⟩
    refine ⟨_, rfl, _, _, _, _, true, rfl, .ty _, .base (.lst ha), kit_ty (by decide +kernel), _, rfl, iteF ?_⟩
    refine ⟨_, rfl, _, _, rfl, .inl ⟨_, .of ha, rfl⟩, ?_⟩
    refine ⟨_, rfl, rfl, _, rfl, ?_⟩
    rw [decide_eq_true (by rw [List.length_map, hl])]
    refine iteF ?_
    refine ⟨_, rfl, a, rfl, ⟨_, .of ha⟩, for_list (K := K) (a := a) (xs := ws.map V.int) (fun i σ H' => H' = H ∧ ∃ v2, σ = [some (.ref a), some (.int (n : Int)), v2]) ⟨rfl, none, rfl⟩ (fun i σ H' _ ⟨e, _⟩ => by rw [e]; exact .of ha) ?_ ?_⟩
    · rintro i y σ H2 hi ⟨rfl, v2, rfl⟩
      obtain ⟨u, hu, rfl⟩ := int_item hi
      have sb := hb u (List.mem_of_getElem? hu)
      refine ⟨_, rfl, _, rfl, .int u, -(10 ^ 30), 10 ^ 30, rfl, MixT.int, _, rfl, ?_⟩
      rw [show inR (-(10 ^ 30)) (10 ^ 30) (.int u) = true by show (decide (-(10 ^ 30) ≤ u) && decide (u ≤ 10 ^ 30)) = true; rw [decide_eq_true sb.1, decide_eq_true sb.2]; rfl]
      refine iteF ?_
      exact ⟨rfl, _, rfl⟩
    · rintro σ H2 ⟨rfl, v2, rfl⟩
      exact k

end
end Ev

namespace Ev
open PySem L2 Ax
section
variable {P : Program} {w : World} {K : PySem.W.Frag} {mg : Str → Option Value} {base : Heap} {C : Str → Addr} {f : Addr} {fd : FuncData}

def spHalves : Sp := fun vs H Q _ => ∃ (a b : Addr) (x y : List Int), vs = [.ref a, .ref b] ∧ H a = some (.tup (x.map V.int)) ∧ H b = some (.tup (y.map V.int)) ∧ x.length = y.length ∧ x.length ≤ 3 ∧
  ∀ u d t H', Same H H' → H' u = some (.tup ((upL x y).map V.int)) → H' d = some (.tup ((dnL x y).map V.int)) → H' t = some (.tup [.ref u, .ref d]) → Q (.ref t) H'

theorem ok_halves (T : Txt K mg C)  (F : C8.Def K mg "halves" s_halves f fd) (b : Binds K fd ["one", "other"] []) : C8.Cal P w K mg base 1 "halves" spHalves [] := by
  refine C8.cal0 F b .nil sc_halves (fun vs H Q E h => ?_) (fun cdv A outer s H vs Q E hr h => ?_)
  · obtain ⟨a, b, x, y, rfl, ha, hb, hl, h3, k⟩ := h
    rfl
  · obtain ⟨a, b, x, y, rfl, ha, hb, hl, h3, k⟩ := h
    refine ⟨_, (pss_cons (ps_setLc (i := 2) (own := [("here", 3), ("there", 4)]) (g := gTup K 2 (gCons (gName 3) (gCons (gName 4) gNil))) (tt := tYes) rfl sc_halves.nd rfl rfl (sw_true rfl rfl rfl (by decide +kernel)) (RZ.pi_zipA (by rfl) T.b_zip (pa_cons (pv 0) (pa_cons (pv 1) pa_nil))) (blkOk_by (own := [("here", 3), ("there", 4)]) (N := ["one", "other", "sums", "here", "there", "total"]) (sc := (defScope s_halves)) (by decide +kernel)) (fun _ _ _ _ _ => (show PG _ _ (gTup K 2 (gCons (gName 3) (gCons (gName 4) gNil))) from pg_tup rfl (pgs_cons (pg_name (i := 3) sc_halves.nd rfl (Or.inl rfl)) (pgs_cons (pg_name (i := 4) sc_halves.nd rfl (Or.inl rfl)) pgs_nil)))) (fun _ _ _ _ _ => pts_nil) (fun _ _ _ _ _ => (pe_op op_add (pv 3) (pv 4))))
    (pss_one (ps_ret (pe_tup (pa_cons (pe_callTy call_tuple_of (by rfl) T.b_tuple (by decide +kernel) (pa_cons (pe_lc (own := [("total", 5)]) (g := gName 5) (tt := tYes) rfl sc_halves.nd (pi_list (pv 2)) (blkOk_by (own := [("total", 5)]) (N := ["one", "other", "sums", "here", "there", "total"]) (sc := (defScope s_halves)) (by decide +kernel)) (fun _ _ _ _ _ => pg_name (i := 5) sc_halves.nd rfl (Or.inl rfl)) (fun _ _ _ _ _ => pts_nil) (fun _ _ _ _ _ => (pe_op op_fdiv (pe_op op_add (pv 5) pe_int) pe_int))) pa_nil)) (pa_cons (pe_callTy call_tuple_of (by rfl) T.b_tuple (by decide +kernel) (pa_cons (pe_lc (own := [("total", 5)]) (g := gName 5) (tt := tYes) rfl sc_halves.nd (pi_list (pv 2)) (blkOk_by (own := [("total", 5)]) (N := ["one", "other", "sums", "here", "there", "total"]) (sc := (defScope s_halves)) (by decide +kernel)) (fun _ _ _ _ _ => pg_name (i := 5) sc_halves.nd rfl (Or.inl rfl)) (fun _ _ _ _ _ => pts_nil) (fun _ _ _ _ _ => (pe_op op_fdiv (pv 5) pe_int))) pa_nil)) pa_nil)))))), ?_⟩
    have lz : (x.zip y).length = x.length := by rw [List.length_zip, hl, Nat.min_self]
    have ls : (smL x y).length = x.length := by unfold smL; rw [List.length_map, lz]
    refine ⟨_, rfl, _, rfl, a, b, _, _, rfl, .inr ⟨.of ha, .of hb, fun D hD => ?_⟩⟩
    refine wk_it (walk_zipT (K := K) (a := a) (b := b) (xs := x.map V.int) (ys := y.map V.int) (n := x.length) (by rw [List.length_map, List.length_map, ← hl, Nat.min_self])) (fun t H' => Same H H' ∧ H' D = some (.lst ((((x.zip y).take t).map fun q => q.1 + q.2).map V.int))) ⟨Same.upd hD, upd_same⟩ (fun t H' _ ⟨s, _⟩ => ⟨.of (s _ _ ha), .of (s _ _ hb)⟩) ?_ ?_
    · rintro t v H' H'' hit ⟨s, eD⟩ ⟨Tt, u, w2, rfl, hT, rfl, hu, hv⟩
      obtain ⟨n1, e1, rfl⟩ := int_item hu
      obtain ⟨n2, e2, rfl⟩ := int_item hv
      have ez : (x.zip y)[t]? = some (n1, n2) := by rw [List.getElem?_zip_eq_some]; exact ⟨e1, e2⟩
      have sT : Same H' (upd H' Tt (.tup [V.int n1, V.int n2])) := Same.upd hT
      refine ⟨_, _, rfl, .of upd_same, rfl, _, _, rfl, _, _, rfl, rfl, rfl, yes_go ?_⟩
      refine ⟨_, rfl, _, rfl, _, _, rfl, rfl, _, sT _ _ eD, (by rw [List.length_map, List.length_map, List.length_take]; exact small1000 (by omega)), Same.updN (s.trans sT) hD, ?_⟩
      rw [upd_same, List.take_add_one, ez, List.map_append, List.map_append]
      rfl
    rintro H1 ⟨s1, eD⟩
    rw [show x.length = (x.zip y).length from lz.symm, List.take_length] at eD
    have eD : H1 D = some (.lst ((smL x y).map V.int)) := eD
    refine ⟨_, rfl, D, rfl, ⟨_, .of eD⟩, fun D2 hD2 => ?_⟩
    refine wk_it (walk_list (K := K) (a := D) (xs := (smL x y).map V.int)) (fun t H' => Same H1 H' ∧ H' D2 = some (.lst ((((smL x y).take t).map fun t => (t + 1) / 2).map V.int))) ⟨Same.upd hD2, upd_same⟩ (fun t H' _ p => .of (p.1 _ _ eD)) ?_ ?_
    · rintro t v H' H'' hit ⟨s, eD2⟩ ⟨rfl, hv⟩
      obtain ⟨n1, e1, rfl⟩ := int_item hv
      refine ⟨rfl, yes_go ?_⟩
      refine ⟨_, rfl, _, _, rfl, rfl, _, _, rfl, rfl, ⟨by decide, by decide⟩, _, eD2, (by rw [List.length_map, List.length_map, List.length_take]; exact small1000 (by omega)), Same.updN s hD2, ?_⟩
      rw [upd_same, List.take_add_one, e1, List.map_append, List.map_append]
      rfl
    rintro H2 ⟨s2, eD2⟩
    rw [List.length_map, List.take_length, ← up_sm] at eD2
    refine ⟨_, _, rfl, .inl ⟨.of eD2, fun u hu => ?_⟩⟩
    have s3 : Same H1 (upd H2 u (.tup ((upL x y).map V.int))) := s2.trans (Same.upd hu)
    have eu : upd H2 u (.tup ((upL x y).map V.int)) u = some (.tup ((upL x y).map V.int)) := upd_same
    generalize upd H2 u (.tup ((upL x y).map V.int)) = H3 at s3 eu ⊢
    refine ⟨_, rfl, D, rfl, ⟨_, .of (s3 _ _ eD)⟩, fun D4 hD4 => ?_⟩
    refine wk_it (walk_list (K := K) (a := D) (xs := (smL x y).map V.int)) (fun t H' => Same H3 H' ∧ H' D4 = some (.lst ((((smL x y).take t).map fun t => t / 2).map V.int))) ⟨Same.upd hD4, upd_same⟩ (fun t H' _ p => .of (p.1 _ _ (s3 _ _ eD))) ?_ ?_
    · rintro t v H' H'' hit ⟨s, eD4⟩ ⟨rfl, hv⟩
      obtain ⟨n1, e1, rfl⟩ := int_item hv
      refine ⟨rfl, yes_go ?_⟩
      refine ⟨_, rfl, _, _, rfl, rfl, ⟨by decide, by decide⟩, _, eD4, (by rw [List.length_map, List.length_map, List.length_take]; exact small1000 (by omega)), Same.updN s hD4, ?_⟩
      rw [upd_same, List.take_add_one, e1, List.map_append, List.map_append]
      rfl
    rintro H4 ⟨s4, eD4⟩
    rw [List.length_map, List.take_length, ← dn_sm] at eD4
    refine ⟨_, _, rfl, .inl ⟨.of eD4, fun dd hd => ?_⟩⟩
    have s5 : Same H3 (upd H4 dd (.tup ((dnL x y).map V.int))) := s4.trans (Same.upd hd)
    have ed : upd H4 dd (.tup ((dnL x y).map V.int)) dd = some (.tup ((dnL x y).map V.int)) := upd_same
    generalize upd H4 dd (.tup ((dnL x y).map V.int)) = H5 at s5 ed ⊢
    refine ⟨(by show 2 ≤ sizeLine; decide), fun t ht => ?_⟩
    have s6 : Same H5 (upd H5 t (.tup [.ref u, .ref dd])) := Same.upd ht
    exact k u dd t _ (s1.trans (s3.trans (s5.trans s6))) (s6 _ _ (s5 _ _ eu)) (s6 _ _ ed) upd_same

end
end Ev

namespace Ev
open PySem L2 Ax
section
variable {P : Program} {w : World} {K : PySem.W.Frag} {mg : Str → Option Value} {base : Heap} {C : Str → Addr} {f : Addr} {fd : FuncData}

def spBends : Sp := fun vs H Q _ => ∃ (t : Addr) (ss : List Int) (W : List Int → Int), vs = [.ref t] ∧ H t = some (.dT (tabK (ptsB ss) W)) ∧ SzOk ss ∧ CvxB ss W ∧ ∀ H', Same H H' → Q .non H'
theorem cut_from (xs : List V) (k : Nat) : cutV xs (some (k : Int)) none = xs.drop k := by
  unfold cutV
  rw [HT.sIx_nat, HT.sIx_none]
  rcases Nat.le_total k xs.length with h | h
  · rw [Nat.min_eq_left h]
    exact List.take_of_length_le (by rw [List.length_drop]; exact Nat.le_refl _)
  · rw [Nat.min_eq_right h, List.drop_eq_nil_of_le h, List.drop_eq_nil_of_le (Nat.le_refl _), List.take_nil]
theorem dget_tab {H : Hp} {t b : Addr} {pts : List (List Int)} {W : List Int → Int} {p : List Int} (e : H t = some (.dT (tabK pts W))) (eb : H b = some (.tup (p.map V.int))) (hp : p ∈ pts) : DGet H t (.ref b) (some (.int (W p))) := by
  have z := DGet.t (k := kI p) e (by rw [kI_kV]; exact eb)
  rw [val_tab, if_pos hp] at z
  exact z

theorem ok_check_bends (T : Txt K mg C) (c_halves : C8.Cal P w K mg base 1 "halves" spHalves []) (F : C8.Def K mg "check_bends" s_check_bends f fd) (b : Binds K fd ["table"] []) : C8.Cal P w K mg base 2 "check_bends" spBends [] := by
  refine C8.cal0 F b .nil sc_check_bends (fun vs H Q E h => ?_) (fun cdv A outer s H vs Q E hr h => ?_)
  · obtain ⟨t, ss, W, rfl, ht, hz, hC, k⟩ := h
    rfl
  · obtain ⟨t, ss, W, rfl, ht, hz, hC, k⟩ := h
    refine ⟨_, (pss_cons (ps_set (i := 1) sc_check_bends.nd rfl (Or.inl rfl) (pe_callTy (call_list_dT rfl) (by rfl) T.b_list (by decide +kernel) (pa_cons (pv 0) pa_nil)))
    (pss_one (ps_for PassesOwn.never rfl (pi_enum (by rfl) T.b_enumerate (pa_cons (pv 1) pa_nil)) (pg_tup (by rfl) (pgs_cons (pg_name (i := 2) sc_check_bends.nd rfl (Or.inl rfl)) (pgs_cons (pg_name (i := 3) sc_check_bends.nd rfl (Or.inl rfl)) pgs_nil))) (pss_one (ps_for PassesOwn.never rfl (pi_list (pe_slice sl_list (pv 1) (po_some (pe_op op_add (pv 2) pe_int)) po_none)) (pg_name (i := 4) sc_check_bends.nd rfl (Or.inl rfl)) (pss_cons (ps_asg (C8.pe_c c_halves hr (by decide) rfl (pa_cons (pv 3) (pa_cons (pv 4) pa_nil))) (pg_tup (by rfl) (pgs_cons (pg_name (i := 5) sc_check_bends.nd rfl (Or.inl rfl)) (pgs_cons (pg_name (i := 6) sc_check_bends.nd rfl (Or.inl rfl)) pgs_nil))))
    (pss_one (ps_if (pt_cmpR op_gt (pe_op op_add (pe_dget (hu_of hr) (pv 0) (pv 5) (fun _ _ => rfl)) (pe_dget (hu_of hr) (pv 0) (pv 6) (fun _ _ => rfl))) (pe_op op_add (pe_dget (hu_of hr) (pv 0) (pv 3) (fun _ _ => rfl)) (pe_dget (hu_of hr) (pv 0) (pv 4) (fun _ _ => rfl))) (nomark _)) (pss_one ps_never) pss_nil)))))))), ?_⟩
    refine ⟨_, rfl, t, _, rfl, .inl ht, fun l bs hl hk => ?_⟩
    obtain ⟨bl, bt⟩ := keys_of hk
    have b64 := (len_ptsB hz).2
    have s1 : Same H (upd H l (.lst (bs.map V.ref))) := Same.upd hl
    have el : upd H l (.lst (bs.map V.ref)) l = some (.lst (bs.map V.ref)) := upd_same
    generalize upd H l (.lst (bs.map V.ref)) = H1 at s1 el ⊢
    have get : ∀ {i : Nat} {v : V}, (bs.map V.ref)[i]? = some v → ∃ b p, v = .ref b ∧ p ∈ ptsB ss ∧ H b = some (.tup (p.map V.int)) := fun {i v} e => by
      rw [List.getElem?_map] at e
      obtain ⟨b, hb, rfl⟩ := Option.map_eq_some_iff.mp e
      have hi : i < (ptsB ss).length := by rw [← bl]; exact (List.getElem?_eq_some_iff.mp hb).1
      have hp := List.getElem?_eq_getElem hi
      exact ⟨b, _, rfl, List.mem_of_getElem? hp, bt i _ b hp hb⟩
    refine ⟨_, rfl, _, _, rfl, .of el, ?_⟩
    refine for_it (walk_enum (K := K) (a := l) (xs := bs.map V.ref)) (fun i σ H' => Same H1 H' ∧ ∃ v2 v3 v4 v5 v6, σ = [some (.ref t), some (.ref l), v2, v3, v4, v5, v6]) ⟨Same.refl _, _, _, _, _, _, rfl⟩ (fun i σ H' _ p => .of (p.1 _ _ el)) ?_ ?_
    · rintro i y σ H2 H3 hi ⟨s2, v2, v3, v4, v5, v6, rfl⟩ ⟨Tt, u, v, rfl, hT, rfl, hu, hv⟩
      cases hu
      obtain ⟨b, pt, rfl, hpt, eb⟩ := get hv
      have sT : Same H2 (upd H2 Tt (.tup [.int (i : Nat), .ref b])) := Same.upd hT
      have eT : upd H2 Tt (.tup [.int (i : Nat), .ref b]) Tt = some (.tup [.int (i : Nat), .ref b]) := upd_same
      generalize upd H2 Tt (.tup [.int (i : Nat), .ref b]) = H4 at sT eT ⊢
      have s4 := s2.trans sT
      refine ⟨_, _, rfl, .of eT, rfl, _, _, rfl, _, _, rfl, rfl, ?_⟩
      refine ⟨_, rfl, _, rfl, _, _, rfl, rfl, _, rfl, _, _, rfl, .of (s4 _ _ el), fun p np => ?_⟩
      have e1 : ((i : Nat) : Int) + 1 = ((i + 1 : Nat) : Int) := by omega
      rw [e1, cut_from, ← List.map_drop]
      have s5 := s4.trans (Same.upd (o := .lst ((bs.drop (i + 1)).map V.ref)) np)
      have ep : upd H4 p (.lst ((bs.drop (i + 1)).map V.ref)) p = some (.lst ((bs.drop (i + 1)).map V.ref)) := upd_same
      generalize upd H4 p (.lst ((bs.drop (i + 1)).map V.ref)) = H5 at s5 ep ⊢
      refine ⟨p, rfl, ⟨_, .of ep⟩, for_list (K := K) (a := p) (xs := (bs.drop (i + 1)).map V.ref) (fun j σ H' => Same H5 H' ∧ ∃ v4 v5 v6, σ = [some (.ref t), some (.ref l), some (.int (i : Nat)), some (.ref b), v4, v5, v6]) ⟨Same.refl _, _, _, _, rfl⟩ (fun j σ H' _ p => .of (p.1 _ _ ep)) ?_ ?_⟩
      · rintro j x σ H6 hj ⟨s6, v4, v5, v6, rfl⟩
        have hj2 : (bs.map V.ref)[i + 1 + j]? = some x := by
          rw [List.map_drop, List.getElem?_drop] at hj
          exact hj
        obtain ⟨c, qt, rfl, hqt, ec⟩ := get hj2
        have s7 := s1.trans (s5.trans s6)
        have i1 := mem_ptsB.mp hpt
        have i2 := mem_ptsB.mp hqt
        refine ⟨_, rfl, _, rfl, b, c, pt, qt, rfl, s7 _ _ eb, s7 _ _ ec, by rw [i1.len, i2.len], by rw [i1.len]; exact hz.2.1, fun uu dd tt H8 s8 eu ed et => ?_⟩
        refine ⟨_, _, rfl, .of et, rfl, _, _, rfl, _, _, rfl, rfl, ?_⟩
        have s9 := s7.trans s8
        have cv := hC pt qt i1 i2
        refine ⟨_, rfl, _, rfl, _, _, rfl, dget_tab (s9 _ _ ht) eu (mem_ptsB.mpr (i1.up i2)), _, rfl, _, rfl, _, _, rfl, dget_tab (s9 _ _ ht) ed (mem_ptsB.mpr (i1.dn i2)), _, _, rfl, rfl,
          _, rfl, _, rfl, _, _, rfl, dget_tab (s9 _ _ ht) (s9 _ _ eb) hpt, _, rfl, _, rfl, _, _, rfl, dget_tab (s9 _ _ ht) (s9 _ _ ec) hqt, _, _, rfl, rfl, _, _, rfl, rfl, _, rfl, ?_⟩
        rw [decide_eq_false (by omega)]
        exact iteF ⟨s6.trans s8, _, _, _, rfl⟩
      · rintro σ H6 ⟨s6, v4, v5, v6, rfl⟩
        exact ⟨s5.trans s6, _, _, _, _, _, rfl⟩
    · rintro σ H2 ⟨s2, v2, v3, v4, v5, v6, rfl⟩
      exact k _ (s1.trans s2)

end
end Ev

namespace Ev
open PySem L2 Ax
section
variable {P : Program} {w : World} {K : PySem.W.Frag} {mg : Str → Option Value} {base : Heap} {C : Str → Addr} {f : Addr} {fd : FuncData}

def spLPts : Sp := fun vs H Q _ => ∃ (a : Addr) (ss : List Int), vs = [.ref a] ∧ H a = some (.lst (ss.map V.int)) ∧ SzOk ss ∧
  ∀ l as H', Same H H' → H' l = some (.lst (as.map V.ref)) → LsAt H' (ptsB ss) as → Q (.ref l) H'
theorem LsAt.len64 {H : Hp} {ps : List (List Int)} {as : List Addr} (h : LsAt H ps as) : (as.map V.ref).length = ps.length := by rw [List.length_map, h.len]

theorem ok_law_points (T : Txt K mg C)  (F : C8.Def K mg "_law_points" s_law_points f fd) (b : Binds K fd ["_law_sizes"] []) : C8.Cal P w K mg base 1 "_law_points" spLPts [] := by
  refine C8.cal0 F b .nil sc_law_points (fun vs H Q E h => ?_) (fun cdv A outer s H vs Q E hr h => ?_)
  · obtain ⟨a, ss, rfl, ha, hz, k⟩ := h
    rfl
  · obtain ⟨a, ss, rfl, ha, hz, k⟩ := h
    refine ⟨_, (pss_cons (ps_set (i := 1) sc_law_points.nd rfl (Or.inl rfl) (pe_lst (pa_cons (pe_lst pa_nil) pa_nil)))
    (pss_cons (ps_for PassesOwn.never rfl (pi_list (pv 0)) (pg_name (i := 2) sc_law_points.nd rfl (Or.inl rfl)) (pss_cons (ps_set (i := 3) sc_law_points.nd rfl (Or.inl rfl) (pe_lst pa_nil))
    (pss_cons (ps_for PassesOwn.never rfl (pi_list (pv 1)) (pg_name (i := 4) sc_law_points.nd rfl (Or.inr rfl)) (pss_one (ps_set (i := 3) sc_law_points.nd rfl (Or.inl rfl) (pe_op op_cat (pv 3) (pe_lc (own := [("_law_number", 5)]) (g := gName 5) (tt := tYes) rfl sc_law_points.nd (pi_range1 (by rfl) T.b_range (pa_cons (pv 2) pa_nil)) (blkOk_by (own := [("_law_number", 5)]) (N := ["_law_sizes", "_law_found", "_law_size", "_law_longer", "_law_point", "_law_number"]) (sc := (defScope s_law_points)) (by decide +kernel)) (fun _ _ _ _ _ => pg_name (i := 5) sc_law_points.nd rfl (Or.inl rfl)) (fun _ _ _ _ _ => pts_nil) (fun _ _ _ _ _ => (pe_op op_cat (pv 4) (pe_lst (pa_cons (pv 5) pa_nil)))))))))
    (pss_one (ps_set (i := 1) sc_law_points.nd rfl (Or.inl rfl) (pv 3))))))
    (pss_one (ps_ret (pv 1))))), ?_⟩
    refine ⟨Nat.zero_le _, fun q hq => ⟨(by show 1 ≤ sizeLine; decide), fun l hl => ?_⟩⟩
    have s1 : Same H (upd (upd H q (.lst [])) l (.lst [.ref q])) := (Same.upd hq).trans (Same.upd hl)
    have e1 : upd (upd H q (.lst [])) l (.lst [.ref q]) l = some (.lst ([q].map V.ref)) := upd_same
    have e2 : LsAt (upd (upd H q (.lst [])) l (.lst [.ref q])) [[]] [q] := ⟨rfl, fun i p b z1 z2 => by
      cases i with
      | zero =>
        simp at z1 z2
        subst z1 z2
        exact (Same.upd hl) _ _ upd_same
      | succ i => simp at z1⟩
    generalize upd (upd H q (.lst [])) l (.lst [.ref q]) = H1 at s1 e1 e2 ⊢
    refine ⟨_, rfl, a, rfl, ⟨_, .of (s1 _ _ ha)⟩, for_list (K := K) (a := a) (xs := ss.map V.int) (fun i σ H' => ∃ l as v2 v3 v4, σ = [some (.ref a), some (.ref l), v2, v3, v4, none] ∧ Same H H' ∧ H' l = some (.lst (as.map V.ref)) ∧ LsAt H' ((ss.take i).foldl pB [[]]) as) ⟨l, [q], none, none, none, rfl, s1, e1, e2⟩ (fun i σ H' _ ⟨l, as, v2, v3, v4, _, s, _⟩ => .of (s _ _ ha)) ?_ ?_⟩
    · rintro i y σ H2 hi ⟨l, as, v2, v3, v4, rfl, s2, eL, hL⟩
      obtain ⟨s, hs, rfl⟩ := int_item hi
      have sb := hz.2.2 s (List.mem_of_getElem? hs)
      obtain ⟨m, rfl⟩ : ∃ m : Nat, s = (m : Int) := ⟨s.toNat, by omega⟩
      have b64 := len_takeB hz (i + 1)
      rw [fold_snoc hs] at b64
      have hpl : ∀ p ∈ (ss.take i).foldl pB [[]], p.length ≤ 3 := fun p hp => by
        obtain ⟨q, r, hq, rfl, hr⟩ := (mem_foldB _ _ _).mp hp
        rw [List.mem_singleton.mp hq, List.nil_append, hr.len, List.length_take]
        have := hz.2.1
        omega
      obtain ⟨pts, hpts⟩ : ∃ pts, (ss.take i).foldl pB [[]] = pts := ⟨_, rfl⟩
      rw [hpts] at hL b64 hpl
      refine ⟨Nat.zero_le _, fun L hL0 => ?_⟩
      have s3 := s2.trans (Same.upd (o := .lst []) hL0)
      have eL2 : upd H2 L (.lst []) l = some (.lst (as.map V.ref)) := (Same.upd hL0) _ _ eL
      have hL2 := hL.smt (.of (Same.upd (o := .lst []) hL0))
      have eN : upd H2 L (.lst []) L = some (.lst (([] : List Addr).map V.ref)) := upd_same
      generalize upd H2 L (.lst []) = H3 at s3 eL2 hL2 eN ⊢
      refine ⟨_, rfl, l, rfl, ⟨_, .of eL2⟩, for_list (K := K) (a := l) (xs := as.map V.ref) (fun j σ H' => ∃ N bs v4, σ = [some (.ref a), some (.ref l), some (.int (m : Int)), some (.ref N), v4, none] ∧ Same H3 H' ∧ H' N = some (.lst (bs.map V.ref)) ∧ LsAt H' (pB (pts.take j) ((m : Nat) : Int)) bs) ⟨L, [], v4, rfl, Same.refl _, eN, LsAt.nil⟩ (fun j σ H' _ ⟨N, bs, v4, _, s, _⟩ => .of (s _ _ eL2)) ?_ ?_⟩
      · rintro j x σ H4 hj ⟨N, bs, v4, rfl, s4, eB, hB⟩
        obtain ⟨b, pt, rfl, hpt, hb, eb⟩ := hL2.get hj
        have jl : j < pts.length := (List.getElem?_eq_some_iff.mp hpt).1
        have eb4 := s4 _ _ eb
        refine ⟨_, rfl, _, rfl, m, rfl, by omega, by omega, fun D hD => ?_⟩
        refine wk_it (walk_range (lo := 0) (n := m)) (fun t H' => Same H4 H' ∧ ∃ ds : List Addr, H' D = some (.lst (ds.map V.ref)) ∧ LsAt H' ((List.range t).map fun t => pt ++ [((t : Nat) : Int)]) ds ∧ D ∉ ds) ⟨Same.upd hD, [], upd_same, LsAt.nil, by simp⟩ (fun _ _ _ _ => True.intro) ?_ ?_
        · rintro t x H5 H6 ht ⟨s5, ds, eD, hds, nD⟩ ⟨rfl, rfl⟩
          refine ⟨rfl, yes_go ?_⟩
          refine ⟨_, rfl, _, rfl, (by show 1 ≤ sizeLine; decide), fun c hc => ?_⟩
          have s6 := s5.trans (Same.upd (o := .lst [.int (0 + (t : Int))]) hc)
          refine ⟨b, c, pt.map V.int, [.int (0 + (t : Int))], rfl, rfl, s6 _ _ eb4, upd_same, ?_, fun r hr => ?_⟩
          · rw [List.length_map, List.length_singleton]
            exact Nat.le_of_lt (small1000 (by have := hpl pt (List.mem_of_getElem? hpt); omega))
          have cD : D ≠ c := fun e => by rw [← e, eD] at hc; cases hc
          have rD : D ≠ r := fun e => by rw [← e, upd_ne cD, eD] at hr; cases hr
          have h57 : Same H6 (upd (upd H6 c (.lst [.int (0 + (t : Int))])) r (.lst (pt.map V.int ++ [.int (0 + (t : Int))]))) := (Same.upd hc).trans (Same.upd hr)
          refine ⟨ds.map V.ref, by rw [upd_ne rD, upd_ne cD]; exact eD, ?_, ?_⟩
          · have := hds.len
            rw [List.length_map, List.length_range] at this
            rw [List.length_map]
            exact small1000 (by omega)
          refine ⟨?_, ds ++ [r], ?_, ?_, ?_⟩
          · exact fun x o e => by
              have n : x ≠ D := fun z => by rw [z, hD] at e; cases e
              rw [upd_ne n]
              exact h57 _ _ (s5 _ _ e)
          · rw [upd_same, List.map_append]; rfl
          · rw [List.range_succ, List.map_append]
            refine (LsAt.snoc hds (.of h57) ?_).updD ?_
            · rw [upd_same, List.map_append]
              simp
            · simp only [List.mem_append, List.mem_singleton, not_or]
              exact ⟨nD, rD⟩
          · simp only [List.mem_append, List.mem_singleton, not_or]
            exact ⟨nD, rD⟩
        · rintro H5 ⟨s5, ds, eD, hds, nD⟩
          have z1 := hB.len
          have z2 := hds.len
          rw [List.length_map, List.length_range] at z2
          have z3 := pB_room (k := m) jl (Nat.le_refl m)
          refine ⟨N, D, bs.map V.ref, ds.map V.ref, rfl, rfl, s5 _ _ eB, eD, ?_, fun r hr => ?_⟩
          · rw [List.length_map, List.length_map]
            exact Nat.le_of_lt (small1000 (by omega))
          have s6 : Same H5 (upd H5 r (.lst (bs.map V.ref ++ ds.map V.ref))) := Same.upd hr
          refine ⟨r, bs ++ ds, _, rfl, s4.trans (s5.trans s6), ?_, ?_⟩
          · rw [upd_same, List.map_append]
          · rw [pB_snoc hpt, Int.toNat_natCast]
            exact (hB.smt (.of (s5.trans s6))).app (hds.smt (.of s6))
      · rintro σ H4 ⟨N, bs, v4, rfl, s4, eB, hB⟩
        rw [hL2.len64, List.take_length] at hB
        refine ⟨_, rfl, N, bs, _, _, _, rfl, s3.trans s4, eB, ?_⟩
        rw [fold_snoc hs, hpts]
        exact hB
    · rintro σ H2 ⟨l, as, v2, v3, v4, rfl, s2, eL, hL⟩
      rw [List.length_map, List.take_length] at hL
      exact ⟨_, rfl, k l as H2 s2 eL hL⟩

end
end Ev

namespace Ev
open PySem L2 Ax
section
variable {P : Program} {w : World} {K : PySem.W.Frag} {mg : Str → Option Value} {base : Heap} {C : Str → Addr} {f : Addr} {fd : FuncData}

def chflds : List Str := ["table"]
theorem fch_table : ("table" : Str) ∈ chflds := by unfold chflds; simp
theorem lk_Chart_table {t : Addr} : List.lookup ("table" : Str) (fChart t) = some (.ref t) := by kernel_rfl
theorem no_cworth {t : Addr} : List.lookup ("worth" : Str) (fChart t) = none := by kernel_rfl
structure ChT (K : PySem.W.Frag) (C : Str → Addr) : Prop where
  cl : Cls K (C "Chart")
  na : ∀ f ∈ chflds, NoAttr K (C "Chart") f
def spIChart (C : Str → Addr) : Sp := fun vs H Q _ => ∃ (c dx a b : Addr) (ss : List Int) (W : List Int → Int), vs = [.ref c, .ref a, .ref b] ∧ H c = some (.ins (C "Chart") dx []) ∧ H a = some (.lst (ss.map V.int)) ∧ SzOk ss ∧ H b = some (.lst (((ptsB ss).map W).map V.int)) ∧ CvxB ss W ∧ (∀ p ∈ ptsB ss, -(10 ^ 30) ≤ W p ∧ W p ≤ 10 ^ 30) ∧
  ∀ H', But c H H' → ChAtB C H' ss W c → Q .non H'

theorem ok_Chart_init (T : Txt K mg C) (CT : ChT K C) (c_check_sizes : C8.Cal P w K mg base 3 "check_sizes" spChkS []) (c_points_below : C8.Cal P w K mg base 1 "points_below" spPtsBelow []) (c_check_worths : C8.Cal P w K mg base 3 "check_worths" spChkW []) (c_check_bends : C8.Cal P w K mg base 2 "check_bends" spBends []) (F : C8.Fun K "__init__" "Chart.__init__" s_Chart_init f fd) : FnOk P w K mg base CX0 4 f fd ["self", "sizes", "worths"] (spIChart C) := by
  refine C8.fn0 F sc_Chart_init (fun vs H Q E h => ?_) (fun cdv A outer s H vs Q E hr h => ?_)
  · obtain ⟨c, dx, a, b, ss, W, rfl, hc, ha, hz, hb, hC, hB, k⟩ := h
    rfl
  · obtain ⟨c, dx, a, b, ss, W, rfl, hc, ha, hz, hb, hC, hB, k⟩ := h
    refine ⟨_, (pss_cons (ps_expr (C8.pe_c c_check_sizes hr (by decide) rfl (pa_cons (pv 1) pa_nil)))
    (pss_cons (ps_set (i := 3) sc_Chart_init.nd rfl (Or.inl rfl) (C8.pe_c c_points_below hr (by decide) rfl (pa_cons (pv 1) pa_nil)))
    (pss_cons (ps_expr (C8.pe_c c_check_worths hr (by decide) rfl (pa_cons (pv 2) (pa_cons (pe_callB call_len (by rfl) T.b_len (by decide +kernel) (pa_cons (pv 3) pa_nil)) pa_nil))))
    (pss_cons (ps_fld (pv 0) (pe_dcT (own := [("point", 4), ("worth", 5)]) (g := gTup K 2 (gCons (gName 4) (gCons (gName 5) gNil))) (hu_of hr) rfl sc_Chart_init.nd (pi_zip (by rfl) T.b_zip (pa_cons (pv 3) (pa_cons (pv 2) pa_nil))) (blkOk_by (own := [("point", 4), ("worth", 5)]) (N := ["self", "sizes", "worths", "points", "point", "worth"]) (sc := (defScope s_Chart_init)) (by decide +kernel)) (fun _ _ _ _ _ => (show PG _ _ (gTup K 2 (gCons (gName 4) (gCons (gName 5) gNil))) from pg_tup rfl (pgs_cons (pg_name (i := 4) sc_Chart_init.nd rfl (Or.inl rfl)) (pgs_cons (pg_name (i := 5) sc_Chart_init.nd rfl (Or.inl rfl)) pgs_nil)))) (fun _ _ _ _ _ => (pe_callTy (show CallR _ (.type "tuple") (rTupOf K) from call_tuple_of) (by rfl) T.b_tuple (by decide +kernel) (pa_cons (pv 4) pa_nil))) (fun _ _ _ _ _ => (pv 5))) rfl)
    (pss_one (ps_expr (C8.pe_c c_check_bends hr (by decide) rfl (pa_cons (pe_fld (pv 0) rfl) pa_nil)))))))), ?_⟩
    refine ⟨_, rfl, a, ss, rfl, ha, hz, ?_⟩
    refine ⟨_, rfl, a, ss, rfl, ha, hz, fun l as H1 s1 nl el hL => ?_⟩
    have b64 := (len_ptsB hz).2
    have hb1 := s1 _ _ hb
    have hc1 := s1 _ _ hc
    refine ⟨_, rfl, _, rfl, _, _, rfl, .inl ⟨_, .of el, rfl⟩, b, _, _, rfl, hb1, (by rw [List.length_map, hL.len64]), (fun u hu => (by obtain ⟨p, hp, rfl⟩ := List.mem_map.mp hu; exact hB p hp)), ?_⟩
    refine ⟨_, rfl, _, rfl, l, b, _, _, rfl, .of el, .of hb1, fun D hD => ?_⟩
    refine wk_it (walk_zip (K := K) (a := l) (b := b) (xs := as.map V.ref) (ys := ((ptsB ss).map W).map V.int) (n := (ptsB ss).length) (by rw [hL.len64, List.length_map, List.length_map, Nat.min_self])) (fun t H' => Same H1 H' ∧ H' D = some (.dT (tabK ((ptsB ss).take t) W))) ⟨Same.upd hD, upd_same⟩ (fun t H' _ p => ⟨.of (p.1 _ _ el), .of (p.1 _ _ hb1)⟩) ?_ ?_
    · rintro t v H2 H3 ht ⟨s2, eD⟩ ⟨Tt, u, v2, rfl, hT, rfl, hu, hv⟩
      obtain ⟨pa, pt, rfl, hpt, hpa, epa⟩ := hL.get hu
      obtain ⟨n2, e2, rfl⟩ := int_item hv
      rw [List.getElem?_map, hpt] at e2
      cases e2
      have sT : Same H2 (upd H2 Tt (.tup [V.ref pa, V.int (W pt)])) := Same.upd hT
      have eT : upd H2 Tt (.tup [V.ref pa, V.int (W pt)]) Tt = some (.tup [V.ref pa, V.int (W pt)]) := upd_same
      generalize upd H2 Tt (.tup [V.ref pa, V.int (W pt)]) = H4 at sT eT ⊢
      have s4 := s2.trans sT
      refine ⟨_, _, rfl, .of eT, rfl, _, _, rfl, _, _, rfl, rfl, rfl, ?_⟩
      refine ⟨_, rfl, pa, _, rfl, .inl ⟨.of (s4 _ _ epa), fun r hr' => ?_⟩⟩
      have rD : D ≠ r := fun e => by rw [← e, sT _ _ eD] at hr'; cases hr'
      refine ⟨_, rfl, _, kI pt, r, rfl, by rw [kI_kV]; exact upd_same, by rw [upd_ne rD]; exact sT _ _ eD, ?_, ?_, ?_⟩
      · unfold tabK
        rw [List.length_map, List.length_take]
        exact small1000 (by omega)
      · exact Same.updN (s4.trans (Same.upd hr')) hD
      · rw [upd_same, tab_snoc (nodup_ptsB ss) hpt]
    rintro H2 ⟨s2, eD⟩
    rw [List.take_length] at eD
    refine ⟨_, rfl, _, _, _, _, rfl, s2 _ _ hc1, CT.cl, CT.na _ fch_table, (by show 0 < 1000; decide), ?_⟩
    have b3 : But c H2 (upd H2 c (.ins (C "Chart") dx (putF "table" (.ref D) []))) := But.upd
    have e3 : upd H2 c (.ins (C "Chart") dx (putF "table" (.ref D) [])) c = some (.ins (C "Chart") dx (fChart D)) := upd_same
    have Dc : D ≠ c := fun e => by rw [e, s2 _ _ hc1] at eD; cases eD
    have eD3 := b3 _ _ Dc eD
    generalize upd H2 c (.ins (C "Chart") dx (putF "table" (.ref D) [])) = H3 at b3 e3 eD3 ⊢
    refine ⟨_, rfl, _, _, _, _, _, rfl, e3, CT.cl, CT.na _ fch_table, lk_Chart_table, D, ss, W, rfl, eD3, hz, hC, fun H4 s4 => ?_⟩
    refine k H4 (fun x o n e => s4 _ _ (b3 _ _ n (s2 _ _ (s1 _ _ e)))) ⟨dx, D, s4 _ _ e3, s4 _ _ eD3⟩

end
end Ev

/-! texts of parts and halls -/
namespace Ev
open PySem PySem.Spec PyProof.Rows L2 Ax
def rStrA : List V → Hp → VK → Prop := fun xs H Q => ∃ v, xs = [v] ∧ ((∃ i : Int, v = .int i ∧ i.natAbs.log2 < 1920 ∧ Q (.str (toString i)) H) ∨ ∃ a : Str, v = .str a ∧ Q (.str a) H)
theorem call_str_any {X : Cx} : CallR X (.type "str") rStrA := by
  intro pins s σ H vs us Q I r h
  obtain ⟨v, rfl, ⟨i, rfl, hl, q⟩ | ⟨a, rfl, q⟩⟩ := h
  · exact call_str_int pins s σ H _ us Q I r ⟨i, rfl, hl, q⟩
  · exact SkE.call_str_str pins s σ H _ us Q I r ⟨a, rfl, q⟩
theorem log_small {i : Int} (h0 : -(2 ^ 60) ≤ i) (h1 : i ≤ 2 ^ 60) : i.natAbs.log2 < 1920 := by
  by_cases z : i.natAbs = 0
  · rw [z]; decide
  · exact Nat.lt_of_lt_of_le ((Nat.log2_lt z).mpr (show i.natAbs < 2 ^ 61 by omega)) (by decide)
def iS (i : Int) : Str := toString i
theorem iS_len {i : Int} (h0 : -(2 ^ 60) ≤ i) (h1 : i ≤ 2 ^ 60) : (iS i).length ≤ 2000 := by
  have e := int_text_length_le (k := 1920) (by decide) (log_small h0 h1)
  show (Str.ofString (toString i)).length ≤ 2000
  rw [PySem.ofString_length]
  omega
/-- the words of a part that isn't wrapped -/
def wdV : PD → List V
  | .slope p w => [.str "slope", .int p, .int w]
  | .aim p a w => [.str "aim", .int p, .int a, .int w]
  | .square p a w => [.str "square", .int p, .int a, .int w]
  | .row p f ws => .str "row" :: .int p :: .int f :: ws.map V.int
  | .wall p lo hi => [.str "wall", .int p, .int lo, .int hi]
  | .near o t a w => [.str "near", .int o, .int t, .int a, .int w]
  | .gaps o t f ws => .str "gaps" :: .int o :: .int t :: .int f :: ws.map V.int
  | .ahead o t g => [.str "ahead", .int o, .int t, .int g]
  | .times _ _ => []
  | .moved _ _ => []
def strW : V → Str
  | .str s => s
  | .int i => iS i
  | _ => Str.empty
/-- a word: a short text or a small number -/
def WdOk (v : V) : Prop := (∃ s : Str, v = .str s ∧ s.length ≤ 2000 ∧ PyData.strOk s = true) ∨ ∃ i : Int, v = .int i ∧ -(2 ^ 60) ≤ i ∧ i ≤ 2 ^ 60
theorem WdOk.len {v : V} (h : WdOk v) : (strW v).length ≤ 2000 := by
  rcases h with ⟨s, rfl, h, _⟩ | ⟨i, rfl, h0, h1⟩
  · exact h
  · exact iS_len h0 h1
theorem wd_str {s : Str} (h : s.length ≤ 2000) (ho : PyData.strOk s = true := by decide +kernel) : WdOk (.str s) := .inl ⟨s, rfl, h, ho⟩
theorem wd_int {i : Int} (h0 : -(2 ^ 60) ≤ i) (h1 : i ≤ 2 ^ 60) : WdOk (.int i) := .inr ⟨i, rfl, h0, h1⟩
def txP : PD → Str
  | .times q m => (((Str.empty ++ "times ") ++ iS m) ++ " ") ++ txP q
  | .moved q b => (((Str.empty ++ "moved ") ++ iS b) ++ " ") ++ txP q
  | p => Txt.join " " ((wdV p).map strW)
def hdS (h : HD) : Str := (((((Str.empty ++ "places ") ++ iS h.many) ++ " from ") ++ iS h.lo) ++ " to ") ++ iS h.hi
def txH (h : HD) : Str := Txt.join "\n" (hdS h :: h.ps.map txP)
theorem rch_small {a : Int} (h : Rch a) : -(2 ^ 60) ≤ a ∧ a ≤ 2 ^ 60 := by obtain ⟨h0, h1⟩ := h; omega
theorem plc_small {a : Int} (h : Plc a) : -(2 ^ 60) ≤ a ∧ a ≤ 2 ^ 60 := by obtain ⟨h0, h1⟩ := h; omega
theorem ws_small {f : Int} {ws : List Int} (h : RowOk f ws) : ∀ v ∈ ws.map V.int, WdOk v := fun v hv => by
  obtain ⟨i, hi, rfl⟩ := List.mem_map.mp hv
  obtain ⟨h0, h1⟩ := h.wb i hi
  exact wd_int (by omega) (by omega)
theorem wd_ok : ∀ {p : PD}, p.ok → ∀ v ∈ wdV p, WdOk v
  | .slope p w, ⟨h1, h2, h3⟩, v, hv => by
    simp only [wdV, List.mem_cons, List.not_mem_nil, or_false] at hv
    rcases hv with rfl | rfl | rfl
    · exact wd_str (by decide)
    · exact wd_int (plc_small h1).1 (plc_small h1).2
    · exact wd_int (by omega) (by omega)
  | .aim p a w, ⟨h1, h2, h3, h4⟩, v, hv => by
    simp only [wdV, List.mem_cons, List.not_mem_nil, or_false] at hv
    rcases hv with rfl | rfl | rfl | rfl
    · exact wd_str (by decide)
    · exact wd_int (plc_small h1).1 (plc_small h1).2
    · exact wd_int (rch_small h2).1 (rch_small h2).2
    · exact wd_int (by omega) (by omega)
  | .square p a w, ⟨h1, h2, h3, h4⟩, v, hv => by
    simp only [wdV, List.mem_cons, List.not_mem_nil, or_false] at hv
    rcases hv with rfl | rfl | rfl | rfl
    · exact wd_str (by decide)
    · exact wd_int (plc_small h1).1 (plc_small h1).2
    · exact wd_int (rch_small h2).1 (rch_small h2).2
    · exact wd_int (by omega) (by omega)
  | .row p f ws, ⟨h1, h2⟩, v, hv => by
    simp only [wdV, List.mem_cons] at hv
    rcases hv with rfl | rfl | rfl | hv
    · exact wd_str (by decide)
    · exact wd_int (plc_small h1).1 (plc_small h1).2
    · exact wd_int (rch_small h2.f).1 (rch_small h2.f).2
    · exact ws_small h2 v hv
  | .wall p lo hi, ⟨h1, h2, h3, h4⟩, v, hv => by
    simp only [wdV, List.mem_cons, List.not_mem_nil, or_false] at hv
    rcases hv with rfl | rfl | rfl | rfl
    · exact wd_str (by decide)
    · exact wd_int (plc_small h1).1 (plc_small h1).2
    · exact wd_int (rch_small h2).1 (rch_small h2).2
    · exact wd_int (rch_small h3).1 (rch_small h3).2
  | .near o t a w, ⟨h1, h2, _, h3, h4, h5⟩, v, hv => by
    simp only [wdV, List.mem_cons, List.not_mem_nil, or_false] at hv
    rcases hv with rfl | rfl | rfl | rfl | rfl
    · exact wd_str (by decide)
    · exact wd_int (plc_small h1).1 (plc_small h1).2
    · exact wd_int (plc_small h2).1 (plc_small h2).2
    · exact wd_int (rch_small h3).1 (rch_small h3).2
    · exact wd_int (by omega) (by omega)
  | .gaps o t f ws, ⟨h1, h2, _, h3⟩, v, hv => by
    simp only [wdV, List.mem_cons] at hv
    rcases hv with rfl | rfl | rfl | rfl | hv
    · exact wd_str (by decide)
    · exact wd_int (plc_small h1).1 (plc_small h1).2
    · exact wd_int (plc_small h2).1 (plc_small h2).2
    · exact wd_int (rch_small h3.f).1 (rch_small h3.f).2
    · exact ws_small h3 v hv
  | .ahead o t g, ⟨h1, h2, _, h3⟩, v, hv => by
    simp only [wdV, List.mem_cons, List.not_mem_nil, or_false] at hv
    rcases hv with rfl | rfl | rfl | rfl
    · exact wd_str (by decide)
    · exact wd_int (plc_small h1).1 (plc_small h1).2
    · exact wd_int (plc_small h2).1 (plc_small h2).2
    · exact wd_int (rch_small h3).1 (rch_small h3).2
  | .times .., _, v, hv => by cases hv
  | .moved .., _, v, hv => by cases hv
theorem wd_len : ∀ {p : PD}, p.ok → (wdV p).length ≤ 44
  | .slope .., _ => by show (3 : Nat) ≤ 44; omega
  | .aim .., _ => by show (4 : Nat) ≤ 44; omega
  | .square .., _ => by show (4 : Nat) ≤ 44; omega
  | .row p f ws, h => by
    have := h.2.l2
    show (V.str "row" :: V.int p :: V.int f :: ws.map V.int).length ≤ 44
    simp only [List.length_cons, List.length_map]
    omega
  | .wall .., _ => by show (4 : Nat) ≤ 44; omega
  | .near .., _ => by show (5 : Nat) ≤ 44; omega
  | .gaps o t f ws, h => by
    have := h.2.2.2.l2
    show (V.str "gaps" :: V.int o :: V.int t :: V.int f :: ws.map V.int).length ≤ 44
    simp only [List.length_cons, List.length_map]
    omega
  | .ahead .., _ => by show (4 : Nat) ≤ 44; omega
  | .times .., _ => by show (0 : Nat) ≤ 44; omega
  | .moved .., _ => by show (0 : Nat) ≤ 44; omega
theorem tl_len : ∀ {l : List Str} {k : Nat}, (∀ s ∈ l, s.length ≤ k) → (l.map (·.length)).sum ≤ l.length * k
  | [], _, _ => by simp
  | s :: r, k, h => by
    rw [List.map_cons, List.sum_cons, List.length_cons, Nat.succ_mul]
    have h1 := h s List.mem_cons_self
    have h2 := tl_len fun z hz => h z (List.mem_cons_of_mem _ hz)
    omega
theorem join_len (a : Str) (l : List Str) : (Txt.join a l).length ≤ (l.map (·.length)).sum + l.length * a.length := by
  have e : Txt.join a l = Str.join a l := StrLaws.glued_eq_join a l
  rw [e]
  exact StrLaws.join_length_le a l
theorem txW_len {p : PD} (hp : p.ok) : (Txt.join " " ((wdV p).map strW)).length ≤ 100000 := by
  refine Nat.le_trans (join_len " " _) ?_
  have h1 := tl_len (l := (wdV p).map strW) (k := 2000) fun s hs => by
    obtain ⟨v, hv, rfl⟩ := List.mem_map.mp hs
    exact (wd_ok hp v hv).len
  have h2 := wd_len hp
  rw [List.length_map] at h1 ⊢
  have e : (" " : Str).length = 1 := by decide
  rw [e]
  omega
theorem txP_len : ∀ {p : PD}, p.ok → (txP p).length ≤ 100000 + p.wraps * 3000
  | .times q m, h => by
    have ih := txP_len h.1
    have hm := iS_len (i := m) (by have := h.2.2.1; omega) (by have := h.2.2.2; omega)
    show ((((Str.empty ++ ("times " : Str)) ++ iS m) ++ (" " : Str)) ++ txP q).length ≤ 100000 + (q.wraps + 1) * 3000
    simp only [Str.length_append]
    have e0 : Str.empty.length = 0 := by decide
    have e1 : ("times " : Str).length = 6 := by decide
    have e2 : (" " : Str).length = 1 := by decide
    omega
  | .moved q b, h => by
    have ih := txP_len h.1
    have hm := iS_len (i := b) (rch_small h.2.2).1 (rch_small h.2.2).2
    show ((((Str.empty ++ ("moved " : Str)) ++ iS b) ++ (" " : Str)) ++ txP q).length ≤ 100000 + (q.wraps + 1) * 3000
    simp only [Str.length_append]
    have e0 : Str.empty.length = 0 := by decide
    have e1 : ("moved " : Str).length = 6 := by decide
    have e2 : (" " : Str).length = 1 := by decide
    omega
  | .slope .., h => Nat.le_trans (txW_len h) (by omega)
  | .aim .., h => Nat.le_trans (txW_len h) (by omega)
  | .square .., h => Nat.le_trans (txW_len h) (by omega)
  | .row .., h => Nat.le_trans (txW_len h) (by omega)
  | .wall .., h => Nat.le_trans (txW_len h) (by omega)
  | .near .., h => Nat.le_trans (txW_len h) (by omega)
  | .gaps .., h => Nat.le_trans (txW_len h) (by omega)
  | .ahead .., h => Nat.le_trans (txW_len h) (by omega)
theorem ok_of (s : String) : PyData.strOk (Str.ofString s) = true := by
  unfold PyData.strOk
  rw [Str.ofString_eq_toList]
  show ((s.toList.map Char.toNat).toArray).all _ = true
  rw [List.all_toArray]
  refine List.all_eq_true.mpr fun c hc => ?_
  obtain ⟨ch, _, rfl⟩ := List.mem_map.mp hc
  refine decide_eq_true ?_
  have := ch.valid
  show ch.val.toNat < 1114112
  rcases this with h | ⟨_, h⟩
  · exact Nat.lt_trans h (by decide)
  · exact h
theorem ok_app {a b : Str} (ha : PyData.strOk a = true) (hb : PyData.strOk b = true) : PyData.strOk (a ++ b) = true := by
  unfold PyData.strOk at *
  show (a.cps ++ b.cps).all _ = true
  rw [Array.all_append, ha, hb]
  rfl
theorem ok_iS (i : Int) : PyData.strOk (iS i) = true := ok_of _
theorem ok_join {a : Str} (ha : PyData.strOk a = true) : ∀ {l : List Str}, (∀ s ∈ l, PyData.strOk s = true) → PyData.strOk (Txt.join a l) = true := fun {l} => by
  rw [show Txt.join a l = Str.join a l from StrLaws.glued_eq_join a l]
  induction l with
  | nil => intro _; show PyData.strOk Str.empty = true; decide +kernel
  | cons p r ih =>
    intro h
    cases r with
    | nil => exact h p List.mem_cons_self
    | cons q r =>
      show PyData.strOk (p ++ a ++ Str.join a (q :: r)) = true
      exact ok_app (ok_app (h p List.mem_cons_self) ha) (ih fun s hs => h s (List.mem_cons_of_mem _ hs))
theorem WdOk.ok {v : V} (h : WdOk v) : PyData.strOk (strW v) = true := by
  rcases h with ⟨s, rfl, _, h⟩ | ⟨i, rfl, _⟩
  · exact h
  · exact ok_iS i
theorem txW_ok {p : PD} (hp : p.ok) : PyData.strOk (Txt.join " " ((wdV p).map strW)) = true := ok_join (by decide +kernel) fun s hs => by
  obtain ⟨v, hv, rfl⟩ := List.mem_map.mp hs
  exact (wd_ok hp v hv).ok
theorem txP_ok : ∀ {p : PD}, p.ok → PyData.strOk (txP p) = true
  | .times q m, h => ok_app (ok_app (ok_app (ok_app (by decide +kernel) (by decide +kernel)) (ok_iS m)) (by decide +kernel)) (txP_ok h.1)
  | .moved q b, h => ok_app (ok_app (ok_app (ok_app (by decide +kernel) (by decide +kernel)) (ok_iS b)) (by decide +kernel)) (txP_ok h.1)
  | .slope .., h => txW_ok h
  | .aim .., h => txW_ok h
  | .square .., h => txW_ok h
  | .row .., h => txW_ok h
  | .wall .., h => txW_ok h
  | .near .., h => txW_ok h
  | .gaps .., h => txW_ok h
  | .ahead .., h => txW_ok h
theorem txH_ok {h : HD} (ok : h.ok) : PyData.strOk (txH h) = true := ok_join (by decide +kernel) fun s hs => by
  rcases List.mem_cons.mp hs with rfl | hs
  · exact ok_app (ok_app (ok_app (ok_app (ok_app (ok_app (by decide +kernel) (by decide +kernel)) (ok_iS _)) (by decide +kernel)) (ok_iS _)) (by decide +kernel)) (ok_iS _)
  · obtain ⟨p, hp, rfl⟩ := List.mem_map.mp hs
    exact txP_ok (ok.pk p hp)
end Ev

namespace Ev
open PySem L2 Ax
section
variable {P : Program} {w : World} {K : PySem.W.Frag} {mg : Str → Option Value} {base : Heap} {C : Str → Addr} {f : Addr} {fd : FuncData}

/-- an error class that is raised with a text -/
structure XcF (K : PySem.W.Frag) (mg : Str → Option Value) (nm : Str) (B : Addr) : Prop where
  g : mg nm = some (.ref B)
  x : PySem.W.excIn K B [.type "ValueError", .type "Exception", .type "BaseException", .type "object"] "ValueError.__new__" = true
  k : PySem.W.keepIn K (.ref B) = true
  b : PySem.W.subIn K (.ref B) (.type "BaseException") = some true
  t : PySem.W.typeIn K (.ref B) = some (.type "type")
theorem fnX {x : Str} {st : Stmt} {N ps : List Str} {k : Nat} {sp : Sp} (F : C8.Def K mg x st f fd) (S : FnScope N ps (C8.fnScope st)) (len : ∀ vs H Q E, sp vs H Q E → vs.length = ps.length)
    (hbody : ∀ (cdv : Value) (A : Around) (outer : List Env) (s : Shared) (H : Hp) (vs : List V) (Q : VK) (E : XK), Room k (A.deeper (PyProof.Rows.envOfC x (C8.fnScope st) s.heap.objs.size f cdv)) → sp vs H Q E →
      ∃ t, PSs (cxOf (L2.CX P w) P w K mg base N x (C8.fnScope st) f cdv A outer s H E) (C8.fnBody st) t ∧ t { nx := fun _ H' => Q .non H', rt := Q } (L2.start N vs) H) : FnOk P w K mg base (L2.CX P w) (k + 1) f fd ps sp := by
  obtain ⟨oc, od, dV, kV, doc, pm, an, cdv, ct, osl, e, lk, hcd⟩ := F.fn.ex
  subst e
  exact fn_of lk hcd S len fun A outer s H vs Q E hr hsp => hbody cdv A outer s H vs Q E hr hsp
def lenS (xs : List V) : Bool := decide (1 ≤ xs.length) && decide (xs.length ≤ 3) && xs.all (inR 1 4)
def spChkSX (BC : Addr) : Sp := fun vs H Q E => ∃ (a : Addr) (xs : List V), vs = [.ref a] ∧ H a = some (.lst xs) ∧ xs.length ≤ 1000 ∧ (∀ x ∈ xs, MixT H x) ∧ (lenS xs = true → Q .non H) ∧ (lenS xs = false → ∀ H', Same H H' → E (.ref BC) none H')
def spChkWX (BC : Addr) : Sp := fun vs H Q E => ∃ (x : V) (n : Nat), vs = [x, .int (n : Int)] ∧ n ≤ 1000 ∧ (x = .non ∨ (∃ a xs, x = .ref a ∧ H a = some (.tup xs)) ∨ ∃ a xs, x = .ref a ∧ H a = some (.lst xs) ∧ xs.length ≠ n) ∧ E (.ref BC) none H

theorem okX_check_sizes (T : Txt K mg C) {BC : Addr} (XC : XcF K mg "BadChart" BC) (c_is_number_from : C8.Cal P w K mg base 2 "is_number_from" spIsNumberFrom []) (F : C8.Def K mg "check_sizes" s_check_sizes f fd) : FnOk P w K mg base (L2.CX P w) 3 f fd ["sizes"] (spChkSX BC) := by
  refine fnX F sc_check_sizes (fun vs H Q E h => ?_) (fun cdv A outer s H vs Q E hr h => ?_)
  · obtain ⟨a, xs, rfl, ha, h1000, hm, k1, k2⟩ := h
    rfl
  · obtain ⟨a, xs, rfl, ha, h1000, hm, k1, k2⟩ := h
    refine ⟨_, (pss_cons (ps_if (pt_not (pt_val (pe_callB call_isi (by rfl) T.b_isinstance (by decide +kernel) (pa_cons (pv 0) (pa_cons (pe_bltn (v := .ty "list") (u := .type "list") (by rfl) T.b_list (by decide +kernel) rfl) pa_nil))))) (pss_one (ps_raise rfl (takes_of rfl rfl rfl rfl) (pmk_own PySem.F.excBase_ValueError XC.x XC.g XC.k (raises_own XC.b XC.t) rfl))) pss_nil)
    (pss_cons (ps_if (pt_not (pt_chain op_le op_le pe_int (pe_callB call_len (by rfl) T.b_len (by decide +kernel) (pa_cons (pv 0) pa_nil)) (C8.pe_gc rfl T.g_MOST_SIZES))) (pss_one (ps_raise rfl (takes_of rfl rfl rfl rfl) (SkE.pmk_own1 PySem.F.excBase_ValueError XC.x XC.g XC.k (raises_own XC.b XC.t) rfl (pe_joined (PJ.cons pe_str (PJ.cons (pe_fmt (C8.pe_gc rfl T.g_MOST_SIZES)) (PJ.cons pe_str PJ.nil))))))) pss_nil)
    (pss_one (ps_for (passes_of rfl) rfl (pi_list (pv 0)) (pg_name (i := 1) sc_check_sizes.nd rfl (Or.inl rfl)) (pss_one (ps_if (pt_not (pt_val (C8.pe_c c_is_number_from hr (by decide) rfl (pa_cons (pv 1) (pa_cons pe_int (pa_cons (C8.pe_gc rfl T.g_GREATEST_SIZE) pa_nil)))))) (pss_one (ps_raise rfl (takes_of rfl rfl rfl rfl) (SkE.pmk_own1 PySem.F.excBase_ValueError XC.x XC.g XC.k (raises_own XC.b XC.t) rfl (pe_joined (PJ.cons pe_str (PJ.cons (pe_fmt (C8.pe_gc rfl T.g_GREATEST_SIZE)) PJ.nil)))))) pss_nil)))))), ?_⟩
    refine ⟨_, rfl, _, _, _, _, true, rfl, .ty _, .base (.lst ha), kit_ty (by decide +kernel), _, rfl, iteF ?_⟩
    refine ⟨_, rfl, _, _, rfl, .inl ⟨_, .of ha, rfl⟩, _, _, rfl, rfl, _, rfl, ?_⟩
    by_cases l1 : 1 ≤ xs.length
    · rw [decide_eq_true (by omega)]
      refine iteT ⟨_, _, rfl, rfl, _, rfl, ?_⟩
      by_cases l3 : xs.length ≤ 3
      · rw [decide_eq_true (by omega)]
        refine iteF ?_
        have key : ∀ H', Same H H' → lenS xs = xs.all (inR 1 4) := fun _ _ => by unfold lenS; rw [decide_eq_true l1, decide_eq_true l3]; rfl
        refine ⟨_, rfl, a, rfl, ⟨_, .of ha⟩, for_list (K := K) (a := a) (xs := xs) (fun i σ H' => H' = H ∧ (xs.take i).all (inR 1 4) = true ∧ ∃ v1, σ = [some (.ref a), v1]) ⟨rfl, rfl, none, rfl⟩ (fun i σ H' _ ⟨e, _⟩ => by rw [e]; exact .of ha) ?_ ?_⟩
        · rintro i y σ H2 hi ⟨rfl, hA, v1, rfl⟩
          refine ⟨_, rfl, y, 1, 4, rfl, hm y (List.mem_of_getElem? hi), _, rfl, ?_⟩
          cases q : inR 1 4 y with
          | true =>
            refine iteF ⟨rfl, ?_, _, rfl⟩
            rw [List.take_add_one, hi, List.all_append, hA]
            simp [q]
          | false =>
            refine iteT ?_
            have z : lenS xs = false := by
              rw [key H2 (Same.refl _)]
              cases e : xs.all (inR 1 4) with
              | false => rfl
              | true => rw [List.all_eq_true.mp e y (List.mem_of_getElem? hi)] at q; cases q
            exact ⟨_, rfl, (by decide +kernel), .inr ⟨4, rfl, (by decide), _, rfl, (by decide +kernel), k2 z _ (Same.refl _)⟩⟩
        · rintro σ H2 ⟨rfl, hA, v1, rfl⟩
          rw [List.take_length] at hA
          exact k1 (by rw [key H2 (Same.refl _)]; exact hA)
      · rw [decide_eq_false (by omega)]
        refine iteT ?_
        have z : lenS xs = false := by unfold lenS; rw [decide_eq_false l3, Bool.and_false]; rfl
        exact ⟨_, rfl, (by decide +kernel), .inr ⟨3, rfl, (by decide), _, rfl, (by decide +kernel), _, rfl, (by decide +kernel), k2 z _ (Same.refl _)⟩⟩
    · rw [decide_eq_false (by omega)]
      refine iteF ⟨_, rfl, iteT ?_⟩
      have z : lenS xs = false := by unfold lenS; rw [decide_eq_false l1]; rfl
      exact ⟨_, rfl, (by decide +kernel), .inr ⟨3, rfl, (by decide), _, rfl, (by decide +kernel), _, rfl, (by decide +kernel), k2 z _ (Same.refl _)⟩⟩

theorem okX_check_worths (T : Txt K mg C) {BC : Addr} (XC : XcF K mg "BadChart" BC) (c_is_number_from : C8.Cal P w K mg base 2 "is_number_from" spIsNumberFrom []) (F : C8.Def K mg "check_worths" s_check_worths f fd) : FnOk P w K mg base (L2.CX P w) 3 f fd ["worths", "many"] (spChkWX BC) := by
  refine fnX F sc_check_worths (fun vs H Q E h => ?_) (fun cdv A outer s H vs Q E hr h => ?_)
  · obtain ⟨x, n, rfl, n1000, hx, k⟩ := h
    rfl
  · obtain ⟨x, n, rfl, n1000, hx, k⟩ := h
    refine ⟨_, (pss_cons (ps_if (pt_not (pt_val (pe_callB call_isi (by rfl) T.b_isinstance (by decide +kernel) (pa_cons (pv 0) (pa_cons (pe_bltn (v := .ty "list") (u := .type "list") (by rfl) T.b_list (by decide +kernel) rfl) pa_nil))))) (pss_one (ps_raise rfl (takes_of rfl rfl rfl rfl) (pmk_own PySem.F.excBase_ValueError XC.x XC.g XC.k (raises_own XC.b XC.t) rfl))) pss_nil)
    (pss_cons (ps_if (pt_cmpR op_ne (pe_callB call_len (by rfl) T.b_len (by decide +kernel) (pa_cons (pv 0) pa_nil)) (pv 1) (nomark _)) (pss_one (ps_raise rfl (takes_of rfl rfl rfl rfl) (SkE.pmk_own1 PySem.F.excBase_ValueError XC.x XC.g XC.k (raises_own XC.b XC.t) rfl (pe_joined (PJ.cons pe_str (PJ.cons (pe_fmt (pv 1)) (PJ.cons pe_str PJ.nil))))))) pss_nil)
    (pss_one (ps_for (passes_of rfl) rfl (pi_list (pv 0)) (pg_name (i := 2) sc_check_worths.nd rfl (Or.inl rfl)) (pss_one (ps_if (pt_not (pt_val (C8.pe_c c_is_number_from hr (by decide) rfl (pa_cons (pv 2) (pa_cons (pe_un un_neg (C8.pe_gc rfl T.g_WORTH)) (pa_cons (C8.pe_gc rfl T.g_WORTH) pa_nil)))))) (pss_one (ps_raise rfl (takes_of rfl rfl rfl rfl) (SkE.pmk_own1 PySem.F.excBase_ValueError XC.x XC.g XC.k (raises_own XC.b XC.t) rfl pe_str))) pss_nil)))))), ?_⟩
    rcases hx with rfl | ⟨a, xs, rfl, ha⟩ | ⟨a, xs, rfl, ha, hl⟩
    · refine ⟨_, rfl, _, _, _, _, false, rfl, .ty _, .base .non, kit_ty (by decide +kernel), _, rfl, iteT ?_⟩
      exact k
    · refine ⟨_, rfl, _, _, _, _, false, rfl, .ty _, .base (.tup ha), kit_ty (by decide +kernel), _, rfl, iteT ?_⟩
      exact k
    · refine ⟨_, rfl, _, _, _, _, true, rfl, .ty _, .base (.lst ha), kit_ty (by decide +kernel), _, rfl, iteF ?_⟩
      refine ⟨_, rfl, _, _, rfl, .inl ⟨_, .of ha, rfl⟩, _, rfl, rfl, _, rfl, ?_⟩
      rw [decide_eq_false (fun z => hl (by have := V.int.inj z; omega))]
      refine iteT ?_
      have ln : (iS (n : Int)).length ≤ 2000 := iS_len (by omega) (by omega)
      have l1 : (Str.empty ++ ("worths: not " : Str) ++ iS (n : Int)).length ≤ 2100 := by
        rw [strLen_append, strLen_append]
        have : (Str.empty : Str).length ≤ 0 := by decide +kernel
        have : (("worths: not " : Str)).length ≤ 50 := by decide +kernel
        omega
      refine ⟨_, rfl, (by decide +kernel), _, rfl, .inr ⟨(n : Int), rfl, log_small (by omega) (by omega), _, rfl, Nat.le_trans l1 (by decide), _, rfl, ?_, k⟩⟩
      have l2 : (Str.empty ++ ("worths: not " : Str) ++ iS (n : Int) ++ (" of them" : Str)).length ≤ 2200 := by
        rw [strLen_append]
        have : ((" of them" : Str)).length ≤ 50 := by decide +kernel
        omega
      exact Nat.le_trans l2 (by decide)

end
end Ev

namespace Ev
open PySem L2 Ax
section
variable {P : Program} {w : World} {K : PySem.W.Frag} {mg : Str → Option Value} {base : Heap} {C : Str → Addr} {f : Addr} {fd : FuncData}

theorem fnXF {x qual : Str} {st : Stmt} {N ps : List Str} {k : Nat} {sp : Sp} (F : C8.Fun K x qual st f fd) (S : FnScope N ps (C8.fnScope st)) (len : ∀ vs H Q E, sp vs H Q E → vs.length = ps.length)
    (hbody : ∀ (cdv : Value) (A : Around) (outer : List Env) (s : Shared) (H : Hp) (vs : List V) (Q : VK) (E : XK), fd.code = cdv → Room k (A.deeper (PyProof.Rows.envOfC qual (C8.fnScope st) s.heap.objs.size f cdv)) → sp vs H Q E →
      ∃ t, PSs (cxOf (L2.CX P w) P w K mg base N qual (C8.fnScope st) f cdv A outer s H E) (C8.fnBody st) t ∧ t { nx := fun _ H' => Q .non H', rt := Q } (L2.start N vs) H) : FnOk P w K mg base (L2.CX P w) (k + 1) f fd ps sp := by
  obtain ⟨oc, od, dV, kV, doc, pm, an, cdv, ct, osl, e, lk, hcd⟩ := F.ex
  subst e
  exact fn_of lk hcd S len fun A outer s H vs Q E hr hsp => hbody cdv A outer s H vs Q E rfl hr hsp
theorem metCd {m qual : Str} {CC c : Addr} {st : Stmt} {N ps : List Str} {k : Nat} {sp : Sp} (cl : Cls K CC) (me : Meth K CC m f) (F : C8.Fun K m qual st f fd) (hc : fd.code = .ref c) (b : Binds K fd ps []) (S : FnScope N ps (C8.fnScope st)) (len : ∀ vs H Q E, sp vs H Q E → vs.length = ps.length)
    (hbody : ∀ (A : Around) (outer : List Env) (s : Shared) (H : Hp) (vs : List V) (Q : VK) (E : XK), Room k (A.deeper (PyProof.Rows.envOfC qual (C8.fnScope st) s.heap.objs.size f (.ref c))) → sp vs H Q E →
      ∃ t, PSs (cxOf C8.CX0 P w K mg base N qual (C8.fnScope st) f (.ref c) A outer s H E).nox (C8.fnBody st) t ∧ t { nx := fun _ H' => Q .non H', rt := Q } (start N vs) H) : C8.Met P w K mg base (k + 1) CC m sp [] := by
  obtain ⟨oc, od, dV, kV, doc, pm, an, cdv, ct, osl, e, lk, hcd⟩ := F.ex
  subst e
  have ec : cdv = .ref c := hc
  subst ec
  refine ⟨f, _, ps, [], cl, me, fn_of lk hcd S len fun A outer s H vs Q E hr hsp => ?_, b, .nil⟩
  obtain ⟨t, h, q⟩ := hbody A outer s H vs Q E hr hsp
  exact ⟨t, h.nox, q⟩
def spIChartX (C : Str → Addr) (BC : Addr) : Sp := fun vs H Q E => ∃ (c dx a : Addr) (y : V) (xs : List V), vs = [.ref c, .ref a, y] ∧ H c = some (.ins (C "Chart") dx []) ∧ H a = some (.lst xs) ∧ xs.length ≤ 1000 ∧ (∀ x ∈ xs, MixT H x) ∧
  (lenS xs = false ∨ ∃ ss : List Int, xs = ss.map V.int ∧ SzOk ss ∧ (y = .non ∨ (∃ b ys, y = .ref b ∧ H b = some (.tup ys)) ∨ ∃ b ys, y = .ref b ∧ H b = some (.lst ys) ∧ ys.length ≠ (ptsB ss).length)) ∧ ∀ H', Same H H' → E (.ref BC) none H'
theorem lenS_ok {ss : List Int} (h : SzOk ss) : lenS (ss.map V.int) = true := by
  unfold lenS
  have l1 := h.1
  have l2 := h.2.1
  rw [List.length_map, decide_eq_true (show 1 ≤ ss.length from h.1), decide_eq_true h.2.1]
  refine List.all_eq_true.mpr fun x hx => ?_
  obtain ⟨u, hu, rfl⟩ := List.mem_map.mp hx
  have := h.2.2 u hu
  show (decide (1 ≤ u) && decide (u ≤ 4)) = true
  rw [decide_eq_true this.1, decide_eq_true this.2]
  rfl

theorem okX_Chart_init (T : Txt K mg C) (CT : ChT K C) {BC fs fw : Addr} {fds fdw : FuncData} (GS : C8.Def K mg "check_sizes" s_check_sizes fs fds ∧ FnOk P w K mg base (L2.CX P w) 3 fs fds ["sizes"] (spChkSX BC) ∧ Binds K fds ["sizes"] []) (c_points_below : C8.Cal P w K mg base 1 "points_below" spPtsBelow []) (GW : C8.Def K mg "check_worths" s_check_worths fw fdw ∧ FnOk P w K mg base (L2.CX P w) 3 fw fdw ["worths", "many"] (spChkWX BC) ∧ Binds K fdw ["worths", "many"] []) (c_check_bends : C8.Cal P w K mg base 2 "check_bends" spBends []) (F : C8.Fun K "__init__" "Chart.__init__" s_Chart_init f fd) : FnOk P w K mg base (L2.CX P w) 4 f fd ["self", "sizes", "worths"] (spIChartX C BC) := by
  refine fnXF F sc_Chart_init (fun vs H Q E h => ?_) (fun cdv A outer s H vs Q E hcd hr h => ?_)
  · obtain ⟨c, dx, a, y, xs, rfl, _⟩ := h
    rfl
  · obtain ⟨c, dx, a, y, xs, rfl, hc, ha, hl, hm, hbad, k⟩ := h
    refine ⟨_, (pss_cons (ps_expr (pe_callS GS.2.1 (hr.mono (by decide)) rfl GS.1.mgf GS.1.kp GS.2.2 (E := fun _ => E) (fun σ pins H s e s' I c => passes_call (takes_of rfl rfl rfl rfl) (fun cls d σ H h => h) pins σ H s e s' I c) (pa_cons (pv 1) pa_nil)))
    (pss_cons (ps_set (i := 3) sc_Chart_init.nd rfl (Or.inl rfl) (C8.pe_c c_points_below hr (by decide) rfl (pa_cons (pv 1) pa_nil)))
    (pss_cons (ps_expr (pe_callS GW.2.1 (hr.mono (by decide)) rfl GW.1.mgf GW.1.kp GW.2.2 (E := fun _ => E) (fun σ pins H s e s' I c => passes_call (takes_of rfl rfl rfl rfl) (fun cls d σ H h => h) pins σ H s e s' I c) (pa_cons (pv 2) (pa_cons (pe_callB call_len (by rfl) T.b_len (by decide +kernel) (pa_cons (pv 3) pa_nil)) pa_nil))))
    (pss_cons (ps_fld (pv 0) (pe_dcT (own := [("point", 4), ("worth", 5)]) (g := gTup K 2 (gCons (gName 4) (gCons (gName 5) gNil))) (hu_of hr) rfl sc_Chart_init.nd (pi_zip (by rfl) T.b_zip (pa_cons (pv 3) (pa_cons (pv 2) pa_nil))) (blkOk_by (own := [("point", 4), ("worth", 5)]) (N := ["self", "sizes", "worths", "points", "point", "worth"]) (sc := (defScope s_Chart_init)) (by decide +kernel)) (fun _ _ _ _ _ => (show PG _ _ (gTup K 2 (gCons (gName 4) (gCons (gName 5) gNil))) from pg_tup rfl (pgs_cons (pg_name (i := 4) sc_Chart_init.nd rfl (Or.inl rfl)) (pgs_cons (pg_name (i := 5) sc_Chart_init.nd rfl (Or.inl rfl)) pgs_nil)))) (fun _ _ _ _ _ => (pe_callTy (show CallR _ (.type "tuple") (rTupOf K) from call_tuple_of) (by rfl) T.b_tuple (by decide +kernel) (pa_cons (pv 4) pa_nil))) (fun _ _ _ _ _ => (pv 5))) rfl)
    (pss_one (ps_expr (C8.pe_c c_check_bends hr (by decide) rfl (pa_cons (pe_fld (pv 0) rfl) pa_nil)))))))), ?_⟩
    refine ⟨_, rfl, a, xs, rfl, ha, hl, hm, (fun z => ?_), (fun z H' s' => k H' s')⟩
    rcases hbad with hb | ⟨ss, rfl, hz, hy⟩
    · rw [hb] at z; cases z
    refine ⟨_, rfl, a, ss, rfl, ha, hz, fun l as H1 s1 nl el hL => ?_⟩
    have b64 := (len_ptsB hz).2
    refine ⟨_, rfl, _, rfl, _, _, rfl, .inl ⟨_, .of el, rfl⟩, y, _, rfl, (by rw [hL.len64]; omega), ?_, k H1 s1⟩
    rcases hy with h | ⟨b, ys, h, e⟩ | ⟨b, ys, h, e, n⟩
    · exact .inl h
    · exact .inr (.inl ⟨b, ys, h, s1 _ _ e⟩)
    · exact .inr (.inr ⟨b, ys, h, s1 _ _ e, by rw [hL.len64]; exact n⟩)

end
end Ev

namespace Ev
open PySem L2 Ax
section
variable {P : Program} {w : World} {K : PySem.W.Frag} {mg : Str → Option Value} {base : Heap} {C : Str → Addr} {f : Addr} {fd : FuncData}

theorem elt_num (T : Txt K mg C) (M : L2.Mod K mg base) {f1 : Addr} {fd1 : FuncData} (F1 : C8.Def K mg "is_number" s_is_number f1 fd1) (b1 : Binds K fd1 ["value"] [])
    {scope : Scope} (hn : scope.names.lookup ("number" : Str) = some .local) (hf : scope.names.lookup ("is_number" : Str) = some .globalImplicit) {p1 p2 p6 : Pos} :
    Gm.EltI P w base 1 scope "number" (.Call (.Name "is_number" p1) [.Name "number" p2] [] p6) isI := by
  intro L env m n u hs O hv hm
  refine Gm.qe_call M O (qf_is_number (P := P) (w := w) T M F1 b1 L n) (by rw [hs]; exact hf) (Gm.qa_cons (Gm.qe_loc O (by rw [hs]; exact hn) hm) Gm.qa_nil) (fun us h => ?_) (fun us v h hv => ?_)
  · obtain ⟨_, _, rfl, rfl, rfl⟩ := h
    exact ⟨rfl, _, rfl, hv⟩
  · exact hv
def spCWorth (C : Str → Addr) (tb : Addr) : Sp := fun vs H Q _ => ∃ (c p : Addr) (ss pt : List Int) (W : List Int → Int), vs = [.ref c, .ref p] ∧ ChAtB C H ss W c ∧ H p = some (.lst (pt.map V.int)) ∧ InB ss pt ∧ GxR.TabG H tb ∧ ∀ H', SmT H H' → Q (.int (W pt)) H'
def spCWorthX (C : Str → Addr) (BP tb : Addr) : Sp := fun vs H Q E => ∃ (c p : Addr) (ss : List Int) (W : List Int → Int), vs = [.ref c, .ref p] ∧ ChAtB C H ss W c ∧ GxR.TabG H tb ∧
  ((∃ ys, H p = some (.tup ys)) ∨ (∃ xs, H p = some (.lst xs) ∧ Gm.RefsL H xs ∧ xs.all isI = false) ∨ ∃ pt : List Int, H p = some (.lst (pt.map V.int)) ∧ pt.length ≤ 1000 ∧ ¬ InB ss pt) ∧ ∀ H', SmT H H' → E (.ref BP) none H'
theorem refs_ints {H : Hp} (pt : List Int) : Gm.RefsL H (pt.map V.int) := ⟨fun q hq => (by obtain ⟨u, _, e⟩ := List.mem_map.mp hq; cases e), fun x hx => (by obtain ⟨u, _, rfl⟩ := List.mem_map.mp hx; exact ⟨fun _ z => (nomatch z), fun _ z => (nomatch z), fun _ z => (nomatch z)⟩)⟩
theorem all_ints (pt : List Int) : (pt.map V.int).all isI = true := List.all_eq_true.mpr fun x hx => (by obtain ⟨u, _, rfl⟩ := List.mem_map.mp hx; rfl)

theorem ok_Chart_worth (T : Txt K mg C) (CT : ChT K C) {c0 tb : Addr} (TB : GxR.TabB base mg c0 tb) {f1 : Addr} {fd1 : FuncData} (F1 : C8.Def K mg "is_number" s_is_number f1 fd1) (b1 : Binds K fd1 ["value"] []) (me : Meth K (C "Chart") "worth" f) (F : C8.Fun K "worth" "Chart.worth" s_Chart_worth f fd) (hcd : fd.code = .ref c0) (b : Binds K fd ["self", "point"] []) : C8.Met P w K mg base 3 (C "Chart") "worth" (spCWorth C tb) [] := by
  refine metCd CT.cl me F hcd b sc_Chart_worth (fun vs H Q E h => ?_) (fun A outer s H vs Q E hr h => ?_)
  · obtain ⟨c, p, ss, pt, W, rfl, _⟩ := h
    rfl
  · obtain ⟨c, p, ss, pt, W, rfl, hc, hp, hi, tg, k⟩ := h
    refine ⟨_, (pss_cons (ps_if (PW.pt (pw_or (pt_not (pt_val (pe_callB call_isi (by rfl) T.b_isinstance (by decide +kernel) (pa_cons (pv 1) (pa_cons (pe_bltn (v := .ty "list") (u := .type "list") (by rfl) T.b_list (by decide +kernel) rfl) pa_nil))))) (pw_or1 (pt_not (pt_val (Gm.pe_allI hr (by rfl) T.b_all TB rfl ⟨by decide +kernel, by decide +kernel, by decide +kernel, by decide +kernel, by decide +kernel, fun y hy hfr => absurd hfr (by revert y; decide +kernel)⟩ (pv 1) (fun M => elt_num T M F1 b1 (by decide +kernel) (by decide +kernel)) (fun _ => rfl))))))) (pss_one ps_never) pss_nil)
    (pss_cons (ps_set (i := 2) sc_Chart_worth.nd rfl (Or.inl rfl) (pe_dget1 (hu_of hr) (pe_fld (pv 0) rfl) (pe_callTy call_tuple_of (by rfl) T.b_tuple (by decide +kernel) (pa_cons (pv 1) pa_nil)) ⟨rfl, rfl, rfl, rfl⟩))
    (pss_cons (ps_if (pt_cmp (pc_isN (pv 2))) (pss_one ps_never) pss_nil)
    (pss_one (ps_ret (pv 2)))))), ?_⟩
    refine ⟨_, rfl, _, _, _, _, true, rfl, .ty _, .base (.lst hp), kit_ty (by decide +kernel), _, rfl, iteF ?_⟩
    refine ⟨_, rfl, p, _, rfl, hp, refs_ints pt, tg, fun H2 t2 => ?_⟩
    have s2 : SmT H H2 := .tabbed tg t2
    rw [all_ints pt]
    refine ⟨_, rfl, iteF ?_⟩
    obtain ⟨dx, t, eo, et⟩ := (hc.smt s2).ex
    refine ⟨_, rfl, _, _, _, _, _, rfl, eo, CT.cl, CT.na _ fch_table, lk_Chart_table, t, rfl, .inr ⟨_, .inl et⟩, _, rfl, p, _, rfl, .inl ⟨.of (s2.lst hp), fun r hr' => ?_⟩⟩
    have s3 : Same H2 (upd H2 r (.tup (pt.map V.int))) := Same.upd hr'
    have dg := DGet.t (k := kI pt) (s3 _ _ et) (b := r) (by rw [kI_kV]; exact upd_same)
    rw [val_tab, if_pos (mem_ptsB.mpr hi)] at dg
    refine ⟨_, dg, _, rfl, _, rfl, iteF ?_⟩
    exact ⟨_, rfl, k _ (s2.trans (.of s3))⟩

theorem okX_Chart_worth (T : Txt K mg C) (CT : ChT K C) {c0 tb : Addr} (TB : GxR.TabB base mg c0 tb) {f1 : Addr} {fd1 : FuncData} (F1 : C8.Def K mg "is_number" s_is_number f1 fd1) (b1 : Binds K fd1 ["value"] []) {BP : Addr} (XP : XcF K mg "BadPoint" BP) (F : C8.Fun K "worth" "Chart.worth" s_Chart_worth f fd) (hcd : fd.code = .ref c0) : FnOk P w K mg base (L2.CX P w) 3 f fd ["self", "point"] (spCWorthX C BP tb) := by
  refine fnXF F sc_Chart_worth (fun vs H Q E h => ?_) (fun cdv A outer s H vs Q E hcd' hr h => ?_)
  · obtain ⟨c, p, ss, W, rfl, _⟩ := h
    rfl
  · rw [hcd] at hcd'
    subst hcd'
    obtain ⟨c, p, ss, W, rfl, hc, tg, hbad, k⟩ := h
    refine ⟨_, (pss_cons (ps_if (PW.pt (pw_or (pt_not (pt_val (pe_callB call_isi (by rfl) T.b_isinstance (by decide +kernel) (pa_cons (pv 1) (pa_cons (pe_bltn (v := .ty "list") (u := .type "list") (by rfl) T.b_list (by decide +kernel) rfl) pa_nil))))) (pw_or1 (pt_not (pt_val (Gm.pe_allI hr (by rfl) T.b_all TB rfl ⟨by decide +kernel, by decide +kernel, by decide +kernel, by decide +kernel, by decide +kernel, fun y hy hfr => absurd hfr (by revert y; decide +kernel)⟩ (pv 1) (fun M => elt_num T M F1 b1 (by decide +kernel) (by decide +kernel)) (fun _ => rfl))))))) (pss_one (ps_raise rfl (takes_of rfl rfl rfl rfl) (pmk_own PySem.F.excBase_ValueError XP.x XP.g XP.k (raises_own XP.b XP.t) rfl))) pss_nil)
    (pss_cons (ps_set (i := 2) sc_Chart_worth.nd rfl (Or.inl rfl) (pe_dget1 (hu_of hr) (pe_fld (pv 0) rfl) (pe_callTy call_tuple_of (by rfl) T.b_tuple (by decide +kernel) (pa_cons (pv 1) pa_nil)) ⟨rfl, rfl, rfl, rfl⟩))
    (pss_cons (ps_if (pt_cmp (pc_isN (pv 2))) (pss_one (ps_raise rfl (takes_of rfl rfl rfl rfl) (pmk_own PySem.F.excBase_ValueError XP.x XP.g XP.k (raises_own XP.b XP.t) rfl))) pss_nil)
    (pss_one (ps_ret (pv 2)))))), ?_⟩
    rcases hbad with ⟨ys, hp⟩ | ⟨xs, hp, hR, hA⟩ | ⟨pt, hp, hl, hi⟩
    · refine ⟨_, rfl, _, _, _, _, false, rfl, .ty _, .base (.tup hp), kit_ty (by decide +kernel), _, rfl, iteT (iteT ?_)⟩
      exact k _ (.refl _)
    · refine ⟨_, rfl, _, _, _, _, true, rfl, .ty _, .base (.lst hp), kit_ty (by decide +kernel), _, rfl, iteF ?_⟩
      refine ⟨_, rfl, p, _, rfl, hp, hR, tg, fun H2 t2 => ?_⟩
      have s2 : SmT H H2 := .tabbed tg t2
      rw [hA]
      refine ⟨_, rfl, iteT ?_⟩
      exact k _ s2
    · refine ⟨_, rfl, _, _, _, _, true, rfl, .ty _, .base (.lst hp), kit_ty (by decide +kernel), _, rfl, iteF ?_⟩
      refine ⟨_, rfl, p, _, rfl, hp, refs_ints pt, tg, fun H2 t2 => ?_⟩
      have s2 : SmT H H2 := .tabbed tg t2
      rw [all_ints pt]
      refine ⟨_, rfl, iteF ?_⟩
      obtain ⟨dx, t, eo, et⟩ := (hc.smt s2).ex
      refine ⟨_, rfl, _, _, _, _, _, rfl, eo, CT.cl, CT.na _ fch_table, lk_Chart_table, t, rfl, .inr ⟨_, .inl et⟩, _, rfl, p, _, rfl, .inl ⟨.of (s2.lst hp), fun r hr' => ?_⟩⟩
      have s3 : Same H2 (upd H2 r (.tup (pt.map V.int))) := Same.upd hr'
      have dg := DGet.t (k := kI pt) (s3 _ _ et) (b := r) (by rw [kI_kV]; exact upd_same)
      rw [val_tab, if_neg (fun z => hi (mem_ptsB.mp z))] at dg
      refine ⟨_, dg, _, rfl, _, rfl, iteT ?_⟩
      exact k _ (s2.trans (.of s3))

end
end Ev

namespace Ev
open PySem L2 Ax
section
variable {P : Program} {w : World} {K : PySem.W.Frag} {mg : Str → Option Value} {base : Heap} {C : Str → Addr} {f : Addr} {fd : FuncData}

theorem at_int {ws : List Int} {i : Nat} (h : i < ws.length) : atI (ws.map V.int) ((i : Nat) : Int) = some (V.int (ws.getD i 0)) := by
  refine atI_nat ?_
  rw [List.getElem?_map, List.getD_eq_getElem?_getD, List.getElem?_eq_getElem h]
  rfl

theorem dp_ints {K : PySem.W.Frag} {H : Hp} : ∀ ns : List Int, DpAll K H (ns.map V.int) (ns.map PyData.int)
  | [] => .nil
  | n :: r => .cons (.int n) (dp_ints r)
theorem eqv_ints : ∀ a b : List Int, PyData.eqv (.list (a.map PyData.int)) (.list (b.map PyData.int)) = decide (a = b)
  | [], [] => by simp [PyData.eqv, PyData.eqvAll]
  | [], y :: ys => by simp [PyData.eqv, PyData.eqvAll]
  | x :: xs, [] => by simp [PyData.eqv, PyData.eqvAll]
  | x :: xs, y :: ys => by
    have ih := eqv_ints xs ys
    simp only [PyData.eqv] at ih ⊢
    simp only [List.map_cons, PyData.eqvAll, ih, PyData.eqv]
    by_cases h : x = y
    · simp [h]
    · simp [h]
theorem shp_ints (ns : List Int) : SeqAt.shaped (.list (ns.map PyData.int)) = true := by
  unfold SeqAt.shaped
  have h1 : ∀ l : List Int, PyData.canLayAll0 (l.map PyData.int) = true := fun l => by
    induction l with
    | nil => simp [PyData.canLayAll0]
    | cons x r ih => simp [PyData.canLayAll0, PyData.canLay0, ih]
  have h2 : ∀ l : List Int, PyData.depth (.list (l.map PyData.int)) ≤ 64 := fun l => by
    exact SeqAt.depth_of_shaped (PySem.W.shaped_ints l)
  rw [PyData.canLay0, h1, Bool.true_and, decide_eq_true (h2 ns)]
def spCell (K : PySem.W.Frag) : Sp := fun vs H Q _ => ∃ (a : Addr) (ns : List Int) (k : Int), vs = [.ref a, .int k] ∧ SqL K H a (ns.map V.int) ∧ ns.length ≤ 63 ∧ 0 ≤ k ∧ k ≤ 1000 ∧ ∀ (c : Int) H', Same H H' → Q (.int c) H'

def cellV (ns : List Int) (k : Int) : Int := if k < (ns.length : Int) then ns.getD k.toNat 0 else if ns = [] then k * 48271 else (ns.getD (k % (ns.length : Int)).toNat 0 + k) * 48271 % 2147483647
def spCellV (K : PySem.W.Frag) : Sp := fun vs H Q _ => ∃ (a : Addr) (ns : List Int) (k : Int), vs = [.ref a, .int k] ∧ SqL K H a (ns.map V.int) ∧ ns.length ≤ 63 ∧ 0 ≤ k ∧ k ≤ 1000 ∧ ∀ H', Same H H' → Q (.int (cellV ns k)) H'

theorem ok_law_cell_at (T : Txt K mg C)  (F : C8.Def K mg "_law_cell_at" s_law_cell_at f fd) (b : Binds K fd ["_law_script", "_law_k"] []) : C8.Cal P w K mg base 1 "_law_cell_at" (spCellV K) [] := by
  refine C8.cal0 F b .nil sc_law_cell_at (fun vs H Q E h => ?_) (fun cdv A outer s H vs Q E hr h => ?_)
  · obtain ⟨a, ns, k', rfl, hS, hl, h1, h2, k⟩ := h
    rfl
  · obtain ⟨a, ns, k', rfl, hS, hl, h1, h2, k⟩ := h
    refine ⟨_, (pss_cons (ps_if (pt_cmpR op_lt (pv 1) (pe_callB call_len (by rfl) T.b_len (by decide +kernel) (pa_cons (pv 0) pa_nil)) (nomark _)) (pss_one (ps_ret (pe_ix ix_list (pv 0) (pv 1) (fun _ _ => rfl)))) pss_nil)
    (pss_cons (ps_if (pt_cmpR (op_eqD hr.units) (pv 0) (pe_lst pa_nil) (nomark _)) (pss_one (ps_ret (pe_op op_mul (pv 1) pe_int))) pss_nil)
    (pss_one (ps_ret (pe_op op_mod (pe_op op_mul (pe_op op_add (pe_ix ix_list (pv 0) (pe_op op_mod (pv 1) (pe_callB call_len (by rfl) T.b_len (by decide +kernel) (pa_cons (pv 0) pa_nil))) (fun _ _ => rfl)) (pv 1)) pe_int) pe_int))))), ?_⟩
    have e1 : ((ns.map V.int).length : Int) = (ns.length : Int) := by rw [List.length_map]
    refine ⟨_, rfl, _, rfl, _, _, rfl, .inl ⟨_, hS, rfl⟩, _, _, rfl, rfl, _, rfl, ?_⟩
    rw [e1]
    by_cases hk : k' < (ns.length : Int)
    · rw [decide_eq_true hk]
      have x0 := at_int (ws := ns) (i := k'.toNat) (by omega)
      refine iteT ⟨_, rfl, _, rfl, _, _, _, _, rfl, rfl, hS, (by rw [show k' = ((k'.toNat : Nat) : Int) by omega]; exact x0), ?_⟩
      have e : cellV ns k' = ns.getD k'.toNat 0 := by unfold cellV; rw [if_pos hk]
      have q := k _ (Same.refl _)
      rw [e] at q
      exact q
    · rw [decide_eq_false hk]
      refine iteF ?_
      refine ⟨_, rfl, Nat.zero_le _, fun l hl' => ⟨_, _, .lst ((Same.upd hl').seq hS) (dp_ints ns), .lst (.of upd_same) (dp_ints []), shp_ints ns, shp_ints [], _, rfl, ?_⟩⟩
      rw [eqv_ints]
      by_cases hn : ns = []
      · rw [decide_eq_true hn]
        refine iteT ⟨_, rfl, _, _, rfl, rfl, .inr ⟨by decide, by decide⟩, ?_⟩
        have e : cellV ns k' = k' * 48271 := by unfold cellV; rw [if_neg hk, if_pos hn]
        have q := k _ (Same.upd (o := .lst []) hl')
        rw [e] at q
        exact q
      · rw [decide_eq_false hn]
        have hp : 0 < ns.length := by
          cases ns with
          | nil => exact absurd rfl hn
          | cons => simp
        have hm1 : 0 ≤ k' % (ns.length : Int) := Int.emod_nonneg _ (by omega)
        have hm2 : k' % (ns.length : Int) < (ns.length : Int) := Int.emod_lt_of_pos _ (by omega)
        have x0 := at_int (ws := ns) (i := (k' % (ns.length : Int)).toNat) (by omega)
        have hS' := (Same.upd (o := .lst []) hl').seq hS
        refine iteF ⟨_, rfl, _, rfl, _, rfl, _, _, rfl, .inl ⟨_, hS', rfl⟩, _, _, rfl, rfl, (by show (0 : Int) < ((ns.map V.int).length : Int); rw [e1]; omega), _, _, _, _, rfl, rfl, hS', (by rw [e1, show k' % (ns.length : Int) = (((k' % (ns.length : Int)).toNat : Nat) : Int) by omega]; exact x0), _, rfl, _, _, rfl, rfl, _, _, rfl, rfl, .inr ⟨by decide, by decide⟩, _, _, rfl, rfl, (by show (0 : Int) < 2147483647; decide), ?_⟩
        have e : cellV ns k' = (ns.getD (k' % (ns.length : Int)).toNat 0 + k') * 48271 % 2147483647 := by unfold cellV; rw [if_neg hk, if_neg hn]
        have q := k _ (Same.upd (o := .lst []) hl')
        rw [e] at q
        exact q

/-- what is no number from 0 to below s -/
def BadV (H : Hp) (s : Int) (x : V) : Prop := (∃ n, x = .int n ∧ (n < 0 ∨ s ≤ n) ∧ -1000 ≤ n ∧ n ≤ 1000) ∨ x = .bl true ∨ x = .non ∨ x = .str "0" ∨ ∃ q, x = .ref q ∧ H q = some (.lst [.int 0])
def spBad : Sp := fun vs H Q _ => ∃ c s : Int, vs = [.int c, .int s] ∧ 1 ≤ s ∧ s ≤ 4 ∧ ∀ x H', Same H H' → BadV H' s x → Q x H'

theorem ok_law_bad (T : Txt K mg C)  (F : C8.Def K mg "_law_bad" s_law_bad f fd) (b : Binds K fd ["_law_cell", "_law_size"] []) : C8.Cal P w K mg base 1 "_law_bad" spBad [] := by
  refine C8.cal0 F b .nil sc_law_bad (fun vs H Q E h => ?_) (fun cdv A outer s H vs Q E hr h => ?_)
  · obtain ⟨c, s, rfl, h1, h4, k⟩ := h
    rfl
  · obtain ⟨c, s, rfl, h1, h4, k⟩ := h
    refine ⟨_, (pss_one (ps_ret (pe_ix ix_list (pe_lst (pa_cons (pv 1) (pa_cons (pe_op op_add (pe_op op_add (pv 1) pe_int) (pe_op op_mod (pe_op op_fdiv (pv 0) pe_int) pe_int)) (pa_cons (pe_op op_sub (pe_un un_neg pe_int) (pe_op op_mod (pe_op op_fdiv (pv 0) pe_int) pe_int)) (pa_cons pe_bl (pa_cons pe_non (pa_cons pe_str (pa_cons (pe_lst (pa_cons pe_int pa_nil)) pa_nil)))))))) (pe_op op_mod (pv 0) pe_int) (fun _ _ => rfl)))), ?_⟩
    have m0 : 0 ≤ c / 7 % 90 := Int.emod_nonneg _ (by decide)
    have m1 : c / 7 % 90 < 90 := Int.emod_lt_of_pos _ (by decide)
    refine ⟨_, rfl, _, rfl, _, _, rfl, rfl, _, rfl, _, _, rfl, rfl, ⟨by decide, by decide⟩, _, _, rfl, rfl, (by show (0 : Int) < 90; decide), _, _, rfl, rfl, _, rfl, _, rfl, _, _, rfl, rfl, ⟨by decide, by decide⟩, _, _, rfl, rfl, (by show (0 : Int) < 90; decide), _, _, rfl, rfl, (by show 1 ≤ sizeLine; decide), fun q hq => ⟨(by show 7 ≤ sizeLine; decide), fun l hl => ?_⟩⟩
    have s1 : Same H (upd H q (.lst [.int 0])) := Same.upd hq
    have eq : upd H q (.lst [.int 0]) q = some (.lst [.int 0]) := upd_same
    generalize upd H q (.lst [.int 0]) = H1 at s1 eq hl ⊢
    have s2 : Same H1 (upd H1 l (.lst [.int s, .int (s + 1 + c / 7 % 90), .int (-1 - c / 7 % 90), .bl true, .non, .str "0", .ref q])) := Same.upd hl
    refine ⟨_, rfl, _, _, rfl, rfl, (by show (0 : Int) < 7; decide), ?_⟩
    have e7 : c % 7 = 0 ∨ c % 7 = 1 ∨ c % 7 = 2 ∨ c % 7 = 3 ∨ c % 7 = 4 ∨ c % 7 = 5 ∨ c % 7 = 6 := by omega
    rcases e7 with e | e | e | e | e | e | e
    · exact ⟨_, _, _, _, rfl, rfl, .of upd_same, (by rw [e]; rfl), k _ _ (s1.trans s2) (.inl ⟨_, rfl, .inr (Int.le_refl _), by omega, by omega⟩)⟩
    · exact ⟨_, _, _, _, rfl, rfl, .of upd_same, (by rw [e]; rfl), k _ _ (s1.trans s2) (.inl ⟨_, rfl, .inr (by omega), by omega, by omega⟩)⟩
    · exact ⟨_, _, _, _, rfl, rfl, .of upd_same, (by rw [e]; rfl), k _ _ (s1.trans s2) (.inl ⟨_, rfl, .inl (by omega), by omega, by omega⟩)⟩
    · exact ⟨_, _, _, _, rfl, rfl, .of upd_same, (by rw [e]; rfl), k _ _ (s1.trans s2) (.inr (.inl rfl))⟩
    · exact ⟨_, _, _, _, rfl, rfl, .of upd_same, (by rw [e]; rfl), k _ _ (s1.trans s2) (.inr (.inr (.inl rfl)))⟩
    · exact ⟨_, _, _, _, rfl, rfl, .of upd_same, (by rw [e]; rfl), k _ _ (s1.trans s2) (.inr (.inr (.inr (.inl rfl))))⟩
    · exact ⟨_, _, _, _, rfl, rfl, .of upd_same, (by rw [e]; rfl), k _ _ (s1.trans s2) (.inr (.inr (.inr (.inr ⟨q, rfl, s2 _ _ eq⟩))))⟩

end
end Ev

namespace Ev
open PySem L2 Ax
section
variable {P : Program} {w : World} {K : PySem.W.Frag} {mg : Str → Option Value} {base : Heap} {C : Str → Addr} {f : Addr} {fd : FuncData}

def Spl (ss pt : List Int) (H : Hp) (r : Addr) : Prop := H r = some (.lst ((pt ++ [0]).map V.int)) ∨ H r = some (.lst (pt.dropLast.map V.int)) ∨ H r = some (.tup (pt.map V.int)) ∨
  ∃ (i : Nat) (s : Int) (x : V), i < pt.length ∧ ss[i]? = some s ∧ BadV H s x ∧ H r = some (.lst ((pt.take i).map V.int ++ [x] ++ (pt.drop (i + 1)).map V.int))
def spSpoilt : Sp := fun vs H Q _ => ∃ (p b : Addr) (ss pt : List Int) (c1 c2 : Int), vs = [.ref p, .ref b, .int c1, .int c2] ∧ H p = some (.lst (pt.map V.int)) ∧ H b = some (.lst (ss.map V.int)) ∧ InB ss pt ∧ SzOk ss ∧ ∀ r H', Same H H' → Spl ss pt H' r → Q (.ref r) H'
theorem cut_back (pt : List Int) (h : 0 < pt.length) : cutV (pt.map V.int) none (some (-1)) = pt.dropLast.map V.int := by
  have e : ∀ n : Nat, 0 < n → HT.sIx n n (some (-1)) = n - 1 := fun n h => by
    show (if (-1 : Int) < 0 then ((-1 : Int) + (n : Int)).toNat else min (-1 : Int).toNat n) = n - 1
    rw [if_pos (by decide)]
    omega
  unfold cutV
  rw [HT.sIx_none, List.drop_zero, List.dropLast_eq_take, List.map_take, e _ (by rw [List.length_map]; exact h), List.length_map, Nat.sub_zero]
theorem cut_to (xs : List V) (k : Nat) : cutV xs none (some (k : Int)) = xs.take k := by
  unfold cutV
  rw [HT.sIx_none, HT.sIx_nat, List.drop_zero, Nat.sub_zero]
  rcases Nat.le_total k xs.length with h | h
  · rw [Nat.min_eq_left h]
  · rw [Nat.min_eq_right h, List.take_of_length_le (Nat.le_refl _), List.take_of_length_le h]
theorem BadV.same {H H' : Hp} {s : Int} {x : V} (h : BadV H s x) (e : Same H H') : BadV H' s x := by
  rcases h with h | h | h | h | ⟨q, h, g⟩
  · exact .inl h
  · exact .inr (.inl h)
  · exact .inr (.inr (.inl h))
  · exact .inr (.inr (.inr (.inl h)))
  · exact .inr (.inr (.inr (.inr ⟨q, h, e _ _ g⟩)))

theorem ok_law_spoilt (T : Txt K mg C) (c_law_bad : C8.Cal P w K mg base 1 "_law_bad" spBad []) (F : C8.Def K mg "_law_spoilt" s_law_spoilt f fd) (b : Binds K fd ["_law_some", "_law_bounds", "_law_one", "_law_two"] []) : C8.Cal P w K mg base 2 "_law_spoilt" spSpoilt [] := by
  refine C8.cal0 F b .nil sc_law_spoilt (fun vs H Q E h => ?_) (fun cdv A outer s H vs Q E hr h => ?_)
  · obtain ⟨p, b, ss, pt, c1, c2, rfl, hp, hb, hi, hz, k⟩ := h
    rfl
  · obtain ⟨p, b, ss, pt, c1, c2, rfl, hp, hb, hi, hz, k⟩ := h
    refine ⟨_, (pss_cons (ps_set (i := 4) sc_law_spoilt.nd rfl (Or.inl rfl) (pe_op op_mod (pv 2) (pe_callB call_len (by rfl) T.b_len (by decide +kernel) (pa_cons (pv 0) pa_nil))))
    (pss_cons (ps_set (i := 5) sc_law_spoilt.nd rfl (Or.inl rfl) (pe_op op_mod (pe_op op_fdiv (pv 2) pe_int) pe_int))
    (pss_cons (ps_if (pt_cmpR op_eq (pv 5) pe_int (nomark _)) (pss_one (ps_ret (pe_op op_cat (pv 0) (pe_lst (pa_cons pe_int pa_nil))))) pss_nil)
    (pss_cons (ps_if (pt_cmpR op_eq (pv 5) pe_int (nomark _)) (pss_one (ps_ret (pe_slice sl_list (pv 0) po_none (po_some (pe_un un_neg pe_int))))) pss_nil)
    (pss_cons (ps_if (pt_cmpR op_eq (pv 5) pe_int (nomark _)) (pss_one (ps_ret (pe_callTy call_tuple_of (by rfl) T.b_tuple (by decide +kernel) (pa_cons (pv 0) pa_nil)))) pss_nil)
    (pss_one (ps_ret (pe_op op_cat (pe_op op_cat (pe_slice sl_list (pv 0) po_none (po_some (pv 4))) (pe_lst (pa_cons (C8.pe_c c_law_bad hr (by decide) rfl (pa_cons (pv 3) (pa_cons (pe_ix ix_list (pv 1) (pv 4) (fun _ _ => rfl)) pa_nil))) pa_nil))) (pe_slice sl_list (pv 0) (po_some (pe_op op_add (pv 4) pe_int)) po_none))))))))), ?_⟩
    have lp : pt.length = ss.length := hi.len
    have p0 : 0 < pt.length := by rw [lp]; exact hz.1
    have p3 : pt.length ≤ 3 := by rw [lp]; exact hz.2.1
    have e1 : ((pt.map V.int).length : Int) = (pt.length : Int) := by rw [List.length_map]
    refine ⟨_, rfl, _, rfl, _, _, rfl, .inl ⟨_, .of hp, rfl⟩, _, _, rfl, rfl, (by show (0 : Int) < ((pt.map V.int).length : Int); rw [e1]; omega), ?_⟩
    refine ⟨_, rfl, _, _, rfl, rfl, ⟨by decide, by decide⟩, _, _, rfl, rfl, (by show (0 : Int) < 8; decide), ?_⟩
    dsimp only
    rw [e1]
    have a0 : 0 ≤ c1 % (pt.length : Int) := Int.emod_nonneg _ (by omega)
    have a1 : c1 % (pt.length : Int) < (pt.length : Int) := Int.emod_lt_of_pos _ (by omega)
    generalize c1 % (pt.length : Int) = at0 at a0 a1 ⊢
    obtain ⟨i, rfl⟩ : ∃ i : Nat, at0 = (i : Int) := ⟨at0.toNat, by omega⟩
    have il : i < pt.length := by omega
    refine ⟨_, rfl, rfl, _, rfl, ite2 (fun _ => ?_) (fun _ => ?_)⟩
    · refine ⟨_, rfl, (by show 1 ≤ sizeLine; decide), fun c hc => ?_⟩
      have s1 : Same H (upd H c (.lst [.int 0])) := Same.upd hc
      refine ⟨p, c, _, _, rfl, rfl, s1 _ _ hp, upd_same, Nat.le_of_lt (small1000 (by rw [List.length_map, List.length_singleton]; omega)), fun r hr' => ?_⟩
      exact k r _ (s1.trans (Same.upd hr')) (.inl (by rw [upd_same, List.map_append]; rfl))
    refine ⟨_, rfl, rfl, _, rfl, ite2 (fun _ => ?_) (fun _ => ?_)⟩
    · refine ⟨_, rfl, _, rfl, _, rfl, _, _, rfl, .of hp, fun r hr' => ?_⟩
      rw [cut_back pt p0]
      exact k r _ (Same.upd hr') (.inr (.inl upd_same))
    refine ⟨_, rfl, rfl, _, rfl, ite2 (fun _ => ?_) (fun _ => ?_)⟩
    · refine ⟨_, rfl, p, _, rfl, .inl ⟨.of hp, fun r hr' => ?_⟩⟩
      exact k r _ (Same.upd hr') (.inr (.inr (.inl upd_same)))
    have hs : ss[i]? = some (ss.getD i 0) := by rw [List.getD_eq_getElem?_getD, List.getElem?_eq_getElem (by omega)]; rfl
    have sb := hz.2.2 _ (List.mem_of_getElem? hs)
    refine ⟨_, rfl, _, rfl, _, rfl, _, _, rfl, .of hp, fun l1 n1 => ?_⟩
    rw [cut_to, ← List.map_take]
    have s1 : Same H (upd H l1 (.lst ((pt.take i).map V.int))) := Same.upd n1
    have el1 : upd H l1 (.lst ((pt.take i).map V.int)) l1 = some (.lst ((pt.take i).map V.int)) := upd_same
    generalize upd H l1 (.lst ((pt.take i).map V.int)) = H1 at s1 el1 ⊢
    refine ⟨_, rfl, _, rfl, _, rfl, _, _, _, _, rfl, rfl, .of (s1 _ _ hb), at_int (by omega), c2, _, rfl, sb.1, sb.2, fun x H2 s2 hx => ⟨(by show 1 ≤ sizeLine; decide), fun l2 n2 => ?_⟩⟩
    have s3 : Same H2 (upd H2 l2 (.lst [x])) := Same.upd n2
    have el2 : upd H2 l2 (.lst [x]) l2 = some (.lst [x]) := upd_same
    generalize upd H2 l2 (.lst [x]) = H3 at s3 el2 ⊢
    refine ⟨l1, l2, _, _, rfl, rfl, s3 _ _ (s2 _ _ el1), el2, Nat.le_of_lt (small1000 (by rw [List.length_map, List.length_singleton, List.length_take]; omega)), fun l3 n3 => ?_⟩
    have s4 : Same H3 (upd H3 l3 (.lst ((pt.take i).map V.int ++ [x]))) := Same.upd n3
    have el3 : upd H3 l3 (.lst ((pt.take i).map V.int ++ [x])) l3 = some (.lst ((pt.take i).map V.int ++ [x])) := upd_same
    generalize upd H3 l3 (.lst ((pt.take i).map V.int ++ [x])) = H4 at s4 el3 ⊢
    have s04 := s1.trans (s2.trans (s3.trans s4))
    have ei : ((i : Nat) : Int) + 1 = ((i + 1 : Nat) : Int) := by omega
    refine ⟨_, rfl, _, rfl, _, _, rfl, rfl, _, rfl, p, _, rfl, .of (s04 _ _ hp), fun l4 n4 => ?_⟩
    rw [ei, cut_from, ← List.map_drop]
    have s5 : Same H4 (upd H4 l4 (.lst ((pt.drop (i + 1)).map V.int))) := Same.upd n4
    refine ⟨l3, l4, _, _, rfl, rfl, s5 _ _ el3, upd_same, Nat.le_of_lt (small1000 (by rw [List.length_append, List.length_map, List.length_map, List.length_singleton, List.length_take, List.length_drop]; omega)), fun r hr' => ?_⟩
    have s6 : Same (upd H4 l4 (.lst ((pt.drop (i + 1)).map V.int))) (upd (upd H4 l4 (.lst ((pt.drop (i + 1)).map V.int))) r (.lst ((pt.take i).map V.int ++ [x] ++ (pt.drop (i + 1)).map V.int))) := Same.upd hr'
    exact k r _ (s04.trans (s5.trans s6)) (.inr (.inr (.inr ⟨i, _, x, il, hs, hx.same (s3.trans (s4.trans (s5.trans s6))), upd_same⟩)))

end
end Ev

namespace Ev
open PySem L2 Ax
section
variable {P : Program} {w : World} {K : PySem.W.Frag} {mg : Str → Option Value} {base : Heap} {C : Str → Addr} {f : Addr} {fd : FuncData}

def spBadS : Sp := fun vs H Q _ => ∃ (a : Addr) (ss : List Int) (c : Int), vs = [.ref a, .int c] ∧ H a = some (.lst (ss.map V.int)) ∧ SzOk ss ∧ ∀ r xs H', Same H H' → H' r = some (.lst xs) → xs.length ≤ 1000 → (∀ x ∈ xs, MixT H' x) → lenS xs = false → Q (.ref r) H'
theorem rep_one {x : V} : ∀ k : Nat, (List.replicate k [x]).flatten = List.replicate k x
  | 0 => rfl
  | k + 1 => by rw [List.replicate_succ, List.replicate_succ, List.flatten_cons, rep_one k]; rfl
theorem lenS_long {xs : List V} (h : 3 < xs.length) : lenS xs = false := by
  unfold lenS
  rw [decide_eq_false (show ¬ xs.length ≤ 3 by omega), Bool.and_false]
  rfl
theorem lenS_bad {xs : List V} {x : V} (hx : x ∈ xs) (h : inR 1 4 x = false) : lenS xs = false := by
  unfold lenS
  have e : xs.all (inR 1 4) = false := by
    cases z : xs.all (inR 1 4) with
    | false => rfl
    | true => rw [List.all_eq_true.mp z x hx] at h; cases h
  rw [e, Bool.and_false]
theorem MixT.same {H H' : Hp} {x : V} (h : MixT H x) (s : Same H H') : MixT H' x := h.smt (.of s)
theorem inR_out {n : Int} (h : n < 1 ∨ 4 < n) : inR 1 4 (.int n) = false := by
  show (decide (1 ≤ n) && decide (n ≤ 4)) = false
  rcases h with h | h
  · rw [decide_eq_false (show ¬ 1 ≤ n by omega)]; rfl
  · rw [decide_eq_false (show ¬ n ≤ 4 by omega), Bool.and_false]

theorem ok_law_bad_sizes (T : Txt K mg C)  (F : C8.Def K mg "_law_bad_sizes" s_law_bad_sizes f fd) (b : Binds K fd ["_law_sizes", "_law_cell"] []) : C8.Cal P w K mg base 1 "_law_bad_sizes" spBadS [] := by
  refine C8.cal0 F b .nil sc_law_bad_sizes (fun vs H Q E h => ?_) (fun cdv A outer s H vs Q E hr h => ?_)
  · obtain ⟨a, ss, c, rfl, ha, hz, k⟩ := h
    rfl
  · obtain ⟨a, ss, c, rfl, ha, hz, k⟩ := h
    refine ⟨_, (pss_cons (ps_set (i := 2) sc_law_bad_sizes.nd rfl (Or.inl rfl) (pe_op op_mod (pv 1) (pe_callB call_len (by rfl) T.b_len (by decide +kernel) (pa_cons (pv 0) pa_nil))))
    (pss_cons (ps_if (pt_cmpR op_eq (pe_op op_mod (pe_op op_fdiv (pv 1) pe_int) pe_int) pe_int (nomark _)) (pss_one (ps_ret (pe_op op_cat (pv 0) (pe_op op_rep (pe_lst (pa_cons pe_int pa_nil)) (pe_op op_add (pe_op op_sub pe_int (pe_callB call_len (by rfl) T.b_len (by decide +kernel) (pa_cons (pv 0) pa_nil))) (pe_op op_mod (pe_op op_fdiv (pv 1) pe_int) pe_int)))))) pss_nil)
    (C8.pss_cut (ps_set (i := 3) sc_law_bad_sizes.nd rfl (Or.inl rfl) (pe_ix ix_list (pe_lst (pa_cons pe_int (pa_cons (pe_op op_add pe_int (pe_op op_mod (pe_op op_fdiv (pv 1) pe_int) pe_int)) (pa_cons (pe_op op_sub (pe_un un_neg pe_int) (pe_op op_mod (pe_op op_fdiv (pv 1) pe_int) pe_int)) (pa_cons pe_bl (pa_cons pe_non (pa_cons pe_str (pa_cons (pe_lst (pa_cons pe_int pa_nil)) pa_nil)))))))) (pe_op op_mod (pe_op op_fdiv (pv 1) pe_int) pe_int) (fun _ _ => rfl))) (pss_one (ps_ret (pe_op op_cat (pe_op op_cat (pe_slice sl_list (pv 0) po_none (po_some (pv 2))) (pe_lst (pa_cons (pv 3) pa_nil))) (pe_slice sl_list (pv 0) (po_some (pe_op op_add (pv 2) pe_int)) po_none))))))), ?_⟩
    have p0 := hz.1
    have p3 := hz.2.1
    have e1 : ((ss.map V.int).length : Int) = (ss.length : Int) := by rw [List.length_map]
    refine ⟨_, rfl, _, rfl, _, _, rfl, .inl ⟨_, .of ha, rfl⟩, _, _, rfl, rfl, (by show (0 : Int) < ((ss.map V.int).length : Int); rw [e1]; omega), ?_⟩
    dsimp only
    rw [e1]
    have a0 : 0 ≤ c % (ss.length : Int) := Int.emod_nonneg _ (by omega)
    have a1 : c % (ss.length : Int) < (ss.length : Int) := Int.emod_lt_of_pos _ (by omega)
    generalize c % (ss.length : Int) = at0 at a0 a1 ⊢
    obtain ⟨i, rfl⟩ : ∃ i : Nat, at0 = (i : Int) := ⟨at0.toNat, by omega⟩
    have il : i < ss.length := by omega
    refine ⟨_, rfl, _, _, rfl, rfl, ⟨by decide, by decide⟩, _, _, rfl, rfl, (by show (0 : Int) < 4; decide), rfl, _, rfl, ite2 (fun _ => ?_) (fun _ => ?_)⟩
    · have b0 : 0 ≤ c / 16 % 2 := Int.emod_nonneg _ (by decide)
      have b1 : c / 16 % 2 < 2 := Int.emod_lt_of_pos _ (by decide)
      refine ⟨_, rfl, (by show 1 ≤ sizeLine; decide), fun q hq => ?_⟩
      have s1 : Same H (upd H q (.lst [.int 1])) := Same.upd hq
      have eq : upd H q (.lst [.int 1]) q = some (.lst [.int 1]) := upd_same
      generalize upd H q (.lst [.int 1]) = H1 at s1 eq ⊢
      refine ⟨_, rfl, _, _, rfl, .inl ⟨_, .of (s1 _ _ ha), rfl⟩, _, _, rfl, rfl, _, rfl, _, _, rfl, rfl, ⟨by decide, by decide⟩, _, _, rfl, rfl, (by show (0 : Int) < 2; decide), _, _, rfl, rfl, _, _, _, rfl, rfl, eq, ?_, ?_, ?_, fun r hr' => ?_⟩
      · omega
      · omega
      · exact Nat.le_of_lt (small1000 (by rw [List.length_singleton]; omega))
      rw [rep_one]
      obtain ⟨m, hm⟩ : ∃ m : Nat, (4 - ((ss.map V.int).length : Int) + c / 16 % 2).toNat = m := ⟨_, rfl⟩
      rw [hm]
      have m1 : 4 ≤ ss.length + m ∧ m ≤ 10 := by omega
      have s2 : Same H1 (upd H1 r (.lst (List.replicate m (V.int 1)))) := Same.upd hr'
      refine ⟨a, r, _, _, rfl, rfl, s2 _ _ (s1 _ _ ha), upd_same, Nat.le_of_lt (small1000 (by rw [List.length_map, List.length_replicate]; omega)), fun r2 hr2 => ?_⟩
      refine k r2 _ _ (s1.trans (s2.trans (Same.upd hr2))) upd_same (by rw [List.length_append, List.length_map, List.length_replicate]; omega) (fun x hx => ?_) (lenS_long (by rw [List.length_append, List.length_map, List.length_replicate]; omega))
      rcases List.mem_append.mp hx with hx | hx
      · obtain ⟨u, _, rfl⟩ := List.mem_map.mp hx
        exact MixT.int
      · rw [List.eq_of_mem_replicate hx]
        exact MixT.int
    refine ⟨fun σ H' => ∃ x, σ = [some (.ref a), some (.int c), some (.int (i : Int)), some x] ∧ Same H H' ∧ MixT H' x ∧ inR 1 4 x = false, ?_, ?_⟩
    · have m0 : 0 ≤ c / 64 % 90 := Int.emod_nonneg _ (by decide)
      have n0 : 0 ≤ c / 64 % 9 := Int.emod_nonneg _ (by decide)
      refine ⟨_, rfl, _, _, rfl, rfl, ⟨by decide, by decide⟩, _, _, rfl, rfl, (by show (0 : Int) < 90; decide), _, _, rfl, rfl, _, rfl, _, rfl, _, _, rfl, rfl, ⟨by decide, by decide⟩, _, _, rfl, rfl, (by show (0 : Int) < 9; decide), _, _, rfl, rfl, (by show 1 ≤ sizeLine; decide), fun q hq => ⟨(by show 7 ≤ sizeLine; decide), fun l hl => ?_⟩⟩
      have s1 : Same H (upd H q (.lst [.int 2])) := Same.upd hq
      have eq : upd H q (.lst [.int 2]) q = some (.lst [.int 2]) := upd_same
      generalize upd H q (.lst [.int 2]) = H1 at s1 eq hl ⊢
      have s2 : Same H1 (upd H1 l (.lst [.int 0, .int (5 + c / 64 % 90), .int (-1 - c / 64 % 9), .bl true, .non, .str "2", .ref q])) := Same.upd hl
      have el : upd H1 l (.lst [.int 0, .int (5 + c / 64 % 90), .int (-1 - c / 64 % 9), .bl true, .non, .str "2", .ref q]) l = some (.lst [.int 0, .int (5 + c / 64 % 90), .int (-1 - c / 64 % 9), .bl true, .non, .str "2", .ref q]) := upd_same
      have eq2 := s2 _ _ eq
      generalize upd H1 l (.lst [.int 0, .int (5 + c / 64 % 90), .int (-1 - c / 64 % 9), .bl true, .non, .str "2", .ref q]) = H2 at s2 el eq2 ⊢
      have s12 := s1.trans s2
      have e7 : c / 16 % 7 = 0 ∨ c / 16 % 7 = 1 ∨ c / 16 % 7 = 2 ∨ c / 16 % 7 = 3 ∨ c / 16 % 7 = 4 ∨ c / 16 % 7 = 5 ∨ c / 16 % 7 = 6 := by omega
      refine ⟨_, rfl, _, _, rfl, rfl, ⟨by decide, by decide⟩, _, _, rfl, rfl, (by show (0 : Int) < 7; decide), ?_⟩
      rcases e7 with e | e | e | e | e | e | e
      · exact ⟨_, _, _, _, rfl, rfl, .of el, (by rw [e]; rfl), _, rfl, s12, MixT.int, inR_out (by omega)⟩
      · exact ⟨_, _, _, _, rfl, rfl, .of el, (by rw [e]; rfl), _, rfl, s12, MixT.int, inR_out (by omega)⟩
      · exact ⟨_, _, _, _, rfl, rfl, .of el, (by rw [e]; rfl), _, rfl, s12, MixT.int, inR_out (by omega)⟩
      · exact ⟨_, _, _, _, rfl, rfl, .of el, (by rw [e]; rfl), _, rfl, s12, .inr (.inl ⟨_, rfl⟩), rfl⟩
      · exact ⟨_, _, _, _, rfl, rfl, .of el, (by rw [e]; rfl), _, rfl, s12, .inl rfl, rfl⟩
      · exact ⟨_, _, _, _, rfl, rfl, .of el, (by rw [e]; rfl), _, rfl, s12, .inr (.inr (.inr (.inl ⟨_, rfl⟩))), rfl⟩
      · exact ⟨_, _, _, _, rfl, rfl, .of el, (by rw [e]; rfl), _, rfl, s12, .inr (.inr (.inr (.inr ⟨q, _, rfl, eq2⟩))), rfl⟩
    · rintro σ H2 ⟨x, rfl, s2, hx, hbad⟩
      refine ⟨_, rfl, _, rfl, _, rfl, _, _, rfl, .of (s2 _ _ ha), fun l1 n1 => ?_⟩
      have ec : cutV (ss.map V.int) none (some ((i : Nat) : Int)) = (ss.take i).map V.int := by rw [cut_to, List.map_take]
      rw [ec]
      have s3 : Same H2 (upd H2 l1 (.lst ((ss.take i).map V.int))) := Same.upd n1
      have el1 : upd H2 l1 (.lst ((ss.take i).map V.int)) l1 = some (.lst ((ss.take i).map V.int)) := upd_same
      generalize upd H2 l1 (.lst ((ss.take i).map V.int)) = H3 at s3 el1 ⊢
      refine ⟨_, rfl, (by show 1 ≤ sizeLine; decide), fun l2 n2 => ?_⟩
      have s4 : Same H3 (upd H3 l2 (.lst [x])) := Same.upd n2
      have el2 : upd H3 l2 (.lst [x]) l2 = some (.lst [x]) := upd_same
      generalize upd H3 l2 (.lst [x]) = H4 at s4 el2 ⊢
      refine ⟨l1, l2, _, _, rfl, rfl, s4 _ _ el1, el2, Nat.le_of_lt (small1000 (by rw [List.length_map, List.length_singleton, List.length_take]; omega)), fun l3 n3 => ?_⟩
      have s5 : Same H4 (upd H4 l3 (.lst ((ss.take i).map V.int ++ [x]))) := Same.upd n3
      have el3 : upd H4 l3 (.lst ((ss.take i).map V.int ++ [x])) l3 = some (.lst ((ss.take i).map V.int ++ [x])) := upd_same
      generalize upd H4 l3 (.lst ((ss.take i).map V.int ++ [x])) = H5 at s5 el3 ⊢
      have s05 := s2.trans (s3.trans (s4.trans s5))
      have ei : ((i : Nat) : Int) + 1 = ((i + 1 : Nat) : Int) := by omega
      refine ⟨_, rfl, _, rfl, _, _, rfl, rfl, _, rfl, a, _, rfl, .of (s05 _ _ ha), fun l4 n4 => ?_⟩
      rw [ei, cut_from, ← List.map_drop]
      have s6 : Same H5 (upd H5 l4 (.lst ((ss.drop (i + 1)).map V.int))) := Same.upd n4
      refine ⟨l3, l4, _, _, rfl, rfl, s6 _ _ el3, upd_same, Nat.le_of_lt (small1000 (by rw [List.length_append, List.length_map, List.length_map, List.length_singleton, List.length_take, List.length_drop]; omega)), fun r hr' => ?_⟩
      have s7 : Same (upd H5 l4 (.lst ((ss.drop (i + 1)).map V.int))) (upd (upd H5 l4 (.lst ((ss.drop (i + 1)).map V.int))) r (.lst ((ss.take i).map V.int ++ [x] ++ (ss.drop (i + 1)).map V.int))) := Same.upd hr'
      refine k r _ _ (s05.trans (s6.trans s7)) upd_same (by rw [List.length_append, List.length_append, List.length_map, List.length_map, List.length_singleton, List.length_take, List.length_drop]; omega) (fun y hy => ?_) (lenS_bad (x := x) (by simp) hbad)
      rcases List.mem_append.mp hy with hy | hy
      · rcases List.mem_append.mp hy with hy | hy
        · obtain ⟨u, _, rfl⟩ := List.mem_map.mp hy
          exact MixT.int
        · rw [List.mem_singleton.mp hy]
          exact hx.same (s3.trans (s4.trans (s5.trans (s6.trans s7))))
      · obtain ⟨u, _, rfl⟩ := List.mem_map.mp hy
        exact MixT.int

end
end Ev

/-! edges first, then part by part -/
namespace Ev
open PySem L2 Ax
def out1 (lo hi : Int) (x : List Int) (way : Int) (i : Nat) : Bool := !(decide (lo ≤ x.getD i 0 + way) && decide (x.getD i 0 + way ≤ hi))
def edgN (lo hi : Int) (x : List Int) (way : Int) (n : Nat) : Nat → Nat → Nat
  | 0 => fun _ => 0
  | k + 1 => if out1 lo hi x way k then addN (edgN lo hi x way n k) k n else edgN lo hi x way n k
theorem edgN_ge {lo hi : Int} {x : List Int} {way : Int} {n : Nat} : ∀ k i, k ≤ i → edgN lo hi x way n k i = 0
  | 0, _, _ => rfl
  | k + 1, i, h => by
    unfold edgN
    split
    · unfold addN
      rw [if_neg (by omega)]
      exact edgN_ge k i (by omega)
    · exact edgN_ge k i (by omega)
theorem free_edgN {lo hi : Int} {x : List Int} {way : Int} {n : Nat} {S : Nat → Bool} (hS : S n = false) : ∀ k, k ≤ n → (freeS n (edgN lo hi x way n k) S ↔ ∀ i, i < k → S i = true → out1 lo hi x way i = false)
  | 0, _ => ⟨fun _ i hi => by omega, fun _ i hi _ j hj => by simp [edgN] at hj⟩
  | k + 1, h => by
    unfold edgN
    cases q : out1 lo hi x way k with
    | true =>
      rw [if_pos rfl, free_addN (by omega), free_edgN hS k (by omega)]
      constructor
      · rintro ⟨h1, h2⟩ i hi hs
        by_cases e : i = k
        · subst e; exact absurd ⟨hs, hS⟩ h2
        · exact h1 i (by omega) hs
      · intro z
        refine ⟨fun i hi => z i (by omega), fun ⟨a, _⟩ => ?_⟩
        rw [z k (by omega) a] at q
        cases q
    | false =>
      rw [if_neg (by simp), free_edgN hS k (by omega)]
      constructor
      · intro z i hi hs
        by_cases e : i = k
        · rw [e]; exact q
        · exact z i (by omega) hs
      · exact fun z i hi => z i (by omega)
theorem inside_mvd {lo hi : Int} {x : List Int} {way : Int} {S : Nat → Bool} (hx : Inside lo hi x) : Inside lo hi (mvd x S way) ↔ ∀ i, i < x.length → S i = true → out1 lo hi x way i = false := by
  constructor
  · intro h i hi hs
    have z := h _ (getD_mem (x := mvd x S way) (i := i) (by rw [mvd_len]; exact hi))
    rw [mvd_at hi, hs, if_pos rfl] at z
    unfold out1
    rw [decide_eq_true z.1, decide_eq_true z.2]
    rfl
  · intro h y hy
    obtain ⟨i, hi, rfl⟩ := mem_getD hy
    rw [mvd_len] at hi
    rw [mvd_at hi]
    cases q : S i with
    | false =>
      rw [if_neg (by simp), Int.add_zero]
      exact hx _ (getD_mem hi)
    | true =>
      have z := h i hi q
      unfold out1 at z
      simp at z
      rw [if_pos rfl]
      exact ⟨z.1, z.2⟩
theorem chg_zero {n : Nat} {S : Nat → Bool} : ∀ k, chg n (fun _ _ => 0) S k = 0 := fun k => by
  have e : chg n (fun _ _ => 0) S k = sumTo (fun _ => 0) k := sumTo_congr _ fun i _ => by
    cases S i with
    | false => rfl
    | true =>
      have h1 : tot n (fun _ _ => 0) i = 0 := sumTo_zero _
      have h2 : spd (fun _ _ => 0) S i i = 0 := by
        have e2 : spd (fun _ _ => 0) S i i = sumTo (fun _ => 0) i := sumTo_congr _ fun j _ => by cases S j <;> rfl
        rw [e2, sumTo_zero]
      rw [if_pos rfl, h1, h2]
      rfl
  rw [e, sumTo_zero]
/-- what a set changes, by the parts before k -/
def rK (lo hi : Int) (ps : List PD) (x : List Int) (way w0 : Int) (S : Nat → Bool) : Option Int := if Inside lo hi (mvd x S way) then (sumW ps (mvd x S way)).map fun z => z - w0 else none
theorem Stt.start {lo hi : Int} {x : List Int} {way : Int} {S : Nat → Bool} (hx : Inside lo hi x) (hS : S x.length = false) : Stt x.length S (fun _ _ => 0) (edgN lo hi x way x.length x.length) (rK lo hi [] x way 0 S) := by
  have e := (free_edgN (lo := lo) (hi := hi) (x := x) (way := way) hS x.length (Nat.le_refl _)).trans (inside_mvd hx).symm
  unfold rK
  refine ⟨fun h => ?_, fun h => ?_⟩
  · rw [if_pos (e.mp h), chg_zero]
    rfl
  · rw [if_neg fun z => h (e.mpr z)]
theorem sumW_snoc {ps : List PD} {p : PD} {x : List Int} : sumW (ps ++ [p]) x = (sumW ps x).bind fun t => (p.worth (readPD p x)).map fun w => t + w := by
  unfold sumW
  rw [List.foldl_append]
  rfl
theorem rK_snoc {lo hi : Int} {ps : List PD} {p : PD} {x : List Int} {way w0 w : Int} {S : Nat → Bool} : ((rK lo hi ps x way w0 S).bind fun c => (p.worth (readPD p (mvd x S way))).map fun z => c + (z - w)) = rK lo hi (ps ++ [p]) x way (w0 + w) S := by
  unfold rK
  by_cases h : Inside lo hi (mvd x S way)
  · rw [if_pos h, if_pos h, sumW_snoc]
    cases sumW ps (mvd x S way) with
    | none => rfl
    | some t =>
      cases p.worth (readPD p (mvd x S way)) with
      | none => rfl
      | some z =>
        show some (t - w0 + (z - w)) = some (t + z - (w0 + w))
        congr 1
        omega
  · rw [if_neg h, if_neg h]
    rfl
theorem rK_worth {h : HD} {x : List Int} {way w0 : Int} {S : Nat → Bool} : rK h.lo h.hi h.ps x way w0 S = (h.worth (mvd x S way)).map fun z => z - w0 := by
  unfold rK HD.worth
  by_cases q : Inside h.lo h.hi (mvd x S way)
  · rw [if_pos q, if_pos q]
  · rw [if_neg q, if_neg q]
    rfl
theorem But.buts {m : Addr} {L : List Addr} {H H1 H2 : Hp} (a : But m H H1) (f : ∀ b ∈ L, H b = none) (s : Buts L H1 H2) : But m H H2 := fun b o n e => s b o (fun q => by rw [f b q] at e; cases e) (a b o n e)
end Ev

/-! lists of all sets, doubled place by place -/
namespace Ev
open PySem L2 Ax
theorem range_dbl {α : Type} {f : Nat → α} {k : Nat} : (List.range (2 ^ (k + 1))).map f = (List.range (2 ^ k)).map f ++ (List.range (2 ^ k)).map fun b => f (2 ^ k + b) := by
  rw [show 2 ^ (k + 1) = 2 ^ k + 2 ^ k by rw [Nat.pow_succ]; omega, List.range_add, List.map_append, List.map_map]
  rfl
theorem tb_hi {b k : Nat} (h : b < 2 ^ k) : (2 ^ k + b).testBit k = true := by
  rw [Nat.testBit_two_pow_add_eq, Nat.testBit_lt_two_pow h]
  rfl
theorem tb_lo {b k : Nat} (h : b < 2 ^ k) : b.testBit k = false := Nat.testBit_lt_two_pow h
theorem tb_low {b k j : Nat} (h : j < k) : (2 ^ k + b).testBit j = b.testBit j := Nat.testBit_two_pow_add_gt h b
theorem sumTo_range {f : Nat → Int} : ∀ k, ((List.range k).map f).sum = sumTo f k
  | 0 => rfl
  | k + 1 => by
    rw [List.range_succ, List.map_append, List.sum_append, sumTo_range k]
    show sumTo f k + (f k + 0) = sumTo f k + f k
    rw [Int.add_zero]
/-- what is spared at a place, for all sets of the places before j -/
def spL (G : Gn) (k j : Nat) : List Int := (List.range (2 ^ j)).map fun b => spd G (Nat.testBit b) k j
def chL (n : Nat) (G : Gn) (k : Nat) : List Int := (List.range (2 ^ k)).map fun b => chg n G (Nat.testBit b) k
theorem spL_succ {G : Gn} {k j : Nat} : spL G k (j + 1) = spL G k j ++ (spL G k j).map fun s => s + (G k j + G j k) := by
  unfold spL
  rw [range_dbl, List.map_map]
  congr 1
  · refine List.map_congr_left fun b hb => ?_
    have hb := List.mem_range.mp hb
    show spd G (Nat.testBit b) k j + (if Nat.testBit b j = true then G k j + G j k else 0) = _
    rw [tb_lo hb]
    simp
  · refine List.map_congr_left fun b hb => ?_
    have hb := List.mem_range.mp hb
    show spd G (Nat.testBit (2 ^ j + b)) k j + (if Nat.testBit (2 ^ j + b) j = true then G k j + G j k else 0) = spd G (Nat.testBit b) k j + (G k j + G j k)
    rw [tb_hi hb, if_pos rfl, spd_congr (T := Nat.testBit b) fun i hi => tb_low hi]
theorem chL_succ {n : Nat} {G : Gn} {k : Nat} : chL n G (k + 1) = chL n G k ++ (List.range (2 ^ k)).map fun b => chg n G (Nat.testBit b) k + tot n G k - spd G (Nat.testBit b) k k := by
  unfold chL
  rw [range_dbl]
  congr 1
  · refine List.map_congr_left fun b hb => ?_
    have hb := List.mem_range.mp hb
    show chg n G (Nat.testBit b) k + (if Nat.testBit b k = true then _ else 0) = _
    rw [tb_lo hb]
    simp
  · refine List.map_congr_left fun b hb => ?_
    have hb := List.mem_range.mp hb
    show chg n G (Nat.testBit (2 ^ k + b)) k + (if Nat.testBit (2 ^ k + b) k = true then tot n G k - spd G (Nat.testBit (2 ^ k + b)) k k else 0) = _
    rw [tb_hi hb, if_pos rfl, spd_congr (T := Nat.testBit b) fun i hi => tb_low hi, chg_congr (T := Nat.testBit b) fun i hi => tb_low hi]
    omega
/-- what all places of a set need -/
def ndU (Nd : Nat → Nat) : Nat → Nat → Nat
  | 0, _ => 0
  | k + 1, b => if Nat.testBit b k then ndU Nd k b ||| Nd k else ndU Nd k b
theorem ndU_congr {Nd : Nat → Nat} {b c : Nat} : ∀ k, (∀ j, j < k → Nat.testBit b j = Nat.testBit c j) → ndU Nd k b = ndU Nd k c
  | 0, _ => rfl
  | k + 1, h => by
    unfold ndU
    rw [h k (by omega), ndU_congr k fun j hj => h j (by omega)]
def ndL (Nd : Nat → Nat) (k : Nat) : List Nat := (List.range (2 ^ k)).map fun b => ndU Nd k b
theorem ndL_succ {Nd : Nat → Nat} {k : Nat} : ndL Nd (k + 1) = ndL Nd k ++ (ndL Nd k).map fun s => s ||| Nd k := by
  unfold ndL
  rw [range_dbl, List.map_map]
  congr 1
  · refine List.map_congr_left fun b hb => ?_
    have hb := List.mem_range.mp hb
    show (if Nat.testBit b k then _ else _) = _
    rw [tb_lo hb]
    rfl
  · refine List.map_congr_left fun b hb => ?_
    have hb := List.mem_range.mp hb
    show (if Nat.testBit (2 ^ k + b) k then _ else _) = _
    rw [tb_hi hb, if_pos rfl, ndU_congr (c := b) k fun j hj => tb_low hj]
    rfl
theorem tb_ndU {Nd : Nat → Nat} {b j : Nat} : ∀ k, (ndU Nd k b).testBit j = true ↔ ∃ i, i < k ∧ b.testBit i = true ∧ (Nd i).testBit j = true
  | 0 => by simp [ndU]
  | k + 1 => by
    unfold ndU
    cases q : b.testBit k with
    | true =>
      rw [if_pos rfl, Nat.testBit_or, Bool.or_eq_true, tb_ndU k]
      constructor
      · rintro (⟨i, h1, h2, h3⟩ | h)
        · exact ⟨i, by omega, h2, h3⟩
        · exact ⟨k, by omega, q, h⟩
      · rintro ⟨i, h1, h2, h3⟩
        by_cases e : i = k
        · subst e; exact .inr h3
        · exact .inl ⟨i, by omega, h2, h3⟩
    | false =>
      rw [if_neg (by simp), tb_ndU k]
      constructor
      · rintro ⟨i, h1, h2, h3⟩
        exact ⟨i, by omega, h2, h3⟩
      · rintro ⟨i, h1, h2, h3⟩
        by_cases e : i = k
        · subst e; rw [q] at h2; cases h2
        · exact ⟨i, by omega, h2, h3⟩
theorem free_ndU {n : Nat} {Nd : Nat → Nat} {b : Nat} : freeS n Nd (Nat.testBit b) ↔ ndU Nd n b ||| b = b := by
  constructor
  · intro h
    apply Nat.eq_of_testBit_eq
    intro j
    rw [Nat.testBit_or]
    cases q : (ndU Nd n b).testBit j with
    | false => rw [Bool.false_or]
    | true =>
      obtain ⟨i, h1, h2, h3⟩ := (tb_ndU n).mp q
      rw [h i h1 h2 j h3]
      rfl
  · intro h i hi hs j hj
    have z : (ndU Nd n b ||| b).testBit j = b.testBit j := by rw [h]
    rw [Nat.testBit_or, (tb_ndU n).mpr ⟨i, hi, hs, hj⟩] at z
    exact z.symm
end Ev

/-! the best set, and what all have in common -/
namespace Ev
open PySem L2 Ax
def frL (n : Nat) (Nd : Nat → Nat) : List Nat := (List.range (2 ^ n)).filter fun b => decide (ndU Nd n b ||| b = b)
theorem mvd_congr {x : List Int} {S T : Nat → Bool} {w : Int} (h : ∀ i, i < x.length → S i = T i) : mvd x S w = mvd x T w := by
  unfold mvd
  refine List.map_congr_left fun i hi => ?_
  rw [h i (List.mem_range.mp hi)]
/-- a set as bits -/
def bitsOf (S : Nat → Bool) : Nat → Nat
  | 0 => 0
  | k + 1 => if S k then 2 ^ k + bitsOf S k else bitsOf S k
theorem bitsOf_lt {S : Nat → Bool} : ∀ k, bitsOf S k < 2 ^ k
  | 0 => by simp [bitsOf]
  | k + 1 => by
    have := bitsOf_lt (S := S) k
    unfold bitsOf
    rw [Nat.pow_succ]
    split <;> omega
theorem bitsOf_tb {S : Nat → Bool} : ∀ k i, i < k → (bitsOf S k).testBit i = S i
  | 0, _, h => by omega
  | k + 1, i, h => by
    unfold bitsOf
    have lt := bitsOf_lt (S := S) k
    by_cases e : i = k
    · subst e
      cases q : S i with
      | true => rw [if_pos rfl, tb_hi lt]
      | false => rw [if_neg (by simp), tb_lo lt]
    · cases q : S k with
      | true => rw [if_pos rfl, tb_low (by omega), bitsOf_tb k i (by omega)]
      | false => rw [if_neg (by simp), bitsOf_tb k i (by omega)]
/-- what is known of the free sets -/
structure Frs (n : Nat) (h : HD) (x : List Int) (way w0 : Int) (G : Gn) (fr : List Nat) : Prop where
  xl : x.length = n
  lt : ∀ b ∈ fr, b < 2 ^ n
  some_ : ∀ b ∈ fr, h.worth (mvd x (Nat.testBit b) way) = some (w0 + chg n G (Nat.testBit b) n)
  all : ∀ b, b < 2 ^ n → b ∉ fr → h.worth (mvd x (Nat.testBit b) way) = none
  zero : 0 ∈ fr
theorem Frs.of {n : Nat} {h : HD} {x : List Int} {way w0 : Int} {G : Gn} {Nd : Nat → Nat} (xl : x.length = n) (st : ∀ S : Nat → Bool, S n = false → Stt n S G Nd ((h.worth (mvd x S way)).map fun z => z - w0)) : Frs n h x way w0 G (frL n Nd) := by
  have key : ∀ b, b ∈ frL n Nd ↔ b < 2 ^ n ∧ freeS n Nd (Nat.testBit b) := fun b => by
    unfold frL
    rw [List.mem_filter, List.mem_range, decide_eq_true_iff, free_ndU]
  refine ⟨xl, fun b hb => ((key b).mp hb).1, fun b hb => ?_, fun b hb hn => ?_, ?_⟩
  · obtain ⟨h1, h2⟩ := (key b).mp hb
    have z := (st _ (tb_lo h1)).1 h2
    cases e : h.worth (mvd x (Nat.testBit b) way) with
    | none => rw [e] at z; cases z
    | some v =>
      rw [e] at z
      have z2 : v - w0 = chg n G (Nat.testBit b) n := Option.some.inj z
      congr 1
      omega
  · have z := (st _ (tb_lo hb)).2 fun q => hn ((key b).mpr ⟨hb, q⟩)
    cases e : h.worth (mvd x (Nat.testBit b) way) with
    | none => rfl
    | some v => rw [e] at z; cases z
  · refine (key 0).mpr ⟨Nat.two_pow_pos n, fun i _ hs => ?_⟩
    rw [Nat.zero_testBit] at hs
    cases hs
/-- each set's worth is one of theirs -/
theorem Frs.any {n : Nat} {h : HD} {x : List Int} {way w0 : Int} {G : Gn} {fr : List Nat} (F : Frs n h x way w0 G fr) (S : Nat → Bool) {z : Int} (hz : h.worth (mvd x S way) = some z) : ∃ b ∈ fr, z = w0 + chg n G (Nat.testBit b) n ∧ ∀ i, i < n → b.testBit i = S i := by
  have e : mvd x (Nat.testBit (bitsOf S n)) way = mvd x S way := mvd_congr fun i hi => bitsOf_tb n i (by rw [← F.xl]; exact hi)
  by_cases q : bitsOf S n ∈ fr
  · refine ⟨_, q, ?_, fun i hi => bitsOf_tb n i hi⟩
    have y := F.some_ _ q
    rw [e, hz] at y
    exact Option.some.inj y
  · have y := F.all _ (bitsOf_lt n) q
    rw [e, hz] at y
    cases y
/-- what is told of a best set -/
structure BestOf (n : Nat) (h : HD) (x : List Int) (way v : Int) (c : Nat) : Prop where
  lt : c < 2 ^ n
  at_ : h.worth (mvd x (Nat.testBit c) way) = some v
  min : ∀ U : Nat → Bool, ∀ z, h.worth (mvd x U way) = some z → v ≤ z
  sub : ∀ U : Nat → Bool, h.worth (mvd x U way) = some v → ∀ i, i < n → c.testBit i = true → U i = true
/-- on the way: in common of the first ones -/
structure Com (n : Nat) (G : Gn) (m : Int) (fr : List Nat) (c : Nat) : Prop where
  lt : c < 2 ^ n
  sub : ∀ b ∈ fr, chg n G (Nat.testBit b) n = m → ∀ j, c.testBit j = true → b.testBit j = true
theorem and_lt {a b n : Nat} (h : a < 2 ^ n) : a &&& b < 2 ^ n := Nat.lt_of_le_of_lt Nat.and_le_left h
theorem ones_and {b n : Nat} (h : b < 2 ^ n) : (2 ^ n - 1) &&& b = b := by
  rw [Nat.and_comm, Nat.and_two_pow_sub_one_eq_mod, Nat.mod_eq_of_lt h]
theorem com_next {n : Nat} {h : HD} (ok : h.ok) {x : List Int} {way w0 m : Int} {G : Gn} {fr : List Nat} (F : Frs n h x way w0 G fr) (hn : (x.length : Int) = h.many) (hw : way = 1 ∨ way = -1) (hm : ∀ b ∈ fr, m ≤ chg n G (Nat.testBit b) n)
    {pre : List Nat} {b c : Nat} (hb : b ∈ fr) (C : Com n G m pre c) (B : (c = 2 ^ n - 1 ∧ ∀ d ∈ pre, chg n G (Nat.testBit d) n ≠ m) ∨ h.worth (mvd x (Nat.testBit c) way) = some (w0 + m)) :
    (chg n G (Nat.testBit b) n = m → Com n G m (pre ++ [b]) (c &&& b) ∧ h.worth (mvd x (Nat.testBit (c &&& b)) way) = some (w0 + m)) ∧
    (chg n G (Nat.testBit b) n ≠ m → Com n G m (pre ++ [b]) c ∧ ((c = 2 ^ n - 1 ∧ ∀ d ∈ pre ++ [b], chg n G (Nat.testBit d) n ≠ m) ∨ h.worth (mvd x (Nat.testBit c) way) = some (w0 + m))) := by
  constructor
  · intro e
    refine ⟨⟨and_lt C.lt, fun d hd hm1 j hj => ?_⟩, ?_⟩
    · rw [Nat.testBit_and, Bool.and_eq_true] at hj
      rcases List.mem_append.mp hd with q | q
      · exact C.sub d q hm1 j hj.1
      · rw [List.mem_singleton.mp q]; exact hj.2
    · have wb := F.some_ b hb
      rw [e] at wb
      rcases B with ⟨rfl, _⟩ | B
      · rw [ones_and (F.lt b hb)]; exact wb
      · have z := best_meet ok hn hw (S := Nat.testBit c) (T := Nat.testBit b) (fun U z hz => ?_) B wb
        · have e2 : (fun i => Nat.testBit c i && Nat.testBit b i) = Nat.testBit (c &&& b) := by
            funext i
            rw [Nat.testBit_and]
          rw [e2] at z
          exact z
        · obtain ⟨d, hd, e3, _⟩ := F.any U hz
          have := hm d hd
          omega
  · intro e
    refine ⟨⟨C.lt, fun d hd hm1 j hj => ?_⟩, ?_⟩
    · rcases List.mem_append.mp hd with q | q
      · exact C.sub d q hm1 j hj
      · rw [List.mem_singleton.mp q] at hm1
        exact absurd hm1 e
    · rcases B with ⟨rfl, B⟩ | B
      · refine .inl ⟨rfl, fun d hd => ?_⟩
        rcases List.mem_append.mp hd with q | q
        · exact B d q
        · rw [List.mem_singleton.mp q]; exact e
      · exact .inr B
theorem com_end {n : Nat} {h : HD} {x : List Int} {way w0 m : Int} {G : Gn} {fr : List Nat} (F : Frs n h x way w0 G fr) (hm : ∀ b ∈ fr, m ≤ chg n G (Nat.testBit b) n) (he : ∃ b ∈ fr, chg n G (Nat.testBit b) n = m) {c : Nat} (C : Com n G m fr c) (B : (c = 2 ^ n - 1 ∧ ∀ d ∈ fr, chg n G (Nat.testBit d) n ≠ m) ∨ h.worth (mvd x (Nat.testBit c) way) = some (w0 + m)) : BestOf n h x way (w0 + m) c := by
  have B2 : h.worth (mvd x (Nat.testBit c) way) = some (w0 + m) := by
    rcases B with ⟨_, B⟩ | B
    · obtain ⟨b, hb, e⟩ := he
      exact absurd e (B b hb)
    · exact B
  refine ⟨C.lt, B2, fun U z hz => ?_, fun U hz i hi hc => ?_⟩
  · obtain ⟨d, hd, e3, _⟩ := F.any U hz
    have := hm d hd
    omega
  · obtain ⟨d, hd, e3, e4⟩ := F.any U hz
    rw [← e4 i hi]
    exact C.sub d hd (by omega) i hc
end Ev

/-! climbs by best sets: each makes the way to a least point ahead shorter by one -/
namespace Ev
open PySem L2 Ax
/-- from p and q, α apart: min(p, q + α), max(p - α, q) lie between -/
theorem trans_btw {p q : List Int} (h : q.length = p.length) {α : Int} (h0 : 0 ≤ α) : Btw p.length p q ((List.range p.length).map fun i => minI (p.getD i 0) (q.getD i 0 + α)) ((List.range p.length).map fun i => maxI (p.getD i 0 - α) (q.getD i 0)) := by
  have hu : ∀ i, i < p.length → ((List.range p.length).map fun i => minI (p.getD i 0) (q.getD i 0 + α)).getD i 0 = minI (p.getD i 0) (q.getD i 0 + α) := fun i hi => by
    rw [getD_map2 (d := 0) (by rw [List.length_range]; exact hi)]
    simp [List.getD_eq_getElem?_getD, List.getElem?_range hi]
  have hv : ∀ i, i < p.length → ((List.range p.length).map fun i => maxI (p.getD i 0 - α) (q.getD i 0)).getD i 0 = maxI (p.getD i 0 - α) (q.getD i 0) := fun i hi => by
    rw [getD_map2 (d := 0) (by rw [List.length_range]; exact hi)]
    simp [List.getD_eq_getElem?_getD, List.getElem?_range hi]
  refine ⟨rfl, h, by rw [List.length_map, List.length_range], by rw [List.length_map, List.length_range], fun i hi => ?_, fun i hi => ?_, fun i j hi hj => ?_⟩
  · rw [hu i hi, hv i hi]; unfold minI maxI; split <;> split <;> omega
  · rw [hu i hi]; unfold minI; split <;> omega
  · rw [hu i hi, hu j hj]; unfold minI; split <;> split <;> omega
theorem ext_getD {a b : List Int} (h : a.length = b.length) (e : ∀ i, i < a.length → a.getD i 0 = b.getD i 0) : a = b := by
  apply List.ext_getElem h
  intro i h1 h2
  have z := e i h1
  rw [List.getD_eq_getElem?_getD, List.getElem?_eq_getElem h1, List.getD_eq_getElem?_getD, List.getElem?_eq_getElem h2] at z
  exact z
theorem rng_getD {n i : Nat} {f : Nat → Int} (h : i < n) : ((List.range n).map f).getD i 0 = f i := by
  rw [getD_map2 (d := 0) (by rw [List.length_range]; exact h)]
  simp [List.getD_eq_getElem?_getD, List.getElem?_range h]
theorem zip_getD {x y : List Int} (h : x.length = y.length) {f : Int × Int → Int} {i : Nat} (hi : i < x.length) : ((x.zip y).map f).getD i 0 = f (x.getD i 0, y.getD i 0) := by
  have lz : (x.zip y).length = x.length := by rw [List.length_zip, ← h, Nat.min_self]
  rw [getD_map2 (d := (0, 0)) (by omega)]
  congr 1
  simp only [List.getD_eq_getElem?_getD]
  rw [List.getElem?_eq_getElem (by omega : i < (x.zip y).length), List.getElem?_eq_getElem hi, List.getElem?_eq_getElem (by omega : i < y.length)]
  simp
theorem ar1 (s : Bool) (a b : Int) (h : a ≤ b) : minI (a + if s then 1 else 0) b = a + (if (s && decide (a + 1 ≤ b)) then 1 else 0) := by
  unfold minI
  cases s with
  | false =>
    rw [Bool.false_and, if_neg (show ¬ (false = true) by simp), Int.add_zero, if_pos h]
  | true =>
    rw [Bool.true_and, if_pos rfl]
    by_cases q : a + 1 ≤ b
    · rw [if_pos q, if_pos (decide_eq_true q)]
    · rw [if_neg q, if_neg (by rw [decide_eq_false q]; simp)]; omega
theorem ar2 (s : Bool) (a b d g : Int) (hd : 1 ≤ d) (h1 : a ≤ b) (h2 : b ≤ a + d) (hg : g = maxI (a + if s then 1 else 0) b) : maxI (g - (d - 1)) (a + if s then 1 else 0) = a + (if (s || decide (g = a + d)) then 1 else 0) := by
  unfold maxI at hg ⊢
  cases s with
  | true =>
    rw [if_pos rfl] at hg
    rw [Bool.true_or, if_pos rfl]
    by_cases q : a + 1 ≤ b
    · rw [if_pos q] at hg
      split <;> omega
    · rw [if_neg q] at hg
      split <;> omega
  | false =>
    rw [if_neg (show ¬ (false = true) by simp), Int.add_zero, if_pos h1] at hg
    rw [if_neg (show ¬ (false = true) by simp), Bool.false_or, Int.add_zero]
    by_cases q : g = a + d
    · rw [if_pos (decide_eq_true q)]
      split <;> omega
    · rw [if_neg (show ¬ (decide (g = a + d) = true) by rw [decide_eq_false q]; simp)]
      split <;> omega
theorem ar3 (z b d g : Int) (hd : 1 ≤ d) (hg : g = maxI z b) : z ≤ minI g (z + (d - 1)) ∧ minI g (z + (d - 1)) ≤ z + (d - 1) := by
  unfold maxI at hg
  unfold minI
  by_cases q : z ≤ b
  · rw [if_pos q] at hg
    split <;> omega
  · rw [if_neg q] at hg
    split <;> omega
/-- y lies ahead of x, no further than d -/
structure Ahd (x y : List Int) (d : Int) : Prop where
  len : y.length = x.length
  ge : ∀ i, i < x.length → x.getD i 0 ≤ y.getD i 0
  le : ∀ i, i < x.length → y.getD i 0 ≤ x.getD i 0 + d
theorem climb_step {h : HD} (ok : h.ok) {x y : List Int} (hn : (x.length : Int) = h.many) {S : Nat → Bool} {m v d : Int} (hd : 1 ≤ d) (hS : h.worth (mvd x S 1) = some v) (hmin : ∀ U : Nat → Bool, ∀ z, h.worth (mvd x U 1) = some z → v ≤ z)
    (hy : h.worth y = some m) (hm : ∀ p z, p.length = x.length → h.worth p = some z → m ≤ z) (A : Ahd x y d) : ∃ y', h.worth y' = some m ∧ Ahd (mvd x S 1) y' (d - 1) := by
  have lz := mvd_len x S 1
  have lzy : (mvd x S 1).length = y.length := by rw [lz, A.len]
  have hz : ∀ i, i < x.length → (mvd x S 1).getD i 0 = x.getD i 0 + (if S i then 1 else 0) := fun i hi => mvd_at hi
  -- joined
  obtain ⟨c, e, hc, he, hce⟩ := HD.even ok (by rw [lz]; exact hn) (Btw.meet lzy) hS hy
  have em : ((mvd x S 1).zip y).map (fun q => minI q.1 q.2) = mvd x (fun i => S i && decide (x.getD i 0 + 1 ≤ y.getD i 0)) 1 := by
    refine ext_getD (by rw [mvd_len, List.length_map, List.length_zip, ← lzy, Nat.min_self, lz]) fun i hi => ?_
    rw [List.length_map, List.length_zip, ← lzy, Nat.min_self, lz] at hi
    rw [zip_getD lzy (by omega), hz i hi, mvd_at hi]
    exact ar1 _ _ _ (A.ge i hi)
  rw [em] at hc
  have c1 := hmin _ _ hc
  have lj : (((mvd x S 1).zip y).map fun q => maxI q.1 q.2).length = x.length := by rw [List.length_map, List.length_zip, ← lzy, Nat.min_self, lz]
  have e1 := hm _ _ lj he
  have ee : e = m := by omega
  subst ee
  have hj : ∀ i, i < x.length → (((mvd x S 1).zip y).map fun q => maxI q.1 q.2).getD i 0 = maxI ((mvd x S 1).getD i 0) (y.getD i 0) := fun i hi => zip_getD lzy (by omega)
  generalize ((mvd x S 1).zip y).map (fun q => maxI q.1 q.2) = y1 at he lj hj
  -- lowered where it is d ahead
  obtain ⟨c', e', hc', he', hce'⟩ := HD.even ok (x := y1) (y := mvd x S 1) (by rw [lj]; exact hn) (trans_btw (α := d - 1) (by rw [lz, lj]) (by omega)) he hS
  have ev : (List.range y1.length).map (fun i => maxI (y1.getD i 0 - (d - 1)) ((mvd x S 1).getD i 0)) = mvd x (fun i => S i || decide (y1.getD i 0 = x.getD i 0 + d)) 1 := by
    refine ext_getD (by rw [mvd_len, List.length_map, List.length_range, lj]) fun i hi => ?_
    rw [List.length_map, List.length_range] at hi
    rw [rng_getD hi, hz i (by omega), mvd_at (by omega)]
    have b1 := hj i (by omega)
    rw [hz i (by omega)] at b1
    exact ar2 _ _ _ _ _ hd (A.ge i (by omega)) (A.le i (by omega)) b1
  rw [ev] at he'
  have c2 := hmin _ _ he'
  have lu : ((List.range y1.length).map fun i => minI (y1.getD i 0) ((mvd x S 1).getD i 0 + (d - 1))).length = x.length := by rw [List.length_map, List.length_range, lj]
  have e2 := hm _ _ lu hc'
  have ec : c' = e := by omega
  subst ec
  refine ⟨_, hc', by rw [lu, lz], fun i hi => ?_, fun i hi => ?_⟩
  · rw [lz] at hi
    rw [rng_getD (by omega)]
    exact (ar3 _ _ _ _ hd (hj i hi)).1
  · rw [lz] at hi
    rw [rng_getD (by omega)]
    exact (ar3 _ _ _ _ hd (hj i hi)).2
theorem br1 (s : Bool) (a b : Int) (h : b ≤ a) : maxI (a + if s then -1 else 0) b = a + (if (s && decide (b + 1 ≤ a)) then -1 else 0) := by
  unfold maxI
  cases s with
  | false =>
    rw [Bool.false_and, if_neg (show ¬ (false = true) by simp), Int.add_zero]
    split <;> omega
  | true =>
    rw [Bool.true_and, if_pos rfl]
    by_cases q : b + 1 ≤ a
    · rw [if_pos (decide_eq_true q)]
      split <;> omega
    · rw [if_neg (show ¬ (decide (b + 1 ≤ a) = true) by rw [decide_eq_false q]; simp)]
      split <;> omega
theorem br2 (s : Bool) (a b d g : Int) (hd : 1 ≤ d) (h1 : b ≤ a) (h2 : a ≤ b + d) (hg : g = minI (a + if s then -1 else 0) b) : minI (a + if s then -1 else 0) (g + (d - 1)) = a + (if (s || decide (a = g + d)) then -1 else 0) := by
  unfold minI at hg ⊢
  cases s with
  | true =>
    rw [if_pos rfl] at hg
    rw [Bool.true_or, if_pos rfl]
    by_cases q : a + -1 ≤ b
    · rw [if_pos q] at hg
      split <;> omega
    · rw [if_neg q] at hg
      split <;> omega
  | false =>
    rw [if_neg (show ¬ (false = true) by simp), Int.add_zero] at hg
    rw [if_neg (show ¬ (false = true) by simp), Bool.false_or, Int.add_zero]
    by_cases p : a ≤ b
    · rw [if_pos p] at hg
      by_cases q : a = g + d
      · rw [if_pos (decide_eq_true q)]
        split <;> omega
      · rw [if_neg (show ¬ (decide (a = g + d) = true) by rw [decide_eq_false q]; simp)]
        split <;> omega
    · rw [if_neg p] at hg
      by_cases q : a = g + d
      · rw [if_pos (decide_eq_true q)]
        split <;> omega
      · rw [if_neg (show ¬ (decide (a = g + d) = true) by rw [decide_eq_false q]; simp)]
        split <;> omega
theorem br3 (z b d g : Int) (hd : 1 ≤ d) (hg : g = minI z b) : maxI (z - (d - 1)) g ≤ z ∧ z ≤ maxI (z - (d - 1)) g + (d - 1) := by
  unfold minI at hg
  unfold maxI
  by_cases q : z ≤ b
  · rw [if_pos q] at hg
    split <;> omega
  · rw [if_neg q] at hg
    split <;> omega
theorem fall_step {h : HD} (ok : h.ok) {x y : List Int} (hn : (x.length : Int) = h.many) {S : Nat → Bool} {m v d : Int} (hd : 1 ≤ d) (hS : h.worth (mvd x S (-1)) = some v) (hmin : ∀ U : Nat → Bool, ∀ z, h.worth (mvd x U (-1)) = some z → v ≤ z)
    (hy : h.worth y = some m) (hm : ∀ p z, p.length = x.length → h.worth p = some z → m ≤ z) (A : Ahd y x d) : ∃ y', h.worth y' = some m ∧ Ahd y' (mvd x S (-1)) (d - 1) := by
  have lz := mvd_len x S (-1)
  have lzy : (mvd x S (-1)).length = y.length := by rw [lz, A.len]
  have hz : ∀ i, i < x.length → (mvd x S (-1)).getD i 0 = x.getD i 0 + (if S i then -1 else 0) := fun i hi => mvd_at hi
  obtain ⟨c, e, hc, he, hce⟩ := HD.even ok (by rw [lz]; exact hn) (Btw.meet lzy) hS hy
  have em : ((mvd x S (-1)).zip y).map (fun q => maxI q.1 q.2) = mvd x (fun i => S i && decide (y.getD i 0 + 1 ≤ x.getD i 0)) (-1) := by
    refine ext_getD (by rw [mvd_len, List.length_map, List.length_zip, ← lzy, Nat.min_self, lz]) fun i hi => ?_
    rw [List.length_map, List.length_zip, ← lzy, Nat.min_self, lz] at hi
    rw [zip_getD lzy (by omega), hz i hi, mvd_at hi]
    exact br1 _ _ _ (A.ge i (by rw [← A.len]; exact hi))
  rw [em] at he
  have c1 := hmin _ _ he
  have lj : (((mvd x S (-1)).zip y).map fun q => minI q.1 q.2).length = x.length := by rw [List.length_map, List.length_zip, ← lzy, Nat.min_self, lz]
  have e1 := hm _ _ lj hc
  have ee : c = m := by omega
  subst ee
  have hj : ∀ i, i < x.length → (((mvd x S (-1)).zip y).map fun q => minI q.1 q.2).getD i 0 = minI ((mvd x S (-1)).getD i 0) (y.getD i 0) := fun i hi => zip_getD lzy (by omega)
  generalize ((mvd x S (-1)).zip y).map (fun q => minI q.1 q.2) = y1 at hc lj hj
  obtain ⟨c', e', hc', he', hce'⟩ := HD.even ok (x := mvd x S (-1)) (y := y1) (by rw [lz]; exact hn) (trans_btw (α := d - 1) (by rw [lz, lj]) (by omega)) hS hc
  have ev : (List.range (mvd x S (-1)).length).map (fun i => minI ((mvd x S (-1)).getD i 0) (y1.getD i 0 + (d - 1))) = mvd x (fun i => S i || decide (x.getD i 0 = y1.getD i 0 + d)) (-1) := by
    refine ext_getD (by rw [List.length_map, List.length_range, lz, mvd_len]) fun i hi => ?_
    rw [List.length_map, List.length_range, lz] at hi
    rw [rng_getD (by omega), hz i hi, mvd_at hi]
    have b1 := hj i hi
    rw [hz i hi] at b1
    exact br2 _ _ _ _ _ hd (A.ge i (by rw [← A.len]; exact hi)) (A.le i (by rw [← A.len]; exact hi)) b1
  rw [ev] at hc'
  have c2 := hmin _ _ hc'
  have lu : ((List.range (mvd x S (-1)).length).map fun i => maxI ((mvd x S (-1)).getD i 0 - (d - 1)) (y1.getD i 0)).length = x.length := by rw [List.length_map, List.length_range, lz]
  have e2 := hm _ _ lu he'
  have ec : e' = c := by omega
  subst ec
  refine ⟨_, he', by rw [lu, lz], fun i hi => ?_, fun i hi => ?_⟩
  · rw [lu] at hi
    rw [rng_getD (by omega)]
    exact (br3 _ _ _ _ hd (hj i hi)).1
  · rw [lu] at hi
    rw [rng_getD (by omega)]
    exact (br3 _ _ _ _ hd (hj i hi)).2
theorem mvd_none {x : List Int} {wy : Int} : mvd x (fun _ => false) wy = x := ext_getD (mvd_len ..) fun i hi => by
  rw [mvd_len] at hi
  rw [mvd_at hi, if_neg (by simp), Int.add_zero]
theorem Ahd.zero {x y : List Int} (A : Ahd x y 0) : y = x := ext_getD A.len fun i hi => by
  rw [A.len] at hi
  have := A.ge i hi
  have := A.le i hi
  omega
/-- where no set betters it and a least point is ahead, it is least itself -/
theorem climb_end {h : HD} (ok : h.ok) {x : List Int} (hn : (x.length : Int) = h.many) {m v : Int} (hx : h.worth x = some v) (hmin : ∀ U : Nat → Bool, ∀ z, h.worth (mvd x U 1) = some z → v ≤ z) (hm : ∀ p z, p.length = x.length → h.worth p = some z → m ≤ z) :
    ∀ (k : Nat) (y : List Int), h.worth y = some m → Ahd x y (k : Int) → v = m
  | 0, y, hy, A => by
    rw [Ahd.zero A, hx] at hy
    exact Option.some.inj hy
  | k + 1, y, hy, A => by
    obtain ⟨y', hy', A'⟩ := climb_step ok hn (S := fun _ => false) (d := ((k + 1 : Nat) : Int)) (by omega) (by rw [mvd_none]; exact hx) hmin hy hm A
    rw [mvd_none, show ((k + 1 : Nat) : Int) - 1 = (k : Int) by omega] at A'
    exact climb_end ok hn hx hmin hm k y' hy' A'
theorem fall_end {h : HD} (ok : h.ok) {x : List Int} (hn : (x.length : Int) = h.many) {m v : Int} (hx : h.worth x = some v) (hmin : ∀ U : Nat → Bool, ∀ z, h.worth (mvd x U (-1)) = some z → v ≤ z) (hm : ∀ p z, p.length = x.length → h.worth p = some z → m ≤ z) :
    ∀ (k : Nat) (y : List Int), h.worth y = some m → Ahd y x (k : Int) → v = m
  | 0, y, hy, A => by
    rw [← Ahd.zero A, hx] at hy
    exact Option.some.inj hy
  | k + 1, y, hy, A => by
    obtain ⟨y', hy', A'⟩ := fall_step ok hn (S := fun _ => false) (d := ((k + 1 : Nat) : Int)) (by omega) (by rw [mvd_none]; exact hx) hmin hy hm A
    rw [mvd_none, show ((k + 1 : Nat) : Int) - 1 = (k : Int) by omega] at A'
    exact fall_end ok hn hx hmin hm k y' hy' A'
/-- a set's raising makes no way shorter by more than one -/
theorem Ahd.back {x y : List Int} {S : Nat → Bool} {d : Int} (A : Ahd (mvd x S 1) y d) : Ahd x y (d + 1) := by
  have lz := mvd_len x S 1
  refine ⟨by rw [A.len, lz], fun i hi => ?_, fun i hi => ?_⟩
  · have z := A.ge i (by rw [lz]; exact hi)
    rw [mvd_at hi] at z
    cases q : S i with
    | false => rw [q, if_neg (by simp)] at z; omega
    | true => rw [q, if_pos rfl] at z; omega
  · have z := A.le i (by rw [lz]; exact hi)
    rw [mvd_at hi] at z
    cases q : S i with
    | false => rw [q, if_neg (by simp)] at z; omega
    | true => rw [q, if_pos rfl] at z; omega
end Ev

/-! demands: what settles them, or a ring -/
namespace Ev
open PySem L2 Ax
structure Dm where
  a : Int
  b : Int
  g : Int
deriving DecidableEq
/-- the place's index in a list of n + 1 numbers, the ground last -/
def ix (n : Nat) (p : Int) : Nat := if p < 0 then n else p.toNat
structure DmOk (n : Nat) (d : Dm) : Prop where
  a1 : -1 ≤ d.a
  a2 : d.a < n
  b1 : -1 ≤ d.b
  b2 : d.b < n
  ne : d.a ≠ d.b
theorem ix_le {n : Nat} {p : Int} (h : p < n) : ix n p ≤ n := by
  unfold ix
  split <;> omega
theorem ix_inj {n : Nat} {p q : Int} (hp : -1 ≤ p) (hq : -1 ≤ q) (hp2 : p < n) (hq2 : q < n) (h : ix n p = ix n q) : p = q := by
  unfold ix at h
  split at h <;> split at h <;> omega
/-- the state: numbers, the cause of each (its place in the list), ghosts: the round and the time of its last lowering -/
structure BF where
  nu : Nat → Int
  cs : Nat → Option Nat
  r : Nat → Nat
  t : Nat → Nat
  now : Nat
def BF.low (n : Nat) (s : BF) (d : Dm) : Prop := s.nu (ix n d.b) + d.g < s.nu (ix n d.a)
instance (n : Nat) (s : BF) (d : Dm) : Decidable (s.low n d) := inferInstanceAs (Decidable (_ < _))
def BF.relax (n k j : Nat) (d : Dm) (s : BF) : BF := if s.low n d then
  { nu := fun i => if i = ix n d.a then s.nu (ix n d.b) + d.g else s.nu i
    cs := fun i => if i = ix n d.a then some j else s.cs i
    r := fun i => if i = ix n d.a then k else s.r i
    t := fun i => if i = ix n d.a then s.now else s.t i
    now := s.now + 1 } else s
/-- demands that start at place j of the list -/
def BF.run (n k : Nat) : Nat → List Dm → BF → BF
  | _, [], s => s
  | j, d :: ds, s => BF.run n k (j + 1) ds (s.relax n k j d)
/-- the last lowered one in a round -/
def BF.lst (n k : Nat) : Nat → List Dm → BF → Option Int → Option Int
  | _, [], _, o => o
  | j, d :: ds, s, o => BF.lst n k (j + 1) ds (s.relax n k j d) (if s.low n d then some d.a else o)
theorem run_snoc {n k : Nat} : ∀ (ds : List Dm) (j : Nat) (s : BF) (d : Dm), BF.run n k j (ds ++ [d]) s = (BF.run n k j ds s).relax n k (j + ds.length) d
  | [], j, s, d => rfl
  | e :: ds, j, s, d => by
    show BF.run n k (j + 1) (ds ++ [d]) (s.relax n k j e) = _
    rw [run_snoc ds (j + 1) _ d]
    show BF.relax n k (j + 1 + ds.length) d _ = BF.relax n k (j + (ds.length + 1)) d _
    rw [show j + 1 + ds.length = j + (ds.length + 1) by omega]
    rfl
theorem lst_snoc {n k : Nat} : ∀ (ds : List Dm) (j : Nat) (s : BF) (o : Option Int) (d : Dm), BF.lst n k j (ds ++ [d]) s o = if (BF.run n k j ds s).low n d then some d.a else BF.lst n k j ds s o
  | [], j, s, o, d => rfl
  | e :: ds, j, s, o, d => lst_snoc ds (j + 1) _ _ d
/-- all rounds from k on -/
def BF.go (n : Nat) (ds : List Dm) : Nat → BF → BF
  | 0, s => s
  | k + 1, s => BF.run n (k + 1) 0 ds (BF.go n ds k s)
def BF.st0 (n : Nat) (start : Int) : BF := ⟨fun i => if i < n then start else 0, fun _ => none, fun _ => 0, fun _ => 0, 1⟩

/-! ### what holds on the way -/
structure Inv1 (n : Nat) (ds : List Dm) (s : BF) : Prop where
  pos : ∀ i, i ≤ n → (s.cs i = none ↔ s.r i = 0)
  cs : ∀ i j, s.cs i = some j → ∃ d, ds[j]? = some d ∧ ix n d.a = i ∧ s.nu (ix n d.b) + d.g ≤ s.nu i ∧ (s.nu i = s.nu (ix n d.b) + d.g → s.t (ix n d.b) < s.t i) ∧ s.r i ≤ s.r (ix n d.b) + 1
  tm : ∀ i, s.t i < s.now
/-- what holds of the demands asked so far: the first i of them in round k, all in round k - 1 -/
def Inv2 (n : Nat) (ds : List Dm) (k i : Nat) (s : BF) : Prop := (∀ j d, ds[j]? = some d → j < i → s.nu (ix n d.a) ≤ s.nu (ix n d.b) + d.g ∨ k ≤ s.r (ix n d.b)) ∧ ∀ j d, ds[j]? = some d → i ≤ j → 2 ≤ k → s.nu (ix n d.a) ≤ s.nu (ix n d.b) + d.g ∨ k ≤ s.r (ix n d.b) + 1
theorem relax_inv {n k i : Nat} {ds : List Dm} (ok : ∀ d ∈ ds, DmOk n d) {s : BF} {d : Dm} (hd : ds[i]? = some d) (hk : 1 ≤ k) (hr : ∀ v, s.r v ≤ k) (I1 : Inv1 n ds s) (I2 : Inv2 n ds k i s) : Inv1 n ds (s.relax n k i d) ∧ Inv2 n ds k (i + 1) (s.relax n k i d) ∧ ∀ v, (s.relax n k i d).r v ≤ k := by
  have okd := ok d (List.mem_of_getElem? hd)
  have ab : ix n d.a ≠ ix n d.b := fun q => okd.ne (ix_inj okd.a1 okd.b1 okd.a2 okd.b2 q)
  unfold BF.relax
  by_cases q : s.low n d
  · rw [if_pos q]
    have q' : s.nu (ix n d.b) + d.g < s.nu (ix n d.a) := q
    have lower : ∀ v, (if v = ix n d.a then s.nu (ix n d.b) + d.g else s.nu v) ≤ s.nu v := fun v => by
      split
      · next e => rw [e]; omega
      · exact Int.le_refl _
    have rup : ∀ v, s.r v ≤ (if v = ix n d.a then k else s.r v) := fun v => by
      split
      · exact hr v
      · exact Nat.le_refl _
    refine ⟨⟨fun v hv => ?_, fun v j e => ?_, fun v => ?_⟩, ⟨fun j e he hj => ?_, fun j e he hj h2 => ?_⟩, fun v => ?_⟩
    · show (if v = ix n d.a then some i else s.cs v) = none ↔ (if v = ix n d.a then k else s.r v) = 0
      by_cases e : v = ix n d.a
      · rw [if_pos e, if_pos e]
        exact ⟨(fun z => by cases z), fun z => by omega⟩
      · rw [if_neg e, if_neg e]
        exact I1.pos v hv
    · have e' : (if v = ix n d.a then some i else s.cs v) = some j := e
      show ∃ d', ds[j]? = some d' ∧ ix n d'.a = v ∧ (if ix n d'.b = ix n d.a then s.nu (ix n d.b) + d.g else s.nu (ix n d'.b)) + d'.g ≤ (if v = ix n d.a then s.nu (ix n d.b) + d.g else s.nu v) ∧
        ((if v = ix n d.a then s.nu (ix n d.b) + d.g else s.nu v) = (if ix n d'.b = ix n d.a then s.nu (ix n d.b) + d.g else s.nu (ix n d'.b)) + d'.g → (if ix n d'.b = ix n d.a then s.now else s.t (ix n d'.b)) < (if v = ix n d.a then s.now else s.t v)) ∧
        (if v = ix n d.a then k else s.r v) ≤ (if ix n d'.b = ix n d.a then k else s.r (ix n d'.b)) + 1
      by_cases ev : v = ix n d.a
      · rw [if_pos ev] at e'
        cases e'
        refine ⟨d, hd, ev.symm, ?_⟩
        rw [if_neg ab.symm, if_pos ev, if_neg ab.symm, if_pos ev, if_neg ab.symm, if_pos ev]
        refine ⟨Int.le_refl _, fun _ => I1.tm _, ?_⟩
        by_cases k2 : 2 ≤ k
        · rcases I2.2 i d hd (Nat.le_refl _) k2 with z | z
          · omega
          · exact z
        · omega
      · rw [if_neg ev] at e'
        obtain ⟨d', h1, h2, h3, h4, h5⟩ := I1.cs v j e'
        refine ⟨d', h1, h2, ?_⟩
        rw [if_neg ev, if_neg ev, if_neg ev]
        by_cases eb : ix n d'.b = ix n d.a
        · rw [if_pos eb, if_pos eb, if_pos eb]
          rw [eb] at h3
          have := hr v
          exact ⟨by omega, fun z => by omega, by omega⟩
        · rw [if_neg eb, if_neg eb, if_neg eb]
          exact ⟨h3, h4, h5⟩
    · show (if v = ix n d.a then s.now else s.t v) < s.now + 1
      split
      · omega
      · have := I1.tm v; omega
    · show (if ix n e.a = ix n d.a then s.nu (ix n d.b) + d.g else s.nu (ix n e.a)) ≤ (if ix n e.b = ix n d.a then s.nu (ix n d.b) + d.g else s.nu (ix n e.b)) + e.g ∨ k ≤ (if ix n e.b = ix n d.a then k else s.r (ix n e.b))
      by_cases eb : ix n e.b = ix n d.a
      · rw [if_pos eb]; rw [if_pos eb]; exact .inr (Nat.le_refl _)
      · rw [if_neg eb]; rw [if_neg eb]
        by_cases ej : j = i
        · subst ej
          rw [hd] at he
          cases he
          rw [if_pos rfl]
          exact .inl (Int.le_refl _)
        · have z := lower (ix n e.a)
          rcases I2.1 j e he (by omega) with y | y
          · exact .inl (by omega)
          · exact .inr y
    · show (if ix n e.a = ix n d.a then s.nu (ix n d.b) + d.g else s.nu (ix n e.a)) ≤ (if ix n e.b = ix n d.a then s.nu (ix n d.b) + d.g else s.nu (ix n e.b)) + e.g ∨ k ≤ (if ix n e.b = ix n d.a then k else s.r (ix n e.b)) + 1
      by_cases eb : ix n e.b = ix n d.a
      · rw [if_pos eb]; rw [if_pos eb]; exact .inr (by omega)
      · rw [if_neg eb]; rw [if_neg eb]
        have z := lower (ix n e.a)
        rcases I2.2 j e he (by omega) h2 with y | y
        · exact .inl (by omega)
        · exact .inr y
    · show (if v = ix n d.a then k else s.r v) ≤ k
      split
      · exact Nat.le_refl _
      · exact hr v
  · rw [if_neg q]
    have q' : s.nu (ix n d.a) ≤ s.nu (ix n d.b) + d.g := Int.not_lt.mp q
    refine ⟨I1, ⟨fun j e he hj => ?_, fun j e he hj h2 => I2.2 j e he (by omega) h2⟩, hr⟩
    by_cases ej : j = i
    · subst ej
      rw [hd] at he
      cases he
      exact .inl q'
    · exact I2.1 j e he (by omega)
theorem run_inv {n k : Nat} {ds : List Dm} (ok : ∀ d ∈ ds, DmOk n d) {s : BF} (hk : 1 ≤ k) (hr : ∀ v, s.r v ≤ k) (I1 : Inv1 n ds s) (I2 : Inv2 n ds k 0 s) : ∀ i, i ≤ ds.length → Inv1 n ds (BF.run n k 0 (ds.take i) s) ∧ Inv2 n ds k i (BF.run n k 0 (ds.take i) s) ∧ ∀ v, (BF.run n k 0 (ds.take i) s).r v ≤ k
  | 0, _ => ⟨I1, I2, hr⟩
  | i + 1, h => by
    obtain ⟨a, b, c⟩ := run_inv ok hk hr I1 I2 i (by omega)
    have hd := List.getElem?_eq_getElem (show i < ds.length by omega)
    rw [List.take_add_one, hd, show (some ds[i]).toList = [ds[i]] from rfl, run_snoc, Nat.zero_add, List.length_take, Nat.min_eq_left (by omega)]
    exact relax_inv ok hd hk c a b
theorem go_inv {n : Nat} {ds : List Dm} (ok : ∀ d ∈ ds, DmOk n d) {start : Int} : ∀ k, Inv1 n ds (BF.go n ds k (BF.st0 n start)) ∧ Inv2 n ds (k + 1) 0 (BF.go n ds k (BF.st0 n start)) ∧ ∀ v, (BF.go n ds k (BF.st0 n start)).r v ≤ k
  | 0 => ⟨⟨fun _ _ => ⟨fun _ => rfl, fun _ => rfl⟩, (fun i j e => by cases e), fun i => Nat.lt_succ_self 0⟩, ⟨fun j d _ h => by omega, fun j d _ _ h => by omega⟩, fun _ => Nat.le_refl _⟩
  | k + 1 => by
    obtain ⟨a, b, c⟩ := go_inv ok (start := start) k
    have z := run_inv ok (k := k + 1) (by omega) (fun v => Nat.le_succ_of_le (c v)) a b ds.length (Nat.le_refl _)
    rw [List.take_length] at z
    obtain ⟨a, b, c⟩ := z
    refine ⟨a, ⟨fun j d _ h => by omega, fun j d he _ h2 => ?_⟩, c⟩
    rcases b.1 j d he ((List.getElem?_eq_some_iff.mp he).1) with y | y
    · exact .inl y
    · exact .inr (Nat.succ_le_succ y)
end Ev

/-! demands: settled, or a ring -/
namespace Ev
open PySem L2 Ax
theorem lst_some {n k : Nat} : ∀ (ds : List Dm) (j : Nat) (s : BF) (p : Int), BF.lst n k j ds s (some p) ≠ none
  | [], _, _, _ => fun h => by cases h
  | d :: ds, j, s, p => by
    unfold BF.lst
    split
    · exact lst_some ds _ _ _
    · exact lst_some ds _ _ _
theorem lst_none {n k : Nat} : ∀ (ds : List Dm) (j : Nat) (s : BF), BF.lst n k j ds s none = none → BF.run n k j ds s = s ∧ ∀ d ∈ ds, ¬ s.low n d
  | [], _, _, _ => ⟨rfl, fun d h => by cases h⟩
  | d :: ds, j, s, h => by
    unfold BF.lst at h
    by_cases q : s.low n d
    · rw [if_pos q] at h
      exact absurd h (lst_some _ _ _ _)
    · rw [if_neg q] at h
      have e : s.relax n k j d = s := by unfold BF.relax; rw [if_neg q]
      rw [e] at h
      obtain ⟨h1, h2⟩ := lst_none ds (j + 1) s h
      refine ⟨by show BF.run n k (j + 1) ds (s.relax n k j d) = s; rw [e]; exact h1, fun d' hd => ?_⟩
      rcases List.mem_cons.mp hd with z | z
      · rw [z]; exact q
      · exact h2 d' z
theorem lst_r {n k : Nat} {ds : List Dm} {s : BF} {p : Int} : ∀ i, i ≤ ds.length → BF.lst n k 0 (ds.take i) s none = some p → (BF.run n k 0 (ds.take i) s).r (ix n p) = k ∧ ∃ d ∈ ds, d.a = p
  | 0, _, h => by rw [List.take_zero] at h; cases h
  | i + 1, hi, h => by
    have hd := List.getElem?_eq_getElem (show i < ds.length by omega)
    rw [List.take_add_one, hd, show (some ds[i]).toList = [ds[i]] from rfl] at h ⊢
    rw [lst_snoc] at h
    rw [run_snoc]
    unfold BF.relax
    by_cases q : (BF.run n k 0 (ds.take i) s).low n ds[i]
    · rw [if_pos q] at h
      rw [if_pos q]
      cases h
      exact ⟨if_pos rfl, _, List.getElem_mem _, rfl⟩
    · rw [if_neg q] at h
      rw [if_neg q]
      exact lst_r i (by omega) h
/-- a way to meet all demands -/
def Meets (n : Nat) (ds : List Dm) (x : Nat → Int) : Prop := ∀ d ∈ ds, x (ix n d.a) ≤ x (ix n d.b) + d.g
theorem relax_le {n k j : Nat} {d : Dm} {s : BF} (v : Nat) : (s.relax n k j d).nu v ≤ s.nu v := by
  unfold BF.relax
  by_cases q : s.low n d
  · rw [if_pos q]
    have q' : s.nu (ix n d.b) + d.g < s.nu (ix n d.a) := q
    show (if v = ix n d.a then s.nu (ix n d.b) + d.g else s.nu v) ≤ _
    split
    · next e => rw [e]; omega
    · exact Int.le_refl _
  · rw [if_neg q]; exact Int.le_refl _
theorem run_le {n k : Nat} : ∀ (ds : List Dm) (j : Nat) (s : BF) (v : Nat), (BF.run n k j ds s).nu v ≤ s.nu v
  | [], _, _, _ => Int.le_refl _
  | d :: ds, j, s, v => Int.le_trans (run_le ds (j + 1) _ v) (relax_le v)
theorem go_le {n : Nat} {ds : List Dm} {s : BF} (v : Nat) : ∀ k, (BF.go n ds k s).nu v ≤ s.nu v
  | 0 => Int.le_refl _
  | k + 1 => Int.le_trans (run_le ds 0 _ v) (go_le v k)
theorem relax_ge {n k j : Nat} {d : Dm} {s : BF} {x : Nat → Int} (hx : x (ix n d.a) ≤ x (ix n d.b) + d.g) (h : ∀ v, v ≤ n → x v ≤ s.nu v) (hb : ix n d.b ≤ n) : ∀ v, v ≤ n → x v ≤ (s.relax n k j d).nu v := fun v hv => by
  unfold BF.relax
  by_cases q : s.low n d
  · rw [if_pos q]
    show x v ≤ (if v = ix n d.a then s.nu (ix n d.b) + d.g else s.nu v)
    have := h _ hb
    split
    · next e => rw [e]; omega
    · exact h v hv
  · rw [if_neg q]; exact h v hv
theorem run_ge {n k : Nat} {x : Nat → Int} : ∀ (ds : List Dm), (∀ d ∈ ds, DmOk n d) → Meets n ds x → ∀ (j : Nat) (s : BF), (∀ v, v ≤ n → x v ≤ s.nu v) → ∀ v, v ≤ n → x v ≤ (BF.run n k j ds s).nu v
  | [], _, _, _, _, h => h
  | d :: ds, ok, M, j, s, h => run_ge ds (fun e he => ok e (List.mem_cons_of_mem _ he)) (fun e he => M e (List.mem_cons_of_mem _ he)) (j + 1) _ (relax_ge (M d List.mem_cons_self) h (ix_le (ok d List.mem_cons_self).b2))
theorem go_ge {n : Nat} {ds : List Dm} {x : Nat → Int} (ok : ∀ d ∈ ds, DmOk n d) (M : Meets n ds x) {s : BF} (h : ∀ v, v ≤ n → x v ≤ s.nu v) : ∀ k v, v ≤ n → x v ≤ (BF.go n ds k s).nu v
  | 0 => h
  | k + 1 => run_ge ds ok M 0 _ (go_ge ok M h k)
theorem ix_nat {n i : Nat} : ix n ((i : Nat) : Int) = i := by
  unfold ix
  rw [if_neg (by omega), Int.toNat_natCast]
theorem ix_gr {n : Nat} : ix n (-1) = n := by
  unfold ix
  rw [if_pos (by decide)]
/-- what is told where no ring is found -/
structure Top (n : Nat) (ds : List Dm) (nu : Nat → Int) : Prop where
  gr : nu n = 0
  meets : Meets n ds nu
  top : ∀ x, Meets n ds x → x n = 0 → ∀ v, v ≤ n → x v ≤ nu v
theorem go_top {n : Nat} {ds : List Dm} {start : Int} (ok : ∀ d ∈ ds, DmOk n d) (hs : ∀ i : Nat, i < n → (⟨(i : Int), -1, start⟩ : Dm) ∈ ds) (k : Nat) (h : BF.lst n (k + 1) 0 ds (BF.go n ds k (BF.st0 n start)) none = none) : Top n ds (BF.go n ds (k + 1) (BF.st0 n start)).nu := by
  obtain ⟨h1, h2⟩ := lst_none ds 0 _ h
  have e : BF.go n ds (k + 1) (BF.st0 n start) = BF.go n ds k (BF.st0 n start) := h1
  rw [e]
  have M : Meets n ds (BF.go n ds k (BF.st0 n start)).nu := fun d hd => Int.not_lt.mp (h2 d hd)
  have low : ∀ x, Meets n ds x → x n = 0 → ∀ v, v ≤ n → x v ≤ (BF.st0 n start).nu v := fun x mx x0 v hv => by
    show x v ≤ if v < n then start else 0
    by_cases q : v < n
    · rw [if_pos q]
      have z := mx _ (hs v q)
      rw [show ix n (⟨((v : Nat) : Int), -1, start⟩ : Dm).a = v from ix_nat, show ix n (⟨((v : Nat) : Int), -1, start⟩ : Dm).b = n from ix_gr, x0] at z
      have z' : x v ≤ 0 + start := z
      omega
    · rw [if_neg q, show v = n by omega, x0]
      exact Int.le_refl _
  have top : ∀ x, Meets n ds x → x n = 0 → ∀ v, v ≤ n → x v ≤ (BF.go n ds k (BF.st0 n start)).nu v := fun x mx x0 => go_ge ok mx (low x mx x0) k
  have g0 : (BF.go n ds k (BF.st0 n start)).nu n ≤ 0 := by
    have z := go_le (n := n) (ds := ds) (s := BF.st0 n start) n k
    rw [show (BF.st0 n start).nu n = 0 from if_neg (Nat.lt_irrefl n)] at z
    exact z
  have g1 := top (fun v => (BF.go n ds k (BF.st0 n start)).nu v - (BF.go n ds k (BF.st0 n start)).nu n) (fun d hd => by
    have := M d hd
    show _ - _ ≤ _ - _ + d.g
    omega) (Int.sub_self _) n (Nat.le_refl n)
  have g2 : (BF.go n ds k (BF.st0 n start)).nu n - (BF.go n ds k (BF.st0 n start)).nu n ≤ (BF.go n ds k (BF.st0 n start)).nu n := g1
  exact ⟨by omega, M, top⟩

/-! ### the ring -/
theorem pigeon : ∀ (n : Nat) (g : Nat → Nat), (∀ i, i ≤ n + 1 → g i ≤ n) → ∃ i j, i < j ∧ j ≤ n + 1 ∧ g i = g j
  | 0, g, h => ⟨0, 1, by omega, by omega, by have := h 0 (by omega); have := h 1 (by omega); omega⟩
  | n + 1, g, h => by
    by_cases q : ∃ i, i ≤ n + 1 ∧ g i = g (n + 2)
    · obtain ⟨i, hi, e⟩ := q
      exact ⟨i, n + 2, by omega, by omega, e⟩
    · have ne : ∀ i, i ≤ n + 1 → g i ≠ g (n + 2) := fun i hi e => q ⟨i, hi, e⟩
      obtain ⟨i, j, h1, h2, h3⟩ := pigeon n (fun i => if g (n + 2) < g i then g i - 1 else g i) (fun i hi => by
        have a := h i (by omega)
        have b := h (n + 2) (by omega)
        have c := ne i hi
        show (if g (n + 2) < g i then g i - 1 else g i) ≤ n
        split <;> omega)
      refine ⟨i, j, h1, by omega, ?_⟩
      have c1 := ne i (by omega)
      have c2 := ne j (by omega)
      have h3' : (if g (n + 2) < g i then g i - 1 else g i) = (if g (n + 2) < g j then g j - 1 else g j) := h3
      split at h3' <;> split at h3' <;> omega
def cd (ds : List Dm) (s : BF) (v : Nat) : Dm := match s.cs v with
  | some j => ds.getD j ⟨0, 0, 0⟩
  | none => ⟨0, 0, 0⟩
def nx (n : Nat) (ds : List Dm) (s : BF) (v : Nat) : Nat := ix n (cd ds s v).b
def itr (n : Nat) (ds : List Dm) (s : BF) : Nat → Nat → Nat
  | 0, v => v
  | m + 1, v => nx n ds s (itr n ds s m v)
theorem itr_add {n : Nat} {ds : List Dm} {s : BF} {a v : Nat} : ∀ b, itr n ds s (a + b) v = itr n ds s b (itr n ds s a v)
  | 0 => rfl
  | b + 1 => congrArg (nx n ds s) (itr_add b)
theorem cd_at {ds : List Dm} {s : BF} {v j : Nat} {d : Dm} (h : s.cs v = some j) (e : ds[j]? = some d) : cd ds s v = d := by
  unfold cd
  rw [h]
  show ds.getD j ⟨0, 0, 0⟩ = d
  rw [List.getD_eq_getElem?_getD, e]
  rfl
/-- what is known along the causes -/
theorem Inv1.cd {n : Nat} {ds : List Dm} {s : BF} (I : Inv1 n ds s) {v : Nat} (hv : v ≤ n) (hr : 1 ≤ s.r v) : ∃ j, s.cs v = some j ∧ ds[j]? = some (cd ds s v) ∧ ix n (Ev.cd ds s v).a = v ∧ s.nu (nx n ds s v) + (Ev.cd ds s v).g ≤ s.nu v ∧ (s.nu v = s.nu (nx n ds s v) + (Ev.cd ds s v).g → s.t (nx n ds s v) < s.t v) ∧ s.r v ≤ s.r (nx n ds s v) + 1 := by
  cases e : s.cs v with
  | none =>
    have := (I.pos v hv).mp e
    omega
  | some j =>
    obtain ⟨d, h1, h2, h3, h4, h5⟩ := I.cs v j e
    have z := cd_at e h1
    refine ⟨j, rfl, ?_⟩
    unfold nx
    rw [z]
    exact ⟨h1, h2, h3, h4, h5⟩
def gsum (n : Nat) (ds : List Dm) (s : BF) : Nat → Nat → Int
  | 0, _ => 0
  | m + 1, v => gsum n ds s m v + (cd ds s (itr n ds s m v)).g
theorem tele {n : Nat} {ds : List Dm} {s : BF} (I : Inv1 n ds s) {v : Nat} : ∀ m, (∀ i, i < m → itr n ds s i v ≤ n ∧ 1 ≤ s.r (itr n ds s i v)) → s.nu (itr n ds s m v) + gsum n ds s m v ≤ s.nu v ∧ (1 ≤ m → s.nu v = s.nu (itr n ds s m v) + gsum n ds s m v → s.t (itr n ds s m v) < s.t v)
  | 0, _ => ⟨by show s.nu v + 0 ≤ s.nu v; omega, fun h => by omega⟩
  | m + 1, h => by
    obtain ⟨a, b⟩ := tele I m fun i hi => h i (by omega)
    obtain ⟨hv, hr⟩ := h m (by omega)
    obtain ⟨j, _, _, _, h3, h4, _⟩ := I.cd hv hr
    have e1 : itr n ds s (m + 1) v = nx n ds s (itr n ds s m v) := rfl
    have e2 : gsum n ds s (m + 1) v = gsum n ds s m v + (cd ds s (itr n ds s m v)).g := rfl
    rw [e1, e2]
    refine ⟨by omega, fun _ q => ?_⟩
    have h4' := h4 (by omega)
    by_cases m0 : m = 0
    · subst m0
      exact h4'
    · have := b (by omega) (by omega)
      omega
theorem cd_b {n : Nat} {ds : List Dm} (ok : ∀ d ∈ ds, DmOk n d) {s : BF} (I : Inv1 n ds s) {v : Nat} (hv : v ≤ n) (hr : 1 ≤ s.r v) : nx n ds s v ≤ n := by
  obtain ⟨j, _, h, _⟩ := I.cd hv hr
  exact ix_le (ok _ (List.mem_of_getElem? h)).b2
/-- from the one lowered last the causes lead so far -/
theorem chain_up {n : Nat} {ds : List Dm} (ok : ∀ d ∈ ds, DmOk n d) {s : BF} (I : Inv1 n ds s) {v0 : Nat} (hv : v0 ≤ n) (hr : n + 1 ≤ s.r v0) : ∀ i, i ≤ n → itr n ds s i v0 ≤ n ∧ n + 1 ≤ s.r (itr n ds s i v0) + i
  | 0, _ => ⟨hv, hr⟩
  | i + 1, h => by
    obtain ⟨a, b⟩ := chain_up ok I hv hr i (by omega)
    have c := cd_b ok I a (by omega)
    obtain ⟨j, _, _, _, _, _, h5⟩ := I.cd a (by omega)
    exact ⟨c, by show n + 1 ≤ s.r (nx n ds s (itr n ds s i v0)) + (i + 1); omega⟩
structure OnRing (n : Nat) (ds : List Dm) (s : BF) (p q : Nat) : Prop where
  q1 : 1 ≤ q
  le : q ≤ n + 1
  back : itr n ds s q p = p
  some_ : ∀ m, itr n ds s m p ≤ n ∧ 1 ≤ s.r (itr n ds s m p)
theorem on_ring {n : Nat} {ds : List Dm} (ok : ∀ d ∈ ds, DmOk n d) {s : BF} (I : Inv1 n ds s) {v0 : Nat} (hv : v0 ≤ n) (hr : n + 1 ≤ s.r v0) : ∃ q, OnRing n ds s (itr n ds s (n + 1) v0) q := by
  have up := chain_up ok I hv hr
  have le : ∀ i, i ≤ n + 1 → itr n ds s i v0 ≤ n := fun i hi => by
    by_cases q : i ≤ n
    · exact (up i q).1
    · rw [show i = n + 1 by omega]
      have z := up n (Nat.le_refl n)
      exact cd_b ok I z.1 (by omega)
  obtain ⟨i, j, hij, hj, e⟩ := pigeon n (fun i => itr n ds s i v0) le
  have e' : itr n ds s i v0 = itr n ds s j v0 := e
  have per : ∀ m, itr n ds s (i + m + (j - i)) v0 = itr n ds s (i + m) v0 := fun m => by
    rw [show i + m + (j - i) = j + m by omega, itr_add, itr_add, ← e']
  have all : ∀ m, ∃ l, l ≤ n ∧ itr n ds s (i + m) v0 = itr n ds s l v0 := by
    intro m
    induction m using Nat.strongRecOn with
    | ind m ih =>
      by_cases q : m < j - i
      · exact ⟨i + m, by omega, rfl⟩
      · obtain ⟨l, hl, el⟩ := ih (m - (j - i)) (by omega)
        refine ⟨l, hl, ?_⟩
        rw [← el, ← per (m - (j - i))]
        congr 1
        omega
  refine ⟨j - i, by omega, by omega, ?_, fun m => ?_⟩
  · rw [← itr_add]
    have z := per (n + 1 - i)
    rw [show i + (n + 1 - i) = n + 1 by omega] at z
    exact z
  · rw [← itr_add]
    obtain ⟨l, hl, el⟩ := all (n + 1 + m - i)
    rw [show i + (n + 1 + m - i) = n + 1 + m by omega] at el
    rw [el]
    have := up l hl
    exact ⟨this.1, by omega⟩
theorem OnRing.neg {n : Nat} {ds : List Dm} {s : BF} {p q : Nat} (R : OnRing n ds s p q) (I : Inv1 n ds s) : gsum n ds s q p < 0 := by
  obtain ⟨a, b⟩ := tele I q (v := p) fun i _ => R.some_ i
  rw [R.back] at a b
  have q1 := R.q1
  by_cases z : gsum n ds s q p = 0
  · have := b q1 (by omega)
    omega
  · omega
/-- a ring of demands -/
structure Ring (ds rs : List Dm) : Prop where
  ne : rs ≠ []
  of : ∀ d ∈ rs, d ∈ ds
  next : ∀ i d e, rs[i]? = some d → rs[i + 1]? = some e → d.b = e.a
  last : ∀ d e, rs[rs.length - 1]? = some d → rs[0]? = some e → d.b = e.a
  neg : (rs.map Dm.g).sum < 0
  len : rs.length ≤ 9
def ringL (n : Nat) (ds : List Dm) (s : BF) (p m : Nat) : List Dm := (List.range m).map fun i => cd ds s (itr n ds s i p)
theorem gsum_eq {n : Nat} {ds : List Dm} {s : BF} {p : Nat} : ∀ m, ((ringL n ds s p m).map Dm.g).sum = gsum n ds s m p
  | 0 => rfl
  | m + 1 => by
    unfold ringL
    rw [List.range_succ, List.map_append, List.map_append, List.sum_append]
    show ((ringL n ds s p m).map Dm.g).sum + ((cd ds s (itr n ds s m p)).g + 0) = _
    rw [gsum_eq m, Int.add_zero]
    rfl
theorem OnRing.ring {n : Nat} {ds : List Dm} (ok : ∀ d ∈ ds, DmOk n d) {s : BF} {p q : Nat} (R : OnRing n ds s p q) (I : Inv1 n ds s) (n8 : n ≤ 8) : Ring ds (ringL n ds s p q) := by
  have q1 := R.q1
  have at_ : ∀ i d, (ringL n ds s p q)[i]? = some d → i < q ∧ d = cd ds s (itr n ds s i p) := fun i d h => by
    unfold ringL at h
    rw [List.getElem?_map] at h
    by_cases hi : i < q
    · rw [List.getElem?_range hi] at h
      exact ⟨hi, (Option.some.inj h).symm⟩
    · rw [List.getElem?_eq_none (by rw [List.length_range]; omega)] at h
      cases h
  have mem : ∀ i, cd ds s (itr n ds s i p) ∈ ds ∧ ix n (cd ds s (itr n ds s i p)).a = itr n ds s i p := fun i => by
    obtain ⟨h1, h2⟩ := R.some_ i
    obtain ⟨j, _, h, h', _⟩ := I.cd h1 h2
    exact ⟨List.mem_of_getElem? h, h'⟩
  have ab : ∀ i, (cd ds s (itr n ds s i p)).b = (cd ds s (itr n ds s (i + 1) p)).a := fun i => by
    have o1 := ok _ (mem i).1
    have o2 := ok _ (mem (i + 1)).1
    exact ix_inj o1.b1 o2.a1 o1.b2 o2.a2 (mem (i + 1)).2.symm
  have len : (ringL n ds s p q).length = q := by unfold ringL; rw [List.length_map, List.length_range]
  refine ⟨fun h => ?_, fun d hd => ?_, fun i d e h1 h2 => ?_, fun d e h1 h2 => ?_, ?_, by rw [len]; have := R.le; omega⟩
  · rw [h] at len
    exact absurd len (by show ¬ 0 = q; omega)
  · obtain ⟨i, hi⟩ := List.mem_iff_getElem?.mp hd
    rw [(at_ i d hi).2]
    exact (mem i).1
  · rw [(at_ i d h1).2, (at_ (i + 1) e h2).2]
    exact ab i
  · rw [len] at h1
    rw [(at_ _ d h1).2, (at_ 0 e h2).2]
    have z := ab (q - 1)
    rw [show q - 1 + 1 = q by omega, R.back] at z
    exact z
  · rw [gsum_eq]
    exact R.neg I
end Ev

/-! demands of a hall: which points they leave -/
namespace Ev
open PySem L2 Ax
def LimAt (l : Option Int × Option Int) (r : Int) : Prop := (∀ b, l.1 = some b → b ≤ r) ∧ ∀ b, l.2 = some b → r ≤ b
theorem rowAt_lim {f r : Int} {ws : List Int} : rowAt f ws r ≠ none ↔ LimAt (some f, some (f + (ws.length : Int) - 1)) r := by
  unfold rowAt LimAt
  by_cases h : 0 ≤ r - f
  · rw [if_pos h]
    constructor
    · intro z
      have l : (r - f).toNat < ws.length := by
        apply Classical.byContradiction
        intro q
        exact z (List.getElem?_eq_none (by omega))
      exact ⟨(fun b e => by cases e; omega), (fun b e => by cases e; omega)⟩
    · rintro ⟨_, z⟩ q
      have z2 := z _ rfl
      rw [List.getElem?_eq_none_iff] at q
      omega
  · rw [if_neg h]
    constructor
    · intro z; exact absurd rfl z
    · rintro ⟨z, _⟩
      have := z _ rfl
      omega
theorem PD.lim : ∀ (p : PD) (r : Int), p.worth r ≠ none ↔ LimAt p.limits r
  | .slope .., r => ⟨fun _ => ⟨(fun _ e => nomatch e), (fun _ e => nomatch e)⟩, fun _ e => nomatch e⟩
  | .aim .., r => ⟨fun _ => ⟨(fun _ e => nomatch e), (fun _ e => nomatch e)⟩, fun _ e => nomatch e⟩
  | .square .., r => ⟨fun _ => ⟨(fun _ e => nomatch e), (fun _ e => nomatch e)⟩, fun _ e => nomatch e⟩
  | .near .., r => ⟨fun _ => ⟨(fun _ e => nomatch e), (fun _ e => nomatch e)⟩, fun _ e => nomatch e⟩
  | .row _ f ws, r => rowAt_lim
  | .gaps _ _ f ws, r => rowAt_lim
  | .wall _ lo hi, r => by
    show (if lo ≤ r ∧ r ≤ hi then some (0 : Int) else none) ≠ none ↔ LimAt (some lo, some hi) r
    by_cases h : lo ≤ r ∧ r ≤ hi
    · rw [if_pos h]
      exact ⟨fun _ => ⟨(fun b e => by cases e; exact h.1), (fun b e => by cases e; exact h.2)⟩, fun _ e => nomatch e⟩
    · rw [if_neg h]
      exact ⟨fun z => absurd rfl z, fun z => absurd ⟨z.1 _ rfl, z.2 _ rfl⟩ h⟩
  | .ahead _ _ g, r => by
    show (if r ≤ g then some (0 : Int) else none) ≠ none ↔ LimAt (none, some g) r
    by_cases h : r ≤ g
    · rw [if_pos h]
      exact ⟨fun _ => ⟨(fun _ e => (nomatch e)), (fun b e => by cases e; exact h)⟩, fun _ e => (nomatch e)⟩
    · rw [if_neg h]
      exact ⟨fun z => absurd rfl z, fun z => absurd (z.2 _ rfl) h⟩
  | .times q m, r => by
    show ((q.worth r).map fun y => m * y) ≠ none ↔ LimAt q.limits r
    rw [← PD.lim q r]
    cases q.worth r with
    | none => exact ⟨fun z => absurd rfl z, fun z => absurd rfl z⟩
    | some y => exact ⟨(fun _ e => nomatch e), (fun _ e => nomatch e)⟩
  | .moved q b, r => by
    show q.worth (r - b) ≠ none ↔ LimAt (q.limits.1.map fun y => y + b, q.limits.2.map fun y => y + b) r
    rw [PD.lim q (r - b)]
    unfold LimAt
    constructor
    · rintro ⟨h1, h2⟩
      refine ⟨fun c e => ?_, fun c e => ?_⟩
      · obtain ⟨d, e1, rfl⟩ := Option.map_eq_some_iff.mp e
        have := h1 d e1
        omega
      · obtain ⟨d, e1, rfl⟩ := Option.map_eq_some_iff.mp e
        have := h2 d e1
        omega
    · rintro ⟨h1, h2⟩
      refine ⟨fun c e => ?_, fun c e => ?_⟩
      · have := h1 (c + b) (Option.map_eq_some_iff.mpr ⟨c, e, rfl⟩)
        omega
      · have := h2 (c + b) (Option.map_eq_some_iff.mpr ⟨c, e, rfl⟩)
        omega
def optL {α : Type} : Option α → List α
  | none => []
  | some a => [a]
theorem mem_optL {α : Type} {o : Option α} {a : α} : a ∈ optL o ↔ o = some a := by
  cases o with
  | none => exact ⟨(fun h => by cases h), fun h => nomatch h⟩
  | some b => exact ⟨(fun h => by rw [List.mem_singleton.mp h]), (fun h => by cases h; exact List.mem_singleton.mpr rfl)⟩
def within (a b : Int) (l : Option Int × Option Int) : List Dm := optL (l.2.map fun g => ⟨a, b, g⟩) ++ optL (l.1.map fun g => ⟨b, a, -g⟩)
theorem mem_within {a b : Int} {l : Option Int × Option Int} {d : Dm} : d ∈ within a b l ↔ (∃ g, l.2 = some g ∧ d = ⟨a, b, g⟩) ∨ ∃ g, l.1 = some g ∧ d = ⟨b, a, -g⟩ := by
  unfold within
  rw [List.mem_append, mem_optL, mem_optL, Option.map_eq_some_iff, Option.map_eq_some_iff]
  constructor
  · rintro (⟨g, h, e⟩ | ⟨g, h, e⟩)
    · exact .inl ⟨g, h, e.symm⟩
    · exact .inr ⟨g, h, e.symm⟩
  · rintro (⟨g, h, e⟩ | ⟨g, h, e⟩)
    · exact .inl ⟨g, h, e.symm⟩
    · exact .inr ⟨g, h, e.symm⟩
theorem meets_within {n : Nat} {a b : Int} {l : Option Int × Option Int} {x : Nat → Int} : Meets n (within a b l) x ↔ LimAt l (x (ix n a) - x (ix n b)) := by
  unfold Meets LimAt
  constructor
  · intro h
    refine ⟨fun c e => ?_, fun c e => ?_⟩
    · have z := h ⟨b, a, -c⟩ (mem_within.mpr (.inr ⟨c, e, rfl⟩))
      have z' : x (ix n b) ≤ x (ix n a) + -c := z
      omega
    · have z := h ⟨a, b, c⟩ (mem_within.mpr (.inl ⟨c, e, rfl⟩))
      have z' : x (ix n a) ≤ x (ix n b) + c := z
      omega
  · rintro ⟨h1, h2⟩ d hd
    rcases mem_within.mp hd with ⟨g, e, rfl⟩ | ⟨g, e, rfl⟩
    · have := h2 g e
      show x (ix n a) ≤ x (ix n b) + g
      omega
    · have := h1 g e
      show x (ix n b) ≤ x (ix n a) + -g
      omega
def othP (p : PD) : Int := match p.stands with
  | [_, b] => b
  | _ => -1
def oneP (p : PD) : Int := p.stands.headD 0
def dmsP (p : PD) : List Dm := within (oneP p) (othP p) p.limits
def dmsE (n : Nat) (lo hi : Int) : List Dm := (List.range n).flatMap fun (i : Nat) => within (i : Int) (-1) (some lo, some hi)
def dmsH (n : Nat) (h : HD) : List Dm := dmsE n h.lo h.hi ++ h.ps.flatMap dmsP
theorem meets_app {n : Nat} {a b : List Dm} {x : Nat → Int} : Meets n (a ++ b) x ↔ Meets n a x ∧ Meets n b x :=
  ⟨fun h => ⟨fun d hd => h d (List.mem_append.mpr (.inl hd)), fun d hd => h d (List.mem_append.mpr (.inr hd))⟩, fun ⟨h1, h2⟩ d hd => (List.mem_append.mp hd).elim (h1 d) (h2 d)⟩
theorem meets_flat {α : Type} {n : Nat} {l : List α} {f : α → List Dm} {x : Nat → Int} : Meets n (l.flatMap f) x ↔ ∀ a ∈ l, Meets n (f a) x :=
  ⟨fun h a ha d hd => h d (List.mem_flatMap.mpr ⟨a, ha, hd⟩), fun h d hd => let ⟨a, ha, hd⟩ := List.mem_flatMap.mp hd; h a ha d hd⟩
/-- a point, the ground's number last -/
def xg (n : Nat) (x : List Int) : Nat → Int := fun v => if v < n then x.getD v 0 else 0
theorem xg_at {n : Nat} {x : List Int} {p : Int} (h0 : 0 ≤ p) (h1 : p < n) : xg n x (ix n p) = x.getD p.toNat 0 := by
  have e : ix n p = p.toNat := by unfold ix; rw [if_neg (by omega)]
  unfold xg
  rw [e, if_pos (by omega)]
theorem xg_gr {n : Nat} {x : List Int} : xg n x (ix n (-1)) = 0 := by
  rw [ix_gr]
  exact if_neg (Nat.lt_irrefl n)
theorem oneP_mem (p : PD) : oneP p ∈ p.stands := by
  unfold oneP
  rcases stands_shape p with ⟨a, e⟩ | ⟨a, b, e⟩ <;> rw [e] <;> simp
theorem read_xg {p : PD} {n : Nat} {x : List Int} (hst : ∀ s ∈ p.stands, 0 ≤ s ∧ s < (n : Int)) : xg n x (ix n (oneP p)) - xg n x (ix n (othP p)) = readPD p x := by
  unfold oneP othP readPD
  rcases stands_shape p with ⟨a, e⟩ | ⟨a, b, e⟩
  · obtain ⟨h0, h1⟩ := hst a (by rw [e]; simp)
    rw [e]
    show xg n x (ix n a) - xg n x (ix n (-1)) = x.getD a.toNat 0
    rw [xg_gr, xg_at h0 h1, Int.sub_zero]
  · obtain ⟨h0, h1⟩ := hst a (by rw [e]; simp)
    obtain ⟨g0, g1⟩ := hst b (by rw [e]; simp)
    rw [e]
    show xg n x (ix n a) - xg n x (ix n b) = x.getD a.toNat 0 - x.getD b.toNat 0
    rw [xg_at h0 h1, xg_at g0 g1]
theorem sumR_some {x : List Int} : ∀ {ps : List PD}, sumR ps x ≠ none ↔ ∀ p ∈ ps, p.worth (readPD p x) ≠ none
  | [] => ⟨(fun _ p h => by cases h), fun _ e => nomatch e⟩
  | p :: r => by
    show ((p.worth (readPD p x)).bind fun w => (sumR r x).map fun t => w + t) ≠ none ↔ _
    rw [List.forall_mem_cons, ← sumR_some (ps := r)]
    cases p.worth (readPD p x) with
    | none => exact ⟨fun h => absurd rfl h, fun h => absurd rfl h.1⟩
    | some w =>
      cases sumR r x with
      | none => exact ⟨fun h => absurd rfl h, fun h => absurd rfl h.2⟩
      | some t => exact ⟨fun _ => ⟨fun e => (nomatch e), fun e => (nomatch e)⟩, fun _ e => nomatch e⟩
/-- a point isn't barred just if it meets all demands -/
theorem free_meets {h : HD} (ok : h.ok) {n : Nat} (hn : h.many = (n : Int)) {x : List Int} (hx : x.length = n) : h.worth x ≠ none ↔ Meets n (dmsH n h) (xg n x) := by
  unfold dmsH dmsE
  rw [meets_app, meets_flat, meets_flat]
  have e1 : (∀ i ∈ List.range n, Meets n (within ((i : Nat) : Int) (-1) (some h.lo, some h.hi)) (xg n x)) ↔ Inside h.lo h.hi x := by
    constructor
    · intro z y hy
      obtain ⟨i, hi, rfl⟩ := mem_getD hy
      have q := meets_within.mp (z i (List.mem_range.mpr (by omega)))
      rw [xg_gr, xg_at (by omega) (by omega), Int.toNat_natCast, Int.sub_zero] at q
      exact ⟨q.1 _ rfl, q.2 _ rfl⟩
    · intro z i hi
      have hi := List.mem_range.mp hi
      rw [meets_within, xg_gr, xg_at (by omega) (by omega), Int.toNat_natCast, Int.sub_zero]
      have q := z _ (getD_mem (x := x) (i := i) (by omega))
      exact ⟨(fun b e => by cases e; exact q.1), (fun b e => by cases e; exact q.2)⟩
  rw [e1]
  unfold HD.worth
  have e2 : (∀ p ∈ h.ps, Meets n (dmsP p) (xg n x)) ↔ sumR h.ps x ≠ none := by
    rw [sumR_some]
    refine forall_congr' fun p => forall_congr' fun hp => ?_
    unfold dmsP
    rw [meets_within, read_xg (fun s hs => by rw [← hn]; exact ok.pl p hp s hs), PD.lim]
  rw [e2]
  by_cases q : Inside h.lo h.hi x
  · rw [if_pos q, sumW_eq]
    exact ⟨fun z => ⟨q, z⟩, fun z => z.2⟩
  · rw [if_neg q]
    exact ⟨fun z => absurd rfl z, fun z => absurd z.1 q⟩
theorem dmsH_ok {h : HD} (ok : h.ok) {n : Nat} (hn : h.many = (n : Int)) (hne : ∀ p ∈ h.ps, ∀ i j, p.stands = [i, j] → i ≠ j) : ∀ d ∈ dmsH n h, DmOk n d := fun d hd => by
  have key : ∀ (a b : Int) (l : Option Int × Option Int), 0 ≤ a → a < n → -1 ≤ b → b < n → a ≠ b → d ∈ within a b l → DmOk n d := fun a b l h1 h2 h3 h4 h5 hw => by
    rcases mem_within.mp hw with ⟨g, _, rfl⟩ | ⟨g, _, rfl⟩
    · exact ⟨by show -1 ≤ a; omega, h2, h3, h4, h5⟩
    · exact ⟨h3, h4, by show -1 ≤ a; omega, h2, h5.symm⟩
  unfold dmsH dmsE at hd
  rcases List.mem_append.mp hd with z | z
  · obtain ⟨i, hi, hw⟩ := List.mem_flatMap.mp z
    have hi := List.mem_range.mp hi
    exact key _ _ _ (by omega) (by omega) (by omega) (by omega) (by omega) hw
  · obtain ⟨p, hp, hw⟩ := List.mem_flatMap.mp z
    have hpl := ok.pl p hp
    rw [hn] at hpl
    unfold dmsP at hw
    rcases stands_shape p with ⟨a, e⟩ | ⟨a, b, e⟩
    · obtain ⟨h0, h1⟩ := hpl a (by rw [e]; simp)
      have eo : oneP p = a := by unfold oneP; rw [e]; rfl
      have et : othP p = -1 := by unfold othP; rw [e]
      rw [eo, et] at hw
      exact key _ _ _ h0 h1 (by omega) (by omega) (by omega) hw
    · obtain ⟨h0, h1⟩ := hpl a (by rw [e]; simp)
      obtain ⟨g0, g1⟩ := hpl b (by rw [e]; simp)
      have eo : oneP p = a := by unfold oneP; rw [e]; rfl
      have et : othP p = b := by unfold othP; rw [e]
      rw [eo, et] at hw
      exact key _ _ _ h0 h1 (by omega) g1 (hne p hp a b e) hw
def turn (d : Dm) : Dm := ⟨d.b, d.a, d.g⟩
theorem turn_ok {n : Nat} {d : Dm} (h : DmOk n d) : DmOk n (turn d) := ⟨h.b1, h.b2, h.a1, h.a2, h.ne.symm⟩
theorem meets_turn {n : Nat} {ds : List Dm} {x : Nat → Int} : Meets n (ds.map turn) x ↔ Meets n ds fun v => - x v := by
  constructor
  · intro h d hd
    have z := h _ (List.mem_map.mpr ⟨d, hd, rfl⟩)
    have z' : x (ix n d.b) ≤ x (ix n d.a) + d.g := z
    show - x (ix n d.a) ≤ - x (ix n d.b) + d.g
    omega
  · intro h d hd
    obtain ⟨e, he, rfl⟩ := List.mem_map.mp hd
    have z := h e he
    have z' : - x (ix n e.a) ≤ - x (ix n e.b) + e.g := z
    show x (ix n e.b) ≤ x (ix n e.a) + e.g
    omega
theorem dmsH_hi {h : HD} {n i : Nat} (hi : i < n) : (⟨(i : Int), -1, h.hi⟩ : Dm) ∈ dmsH n h := by
  unfold dmsH dmsE
  exact List.mem_append.mpr (.inl (List.mem_flatMap.mpr ⟨i, List.mem_range.mpr hi, mem_within.mpr (.inl ⟨h.hi, rfl, rfl⟩)⟩))
theorem dmsH_lo {h : HD} {n i : Nat} (hi : i < n) : (⟨(i : Int), -1, -h.lo⟩ : Dm) ∈ (dmsH n h).map turn := by
  unfold dmsH dmsE
  exact List.mem_map.mpr ⟨⟨-1, (i : Int), -h.lo⟩, List.mem_append.mpr (.inl (List.mem_flatMap.mpr ⟨i, List.mem_range.mpr hi, mem_within.mpr (.inr ⟨h.lo, rfl, rfl⟩)⟩)), rfl⟩
theorem xg_list {n : Nat} {nu : Nat → Int} (h : nu n = 0) : ∀ v, v ≤ n → xg n ((List.range n).map nu) v = nu v := fun v hv => by
  unfold xg
  by_cases q : v < n
  · rw [if_pos q, getD_map2 (d := 0) (by rw [List.length_range]; exact q)]
    congr 1
    simp [List.getD_eq_getElem?_getD, List.getElem?_range q]
  · rw [if_neg q, show v = n by omega, h]
theorem meets_congr {n : Nat} {ds : List Dm} (ok : ∀ d ∈ ds, DmOk n d) {x y : Nat → Int} (e : ∀ v, v ≤ n → x v = y v) (h : Meets n ds x) : Meets n ds y := fun d hd => by
  rw [← e _ (ix_le (ok d hd).a2), ← e _ (ix_le (ok d hd).b2)]
  exact h d hd
/-- the highest free point -/
theorem top_free {h : HD} (ok : h.ok) {n : Nat} (hn : h.many = (n : Int)) (okd : ∀ d ∈ dmsH n h, DmOk n d) {nu : Nat → Int} (T : Top n (dmsH n h) nu) : h.worth ((List.range n).map nu) ≠ none ∧ ∀ x, x.length = n → h.worth x ≠ none → ∀ i, i < n → x.getD i 0 ≤ ((List.range n).map nu).getD i 0 := by
  have len : ((List.range n).map nu).length = n := by rw [List.length_map, List.length_range]
  refine ⟨(free_meets ok hn len).mpr (meets_congr okd (fun v hv => (xg_list T.gr v hv).symm) T.meets), fun x hx hw i hi => ?_⟩
  have z := T.top (xg n x) ((free_meets ok hn hx).mp hw) (if_neg (Nat.lt_irrefl n)) i (by omega)
  rw [← xg_list T.gr i (by omega)] at z
  unfold xg at z
  rw [if_pos hi, if_pos hi] at z
  exact z
theorem bot_free {h : HD} (ok : h.ok) {n : Nat} (hn : h.many = (n : Int)) (okd : ∀ d ∈ dmsH n h, DmOk n d) {nu : Nat → Int} (T : Top n ((dmsH n h).map turn) nu) : h.worth ((List.range n).map fun v => - nu v) ≠ none ∧ ∀ x, x.length = n → h.worth x ≠ none → ∀ i, i < n → ((List.range n).map fun v => - nu v).getD i 0 ≤ x.getD i 0 := by
  have len : ((List.range n).map fun v => - nu v).length = n := by rw [List.length_map, List.length_range]
  have gr : (fun v => - nu v) n = 0 := by show - nu n = 0; rw [T.gr]; rfl
  refine ⟨(free_meets ok hn len).mpr (meets_congr okd (fun v hv => (xg_list gr v hv).symm) (meets_turn.mp T.meets)), fun x hx hw i hi => ?_⟩
  have z := T.top (fun v => - xg n x v) (meets_turn.mpr (by
    have q := (free_meets ok hn hx).mp hw
    intro d hd
    have q2 := q d hd
    show - - xg n x _ ≤ - - xg n x _ + d.g
    omega)) (by show - xg n x n = 0; rw [show xg n x n = 0 from if_neg (Nat.lt_irrefl n)]; rfl) i (by omega)
  have e := xg_list (n := n) (nu := fun v => - nu v) gr i (by omega)
  unfold xg at z e
  rw [if_pos hi] at z e
  rw [e]
  show - nu i ≤ _
  have z' : - x.getD i 0 ≤ nu i := z
  omega
/-- a ring leaves no point -/
theorem ring_path {n : Nat} {ds : List Dm} {x : Nat → Int} (M : Meets n ds x) : ∀ (rs : List Dm) (d : Dm), d ∈ ds → (∀ e ∈ rs, e ∈ ds) → (∀ i a b, (d :: rs)[i]? = some a → (d :: rs)[i + 1]? = some b → a.b = b.a) → ∃ l, (d :: rs)[rs.length]? = some l ∧ x (ix n d.a) ≤ x (ix n l.b) + ((d :: rs).map Dm.g).sum
  | [], d, hd, _, _ => ⟨d, rfl, by
    have := M d hd
    show _ ≤ _ + (d.g + 0)
    omega⟩
  | e :: rs, d, hd, h, nxt => by
    obtain ⟨l, hl, z⟩ := ring_path M rs e (h e List.mem_cons_self) (fun f hf => h f (List.mem_cons_of_mem _ hf)) (fun i a b h1 h2 => nxt (i + 1) a b h1 h2)
    refine ⟨l, hl, ?_⟩
    have q := nxt 0 d e rfl rfl
    have := M d hd
    rw [q] at this
    rw [List.map_cons, List.sum_cons]
    omega
theorem Ring.none {n : Nat} {ds rs : List Dm} (R : Ring ds rs) {x : Nat → Int} (M : Meets n ds x) : False := by
  cases rs with
  | nil => exact R.ne rfl
  | cons d r =>
    obtain ⟨l, hl, z⟩ := ring_path M r d (R.of d List.mem_cons_self) (fun e he => R.of e (List.mem_cons_of_mem _ he)) R.next
    have q := R.last l d (by rw [List.length_cons, Nat.add_sub_cancel]; exact hl) rfl
    rw [q] at z
    have := R.neg
    omega
end Ev

/-! least points; walks by best sets and where they end -/
namespace Ev
open PySem L2 Ax
theorem list_min : ∀ (l : List Int), l ≠ [] → ∃ m ∈ l, ∀ y ∈ l, m ≤ y
  | [], h => absurd rfl h
  | [a], _ => ⟨a, List.mem_singleton.mpr rfl, fun y hy => by rw [List.mem_singleton.mp hy]; exact Int.le_refl _⟩
  | a :: b :: l, _ => by
    obtain ⟨m, hm, h⟩ := list_min (b :: l) (by simp)
    by_cases q : a ≤ m
    · refine ⟨a, List.mem_cons_self, fun y hy => ?_⟩
      rcases List.mem_cons.mp hy with e | e
      · rw [e]; exact Int.le_refl _
      · exact Int.le_trans q (h y e)
    · refine ⟨m, List.mem_cons_of_mem _ hm, fun y hy => ?_⟩
      rcases List.mem_cons.mp hy with e | e
      · rw [e]; omega
      · exact h y e
def box (lo : Int) (k : Nat) : Nat → List (List Int)
  | 0 => [[]]
  | n + 1 => (box lo k n).flatMap fun p => (List.range k).map fun (i : Nat) => (lo + (i : Int)) :: p
theorem mem_box {lo : Int} {k : Nat} : ∀ (n : Nat) (x : List Int), x.length = n → (∀ y ∈ x, lo ≤ y ∧ y < lo + k) → x ∈ box lo k n
  | 0, x, h, _ => by rw [List.length_eq_zero_iff.mp h]; exact List.mem_singleton.mpr rfl
  | n + 1, [], h, _ => by cases h
  | n + 1, y :: x, h, b => by
    have q := b y List.mem_cons_self
    refine List.mem_flatMap.mpr ⟨x, mem_box n x (Nat.succ.inj h) fun z hz => b z (List.mem_cons_of_mem _ hz), List.mem_map.mpr ⟨(y - lo).toNat, List.mem_range.mpr (by omega), ?_⟩⟩
    rw [show lo + (((y - lo).toNat : Nat) : Int) = y by omega]
theorem worth_in {h : HD} {x : List Int} {v : Int} (e : h.worth x = some v) : Inside h.lo h.hi x := by
  unfold HD.worth at e
  by_cases z : Inside h.lo h.hi x
  · exact z
  · rw [if_neg z] at e; cases e
theorem has_least {h : HD} {n : Nat} {x : List Int} {v : Int} (hx : x.length = n) (hv : h.worth x = some v) : ∃ m y, y.length = n ∧ h.worth y = some m ∧ ∀ p z, p.length = n → h.worth p = some z → m ≤ z := by
  have mem : ∀ p z, p.length = n → h.worth p = some z → z ∈ ((box h.lo (h.hi - h.lo + 1).toNat n).filter fun p => decide (p.length = n)).filterMap h.worth := fun p z hp hz => by
    refine List.mem_filterMap.mpr ⟨p, List.mem_filter.mpr ⟨mem_box n p hp fun y hy => ?_, decide_eq_true hp⟩, hz⟩
    have := worth_in hz y hy
    omega
  obtain ⟨m, hm, hmin⟩ := list_min _ (List.ne_nil_of_mem (mem x v hx hv))
  obtain ⟨y, hy, e⟩ := List.mem_filterMap.mp hm
  exact ⟨m, y, of_decide_eq_true (List.mem_filter.mp hy).2, e, fun p z hp hz => hmin z (mem p z hp hz)⟩
/-- the least worth -/
structure IsMin (h : HD) (n : Nat) (m : Int) : Prop where
  ex : ∃ y, y.length = n ∧ h.worth y = some m
  le : ∀ p z, p.length = n → h.worth p = some z → m ≤ z
/-- the lowest and the highest least point, and their worth -/
structure IsLst (h : HD) (n : Nat) (xl xh : List Int) (m : Int) : Prop where
  ll : xl.length = n
  lh : xh.length = n
  wl : h.worth xl = some m
  wh : h.worth xh = some m
  le : ∀ p z, p.length = n → h.worth p = some z → m ≤ z
  lo : ∀ y, y.length = n → h.worth y = some m → ∀ i, i < n → xl.getD i 0 ≤ y.getD i 0
  hi : ∀ y, y.length = n → h.worth y = some m → ∀ i, i < n → y.getD i 0 ≤ xh.getD i 0
/-- raised by the least best set, a point stays below each least point that it is below -/
theorem keep_up {h : HD} (ok : h.ok) {x y : List Int} (hn : (x.length : Int) = h.many) {S : Nat → Bool} {m v : Int} (hS : h.worth (mvd x S 1) = some v) (hmin : ∀ U : Nat → Bool, ∀ z, h.worth (mvd x U 1) = some z → v ≤ z)
    (hsub : ∀ U : Nat → Bool, h.worth (mvd x U 1) = some v → ∀ i, i < x.length → S i = true → U i = true)
    (hy : h.worth y = some m) (hm : ∀ p z, p.length = x.length → h.worth p = some z → m ≤ z) (hl : y.length = x.length) (ge : ∀ i, i < x.length → x.getD i 0 ≤ y.getD i 0) : ∀ i, i < x.length → (mvd x S 1).getD i 0 ≤ y.getD i 0 := by
  have lz := mvd_len x S 1
  have lzy : (mvd x S 1).length = y.length := by rw [lz, hl]
  obtain ⟨c, e, hc, he, hce⟩ := HD.even ok (by rw [lz]; exact hn) (Btw.meet lzy) hS hy
  have em : ((mvd x S 1).zip y).map (fun q => minI q.1 q.2) = mvd x (fun i => S i && decide (x.getD i 0 + 1 ≤ y.getD i 0)) 1 := by
    refine ext_getD (by rw [mvd_len, List.length_map, List.length_zip, ← lzy, Nat.min_self, lz]) fun i hi => ?_
    rw [List.length_map, List.length_zip, ← lzy, Nat.min_self, lz] at hi
    rw [zip_getD lzy (by omega), mvd_at hi, mvd_at hi]
    exact ar1 _ _ _ (ge i hi)
  rw [em] at hc
  have c1 := hmin _ _ hc
  have e1 := hm _ _ (by rw [List.length_map, List.length_zip, ← lzy, Nat.min_self, lz]) he
  have cv : c = v := by omega
  subst cv
  have sub := hsub _ hc
  intro i hi
  rw [mvd_at hi]
  cases q : S i with
  | false => rw [if_neg (by simp)]; have := ge i hi; omega
  | true =>
    have z := sub i hi q
    rw [q, Bool.true_and] at z
    have := of_decide_eq_true z
    rw [if_pos rfl]
    exact this
theorem keep_down {h : HD} (ok : h.ok) {x y : List Int} (hn : (x.length : Int) = h.many) {S : Nat → Bool} {m v : Int} (hS : h.worth (mvd x S (-1)) = some v) (hmin : ∀ U : Nat → Bool, ∀ z, h.worth (mvd x U (-1)) = some z → v ≤ z)
    (hsub : ∀ U : Nat → Bool, h.worth (mvd x U (-1)) = some v → ∀ i, i < x.length → S i = true → U i = true)
    (hy : h.worth y = some m) (hm : ∀ p z, p.length = x.length → h.worth p = some z → m ≤ z) (hl : y.length = x.length) (ge : ∀ i, i < x.length → y.getD i 0 ≤ x.getD i 0) : ∀ i, i < x.length → y.getD i 0 ≤ (mvd x S (-1)).getD i 0 := by
  have lz := mvd_len x S (-1)
  have lzy : (mvd x S (-1)).length = y.length := by rw [lz, hl]
  obtain ⟨c, e, hc, he, hce⟩ := HD.even ok (by rw [lz]; exact hn) (Btw.meet lzy) hS hy
  have em : ((mvd x S (-1)).zip y).map (fun q => maxI q.1 q.2) = mvd x (fun i => S i && decide (y.getD i 0 + 1 ≤ x.getD i 0)) (-1) := by
    refine ext_getD (by rw [mvd_len, List.length_map, List.length_zip, ← lzy, Nat.min_self, lz]) fun i hi => ?_
    rw [List.length_map, List.length_zip, ← lzy, Nat.min_self, lz] at hi
    rw [zip_getD lzy (by omega), mvd_at hi, mvd_at hi]
    exact br1 _ _ _ (ge i hi)
  rw [em] at he
  have c1 := hmin _ _ he
  have e1 := hm _ _ (by rw [List.length_map, List.length_zip, ← lzy, Nat.min_self, lz]) hc
  have cv : e = v := by omega
  subst cv
  have sub := hsub _ he
  intro i hi
  rw [mvd_at hi]
  cases q : S i with
  | false => rw [if_neg (by simp)]; have := ge i hi; omega
  | true =>
    have z := sub i hi q
    rw [q, Bool.true_and] at z
    have := of_decide_eq_true z
    rw [if_pos rfl]
    omega
/-- a walk by told sets -/
inductive Wk (n : Nat) (h : HD) (way : Int) (x : List Int) : List Nat → List Int → Prop
  | nil : Wk n h way x [] x
  | snoc {cs : List Nat} {y : List Int} {v : Int} {c : Nat} : Wk n h way x cs y → BestOf n h y way v c → (∃ i, i < n ∧ c.testBit i = true) → Wk n h way x (cs ++ [c]) (mvd y (Nat.testBit c) way)
theorem Wk.len {n : Nat} {h : HD} {way : Int} {x y : List Int} {cs : List Nat} (W : Wk n h way x cs y) (hx : x.length = n) : y.length = n := by
  induction W with
  | nil => exact hx
  | snoc _ _ _ ih => rw [mvd_len]; exact ih
theorem Wk.free {n : Nat} {h : HD} {way : Int} {x y : List Int} {cs : List Nat} (W : Wk n h way x cs y) (hx : ∃ w, h.worth x = some w) : ∃ w, h.worth y = some w := by
  cases W with
  | nil => exact hx
  | snoc _ B _ => exact ⟨_, B.at_⟩
theorem Wk.keepUp {n : Nat} {h : HD} (ok : h.ok) {x y z : List Int} {cs : List Nat} {m : Int} (W : Wk n h 1 x cs y) (hx : x.length = n) (hn : (n : Int) = h.many) (hz : h.worth z = some m) (hm : ∀ p w, p.length = n → h.worth p = some w → m ≤ w) (hl : z.length = n) (ge : ∀ i, i < n → x.getD i 0 ≤ z.getD i 0) : ∀ i, i < n → y.getD i 0 ≤ z.getD i 0 := by
  induction W with
  | nil => exact ge
  | snoc W0 B _ ih =>
    have l := W0.len hx
    have q := keep_up ok (by rw [l]; exact hn) B.at_ B.min (by rw [l]; exact B.sub) hz (by rw [l]; exact hm) (by rw [l]; exact hl) (by rw [l]; exact ih)
    rw [l] at q
    exact q
theorem Wk.keepDn {n : Nat} {h : HD} (ok : h.ok) {x y z : List Int} {cs : List Nat} {m : Int} (W : Wk n h (-1) x cs y) (hx : x.length = n) (hn : (n : Int) = h.many) (hz : h.worth z = some m) (hm : ∀ p w, p.length = n → h.worth p = some w → m ≤ w) (hl : z.length = n) (ge : ∀ i, i < n → z.getD i 0 ≤ x.getD i 0) : ∀ i, i < n → z.getD i 0 ≤ y.getD i 0 := by
  induction W with
  | nil => exact ge
  | snoc W0 B _ ih =>
    have l := W0.len hx
    have q := keep_down ok (by rw [l]; exact hn) B.at_ B.min (by rw [l]; exact B.sub) hz (by rw [l]; exact hm) (by rw [l]; exact hl) (by rw [l]; exact ih)
    rw [l] at q
    exact q
theorem ahd_of {h : HD} (ok : h.ok) {n : Nat} {x z : List Int} {v m : Int} (hx : x.length = n) (hz : z.length = n) (wx : h.worth x = some v) (wz : h.worth z = some m) (ge : ∀ i, i < n → x.getD i 0 ≤ z.getD i 0) : Ahd x z ((100 : Nat) : Int) := by
  refine ⟨by rw [hx, hz], by rw [hx]; exact ge, fun i hi => ?_⟩
  have a := worth_in wx _ (getD_mem (x := x) (i := i) hi)
  have b := worth_in wz _ (getD_mem (x := z) (i := i) (by omega))
  have := ok.l
  have := ok.u
  omega
/-- where no set betters it and a least point is ahead, it is least -/
theorem end_up {h : HD} (ok : h.ok) {n : Nat} {y z : List Int} {v m : Int} (hn : (n : Int) = h.many) (hy : y.length = n) (wy : h.worth y = some v) (hmin : ∀ U : Nat → Bool, ∀ w, h.worth (mvd y U 1) = some w → v ≤ w) (hl : z.length = n) (hz : h.worth z = some m) (hm : ∀ p w, p.length = n → h.worth p = some w → m ≤ w) (ge : ∀ i, i < n → y.getD i 0 ≤ z.getD i 0) : v = m :=
  climb_end ok (by rw [hy]; exact hn) wy hmin (by rw [hy]; exact hm) 100 z hz (ahd_of ok hy hl wy hz ge)
theorem end_down {h : HD} (ok : h.ok) {n : Nat} {y z : List Int} {v m : Int} (hn : (n : Int) = h.many) (hy : y.length = n) (wy : h.worth y = some v) (hmin : ∀ U : Nat → Bool, ∀ w, h.worth (mvd y U (-1)) = some w → v ≤ w) (hl : z.length = n) (hz : h.worth z = some m) (hm : ∀ p w, p.length = n → h.worth p = some w → m ≤ w) (ge : ∀ i, i < n → z.getD i 0 ≤ y.getD i 0) : v = m :=
  fall_end ok (by rw [hy]; exact hn) wy hmin (by rw [hy]; exact hm) 100 z hz (ahd_of ok hl hy hz wy ge)
/-- an empty told set: nothing betters it -/
theorem BestOf.empty {n : Nat} {h : HD} {y : List Int} {way v : Int} {c : Nat} (B : BestOf n h y way v c) (hy : y.length = n) (e : ¬ ∃ i, i < n ∧ c.testBit i = true) : h.worth y = some v := by
  have z := B.at_
  rw [mvd_congr (T := fun _ => false) fun i hi => by
    cases q : c.testBit i with
    | false => rfl
    | true => exact absurd ⟨i, by omega, q⟩ e, mvd_none] at z
  exact z
/-- how far a point may still be moved -/
def roomOf (h : HD) (way : Int) (y : List Int) : Nat := ((List.range y.length).map fun i => (if way = 1 then h.hi - y.getD i 0 else y.getD i 0 - h.lo).toNat).sum
theorem sum_lt {f g : Nat → Nat} : ∀ n, (∀ i, i < n → f i ≤ g i) → (∃ i, i < n ∧ f i < g i) → ((List.range n).map f).sum < ((List.range n).map g).sum
  | 0, _, ⟨i, h, _⟩ => by omega
  | n + 1, h, ⟨i, hi, hl⟩ => by
    rw [List.range_succ, List.map_append, List.map_append, List.sum_append, List.sum_append]
    show _ + (f n + 0) < _ + (g n + 0)
    have key : ∀ k, (∀ i, i < k → f i ≤ g i) → ((List.range k).map f).sum ≤ ((List.range k).map g).sum := fun k => by
      induction k with
      | zero => intro _; exact Nat.le_refl _
      | succ k ih =>
        intro hk
        rw [List.range_succ, List.map_append, List.map_append, List.sum_append, List.sum_append]
        show _ + (f k + 0) ≤ _ + (g k + 0)
        have := ih fun i hi => hk i (by omega)
        have := hk k (by omega)
        omega
    by_cases q : i = n
    · subst q
      have := key i fun j hj => h j (by omega)
      omega
    · have := sum_lt n (fun j hj => h j (by omega)) ⟨i, by omega, hl⟩
      have := h n (by omega)
      omega
theorem room_lt {h : HD} {y : List Int} {way v : Int} {n c : Nat} (hw : way = 1 ∨ way = -1) (hy : y.length = n) (e : h.worth (mvd y (Nat.testBit c) way) = some v) (hc : ∃ i, i < n ∧ c.testBit i = true) : roomOf h way (mvd y (Nat.testBit c) way) < roomOf h way y := by
  unfold roomOf
  rw [mvd_len, hy]
  have ins := worth_in e
  have at_ : ∀ i, i < n → (mvd y (Nat.testBit c) way).getD i 0 = y.getD i 0 + (if c.testBit i then way else 0) := fun i hi => mvd_at (by omega)
  have bd : ∀ i, i < n → h.lo ≤ (mvd y (Nat.testBit c) way).getD i 0 ∧ (mvd y (Nat.testBit c) way).getD i 0 ≤ h.hi := fun i hi => ins _ (getD_mem (by rw [mvd_len]; omega))
  obtain ⟨i, hi, ht⟩ := hc
  refine sum_lt n (fun j hj => ?_) ⟨i, hi, ?_⟩
  · have a := at_ j hj
    have b := bd j hj
    generalize (mvd y (Nat.testBit c) way).getD j 0 = g at a b ⊢
    cases q : c.testBit j with
    | false =>
      rw [q, if_neg (by simp), Int.add_zero] at a
      rw [a]
      exact Nat.le_refl _
    | true =>
      rw [q, if_pos rfl] at a
      rcases hw with rfl | rfl
      · rw [if_pos rfl, if_pos rfl]; omega
      · rw [if_neg (by decide), if_neg (by decide)]; omega
  · have a := at_ i hi
    have b := bd i hi
    generalize (mvd y (Nat.testBit c) way).getD i 0 = g at a b ⊢
    rw [ht, if_pos rfl] at a
    rcases hw with rfl | rfl
    · rw [if_pos rfl, if_pos rfl]; omega
    · rw [if_neg (by decide), if_neg (by decide)]; omega
/-- raised (lowered) from the lowest (highest) free point by told sets to the end: the lowest (highest) least point -/
theorem is_lst {h : HD} (ok : h.ok) {n : Nat} (hn : (n : Int) = h.many) {x0 x1 y0 y1 : List Int} {c0 c1 : List Nat} (l0 : x0.length = n) (l1 : x1.length = n) (f0 : h.worth x0 ≠ none) (f1 : h.worth x1 ≠ none)
    (b0 : ∀ x, x.length = n → h.worth x ≠ none → ∀ i, i < n → x0.getD i 0 ≤ x.getD i 0) (b1 : ∀ x, x.length = n → h.worth x ≠ none → ∀ i, i < n → x.getD i 0 ≤ x1.getD i 0)
    (W0 : Wk n h 1 x0 c0 y0) (W1 : Wk n h (-1) x1 c1 y1) {v0 v1 : Int} (e0 : h.worth y0 = some v0) (e1 : h.worth y1 = some v1) (m0 : ∀ U : Nat → Bool, ∀ w, h.worth (mvd y0 U 1) = some w → v0 ≤ w) (m1 : ∀ U : Nat → Bool, ∀ w, h.worth (mvd y1 U (-1)) = some w → v1 ≤ w) : IsLst h n y0 y1 v0 := by
  have fx : ∃ w, h.worth x0 = some w := by
    cases q : h.worth x0 with
    | none => exact absurd q f0
    | some w => exact ⟨w, rfl⟩
  obtain ⟨w, hw⟩ := fx
  obtain ⟨m, z, lz, wz, hm⟩ := has_least l0 hw
  have some_ : ∀ {p : List Int} {v : Int}, h.worth p = some v → h.worth p ≠ none := fun e q => by rw [e] at q; cases q
  have lo : ∀ y, y.length = n → h.worth y = some m → ∀ i, i < n → y0.getD i 0 ≤ y.getD i 0 := fun y ly wy => W0.keepUp ok l0 hn wy hm ly (b0 y ly (some_ wy))
  have hi : ∀ y, y.length = n → h.worth y = some m → ∀ i, i < n → y.getD i 0 ≤ y1.getD i 0 := fun y ly wy => W1.keepDn ok l1 hn wy hm ly (b1 y ly (some_ wy))
  have q0 := end_up ok hn (W0.len l0) e0 m0 lz wz hm (lo z lz wz)
  have q1 := end_down ok hn (W1.len l1) e1 m1 lz wz hm (hi z lz wz)
  subst q0
  subst q1
  exact ⟨W0.len l0, W1.len l1, e0, e1, hm, lo, hi⟩

/-! ### steps by any best sets -/
inductive Any (h : HD) (way : Int) : List Int → Nat → List Int → Prop
  | stop {x : List Int} {v : Int} : h.worth x = some v → (∀ U : Nat → Bool, ∀ z, h.worth (mvd x U way) = some z → v ≤ z) → Any h way x 0 x
  | step {x y : List Int} {S : Nat → Bool} {v w : Int} {k : Nat} : h.worth x = some w → v < w → h.worth (mvd x S way) = some v → (∀ U : Nat → Bool, ∀ z, h.worth (mvd x U way) = some z → v ≤ z) → Any h way (mvd x S way) k y → Any h way x (k + 1) y
theorem Wk.any {n : Nat} {h : HD} {way : Int} {x y z : List Int} {cs : List Nat} {k : Nat} (hx : x.length = n) (fx : ∃ w, h.worth x = some w) (W : Wk n h way x cs y) (A : Any h way y k z) : Any h way x (cs.length + k) z := by
  induction W generalizing k with
  | nil => rw [show ([] : List Nat).length + k = k from Nat.zero_add k]; exact A
  | snoc W0 B hc ih =>
    rename_i cs0 y0 v c
    obtain ⟨w, hw⟩ := W0.free fx
    have l := W0.len hx
    have lt : v < w := by
      have q := B.min (fun _ => false) w (by rw [mvd_none]; exact hw)
      apply Classical.byContradiction
      intro nl
      have e : w = v := by omega
      subst e
      obtain ⟨i, hi, ht⟩ := hc
      have := B.sub (fun _ => false) (by rw [mvd_none]; exact hw) i hi ht
      cases this
    have z := ih (Any.step hw lt B.at_ B.min A)
    rw [List.length_append, show cs0.length + [c].length + k = cs0.length + (k + 1) by show cs0.length + 1 + k = _; omega]
    exact z
theorem nat_least {p : Nat → Prop} : ∀ n, p n → ∃ k, p k ∧ ∀ j, p j → k ≤ j := by
  intro n
  induction n using Nat.strongRecOn with
  | ind n ih =>
    intro hn
    by_cases q : ∃ j, j < n ∧ p j
    · obtain ⟨j, hj, pj⟩ := q
      exact ih j hj pj
    · exact ⟨n, hn, fun j pj => Nat.le_of_not_lt fun hl => q ⟨j, hl, pj⟩⟩
theorem any_up {h : HD} (ok : h.ok) {n : Nat} (n1 : 1 ≤ n) (hn : (n : Int) = h.many) {m : Int} (hm : ∀ p w, p.length = n → h.worth p = some w → m ≤ w) {x y : List Int} {k : Nat} (A : Any h 1 x k y) : ∀ d : Nat, x.length = n → (∃ z, z.length = n ∧ h.worth z = some m ∧ Ahd x z (d : Int)) → (∀ (e : Nat) z, z.length = n → h.worth z = some m → Ahd x z (e : Int) → d ≤ e) → k = d ∧ h.worth y = some m := by
  induction A with
  | stop wx hmin =>
    rename_i x0 v
    intro d hx hz hd
    obtain ⟨z, lz, wz, A⟩ := hz
    have vm := climb_end ok (by rw [hx]; exact hn) wx hmin (by rw [hx]; exact hm) d z wz A
    subst vm
    have q := hd 0 x0 hx wx ⟨rfl, fun i _ => Int.le_refl _, fun i _ => by show _ ≤ _ + (0 : Int); omega⟩
    exact ⟨by omega, wx⟩
  | step wx lt wS hmin _ ih =>
    rename_i x0 y0 S v w k0 _
    intro d hx hz hd
    obtain ⟨z, lz, wz, A⟩ := hz
    have mv := hm _ _ (by rw [mvd_len]; exact hx) wS
    have d1 : 1 ≤ d := by
      apply Nat.one_le_iff_ne_zero.mpr
      intro e
      subst e
      have q := Ahd.zero A
      rw [q, wx] at wz
      have := Option.some.inj wz
      omega
    obtain ⟨z', wz', A'⟩ := climb_step ok (by rw [hx]; exact hn) (S := S) (d := (d : Int)) (by omega) wS hmin wz (by rw [hx]; exact hm) A
    have l' : z'.length = n := by rw [A'.len, mvd_len]; exact hx
    obtain ⟨e1, e2⟩ := ih (d - 1) (by rw [mvd_len]; exact hx) ⟨z', l', wz', by rw [show ((d - 1 : Nat) : Int) = (d : Int) - 1 by omega]; exact A'⟩ fun e z lz wz A => by
      have q := hd (e + 1) z lz wz (by rw [show ((e + 1 : Nat) : Int) = (e : Int) + 1 by omega]; exact A.back)
      omega
    exact ⟨by omega, e2⟩
/-- a set's lowering makes no way shorter by more than one -/
theorem Ahd.backD {x y : List Int} {S : Nat → Bool} {d : Int} (A : Ahd y (mvd x S (-1)) d) : Ahd y x (d + 1) := by
  have lz := mvd_len x S (-1)
  have l := A.len
  rw [lz] at l
  refine ⟨l, fun i hi => ?_, fun i hi => ?_⟩
  · have z := A.ge i hi
    rw [mvd_at (by omega)] at z
    cases q : S i with
    | false => rw [q, if_neg (by simp)] at z; omega
    | true => rw [q, if_pos rfl] at z; omega
  · have z := A.le i hi
    rw [mvd_at (by omega)] at z
    cases q : S i with
    | false => rw [q, if_neg (by simp)] at z; omega
    | true => rw [q, if_pos rfl] at z; omega
theorem any_down {h : HD} (ok : h.ok) {n : Nat} (n1 : 1 ≤ n) (hn : (n : Int) = h.many) {m : Int} (hm : ∀ p w, p.length = n → h.worth p = some w → m ≤ w) {x y : List Int} {k : Nat} (A : Any h (-1) x k y) : ∀ d : Nat, x.length = n → (∃ z, z.length = n ∧ h.worth z = some m ∧ Ahd z x (d : Int)) → (∀ (e : Nat) z, z.length = n → h.worth z = some m → Ahd z x (e : Int) → d ≤ e) → k = d ∧ h.worth y = some m := by
  induction A with
  | stop wx hmin =>
    rename_i x0 v
    intro d hx hz hd
    obtain ⟨z, lz, wz, A⟩ := hz
    have vm := fall_end ok (by rw [hx]; exact hn) wx hmin (by rw [hx]; exact hm) d z wz A
    subst vm
    have q := hd 0 x0 hx wx ⟨rfl, fun i _ => Int.le_refl _, fun i _ => by show _ ≤ _ + (0 : Int); omega⟩
    exact ⟨by omega, wx⟩
  | step wx lt wS hmin _ ih =>
    rename_i x0 y0 S v w k0 _
    intro d hx hz hd
    obtain ⟨z, lz, wz, A⟩ := hz
    have mv := hm _ _ (by rw [mvd_len]; exact hx) wS
    have d1 : 1 ≤ d := by
      apply Nat.one_le_iff_ne_zero.mpr
      intro e
      subst e
      have q := Ahd.zero A
      rw [← q, wx] at wz
      have := Option.some.inj wz
      omega
    obtain ⟨z', wz', A'⟩ := fall_step ok (by rw [hx]; exact hn) (S := S) (d := (d : Int)) (by omega) wS hmin wz (by rw [hx]; exact hm) A
    have l' : z'.length = n := by have := A'.len; rw [mvd_len, hx] at this; exact this.symm
    obtain ⟨e1, e2⟩ := ih (d - 1) (by rw [mvd_len]; exact hx) ⟨z', l', wz', by rw [show ((d - 1 : Nat) : Int) = (d : Int) - 1 by omega]; exact A'⟩ fun e z lz wz A => by
      have q := hd (e + 1) z lz wz (by rw [show ((e + 1 : Nat) : Int) = (e : Int) + 1 by omega]; exact A.backD)
      omega
    exact ⟨by omega, e2⟩
/-- so all ways are of one length -/
theorem any_count {h : HD} (ok : h.ok) {n : Nat} (n1 : 1 ≤ n) (hn : (n : Int) = h.many) {m w : Int} (hm : ∀ p w, p.length = n → h.worth p = some w → m ≤ w) {x y1 y2 z : List Int} {k1 k2 : Nat} (hx : x.length = n) (wx : h.worth x = some w) (lz : z.length = n) (wz : h.worth z = some m) (ge : ∀ i, i < n → x.getD i 0 ≤ z.getD i 0) (A1 : Any h 1 x k1 y1) (A2 : Any h 1 x k2 y2) : k1 = k2 ∧ h.worth y1 = some m ∧ h.worth y2 = some m := by
  obtain ⟨d, hd, hl⟩ := nat_least (p := fun d => ∃ z, z.length = n ∧ h.worth z = some m ∧ Ahd x z (d : Int)) 100 ⟨z, lz, wz, ahd_of ok hx lz wx wz ge⟩
  obtain ⟨a1, b1⟩ := any_up ok n1 hn hm A1 d hx hd fun e z l w A => hl e ⟨z, l, w, A⟩
  obtain ⟨a2, b2⟩ := any_up ok n1 hn hm A2 d hx hd fun e z l w A => hl e ⟨z, l, w, A⟩
  exact ⟨by omega, b1, b2⟩
theorem any_countD {h : HD} (ok : h.ok) {n : Nat} (n1 : 1 ≤ n) (hn : (n : Int) = h.many) {m w : Int} (hm : ∀ p w, p.length = n → h.worth p = some w → m ≤ w) {x y1 y2 z : List Int} {k1 k2 : Nat} (hx : x.length = n) (wx : h.worth x = some w) (lz : z.length = n) (wz : h.worth z = some m) (ge : ∀ i, i < n → z.getD i 0 ≤ x.getD i 0) (A1 : Any h (-1) x k1 y1) (A2 : Any h (-1) x k2 y2) : k1 = k2 ∧ h.worth y1 = some m ∧ h.worth y2 = some m := by
  obtain ⟨d, hd, hl⟩ := nat_least (p := fun d => ∃ z, z.length = n ∧ h.worth z = some m ∧ Ahd z x (d : Int)) 100 ⟨z, lz, wz, ahd_of ok lz hx wz wx ge⟩
  obtain ⟨a1, b1⟩ := any_down ok n1 hn hm A1 d hx hd fun e z l w A => hl e ⟨z, l, w, A⟩
  obtain ⟨a2, b2⟩ := any_down ok n1 hn hm A2 d hx hd fun e z l w A => hl e ⟨z, l, w, A⟩
  exact ⟨by omega, b1, b2⟩
end Ev

/-! the lowest least points of a hall with one slope more -/
namespace Ev
open PySem L2 Ax
def slH (h : HD) (p w : Int) : HD := ⟨h.many, h.lo, h.hi, h.ps ++ [.slope p w]⟩
theorem slH_worth {h : HD} {p w : Int} {x : List Int} : (slH h p w).worth x = (h.worth x).map fun v => v + w * x.getD p.toNat 0 := by
  unfold HD.worth
  show (if Inside h.lo h.hi x then sumW (h.ps ++ [.slope p w]) x else none) = (if Inside h.lo h.hi x then sumW h.ps x else none).map _
  by_cases q : Inside h.lo h.hi x
  · rw [if_pos q, if_pos q, sumW_snoc]
    cases sumW h.ps x <;> rfl
  · rw [if_neg q, if_neg q]
    rfl
theorem slH_ok {h : HD} (ok : h.ok) (h24 : h.ps.length ≤ 24) {p w : Int} (p0 : 0 ≤ p) (p1 : p < h.many) (w0 : -1000 ≤ w) (w1 : w ≤ 1000) : (slH h p w).ok := by
  have m8 := ok.m8
  have mem : ∀ q ∈ h.ps ++ [PD.slope p w], q ∈ h.ps ∨ q = .slope p w := fun q hq => by
    rcases List.mem_append.mp hq with z | z
    · exact .inl z
    · exact .inr (List.mem_singleton.mp z)
  refine ⟨ok.m1, ok.m8, ok.lh, ok.l, ok.u, by show (h.ps ++ [PD.slope p w]).length ≤ 25; rw [List.length_append]; show h.ps.length + 1 ≤ 25; omega, fun q hq => ?_, fun q hq => ?_, fun q hq s hs => ?_⟩
  · rcases mem q hq with z | rfl
    · exact ok.pk q z
    · exact ⟨⟨p0, by omega⟩, w0, w1⟩
  · rcases mem q hq with z | rfl
    · exact ok.pw q z
    · show (0 : Nat) ≤ 8; omega
  · rcases mem q hq with z | rfl
    · exact ok.pl q z s hs
    · have e : s = p := List.mem_singleton.mp hs
      rw [e]
      exact ⟨p0, p1⟩
/-- the lowest least point -/
structure LowL (h : HD) (n : Nat) (y : List Int) (v : Int) : Prop where
  len : y.length = n
  at_ : h.worth y = some v
  le : ∀ z c, z.length = n → h.worth z = some c → v ≤ c
  lo : ∀ z, z.length = n → h.worth z = some v → ∀ i, i < n → y.getD i 0 ≤ z.getD i 0
theorem LowL.uniq {h : HD} {n : Nat} {y z : List Int} {v c : Int} (a : LowL h n y v) (b : LowL h n z c) : y = z := by
  have l1 := a.le _ _ b.len b.at_
  have l2 := b.le _ _ a.len a.at_
  have e : v = c := by omega
  subst e
  refine ext_getD (by rw [a.len, b.len]) fun i hi => ?_
  rw [a.len] at hi
  have := a.lo _ b.len b.at_ i hi
  have := b.lo _ a.len a.at_ i hi
  omega
theorem LowL.same {h h' : HD} {n : Nat} {y : List Int} {v : Int} (w : ∀ x : List Int, x.length = n → h'.worth x = h.worth x) (a : LowL h n y v) : LowL h' n y v :=
  ⟨a.len, by rw [w _ a.len]; exact a.at_, fun z c lz e => a.le z c lz (by rw [← w _ lz]; exact e), fun z lz e => a.lo z lz (by rw [← w _ lz]; exact e)⟩
theorem IsLst.low {h : HD} {n : Nat} {xl xh : List Int} {m : Int} (L : IsLst h n xl xh m) : LowL h n xl m := ⟨L.ll, L.wl, L.le, L.lo⟩
/-- a climb from below all least points comes to the lowest one -/
theorem low_up {h : HD} (ok : h.ok) {n : Nat} (hn : (n : Int) = h.many) {x y : List Int} {cs : List Nat} {v w : Int} (lx : x.length = n) (wx : h.worth x = some w) (W : Wk n h 1 x cs y) (wy : h.worth y = some v) (hmin : ∀ U : Nat → Bool, ∀ w, h.worth (mvd y U 1) = some w → v ≤ w)
    (below : ∀ z c, LowL h n z c → ∀ i, i < n → x.getD i 0 ≤ z.getD i 0) (has : ∃ z c, LowL h n z c) : LowL h n y v := by
  obtain ⟨z, m, hz⟩ := has
  have ge := below z m hz
  have lo : ∀ u, u.length = n → h.worth u = some m → ∀ i, i < n → y.getD i 0 ≤ u.getD i 0 := fun u lu wu =>
    W.keepUp ok lx hn wu hz.le lu fun i hi => by
      have := ge i hi
      have := hz.lo u lu wu i hi
      omega
  have e := end_up ok hn (W.len lx) wy hmin hz.len hz.at_ hz.le (lo z hz.len hz.at_)
  subst e
  exact ⟨W.len lx, wy, hz.le, lo⟩
/-- where a point is free there is a lowest least one -/
theorem has_low {h : HD} (ok : h.ok) {n : Nat} (hn : (n : Int) = h.many) {x0 : List Int} {w : Int} (l0 : x0.length = n) (f0 : h.worth x0 = some w) : ∃ z c, LowL h n z c := by
  obtain ⟨m, z, lz, wz, hm⟩ := has_least l0 f0
  -- of all least points the one of the least sum
  have key : ∀ k : Nat, ∀ y : List Int, y.length = n → h.worth y = some m → (y.map fun t => (t - h.lo).toNat).sum = k → ∃ z c, LowL h n z c := by
    intro k
    induction k using Nat.strongRecOn with
    | _ k ih =>
      intro y ly wy hk
      by_cases q : ∀ u, u.length = n → h.worth u = some m → ∀ i, i < n → y.getD i 0 ≤ u.getD i 0
      · exact ⟨y, m, ly, wy, hm, q⟩
      · obtain ⟨u, q⟩ := Classical.not_forall.mp q
        obtain ⟨lu, q⟩ := Classical.not_imp.mp q
        obtain ⟨wu, q⟩ := Classical.not_imp.mp q
        obtain ⟨i, q⟩ := Classical.not_forall.mp q
        obtain ⟨hi, q⟩ := Classical.not_imp.mp q
        have B := Btw.meet (x := y) (y := u) (by rw [ly, lu])
        rw [ly] at B
        obtain ⟨c, d, hc, hd, hcd⟩ := h.even ok hn B wy wu
        have c1 := hm _ _ B.lu hc
        have d1 := hm _ _ B.lv hd
        have ec : c = m := by omega
        rw [ec] at hc
        refine ih _ ?_ _ B.lu hc rfl
        rw [← hk]
        have sums : ∀ (a b : List Int), a.length = b.length → (∀ i, i < b.length → a.getD i 0 ≤ b.getD i 0) → (∀ t ∈ a, h.lo ≤ t) → (∃ i, i < b.length ∧ a.getD i 0 < b.getD i 0) → (a.map fun t => (t - h.lo).toNat).sum < (b.map fun t => (t - h.lo).toNat).sum := by
          intro a
          induction a with
          | nil => intro b e _ _ ⟨i, hi, _⟩; cases b with | nil => simp at hi | cons _ _ => simp at e
          | cons s a ih =>
            intro b e h1 h2 h3
            cases b with
            | nil => simp at e
            | cons t b =>
              have e' : a.length = b.length := by simpa using e
              have st : s ≤ t := by simpa using h1 0 (by simp)
              have s0 := h2 s List.mem_cons_self
              have le' : ∀ i, i < b.length → a.getD i 0 ≤ b.getD i 0 := fun i hi => by simpa using h1 (i + 1) (by simpa using hi)
              have lele : (a.map fun t => (t - h.lo).toNat).sum ≤ (b.map fun t => (t - h.lo).toNat).sum := by
                clear ih h1 h2 h3 e
                induction a generalizing b with
                | nil => exact Nat.zero_le _
                | cons s a ih2 =>
                  cases b with
                  | nil => simp at e'
                  | cons t b =>
                    have x1 : s ≤ t := by simpa using le' 0 (by simp)
                    have x2 := ih2 b (by simpa using e') fun i hi => by simpa using le' (i + 1) (by simpa using hi)
                    rw [List.map_cons, List.map_cons, List.sum_cons, List.sum_cons]
                    omega
              obtain ⟨i, hi, lt⟩ := h3
              rw [List.map_cons, List.map_cons, List.sum_cons, List.sum_cons]
              cases i with
              | zero =>
                have lt' : s < t := by simpa using lt
                omega
              | succ i =>
                have z := ih b e' le' (fun t ht => h2 t (List.mem_cons_of_mem _ ht)) ⟨i, by simpa using hi, by simpa using lt⟩
                omega
        have g : ∀ j, j < n → ((y.zip u).map fun q => minI q.1 q.2).getD j 0 = minI (y.getD j 0) (u.getD j 0) := fun j hj => zip_getD (by rw [ly, lu]) (by rw [ly]; exact hj)
        refine sums _ _ (by rw [B.lu, ly]) (fun j hj => ?_) (fun t ht => (worth_in hc t ht).1) ⟨i, by rw [ly]; exact hi, ?_⟩
        · rw [ly] at hj
          rw [g j hj]
          unfold minI
          split <;> omega
        · rw [g i hi]
          unfold minI
          rw [if_neg q]
          omega
  exact key _ z lz wz rfl
theorem some_map {o : Option Int} {f : Int → Int} {z : Int} (h : o.map f = some z) : ∃ v, o = some v ∧ z = f v := by
  cases o with
  | none => cases h
  | some v => exact ⟨v, rfl, (Option.some.inj h).symm⟩
/-- the more the weight, the lower the point -/
theorem low_mono {h : HD} (ok : h.ok) {n : Nat} (hn : (n : Int) = h.many) {p w w' : Int} (p0 : 0 ≤ p) (p1 : p < h.many) {a b : List Int} {u v : Int} (A : LowL (slH h p w) n a u) (B : LowL (slH h p w') n b v) (le : w ≤ w') :
    (∀ i, i < n → b.getD i 0 ≤ a.getD i 0) ∧ ∀ i, i < n → a.getD i 0 - b.getD i 0 ≤ a.getD p.toNat 0 - b.getD p.toNat 0 := by
  have pn : p.toNat < n := by omega
  obtain ⟨ua, wa, eu⟩ := some_map (slH_worth.symm.trans A.at_)
  obtain ⟨vb, wb, ev⟩ := some_map (slH_worth.symm.trans B.at_)
  have down : ∀ i, i < n → b.getD i 0 ≤ a.getD i 0 := by
    have T := Btw.meet (x := a) (y := b) (by rw [A.len, B.len])
    rw [A.len] at T
    obtain ⟨c, d, hc, hd, hcd⟩ := h.even ok hn T wa wb
    have gm : ∀ j, j < n → ((a.zip b).map fun q => minI q.1 q.2).getD j 0 = minI (a.getD j 0) (b.getD j 0) := fun j hj => zip_getD (by rw [A.len, B.len]) (by rw [A.len]; exact hj)
    have gM : ∀ j, j < n → ((a.zip b).map fun q => maxI q.1 q.2).getD j 0 = maxI (a.getD j 0) (b.getD j 0) := fun j hj => zip_getD (by rw [A.len, B.len]) (by rw [A.len]; exact hj)
    have hJ := A.le _ (d + w * maxI (a.getD p.toNat 0) (b.getD p.toNat 0)) T.lv (by rw [slH_worth, hd, gM _ pn]; rfl)
    have hM := B.le _ (c + w' * minI (a.getD p.toNat 0) (b.getD p.toNat 0)) T.lu (by rw [slH_worth, hc, gm _ pn]; rfl)
    have hs : maxI (a.getD p.toNat 0) (b.getD p.toNat 0) = a.getD p.toNat 0 + (b.getD p.toNat 0 - minI (a.getD p.toNat 0) (b.getD p.toNat 0)) := by unfold maxI minI; split <;> omega
    have ht : 0 ≤ b.getD p.toNat 0 - minI (a.getD p.toNat 0) (b.getD p.toNat 0) := by unfold minI; split <;> omega
    have hb : minI (a.getD p.toNat 0) (b.getD p.toNat 0) = b.getD p.toNat 0 - (b.getD p.toNat 0 - minI (a.getD p.toNat 0) (b.getD p.toNat 0)) := by omega
    generalize b.getD p.toNat 0 - minI (a.getD p.toNat 0) (b.getD p.toNat 0) = t at hs ht hb
    rw [hs, Int.mul_add] at hJ
    have hM' := hM
    rw [hb, Int.mul_sub] at hM
    have hwt : w * t ≤ w' * t := Int.mul_le_mul_of_nonneg_right le ht
    have hM2 : (slH h p w').worth ((a.zip b).map fun q => minI q.1 q.2) = some v := by
      rw [slH_worth, hc, gm _ pn]
      show some (c + w' * minI (a.getD p.toNat 0) (b.getD p.toNat 0)) = some v
      congr 1
      rw [hb, Int.mul_sub]
      omega
    intro i hi
    have z := B.lo _ T.lu hM2 i hi
    rw [gm i hi] at z
    unfold minI at z
    split at z <;> omega
  refine ⟨down, ?_⟩
  have d0 : 0 ≤ a.getD p.toNat 0 - b.getD p.toNat 0 := by have := down _ pn; omega
  have T := trans_btw (p := a) (q := b) (by rw [A.len, B.len]) d0
  rw [A.len] at T
  obtain ⟨c, d, hc, hd, hcd⟩ := h.even ok hn T wa wb
  have gu : ∀ j, j < n → ((List.range n).map fun i => minI (a.getD i 0) (b.getD i 0 + (a.getD p.toNat 0 - b.getD p.toNat 0))).getD j 0 = minI (a.getD j 0) (b.getD j 0 + (a.getD p.toNat 0 - b.getD p.toNat 0)) := fun j hj => rng_getD hj
  have gv : ∀ j, j < n → ((List.range n).map fun i => maxI (a.getD i 0 - (a.getD p.toNat 0 - b.getD p.toNat 0)) (b.getD i 0)).getD j 0 = maxI (a.getD j 0 - (a.getD p.toNat 0 - b.getD p.toNat 0)) (b.getD j 0) := fun j hj => rng_getD hj
  have e1 : minI (a.getD p.toNat 0) (b.getD p.toNat 0 + (a.getD p.toNat 0 - b.getD p.toNat 0)) = a.getD p.toNat 0 := by unfold minI; split <;> omega
  have e2 : maxI (a.getD p.toNat 0 - (a.getD p.toNat 0 - b.getD p.toNat 0)) (b.getD p.toNat 0) = b.getD p.toNat 0 := by unfold maxI; split <;> omega
  have hV := B.le _ (d + w' * b.getD p.toNat 0) T.lv (by rw [slH_worth, hd, gv _ pn, e2]; rfl)
  have hU := A.le _ (c + w * a.getD p.toNat 0) T.lu (by rw [slH_worth, hc, gu _ pn, e1]; rfl)
  have hU2 : (slH h p w).worth ((List.range n).map fun i => minI (a.getD i 0) (b.getD i 0 + (a.getD p.toNat 0 - b.getD p.toNat 0))) = some u := by
    rw [slH_worth, hc, gu _ pn, e1]
    show some (c + w * a.getD p.toNat 0) = some u
    congr 1
    omega
  intro i hi
  have z := A.lo _ T.lu hU2 i hi
  rw [gu i hi] at z
  unfold minI at z
  split at z <;> omega
theorem low_zero {h : HD} {n : Nat} {p : Int} {a : List Int} {v : Int} (A : LowL h n a v) : LowL (slH h p 0) n a v := A.same fun x _ => by
  rw [slH_worth]
  cases h.worth x with
  | none => rfl
  | some v => show some (v + 0 * _) = some v; rw [Int.zero_mul, Int.add_zero]
/-- by its neighbours -/
theorem LowL.up {h : HD} {n : Nat} {a : List Int} {v : Int} (A : LowL h n a v) {S : Nat → Bool} {wy z : Int} (e : h.worth (mvd a S wy) = some z) : v ≤ z := A.le _ _ (by rw [mvd_len]; exact A.len) e
theorem LowL.down {h : HD} {n : Nat} {a : List Int} {v : Int} (A : LowL h n a v) {S : Nat → Bool} {z : Int} (hS : ∃ i, i < n ∧ S i = true) (e : h.worth (mvd a S (-1)) = some z) : v < z := by
  obtain ⟨i, hi, si⟩ := hS
  have le := A.up e
  apply Classical.byContradiction
  intro nl
  have ez : z = v := by omega
  rw [ez] at e
  have q := A.lo _ (by rw [mvd_len]; exact A.len) e i hi
  rw [mvd_at (by rw [A.len]; exact hi), si, if_pos rfl] at q
  omega
end Ev

/-! points side by side with their lists; where told sets lead; least points mixed -/
namespace Ev
open PySem L2 Ax
structure PtsAt (H : Hp) (ys : List (List Int)) (as : List Addr) : Prop where
  len : as.length = ys.length
  all : ∀ (i : Nat) (y : List Int) (a : Addr), ys[i]? = some y → as[i]? = some a → H a = some (.lst (y.map V.int))
theorem PtsAt.nil {H : Hp} : PtsAt H [] [] := ⟨rfl, fun i y a e _ => by simp at e⟩
theorem PtsAt.same {H H' : Hp} (s : Same H H') {ys : List (List Int)} {as : List Addr} (h : PtsAt H ys as) : PtsAt H' ys as := ⟨h.len, fun i y a e1 e2 => s _ _ (h.all i y a e1 e2)⟩
theorem PtsAt.smt {H H' : Hp} (s : SmT H H') {ys : List (List Int)} {as : List Addr} (h : PtsAt H ys as) : PtsAt H' ys as := ⟨h.len, fun i y a e1 e2 => s.lst (h.all i y a e1 e2)⟩
theorem PtsAt.updL {H : Hp} {l : Addr} {u : HO} {ys : List (List Int)} {as : List Addr} (h : PtsAt H ys as) (hl : l ∉ as) : PtsAt (upd H l u) ys as := ⟨h.len, fun i d a e1 e2 => by
  rw [upd_ne (fun q => hl (by rw [← q]; exact List.mem_of_getElem? e2))]
  exact h.all i d a e1 e2⟩
theorem PtsAt.snoc {H : Hp} {y : List Int} {a : Addr} {ys : List (List Int)} {as : List Addr} (h : PtsAt H ys as) (ha : H a = some (.lst (y.map V.int))) : PtsAt H (ys ++ [y]) (as ++ [a]) := by
  refine ⟨by rw [List.length_append, List.length_append, h.len]; rfl, fun i d b e1 e2 => ?_⟩
  rw [List.getElem?_append] at e1 e2
  rw [h.len] at e2
  by_cases q : i < ys.length
  · rw [if_pos q] at e1 e2
    exact h.all i d b e1 e2
  · rw [if_neg q] at e1 e2
    cases w : i - ys.length with
    | zero => rw [w] at e1 e2; cases e1; cases e2; exact ha
    | succ m => rw [w] at e1; cases e1
theorem PtsAt.take {H : Hp} {ys : List (List Int)} {as : List Addr} (h : PtsAt H ys as) (k : Nat) : PtsAt H (ys.take k) (as.take k) := by
  refine ⟨by rw [List.length_take, List.length_take, h.len], fun i y a e1 e2 => ?_⟩
  rw [List.getElem?_take] at e1 e2
  by_cases q : i < k
  · rw [if_pos q] at e1 e2; exact h.all i y a e1 e2
  · rw [if_neg q] at e1; cases e1
def goTo (way : Int) (x : List Int) (cs : List Nat) : List Int := cs.foldl (fun y c => mvd y (Nat.testBit c) way) x
theorem goTo_len {way : Int} : ∀ {cs : List Nat} {x : List Int}, (goTo way x cs).length = x.length
  | [], x => rfl
  | c :: cs, x => by
    show (goTo way (mvd x (Nat.testBit c) way) cs).length = _
    rw [goTo_len, mvd_len]
theorem goTo_next {way : Int} {x : List Int} {cs : List Nat} {i c : Nat} (h : cs[i]? = some c) : goTo way x (cs.take (i + 1)) = mvd (goTo way x (cs.take i)) (Nat.testBit c) way := by
  unfold goTo
  rw [List.take_add_one, h, List.foldl_append]
  rfl
theorem Wk.goTo {n : Nat} {h : HD} {way : Int} {x y : List Int} {cs : List Nat} (W : Wk n h way x cs y) : y = goTo way x cs := by
  induction W with
  | nil => rfl
  | snoc W0 B hc ih =>
    unfold Ev.goTo at ih ⊢
    rw [List.foldl_append, ← ih]
    rfl
/-- what lies between two least points is least -/
theorem IsLst.mix {h : HD} (ok : h.ok) {n : Nat} (hn : (n : Int) = h.many) {xl xh : List Int} {m : Int} (L : IsLst h n xl xh m) {x y u v : List Int} (B : Btw n x y u v) (hx : h.worth x = some m) (hy : h.worth y = some m) : h.worth u = some m ∧ h.worth v = some m := by
  obtain ⟨c, d, hc, hd, hcd⟩ := HD.even ok hn B hx hy
  have h1 := L.le _ _ B.lu hc
  have h2 := L.le _ _ B.lv hd
  have e1 : c = m := by omega
  have e2 : d = m := by omega
  subst e1
  rw [e2] at hd
  exact ⟨hc, hd⟩
theorem Btw.trans {x y : List Int} (h : y.length = x.length) {α : Int} (h0 : 0 ≤ α) : Btw x.length x y ((x.zip y).map fun q => minI q.1 (q.2 + α)) ((x.zip y).map fun q => maxI (q.1 - α) q.2) := by
  have B := trans_btw h h0
  have lz : (x.zip y).length = x.length := by rw [List.length_zip, h, Nat.min_self]
  have e1 : (x.zip y).map (fun q => minI q.1 (q.2 + α)) = (List.range x.length).map fun i => minI (x.getD i 0) (y.getD i 0 + α) := by
    refine ext_getD (by rw [List.length_map, List.length_map, List.length_range, lz]) fun i hi => ?_
    rw [List.length_map, lz] at hi
    rw [zip_getD h.symm hi, rng_getD hi]
  have e2 : (x.zip y).map (fun q => maxI (q.1 - α) q.2) = (List.range x.length).map fun i => maxI (x.getD i 0 - α) (y.getD i 0) := by
    refine ext_getD (by rw [List.length_map, List.length_map, List.length_range, lz]) fun i hi => ?_
    rw [List.length_map, lz] at hi
    rw [zip_getD h.symm hi, rng_getD hi]
  rw [e1, e2]
  exact B
end Ev

/-! where a climb or fall ends: the nearest least point -/
namespace Ev
open PySem L2 Ax
theorem Wk.at_ {n : Nat} {h : HD} {way : Int} {x y : List Int} {cs : List Nat} (W : Wk n h way x cs y) : ∀ (i c : Nat), cs[i]? = some c → ∃ v, BestOf n h (Ev.goTo way x (cs.take i)) way v c ∧ ∃ k, k < n ∧ c.testBit k = true := by
  induction W with
  | nil => intro i c e; cases e
  | snoc W0 B hc ih =>
    rename_i cs0 y0 v0 c0
    intro i c e
    rcases getElem?_snoc e with ⟨h1, e1⟩ | ⟨h1, e1⟩
    · obtain ⟨v, b, k⟩ := ih i c e1
      exact ⟨v, by rw [List.take_append_of_le_length (by omega)]; exact b, k⟩
    · subst h1
      subst e1
      refine ⟨v0, ?_, hc⟩
      rw [List.take_append_of_le_length (Nat.le_refl _), List.take_length, ← W0.goTo]
      exact B
theorem goTo_up : ∀ {cs : List Nat} {x : List Int} (i : Nat), i < x.length → x.getD i 0 ≤ (Ev.goTo 1 x cs).getD i 0 ∧ (Ev.goTo 1 x cs).getD i 0 ≤ x.getD i 0 + (cs.length : Int)
  | [], x, i, _ => ⟨Int.le_refl _, by show x.getD i 0 ≤ x.getD i 0 + 0; omega⟩
  | c :: cs, x, i, hi => by
    have z := goTo_up (cs := cs) (x := mvd x (Nat.testBit c) 1) i (by rw [mvd_len]; exact hi)
    rw [mvd_at hi] at z
    show x.getD i 0 ≤ (Ev.goTo 1 (mvd x (Nat.testBit c) 1) cs).getD i 0 ∧ (Ev.goTo 1 (mvd x (Nat.testBit c) 1) cs).getD i 0 ≤ x.getD i 0 + ((cs.length + 1 : Nat) : Int)
    cases q : c.testBit i with
    | true => rw [q, if_pos rfl] at z; omega
    | false => rw [q, if_neg (by simp)] at z; omega
theorem goTo_down : ∀ {cs : List Nat} {x : List Int} (i : Nat), i < x.length → (Ev.goTo (-1) x cs).getD i 0 ≤ x.getD i 0 ∧ x.getD i 0 - (cs.length : Int) ≤ (Ev.goTo (-1) x cs).getD i 0
  | [], x, i, _ => ⟨Int.le_refl _, by show x.getD i 0 - 0 ≤ x.getD i 0; omega⟩
  | c :: cs, x, i, hi => by
    have z := goTo_down (cs := cs) (x := mvd x (Nat.testBit c) (-1)) i (by rw [mvd_len]; exact hi)
    rw [mvd_at hi] at z
    show (Ev.goTo (-1) (mvd x (Nat.testBit c) (-1)) cs).getD i 0 ≤ x.getD i 0 ∧ x.getD i 0 - ((cs.length + 1 : Nat) : Int) ≤ (Ev.goTo (-1) (mvd x (Nat.testBit c) (-1)) cs).getD i 0
    cases q : c.testBit i with
    | true => rw [q, if_pos rfl] at z; omega
    | false => rw [q, if_neg (by simp)] at z; omega
/-- the nearest least point, by so many sets -/
structure NearAt (n : Nat) (h : HD) (way m : Int) (x y : List Int) (k : Nat) : Prop where
  least : h.worth y = some m
  far : ∀ i, i < n → 0 ≤ way * (y.getD i 0 - x.getD i 0) ∧ way * (y.getD i 0 - x.getD i 0) ≤ (k : Int)
  some_ : ∃ i, i < n ∧ way * (y.getD i 0 - x.getD i 0) = (k : Int)
  near : ∀ S : Nat → Bool, (∃ i, i < n ∧ S i = true) → (∀ i, i < n → S i = true → y.getD i 0 ≠ x.getD i 0) → ∀ z, h.worth (mvd y S (-way)) = some z → m < z
theorem near_up {h : HD} (ok : h.ok) {n : Nat} (n1 : 1 ≤ n) (hn : (n : Int) = h.many) {m w v : Int} {xl xh x y : List Int} {cs : List Nat} (L : IsLst h n xl xh m) (hx : x.length = n) (wx : h.worth x = some w) (W : Wk n h 1 x cs y) (wy : h.worth y = some v) (hmin : ∀ U : Nat → Bool, ∀ z, h.worth (mvd y U 1) = some z → v ≤ z) (ge : ∀ i, i < n → x.getD i 0 ≤ xh.getD i 0) : NearAt n h 1 m x y cs.length := by
  have A := W.any (k := 0) hx ⟨w, wx⟩ (.stop wy hmin)
  rw [Nat.add_zero] at A
  obtain ⟨d, hd, hl⟩ := nat_least (p := fun d => ∃ z, z.length = n ∧ h.worth z = some m ∧ Ahd x z (d : Int)) 100 ⟨xh, L.lh, L.wh, ahd_of ok hx L.lh wx L.wh ge⟩
  obtain ⟨ek, hy⟩ := any_up ok n1 hn L.le A d hx hd fun e z l w A => hl e ⟨z, l, w, A⟩
  have yl := W.len hx
  have eg := W.goTo
  have up : ∀ i, i < n → x.getD i 0 ≤ y.getD i 0 ∧ y.getD i 0 ≤ x.getD i 0 + (cs.length : Int) := fun i hi => by
    rw [eg]
    exact goTo_up i (by omega)
  refine ⟨hy, fun i hi => ?_, ?_, fun S hS hm z hz => ?_⟩
  · have := up i hi
    omega
  · apply Classical.byContradiction
    intro no
    have c0 : cs.length ≠ 0 := fun e => no ⟨0, by omega, by have := up 0 (by omega); rw [e] at this ⊢; omega⟩
    have := hl (cs.length - 1) ⟨y, yl, hy, by rw [yl, hx], fun i hi => (up i (by omega)).1, fun i hi => by
      have h1 := up i (by omega)
      have h2 : 1 * (y.getD i 0 - x.getD i 0) ≠ (cs.length : Int) := fun e => no ⟨i, by omega, e⟩
      omega⟩
    omega
  · have lz : (mvd y S (-1)).length = n := by rw [mvd_len]; exact yl
    have le := L.le _ _ lz hz
    apply Classical.byContradiction
    intro nl
    have ez : z = m := by omega
    subst ez
    obtain ⟨i, hi, si⟩ := hS
    have kp := W.keepUp ok hx hn hz L.le lz (fun j hj => by
      rw [mvd_at (by omega)]
      have h1 := (up j hj).1
      cases q : S j with
      | true =>
        have h2 := hm j hj q
        rw [if_pos rfl]
        omega
      | false => rw [if_neg (by simp)]; omega) i hi
    rw [mvd_at (by omega), si, if_pos rfl] at kp
    omega
theorem near_down {h : HD} (ok : h.ok) {n : Nat} (n1 : 1 ≤ n) (hn : (n : Int) = h.many) {m w v : Int} {xl xh x y : List Int} {cs : List Nat} (L : IsLst h n xl xh m) (hx : x.length = n) (wx : h.worth x = some w) (W : Wk n h (-1) x cs y) (wy : h.worth y = some v) (hmin : ∀ U : Nat → Bool, ∀ z, h.worth (mvd y U (-1)) = some z → v ≤ z) (ge : ∀ i, i < n → xl.getD i 0 ≤ x.getD i 0) : NearAt n h (-1) m x y cs.length := by
  have A := W.any (k := 0) hx ⟨w, wx⟩ (.stop wy hmin)
  rw [Nat.add_zero] at A
  obtain ⟨d, hd, hl⟩ := nat_least (p := fun d => ∃ z, z.length = n ∧ h.worth z = some m ∧ Ahd z x (d : Int)) 100 ⟨xl, L.ll, L.wl, ahd_of ok L.ll hx L.wl wx ge⟩
  obtain ⟨ek, hy⟩ := any_down ok n1 hn L.le A d hx hd fun e z l w A => hl e ⟨z, l, w, A⟩
  have yl := W.len hx
  have eg := W.goTo
  have up : ∀ i, i < n → y.getD i 0 ≤ x.getD i 0 ∧ x.getD i 0 - (cs.length : Int) ≤ y.getD i 0 := fun i hi => by
    rw [eg]
    exact goTo_down i (by omega)
  refine ⟨hy, fun i hi => ?_, ?_, fun S hS hm z hz => ?_⟩
  · have := up i hi
    omega
  · apply Classical.byContradiction
    intro no
    have c0 : cs.length ≠ 0 := fun e => no ⟨0, by omega, by have := up 0 (by omega); rw [e] at this ⊢; omega⟩
    have := hl (cs.length - 1) ⟨y, yl, hy, by rw [yl, hx], fun i hi => (up i (by omega)).1, fun i hi => by
      have h1 := up i (by omega)
      have h2 : -1 * (y.getD i 0 - x.getD i 0) ≠ (cs.length : Int) := fun e => no ⟨i, by omega, e⟩
      omega⟩
    omega
  · have lz : (mvd y S (- -1)).length = n := by rw [mvd_len]; exact yl
    have le := L.le _ _ lz hz
    apply Classical.byContradiction
    intro nl
    have ez : z = m := by omega
    subst ez
    obtain ⟨i, hi, si⟩ := hS
    have kp := W.keepDn ok hx hn hz L.le lz (fun j hj => by
      rw [mvd_at (by omega)]
      have h1 := (up j hj).1
      cases q : S j with
      | true =>
        have h2 := hm j hj q
        rw [if_pos rfl]
        omega
      | false => rw [if_neg (by simp)]; omega) i hi
    rw [mvd_at (by omega), si, if_pos rfl] at kp
    omega
theorem Wk.lt {n : Nat} {h : HD} {way w v : Int} {x : List Int} {c : Nat} (hx : x.length = n) (wx : h.worth x = some w) (B : BestOf n h x way v c) (hc : ∃ i, i < n ∧ c.testBit i = true) : v < w := by
  have q := B.min (fun _ => false) w (by rw [mvd_none]; exact wx)
  apply Classical.byContradiction
  intro nl
  have e : w = v := by omega
  subst e
  obtain ⟨i, hi, ht⟩ := hc
  have := B.sub (fun _ => false) (by rw [mvd_none]; exact wx) i hi ht
  cases this
end Ev

/-! plain data (no bools, no dicts): equal just if the same -/
namespace Ev
open PySem L2 Ax
mutual
def plainD : PyData → Bool
  | .none => true
  | .bool _ => false
  | .int _ => true
  | .str x => PyData.canLay0 (.str x)
  | .list xs => plainAllD xs
  | .tuple xs => plainAllD xs
  | .dict _ => false
def plainAllD : List PyData → Bool
  | [] => true
  | x :: xs => plainD x && plainAllD xs
end
theorem plainAll_iff : ∀ {xs : List PyData}, plainAllD xs = true ↔ ∀ x ∈ xs, plainD x = true
  | [] => by simp [plainAllD]
  | x :: xs => by
    rw [plainAllD, Bool.and_eq_true, plainAll_iff (xs := xs), List.forall_mem_cons]
theorem plain_list {xs : List PyData} (h : ∀ x ∈ xs, plainD x = true) : plainD (.list xs) = true := by
  rw [plainD]; exact plainAll_iff.mpr h
theorem plain_tup {xs : List PyData} (h : ∀ x ∈ xs, plainD x = true) : plainD (.tuple xs) = true := by
  rw [plainD]; exact plainAll_iff.mpr h
theorem plain_int {i : Int} : plainD (.int i) = true := by rw [plainD]
theorem plain_non : plainD .none = true := by rw [plainD]
theorem plain_ints (ns : List Int) : plainD (.list (ns.map PyData.int)) = true := plain_list fun x hx => by
  obtain ⟨i, _, rfl⟩ := List.mem_map.mp hx
  exact plain_int
mutual
theorem eqv_plain : ∀ (a b : PyData), plainD a = true → plainD b = true → (PyData.eqv a b = true ↔ a = b)
  | .none, .none, _, _ => by simp [PyData.eqv]
  | .int i, .int j, _, _ => by simp [PyData.eqv]
  | .str x, .str y, _, _ => by simp [PyData.eqv]
  | .list xs, .list ys, h1, h2 => by
    rw [plainD] at h1 h2
    rw [PyData.eqv, eqvAll_plain xs ys h1 h2]
    exact ⟨fun e => by rw [e], fun e => by cases e; rfl⟩
  | .tuple xs, .tuple ys, h1, h2 => by
    rw [plainD] at h1 h2
    rw [PyData.eqv, eqvAll_plain xs ys h1 h2]
    exact ⟨fun e => by rw [e], fun e => by cases e; rfl⟩
  | .none, .int _, _, _ => by simp [PyData.eqv]
  | .none, .str _, _, _ => by simp [PyData.eqv]
  | .none, .list _, _, _ => by simp [PyData.eqv]
  | .none, .tuple _, _, _ => by simp [PyData.eqv]
  | .int _, .none, _, _ => by simp [PyData.eqv]
  | .int _, .str _, _, _ => by simp [PyData.eqv]
  | .int _, .list _, _, _ => by simp [PyData.eqv]
  | .int _, .tuple _, _, _ => by simp [PyData.eqv]
  | .str _, .none, _, _ => by simp [PyData.eqv]
  | .str _, .int _, _, _ => by simp [PyData.eqv]
  | .str _, .list _, _, _ => by simp [PyData.eqv]
  | .str _, .tuple _, _, _ => by simp [PyData.eqv]
  | .list _, .none, _, _ => by simp [PyData.eqv]
  | .list _, .int _, _, _ => by simp [PyData.eqv]
  | .list _, .str _, _, _ => by simp [PyData.eqv]
  | .list _, .tuple _, _, _ => by simp [PyData.eqv]
  | .tuple _, .none, _, _ => by simp [PyData.eqv]
  | .tuple _, .int _, _, _ => by simp [PyData.eqv]
  | .tuple _, .str _, _, _ => by simp [PyData.eqv]
  | .tuple _, .list _, _, _ => by simp [PyData.eqv]
  | .bool _, _, h, _ => by rw [plainD] at h; cases h
  | .dict _, _, h, _ => by rw [plainD] at h; cases h
  | _, .bool _, _, h => by rw [plainD] at h; cases h
  | _, .dict _, _, h => by rw [plainD] at h; cases h
theorem eqvAll_plain : ∀ (a b : List PyData), plainAllD a = true → plainAllD b = true → (PyData.eqvAll a b = true ↔ a = b)
  | [], [], _, _ => by simp [PyData.eqvAll]
  | [], _ :: _, _, _ => by simp [PyData.eqvAll]
  | _ :: _, [], _, _ => by simp [PyData.eqvAll]
  | x :: xs, y :: ys, h1, h2 => by
    rw [plainAllD, Bool.and_eq_true] at h1 h2
    rw [PyData.eqvAll, Bool.and_eq_true, eqv_plain x y h1.1 h2.1, eqvAll_plain xs ys h1.2 h2.2]
    exact ⟨fun ⟨e1, e2⟩ => by rw [e1, e2], fun e => by cases e; exact ⟨rfl, rfl⟩⟩
end
theorem eqv_dec {a b : PyData} (ha : plainD a = true) (hb : plainD b = true) {p : Prop} [Decidable p] (h : a = b ↔ p) : PyData.eqv a b = decide p := by
  have z := eqv_plain a b ha hb
  cases e : PyData.eqv a b with
  | true => exact (decide_eq_true (h.mp (z.mp e))).symm
  | false => exact (decide_eq_false fun q => by rw [z.mpr (h.mpr q)] at e; cases e).symm
mutual
theorem lay_plain : ∀ (a : PyData), plainD a = true → a.canLay0 = true
  | .none, _ => by rw [PyData.canLay0]
  | .int _, _ => by rw [PyData.canLay0]
  | .str x, h => by rw [plainD] at h; exact h
  | .list xs, h => by rw [plainD] at h; rw [PyData.canLay0]; exact layAll_plain xs h
  | .tuple xs, h => by rw [plainD] at h; rw [PyData.canLay0]; exact layAll_plain xs h
  | .bool _, h => by rw [plainD] at h; cases h
  | .dict _, h => by rw [plainD] at h; cases h
theorem layAll_plain : ∀ (a : List PyData), plainAllD a = true → PyData.canLayAll0 a = true
  | [], _ => by rw [PyData.canLayAll0]
  | x :: xs, h => by
    rw [plainAllD, Bool.and_eq_true] at h
    rw [PyData.canLayAll0, lay_plain x h.1, layAll_plain xs h.2]
    rfl
end
theorem depthAll_le {k : Nat} : ∀ {xs : List PyData}, (∀ x ∈ xs, x.depth ≤ k) → PyData.depthAll xs ≤ k
  | [], _ => by rw [PyData.depthAll]; exact Nat.zero_le _
  | x :: xs, h => by
    rw [PyData.depthAll]
    exact Nat.max_le.mpr ⟨h x List.mem_cons_self, depthAll_le fun y hy => h y (List.mem_cons_of_mem _ hy)⟩
theorem depth_list {k : Nat} {xs : List PyData} (h : ∀ x ∈ xs, x.depth ≤ k) : (PyData.list xs).depth ≤ k + 1 := by
  rw [PyData.depth]; exact Nat.succ_le_succ (depthAll_le h)
theorem depth_tup {k : Nat} {xs : List PyData} (h : ∀ x ∈ xs, x.depth ≤ k) : (PyData.tuple xs).depth ≤ k + 1 := by
  rw [PyData.depth]; exact Nat.succ_le_succ (depthAll_le h)
theorem depth_int {i : Int} : (PyData.int i).depth ≤ 0 := by rw [PyData.depth]; exact Nat.le_refl _
theorem depth_ints (ns : List Int) : (PyData.list (ns.map PyData.int)).depth ≤ 1 := depth_list fun x hx => by
  obtain ⟨i, _, rfl⟩ := List.mem_map.mp hx
  exact depth_int
theorem shp_plain {d : PyData} (h : plainD d = true) (hd : d.depth ≤ 64) : SeqAt.shaped d = true := by
  unfold SeqAt.shaped
  rw [lay_plain d h, decide_eq_true hd]
  rfl
theorem dpAll_of {K : PySem.W.Frag} {H : Hp} : ∀ {vs : List V} {ds : List PyData}, vs.length = ds.length → (∀ (i : Nat) (v : V) (d : PyData), vs[i]? = some v → ds[i]? = some d → Dp K H v d) → DpAll K H vs ds
  | [], [], _, _ => .nil
  | [], _ :: _, h, _ => by cases h
  | _ :: _, [], h, _ => by cases h
  | v :: vs, d :: ds, h, z => .cons (z 0 v d rfl rfl) (dpAll_of (Nat.succ.inj h) fun i v d e1 e2 => z (i + 1) v d e1 e2)
theorem any_plain {ds : List PyData} {d : PyData} (hd : plainD d = true) (hs : ∀ x ∈ ds, plainD x = true) : (ds.any fun z => PyData.eqv z d) = true ↔ d ∈ ds := by
  rw [List.any_eq_true]
  constructor
  · rintro ⟨x, hx, e⟩
    rw [← (eqv_plain x d (hs x hx) hd).mp e]
    exact hx
  · exact fun h => ⟨d, h, (eqv_plain d d hd hd).mpr rfl⟩
theorem intsD_inj {a b : List Int} : PyData.list (a.map PyData.int) = PyData.list (b.map PyData.int) ↔ a = b := by
  constructor
  · intro h
    have z := PyData.list.inj h
    have key : ∀ (a b : List Int), a.map PyData.int = b.map PyData.int → a = b := fun a => by
      induction a with
      | nil => intro b h; cases b with
        | nil => rfl
        | cons => cases h
      | cons x xs ih => intro b h; cases b with
        | nil => cases h
        | cons y ys =>
          have h1 := (List.cons.inj h).1
          have h2 := (List.cons.inj h).2
          rw [PyData.int.inj h1, ih ys h2]
    exact key a b z
  · intro h; rw [h]
theorem eqv_tt {a1 a2 b1 b2 : PyData} : PyData.eqv (.tuple [a1, a2]) (.tuple [b1, b2]) = (PyData.eqv a1 b1 && PyData.eqv a2 b2) := by
  simp [PyData.eqv, PyData.eqvAll]
end Ev
namespace L2
theorem Room.units65 {k : Nat} {A : PySem.Around} (r : Room (k + 1) A) : A.units + 65 < PySem.cLine := by have := r.un; omega
end L2

/-! sums of worths: by members, in any order -/
namespace Ev
open PySem L2 Ax
def addW : Option Int → Option Int → Option Int
  | some a, some b => some (a + b)
  | _, _ => none
theorem addW_none {a : Option Int} : addW a none = none := by cases a <;> rfl
theorem addW_zero {a : Option Int} : addW a (some 0) = a := by
  cases a with
  | none => rfl
  | some a => show some (a + 0) = some a; rw [Int.add_zero]
theorem zero_addW {a : Option Int} : addW (some 0) a = a := by
  cases a with
  | none => rfl
  | some a => show some (0 + a) = some a; rw [Int.zero_add]
theorem addW_comm (a b : Option Int) : addW a b = addW b a := by
  cases a <;> cases b <;> first | rfl | (show some _ = some _; rw [Int.add_comm])
theorem addW_assoc (a b c : Option Int) : addW (addW a b) c = addW a (addW b c) := by
  cases a <;> cases b <;> cases c <;> first | rfl | (show some _ = some _; rw [Int.add_assoc])
theorem addW_left (a b c : Option Int) : addW a (addW b c) = addW b (addW a c) := by rw [← addW_assoc, addW_comm a b, addW_assoc]
theorem foldW_add {x : List Int} : ∀ (ps : List PD) (a : Option Int), ps.foldl (fun acc p => acc.bind fun t => (p.worth (readPD p x)).map fun w => t + w) a = addW a (sumW ps x)
  | [], a => by show a = addW a (some 0); rw [addW_zero]
  | p :: r, a => by
    have e : ∀ b : Option Int, (b.bind fun t => (p.worth (readPD p x)).map fun w => t + w) = addW b (p.worth (readPD p x)) := fun b => by
      cases b <;> cases p.worth (readPD p x) <;> rfl
    show List.foldl _ (a.bind fun t => (p.worth (readPD p x)).map fun w => t + w) r = addW a (List.foldl _ ((some 0).bind fun t => (p.worth (readPD p x)).map fun w => t + w) r)
    rw [foldW_add r, foldW_add r, e, e, addW_assoc, zero_addW]
theorem sumW_nil {x : List Int} : sumW [] x = some 0 := rfl
theorem sumW_cons {p : PD} {ps : List PD} {x : List Int} : sumW (p :: ps) x = addW (p.worth (readPD p x)) (sumW ps x) := by
  show List.foldl _ ((some 0).bind fun t => (p.worth (readPD p x)).map fun w => t + w) ps = _
  rw [foldW_add]
  congr 1
  cases p.worth (readPD p x) with
  | none => rfl
  | some a => show some (0 + a) = some a; rw [Int.zero_add]
theorem sumW_app {x : List Int} : ∀ {ps qs : List PD}, sumW (ps ++ qs) x = addW (sumW ps x) (sumW qs x)
  | [], qs => by rw [sumW_nil, zero_addW]; rfl
  | p :: r, qs => by rw [List.cons_append, sumW_cons, sumW_cons, sumW_app, addW_assoc]
theorem sumW_none {x : List Int} {p : PD} : ∀ {ps : List PD}, p ∈ ps → p.worth (readPD p x) = none → sumW ps x = none
  | q :: r, h, e => by
    rw [sumW_cons]
    rcases List.mem_cons.mp h with rfl | h
    · rw [e]; rfl
    · rw [sumW_none h e, addW_none]
theorem sumW_perm {x : List Int} {ps qs : List PD} (h : ps.Perm qs) : sumW ps x = sumW qs x := by
  induction h with
  | nil => rfl
  | cons p _ ih => rw [sumW_cons, sumW_cons, ih]
  | swap p q r => rw [sumW_cons, sumW_cons, sumW_cons, sumW_cons, addW_left]
  | trans _ _ i j => exact i.trans j
/-- parts side by side of like worth -/
theorem sumW_map {α : Type} {x y : List Int} {f g : α → PD} : ∀ {xs : List α}, (∀ a ∈ xs, (f a).worth (readPD (f a) x) = (g a).worth (readPD (g a) y)) → sumW (xs.map f) x = sumW (xs.map g) y
  | [], _ => rfl
  | a :: r, h => by
    rw [List.map_cons, List.map_cons, sumW_cons, sumW_cons, h a List.mem_cons_self, sumW_map fun b hb => h b (List.mem_cons_of_mem _ hb)]
theorem addW_mul {t : Int} (a b : Option Int) : addW (a.map fun v => t * v) (b.map fun v => t * v) = (addW a b).map fun v => t * v := by
  cases a with
  | none => rfl
  | some a => cases b with
    | none => rfl
    | some b => show some (t * a + t * b) = some (t * (a + b)); rw [Int.mul_add]
theorem sumW_mul {α : Type} {t : Int} {x : List Int} {f g : α → PD} : ∀ {xs : List α}, (∀ a ∈ xs, (f a).worth (readPD (f a) x) = ((g a).worth (readPD (g a) x)).map fun v => t * v) → sumW (xs.map f) x = (sumW (xs.map g) x).map fun v => t * v
  | [], _ => by show some 0 = some (t * 0); rw [Int.mul_zero]
  | a :: r, h => by
    rw [List.map_cons, List.map_cons, sumW_cons, sumW_cons, h a List.mem_cons_self, sumW_mul fun b hb => h b (List.mem_cons_of_mem _ hb), addW_mul]
theorem worth_none {h : HD} {x : List Int} {p : PD} (hp : p ∈ h.ps) (e : p.worth (readPD p x) = none) : h.worth x = none := by
  unfold HD.worth
  split
  · exact sumW_none hp e
  · rfl
end Ev

/-! least points carried over from a hall to another -/
namespace Ev
open PySem L2 Ax
inductive Rs (h : HD) (n : Nat) : Option (List Int × List Int × Int) → Prop
  | lst {xl xh : List Int} {m : Int} : IsLst h n xl xh m → Rs h n (some (xl, xh, m))
  | no : (∀ x : List Int, x.length = n → h.worth x = none) → Rs h n none
theorem IsLst.uniq {h : HD} {n : Nat} {xl xh yl yh : List Int} {m k : Int} (a : IsLst h n xl xh m) (b : IsLst h n yl yh k) : xl = yl ∧ xh = yh ∧ m = k := by
  have e : m = k := by
    have h1 := a.le _ _ b.ll b.wl
    have h2 := b.le _ _ a.ll a.wl
    omega
  subst e
  refine ⟨ext_getD (by rw [a.ll, b.ll]) fun i hi => ?_, ext_getD (by rw [a.lh, b.lh]) fun i hi => ?_, rfl⟩
  · rw [a.ll] at hi
    have h1 := a.lo _ b.ll b.wl i hi
    have h2 := b.lo _ a.ll a.wl i hi
    omega
  · rw [a.lh] at hi
    have h1 := a.hi _ b.lh b.wh i hi
    have h2 := b.hi _ a.lh a.wh i hi
    omega
theorem Rs.uniq {h : HD} {n : Nat} {r s : Option (List Int × List Int × Int)} (a : Rs h n r) (b : Rs h n s) : r = s := by
  cases a with
  | lst a => cases b with
    | lst b => obtain ⟨h1, h2, h3⟩ := a.uniq b; rw [h1, h2, h3]
    | no b => have := b _ a.ll; rw [a.wl] at this; cases this
  | no a => cases b with
    | lst b => have := a _ b.ll; rw [b.wl] at this; cases this
    | no b => rfl
structure Car (h h' : HD) (n n' : Nat) (φ ψ : List Int → List Int) (t : Int → Int) : Prop where
  len : ∀ x, x.length = n → (φ x).length = n'
  lenB : ∀ y, y.length = n' → (ψ y).length = n
  back : ∀ y, y.length = n' → φ (ψ y) = y
  w : ∀ x, x.length = n → h'.worth (φ x) = (h.worth x).map t
  le : ∀ a b, a ≤ b → t a ≤ t b
  inj : ∀ a b, t a = t b → a = b
section
variable {h h' : HD} {n n' : Nat} {φ ψ : List Int → List Int} {t : Int → Int}
theorem Car.pre (c : Car h h' n n' φ ψ t) {y : List Int} {z : Int} (hl : y.length = n') (hz : h'.worth y = some z) : ∃ v, h.worth (ψ y) = some v ∧ z = t v := by
  rw [← c.back y hl, c.w _ (c.lenB y hl)] at hz
  obtain ⟨v, hv, e⟩ := Option.map_eq_some_iff.mp hz
  exact ⟨v, hv, e.symm⟩
theorem Car.no (c : Car h h' n n' φ ψ t) (a : ∀ x : List Int, x.length = n → h.worth x = none) : ∀ x : List Int, x.length = n' → h'.worth x = none := fun y hl => by
  rw [← c.back y hl, c.w _ (c.lenB y hl), a _ (c.lenB y hl)]
  rfl
theorem Car.up (c : Car h h' n n' φ ψ t) (mono : ∀ x y : List Int, x.length = n → y.length = n → (∀ i, i < n → x.getD i 0 ≤ y.getD i 0) → ∀ i, i < n' → (φ x).getD i 0 ≤ (φ y).getD i 0) {r : Option (List Int × List Int × Int)} (R : Rs h n r) : Rs h' n' (r.map fun q => (φ q.1, φ q.2.1, t q.2.2)) := by
  cases R with
  | no a => exact .no (c.no a)
  | lst L =>
    refine .lst ⟨c.len _ L.ll, c.len _ L.lh, by rw [c.w _ L.ll, L.wl]; rfl, by rw [c.w _ L.lh, L.wh]; rfl, fun p z hl hz => ?_, fun y hl hw => ?_, fun y hl hw => ?_⟩
    · obtain ⟨v, hv, rfl⟩ := c.pre hl hz
      exact c.le _ _ (L.le _ _ (c.lenB p hl) hv)
    · obtain ⟨v, hv, e⟩ := c.pre hl hw
      cases c.inj _ _ e
      have := mono _ _ L.ll (c.lenB y hl) (L.lo _ (c.lenB y hl) hv)
      rw [c.back y hl] at this
      exact this
    · obtain ⟨v, hv, e⟩ := c.pre hl hw
      cases c.inj _ _ e
      have := mono _ _ (c.lenB y hl) L.lh (L.hi _ (c.lenB y hl) hv)
      rw [c.back y hl] at this
      exact this
theorem Car.down (c : Car h h' n n' φ ψ t) (anti : ∀ x y : List Int, x.length = n → y.length = n → (∀ i, i < n → x.getD i 0 ≤ y.getD i 0) → ∀ i, i < n' → (φ y).getD i 0 ≤ (φ x).getD i 0) {r : Option (List Int × List Int × Int)} (R : Rs h n r) : Rs h' n' (r.map fun q => (φ q.2.1, φ q.1, t q.2.2)) := by
  cases R with
  | no a => exact .no (c.no a)
  | lst L =>
    refine .lst ⟨c.len _ L.lh, c.len _ L.ll, by rw [c.w _ L.lh, L.wh]; rfl, by rw [c.w _ L.ll, L.wl]; rfl, fun p z hl hz => ?_, fun y hl hw => ?_, fun y hl hw => ?_⟩
    · obtain ⟨v, hv, rfl⟩ := c.pre hl hz
      exact c.le _ _ (L.le _ _ (c.lenB p hl) hv)
    · obtain ⟨v, hv, e⟩ := c.pre hl hw
      cases c.inj _ _ e
      have := anti _ _ (c.lenB y hl) L.lh (L.hi _ (c.lenB y hl) hv)
      rw [c.back y hl] at this
      exact this
    · obtain ⟨v, hv, e⟩ := c.pre hl hw
      cases c.inj _ _ e
      have := anti _ _ L.ll (c.lenB y hl) (L.lo _ (c.lenB y hl) hv)
      rw [c.back y hl] at this
      exact this
end
theorem id_car {h h' : HD} {n : Nat} {t : Int → Int} (w : ∀ x : List Int, x.length = n → h'.worth x = (h.worth x).map t) (le : ∀ a b, a ≤ b → t a ≤ t b) (inj : ∀ a b, t a = t b → a = b) : Car h h' n n id id t := ⟨fun _ h => h, fun _ h => h, fun _ _ => rfl, w, le, inj⟩
theorem id_mono {n : Nat} : ∀ x y : List Int, x.length = n → y.length = n → (∀ i, i < n → x.getD i 0 ≤ y.getD i 0) → ∀ i, i < n → (id x).getD i 0 ≤ (id y).getD i 0 := fun _ _ _ _ h => h
theorem map_id_int (o : Option Int) : o.map (fun v : Int => v) = o := by cases o <;> rfl
/-! parts put otherwise -/
theorem read1 {p : PD} {a : Int} (h : p.stands = [a]) (x : List Int) : readPD p x = x.getD a.toNat 0 := by unfold readPD; rw [h]
theorem read2 {p : PD} {a b : Int} (h : p.stands = [a, b]) (x : List Int) : readPD p x = x.getD a.toNat 0 - x.getD b.toNat 0 := by unfold readPD; rw [h]
theorem LP.read (x : LP) (y : List Int) : readPD x.pd y = readPD x.b y := readPD_wrap x.b x.wr y
theorem getD_addc {x : List Int} {c : Int} {i : Nat} (h : i < x.length) : (x.map fun v => v + c).getD i 0 = x.getD i 0 + c := by
  rw [List.getD_eq_getElem?_getD, List.getD_eq_getElem?_getD, List.getElem?_map, List.getElem?_eq_getElem h]
  rfl
theorem getD_neg {x : List Int} {i : Nat} (h : i < x.length) : (x.map fun v => -v).getD i 0 = -x.getD i 0 := by
  rw [List.getD_eq_getElem?_getD, List.getD_eq_getElem?_getD, List.getElem?_map, List.getElem?_eq_getElem h]
  rfl
theorem inside_addc {lo hi c : Int} {x : List Int} : Inside (lo + c) (hi + c) (x.map fun v => v + c) ↔ Inside lo hi x := by
  unfold Inside
  refine ⟨fun h y hy => ?_, fun h y hy => ?_⟩
  · have := h (y + c) (List.mem_map.mpr ⟨y, hy, rfl⟩); omega
  · obtain ⟨z, hz, rfl⟩ := List.mem_map.mp hy
    have := h z hz; omega
theorem inside_neg {lo hi : Int} {x : List Int} : Inside (-hi) (-lo) (x.map fun v => -v) ↔ Inside lo hi x := by
  unfold Inside
  refine ⟨fun h y hy => ?_, fun h y hy => ?_⟩
  · have := h (-y) (List.mem_map.mpr ⟨y, hy, rfl⟩); omega
  · obtain ⟨z, hz, rfl⟩ := List.mem_map.mp hy
    have := h z hz; omega
/-- moved along at one place -/
def mvP (c : Int) (x : LP) : LP := if x.b.stands.length = 1 then ⟨x.b, (false, c) :: x.wr⟩ else x
theorem mvP_worth {many : Int} {n : Nat} (hn : (n : Int) = many) {c : Int} {x : LP} (g : x.goodW many) {y : List Int} (hl : y.length = n) : (mvP c x).pd.worth (readPD (mvP c x).pd (y.map fun v => v + c)) = x.pd.worth (readPD x.pd y) := by
  have nn := stands_nonneg g.ok
  have pl := g.pl
  rw [LP.read, LP.read]
  unfold mvP
  rcases stands_shape x.b with ⟨a, e⟩ | ⟨a, b, e⟩
  · rw [if_pos (by rw [e]; rfl)]
    have h0 := nn a (by rw [e]; simp)
    have h1 := pl a (by rw [e]; simp)
    rw [read1 e, read1 e, getD_addc (by omega)]
    show (wrap x.wr x.b).worth (_ + c - c) = _
    rw [Int.add_sub_cancel]
    rfl
  · rw [if_neg (by rw [e]; show ¬ 2 = 1; decide)]
    have h0 := nn a (by rw [e]; simp)
    have h1 := pl a (by rw [e]; simp)
    have h2 := nn b (by rw [e]; simp)
    have h3 := pl b (by rw [e]; simp)
    rw [read2 e, read2 e, getD_addc (by omega), getD_addc (by omega)]
    congr 1
    omega
theorem mvP_good {many c : Int} {x : LP} (g : x.good many) (c1 : -100 ≤ c) (c2 : c ≤ 100) : (mvP c x).goodW many := by
  unfold mvP
  split
  · refine ⟨g.ok, ⟨?_, fun w hw => ?_⟩, g.pl⟩
    · show x.wr.length + 1 ≤ 8
      have := g.wr.2.1
      omega
    · rcases List.mem_cons.mp hw with rfl | hw
      · exact ⟨c1, c2, fun e => (by cases e)⟩
      · exact g.wr.1.2 w hw
  · exact g.w
theorem moved_rs {n : Nat} {lo hi c : Int} {xs : List LP} (good : ∀ x ∈ xs, x.goodW (n : Int)) {r : Option (List Int × List Int × Int)} (R : Rs (mkHD n lo hi xs) n r) : Rs (mkHD n (lo + c) (hi + c) (xs.map (mvP c))) n (r.map fun q => (q.1.map fun v => v + c, q.2.1.map fun v => v + c, q.2.2)) := by
  refine Car.up (φ := fun x => x.map fun v => v + c) (ψ := fun x => x.map fun v => v + -c) (t := fun v => v) ⟨fun x h => by rw [List.length_map]; exact h, fun x h => by rw [List.length_map]; exact h, fun y _ => ?_, fun x hl => ?_, fun _ _ h => h, fun _ _ h => h⟩ (fun x y hx hy h i hi => ?_) R
  · rw [List.map_map]
    have : ((fun v : Int => v + c) ∘ fun v => v + -c) = id := by funext v; show v + -c + c = v; omega
    rw [this, List.map_id]
  · unfold HD.worth
    have e : sumW ((xs.map (mvP c)).map LP.pd) (x.map fun v => v + c) = sumW (xs.map LP.pd) x := by
      rw [List.map_map]
      exact sumW_map fun a ha => mvP_worth rfl (good a ha) hl
    show (if Inside (lo + c) (hi + c) _ then sumW ((xs.map (mvP c)).map LP.pd) _ else none) = Option.map _ (if Inside lo hi x then sumW (xs.map LP.pd) x else none)
    rw [e, map_id_int]
    by_cases q : Inside lo hi x
    · rw [if_pos q, if_pos (inside_addc.mpr q)]
    · rw [if_neg q, if_neg fun z => q (inside_addc.mp z)]
  · rw [getD_addc (by omega), getD_addc (by omega)]
    have := h i hi
    omega
/-- so many times -/
def tmP (t : Int) (x : LP) : LP := ⟨x.b, (true, t) :: x.wr⟩
theorem tmP_worth {t : Int} {x : LP} {y : List Int} : (tmP t x).pd.worth (readPD (tmP t x).pd y) = (x.pd.worth (readPD x.pd y)).map fun v => t * v := by
  rw [LP.read, LP.read]
  rfl
theorem tmP_good {many t : Int} {x : LP} (g : x.good many) (c1 : 1 ≤ t) (c2 : t ≤ 100) : (tmP t x).goodW many := by
  refine ⟨g.ok, ⟨?_, fun w hw => ?_⟩, g.pl⟩
  · show x.wr.length + 1 ≤ 8
    have := g.wr.2.1
    omega
  · rcases List.mem_cons.mp hw with rfl | hw
    · exact ⟨by show -100 ≤ t; omega, c2, fun _ => c1⟩
    · exact g.wr.1.2 w hw
theorem times_worth {n : Nat} {lo hi t : Int} {xs : List LP} (x : List Int) : (mkHD n lo hi (xs.map (tmP t))).worth x = ((mkHD n lo hi xs).worth x).map fun v => t * v := by
  have e : sumW ((xs.map (tmP t)).map LP.pd) x = (sumW (xs.map LP.pd) x).map fun v => t * v := by
    rw [List.map_map]
    exact sumW_mul fun a _ => tmP_worth
  unfold HD.worth
  show (if Inside lo hi x then sumW ((xs.map (tmP t)).map LP.pd) x else none) = Option.map _ (if Inside lo hi x then sumW (xs.map LP.pd) x else none)
  rw [e]
  split <;> rfl
theorem times_rs {n : Nat} {lo hi t : Int} {xs : List LP} (t1 : 1 ≤ t) {r : Option (List Int × List Int × Int)} (R : Rs (mkHD n lo hi xs) n r) : Rs (mkHD n lo hi (xs.map (tmP t))) n (r.map fun q => (q.1, q.2.1, t * q.2.2)) :=
  Car.up (φ := id) (ψ := id) (id_car (fun x _ => times_worth x) (fun a b h => Int.mul_le_mul_of_nonneg_left h (by omega)) fun a b h => Int.eq_of_mul_eq_mul_left (by omega) h) id_mono R
/-- in another order, or with parts of no worth: the same worths -/
theorem same_rs {h h' : HD} {n : Nat} (w : ∀ x : List Int, x.length = n → h'.worth x = h.worth x) {r : Option (List Int × List Int × Int)} (R : Rs h n r) : Rs h' n r := by
  have := Car.up (h' := h') (n' := n) (φ := id) (ψ := id) (id_car (t := fun v => v) (fun x hl => by rw [map_id_int]; exact w x hl) (fun _ _ h => h) fun _ _ h => h) id_mono R
  have e : (r.map fun q => (id q.1, id q.2.1, q.2.2)) = r := by cases r <;> rfl
  rw [e] at this
  exact this
theorem perm_worth {n : Nat} {lo hi : Int} {xs ys : List LP} (h : xs.Perm ys) (x : List Int) : (mkHD n lo hi ys).worth x = (mkHD n lo hi xs).worth x := by
  unfold HD.worth
  show (if Inside lo hi x then sumW (ys.map LP.pd) x else none) = if Inside lo hi x then sumW (xs.map LP.pd) x else none
  rw [sumW_perm (h.map LP.pd)]
/-- places named otherwise -/
def PD.ren (f : Int → Int) : PD → PD
  | .slope p w => .slope (f p) w
  | .aim p a w => .aim (f p) a w
  | .square p a w => .square (f p) a w
  | .row p r ws => .row (f p) r ws
  | .wall p lo hi => .wall (f p) lo hi
  | .near o t a w => .near (f o) (f t) a w
  | .gaps o t r ws => .gaps (f o) (f t) r ws
  | .ahead o t g => .ahead (f o) (f t) g
  | .times q m => .times q m
  | .moved q b => .moved q b
theorem ren_stands {f : Int → Int} {b : PD} (hb : b.base) : (b.ren f).stands = b.stands.map f := by cases b <;> first | rfl | exact hb.elim
theorem ren_base {f : Int → Int} {b : PD} (hb : b.base) : (b.ren f).base := by cases b <;> first | exact trivial | exact hb.elim
theorem ren_word {f : Int → Int} {b : PD} : (b.ren f).word = b.word := by cases b <;> rfl
theorem ren_num {f : Int → Int} {b : PD} {H : Hp} {a : Addr} (h : NumAt H b a) : NumAt H (b.ren f) a := by cases b <;> exact h
theorem ren_w {f : Int → Int} {b : PD} (hb : b.base) (x : Int) : (b.ren f).worth x = b.worth x := by cases b <;> first | rfl | exact hb.elim
theorem wrap_congr {b c : PD} (h : ∀ x, b.worth x = c.worth x) : ∀ (wr : Wr) (x : Int), (wrap wr b).worth x = (wrap wr c).worth x
  | [], x => h x
  | (true, m) :: r, x => by
    show ((wrap r b).worth x).map _ = ((wrap r c).worth x).map _
    rw [wrap_congr h r x]
  | (false, m) :: r, x => wrap_congr h r (x - m)
def rnP (f : Int → Int) (x : LP) : LP := ⟨x.b.ren f, x.wr⟩
theorem ren_ok {f : Int → Int} {b : PD} (ok : b.ok) (hb : b.base) (pl : ∀ s ∈ b.stands, Plc (f s)) (inj : ∀ s ∈ b.stands, ∀ t ∈ b.stands, f s = f t → s = t) : (b.ren f).ok := by
  cases b with
  | slope p w => exact ⟨pl p (by simp [PD.stands]), ok.2⟩
  | aim p a w => exact ⟨pl p (by simp [PD.stands]), ok.2⟩
  | square p a w => exact ⟨pl p (by simp [PD.stands]), ok.2⟩
  | row p r ws => exact ⟨pl p (by simp [PD.stands]), ok.2⟩
  | wall p lo hi => exact ⟨pl p (by simp [PD.stands]), ok.2⟩
  | near o t a w => exact ⟨pl o (by simp [PD.stands]), pl t (by simp [PD.stands]), fun e => ok.2.2.1 (inj o (by simp [PD.stands]) t (by simp [PD.stands]) e), ok.2.2.2⟩
  | gaps o t a w => exact ⟨pl o (by simp [PD.stands]), pl t (by simp [PD.stands]), fun e => ok.2.2.1 (inj o (by simp [PD.stands]) t (by simp [PD.stands]) e), ok.2.2.2⟩
  | ahead o t g => exact ⟨pl o (by simp [PD.stands]), pl t (by simp [PD.stands]), fun e => ok.2.2.1 (inj o (by simp [PD.stands]) t (by simp [PD.stands]) e), ok.2.2.2⟩
  | times => exact hb.elim
  | moved => exact hb.elim
theorem rnP_worth {f : Int → Int} {x : LP} (hb : x.b.base) {y z : List Int} (h : ∀ s ∈ x.b.stands, z.getD (f s).toNat 0 = y.getD s.toNat 0) : (rnP f x).pd.worth (readPD (rnP f x).pd z) = x.pd.worth (readPD x.pd y) := by
  rw [LP.read, LP.read]
  have er : readPD (rnP f x).b z = readPD x.b y := by
    have es := ren_stands (f := f) hb
    rcases stands_shape x.b with ⟨a, e⟩ | ⟨a, b, e⟩
    · rw [e] at es
      rw [read1 e, read1 (p := (rnP f x).b) (show (x.b.ren f).stands = [f a] from es), h a (by rw [e]; simp)]
    · rw [e] at es
      rw [read2 e, read2 (p := (rnP f x).b) (show (x.b.ren f).stands = [f a, f b] from es), h a (by rw [e]; simp), h b (by rw [e]; simp)]
  rw [er]
  exact wrap_congr (ren_w hb) x.wr _
/-- the other way round 0 -/
def PD.mir : PD → PD
  | .slope p w => .slope p (-w)
  | .aim p a w => .aim p (-a) w
  | .square p a w => .square p (-a) w
  | .row p r ws => .row p (1 - r - (ws.length : Int)) ws.reverse
  | .wall p lo hi => .wall p (-hi) (-lo)
  | .near o t a w => .near o t (-a) w
  | .gaps o t r ws => .gaps o t (1 - r - (ws.length : Int)) ws.reverse
  | .ahead o t g => .ahead t o g
  | .times q m => .times q m
  | .moved q b => .moved q b
def mirW (wr : Wr) : Wr := wr.map fun w => (w.1, if w.1 then w.2 else -w.2)
def isAhead : PD → Bool
  | .ahead .. => true
  | _ => false
def mrP (x : LP) : LP := ⟨x.b.mir, if isAhead x.b then x.wr else mirW x.wr⟩
theorem row_mir {r : Int} {ws : List Int} (x : Int) : rowAt (1 - r - (ws.length : Int)) ws.reverse (-x) = rowAt r ws x := by
  unfold rowAt
  by_cases h0 : 0 ≤ x - r
  · rw [if_pos h0]
    by_cases h1 : x - r < (ws.length : Int)
    · rw [if_pos (by omega), List.getElem?_reverse (by omega)]
      congr 1
      omega
    · rw [if_neg (by omega), List.getElem?_eq_none (by omega)]
  · rw [if_neg h0]
    by_cases h2 : 0 ≤ -x - (1 - r - (ws.length : Int))
    · rw [if_pos h2, List.getElem?_eq_none (by rw [List.length_reverse]; omega)]
    · rw [if_neg h2]
theorem absI_neg (x : Int) : absI (-x) = absI x := by unfold absI; split <;> split <;> omega
theorem mir_w {b : PD} (hb : b.base) (na : isAhead b = false) (x : Int) : b.mir.worth (-x) = b.worth x := by
  cases b with
  | slope p w => show some (-w * -x) = some (w * x); rw [Int.neg_mul_neg]
  | aim p a w => show some (w * absI (-x - -a)) = some (w * absI (x - a)); rw [← absI_neg (x - a)]; congr 3; omega
  | square p a w =>
    show some (w * (-x - -a) * (-x - -a)) = some (w * (x - a) * (x - a))
    rw [show -x - -a = -(x - a) by omega, Int.mul_assoc, Int.neg_mul_neg, ← Int.mul_assoc]
  | row p r ws => exact row_mir x
  | wall p lo hi =>
    show (if -hi ≤ -x ∧ -x ≤ -lo then some (0 : Int) else none) = if lo ≤ x ∧ x ≤ hi then some 0 else none
    by_cases q : lo ≤ x ∧ x ≤ hi
    · rw [if_pos q, if_pos ⟨by omega, by omega⟩]
    · rw [if_neg q, if_neg fun z => q ⟨by omega, by omega⟩]
  | near o t a w => show some (w * absI (-x - -a)) = some (w * absI (x - a)); rw [← absI_neg (x - a)]; congr 3; omega
  | gaps o t r ws => exact row_mir x
  | ahead => cases na
  | times => exact hb.elim
  | moved => exact hb.elim
theorem mirW_w {b c : PD} (h : ∀ x, b.worth (-x) = c.worth x) : ∀ (wr : Wr) (x : Int), (wrap (mirW wr) b).worth (-x) = (wrap wr c).worth x
  | [], x => h x
  | (true, m) :: r, x => by
    show ((wrap (mirW r) b).worth (-x)).map _ = ((wrap r c).worth x).map _
    rw [mirW_w h r x]
    rfl
  | (false, m) :: r, x => by
    show (wrap (mirW r) b).worth (-x - -m) = (wrap r c).worth (x - m)
    rw [← mirW_w h r (x - m)]
    congr 1
    omega
theorem mir_base {b : PD} (hb : b.base) : b.mir.base := by cases b <;> first | exact trivial | exact hb.elim
theorem mir_word {b : PD} : b.mir.word = b.word := by cases b <;> rfl
theorem mir_stands {b : PD} (hb : b.base) : b.mir.stands = if isAhead b then b.stands.reverse else b.stands := by cases b <;> first | rfl | exact hb.elim
theorem mrP_worth {many : Int} {n : Nat} (hn : (n : Int) = many) {x : LP} (hb : x.b.base) (g : x.goodW many) {y : List Int} (hl : y.length = n) : (mrP x).pd.worth (readPD (mrP x).pd (y.map fun v => -v)) = x.pd.worth (readPD x.pd y) := by
  have nn := stands_nonneg g.ok
  have pl := g.pl
  rw [LP.read, LP.read]
  have es := mir_stands hb
  cases q : isAhead x.b with
  | false =>
    rw [q, if_neg (by simp)] at es
    have er : readPD (mrP x).b (y.map fun v => -v) = -readPD x.b y := by
      rcases stands_shape x.b with ⟨a, e⟩ | ⟨a, b, e⟩
      · have h0 := nn a (by rw [e]; simp)
        have h1 := pl a (by rw [e]; simp)
        rw [read1 e, read1 (p := (mrP x).b) (es.trans e), getD_neg (by omega)]
      · have h0 := nn a (by rw [e]; simp)
        have h1 := pl a (by rw [e]; simp)
        have h2 := nn b (by rw [e]; simp)
        have h3 := pl b (by rw [e]; simp)
        rw [read2 e, read2 (p := (mrP x).b) (es.trans e), getD_neg (by omega), getD_neg (by omega)]
        omega
    rw [er]
    show (wrap (if isAhead x.b then x.wr else mirW x.wr) x.b.mir).worth _ = _
    rw [q, if_neg (by simp)]
    exact mirW_w (mir_w hb q) x.wr _
  | true =>
    have e2 : (mrP x).wr = x.wr := by unfold mrP; rw [q]; rfl
    obtain ⟨b, wr⟩ := x
    cases b with
    | ahead o t gp =>
      have h0 := nn o (by simp [PD.stands])
      have h1 := pl o (by simp [PD.stands])
      have h2 := nn t (by simp [PD.stands])
      have h3 := pl t (by simp [PD.stands])
      have r1 : readPD (mrP ⟨.ahead o t gp, wr⟩).b (y.map fun v => -v) = (y.map fun v => -v).getD t.toNat 0 - (y.map fun v => -v).getD o.toNat 0 := rfl
      have r2 : readPD (LP.mk (.ahead o t gp) wr).b y = y.getD o.toNat 0 - y.getD t.toNat 0 := rfl
      rw [r1, r2, getD_neg (by omega), getD_neg (by omega)]
      have e : -y.getD t.toNat 0 - -y.getD o.toNat 0 = y.getD o.toNat 0 - y.getD t.toNat 0 := by omega
      rw [e]
      show (wrap wr (PD.ahead t o gp)).worth _ = (wrap wr (PD.ahead o t gp)).worth _
      exact wrap_congr (b := .ahead t o gp) (c := .ahead o t gp) (fun _ => rfl) wr _
    | _ => cases q
theorem even_rev {ws : List Int} (h : Even ws) : Even ws.reverse := fun i hi => by
  rw [List.length_reverse] at hi
  have g : ∀ j, j < ws.length → ws.reverse.getD j 0 = ws.getD (ws.length - 1 - j) 0 := fun j hj => by
    rw [List.getD_eq_getElem?_getD, List.getD_eq_getElem?_getD, List.getElem?_reverse hj]
  rw [g i (by omega), g (i + 1) (by omega), g (i + 2) (by omega)]
  have := h (ws.length - 1 - (i + 2)) (by omega)
  rw [show ws.length - 1 - (i + 2) + 1 = ws.length - 1 - (i + 1) by omega, show ws.length - 1 - (i + 2) + 2 = ws.length - 1 - i by omega] at this
  omega
theorem row_mir_ok {r : Int} {ws : List Int} (ok : RowOk r ws) (l1 : -30 ≤ r) (l2 : r + (ws.length : Int) - 1 ≤ 30) : RowOk (1 - r - (ws.length : Int)) ws.reverse := by
  have := ok.l1
  refine ⟨⟨by omega, by omega⟩, by rw [List.length_reverse]; exact ok.l1, by rw [List.length_reverse]; exact ok.l2, fun x hx => ok.wb x (List.mem_reverse.mp hx), even_rev ok.ev⟩
theorem mir_ok {b : PD} (ok : b.ok) (hb : b.base) (lim : ∀ y, b.limits.1 = some y ∨ b.limits.2 = some y → -30 ≤ y ∧ y ≤ 30) : b.mir.ok := by
  cases b with
  | slope p w => exact ⟨ok.1, by have := ok.2; omega, by have := ok.2; omega⟩
  | aim p a w => exact ⟨ok.1, by have := ok.2.1; unfold Rch at *; omega, ok.2.2⟩
  | square p a w => exact ⟨ok.1, by have := ok.2.1; unfold Rch at *; omega, ok.2.2⟩
  | row p r ws => exact ⟨ok.1, row_mir_ok ok.2 (lim r (.inl rfl)).1 (lim _ (.inr rfl)).2⟩
  | wall p lo hi => exact ⟨ok.1, by have := ok.2.2.1; unfold Rch at *; omega, by have := ok.2.1; unfold Rch at *; omega, by have := ok.2.2.2; omega⟩
  | near o t a w => exact ⟨ok.1, ok.2.1, ok.2.2.1, by have := ok.2.2.2.1; unfold Rch at *; omega, ok.2.2.2.2⟩
  | gaps o t r ws => exact ⟨ok.1, ok.2.1, ok.2.2.1, row_mir_ok ok.2.2.2 (lim r (.inl rfl)).1 (lim _ (.inr rfl)).2⟩
  | ahead o t g => exact ⟨ok.2.1, ok.1, fun e => ok.2.2.1 e.symm, ok.2.2.2⟩
  | times => exact hb.elim
  | moved => exact hb.elim
theorem mirW_ok {wr : Wr} (h : WrOk wr) : WrOk (mirW wr) := by
  refine ⟨by unfold mirW; rw [List.length_map]; exact h.1, fun w hw => ?_⟩
  obtain ⟨v, hv, rfl⟩ := List.mem_map.mp hw
  have := h.2 v hv
  obtain ⟨t, k⟩ := v
  cases t with
  | true => exact this
  | false => exact ⟨by show -100 ≤ -k; omega, by show -k ≤ 100; omega, fun e => (by cases e)⟩
theorem mrP_good {many : Int} {x : LP} (hb : x.b.base) (g : x.goodW many) (lim : ∀ y, x.b.limits.1 = some y ∨ x.b.limits.2 = some y → -30 ≤ y ∧ y ≤ 30) : (mrP x).goodW many := by
  refine ⟨mir_ok g.ok hb lim, ?_, fun s hs => ?_⟩
  · show WrOk (if isAhead x.b then x.wr else mirW x.wr)
    split
    · exact g.wr
    · exact mirW_ok g.wr
  · have e : (mrP x).b.stands = x.b.mir.stands := rfl
    rw [e, mir_stands hb] at hs
    split at hs
    · exact g.pl s (List.mem_reverse.mp hs)
    · exact g.pl s hs
theorem mir_rs {n : Nat} {lo hi : Int} {xs : List LP} (hb : ∀ x ∈ xs, x.b.base) (good : ∀ x ∈ xs, x.goodW (n : Int)) {r : Option (List Int × List Int × Int)} (R : Rs (mkHD n lo hi xs) n r) : Rs (mkHD n (-hi) (-lo) (xs.map mrP)) n (r.map fun q => (q.2.1.map fun v => -v, q.1.map fun v => -v, q.2.2)) := by
  refine Car.down (φ := fun x => x.map fun v => -v) (ψ := fun x => x.map fun v => -v) (t := fun v => v) ⟨fun x h => by rw [List.length_map]; exact h, fun x h => by rw [List.length_map]; exact h, fun y _ => ?_, fun x hl => ?_, fun _ _ h => h, fun _ _ h => h⟩ (fun x y hx hy h i hi => ?_) R
  · rw [List.map_map]
    have : ((fun v : Int => -v) ∘ fun v => -v) = id := by funext v; show - -v = v; omega
    rw [this, List.map_id]
  · unfold HD.worth
    have e : sumW ((xs.map mrP).map LP.pd) (x.map fun v => -v) = sumW (xs.map LP.pd) x := by
      rw [List.map_map]
      exact sumW_map fun a ha => mrP_worth rfl (hb a ha) (good a ha) hl
    show (if Inside (-hi) (-lo) _ then sumW ((xs.map mrP).map LP.pd) _ else none) = Option.map _ (if Inside lo hi x then sumW (xs.map LP.pd) x else none)
    rw [e, map_id_int]
    by_cases q : Inside lo hi x
    · rw [if_pos q, if_pos (inside_neg.mpr q)]
    · rw [if_neg q, if_neg fun z => q (inside_neg.mp z)]
  · rw [getD_neg (by omega), getD_neg (by omega)]
    have := h i hi
    omega
/-- side by side -/
theorem inside_app {lo hi : Int} {x y : List Int} : Inside lo hi (x ++ y) ↔ Inside lo hi x ∧ Inside lo hi y := by
  unfold Inside
  refine ⟨fun h => ⟨fun z hz => h z (List.mem_append_left _ hz), fun z hz => h z (List.mem_append_right _ hz)⟩, fun h z hz => (List.mem_append.mp hz).elim (h.1 z) (h.2 z)⟩
theorem getD_appL {x y : List Int} {i : Nat} (h : i < x.length) : (x ++ y).getD i 0 = x.getD i 0 := by
  rw [List.getD_eq_getElem?_getD, List.getD_eq_getElem?_getD, List.getElem?_append_left h]
theorem getD_appR {x y : List Int} {i : Nat} : (x ++ y).getD (x.length + i) 0 = y.getD i 0 := by
  rw [List.getD_eq_getElem?_getD, List.getD_eq_getElem?_getD, List.getElem?_append_right (by omega)]
  congr 2
  omega
def shP (k : Int) (x : LP) : LP := rnP (fun s => k + s) x
theorem app_worth {n k : Nat} {lo hi : Int} {xs ys : List LP} (hbx : ∀ x ∈ xs, x.b.base) (hby : ∀ x ∈ ys, x.b.base) (gx : ∀ x ∈ xs, x.goodW (n : Int)) (gy : ∀ x ∈ ys, x.goodW (k : Int)) {x y : List Int} (hx : x.length = n) : (mkHD ((n + k : Nat) : Int) lo hi (xs ++ ys.map (shP n))).worth (x ++ y) = addW ((mkHD n lo hi xs).worth x) ((mkHD k lo hi ys).worth y) := by
  have e1 : sumW (xs.map LP.pd) (x ++ y) = sumW (xs.map LP.pd) x := by
    refine sumW_map fun a ha => ?_
    have nn := stands_nonneg (gx a ha).ok
    have pl := (gx a ha).pl
    rw [LP.read, LP.read]
    congr 1
    rcases stands_shape a.b with ⟨p, e⟩ | ⟨p, q, e⟩
    · have h0 := nn p (by rw [e]; simp)
      have h1 := pl p (by rw [e]; simp)
      rw [read1 e, read1 e, getD_appL (by omega)]
    · have h0 := nn p (by rw [e]; simp)
      have h1 := pl p (by rw [e]; simp)
      have h2 := nn q (by rw [e]; simp)
      have h3 := pl q (by rw [e]; simp)
      rw [read2 e, read2 e, getD_appL (by omega), getD_appL (by omega)]
  have e2 : sumW ((ys.map (shP n)).map LP.pd) (x ++ y) = sumW (ys.map LP.pd) y := by
    rw [List.map_map]
    refine sumW_map fun a ha => rnP_worth (hby a ha) fun s hs => ?_
    have nn := stands_nonneg (gy a ha).ok s hs
    show (x ++ y).getD ((n : Int) + s).toNat 0 = _
    rw [show ((n : Int) + s).toNat = x.length + s.toNat by omega, getD_appR]
  unfold HD.worth
  show (if Inside lo hi (x ++ y) then sumW ((xs ++ ys.map (shP n)).map LP.pd) (x ++ y) else none) = addW (if Inside lo hi x then sumW (xs.map LP.pd) x else none) (if Inside lo hi y then sumW (ys.map LP.pd) y else none)
  rw [List.map_append, sumW_app, e1, e2]
  by_cases q1 : Inside lo hi x
  · by_cases q2 : Inside lo hi y
    · rw [if_pos q1, if_pos q2, if_pos (inside_app.mpr ⟨q1, q2⟩)]
    · rw [if_neg q2, if_neg fun z => q2 (inside_app.mp z).2, addW_none]
  · rw [if_neg q1, if_neg fun z => q1 (inside_app.mp z).1]
    rfl
theorem addW_some {a b : Option Int} {v : Int} (h : addW a b = some v) : ∃ x y, a = some x ∧ b = some y ∧ v = x + y := by
  cases a with
  | none => cases h
  | some x => cases b with
    | none => cases h
    | some y => cases h; exact ⟨x, y, rfl, rfl, rfl⟩
def bothR : Option (List Int × List Int × Int) → Option (List Int × List Int × Int) → Option (List Int × List Int × Int)
  | some a, some b => some (a.1 ++ b.1, a.2.1 ++ b.2.1, a.2.2 + b.2.2)
  | _, _ => none
theorem app_rs {h1 h2 h3 : HD} {n k : Nat} (w : ∀ x y : List Int, x.length = n → y.length = k → h3.worth (x ++ y) = addW (h1.worth x) (h2.worth y)) {r s : Option (List Int × List Int × Int)} (R : Rs h1 n r) (S : Rs h2 k s) : Rs h3 (n + k) (bothR r s) := by
  have cut : ∀ z : List Int, z.length = n + k → ∃ x y : List Int, x.length = n ∧ y.length = k ∧ z = x ++ y := fun z hz => ⟨z.take n, z.drop n, by rw [List.length_take]; omega, by rw [List.length_drop]; omega, (List.take_append_drop n z).symm⟩
  cases R with
  | no a =>
    have : bothR none s = none := by cases s <;> rfl
    rw [this]
    refine .no fun z hz => ?_
    obtain ⟨x, y, hx, hy, rfl⟩ := cut z hz
    rw [w x y hx hy, a x hx]
    rfl
  | lst L => cases S with
    | no b =>
      refine .no fun z hz => ?_
      obtain ⟨x, y, hx, hy, rfl⟩ := cut z hz
      rw [w x y hx hy, b y hy, addW_none]
    | lst M =>
      rename_i xl xh m yl yh q
      have split : ∀ x y : List Int, x.length = n → y.length = k → h3.worth (x ++ y) = some (m + q) → h1.worth x = some m ∧ h2.worth y = some q := fun x y hx hy hw => by
        rw [w x y hx hy] at hw
        obtain ⟨a, b, ha, hb, e⟩ := addW_some hw
        have := L.le _ _ hx ha
        have := M.le _ _ hy hb
        rw [ha, hb, show a = m by omega, show b = q by omega]
        exact ⟨rfl, rfl⟩
      refine .lst ⟨by rw [List.length_append, L.ll, M.ll], by rw [List.length_append, L.lh, M.lh], by rw [w _ _ L.ll M.ll, L.wl, M.wl]; rfl, by rw [w _ _ L.lh M.lh, L.wh, M.wh]; rfl, fun z v hz hv => ?_, fun z hz hv i hi => ?_, fun z hz hv i hi => ?_⟩
      · obtain ⟨x, y, hx, hy, rfl⟩ := cut z hz
        rw [w x y hx hy] at hv
        obtain ⟨a, b, ha, hb, e⟩ := addW_some hv
        have := L.le _ _ hx ha
        have := M.le _ _ hy hb
        show m + q ≤ v
        omega
      · obtain ⟨x, y, hx, hy, rfl⟩ := cut z hz
        obtain ⟨h5, h6⟩ := split x y hx hy hv
        by_cases c : i < n
        · rw [getD_appL (by rw [L.ll]; exact c), getD_appL (by omega)]
          exact L.lo _ hx h5 i c
        · obtain ⟨j, rfl⟩ : ∃ j, i = n + j := ⟨i - n, by omega⟩
          have e1 := getD_appR (x := xl) (y := yl) (i := j)
          have e2 := getD_appR (x := x) (y := y) (i := j)
          rw [L.ll] at e1
          rw [hx] at e2
          rw [e1, e2]
          exact M.lo _ hy h6 j (by omega)
      · obtain ⟨x, y, hx, hy, rfl⟩ := cut z hz
        obtain ⟨h5, h6⟩ := split x y hx hy hv
        by_cases c : i < n
        · rw [getD_appL (x := xh) (by rw [L.lh]; exact c), getD_appL (x := x) (by omega)]
          exact L.hi _ hx h5 i c
        · obtain ⟨j, rfl⟩ : ∃ j, i = n + j := ⟨i - n, by omega⟩
          have e1 := getD_appR (x := xh) (y := yh) (i := j)
          have e2 := getD_appR (x := x) (y := y) (i := j)
          rw [L.lh] at e1
          rw [hx] at e2
          rw [e1, e2]
          exact M.hi _ hy h6 j (by omega)
end Ev

/-! all that is told of a hall and a point, as data: there is just one -/
namespace Ev
open PySem L2 Ax
theorem BestOf.uniq {n : Nat} {h : HD} {x : List Int} {way v w : Int} {c d : Nat} (a : BestOf n h x way v c) (b : BestOf n h x way w d) : v = w ∧ c = d := by
  have h1 := a.min _ _ b.at_
  have h2 := b.min _ _ a.at_
  have e : v = w := by omega
  subst e
  refine ⟨rfl, Nat.eq_of_testBit_eq fun i => ?_⟩
  by_cases hi : i < n
  · have p := a.sub _ b.at_ i hi
    have q := b.sub _ a.at_ i hi
    cases e1 : c.testBit i with
    | true => rw [p e1]
    | false =>
      cases e2 : d.testBit i with
      | false => rfl
      | true => rw [q e2] at e1; cases e1
  · have le : 2 ^ n ≤ 2 ^ i := Nat.pow_le_pow_right (by decide) (by omega)
    rw [Nat.testBit_lt_two_pow (Nat.lt_of_lt_of_le a.lt le), Nat.testBit_lt_two_pow (Nat.lt_of_lt_of_le b.lt le)]
/-- where no set betters the point -/
structure EndAt (h : HD) (way : Int) (y : List Int) : Prop where
  ex : ∃ v, h.worth y = some v ∧ ∀ U : Nat → Bool, ∀ z, h.worth (mvd y U way) = some z → v ≤ z
theorem EndAt.no {h : HD} {way : Int} {y : List Int} (E : EndAt h way y) {n : Nat} {v : Int} {c : Nat} (B : BestOf n h y way v c) : ¬ ∃ k, k < n ∧ c.testBit k = true := fun ⟨k, hk, t⟩ => by
  obtain ⟨w, hw, hmin⟩ := E.ex
  have e0 : h.worth (mvd y (fun _ => false) way) = some w := by rw [mvd_none]; exact hw
  have h1 := B.min _ _ e0
  have h2 := hmin _ _ B.at_
  have e : v = w := by omega
  subst e
  have := B.sub _ e0 k hk t
  cases this
theorem Wk.uniq {n : Nat} {h : HD} {way : Int} {x y z : List Int} {cs ds : List Nat} (W : Wk n h way x cs y) (V : Wk n h way x ds z) (E : EndAt h way y) (F : EndAt h way z) : cs = ds := by
  have gy := W.goTo
  have gz := V.goTo
  have key : ∀ k, cs.take k = ds.take k := by
    intro k
    induction k with
    | zero => rfl
    | succ k ih =>
      rw [List.take_add_one, List.take_add_one, ih]
      congr 2
      cases e1 : cs[k]? with
      | some a =>
        obtain ⟨v, B, hb⟩ := W.at_ k a e1
        cases e2 : ds[k]? with
        | some b =>
          obtain ⟨w, B2, _⟩ := V.at_ k b e2
          rw [ih] at B
          rw [(B.uniq B2).2]
        | none =>
          have l := List.getElem?_eq_none_iff.mp e2
          rw [ih, List.take_of_length_le l, ← gz] at B
          exact (F.no B hb).elim
      | none =>
        cases e2 : ds[k]? with
        | none => rfl
        | some b =>
          obtain ⟨v, B, hb⟩ := V.at_ k b e2
          have l := List.getElem?_eq_none_iff.mp e1
          rw [← ih, List.take_of_length_le l, ← gy] at B
          exact (E.no B hb).elim
  have z := key (cs.length + ds.length)
  rw [List.take_of_length_le (by omega), List.take_of_length_le (by omega)] at z
  exact z
def intsD (l : List Int) : PyData := .list (l.map PyData.int)
def natsD (l : List Nat) : PyData := .list (l.map fun b => PyData.int ((b : Nat) : Int))
inductive LstD (h : HD) (n : Nat) : PyData → Prop
  | lst {xl xh : List Int} {m : Int} : IsLst h n xl xh m → LstD h n (.list [intsD xl, intsD xh, .int m])
  | no : (∀ x : List Int, x.length = n → h.worth x = none) → LstD h n (.list [.bool true])
theorem LstD.uniq {h : HD} {n : Nat} {a b : PyData} (A : LstD h n a) (B : LstD h n b) : a = b := by
  cases A with
  | lst L =>
    cases B with
    | lst M => obtain ⟨e1, e2, e3⟩ := L.uniq M; rw [e1, e2, e3]
    | no z => have := z _ L.ll; rw [L.wl] at this; cases this
  | no z =>
    cases B with
    | lst M => have := z _ M.ll; rw [M.wl] at this; cases this
    | no _ => rfl
def isMinW (h : HD) (n : Nat) (w0 : Int) : Prop := ∀ y v, y.length = n → h.worth y = some v → w0 ≤ v
inductive LokD (h : HD) (n : Nat) (w0 : Int) : PyData → Prop
  | yes : isMinW h n w0 → LokD h n w0 (.list [.bool true, .bool true])
  | no : ¬ isMinW h n w0 → LokD h n w0 (.list [.bool false, .bool true])
theorem LokD.uniq {h : HD} {n : Nat} {w0 : Int} {a b : PyData} (A : LokD h n w0 a) (B : LokD h n w0 b) : a = b := by
  cases A <;> cases B <;> first | rfl | (rename_i p q; exact absurd p q) | (rename_i p q; exact absurd q p)
inductive ClmD (h : HD) (n : Nat) (way : Int) (x : List Int) : PyData → Prop
  | mk {cs : List Nat} {y : List Int} : Wk n h way x cs y → EndAt h way y → cs.length ≤ 800 → ClmD h n way x (.list (cs.map fun c => natsD ((List.range n).filter fun i => c.testBit i)))
theorem ClmD.uniq {h : HD} {n : Nat} {way : Int} {x : List Int} {a b : PyData} (A : ClmD h n way x a) (B : ClmD h n way x b) : a = b := by
  obtain ⟨W, E, _⟩ := A
  obtain ⟨V, F, _⟩ := B
  rw [W.uniq V E F]
inductive BstD (h : HD) (n : Nat) (way : Int) (x : List Int) : PyData → Prop
  | mk {c : Nat} {v : Int} : BestOf n h x way v c → BstD h n way x (.list [natsD ((List.range n).filter fun i => c.testBit i), .int v])
theorem BstD.uniq {h : HD} {n : Nat} {way : Int} {x : List Int} {a b : PyData} (A : BstD h n way x a) (B : BstD h n way x b) : a = b := by
  obtain ⟨B1⟩ := A
  obtain ⟨B2⟩ := B
  obtain ⟨e1, e2⟩ := B1.uniq B2
  rw [e1, e2]
inductive DrrD (h : HD) (n : Nat) (p : Int) (ws : List Int) : PyData → Prop
  | yes {ys : List (List Int)} : ys.length = ws.length → (∀ (i : Nat) (w : Int) (y : List Int), ws[i]? = some w → ys[i]? = some y → ∃ c, LowL (slH h p w) n y c) → (∃ x : List Int, x.length = n ∧ h.worth x ≠ none) → DrrD h n p ws (.list (ys.map intsD))
  | no : (∀ x : List Int, x.length = n → h.worth x = none) → DrrD h n p ws (.list (List.replicate ws.length PyData.none))
theorem DrrD.uniq {h : HD} {n : Nat} {p : Int} {ws : List Int} {a b : PyData} (A : DrrD h n p ws a) (B : DrrD h n p ws b) : a = b := by
  cases A with
  | @yes ys l1 h1 f1 =>
    cases B with
    | @yes zs l2 h2 f2 =>
      have e : ys = zs := by
        apply List.ext_getElem (by omega)
        intro i i1 i2
        obtain ⟨c, q1⟩ := h1 i _ _ (List.getElem?_eq_getElem (by omega)) (List.getElem?_eq_getElem i1)
        obtain ⟨d, q2⟩ := h2 i _ _ (List.getElem?_eq_getElem (by omega)) (List.getElem?_eq_getElem i2)
        exact q1.uniq q2
      rw [e]
    | no z => obtain ⟨x, l, f⟩ := f1; exact absurd (z x l) f
  | no z =>
    cases B with
    | yes _ _ f2 => obtain ⟨x, l, f⟩ := f2; exact absurd (z x l) f
    | no _ => rfl
def worD : Option Int → PyData
  | none => .none
  | some i => .int i
inductive AllD (h : HD) (n : Nat) (x : List Int) : PyData → Prop
  | bar {d1 d5 : PyData} : h.worth x = none → LstD h n d1 → DrrD h n 0 [1, -3, 0] d5 → AllD h n x (.list [d1, .str (txH h), .int (h.ps.length : Nat), .none, d5])
  | free {w0 : Int} {d1 d5 d6 d7 d8 d9 d10 : PyData} : h.worth x = some w0 → LstD h n d1 → DrrD h n 0 [1, -3, 0] d5 → LokD h n w0 d6 → ClmD h n 1 x d7 → ClmD h n (-1) x d8 → BstD h n 1 x d9 → BstD h n (-1) x d10 → AllD h n x (.list [d1, .str (txH h), .int (h.ps.length : Nat), .int w0, d5, d6, d7, d8, d9, d10])
theorem AllD.uniq {h : HD} {n : Nat} {x : List Int} {a b : PyData} (A : AllD h n x a) (B : AllD h n x b) : a = b := by
  cases A with
  | bar w a1 a5 =>
    cases B with
    | bar _ b1 b5 => rw [a1.uniq b1, a5.uniq b5]
    | free w' => rw [w] at w'; cases w'
  | free w a1 a5 a6 a7 a8 a9 a10 =>
    cases B with
    | bar w' => rw [w] at w'; cases w'
    | free w' b1 b5 b6 b7 b8 b9 b10 =>
      rw [w] at w'
      cases w'
      rw [a1.uniq b1, a5.uniq b5, a6.uniq b6, a7.uniq b7, a8.uniq b8, a9.uniq b9, a10.uniq b10]
/-! such data can be compared -/
def DOk (d : PyData) (k : Nat) : Prop := d.canLay0 = true ∧ d.depth ≤ k
theorem layAll_of : ∀ {l : List PyData}, (∀ d ∈ l, d.canLay0 = true) → PyData.canLayAll0 l = true
  | [], _ => by rw [PyData.canLayAll0]
  | d :: l, h => by
    rw [PyData.canLayAll0, h d List.mem_cons_self, layAll_of fun z hz => h z (List.mem_cons_of_mem _ hz)]
    rfl
theorem DOk.list {l : List PyData} {k : Nat} (h : ∀ d ∈ l, DOk d k) : DOk (.list l) (k + 1) := ⟨by rw [PyData.canLay0]; exact layAll_of fun d hd => (h d hd).1, depth_list fun d hd => (h d hd).2⟩
theorem DOk.tuple {l : List PyData} {k : Nat} (h : ∀ d ∈ l, DOk d k) : DOk (.tuple l) (k + 1) := ⟨by rw [PyData.canLay0]; exact layAll_of fun d hd => (h d hd).1, depth_tup fun d hd => (h d hd).2⟩
theorem DOk.mono {d : PyData} {j k : Nat} (h : DOk d j) (le : j ≤ k) : DOk d k := ⟨h.1, Nat.le_trans h.2 le⟩
theorem DOk.int {i : Int} {k : Nat} : DOk (.int i) k := ⟨by rw [PyData.canLay0], by rw [PyData.depth]; omega⟩
theorem DOk.bool {b : Bool} {k : Nat} : DOk (.bool b) k := ⟨by rw [PyData.canLay0], by rw [PyData.depth]; omega⟩
theorem DOk.non {k : Nat} : DOk .none k := ⟨by rw [PyData.canLay0], by rw [PyData.depth]; omega⟩
theorem DOk.str {s : Str} {k : Nat} (h : PyData.strOk s = true) : DOk (.str s) k := ⟨by rw [PyData.canLay0]; exact h, by rw [PyData.depth]; omega⟩
theorem DOk.ints (l : List Int) : DOk (intsD l) 1 := .list fun d hd => by
  obtain ⟨i, _, rfl⟩ := List.mem_map.mp hd
  exact .int
theorem DOk.nats (l : List Nat) : DOk (natsD l) 1 := .list fun d hd => by
  obtain ⟨i, _, rfl⟩ := List.mem_map.mp hd
  exact .int
theorem LstD.ok {h : HD} {n : Nat} {d : PyData} (A : LstD h n d) : DOk d 2 := by
  cases A with
  | lst L =>
    refine .list fun d hd => ?_
    simp only [List.mem_cons, List.not_mem_nil, or_false] at hd
    rcases hd with rfl | rfl | rfl
    · exact .ints _
    · exact .ints _
    · exact .int
  | no _ =>
    refine .list fun d hd => ?_
    rw [List.mem_singleton.mp hd]
    exact .bool
theorem LokD.ok {h : HD} {n : Nat} {w0 : Int} {d : PyData} (A : LokD h n w0 d) : DOk d 2 := by
  cases A <;>
  · refine .list fun d hd => ?_
    simp only [List.mem_cons, List.not_mem_nil, or_false] at hd
    rcases hd with rfl | rfl <;> exact .bool
theorem ClmD.ok {h : HD} {n : Nat} {way : Int} {x : List Int} {d : PyData} (A : ClmD h n way x d) : DOk d 2 := by
  obtain ⟨_, _, _⟩ := A
  refine .list fun d hd => ?_
  obtain ⟨c, _, rfl⟩ := List.mem_map.mp hd
  exact .nats _
theorem BstD.ok {h : HD} {n : Nat} {way : Int} {x : List Int} {d : PyData} (A : BstD h n way x d) : DOk d 2 := by
  obtain ⟨_⟩ := A
  refine .list fun d hd => ?_
  simp only [List.mem_cons, List.not_mem_nil, or_false] at hd
  rcases hd with rfl | rfl
  · exact .nats _
  · exact .int
theorem DrrD.ok {h : HD} {n : Nat} {p : Int} {ws : List Int} {d : PyData} (A : DrrD h n p ws d) : DOk d 2 := by
  cases A with
  | yes _ _ _ =>
    refine .list fun d hd => ?_
    obtain ⟨c, _, rfl⟩ := List.mem_map.mp hd
    exact .ints _
  | no _ =>
    refine .list fun d hd => ?_
    rw [List.eq_of_mem_replicate hd]
    exact .non
theorem AllD.ok {h : HD} (hok : h.ok) {n : Nat} {x : List Int} {d : PyData} (A : AllD h n x d) : DOk d 3 := by
  cases A with
  | bar _ a1 a5 =>
    refine .list fun d hd => ?_
    simp only [List.mem_cons, List.not_mem_nil, or_false] at hd
    rcases hd with rfl | rfl | rfl | rfl | rfl
    · exact a1.ok
    · exact .str (txH_ok hok)
    · exact .int
    · exact .non
    · exact a5.ok
  | free _ a1 a5 a6 a7 a8 a9 a10 =>
    refine .list fun d hd => ?_
    simp only [List.mem_cons, List.not_mem_nil, or_false] at hd
    rcases hd with rfl | rfl | rfl | rfl | rfl | rfl | rfl | rfl | rfl | rfl
    · exact a1.ok
    · exact .str (txH_ok hok)
    · exact .int
    · exact .int
    · exact a5.ok
    · exact a6.ok
    · exact a7.ok
    · exact a8.ok
    · exact a9.ok
    · exact a10.ok
theorem DOk.shp {d : PyData} {k : Nat} (h : DOk d k) (k64 : k ≤ 64 := by decide) : SeqAt.shaped d = true := by
  unfold SeqAt.shaped
  rw [h.1, decide_eq_true (show d.depth ≤ 64 by have := h.2; omega)]
  rfl
theorem DOk.self {d : PyData} {k : Nat} (h : DOk d k) : PyData.eqv d d = true := PySem.SeqAt.eqv_refl d h.1
/-! in the heap -/
mutual
inductive DA (H : Hp) : V → PyData → Prop
  | non : DA H .non .none
  | bl (b : Bool) : DA H (.bl b) (.bool b)
  | int (i : Int) : DA H (.int i) (.int i)
  | str (x : Str) : DA H (.str x) (.str x)
  | lst {a : Addr} {xs : List V} {ds : List PyData} : H a = some (.lst xs) → DAs H xs ds → DA H (.ref a) (.list ds)
  | tup {a : Addr} {xs : List V} {ds : List PyData} : H a = some (.tup xs) → DAs H xs ds → DA H (.ref a) (.tuple ds)
inductive DAs (H : Hp) : List V → List PyData → Prop
  | nil : DAs H [] []
  | cons {v : V} {vs : List V} {d : PyData} {ds : List PyData} : DA H v d → DAs H vs ds → DAs H (v :: vs) (d :: ds)
end
mutual
theorem DA.smt {H H' : Hp} (s : SmT H H') : ∀ {d : PyData} {v : V}, DA H v d → DA H' v d
  | _, _, .non => .non
  | _, _, .bl b => .bl b
  | _, _, .int i => .int i
  | _, _, .str x => .str x
  | _, _, .lst e h => .lst (s.lst e) (DAs.smt s h)
  | _, _, .tup e h => .tup (s.tup e) (DAs.smt s h)
theorem DAs.smt {H H' : Hp} (s : SmT H H') : ∀ {ds : List PyData} {vs : List V}, DAs H vs ds → DAs H' vs ds
  | _, _, .nil => .nil
  | _, _, .cons a b => .cons (DA.smt s a) (DAs.smt s b)
end
mutual
theorem DA.dp {K : PySem.W.Frag} {H : Hp} : ∀ {d : PyData} {v : V}, DA H v d → Dp K H v d
  | _, _, .non => .non
  | _, _, .bl b => .bl b
  | _, _, .int i => .int i
  | _, _, .str x => .str x
  | _, _, .lst e h => .lst (.of e) (DAs.dp h)
  | _, _, .tup e h => .tup (.of e) (DAs.dp h)
theorem DAs.dp {K : PySem.W.Frag} {H : Hp} : ∀ {ds : List PyData} {vs : List V}, DAs H vs ds → DpAll K H vs ds
  | _, _, .nil => .nil
  | _, _, .cons a b => .cons (DA.dp a) (DAs.dp b)
end
theorem DAs.ints {H : Hp} : ∀ l : List Int, DAs H (l.map V.int) (l.map PyData.int)
  | [] => .nil
  | i :: l => .cons (.int i) (DAs.ints l)
theorem DA.ints {H : Hp} {a : Addr} {l : List Int} (e : H a = some (.lst (l.map V.int))) : DA H (.ref a) (intsD l) := .lst e (DAs.ints l)
theorem DAs.nons {H : Hp} : ∀ k : Nat, DAs H (List.replicate k V.non) (List.replicate k PyData.none)
  | 0 => .nil
  | k + 1 => .cons .non (DAs.nons k)
theorem DAs.of {H : Hp} {α : Type} {f : α → PyData} : ∀ {rs : List Addr} {l : List α}, rs.length = l.length → (∀ (i : Nat) r x, rs[i]? = some r → l[i]? = some x → DA H (.ref r) (f x)) → DAs H (rs.map V.ref) (l.map f)
  | [], [], _, _ => .nil
  | [], _ :: _, h, _ => by cases h
  | _ :: _, [], h, _ => by cases h
  | r :: rs, x :: l, h, z => .cons (z 0 r x rfl rfl) (DAs.of (Nat.succ.inj h) fun i r x e1 e2 => z (i + 1) r x e1 e2)
end Ev

namespace Ev
open PySem L2 Ax
section
variable {P : Program} {w : World} {K : PySem.W.Frag} {mg : Str → Option Value} {base : Heap} {C : Str → Addr} {f : Addr} {fd : FuncData}

def lflds : List Str := ["lowest", "highest", "total"]
def nflds : List Str := ["demands"]
def fLeast (lo hi : Addr) (m : Int) : List (Str × V) := [("lowest", .ref lo), ("highest", .ref hi), ("total", .int m)]
def fNowh (l : Addr) : List (Str × V) := [("demands", .ref l)]
theorem fl_lowest : ("lowest" : Str) ∈ lflds := by unfold lflds; simp
theorem fl_highest : ("highest" : Str) ∈ lflds := by unfold lflds; simp
theorem fl_total : ("total" : Str) ∈ lflds := by unfold lflds; simp
theorem fl_demands : ("demands" : Str) ∈ nflds := by unfold nflds; simp
theorem lk_Least_lowest {lo hi : Addr} {m : Int} : List.lookup ("lowest" : Str) (fLeast lo hi m) = some (.ref lo) := by kernel_rfl
theorem lk_Least_highest {lo hi : Addr} {m : Int} : List.lookup ("highest" : Str) (fLeast lo hi m) = some (.ref hi) := by kernel_rfl
theorem lk_Least_total {lo hi : Addr} {m : Int} : List.lookup ("total" : Str) (fLeast lo hi m) = some (.int m) := by kernel_rfl
theorem lk_Nowh_demands {l : Addr} : List.lookup ("demands" : Str) (fNowh l) = some (.ref l) := by kernel_rfl
theorem pf_Least {lo hi : Addr} {m : Int} : putF "total" (.int m) (putF "highest" (.ref hi) (putF "lowest" (.ref lo) [])) = fLeast lo hi m := by kernel_rfl
theorem pf_Nowh {l : Addr} : putF "demands" (.ref l) [] = fNowh l := by kernel_rfl
structure AnsT (K : PySem.W.Frag) (C : Str → Addr) : Prop where
  lcl : Cls K (C "Least")
  lna : ∀ f ∈ lflds, NoAttr K (C "Least") f
  ncl : Cls K (C "Nowhere")
  nna : ∀ f ∈ nflds, NoAttr K (C "Nowhere") f
def spILeast (C : Str → Addr) : Sp := fun vs H Q _ => ∃ (o dx lp hp : Addr) (xl xh : List V) (m : Int), vs = [.ref o, .ref lp, .ref hp, .int m] ∧ H o = some (.ins (C "Least") dx []) ∧ H lp = some (.lst xl) ∧ H hp = some (.lst xh) ∧
  ∀ H' l2 h2, But o H H' → H' o = some (.ins (C "Least") dx (fLeast l2 h2 m)) → H' l2 = some (.lst xl) → H' h2 = some (.lst xh) → H l2 = none → H h2 = none → l2 ≠ h2 → Q .non H'
def spINowh (C : Str → Addr) : Sp := fun vs H Q _ => ∃ (o dx lp : Addr) (xl : List V), vs = [.ref o, .ref lp] ∧ H o = some (.ins (C "Nowhere") dx []) ∧ H lp = some (.lst xl) ∧
  ∀ H' l2, But o H H' → H' o = some (.ins (C "Nowhere") dx (fNowh l2)) → H' l2 = some (.lst xl) → H l2 = none → Q .non H'

theorem ok_Least_init (T : Txt K mg C) (AT : AnsT K C) (F : C8.Fun K "__init__" "Least.__init__" s_Least_init f fd) : FnOk P w K mg base CX0 1 f fd ["self", "lowest", "highest", "total"] (spILeast C) := by
  refine C8.fn0 F sc_Least_init (fun vs H Q E h => ?_) (fun cdv A outer s H vs Q E hr h => ?_)
  · obtain ⟨o, dx, lp, hp, xl, xh, m, rfl, ho, hl, hh, k⟩ := h
    rfl
  · obtain ⟨o, dx, lp, hp, xl, xh, m, rfl, ho, hl, hh, k⟩ := h
    refine ⟨_, (pss_cons (ps_fld (pv 0) (pe_callTy call_list_of (by rfl) T.b_list (by decide +kernel) (pa_cons (pv 1) pa_nil)) rfl)
    (pss_cons (ps_fld (pv 0) (pe_callTy call_list_of (by rfl) T.b_list (by decide +kernel) (pa_cons (pv 2) pa_nil)) rfl)
    (pss_one (ps_fld (pv 0) (pv 3) rfl)))), ?_⟩
    have lo : lp ≠ o := ne_of hl ho (by intro z; cases z)
    have h_o : hp ≠ o := ne_of hh ho (by intro z; cases z)
    refine ⟨_, rfl, _, _, rfl, .inl (.of hl), fun l2 hl2 => ?_⟩
    have o2 : o ≠ l2 := ne_of_none ho hl2
    refine ⟨_, rfl, _, _, _, _, rfl, (by rw [upd_ne o2]; exact ho), AT.lcl, AT.lna _ fl_lowest, (by show 0 < 1000; decide), ?_⟩
    have b1 : But o H (upd (upd H l2 (.lst xl)) o (.ins (C "Least") dx (putF "lowest" (.ref l2) []))) := (But.of (Same.upd hl2)).trans But.upd
    have e1 : upd (upd H l2 (.lst xl)) o (.ins (C "Least") dx (putF "lowest" (.ref l2) [])) o = some (.ins (C "Least") dx (putF "lowest" (.ref l2) [])) := upd_same
    have el1 : upd (upd H l2 (.lst xl)) o (.ins (C "Least") dx (putF "lowest" (.ref l2) [])) l2 = some (.lst xl) := by rw [upd_ne o2.symm, upd_same]
    generalize upd (upd H l2 (.lst xl)) o (.ins (C "Least") dx (putF "lowest" (.ref l2) [])) = H1 at b1 e1 el1 ⊢
    refine ⟨_, rfl, _, _, rfl, .inl (.of (b1 _ _ h_o hh)), fun h2 hh2 => ?_⟩
    have o3 : o ≠ h2 := ne_of_none e1 hh2
    have l3 : l2 ≠ h2 := ne_of_none el1 hh2
    refine ⟨_, rfl, _, _, _, _, rfl, (by rw [upd_ne o3]; exact e1), AT.lcl, AT.lna _ fl_highest, (by show 1 < 1000; decide), ?_⟩
    have b2 : But o H _ := b1.trans ((But.of (Same.upd (o := .lst xh) hh2)).trans (But.upd (o := .ins (C "Least") dx (putF "highest" (.ref h2) (putF "lowest" (.ref l2) [])))))
    refine ⟨_, rfl, _, rfl, _, _, _, _, rfl, upd_same, AT.lcl, AT.lna _ fl_total, (by show 2 < 1000; decide), ?_⟩
    rw [pf_Least]
    have fh2 : H h2 = none := by
      cases e : H h2 with
      | none => rfl
      | some u => rw [b1 h2 u o3.symm e] at hh2; cases hh2
    refine k _ l2 h2 (b2.trans But.upd) upd_same ?_ ?_ hl2 fh2 l3
    · rw [upd_ne o2.symm, upd_ne o2.symm, upd_ne l3]; exact el1
    · rw [upd_ne o3.symm, upd_ne o3.symm, upd_same]

theorem ok_Nowhere_init (T : Txt K mg C) (AT : AnsT K C) (F : C8.Fun K "__init__" "Nowhere.__init__" s_Nowhere_init f fd) : FnOk P w K mg base CX0 1 f fd ["self", "demands"] (spINowh C) := by
  refine C8.fn0 F sc_Nowhere_init (fun vs H Q E h => ?_) (fun cdv A outer s H vs Q E hr h => ?_)
  · obtain ⟨o, dx, lp, xl, rfl, ho, hl, k⟩ := h
    rfl
  · obtain ⟨o, dx, lp, xl, rfl, ho, hl, k⟩ := h
    refine ⟨_, (pss_one (ps_fld (pv 0) (pe_callTy call_list_of (by rfl) T.b_list (by decide +kernel) (pa_cons (pv 1) pa_nil)) rfl)), ?_⟩
    refine ⟨_, rfl, _, _, rfl, .inl (.of hl), fun l2 hl2 => ?_⟩
    have o2 : o ≠ l2 := ne_of_none ho hl2
    refine ⟨_, rfl, _, _, _, _, rfl, (by rw [upd_ne o2]; exact ho), AT.ncl, AT.nna _ fl_demands, (by show 0 < 1000; decide), ?_⟩
    rw [pf_Nowh]
    refine k _ l2 ((But.of (Same.upd hl2)).trans But.upd) upd_same ?_ hl2
    rw [upd_ne o2.symm, upd_same]

structure LeastJ (K : PySem.W.Frag) (C : Str → Addr) : Prop where
  cls : PySem.W.findIn K (.ref (C "Least")) "__class__" = some (some (.builtin "object.__class__"))
  mro : PySem.W.mroIn K (C "Least") (.type "object") = some true
  kit : PySem.W.kitOne K (.ref (C "Least")) (.ref (C "Answer")) = some true
  sp : PySem.W.specialIn K (.builtin "object.__class__") "__get__" = some (some (.builtin "getset_descriptor.__get__"))
  tk : PySem.W.takesIn K (.builtin "object.__class__") = some true
def spCopies (K : PySem.W.Frag) : Sp := fun vs H Q _ => ∃ (s : Addr) (ns : List Int), vs = [.ref s] ∧ SqL K H s (ns.map V.int) ∧ ns.length ≤ 63 ∧ ∀ H', Same H H' → Q (.bl true) H'
theorem ok2 {a b : Int} : DOk (.list [.int a, .int b]) 1 := .list fun d hd => by
  simp only [List.mem_cons, List.not_mem_nil, or_false] at hd
  rcases hd with rfl | rfl
  · exact .int
  · exact .int
theorem ok3 {a b c : Int} : DOk (.tuple [.int a, .int b, .int c]) 1 := .tuple fun d hd => by
  simp only [List.mem_cons, List.not_mem_nil, or_false] at hd
  rcases hd with rfl | rfl | rfl
  · exact .int
  · exact .int
  · exact .int
theorem okPair {x y : PyData} {k : Nat} (h1 : DOk x k) (h2 : DOk y k) : DOk (.list [x, y]) (k + 1) := .list fun d hd => by
  simp only [List.mem_cons, List.not_mem_nil, or_false] at hd
  rcases hd with rfl | rfl
  · exact h1
  · exact h2

theorem ok_law_copies (T : Txt K mg C) (AT : AnsT K C) (LJ : LeastJ K C) (c_law_cell_at : C8.Cal P w K mg base 1 "_law_cell_at" (spCellV K) []) (m_Least : C8.Mak P w K mg base 1 "Least" (C "Least") (spILeast C) []) (m_Nowhere : C8.Mak P w K mg base 1 "Nowhere" (C "Nowhere") (spINowh C) []) (F : C8.Def K mg "_law_copies" s_law_copies f fd) (b : Binds K fd ["_law_script"] []) : C8.Cal P w K mg base 3 "_law_copies" (spCopies K) [] := by
  refine C8.cal0 F b .nil sc_law_copies (fun vs H Q E h => ?_) (fun cdv A outer s H vs Q E hr h => ?_)
  · obtain ⟨s, ns, rfl, hS, hl, k⟩ := h
    rfl
  · obtain ⟨s, ns, rfl, hS, hl, k⟩ := h
    refine ⟨_, (pss_cons (ps_set (i := 1) sc_law_copies.nd rfl (Or.inl rfl) (pe_lst (pa_cons (C8.pe_c c_law_cell_at hr (by decide) rfl (pa_cons (pv 0) (pa_cons pe_int pa_nil))) (pa_cons pe_int pa_nil))))
    (pss_cons (ps_set (i := 2) sc_law_copies.nd rfl (Or.inl rfl) (pe_lst (pa_cons pe_int (pa_cons (C8.pe_c c_law_cell_at hr (by decide) rfl (pa_cons (pv 0) (pa_cons pe_int pa_nil))) pa_nil))))
    (pss_cons (ps_set (i := 3) sc_law_copies.nd rfl (Or.inl rfl) (C8.pe_mk m_Least hr (by decide) rfl (pa_cons (pv 1) (pa_cons (pv 2) (pa_cons pe_int pa_nil)))))
    (pss_cons (ps_set (i := 4) sc_law_copies.nd rfl (Or.inl rfl) (pe_lst (pa_cons (pe_tup (pa_cons pe_int (pa_cons pe_int (pa_cons (pe_un un_neg pe_int) pa_nil)))) (pa_cons (pe_tup (pa_cons pe_int (pa_cons pe_int (pa_cons pe_int pa_nil)))) pa_nil))))
    (pss_cons (ps_set (i := 5) sc_law_copies.nd rfl (Or.inl rfl) (C8.pe_mk m_Nowhere hr (by decide) rfl (pa_cons (pv 4) pa_nil)))
    (pss_cons (ps_expr (pe_bm PySem.F.plainAttrs_list PySem.F.slot_list_append PySem.F.type_list_append mt_append (pv 1) (pa_cons pe_int pa_nil)))
    (pss_cons (ps_expr (pe_bm0 PySem.F.plainAttrs_list PySem.F.slot_list_clear PySem.F.type_list_clear mt_clear (pv 2)))
    (pss_cons (ps_expr (pe_bm0 PySem.F.plainAttrs_list PySem.F.slot_list_reverse PySem.F.type_list_reverse mt_reverse (pv 4)))
    (pss_cons (ps_if (PW.pt (pw_or (pt_not (pt_val (pe_callB call_isi (by rfl) T.b_isinstance (by decide +kernel) (pa_cons (pv 3) (pa_cons (C8.pe_gc rfl T.g_Answer) pa_nil))))) (pw_or1 (pt_cmpR (op_neD hr.units) (pe_lst (pa_cons (pe_fld (pv 3) rfl) (pa_cons (pe_fld (pv 3) rfl) pa_nil))) (pe_lst (pa_cons (pe_slice sl_list (pv 1) po_none (po_some pe_int)) (pa_cons (pe_lst (pa_cons pe_int (pa_cons (C8.pe_c c_law_cell_at hr (by decide) rfl (pa_cons (pv 0) (pa_cons pe_int pa_nil))) pa_nil))) pa_nil))) (nomark _))))) (pss_one (ps_ret pe_bl)) pss_nil)
    (pss_one (ps_ret (pe_and (pe_cmpR op_eq (pe_fld (pv 3) rfl) pe_int (nomark _)) (pe_one (pe_cmpR (op_eqD hr.units) (pe_fld (pv 5) rfl) (pe_lst (pa_cons (pe_tup (pa_cons pe_int (pa_cons pe_int (pa_cons (pe_un un_neg pe_int) pa_nil)))) (pa_cons (pe_tup (pa_cons pe_int (pa_cons pe_int (pa_cons pe_int pa_nil)))) pa_nil))) (nomark _))))))))))))))), ?_⟩
    refine ⟨_, rfl, s, ns, 10, rfl, hS, hl, by decide, by decide, fun H1 s1 => ⟨(by show 2 ≤ sizeLine; decide), fun l1 n1 => ?_⟩⟩
    have s2 := s1.trans (Same.upd (o := .lst [.int (cellV ns 10), .int 2]) n1)
    have e1 : upd H1 l1 (.lst [.int (cellV ns 10), .int 2]) l1 = some (.lst [.int (cellV ns 10), .int 2]) := upd_same
    have f1 : H l1 = none := s1.free n1
    generalize upd H1 l1 (.lst [.int (cellV ns 10), .int 2]) = H2 at s2 e1 ⊢
    refine ⟨_, rfl, s, ns, 11, rfl, s2.seq hS, hl, by decide, by decide, fun H3 s3 => ⟨(by show 2 ≤ sizeLine; decide), fun l2 n2 => ?_⟩⟩
    have s4 := s2.trans (s3.trans (Same.upd (o := .lst [.int 3, .int (cellV ns 11)]) n2))
    have e2 : upd H3 l2 (.lst [.int 3, .int (cellV ns 11)]) l2 = some (.lst [.int 3, .int (cellV ns 11)]) := upd_same
    have f2 : H l2 = none := (s2.trans s3).free n2
    have n12 : l2 ≠ l1 := fun e => by rw [e, s3 _ _ e1] at n2; cases n2
    have e1' : upd H3 l2 (.lst [.int 3, .int (cellV ns 11)]) l1 = some (.lst [.int (cellV ns 10), .int 2]) := by rw [upd_ne n12.symm]; exact s3 _ _ e1
    generalize upd H3 l2 (.lst [.int 3, .int (cellV ns 11)]) = H4 at s4 e2 e1' ⊢
    refine ⟨_, rfl, _, rfl, fun o dx ho hdx hne => ?_⟩
    have sN : Same H4 (upd (upd H4 dx (.own o)) o (.ins (C "Least") dx [])) := Same.new ho hdx
    refine ⟨o, dx, l1, l2, _, _, 7, rfl, upd_same, sN _ _ e1', sN _ _ e2, fun H5 q1 q2 b5 e5 eq1 eq2 nq1 nq2 nqq => ⟨rfl, ?_⟩⟩
    have s45 : Same H4 H5 := Same.made ho hdx b5
    have s5 := s4.trans s45
    have e15 := s45 _ _ e1'
    have e25 := s45 _ _ e2
    have fq1 : H4 q1 = none := sN.free nq1
    have fq2 : H4 q2 = none := sN.free nq2
    have q1l1 : q1 ≠ l1 := fun e => by rw [e, e1'] at fq1; cases fq1
    have q1l2 : q1 ≠ l2 := fun e => by rw [e, e2] at fq1; cases fq1
    have q2l1 : q2 ≠ l1 := fun e => by rw [e, e1'] at fq2; cases fq2
    have q2l2 : q2 ≠ l2 := fun e => by rw [e, e2] at fq2; cases fq2
    have ol1 : o ≠ l1 := fun e => by rw [e, e1'] at ho; cases ho
    have ol2 : o ≠ l2 := fun e => by rw [e, e2] at ho; cases ho
    -- the demands
    refine ⟨_, rfl, (by show 3 ≤ sizeLine; decide), fun t1 nt1 => ⟨(by show 3 ≤ sizeLine; decide), fun t2 nt2 => ⟨(by show 2 ≤ sizeLine; decide), fun dl ndl => ?_⟩⟩⟩
    have s6 : Same H5 (upd (upd (upd H5 t1 (.tup [.int 0, .int 1, .int (-1)])) t2 (.tup [.int 1, .int 0, .int 0])) dl (.lst [.ref t1, .ref t2])) := (Same.upd nt1).trans ((Same.upd nt2).trans (Same.upd ndl))
    have et1 : upd (upd (upd H5 t1 (.tup [.int 0, .int 1, .int (-1)])) t2 (.tup [.int 1, .int 0, .int 0])) dl (.lst [.ref t1, .ref t2]) t1 = some (.tup [.int 0, .int 1, .int (-1)]) := (Same.upd ndl) _ _ ((Same.upd nt2) _ _ upd_same)
    have et2 : upd (upd (upd H5 t1 (.tup [.int 0, .int 1, .int (-1)])) t2 (.tup [.int 1, .int 0, .int 0])) dl (.lst [.ref t1, .ref t2]) t2 = some (.tup [.int 1, .int 0, .int 0]) := (Same.upd ndl) _ _ upd_same
    have edl : upd (upd (upd H5 t1 (.tup [.int 0, .int 1, .int (-1)])) t2 (.tup [.int 1, .int 0, .int 0])) dl (.lst [.ref t1, .ref t2]) dl = some (.lst [.ref t1, .ref t2]) := upd_same
    have fdl : H5 dl = none := ((Same.upd nt1).trans (Same.upd nt2)).free ndl
    generalize upd (upd (upd H5 t1 (.tup [.int 0, .int 1, .int (-1)])) t2 (.tup [.int 1, .int 0, .int 0])) dl (.lst [.ref t1, .ref t2]) = H6 at s6 et1 et2 edl ⊢
    refine ⟨_, rfl, fun r dr hr' hdr hne2 => ?_⟩
    have sR : Same H6 (upd (upd H6 dr (.own r)) r (.ins (C "Nowhere") dr [])) := Same.new hr' hdr
    refine ⟨r, dr, dl, _, rfl, upd_same, sR _ _ edl, fun H7 d2 b7 e7 ed2 nd2 => ⟨rfl, ?_⟩⟩
    have s67 : Same H6 H7 := Same.made hr' hdr b7
    have s57 := s6.trans s67
    have fd2 : H6 d2 = none := sR.free nd2
    have E : ∀ {x : Addr} {u : HO}, H5 x = some u → H7 x = some u := fun e => s57 _ _ e
    have d2l1 : d2 ≠ l1 := fun e => by rw [e, s6 _ _ e15] at fd2; cases fd2
    have d2l2 : d2 ≠ l2 := fun e => by rw [e, s6 _ _ e25] at fd2; cases fd2
    have d2dl : d2 ≠ dl := fun e => by rw [e, edl] at fd2; cases fd2
    have rl1 : r ≠ l1 := fun e => by rw [e, s6 _ _ e15] at hr'; cases hr'
    have rl2 : r ≠ l2 := fun e => by rw [e, s6 _ _ e25] at hr'; cases hr'
    have rdl : r ≠ dl := fun e => by rw [e, edl] at hr'; cases hr'
    have odl : o ≠ dl := fun e => by rw [e, fdl] at e5; cases e5
    have q1dl : q1 ≠ dl := fun e => by rw [e, fdl] at eq1; cases eq1
    have q2dl : q2 ≠ dl := fun e => by rw [e, fdl] at eq2; cases eq2
    have l1dl : l1 ≠ dl := fun e => by rw [e, fdl] at e15; cases e15
    have l2dl : l2 ≠ dl := fun e => by rw [e, fdl] at e25; cases e25
    have t1l1 : t1 ≠ l1 := fun e => by rw [e, s6 _ _ e15] at et1; cases et1
    have t1l2 : t1 ≠ l2 := fun e => by rw [e, s6 _ _ e25] at et1; cases et1
    have t1dl : t1 ≠ dl := fun e => by rw [e, edl] at et1; cases et1
    have t2l1 : t2 ≠ l1 := fun e => by rw [e, s6 _ _ e15] at et2; cases et2
    have t2l2 : t2 ≠ l2 := fun e => by rw [e, s6 _ _ e25] at et2; cases et2
    have t2dl : t2 ≠ dl := fun e => by rw [e, edl] at et2; cases et2
    -- what was handed in is changed
    refine ⟨_, rfl, .inl ⟨rfl, _, .of (E e15)⟩, _, _, _, rfl, rfl, E e15, (small1000 (by show 2 ≤ 1000; decide)), ?_⟩
    refine ⟨_, rfl, .inl ⟨rfl, _, .of (by rw [upd_ne n12]; exact E e25)⟩, _, _, rfl, rfl, (by rw [upd_ne n12]; exact E e25), ?_⟩
    refine ⟨_, rfl, .inl ⟨rfl, _, .of (by rw [upd_ne l2dl.symm, upd_ne l1dl.symm]; exact s67 _ _ edl)⟩, _, _, rfl, rfl, (by rw [upd_ne l2dl.symm, upd_ne l1dl.symm]; exact s67 _ _ edl), ?_⟩
    have keep : ∀ {x : Addr} {u : HO}, x ≠ l1 → x ≠ l2 → x ≠ dl → H7 x = some u → upd (upd (upd H7 l1 (.lst ([.int (cellV ns 10), .int 2] ++ [.int 1]))) l2 (.lst [])) dl (.lst [V.ref t1, V.ref t2].reverse) x = some u := fun {x u} a b c e => by rw [upd_ne c, upd_ne b, upd_ne a]; exact e
    have el1 : upd (upd (upd H7 l1 (.lst ([.int (cellV ns 10), .int 2] ++ [.int 1]))) l2 (.lst [])) dl (.lst [V.ref t1, V.ref t2].reverse) l1 = some (.lst [.int (cellV ns 10), .int 2, .int 1]) := by rw [upd_ne l1dl, upd_ne n12.symm, upd_same]; rfl
    have sA : Same H (upd (upd (upd H7 l1 (.lst ([.int (cellV ns 10), .int 2] ++ [.int 1]))) l2 (.lst [])) dl (.lst [V.ref t1, V.ref t2].reverse)) := Same.updN (Same.updN (Same.updN (s5.trans s57) f1) f2) (s5.free fdl)
    have k1 := keep ol1 ol2 odl (E e5)
    have k2 := keep q1l1 q1l2 q1dl (E eq1)
    have k3 := keep q2l1 q2l2 q2dl (E eq2)
    have k4 := keep rl1 rl2 rdl e7
    have k5 := keep d2l1 d2l2 d2dl ed2
    have k6 := keep t1l1 t1l2 t1dl (s67 _ _ et1)
    have k7 := keep t2l1 t2l2 t2dl (s67 _ _ et2)
    generalize upd (upd (upd H7 l1 (.lst ([.int (cellV ns 10), .int 2] ++ [.int 1]))) l2 (.lst [])) dl (.lst [V.ref t1, V.ref t2].reverse) = H8 at sA k1 k2 k3 k4 k5 k6 k7 el1 ⊢
    refine ⟨_, rfl, _, _, _, _, true, rfl, .own _, .base (.ins k1 AT.lcl LJ.cls LJ.sp LJ.tk LJ.mro), LJ.kit, _, rfl, iteF ?_⟩
    refine ⟨_, rfl, _, _, _, _, _, rfl, k1, AT.lcl, AT.lna _ fl_lowest, lk_Least_lowest, _, rfl, _, _, _, _, _, rfl, k1, AT.lcl, AT.lna _ fl_highest, lk_Least_highest, (by show 2 ≤ sizeLine; decide), fun m1 nm1 => ?_⟩
    have s9 : Same H8 (upd H8 m1 (.lst [.ref q1, .ref q2])) := Same.upd nm1
    have em1 : upd H8 m1 (.lst [.ref q1, .ref q2]) m1 = some (.lst [.ref q1, .ref q2]) := upd_same
    generalize upd H8 m1 (.lst [.ref q1, .ref q2]) = H9 at s9 em1 ⊢
    refine ⟨_, rfl, _, rfl, _, _, rfl, .of (s9 _ _ el1), fun m2 nm2 => ?_⟩
    have sB : Same H9 (upd H9 m2 (.lst [.int (cellV ns 10), .int 2])) := Same.upd nm2
    have em2 : upd H9 m2 (.lst [.int (cellV ns 10), .int 2]) m2 = some (.lst [.int (cellV ns 10), .int 2]) := upd_same
    refine ⟨_, rfl, s, ns, 11, rfl, (sA.trans (s9.trans sB)).seq hS, hl, by decide, by decide, fun HA sC => ⟨(by show 2 ≤ sizeLine; decide), fun m3 nm3 => ?_⟩⟩
    have em2 := sC _ _ em2
    have sBC := sB.trans sC
    have sD : Same HA (upd HA m3 (.lst [.int 3, .int (cellV ns 11)])) := Same.upd nm3
    have em3 : upd HA m3 (.lst [.int 3, .int (cellV ns 11)]) m3 = some (.lst [.int 3, .int (cellV ns 11)]) := upd_same
    have sE := s9.trans (sBC.trans sD)
    have em1 := sD _ _ (sBC _ _ em1)
    have em2 := sD _ _ em2
    generalize upd HA m3 (.lst [.int 3, .int (cellV ns 11)]) = HB at sD em3 sE em1 em2 ⊢
    refine ⟨(by show 2 ≤ sizeLine; decide), fun m4 nm4 => ?_⟩
    have sF : Same HB (upd HB m4 (.lst [.ref m2, .ref m3])) := Same.upd nm4
    have em4 : upd HB m4 (.lst [.ref m2, .ref m3]) m4 = some (.lst [.ref m2, .ref m3]) := upd_same
    have sG := sE.trans sF
    have em1 := sF _ _ em1
    have em2 := sF _ _ em2
    have em3 := sF _ _ em3
    generalize upd HB m4 (.lst [.ref m2, .ref m3]) = HC at sF em4 sG em1 em2 em3 ⊢
    have okD : DOk (.list [.list [.int (cellV ns 10), .int 2], .list [.int 3, .int (cellV ns 11)]]) 2 := okPair ok2 ok2
    refine ⟨_, _, .lst (.of em1) (.cons (.lst (.of (sG _ _ k2)) (.cons (.int _) (.cons (.int _) .nil))) (.cons (.lst (.of (sG _ _ k3)) (.cons (.int _) (.cons (.int _) .nil))) .nil)), .lst (.of em4) (.cons (.lst (.of em2) (.cons (.int _) (.cons (.int _) .nil))) (.cons (.lst (.of em3) (.cons (.int _) (.cons (.int _) .nil))) .nil)), okD.shp, okD.shp, _, rfl, ?_⟩
    rw [okD.self]
    refine iteF ?_
    refine ⟨_, rfl, _, _, _, _, _, rfl, sG _ _ k1, AT.lcl, AT.lna _ fl_total, lk_Least_total, rfl, _, rfl, ?_⟩
    rw [decide_eq_true rfl]
    refine iteT ?_
    refine ⟨_, rfl, _, _, _, _, _, rfl, sG _ _ k4, AT.ncl, AT.nna _ fl_demands, lk_Nowh_demands, _, rfl, (by show 3 ≤ sizeLine; decide), fun u1 nu1 => ⟨(by show 3 ≤ sizeLine; decide), fun u2 nu2 => ⟨(by show 2 ≤ sizeLine; decide), fun u3 nu3 => ?_⟩⟩⟩
    have s6 : Same HC (upd (upd (upd HC u1 (.tup [.int 0, .int 1, .int (-1)])) u2 (.tup [.int 1, .int 0, .int 0])) u3 (.lst [.ref u1, .ref u2])) := (Same.upd nu1).trans ((Same.upd nu2).trans (Same.upd nu3))
    have eu1 : upd (upd (upd HC u1 (.tup [.int 0, .int 1, .int (-1)])) u2 (.tup [.int 1, .int 0, .int 0])) u3 (.lst [.ref u1, .ref u2]) u1 = some (.tup [.int 0, .int 1, .int (-1)]) := (Same.upd nu3) _ _ ((Same.upd nu2) _ _ upd_same)
    have eu2 : upd (upd (upd HC u1 (.tup [.int 0, .int 1, .int (-1)])) u2 (.tup [.int 1, .int 0, .int 0])) u3 (.lst [.ref u1, .ref u2]) u2 = some (.tup [.int 1, .int 0, .int 0]) := (Same.upd nu3) _ _ upd_same
    have eu3 : upd (upd (upd HC u1 (.tup [.int 0, .int 1, .int (-1)])) u2 (.tup [.int 1, .int 0, .int 0])) u3 (.lst [.ref u1, .ref u2]) u3 = some (.lst [.ref u1, .ref u2]) := upd_same
    generalize upd (upd (upd HC u1 (.tup [.int 0, .int 1, .int (-1)])) u2 (.tup [.int 1, .int 0, .int 0])) u3 (.lst [.ref u1, .ref u2]) = HD at s6 eu1 eu2 eu3 ⊢
    have sH := sG.trans s6
    have okE : DOk (.list [.tuple [.int 0, .int 1, .int (-1)], .tuple [.int 1, .int 0, .int 0]]) 2 := okPair ok3 ok3
    refine ⟨_, _, .lst (.of (sH _ _ k5)) (.cons (.tup (.of (sH _ _ k6)) (.cons (.int _) (.cons (.int _) (.cons (.int _) .nil)))) (.cons (.tup (.of (sH _ _ k7)) (.cons (.int _) (.cons (.int _) (.cons (.int _) .nil)))) .nil)), .lst (.of eu3) (.cons (.tup (.of eu1) (.cons (.int _) (.cons (.int _) (.cons (.int _) .nil)))) (.cons (.tup (.of eu2) (.cons (.int _) (.cons (.int _) (.cons (.int _) .nil)))) .nil)), okE.shp, okE.shp, ?_⟩
    rw [okE.self]
    exact k _ (sA.trans sH)

end
end Ev

namespace Ev
open PySem L2 Ax
section
variable {P : Program} {w : World} {K : PySem.W.Frag} {mg : Str → Option Value} {base : Heap} {C : Str → Addr} {f : Addr} {fd : FuncData}

theorem call_isEG {X : Cx} {a : Addr} {cls : Value} {d : Option Addr} {oe : Obj} {pn : List (Addr × Obj)} (hz : Zc cls d oe) (hf : ∃ vs, oe.data = .fields vs) :
    CallR (X.suite a ((a, oe) :: pn)) (.builtin "isinstance") (fun xs H Q => ∃ D, cls = .ref D ∧ d = none ∧ ExcC X.K D ∧ rIsE X.K D a xs H Q) := by
  intro pins s σ H xs us Q I r h
  obtain ⟨D, rfl, rfl, C, h⟩ := h
  exact call_isE C hz hf pins s σ H xs us Q I r h
structure XB (K : PySem.W.Frag) (mg : Str → Option Value) (BP BC BE : Addr) : Prop where
  P : XcF K mg "BadPoint" BP
  C : XcF K mg "BadChart" BC
  gE : mg "BendError" = some (.ref BE)
  eP : PySem.W.exmOne K (.ref BP) (.ref BE) = some true
  eC : PySem.W.exmOne K (.ref BC) (.ref BE) = some true
  ecP : ExcC K BP
  ecC : ExcC K BC
  pp : PySem.W.kitOne K (.ref BP) (.ref BP) = some true
  pc : PySem.W.kitOne K (.ref BP) (.ref BC) = some false
  cp : PySem.W.kitOne K (.ref BC) (.ref BP) = some false
  cc : PySem.W.kitOne K (.ref BC) (.ref BC) = some true
theorem passLen {X : Cx} {W : WX} {n : Nat} (tk : Takes X W) (hN : X.N.length = n) : Passes (L2.CX X.prog X.w) X (fun cls d H => ∀ σ : L2.St, σ.length = n → W cls d σ H) := fun pins σ H s e s' I c => tk e s' (XE.of_call I (fun cls d H' h => h σ (by rw [I.len]; exact hN)) c)
def BadPt (H : Hp) (ss : List Int) (p : Addr) : Prop := (∃ ys, H p = some (.tup ys)) ∨ (∃ xs, H p = some (.lst xs) ∧ Gm.RefsL H xs ∧ xs.all isI = false) ∨ ∃ pt : List Int, H p = some (.lst (pt.map V.int)) ∧ pt.length ≤ 1000 ∧ ¬ InB ss pt
def BadCh (H : Hp) (a : Addr) (y : V) : Prop := ∃ xs : List V, H a = some (.lst xs) ∧ xs.length ≤ 1000 ∧ (∀ x ∈ xs, MixT H x) ∧
  (lenS xs = false ∨ ∃ ss : List Int, xs = ss.map V.int ∧ SzOk ss ∧ (y = .non ∨ (∃ b ys, y = .ref b ∧ H b = some (.tup ys)) ∨ ∃ b ys, y = .ref b ∧ H b = some (.lst ys) ∧ ys.length ≠ (ptsB ss).length))
theorem len5 {σ : L2.St} (h : σ.length = 5) : ∃ v0 v1 v2 v3 v4, σ = [v0, v1, v2, v3, v4] := by
  match σ, h with
  | [v0, v1, v2, v3, v4], _ => exact ⟨v0, v1, v2, v3, v4, rfl⟩
def spSort (C : Str → Addr) (tb : Addr) : Sp := fun vs H Q _ => (∃ (c p : Addr) (y : V) (ss : List Int) (W : List Int → Int), vs = [.int 0, .ref c, .ref p, y] ∧ ChAtB C H ss W c ∧ GxR.TabG H tb ∧ BadPt H ss p ∧ ∀ H', SmT H H' → Q (.str "point") H') ∨
  ∃ (c a : Addr) (y : V), vs = [.int 1, .ref c, .ref a, y] ∧ BadCh H a y ∧ ∀ H', SmT H H' → Q (.str "chart") H'

theorem scX_law_sort : FnScope ["_law_door", "_law_chart", "_law_sizes", "_law_worths", "e"] ["_law_door", "_law_chart", "_law_sizes", "_law_worths"] (defScope s_law_sort) := ⟨rfl, rfl, rfl, by decide +kernel, rfl, by decide +kernel, by decide +kernel⟩
theorem ok_law_sort (T : Txt K mg C) (CT : ChT K C) {tb BP BC BE : Addr} (XX : XB K mg BP BC BE) {fm fc : Addr} {fdm fdc : FuncData} (GM : Meth K (C "Chart") "worth" fm ∧ FnOk P w K mg base (L2.CX P w) 3 fm fdm ["self", "point"] (spCWorthX C BP tb) ∧ Binds K fdm ["self", "point"] []) (GC : Mk K (C "Chart") fc ∧ FnOk P w K mg base (L2.CX P w) 4 fc fdc ["self", "sizes", "worths"] (spIChartX C BC) ∧ mg "Chart" = some (.ref (C "Chart")) ∧ Binds K fdc ["self", "sizes", "worths"] []) (F : C8.Def K mg "_law_sort" s_law_sort f fd) (b : Binds K fd ["_law_door", "_law_chart", "_law_sizes", "_law_worths"] []) : C8.Cal P w K mg base 6 "_law_sort" (spSort C tb) [] := by
  refine C8.cal0 F b .nil scX_law_sort (fun vs H Q E h => ?_) (fun cdv A outer s H vs Q E hr h => ?_)
  · rcases h with ⟨c, p, y, ss, W, rfl, hc, tg, hp, k⟩ | ⟨c, a, y, rfl, hb, k⟩
    · rfl
    · rfl
  · refine ⟨_, (pss_cons (ps_try_as (i := 4) rfl rfl scX_law_sort.nd rfl rfl ⟨rfl, by decide, .inl XX.gE⟩ takes0 (fun W pn xe tk _ => (pss_one (ps_if (pt_cmpR op_eq (pv 0) pe_int (nomark _)) (pss_one (ps_expr (pe_meth (pv 1) CT.cl GM.1 GM.2.1 (hr.mono (by decide)) GM.2.2 .nil (passLen (n := 5) tk rfl) (pa_cons (pv 2) pa_nil)))) (pss_one (ps_expr (pe_make GC.1 GC.2.1 (hr.mono (by decide)) rfl GC.2.2.1 GC.2.2.2 .nil (passLen (n := 5) tk rfl) (pa_cons (pv 2) (pa_cons (pv 3) pa_nil)))))))) (fun a oe cls d pn hz hf => (pss_cons (ps_if (PW.pt (pw_and (pt_val (pe_callB (call_isEG hz hf) (by rfl) T.b_isinstance (by decide +kernel) (pa_cons (pv 4) (pa_cons (C8.pe_gc rfl (show ∃ u, mg "BadPoint" = some u ∧ RelV (.ref BP) u from ⟨_, XX.P.g, rfl⟩)) pa_nil)))) (pw_and1 (pt_not (pt_val (pe_callB (call_isEG hz hf) (by rfl) T.b_isinstance (by decide +kernel) (pa_cons (pv 4) (pa_cons (C8.pe_gc rfl (show ∃ u, mg "BadChart" = some u ∧ RelV (.ref BC) u from ⟨_, XX.C.g, rfl⟩)) pa_nil)))))))) (pss_one (ps_ret pe_str)) pss_nil) (pss_one (ps_ret (pe_ifExp (PW.pt (pw_and (pt_val (pe_callB (call_isEG hz hf) (by rfl) T.b_isinstance (by decide +kernel) (pa_cons (pv 4) (pa_cons (C8.pe_gc rfl (show ∃ u, mg "BadChart" = some u ∧ RelV (.ref BC) u from ⟨_, XX.C.g, rfl⟩)) pa_nil)))) (pw_and1 (pt_not (pt_val (pe_callB (call_isEG hz hf) (by rfl) T.b_isinstance (by decide +kernel) (pa_cons (pv 4) (pa_cons (C8.pe_gc rfl (show ∃ u, mg "BadPoint" = some u ∧ RelV (.ref BP) u from ⟨_, XX.P.g, rfl⟩)) pa_nil)))))))) pe_str pe_str))))))
    (pss_one (ps_ret pe_str))), ?_⟩
    rcases h with ⟨c, p, y, ss, W, rfl, hc, tg, hp, k⟩ | ⟨c, a, y, rfl, hb, k⟩
    · refine ⟨_, rfl, rfl, _, rfl, iteY (decide_eq_true rfl) ?_⟩
      obtain ⟨dx, t, eo, et⟩ := hc.ex
      refine ⟨_, rfl, _, _, _, rfl, eo, no_cworth, _, rfl, c, p, ss, W, rfl, hc, tg, hp, fun H1 s1 σ hσ => ⟨true, XX.eP, (fun _ a0 na => ?_), (fun q => nomatch q)⟩⟩
      obtain ⟨v0, v1, v2, v3, v4, rfl⟩ := len5 hσ
      refine ⟨_, rfl, BP, rfl, rfl, XX.ecP, _, _, true, rfl, (fun u hu => hu), XX.pp, _, rfl, iteT ?_⟩
      refine ⟨_, rfl, BP, rfl, rfl, XX.ecP, _, _, false, rfl, (fun u hu => hu), XX.pc, _, rfl, iteT ?_⟩
      exact k _ s1
    · refine ⟨_, rfl, rfl, _, rfl, iteN (decide_eq_false (fun z => by cases z)) ?_⟩
      obtain ⟨xs, ha, hl, hm, hbad⟩ := hb
      refine ⟨_, rfl, _, rfl, fun o dx ho hdx hne => ?_⟩
      have sN : Same H (upd (upd H dx (.own o)) o (.ins (C "Chart") dx [])) := Same.new ho hdx
      refine ⟨o, dx, a, y, xs, rfl, upd_same, sN _ _ ha, hl, (fun x hx => (hm x hx).same sN), ?_, fun H1 s1 σ hσ => ⟨true, XX.eC, (fun _ a0 na => ?_), (fun q => nomatch q)⟩⟩
      · rcases hbad with h | ⟨ss, h1, h2, h⟩
        · exact .inl h
        · refine .inr ⟨ss, h1, h2, ?_⟩
          rcases h with h | ⟨b, ys, h, e⟩ | ⟨b, ys, h, e, n⟩
          · exact .inl h
          · exact .inr (.inl ⟨b, ys, h, sN _ _ e⟩)
          · exact .inr (.inr ⟨b, ys, h, sN _ _ e, n⟩)
      obtain ⟨v0, v1, v2, v3, v4, rfl⟩ := len5 hσ
      refine ⟨_, rfl, BC, rfl, rfl, XX.ecC, _, _, false, rfl, (fun u hu => hu), XX.cp, _, rfl, iteF ?_⟩
      refine ⟨_, rfl, BC, rfl, rfl, XX.ecC, _, _, true, rfl, (fun u hu => hu), XX.cc, _, rfl, iteT ?_⟩
      refine ⟨_, rfl, BC, rfl, rfl, XX.ecC, _, _, false, rfl, (fun u hu => hu), XX.cp, _, rfl, iteT ?_⟩
      exact k _ (.of (sN.trans s1))

end
end Ev

/-! worths that rise evenly along each side, the greatest number added -/
namespace Ev
open PySem L2 Ax
/-- list(e), the fragment told -/
def rListOf (K : PySem.W.Frag) : List V → Hp → VK → Prop := fun xs H Q => ∃ p ys, xs = [.ref p] ∧ (SqL K H p ys ∨ SqT K H p ys) ∧ ∀ l, H l = none → Q (.ref l) (upd H l (.lst ys))
def mxL : List Int → Int
  | [] => 0
  | x :: r => match r with
    | [] => x
    | _ :: _ => if x ≤ mxL r then mxL r else x
theorem mx_mem : ∀ {p : List Int}, p ≠ [] → mxL p ∈ p
  | [], h => absurd rfl h
  | [x], _ => by show x ∈ [x]; exact List.mem_cons_self
  | x :: y :: r, _ => by
    show (if x ≤ mxL (y :: r) then mxL (y :: r) else x) ∈ x :: y :: r
    split
    · exact List.mem_cons_of_mem _ (mx_mem (by simp))
    · exact List.mem_cons_self
theorem mx_ge : ∀ {p : List Int} {z : Int}, z ∈ p → z ≤ mxL p
  | [], z, h => (nomatch h)
  | [x], z, h => by rw [List.mem_singleton.mp h]; exact Int.le_refl _
  | x :: y :: r, z, h => by
    show z ≤ (if x ≤ mxL (y :: r) then mxL (y :: r) else x)
    rcases List.mem_cons.mp h with rfl | h
    · split <;> omega
    · have := mx_ge h
      split <;> omega
theorem mx_eq {p : List Int} {M : Int} (h1 : M ∈ p) (h2 : ∀ z ∈ p, z ≤ M) : M = mxL p := by
  have n : p ≠ [] := fun e => by rw [e] at h1; cases h1
  exact Int.le_antisymm (mx_ge h1) (h2 _ (mx_mem n))
theorem zip_item {x y : List Int} {f : Int × Int → Int} {z : Int} (h : z ∈ (x.zip y).map f) : ∃ a b, a ∈ x ∧ b ∈ y ∧ z = f (a, b) := by
  obtain ⟨⟨a, b⟩, hq, rfl⟩ := List.mem_map.mp h
  have := List.of_mem_zip hq
  exact ⟨a, b, this.1, this.2, rfl⟩
theorem mx_halves {x y : List Int} (hl : x.length = y.length) (h0 : 0 < x.length) : mxL (upL x y) + mxL (dnL x y) ≤ mxL x + mxL y := by
  have lz : (x.zip y).length = x.length := by rw [List.length_zip, hl, Nat.min_self]
  have n1 : upL x y ≠ [] := fun e => by
    have z : (upL x y).length = x.length := by
      unfold upL
      rw [List.length_map, lz]
    rw [e, List.length_nil] at z
    omega
  have n2 : dnL x y ≠ [] := fun e => by
    have z : (dnL x y).length = x.length := by
      unfold dnL
      rw [List.length_map, lz]
    rw [e, List.length_nil] at z
    omega
  obtain ⟨a, b, ha, hb, e1⟩ := zip_item (mx_mem n1)
  obtain ⟨c, d, hc, hd, e2⟩ := zip_item (mx_mem n2)
  have := mx_ge ha
  have := mx_ge hb
  have := mx_ge hc
  have := mx_ge hd
  have e1 : mxL (upL x y) = (a + b + 1) / 2 := e1
  have e2 : mxL (dnL x y) = (c + d) / 2 := e2
  omega
def linS (sl p : List Int) : Int := ((List.range sl.length).map fun k => sl.getD k 0 * p.getD k 0).sum
theorem sum_two {α : Type} {f g h e : α → Int} : ∀ {l : List α}, (∀ k ∈ l, f k + g k = h k + e k) → (l.map f).sum + (l.map g).sum = (l.map h).sum + (l.map e).sum
  | [], _ => rfl
  | k :: l, H => by
    have ih := sum_two (l := l) fun j hj => H j (List.mem_cons_of_mem _ hj)
    have := H k List.mem_cons_self
    simp only [List.map_cons, List.sum_cons]
    omega
theorem half_get {x y : List Int} (hl : x.length = y.length) {k : Nat} (hk : k < x.length) : (upL x y).getD k 0 + (dnL x y).getD k 0 = x.getD k 0 + y.getD k 0 := by
  have hk2 : k < y.length := by omega
  have e1 : (upL x y).getD k 0 = (x.getD k 0 + y.getD k 0 + 1) / 2 := by
    unfold upL
    simp [List.getD_eq_getElem?_getD, List.getElem?_map, List.getElem?_zip_eq_some, hk, hk2, List.zip_eq_zipWith, List.getElem?_zipWith]
  have e2 : (dnL x y).getD k 0 = (x.getD k 0 + y.getD k 0) / 2 := by
    unfold dnL
    simp [List.getD_eq_getElem?_getD, List.getElem?_map, hk, hk2, List.zip_eq_zipWith, List.getElem?_zipWith]
  rw [e1, e2]
  omega
theorem lin_halves {sl x y : List Int} (h1 : x.length = sl.length) (h2 : y.length = sl.length) : linS sl (upL x y) + linS sl (dnL x y) = linS sl x + linS sl y := by
  unfold linS
  refine sum_two fun k hk => ?_
  have := List.mem_range.mp hk
  have e := half_get (x := x) (y := y) (by omega) (k := k) (by omega)
  rw [← Int.mul_add, ← Int.mul_add, e]
def wS (sl p : List Int) : Int := linS sl p + mxL p
theorem cvx_wS {ss sl : List Int} (hl : sl.length = ss.length) (h0 : 0 < ss.length) : CvxB ss (wS sl) := fun x y hx hy => by
  have a := hx.len
  have b := hy.len
  have e1 := lin_halves (sl := sl) (x := x) (y := y) (by omega) (by omega)
  have e2 := mx_halves (x := x) (y := y) (by omega) (by omega)
  unfold wS
  omega
theorem sum_bd {b : Int} : ∀ {l : List Int}, (∀ x ∈ l, -b ≤ x ∧ x ≤ b) → -(b * (l.length : Int)) ≤ l.sum ∧ l.sum ≤ b * (l.length : Int)
  | [], _ => by simp
  | x :: l, h => by
    have ih := sum_bd (l := l) fun y hy => h y (List.mem_cons_of_mem _ hy)
    have := h x List.mem_cons_self
    have e : b * ((x :: l).length : Int) = b * (l.length : Int) + b := by
      rw [List.length_cons, Int.natCast_add, Int.mul_add]
      omega
    rw [List.sum_cons, e]
    omega
theorem mul_bd {a b : Int} (h1 : -10 ≤ a) (h2 : a ≤ 10) (h3 : 0 ≤ b) (h4 : b ≤ 3) : -30 ≤ a * b ∧ a * b ≤ 30 := by
  have : b = 0 ∨ b = 1 ∨ b = 2 ∨ b = 3 := by omega
  rcases this with rfl | rfl | rfl | rfl <;> omega
theorem wS_bd {ss sl p : List Int} (hz : SzOk ss) (hl : sl.length = ss.length) (hs : ∀ a ∈ sl, -10 ≤ a ∧ a ≤ 10) (hp : InB ss p) : -1000 ≤ wS sl p ∧ wS sl p ≤ 1000 := by
  have lp := hp.len
  have z1 := hz.1
  have z3 := hz.2.1
  have nums : ∀ x ∈ p, 0 ≤ x ∧ x ≤ 3 := fun x hx => by
    obtain ⟨i, hi, e⟩ := List.getElem_of_mem hx
    obtain ⟨h0, s, hs, lt⟩ := hp.get i x (by rw [List.getElem?_eq_getElem hi, e])
    have := hz.2.2 s (List.mem_of_getElem? hs)
    omega
  have n : p ≠ [] := fun e => by rw [e] at lp; simp at lp; omega
  have m := nums _ (mx_mem n)
  have b := sum_bd (b := 30) (l := (List.range sl.length).map fun k => sl.getD k 0 * p.getD k 0) fun x hx => by
    obtain ⟨k, hk, rfl⟩ := List.mem_map.mp hx
    have hk := List.mem_range.mp hk
    have e1 : sl.getD k 0 ∈ sl := by rw [List.getD_eq_getElem?_getD, List.getElem?_eq_getElem hk]; exact List.getElem_mem hk
    have e2 : p.getD k 0 ∈ p := by rw [List.getD_eq_getElem?_getD, List.getElem?_eq_getElem (by omega)]; exact List.getElem_mem _
    exact mul_bd (hs _ e1).1 (hs _ e1).2 (nums _ e2).1 (nums _ e2).2
  rw [List.length_map, List.length_range] at b
  unfold wS linS
  omega
end Ev

/-! own words: repr of told data, where nothing is being shown -/
namespace L2
open PySem PySem.Spec PyProof.Rows
def rRepr (K : PySem.W.Frag) : List V → Hp → VK → Prop := fun xs H Q => ∃ (a : Addr) (d : PyData), xs = [.ref a] ∧ Dp K H (.ref a) d ∧ d.showable = true ∧ d.hasDict = false ∧ d.depth ≤ 64 ∧ d.shown.length ≤ sizeLine ∧ Q (.str d.shown) H
theorem cr_repr {X : Cx} (hg : X.A.guards = some []) (hu : X.A.units + 65 < cLine) : CallR X (.builtin "repr") (rRepr X.K) := by
  intro pins s σ H xs us Q I r h
  obtain ⟨a, d, rfl, hd, hs, hn, h64, hz, q⟩ := h
  cases r with
  | cons r rr =>
    cases rr
    obtain ⟨as, rd⟩ := Dp.reads I d _ _ hd r
    cases (show _ = Value.ref a from r)
    refine repr_of_reads' (h₀ := s.heap) rd hs (fun e => by rw [hn] at e; cases e) hg (by omega) (fun _ _ e => e) (fun h' u tk hk => ?_) hz
    exact ⟨.str d.shown, H, I.kept (t' := tk) hk, ⟨u, rfl⟩, q⟩
end L2

namespace Ev
open PySem L2 Ax
section
variable {P : Program} {w : World} {K : PySem.W.Frag} {mg : Str → Option Value} {base : Heap} {C : Str → Addr} {f : Addr} {fd : FuncData}

/-- a thing that a list holds, as data -/
structure ItD (K : PySem.W.Frag) (H : Hp) (x : V) (d : PyData) : Prop where
  dp : ∀ H', SmT H H' → Dp K H' x d
  ok : DOk d 2
  sh : d.showable = true
  len : d.shown.length ≤ 3000
theorem it_int {H : Hp} {n : Int} (h0 : -1000 ≤ n) (h1 : n ≤ 1000) : ItD K H (.int n) (.int n) :=
  ⟨fun _ _ => .int n, .int, by rw [PyData.showable]; exact decide_eq_true (log_small (by omega) (by omega)), by rw [PyData.shown]; exact Nat.le_trans (iS_len (i := n) (by omega) (by omega)) (by decide)⟩
theorem shown_map : ∀ ds : List PyData, PyData.shownAll ds = ds.map PyData.shown
  | [] => by rw [PyData.shownAll]; rfl
  | d :: ds => by rw [PyData.shownAll, shown_map ds]; rfl
theorem showAll_of : ∀ {ds : List PyData}, (∀ d ∈ ds, d.showable = true) → PyData.showableAll ds = true
  | [], _ => by rw [PyData.showableAll]
  | d :: ds, h => by rw [PyData.showableAll, h d List.mem_cons_self, showAll_of fun e he => h e (List.mem_cons_of_mem _ he)]; rfl
theorem its_of {H : Hp} : ∀ {xs : List V}, (∀ x ∈ xs, ∃ d, ItD K H x d) → ∃ ds : List PyData, ds.length = xs.length ∧ (∀ H', SmT H H' → DpAll K H' xs ds) ∧ ∀ d ∈ ds, DOk d 2 ∧ d.showable = true ∧ d.shown.length ≤ 3000
  | [], _ => ⟨[], rfl, fun _ _ => .nil, fun d hd => (nomatch hd)⟩
  | x :: xs, h => by
    obtain ⟨ds, h1, h2, h3⟩ := its_of (xs := xs) fun y hy => h y (List.mem_cons_of_mem _ hy)
    obtain ⟨d, hd⟩ := h x List.mem_cons_self
    refine ⟨d :: ds, by rw [List.length_cons, List.length_cons, h1], fun H' s => .cons (hd.dp H' s) (h2 H' s), fun e he => ?_⟩
    rcases List.mem_cons.mp he with rfl | he
    · exact ⟨hd.ok, hd.sh, hd.len⟩
    · exact h3 e he
theorem len_tl {ds : List PyData} (h : ∀ d ∈ ds, d.shown.length ≤ 3000) (l : ds.length ≤ 10) : ((PyData.shownAll ds).map (·.length)).sum ≤ 30000 ∧ (PyData.shownAll ds).length ≤ 10 := by
  rw [shown_map]
  have := tl_len (l := ds.map PyData.shown) (k := 3000) fun s hs => (by obtain ⟨d, hd, rfl⟩ := List.mem_map.mp hs; exact h d hd)
  rw [List.length_map] at this
  rw [List.length_map]
  omega
/-- what is shown of a list or tuple stays -/
structure Shn (K : PySem.W.Frag) (H : Hp) (r : Addr) (d : PyData) : Prop where
  dp : ∀ H', SmT H H' → Dp K H' (.ref r) d
  sh : d.showable = true
  nd : d.hasDict = false
  dep : d.depth ≤ 64
  len : d.shown.length ≤ sizeLine
theorem shn_list {H : Hp} {r : Addr} {xs : List V} (e : H r = some (.lst xs)) (l : xs.length ≤ 10) (h : ∀ x ∈ xs, ∃ d, ItD K H x d) : ∃ d, Shn K H r d ∧ DOk d 3 := by
  obtain ⟨ds, h1, h2, h3⟩ := its_of h
  have ok : DOk (.list ds) 3 := .list fun d hd => (h3 d hd).1
  refine ⟨.list ds, ⟨fun H' s => .lst (.of (s.lst e)) (h2 H' s), by rw [PyData.showable]; exact showAll_of fun d hd => (h3 d hd).2.1, PyData.hasDict_of_canLay _ ok.1, Nat.le_trans ok.2 (by decide), ?_⟩, ok⟩
  have z := len_tl (ds := ds) (fun d hd => (h3 d hd).2.2) (by omega)
  have z2 := listText_len_le (PyData.shownAll ds)
  rw [PyData.shown]
  exact Nat.le_trans (show _ ≤ 40000 by omega) (by decide)
theorem shn_tup {H : Hp} {r : Addr} {xs : List V} (e : H r = some (.tup xs)) (l : xs.length ≤ 10) (h : ∀ x ∈ xs, ∃ d, ItD K H x d) : ∃ d, Shn K H r d ∧ DOk d 3 := by
  obtain ⟨ds, h1, h2, h3⟩ := its_of h
  have ok : DOk (.tuple ds) 3 := .tuple fun d hd => (h3 d hd).1
  refine ⟨.tuple ds, ⟨fun H' s => .tup (.of (s.tup e)) (h2 H' s), by rw [PyData.showable]; exact showAll_of fun d hd => (h3 d hd).2.1, PyData.hasDict_of_canLay _ ok.1, Nat.le_trans ok.2 (by decide), ?_⟩, ok⟩
  have z := len_tl (ds := ds) (fun d hd => (h3 d hd).2.2) (by omega)
  have z2 := tupleText_len_le (PyData.shownAll ds)
  rw [PyData.shown]
  exact Nat.le_trans (show _ ≤ 40000 by omega) (by decide)

end
end Ev

namespace Ev
open PySem L2 Ax
section
variable {P : Program} {w : World} {K : PySem.W.Frag} {mg : Str → Option Value} {base : Heap} {C : Str → Addr} {f : Addr} {fd : FuncData}

theorem BadV.it {H : Hp} {s : Int} {x : V} (h : BadV H s x) : ∃ d, ItD K H x d := by
  rcases h with ⟨n, rfl, _, h0, h1⟩ | rfl | rfl | rfl | ⟨q, rfl, e⟩
  · exact ⟨_, it_int h0 h1⟩
  · exact ⟨.bool true, fun _ _ => .bl true, .bool, by rw [PyData.showable], by rw [PyData.shown]; decide +kernel⟩
  · exact ⟨.none, fun _ _ => .non, .non, by rw [PyData.showable], by rw [PyData.shown]; decide +kernel⟩
  · exact ⟨.str "0", fun _ _ => .str _, .str (by decide +kernel), by rw [PyData.showable], by rw [PyData.shown]; decide +kernel⟩
  · refine ⟨.list [.int 0], fun H' s => .lst (.of (s.lst e)) (.cons (.int 0) .nil), DOk.mono (j := 1) (.list fun d hd => by rw [List.mem_singleton.mp hd]; exact .int) (by decide), ?_, ?_⟩
    · rw [PyData.showable]
      exact showAll_of fun d hd => by rw [List.mem_singleton.mp hd, PyData.showable]; decide
    · rw [PyData.shown, shown_map]
      simp only [List.map_cons, List.map_nil, PyData.shown]
      decide +kernel
theorem nums_in {ss p : List Int} (hz : SzOk ss) (hp : InB ss p) : ∀ x ∈ p, 0 ≤ x ∧ x ≤ 3 := fun x hx => by
  obtain ⟨i, hi, e⟩ := List.getElem_of_mem hx
  obtain ⟨h0, s, hs, lt⟩ := hp.get i x (by rw [List.getElem?_eq_getElem hi, e])
  have := hz.2.2 s (List.mem_of_getElem? hs)
  omega
theorem its_ints {H : Hp} {p : List Int} (h : ∀ x ∈ p, 0 ≤ x ∧ x ≤ 3) : ∀ x ∈ p.map V.int, ∃ d, ItD K H x d := fun x hx => by
  obtain ⟨u, hu, rfl⟩ := List.mem_map.mp hx
  have := h u hu
  exact ⟨_, it_int (by omega) (by omega)⟩
theorem spl_data {H : Hp} {ss pt : List Int} {r : Addr} (hz : SzOk ss) (hp : InB ss pt) (h : Spl ss pt H r) : ∃ d, Shn K H r d ∧ DOk d 3 := by
  have nm := nums_in hz hp
  have lp := hp.len
  have z1 := hz.2.1
  rcases h with e | e | e | ⟨i, s, x, il, hs, hx, e⟩
  · refine shn_list e (by rw [List.length_map, List.length_append, List.length_singleton]; omega) (its_ints fun x hx => ?_)
    rcases List.mem_append.mp hx with hx | hx
    · exact nm x hx
    · rw [List.mem_singleton.mp hx]; omega
  · exact shn_list e (by rw [List.length_map, List.length_dropLast]; omega) (its_ints fun x hx => nm x (List.dropLast_subset _ hx))
  · exact shn_tup e (by rw [List.length_map]; omega) (its_ints nm)
  · refine shn_list e (by rw [List.length_append, List.length_append, List.length_map, List.length_map, List.length_singleton, List.length_take, List.length_drop]; omega) fun y hy => ?_
    rcases List.mem_append.mp hy with hy | hy
    · rcases List.mem_append.mp hy with hy | hy
      · exact its_ints (fun x hx => nm x (List.mem_of_mem_take hx)) y hy
      · rw [List.mem_singleton.mp hy]; exact hx.it
    · exact its_ints (fun x hx => nm x (List.mem_of_mem_drop hx)) y hy
theorem Spl.smt {H H' : Hp} {ss pt : List Int} {r : Addr} (h : Spl ss pt H r) (s : SmT H H') : Spl ss pt H' r := by
  rcases h with e | e | e | ⟨i, z, x, il, hs, hx, e⟩
  · exact .inl (s.lst e)
  · exact .inr (.inl (s.lst e))
  · exact .inr (.inr (.inl (s.tup e)))
  · refine .inr (.inr (.inr ⟨i, z, x, il, hs, ?_, s.lst e⟩))
    rcases hx with h | h | h | h | ⟨q, h, g⟩
    · exact .inl h
    · exact .inr (.inl h)
    · exact .inr (.inr (.inl h))
    · exact .inr (.inr (.inr (.inl h)))
    · exact .inr (.inr (.inr (.inr ⟨q, h, s.lst g⟩)))
theorem spl_bad {H : Hp} {ss pt : List Int} {r : Addr} (hz : SzOk ss) (hp : InB ss pt) (h : Spl ss pt H r) : BadPt H ss r := by
  have lp := hp.len
  have z1 := hz.1
  have z3 := hz.2.1
  rcases h with e | e | e | ⟨i, s, x, il, hs, hx, e⟩
  · refine .inr (.inr ⟨_, e, by rw [List.length_append, List.length_singleton]; omega, fun z => ?_⟩)
    have := z.len
    rw [List.length_append, List.length_singleton] at this
    omega
  · refine .inr (.inr ⟨_, e, by rw [List.length_dropLast]; omega, fun z => ?_⟩)
    have := z.len
    rw [List.length_dropLast] at this
    omega
  · exact .inl ⟨_, e⟩
  · have bad : isI x = false → (∀ q, x = V.ref q → ∃ ys, H q = some (.lst ys)) → Gm.Knd x → BadPt H ss r := fun hI hR hK => by
      refine .inr (.inl ⟨_, e, ⟨fun q hq => ?_, fun y hy => ?_⟩, ?_⟩)
      · rcases List.mem_append.mp hq with hq | hq
        · rcases List.mem_append.mp hq with hq | hq
          · obtain ⟨_, _, z⟩ := List.mem_map.mp hq; cases z
          · exact hR q (List.mem_singleton.mp hq).symm
        · obtain ⟨_, _, z⟩ := List.mem_map.mp hq; cases z
      · have ki : ∀ {l : List Int}, y ∈ l.map V.int → Gm.Knd y := fun hm => by
          obtain ⟨u, _, rfl⟩ := List.mem_map.mp hm
          exact ⟨fun _ z => (nomatch z), fun _ z => (nomatch z), fun _ z => (nomatch z)⟩
        rcases List.mem_append.mp hy with hy | hy
        · rcases List.mem_append.mp hy with hy | hy
          · exact ki hy
          · rw [List.mem_singleton.mp hy]; exact hK
        · exact ki hy
      · cases z : ((pt.take i).map V.int ++ [x] ++ (pt.drop (i + 1)).map V.int).all isI with
        | false => rfl
        | true =>
          have := List.all_eq_true.mp z x (by simp)
          rw [hI] at this
          cases this
    rcases hx with ⟨n, rfl, hn, _⟩ | rfl | rfl | rfl | ⟨q, rfl, g⟩
    · have em : (pt.take i).map V.int ++ [V.int n] ++ (pt.drop (i + 1)).map V.int = ((pt.take i) ++ [n] ++ pt.drop (i + 1)).map V.int := by rw [List.map_append, List.map_append]; rfl
      rw [em] at e
      refine .inr (.inr ⟨_, e, by rw [List.length_append, List.length_append, List.length_singleton, List.length_take, List.length_drop]; omega, fun z => ?_⟩)
      obtain ⟨h0, s2, hs2, lt⟩ := z.get i n (by
        rw [List.append_assoc, List.getElem?_append_right (by rw [List.length_take]; omega), List.length_take, Nat.min_eq_left (Nat.le_of_lt il), Nat.sub_self]
        rfl)
      rw [hs] at hs2
      cases hs2
      omega
    · exact bad rfl (fun q z => (nomatch z)) ⟨fun _ z => (nomatch z), fun _ z => (nomatch z), fun _ z => (nomatch z)⟩
    · exact bad rfl (fun q z => (nomatch z)) ⟨fun _ z => (nomatch z), fun _ z => (nomatch z), fun _ z => (nomatch z)⟩
    · exact bad rfl (fun q z => (nomatch z)) ⟨fun _ z => (nomatch z), fun _ z => (nomatch z), fun _ z => (nomatch z)⟩
    · exact bad rfl (fun q' z => (by cases z; exact ⟨_, g⟩)) ⟨fun _ z => (nomatch z), fun _ z => (nomatch z), fun _ z => (nomatch z)⟩

end
end Ev

namespace Ev
open PySem L2 Ax
section
variable {P : Program} {w : World} {K : PySem.W.Frag} {mg : Str → Option Value} {base : Heap} {C : Str → Addr} {f : Addr} {fd : FuncData}

def spLaw (K : PySem.W.Frag) (tb : Addr) : Sp := fun vs H Q _ => ∃ (a : Addr) (ns : List Int), vs = [.ref a] ∧ SqL K H a (ns.map V.int) ∧ ns.length ≤ 63 ∧ GxR.TabG H tb ∧ ∀ H', SmT H H' → Q (.bl true) H'

theorem law_body (T : Txt K mg C) {BE tb : Addr} (gE : mg "BendError" = some (.ref BE)) (c_law_cell_at : C8.Cal P w K mg base 1 "_law_cell_at" (spCellV K) []) (c_law_points : C8.Cal P w K mg base 1 "_law_points" spLPts []) (m_Chart : C8.Mak P w K mg base 4 "Chart" (C "Chart") (spIChart C) []) (o_worth : C8.Met P w K mg base 3 (C "Chart") "worth" (spCWorth C tb) []) (c_law_spoilt : C8.Cal P w K mg base 2 "_law_spoilt" spSpoilt []) (c_law_sort : C8.Cal P w K mg base 6 "_law_sort" (spSort C tb) []) (c_law_bad_sizes : C8.Cal P w K mg base 1 "_law_bad_sizes" spBadS []) (c_law_copies : C8.Cal P w K mg base 3 "_law_copies" (spCopies K) []) (cdv : Value) (A : Around) (hgA : A.guards = some []) (outer : List Env) (s : Shared) (H : Hp) (vs : List V) (Q : VK) (E : XK) (hr : Room 8 (A.deeper (PyProof.Rows.envOfC "law" (C8.fnScope s_law) s.heap.objs.size f cdv))) (h : spLaw K tb vs H Q E) :
    ∃ t, PSs (cxOf C8.CX0 P w K mg base ["_law_script", "_law_many", "_law_sizes", "_law_slopes", "_law_points_here", "_law_worths", "_law_chart", "_law_point", "_law_k", "_law_bad_here", "_law_as_it_was", "_law_cell", "_law_some"] "law" (C8.fnScope s_law) f cdv A outer s H E).nox (C8.fnBody s_law) t ∧ t { nx := fun _ H' => Q .non H', rt := Q } (L2.start ["_law_script", "_law_many", "_law_sizes", "_law_slopes", "_law_points_here", "_law_worths", "_law_chart", "_law_point", "_law_k", "_law_bad_here", "_law_as_it_was", "_law_cell", "_law_some"] vs) H := by
  obtain ⟨a, ns, rfl, hS, hl, tg, k⟩ := h
  have hgX : ((cxOf C8.CX0 P w K mg base ["_law_script", "_law_many", "_law_sizes", "_law_slopes", "_law_points_here", "_law_worths", "_law_chart", "_law_point", "_law_k", "_law_bad_here", "_law_as_it_was", "_law_cell", "_law_some"] "law" (C8.fnScope s_law) f cdv A outer s H E).nox).A.guards = some [] := by
    show (A.deeper _).guards = some []
    unfold Around.deeper
    rw [hgA]
  have huX : ((cxOf C8.CX0 P w K mg base ["_law_script", "_law_many", "_law_sizes", "_law_slopes", "_law_points_here", "_law_worths", "_law_chart", "_law_point", "_law_k", "_law_bad_here", "_law_as_it_was", "_law_cell", "_law_some"] "law" (C8.fnScope s_law) f cdv A outer s H E).nox).A.units + 65 < cLine := by
    show (A.deeper _).units + 65 < cLine
    have := hr.un
    omega
  refine ⟨_, (pss_cons (ps_set (i := 1) sc_law.nd rfl (Or.inr rfl) (pe_op op_add pe_int (pe_op op_mod (C8.pe_c c_law_cell_at hr (by decide) rfl (pa_cons (pv 0) (pa_cons pe_int pa_nil))) pe_int)))
    (pss_cons (ps_setLc (i := 2) (own := [("_law_k", 8)]) (g := gName 8) (tt := tYes) rfl sc_law.nd rfl rfl (sw_true rfl rfl rfl (by decide +kernel)) (pi_range1 (by rfl) T.b_range (pa_cons (pv 1) pa_nil)) (blkOk_by (own := [("_law_k", 8)]) (N := ["_law_script", "_law_many", "_law_sizes", "_law_slopes", "_law_points_here", "_law_worths", "_law_chart", "_law_point", "_law_k", "_law_bad_here", "_law_as_it_was", "_law_cell", "_law_some"]) (sc := (defScope s_law)) (by decide +kernel)) (fun _ _ _ _ _ => pg_name (i := 8) sc_law.nd rfl (Or.inl rfl)) (fun _ _ _ _ _ => pts_nil) (fun _ _ _ _ _ => (pe_op op_add pe_int (pe_op op_mod (C8.pe_c c_law_cell_at hr (by decide) rfl (pa_cons (pv 0) (pa_cons (pe_op op_add pe_int (pv 8)) pa_nil))) pe_int))))
    (pss_cons (ps_set (i := 3) sc_law.nd rfl (Or.inr rfl) (pe_lc (own := [("_law_k", 8)]) (g := gName 8) (tt := tYes) rfl sc_law.nd (pi_range1 (by rfl) T.b_range (pa_cons (pv 1) pa_nil)) (blkOk_by (own := [("_law_k", 8)]) (N := ["_law_script", "_law_many", "_law_sizes", "_law_slopes", "_law_points_here", "_law_worths", "_law_chart", "_law_point", "_law_k", "_law_bad_here", "_law_as_it_was", "_law_cell", "_law_some"]) (sc := (defScope s_law)) (by decide +kernel)) (fun _ _ _ _ _ => pg_name (i := 8) sc_law.nd rfl (Or.inl rfl)) (fun _ _ _ _ _ => pts_nil) (fun _ _ _ _ _ => (pe_op op_sub (pe_op op_mod (C8.pe_c c_law_cell_at hr (by decide) rfl (pa_cons (pv 0) (pa_cons (pe_op op_add pe_int (pv 8)) pa_nil))) pe_int) pe_int))))
    (pss_cons (ps_set (i := 4) sc_law.nd rfl (Or.inl rfl) (C8.pe_c c_law_points hr (by decide) rfl (pa_cons (pv 2) pa_nil)))
    (pss_cons (ps_setLc (i := 5) (own := [("_law_point", 7)]) (g := gName 7) (tt := tYes) rfl sc_law.nd rfl rfl (sw_true rfl rfl rfl (by decide +kernel)) (pi_list (pv 4)) (blkOk_by (own := [("_law_point", 7)]) (N := ["_law_script", "_law_many", "_law_sizes", "_law_slopes", "_law_points_here", "_law_worths", "_law_chart", "_law_point", "_law_k", "_law_bad_here", "_law_as_it_was", "_law_cell", "_law_some"]) (sc := (defScope s_law)) (by decide +kernel)) (fun _ _ _ _ _ => pg_name (i := 7) sc_law.nd rfl (Or.inr rfl)) (fun _ _ _ _ _ => pts_nil) (fun _ _ _ _ _ => (pe_op op_add (pe_callB (show CallR _ (.builtin "sum") (rSum K) from cr_sum rfl) (by rfl) T.b_sum (by decide +kernel) (pa_cons (by exact (pe_lc (own := [("_law_k", 8)]) (g := gName 8) (tt := tYes) rfl sc_law.nd (pi_range1 (by rfl) T.b_range (pa_cons (pv 1) pa_nil)) (blkOk_by (own := [("_law_k", 8)]) (N := ["_law_script", "_law_many", "_law_sizes", "_law_slopes", "_law_points_here", "_law_worths", "_law_chart", "_law_point", "_law_k", "_law_bad_here", "_law_as_it_was", "_law_cell", "_law_some"]) (sc := { kind := .function, names := [((".0" : Str), .local), ("_law_point", .cell), ("sum", .globalImplicit), ("range", .globalImplicit), ("max", .globalImplicit), ("_law_many", .cell), ("_law_slopes", .cell)], isGenerator := false, isCoroutine := false }) (by decide +kernel)) (fun _ _ _ _ _ => pg_name (i := 8) sc_law.nd rfl (Or.inl rfl)) (fun _ _ _ _ _ => pts_nil) (fun _ _ _ _ _ => (pe_op op_mul (pe_ix (show IxR _ (rIxL K) from ix_list) (pv 3) (pv 8) (fun _ _ => rfl)) (pe_ix (show IxR _ (rIxL K) from ix_list) (pv 7) (pv 8) (fun _ _ => rfl)))))) pa_nil)) (pe_callB (show CallR _ (.builtin "max") (rMax K) from cr_max rfl) (by rfl) T.b_max (by decide +kernel) (pa_cons (pv 7) pa_nil)))))
    (pss_cons (ps_try_only rfl rfl ⟨rfl, by decide, .inl gE⟩ takes0 (fun W pn xe tk po => (pss_cons (ps_set (i := 6) sc_law.nd rfl (Or.inr rfl) (C8.pe_mk m_Chart hr (by decide) rfl (pa_cons (pe_callTy (show CallR _ (.type "list") (rListOf K) from call_list_of) (by rfl) T.b_list (by decide +kernel) (pa_cons (pv 2) pa_nil)) (pa_cons (pe_callTy (show CallR _ (.type "list") (rListOf K) from call_list_of) (by rfl) T.b_list (by decide +kernel) (pa_cons (pv 5) pa_nil)) pa_nil))))
    (pss_one (ps_if (pt_cmpR (show OpR _ (compareOp .NotEq) (rNeD K) from op_neD hr.units) (by exact (pe_lc (own := [("_law_point", 7)]) (g := gName 7) (tt := tYes) rfl sc_law.nd (show PI _ _ _ (iList K (tVar 4)) from pi_list (pv 4)) (blkOk_by (own := [("_law_point", 7)]) (N := ["_law_script", "_law_many", "_law_sizes", "_law_slopes", "_law_points_here", "_law_worths", "_law_chart", "_law_point", "_law_k", "_law_bad_here", "_law_as_it_was", "_law_cell", "_law_some"]) (sc := (defScope s_law)) (by decide +kernel)) (fun _ _ _ _ _ => pg_name (i := 7) sc_law.nd rfl (Or.inl rfl)) (fun _ _ _ _ _ => pts_nil) (fun _ _ _ _ _ => (C8.pe_mt o_worth hr (by decide) (pv 6) (pa_cons (pe_callTy (show CallR _ (.type "list") (rListOf K) from call_list_of) (by rfl) T.b_list (by decide +kernel) (pa_cons (pv 7) pa_nil)) pa_nil))))) (pv 5) (nomark _)) (pss_one (ps_ret pe_bl)) pss_nil)))) (fun a oe cls d pn hz hf => (pss_one (ps_ret pe_bl))))
    (pss_cons (ps_set (i := 7) sc_law.nd rfl (Or.inl rfl) (pe_ix ix_list (pv 4) (pe_op op_mod (C8.pe_c c_law_cell_at hr (by decide) rfl (pa_cons (pv 0) (pa_cons pe_int pa_nil))) (pe_callB call_len (by rfl) T.b_len (by decide +kernel) (pa_cons (pv 4) pa_nil))) (fun _ _ => rfl)))
    (pss_cons (ps_for PassesOwn.never rfl (pi_range1 (by rfl) T.b_range (pa_cons pe_int pa_nil)) (pg_name (i := 8) sc_law.nd rfl (Or.inl rfl)) (pss_cons (ps_set (i := 9) sc_law.nd rfl (Or.inl rfl) (C8.pe_c c_law_spoilt hr (by decide) rfl (pa_cons (pv 7) (pa_cons (pv 2) (pa_cons (C8.pe_c c_law_cell_at hr (by decide) rfl (pa_cons (pv 0) (pa_cons (pe_op op_add pe_int (pv 8)) pa_nil))) (pa_cons (C8.pe_c c_law_cell_at hr (by decide) rfl (pa_cons (pv 0) (pa_cons (pe_op op_add pe_int (pv 8)) pa_nil))) pa_nil))))))
    (pss_cons (ps_set (i := 10) sc_law.nd rfl (Or.inl rfl) (pe_callB (cr_repr hgX huX) (by rfl) T.b_repr (by decide +kernel) (pa_cons (pv 9) pa_nil)))
    (pss_one (ps_if (PW.pt (pw_or (pt_cmpR op_ne (C8.pe_c c_law_sort hr (by decide) rfl (pa_cons pe_int (pa_cons (pv 6) (pa_cons (pv 9) (pa_cons (pe_lst pa_nil) pa_nil))))) pe_str (nomark _)) (pw_or1 (pt_cmpR op_ne (pe_callB (cr_repr hgX huX) (by rfl) T.b_repr (by decide +kernel) (pa_cons (pv 9) pa_nil)) (pv 10) (nomark _))))) (pss_one (ps_ret pe_bl)) pss_nil)))))
    (pss_cons (ps_for PassesOwn.never rfl (pi_list (pe_lst (pa_cons (C8.pe_c c_law_cell_at hr (by decide) rfl (pa_cons (pv 0) (pa_cons pe_int pa_nil))) (pa_cons (C8.pe_c c_law_cell_at hr (by decide) rfl (pa_cons (pv 0) (pa_cons pe_int pa_nil))) pa_nil)))) (pg_name (i := 11) sc_law.nd rfl (Or.inl rfl)) (pss_one (ps_if (pt_cmpR op_ne (C8.pe_c c_law_sort hr (by decide) rfl (pa_cons pe_int (pa_cons (pv 6) (pa_cons (C8.pe_c c_law_bad_sizes hr (by decide) rfl (pa_cons (pv 2) (pa_cons (pv 11) pa_nil))) (pa_cons (pe_callTy (show CallR _ (.type "list") (rListOf K) from call_list_of) (by rfl) T.b_list (by decide +kernel) (pa_cons (pv 5) pa_nil)) pa_nil))))) pe_str (nomark _)) (pss_one (ps_ret pe_bl)) pss_nil)))
    (pss_cons (ps_for PassesOwn.never rfl (pi_list (pe_lst (pa_cons (pe_op op_cat (pv 5) (pe_lst (pa_cons pe_int pa_nil))) (pa_cons (pe_slice sl_list (pv 5) po_none (po_some (pe_un un_neg pe_int))) (pa_cons (pe_callTy (show CallR _ (.type "tuple") (rTupOf K) from call_tuple_of) (by rfl) T.b_tuple (by decide +kernel) (pa_cons (pv 5) pa_nil)) (pa_cons pe_non pa_nil)))))) (pg_name (i := 12) sc_law.nd rfl (Or.inl rfl)) (pss_one (ps_if (pt_cmpR op_ne (C8.pe_c c_law_sort hr (by decide) rfl (pa_cons pe_int (pa_cons (pv 6) (pa_cons (pe_callTy (show CallR _ (.type "list") (rListOf K) from call_list_of) (by rfl) T.b_list (by decide +kernel) (pa_cons (pv 2) pa_nil)) (pa_cons (pv 12) pa_nil))))) pe_str (nomark _)) (pss_one (ps_ret pe_bl)) pss_nil)))
    (pss_one (ps_ret (C8.pe_c c_law_copies hr (by decide) rfl (pa_cons (pv 0) pa_nil)))))))))))))), ?_⟩
  have k3 : 0 ≤ cellV ns 0 % 3 ∧ cellV ns 0 % 3 < 3 := ⟨Int.emod_nonneg _ (by decide), Int.emod_lt_of_pos _ (by decide)⟩
  obtain ⟨m, hm⟩ : ∃ m : Nat, 1 + cellV ns 0 % 3 = (m : Int) := ⟨(1 + cellV ns 0 % 3).toNat, by omega⟩
  refine ⟨_, rfl, a, ns, 0, rfl, hS, hl, by decide, by decide, fun H1 s1 => ?_⟩
  refine ⟨_, _, rfl, rfl, (by show (0 : Int) < 3; decide), _, _, rfl, rfl, ?_⟩
  dsimp only
  rw [hm]
  have mb : 1 ≤ m ∧ m ≤ 3 := by omega
  refine ⟨_, rfl, m, rfl, by omega, by omega, fun D1 nD1 => ?_⟩
  refine wk_it (walk_range (lo := 0) (n := m)) (fun t H' => Same H1 H' ∧ H' D1 = some (.lst (((List.range t).map fun j : Nat => 1 + cellV ns (1 + (j : Int)) % 4).map V.int))) ⟨Same.upd nD1, upd_same⟩ (fun _ _ _ _ => True.intro) ?_ ?_
  · rintro t x H5 H6 ht ⟨s5, eD⟩ ⟨rfl, rfl⟩
    refine ⟨rfl, yes_go ?_⟩
    refine ⟨_, rfl, _, rfl, _, _, rfl, rfl, a, ns, _, rfl, (s1.trans s5).seq hS, hl, (by omega), (by omega), fun H7 s7 => ?_⟩
    refine ⟨_, _, rfl, rfl, (by show (0 : Int) < 4; decide), _, _, rfl, rfl, _, s7 _ _ eD, (small1000 (by rw [List.length_map, List.length_map, List.length_range]; omega)), Same.updN (s5.trans s7) nD1, ?_⟩
    rw [upd_same, List.range_succ, List.map_append, List.map_append]
    simp
  rintro H2 ⟨s2, eD1⟩
  obtain ⟨ss, hss⟩ : ∃ ss, (List.range m).map (fun j : Nat => 1 + cellV ns (1 + (j : Int)) % 4) = ss := ⟨_, rfl⟩
  rw [hss] at eD1
  have lss : ss.length = m := by rw [← hss, List.length_map, List.length_range]
  have hz : SzOk ss := ⟨by omega, by omega, fun x hx => by
    rw [← hss] at hx
    obtain ⟨j, _, rfl⟩ := List.mem_map.mp hx
    have q0 : 0 ≤ cellV ns (1 + (j : Int)) % 4 := Int.emod_nonneg _ (by decide)
    have q1 : cellV ns (1 + (j : Int)) % 4 < 4 := Int.emod_lt_of_pos _ (by decide)
    omega⟩
  have s12 := s1.trans s2
  refine ⟨_, rfl, m, rfl, by omega, by omega, fun D2 nD2 => ?_⟩
  refine wk_it (walk_range (lo := 0) (n := m)) (fun t H' => Same H2 H' ∧ H' D2 = some (.lst (((List.range t).map fun j : Nat => cellV ns (4 + (j : Int)) % 21 - 10).map V.int))) ⟨Same.upd nD2, upd_same⟩ (fun _ _ _ _ => True.intro) ?_ ?_
  · rintro t x H5 H6 ht ⟨s5, eD⟩ ⟨rfl, rfl⟩
    refine ⟨rfl, yes_go ?_⟩
    refine ⟨_, rfl, _, rfl, _, _, rfl, rfl, a, ns, _, rfl, (s12.trans s5).seq hS, hl, (by omega), (by omega), fun H7 s7 => ?_⟩
    refine ⟨_, _, rfl, rfl, (by show (0 : Int) < 21; decide), _, _, rfl, rfl, _, s7 _ _ eD, (small1000 (by rw [List.length_map, List.length_map, List.length_range]; omega)), Same.updN (s5.trans s7) nD2, ?_⟩
    rw [upd_same, List.range_succ, List.map_append, List.map_append]
    simp
  rintro H3 ⟨s3, eD2⟩
  obtain ⟨sl, hsl⟩ : ∃ sl, (List.range m).map (fun j : Nat => cellV ns (4 + (j : Int)) % 21 - 10) = sl := ⟨_, rfl⟩
  rw [hsl] at eD2
  have lsl : sl.length = m := by rw [← hsl, List.length_map, List.length_range]
  have bsl : ∀ x ∈ sl, -10 ≤ x ∧ x ≤ 10 := fun x hx => by
    rw [← hsl] at hx
    obtain ⟨j, _, rfl⟩ := List.mem_map.mp hx
    have q0 : 0 ≤ cellV ns (4 + (j : Int)) % 21 := Int.emod_nonneg _ (by decide)
    have q1 : cellV ns (4 + (j : Int)) % 21 < 21 := Int.emod_lt_of_pos _ (by decide)
    omega
  have eD1 := s3 _ _ eD1
  refine ⟨_, rfl, D1, ss, rfl, eD1, hz, fun pl as H4 s4 epl hL => ?_⟩
  have eD1 := s4 _ _ eD1
  have eD2 := s4 _ _ eD2
  have b64 := (len_ptsB hz).2
  have s14 := s12.trans (s3.trans s4)
  refine ⟨_, rfl, pl, rfl, ⟨_, .of epl⟩, fun D3 nD3 => ?_⟩
  refine wk_it (walk_list (K := K) (a := pl) (xs := as.map V.ref)) (fun t H' => Same H4 H' ∧ H' D3 = some (.lst ((((ptsB ss).take t).map (wS sl)).map V.int))) ⟨Same.upd nD3, upd_same⟩ (fun _ _ _ p => .of (p.1 _ _ epl)) ?_ ?_
  · rintro t x H5 H6 ht ⟨s5, eD⟩ ⟨rfl, hx⟩
    obtain ⟨b, pt, rfl, hpt, hb, eb⟩ := hL.get hx
    have ip := mem_ptsB.mp (List.mem_of_getElem? hpt)
    have lp := ip.len
    refine ⟨rfl, yes_go ?_⟩
    refine ⟨_, rfl, m, rfl, by omega, by omega, fun D4 nD4 => ?_⟩
    refine wk_it (walk_range (lo := 0) (n := m)) (fun t H' => Same H6 H' ∧ H' D4 = some (.lst (((List.range t).map fun k => sl.getD k 0 * pt.getD k 0).map V.int))) ⟨Same.upd nD4, upd_same⟩ (fun _ _ _ _ => True.intro) ?_ ?_
    · rintro u x H7 H8 hu ⟨s7, eD4⟩ ⟨rfl, rfl⟩
      have e1 : sl.getD u 0 ∈ sl := by rw [List.getD_eq_getElem?_getD, List.getElem?_eq_getElem (by omega)]; exact List.getElem_mem _
      have bs := bsl _ e1
      refine ⟨rfl, yes_go ?_⟩
      refine ⟨_, rfl, _, rfl, _, _, _, _, rfl, rfl, .of (s7 _ _ (s5 _ _ eD2)), (by rw [Int.zero_add]; exact at_int (by omega)), _, rfl, _, rfl, _, _, _, _, rfl, rfl, .of (s7 _ _ (s5 _ _ eb)), (by rw [Int.zero_add]; exact at_int (by omega)), _, _, rfl, rfl, .inl ⟨(by omega), (by omega)⟩, _, eD4, (small1000 (by rw [List.length_map, List.length_map, List.length_range]; omega)), Same.updN s7 nD4, ?_⟩
      rw [upd_same, List.range_succ, List.map_append, List.map_append]
      simp
    · rintro H7 ⟨s7, eD4⟩
      have s57 := s5.trans s7
      refine ⟨D4, _, rfl, .of eD4, _, rfl, b, pt, rfl, .of (s57 _ _ eb), (by omega), fun M hM hge => ?_⟩
      have eM := mx_eq hM hge
      have nD : D3 ≠ D4 := fun e => by rw [← e, eD] at nD4; cases nD4
      refine ⟨_, _, rfl, rfl, _, s7 _ _ eD, (small1000 (by rw [List.length_map, List.length_map, List.length_take]; omega)), Same.updN s57 nD3, ?_⟩
      rw [upd_same, List.take_add_one, hpt, List.map_append, List.map_append, eM]
      unfold wS linS
      rw [lsl]
      rfl
  rintro H5 ⟨s5, eD3⟩
  rw [hL.len64, List.take_length] at eD3
  have s15 := s14.trans s5
  have eD1 := s5 _ _ eD1
  -- the chart is made
  refine ⟨_, rfl, D1, _, rfl, .inl (.of eD1), fun c1 n1 => ?_⟩
  have t1 : Same H5 (upd H5 c1 (.lst (ss.map V.int))) := Same.upd n1
  have ec1 : upd H5 c1 (.lst (ss.map V.int)) c1 = some (.lst (ss.map V.int)) := upd_same
  generalize upd H5 c1 (.lst (ss.map V.int)) = H6 at t1 ec1 ⊢
  refine ⟨_, rfl, D3, _, rfl, .inl (.of (t1 _ _ eD3)), fun c2 n2 => ?_⟩
  have t2 : Same H6 (upd H6 c2 (.lst (((ptsB ss).map (wS sl)).map V.int))) := Same.upd n2
  have ec2 : upd H6 c2 (.lst (((ptsB ss).map (wS sl)).map V.int)) c2 = some (.lst (((ptsB ss).map (wS sl)).map V.int)) := upd_same
  generalize upd H6 c2 (.lst (((ptsB ss).map (wS sl)).map V.int)) = H7 at t2 ec2 ⊢
  refine fun o dx ho hdx hne => ?_
  have sN : Same H7 (upd (upd H7 dx (.own o)) o (.ins (C "Chart") dx [])) := Same.new ho hdx
  refine ⟨o, dx, c1, c2, ss, wS sl, rfl, upd_same, sN _ _ (t2 _ _ ec1), hz, sN _ _ ec2, cvx_wS (by omega) hz.1, (fun p hp => (by have := wS_bd hz (by omega) bsl (mem_ptsB.mp hp); omega)), fun H8 b8 hc => ⟨rfl, ?_⟩⟩
  have s58 : Same H5 H8 := t1.trans (t2.trans (Same.made ho hdx b8))
  have s18 := s15.trans s58
  have eD1 := s58 _ _ eD1
  have eD3 := s58 _ _ eD3
  have hL8 := hL.smt (.of (s5.trans s58))
  have epl := s58 _ _ (s5 _ _ epl)
  have tg8 : GxR.TabG H8 tb := SmT.tab (.of s18) _ tg
  obtain ⟨dxc, tt, eo, et⟩ := hc.ex
  refine ⟨_, rfl, pl, rfl, ⟨_, .of epl⟩, fun D5 nD5 => ?_⟩
  refine wk_it (walk_list (K := K) (a := pl) (xs := as.map V.ref)) (fun t H' => SmT H8 H' ∧ H' D5 = some (.lst ((((ptsB ss).take t).map (wS sl)).map V.int))) ⟨.of (Same.upd nD5), upd_same⟩ (fun _ _ _ p => .of (p.1.lst epl)) ?_ ?_
  · rintro t x H9 H10 ht ⟨s9, eD⟩ ⟨rfl, hx⟩
    obtain ⟨b, pt, rfl, hpt, hb, eb⟩ := hL8.get hx
    have ip := mem_ptsB.mp (List.mem_of_getElem? hpt)
    refine ⟨rfl, yes_go ?_⟩
    refine ⟨_, rfl, _, _, _, rfl, s9.ins eo, no_cworth, _, rfl, b, _, rfl, .inl (.of (s9.lst eb)), fun q nq => ?_⟩
    have sq : Same H10 (upd H10 q (.lst (pt.map V.int))) := Same.upd nq
    refine ⟨o, q, ss, pt, wS sl, rfl, hc.smt (s9.trans (.of sq)), upd_same, ip, SmT.tab (s9.trans (.of sq)) _ tg8, fun H11 s11 => ?_⟩
    refine ⟨_, s11.lst (sq _ _ eD), (small1000 (by rw [List.length_map, List.length_map, List.length_take]; omega)), SmT.updF (s9.trans ((SmT.of sq).trans s11)) nD5, ?_⟩
    rw [upd_same, List.take_add_one, hpt, List.map_append, List.map_append]
    rfl
  rintro H9 ⟨s89, eD5⟩
  rw [hL8.len64, List.take_length] at eD5
  refine ⟨_, rfl, _, _, .lst (.of eD5) (dp_ints _), .lst (.of (s89.lst eD3)) (dp_ints _), shp_ints _, shp_ints _, _, rfl, ?_⟩
  rw [eqv_ints, decide_eq_true rfl]
  refine iteF ?_
  -- a point
  have s19 : SmT H H9 := (SmT.of s18).trans s89
  have epl := s89.lst epl
  have lpos : 0 < (ptsB ss).length := (len_ptsB hz).1
  refine ⟨_, rfl, _, rfl, a, ns, 7, rfl, s19.sql hS, hl, by decide, by decide, fun H10 s10 => ?_⟩
  have epl := s10 _ _ epl
  refine ⟨_, rfl, _, _, rfl, .inl ⟨_, .of epl, rfl⟩, _, _, rfl, rfl, (by show (0 : Int) < ((as.map V.ref).length : Int); rw [hL.len64]; omega), ?_⟩
  have i0 : 0 ≤ cellV ns 7 % ((as.map V.ref).length : Int) := Int.emod_nonneg _ (by rw [hL.len64]; omega)
  have i1 : cellV ns 7 % ((as.map V.ref).length : Int) < ((as.map V.ref).length : Int) := Int.emod_lt_of_pos _ (by rw [hL.len64]; omega)
  rw [hL.len64] at i0 i1
  obtain ⟨ix, hix⟩ : ∃ ix : Nat, cellV ns 7 % ((ptsB ss).length : Int) = (ix : Int) := ⟨(cellV ns 7 % ((ptsB ss).length : Int)).toNat, by omega⟩
  have ixl : ix < as.length := by rw [hL.len]; omega
  obtain ⟨pb, pt, epb, hpt, _, eb⟩ := hL8.get (i := ix) (v := .ref as[ix]) (by rw [List.getElem?_map, List.getElem?_eq_getElem ixl]; rfl)
  cases epb
  have ip := mem_ptsB.mp (List.mem_of_getElem? hpt)
  refine ⟨_, _, _, _, rfl, rfl, .of epl, (by rw [hL.len64, hix]; exact atI_nat (by rw [List.getElem?_map, List.getElem?_eq_getElem ixl]; rfl)), ?_⟩
  have sA : SmT H8 H10 := s89.trans (.of s10)
  have s1A : SmT H H10 := s19.trans (.of s10)
  have eb := sA.lst eb
  have eD1 := sA.lst eD1
  have eD3 := sA.lst eD3
  have hc := hc.smt sA
  have tgA := SmT.tab sA _ tg8
  generalize as[ix] = pb at eb ⊢
  clear hL hL8 eD5
  have FIN : True := trivial
  refine ⟨3, rfl, by decide, by decide, for_range (lo := 0) (n := 3) (fun i σ H' => ∃ v8 v9 v10, σ = [some (.ref a), some (.int (m : Int)), some (.ref D1), some (.ref D2), some (.ref pl), some (.ref D3), some (.ref o), some (.ref pb), v8, v9, v10, none, none] ∧ SmT H10 H') ⟨_, _, _, rfl, .refl _⟩ ?_ ?_⟩
  · rintro i σ H11 hi ⟨v8, v9, v10, rfl, s11⟩
    have sS := s1A.trans s11
    refine ⟨_, rfl, _, rfl, _, rfl, _, rfl, _, _, rfl, rfl, a, ns, _, rfl, sS.sql hS, hl, by omega, by omega, fun H12 s12 => ?_⟩
    refine ⟨_, rfl, _, rfl, _, _, rfl, rfl, a, ns, _, rfl, (sS.trans (.of s12)).sql hS, hl, by omega, by omega, fun H13 s13 => ?_⟩
    have s1D := s11.trans (.of (s12.trans s13))
    refine ⟨pb, D1, ss, pt, _, _, rfl, s1D.lst eb, s1D.lst eD1, ip, hz, fun r H14 s14 hsp => ?_⟩
    have s1E := s1D.trans (.of s14)
    obtain ⟨dd, hd, dok⟩ := spl_data (K := K) hz ip hsp
    refine ⟨_, rfl, r, dd, rfl, hd.dp _ (.refl _), hd.sh, hd.nd, hd.dep, hd.len, ?_⟩
    refine ⟨_, rfl, _, rfl, Nat.zero_le _, fun q nq => ?_⟩
    have sq : SmT H14 (upd H14 q (.lst [])) := .of (Same.upd nq)
    refine .inl ⟨o, r, .ref q, ss, wS sl, rfl, hc.smt (s1E.trans sq), SmT.tab (s1E.trans sq) _ tgA, spl_bad hz ip (hsp.smt sq), fun H15 s15 => ?_⟩
    refine ⟨rfl, _, rfl, ?_⟩
    rw [decide_eq_true rfl]
    refine iteF ?_
    refine ⟨_, rfl, r, dd, rfl, hd.dp _ (sq.trans s15), hd.sh, hd.nd, hd.dep, hd.len, _, rfl, rfl, _, rfl, ?_⟩
    rw [decide_eq_true rfl]
    refine iteF ?_
    exact ⟨_, _, _, rfl, s1E.trans (sq.trans s15)⟩
  · rintro σ H11 ⟨v8, v9, v10, rfl, s11⟩
    have sS := s1A.trans s11
    refine ⟨_, rfl, a, ns, 30, rfl, sS.sql hS, hl, by decide, by decide, fun H12 s12 => ?_⟩
    refine ⟨_, rfl, a, ns, 31, rfl, (sS.trans (.of s12)).sql hS, hl, by decide, by decide, fun H13 s13 => ⟨(by show 2 ≤ sizeLine; decide), fun q nq => ?_⟩⟩
    have s14 : SmT H10 (upd H13 q (.lst [.int (cellV ns 30), .int (cellV ns 31)])) := s11.trans (.of (s12.trans (s13.trans (Same.upd nq))))
    have eq : upd H13 q (.lst [.int (cellV ns 30), .int (cellV ns 31)]) q = some (.lst [.int (cellV ns 30), .int (cellV ns 31)]) := upd_same
    generalize upd H13 q (.lst [.int (cellV ns 30), .int (cellV ns 31)]) = H14 at s14 eq ⊢
    refine ⟨q, rfl, ⟨_, .of eq⟩, for_list (K := K) (a := q) (xs := [.int (cellV ns 30), .int (cellV ns 31)]) (fun i σ H' => ∃ v8 v9 v10 v11 v12, σ = [some (.ref a), some (.int (m : Int)), some (.ref D1), some (.ref D2), some (.ref pl), some (.ref D3), some (.ref o), some (.ref pb), v8, v9, v10, v11, v12] ∧ SmT H14 H') ⟨_, _, _, _, _, rfl, .refl _⟩ (fun i σ H' _ ⟨_, _, _, _, _, _, s⟩ => .of (s.lst eq)) ?_ ?_⟩
    · rintro i y σ H15 hi ⟨v8, v9, v10, v11, v12, rfl, s15⟩
      obtain ⟨c, rfl⟩ : ∃ c, y = V.int c := by
        have z := List.mem_of_getElem? hi
        simp only [List.mem_cons, List.not_mem_nil, or_false] at z
        rcases z with rfl | rfl
        · exact ⟨_, rfl⟩
        · exact ⟨_, rfl⟩
      have s0 := s14.trans s15
      refine ⟨_, rfl, _, rfl, _, rfl, D1, ss, _, rfl, s0.lst eD1, hz, fun r xs H16 s16 er lx mx lS => ?_⟩
      refine ⟨_, rfl, D3, _, rfl, .inl (.of (s16 _ _ (s0.lst eD3))), fun q2 nq2 => ?_⟩
      have s17 : Same H16 (upd H16 q2 (.lst (((ptsB ss).map (wS sl)).map V.int))) := Same.upd nq2
      refine .inr ⟨o, r, .ref q2, rfl, ⟨xs, s17 _ _ er, lx, (fun x hx => (mx x hx).same s17), .inl lS⟩, fun H18 s18 => ⟨rfl, _, rfl, ?_⟩⟩
      rw [decide_eq_true rfl]
      refine iteF ?_
      exact ⟨_, _, _, _, _, rfl, s15.trans ((SmT.of (s16.trans s17)).trans s18)⟩
    · rintro σ H15 ⟨v8, v9, v10, v11, v12, rfl, s15⟩
      have s0 := s14.trans s15
      have lw : ((((ptsB ss).map (wS sl)).map V.int)).length = (ptsB ss).length := by rw [List.length_map, List.length_map]
      refine ⟨_, rfl, (by show 1 ≤ sizeLine; decide), fun c nc => ?_⟩
      have t1 : Same H15 (upd H15 c (.lst [.int 0])) := Same.upd nc
      refine ⟨D3, c, _, _, rfl, rfl, t1 _ _ (s0.lst eD3), upd_same, Nat.le_of_lt (small1000 (by rw [lw, List.length_singleton]; omega)), fun r1 nr1 => ?_⟩
      have t2 : Same H15 (upd (upd H15 c (.lst [.int 0])) r1 (.lst (((ptsB ss).map (wS sl)).map V.int ++ [.int 0]))) := t1.trans (Same.upd nr1)
      have er1 : upd (upd H15 c (.lst [.int 0])) r1 (.lst (((ptsB ss).map (wS sl)).map V.int ++ [.int 0])) r1 = some (.lst (((ptsB ss).map (wS sl)).map V.int ++ [.int 0])) := upd_same
      generalize upd (upd H15 c (.lst [.int 0])) r1 (.lst (((ptsB ss).map (wS sl)).map V.int ++ [.int 0])) = H16 at t2 er1 ⊢
      refine ⟨_, rfl, _, rfl, _, rfl, _, _, rfl, .of (t2 _ _ (s0.lst eD3)), fun r2 nr2 => ?_⟩
      rw [cut_back _ (by rw [List.length_map]; exact lpos)]
      have t3 : Same H16 (upd H16 r2 (.lst (((ptsB ss).map (wS sl)).dropLast.map V.int))) := Same.upd nr2
      have er2 : upd H16 r2 (.lst (((ptsB ss).map (wS sl)).dropLast.map V.int)) r2 = some (.lst (((ptsB ss).map (wS sl)).dropLast.map V.int)) := upd_same
      generalize upd H16 r2 (.lst (((ptsB ss).map (wS sl)).dropLast.map V.int)) = H17 at t3 er2 ⊢
      refine ⟨_, rfl, D3, _, rfl, .inl ⟨.of (t3 _ _ (t2 _ _ (s0.lst eD3))), fun r3 nr3 => ?_⟩⟩
      have t4 : Same H17 (upd H17 r3 (.tup (((ptsB ss).map (wS sl)).map V.int))) := Same.upd nr3
      have er3 : upd H17 r3 (.tup (((ptsB ss).map (wS sl)).map V.int)) r3 = some (.tup (((ptsB ss).map (wS sl)).map V.int)) := upd_same
      generalize upd H17 r3 (.tup (((ptsB ss).map (wS sl)).map V.int)) = H18 at t4 er3 ⊢
      refine ⟨(by show 4 ≤ sizeLine; decide), fun q nq => ?_⟩
      have t5 : Same H18 (upd H18 q (.lst [.ref r1, .ref r2, .ref r3, .non])) := Same.upd nq
      have eq : upd H18 q (.lst [.ref r1, .ref r2, .ref r3, .non]) q = some (.lst [.ref r1, .ref r2, .ref r3, .non]) := upd_same
      generalize upd H18 q (.lst [.ref r1, .ref r2, .ref r3, .non]) = H19 at t5 eq ⊢
      have er1 := t5 _ _ (t4 _ _ (t3 _ _ er1))
      have er2 := t5 _ _ (t4 _ _ er2)
      have er3 := t5 _ _ er3
      have s19' : SmT H10 H19 := s0.trans (.of (t2.trans (t3.trans (t4.trans t5))))
      refine ⟨q, rfl, ⟨_, .of eq⟩, for_list (K := K) (a := q) (xs := [.ref r1, .ref r2, .ref r3, .non]) (fun i σ H' => ∃ v8 v9 v10 v11 v12, σ = [some (.ref a), some (.int (m : Int)), some (.ref D1), some (.ref D2), some (.ref pl), some (.ref D3), some (.ref o), some (.ref pb), v8, v9, v10, v11, v12] ∧ SmT H19 H') ⟨_, _, _, _, _, rfl, .refl _⟩ (fun i σ H' _ ⟨_, _, _, _, _, _, s⟩ => .of (s.lst eq)) ?_ ?_⟩
      · rintro i y σ H20 hi ⟨v8, v9, v10, v11, v12, rfl, s20⟩
        have s1 := s19'.trans s20
        refine ⟨_, rfl, _, rfl, D1, _, rfl, .inl (.of (s1.lst eD1)), fun q2 nq2 => ?_⟩
        have u1 : SmT H20 (upd H20 q2 (.lst (ss.map V.int))) := .of (Same.upd nq2)
        have su := s20.trans u1
        refine ⟨_, rfl, .inr ⟨o, q2, y, rfl, ⟨ss.map V.int, upd_same, (by rw [List.length_map]; have := hz.2.1; omega), (fun x hx => (by obtain ⟨z, _, rfl⟩ := List.mem_map.mp hx; exact MixT.int)), .inr ⟨ss, rfl, hz, ?_⟩⟩, fun H21 s21 => ⟨rfl, _, rfl, ?_⟩⟩⟩
        · have z := List.mem_of_getElem? hi
          simp only [List.mem_cons, List.not_mem_nil, or_false] at z
          rcases z with rfl | rfl | rfl | rfl
          · exact .inr (.inr ⟨r1, _, rfl, su.lst er1, by rw [List.length_append, lw, List.length_singleton]; omega⟩)
          · exact .inr (.inr ⟨r2, _, rfl, su.lst er2, by rw [List.length_map, List.length_dropLast, List.length_map]; omega⟩)
          · exact .inr (.inl ⟨r3, _, rfl, su.tup er3⟩)
          · exact .inl rfl
        · rw [decide_eq_true rfl]
          refine iteF ?_
          exact ⟨_, _, _, _, _, rfl, su.trans s21⟩
      · rintro σ H20 ⟨v8, v9, v10, v11, v12, rfl, s20⟩
        have s1 := s1A.trans (s19'.trans s20)
        exact ⟨_, rfl, a, ns, rfl, s1.sql hS, hl, fun H21 s21 => k H21 (s1.trans (.of s21))⟩

end
end Ev

/-! own words: a law's def whose promise asks that nothing is being shown where it is called; its call by the caller, who shows nothing -/
namespace Lg
open PySem PySem.Spec PyProof.Rows L2
/-- a def's promise where nothing is being shown -/
structure FnG (P : Program) (w : World) (K : PySem.W.Frag) (mg : Str → Option Value) (base : Heap) (k : Nat) (f : Addr) (fd : FuncData) (ps : List Str) (sp : Sp) : Prop where
  run : ∀ (A : Around) (outer : List Env) (s : Shared) (H : Hp) (args : Args) (us : List Value) (vs : List V) (Q : VK) (E : XK), A.guards = some [] → Room k A → Env0 P w K mg base A outer s H → BindsTo s fd args (ps.zip us) → Vals vs us → sp vs H Q E →
    codeAny (model P w) A (.call (.ref f) args) (CR C8.CX0 outer P w H s Q E) s
section
variable {P : Program} {w : World} {K : PySem.W.Frag} {mg mb : Str → Option Value} {base : Heap}
/-- from its body -/
theorem fnG_of {x : Str} {st : Stmt} {f : Addr} {fd : FuncData} {N ps : List Str} {k : Nat} {sp : Sp} (F : C8.Def K mg x st f fd) (S : FnScope N ps (C8.fnScope st)) (len : ∀ vs H Q E, sp vs H Q E → vs.length = ps.length)
    (body : ∀ (cdv : Value) (A : Around) (outer : List Env) (s : Shared) (H : Hp) (vs : List V) (Q : VK) (E : XK), fd.code = cdv → A.guards = some [] → Room k (A.deeper (envOfC x (C8.fnScope st) s.heap.objs.size f cdv)) → sp vs H Q E →
      ∃ t, PSs (cxOf C8.CX0 P w K mg base N x (C8.fnScope st) f cdv A outer s H E).nox (C8.fnBody st) t ∧ t { nx := fun _ H' => Q .non H', rt := Q } (L2.start N vs) H) : FnG P w K mg base (k + 1) f fd ps sp := by
  obtain ⟨oc, od, dV, kV, doc, pm, an, cdv, ct, osl, rfl, lk, hcd⟩ := F.fn.ex
  constructor
  intro A outer s H args us vs Q E hG hr e0 hb rv h
  obtain ⟨t, ht, q⟩ := body cdv A outer s H vs Q E rfl hG (hr.deeper _) h
  have there : ∀ b o, base.get? b = some o → s.heap.get? b = some o := fun b o e => (e0.bs b o e).1
  have Ks : K.In s.heap := e0.mod.kin.keeps there
  refine codeAny_call_function hr.depth (Ks _ _ lk) rfl S.co S.gen rfl (PySem.W.codeRec_of Ks hcd) (hb _ _ _ _ (wpAny_newFunctionEnv_cells S.kind (fun y hy => ?_) fun env he s1 z => ?_))
  · exact (S.par y.1 (List.of_mem_zip (show (y.1, y.2) ∈ ps.zip us from hy)).1).imp (fun e => e) fun e => ⟨e, PySem.W.cellsFrom_some _ _ _ (.inl e)⟩
  subst he
  refine ⟨(e0.mod.nolimit.keeps there).keeps z.toInCall.keep, codeAny_func (wpAny_mono (ht.nox.run [] s1 _ H _ (inv_start S hr.hd e0 (len _ _ _ _ h) rv z) q) (fun fl s' r => ?_) fun _ _ r => r)⟩
  cases fl with
  | ret u =>
    obtain ⟨v, _, H', J, r, qq⟩ := r
    exact ⟨v, H', J.os, J.bare, J.base, J.hok, r, qq⟩
  | next =>
    obtain ⟨_, H', J, qq⟩ := r
    exact ⟨.non, H', J.os, J.bare, J.base, J.hok, rfl, qq⟩
  | brk => exact r.elim fun _ r => r.elim fun _ r => r.2.elim
  | cont => exact r.elim fun _ r => r.elim fun _ r => r.2.elim
/-- the caller calls the law with its list of ints -/
theorem law_callG {k : Nat} {fa a : Addr} {cs : List (Addr × Addr)} {fd : FuncData} {x : Str} {sp : Sp} {s₁ : Shared} {vs : List Value} {ns : List Int}
    (KX : K.In s₁.heap) (hns : s₁.heap.Ns mainGlobals mg) (hb : s₁.heap.Ns builtinsNs mb) (hbb : ∀ x : Str, x ≠ "__name__" → mb x = bootBuiltins x) (hlim : s₁.heap.NoLimit) (hg : s₁.gens = #[])
    (hT : ∀ p ∈ cs, s₁.heap.get? p.2 = some { cls := .none, data := .fields #[] }) (nT : ∀ p ∈ cs, K.lookup p.2 = none) (C : ∀ p ∈ cs, PySem.W.CodeHd s₁.heap p.1 p.2)
    (hbm : ∃ (bm : Addr) (ob : Obj), mg "__builtins__" = some (.ref bm) ∧ bm ≠ builtinsNs ∧ s₁.heap.get? bm = some ob ∧ ob.cls = .type "module" ∧ ob.dict = some builtinsNs ∧ ob.data = .plain)
    (ha : s₁.heap.get? a = some { cls := .type "list", data := .seq vs.toArray }) (hi : IntsAre vs ns) (hl : ns.length ≤ sizeLine) (hr : Room k callerA)
    (F : ∀ base : Heap, K.In base → base.Ns mainGlobals mg → (∀ p ∈ cs, GxR.TabB base mg p.1 p.2) → FnG P w K mg base k fa fd [x] sp) (hbind : ∀ (s : Shared) (u : Value), BindsTo s fd ⟨[u], []⟩ [(x, u)])
    (hsp : ∀ H : Hp, (∀ p ∈ cs, H p.2 = some (.tbl #[])) → SqL K H a (ns.map V.int) → sp [.ref a] H (fun v _ => v = .bl true) fun _ _ _ => False) :
    codeAny (model P w) callerA (.call (.ref fa) ⟨[.ref a], []⟩) (fun r s' => r = .ok (.ret (.bool true)) ∧ OldK s₁.heap s'.heap ∧ s'.os = s₁.os ∧ AllBare s'.gens) s₁ := by
  classical
  let TT : Addr → Prop := fun b => ∃ p ∈ cs, p.2 = b
  have tabO : ∀ b, TT b → s₁.heap.get? b = some { cls := .none, data := .fields #[] } := fun b ⟨p, hp, e⟩ => by rw [← e]; exact hT p hp
  have aT : ¬ TT a := fun h => by
    have e := tabO a h
    rw [ha] at e
    exact absurd (congrArg Obj.data (Option.some.inj e)) (fun z => by cases z)
  -- what is told at the start: the tables, and the script unless it stands among what was written
  obtain ⟨H, eH⟩ : ∃ H : Hp, H = fun b => if TT b then some (.tbl #[]) else if b = a ∧ K.lookup a = none then some (.frz { cls := .type "list", data := .seq vs.toArray } (.lst (ns.map V.int))) else none := ⟨_, rfl⟩
  have onT : ∀ b, TT b → H b = some (.tbl #[]) := fun b h => by rw [eH]; exact if_pos h
  have onA : K.lookup a = none → H a = some (.frz { cls := .type "list", data := .seq vs.toArray } (.lst (ns.map V.int))) := fun h => by rw [eH]; exact (if_neg aT).trans (if_pos ⟨rfl, h⟩)
  have off : ∀ b, ¬ TT b → ¬ (b = a ∧ K.lookup a = none) → H b = none := fun b h1 h2 => by rw [eH]; exact (if_neg h1).trans (if_neg h2)
  have lenV := hi.length
  have rv := vals_ints hi
  have sq : SqL K H a (ns.map V.int) := by
    cases q : K.lookup a with
    | none => exact .inl (.inr ⟨_, onA q⟩)
    | some o =>
      have e := KX a o q
      rw [ha] at e
      cases e
      exact .inr ⟨_, vs.toArray, _, q, rfl, rfl, rfl, by rw [List.size_toArray, lenV]; exact hl, by simpa using rv⟩
  have hidden : ∀ {b : Addr} {o : Obj}, s₁.heap.get? b = some o → (∀ l n, o.data ≠ .seq l n) → o.data ≠ .fields #[] → H b = none := fun {b o} e n1 n2 => by
    refine off b (fun h => ?_) fun h => ?_
    · rw [tabO b h] at e
      cases e
      exact n2 rfl
    · rw [h.1, ha] at e
      cases e
      exact n1 _ _ rfl
  have seen : ∀ {b : Addr} {o : Obj}, s₁.heap.get? b = some o → (∀ l n, o.data ≠ .seq l n) → o.data ≠ .fields #[] → (hidT s₁.heap H).get? b = some o := fun e n1 n2 => hidT_get e (hidden e n1 n2)
  have names : ∀ {b : Addr} {m : Str → Option Value}, s₁.heap.Ns b m → (hidT s₁.heap H).Ns b m := fun ⟨o, es, ep, e, d, r⟩ => ⟨o, es, ep, seen e (fun l n z => by rw [d] at z; cases z) (fun z => by rw [d] at z; cases z), d, r⟩
  have KB : K.In (hidT s₁.heap H) := fun b o e => hidT_get (KX b o e) (off b (fun ⟨p, hp, z⟩ => by rw [← z, nT p hp] at e; cases e) fun h => by rw [h.1, h.2] at e; cases e)
  have M : L2.Mod K mg (hidT s₁.heap H) := ⟨KB, names hns, ⟨mb, names hb, hbb⟩, let ⟨mc, h1, h2⟩ := hlim; ⟨mc, names h1, h2⟩⟩
  have tabs : ∀ p ∈ cs, GxR.TabB (hidT s₁.heap H) mg p.1 p.2 := fun p hp => by
    obtain ⟨o, us, file, tf, flags, tg, inF, text, tt, e1, r1, r2, r3, rest⟩ := C p hp
    obtain ⟨bm, ob, b1, b2, b3, b4, b5, b6⟩ := hbm
    obtain ⟨og, es, ep, eg, dg, _⟩ := hns
    refine ⟨⟨o, us, file, tf, flags, tg, inF, text, tt, seen e1 (fun l n z => by rw [r2] at z; cases z) (fun z => by rw [r2] at z; cases z; simp at r3), r1, r2, r3, rest⟩,
      ⟨bm, ob, b1, b2, fun q => ?_, fun q => ?_, seen b3 (fun l n z => by rw [b6] at z; cases z) (fun z => by rw [b6] at z; cases z), b4, b5, b6⟩, fun q => ?_⟩
    · rw [q, eg] at b3
      cases b3
      rw [dg] at b6
      cases b6
    · rw [q, hT p hp] at b3
      cases b3
      cases b6
    · rw [q, hT p hp] at eg
      cases eg
      cases dg
  have okH : HOk P w H s₁.heap := fun b u e => by
    by_cases h : TT b
    · rw [onT b h] at e
      cases e
      exact tabO b h
    · by_cases h2 : b = a ∧ K.lookup a = none
      · rw [h2.1, onA h2.2] at e
        cases e
        rw [h2.1]
        exact ⟨ha, by rw [List.length_map]; exact hl, vs, _, rv, ha⟩
      · rw [off b h h2] at e
        cases e
  have E0 : Env0 P w K mg (hidT s₁.heap H) callerA [] s₁ H := ⟨rfl, M, fun b o e => of_hidT e, Nat.le_of_eq (hidT_size _ _), trivial, fun b hb => (nomatch hb), okH, .of_eq hg⟩
  refine codeAny_mono ((F _ KB (names hns) tabs).run callerA [] s₁ H ⟨[.ref a], []⟩ [.ref a] [.ref a] _ _ rfl hr E0 (hbind s₁ (.ref a)) (.cons rfl .nil) (hsp H (fun p hp => onT _ ⟨p, hp, rfl⟩) sq)) fun r s' h => ?_
  cases r with
  | error e => exact h.elim
  | ok fl =>
    cases fl with
    | next => exact h.elim
    | brk => exact h.elim
    | cont => exact h.elim
    | ret u =>
      obtain ⟨v, H', os, bare, un, ok', ru, q⟩ := h
      have q : v = .bl true := q
      subst q
      cases (show u = Value.bool true from ru)
      have same : ∀ b o, ¬ TT b → s₁.heap.get? b = some o → s'.heap.get? b = some o := fun b o h e => by
        by_cases h2 : b = a ∧ K.lookup a = none
        · have z := un.frzs b _ _ (by rw [h2.1]; exact onA h2.2)
          rw [h2.1] at e
          rw [ha] at e
          cases e
          exact (ok' b _ z).1
        · exact un.keep b o e (off b h h2) (fun z => (nomatch z)) (by simp)
      have table : ∀ b, TT b → ∃ more : Array Value, s'.heap.get? b = some { cls := .none, data := .fields more } := fun b h => by
        obtain ⟨more, z⟩ := un.tbls b #[] (onT b h)
        exact ⟨_, ok' b _ z⟩
      refine ⟨rfl, ⟨fun b o e => ?_, fun b o e => ?_⟩, os, bare⟩
      · by_cases h : TT b
        · obtain ⟨more, z⟩ := table b h
          have e2 := tabO b h
          rw [e] at e2
          cases e2
          obtain ⟨p, hp, rfl⟩ := h
          exact .inr (.inl ⟨((C p hp).tab (hT p hp)).isCodeTable, rfl, #[], more, rfl, by rw [Array.empty_append]; exact z⟩)
        · exact .inl (same b o h e)
      · by_cases h : TT b
        · exact let ⟨more, z⟩ := table b h; ⟨_, z⟩
        · exact ⟨o, same b o h e⟩
end
/-- what is known of the law's promise at the head's heap h -/
def LawAtG (l : PySem.W.OpenLaw) (w : World) (K : PySem.W.Frag) (k n : Nat) (x : Str) (mg : Str → Option Value) (fa : Addr) (h : Heap) : Prop :=
  ∃ (fd : FuncData) (cs : List (Addr × Addr)) (sp : Sp), (∀ p ∈ cs, h.get? p.2 = some { cls := .none, data := .fields #[] }) ∧ (∀ p ∈ cs, K.lookup p.2 = none) ∧ (∀ p ∈ cs, PySem.W.CodeHd h p.1 p.2) ∧ (∀ (s : Shared) (u : Value), BindsTo s fd ⟨[u], []⟩ [(x, u)]) ∧
    (∀ (H : Hp) (a : Addr) (ns : List Int), ns.length ≤ n → (∀ p ∈ cs, H p.2 = some (.tbl #[])) → SqL K H a (ns.map V.int) → sp [.ref a] H (fun v _ => v = .bl true) fun _ _ _ => False) ∧
    ∀ base : Heap, K.In base → base.Ns mainGlobals mg → (∀ p ∈ cs, GxR.TabB base mg p.1 p.2) → FnG l.prog w K mg base k fa fd [x] sp
theorem walkG {l : PySem.W.OpenLaw} {n k : Nat} {q : Program} {loose : List Str} {XP : (Str → Option Value) → Heap → Prop} {YP : World → Heap → Prop} {d : DefRec} {x : Str}
    (hn : l.most = some n) (hn2 : n ≤ sizeLine) (hdf : d.params.defaults = []) (hr : Room k callerA)
    (F : ∀ (w : World) (mg : Str → Option Value) (fa : Addr) (h : Heap), YP w h → h.Ns mainGlobals mg → mg d.name = some (.ref fa) → ∃ K : PySem.W.Frag, K.In h ∧ LawAtG l w K k n x mg fa h) :
    PySem.W.WalkO q loose XP YP l.row.toRowW d [] (fun f vs => PySem.call f vs) := by
  refine Att.attach_callB hn hdf fun w s₀ s₁ mg mb fa o pm cd doc a vs ns G Y ho hd hcd hmg hobj hints hlen hbits hg => ?_
  obtain ⟨K, X, fd, cs, sp, t1, t2, t3, t4, t5, t6⟩ := F w mg fa _ Y G.T.g hmg
  exact law_callG X G.T.g G.T.b G.T.builtins G.T.nolimit hg t1 t2 t3 G.T.bmain hobj hints (Nat.le_trans hlen hn2) hr t6 t4 (fun H hH hS => t5 H a ns hlen hH hS)
end Lg

namespace Ev
open PySem L2 Ax
section
variable {P : Program} {w : World} {K : PySem.W.Frag} {mg : Str → Option Value} {base : Heap} {C : Str → Addr} {f : Addr} {fd : FuncData}
theorem bn_is_number : BnOk "is_number" "is_number" s_is_number ["value"] := fun _ _ _ _ _ _ us hl => match us, hl with | [_], _ => rfl
theorem bn_is_number_from : BnOk "is_number_from" "is_number_from" s_is_number_from ["value", "low", "high"] := fun _ _ _ _ _ _ us hl => match us, hl with | [_, _, _], _ => rfl
theorem bn_points_below : BnOk "points_below" "points_below" s_points_below ["sizes"] := fun _ _ _ _ _ _ us hl => match us, hl with | [_], _ => rfl
theorem bn_check_sizes : BnOk "check_sizes" "check_sizes" s_check_sizes ["sizes"] := fun _ _ _ _ _ _ us hl => match us, hl with | [_], _ => rfl
theorem bn_check_worths : BnOk "check_worths" "check_worths" s_check_worths ["worths", "many"] := fun _ _ _ _ _ _ us hl => match us, hl with | [_, _], _ => rfl
theorem bn_halves : BnOk "halves" "halves" s_halves ["one", "other"] := fun _ _ _ _ _ _ us hl => match us, hl with | [_, _], _ => rfl
theorem bn_check_bends : BnOk "check_bends" "check_bends" s_check_bends ["table"] := fun _ _ _ _ _ _ us hl => match us, hl with | [_], _ => rfl
theorem bn_law_cell_at : BnOk "_law_cell_at" "_law_cell_at" s_law_cell_at ["_law_script", "_law_k"] := fun _ _ _ _ _ _ us hl => match us, hl with | [_, _], _ => rfl
theorem bn_law_points : BnOk "_law_points" "_law_points" s_law_points ["_law_sizes"] := fun _ _ _ _ _ _ us hl => match us, hl with | [_], _ => rfl
theorem bn_law_bad : BnOk "_law_bad" "_law_bad" s_law_bad ["_law_cell", "_law_size"] := fun _ _ _ _ _ _ us hl => match us, hl with | [_, _], _ => rfl
theorem bn_law_spoilt : BnOk "_law_spoilt" "_law_spoilt" s_law_spoilt ["_law_some", "_law_bounds", "_law_one", "_law_two"] := fun _ _ _ _ _ _ us hl => match us, hl with | [_, _, _, _], _ => rfl
theorem bn_law_sort : BnOk "_law_sort" "_law_sort" s_law_sort ["_law_door", "_law_chart", "_law_sizes", "_law_worths"] := fun _ _ _ _ _ _ us hl => match us, hl with | [_, _, _, _], _ => rfl
theorem bn_law_bad_sizes : BnOk "_law_bad_sizes" "_law_bad_sizes" s_law_bad_sizes ["_law_sizes", "_law_cell"] := fun _ _ _ _ _ _ us hl => match us, hl with | [_, _], _ => rfl
theorem bn_law_copies : BnOk "_law_copies" "_law_copies" s_law_copies ["_law_script"] := fun _ _ _ _ _ _ us hl => match us, hl with | [_], _ => rfl
theorem bn_law : BnOk "law" "law" s_law ["_law_script"] := fun _ _ _ _ _ _ us hl => match us, hl with | [_], _ => rfl
theorem bn_Least_init : BnOk "__init__" "Least.__init__" s_Least_init ["self", "lowest", "highest", "total"] := fun _ _ _ _ _ _ us hl => match us, hl with | [_, _, _, _], _ => rfl
theorem bn_Nowhere_init : BnOk "__init__" "Nowhere.__init__" s_Nowhere_init ["self", "demands"] := fun _ _ _ _ _ _ us hl => match us, hl with | [_, _], _ => rfl
theorem bn_Chart_init : BnOk "__init__" "Chart.__init__" s_Chart_init ["self", "sizes", "worths"] := fun _ _ _ _ _ _ us hl => match us, hl with | [_, _, _], _ => rfl
theorem bn_Chart_worth : BnOk "worth" "Chart.worth" s_Chart_worth ["self", "point"] := fun _ _ _ _ _ _ us hl => match us, hl with | [_, _], _ => rfl
end

open PySem.W (nsIn findIn isFn keepIn codeIn makesIn fnOf ksFn)
theorem clsF_of {K : PySem.W.Frag} {c : Addr} (h : Hx.ctyX K c = true) : ClsF K c := by
  obtain ⟨h1, h⟩ := He.ba h
  obtain ⟨h2, h⟩ := He.ba h
  obtain ⟨h3, h⟩ := He.ba h
  obtain ⟨h4, h⟩ := He.ba h
  obtain ⟨h5, h6⟩ := He.ba h
  exact ⟨h1, h2, h3, He.eqO_ok h4, He.eqO_ok h5, of_decide_eq_true h6⟩
section
variable {K : PySem.W.Frag} {h : Heap} {mg : Str → Option Value} {x m qual : Str} {st : Stmt} {ps : List Str} {D B : Addr}
theorem hasDef_x (X : K.In h) (G : h.Ns mainGlobals mg) (e : Hx.fnX K (He.ga K x) = Hx.valX x x st []) (b : (Hx.gloX K x && (keepIn K (.ref (He.ga K x)) && Hx.defX K (He.ga K x) x [])) = true) (bn : BnOk x x st ps) : HasDef K mg x st ps := by
  obtain ⟨b1, b2⟩ := He.ba b
  obtain ⟨b2, b3⟩ := He.ba b2
  obtain ⟨oc, dV, kV, doc, pm, ct, od, an, osl, l, c, d⟩ := Hx.fun_of0 e b3
  have ed := Hx.dfl0 d
  subst ed
  exact def_mk X G (He.eqO_ok b1) l c b2 bn
theorem hasMet_x (e : Hx.fnX K (He.ma K D m) = Hx.valX m qual st []) (b : (Hx.metX K D m && Hx.defX K (He.ma K D m) qual []) = true) (bn : BnOk m qual st ps) : HasMet K D m qual st ps := by
  obtain ⟨b1, b3⟩ := He.ba b
  obtain ⟨b1, b2⟩ := He.ba b1
  obtain ⟨b2, b4⟩ := He.ba b2
  obtain ⟨oc, dV, kV, doc, pm, ct, od, an, osl, l, c, d⟩ := Hx.fun_of0 e b3
  have ed := Hx.dfl0 d
  subst ed
  exact met_mk (He.eqO_ok b1) b2 l c b4 bn
theorem hasInit_x (e : Hx.fnX K (He.ma K D "__init__") = Hx.valX "__init__" qual st []) (b : (Hx.mkX K D && Hx.defX K (He.ma K D "__init__") qual []) = true) (bn : BnOk "__init__" qual st ps) : HasInit K D qual st ps := by
  obtain ⟨b1, b3⟩ := He.ba b
  obtain ⟨b1, b2⟩ := He.ba b1
  obtain ⟨b2, b4⟩ := He.ba b2
  obtain ⟨b4, b5⟩ := He.ba b4
  obtain ⟨oc, dV, kV, doc, pm, ct, od, an, osl, l, c, d⟩ := Hx.fun_of0 e b3
  have ed := Hx.dfl0 d
  subst ed
  exact init_mk b1 b2 (He.eqO_ok b4) b5 l c bn
theorem hasMetC_x (e : Hx.fnX K (He.ma K D m) = Hx.valX m qual st []) (b : (Hx.metX K D m && Hx.defX K (He.ma K D m) qual []) = true) (bn : BnOk m qual st ps) : HasMetC K D m qual st ps (Hx.codeOf K (He.ma K D m)) := by
  obtain ⟨b1, b3⟩ := He.ba b
  obtain ⟨b1, b2⟩ := He.ba b1
  obtain ⟨b2, b4⟩ := He.ba b2
  obtain ⟨oc, dV, kV, doc, pm, ct, od, an, osl, l, c, d⟩ := Hx.fun_of0 e b3
  have ed := Hx.dfl0 d
  subst ed
  exact metC_mk (He.eqO_ok b1) b2 l c b4 bn
end
theorem naf_ok {K : PySem.W.Frag} {c : Addr} {fl : List Str} (n : nafB K c fl = true) : ∀ f ∈ fl, NoAttr K c f := fun g hg => by
  have q := List.all_eq_true.mp n g hg
  show findIn K (.ref c) g = some none
  split at q
  · assumption
  · cases q
theorem cls_of {K : PySem.W.Frag} {a : Addr} (f : ClsF K a) : Cls K a := ⟨f.pg, f.hd, f.po, f.sa⟩
theorem tyB_ok {K : PySem.W.Frag} {v : Value} (h : tyB K v = true) : PySem.W.typeIn K v = some (.type "type") := by
  unfold tyB at h
  split at h
  · rename_i s e
    rw [e, beq_iff_eq.mp h]
  · cases h
theorem fat {K : PySem.W.Frag} {l : List Addr} {vs : List Hx.FnX} (h : l.map (Hx.fnX K) = vs) (i : Nat) {a : Addr} {v : Hx.FnX} (ha : l[i]? = some a := by rfl) (hv : vs[i]? = some v := by rfl) : Hx.fnX K a = v := by
  have e := congrArg (fun z : List Hx.FnX => z[i]?) h
  simp only [List.getElem?_map, ha, hv, Option.map_some] at e
  exact Option.some.inj e
theorem allX {w : World} {K : PySem.W.Frag} {h : Heap} {mg : Str → Option Value} {fa : Addr} (X : K.In h) (G : h.Ns mainGlobals mg) (hfa : mg "law" = some (.ref fa)) (c1 : ∀ b ∈ bsX K, b = true) (c2 : (fsX K).map (Hx.fnX K) = vsX)
    (c3 : ∀ f ∈ tsX K, K.lookup (Hx.tabOf K f) = none ∧ PySem.W.CodeHd h (Hx.codeOf K f) (Hx.tabOf K f) ∧ h.get? (Hx.tabOf K f) = some (PySem.W.tabObj #[])) : Lg.LawAtG PySem.Challenge.rw_evenbend_k21_whole_bad_points w K 9 63 "_law_script" mg fa h := by
  obtain ⟨tabN, hcode, htab⟩ := c3 (He.ma K (He.ga K "Chart") "worth") (by unfold tsX; simp)
  have T : Txt K mg (He.ga K) := ⟨PySem.W.mg_none_of X G (He.eqO_ok (c1 _ (List.mem_append_left _ (List.mem_of_getElem? (l := bs0 K) (i := 4) rfl)))), PySem.W.mg_none_of X G (He.eqO_ok (c1 _ (List.mem_append_left _ (List.mem_of_getElem? (l := bs0 K) (i := 5) rfl)))), PySem.W.mg_none_of X G (He.eqO_ok (c1 _ (List.mem_append_left _ (List.mem_of_getElem? (l := bs0 K) (i := 6) rfl)))), PySem.W.mg_none_of X G (He.eqO_ok (c1 _ (List.mem_append_left _ (List.mem_of_getElem? (l := bs0 K) (i := 7) rfl)))), PySem.W.mg_none_of X G (He.eqO_ok (c1 _ (List.mem_append_left _ (List.mem_of_getElem? (l := bs0 K) (i := 8) rfl)))), PySem.W.mg_none_of X G (He.eqO_ok (c1 _ (List.mem_append_left _ (List.mem_of_getElem? (l := bs0 K) (i := 9) rfl)))), PySem.W.mg_none_of X G (He.eqO_ok (c1 _ (List.mem_append_left _ (List.mem_of_getElem? (l := bs0 K) (i := 10) rfl)))), PySem.W.mg_none_of X G (He.eqO_ok (c1 _ (List.mem_append_left _ (List.mem_of_getElem? (l := bs0 K) (i := 11) rfl)))), PySem.W.mg_none_of X G (He.eqO_ok (c1 _ (List.mem_append_left _ (List.mem_of_getElem? (l := bs0 K) (i := 12) rfl)))), PySem.W.mg_none_of X G (He.eqO_ok (c1 _ (List.mem_append_left _ (List.mem_of_getElem? (l := bs0 K) (i := 13) rfl)))), PySem.W.mg_none_of X G (He.eqO_ok (c1 _ (List.mem_append_left _ (List.mem_of_getElem? (l := bs0 K) (i := 14) rfl)))), PySem.W.mg_none_of X G (He.eqO_ok (c1 _ (List.mem_append_left _ (List.mem_of_getElem? (l := bs0 K) (i := 15) rfl)))), PySem.W.mg_none_of X G (He.eqO_ok (c1 _ (List.mem_append_left _ (List.mem_of_getElem? (l := bs0 K) (i := 16) rfl)))), PySem.W.mg_none_of X G (He.eqO_ok (c1 _ (List.mem_append_left _ (List.mem_of_getElem? (l := bs0 K) (i := 17) rfl)))), (let ⟨t, e⟩ := Hx.int_of (c1 _ (List.mem_append_left _ (List.mem_of_getElem? (l := bs0 K) (i := 18) rfl))); ⟨_, PySem.W.mg_of X G e, ⟨t, rfl⟩⟩), (let ⟨t, e⟩ := Hx.int_of (c1 _ (List.mem_append_left _ (List.mem_of_getElem? (l := bs0 K) (i := 19) rfl))); ⟨_, PySem.W.mg_of X G e, ⟨t, rfl⟩⟩), (let ⟨t, e⟩ := Hx.int_of (c1 _ (List.mem_append_left _ (List.mem_of_getElem? (l := bs0 K) (i := 20) rfl))); ⟨_, PySem.W.mg_of X G e, ⟨t, rfl⟩⟩), (let ⟨t, e⟩ := Hx.int_of (c1 _ (List.mem_append_left _ (List.mem_of_getElem? (l := bs0 K) (i := 21) rfl))); ⟨_, PySem.W.mg_of X G e, ⟨t, rfl⟩⟩), ⟨_, PySem.W.mg_of X G (He.eqO_ok (c1 _ (List.mem_append_left _ (List.mem_of_getElem? (l := bs0 K) (i := 0) rfl)))), rfl⟩, ⟨_, PySem.W.mg_of X G (He.eqO_ok (c1 _ (List.mem_append_left _ (List.mem_of_getElem? (l := bs0 K) (i := 1) rfl)))), rfl⟩, ⟨_, PySem.W.mg_of X G (He.eqO_ok (c1 _ (List.mem_append_left _ (List.mem_of_getElem? (l := bs0 K) (i := 2) rfl)))), rfl⟩, ⟨_, PySem.W.mg_of X G (He.eqO_ok (c1 _ (List.mem_append_left _ (List.mem_of_getElem? (l := bs0 K) (i := 3) rfl)))), rfl⟩⟩
  have CT : ChT K (He.ga K) := ⟨cls_of (clsF_of (c1 _ (List.mem_append_left _ (List.mem_of_getElem? (l := bs0 K) (i := 22) rfl)))), naf_ok (c1 _ (List.mem_append_left _ (List.mem_of_getElem? (l := bs0 K) (i := 23) rfl)))⟩
  have AT : AnsT K (He.ga K) := ⟨cls_of (clsF_of (c1 _ (List.mem_append_left _ (List.mem_of_getElem? (l := bs0 K) (i := 24) rfl)))), naf_ok (c1 _ (List.mem_append_left _ (List.mem_of_getElem? (l := bs0 K) (i := 25) rfl))), cls_of (clsF_of (c1 _ (List.mem_append_left _ (List.mem_of_getElem? (l := bs0 K) (i := 26) rfl)))), naf_ok (c1 _ (List.mem_append_left _ (List.mem_of_getElem? (l := bs0 K) (i := 27) rfl)))⟩
  have LJ : LeastJ K (He.ga K) := ⟨(clsF_of (c1 _ (List.mem_append_left _ (List.mem_of_getElem? (l := bs0 K) (i := 24) rfl)))).ca, (clsF_of (c1 _ (List.mem_append_left _ (List.mem_of_getElem? (l := bs0 K) (i := 24) rfl)))).mo, of_decide_eq_true (c1 _ (List.mem_append_right _ (List.mem_append_left _ (List.mem_of_getElem? (l := bs1 K) (i := 0) rfl)))), He.eqO_ok (c1 _ (List.mem_append_left _ (List.mem_of_getElem? (l := bs0 K) (i := 28) rfl))), of_decide_eq_true (c1 _ (List.mem_append_left _ (List.mem_of_getElem? (l := bs0 K) (i := 29) rfl)))⟩
  have XX : XB K mg (He.ga K "BadPoint") (He.ga K "BadChart") (He.ga K "BendError") := ⟨⟨PySem.W.mg_of X G (He.eqO_ok (c1 _ (List.mem_append_right _ (List.mem_append_left _ (List.mem_of_getElem? (l := bs1 K) (i := 6) rfl))))), (c1 _ (List.mem_append_right _ (List.mem_append_left _ (List.mem_of_getElem? (l := bs1 K) (i := 7) rfl)))), (c1 _ (List.mem_append_right _ (List.mem_append_left _ (List.mem_of_getElem? (l := bs1 K) (i := 8) rfl)))), of_decide_eq_true (c1 _ (List.mem_append_right _ (List.mem_append_left _ (List.mem_of_getElem? (l := bs1 K) (i := 9) rfl)))), tyB_ok (c1 _ (List.mem_append_right _ (List.mem_append_left _ (List.mem_of_getElem? (l := bs1 K) (i := 10) rfl))))⟩, ⟨PySem.W.mg_of X G (He.eqO_ok (c1 _ (List.mem_append_right _ (List.mem_append_left _ (List.mem_of_getElem? (l := bs1 K) (i := 17) rfl))))), (c1 _ (List.mem_append_right _ (List.mem_append_left _ (List.mem_of_getElem? (l := bs1 K) (i := 18) rfl)))), (c1 _ (List.mem_append_right _ (List.mem_append_left _ (List.mem_of_getElem? (l := bs1 K) (i := 19) rfl)))), of_decide_eq_true (c1 _ (List.mem_append_right _ (List.mem_append_left _ (List.mem_of_getElem? (l := bs1 K) (i := 20) rfl)))), tyB_ok (c1 _ (List.mem_append_right _ (List.mem_append_left _ (List.mem_of_getElem? (l := bs1 K) (i := 21) rfl))))⟩, PySem.W.mg_of X G (He.eqO_ok (c1 _ (List.mem_append_right _ (List.mem_append_left _ (List.mem_of_getElem? (l := bs1 K) (i := 5) rfl))))), of_decide_eq_true (c1 _ (List.mem_append_right _ (List.mem_append_left _ (List.mem_of_getElem? (l := bs1 K) (i := 11) rfl)))), of_decide_eq_true (c1 _ (List.mem_append_right _ (List.mem_append_left _ (List.mem_of_getElem? (l := bs1 K) (i := 22) rfl)))), ⟨He.eqO_ok (c1 _ (List.mem_append_right _ (List.mem_append_left _ (List.mem_of_getElem? (l := bs1 K) (i := 12) rfl)))), He.eqO_ok (c1 _ (List.mem_append_right _ (List.mem_append_left _ (List.mem_of_getElem? (l := bs1 K) (i := 13) rfl)))), of_decide_eq_true (c1 _ (List.mem_append_right _ (List.mem_append_left _ (List.mem_of_getElem? (l := bs1 K) (i := 9) rfl)))), (c1 _ (List.mem_append_right _ (List.mem_append_left _ (List.mem_of_getElem? (l := bs1 K) (i := 14) rfl)))), He.eqO_ok (c1 _ (List.mem_append_right _ (List.mem_append_left _ (List.mem_of_getElem? (l := bs1 K) (i := 15) rfl)))), He.eqO_ok (c1 _ (List.mem_append_left _ (List.mem_of_getElem? (l := bs0 K) (i := 28) rfl))), of_decide_eq_true (c1 _ (List.mem_append_left _ (List.mem_of_getElem? (l := bs0 K) (i := 29) rfl))), of_decide_eq_true (c1 _ (List.mem_append_right _ (List.mem_append_left _ (List.mem_of_getElem? (l := bs1 K) (i := 16) rfl))))⟩, ⟨He.eqO_ok (c1 _ (List.mem_append_right _ (List.mem_append_left _ (List.mem_of_getElem? (l := bs1 K) (i := 23) rfl)))), He.eqO_ok (c1 _ (List.mem_append_right _ (List.mem_append_left _ (List.mem_of_getElem? (l := bs1 K) (i := 24) rfl)))), of_decide_eq_true (c1 _ (List.mem_append_right _ (List.mem_append_left _ (List.mem_of_getElem? (l := bs1 K) (i := 20) rfl)))), (c1 _ (List.mem_append_right _ (List.mem_append_left _ (List.mem_of_getElem? (l := bs1 K) (i := 25) rfl)))), He.eqO_ok (c1 _ (List.mem_append_right _ (List.mem_append_left _ (List.mem_of_getElem? (l := bs1 K) (i := 26) rfl)))), He.eqO_ok (c1 _ (List.mem_append_left _ (List.mem_of_getElem? (l := bs0 K) (i := 28) rfl))), of_decide_eq_true (c1 _ (List.mem_append_left _ (List.mem_of_getElem? (l := bs0 K) (i := 29) rfl))), of_decide_eq_true (c1 _ (List.mem_append_right _ (List.mem_append_left _ (List.mem_of_getElem? (l := bs1 K) (i := 27) rfl))))⟩, of_decide_eq_true (c1 _ (List.mem_append_right _ (List.mem_append_left _ (List.mem_of_getElem? (l := bs1 K) (i := 1) rfl)))), of_decide_eq_true (c1 _ (List.mem_append_right _ (List.mem_append_left _ (List.mem_of_getElem? (l := bs1 K) (i := 2) rfl)))), of_decide_eq_true (c1 _ (List.mem_append_right _ (List.mem_append_left _ (List.mem_of_getElem? (l := bs1 K) (i := 3) rfl)))), of_decide_eq_true (c1 _ (List.mem_append_right _ (List.mem_append_left _ (List.mem_of_getElem? (l := bs1 K) (i := 4) rfl))))⟩
  obtain ⟨_, _, D_is_number, b_is_number⟩ := hasDef_x X G (fat c2 0) (c1 _ (List.mem_append_right _ (List.mem_append_left _ (List.mem_of_getElem? (l := bs1 K) (i := 28) rfl)))) bn_is_number
  obtain ⟨_, _, D_is_number_from, b_is_number_from⟩ := hasDef_x X G (fat c2 1) (c1 _ (List.mem_append_right _ (List.mem_append_left _ (List.mem_of_getElem? (l := bs1 K) (i := 29) rfl)))) bn_is_number_from
  obtain ⟨_, _, D_points_below, b_points_below⟩ := hasDef_x X G (fat c2 2) (c1 _ (List.mem_append_right _ (List.mem_append_right _ (List.mem_of_getElem? (l := bs2 K) (i := 0) rfl)))) bn_points_below
  obtain ⟨_, _, D_check_sizes, b_check_sizes⟩ := hasDef_x X G (fat c2 3) (c1 _ (List.mem_append_right _ (List.mem_append_right _ (List.mem_of_getElem? (l := bs2 K) (i := 1) rfl)))) bn_check_sizes
  obtain ⟨_, _, D_check_worths, b_check_worths⟩ := hasDef_x X G (fat c2 4) (c1 _ (List.mem_append_right _ (List.mem_append_right _ (List.mem_of_getElem? (l := bs2 K) (i := 2) rfl)))) bn_check_worths
  obtain ⟨_, _, D_halves, b_halves⟩ := hasDef_x X G (fat c2 5) (c1 _ (List.mem_append_right _ (List.mem_append_right _ (List.mem_of_getElem? (l := bs2 K) (i := 3) rfl)))) bn_halves
  obtain ⟨_, _, D_check_bends, b_check_bends⟩ := hasDef_x X G (fat c2 6) (c1 _ (List.mem_append_right _ (List.mem_append_right _ (List.mem_of_getElem? (l := bs2 K) (i := 4) rfl)))) bn_check_bends
  obtain ⟨_, _, D_law_cell_at, b_law_cell_at⟩ := hasDef_x X G (fat c2 7) (c1 _ (List.mem_append_right _ (List.mem_append_right _ (List.mem_of_getElem? (l := bs2 K) (i := 5) rfl)))) bn_law_cell_at
  obtain ⟨_, _, D_law_points, b_law_points⟩ := hasDef_x X G (fat c2 8) (c1 _ (List.mem_append_right _ (List.mem_append_right _ (List.mem_of_getElem? (l := bs2 K) (i := 6) rfl)))) bn_law_points
  obtain ⟨_, _, D_law_bad, b_law_bad⟩ := hasDef_x X G (fat c2 9) (c1 _ (List.mem_append_right _ (List.mem_append_right _ (List.mem_of_getElem? (l := bs2 K) (i := 7) rfl)))) bn_law_bad
  obtain ⟨_, _, D_law_spoilt, b_law_spoilt⟩ := hasDef_x X G (fat c2 10) (c1 _ (List.mem_append_right _ (List.mem_append_right _ (List.mem_of_getElem? (l := bs2 K) (i := 8) rfl)))) bn_law_spoilt
  obtain ⟨_, _, D_law_sort, b_law_sort⟩ := hasDef_x X G (fat c2 11) (c1 _ (List.mem_append_right _ (List.mem_append_right _ (List.mem_of_getElem? (l := bs2 K) (i := 9) rfl)))) bn_law_sort
  obtain ⟨_, _, D_law_bad_sizes, b_law_bad_sizes⟩ := hasDef_x X G (fat c2 12) (c1 _ (List.mem_append_right _ (List.mem_append_right _ (List.mem_of_getElem? (l := bs2 K) (i := 10) rfl)))) bn_law_bad_sizes
  obtain ⟨_, _, D_law_copies, b_law_copies⟩ := hasDef_x X G (fat c2 13) (c1 _ (List.mem_append_right _ (List.mem_append_right _ (List.mem_of_getElem? (l := bs2 K) (i := 11) rfl)))) bn_law_copies
  obtain ⟨_, _, M_Least, F_Least, b_Least⟩ := hasInit_x (fat c2 15) (c1 _ (List.mem_append_right _ (List.mem_append_right _ (List.mem_of_getElem? (l := bs2 K) (i := 13) rfl)))) bn_Least_init
  obtain ⟨_, _, M_Nowhere, F_Nowhere, b_Nowhere⟩ := hasInit_x (fat c2 16) (c1 _ (List.mem_append_right _ (List.mem_append_right _ (List.mem_of_getElem? (l := bs2 K) (i := 14) rfl)))) bn_Nowhere_init
  obtain ⟨_, _, M_Chart, F_Chart, b_Chart⟩ := hasInit_x (fat c2 17) (c1 _ (List.mem_append_right _ (List.mem_append_right _ (List.mem_of_getElem? (l := bs2 K) (i := 15) rfl)))) bn_Chart_init
  obtain ⟨_, _, me, Fw, bw, hcd⟩ := hasMetC_x (fat c2 18) (c1 _ (List.mem_append_right _ (List.mem_append_right _ (List.mem_of_getElem? (l := bs2 K) (i := 16) rfl)))) bn_Chart_worth
  obtain ⟨l1, l2⟩ := He.ba (c1 _ (List.mem_append_right _ (List.mem_append_right _ (List.mem_of_getElem? (l := bs2 K) (i := 12) rfl))))
  obtain ⟨l2, l3⟩ := He.ba l2
  have e := hfa.symm.trans (PySem.W.mg_of X G (He.eqO_ok l1))
  cases e
  obtain ⟨oc, dV, kV, doc, pm, ct, od, an, osl, lk, cc, dd⟩ := Hx.fun_of0 (fat c2 14) l3
  have ed := Hx.dfl0 dd
  subst ed
  have D_law : C8.Def K mg "law" s_law (He.ga K "law") (fnOf "law" "law" (C8.fnArgs s_law) (C8.fnBody s_law) (C8.fnScope s_law) .none kV doc pm an (.ref (Hx.codeOf K (He.ga K "law"))) ct) := ⟨⟨oc, od, .none, kV, doc, pm, an, .ref (Hx.codeOf K (He.ga K "law")), ct, osl, rfl, lk, cc⟩, hfa, l2⟩
  have one : ∀ q ∈ [(Hx.codeOf K (He.ma K (He.ga K "Chart") "worth"), Hx.tabOf K (He.ma K (He.ga K "Chart") "worth"))], q = (Hx.codeOf K (He.ma K (He.ga K "Chart") "worth"), Hx.tabOf K (He.ma K (He.ga K "Chart") "worth")) := fun q hq => by simpa using hq
  refine ⟨fnOf "law" "law" (C8.fnArgs s_law) (C8.fnBody s_law) (C8.fnScope s_law) .none kV doc pm an (.ref (Hx.codeOf K (He.ga K "law"))) ct, [(Hx.codeOf K (He.ma K (He.ga K "Chart") "worth"), Hx.tabOf K (He.ma K (He.ga K "Chart") "worth"))], spLaw K (Hx.tabOf K (He.ma K (He.ga K "Chart") "worth")), fun q hq => (by rw [one q hq]; exact htab), fun q hq => (by rw [one q hq]; exact tabN), fun q hq => (by rw [one q hq]; exact hcode), fun s v => .of_eq rfl, fun H a ns hl hH hS => ⟨a, ns, rfl, hS, hl, ⟨#[], hH _ List.mem_cons_self, True.intro⟩, fun _ _ => rfl⟩, fun base Kb Gb hB => ?_⟩
  have TB := hB (Hx.codeOf K (He.ma K (He.ga K "Chart") "worth"), Hx.tabOf K (He.ma K (He.ga K "Chart") "worth")) List.mem_cons_self
  have c_is_number := ok_is_number (P := PySem.Challenge.pw_evenbend_k21_whole_bad_points) (w := w) (base := base) T D_is_number b_is_number
  have c_is_number_from := ok_is_number_from (P := PySem.Challenge.pw_evenbend_k21_whole_bad_points) (w := w) (base := base) T c_is_number D_is_number_from b_is_number_from
  have c_points_below := ok_points_below (P := PySem.Challenge.pw_evenbend_k21_whole_bad_points) (w := w) (base := base) T D_points_below b_points_below
  have c_check_sizes := ok_check_sizes (P := PySem.Challenge.pw_evenbend_k21_whole_bad_points) (w := w) (base := base) T c_is_number_from D_check_sizes b_check_sizes
  have c_check_worths := ok_check_worths (P := PySem.Challenge.pw_evenbend_k21_whole_bad_points) (w := w) (base := base) T c_is_number_from D_check_worths b_check_worths
  have c_halves := ok_halves (P := PySem.Challenge.pw_evenbend_k21_whole_bad_points) (w := w) (base := base) T D_halves b_halves
  have c_check_bends := ok_check_bends (P := PySem.Challenge.pw_evenbend_k21_whole_bad_points) (w := w) (base := base) T c_halves D_check_bends b_check_bends
  have m_Chart : C8.Mak PySem.Challenge.pw_evenbend_k21_whole_bad_points w K mg base _ "Chart" (He.ga K "Chart") _ [] := ⟨_, _, _, _, M_Chart, ok_Chart_init (P := PySem.Challenge.pw_evenbend_k21_whole_bad_points) (w := w) (base := base) T CT c_check_sizes c_points_below c_check_worths c_check_bends F_Chart, (PySem.W.mg_of X G (He.eqO_ok (c1 _ (List.mem_append_left _ (List.mem_of_getElem? (l := bs0 K) (i := 3) rfl))))), b_Chart, .nil⟩
  have m_Least : C8.Mak PySem.Challenge.pw_evenbend_k21_whole_bad_points w K mg base _ "Least" (He.ga K "Least") _ [] := ⟨_, _, _, _, M_Least, ok_Least_init (P := PySem.Challenge.pw_evenbend_k21_whole_bad_points) (w := w) (base := base) T AT F_Least, (PySem.W.mg_of X G (He.eqO_ok (c1 _ (List.mem_append_left _ (List.mem_of_getElem? (l := bs0 K) (i := 1) rfl))))), b_Least, .nil⟩
  have m_Nowhere : C8.Mak PySem.Challenge.pw_evenbend_k21_whole_bad_points w K mg base _ "Nowhere" (He.ga K "Nowhere") _ [] := ⟨_, _, _, _, M_Nowhere, ok_Nowhere_init (P := PySem.Challenge.pw_evenbend_k21_whole_bad_points) (w := w) (base := base) T AT F_Nowhere, (PySem.W.mg_of X G (He.eqO_ok (c1 _ (List.mem_append_left _ (List.mem_of_getElem? (l := bs0 K) (i := 2) rfl))))), b_Nowhere, .nil⟩
  have GS := okX_check_sizes (P := PySem.Challenge.pw_evenbend_k21_whole_bad_points) (w := w) (base := base) T XX.C c_is_number_from D_check_sizes
  have GW := okX_check_worths (P := PySem.Challenge.pw_evenbend_k21_whole_bad_points) (w := w) (base := base) T XX.C c_is_number_from D_check_worths
  have GI := okX_Chart_init (P := PySem.Challenge.pw_evenbend_k21_whole_bad_points) (w := w) (base := base) T CT ⟨D_check_sizes, GS, b_check_sizes⟩ c_points_below ⟨D_check_worths, GW, b_check_worths⟩ c_check_bends F_Chart
  have o_worth := ok_Chart_worth (P := PySem.Challenge.pw_evenbend_k21_whole_bad_points) (w := w) (base := base) T CT TB D_is_number b_is_number me Fw hcd bw
  have GM := okX_Chart_worth (P := PySem.Challenge.pw_evenbend_k21_whole_bad_points) (w := w) (base := base) T CT TB D_is_number b_is_number XX.P Fw hcd
  have c_law_cell_at := ok_law_cell_at (P := PySem.Challenge.pw_evenbend_k21_whole_bad_points) (w := w) (base := base) T D_law_cell_at b_law_cell_at
  have c_law_points := ok_law_points (P := PySem.Challenge.pw_evenbend_k21_whole_bad_points) (w := w) (base := base) T D_law_points b_law_points
  have c_law_bad := ok_law_bad (P := PySem.Challenge.pw_evenbend_k21_whole_bad_points) (w := w) (base := base) T D_law_bad b_law_bad
  have c_law_spoilt := ok_law_spoilt (P := PySem.Challenge.pw_evenbend_k21_whole_bad_points) (w := w) (base := base) T c_law_bad D_law_spoilt b_law_spoilt
  have c_law_sort := ok_law_sort (P := PySem.Challenge.pw_evenbend_k21_whole_bad_points) (w := w) (base := base) T CT XX ⟨me, GM, bw⟩ ⟨M_Chart, GI, (PySem.W.mg_of X G (He.eqO_ok (c1 _ (List.mem_append_left _ (List.mem_of_getElem? (l := bs0 K) (i := 3) rfl))))), b_Chart⟩ D_law_sort b_law_sort
  have c_law_bad_sizes := ok_law_bad_sizes (P := PySem.Challenge.pw_evenbend_k21_whole_bad_points) (w := w) (base := base) T D_law_bad_sizes b_law_bad_sizes
  have c_law_copies := ok_law_copies (P := PySem.Challenge.pw_evenbend_k21_whole_bad_points) (w := w) (base := base) T AT LJ c_law_cell_at m_Least m_Nowhere D_law_copies b_law_copies
  exact Lg.fnG_of D_law sc_law (fun vs H Q E h => (by obtain ⟨_, _, rfl, _⟩ := h; rfl)) fun cdv A outer s H vs Q E _ hg hr h => law_body (P := PySem.Challenge.pw_evenbend_k21_whole_bad_points) (w := w) (base := base) T (PySem.W.mg_of X G (He.eqO_ok (c1 _ (List.mem_append_right _ (List.mem_append_left _ (List.mem_of_getElem? (l := bs1 K) (i := 5) rfl)))))) c_law_cell_at c_law_points m_Chart o_worth c_law_spoilt c_law_sort c_law_bad_sizes c_law_copies cdv A hg outer s H vs Q E hr h

end Ev

open PySem PySem.W PySem.Calls PyProof.Rows in
theorem PySem.Challenge.cw_evenbend_k21_whole_bad_points_holds : PySem.Challenge.rw_evenbend_k21_whole_bad_points.Holds := by
  w_on; o_law
  refine HandSHeadRun.head_any (r := OpenLaw.row PySem.Challenge.rw_evenbend_k21_whole_bad_points) (q := view (OpenLaw.row PySem.Challenge.rw_evenbend_k21_whole_bad_points).prog [36]) (H := Ev.hkX) (ob := Ev.obX) (M := 16000) (loose := Ev.nmX) (d := HandSHeadRun.topDef (OpenLaw.row PySem.Challenge.rw_evenbend_k21_whole_bad_points).prog 36) (kwd := []) Ev.obX_eq
    (by kernel_rfl) (fun s => by kernel_rfl) Ev.runX (by kernel_rfl) (by kernel_rfl) (by kernel_rfl) (by rfl) (by first | assumption | decide +kernel) (by decide +kernel) ⟨rfl, rfl, rfl, rfl, rfl, by decide +kernel⟩ ?hw ?hc
  case hw => w_witness2
  case hc =>
    refine Lg.walkG (l := PySem.Challenge.rw_evenbend_k21_whole_bad_points) (n := 63) (k := 9) (x := "_law_script") rfl (by decide) (by kernel_rfl) ⟨rfl, by decide, by decide⟩ ?F
    intro w mg fa h Y G hmg0
    obtain ⟨K, KX, c1, c2, c3⟩ := Y
    have hmg : mg ("law" : PySem.Str) = some (.ref fa) := by
      have e : (HandSHeadRun.topDef (OpenLaw.row PySem.Challenge.rw_evenbend_k21_whole_bad_points).prog 36).name = ("law" : PySem.Str) := by kernel_rfl
      rw [← e]
      exact hmg0
    exact ⟨K, KX, Ev.allX KX G hmg c1 c2 c3⟩
