import PyProof.Rows.All
import Wide.All
import OpenK.AllK
import Wide.FinOn
import HandS.ForMost
import HandS.Codes
import HandS.Nested
import HandS.ClsMeth
import HandS.IsInst
import HandS.Conv
import HandS.Deep
import HandS.MakeKw
import HandS.Defaults
import HandS.TupAny
import HandS.Style
import HandS.RevTup
import HandS.Rev
import KE.KSuper
import KE.RegKSuper
import PySem.Challenge.RW_evenbend_k01_parts
set_option Elab.async false
set_option linter.all false
set_option maxRecDepth 100000
set_option maxHeartbeats 4000000
/-! own words: choice among rules, a super() call within a def -/
namespace Ax
open PySem PySem.Spec PyProof.Rows L2

/-! ### choice among rules, at the reading -/
theorem pe_any {X : Cx} {e : Expr} {ι : Type} {t : ι → TE} (h : ∀ i, PE X e (t i)) : PE X e (fun σ H Q => ∃ i, t i σ H Q) :=
  ⟨fun pins s σ H Q I ⟨i, q⟩ => (h i).run pins s σ H Q I q⟩
theorem pe_or2 {X : Cx} {e : Expr} {t u : TE} (h : PE X e t) (h' : PE X e u) : PE X e (fun σ H Q => t σ H Q ∨ u σ H Q) :=
  ⟨fun pins s σ H Q I q => q.elim (h.run pins s σ H Q I) (h'.run pins s σ H Q I)⟩
def tAnyP {ι : Type} (p : ι → Prop) (t : ι → TE) : TE := fun σ H Q => ∃ i, p i ∧ t i σ H Q
theorem pe_anyP {X : Cx} {e : Expr} {ι : Type} {p : ι → Prop} {t : ι → TE} (h : ∀ i, p i → PE X e (t i)) : PE X e (tAnyP p t) :=
  ⟨fun pins s σ H Q I ⟨i, hp, q⟩ => (h i hp).run pins s σ H Q I q⟩

/-! ### a def whose activation is known -/
structure PEA (X : Cx) (body : List Stmt) (e : Expr) (t : TE) : Prop where
  run : ∀ (pins : List (Addr × Obj)) (s : Shared) (σ : L2.St) (H : Hp) (Q : VK), Inv X pins σ H s → t σ H Q → _root_.PySem.wpAt (model X.prog X.w) X.A (.func body X.env) (eval e X.env) (EP X pins σ Q) X.xe s
structure PSA (X : Cx) (body : List Stmt) (st : Stmt) (t : TS) : Prop where
  run : ∀ (pins : List (Addr × Obj)) (s : Shared) (σ : L2.St) (H : Hp) (D : Ends), Inv X pins σ H s → t D σ H → _root_.PySem.wpAt (model X.prog X.w) X.A (.func body X.env) (exec st X.env) (SP X pins D) X.xe s
structure PSsA (X : Cx) (body : List Stmt) (sts : List Stmt) (t : TS) : Prop where
  run : ∀ (pins : List (Addr × Obj)) (s : Shared) (σ : L2.St) (H : Hp) (D : Ends), Inv X pins σ H s → t D σ H → _root_.PySem.wpAt (model X.prog X.w) X.A (.func body X.env) (execs sts X.env) (SP X pins D) X.xe s
section
variable {X : Cx} {body : List Stmt} {st : Stmt} {sts rest : List Stmt} {e : Expr} {t u : TS} {te : TE} {pos : Pos}
theorem pssA_of (h : PSs X sts t) : PSsA X body sts t := ⟨fun pins s σ H D I q => wpAt_of_wpAny (h.run pins s σ H D I q)⟩
theorem psA_of (h : PS X st t) : PSA X body st t := ⟨fun pins s σ H D I q => wpAt_of_wpAny (h.run pins s σ H D I q)⟩
theorem pssA_cons (h1 : PSA X body st t) (h2 : PSsA X body rest u) : PSsA X body (st :: rest) (tSeq t u) := by
  refine ⟨fun pins s σ H D I h => ?_⟩
  refine ks_wpAt_execs_cons (ks_wpAt_mono (h1.run pins s σ H { D with nx := u D } I h) (fun f s1 q => ?_) fun _ _ x => x)
  cases f with
  | next =>
    obtain ⟨σ', H', I', q⟩ := q
    exact h2.run pins s1 σ' H' D I' q
  | ret v => exact q
  | brk => exact q
  | cont => exact q
theorem pssA_one (h1 : PSA X body st t) : PSsA X body [st] t := by
  refine ⟨fun pins s σ H D I h => ?_⟩
  refine ks_wpAt_execs_cons (ks_wpAt_mono (h1.run pins s σ H D I h) (fun f s1 q => ?_) fun _ _ x => x)
  cases f with
  | next =>
    obtain ⟨σ', H', I', q⟩ := q
    exact wpAt_of_wpAny (wpAny_execs_nil ⟨σ', H', I', q⟩)
  | ret v => exact q
  | brk => exact q
  | cont => exact q
theorem psA_expr (he : PEA X body e te) (hs : swapsWith e none pos.line X.env = pure false := by rfl) : PSA X body (.Expr e pos) (tDrop te) := by
  refine ⟨fun pins s σ H D I h => ?_⟩
  refine ks_wpAt_Expr_any (ks_wpAt_mono (he.run pins s σ H _ I h) (fun v s1 ⟨x, H1, I1, r, q⟩ => ?_) fun _ _ x => x) I.quiet hs
  exact ⟨σ, H1, I1, q⟩
theorem psA_ret (he : PEA X body e te) : PSA X body (.Return (some e) pos) (tRet te) := by
  refine ⟨fun pins s σ H D I h => ?_⟩
  refine ks_wpAt_Return_some (ks_wpAt_mono (he.run pins s σ H _ I h) (fun v s1 ⟨x, H1, I1, r, q⟩ => ?_) fun _ _ x => x)
  exact ⟨x, σ, H1, I1, r, q⟩
end

/-! ### super().m(..) -/
/-- what the text must have for super() in the def at f (its class D, cell cc, code cda), an instance of C, and the def f2 that is found -/
structure SupOk (P : Program) (K : PySem.W.Frag) (mg : Str → Option Value) (f cc cda C D : Addr) (m : Str) (f2 : Addr) : Prop where
  fn : ∃ (oc : Value) (od : Option Addr) (fd : FuncData) (osl : Array (Option Value)) (ar : Arg), K.lookup f = some ⟨oc, od, .func fd, osl⟩ ∧ (fd.params.posonlyargs ++ fd.params.args).head? = some ar ∧ ar.arg = "self"
  code : ∃ (c : Value) (d : Option Addr) (vs : Array Value) (sl : Array (Option Value)) (file : Str) (tf : Tok), K.lookup cda = some ⟨c, d, .fields vs, sl⟩ ∧ vs[2]? = some (.str file tf) ∧ ((P.main.file : Str) == file) = true
  cell : ∃ (c : Value) (d : Option Addr) (sl : Array (Option Value)), K.lookup cc = some ⟨c, d, .cell (some (.ref D)), sl⟩
  cls : ∃ cd, PySem.W.clsIn K D = some cd
  clsC : ∃ cd, PySem.W.clsIn K C = some cd
  sub : PySem.W.mroIn K C (.ref D) = some true
  top : (P.main.scope.names.lookup ("super" : Str)).isSome = false
  sup : mg "super" = none
  opq : PySem.W.nsIn K cStatics "thirdparty.any" = some none
  met : PySem.W.ks_superIn K C D m = some (some (.ref f2))
  ty : PySem.W.typeIn K (.ref f2) = some (.type "function")
  fi : PySem.W.fnIn K f2 = true
  nm : (m == ("__class__" : Str)) = false

/-- a def's promise as it is called: at f, by the level k -/
structure CalO (P : Program) (w : World) (K : PySem.W.Frag) (mg : Str → Option Value) (base : Heap) (k : Nat) (f : Addr) (sp : Sp) (dvs : List V) : Prop where
  ex : ∃ (fd : FuncData) (ps : List Str) (ds : List Value), FnOk P w K mg base CX0 k f fd ps sp ∧ Binds K fd ps ds ∧ Vals dvs ds

def tSup (C : Addr) (sp : Sp) (dvs : List V) (t : TA) : TE := fun σ H Q => ∃ x dx fs, σ[0]? = some (some (.ref x)) ∧ H x = some (.ins C dx fs) ∧ t σ H fun vs H1 => sp (.ref x :: (vs ++ dvs)) H1 Q E0

section
variable {X : Cx} {body : List Stmt} {C D f cc cda f2 : Addr} {m : Str} {k : Nat} {sp : Sp} {dvs : List V} {t : TA} {e : Expr} {es args : List Expr} {p0 p1 apos pos : Pos} {pl : Sem Bool}

theorem supBase (S : SupOk X.prog X.K X.mg f cc cda C D m f2) (hN : X.N[0]? = some ("self" : Str)) (hself : X.env.scope.names.lookup ("self" : Str) = some .local)
    (hks : X.env.scope.names.lookup ("super" : Str) = some .globalImplicit) (hkc : X.env.scope.names.lookup ("__class__" : Str) = some .free) (hfu : X.env.func = some f) (hco : X.env.code = .ref cda) (hce : X.env.cells.lookup ("__class__" : Str) = some cc)
    {pins : List (Addr × Obj)} {s : Shared} {σ : L2.St} {H : Hp} {Q : Value → Shared → Prop} {x dx : Addr} {fs : List (Str × V)} {whole : Sem Value} (I : Inv X pins σ H s) (h0 : σ[0]? = some (some (.ref x))) (hx : H x = some (.ins C dx fs))
    (h : ∀ so h', h'.get? so = some (PySem.W.ks_superObj D x C) → (∀ y o, s.heap.get? y = some o → h'.get? y = some o) → Q (.ref so) { s with heap := h' }) :
    _root_.PySem.wpAt (model X.prog X.w) X.A (.func body X.env) (attributeBase (.Call (.Name "super" p0) [] [] p1) m X.env whole) Q X.xe s := by
  obtain ⟨oc, od, fd, osl, ar, hf, hp, har⟩ := S.fn
  obtain ⟨cc1, cd1, vs, sl1, file, tf, hcode, hvs, hfile⟩ := S.code
  obtain ⟨c2, d2, sl2, hcell⟩ := S.cell
  obtain ⟨cdD, hD⟩ := S.cls
  have KX : X.K.In s.heap := I.kIn
  obtain ⟨mA, O, _, _, _, _⟩ := ins_get I.hok hx
  obtain ⟨ml, hns, hl⟩ := I.loc
  obtain ⟨u, ru, lk⟩ := hl 0 ("self" : Str) (.ref x) hN h0 (.inl hself)
  cases (show u = Value.ref x from ru)
  have hm : ml "self" = some (.ref x) := by
    rcases lk with ⟨_, q⟩ | ⟨q, _⟩
    · exact q
    · rcases q with q | q
      · rw [show X.env.kindOf "self" = some .local from hself] at q; cases q
      · rw [show X.env.kindOf "self" = some .local from hself] at q; cases q
  obtain ⟨mb, hb1, hb2⟩ := I.mod.blt
  obtain ⟨hh, g, d, tk, os⟩ := s
  obtain ⟨oD, hD1, hD2⟩ : ∃ oD, hh.get? D = some oD ∧ oD.data = .cls cdD := by
    unfold PySem.W.clsIn at hD
    split at hD
    · rename_i c d cd' sl ho
      cases hD
      exact ⟨_, KX _ _ ho, rfl⟩
    · cases hD
  refine ks_wpAt_super_base (ar := ar) (env := X.env) hks hkc S.nm hfu (KX _ _ hf) rfl hp hco (KX _ _ hcode) rfl hvs hfile S.top ?_
  refine PySem.W.ks_loadName_global I.ok.kind hks ?_
  refine Calls.loadGlobal_builtin (by rw [I.ok.glob]; exact I.mod.glob.keeps I.bk) S.sup (by rw [I.ok.blt]; exact hb1.keeps I.bk) ((hb2 _ (by decide)).trans (by decide +kernel : bootBuiltins "super" = some (.type "super"))) ⟨rfl, ?_⟩
  refine wpAny_loadName_free I.ok.kind hkc hce ⟨_, KX _ _ hcell, rfl⟩ ?_
  rw [har]
  refine wpAny_loadName_local I.ok.kind hself hns hm ?_
  refine ks_wpAny_isType_cls hD1 hD2 ⟨rfl, ?_⟩
  exact ks_wpAny_call_super hD1 hD2 O.obj rfl (fun c e => nomatch e) (PySem.W.looks_mroIn KX S.sub) (fun h' e kp => h _ _ e kp)

theorem supMeth (S : SupOk X.prog X.K X.mg f cc cda C D m f2) {pins : List (Addr × Obj)} {s : Shared} {σ : L2.St} {H : Hp} {Q : Value × List Value → Shared → Prop} {x dx so : Addr} {fs : List (Str × V)} {E : Value → Shared → Prop} {A : Around} (I : Inv X pins σ H s) (hx : H x = some (.ins C dx fs))
    (hso : s.heap.get? so = some (PySem.W.ks_superObj D x C))
    (h : ∀ s', Inv X ((s.heap.objs.size, PySem.W.methodObj (.ref f2) (.ref x)) :: pins) σ H s' → Q (.ref s.heap.objs.size, []) s') : wpAny (model X.prog X.w) A (getMethod (.ref so) m pl) Q E s := by
  obtain ⟨cdC, hC⟩ := S.clsC
  have KX : X.K.In s.heap := I.kIn
  have hm := S.met
  unfold PySem.W.ks_superIn at hm
  rw [hC] at hm
  obtain ⟨of, hof, hofc⟩ : ∃ of, s.heap.get? f2 = some of ∧ of.cls = .type "function" := by
    have ht' : (X.K.lookup f2).map (·.cls) = some (.type "function") := S.ty
    cases z : X.K.lookup f2 with
    | none => rw [z] at ht'; cases ht'
    | some of => rw [z] at ht'; exact ⟨of, KX _ _ z, Option.some.inj ht'⟩
  obtain ⟨mA, O, _, _, _, _⟩ := ins_get I.hok hx
  have hxC : x ≠ C := by
    rintro rfl
    have hC' := hC
    unfold PySem.W.clsIn at hC'
    split at hC'
    · rename_i c d cd' sl ho
      have e := KX _ _ ho
      have e2 := O.obj
      rw [e] at e2
      cases e2
    · cases hC'
  have key := ClX.met_new (g := f2) (C := x) I
  obtain ⟨hh, g, d, tk, os⟩ := s
  refine ks_wpAny_getMethod_super hso (PySem.W.looks_opaque KX S.opq) (l₀ := cdC.mro) ?_ rfl KX hm hof hofc hxC S.nm ?_
  · exact fun A Q E s k q => wpAny_bind ((PySem.W.looks_clsIn KX hC) A _ E s k (wpAny_pure q))
  · exact h _ key

theorem run_met {q x : Addr} {pins : List (Addr × Obj)} {σ : L2.St} {H : Hp} {s : Shared} {Q : VK} {us : List Value} {vs : List V} (F : CalO X.prog X.w X.K X.mg X.base k f2 sp dvs) (hr : Room k X.A) (I : Inv X ((q, PySem.W.methodObj (.ref f2) (.ref x)) :: pins) σ H s)
    (r : Vals vs us) (h : sp (.ref x :: (vs ++ dvs)) H Q E0) : wpAny (model X.prog X.w) X.A (call (.ref q) us) (EP X pins σ Q) X.xe s := by
  obtain ⟨fd, ps, ds, F, hb, hd⟩ := F.ex
  have r2 : Vals (.ref x :: (vs ++ dvs)) (Value.ref x :: (us ++ ds)) := .cons rfl (r.append hd)
  have hl : (Value.ref x :: (us ++ ds)).length = ps.length := by rw [← r2.length]; exact F.len _ _ _ _ h
  have z : wpAny (model X.prog X.w) X.A (call (.ref q) us) (EP X ((q, PySem.W.methodObj (.ref f2) (.ref x)) :: pins) σ Q) X.xe s := by
    refine wpAny_call (PySem.W.method_call (ClX.pin_at I) (codeAny_mono (F.run X.A X.stack s H ⟨.ref x :: us, []⟩ (Value.ref x :: (us ++ ds)) (.ref x :: (vs ++ dvs)) Q E0 hr I.env0 (hb s (.ref x :: us) I.kIn hl) r2 h) fun r s' hq => ?_))
    cases r with
    | error e => exact False.elim hq
    | ok fl =>
      cases fl with
      | ret u => exact I.after hq
      | next => exact False.elim hq
      | brk => exact False.elim hq
      | cont => exact False.elim hq
  exact thn z fun _ _ y => ClX.unpinE y

/-- super().m(e, ..) -/
theorem peA_super (S : SupOk X.prog X.K X.mg f cc cda C D m f2) (F : CalO X.prog X.w X.K X.mg X.base k f2 sp dvs) (hr : Room k X.A) (ha : PA X (e :: es) t)
    (hN : X.N[0]? = some ("self" : Str) := by rfl) (hself : X.env.scope.names.lookup ("self" : Str) = some .local := by rfl)
    (hks : X.env.scope.names.lookup ("super" : Str) = some .globalImplicit := by rfl) (hkc : X.env.scope.names.lookup ("__class__" : Str) = some .free := by rfl) (hfu : X.env.func = some f := by rfl) (hco : X.env.code = .ref cda := by rfl) (hce : X.env.cells.lookup ("__class__" : Str) = some cc := by rfl)
    (hst : starEach (e :: es) X.env = (false, eval e X.env) :: starEach es X.env := by rfl) (hpl : (backTo pos (starEach es X.env)).any (·.1) = false := by rfl)
    (ht : eval (.Call (.Attribute (.Call (.Name "super" p0) [] [] p1) m apos) (e :: es) [] pos) X.env = (do
      let ov ← attributeBase (.Call (.Name "super" p0) [] [] p1) m X.env (eval (.Call (.Name "super" p0) [] [] p1) X.env)
      standAt apos.atName
      let (f, first) ← holding [ov] (getMethod ov m pl)
      callWith pos f first (backTo pos (starEach (e :: es) X.env)) []) := by rfl) :
    PEA X body (.Call (.Attribute (.Call (.Name "super" p0) [] [] p1) m apos) (e :: es) [] pos) (tSup C sp dvs t) := by
  refine ⟨fun pins s σ H Q I h => ?_⟩
  obtain ⟨x, dx, fs, h0, hx, q⟩ := h
  refine ks_wpAt_MethodCall (pl := pl) ?_ ht
  refine supBase S hN hself hks hkc hfu hco hce I h0 hx fun so h' hso kp => ?_
  have I1 : Inv X pins σ H { s with heap := h' } := I.kept (t' := s.toks) kp
  refine supMeth S I1 hx hso fun s2 I2 => ?_
  refine ClX.callwith_cm I2 (ClX.base_none I1 (Nat.le_refl _)) S.fi (thn (ha.run pos _ s2 σ H _ I2 q) fun us s3 ⟨vs, H2, I3, rv, q2⟩ => ⟨⟨ClX.pin_at I3, I3.kIn⟩, ?_⟩) hst hpl
  exact run_met F hr I3 rv q2
/-- super().m() -/
theorem peA_super0 (S : SupOk X.prog X.K X.mg f cc cda C D m f2) (F : CalO X.prog X.w X.K X.mg X.base k f2 sp dvs) (hr : Room k X.A)
    (hN : X.N[0]? = some ("self" : Str) := by rfl) (hself : X.env.scope.names.lookup ("self" : Str) = some .local := by rfl)
    (hks : X.env.scope.names.lookup ("super" : Str) = some .globalImplicit := by rfl) (hkc : X.env.scope.names.lookup ("__class__" : Str) = some .free := by rfl) (hfu : X.env.func = some f := by rfl) (hco : X.env.code = .ref cda := by rfl) (hce : X.env.cells.lookup ("__class__" : Str) = some cc := by rfl)
    (ht : eval (.Call (.Attribute (.Call (.Name "super" p0) [] [] p1) m apos) [] [] pos) X.env = (do
      let ov ← attributeBase (.Call (.Name "super" p0) [] [] p1) m X.env (eval (.Call (.Name "super" p0) [] [] p1) X.env)
      standAt apos.atName
      let (f, first) ← holding [ov] (getMethod ov m pl)
      callWith pos f first (backTo pos (starEach [] X.env)) []) := by rfl) :
    PEA X body (.Call (.Attribute (.Call (.Name "super" p0) [] [] p1) m apos) [] [] pos) (tSup C sp dvs tNil) := by
  refine ⟨fun pins s σ H Q I h => ?_⟩
  obtain ⟨x, dx, fs, h0, hx, q⟩ := h
  refine ks_wpAt_MethodCall (pl := pl) ?_ ht
  refine supBase S hN hself hks hkc hfu hco hce I h0 hx fun so h' hso kp => ?_
  have I1 : Inv X pins σ H { s with heap := h' } := I.kept (t' := s.toks) kp
  refine supMeth S I1 hx hso fun s2 I2 => ?_
  refine PySem.W.callWith_M0 (first := []) ⟨ClX.pin_at I2, I2.kIn⟩ S.fi ?_
  exact run_met (vs := []) (us := []) F hr I2 .nil q
end
end Ax

namespace Ax
open PySem PySem.Spec PyProof.Rows L2

/-- a def with super(): it closes over __class__ -/
structure FunS (K : PySem.W.Frag) (x qual : Str) (st : Stmt) (f cc cda D : Addr) (fd : FuncData) : Prop where
  ex : ∃ (oc : Value) (od : Option Addr) (dV kV doc pm : Value) (an : Option Addr) (ct : Value) (osl : Array (Option Value)),
    fd = PySem.W.ksFn x qual (C8.fnArgs st) (C8.fnBody st) (C8.fnScope st) dV kV doc pm an (.ref cda) ct cc ∧ K.lookup f = some ⟨oc, od, .func fd, osl⟩ ∧ PySem.W.codeIn K (.ref cda) qual = true
  cell : ∃ (c : Value) (d : Option Addr) (sl : Array (Option Value)), K.lookup cc = some ⟨c, d, .cell (some (.ref D)), sl⟩
def nfS (st : Stmt) (x qual : Str) (cc cda : Addr) : NdefX.NF := ⟨x, qual, C8.fnArgs st, C8.fnBody st, C8.fnScope st, [("__class__", cc)], cda⟩
section
variable {P : Program} {w : World} {K : PySem.W.Frag} {mg : Str → Option Value} {base : Heap}
theorem FunS.ok {x qual : Str} {st : Stmt} {f cc cda D : Addr} {fd : FuncData} {N ps : List Str} {k : Nat} {sp : Sp} (F : FunS K x qual st f cc cda D fd) (S : NdefX.NScope N ps ["__class__"] (C8.fnScope st)) (len : ∀ vs H Q E, sp vs H Q E → vs.length = ps.length)
    (hbody : ∀ (A : Around) (outer : List Env) (s : Shared) (H : Hp) (vs : List V) (Q : VK) (E : XK), Room k (A.deeper (NdefX.envF (nfS st x qual cc cda) f s.heap.objs.size)) → sp vs H Q E →
      ∃ t, PSsA (NdefX.ncx C8.CX0 P w K mg base N (nfS st x qual cc cda) f A outer s H E).nox (C8.fnBody st) (C8.fnBody st) t ∧ t { nx := fun _ H' => Q .non H', rt := Q } (NdefX.startF N vs [none]) H) : FnOk P w K mg base C8.CX0 (k + 1) f fd ps sp := by
  obtain ⟨oc, od, dV, kV, doc, pm, an, ct, osl, rfl, lk, hcd⟩ := F.ex
  obtain ⟨c1, d1, sl1, hcc⟩ := F.cell
  refine ⟨len, fun A outer s H args us vs Q E hr e0 hb r hsp => ?_⟩
  have hl := len _ _ _ _ hsp
  have KX : K.In s.heap := e0.mod.kin.keeps fun b o e => (e0.bs b o e).1
  have lim : s.heap.NoLimit := e0.mod.nolimit.keeps fun b o e => (e0.bs b o e).1
  have hcell : H cc = none := (e0.bs _ _ (e0.mod.kin _ _ hcc)).2
  have C : NdefX.CellsAt [(("__class__" : Str), cc)] ["__class__"] [none] s.heap H := by
    have key : ∀ y c, List.lookup y [(("__class__" : Str), cc)] = some c → y = "__class__" ∧ c = cc := fun y c e => by
      rw [List.lookup_cons] at e
      by_cases h : y = ("__class__" : Str)
      · rw [beq_iff_eq.mpr h] at e
        exact ⟨h, (Option.some.inj e).symm⟩
      · rw [beq_eq_false_iff_ne.mpr h] at e
        cases e
    refine ⟨rfl, fun y c e => ?_, fun y z c e1 e2 => ?_, fun i y e => ?_⟩
    · obtain ⟨_, rfl⟩ := key y c e
      exact ⟨hcell, _, _, KX _ _ hcc, rfl⟩
    · exact (key y c e1).1.trans (key z c e2).1.symm
    · have hi : y = "__class__" := by
        have := List.mem_of_getElem? e
        simpa using this
      subst hi
      refine ⟨cc, by rw [List.lookup_cons, beq_self_eq_true], fun v hv => ?_⟩
      exfalso
      cases i with
      | zero => simp at hv
      | succ i => simp at hv
  refine ks_codeAny_call_defAt (fd := PySem.W.ksFn x qual (C8.fnArgs st) (C8.fnBody st) (C8.fnScope st) dV kV doc pm an (.ref cda) ct cc) (body := C8.fnBody st) (binds := ps.zip us) hr.depth (KX _ _ lk) rfl lim (PySem.W.codeRec_of KX hcd) rfl hb S.nocell
    (fun ⟨n, v⟩ hy => S.par n (List.of_mem_zip hy).1) (fun h₁ hns kp => ?_) S.co S.gen S.kind
  obtain ⟨t, ht, hq⟩ := hbody A outer s H vs Q E (hr.deeper _) hsp
  have I : Inv (NdefX.ncx C8.CX0 P w K mg base N (nfS st x qual cc cda) f A outer s H E).nox [] (NdefX.startF N vs [none]) H { s with heap := h₁, toks := s.toks + (ps.zip us).length } :=
    (NdefX.inv_startN (F := nfS st x qual cc cda) S hr.hd e0 hl r C hns kp).wish _
  refine ks_wpAt_mono (ht.run [] _ (NdefX.startF N vs [none]) H _ I hq) (fun fl s' hs => ?_) fun e s' hs => hs.elim
  have fin : ∀ {σ' : L2.St} {H' : Hp} {v : V} {u : Value}, Inv (NdefX.ncx C8.CX0 P w K mg base N (nfS st x qual cc cda) f A outer s H E).nox [] σ' H' s' → L2.RelV v u → Q v H' → CE outer P w H s Q u s' :=
    fun {σ' H' v u} J rv q => ⟨v, H', J.os, J.bare, J.base, J.hok, rv, q⟩
  cases fl with
  | ret u =>
    obtain ⟨v, σ', H', J, rv, q⟩ := hs
    exact fin J rv q
  | next =>
    obtain ⟨σ', H', J, q⟩ := hs
    exact fin (v := V.non) (u := Value.none) J rfl q
  | brk =>
    obtain ⟨_, _, _, q⟩ := hs
    exact False.elim q
  | cont =>
    obtain ⟨_, _, _, q⟩ := hs
    exact False.elim q
end
end Ax

namespace Ax
open PySem PySem.Spec PyProof.Rows L2
/-- a class that may be made by its name with n values and the keywords ks -/
structure MakKw (P : Program) (w : World) (K : PySem.W.Frag) (mg : Str → Option Value) (base : Heap) (k n : Nat) (x : Str) (C : Addr) (ks : List Str) (sp : Sp) (gV : List V → List V → List V) : Prop where
  ex : ∃ (f : Addr) (fd : FuncData) (ps : List Str) (g : List Value → List Value → List Value), Mk K C f ∧ FnOk P w K mg base C8.CX0 k f fd ps sp ∧ mg x = some (.ref C) ∧ KBn K fd ps (n + 1) ks g gV
section
variable {X : Cx} {k j n : Nat} {C : Addr} {x : Str} {ks : List Str} {sp : Sp} {gV : List V → List V → List V} {p pos : Pos} {e : Expr} {es : List Expr} {kws : List Keyword} {t tk : TA}
theorem pe_mkw (c : MakKw X.prog X.w X.K X.mg X.base k n x C ks sp gV) (hr : Room j X.A) (hk : k + 1 ≤ j) (hg : Gl X x)
    (ha : PA X (e :: es) t) (hkw : PK X kws tk) (hall : (backToKw pos (keywordEach kws X.env)).all (·.1.isSome) = true := by rfl) (hks : (backToKw pos (keywordEach kws X.env)).filterMap (·.1) = ks := by rfl)
    (hdb : (x == ("__debug__" : Str)) = false := by decide) (he : starEach (e :: es) X.env = (false, eval e X.env) :: starEach es X.env := by rfl)
    (hpl : ((backTo pos (starEach (e :: es) X.env)).any (·.1) || (backToKw pos (keywordEach kws X.env)).any (·.1.isNone)) = false := by rfl) :
    PE X (.Call (.Name x p) (e :: es) kws pos) (tMakeN C n ks.length sp gV C8.E0 t tk) := by
  obtain ⟨f, fd, ps, g, M, F, hm, b⟩ := c.ex
  exact pe_makeN M F (hr.mono hk) hg hm b C8.pass0 ha hkw hall hks hdb he hpl
end
end Ax

namespace Ev
open PySem L2 Ax
def top (i : Nat) : Stmt := PySem.Challenge.pw_evenbend_k01_parts.main.body.getD i (.Pass ⟨0, 0, 0, 0⟩)

abbrev s_is_number : Stmt := (top 1)
theorem sc_is_number : FnScope ["value"] ["value"] (defScope s_is_number) := ⟨rfl, rfl, rfl, by decide +kernel, rfl, by decide +kernel, by decide +kernel⟩
abbrev s_is_number_from : Stmt := (top 2)
theorem sc_is_number_from : FnScope ["value", "low", "high"] ["value", "low", "high"] (defScope s_is_number_from) := ⟨rfl, rfl, rfl, by decide +kernel, rfl, by decide +kernel, by decide +kernel⟩
abbrev s_NotEven_init : Stmt := (inClass (top 6) 0)
theorem sc_NotEven_init : NdefX.NScope ["self", "at", "__class__"] ["self", "at"] ["__class__"] (defScope s_NotEven_init) := NdefX.nscope_by (by decide +kernel)
abbrev s_check_number : Stmt := (top 13)
theorem sc_check_number : FnScope ["value", "low", "high", "name"] ["value", "low", "high", "name"] (defScope s_check_number) := ⟨rfl, rfl, rfl, by decide +kernel, rfl, by decide +kernel, by decide +kernel⟩
abbrev s_check_place : Stmt := (top 14)
theorem sc_check_place : FnScope ["place"] ["place"] (defScope s_check_place) := ⟨rfl, rfl, rfl, by decide +kernel, rfl, by decide +kernel, by decide +kernel⟩
abbrev s_check_reach : Stmt := (top 15)
theorem sc_check_reach : FnScope ["value", "name"] ["value", "name"] (defScope s_check_reach) := ⟨rfl, rfl, rfl, by decide +kernel, rfl, by decide +kernel, by decide +kernel⟩
abbrev s_check_aim : Stmt := (top 16)
theorem sc_check_aim : FnScope ["place", "aim", "weight"] ["place", "aim", "weight"] (defScope s_check_aim) := ⟨rfl, rfl, rfl, by decide +kernel, rfl, by decide +kernel, by decide +kernel⟩
abbrev s_check_worths : Stmt := (top 17)
theorem sc_check_worths : FnScope ["worths", "worth"] ["worths"] (defScope s_check_worths) := ⟨rfl, rfl, rfl, by decide +kernel, rfl, by decide +kernel, by decide +kernel⟩
abbrev s_check_bends : Stmt := (top 18)
theorem sc_check_bends : FnScope ["worths", "at"] ["worths"] (defScope s_check_bends) := ⟨rfl, rfl, rfl, by decide +kernel, rfl, by decide +kernel, by decide +kernel⟩
abbrev s_Part_init : Stmt := (inClass (top 19) 0)
theorem sc_Part_init : FnScope ["self"] ["self"] (defScope s_Part_init) := ⟨rfl, rfl, rfl, by decide +kernel, rfl, by decide +kernel, by decide +kernel⟩
abbrev s_Part_stands : Stmt := (inClass (top 19) 1)
theorem sc_Part_stands : FnScope ["self"] ["self"] (defScope s_Part_stands) := ⟨rfl, rfl, rfl, by decide +kernel, rfl, by decide +kernel, by decide +kernel⟩
abbrev s_Part_worth_of : Stmt := (inClass (top 19) 2)
theorem sc_Part_worth_of : FnScope ["self", "reads"] ["self", "reads"] (defScope s_Part_worth_of) := ⟨rfl, rfl, rfl, by decide +kernel, rfl, by decide +kernel, by decide +kernel⟩
abbrev s_Part_limits : Stmt := (inClass (top 19) 3)
theorem sc_Part_limits : FnScope ["self"] ["self"] (defScope s_Part_limits) := ⟨rfl, rfl, rfl, by decide +kernel, rfl, by decide +kernel, by decide +kernel⟩
abbrev s_Slope_init : Stmt := (inClass (top 20) 0)
theorem sc_Slope_init : FnScope ["self", "place", "weight"] ["self", "place", "weight"] (defScope s_Slope_init) := ⟨rfl, rfl, rfl, by decide +kernel, rfl, by decide +kernel, by decide +kernel⟩
abbrev s_Slope_stands : Stmt := (inClass (top 20) 1)
theorem sc_Slope_stands : FnScope ["self"] ["self"] (defScope s_Slope_stands) := ⟨rfl, rfl, rfl, by decide +kernel, rfl, by decide +kernel, by decide +kernel⟩
abbrev s_Slope_worth_of : Stmt := (inClass (top 20) 2)
theorem sc_Slope_worth_of : FnScope ["self", "reads"] ["self", "reads"] (defScope s_Slope_worth_of) := ⟨rfl, rfl, rfl, by decide +kernel, rfl, by decide +kernel, by decide +kernel⟩
abbrev s_Slope_limits : Stmt := (inClass (top 20) 3)
theorem sc_Slope_limits : FnScope ["self"] ["self"] (defScope s_Slope_limits) := ⟨rfl, rfl, rfl, by decide +kernel, rfl, by decide +kernel, by decide +kernel⟩
abbrev s_Aim_init : Stmt := (inClass (top 21) 0)
theorem sc_Aim_init : FnScope ["self", "place", "aim", "weight"] ["self", "place", "aim", "weight"] (defScope s_Aim_init) := ⟨rfl, rfl, rfl, by decide +kernel, rfl, by decide +kernel, by decide +kernel⟩
abbrev s_Aim_stands : Stmt := (inClass (top 21) 1)
theorem sc_Aim_stands : FnScope ["self"] ["self"] (defScope s_Aim_stands) := ⟨rfl, rfl, rfl, by decide +kernel, rfl, by decide +kernel, by decide +kernel⟩
abbrev s_Aim_worth_of : Stmt := (inClass (top 21) 2)
theorem sc_Aim_worth_of : FnScope ["self", "reads"] ["self", "reads"] (defScope s_Aim_worth_of) := ⟨rfl, rfl, rfl, by decide +kernel, rfl, by decide +kernel, by decide +kernel⟩
abbrev s_Aim_limits : Stmt := (inClass (top 21) 3)
theorem sc_Aim_limits : FnScope ["self"] ["self"] (defScope s_Aim_limits) := ⟨rfl, rfl, rfl, by decide +kernel, rfl, by decide +kernel, by decide +kernel⟩
abbrev s_Square_init : Stmt := (inClass (top 22) 0)
theorem sc_Square_init : FnScope ["self", "place", "aim", "weight"] ["self", "place", "aim", "weight"] (defScope s_Square_init) := ⟨rfl, rfl, rfl, by decide +kernel, rfl, by decide +kernel, by decide +kernel⟩
abbrev s_Square_stands : Stmt := (inClass (top 22) 1)
theorem sc_Square_stands : FnScope ["self"] ["self"] (defScope s_Square_stands) := ⟨rfl, rfl, rfl, by decide +kernel, rfl, by decide +kernel, by decide +kernel⟩
abbrev s_Square_worth_of : Stmt := (inClass (top 22) 2)
theorem sc_Square_worth_of : FnScope ["self", "reads", "far"] ["self", "reads"] (defScope s_Square_worth_of) := ⟨rfl, rfl, rfl, by decide +kernel, rfl, by decide +kernel, by decide +kernel⟩
abbrev s_Square_limits : Stmt := (inClass (top 22) 3)
theorem sc_Square_limits : FnScope ["self"] ["self"] (defScope s_Square_limits) := ⟨rfl, rfl, rfl, by decide +kernel, rfl, by decide +kernel, by decide +kernel⟩
abbrev s_Row_init : Stmt := (inClass (top 23) 0)
theorem sc_Row_init : FnScope ["self", "place", "first", "worths"] ["self", "place", "first", "worths"] (defScope s_Row_init) := ⟨rfl, rfl, rfl, by decide +kernel, rfl, by decide +kernel, by decide +kernel⟩
abbrev s_Row_stands : Stmt := (inClass (top 23) 1)
theorem sc_Row_stands : FnScope ["self"] ["self"] (defScope s_Row_stands) := ⟨rfl, rfl, rfl, by decide +kernel, rfl, by decide +kernel, by decide +kernel⟩
abbrev s_Row_worth_of : Stmt := (inClass (top 23) 2)
theorem sc_Row_worth_of : FnScope ["self", "reads", "at"] ["self", "reads"] (defScope s_Row_worth_of) := ⟨rfl, rfl, rfl, by decide +kernel, rfl, by decide +kernel, by decide +kernel⟩
abbrev s_Row_limits : Stmt := (inClass (top 23) 3)
theorem sc_Row_limits : FnScope ["self"] ["self"] (defScope s_Row_limits) := ⟨rfl, rfl, rfl, by decide +kernel, rfl, by decide +kernel, by decide +kernel⟩
abbrev s_Wall_init : Stmt := (inClass (top 24) 0)
theorem sc_Wall_init : FnScope ["self", "place", "low", "high"] ["self", "place", "low", "high"] (defScope s_Wall_init) := ⟨rfl, rfl, rfl, by decide +kernel, rfl, by decide +kernel, by decide +kernel⟩
abbrev s_Wall_stands : Stmt := (inClass (top 24) 1)
theorem sc_Wall_stands : FnScope ["self"] ["self"] (defScope s_Wall_stands) := ⟨rfl, rfl, rfl, by decide +kernel, rfl, by decide +kernel, by decide +kernel⟩
abbrev s_Wall_worth_of : Stmt := (inClass (top 24) 2)
theorem sc_Wall_worth_of : FnScope ["self", "reads"] ["self", "reads"] (defScope s_Wall_worth_of) := ⟨rfl, rfl, rfl, by decide +kernel, rfl, by decide +kernel, by decide +kernel⟩
abbrev s_Wall_limits : Stmt := (inClass (top 24) 3)
theorem sc_Wall_limits : FnScope ["self"] ["self"] (defScope s_Wall_limits) := ⟨rfl, rfl, rfl, by decide +kernel, rfl, by decide +kernel, by decide +kernel⟩
abbrev s_check_places : Stmt := (top 26)
theorem sc_check_places : FnScope ["one", "other"] ["one", "other"] (defScope s_check_places) := ⟨rfl, rfl, rfl, by decide +kernel, rfl, by decide +kernel, by decide +kernel⟩
abbrev s_Near_init : Stmt := (inClass (top 27) 0)
theorem sc_Near_init : NdefX.NScope ["self", "one", "other", "aim", "weight", "__class__"] ["self", "one", "other", "aim", "weight"] ["__class__"] (defScope s_Near_init) := NdefX.nscope_by (by decide +kernel)
abbrev s_Near_stands : Stmt := (inClass (top 27) 1)
theorem sc_Near_stands : FnScope ["self"] ["self"] (defScope s_Near_stands) := ⟨rfl, rfl, rfl, by decide +kernel, rfl, by decide +kernel, by decide +kernel⟩
abbrev s_Near_worth_of : Stmt := (inClass (top 27) 2)
theorem sc_Near_worth_of : NdefX.NScope ["self", "reads", "__class__"] ["self", "reads"] ["__class__"] (defScope s_Near_worth_of) := NdefX.nscope_by (by decide +kernel)
abbrev s_Near_limits : Stmt := (inClass (top 27) 3)
theorem sc_Near_limits : NdefX.NScope ["self", "__class__"] ["self"] ["__class__"] (defScope s_Near_limits) := NdefX.nscope_by (by decide +kernel)
abbrev s_Gaps_init : Stmt := (inClass (top 28) 0)
theorem sc_Gaps_init : NdefX.NScope ["self", "one", "other", "first", "worths", "__class__"] ["self", "one", "other", "first", "worths"] ["__class__"] (defScope s_Gaps_init) := NdefX.nscope_by (by decide +kernel)
abbrev s_Gaps_stands : Stmt := (inClass (top 28) 1)
theorem sc_Gaps_stands : FnScope ["self"] ["self"] (defScope s_Gaps_stands) := ⟨rfl, rfl, rfl, by decide +kernel, rfl, by decide +kernel, by decide +kernel⟩
abbrev s_Gaps_worth_of : Stmt := (inClass (top 28) 2)
theorem sc_Gaps_worth_of : NdefX.NScope ["self", "reads", "__class__"] ["self", "reads"] ["__class__"] (defScope s_Gaps_worth_of) := NdefX.nscope_by (by decide +kernel)
abbrev s_Gaps_limits : Stmt := (inClass (top 28) 3)
theorem sc_Gaps_limits : NdefX.NScope ["self", "__class__"] ["self"] ["__class__"] (defScope s_Gaps_limits) := NdefX.nscope_by (by decide +kernel)
abbrev s_Ahead_init : Stmt := (inClass (top 29) 0)
theorem sc_Ahead_init : FnScope ["self", "one", "other", "gap"] ["self", "one", "other", "gap"] (defScope s_Ahead_init) := ⟨rfl, rfl, rfl, by decide +kernel, rfl, by decide +kernel, by decide +kernel⟩
abbrev s_Ahead_stands : Stmt := (inClass (top 29) 1)
theorem sc_Ahead_stands : FnScope ["self"] ["self"] (defScope s_Ahead_stands) := ⟨rfl, rfl, rfl, by decide +kernel, rfl, by decide +kernel, by decide +kernel⟩
abbrev s_Ahead_worth_of : Stmt := (inClass (top 29) 2)
theorem sc_Ahead_worth_of : FnScope ["self", "reads"] ["self", "reads"] (defScope s_Ahead_worth_of) := ⟨rfl, rfl, rfl, by decide +kernel, rfl, by decide +kernel, by decide +kernel⟩
abbrev s_Ahead_limits : Stmt := (inClass (top 29) 3)
theorem sc_Ahead_limits : FnScope ["self"] ["self"] (defScope s_Ahead_limits) := ⟨rfl, rfl, rfl, by decide +kernel, rfl, by decide +kernel, by decide +kernel⟩
abbrev s_wraps_around : Stmt := (top 34)
theorem sc_wraps_around : FnScope ["part"] ["part"] (defScope s_wraps_around) := ⟨rfl, rfl, rfl, by decide +kernel, rfl, by decide +kernel, by decide +kernel⟩
abbrev s_check_wrapped : Stmt := (top 35)
theorem sc_check_wrapped : FnScope ["part"] ["part"] (defScope s_check_wrapped) := ⟨rfl, rfl, rfl, by decide +kernel, rfl, by decide +kernel, by decide +kernel⟩
abbrev s_moved_limit : Stmt := (top 36)
theorem sc_moved_limit : FnScope ["limit", "by"] ["limit", "by"] (defScope s_moved_limit) := ⟨rfl, rfl, rfl, by decide +kernel, rfl, by decide +kernel, by decide +kernel⟩
abbrev s_Times_init : Stmt := (inClass (top 37) 0)
theorem sc_Times_init : FnScope ["self", "part", "many"] ["self", "part", "many"] (defScope s_Times_init) := ⟨rfl, rfl, rfl, by decide +kernel, rfl, by decide +kernel, by decide +kernel⟩
abbrev s_Times_stands : Stmt := (inClass (top 37) 1)
theorem sc_Times_stands : FnScope ["self"] ["self"] (defScope s_Times_stands) := ⟨rfl, rfl, rfl, by decide +kernel, rfl, by decide +kernel, by decide +kernel⟩
abbrev s_Times_worth_of : Stmt := (inClass (top 37) 2)
theorem sc_Times_worth_of : FnScope ["self", "reads", "worth"] ["self", "reads"] (defScope s_Times_worth_of) := ⟨rfl, rfl, rfl, by decide +kernel, rfl, by decide +kernel, by decide +kernel⟩
abbrev s_Times_limits : Stmt := (inClass (top 37) 3)
theorem sc_Times_limits : FnScope ["self"] ["self"] (defScope s_Times_limits) := ⟨rfl, rfl, rfl, by decide +kernel, rfl, by decide +kernel, by decide +kernel⟩
abbrev s_Moved_init : Stmt := (inClass (top 38) 0)
theorem sc_Moved_init : FnScope ["self", "part", "by"] ["self", "part", "by"] (defScope s_Moved_init) := ⟨rfl, rfl, rfl, by decide +kernel, rfl, by decide +kernel, by decide +kernel⟩
abbrev s_Moved_stands : Stmt := (inClass (top 38) 1)
theorem sc_Moved_stands : FnScope ["self"] ["self"] (defScope s_Moved_stands) := ⟨rfl, rfl, rfl, by decide +kernel, rfl, by decide +kernel, by decide +kernel⟩
abbrev s_Moved_worth_of : Stmt := (inClass (top 38) 2)
theorem sc_Moved_worth_of : FnScope ["self", "reads"] ["self", "reads"] (defScope s_Moved_worth_of) := ⟨rfl, rfl, rfl, by decide +kernel, rfl, by decide +kernel, by decide +kernel⟩
abbrev s_Moved_limits : Stmt := (inClass (top 38) 3)
theorem sc_Moved_limits : FnScope ["self", "least", "greatest"] ["self"] (defScope s_Moved_limits) := ⟨rfl, rfl, rfl, by decide +kernel, rfl, by decide +kernel, by decide +kernel⟩
abbrev s_law_cell_at : Stmt := (top 40)
theorem sc_law_cell_at : FnScope ["_law_script", "_law_k"] ["_law_script", "_law_k"] (defScope s_law_cell_at) := ⟨rfl, rfl, rfl, by decide +kernel, rfl, by decide +kernel, by decide +kernel⟩
abbrev s_law_numbers : Stmt := (top 41)
theorem sc_law_numbers : FnScope ["_law_cell", "_law_bounds", "_law_left", "_law_found", "_law_bound"] ["_law_cell", "_law_bounds"] (defScope s_law_numbers) := ⟨rfl, rfl, rfl, by decide +kernel, rfl, by decide +kernel, by decide +kernel⟩
abbrev s_law_worths : Stmt := (top 42)
theorem sc_law_worths : FnScope ["_law_digits", "_law_scale", "_law_worths_here", "_law_step", "_law_more"] ["_law_digits", "_law_scale"] (defScope s_law_worths) := ⟨rfl, rfl, rfl, by decide +kernel, rfl, by decide +kernel, by decide +kernel⟩
abbrev s_law_single : Stmt := (top 43)
theorem sc_law_single : FnScope ["_law_digits", "_law_bottom", "_law_kind", "_law_aim", "_law_scale", "_law_shut"] ["_law_digits", "_law_bottom"] (defScope s_law_single) := ⟨rfl, rfl, rfl, by decide +kernel, rfl, by decide +kernel, by decide +kernel⟩
abbrev s_law_double : Stmt := (top 44)
theorem sc_law_double : FnScope ["_law_digits", "_law_kind", "_law_scale"] ["_law_digits"] (defScope s_law_double) := ⟨rfl, rfl, rfl, by decide +kernel, rfl, by decide +kernel, by decide +kernel⟩
abbrev s_law_part : Stmt := (top 45)
theorem sc_law_part : FnScope ["_law_cell", "_law_many", "_law_bottom", "_law_top", "_law_bounds", "_law_digits", "_law_where", "_law_word", "_law_numbers_here", "_law_by", "_law_some"] ["_law_cell", "_law_many", "_law_bottom", "_law_top"] (defScope s_law_part) := ⟨rfl, rfl, rfl, by decide +kernel, rfl, by decide +kernel, by decide +kernel⟩
abbrev s_law_at : Stmt := (top 46)
theorem sc_law_at : FnScope ["_law_part_here", "_law_reads", "_law_word", "_law_where", "_law_numbers_here", "_law_wraps", "_law_many", "_law_wrap", "_law_number", "_law_far", "_law_at_here"] ["_law_part_here", "_law_reads"] (defScope s_law_at) := ⟨rfl, rfl, rfl, by decide +kernel, rfl, by decide +kernel, by decide +kernel⟩
abbrev s_law_base : Stmt := (top 47)
theorem sc_law_base : FnScope ["_law_part_here", "_law_word", "_law_where", "_law_numbers_here", "_law_wraps"] ["_law_part_here"] (defScope s_law_base) := ⟨rfl, rfl, rfl, by decide +kernel, rfl, by decide +kernel, by decide +kernel⟩
abbrev s_law_made : Stmt := (top 48)
theorem sc_law_made : FnScope ["_law_part_here", "_law_found", "_law_wrap", "_law_number"] ["_law_part_here"] (defScope s_law_made) := ⟨rfl, rfl, rfl, by decide +kernel, rfl, by decide +kernel, by decide +kernel⟩
abbrev s_law_ends : Stmt := (top 49)
theorem sc_law_ends : FnScope ["_law_part_here", "_law_some", "_law_word", "_law_under", "_law_over", "_law_reads"] ["_law_part_here"] (defScope s_law_ends) := ⟨rfl, rfl, rfl, by decide +kernel, rfl, by decide +kernel, by decide +kernel⟩
abbrev s_law_right : Stmt := (top 50)
theorem sc_law_right : FnScope ["_law_part_here", "_law_cell", "_law_found", "_law_reads", "_law_due", "_law_told"] ["_law_part_here", "_law_cell"] (defScope s_law_right) := ⟨rfl, rfl, rfl, by decide +kernel, rfl, by decide +kernel, by decide +kernel⟩
abbrev s_law_classes : Stmt := (top 51)
theorem sc_law_classes : FnScope ["_law_cell", "_law_worths_here", "_law_row", "_law_gaps", "_law_near", "_law_reads"] ["_law_cell"] (defScope s_law_classes) := ⟨rfl, rfl, rfl, by decide +kernel, rfl, by decide +kernel, by decide +kernel⟩
abbrev s_law : Stmt := (top 52)
theorem sc_law : FnScope ["_law_script", "_law_k", "_law_cell"] ["_law_script"] (defScope s_law) := ⟨rfl, rfl, rfl, by decide +kernel, rfl, by decide +kernel, by decide +kernel⟩
/-- the module's names -/
structure Txt (K : PySem.W.Frag) (mg : Str → Option Value) (C : Str → Addr) : Prop where
  b_abs : mg "abs" = none
  b_bool : mg "bool" = none
  b_int : mg "int" = none
  b_isinstance : mg "isinstance" = none
  b_len : mg "len" = none
  b_list : mg "list" = none
  b_max : mg "max" = none
  b_range : mg "range" = none
  b_tuple : mg "tuple" = none
  g_LAST_PLACE : ∃ u, mg "LAST_PLACE" = some u ∧ RelV (.int 7) u
  g_WEIGHT : ∃ u, mg "WEIGHT" = some u ∧ RelV (.int 1000) u
  g_REACH : ∃ u, mg "REACH" = some u ∧ RelV (.int 100) u
  g_LONGEST : ∃ u, mg "LONGEST" = some u ∧ RelV (.int 40) u
  g_WORTH : ∃ u, mg "WORTH" = some u ∧ RelV (.int 1000000) u
  g_MOST_WRAPS : ∃ u, mg "MOST_WRAPS" = some u ∧ RelV (.int 8) u
  g_MOST_TIMES : ∃ u, mg "MOST_TIMES" = some u ∧ RelV (.int 100) u
  g_FARTHEST : ∃ u, mg "FARTHEST" = some u ∧ RelV (.int 100) u
  g_Part : ∃ u, mg "Part" = some u ∧ RelV (.ref (C "Part")) u
  g_Slope : ∃ u, mg "Slope" = some u ∧ RelV (.ref (C "Slope")) u
  g_Aim : ∃ u, mg "Aim" = some u ∧ RelV (.ref (C "Aim")) u
  g_Square : ∃ u, mg "Square" = some u ∧ RelV (.ref (C "Square")) u
  g_Row : ∃ u, mg "Row" = some u ∧ RelV (.ref (C "Row")) u
  g_Wall : ∃ u, mg "Wall" = some u ∧ RelV (.ref (C "Wall")) u
  g_Near : ∃ u, mg "Near" = some u ∧ RelV (.ref (C "Near")) u
  g_Gaps : ∃ u, mg "Gaps" = some u ∧ RelV (.ref (C "Gaps")) u
  g_Ahead : ∃ u, mg "Ahead" = some u ∧ RelV (.ref (C "Ahead")) u
  g_Times : ∃ u, mg "Times" = some u ∧ RelV (.ref (C "Times")) u
  g_Moved : ∃ u, mg "Moved" = some u ∧ RelV (.ref (C "Moved")) u
end Ev

/-! the parts as data -/
namespace Ev
open PySem L2 Ax

def absI (i : Int) : Int := if i < 0 then -i else i
inductive PD where
  | slope (p w : Int) | aim (p a w : Int) | square (p a w : Int) | row (p f : Int) (ws : List Int) | wall (p lo hi : Int)
  | near (o t a w : Int) | gaps (o t f : Int) (ws : List Int) | ahead (o t g : Int)
  | times (q : PD) (m : Int) | moved (q : PD) (b : Int)
def rowAt (f : Int) (ws : List Int) (x : Int) : Option Int := if 0 ≤ x - f then ws[(x - f).toNat]? else none
def PD.worth : PD → Int → Option Int
  | .slope _ w, x => some (w * x)
  | .aim _ a w, x => some (w * absI (x - a))
  | .square _ a w, x => some (w * (x - a) * (x - a))
  | .row _ f ws, x => rowAt f ws x
  | .wall _ lo hi, x => if lo ≤ x ∧ x ≤ hi then some 0 else none
  | .near _ _ a w, x => some (w * absI (x - a))
  | .gaps _ _ f ws, x => rowAt f ws x
  | .ahead _ _ g, x => if x ≤ g then some 0 else none
  | .times q m, x => (q.worth x).map fun y => m * y
  | .moved q b, x => q.worth (x - b)
def PD.limits : PD → Option Int × Option Int
  | .row _ f ws => (some f, some (f + (ws.length : Int) - 1))
  | .wall _ lo hi => (some lo, some hi)
  | .gaps _ _ f ws => (some f, some (f + (ws.length : Int) - 1))
  | .ahead _ _ g => (none, some g)
  | .times q _ => q.limits
  | .moved q b => (q.limits.1.map fun y => y + b, q.limits.2.map fun y => y + b)
  | _ => (none, none)
def PD.stands : PD → List Int
  | .slope p _ => [p]
  | .aim p _ _ => [p]
  | .square p _ _ => [p]
  | .row p _ _ => [p]
  | .wall p _ _ => [p]
  | .near o t _ _ => [o, t]
  | .gaps o t _ _ => [o, t]
  | .ahead o t _ => [o, t]
  | .times q _ => q.stands
  | .moved q _ => q.stands
def PD.wraps : PD → Nat
  | .times q _ => q.wraps + 1
  | .moved q _ => q.wraps + 1
  | _ => 0
def PD.cls : PD → Str
  | .slope .. => "Slope" | .aim .. => "Aim" | .square .. => "Square" | .row .. => "Row" | .wall .. => "Wall"
  | .near .. => "Near" | .gaps .. => "Gaps" | .ahead .. => "Ahead" | .times .. => "Times" | .moved .. => "Moved"
def clss : List Str := ["Slope", "Aim", "Square", "Row", "Wall", "Near", "Gaps", "Ahead", "Times", "Moved"]
def flds : List Str := ["place", "weight", "aim", "first", "worths", "low", "high", "other", "one", "gap", "part", "many", "by", "wraps"]
theorem PD.cls_mem (pd : PD) : pd.cls ∈ clss := by
  cases pd <;> (unfold PD.cls clss; simp)
def Plc (p : Int) : Prop := 0 ≤ p ∧ p ≤ 7
def Rch (p : Int) : Prop := -100 ≤ p ∧ p ≤ 100
def Even (ws : List Int) : Prop := ∀ i : Nat, i + 2 < ws.length → 2 * ws.getD (i + 1) 0 ≤ ws.getD i 0 + ws.getD (i + 2) 0
structure RowOk (f : Int) (ws : List Int) : Prop where
  f : Rch f
  l1 : 1 ≤ ws.length
  l2 : ws.length ≤ 40
  wb : ∀ x ∈ ws, -1000000 ≤ x ∧ x ≤ 1000000
  ev : Even ws
def PD.ok : PD → Prop
  | .slope p w => Plc p ∧ -1000 ≤ w ∧ w ≤ 1000
  | .aim p a w => Plc p ∧ Rch a ∧ 0 ≤ w ∧ w ≤ 1000
  | .square p a w => Plc p ∧ Rch a ∧ 0 ≤ w ∧ w ≤ 1000
  | .row p f ws => Plc p ∧ RowOk f ws
  | .wall p lo hi => Plc p ∧ Rch lo ∧ Rch hi ∧ lo ≤ hi
  | .near o t a w => Plc o ∧ Plc t ∧ o ≠ t ∧ Rch a ∧ 0 ≤ w ∧ w ≤ 1000
  | .gaps o t f ws => Plc o ∧ Plc t ∧ o ≠ t ∧ RowOk f ws
  | .ahead o t g => Plc o ∧ Plc t ∧ o ≠ t ∧ Rch g
  | .times q m => q.ok ∧ q.wraps < 8 ∧ 1 ≤ m ∧ m ≤ 100
  | .moved q b => q.ok ∧ q.wraps < 8 ∧ Rch b
def Rd (n : Nat) (x : Int) : Prop := -(2 ^ 60 - 100 * (n : Int)) ≤ x ∧ x ≤ 2 ^ 60 - 100 * (n : Int)

def vO : Option Int → V
  | none => .non
  | some i => .int i

/-! how a part stands in the heap -/
abbrev Flds := List (Str × V)
abbrev lk (fs : Flds) (f : Str) : Option V := fs.lookup f
def fSlope (p w : Int) : Flds := [("place", .int p), ("weight", .int w)]
def fAim (p a w : Int) : Flds := [("place", .int p), ("aim", .int a), ("weight", .int w)]
def fRow (p f : Int) (t : Addr) : Flds := [("place", .int p), ("first", .int f), ("worths", .ref t)]
def fWall (p lo hi : Int) : Flds := [("place", .int p), ("low", .int lo), ("high", .int hi)]
def fNear (o t a w : Int) : Flds := [("place", .int o), ("aim", .int a), ("weight", .int w), ("other", .int t)]
def fGaps (o u f : Int) (t : Addr) : Flds := [("place", .int o), ("first", .int f), ("worths", .ref t), ("other", .int u)]
def fAhead (o t g : Int) : Flds := [("one", .int o), ("other", .int t), ("gap", .int g)]
def fTimes (r : Addr) (m n : Int) : Flds := [("part", .ref r), ("many", .int m), ("wraps", .int n)]
def fMoved (r : Addr) (b n : Int) : Flds := [("part", .ref r), ("by", .int b), ("wraps", .int n)]

def PartAt (C : Str → Addr) (H : Hp) : PD → Addr → Prop
  | .slope p w, a => ∃ dx, H a = some (.ins (C "Slope") dx (fSlope p w))
  | .aim p b w, a => ∃ dx, H a = some (.ins (C "Aim") dx (fAim p b w))
  | .square p b w, a => ∃ dx, H a = some (.ins (C "Square") dx (fAim p b w))
  | .row p f ws, a => ∃ dx t, H a = some (.ins (C "Row") dx (fRow p f t)) ∧ H t = some (.tup (ws.map V.int))
  | .wall p lo hi, a => ∃ dx, H a = some (.ins (C "Wall") dx (fWall p lo hi))
  | .near o t b w, a => ∃ dx, H a = some (.ins (C "Near") dx (fNear o t b w))
  | .gaps o u f ws, a => ∃ dx t, H a = some (.ins (C "Gaps") dx (fGaps o u f t)) ∧ H t = some (.tup (ws.map V.int))
  | .ahead o t g, a => ∃ dx, H a = some (.ins (C "Ahead") dx (fAhead o t g))
  | .times q m, a => ∃ dx r, H a = some (.ins (C "Times") dx (fTimes r m ((q.wraps + 1 : Nat) : Int))) ∧ PartAt C H q r
  | .moved q b, a => ∃ dx r, H a = some (.ins (C "Moved") dx (fMoved r b ((q.wraps + 1 : Nat) : Int))) ∧ PartAt C H q r
theorem PartAt.same {C : Str → Addr} {H H' : Hp} (s : Same H H') : ∀ {pd : PD} {a : Addr}, PartAt C H pd a → PartAt C H' pd a
  | .slope .., _, ⟨dx, h⟩ => ⟨dx, s _ _ h⟩
  | .aim .., _, ⟨dx, h⟩ => ⟨dx, s _ _ h⟩
  | .square .., _, ⟨dx, h⟩ => ⟨dx, s _ _ h⟩
  | .row .., _, ⟨dx, t, h, h2⟩ => ⟨dx, t, s _ _ h, s _ _ h2⟩
  | .wall .., _, ⟨dx, h⟩ => ⟨dx, s _ _ h⟩
  | .near .., _, ⟨dx, h⟩ => ⟨dx, s _ _ h⟩
  | .gaps .., _, ⟨dx, t, h, h2⟩ => ⟨dx, t, s _ _ h, s _ _ h2⟩
  | .ahead .., _, ⟨dx, h⟩ => ⟨dx, s _ _ h⟩
  | .times .., _, ⟨dx, r, h, h2⟩ => ⟨dx, r, s _ _ h, PartAt.same s h2⟩
  | .moved .., _, ⟨dx, r, h, h2⟩ => ⟨dx, r, s _ _ h, PartAt.same s h2⟩
/-- an attribute that no part has -/
def noF (m : Str) : Prop := ∀ f ∈ flds, (m == f) = false
theorem lookup_no {m : Str} (n : noF m) : ∀ {fs : Flds}, (∀ p ∈ fs, p.1 ∈ flds) → fs.lookup m = none
  | [], _ => rfl
  | (f, v) :: r, h => by
    rw [List.lookup_cons, n f (h _ List.mem_cons_self)]
    exact lookup_no n fun p hp => h p (List.mem_cons_of_mem _ hp)
theorem noF_of {m : Str} (h : flds.all (fun f => !(m == f)) = true) : noF m := fun f hf => by
  have := List.all_eq_true.mp h f hf
  simpa using this
theorem no_stands : noF "stands" := noF_of (by decide +kernel)
theorem no_worth : noF "worth_of" := noF_of (by decide +kernel)
theorem no_limits : noF "limits" := noF_of (by decide +kernel)
theorem PartAt.ins {C : Str → Addr} {H : Hp} : ∀ {pd : PD} {a : Addr}, PartAt C H pd a → ∃ dx fs, H a = some (.ins (C pd.cls) dx fs) ∧ ∀ p ∈ fs, p.1 ∈ flds
  | .slope .., _, ⟨dx, h⟩ => ⟨dx, _, h, by intro p hp; simp [fSlope] at hp; rcases hp with rfl | rfl <;> simp [flds]⟩
  | .aim .., _, ⟨dx, h⟩ => ⟨dx, _, h, by intro p hp; simp [fAim] at hp; rcases hp with rfl | rfl | rfl <;> simp [flds]⟩
  | .square .., _, ⟨dx, h⟩ => ⟨dx, _, h, by intro p hp; simp [fAim] at hp; rcases hp with rfl | rfl | rfl <;> simp [flds]⟩
  | .row .., _, ⟨dx, t, h, h2⟩ => ⟨dx, _, h, by intro p hp; simp [fRow] at hp; rcases hp with rfl | rfl | rfl <;> simp [flds]⟩
  | .wall .., _, ⟨dx, h⟩ => ⟨dx, _, h, by intro p hp; simp [fWall] at hp; rcases hp with rfl | rfl | rfl <;> simp [flds]⟩
  | .near .., _, ⟨dx, h⟩ => ⟨dx, _, h, by intro p hp; simp [fNear] at hp; rcases hp with rfl | rfl | rfl | rfl <;> simp [flds]⟩
  | .gaps .., _, ⟨dx, t, h, h2⟩ => ⟨dx, _, h, by intro p hp; simp [fGaps] at hp; rcases hp with rfl | rfl | rfl | rfl <;> simp [flds]⟩
  | .ahead .., _, ⟨dx, h⟩ => ⟨dx, _, h, by intro p hp; simp [fAhead] at hp; rcases hp with rfl | rfl | rfl <;> simp [flds]⟩
  | .times .., _, ⟨dx, r, h, h2⟩ => ⟨dx, _, h, by intro p hp; simp [fTimes] at hp; rcases hp with rfl | rfl | rfl <;> simp [flds]⟩
  | .moved .., _, ⟨dx, r, h, h2⟩ => ⟨dx, _, h, by intro p hp; simp [fMoved] at hp; rcases hp with rfl | rfl | rfl <;> simp [flds]⟩

/-- a list that changes is no object of a part -/
theorem PartAt.updL {C : Str → Addr} {H : Hp} {l : Addr} {xs : List V} {u : HO} (hl : H l = some (.lst xs)) : ∀ {pd : PD} {a : Addr}, PartAt C H pd a → PartAt C (upd H l u) pd a := by
  have key : ∀ {b : Addr} {o : HO}, H b = some o → (o ≠ .lst xs) → upd H l u b = some o := fun {b o} h n => by
    rw [upd_ne (ne_of h hl n)]
    exact h
  intro pd
  induction pd with
  | slope => rintro a ⟨dx, h⟩; exact ⟨dx, key h (by intro z; cases z)⟩
  | aim => rintro a ⟨dx, h⟩; exact ⟨dx, key h (by intro z; cases z)⟩
  | square => rintro a ⟨dx, h⟩; exact ⟨dx, key h (by intro z; cases z)⟩
  | row => rintro a ⟨dx, t, h, h2⟩; exact ⟨dx, t, key h (by intro z; cases z), key h2 (by intro z; cases z)⟩
  | wall => rintro a ⟨dx, h⟩; exact ⟨dx, key h (by intro z; cases z)⟩
  | near => rintro a ⟨dx, h⟩; exact ⟨dx, key h (by intro z; cases z)⟩
  | gaps => rintro a ⟨dx, t, h, h2⟩; exact ⟨dx, t, key h (by intro z; cases z), key h2 (by intro z; cases z)⟩
  | ahead => rintro a ⟨dx, h⟩; exact ⟨dx, key h (by intro z; cases z)⟩
  | times q m ih => rintro a ⟨dx, r, h, h2⟩; exact ⟨dx, r, key h (by intro z; cases z), ih h2⟩
  | moved q m ih => rintro a ⟨dx, r, h, h2⟩; exact ⟨dx, r, key h (by intro z; cases z), ih h2⟩
/-- what the heap keeps but the object p -/
def But (p : Addr) (H H' : Hp) : Prop := ∀ b o, b ≠ p → H b = some o → H' b = some o
theorem But.refl (p : Addr) (H : Hp) : But p H H := fun _ _ _ h => h
theorem But.trans {p : Addr} {H H1 H2 : Hp} (a : But p H H1) (b : But p H1 H2) : But p H H2 := fun c o n h => b c o n (a c o n h)
theorem But.of {p : Addr} {H H' : Hp} (s : Same H H') : But p H H' := fun b o _ h => s b o h
theorem But.upd {p : Addr} {H : Hp} {o : HO} : But p H (upd H p o) := fun b _ n h => by rw [upd_ne n]; exact h
theorem Same.upd {p : Addr} {H : Hp} {o : HO} (h : H p = none) : Same H (upd H p o) := fun b _ e => by rw [upd_ne (ne_of_none e h)]; exact e
/-- a new instance at x, its dict at dx -/
theorem Same.new {H : Hp} {x dx : Addr} {C : Addr} {fs : Flds} (hx : H x = none) (hd : H dx = none) : Same H (L2.upd (L2.upd H dx (.own x)) x (.ins C dx fs)) := fun b o e => by
  rw [upd_ne (ne_of_none e hx), upd_ne (ne_of_none e hd)]
  exact e
theorem Same.made {H H' : Hp} {x dx : Addr} {C : Addr} {fs : Flds} (hx : H x = none) (hd : H dx = none) (b : But x (L2.upd (L2.upd H dx (.own x)) x (.ins C dx fs)) H') : Same H H' := fun a o e =>
  b a o (ne_of_none e hx) (Same.new hx hd a o e)

/-- what of the classes is asked -/
structure ClsT (K : PySem.W.Frag) (C : Str → Addr) : Prop where
  cl : ∀ c ∈ clss, Cls K (C c)
  na : ∀ c ∈ clss, ∀ f ∈ flds, NoAttr K (C c) f
section
variable {K : PySem.W.Frag} {C : Str → Addr}
theorem ClsT.clm (T : ClsT K C) (pd : PD) : Cls K (C pd.cls) := T.cl _ pd.cls_mem
end
/-- what isinstance asks of the classes -/
structure IsT (K : PySem.W.Frag) (C : Str → Addr) : Prop where
  cls : ∀ c ∈ clss, PySem.W.findIn K (.ref (C c)) "__class__" = some (some (.builtin "object.__class__"))
  sp : PySem.W.specialIn K (.builtin "object.__class__") "__get__" = some (some (.builtin "getset_descriptor.__get__"))
  tk : PySem.W.takesIn K (.builtin "object.__class__") = some true
  mro : ∀ c ∈ clss, PySem.W.mroIn K (C c) (.type "object") = some true
  par : ∀ c ∈ clss, PySem.W.kitOne K (.ref (C c)) (.ref (C "Part")) = some true
  tim : ∀ c ∈ clss, PySem.W.kitOne K (.ref (C c)) (.ref (C "Times")) = some (c == "Times")
  mov : ∀ c ∈ clss, PySem.W.kitOne K (.ref (C c)) (.ref (C "Moved")) = some (c == "Moved")
/-- two bases more -/
structure IsT2 (K : PySem.W.Frag) (C : Str → Addr) : Prop where
  na : PySem.W.kitOne K (.ref (C "Near")) (.ref (C "Aim")) = some true
  gr : PySem.W.kitOne K (.ref (C "Gaps")) (.ref (C "Row")) = some true
theorem ty_of {K : PySem.W.Frag} {C : Str → Addr} (IT : IsT K C) (TC : ClsT K C) {H : Hp} {a dx : Addr} {c : Str} {fs : Flds} (hc : c ∈ clss) (h : H a = some (.ins (C c) dx fs)) : TyX K H (.ref a) (.ref (C c)) :=
  .base (.ins h (TC.cl c hc) (IT.cls c hc) IT.sp IT.tk (IT.mro c hc))
theorem Met.mono {P : Program} {w : World} {K : PySem.W.Frag} {mg : Str → Option Value} {base : Heap} {j k : Nat} {C : Addr} {m : Str} {sp : Sp} {dvs : List V} (c : C8.Met P w K mg base j C m sp dvs) (h : j ≤ k) : C8.Met P w K mg base k C m sp dvs := by
  obtain ⟨f, fd, ps, ds, a, b, F, d, e⟩ := c.ex
  exact ⟨f, fd, ps, ds, a, b, F.mono h, d, e⟩
theorem Met.imp {P : Program} {w : World} {K : PySem.W.Frag} {mg : Str → Option Value} {base : Heap} {k : Nat} {C : Addr} {m : Str} {sp sp' : Sp} {dvs : List V} (c : C8.Met P w K mg base k C m sp dvs) (h : ∀ vs H Q E, sp' vs H Q E → sp vs H Q E) : C8.Met P w K mg base k C m sp' dvs := by
  obtain ⟨f, fd, ps, ds, a, b, F, d, e⟩ := c.ex
  exact ⟨f, fd, ps, ds, a, b, F.imp h, d, e⟩
end Ev

namespace Ev
open PySem L2 Ax
section
variable {P : Program} {w : World} {K : PySem.W.Frag} {mg : Str → Option Value} {base : Heap} {C : Str → Addr} {f : Addr} {fd : FuncData}
def spIsNumber : Sp := fun vs H Q _ => ∃ n : Int, vs = [.int n] ∧ Q (.bl true) H
def spIsNumberFrom : Sp := fun vs H Q _ => ∃ n lo hi : Int, vs = [.int n, .int lo, .int hi] ∧ lo ≤ n ∧ n ≤ hi ∧ Q (.bl true) H
def spCheckNumber : Sp := fun vs H Q _ => ∃ (n lo hi : Int) (nm : Str), vs = [.int n, .int lo, .int hi, .str nm] ∧ lo ≤ n ∧ n ≤ hi ∧ Q .non H
theorem ok_is_number (T : Txt K mg C) (F : C8.Def K mg "is_number" s_is_number f fd) (b : Binds K fd ["value"] []) : C8.Cal P w K mg base 1 "is_number" spIsNumber [] := by
  refine C8.cal0 F b .nil sc_is_number (fun vs H Q E h => ?_) (fun cdv A outer s H vs Q E hr h => ?_)
  · obtain ⟨n, rfl, _⟩ := h
    rfl
  · obtain ⟨n, rfl, k⟩ := h
    refine ⟨_, (pss_one (ps_ret (pe_and (pe_callB call_isi (by rfl) T.b_isinstance (by decide +kernel) (pa_cons (pv 0) (pa_cons (pe_bltn (v := .ty "int") (u := .type "int") (by rfl) T.b_int (by decide +kernel) rfl) pa_nil))) (pe_one (pe_not (pe_callB call_isi (by rfl) T.b_isinstance (by decide +kernel) (pa_cons (pv 0) (pa_cons (pe_bltn (v := .ty "bool") (u := .type "bool") (by rfl) T.b_bool (by decide +kernel) rfl) pa_nil)))))))), ?_⟩
    refine ⟨_, rfl, _, _, _, _, true, rfl, .ty _, .base (.int _), kit_ty (by decide +kernel), _, rfl, ?_⟩
    refine iteT ?_
    refine ⟨_, rfl, _, _, _, _, false, rfl, .ty _, .base (.int _), kit_ty (by decide +kernel), _, rfl, ?_⟩
    exact k
theorem ok_is_number_from (T : Txt K mg C) (c_is_number : C8.Cal P w K mg base 1 "is_number" spIsNumber []) (F : C8.Def K mg "is_number_from" s_is_number_from f fd) (b : Binds K fd ["value", "low", "high"] []) : C8.Cal P w K mg base 2 "is_number_from" spIsNumberFrom [] := by
  refine C8.cal0 F b .nil sc_is_number_from (fun vs H Q E h => ?_) (fun cdv A outer s H vs Q E hr h => ?_)
  · obtain ⟨_, _, _, rfl, _⟩ := h
    rfl
  · obtain ⟨n, lo, hi, rfl, h1, h2, k⟩ := h
    refine ⟨_, (pss_one (ps_ret (pe_and (C8.pe_c c_is_number hr (by decide) rfl (pa_cons (pv 0) pa_nil)) (pe_one (pe_chain op_le op_le (pv 1) (pv 0) (pv 2)))))), ?_⟩
    refine ⟨_, rfl, _, rfl, _, rfl, ?_⟩
    refine iteT ?_
    refine ⟨_, rfl, _, rfl, _, _, rfl, rfl, _, rfl, ?_⟩
    rw [decide_eq_true h1]
    refine iteT ?_
    refine ⟨_, rfl, _, _, rfl, rfl, ?_⟩
    show Q (V.bl (decide (n ≤ hi))) H
    rw [decide_eq_true h2]
    exact k
theorem ok_check_number (T : Txt K mg C) (c_is_number_from : C8.Cal P w K mg base 2 "is_number_from" spIsNumberFrom []) (F : C8.Def K mg "check_number" s_check_number f fd) (b : Binds K fd ["value", "low", "high", "name"] []) : C8.Cal P w K mg base 3 "check_number" spCheckNumber [] := by
  refine C8.cal0 F b .nil sc_check_number (fun vs H Q E h => ?_) (fun cdv A outer s H vs Q E hr h => ?_)
  · obtain ⟨_, _, _, _, rfl, _⟩ := h
    rfl
  · obtain ⟨n, lo, hi, nm, rfl, h1, h2, k⟩ := h
    refine ⟨_, (pss_one (ps_if (pt_not (pt_val (C8.pe_c c_is_number_from hr (by decide) rfl (pa_cons (pv 0) (pa_cons (pv 1) (pa_cons (pv 2) pa_nil)))))) (pss_one ps_never) pss_nil)), ?_⟩
    refine ⟨_, rfl, _, rfl, _, rfl, _, _, _, rfl, h1, h2, _, rfl, ?_⟩
    exact k
end
end Ev

namespace Ev
open PySem L2 Ax
section
variable {P : Program} {w : World} {K : PySem.W.Frag} {mg : Str → Option Value} {base : Heap} {C : Str → Addr} {f : Addr} {fd : FuncData}

theorem int_item {ws : List Int} {i : Nat} {y : V} (h : (ws.map V.int)[i]? = some y) : ∃ u, ws[i]? = some u ∧ y = V.int u := by
  rw [List.getElem?_map] at h
  cases e : ws[i]? with
  | none => rw [e] at h; cases h
  | some u => rw [e] at h; exact ⟨u, rfl, (Option.some.inj h).symm⟩
theorem at_int {ws : List Int} {i : Nat} (h : i < ws.length) : atI (ws.map V.int) ((i : Nat) : Int) = some (V.int (ws.getD i 0)) := by
  refine atI_nat ?_
  rw [List.getElem?_map, List.getElem?_eq_getElem h, List.getD_eq_getElem?_getD, List.getElem?_eq_getElem h]
  rfl

def spCheckPlace : Sp := fun vs H Q _ => ∃ n : Int, vs = [.int n] ∧ Plc n ∧ Q .non H
def spCheckReach : Sp := fun vs H Q _ => ∃ (n : Int) (nm : Str), vs = [.int n, .str nm] ∧ Rch n ∧ Q .non H
def spCheckAim : Sp := fun vs H Q _ => ∃ p a w : Int, vs = [.int p, .int a, .int w] ∧ Plc p ∧ Rch a ∧ 0 ≤ w ∧ w ≤ 1000 ∧ Q .non H
def spCheckPlaces : Sp := fun vs H Q _ => ∃ o t : Int, vs = [.int o, .int t] ∧ Plc o ∧ Plc t ∧ o ≠ t ∧ Q .non H
def spCheckWorths (K : PySem.W.Frag) : Sp := fun vs H Q _ => ∃ (a : Addr) (ws : List Int), vs = [.ref a] ∧ H a = some (.lst (ws.map V.int)) ∧ 1 ≤ ws.length ∧ ws.length ≤ 40 ∧ (∀ x ∈ ws, -1000000 ≤ x ∧ x ≤ 1000000) ∧ Q .non H
def spCheckBends (K : PySem.W.Frag) : Sp := fun vs H Q _ => ∃ (a : Addr) (ws : List Int), vs = [.ref a] ∧ H a = some (.lst (ws.map V.int)) ∧ ws.length ≤ 40 ∧ Even ws ∧ Q .non H

theorem ok_check_place (T : Txt K mg C) (c_check_number : C8.Cal P w K mg base 3 "check_number" spCheckNumber []) (F : C8.Def K mg "check_place" s_check_place f fd) (b : Binds K fd ["place"] []) : C8.Cal P w K mg base 4 "check_place" spCheckPlace [] := by
  refine C8.cal0 F b .nil sc_check_place (fun vs H Q E h => ?_) (fun cdv A outer s H vs Q E hr h => ?_)
  · obtain ⟨n, rfl, h1, k⟩ := h
    rfl
  · obtain ⟨n, rfl, h1, k⟩ := h
    refine ⟨_, (pss_one (ps_expr (C8.pe_c c_check_number hr (by decide) rfl (pa_cons (pv 0) (pa_cons pe_int (pa_cons (C8.pe_gc rfl T.g_LAST_PLACE) (pa_cons pe_str pa_nil))))))), ?_⟩
    refine ⟨_, rfl, _, _, _, _, rfl, h1.1, h1.2, ?_⟩
    exact k

theorem ok_check_reach (T : Txt K mg C) (c_check_number : C8.Cal P w K mg base 3 "check_number" spCheckNumber []) (F : C8.Def K mg "check_reach" s_check_reach f fd) (b : Binds K fd ["value", "name"] []) : C8.Cal P w K mg base 4 "check_reach" spCheckReach [] := by
  refine C8.cal0 F b .nil sc_check_reach (fun vs H Q E h => ?_) (fun cdv A outer s H vs Q E hr h => ?_)
  · obtain ⟨n, nm, rfl, h1, k⟩ := h
    rfl
  · obtain ⟨n, nm, rfl, h1, k⟩ := h
    refine ⟨_, (pss_one (ps_expr (C8.pe_c c_check_number hr (by decide) rfl (pa_cons (pv 0) (pa_cons (pe_un un_neg (C8.pe_gc rfl T.g_REACH)) (pa_cons (C8.pe_gc rfl T.g_REACH) (pa_cons (pv 1) pa_nil))))))), ?_⟩
    refine ⟨_, rfl, _, rfl, _, rfl, _, _, _, _, rfl, h1.1, h1.2, ?_⟩
    exact k

theorem ok_check_aim (T : Txt K mg C) (c_check_place : C8.Cal P w K mg base 4 "check_place" spCheckPlace []) (c_check_reach : C8.Cal P w K mg base 4 "check_reach" spCheckReach []) (c_check_number : C8.Cal P w K mg base 3 "check_number" spCheckNumber []) (F : C8.Def K mg "check_aim" s_check_aim f fd) (b : Binds K fd ["place", "aim", "weight"] []) : C8.Cal P w K mg base 5 "check_aim" spCheckAim [] := by
  refine C8.cal0 F b .nil sc_check_aim (fun vs H Q E h => ?_) (fun cdv A outer s H vs Q E hr h => ?_)
  · obtain ⟨n, a, w, rfl, h1, h2, h3, h4, k⟩ := h
    rfl
  · obtain ⟨n, a, w, rfl, h1, h2, h3, h4, k⟩ := h
    refine ⟨_, (pss_cons (ps_expr (C8.pe_c c_check_place hr (by decide) rfl (pa_cons (pv 0) pa_nil)))
    (pss_cons (ps_expr (C8.pe_c c_check_reach hr (by decide) rfl (pa_cons (pv 1) (pa_cons pe_str pa_nil))))
    (pss_one (ps_expr (C8.pe_c c_check_number hr (by decide) rfl (pa_cons (pv 2) (pa_cons pe_int (pa_cons (C8.pe_gc rfl T.g_WEIGHT) (pa_cons pe_str pa_nil))))))))), ?_⟩
    refine ⟨_, rfl, _, rfl, h1, _, rfl, _, _, rfl, h2, _, rfl, _, _, _, _, rfl, h3, h4, ?_⟩
    exact k

theorem ok_check_places (T : Txt K mg C) (c_check_place : C8.Cal P w K mg base 4 "check_place" spCheckPlace []) (F : C8.Def K mg "check_places" s_check_places f fd) (b : Binds K fd ["one", "other"] []) : C8.Cal P w K mg base 5 "check_places" spCheckPlaces [] := by
  refine C8.cal0 F b .nil sc_check_places (fun vs H Q E h => ?_) (fun cdv A outer s H vs Q E hr h => ?_)
  · obtain ⟨o, t, rfl, h1, h2, h3, k⟩ := h
    rfl
  · obtain ⟨o, t, rfl, h1, h2, h3, k⟩ := h
    refine ⟨_, (pss_cons (ps_expr (C8.pe_c c_check_place hr (by decide) rfl (pa_cons (pv 0) pa_nil)))
    (pss_cons (ps_expr (C8.pe_c c_check_place hr (by decide) rfl (pa_cons (pv 1) pa_nil)))
    (pss_one (ps_if (pt_cmpR op_eq (pv 0) (pv 1) (nomark _)) (pss_one ps_never) pss_nil)))), ?_⟩
    refine ⟨_, rfl, _, rfl, h1, _, rfl, _, rfl, h2, _, rfl, _, rfl, rfl, _, rfl, ?_⟩
    rw [decide_eq_false (fun q => h3 (V.int.inj q))]
    refine iteF ?_
    exact k

end
end Ev

namespace Ev
open PySem L2 Ax
section
variable {P : Program} {w : World} {K : PySem.W.Frag} {mg : Str → Option Value} {base : Heap} {C : Str → Addr} {f : Addr} {fd : FuncData}
theorem ok_check_worths (T : Txt K mg C) (c_check_number : C8.Cal P w K mg base 3 "check_number" spCheckNumber []) (F : C8.Def K mg "check_worths" s_check_worths f fd) (b : Binds K fd ["worths"] []) : C8.Cal P w K mg base 4 "check_worths" (spCheckWorths K) [] := by
  refine C8.cal0 F b .nil sc_check_worths (fun vs H Q E h => ?_) (fun cdv A outer s H vs Q E hr h => ?_)
  · obtain ⟨a, ws, rfl, ha, h1, h2, h3, k⟩ := h
    rfl
  · obtain ⟨a, ws, rfl, ha, h1, h2, h3, k⟩ := h
    refine ⟨_, (pss_cons (ps_if (pt_not (pt_val (pe_callB call_isi (by rfl) T.b_isinstance (by decide +kernel) (pa_cons (pv 0) (pa_cons (pe_bltn (v := .ty "list") (u := .type "list") (by rfl) T.b_list (by decide +kernel) rfl) pa_nil))))) (pss_one ps_never) pss_nil)
    (pss_cons (ps_if (pt_not (pt_chain op_le op_le pe_int (pe_callB call_len (by rfl) T.b_len (by decide +kernel) (pa_cons (pv 0) pa_nil)) (C8.pe_gc rfl T.g_LONGEST))) (pss_one ps_never) pss_nil)
    (pss_one (ps_for PassesOwn.never rfl (pi_list (pv 0)) (pg_name (i := 1) sc_check_worths.nd rfl (Or.inl rfl)) (pss_one (ps_expr (C8.pe_c c_check_number hr (by decide) rfl (pa_cons (pv 1) (pa_cons (pe_un un_neg (C8.pe_gc rfl T.g_WORTH)) (pa_cons (C8.pe_gc rfl T.g_WORTH) (pa_cons pe_str pa_nil))))))))))), ?_⟩
    refine ⟨_, rfl, _, _, _, _, true, rfl, .ty _, .base (.lst ha), kit_ty (by decide +kernel), _, rfl, ?_⟩
    refine iteF ?_
    refine ⟨_, rfl, _, _, rfl, .inl ⟨_, .of ha, rfl⟩, _, _, rfl, rfl, _, rfl, ?_⟩
    have e1 : decide ((1 : Int) ≤ ((ws.map V.int).length : Int)) = true := decide_eq_true (by rw [List.length_map]; omega)
    rw [e1]
    refine iteT ⟨_, _, rfl, rfl, _, rfl, ?_⟩
    have e2 : decide (((ws.map V.int).length : Int) ≤ 40) = true := decide_eq_true (by rw [List.length_map]; omega)
    rw [e2]
    refine iteF ?_
    refine ⟨_, rfl, a, rfl, ⟨_, .of ha⟩, for_list (K := K) (a := a) (xs := ws.map V.int) (fun i σ H' => H' = H ∧ ∃ v, σ = [some (.ref a), v]) ⟨rfl, _, rfl⟩ (fun i σ H' _ ⟨e, _⟩ => by rw [e]; exact .of ha) ?_ ?_⟩
    · rintro i y σ H' hi ⟨rfl, v, rfl⟩
      obtain ⟨u, hu, rfl⟩ := int_item hi
      have hb := h3 u (List.mem_of_getElem? hu)
      refine ⟨_, rfl, _, rfl, _, _, _, _, rfl, hb.1, hb.2, ?_⟩
      exact ⟨rfl, _, rfl⟩
    · rintro σ H' ⟨rfl, v, rfl⟩
      exact k

theorem ok_check_bends (T : Txt K mg C)  (F : C8.Def K mg "check_bends" s_check_bends f fd) (b : Binds K fd ["worths"] []) : C8.Cal P w K mg base 1 "check_bends" (spCheckBends K) [] := by
  refine C8.cal0 F b .nil sc_check_bends (fun vs H Q E h => ?_) (fun cdv A outer s H vs Q E hr h => ?_)
  · obtain ⟨a, ws, rfl, ha, h1, h2, k⟩ := h
    rfl
  · obtain ⟨a, ws, rfl, ha, h1, h2, k⟩ := h
    refine ⟨_, (pss_one (ps_for PassesOwn.never rfl (pi_range2 (by rfl) T.b_range (pa_cons pe_int (pa_cons (pe_op op_sub (pe_callB call_len (by rfl) T.b_len (by decide +kernel) (pa_cons (pv 0) pa_nil)) pe_int) pa_nil))) (pg_name (i := 1) sc_check_bends.nd rfl (Or.inl rfl)) (pss_one (ps_if (pt_cmpR op_gt (pe_op op_mul pe_int (pe_ix ix_list (pv 0) (pv 1) (fun _ _ => rfl))) (pe_op op_add (pe_ix ix_list (pv 0) (pe_op op_sub (pv 1) pe_int) (fun _ _ => rfl)) (pe_ix ix_list (pv 0) (pe_op op_add (pv 1) pe_int) (fun _ _ => rfl))) (nomark _)) (pss_one ps_never) pss_nil)))), ?_⟩
    refine ⟨_, rfl, _, _, rfl, .inl ⟨_, .of ha, rfl⟩, _, _, rfl, rfl, _, _, rfl, ?_, ?_⟩
    · rw [List.length_map]
      omega
    refine for_range (fun i σ H' => H' = H ∧ ∃ v, σ = [some (.ref a), v]) ⟨rfl, _, rfl⟩ ?_ ?_
    · rintro i σ H' hi ⟨rfl, v, rfl⟩
      rw [List.length_map] at hi
      have hi2 : i + 2 < ws.length := by omega
      have q := h2 i hi2
      have x0 := at_int (ws := ws) (i := i) (by omega)
      have x1 := at_int (ws := ws) (i := i + 1) (by omega)
      have x2 := at_int (ws := ws) (i := i + 2) (by omega)
      refine ⟨_, rfl, _, rfl, _, _, _, _, rfl, rfl, .of ha, (by rw [show (1 : Int) + (i : Int) = ((i + 1 : Nat) : Int) by omega]; exact x1), _, _, rfl, rfl, .inl ⟨by decide, by decide⟩, ?_⟩
      refine ⟨_, rfl, _, rfl, _, _, rfl, rfl, _, _, _, _, rfl, rfl, .of ha, (by rw [show (1 : Int) + (i : Int) - 1 = ((i : Nat) : Int) by omega]; exact x0), ?_⟩
      refine ⟨_, rfl, _, rfl, _, _, rfl, rfl, _, _, _, _, rfl, rfl, .of ha, (by rw [show (1 : Int) + (i : Int) + 1 = ((i + 2 : Nat) : Int) by omega]; exact x2), _, _, rfl, rfl, _, _, rfl, rfl, _, rfl, ?_⟩
      rw [decide_eq_false (by omega)]
      refine iteF ?_
      exact ⟨rfl, _, rfl⟩
    · rintro σ H' ⟨rfl, v, rfl⟩
      exact k

end
end Ev

namespace Ev
open PySem L2 Ax
section
variable {P : Program} {w : World} {K : PySem.W.Frag} {mg : Str → Option Value} {base : Heap} {C : Str → Addr} {f : Addr} {fd : FuncData}
theorem fm_place : ("place" : Str) ∈ flds := by unfold flds; simp
theorem fm_weight : ("weight" : Str) ∈ flds := by unfold flds; simp
theorem fm_aim : ("aim" : Str) ∈ flds := by unfold flds; simp
theorem fm_first : ("first" : Str) ∈ flds := by unfold flds; simp
theorem fm_worths : ("worths" : Str) ∈ flds := by unfold flds; simp
theorem fm_low : ("low" : Str) ∈ flds := by unfold flds; simp
theorem fm_high : ("high" : Str) ∈ flds := by unfold flds; simp
theorem fm_other : ("other" : Str) ∈ flds := by unfold flds; simp
theorem fm_one : ("one" : Str) ∈ flds := by unfold flds; simp
theorem fm_gap : ("gap" : Str) ∈ flds := by unfold flds; simp
theorem fm_part : ("part" : Str) ∈ flds := by unfold flds; simp
theorem fm_many : ("many" : Str) ∈ flds := by unfold flds; simp
theorem fm_by : ("by" : Str) ∈ flds := by unfold flds; simp
theorem fm_wraps : ("wraps" : Str) ∈ flds := by unfold flds; simp
theorem cm_Slope : ("Slope" : Str) ∈ clss := by unfold clss; simp
theorem cm_Aim : ("Aim" : Str) ∈ clss := by unfold clss; simp
theorem cm_Square : ("Square" : Str) ∈ clss := by unfold clss; simp
theorem cm_Row : ("Row" : Str) ∈ clss := by unfold clss; simp
theorem cm_Wall : ("Wall" : Str) ∈ clss := by unfold clss; simp
theorem cm_Near : ("Near" : Str) ∈ clss := by unfold clss; simp
theorem cm_Gaps : ("Gaps" : Str) ∈ clss := by unfold clss; simp
theorem cm_Ahead : ("Ahead" : Str) ∈ clss := by unfold clss; simp
theorem cm_Times : ("Times" : Str) ∈ clss := by unfold clss; simp
theorem cm_Moved : ("Moved" : Str) ∈ clss := by unfold clss; simp
theorem lk_Slope_place {p w : Int} : lk (fSlope p w) "place" = some (.int p) := by kernel_rfl
theorem lk_Slope_weight {p w : Int} : lk (fSlope p w) "weight" = some (.int w) := by kernel_rfl
theorem lk_Aim_place {p a w : Int} : lk (fAim p a w) "place" = some (.int p) := by kernel_rfl
theorem lk_Aim_aim {p a w : Int} : lk (fAim p a w) "aim" = some (.int a) := by kernel_rfl
theorem lk_Aim_weight {p a w : Int} : lk (fAim p a w) "weight" = some (.int w) := by kernel_rfl
theorem lk_Row_place {p f : Int} {t : Addr} : lk (fRow p f t) "place" = some (.int p) := by kernel_rfl
theorem lk_Row_first {p f : Int} {t : Addr} : lk (fRow p f t) "first" = some (.int f) := by kernel_rfl
theorem lk_Row_worths {p f : Int} {t : Addr} : lk (fRow p f t) "worths" = some (.ref t) := by kernel_rfl
theorem lk_Wall_place {p lo hi : Int} : lk (fWall p lo hi) "place" = some (.int p) := by kernel_rfl
theorem lk_Wall_low {p lo hi : Int} : lk (fWall p lo hi) "low" = some (.int lo) := by kernel_rfl
theorem lk_Wall_high {p lo hi : Int} : lk (fWall p lo hi) "high" = some (.int hi) := by kernel_rfl
theorem lk_Near_place {o t a w : Int} : lk (fNear o t a w) "place" = some (.int o) := by kernel_rfl
theorem lk_Near_aim {o t a w : Int} : lk (fNear o t a w) "aim" = some (.int a) := by kernel_rfl
theorem lk_Near_weight {o t a w : Int} : lk (fNear o t a w) "weight" = some (.int w) := by kernel_rfl
theorem lk_Near_other {o t a w : Int} : lk (fNear o t a w) "other" = some (.int t) := by kernel_rfl
theorem lk_Gaps_place {o u f : Int} {t : Addr} : lk (fGaps o u f t) "place" = some (.int o) := by kernel_rfl
theorem lk_Gaps_first {o u f : Int} {t : Addr} : lk (fGaps o u f t) "first" = some (.int f) := by kernel_rfl
theorem lk_Gaps_worths {o u f : Int} {t : Addr} : lk (fGaps o u f t) "worths" = some (.ref t) := by kernel_rfl
theorem lk_Gaps_other {o u f : Int} {t : Addr} : lk (fGaps o u f t) "other" = some (.int u) := by kernel_rfl
theorem lk_Ahead_one {o t g : Int} : lk (fAhead o t g) "one" = some (.int o) := by kernel_rfl
theorem lk_Ahead_other {o t g : Int} : lk (fAhead o t g) "other" = some (.int t) := by kernel_rfl
theorem lk_Ahead_gap {o t g : Int} : lk (fAhead o t g) "gap" = some (.int g) := by kernel_rfl
theorem lk_Times_part {m n : Int} {r : Addr} : lk (fTimes r m n) "part" = some (.ref r) := by kernel_rfl
theorem lk_Times_many {m n : Int} {r : Addr} : lk (fTimes r m n) "many" = some (.int m) := by kernel_rfl
theorem lk_Times_wraps {m n : Int} {r : Addr} : lk (fTimes r m n) "wraps" = some (.int n) := by kernel_rfl
theorem lk_Moved_part {b n : Int} {r : Addr} : lk (fMoved r b n) "part" = some (.ref r) := by kernel_rfl
theorem lk_Moved_by {b n : Int} {r : Addr} : lk (fMoved r b n) "by" = some (.int b) := by kernel_rfl
theorem lk_Moved_wraps {b n : Int} {r : Addr} : lk (fMoved r b n) "wraps" = some (.int n) := by kernel_rfl

def spSt1 (C : Str → Addr) (c : Str) (fl : Str) : Sp := fun vs H Q _ => ∃ (a dx : Addr) (fs : Flds) (p : Int), vs = [.ref a] ∧ H a = some (.ins (C c) dx fs) ∧ lk fs fl = some (.int p) ∧ ∀ l, H l = none → Q (.ref l) (upd H l (.lst [.int p]))
def spSt2 (C : Str → Addr) (c : Str) (fl gl : Str) : Sp := fun vs H Q _ => ∃ (a dx : Addr) (fs : Flds) (p q : Int), vs = [.ref a] ∧ H a = some (.ins (C c) dx fs) ∧ lk fs fl = some (.int p) ∧ lk fs gl = some (.int q) ∧ ∀ l, H l = none → Q (.ref l) (upd H l (.lst [.int p, .int q]))
def spLim (C : Str → Addr) (c : Str) (g : Flds → Option (V × V)) : Sp := fun vs H Q _ => ∃ (a dx : Addr) (fs : Flds) (x y : V), vs = [.ref a] ∧ H a = some (.ins (C c) dx fs) ∧ g fs = some (x, y) ∧ ∀ l, H l = none → Q (.ref l) (upd H l (.tup [x, y]))

theorem ok_Slope_stands (T : Txt K mg C) (TC : ClsT K C)  (me : Meth K (C "Slope") "stands" f) (F : C8.Fun K "stands" "Slope.stands" s_Slope_stands f fd) (b : Binds K fd ["self"] []) : C8.Met P w K mg base 1 (C "Slope") "stands" (spSt1 C "Slope" "place") [] := by
  refine C8.met0 (TC.cl _ (by simp [clss])) me F b sc_Slope_stands (fun vs H Q E h => ?_) (fun cdv A outer s H vs Q E hr h => ?_)
  · obtain ⟨a, dx, fs, p, rfl, ha, hf, k⟩ := h
    rfl
  · obtain ⟨a, dx, fs, p, rfl, ha, hf, k⟩ := h
    refine ⟨_, (pss_one (ps_ret (pe_lst (pa_cons (pe_fld (pv 0) rfl) pa_nil)))), ?_⟩
    refine ⟨_, rfl, _, _, _, _, _, rfl, ha, TC.cl _ cm_Slope, TC.na _ cm_Slope _ fm_place, hf, (by show 1 ≤ sizeLine; decide), fun l hl => ?_⟩
    exact k l hl

theorem ok_Aim_stands (T : Txt K mg C) (TC : ClsT K C)  (me : Meth K (C "Aim") "stands" f) (F : C8.Fun K "stands" "Aim.stands" s_Aim_stands f fd) (b : Binds K fd ["self"] []) : C8.Met P w K mg base 1 (C "Aim") "stands" (spSt1 C "Aim" "place") [] := by
  refine C8.met0 (TC.cl _ (by simp [clss])) me F b sc_Aim_stands (fun vs H Q E h => ?_) (fun cdv A outer s H vs Q E hr h => ?_)
  · obtain ⟨a, dx, fs, p, rfl, ha, hf, k⟩ := h
    rfl
  · obtain ⟨a, dx, fs, p, rfl, ha, hf, k⟩ := h
    refine ⟨_, (pss_one (ps_ret (pe_lst (pa_cons (pe_fld (pv 0) rfl) pa_nil)))), ?_⟩
    refine ⟨_, rfl, _, _, _, _, _, rfl, ha, TC.cl _ cm_Aim, TC.na _ cm_Aim _ fm_place, hf, (by show 1 ≤ sizeLine; decide), fun l hl => ?_⟩
    exact k l hl

theorem ok_Square_stands (T : Txt K mg C) (TC : ClsT K C)  (me : Meth K (C "Square") "stands" f) (F : C8.Fun K "stands" "Square.stands" s_Square_stands f fd) (b : Binds K fd ["self"] []) : C8.Met P w K mg base 1 (C "Square") "stands" (spSt1 C "Square" "place") [] := by
  refine C8.met0 (TC.cl _ (by simp [clss])) me F b sc_Square_stands (fun vs H Q E h => ?_) (fun cdv A outer s H vs Q E hr h => ?_)
  · obtain ⟨a, dx, fs, p, rfl, ha, hf, k⟩ := h
    rfl
  · obtain ⟨a, dx, fs, p, rfl, ha, hf, k⟩ := h
    refine ⟨_, (pss_one (ps_ret (pe_lst (pa_cons (pe_fld (pv 0) rfl) pa_nil)))), ?_⟩
    refine ⟨_, rfl, _, _, _, _, _, rfl, ha, TC.cl _ cm_Square, TC.na _ cm_Square _ fm_place, hf, (by show 1 ≤ sizeLine; decide), fun l hl => ?_⟩
    exact k l hl

theorem ok_Row_stands (T : Txt K mg C) (TC : ClsT K C)  (me : Meth K (C "Row") "stands" f) (F : C8.Fun K "stands" "Row.stands" s_Row_stands f fd) (b : Binds K fd ["self"] []) : C8.Met P w K mg base 1 (C "Row") "stands" (spSt1 C "Row" "place") [] := by
  refine C8.met0 (TC.cl _ (by simp [clss])) me F b sc_Row_stands (fun vs H Q E h => ?_) (fun cdv A outer s H vs Q E hr h => ?_)
  · obtain ⟨a, dx, fs, p, rfl, ha, hf, k⟩ := h
    rfl
  · obtain ⟨a, dx, fs, p, rfl, ha, hf, k⟩ := h
    refine ⟨_, (pss_one (ps_ret (pe_lst (pa_cons (pe_fld (pv 0) rfl) pa_nil)))), ?_⟩
    refine ⟨_, rfl, _, _, _, _, _, rfl, ha, TC.cl _ cm_Row, TC.na _ cm_Row _ fm_place, hf, (by show 1 ≤ sizeLine; decide), fun l hl => ?_⟩
    exact k l hl

theorem ok_Wall_stands (T : Txt K mg C) (TC : ClsT K C)  (me : Meth K (C "Wall") "stands" f) (F : C8.Fun K "stands" "Wall.stands" s_Wall_stands f fd) (b : Binds K fd ["self"] []) : C8.Met P w K mg base 1 (C "Wall") "stands" (spSt1 C "Wall" "place") [] := by
  refine C8.met0 (TC.cl _ (by simp [clss])) me F b sc_Wall_stands (fun vs H Q E h => ?_) (fun cdv A outer s H vs Q E hr h => ?_)
  · obtain ⟨a, dx, fs, p, rfl, ha, hf, k⟩ := h
    rfl
  · obtain ⟨a, dx, fs, p, rfl, ha, hf, k⟩ := h
    refine ⟨_, (pss_one (ps_ret (pe_lst (pa_cons (pe_fld (pv 0) rfl) pa_nil)))), ?_⟩
    refine ⟨_, rfl, _, _, _, _, _, rfl, ha, TC.cl _ cm_Wall, TC.na _ cm_Wall _ fm_place, hf, (by show 1 ≤ sizeLine; decide), fun l hl => ?_⟩
    exact k l hl

theorem ok_Near_stands (T : Txt K mg C) (TC : ClsT K C)  (me : Meth K (C "Near") "stands" f) (F : C8.Fun K "stands" "Near.stands" s_Near_stands f fd) (b : Binds K fd ["self"] []) : C8.Met P w K mg base 1 (C "Near") "stands" (spSt2 C "Near" "place" "other") [] := by
  refine C8.met0 (TC.cl _ (by simp [clss])) me F b sc_Near_stands (fun vs H Q E h => ?_) (fun cdv A outer s H vs Q E hr h => ?_)
  · obtain ⟨a, dx, fs, p, q, rfl, ha, hf, hg, k⟩ := h
    rfl
  · obtain ⟨a, dx, fs, p, q, rfl, ha, hf, hg, k⟩ := h
    refine ⟨_, (pss_one (ps_ret (pe_lst (pa_cons (pe_fld (pv 0) rfl) (pa_cons (pe_fld (pv 0) rfl) pa_nil))))), ?_⟩
    refine ⟨_, rfl, _, _, _, _, _, rfl, ha, TC.cl _ cm_Near, TC.na _ cm_Near _ fm_place, hf, _, rfl, _, _, _, _, _, rfl, ha, TC.cl _ cm_Near, TC.na _ cm_Near _ fm_other, hg, (by show 2 ≤ sizeLine; decide), fun l hl => ?_⟩
    exact k l hl

theorem ok_Gaps_stands (T : Txt K mg C) (TC : ClsT K C)  (me : Meth K (C "Gaps") "stands" f) (F : C8.Fun K "stands" "Gaps.stands" s_Gaps_stands f fd) (b : Binds K fd ["self"] []) : C8.Met P w K mg base 1 (C "Gaps") "stands" (spSt2 C "Gaps" "place" "other") [] := by
  refine C8.met0 (TC.cl _ (by simp [clss])) me F b sc_Gaps_stands (fun vs H Q E h => ?_) (fun cdv A outer s H vs Q E hr h => ?_)
  · obtain ⟨a, dx, fs, p, q, rfl, ha, hf, hg, k⟩ := h
    rfl
  · obtain ⟨a, dx, fs, p, q, rfl, ha, hf, hg, k⟩ := h
    refine ⟨_, (pss_one (ps_ret (pe_lst (pa_cons (pe_fld (pv 0) rfl) (pa_cons (pe_fld (pv 0) rfl) pa_nil))))), ?_⟩
    refine ⟨_, rfl, _, _, _, _, _, rfl, ha, TC.cl _ cm_Gaps, TC.na _ cm_Gaps _ fm_place, hf, _, rfl, _, _, _, _, _, rfl, ha, TC.cl _ cm_Gaps, TC.na _ cm_Gaps _ fm_other, hg, (by show 2 ≤ sizeLine; decide), fun l hl => ?_⟩
    exact k l hl

theorem ok_Ahead_stands (T : Txt K mg C) (TC : ClsT K C)  (me : Meth K (C "Ahead") "stands" f) (F : C8.Fun K "stands" "Ahead.stands" s_Ahead_stands f fd) (b : Binds K fd ["self"] []) : C8.Met P w K mg base 1 (C "Ahead") "stands" (spSt2 C "Ahead" "one" "other") [] := by
  refine C8.met0 (TC.cl _ (by simp [clss])) me F b sc_Ahead_stands (fun vs H Q E h => ?_) (fun cdv A outer s H vs Q E hr h => ?_)
  · obtain ⟨a, dx, fs, p, q, rfl, ha, hf, hg, k⟩ := h
    rfl
  · obtain ⟨a, dx, fs, p, q, rfl, ha, hf, hg, k⟩ := h
    refine ⟨_, (pss_one (ps_ret (pe_lst (pa_cons (pe_fld (pv 0) rfl) (pa_cons (pe_fld (pv 0) rfl) pa_nil))))), ?_⟩
    refine ⟨_, rfl, _, _, _, _, _, rfl, ha, TC.cl _ cm_Ahead, TC.na _ cm_Ahead _ fm_one, hf, _, rfl, _, _, _, _, _, rfl, ha, TC.cl _ cm_Ahead, TC.na _ cm_Ahead _ fm_other, hg, (by show 2 ≤ sizeLine; decide), fun l hl => ?_⟩
    exact k l hl

def spLimN (C : Str → Addr) (c : Str) : Sp := fun vs H Q _ => ∃ (a dx : Addr) (fs : Flds), vs = [.ref a] ∧ H a = some (.ins (C c) dx fs) ∧ ∀ l, H l = none → Q (.ref l) (upd H l (.tup [.non, .non]))
def spLimA (C : Str → Addr) : Sp := fun vs H Q _ => ∃ (a dx : Addr) (o t g : Int), vs = [.ref a] ∧ H a = some (.ins (C "Ahead") dx (fAhead o t g)) ∧ ∀ l, H l = none → Q (.ref l) (upd H l (.tup [.non, .int g]))
def spLimW (C : Str → Addr) : Sp := fun vs H Q _ => ∃ (a dx : Addr) (p lo hi : Int), vs = [.ref a] ∧ H a = some (.ins (C "Wall") dx (fWall p lo hi)) ∧ ∀ l, H l = none → Q (.ref l) (upd H l (.tup [.int lo, .int hi]))
def spLimR (C : Str → Addr) : Sp := fun vs H Q _ => ∃ (c : Str) (a dx t : Addr) (fs : Flds) (f : Int) (ws : List Int), vs = [.ref a] ∧ c ∈ clss ∧ H a = some (.ins (C c) dx fs) ∧ lk fs "first" = some (.int f) ∧ lk fs "worths" = some (.ref t) ∧ H t = some (.tup (ws.map V.int)) ∧ ∀ l, H l = none → Q (.ref l) (upd H l (.tup [.int f, .int (f + (ws.length : Int) - 1)]))
def spWSlope (C : Str → Addr) : Sp := fun vs H Q _ => ∃ (a dx : Addr) (p w x : Int), vs = [.ref a, .int x] ∧ H a = some (.ins (C "Slope") dx (fSlope p w)) ∧ -1000 ≤ w ∧ w ≤ 1000 ∧ Q (.int (w * x)) H
def spWAim (C : Str → Addr) : Sp := fun vs H Q _ => ∃ (c : Str) (a dx : Addr) (fs : Flds) (b w x : Int), vs = [.ref a, .int x] ∧ c ∈ clss ∧ H a = some (.ins (C c) dx fs) ∧ lk fs "aim" = some (.int b) ∧ lk fs "weight" = some (.int w) ∧ 0 ≤ w ∧ w ≤ 1000 ∧ Q (.int (w * absI (x - b))) H
def spWSquare (C : Str → Addr) : Sp := fun vs H Q _ => ∃ (a dx : Addr) (p b w x : Int), vs = [.ref a, .int x] ∧ H a = some (.ins (C "Square") dx (fAim p b w)) ∧ 0 ≤ w ∧ w ≤ 1000 ∧ -(2 ^ 61) ≤ x - b ∧ x - b ≤ 2 ^ 61 ∧ Q (.int (w * (x - b) * (x - b))) H
def spWRow (C : Str → Addr) : Sp := fun vs H Q _ => ∃ (c : Str) (a dx t : Addr) (fs : Flds) (f x : Int) (ws : List Int), vs = [.ref a, .int x] ∧ c ∈ clss ∧ H a = some (.ins (C c) dx fs) ∧ lk fs "first" = some (.int f) ∧ lk fs "worths" = some (.ref t) ∧ H t = some (.tup (ws.map V.int)) ∧ Q (vO (rowAt f ws x)) H
def spWWall (C : Str → Addr) : Sp := fun vs H Q _ => ∃ (a dx : Addr) (p lo hi x : Int), vs = [.ref a, .int x] ∧ H a = some (.ins (C "Wall") dx (fWall p lo hi)) ∧ Q (vO (if lo ≤ x ∧ x ≤ hi then some 0 else none)) H
def spWAhead (C : Str → Addr) : Sp := fun vs H Q _ => ∃ (a dx : Addr) (o t g x : Int), vs = [.ref a, .int x] ∧ H a = some (.ins (C "Ahead") dx (fAhead o t g)) ∧ Q (vO (if x ≤ g then some 0 else none)) H

theorem ok_Slope_limits (T : Txt K mg C) (TC : ClsT K C)  (me : Meth K (C "Slope") "limits" f) (F : C8.Fun K "limits" "Slope.limits" s_Slope_limits f fd) (b : Binds K fd ["self"] []) : C8.Met P w K mg base 1 (C "Slope") "limits" (spLimN C "Slope") [] := by
  refine C8.met0 (TC.cl _ (by simp [clss])) me F b sc_Slope_limits (fun vs H Q E h => ?_) (fun cdv A outer s H vs Q E hr h => ?_)
  · obtain ⟨a, dx, fs, rfl, ha, k⟩ := h
    rfl
  · obtain ⟨a, dx, fs, rfl, ha, k⟩ := h
    refine ⟨_, (pss_one (ps_ret (pe_tup (pa_cons pe_non (pa_cons pe_non pa_nil))))), ?_⟩
    refine ⟨(by show 2 ≤ sizeLine; decide), fun l hl => ?_⟩
    exact k l hl

theorem ok_Aim_limits (T : Txt K mg C) (TC : ClsT K C)  (me : Meth K (C "Aim") "limits" f) (F : C8.Fun K "limits" "Aim.limits" s_Aim_limits f fd) (b : Binds K fd ["self"] []) : C8.Met P w K mg base 1 (C "Aim") "limits" (spLimN C "Aim") [] := by
  refine C8.met0 (TC.cl _ (by simp [clss])) me F b sc_Aim_limits (fun vs H Q E h => ?_) (fun cdv A outer s H vs Q E hr h => ?_)
  · obtain ⟨a, dx, fs, rfl, ha, k⟩ := h
    rfl
  · obtain ⟨a, dx, fs, rfl, ha, k⟩ := h
    refine ⟨_, (pss_one (ps_ret (pe_tup (pa_cons pe_non (pa_cons pe_non pa_nil))))), ?_⟩
    refine ⟨(by show 2 ≤ sizeLine; decide), fun l hl => ?_⟩
    exact k l hl

theorem ok_Square_limits (T : Txt K mg C) (TC : ClsT K C)  (me : Meth K (C "Square") "limits" f) (F : C8.Fun K "limits" "Square.limits" s_Square_limits f fd) (b : Binds K fd ["self"] []) : C8.Met P w K mg base 1 (C "Square") "limits" (spLimN C "Square") [] := by
  refine C8.met0 (TC.cl _ (by simp [clss])) me F b sc_Square_limits (fun vs H Q E h => ?_) (fun cdv A outer s H vs Q E hr h => ?_)
  · obtain ⟨a, dx, fs, rfl, ha, k⟩ := h
    rfl
  · obtain ⟨a, dx, fs, rfl, ha, k⟩ := h
    refine ⟨_, (pss_one (ps_ret (pe_tup (pa_cons pe_non (pa_cons pe_non pa_nil))))), ?_⟩
    refine ⟨(by show 2 ≤ sizeLine; decide), fun l hl => ?_⟩
    exact k l hl

theorem ok_Ahead_limits (T : Txt K mg C) (TC : ClsT K C)  (me : Meth K (C "Ahead") "limits" f) (F : C8.Fun K "limits" "Ahead.limits" s_Ahead_limits f fd) (b : Binds K fd ["self"] []) : C8.Met P w K mg base 1 (C "Ahead") "limits" (spLimA C) [] := by
  refine C8.met0 (TC.cl _ (by simp [clss])) me F b sc_Ahead_limits (fun vs H Q E h => ?_) (fun cdv A outer s H vs Q E hr h => ?_)
  · obtain ⟨a, dx, o, t, g, rfl, ha, k⟩ := h
    rfl
  · obtain ⟨a, dx, o, t, g, rfl, ha, k⟩ := h
    refine ⟨_, (pss_one (ps_ret (pe_tup (pa_cons pe_non (pa_cons (pe_fld (pv 0) rfl) pa_nil))))), ?_⟩
    refine ⟨_, rfl, _, _, _, _, _, rfl, ha, TC.cl _ cm_Ahead, TC.na _ cm_Ahead _ fm_gap, lk_Ahead_gap, (by show 2 ≤ sizeLine; decide), fun l hl => ?_⟩
    exact k l hl

theorem ok_Wall_limits (T : Txt K mg C) (TC : ClsT K C)  (me : Meth K (C "Wall") "limits" f) (F : C8.Fun K "limits" "Wall.limits" s_Wall_limits f fd) (b : Binds K fd ["self"] []) : C8.Met P w K mg base 1 (C "Wall") "limits" (spLimW C) [] := by
  refine C8.met0 (TC.cl _ (by simp [clss])) me F b sc_Wall_limits (fun vs H Q E h => ?_) (fun cdv A outer s H vs Q E hr h => ?_)
  · obtain ⟨a, dx, p, lo, hi, rfl, ha, k⟩ := h
    rfl
  · obtain ⟨a, dx, p, lo, hi, rfl, ha, k⟩ := h
    refine ⟨_, (pss_one (ps_ret (pe_tup (pa_cons (pe_fld (pv 0) rfl) (pa_cons (pe_fld (pv 0) rfl) pa_nil))))), ?_⟩
    refine ⟨_, rfl, _, _, _, _, _, rfl, ha, TC.cl _ cm_Wall, TC.na _ cm_Wall _ fm_low, lk_Wall_low, _, rfl, _, _, _, _, _, rfl, ha, TC.cl _ cm_Wall, TC.na _ cm_Wall _ fm_high, lk_Wall_high, (by show 2 ≤ sizeLine; decide), fun l hl => ?_⟩
    exact k l hl

theorem ok_Row_limits (T : Txt K mg C) (TC : ClsT K C)  (me : Meth K (C "Row") "limits" f) (F : C8.Fun K "limits" "Row.limits" s_Row_limits f fd) (b : Binds K fd ["self"] []) : C8.Met P w K mg base 1 (C "Row") "limits" (spLimR C) [] := by
  refine C8.met0 (TC.cl _ (by simp [clss])) me F b sc_Row_limits (fun vs H Q E h => ?_) (fun cdv A outer s H vs Q E hr h => ?_)
  · obtain ⟨c, a, dx, t, fs, f, ws, rfl, hc, ha, hf, hw, ht, k⟩ := h
    rfl
  · obtain ⟨c, a, dx, t, fs, f, ws, rfl, hc, ha, hf, hw, ht, k⟩ := h
    refine ⟨_, (pss_one (ps_ret (pe_tup (pa_cons (pe_fld (pv 0) rfl) (pa_cons (pe_op op_sub (pe_op op_add (pe_fld (pv 0) rfl) (pe_callB call_len (by rfl) T.b_len (by decide +kernel) (pa_cons (pe_fld (pv 0) rfl) pa_nil))) pe_int) pa_nil))))), ?_⟩
    refine ⟨_, rfl, _, _, _, _, _, rfl, ha, TC.cl _ hc, TC.na _ hc _ fm_first, hf, _, rfl, _, _, _, _, _, rfl, ha, TC.cl _ hc, TC.na _ hc _ fm_first, hf, _, rfl, _, _, _, _, _, rfl, ha, TC.cl _ hc, TC.na _ hc _ fm_worths, hw, _, _, rfl, .inr ⟨_, .of ht, rfl⟩, _, _, rfl, rfl, _, _, rfl, rfl, (by show 2 ≤ sizeLine; decide), fun l hl => ?_⟩
    have e : ((ws.map V.int).length : Int) = (ws.length : Int) := by rw [List.length_map]
    have q := k l hl
    rw [← e] at q
    exact q

theorem ok_Slope_worth_of (T : Txt K mg C) (TC : ClsT K C)  (me : Meth K (C "Slope") "worth_of" f) (F : C8.Fun K "worth_of" "Slope.worth_of" s_Slope_worth_of f fd) (b : Binds K fd ["self", "reads"] []) : C8.Met P w K mg base 1 (C "Slope") "worth_of" (spWSlope C) [] := by
  refine C8.met0 (TC.cl _ (by simp [clss])) me F b sc_Slope_worth_of (fun vs H Q E h => ?_) (fun cdv A outer s H vs Q E hr h => ?_)
  · obtain ⟨a, dx, p, w, x, rfl, ha, h1, h2, k⟩ := h
    rfl
  · obtain ⟨a, dx, p, w, x, rfl, ha, h1, h2, k⟩ := h
    refine ⟨_, (pss_one (ps_ret (pe_op op_mul (pe_fld (pv 0) rfl) (pv 1)))), ?_⟩
    refine ⟨_, rfl, _, _, _, _, _, rfl, ha, TC.cl _ cm_Slope, TC.na _ cm_Slope _ fm_weight, lk_Slope_weight, _, rfl, _, _, rfl, rfl, .inl ⟨by omega, by omega⟩, ?_⟩
    exact k

theorem ok_Aim_worth_of (T : Txt K mg C) (TC : ClsT K C)  (me : Meth K (C "Aim") "worth_of" f) (F : C8.Fun K "worth_of" "Aim.worth_of" s_Aim_worth_of f fd) (b : Binds K fd ["self", "reads"] []) : C8.Met P w K mg base 1 (C "Aim") "worth_of" (spWAim C) [] := by
  refine C8.met0 (TC.cl _ (by simp [clss])) me F b sc_Aim_worth_of (fun vs H Q E h => ?_) (fun cdv A outer s H vs Q E hr h => ?_)
  · obtain ⟨c, a, dx, fs, b, w, x, rfl, hc, ha, hb, hw, h1, h2, k⟩ := h
    rfl
  · obtain ⟨c, a, dx, fs, b, w, x, rfl, hc, ha, hb, hw, h1, h2, k⟩ := h
    refine ⟨_, (pss_one (ps_ret (pe_op op_mul (pe_fld (pv 0) rfl) (pe_callB call_abs (by rfl) T.b_abs (by decide +kernel) (pa_cons (pe_op op_sub (pv 1) (pe_fld (pv 0) rfl)) pa_nil))))), ?_⟩
    refine ⟨_, rfl, _, _, _, _, _, rfl, ha, TC.cl _ hc, TC.na _ hc _ fm_weight, hw, _, rfl, _, rfl, _, _, _, _, _, rfl, ha, TC.cl _ hc, TC.na _ hc _ fm_aim, hb, _, _, rfl, rfl, _, rfl, _, _, rfl, rfl, .inl ⟨by omega, by omega⟩, ?_⟩
    exact k

theorem ok_Square_worth_of (T : Txt K mg C) (TC : ClsT K C)  (me : Meth K (C "Square") "worth_of" f) (F : C8.Fun K "worth_of" "Square.worth_of" s_Square_worth_of f fd) (b : Binds K fd ["self", "reads"] []) : C8.Met P w K mg base 1 (C "Square") "worth_of" (spWSquare C) [] := by
  refine C8.met0 (TC.cl _ (by simp [clss])) me F b sc_Square_worth_of (fun vs H Q E h => ?_) (fun cdv A outer s H vs Q E hr h => ?_)
  · obtain ⟨a, dx, p, b, w, x, rfl, ha, h1, h2, h3, h4, k⟩ := h
    rfl
  · obtain ⟨a, dx, p, b, w, x, rfl, ha, h1, h2, h3, h4, k⟩ := h
    refine ⟨_, (pss_cons (ps_set (i := 2) sc_Square_worth_of.nd rfl (Or.inl rfl) (pe_op op_sub (pv 1) (pe_fld (pv 0) rfl)))
    (pss_one (ps_ret (pe_op op_mul (pe_op op_mul (pe_fld (pv 0) rfl) (pv 2)) (pv 2))))), ?_⟩
    refine ⟨_, rfl, _, rfl, _, _, _, _, _, rfl, ha, TC.cl _ cm_Square, TC.na _ cm_Square _ fm_aim, lk_Aim_aim, _, _, rfl, rfl, _, rfl, _, _, _, _, _, rfl, ha, TC.cl _ cm_Square, TC.na _ cm_Square _ fm_weight, lk_Aim_weight, _, rfl, _, _, rfl, rfl, .inl ⟨by omega, by omega⟩, _, rfl, _, _, rfl, rfl, .inr ⟨by omega, by omega⟩, ?_⟩
    exact k

theorem ok_Row_worth_of (T : Txt K mg C) (TC : ClsT K C)  (me : Meth K (C "Row") "worth_of" f) (F : C8.Fun K "worth_of" "Row.worth_of" s_Row_worth_of f fd) (b : Binds K fd ["self", "reads"] []) : C8.Met P w K mg base 1 (C "Row") "worth_of" (spWRow C) [] := by
  refine C8.met0 (TC.cl _ (by simp [clss])) me F b sc_Row_worth_of (fun vs H Q E h => ?_) (fun cdv A outer s H vs Q E hr h => ?_)
  · obtain ⟨c, a, dx, t, fs, f, x, ws, rfl, hc, ha, hf, hw, ht, k⟩ := h
    rfl
  · obtain ⟨c, a, dx, t, fs, f, x, ws, rfl, hc, ha, hf, hw, ht, k⟩ := h
    refine ⟨_, (pss_cons (ps_set (i := 2) sc_Row_worth_of.nd rfl (Or.inl rfl) (pe_op op_sub (pv 1) (pe_fld (pv 0) rfl)))
    (pss_cons (ps_if (pt_chain op_le op_lt pe_int (pv 2) (pe_callB call_len (by rfl) T.b_len (by decide +kernel) (pa_cons (pe_fld (pv 0) rfl) pa_nil))) (pss_one (ps_ret (pe_ix ix_tup (pe_fld (pv 0) rfl) (pv 2) (fun _ _ => rfl)))) pss_nil)
    (pss_one (ps_ret pe_non)))), ?_⟩
    refine ⟨_, rfl, _, rfl, _, _, _, _, _, rfl, ha, TC.cl _ hc, TC.na _ hc _ fm_first, hf, _, _, rfl, rfl, ?_⟩
    refine ⟨_, rfl, _, _, rfl, rfl, _, rfl, ?_⟩
    by_cases h0 : 0 ≤ x - f
    · rw [decide_eq_true h0]
      refine iteT ⟨_, rfl, _, _, _, _, _, rfl, ha, TC.cl _ hc, TC.na _ hc _ fm_worths, hw, _, _, rfl, .inr ⟨_, .of ht, rfl⟩, _, _, rfl, rfl, _, rfl, ?_⟩
      by_cases h1 : x - f < (ws.length : Int)
      · have e1 : decide (x - f < ((ws.map V.int).length : Int)) = true := decide_eq_true (by rw [List.length_map]; exact h1)
        rw [e1]
        have x0 := at_int (ws := ws) (i := (x - f).toNat) (by omega)
        refine iteT ⟨_, rfl, _, _, _, _, _, rfl, ha, TC.cl _ hc, TC.na _ hc _ fm_worths, hw, _, rfl, _, _, _, _, rfl, rfl, .of ht, (by rw [show x - f = (((x - f).toNat : Nat) : Int) by omega]; exact x0), ?_⟩
        have e2 : rowAt f ws x = some (ws.getD (x - f).toNat 0) := by
          unfold rowAt
          rw [if_pos h0, List.getD_eq_getElem?_getD, List.getElem?_eq_getElem (by omega : (x - f).toNat < ws.length)]
          rfl
        rw [e2] at k
        exact k
      · have e1 : decide (x - f < ((ws.map V.int).length : Int)) = false := decide_eq_false (by rw [List.length_map]; exact h1)
        rw [e1]
        refine iteF ?_
        have e2 : rowAt f ws x = none := by
          unfold rowAt
          rw [if_pos h0, List.getElem?_eq_none_iff.mpr (by omega)]
        rw [e2] at k
        exact k
    · rw [decide_eq_false h0]
      refine iteF ⟨_, rfl, iteF ?_⟩
      have e2 : rowAt f ws x = none := by
        unfold rowAt
        rw [if_neg h0]
      rw [e2] at k
      exact k

theorem ok_Wall_worth_of (T : Txt K mg C) (TC : ClsT K C)  (me : Meth K (C "Wall") "worth_of" f) (F : C8.Fun K "worth_of" "Wall.worth_of" s_Wall_worth_of f fd) (b : Binds K fd ["self", "reads"] []) : C8.Met P w K mg base 1 (C "Wall") "worth_of" (spWWall C) [] := by
  refine C8.met0 (TC.cl _ (by simp [clss])) me F b sc_Wall_worth_of (fun vs H Q E h => ?_) (fun cdv A outer s H vs Q E hr h => ?_)
  · obtain ⟨a, dx, p, lo, hi, x, rfl, ha, k⟩ := h
    rfl
  · obtain ⟨a, dx, p, lo, hi, x, rfl, ha, k⟩ := h
    refine ⟨_, (pss_cons (ps_if (pt_chain op_le op_le (pe_fld (pv 0) rfl) (pv 1) (pe_fld (pv 0) rfl)) (pss_one (ps_ret pe_int)) pss_nil)
    (pss_one (ps_ret pe_non))), ?_⟩
    refine ⟨_, rfl, _, _, _, _, _, rfl, ha, TC.cl _ cm_Wall, TC.na _ cm_Wall _ fm_low, lk_Wall_low, _, rfl, _, _, rfl, rfl, _, rfl, ?_⟩
    by_cases h0 : lo ≤ x
    · rw [decide_eq_true h0]
      refine iteT ⟨_, rfl, _, _, _, _, _, rfl, ha, TC.cl _ cm_Wall, TC.na _ cm_Wall _ fm_high, lk_Wall_high, _, _, rfl, rfl, _, rfl, ?_⟩
      by_cases h1 : x ≤ hi
      · rw [decide_eq_true h1]
        refine iteT ?_
        rw [if_pos ⟨h0, h1⟩] at k
        exact k
      · rw [decide_eq_false h1]
        refine iteF ?_
        rw [if_neg fun q => h1 q.2] at k
        exact k
    · rw [decide_eq_false h0]
      refine iteF ⟨_, rfl, iteF ?_⟩
      rw [if_neg fun q => h0 q.1] at k
      exact k

theorem ok_Ahead_worth_of (T : Txt K mg C) (TC : ClsT K C)  (me : Meth K (C "Ahead") "worth_of" f) (F : C8.Fun K "worth_of" "Ahead.worth_of" s_Ahead_worth_of f fd) (b : Binds K fd ["self", "reads"] []) : C8.Met P w K mg base 1 (C "Ahead") "worth_of" (spWAhead C) [] := by
  refine C8.met0 (TC.cl _ (by simp [clss])) me F b sc_Ahead_worth_of (fun vs H Q E h => ?_) (fun cdv A outer s H vs Q E hr h => ?_)
  · obtain ⟨a, dx, o, t, g, x, rfl, ha, k⟩ := h
    rfl
  · obtain ⟨a, dx, o, t, g, x, rfl, ha, k⟩ := h
    refine ⟨_, (pss_cons (ps_if (pt_cmpR op_le (pv 1) (pe_fld (pv 0) rfl) (nomark _)) (pss_one (ps_ret pe_int)) pss_nil)
    (pss_one (ps_ret pe_non))), ?_⟩
    refine ⟨_, rfl, _, rfl, _, _, _, _, _, rfl, ha, TC.cl _ cm_Ahead, TC.na _ cm_Ahead _ fm_gap, lk_Ahead_gap, _, _, rfl, rfl, _, rfl, ?_⟩
    by_cases h1 : x ≤ g
    · rw [decide_eq_true h1]
      refine iteT ?_
      rw [if_pos h1] at k
      exact k
    · rw [decide_eq_false h1]
      refine iteF ?_
      rw [if_neg h1] at k
      exact k

end
end Ev

namespace Ev
open PySem L2 Ax
section
variable {P : Program} {w : World} {K : PySem.W.Frag} {mg : Str → Option Value} {base : Heap} {C : Str → Addr} {f : Addr} {fd : FuncData}

theorem pf_Slope {p w : Int} : putF "weight" (.int w) (putF "place" (.int p) []) = fSlope p w := by kernel_rfl
theorem pf_Aim {p a w : Int} : putF "weight" (.int w) (putF "aim" (.int a) (putF "place" (.int p) [])) = fAim p a w := by kernel_rfl
theorem pf_Row {p f : Int} {t : Addr} : putF "worths" (.ref t) (putF "first" (.int f) (putF "place" (.int p) [])) = fRow p f t := by kernel_rfl
theorem pf_Wall {p lo hi : Int} : putF "high" (.int hi) (putF "low" (.int lo) (putF "place" (.int p) [])) = fWall p lo hi := by kernel_rfl
theorem pf_Near {p a w t : Int} : putF "other" (.int t) (fAim p a w) = fNear p t a w := by kernel_rfl
theorem pf_Gaps {p f u : Int} {t : Addr} : putF "other" (.int u) (fRow p f t) = fGaps p u f t := by kernel_rfl
theorem pf_Ahead {o t g : Int} : putF "gap" (.int g) (putF "other" (.int t) (putF "one" (.int o) [])) = fAhead o t g := by kernel_rfl
theorem pf_Times {r : Addr} {m n : Int} : putF "wraps" (.int n) (putF "many" (.int m) (putF "part" (.ref r) [])) = fTimes r m n := by kernel_rfl
theorem pf_Moved {r : Addr} {b n : Int} : putF "wraps" (.int n) (putF "by" (.int b) (putF "part" (.ref r) [])) = fMoved r b n := by kernel_rfl
def spISlope (C : Str → Addr) : Sp := fun vs H Q _ => ∃ (a dx : Addr) (p w : Int), vs = [.ref a, .int p, .int w] ∧ H a = some (.ins (C "Slope") dx []) ∧ (PD.slope p w).ok ∧ ∀ H', But a H H' → H' a = some (.ins (C "Slope") dx (fSlope p w)) → Q .non H'
def spIAim (C : Str → Addr) : Sp := fun vs H Q _ => ∃ (c : Str) (a dx : Addr) (p b w : Int), vs = [.ref a, .int p, .int b, .int w] ∧ c ∈ clss ∧ H a = some (.ins (C c) dx []) ∧ (PD.aim p b w).ok ∧ ∀ H', But a H H' → H' a = some (.ins (C c) dx (fAim p b w)) → Q .non H'
def spIRow (K : PySem.W.Frag) (C : Str → Addr) : Sp := fun vs H Q _ => ∃ (c : Str) (a dx l : Addr) (p f : Int) (ws : List Int), vs = [.ref a, .int p, .int f, .ref l] ∧ c ∈ clss ∧ H a = some (.ins (C c) dx []) ∧ H l = some (.lst (ws.map V.int)) ∧ (PD.row p f ws).ok ∧
  ∀ H' t, But a H H' → H' a = some (.ins (C c) dx (fRow p f t)) → t ≠ a → H' t = some (.tup (ws.map V.int)) → Q .non H'
def spIWall (C : Str → Addr) : Sp := fun vs H Q _ => ∃ (a dx : Addr) (p lo hi : Int), vs = [.ref a, .int p, .int lo, .int hi] ∧ H a = some (.ins (C "Wall") dx []) ∧ (PD.wall p lo hi).ok ∧ ∀ H', But a H H' → H' a = some (.ins (C "Wall") dx (fWall p lo hi)) → Q .non H'
def spIAhead (C : Str → Addr) : Sp := fun vs H Q _ => ∃ (a dx : Addr) (o t g : Int), vs = [.ref a, .int o, .int t, .int g] ∧ H a = some (.ins (C "Ahead") dx []) ∧ (PD.ahead o t g).ok ∧ ∀ H', But a H H' → H' a = some (.ins (C "Ahead") dx (fAhead o t g)) → Q .non H'

theorem ok_Slope_init (T : Txt K mg C) (TC : ClsT K C) (c_check_place : C8.Cal P w K mg base 4 "check_place" spCheckPlace []) (c_check_number : C8.Cal P w K mg base 3 "check_number" spCheckNumber []) (F : C8.Fun K "__init__" "Slope.__init__" s_Slope_init f fd) : FnOk P w K mg base CX0 5 f fd ["self", "place", "weight"] (spISlope C) := by
  refine C8.fn0 F sc_Slope_init (fun vs H Q E h => ?_) (fun cdv A outer s H vs Q E hr h => ?_)
  · obtain ⟨a, dx, p, w, rfl, ha, ⟨h1, h2, h3⟩, k⟩ := h
    rfl
  · obtain ⟨a, dx, p, w, rfl, ha, ⟨h1, h2, h3⟩, k⟩ := h
    refine ⟨_, (pss_cons (ps_expr (C8.pe_c c_check_place hr (by decide) rfl (pa_cons (pv 1) pa_nil)))
    (pss_cons (ps_expr (C8.pe_c c_check_number hr (by decide) rfl (pa_cons (pv 2) (pa_cons (pe_un un_neg (C8.pe_gc rfl T.g_WEIGHT)) (pa_cons (C8.pe_gc rfl T.g_WEIGHT) (pa_cons pe_str pa_nil))))))
    (pss_cons (ps_fld (pv 0) (pv 1) rfl)
    (pss_one (ps_fld (pv 0) (pv 2) rfl))))), ?_⟩
    refine ⟨_, rfl, _, rfl, h1, _, rfl, _, rfl, _, _, _, _, rfl, h2, h3, _, rfl, _, rfl, _, _, _, _, rfl, ha, TC.cl _ cm_Slope, TC.na _ cm_Slope _ fm_place, (by show 0 < 1000; decide), _, rfl, _, rfl, _, _, _, _, rfl, upd_same, TC.cl _ cm_Slope, TC.na _ cm_Slope _ fm_weight, (by show 1 < 1000; decide), ?_⟩
    exact k _ (But.upd.trans But.upd) (upd_same.trans (by rw [pf_Slope]))

theorem ok_Aim_init (T : Txt K mg C) (TC : ClsT K C) (c_check_aim : C8.Cal P w K mg base 5 "check_aim" spCheckAim []) (F : C8.Fun K "__init__" "Aim.__init__" s_Aim_init f fd) : FnOk P w K mg base CX0 6 f fd ["self", "place", "aim", "weight"] (spIAim C) := by
  refine C8.fn0 F sc_Aim_init (fun vs H Q E h => ?_) (fun cdv A outer s H vs Q E hr h => ?_)
  · obtain ⟨c, a, dx, p, b, w, rfl, hc, ha, ⟨h1, h2, h3, h4⟩, k⟩ := h
    rfl
  · obtain ⟨c, a, dx, p, b, w, rfl, hc, ha, ⟨h1, h2, h3, h4⟩, k⟩ := h
    refine ⟨_, (pss_cons (ps_expr (C8.pe_c c_check_aim hr (by decide) rfl (pa_cons (pv 1) (pa_cons (pv 2) (pa_cons (pv 3) pa_nil)))))
    (pss_cons (ps_fld (pv 0) (pv 1) rfl)
    (pss_cons (ps_fld (pv 0) (pv 2) rfl)
    (pss_one (ps_fld (pv 0) (pv 3) rfl))))), ?_⟩
    refine ⟨_, rfl, _, rfl, _, rfl, _, _, _, rfl, h1, h2, h3, h4, _, rfl, _, rfl, _, _, _, _, rfl, ha, TC.cl _ hc, TC.na _ hc _ fm_place, (by show 0 < 1000; decide), _, rfl, _, rfl, _, _, _, _, rfl, upd_same, TC.cl _ hc, TC.na _ hc _ fm_aim, (by show 1 < 1000; decide), _, rfl, _, rfl, _, _, _, _, rfl, upd_same, TC.cl _ hc, TC.na _ hc _ fm_weight, (by show 2 < 1000; decide), ?_⟩
    exact k _ (But.upd.trans (But.upd.trans But.upd)) (upd_same.trans (by rw [pf_Aim]))

def spISquare (C : Str → Addr) : Sp := fun vs H Q _ => ∃ (a dx : Addr) (p b w : Int), vs = [.ref a, .int p, .int b, .int w] ∧ H a = some (.ins (C "Square") dx []) ∧ (PD.aim p b w).ok ∧ ∀ H', But a H H' → H' a = some (.ins (C "Square") dx (fAim p b w)) → Q .non H' 
theorem ok_Square_init (T : Txt K mg C) (TC : ClsT K C) (c_check_aim : C8.Cal P w K mg base 5 "check_aim" spCheckAim []) (F : C8.Fun K "__init__" "Square.__init__" s_Square_init f fd) : FnOk P w K mg base CX0 6 f fd ["self", "place", "aim", "weight"] (spISquare C) := by
  refine C8.fn0 F sc_Square_init (fun vs H Q E h => ?_) (fun cdv A outer s H vs Q E hr h => ?_)
  · obtain ⟨a, dx, p, b, w, rfl, ha, ⟨h1, h2, h3, h4⟩, k⟩ := h
    rfl
  · obtain ⟨a, dx, p, b, w, rfl, ha, ⟨h1, h2, h3, h4⟩, k⟩ := h
    refine ⟨_, (pss_cons (ps_expr (C8.pe_c c_check_aim hr (by decide) rfl (pa_cons (pv 1) (pa_cons (pv 2) (pa_cons (pv 3) pa_nil)))))
    (pss_cons (ps_fld (pv 0) (pv 1) rfl)
    (pss_cons (ps_fld (pv 0) (pv 2) rfl)
    (pss_one (ps_fld (pv 0) (pv 3) rfl))))), ?_⟩
    refine ⟨_, rfl, _, rfl, _, rfl, _, _, _, rfl, h1, h2, h3, h4, _, rfl, _, rfl, _, _, _, _, rfl, ha, TC.cl _ cm_Square, TC.na _ cm_Square _ fm_place, (by show 0 < 1000; decide), _, rfl, _, rfl, _, _, _, _, rfl, upd_same, TC.cl _ cm_Square, TC.na _ cm_Square _ fm_aim, (by show 1 < 1000; decide), _, rfl, _, rfl, _, _, _, _, rfl, upd_same, TC.cl _ cm_Square, TC.na _ cm_Square _ fm_weight, (by show 2 < 1000; decide), ?_⟩
    exact k _ (But.upd.trans (But.upd.trans But.upd)) (upd_same.trans (by rw [pf_Aim]))

theorem ok_Wall_init (T : Txt K mg C) (TC : ClsT K C) (c_check_place : C8.Cal P w K mg base 4 "check_place" spCheckPlace []) (c_check_reach : C8.Cal P w K mg base 4 "check_reach" spCheckReach []) (F : C8.Fun K "__init__" "Wall.__init__" s_Wall_init f fd) : FnOk P w K mg base CX0 5 f fd ["self", "place", "low", "high"] (spIWall C) := by
  refine C8.fn0 F sc_Wall_init (fun vs H Q E h => ?_) (fun cdv A outer s H vs Q E hr h => ?_)
  · obtain ⟨a, dx, p, lo, hi, rfl, ha, ⟨h1, h2, h3, h4⟩, k⟩ := h
    rfl
  · obtain ⟨a, dx, p, lo, hi, rfl, ha, ⟨h1, h2, h3, h4⟩, k⟩ := h
    refine ⟨_, (pss_cons (ps_expr (C8.pe_c c_check_place hr (by decide) rfl (pa_cons (pv 1) pa_nil)))
    (pss_cons (ps_expr (C8.pe_c c_check_reach hr (by decide) rfl (pa_cons (pv 2) (pa_cons pe_str pa_nil))))
    (pss_cons (ps_expr (C8.pe_c c_check_reach hr (by decide) rfl (pa_cons (pv 3) (pa_cons pe_str pa_nil))))
    (pss_cons (ps_if (pt_cmpR op_gt (pv 2) (pv 3) (nomark _)) (pss_one ps_never) pss_nil)
    (pss_cons (ps_fld (pv 0) (pv 1) rfl)
    (pss_cons (ps_fld (pv 0) (pv 2) rfl)
    (pss_one (ps_fld (pv 0) (pv 3) rfl)))))))), ?_⟩
    refine ⟨_, rfl, _, rfl, h1, _, rfl, _, _, rfl, h2, _, rfl, _, _, rfl, h3, _, rfl, _, rfl, _, _, rfl, rfl, _, rfl, ?_⟩
    rw [decide_eq_false (by omega)]
    refine iteF ?_
    refine ⟨_, rfl, _, rfl, _, _, _, _, rfl, ha, TC.cl _ cm_Wall, TC.na _ cm_Wall _ fm_place, (by show 0 < 1000; decide), _, rfl, _, rfl, _, _, _, _, rfl, upd_same, TC.cl _ cm_Wall, TC.na _ cm_Wall _ fm_low, (by show 1 < 1000; decide), _, rfl, _, rfl, _, _, _, _, rfl, upd_same, TC.cl _ cm_Wall, TC.na _ cm_Wall _ fm_high, (by show 2 < 1000; decide), ?_⟩
    exact k _ (But.upd.trans (But.upd.trans But.upd)) (upd_same.trans (by rw [pf_Wall]))

theorem ok_Ahead_init (T : Txt K mg C) (TC : ClsT K C) (c_check_places : C8.Cal P w K mg base 5 "check_places" spCheckPlaces []) (c_check_reach : C8.Cal P w K mg base 4 "check_reach" spCheckReach []) (F : C8.Fun K "__init__" "Ahead.__init__" s_Ahead_init f fd) : FnOk P w K mg base CX0 6 f fd ["self", "one", "other", "gap"] (spIAhead C) := by
  refine C8.fn0 F sc_Ahead_init (fun vs H Q E h => ?_) (fun cdv A outer s H vs Q E hr h => ?_)
  · obtain ⟨a, dx, o, t, g, rfl, ha, ⟨h1, h2, h3, h4⟩, k⟩ := h
    rfl
  · obtain ⟨a, dx, o, t, g, rfl, ha, ⟨h1, h2, h3, h4⟩, k⟩ := h
    refine ⟨_, (pss_cons (ps_expr (C8.pe_c c_check_places hr (by decide) rfl (pa_cons (pv 1) (pa_cons (pv 2) pa_nil))))
    (pss_cons (ps_expr (C8.pe_c c_check_reach hr (by decide) rfl (pa_cons (pv 3) (pa_cons pe_str pa_nil))))
    (pss_cons (ps_fld (pv 0) (pv 1) rfl)
    (pss_cons (ps_fld (pv 0) (pv 2) rfl)
    (pss_one (ps_fld (pv 0) (pv 3) rfl)))))), ?_⟩
    refine ⟨_, rfl, _, rfl, _, _, rfl, h1, h2, h3, _, rfl, _, _, rfl, h4, _, rfl, _, rfl, _, _, _, _, rfl, ha, TC.cl _ cm_Ahead, TC.na _ cm_Ahead _ fm_one, (by show 0 < 1000; decide), _, rfl, _, rfl, _, _, _, _, rfl, upd_same, TC.cl _ cm_Ahead, TC.na _ cm_Ahead _ fm_other, (by show 1 < 1000; decide), _, rfl, _, rfl, _, _, _, _, rfl, upd_same, TC.cl _ cm_Ahead, TC.na _ cm_Ahead _ fm_gap, (by show 2 < 1000; decide), ?_⟩
    exact k _ (But.upd.trans (But.upd.trans But.upd)) (upd_same.trans (by rw [pf_Ahead]))

theorem ok_Row_init (T : Txt K mg C) (TC : ClsT K C) (c_check_place : C8.Cal P w K mg base 4 "check_place" spCheckPlace []) (c_check_reach : C8.Cal P w K mg base 4 "check_reach" spCheckReach []) (c_check_worths : C8.Cal P w K mg base 4 "check_worths" (spCheckWorths K) []) (c_check_bends : C8.Cal P w K mg base 1 "check_bends" (spCheckBends K) []) (F : C8.Fun K "__init__" "Row.__init__" s_Row_init f fd) : FnOk P w K mg base CX0 5 f fd ["self", "place", "first", "worths"] (spIRow K C) := by
  refine C8.fn0 F sc_Row_init (fun vs H Q E h => ?_) (fun cdv A outer s H vs Q E hr h => ?_)
  · obtain ⟨c, a, dx, l, p, f, ws, rfl, hc, ha, hl, ⟨h1, h2⟩, k⟩ := h
    rfl
  · obtain ⟨c, a, dx, l, p, f, ws, rfl, hc, ha, hl, ⟨h1, h2⟩, k⟩ := h
    refine ⟨_, (pss_cons (ps_expr (C8.pe_c c_check_place hr (by decide) rfl (pa_cons (pv 1) pa_nil)))
    (pss_cons (ps_expr (C8.pe_c c_check_reach hr (by decide) rfl (pa_cons (pv 2) (pa_cons pe_str pa_nil))))
    (pss_cons (ps_expr (C8.pe_c c_check_worths hr (by decide) rfl (pa_cons (pv 3) pa_nil)))
    (pss_cons (ps_expr (C8.pe_c c_check_bends hr (by decide) rfl (pa_cons (pv 3) pa_nil)))
    (pss_cons (ps_fld (pv 0) (pv 1) rfl)
    (pss_cons (ps_fld (pv 0) (pv 2) rfl)
    (pss_one (ps_fld (pv 0) (pe_callTy call_tuple_of (by rfl) T.b_tuple (by decide +kernel) (pa_cons (pv 3) pa_nil)) rfl)))))))), ?_⟩
    refine ⟨_, rfl, _, rfl, h1, _, rfl, _, _, rfl, h2.f, _, rfl, _, _, rfl, hl, h2.l1, h2.l2, h2.wb, _, rfl, _, _, rfl, hl, h2.l2, h2.ev, _, rfl, _, rfl, _, _, _, _, rfl, ha, TC.cl _ hc, TC.na _ hc _ fm_place, (by show 0 < 1000; decide), _, rfl, _, rfl, _, _, _, _, rfl, upd_same, TC.cl _ hc, TC.na _ hc _ fm_first, (by show 1 < 1000; decide), ?_⟩
    have nla : l ≠ a := ne_of hl ha (by intro z; cases z)
    refine ⟨_, rfl, _, _, rfl, .inl ⟨.of (by rw [upd_ne nla, upd_ne nla]; exact hl), fun t ht => ?_⟩⟩
    have nta : t ≠ a := fun e => by rw [e, upd_same] at ht; cases ht
    refine ⟨_, rfl, _, _, _, _, rfl, (by rw [upd_ne nta.symm]; exact upd_same), TC.cl _ hc, TC.na _ hc _ fm_worths, (by show 2 < 1000; decide), ?_⟩
    have b1 : But a H (upd H a (.ins (C c) dx (putF "place" (.int p) []))) := But.upd
    have b2 := (b1.trans (But.upd (o := .ins (C c) dx (putF "first" (.int f) (putF "place" (.int p) []))))).trans (But.of (Same.upd (o := .tup (ws.map V.int)) ht))
    exact k _ t (b2.trans But.upd) (upd_same.trans (by rw [pf_Row])) nta (by rw [upd_ne nta, upd_same])

end
end Ev

namespace Ev
open PySem L2 Ax
section
variable {P : Program} {w : World} {K : PySem.W.Frag} {mg : Str → Option Value} {base : Heap} {C : Str → Addr} {f : Addr} {fd : FuncData}

def spINear (C : Str → Addr) : Sp := fun vs H Q _ => ∃ (a dx : Addr) (o t b w : Int), vs = [.ref a, .int o, .int t, .int b, .int w] ∧ H a = some (.ins (C "Near") dx []) ∧ (PD.near o t b w).ok ∧ ∀ H', But a H H' → H' a = some (.ins (C "Near") dx (fNear o t b w)) → Q .non H'
def spIGaps (C : Str → Addr) : Sp := fun vs H Q _ => ∃ (a dx l : Addr) (o u f : Int) (ws : List Int), vs = [.ref a, .int o, .int u, .int f, .ref l] ∧ H a = some (.ins (C "Gaps") dx []) ∧ H l = some (.lst (ws.map V.int)) ∧ (PD.gaps o u f ws).ok ∧
  ∀ H' t, But a H H' → H' a = some (.ins (C "Gaps") dx (fGaps o u f t)) → t ≠ a → H' t = some (.tup (ws.map V.int)) → Q .non H'
variable {cc cda f2 : Addr}

def spWNear (C : Str → Addr) : Sp := fun vs H Q _ => ∃ (a dx : Addr) (o t b w x : Int), vs = [.ref a, .int x] ∧ H a = some (.ins (C "Near") dx (fNear o t b w)) ∧ 0 ≤ w ∧ w ≤ 1000 ∧ Q (.int (w * absI (x - b))) H
def spWGaps (C : Str → Addr) : Sp := fun vs H Q _ => ∃ (a dx t : Addr) (o u f x : Int) (ws : List Int), vs = [.ref a, .int x] ∧ H a = some (.ins (C "Gaps") dx (fGaps o u f t)) ∧ H t = some (.tup (ws.map V.int)) ∧ Q (vO (rowAt f ws x)) H
def spLimG (C : Str → Addr) : Sp := fun vs H Q _ => ∃ (a dx t : Addr) (o u f : Int) (ws : List Int), vs = [.ref a] ∧ H a = some (.ins (C "Gaps") dx (fGaps o u f t)) ∧ H t = some (.tup (ws.map V.int)) ∧ ∀ l, H l = none → Q (.ref l) (upd H l (.tup [.int f, .int (f + (ws.length : Int) - 1)]))
theorem ok_Near_worth_of (T : Txt K mg C) (TC : ClsT K C)  (S : SupOk P K mg f cc cda (C "Near") (C "Near") "worth_of" f2) (c2 : CalO P w K mg base 1 f2 (spWAim C) []) (F : FunS K "worth_of" "Near.worth_of" s_Near_worth_of f cc cda (C "Near") fd) : FnOk P w K mg base CX0 2 f fd ["self", "reads"] (spWNear C) := by
  refine F.ok sc_Near_worth_of (fun vs H Q E h => ?_) (fun A outer s H vs Q E hr h => ?_)
  · obtain ⟨a, dx, o, t, b, w, x, rfl, ha, h1, h2, k⟩ := h
    rfl
  · obtain ⟨a, dx, o, t, b, w, x, rfl, ha, h1, h2, k⟩ := h
    have hr2 : Room 1 _ := hr.mono (by decide)
    refine ⟨_, (pssA_one (psA_ret (peA_super S c2 hr2 (pa_cons (pv 1) pa_nil)))), ?_⟩
    refine ⟨a, dx, _, rfl, ha, _, rfl, "Near", a, dx, _, b, w, x, rfl, cm_Near, ha, lk_Near_aim, lk_Near_weight, h1, h2, ?_⟩
    exact k

theorem ok_Near_limits (T : Txt K mg C) (TC : ClsT K C)  (S : SupOk P K mg f cc cda (C "Near") (C "Near") "limits" f2) (c2 : CalO P w K mg base 1 f2 (spLimN C "Near") []) (F : FunS K "limits" "Near.limits" s_Near_limits f cc cda (C "Near") fd) : FnOk P w K mg base CX0 2 f fd ["self"] (spLimN C "Near") := by
  refine F.ok sc_Near_limits (fun vs H Q E h => ?_) (fun A outer s H vs Q E hr h => ?_)
  · obtain ⟨a, dx, fs, rfl, ha, k⟩ := h
    rfl
  · obtain ⟨a, dx, fs, rfl, ha, k⟩ := h
    have hr2 : Room 1 _ := hr.mono (by decide)
    refine ⟨_, (pssA_one (psA_ret (peA_super0 S c2 hr2))), ?_⟩
    refine ⟨a, dx, _, rfl, ha, a, dx, _, rfl, ha, ?_⟩
    exact k

theorem ok_Gaps_worth_of (T : Txt K mg C) (TC : ClsT K C)  (S : SupOk P K mg f cc cda (C "Gaps") (C "Gaps") "worth_of" f2) (c2 : CalO P w K mg base 1 f2 (spWRow C) []) (F : FunS K "worth_of" "Gaps.worth_of" s_Gaps_worth_of f cc cda (C "Gaps") fd) : FnOk P w K mg base CX0 2 f fd ["self", "reads"] (spWGaps C) := by
  refine F.ok sc_Gaps_worth_of (fun vs H Q E h => ?_) (fun A outer s H vs Q E hr h => ?_)
  · obtain ⟨a, dx, t, o, u, f, x, ws, rfl, ha, ht, k⟩ := h
    rfl
  · obtain ⟨a, dx, t, o, u, f, x, ws, rfl, ha, ht, k⟩ := h
    have hr2 : Room 1 _ := hr.mono (by decide)
    refine ⟨_, (pssA_one (psA_ret (peA_super S c2 hr2 (pa_cons (pv 1) pa_nil)))), ?_⟩
    refine ⟨a, dx, _, rfl, ha, _, rfl, "Gaps", a, dx, t, _, f, x, ws, rfl, cm_Gaps, ha, lk_Gaps_first, lk_Gaps_worths, ht, ?_⟩
    exact k

theorem ok_Gaps_limits (T : Txt K mg C) (TC : ClsT K C)  (S : SupOk P K mg f cc cda (C "Gaps") (C "Gaps") "limits" f2) (c2 : CalO P w K mg base 1 f2 (spLimR C) []) (F : FunS K "limits" "Gaps.limits" s_Gaps_limits f cc cda (C "Gaps") fd) : FnOk P w K mg base CX0 2 f fd ["self"] (spLimG C) := by
  refine F.ok sc_Gaps_limits (fun vs H Q E h => ?_) (fun A outer s H vs Q E hr h => ?_)
  · obtain ⟨a, dx, t, o, u, f, ws, rfl, ha, ht, k⟩ := h
    rfl
  · obtain ⟨a, dx, t, o, u, f, ws, rfl, ha, ht, k⟩ := h
    have hr2 : Room 1 _ := hr.mono (by decide)
    refine ⟨_, (pssA_one (psA_ret (peA_super0 S c2 hr2))), ?_⟩
    refine ⟨a, dx, _, rfl, ha, "Gaps", a, dx, t, _, f, ws, rfl, cm_Gaps, ha, lk_Gaps_first, lk_Gaps_worths, ht, ?_⟩
    exact k

theorem ok_Near_init (T : Txt K mg C) (TC : ClsT K C) (c_check_places : C8.Cal P w K mg base 5 "check_places" spCheckPlaces []) (S : SupOk P K mg f cc cda (C "Near") (C "Near") "__init__" f2) (c2 : CalO P w K mg base 6 f2 (spIAim C) []) (F : FunS K "__init__" "Near.__init__" s_Near_init f cc cda (C "Near") fd) : FnOk P w K mg base CX0 7 f fd ["self", "one", "other", "aim", "weight"] (spINear C) := by
  refine F.ok sc_Near_init (fun vs H Q E h => ?_) (fun A outer s H vs Q E hr h => ?_)
  · obtain ⟨a, dx, o, t, b, w, rfl, ha, ⟨h1, h2, h3, h4, h5, h6⟩, k⟩ := h
    rfl
  · obtain ⟨a, dx, o, t, b, w, rfl, ha, ⟨h1, h2, h3, h4, h5, h6⟩, k⟩ := h
    have hr2 : Room 6 _ := hr.mono (by decide)
    refine ⟨_, (pssA_cons (psA_of (ps_expr (C8.pe_c c_check_places hr (by decide) rfl (pa_cons (pv 1) (pa_cons (pv 2) pa_nil))))) (pssA_cons (psA_expr (peA_super S c2 hr2 (pa_cons (pv 1) (pa_cons (pv 3) (pa_cons (pv 4) pa_nil))))) (pssA_of (pss_one (ps_fld (pv 0) (pv 2) rfl))))), ?_⟩
    refine ⟨_, rfl, _, rfl, _, _, rfl, h1, h2, h3, a, dx, _, rfl, ha, _, rfl, _, rfl, _, rfl, "Near", a, dx, o, b, w, rfl, cm_Near, ha, ⟨h1, h4, h5, h6⟩, fun H1 b1 e1 => ?_⟩
    refine ⟨_, rfl, _, rfl, _, _, _, _, rfl, e1, TC.cl _ cm_Near, TC.na _ cm_Near _ fm_other, (by show 3 < 1000; decide), ?_⟩
    exact k _ (b1.trans But.upd) (upd_same.trans (by rw [pf_Near]))

theorem ok_Gaps_init (T : Txt K mg C) (TC : ClsT K C) (c_check_places : C8.Cal P w K mg base 5 "check_places" spCheckPlaces []) (S : SupOk P K mg f cc cda (C "Gaps") (C "Gaps") "__init__" f2) (c2 : CalO P w K mg base 5 f2 (spIRow K C) []) (F : FunS K "__init__" "Gaps.__init__" s_Gaps_init f cc cda (C "Gaps") fd) : FnOk P w K mg base CX0 6 f fd ["self", "one", "other", "first", "worths"] (spIGaps C) := by
  refine F.ok sc_Gaps_init (fun vs H Q E h => ?_) (fun A outer s H vs Q E hr h => ?_)
  · obtain ⟨a, dx, l, o, u, f, ws, rfl, ha, hl, ⟨h1, h2, h3, h4⟩, k⟩ := h
    rfl
  · obtain ⟨a, dx, l, o, u, f, ws, rfl, ha, hl, ⟨h1, h2, h3, h4⟩, k⟩ := h
    have hr2 : Room 5 _ := hr.mono (by decide)
    refine ⟨_, (pssA_cons (psA_of (ps_expr (C8.pe_c c_check_places hr (by decide) rfl (pa_cons (pv 1) (pa_cons (pv 2) pa_nil))))) (pssA_cons (psA_expr (peA_super S c2 hr2 (pa_cons (pv 1) (pa_cons (pv 3) (pa_cons (pv 4) pa_nil))))) (pssA_of (pss_one (ps_fld (pv 0) (pv 2) rfl))))), ?_⟩
    refine ⟨_, rfl, _, rfl, _, _, rfl, h1, h2, h3, a, dx, _, rfl, ha, _, rfl, _, rfl, _, rfl, "Gaps", a, dx, l, o, f, ws, rfl, cm_Gaps, ha, hl, ⟨h1, h4⟩, fun H1 t b1 e1 nt et => ?_⟩
    refine ⟨_, rfl, _, rfl, _, _, _, _, rfl, e1, TC.cl _ cm_Gaps, TC.na _ cm_Gaps _ fm_other, (by show 3 < 1000; decide), ?_⟩
    exact k _ t (b1.trans But.upd) (upd_same.trans (by rw [pf_Gaps])) nt (by rw [upd_ne nt]; exact et)

end
end Ev

namespace Ev
open PySem L2 Ax
section
variable {P : Program} {w : World} {K : PySem.W.Frag} {mg : Str → Option Value} {base : Heap} {C : Str → Addr} {f : Addr} {fd : FuncData}

def spWrapsAround (C : Str → Addr) : Sp := fun vs H Q _ => ∃ (pd : PD) (a : Addr), vs = [.ref a] ∧ PartAt C H pd a ∧ Q (.int ((pd.wraps : Nat) : Int)) H
def spCheckWrapped (C : Str → Addr) : Sp := fun vs H Q _ => ∃ (pd : PD) (a : Addr), vs = [.ref a] ∧ PartAt C H pd a ∧ pd.wraps < 8 ∧ Q .non H
def spMovedLimit : Sp := fun vs H Q _ => ∃ (l : Option Int) (b : Int), vs = [vO l, .int b] ∧ Q (vO (l.map fun y => y + b)) H
def spStands (C : Str → Addr) (n : Nat) (c : Str) : Sp := fun vs H Q _ => ∃ (pd : PD) (a : Addr), vs = [.ref a] ∧ pd.cls = c ∧ pd.wraps ≤ n ∧ PartAt C H pd a ∧ ∀ l H', Same H H' → H l = none → H' l = some (.lst (pd.stands.map V.int)) → Q (.ref l) H'
def spWorth (C : Str → Addr) (n : Nat) (c : Str) : Sp := fun vs H Q _ => ∃ (pd : PD) (a : Addr) (x : Int), vs = [.ref a, .int x] ∧ pd.cls = c ∧ pd.wraps ≤ n ∧ pd.ok ∧ PartAt C H pd a ∧ Rd n x ∧ Q (vO (pd.worth x)) H
def spLimits (C : Str → Addr) (n : Nat) (c : Str) : Sp := fun vs H Q _ => ∃ (pd : PD) (a : Addr), vs = [.ref a] ∧ pd.cls = c ∧ pd.wraps ≤ n ∧ PartAt C H pd a ∧ ∀ l H', Same H H' → H l = none → H' l = some (.tup [vO pd.limits.1, vO pd.limits.2]) → Q (.ref l) H'
theorem cls_times : ∀ {pd : PD}, pd.cls = "Times" → ∃ q m, pd = .times q m
  | .slope .., h => absurd (show ("Slope" : Str) = "Times" from h) (by decide +kernel)
  | .aim .., h => absurd (show ("Aim" : Str) = "Times" from h) (by decide +kernel)
  | .square .., h => absurd (show ("Square" : Str) = "Times" from h) (by decide +kernel)
  | .row .., h => absurd (show ("Row" : Str) = "Times" from h) (by decide +kernel)
  | .wall .., h => absurd (show ("Wall" : Str) = "Times" from h) (by decide +kernel)
  | .near .., h => absurd (show ("Near" : Str) = "Times" from h) (by decide +kernel)
  | .gaps .., h => absurd (show ("Gaps" : Str) = "Times" from h) (by decide +kernel)
  | .ahead .., h => absurd (show ("Ahead" : Str) = "Times" from h) (by decide +kernel)
  | .times q m, _ => ⟨q, m, rfl⟩
  | .moved .., h => absurd (show ("Moved" : Str) = "Times" from h) (by decide +kernel)
theorem cls_moved : ∀ {pd : PD}, pd.cls = "Moved" → ∃ q m, pd = .moved q m
  | .slope .., h => absurd (show ("Slope" : Str) = "Moved" from h) (by decide +kernel)
  | .aim .., h => absurd (show ("Aim" : Str) = "Moved" from h) (by decide +kernel)
  | .square .., h => absurd (show ("Square" : Str) = "Moved" from h) (by decide +kernel)
  | .row .., h => absurd (show ("Row" : Str) = "Moved" from h) (by decide +kernel)
  | .wall .., h => absurd (show ("Wall" : Str) = "Moved" from h) (by decide +kernel)
  | .near .., h => absurd (show ("Near" : Str) = "Moved" from h) (by decide +kernel)
  | .gaps .., h => absurd (show ("Gaps" : Str) = "Moved" from h) (by decide +kernel)
  | .ahead .., h => absurd (show ("Ahead" : Str) = "Moved" from h) (by decide +kernel)
  | .times .., h => absurd (show ("Times" : Str) = "Moved" from h) (by decide +kernel)
  | .moved q m, _ => ⟨q, m, rfl⟩
theorem wraps_of : ∀ {pd : PD}, (pd.cls == "Times") = false → (pd.cls == "Moved") = false → pd.wraps = 0
  | .slope .., _, _ => rfl
  | .aim .., _, _ => rfl
  | .square .., _, _ => rfl
  | .row .., _, _ => rfl
  | .wall .., _, _ => rfl
  | .near .., _, _ => rfl
  | .gaps .., _, _ => rfl
  | .ahead .., _, _ => rfl
  | .times .., h, h' => absurd (show (("Times" : Str) == "Times") = false from h) (by decide +kernel)
  | .moved .., h, h' => absurd (show (("Moved" : Str) == "Moved") = false from h') (by decide +kernel)
theorem nT : (("Times" : Str) == "Times") = true := by decide +kernel
theorem nM : (("Moved" : Str) == "Moved") = true := by decide +kernel
theorem nMT : (("Moved" : Str) == "Times") = false := by decide +kernel

theorem ok_wraps_around (T : Txt K mg C) (TC : ClsT K C) (IT : IsT K C) (F : C8.Def K mg "wraps_around" s_wraps_around f fd) (b : Binds K fd ["part"] []) : C8.Cal P w K mg base 1 "wraps_around" (spWrapsAround C) [] := by
  refine C8.cal0 F b .nil sc_wraps_around (fun vs H Q E h => ?_) (fun cdv A outer s H vs Q E hr h => ?_)
  · obtain ⟨pd, a, rfl, hp, k⟩ := h
    rfl
  · obtain ⟨pd, a, rfl, hp, k⟩ := h
    refine ⟨_, (pss_cons (ps_if (PW.pt (pw_or (pt_val (pe_callB call_isi (by rfl) T.b_isinstance (by decide +kernel) (pa_cons (pv 0) (pa_cons (C8.pe_gc rfl T.g_Times) pa_nil)))) (pw_or1 (pt_val (pe_callB call_isi (by rfl) T.b_isinstance (by decide +kernel) (pa_cons (pv 0) (pa_cons (C8.pe_gc rfl T.g_Moved) pa_nil))))))) (pss_one (ps_ret (pe_fld (pv 0) rfl))) pss_nil)
    (pss_one (ps_ret pe_int))), ?_⟩
    obtain ⟨dx, fs, ha, _⟩ := hp.ins
    refine ⟨_, rfl, _, _, _, _, _, rfl, .own _, ty_of IT TC pd.cls_mem ha, IT.tim _ pd.cls_mem, _, rfl, ?_⟩
    cases e1 : (pd.cls == "Times") with
    | true =>
      obtain ⟨q, m, rfl⟩ := cls_times (beq_iff_eq.mp e1)
      obtain ⟨dx, r, ha, _⟩ := hp
      refine iteT (iteT ⟨_, rfl, _, _, _, _, _, rfl, ha, TC.cl _ cm_Times, TC.na _ cm_Times _ fm_wraps, lk_Times_wraps, ?_⟩)
      exact k
    | false =>
      refine iteF ⟨_, rfl, _, _, _, _, _, rfl, .own _, ty_of IT TC pd.cls_mem ha, IT.mov _ pd.cls_mem, _, rfl, ?_⟩
      cases e2 : (pd.cls == "Moved") with
      | true =>
        obtain ⟨q, m, rfl⟩ := cls_moved (beq_iff_eq.mp e2)
        obtain ⟨dx, r, ha, _⟩ := hp
        refine iteT ⟨_, rfl, _, _, _, _, _, rfl, ha, TC.cl _ cm_Moved, TC.na _ cm_Moved _ fm_wraps, lk_Moved_wraps, ?_⟩
        exact k
      | false =>
        refine iteF ?_
        rw [wraps_of e1 e2] at k
        exact k

theorem ok_check_wrapped (T : Txt K mg C) (TC : ClsT K C) (IT : IsT K C) (c_wraps_around : C8.Cal P w K mg base 1 "wraps_around" (spWrapsAround C) []) (F : C8.Def K mg "check_wrapped" s_check_wrapped f fd) (b : Binds K fd ["part"] []) : C8.Cal P w K mg base 2 "check_wrapped" (spCheckWrapped C) [] := by
  refine C8.cal0 F b .nil sc_check_wrapped (fun vs H Q E h => ?_) (fun cdv A outer s H vs Q E hr h => ?_)
  · obtain ⟨pd, a, rfl, hp, h1, k⟩ := h
    rfl
  · obtain ⟨pd, a, rfl, hp, h1, k⟩ := h
    refine ⟨_, (pss_cons (ps_if (pt_not (pt_val (pe_callB call_isi (by rfl) T.b_isinstance (by decide +kernel) (pa_cons (pv 0) (pa_cons (C8.pe_gc rfl T.g_Part) pa_nil))))) (pss_one ps_never) pss_nil)
    (pss_one (ps_if (pt_cmpR op_ge (C8.pe_c c_wraps_around hr (by decide) rfl (pa_cons (pv 0) pa_nil)) (C8.pe_gc rfl T.g_MOST_WRAPS) (nomark _)) (pss_one ps_never) pss_nil))), ?_⟩
    obtain ⟨dx, fs, ha, _⟩ := hp.ins
    refine ⟨_, rfl, _, _, _, _, _, rfl, .own _, ty_of IT TC pd.cls_mem ha, IT.par _ pd.cls_mem, _, rfl, iteF ?_⟩
    refine ⟨_, rfl, pd, a, rfl, hp, _, _, rfl, rfl, _, rfl, ?_⟩
    rw [decide_eq_false (by omega)]
    exact iteF k

theorem ok_moved_limit (T : Txt K mg C)  (F : C8.Def K mg "moved_limit" s_moved_limit f fd) (b : Binds K fd ["limit", "by"] []) : C8.Cal P w K mg base 1 "moved_limit" spMovedLimit [] := by
  refine C8.cal0 F b .nil sc_moved_limit (fun vs H Q E h => ?_) (fun cdv A outer s H vs Q E hr h => ?_)
  · obtain ⟨l, b, rfl, k⟩ := h
    rfl
  · obtain ⟨l, b, rfl, k⟩ := h
    refine ⟨_, (pss_cons (ps_if (pt_cmp (pc_isN (pv 0))) (pss_one (ps_ret pe_non)) pss_nil)
    (pss_one (ps_ret (pe_op op_add (pv 0) (pv 1))))), ?_⟩
    cases l with
    | none =>
      refine ⟨_, rfl, _, rfl, ?_⟩
      exact iteT k
    | some i =>
      refine ⟨_, rfl, _, rfl, ?_⟩
      refine iteF ⟨_, rfl, _, rfl, _, _, rfl, rfl, ?_⟩
      exact k

def spITimes (C : Str → Addr) : Sp := fun vs H Q _ => ∃ (a dx r : Addr) (q : PD) (m : Int), vs = [.ref a, .ref r, .int m] ∧ H a = some (.ins (C "Times") dx []) ∧ PartAt C H q r ∧ q.wraps < 8 ∧ 1 ≤ m ∧ m ≤ 100 ∧ ∀ H', But a H H' → H' a = some (.ins (C "Times") dx (fTimes r m ((q.wraps + 1 : Nat) : Int))) → Q .non H'
def spIMoved (C : Str → Addr) : Sp := fun vs H Q _ => ∃ (a dx r : Addr) (q : PD) (m : Int), vs = [.ref a, .ref r, .int m] ∧ H a = some (.ins (C "Moved") dx []) ∧ PartAt C H q r ∧ q.wraps < 8 ∧ -100 ≤ m ∧ m ≤ 100 ∧ ∀ H', But a H H' → H' a = some (.ins (C "Moved") dx (fMoved r m ((q.wraps + 1 : Nat) : Int))) → Q .non H'
/-- a part keeps where an object changes that has no attributes yet -/
theorem PartAt.but {C : Str → Addr} {H H' : Hp} {x dx : Addr} {c : Addr} (hx : H x = some (.ins c dx [])) (s : But x H H') : ∀ {pd : PD} {a : Addr}, PartAt C H pd a → PartAt C H' pd a
  | .slope .., a, ⟨d, h⟩ => ⟨d, s _ _ (ne_of h hx (by unfold fSlope; intro z; cases z)) h⟩
  | .aim .., _, ⟨d, h⟩ => ⟨d, s _ _ (ne_of h hx (by unfold fAim; intro z; cases z)) h⟩
  | .square .., _, ⟨d, h⟩ => ⟨d, s _ _ (ne_of h hx (by unfold fAim; intro z; cases z)) h⟩
  | .row .., _, ⟨d, t, h, h2⟩ => ⟨d, t, s _ _ (ne_of h hx (by unfold fRow; intro z; cases z)) h, s _ _ (ne_of h2 hx (by intro z; cases z)) h2⟩
  | .wall .., _, ⟨d, h⟩ => ⟨d, s _ _ (ne_of h hx (by unfold fWall; intro z; cases z)) h⟩
  | .near .., _, ⟨d, h⟩ => ⟨d, s _ _ (ne_of h hx (by unfold fNear; intro z; cases z)) h⟩
  | .gaps .., _, ⟨d, t, h, h2⟩ => ⟨d, t, s _ _ (ne_of h hx (by unfold fGaps; intro z; cases z)) h, s _ _ (ne_of h2 hx (by intro z; cases z)) h2⟩
  | .ahead .., _, ⟨d, h⟩ => ⟨d, s _ _ (ne_of h hx (by unfold fAhead; intro z; cases z)) h⟩
  | .times .., _, ⟨d, r, h, h2⟩ => ⟨d, r, s _ _ (ne_of h hx (by unfold fTimes; intro z; cases z)) h, PartAt.but hx s h2⟩
  | .moved .., _, ⟨d, r, h, h2⟩ => ⟨d, r, s _ _ (ne_of h hx (by unfold fMoved; intro z; cases z)) h, PartAt.but hx s h2⟩
/-- .. and where attributes of an object change that is none of it: by addresses -/

theorem ok_Times_init (T : Txt K mg C) (TC : ClsT K C) (c_check_wrapped : C8.Cal P w K mg base 2 "check_wrapped" (spCheckWrapped C) []) (c_wraps_around : C8.Cal P w K mg base 1 "wraps_around" (spWrapsAround C) []) (c_check_number : C8.Cal P w K mg base 3 "check_number" spCheckNumber []) (F : C8.Fun K "__init__" "Times.__init__" s_Times_init f fd) : FnOk P w K mg base CX0 4 f fd ["self", "part", "many"] (spITimes C) := by
  refine C8.fn0 F sc_Times_init (fun vs H Q E h => ?_) (fun cdv A outer s H vs Q E hr h => ?_)
  · obtain ⟨a, dx, r, q, m, rfl, ha, hp, h1, h2, h3, k⟩ := h
    rfl
  · obtain ⟨a, dx, r, q, m, rfl, ha, hp, h1, h2, h3, k⟩ := h
    refine ⟨_, (pss_cons (ps_expr (C8.pe_c c_check_wrapped hr (by decide) rfl (pa_cons (pv 1) pa_nil)))
    (pss_cons (ps_expr (C8.pe_c c_check_number hr (by decide) rfl (pa_cons (pv 2) (pa_cons pe_int (pa_cons (C8.pe_gc rfl T.g_MOST_TIMES) (pa_cons pe_str pa_nil))))))
    (pss_cons (ps_fld (pv 0) (pv 1) rfl)
    (pss_cons (ps_fld (pv 0) (pv 2) rfl)
    (pss_one (ps_fld (pv 0) (pe_op op_add (C8.pe_c c_wraps_around hr (by decide) rfl (pa_cons (pv 1) pa_nil)) pe_int) rfl)))))), ?_⟩
    have b1 : But a H (upd H a (.ins (C "Times") dx (putF "part" (.ref r) []))) := But.upd
    have b2 := b1.trans (But.upd (o := .ins (C "Times") dx (putF "many" (.int m) (putF "part" (.ref r) []))))
    refine ⟨_, rfl, q, r, rfl, hp, h1, _, rfl, _, _, _, _, rfl, h2, h3, _, rfl, _, rfl, _, _, _, _, rfl, ha, TC.cl _ cm_Times, TC.na _ cm_Times _ fm_part, (by show 0 < 1000; decide), _, rfl, _, rfl, _, _, _, _, rfl, upd_same, TC.cl _ cm_Times, TC.na _ cm_Times _ fm_many, (by show 1 < 1000; decide), _, rfl, q, r, rfl, hp.but ha b2, _, _, rfl, rfl, _, rfl, _, _, _, _, rfl, upd_same, TC.cl _ cm_Times, TC.na _ cm_Times _ fm_wraps, (by show 2 < 1000; decide), ?_⟩
    exact k _ (b2.trans But.upd) (upd_same.trans (by rw [pf_Times]; rfl))

theorem ok_Moved_init (T : Txt K mg C) (TC : ClsT K C) (c_check_wrapped : C8.Cal P w K mg base 2 "check_wrapped" (spCheckWrapped C) []) (c_wraps_around : C8.Cal P w K mg base 1 "wraps_around" (spWrapsAround C) []) (c_check_number : C8.Cal P w K mg base 3 "check_number" spCheckNumber []) (F : C8.Fun K "__init__" "Moved.__init__" s_Moved_init f fd) : FnOk P w K mg base CX0 4 f fd ["self", "part", "by"] (spIMoved C) := by
  refine C8.fn0 F sc_Moved_init (fun vs H Q E h => ?_) (fun cdv A outer s H vs Q E hr h => ?_)
  · obtain ⟨a, dx, r, q, m, rfl, ha, hp, h1, h2, h3, k⟩ := h
    rfl
  · obtain ⟨a, dx, r, q, m, rfl, ha, hp, h1, h2, h3, k⟩ := h
    refine ⟨_, (pss_cons (ps_expr (C8.pe_c c_check_wrapped hr (by decide) rfl (pa_cons (pv 1) pa_nil)))
    (pss_cons (ps_expr (C8.pe_c c_check_number hr (by decide) rfl (pa_cons (pv 2) (pa_cons (pe_un un_neg (C8.pe_gc rfl T.g_FARTHEST)) (pa_cons (C8.pe_gc rfl T.g_FARTHEST) (pa_cons pe_str pa_nil))))))
    (pss_cons (ps_fld (pv 0) (pv 1) rfl)
    (pss_cons (ps_fld (pv 0) (pv 2) rfl)
    (pss_one (ps_fld (pv 0) (pe_op op_add (C8.pe_c c_wraps_around hr (by decide) rfl (pa_cons (pv 1) pa_nil)) pe_int) rfl)))))), ?_⟩
    have b1 : But a H (upd H a (.ins (C "Moved") dx (putF "part" (.ref r) []))) := But.upd
    have b2 := b1.trans (But.upd (o := .ins (C "Moved") dx (putF "by" (.int m) (putF "part" (.ref r) []))))
    refine ⟨_, rfl, q, r, rfl, hp, h1, _, rfl, _, rfl, _, _, _, _, rfl, h2, h3, _, rfl, _, rfl, _, _, _, _, rfl, ha, TC.cl _ cm_Moved, TC.na _ cm_Moved _ fm_part, (by show 0 < 1000; decide), _, rfl, _, rfl, _, _, _, _, rfl, upd_same, TC.cl _ cm_Moved, TC.na _ cm_Moved _ fm_by, (by show 1 < 1000; decide), _, rfl, q, r, rfl, hp.but ha b2, _, _, rfl, rfl, _, rfl, _, _, _, _, rfl, upd_same, TC.cl _ cm_Moved, TC.na _ cm_Moved _ fm_wraps, (by show 2 < 1000; decide), ?_⟩
    exact k _ (b2.trans But.upd) (upd_same.trans (by rw [pf_Moved]; rfl))

theorem ok_Times_stands (T : Txt K mg C) (TC : ClsT K C) {n : Nat} (M : ∀ c ∈ clss, C8.Met P w K mg base (3 + n) (C c) "stands" (spStands C n c) []) (me : Meth K (C "Times") "stands" f) (F : C8.Fun K "stands" "Times.stands" s_Times_stands f fd) (b : Binds K fd ["self"] []) : C8.Met P w K mg base (3 + n + 1) (C "Times") "stands" (spStands C (n + 1) "Times") [] := by
  refine C8.met0 (TC.cl _ (by simp [clss])) me F b sc_Times_stands (fun vs H Q E h => ?_) (fun cdv A outer s H vs Q E hr h => ?_)
  · obtain ⟨pd, a, rfl, hc, hn, hp, k⟩ := h
    rfl
  · obtain ⟨pd, a, rfl, hc, hn, hp, k⟩ := h
    refine ⟨_, (pss_one (ps_ret (pe_anyP (p := fun c => c ∈ clss) fun c hc => C8.pe_mt0 (M c hc) hr (Nat.le_refl _) (pe_fld (pv 0) rfl)))), ?_⟩
    obtain ⟨q, m, rfl⟩ := cls_times hc
    obtain ⟨dx, r, ha, hq⟩ := hp
    obtain ⟨dy, gs, hr', hg⟩ := hq.ins
    refine ⟨_, q.cls_mem, _, rfl, _, _, _, _, _, rfl, ha, TC.cl _ cm_Times, TC.na _ cm_Times _ fm_part, lk_Times_part, _, _, _, rfl, hr', lookup_no no_stands hg, q, r, rfl, rfl, Nat.le_of_succ_le_succ hn, hq, fun l H' s hl he => ?_⟩
    exact k l H' s hl he

theorem ok_Times_worth_of (T : Txt K mg C) (TC : ClsT K C) {n : Nat} (M : ∀ c ∈ clss, C8.Met P w K mg base (3 + n) (C c) "worth_of" (spWorth C n c) []) (me : Meth K (C "Times") "worth_of" f) (F : C8.Fun K "worth_of" "Times.worth_of" s_Times_worth_of f fd) (b : Binds K fd ["self", "reads"] []) : C8.Met P w K mg base (3 + n + 1) (C "Times") "worth_of" (spWorth C (n + 1) "Times") [] := by
  refine C8.met0 (TC.cl _ (by simp [clss])) me F b sc_Times_worth_of (fun vs H Q E h => ?_) (fun cdv A outer s H vs Q E hr h => ?_)
  · obtain ⟨pd, a, x, rfl, hc, hn, hok, hp, hx, k⟩ := h
    rfl
  · obtain ⟨pd, a, x, rfl, hc, hn, hok, hp, hx, k⟩ := h
    refine ⟨_, (pss_cons (ps_set (i := 2) sc_Times_worth_of.nd rfl (Or.inl rfl) (pe_anyP (p := fun c => c ∈ clss) fun c hc => C8.pe_mt (M c hc) hr (Nat.le_refl _) (pe_fld (pv 0) rfl) (pa_cons (pv 1) pa_nil)))
    (pss_cons (ps_if (pt_cmp (pc_isN (pv 2))) (pss_one (ps_ret pe_non)) pss_nil)
    (pss_one (ps_ret (pe_op op_mul (pe_fld (pv 0) rfl) (pv 2)))))), ?_⟩
    obtain ⟨q, m, rfl⟩ := cls_times hc
    obtain ⟨dx, r, ha, hq⟩ := hp
    obtain ⟨dy, gs, hr', hg⟩ := hq.ins
    obtain ⟨o1, o2, o3, o4⟩ := hok
    have hx' : Rd n x := by unfold Rd at hx ⊢; omega
    refine ⟨_, q.cls_mem, _, rfl, _, _, _, _, _, rfl, ha, TC.cl _ cm_Times, TC.na _ cm_Times _ fm_part, lk_Times_part, _, _, _, rfl, hr', lookup_no no_worth hg, _, rfl, q, r, x, rfl, rfl, Nat.le_of_succ_le_succ hn, o1, hq, hx', ?_⟩
    have e : (PD.times q m).worth x = (q.worth x).map fun y => m * y := rfl
    rw [e] at k
    cases z : q.worth x with
    | none =>
      rw [z] at k
      refine ⟨_, rfl, _, rfl, iteT ?_⟩
      exact k
    | some y =>
      rw [z] at k
      refine ⟨_, rfl, _, rfl, iteF ⟨_, rfl, _, _, _, _, _, rfl, ha, TC.cl _ cm_Times, TC.na _ cm_Times _ fm_many, lk_Times_many, _, rfl, _, _, rfl, rfl, .inl ⟨by omega, by omega⟩, ?_⟩⟩
      exact k

theorem ok_Moved_stands (T : Txt K mg C) (TC : ClsT K C) {n : Nat} (M : ∀ c ∈ clss, C8.Met P w K mg base (3 + n) (C c) "stands" (spStands C n c) []) (me : Meth K (C "Moved") "stands" f) (F : C8.Fun K "stands" "Moved.stands" s_Moved_stands f fd) (b : Binds K fd ["self"] []) : C8.Met P w K mg base (3 + n + 1) (C "Moved") "stands" (spStands C (n + 1) "Moved") [] := by
  refine C8.met0 (TC.cl _ (by simp [clss])) me F b sc_Moved_stands (fun vs H Q E h => ?_) (fun cdv A outer s H vs Q E hr h => ?_)
  · obtain ⟨pd, a, rfl, hc, hn, hp, k⟩ := h
    rfl
  · obtain ⟨pd, a, rfl, hc, hn, hp, k⟩ := h
    refine ⟨_, (pss_one (ps_ret (pe_anyP (p := fun c => c ∈ clss) fun c hc => C8.pe_mt0 (M c hc) hr (Nat.le_refl _) (pe_fld (pv 0) rfl)))), ?_⟩
    obtain ⟨q, m, rfl⟩ := cls_moved hc
    obtain ⟨dx, r, ha, hq⟩ := hp
    obtain ⟨dy, gs, hr', hg⟩ := hq.ins
    refine ⟨_, q.cls_mem, _, rfl, _, _, _, _, _, rfl, ha, TC.cl _ cm_Moved, TC.na _ cm_Moved _ fm_part, lk_Moved_part, _, _, _, rfl, hr', lookup_no no_stands hg, q, r, rfl, rfl, Nat.le_of_succ_le_succ hn, hq, fun l H' s hl he => ?_⟩
    exact k l H' s hl he

theorem ok_Moved_worth_of (T : Txt K mg C) (TC : ClsT K C) {n : Nat} (M : ∀ c ∈ clss, C8.Met P w K mg base (3 + n) (C c) "worth_of" (spWorth C n c) []) (me : Meth K (C "Moved") "worth_of" f) (F : C8.Fun K "worth_of" "Moved.worth_of" s_Moved_worth_of f fd) (b : Binds K fd ["self", "reads"] []) : C8.Met P w K mg base (3 + n + 1) (C "Moved") "worth_of" (spWorth C (n + 1) "Moved") [] := by
  refine C8.met0 (TC.cl _ (by simp [clss])) me F b sc_Moved_worth_of (fun vs H Q E h => ?_) (fun cdv A outer s H vs Q E hr h => ?_)
  · obtain ⟨pd, a, x, rfl, hc, hn, hok, hp, hx, k⟩ := h
    rfl
  · obtain ⟨pd, a, x, rfl, hc, hn, hok, hp, hx, k⟩ := h
    refine ⟨_, (pss_one (ps_ret (pe_anyP (p := fun c => c ∈ clss) fun c hc => C8.pe_mt (M c hc) hr (Nat.le_refl _) (pe_fld (pv 0) rfl) (pa_cons (pe_op op_sub (pv 1) (pe_fld (pv 0) rfl)) pa_nil)))), ?_⟩
    obtain ⟨q, m, rfl⟩ := cls_moved hc
    obtain ⟨dx, r, ha, hq⟩ := hp
    obtain ⟨dy, gs, hr', hg⟩ := hq.ins
    obtain ⟨o1, o2, o3⟩ := hok
    have hx' : Rd n (x - m) := by unfold Rd Rch at *; omega
    refine ⟨_, q.cls_mem, _, rfl, _, _, _, _, _, rfl, ha, TC.cl _ cm_Moved, TC.na _ cm_Moved _ fm_part, lk_Moved_part, _, _, _, rfl, hr', lookup_no no_worth hg, _, rfl, _, rfl, _, _, _, _, _, rfl, ha, TC.cl _ cm_Moved, TC.na _ cm_Moved _ fm_by, lk_Moved_by, _, _, rfl, rfl, q, r, x - m, rfl, rfl, Nat.le_of_succ_le_succ hn, o1, hq, hx', ?_⟩
    exact k

theorem ok_Times_limits (T : Txt K mg C) (TC : ClsT K C) {n : Nat} (M : ∀ c ∈ clss, C8.Met P w K mg base (3 + n) (C c) "limits" (spLimits C n c) []) (me : Meth K (C "Times") "limits" f) (F : C8.Fun K "limits" "Times.limits" s_Times_limits f fd) (b : Binds K fd ["self"] []) : C8.Met P w K mg base (3 + n + 1) (C "Times") "limits" (spLimits C (n + 1) "Times") [] := by
  refine C8.met0 (TC.cl _ (by simp [clss])) me F b sc_Times_limits (fun vs H Q E h => ?_) (fun cdv A outer s H vs Q E hr h => ?_)
  · obtain ⟨pd, a, rfl, hc, hn, hp, k⟩ := h
    rfl
  · obtain ⟨pd, a, rfl, hc, hn, hp, k⟩ := h
    refine ⟨_, (pss_one (ps_ret (pe_anyP (p := fun c => c ∈ clss) fun c hc => C8.pe_mt0 (M c hc) hr (Nat.le_refl _) (pe_fld (pv 0) rfl)))), ?_⟩
    obtain ⟨q, m, rfl⟩ := cls_times hc
    obtain ⟨dx, r, ha, hq⟩ := hp
    obtain ⟨dy, gs, hr', hg⟩ := hq.ins
    refine ⟨_, q.cls_mem, _, rfl, _, _, _, _, _, rfl, ha, TC.cl _ cm_Times, TC.na _ cm_Times _ fm_part, lk_Times_part, _, _, _, rfl, hr', lookup_no no_limits hg, q, r, rfl, rfl, Nat.le_of_succ_le_succ hn, hq, fun l H' s hl he => ?_⟩
    exact k l H' s hl he

theorem ok_Moved_limits (T : Txt K mg C) (TC : ClsT K C) {n : Nat} (c_moved_limit : C8.Cal P w K mg base 1 "moved_limit" spMovedLimit []) (M : ∀ c ∈ clss, C8.Met P w K mg base (3 + n) (C c) "limits" (spLimits C n c) []) (me : Meth K (C "Moved") "limits" f) (F : C8.Fun K "limits" "Moved.limits" s_Moved_limits f fd) (b : Binds K fd ["self"] []) : C8.Met P w K mg base (3 + n + 1) (C "Moved") "limits" (spLimits C (n + 1) "Moved") [] := by
  refine C8.met0 (TC.cl _ (by simp [clss])) me F b sc_Moved_limits (fun vs H Q E h => ?_) (fun cdv A outer s H vs Q E hr h => ?_)
  · obtain ⟨pd, a, rfl, hc, hn, hp, k⟩ := h
    rfl
  · obtain ⟨pd, a, rfl, hc, hn, hp, k⟩ := h
    refine ⟨_, (pss_cons (ps_asg (pe_anyP (p := fun c => c ∈ clss) fun c hc => C8.pe_mt0 (M c hc) hr (Nat.le_refl _) (pe_fld (pv 0) rfl)) (pg_tup (by rfl) (pgs_cons (pg_name (i := 1) sc_Moved_limits.nd rfl (Or.inl rfl)) (pgs_cons (pg_name (i := 2) sc_Moved_limits.nd rfl (Or.inl rfl)) pgs_nil))))
    (pss_one (ps_ret (pe_tup (pa_cons (C8.pe_c c_moved_limit hr (by omega) rfl (pa_cons (pv 1) (pa_cons (pe_fld (pv 0) rfl) pa_nil))) (pa_cons (C8.pe_c c_moved_limit hr (by omega) rfl (pa_cons (pv 2) (pa_cons (pe_fld (pv 0) rfl) pa_nil))) pa_nil)))))), ?_⟩
    obtain ⟨q, m, rfl⟩ := cls_moved hc
    obtain ⟨dx, r, ha, hq⟩ := hp
    obtain ⟨dy, gs, hr', hg⟩ := hq.ins
    refine ⟨_, q.cls_mem, _, rfl, _, _, _, _, _, rfl, ha, TC.cl _ cm_Moved, TC.na _ cm_Moved _ fm_part, lk_Moved_part, _, _, _, rfl, hr', lookup_no no_limits hg, q, r, rfl, rfl, Nat.le_of_succ_le_succ hn, hq, fun l H' s hl he => ?_⟩
    have ha' := s _ _ ha
    refine ⟨_, _, rfl, .of he, rfl, _, _, rfl, _, _, rfl, rfl, _, rfl, _, rfl, _, _, _, _, _, rfl, ha', TC.cl _ cm_Moved, TC.na _ cm_Moved _ fm_by, lk_Moved_by, q.limits.1, m, rfl, _, rfl, _, rfl, _, _, _, _, _, rfl, ha', TC.cl _ cm_Moved, TC.na _ cm_Moved _ fm_by, lk_Moved_by, q.limits.2, m, rfl, (by show 2 ≤ sizeLine; decide), fun t ht => ?_⟩
    exact k t _ (s.trans (Same.upd ht)) (s.free ht) upd_same

end
end Ev

/-! what the law draws, as data: a base part, and its wraps from without -/
namespace Ev
open PySem L2 Ax

abbrev Wr := List (Bool × Int)
def wrap1 (w : Bool × Int) (q : PD) : PD := if w.1 then .times q w.2 else .moved q w.2
def wrap (wr : Wr) (b : PD) : PD := wr.foldr wrap1 b
def PD.base : PD → Prop
  | .times .. => False
  | .moved .. => False
  | _ => True
def PD.word : PD → Str
  | .slope .. => "slope" | .aim .. => "aim" | .square .. => "square" | .row .. => "row" | .wall .. => "wall"
  | .near .. => "near" | .gaps .. => "gaps" | .ahead .. => "ahead" | .times .. => "" | .moved .. => ""
def wrW (t : Bool) : Str := if t then "times" else "moved"
/-- one turn of the loop over the wraps, on what is many times and what is read -/
def wstep (s : Int × Int) (w : Bool × Int) : Int × Int := if w.1 then (s.1 * w.2, s.2) else (s.1, s.2 - w.2)
theorem wraps_wrap (b : PD) (hb : b.base) : ∀ wr : Wr, (wrap wr b).wraps = wr.length
  | [] => by
    show b.wraps = 0
    cases b <;> first | rfl | exact hb.elim
  | w :: r => by
    show (wrap1 w (wrap r b)).wraps = r.length + 1
    unfold wrap1
    cases w.1 <;> exact congrArg (· + 1) (wraps_wrap b hb r)
theorem stands_wrap (b : PD) : ∀ wr : Wr, (wrap wr b).stands = b.stands
  | [] => rfl
  | w :: r => by
    show (wrap1 w (wrap r b)).stands = _
    unfold wrap1
    cases w.1 <;> exact stands_wrap b r
theorem map_mul (o : Option Int) (a c : Int) : (o.map fun y => a * y).map (fun y => c * y) = o.map fun y => (c * a) * y := by
  cases o with
  | none => rfl
  | some y => show some (c * (a * y)) = some (c * a * y); rw [Int.mul_assoc]
theorem worth_wrap (b : PD) : ∀ (wr : Wr) (m x : Int), ((wrap wr b).worth x).map (fun y => m * y) = (b.worth (wr.foldl wstep (m, x)).2).map (fun y => (wr.foldl wstep (m, x)).1 * y)
  | [], _, _ => rfl
  | (true, n) :: r, m, x => by
    show ((PD.times (wrap r b) n).worth x).map (fun y => m * y) = _
    rw [show (PD.times (wrap r b) n).worth x = ((wrap r b).worth x).map fun y => n * y from rfl, map_mul]
    exact worth_wrap b r (m * n) x
  | (false, n) :: r, m, x => by
    show ((PD.moved (wrap r b) n).worth x).map (fun y => m * y) = _
    rw [show (PD.moved (wrap r b) n).worth x = (wrap r b).worth (x - n) from rfl]
    exact worth_wrap b r m (x - n)
theorem worth_wrap1 (b : PD) (wr : Wr) (x : Int) : (wrap wr b).worth x = (b.worth (wr.foldl wstep (1, x)).2).map (fun y => (wr.foldl wstep (1, x)).1 * y) := by
  rw [← worth_wrap]
  cases (wrap wr b).worth x with
  | none => rfl
  | some y => show some y = some (1 * y); rw [Int.one_mul]
/-- the wraps are small -/
def WrOk (wr : Wr) : Prop := wr.length ≤ 8 ∧ ∀ w ∈ wr, -100 ≤ w.2 ∧ w.2 ≤ 100 ∧ (w.1 = true → 1 ≤ w.2)
theorem WrOk.tail {w : Bool × Int} {r : Wr} (h : WrOk (w :: r)) : WrOk r := ⟨Nat.le_trans (Nat.le_succ _) h.1, fun v hv => h.2 v (List.mem_cons_of_mem _ hv)⟩
theorem ok_wrap {b : PD} (hb : b.base) (h : b.ok) : ∀ {wr : Wr}, WrOk wr → (wrap wr b).ok
  | [], _ => h
  | (t, n) :: r, hw => by
    have ih := ok_wrap hb h hw.tail
    have l : (wrap r b).wraps < 8 := by
      rw [wraps_wrap b hb]
      exact hw.1
    obtain ⟨h1, h2, h3⟩ := hw.2 _ List.mem_cons_self
    cases t with
    | true => exact ⟨ih, l, h3 rfl, h2⟩
    | false => exact ⟨ih, l, h1, h2⟩
/-- reading stays near: wraps move by at most 100 each -/
theorem wfold_read : ∀ (wr : Wr) (m x : Int), (∀ w ∈ wr, -100 ≤ w.2 ∧ w.2 ≤ 100) → -(100 * (wr.length : Int)) ≤ (wr.foldl wstep (m, x)).2 - x ∧ (wr.foldl wstep (m, x)).2 - x ≤ 100 * (wr.length : Int)
  | [], m, x, _ => by simp
  | (t, n) :: r, m, x, h => by
    have h1 := h _ List.mem_cons_self
    have h2 := fun w hw => h w (List.mem_cons_of_mem _ hw)
    have h1' : -100 ≤ n ∧ n ≤ 100 := h1
    rw [List.foldl_cons, List.length_cons]
    cases t with
    | true =>
      have ih := wfold_read r (m * n) x h2
      rw [show wstep (m, x) (true, n) = (m * n, x) from rfl]
      omega
    | false =>
      have ih := wfold_read r m (x - n) h2
      rw [show wstep (m, x) (false, n) = (m, x - n) from rfl]
      omega

/-! how the law's part stands in the heap -/
def NumAt (H : Hp) : PD → Addr → Prop
  | .slope _ w, a => H a = some (.lst [.int w])
  | .aim _ b w, a => H a = some (.lst [.int b, .int w])
  | .square _ b w, a => H a = some (.lst [.int b, .int w])
  | .row _ f ws, a => ∃ l, H a = some (.lst [.int f, .ref l]) ∧ H l = some (.lst (ws.map V.int))
  | .wall _ lo hi, a => H a = some (.lst [.int lo, .int hi])
  | .near _ _ b w, a => H a = some (.lst [.int b, .int w])
  | .gaps _ _ f ws, a => ∃ l, H a = some (.lst [.int f, .ref l]) ∧ H l = some (.lst (ws.map V.int))
  | .ahead _ _ g, a => H a = some (.lst [.int g])
  | _, _ => False
theorem NumAt.same {H H' : Hp} (s : Same H H') : ∀ {b : PD} {a : Addr}, NumAt H b a → NumAt H' b a
  | .slope .., _, h => s _ _ h
  | .aim .., _, h => s _ _ h
  | .square .., _, h => s _ _ h
  | .row .., _, ⟨l, h, h2⟩ => ⟨l, s _ _ h, s _ _ h2⟩
  | .wall .., _, h => s _ _ h
  | .near .., _, h => s _ _ h
  | .gaps .., _, ⟨l, h, h2⟩ => ⟨l, s _ _ h, s _ _ h2⟩
  | .ahead .., _, h => s _ _ h
/-- the wraps: tuples of a word and a number -/
def wrV (H : Hp) (w : Bool × Int) (v : V) : Prop := ∃ t, v = .ref t ∧ H t = some (.tup [.str (wrW w.1), .int w.2])
structure WrAt (H : Hp) (wr : Wr) (a : Addr) (vs : List V) : Prop where
  at_ : H a = some (.lst vs)
  len : vs.length = wr.length
  all : ∀ (i : Nat) (w : Bool × Int) (v : V), wr[i]? = some w → vs[i]? = some v → wrV H w v
theorem wrV.same {H H' : Hp} (s : Same H H') {w : Bool × Int} {v : V} (h : wrV H w v) : wrV H' w v := by
  obtain ⟨t, e, h⟩ := h
  exact ⟨t, e, s _ _ h⟩
theorem WrAt.same {H H' : Hp} (s : Same H H') {wr : Wr} {a : Addr} {vs : List V} (h : WrAt H wr a vs) : WrAt H' wr a vs := ⟨s _ _ h.at_, h.len, fun i w v e1 e2 => (h.all i w v e1 e2).same s⟩
/-- a law's part at a: (word, places, numbers, wraps) -/
structure LAt (H : Hp) (b : PD) (wr : Wr) (a : Addr) (wl nl rl : Addr) (vs : List V) : Prop where
  base : b.base
  at_ : H a = some (.tup [.str b.word, .ref wl, .ref nl, .ref rl])
  wh : H wl = some (.lst (b.stands.map V.int))
  num : NumAt H b nl
  wr : WrAt H wr rl vs
theorem LAt.same {H H' : Hp} (s : Same H H') {b : PD} {wr : Wr} {a wl nl rl : Addr} {vs : List V} (h : LAt H b wr a wl nl rl vs) : LAt H' b wr a wl nl rl vs := ⟨h.base, s _ _ h.at_, s _ _ h.wh, h.num.same s, h.wr.same s⟩

/-- a new object, its heap by what it keeps -/
theorem newO {H : Hp} {o : HO} {Q : V → Hp → Prop} (h : ∀ (p : Addr) (H' : Hp), Same H H' → H p = none → H' p = some o → Q (.ref p) H') : ∀ p, H p = none → Q (.ref p) (upd H p o) := fun p hp => h p _ (Same.upd hp) hp upd_same
end Ev

namespace Ev
open PySem L2 Ax
section
variable {P : Program} {w : World} {K : PySem.W.Frag} {mg : Str → Option Value} {base : Heap} {C : Str → Addr} {f : Addr} {fd : FuncData}
theorem cls_slope : ∀ {pd : PD}, pd.cls = "Slope" → ∃ p w, pd = .slope p w
  | .slope p w, _ => ⟨p, w, rfl⟩
  | .aim .., h => absurd (show ("Aim" : Str) = "Slope" from h) (by decide +kernel)
  | .square .., h => absurd (show ("Square" : Str) = "Slope" from h) (by decide +kernel)
  | .row .., h => absurd (show ("Row" : Str) = "Slope" from h) (by decide +kernel)
  | .wall .., h => absurd (show ("Wall" : Str) = "Slope" from h) (by decide +kernel)
  | .near .., h => absurd (show ("Near" : Str) = "Slope" from h) (by decide +kernel)
  | .gaps .., h => absurd (show ("Gaps" : Str) = "Slope" from h) (by decide +kernel)
  | .ahead .., h => absurd (show ("Ahead" : Str) = "Slope" from h) (by decide +kernel)
  | .times .., h => absurd (show ("Times" : Str) = "Slope" from h) (by decide +kernel)
  | .moved .., h => absurd (show ("Moved" : Str) = "Slope" from h) (by decide +kernel)

theorem cls_aim : ∀ {pd : PD}, pd.cls = "Aim" → ∃ p b w, pd = .aim p b w
  | .slope .., h => absurd (show ("Slope" : Str) = "Aim" from h) (by decide +kernel)
  | .aim p b w, _ => ⟨p, b, w, rfl⟩
  | .square .., h => absurd (show ("Square" : Str) = "Aim" from h) (by decide +kernel)
  | .row .., h => absurd (show ("Row" : Str) = "Aim" from h) (by decide +kernel)
  | .wall .., h => absurd (show ("Wall" : Str) = "Aim" from h) (by decide +kernel)
  | .near .., h => absurd (show ("Near" : Str) = "Aim" from h) (by decide +kernel)
  | .gaps .., h => absurd (show ("Gaps" : Str) = "Aim" from h) (by decide +kernel)
  | .ahead .., h => absurd (show ("Ahead" : Str) = "Aim" from h) (by decide +kernel)
  | .times .., h => absurd (show ("Times" : Str) = "Aim" from h) (by decide +kernel)
  | .moved .., h => absurd (show ("Moved" : Str) = "Aim" from h) (by decide +kernel)

theorem cls_square : ∀ {pd : PD}, pd.cls = "Square" → ∃ p b w, pd = .square p b w
  | .slope .., h => absurd (show ("Slope" : Str) = "Square" from h) (by decide +kernel)
  | .aim .., h => absurd (show ("Aim" : Str) = "Square" from h) (by decide +kernel)
  | .square p b w, _ => ⟨p, b, w, rfl⟩
  | .row .., h => absurd (show ("Row" : Str) = "Square" from h) (by decide +kernel)
  | .wall .., h => absurd (show ("Wall" : Str) = "Square" from h) (by decide +kernel)
  | .near .., h => absurd (show ("Near" : Str) = "Square" from h) (by decide +kernel)
  | .gaps .., h => absurd (show ("Gaps" : Str) = "Square" from h) (by decide +kernel)
  | .ahead .., h => absurd (show ("Ahead" : Str) = "Square" from h) (by decide +kernel)
  | .times .., h => absurd (show ("Times" : Str) = "Square" from h) (by decide +kernel)
  | .moved .., h => absurd (show ("Moved" : Str) = "Square" from h) (by decide +kernel)

theorem cls_row : ∀ {pd : PD}, pd.cls = "Row" → ∃ p f ws, pd = .row p f ws
  | .slope .., h => absurd (show ("Slope" : Str) = "Row" from h) (by decide +kernel)
  | .aim .., h => absurd (show ("Aim" : Str) = "Row" from h) (by decide +kernel)
  | .square .., h => absurd (show ("Square" : Str) = "Row" from h) (by decide +kernel)
  | .row p f ws, _ => ⟨p, f, ws, rfl⟩
  | .wall .., h => absurd (show ("Wall" : Str) = "Row" from h) (by decide +kernel)
  | .near .., h => absurd (show ("Near" : Str) = "Row" from h) (by decide +kernel)
  | .gaps .., h => absurd (show ("Gaps" : Str) = "Row" from h) (by decide +kernel)
  | .ahead .., h => absurd (show ("Ahead" : Str) = "Row" from h) (by decide +kernel)
  | .times .., h => absurd (show ("Times" : Str) = "Row" from h) (by decide +kernel)
  | .moved .., h => absurd (show ("Moved" : Str) = "Row" from h) (by decide +kernel)

theorem cls_wall : ∀ {pd : PD}, pd.cls = "Wall" → ∃ p lo hi, pd = .wall p lo hi
  | .slope .., h => absurd (show ("Slope" : Str) = "Wall" from h) (by decide +kernel)
  | .aim .., h => absurd (show ("Aim" : Str) = "Wall" from h) (by decide +kernel)
  | .square .., h => absurd (show ("Square" : Str) = "Wall" from h) (by decide +kernel)
  | .row .., h => absurd (show ("Row" : Str) = "Wall" from h) (by decide +kernel)
  | .wall p lo hi, _ => ⟨p, lo, hi, rfl⟩
  | .near .., h => absurd (show ("Near" : Str) = "Wall" from h) (by decide +kernel)
  | .gaps .., h => absurd (show ("Gaps" : Str) = "Wall" from h) (by decide +kernel)
  | .ahead .., h => absurd (show ("Ahead" : Str) = "Wall" from h) (by decide +kernel)
  | .times .., h => absurd (show ("Times" : Str) = "Wall" from h) (by decide +kernel)
  | .moved .., h => absurd (show ("Moved" : Str) = "Wall" from h) (by decide +kernel)

theorem cls_near : ∀ {pd : PD}, pd.cls = "Near" → ∃ o t b w, pd = .near o t b w
  | .slope .., h => absurd (show ("Slope" : Str) = "Near" from h) (by decide +kernel)
  | .aim .., h => absurd (show ("Aim" : Str) = "Near" from h) (by decide +kernel)
  | .square .., h => absurd (show ("Square" : Str) = "Near" from h) (by decide +kernel)
  | .row .., h => absurd (show ("Row" : Str) = "Near" from h) (by decide +kernel)
  | .wall .., h => absurd (show ("Wall" : Str) = "Near" from h) (by decide +kernel)
  | .near o t b w, _ => ⟨o, t, b, w, rfl⟩
  | .gaps .., h => absurd (show ("Gaps" : Str) = "Near" from h) (by decide +kernel)
  | .ahead .., h => absurd (show ("Ahead" : Str) = "Near" from h) (by decide +kernel)
  | .times .., h => absurd (show ("Times" : Str) = "Near" from h) (by decide +kernel)
  | .moved .., h => absurd (show ("Moved" : Str) = "Near" from h) (by decide +kernel)

theorem cls_gaps : ∀ {pd : PD}, pd.cls = "Gaps" → ∃ o u f ws, pd = .gaps o u f ws
  | .slope .., h => absurd (show ("Slope" : Str) = "Gaps" from h) (by decide +kernel)
  | .aim .., h => absurd (show ("Aim" : Str) = "Gaps" from h) (by decide +kernel)
  | .square .., h => absurd (show ("Square" : Str) = "Gaps" from h) (by decide +kernel)
  | .row .., h => absurd (show ("Row" : Str) = "Gaps" from h) (by decide +kernel)
  | .wall .., h => absurd (show ("Wall" : Str) = "Gaps" from h) (by decide +kernel)
  | .near .., h => absurd (show ("Near" : Str) = "Gaps" from h) (by decide +kernel)
  | .gaps o u f ws, _ => ⟨o, u, f, ws, rfl⟩
  | .ahead .., h => absurd (show ("Ahead" : Str) = "Gaps" from h) (by decide +kernel)
  | .times .., h => absurd (show ("Times" : Str) = "Gaps" from h) (by decide +kernel)
  | .moved .., h => absurd (show ("Moved" : Str) = "Gaps" from h) (by decide +kernel)

theorem cls_ahead : ∀ {pd : PD}, pd.cls = "Ahead" → ∃ o t g, pd = .ahead o t g
  | .slope .., h => absurd (show ("Slope" : Str) = "Ahead" from h) (by decide +kernel)
  | .aim .., h => absurd (show ("Aim" : Str) = "Ahead" from h) (by decide +kernel)
  | .square .., h => absurd (show ("Square" : Str) = "Ahead" from h) (by decide +kernel)
  | .row .., h => absurd (show ("Row" : Str) = "Ahead" from h) (by decide +kernel)
  | .wall .., h => absurd (show ("Wall" : Str) = "Ahead" from h) (by decide +kernel)
  | .near .., h => absurd (show ("Near" : Str) = "Ahead" from h) (by decide +kernel)
  | .gaps .., h => absurd (show ("Gaps" : Str) = "Ahead" from h) (by decide +kernel)
  | .ahead o t g, _ => ⟨o, t, g, rfl⟩
  | .times .., h => absurd (show ("Times" : Str) = "Ahead" from h) (by decide +kernel)
  | .moved .., h => absurd (show ("Moved" : Str) = "Ahead" from h) (by decide +kernel)

theorem up_slope_stands (m : C8.Met P w K mg base 1 (C "Slope") "stands" (spSt1 C "Slope" "place") []) (n : Nat) : C8.Met P w K mg base (3 + n) (C "Slope") "stands" (spStands C n "Slope") [] := by
  refine Met.mono (Met.imp m fun vs H Q E h => ?_) (by omega)
  obtain ⟨pd, a, rfl, hc, hn, hp, k⟩ := h
  obtain ⟨p, w, rfl⟩ := cls_slope hc
  obtain ⟨dx, ha⟩ := hp
  exact ⟨a, dx, _, p, rfl, ha, lk_Slope_place, fun l hl => k l _ (Same.upd hl) hl upd_same⟩

theorem up_aim_stands (m : C8.Met P w K mg base 1 (C "Aim") "stands" (spSt1 C "Aim" "place") []) (n : Nat) : C8.Met P w K mg base (3 + n) (C "Aim") "stands" (spStands C n "Aim") [] := by
  refine Met.mono (Met.imp m fun vs H Q E h => ?_) (by omega)
  obtain ⟨pd, a, rfl, hc, hn, hp, k⟩ := h
  obtain ⟨p, b, w, rfl⟩ := cls_aim hc
  obtain ⟨dx, ha⟩ := hp
  exact ⟨a, dx, _, p, rfl, ha, lk_Aim_place, fun l hl => k l _ (Same.upd hl) hl upd_same⟩

theorem up_square_stands (m : C8.Met P w K mg base 1 (C "Square") "stands" (spSt1 C "Square" "place") []) (n : Nat) : C8.Met P w K mg base (3 + n) (C "Square") "stands" (spStands C n "Square") [] := by
  refine Met.mono (Met.imp m fun vs H Q E h => ?_) (by omega)
  obtain ⟨pd, a, rfl, hc, hn, hp, k⟩ := h
  obtain ⟨p, b, w, rfl⟩ := cls_square hc
  obtain ⟨dx, ha⟩ := hp
  exact ⟨a, dx, _, p, rfl, ha, lk_Aim_place, fun l hl => k l _ (Same.upd hl) hl upd_same⟩

theorem up_row_stands (m : C8.Met P w K mg base 1 (C "Row") "stands" (spSt1 C "Row" "place") []) (n : Nat) : C8.Met P w K mg base (3 + n) (C "Row") "stands" (spStands C n "Row") [] := by
  refine Met.mono (Met.imp m fun vs H Q E h => ?_) (by omega)
  obtain ⟨pd, a, rfl, hc, hn, hp, k⟩ := h
  obtain ⟨p, f, ws, rfl⟩ := cls_row hc
  obtain ⟨dx, t, ha, ht⟩ := hp
  exact ⟨a, dx, _, p, rfl, ha, lk_Row_place, fun l hl => k l _ (Same.upd hl) hl upd_same⟩

theorem up_wall_stands (m : C8.Met P w K mg base 1 (C "Wall") "stands" (spSt1 C "Wall" "place") []) (n : Nat) : C8.Met P w K mg base (3 + n) (C "Wall") "stands" (spStands C n "Wall") [] := by
  refine Met.mono (Met.imp m fun vs H Q E h => ?_) (by omega)
  obtain ⟨pd, a, rfl, hc, hn, hp, k⟩ := h
  obtain ⟨p, lo, hi, rfl⟩ := cls_wall hc
  obtain ⟨dx, ha⟩ := hp
  exact ⟨a, dx, _, p, rfl, ha, lk_Wall_place, fun l hl => k l _ (Same.upd hl) hl upd_same⟩

theorem up_near_stands (m : C8.Met P w K mg base 1 (C "Near") "stands" (spSt2 C "Near" "place" "other") []) (n : Nat) : C8.Met P w K mg base (3 + n) (C "Near") "stands" (spStands C n "Near") [] := by
  refine Met.mono (Met.imp m fun vs H Q E h => ?_) (by omega)
  obtain ⟨pd, a, rfl, hc, hn, hp, k⟩ := h
  obtain ⟨o, t, b, w, rfl⟩ := cls_near hc
  obtain ⟨dx, ha⟩ := hp
  exact ⟨a, dx, _, o, t, rfl, ha, lk_Near_place, lk_Near_other, fun l hl => k l _ (Same.upd hl) hl upd_same⟩

theorem up_gaps_stands (m : C8.Met P w K mg base 1 (C "Gaps") "stands" (spSt2 C "Gaps" "place" "other") []) (n : Nat) : C8.Met P w K mg base (3 + n) (C "Gaps") "stands" (spStands C n "Gaps") [] := by
  refine Met.mono (Met.imp m fun vs H Q E h => ?_) (by omega)
  obtain ⟨pd, a, rfl, hc, hn, hp, k⟩ := h
  obtain ⟨o, u, f, ws, rfl⟩ := cls_gaps hc
  obtain ⟨dx, t, ha, ht⟩ := hp
  exact ⟨a, dx, _, o, u, rfl, ha, lk_Gaps_place, lk_Gaps_other, fun l hl => k l _ (Same.upd hl) hl upd_same⟩

theorem up_ahead_stands (m : C8.Met P w K mg base 1 (C "Ahead") "stands" (spSt2 C "Ahead" "one" "other") []) (n : Nat) : C8.Met P w K mg base (3 + n) (C "Ahead") "stands" (spStands C n "Ahead") [] := by
  refine Met.mono (Met.imp m fun vs H Q E h => ?_) (by omega)
  obtain ⟨pd, a, rfl, hc, hn, hp, k⟩ := h
  obtain ⟨o, t, g, rfl⟩ := cls_ahead hc
  obtain ⟨dx, ha⟩ := hp
  exact ⟨a, dx, _, o, t, rfl, ha, lk_Ahead_one, lk_Ahead_other, fun l hl => k l _ (Same.upd hl) hl upd_same⟩

theorem up_slope_limits (m : C8.Met P w K mg base 1 (C "Slope") "limits" (spLimN C "Slope") []) (n : Nat) : C8.Met P w K mg base (3 + n) (C "Slope") "limits" (spLimits C n "Slope") [] := by
  refine Met.mono (Met.imp m fun vs H Q E h => ?_) (by omega)
  obtain ⟨pd, a, rfl, hc, hn, hp, k⟩ := h
  obtain ⟨p, w, rfl⟩ := cls_slope hc
  obtain ⟨dx, ha⟩ := hp
  exact ⟨a, dx, _, rfl, ha, fun l hl => k l _ (Same.upd hl) hl upd_same⟩

theorem up_aim_limits (m : C8.Met P w K mg base 1 (C "Aim") "limits" (spLimN C "Aim") []) (n : Nat) : C8.Met P w K mg base (3 + n) (C "Aim") "limits" (spLimits C n "Aim") [] := by
  refine Met.mono (Met.imp m fun vs H Q E h => ?_) (by omega)
  obtain ⟨pd, a, rfl, hc, hn, hp, k⟩ := h
  obtain ⟨p, b, w, rfl⟩ := cls_aim hc
  obtain ⟨dx, ha⟩ := hp
  exact ⟨a, dx, _, rfl, ha, fun l hl => k l _ (Same.upd hl) hl upd_same⟩

theorem up_square_limits (m : C8.Met P w K mg base 1 (C "Square") "limits" (spLimN C "Square") []) (n : Nat) : C8.Met P w K mg base (3 + n) (C "Square") "limits" (spLimits C n "Square") [] := by
  refine Met.mono (Met.imp m fun vs H Q E h => ?_) (by omega)
  obtain ⟨pd, a, rfl, hc, hn, hp, k⟩ := h
  obtain ⟨p, b, w, rfl⟩ := cls_square hc
  obtain ⟨dx, ha⟩ := hp
  exact ⟨a, dx, _, rfl, ha, fun l hl => k l _ (Same.upd hl) hl upd_same⟩

theorem up_near_limits (m : C8.Met P w K mg base 2 (C "Near") "limits" (spLimN C "Near") []) (n : Nat) : C8.Met P w K mg base (3 + n) (C "Near") "limits" (spLimits C n "Near") [] := by
  refine Met.mono (Met.imp m fun vs H Q E h => ?_) (by omega)
  obtain ⟨pd, a, rfl, hc, hn, hp, k⟩ := h
  obtain ⟨o, t, b, w, rfl⟩ := cls_near hc
  obtain ⟨dx, ha⟩ := hp
  exact ⟨a, dx, _, rfl, ha, fun l hl => k l _ (Same.upd hl) hl upd_same⟩

theorem up_row_limits (m : C8.Met P w K mg base 1 (C "Row") "limits" (spLimR C) []) (n : Nat) : C8.Met P w K mg base (3 + n) (C "Row") "limits" (spLimits C n "Row") [] := by
  refine Met.mono (Met.imp m fun vs H Q E h => ?_) (by omega)
  obtain ⟨pd, a, rfl, hc, hn, hp, k⟩ := h
  obtain ⟨p, f, ws, rfl⟩ := cls_row hc
  obtain ⟨dx, t, ha, ht⟩ := hp
  exact ⟨"Row", a, dx, t, _, f, ws, rfl, cm_Row, ha, lk_Row_first, lk_Row_worths, ht, fun l hl => k l _ (Same.upd hl) hl upd_same⟩

theorem up_gaps_limits (m : C8.Met P w K mg base 2 (C "Gaps") "limits" (spLimG C) []) (n : Nat) : C8.Met P w K mg base (3 + n) (C "Gaps") "limits" (spLimits C n "Gaps") [] := by
  refine Met.mono (Met.imp m fun vs H Q E h => ?_) (by omega)
  obtain ⟨pd, a, rfl, hc, hn, hp, k⟩ := h
  obtain ⟨o, u, f, ws, rfl⟩ := cls_gaps hc
  obtain ⟨dx, t, ha, ht⟩ := hp
  exact ⟨a, dx, t, o, u, f, ws, rfl, ha, ht, fun l hl => k l _ (Same.upd hl) hl upd_same⟩

theorem up_wall_limits (m : C8.Met P w K mg base 1 (C "Wall") "limits" (spLimW C) []) (n : Nat) : C8.Met P w K mg base (3 + n) (C "Wall") "limits" (spLimits C n "Wall") [] := by
  refine Met.mono (Met.imp m fun vs H Q E h => ?_) (by omega)
  obtain ⟨pd, a, rfl, hc, hn, hp, k⟩ := h
  obtain ⟨p, lo, hi, rfl⟩ := cls_wall hc
  obtain ⟨dx, ha⟩ := hp
  exact ⟨a, dx, p, lo, hi, rfl, ha, fun l hl => k l _ (Same.upd hl) hl upd_same⟩

theorem up_ahead_limits (m : C8.Met P w K mg base 1 (C "Ahead") "limits" (spLimA C) []) (n : Nat) : C8.Met P w K mg base (3 + n) (C "Ahead") "limits" (spLimits C n "Ahead") [] := by
  refine Met.mono (Met.imp m fun vs H Q E h => ?_) (by omega)
  obtain ⟨pd, a, rfl, hc, hn, hp, k⟩ := h
  obtain ⟨o, t, g, rfl⟩ := cls_ahead hc
  obtain ⟨dx, ha⟩ := hp
  exact ⟨a, dx, o, t, g, rfl, ha, fun l hl => k l _ (Same.upd hl) hl upd_same⟩

theorem up_slope_worth_of (m : C8.Met P w K mg base 1 (C "Slope") "worth_of" (spWSlope C) []) (n : Nat) : C8.Met P w K mg base (3 + n) (C "Slope") "worth_of" (spWorth C n "Slope") [] := by
  refine Met.mono (Met.imp m fun vs H Q E h => ?_) (by omega)
  obtain ⟨pd, a, x, rfl, hc, hn, hok, hp, hx, k⟩ := h
  obtain ⟨p, w, rfl⟩ := cls_slope hc
  obtain ⟨dx, ha⟩ := hp
  exact ⟨a, dx, p, w, x, rfl, ha, hok.2.1, hok.2.2, k⟩

theorem up_aim_worth_of (m : C8.Met P w K mg base 1 (C "Aim") "worth_of" (spWAim C) []) (n : Nat) : C8.Met P w K mg base (3 + n) (C "Aim") "worth_of" (spWorth C n "Aim") [] := by
  refine Met.mono (Met.imp m fun vs H Q E h => ?_) (by omega)
  obtain ⟨pd, a, x, rfl, hc, hn, hok, hp, hx, k⟩ := h
  obtain ⟨p, b, w, rfl⟩ := cls_aim hc
  obtain ⟨dx, ha⟩ := hp
  exact ⟨"Aim", a, dx, _, b, w, x, rfl, cm_Aim, ha, lk_Aim_aim, lk_Aim_weight, hok.2.2.1, hok.2.2.2, k⟩

theorem up_square_worth_of (m : C8.Met P w K mg base 1 (C "Square") "worth_of" (spWSquare C) []) (n : Nat) : C8.Met P w K mg base (3 + n) (C "Square") "worth_of" (spWorth C n "Square") [] := by
  refine Met.mono (Met.imp m fun vs H Q E h => ?_) (by omega)
  obtain ⟨pd, a, x, rfl, hc, hn, hok, hp, hx, k⟩ := h
  obtain ⟨p, b, w, rfl⟩ := cls_square hc
  obtain ⟨dx, ha⟩ := hp
  obtain ⟨h1, h2, h3, h4⟩ := hok
  unfold Rch at h2
  unfold Rd at hx
  exact ⟨a, dx, p, b, w, x, rfl, ha, h3, h4, by omega, by omega, k⟩

theorem up_row_worth_of (m : C8.Met P w K mg base 1 (C "Row") "worth_of" (spWRow C) []) (n : Nat) : C8.Met P w K mg base (3 + n) (C "Row") "worth_of" (spWorth C n "Row") [] := by
  refine Met.mono (Met.imp m fun vs H Q E h => ?_) (by omega)
  obtain ⟨pd, a, x, rfl, hc, hn, hok, hp, hx, k⟩ := h
  obtain ⟨p, f, ws, rfl⟩ := cls_row hc
  obtain ⟨dx, t, ha, ht⟩ := hp
  exact ⟨"Row", a, dx, t, _, f, x, ws, rfl, cm_Row, ha, lk_Row_first, lk_Row_worths, ht, k⟩

theorem up_wall_worth_of (m : C8.Met P w K mg base 1 (C "Wall") "worth_of" (spWWall C) []) (n : Nat) : C8.Met P w K mg base (3 + n) (C "Wall") "worth_of" (spWorth C n "Wall") [] := by
  refine Met.mono (Met.imp m fun vs H Q E h => ?_) (by omega)
  obtain ⟨pd, a, x, rfl, hc, hn, hok, hp, hx, k⟩ := h
  obtain ⟨p, lo, hi, rfl⟩ := cls_wall hc
  obtain ⟨dx, ha⟩ := hp
  exact ⟨a, dx, p, lo, hi, x, rfl, ha, k⟩

theorem up_near_worth_of (m : C8.Met P w K mg base 2 (C "Near") "worth_of" (spWNear C) []) (n : Nat) : C8.Met P w K mg base (3 + n) (C "Near") "worth_of" (spWorth C n "Near") [] := by
  refine Met.mono (Met.imp m fun vs H Q E h => ?_) (by omega)
  obtain ⟨pd, a, x, rfl, hc, hn, hok, hp, hx, k⟩ := h
  obtain ⟨o, t, b, w, rfl⟩ := cls_near hc
  obtain ⟨dx, ha⟩ := hp
  exact ⟨a, dx, o, t, b, w, x, rfl, ha, hok.2.2.2.2.1, hok.2.2.2.2.2, k⟩

theorem up_gaps_worth_of (m : C8.Met P w K mg base 2 (C "Gaps") "worth_of" (spWGaps C) []) (n : Nat) : C8.Met P w K mg base (3 + n) (C "Gaps") "worth_of" (spWorth C n "Gaps") [] := by
  refine Met.mono (Met.imp m fun vs H Q E h => ?_) (by omega)
  obtain ⟨pd, a, x, rfl, hc, hn, hok, hp, hx, k⟩ := h
  obtain ⟨o, u, f, ws, rfl⟩ := cls_gaps hc
  obtain ⟨dx, t, ha, ht⟩ := hp
  exact ⟨a, dx, t, o, u, f, x, ws, rfl, ha, ht, k⟩

theorem up_ahead_worth_of (m : C8.Met P w K mg base 1 (C "Ahead") "worth_of" (spWAhead C) []) (n : Nat) : C8.Met P w K mg base (3 + n) (C "Ahead") "worth_of" (spWorth C n "Ahead") [] := by
  refine Met.mono (Met.imp m fun vs H Q E h => ?_) (by omega)
  obtain ⟨pd, a, x, rfl, hc, hn, hok, hp, hx, k⟩ := h
  obtain ⟨o, t, g, rfl⟩ := cls_ahead hc
  obtain ⟨dx, ha⟩ := hp
  exact ⟨a, dx, o, t, g, x, rfl, ha, k⟩

theorem ok_Times_stands0 (TC : ClsT K C) (me : Meth K (C "Times") "stands" f) (F : C8.Fun K "stands" "Times.stands" s_Times_stands f fd) (b : Binds K fd ["self"] []) : C8.Met P w K mg base 3 (C "Times") "stands" (spStands C 0 "Times") [] := by
  refine C8.met0 (TC.cl _ cm_Times) me F b sc_Times_stands (fun vs H Q E h => ?_) (fun cdv A outer s H vs Q E hr h => ?_)
  · obtain ⟨pd, a, rfl, hc, hn, _⟩ := h
    rfl
  · obtain ⟨pd, a, rfl, hc, hn, _⟩ := h
    obtain ⟨q, m, rfl⟩ := cls_times hc
    exact absurd hn (Nat.not_succ_le_zero _)

theorem ok_Times_worth_of0 (TC : ClsT K C) (me : Meth K (C "Times") "worth_of" f) (F : C8.Fun K "worth_of" "Times.worth_of" s_Times_worth_of f fd) (b : Binds K fd ["self", "reads"] []) : C8.Met P w K mg base 3 (C "Times") "worth_of" (spWorth C 0 "Times") [] := by
  refine C8.met0 (TC.cl _ cm_Times) me F b sc_Times_worth_of (fun vs H Q E h => ?_) (fun cdv A outer s H vs Q E hr h => ?_)
  · obtain ⟨pd, a, x, rfl, hc, hn, _⟩ := h
    rfl
  · obtain ⟨pd, a, x, rfl, hc, hn, _⟩ := h
    obtain ⟨q, m, rfl⟩ := cls_times hc
    exact absurd hn (Nat.not_succ_le_zero _)

theorem ok_Times_limits0 (TC : ClsT K C) (me : Meth K (C "Times") "limits" f) (F : C8.Fun K "limits" "Times.limits" s_Times_limits f fd) (b : Binds K fd ["self"] []) : C8.Met P w K mg base 3 (C "Times") "limits" (spLimits C 0 "Times") [] := by
  refine C8.met0 (TC.cl _ cm_Times) me F b sc_Times_limits (fun vs H Q E h => ?_) (fun cdv A outer s H vs Q E hr h => ?_)
  · obtain ⟨pd, a, rfl, hc, hn, _⟩ := h
    rfl
  · obtain ⟨pd, a, rfl, hc, hn, _⟩ := h
    obtain ⟨q, m, rfl⟩ := cls_times hc
    exact absurd hn (Nat.not_succ_le_zero _)

theorem ok_Moved_stands0 (TC : ClsT K C) (me : Meth K (C "Moved") "stands" f) (F : C8.Fun K "stands" "Moved.stands" s_Moved_stands f fd) (b : Binds K fd ["self"] []) : C8.Met P w K mg base 3 (C "Moved") "stands" (spStands C 0 "Moved") [] := by
  refine C8.met0 (TC.cl _ cm_Moved) me F b sc_Moved_stands (fun vs H Q E h => ?_) (fun cdv A outer s H vs Q E hr h => ?_)
  · obtain ⟨pd, a, rfl, hc, hn, _⟩ := h
    rfl
  · obtain ⟨pd, a, rfl, hc, hn, _⟩ := h
    obtain ⟨q, m, rfl⟩ := cls_moved hc
    exact absurd hn (Nat.not_succ_le_zero _)

theorem ok_Moved_worth_of0 (TC : ClsT K C) (me : Meth K (C "Moved") "worth_of" f) (F : C8.Fun K "worth_of" "Moved.worth_of" s_Moved_worth_of f fd) (b : Binds K fd ["self", "reads"] []) : C8.Met P w K mg base 3 (C "Moved") "worth_of" (spWorth C 0 "Moved") [] := by
  refine C8.met0 (TC.cl _ cm_Moved) me F b sc_Moved_worth_of (fun vs H Q E h => ?_) (fun cdv A outer s H vs Q E hr h => ?_)
  · obtain ⟨pd, a, x, rfl, hc, hn, _⟩ := h
    rfl
  · obtain ⟨pd, a, x, rfl, hc, hn, _⟩ := h
    obtain ⟨q, m, rfl⟩ := cls_moved hc
    exact absurd hn (Nat.not_succ_le_zero _)

theorem ok_Moved_limits0 (TC : ClsT K C) (me : Meth K (C "Moved") "limits" f) (F : C8.Fun K "limits" "Moved.limits" s_Moved_limits f fd) (b : Binds K fd ["self"] []) : C8.Met P w K mg base 3 (C "Moved") "limits" (spLimits C 0 "Moved") [] := by
  refine C8.met0 (TC.cl _ cm_Moved) me F b sc_Moved_limits (fun vs H Q E h => ?_) (fun cdv A outer s H vs Q E hr h => ?_)
  · obtain ⟨pd, a, rfl, hc, hn, _⟩ := h
    rfl
  · obtain ⟨pd, a, rfl, hc, hn, _⟩ := h
    obtain ⟨q, m, rfl⟩ := cls_moved hc
    exact absurd hn (Nat.not_succ_le_zero _)

/-- the methods of all parts, of any depth of wraps -/
theorem fam {m : Str} {sp : Nat → Str → Sp} (hb : ∀ n c, c ∈ clss → c ≠ "Times" → c ≠ "Moved" → C8.Met P w K mg base (3 + n) (C c) m (sp n c) []) (t0 : C8.Met P w K mg base 3 (C "Times") m (sp 0 "Times") []) (m0 : C8.Met P w K mg base 3 (C "Moved") m (sp 0 "Moved") [])
    (tn : ∀ n, (∀ c ∈ clss, C8.Met P w K mg base (3 + n) (C c) m (sp n c) []) → C8.Met P w K mg base (3 + n + 1) (C "Times") m (sp (n + 1) "Times") []) (mn : ∀ n, (∀ c ∈ clss, C8.Met P w K mg base (3 + n) (C c) m (sp n c) []) → C8.Met P w K mg base (3 + n + 1) (C "Moved") m (sp (n + 1) "Moved") []) :
    ∀ n, ∀ c ∈ clss, C8.Met P w K mg base (3 + n) (C c) m (sp n c) []
  | 0, c, hc => by
    by_cases h1 : c = "Times"
    · rw [h1]; exact t0
    · by_cases h2 : c = "Moved"
      · rw [h2]; exact m0
      · exact hb 0 c hc h1 h2
  | n + 1, c, hc => by
    have ih := fam hb t0 m0 tn mn n
    by_cases h1 : c = "Times"
    · rw [h1]; exact tn n ih
    · by_cases h2 : c = "Moved"
      · rw [h2]; exact mn n ih
      · exact hb (n + 1) c hc h1 h2
theorem base8 {p : Str → Prop} (h : ∀ c ∈ (["Slope", "Aim", "Square", "Row", "Wall", "Near", "Gaps", "Ahead"] : List Str), p c) : ∀ c, c ∈ clss → c ≠ "Times" → c ≠ "Moved" → p c := fun c hc h1 h2 => by
  unfold clss at hc
  simp only [List.mem_cons, List.not_mem_nil, or_false] at hc
  refine h c ?_
  simp only [List.mem_cons, List.not_mem_nil, or_false]
  rcases hc with h | h | h | h | h | h | h | h | h | h
  · exact .inl h
  · exact .inr (.inl h)
  · exact .inr (.inr (.inl h))
  · exact .inr (.inr (.inr (.inl h)))
  · exact .inr (.inr (.inr (.inr (.inl h))))
  · exact .inr (.inr (.inr (.inr (.inr (.inl h)))))
  · exact .inr (.inr (.inr (.inr (.inr (.inr (.inl h))))))
  · exact .inr (.inr (.inr (.inr (.inr (.inr (.inr h))))))
  · exact absurd h h1
  · exact absurd h h2

end
end Ev

namespace Ev
open PySem L2 Ax
section
variable {P : Program} {w : World} {K : PySem.W.Frag} {mg : Str → Option Value} {base : Heap} {C : Str → Addr} {f : Addr} {fd : FuncData}

def spAt : Sp := fun vs H Q _ => ∃ (b : PD) (wr : Wr) (a wl nl rl : Addr) (ws : List V) (x : Int), vs = [.ref a, .int x] ∧ LAt H b wr a wl nl rl ws ∧ WrOk wr ∧ -(2 ^ 60) ≤ x ∧ x ≤ 2 ^ 60 ∧ (∀ p w, b = .slope p w → -1000 ≤ w ∧ w ≤ 1000) ∧ b.ok ∧ ∀ H', Same H H' → Q (vO ((wrap wr b).worth x)) H'
theorem iteY {c : Bool} {A B : Prop} (h : c = true) (a : A) : if c = true then A else B := by rw [if_pos h]; exact a
theorem iteN {c : Bool} {A B : Prop} (h : c = false) (b : B) : if c = true then A else B := by rw [h]; exact iteF b
theorem take_fold {α β : Type} {l : List α} {i : Nat} {w : α} (f : β → α → β) (s : β) (h : l[i]? = some w) : (l.take (i + 1)).foldl f s = f ((l.take i).foldl f s) w := by
  rw [List.take_add_one, h, List.foldl_append]
  rfl
theorem abs_sub (x b : Int) : (if x - b < 0 then -(x - b) else x - b) = absI (x - b) := rfl

theorem ok_law_at (T : Txt K mg C)  (F : C8.Def K mg "_law_at" s_law_at f fd) (b : Binds K fd ["_law_part_here", "_law_reads"] []) : C8.Cal P w K mg base 1 "_law_at" spAt [] := by
  refine C8.cal0 F b .nil sc_law_at (fun vs H Q E h => ?_) (fun cdv A outer s H vs Q E hr h => ?_)
  · obtain ⟨b, wr, a, wl, nl, rl, ws, x, rfl, h, ho, hx1, hx2, hsl, hok, k⟩ := h
    rfl
  · obtain ⟨b, wr, a, wl, nl, rl, ws, x, rfl, h, ho, hx1, hx2, hsl, hok, k⟩ := h
    refine ⟨_, (pss_cons (ps_asg (pv 0) (pg_tup (by rfl) (pgs_cons (pg_name (i := 2) sc_law_at.nd rfl (Or.inl rfl)) (pgs_cons (pg_name (i := 3) sc_law_at.nd rfl (Or.inl rfl)) (pgs_cons (pg_name (i := 4) sc_law_at.nd rfl (Or.inl rfl)) (pgs_cons (pg_name (i := 5) sc_law_at.nd rfl (Or.inl rfl)) pgs_nil))))))
    (pss_cons (ps_set (i := 6) sc_law_at.nd rfl (Or.inl rfl) pe_int)
    (pss_cons (ps_for PassesOwn.never rfl (pi_list (pv 5)) (pg_tup (by rfl) (pgs_cons (pg_name (i := 7) sc_law_at.nd rfl (Or.inl rfl)) (pgs_cons (pg_name (i := 8) sc_law_at.nd rfl (Or.inl rfl)) pgs_nil))) (pss_one (ps_if (pt_cmpR op_eq (pv 7) pe_str (nomark _)) (pss_one (ps_set (i := 6) sc_law_at.nd rfl (Or.inl rfl) (pe_op op_mul (pv 6) (pv 8)))) (pss_one (ps_set (i := 1) sc_law_at.nd rfl (Or.inl rfl) (pe_op op_sub (pv 1) (pv 8)))))))
    (pss_cons (ps_if (pt_cmpR op_eq (pv 2) pe_str (nomark _)) (pss_one (ps_ret (pe_op op_mul (pe_op op_mul (pv 6) (pe_ix ix_list (pv 4) pe_int (fun _ _ => rfl))) (pv 1)))) pss_nil)
    (pss_cons (ps_if (pt_cmpR op_in_seq (pv 2) (pe_tup (pa_cons pe_str (pa_cons pe_str pa_nil))) (by rfl)) (pss_one (ps_ret (pe_op op_mul (pe_op op_mul (pv 6) (pe_ix ix_list (pv 4) pe_int (fun _ _ => rfl))) (pe_callB call_abs (by rfl) T.b_abs (by decide +kernel) (pa_cons (pe_op op_sub (pv 1) (pe_ix ix_list (pv 4) pe_int (fun _ _ => rfl))) pa_nil))))) pss_nil)
    (pss_cons (ps_if (pt_cmpR op_eq (pv 2) pe_str (nomark _)) (pss_cons (ps_set (i := 9) sc_law_at.nd rfl (Or.inl rfl) (pe_op op_sub (pv 1) (pe_ix ix_list (pv 4) pe_int (fun _ _ => rfl))))
    (pss_one (ps_ret (pe_op op_mul (pe_op op_mul (pe_op op_mul (pv 6) (pe_ix ix_list (pv 4) pe_int (fun _ _ => rfl))) (pv 9)) (pv 9))))) pss_nil)
    (pss_cons (ps_if (pt_cmpR op_in_seq (pv 2) (pe_tup (pa_cons pe_str (pa_cons pe_str pa_nil))) (by rfl)) (pss_cons (ps_set (i := 10) sc_law_at.nd rfl (Or.inl rfl) (pe_op op_sub (pv 1) (pe_ix ix_list (pv 4) pe_int (fun _ _ => rfl))))
    (pss_one (ps_ret (pe_ifExp (pt_chain op_le op_lt pe_int (pv 10) (pe_callB call_len (by rfl) T.b_len (by decide +kernel) (pa_cons (pe_ix ix_list (pv 4) pe_int (fun _ _ => rfl)) pa_nil))) (pe_op op_mul (pv 6) (pe_ix ix_list (pe_ix ix_list (pv 4) pe_int (fun _ _ => rfl)) (pv 10) (fun _ _ => rfl))) pe_non)))) pss_nil)
    (pss_cons (ps_if (pt_cmpR op_eq (pv 2) pe_str (nomark _)) (pss_one (ps_ret (pe_ifExp (pt_chain op_le op_le (pe_ix ix_list (pv 4) pe_int (fun _ _ => rfl)) (pv 1) (pe_ix ix_list (pv 4) pe_int (fun _ _ => rfl))) pe_int pe_non))) pss_nil)
    (pss_one (ps_ret (pe_ifExp (pt_cmpR op_le (pv 1) (pe_ix ix_list (pv 4) pe_int (fun _ _ => rfl)) (nomark _)) pe_int pe_non))))))))))), ?_⟩
    have hlen := h.wr.len
    refine ⟨_, rfl, _, _, rfl, .of h.at_, rfl, _, _, rfl, _, _, rfl, _, _, rfl, _, _, rfl, rfl, ?_⟩
    refine ⟨_, rfl, rl, rfl, ⟨_, .of h.wr.at_⟩, for_list (K := K) (a := rl) (xs := ws) (fun i σ H' => H' = H ∧ ∃ v7 v8, σ = [some (.ref a), some (.int ((wr.take i).foldl wstep (1, x)).2), some (.str b.word), some (.ref wl), some (.ref nl), some (.ref rl), some (.int ((wr.take i).foldl wstep (1, x)).1), v7, v8, none, none]) ⟨rfl, _, _, rfl⟩ (fun i σ H' _ ⟨e, _⟩ => by rw [e]; exact .of h.wr.at_) ?_ ?_⟩
    · rintro i y σ H' hi ⟨rfl, v7, v8, rfl⟩
      have il : i < wr.length := by rw [← hlen]; exact (List.getElem?_eq_some_iff.mp hi).1
      have hw : wr[i]? = some wr[i] := List.getElem?_eq_getElem il
      obtain ⟨t, rfl, ht⟩ := h.wr.all i _ _ hw hi
      have hb := ho.2 _ (List.mem_of_getElem? hw)
      have e := take_fold wstep ((1 : Int), x) hw
      generalize wr[i] = w at hw ht hb e
      obtain ⟨tm, n⟩ := w
      generalize (wr.take i).foldl wstep (1, x) = s at e
      obtain ⟨m, z⟩ := s
      refine ⟨_, _, rfl, .of ht, rfl, _, _, rfl, _, _, rfl, rfl, ?_⟩
      refine ⟨_, rfl, rfl, _, rfl, ?_⟩
      cases tm with
      | true =>
        refine iteY (c := decide (V.str "times" = V.str "times")) (by decide +kernel) ?_
        refine ⟨_, rfl, _, rfl, _, _, rfl, rfl, .inr ⟨by show -(2 ^ 64) < n; have := hb.1; simp only at this; omega, by show n < 2 ^ 64; have := hb.2.1; simp only at this; omega⟩, ?_⟩
        exact ⟨rfl, _, _, by rw [e]; rfl⟩
      | false =>
        refine iteN (c := decide (V.str "moved" = V.str "times")) (by decide +kernel) ?_
        refine ⟨_, rfl, _, rfl, _, _, rfl, rfl, ?_⟩
        exact ⟨rfl, _, _, by rw [e]; rfl⟩
    · rintro σ H' ⟨rfl, v7, v8, rfl⟩
      rw [show List.take ws.length wr = wr by rw [hlen]; exact List.take_length]
      have hr := wfold_read wr 1 x (fun w hw => ⟨(ho.2 w hw).1, (ho.2 w hw).2.1⟩)
      have hl8 := ho.1
      have key := worth_wrap1 b wr x
      rw [key] at k
      generalize wr.foldl wstep (1, x) = s at hr k ⊢
      obtain ⟨m, z⟩ := s
      simp only at hr k ⊢
      have hz1 : -(2 ^ 61) ≤ z := by omega
      have hz2 : z ≤ 2 ^ 61 := by omega
      cases b with
      | times => exact h.base.elim
      | moved => exact h.base.elim
      | slope p w =>
        refine ⟨_, rfl, rfl, _, rfl, iteY (c := decide (V.str "slope" = V.str "slope")) (by decide +kernel) ?_⟩
        have sm : Same H' _ := Same.refl H'
        have hn := h.num.same sm
        obtain ⟨o1, o2, o3⟩ := hok
        refine ⟨_, rfl, _, rfl, _, _, (0 : Int), _, rfl, rfl, .of hn, rfl, _, _, rfl, rfl, .inr ⟨by omega, by omega⟩, _, rfl, _, _, rfl, rfl, .inr ⟨by omega, by omega⟩, ?_⟩
        have q := k _ sm
        rw [show ((PD.slope p w).worth z).map (fun y => m * y) = some (m * w * z) by show some (m * (w * z)) = _; rw [Int.mul_assoc]] at q
        exact q
      | aim p b w =>
        refine ⟨_, rfl, rfl, _, rfl, iteN (c := decide (V.str "aim" = V.str "slope")) (by decide +kernel) ?_⟩
        refine ⟨_, rfl, (by show 2 ≤ sizeLine; decide), fun t1 ht1 => ⟨_, _, rfl, .inr (.of upd_same), rfl, rfl, _, rfl, iteY (c := inV (V.str "aim") [V.str "aim", V.str "near"]) (by decide +kernel) ?_⟩⟩
        have sm : Same H' _ := (Same.upd (o := .tup [V.str "aim", V.str "near"]) ht1)
        have hn := h.num.same sm
        obtain ⟨o1, o2, o3, o4⟩ := hok
        unfold Rch at o2
        refine ⟨_, rfl, _, rfl, _, _, (1 : Int), _, rfl, rfl, .of hn, rfl, _, _, rfl, rfl, .inr ⟨by omega, by omega⟩, _, rfl, _, rfl, _, _, (0 : Int), _, rfl, rfl, .of hn, rfl, _, _, rfl, rfl, _, rfl, _, _, rfl, rfl, .inr ⟨by show -(2 ^ 64) < absI (z - b); unfold absI; split <;> omega, by show absI (z - b) < 2 ^ 64; unfold absI; split <;> omega⟩, ?_⟩
        have q := k _ sm
        rw [show ((PD.aim p b w).worth z).map (fun y => m * y) = some (m * w * absI (z - b)) by show some (m * (w * absI (z - b))) = _; rw [Int.mul_assoc]] at q
        exact q
      | square p b w =>
        refine ⟨_, rfl, rfl, _, rfl, iteN (c := decide (V.str "square" = V.str "slope")) (by decide +kernel) ?_⟩
        refine ⟨_, rfl, (by show 2 ≤ sizeLine; decide), fun t1 ht1 => ⟨_, _, rfl, .inr (.of upd_same), rfl, rfl, _, rfl, iteN (c := inV (V.str "square") [V.str "aim", V.str "near"]) (by decide +kernel) ?_⟩⟩
        refine ⟨_, rfl, rfl, _, rfl, iteY (c := decide (V.str "square" = V.str "square")) (by decide +kernel) ?_⟩
        have sm : Same H' _ := (Same.upd (o := .tup [V.str "aim", V.str "near"]) ht1)
        have hn := h.num.same sm
        obtain ⟨o1, o2, o3, o4⟩ := hok
        unfold Rch at o2
        refine ⟨_, rfl, _, rfl, _, _, (0 : Int), _, rfl, rfl, .of hn, rfl, _, _, rfl, rfl, ?_⟩
        refine ⟨_, rfl, _, rfl, _, _, (1 : Int), _, rfl, rfl, .of hn, rfl, _, _, rfl, rfl, .inr ⟨by omega, by omega⟩, _, rfl, _, _, rfl, rfl, .inr ⟨by omega, by omega⟩, _, rfl, _, _, rfl, rfl, .inr ⟨by omega, by omega⟩, ?_⟩
        have q := k _ sm
        rw [show ((PD.square p b w).worth z).map (fun y => m * y) = some (m * w * (z - b) * (z - b)) by show some (m * (w * (z - b) * (z - b))) = _; rw [Int.mul_assoc m w, Int.mul_assoc m]] at q
        exact q
      | row p f ws =>
        refine ⟨_, rfl, rfl, _, rfl, iteN (c := decide (V.str "row" = V.str "slope")) (by decide +kernel) ?_⟩
        refine ⟨_, rfl, (by show 2 ≤ sizeLine; decide), fun t1 ht1 => ⟨_, _, rfl, .inr (.of upd_same), rfl, rfl, _, rfl, iteN (c := inV (V.str "row") [V.str "aim", V.str "near"]) (by decide +kernel) ?_⟩⟩
        refine ⟨_, rfl, rfl, _, rfl, iteN (c := decide (V.str "row" = V.str "square")) (by decide +kernel) ?_⟩
        refine ⟨_, rfl, (by show 2 ≤ sizeLine; decide), fun t2 ht2 => ⟨_, _, rfl, .inr (.of upd_same), rfl, rfl, _, rfl, iteY (c := inV (V.str "row") [V.str "row", V.str "gaps"]) (by decide +kernel) ?_⟩⟩
        have sm : Same H' _ := (Same.upd (o := .tup [V.str "aim", V.str "near"]) ht1).trans (Same.upd (o := .tup [V.str "row", V.str "gaps"]) ht2)
        have hn := h.num.same sm
        obtain ⟨l, hn, hl⟩ := hn
        have rk := hok.2
        refine ⟨_, rfl, _, rfl, _, _, (0 : Int), _, rfl, rfl, .of hn, rfl, _, _, rfl, rfl, ?_⟩
        have kk : ∀ H'', Same H' H'' → Q (vO ((rowAt f ws z).map fun y => m * y)) H'' := k
        unfold rowAt at kk
        refine ⟨_, rfl, _, _, rfl, rfl, _, rfl, ?_⟩
        by_cases h0 : 0 ≤ z - f
        · rw [if_pos h0] at kk
          rw [decide_eq_true h0]
          refine iteT ⟨_, rfl, _, _, (1 : Int), _, rfl, rfl, .of hn, rfl, _, _, rfl, .inl ⟨_, .of hl, rfl⟩, _, _, rfl, rfl, _, rfl, ?_⟩
          by_cases h1 : z - f < (ws.length : Int)
          · have e1 : decide (z - f < ((ws.map V.int).length : Int)) = true := decide_eq_true (by rw [List.length_map]; exact h1)
            rw [e1]
            have hi' : (z - f).toNat < ws.length := by omega
            have x0 := at_int (ws := ws) (i := (z - f).toNat) hi'
            have hb := rk.wb _ (List.getElem_mem hi')
            have eg : ws.getD (z - f).toNat 0 = ws[(z - f).toNat] := by rw [List.getD_eq_getElem?_getD, List.getElem?_eq_getElem hi']; rfl
            rw [List.getElem?_eq_getElem hi'] at kk
            rw [← eg] at kk hb
            refine iteT ⟨_, rfl, _, rfl, _, _, (1 : Int), _, rfl, rfl, .of hn, rfl, _, rfl, _, _, _, _, rfl, rfl, .of hl, (by rw [show z - f = (((z - f).toNat : Nat) : Int) by omega]; exact x0), _, _, rfl, rfl, .inr ⟨by omega, by omega⟩, ?_⟩
            exact kk _ sm
          · have e1 : decide (z - f < ((ws.map V.int).length : Int)) = false := decide_eq_false (by rw [List.length_map]; exact h1)
            rw [e1]
            rw [List.getElem?_eq_none_iff.mpr (by omega)] at kk
            refine iteF ?_
            exact kk _ sm
        · rw [if_neg h0] at kk
          rw [decide_eq_false h0]
          refine iteF ⟨_, rfl, iteF ?_⟩
          exact kk _ sm
      | wall p lo hi =>
        refine ⟨_, rfl, rfl, _, rfl, iteN (c := decide (V.str "wall" = V.str "slope")) (by decide +kernel) ?_⟩
        refine ⟨_, rfl, (by show 2 ≤ sizeLine; decide), fun t1 ht1 => ⟨_, _, rfl, .inr (.of upd_same), rfl, rfl, _, rfl, iteN (c := inV (V.str "wall") [V.str "aim", V.str "near"]) (by decide +kernel) ?_⟩⟩
        refine ⟨_, rfl, rfl, _, rfl, iteN (c := decide (V.str "wall" = V.str "square")) (by decide +kernel) ?_⟩
        refine ⟨_, rfl, (by show 2 ≤ sizeLine; decide), fun t2 ht2 => ⟨_, _, rfl, .inr (.of upd_same), rfl, rfl, _, rfl, iteN (c := inV (V.str "wall") [V.str "row", V.str "gaps"]) (by decide +kernel) ?_⟩⟩
        refine ⟨_, rfl, rfl, _, rfl, iteY (c := decide (V.str "wall" = V.str "wall")) (by decide +kernel) ?_⟩
        have sm : Same H' _ := (Same.upd (o := .tup [V.str "aim", V.str "near"]) ht1).trans (Same.upd (o := .tup [V.str "row", V.str "gaps"]) ht2)
        have hn := h.num.same sm
        refine ⟨_, rfl, _, _, (0 : Int), _, rfl, rfl, .of hn, rfl, _, rfl, _, _, rfl, rfl, _, rfl, ?_⟩
        have kk : ∀ H'', Same H' H'' → Q (vO ((if lo ≤ z ∧ z ≤ hi then some 0 else none : Option Int).map fun y => m * y)) H'' := k
        by_cases h0 : lo ≤ z
        · rw [decide_eq_true h0]
          refine iteT ⟨_, rfl, _, _, (1 : Int), _, rfl, rfl, .of hn, rfl, _, _, rfl, rfl, _, rfl, ?_⟩
          by_cases h1 : z ≤ hi
          · rw [decide_eq_true h1]
            rw [if_pos ⟨h0, h1⟩] at kk
            have q := kk _ sm
            rw [show (some (0 : Int)).map (fun y => m * y) = some 0 by show some (m * 0) = _; rw [Int.mul_zero]] at q
            exact iteT q
          · rw [decide_eq_false h1]
            rw [if_neg fun q => h1 q.2] at kk
            exact iteF (kk _ sm)
        · rw [decide_eq_false h0]
          rw [if_neg fun q => h0 q.1] at kk
          exact iteF ⟨_, rfl, iteF (kk _ sm)⟩
      | near o t b w =>
        refine ⟨_, rfl, rfl, _, rfl, iteN (c := decide (V.str "near" = V.str "slope")) (by decide +kernel) ?_⟩
        refine ⟨_, rfl, (by show 2 ≤ sizeLine; decide), fun t1 ht1 => ⟨_, _, rfl, .inr (.of upd_same), rfl, rfl, _, rfl, iteY (c := inV (V.str "near") [V.str "aim", V.str "near"]) (by decide +kernel) ?_⟩⟩
        have sm : Same H' _ := (Same.upd (o := .tup [V.str "aim", V.str "near"]) ht1)
        have hn := h.num.same sm
        obtain ⟨o0, o00, o1, o2, o3, o4⟩ := hok
        unfold Rch at o2
        refine ⟨_, rfl, _, rfl, _, _, (1 : Int), _, rfl, rfl, .of hn, rfl, _, _, rfl, rfl, .inr ⟨by omega, by omega⟩, _, rfl, _, rfl, _, _, (0 : Int), _, rfl, rfl, .of hn, rfl, _, _, rfl, rfl, _, rfl, _, _, rfl, rfl, .inr ⟨by show -(2 ^ 64) < absI (z - b); unfold absI; split <;> omega, by show absI (z - b) < 2 ^ 64; unfold absI; split <;> omega⟩, ?_⟩
        have q := k _ sm
        rw [show ((PD.near o t b w).worth z).map (fun y => m * y) = some (m * w * absI (z - b)) by show some (m * (w * absI (z - b))) = _; rw [Int.mul_assoc]] at q
        exact q
      | gaps o u f ws =>
        refine ⟨_, rfl, rfl, _, rfl, iteN (c := decide (V.str "gaps" = V.str "slope")) (by decide +kernel) ?_⟩
        refine ⟨_, rfl, (by show 2 ≤ sizeLine; decide), fun t1 ht1 => ⟨_, _, rfl, .inr (.of upd_same), rfl, rfl, _, rfl, iteN (c := inV (V.str "gaps") [V.str "aim", V.str "near"]) (by decide +kernel) ?_⟩⟩
        refine ⟨_, rfl, rfl, _, rfl, iteN (c := decide (V.str "gaps" = V.str "square")) (by decide +kernel) ?_⟩
        refine ⟨_, rfl, (by show 2 ≤ sizeLine; decide), fun t2 ht2 => ⟨_, _, rfl, .inr (.of upd_same), rfl, rfl, _, rfl, iteY (c := inV (V.str "gaps") [V.str "row", V.str "gaps"]) (by decide +kernel) ?_⟩⟩
        have sm : Same H' _ := (Same.upd (o := .tup [V.str "aim", V.str "near"]) ht1).trans (Same.upd (o := .tup [V.str "row", V.str "gaps"]) ht2)
        have hn := h.num.same sm
        obtain ⟨l, hn, hl⟩ := hn
        have rk := hok.2.2.2
        refine ⟨_, rfl, _, rfl, _, _, (0 : Int), _, rfl, rfl, .of hn, rfl, _, _, rfl, rfl, ?_⟩
        have kk : ∀ H'', Same H' H'' → Q (vO ((rowAt f ws z).map fun y => m * y)) H'' := k
        unfold rowAt at kk
        refine ⟨_, rfl, _, _, rfl, rfl, _, rfl, ?_⟩
        by_cases h0 : 0 ≤ z - f
        · rw [if_pos h0] at kk
          rw [decide_eq_true h0]
          refine iteT ⟨_, rfl, _, _, (1 : Int), _, rfl, rfl, .of hn, rfl, _, _, rfl, .inl ⟨_, .of hl, rfl⟩, _, _, rfl, rfl, _, rfl, ?_⟩
          by_cases h1 : z - f < (ws.length : Int)
          · have e1 : decide (z - f < ((ws.map V.int).length : Int)) = true := decide_eq_true (by rw [List.length_map]; exact h1)
            rw [e1]
            have hi' : (z - f).toNat < ws.length := by omega
            have x0 := at_int (ws := ws) (i := (z - f).toNat) hi'
            have hb := rk.wb _ (List.getElem_mem hi')
            have eg : ws.getD (z - f).toNat 0 = ws[(z - f).toNat] := by rw [List.getD_eq_getElem?_getD, List.getElem?_eq_getElem hi']; rfl
            rw [List.getElem?_eq_getElem hi'] at kk
            rw [← eg] at kk hb
            refine iteT ⟨_, rfl, _, rfl, _, _, (1 : Int), _, rfl, rfl, .of hn, rfl, _, rfl, _, _, _, _, rfl, rfl, .of hl, (by rw [show z - f = (((z - f).toNat : Nat) : Int) by omega]; exact x0), _, _, rfl, rfl, .inr ⟨by omega, by omega⟩, ?_⟩
            exact kk _ sm
          · have e1 : decide (z - f < ((ws.map V.int).length : Int)) = false := decide_eq_false (by rw [List.length_map]; exact h1)
            rw [e1]
            rw [List.getElem?_eq_none_iff.mpr (by omega)] at kk
            refine iteF ?_
            exact kk _ sm
        · rw [if_neg h0] at kk
          rw [decide_eq_false h0]
          refine iteF ⟨_, rfl, iteF ?_⟩
          exact kk _ sm
      | ahead o t g =>
        refine ⟨_, rfl, rfl, _, rfl, iteN (c := decide (V.str "ahead" = V.str "slope")) (by decide +kernel) ?_⟩
        refine ⟨_, rfl, (by show 2 ≤ sizeLine; decide), fun t1 ht1 => ⟨_, _, rfl, .inr (.of upd_same), rfl, rfl, _, rfl, iteN (c := inV (V.str "ahead") [V.str "aim", V.str "near"]) (by decide +kernel) ?_⟩⟩
        refine ⟨_, rfl, rfl, _, rfl, iteN (c := decide (V.str "ahead" = V.str "square")) (by decide +kernel) ?_⟩
        refine ⟨_, rfl, (by show 2 ≤ sizeLine; decide), fun t2 ht2 => ⟨_, _, rfl, .inr (.of upd_same), rfl, rfl, _, rfl, iteN (c := inV (V.str "ahead") [V.str "row", V.str "gaps"]) (by decide +kernel) ?_⟩⟩
        refine ⟨_, rfl, rfl, _, rfl, iteN (c := decide (V.str "ahead" = V.str "wall")) (by decide +kernel) ?_⟩
        have sm : Same H' _ := (Same.upd (o := .tup [V.str "aim", V.str "near"]) ht1).trans (Same.upd (o := .tup [V.str "row", V.str "gaps"]) ht2)
        have hn := h.num.same sm
        refine ⟨_, rfl, _, rfl, _, _, (0 : Int), _, rfl, rfl, .of hn, rfl, _, _, rfl, rfl, _, rfl, ?_⟩
        have kk : ∀ H'', Same H' H'' → Q (vO ((if z ≤ g then some 0 else none : Option Int).map fun y => m * y)) H'' := k
        by_cases h1 : z ≤ g
        · rw [decide_eq_true h1]
          rw [if_pos h1] at kk
          have q := kk _ sm
          rw [show (some (0 : Int)).map (fun y => m * y) = some 0 by show some (m * 0) = _; rw [Int.mul_zero]] at q
          exact iteT q
        · rw [decide_eq_false h1]
          rw [if_neg h1] at kk
          exact iteF (kk _ sm)

end
end Ev

namespace Ev
open PySem L2 Ax
section
variable {P : Program} {w : World} {K : PySem.W.Frag} {mg : Str → Option Value} {base : Heap} {C : Str → Addr} {f : Addr} {fd : FuncData}

def spBase (C : Str → Addr) : Sp := fun vs H Q _ => ∃ (b : PD) (wr : Wr) (a wl nl rl : Addr) (ws : List V), vs = [.ref a] ∧ LAt H b wr a wl nl rl ws ∧ b.ok ∧ ∀ p H', Same H H' → H p = none → PartAt C H' b p → Q (.ref p) H'

theorem ok_law_base (T : Txt K mg C) (m_Slope : C8.Mak P w K mg base 5 "Slope" (C "Slope") (spISlope C) []) (m_Aim : C8.Mak P w K mg base 6 "Aim" (C "Aim") (spIAim C) []) (m_Row : C8.Mak P w K mg base 5 "Row" (C "Row") (spIRow K C) []) (m_Wall : C8.Mak P w K mg base 5 "Wall" (C "Wall") (spIWall C) []) (m_Near : C8.Mak P w K mg base 7 "Near" (C "Near") (spINear C) []) (m_Gaps : C8.Mak P w K mg base 6 "Gaps" (C "Gaps") (spIGaps C) []) (m_Ahead : C8.Mak P w K mg base 6 "Ahead" (C "Ahead") (spIAhead C) []) (k_Square : MakKw P w K mg base 6 2 "Square" (C "Square") ["weight"] (spISquare C) (fun vs zs => vs ++ zs)) (F : C8.Def K mg "_law_base" s_law_base f fd) (b : Binds K fd ["_law_part_here"] []) : C8.Cal P w K mg base 9 "_law_base" (spBase C) [] := by
  refine C8.cal0 F b .nil sc_law_base (fun vs H Q E h => ?_) (fun cdv A outer s H vs Q E hr h => ?_)
  · obtain ⟨b, wr, a, wl, nl, rl, ws, rfl, h, hok, k⟩ := h
    rfl
  · obtain ⟨b, wr, a, wl, nl, rl, ws, rfl, h, hok, k⟩ := h
    refine ⟨_, (pss_cons (ps_asg (pv 0) (pg_tup (by rfl) (pgs_cons (pg_name (i := 1) sc_law_base.nd rfl (Or.inl rfl)) (pgs_cons (pg_name (i := 2) sc_law_base.nd rfl (Or.inl rfl)) (pgs_cons (pg_name (i := 3) sc_law_base.nd rfl (Or.inl rfl)) (pgs_cons (pg_name (i := 4) sc_law_base.nd rfl (Or.inl rfl)) pgs_nil))))))
    (pss_cons (ps_if (pt_cmpR op_eq (pv 1) pe_str (nomark _)) (pss_one (ps_ret (C8.pe_mk m_Slope hr (by decide) rfl (pa_cons (pe_ix ix_list (pv 2) pe_int (fun _ _ => rfl)) (pa_cons (pe_ix ix_list (pv 3) pe_int (fun _ _ => rfl)) pa_nil))))) pss_nil)
    (pss_cons (ps_if (pt_cmpR op_eq (pv 1) pe_str (nomark _)) (pss_one (ps_ret (C8.pe_mk m_Aim hr (by decide) rfl (pa_cons (pe_ix ix_list (pv 2) pe_int (fun _ _ => rfl)) (pa_cons (pe_ix ix_list (pv 3) pe_int (fun _ _ => rfl)) (pa_cons (pe_ix ix_list (pv 3) pe_int (fun _ _ => rfl)) pa_nil)))))) pss_nil)
    (pss_cons (ps_if (pt_cmpR op_eq (pv 1) pe_str (nomark _)) (pss_one (ps_ret (pe_mkw k_Square hr (by decide) rfl (pa_cons (pe_ix ix_list (pv 2) pe_int (fun _ _ => rfl)) (pa_cons (pe_ix ix_list (pv 3) pe_int (fun _ _ => rfl)) pa_nil)) (pk_cons (pe_ix ix_list (pv 3) pe_int (fun _ _ => rfl)) pk_nil)))) pss_nil)
    (pss_cons (ps_if (pt_cmpR op_eq (pv 1) pe_str (nomark _)) (pss_one (ps_ret (C8.pe_mk m_Row hr (by decide) rfl (pa_cons (pe_ix ix_list (pv 2) pe_int (fun _ _ => rfl)) (pa_cons (pe_ix ix_list (pv 3) pe_int (fun _ _ => rfl)) (pa_cons (pe_callTy call_list_of (by rfl) T.b_list (by decide +kernel) (pa_cons (pe_ix ix_list (pv 3) pe_int (fun _ _ => rfl)) pa_nil)) pa_nil)))))) pss_nil)
    (pss_cons (ps_if (pt_cmpR op_eq (pv 1) pe_str (nomark _)) (pss_one (ps_ret (C8.pe_mk m_Wall hr (by decide) rfl (pa_cons (pe_ix ix_list (pv 2) pe_int (fun _ _ => rfl)) (pa_cons (pe_ix ix_list (pv 3) pe_int (fun _ _ => rfl)) (pa_cons (pe_ix ix_list (pv 3) pe_int (fun _ _ => rfl)) pa_nil)))))) pss_nil)
    (pss_cons (ps_if (pt_cmpR op_eq (pv 1) pe_str (nomark _)) (pss_one (ps_ret (C8.pe_mk m_Near hr (by decide) rfl (pa_cons (pe_ix ix_list (pv 2) pe_int (fun _ _ => rfl)) (pa_cons (pe_ix ix_list (pv 2) pe_int (fun _ _ => rfl)) (pa_cons (pe_ix ix_list (pv 3) pe_int (fun _ _ => rfl)) (pa_cons (pe_ix ix_list (pv 3) pe_int (fun _ _ => rfl)) pa_nil))))))) pss_nil)
    (pss_cons (ps_if (pt_cmpR op_eq (pv 1) pe_str (nomark _)) (pss_one (ps_ret (C8.pe_mk m_Gaps hr (by decide) rfl (pa_cons (pe_ix ix_list (pv 2) pe_int (fun _ _ => rfl)) (pa_cons (pe_ix ix_list (pv 2) pe_int (fun _ _ => rfl)) (pa_cons (pe_ix ix_list (pv 3) pe_int (fun _ _ => rfl)) (pa_cons (pe_callTy call_list_of (by rfl) T.b_list (by decide +kernel) (pa_cons (pe_ix ix_list (pv 3) pe_int (fun _ _ => rfl)) pa_nil)) pa_nil))))))) pss_nil)
    (pss_one (ps_ret (C8.pe_mk m_Ahead hr (by decide) rfl (pa_cons (pe_ix ix_list (pv 2) pe_int (fun _ _ => rfl)) (pa_cons (pe_ix ix_list (pv 2) pe_int (fun _ _ => rfl)) (pa_cons (pe_ix ix_list (pv 3) pe_int (fun _ _ => rfl)) pa_nil)))))))))))))), ?_⟩
    refine ⟨_, rfl, _, _, rfl, .of h.at_, rfl, _, _, rfl, _, _, rfl, _, _, rfl, _, _, rfl, rfl, ?_⟩
    have hn := h.num
    cases b with
    | times => exact h.base.elim
    | moved => exact h.base.elim
    | slope p w =>
      refine ⟨_, rfl, rfl, _, rfl, iteY (c := decide (V.str "slope" = V.str "slope")) (by decide +kernel) ?_⟩
      refine ⟨_, rfl, _, _, (0 : Int), _, rfl, rfl, .of h.wh, rfl, _, rfl, _, _, (0 : Int), _, rfl, rfl, .of hn, rfl, fun x dx hx hdx hne => ⟨x, dx, p, w, rfl, upd_same, hok, fun H' bt e => ⟨rfl, k x H' (Same.made hx hdx bt) hx ⟨dx, e⟩⟩⟩⟩
    | aim p b w =>
      refine ⟨_, rfl, rfl, _, rfl, iteN (c := decide (V.str "aim" = V.str "slope")) (by decide +kernel) ?_⟩
      refine ⟨_, rfl, rfl, _, rfl, iteY (c := decide (V.str "aim" = V.str "aim")) (by decide +kernel) ?_⟩
      refine ⟨_, rfl, _, _, (0 : Int), _, rfl, rfl, .of h.wh, rfl, _, rfl, _, _, (0 : Int), _, rfl, rfl, .of hn, rfl, _, rfl, _, _, (1 : Int), _, rfl, rfl, .of hn, rfl, fun x dx hx hdx hne => ⟨"Aim", x, dx, p, b, w, rfl, cm_Aim, upd_same, hok, fun H' bt e => ⟨rfl, k x H' (Same.made hx hdx bt) hx ⟨dx, e⟩⟩⟩⟩
    | square p b w =>
      refine ⟨_, rfl, rfl, _, rfl, iteN (c := decide (V.str "square" = V.str "slope")) (by decide +kernel) ?_⟩
      refine ⟨_, rfl, rfl, _, rfl, iteN (c := decide (V.str "square" = V.str "aim")) (by decide +kernel) ?_⟩
      refine ⟨_, rfl, rfl, _, rfl, iteY (c := decide (V.str "square" = V.str "square")) (by decide +kernel) ?_⟩
      refine ⟨_, rfl, _, _, (0 : Int), _, rfl, rfl, .of h.wh, rfl, _, rfl, _, _, (0 : Int), _, rfl, rfl, .of hn, rfl, _, rfl, _, _, (1 : Int), _, rfl, rfl, .of hn, rfl, rfl, rfl, fun x dx hx hdx hne => ⟨x, dx, p, b, w, rfl, upd_same, hok, fun H' bt e => ⟨rfl, k x H' (Same.made hx hdx bt) hx ⟨dx, e⟩⟩⟩⟩
    | row p f ws =>
      refine ⟨_, rfl, rfl, _, rfl, iteN (c := decide (V.str "row" = V.str "slope")) (by decide +kernel) ?_⟩
      refine ⟨_, rfl, rfl, _, rfl, iteN (c := decide (V.str "row" = V.str "aim")) (by decide +kernel) ?_⟩
      refine ⟨_, rfl, rfl, _, rfl, iteN (c := decide (V.str "row" = V.str "square")) (by decide +kernel) ?_⟩
      refine ⟨_, rfl, rfl, _, rfl, iteY (c := decide (V.str "row" = V.str "row")) (by decide +kernel) ?_⟩
      obtain ⟨l, hn, hl⟩ := hn
      refine ⟨_, rfl, _, _, (0 : Int), _, rfl, rfl, .of h.wh, rfl, _, rfl, _, _, (0 : Int), _, rfl, rfl, .of hn, rfl, _, rfl, _, _, (1 : Int), _, rfl, rfl, .of hn, rfl, _, _, rfl, .inl (.of hl), fun m hm => ?_⟩
      have s1 : Same H _ := Same.upd (o := .lst (ws.map V.int)) hm
      refine fun x dx hx hdx hne => ⟨"Row", x, dx, m, p, f, ws, rfl, cm_Row, upd_same, (by rw [upd_ne (fun q => by rw [← q, upd_same] at hx; cases hx), upd_ne (fun q => by rw [← q, upd_same] at hdx; cases hdx)]; exact upd_same), hok, fun H' t bt e nt et => ⟨rfl, k x H' (s1.trans (Same.made hx hdx bt)) (s1.free hx) ⟨dx, t, e, et⟩⟩⟩
    | wall p lo hi =>
      refine ⟨_, rfl, rfl, _, rfl, iteN (c := decide (V.str "wall" = V.str "slope")) (by decide +kernel) ?_⟩
      refine ⟨_, rfl, rfl, _, rfl, iteN (c := decide (V.str "wall" = V.str "aim")) (by decide +kernel) ?_⟩
      refine ⟨_, rfl, rfl, _, rfl, iteN (c := decide (V.str "wall" = V.str "square")) (by decide +kernel) ?_⟩
      refine ⟨_, rfl, rfl, _, rfl, iteN (c := decide (V.str "wall" = V.str "row")) (by decide +kernel) ?_⟩
      refine ⟨_, rfl, rfl, _, rfl, iteY (c := decide (V.str "wall" = V.str "wall")) (by decide +kernel) ?_⟩
      refine ⟨_, rfl, _, _, (0 : Int), _, rfl, rfl, .of h.wh, rfl, _, rfl, _, _, (0 : Int), _, rfl, rfl, .of hn, rfl, _, rfl, _, _, (1 : Int), _, rfl, rfl, .of hn, rfl, fun x dx hx hdx hne => ⟨x, dx, p, lo, hi, rfl, upd_same, hok, fun H' bt e => ⟨rfl, k x H' (Same.made hx hdx bt) hx ⟨dx, e⟩⟩⟩⟩
    | near o t b w =>
      refine ⟨_, rfl, rfl, _, rfl, iteN (c := decide (V.str "near" = V.str "slope")) (by decide +kernel) ?_⟩
      refine ⟨_, rfl, rfl, _, rfl, iteN (c := decide (V.str "near" = V.str "aim")) (by decide +kernel) ?_⟩
      refine ⟨_, rfl, rfl, _, rfl, iteN (c := decide (V.str "near" = V.str "square")) (by decide +kernel) ?_⟩
      refine ⟨_, rfl, rfl, _, rfl, iteN (c := decide (V.str "near" = V.str "row")) (by decide +kernel) ?_⟩
      refine ⟨_, rfl, rfl, _, rfl, iteN (c := decide (V.str "near" = V.str "wall")) (by decide +kernel) ?_⟩
      refine ⟨_, rfl, rfl, _, rfl, iteY (c := decide (V.str "near" = V.str "near")) (by decide +kernel) ?_⟩
      refine ⟨_, rfl, _, _, (0 : Int), _, rfl, rfl, .of h.wh, rfl, _, rfl, _, _, (1 : Int), _, rfl, rfl, .of h.wh, rfl, _, rfl, _, _, (0 : Int), _, rfl, rfl, .of hn, rfl, _, rfl, _, _, (1 : Int), _, rfl, rfl, .of hn, rfl, fun x dx hx hdx hne => ⟨x, dx, o, t, b, w, rfl, upd_same, hok, fun H' bt e => ⟨rfl, k x H' (Same.made hx hdx bt) hx ⟨dx, e⟩⟩⟩⟩
    | gaps o u f ws =>
      refine ⟨_, rfl, rfl, _, rfl, iteN (c := decide (V.str "gaps" = V.str "slope")) (by decide +kernel) ?_⟩
      refine ⟨_, rfl, rfl, _, rfl, iteN (c := decide (V.str "gaps" = V.str "aim")) (by decide +kernel) ?_⟩
      refine ⟨_, rfl, rfl, _, rfl, iteN (c := decide (V.str "gaps" = V.str "square")) (by decide +kernel) ?_⟩
      refine ⟨_, rfl, rfl, _, rfl, iteN (c := decide (V.str "gaps" = V.str "row")) (by decide +kernel) ?_⟩
      refine ⟨_, rfl, rfl, _, rfl, iteN (c := decide (V.str "gaps" = V.str "wall")) (by decide +kernel) ?_⟩
      refine ⟨_, rfl, rfl, _, rfl, iteN (c := decide (V.str "gaps" = V.str "near")) (by decide +kernel) ?_⟩
      refine ⟨_, rfl, rfl, _, rfl, iteY (c := decide (V.str "gaps" = V.str "gaps")) (by decide +kernel) ?_⟩
      obtain ⟨l, hn, hl⟩ := hn
      refine ⟨_, rfl, _, _, (0 : Int), _, rfl, rfl, .of h.wh, rfl, _, rfl, _, _, (1 : Int), _, rfl, rfl, .of h.wh, rfl, _, rfl, _, _, (0 : Int), _, rfl, rfl, .of hn, rfl, _, rfl, _, _, (1 : Int), _, rfl, rfl, .of hn, rfl, _, _, rfl, .inl (.of hl), fun m hm => ?_⟩
      have s1 : Same H _ := Same.upd (o := .lst (ws.map V.int)) hm
      refine fun x dx hx hdx hne => ⟨x, dx, m, o, u, f, ws, rfl, upd_same, (by rw [upd_ne (fun q => by rw [← q, upd_same] at hx; cases hx), upd_ne (fun q => by rw [← q, upd_same] at hdx; cases hdx)]; exact upd_same), hok, fun H' t bt e nt et => ⟨rfl, k x H' (s1.trans (Same.made hx hdx bt)) (s1.free hx) ⟨dx, t, e, et⟩⟩⟩
    | ahead o t g =>
      refine ⟨_, rfl, rfl, _, rfl, iteN (c := decide (V.str "ahead" = V.str "slope")) (by decide +kernel) ?_⟩
      refine ⟨_, rfl, rfl, _, rfl, iteN (c := decide (V.str "ahead" = V.str "aim")) (by decide +kernel) ?_⟩
      refine ⟨_, rfl, rfl, _, rfl, iteN (c := decide (V.str "ahead" = V.str "square")) (by decide +kernel) ?_⟩
      refine ⟨_, rfl, rfl, _, rfl, iteN (c := decide (V.str "ahead" = V.str "row")) (by decide +kernel) ?_⟩
      refine ⟨_, rfl, rfl, _, rfl, iteN (c := decide (V.str "ahead" = V.str "wall")) (by decide +kernel) ?_⟩
      refine ⟨_, rfl, rfl, _, rfl, iteN (c := decide (V.str "ahead" = V.str "near")) (by decide +kernel) ?_⟩
      refine ⟨_, rfl, rfl, _, rfl, iteN (c := decide (V.str "ahead" = V.str "gaps")) (by decide +kernel) ?_⟩
      refine ⟨_, rfl, _, _, (0 : Int), _, rfl, rfl, .of h.wh, rfl, _, rfl, _, _, (1 : Int), _, rfl, rfl, .of h.wh, rfl, _, rfl, _, _, (0 : Int), _, rfl, rfl, .of hn, rfl, fun x dx hx hdx hne => ⟨x, dx, o, t, g, rfl, upd_same, hok, fun H' bt e => ⟨rfl, k x H' (Same.made hx hdx bt) hx ⟨dx, e⟩⟩⟩⟩

end
end Ev

namespace Ev
open PySem L2 Ax
section
variable {P : Program} {w : World} {K : PySem.W.Frag} {mg : Str → Option Value} {base : Heap} {C : Str → Addr} {f : Addr} {fd : FuncData}

def spMade (C : Str → Addr) : Sp := fun vs H Q _ => ∃ (b : PD) (wr : Wr) (a wl nl rl : Addr) (ws : List V), vs = [.ref a] ∧ LAt H b wr a wl nl rl ws ∧ b.ok ∧ WrOk wr ∧ ∀ p H', Same H H' → H p = none → PartAt C H' (wrap wr b) p → Q (.ref p) H'
def wrapI (b : PD) (l : Wr) : PD := l.foldl (fun q w => wrap1 w q) b
theorem wrapI_rev (b : PD) (wr : Wr) : wrapI b wr.reverse = wrap wr b := by
  unfold wrapI wrap
  rw [List.foldl_reverse]
theorem wraps_wrap1 (w : Bool × Int) (q : PD) : (wrap1 w q).wraps = q.wraps + 1 := by
  unfold wrap1
  cases w.1 <;> rfl
theorem wraps_wrapI : ∀ (l : Wr) (b : PD), (wrapI b l).wraps = b.wraps + l.length
  | [], b => rfl
  | w :: r, b => by
    show (wrapI (wrap1 w b) r).wraps = _
    rw [wraps_wrapI r, wraps_wrap1, List.length_cons]
    omega
theorem rev_at {α β : Type} {l : List α} {m : List β} (e : l.length = m.length) {i : Nat} {y : α} (h : l.reverse[i]? = some y) : ∃ w, m.reverse[i]? = some w ∧ l[l.length - 1 - i]? = some y ∧ m[l.length - 1 - i]? = some w := by
  have hi : i < l.length := by
    have := (List.getElem?_eq_some_iff.mp h).1
    rw [List.length_reverse] at this
    exact this
  rw [List.getElem?_reverse hi] at h
  have hj : m.length - 1 - i < m.length := by omega
  refine ⟨m[m.length - 1 - i], ?_, h, ?_⟩
  · rw [List.getElem?_reverse (by omega), List.getElem?_eq_getElem hj]
  · rw [e, List.getElem?_eq_getElem hj]

theorem ok_law_made (T : Txt K mg C) (c_law_base : C8.Cal P w K mg base 9 "_law_base" (spBase C) []) (m_Times : C8.Mak P w K mg base 4 "Times" (C "Times") (spITimes C) []) (m_Moved : C8.Mak P w K mg base 4 "Moved" (C "Moved") (spIMoved C) []) (F : C8.Def K mg "_law_made" s_law_made f fd) (b : Binds K fd ["_law_part_here"] []) : C8.Cal P w K mg base 10 "_law_made" (spMade C) [] := by
  refine C8.cal0 F b .nil sc_law_made (fun vs H Q E h => ?_) (fun cdv A outer s H vs Q E hr h => ?_)
  · obtain ⟨b, wr, a, wl, nl, rl, ws, rfl, h, hok, ho, k⟩ := h
    rfl
  · obtain ⟨b, wr, a, wl, nl, rl, ws, rfl, h, hok, ho, k⟩ := h
    refine ⟨_, (pss_cons (ps_set (i := 1) sc_law_made.nd rfl (Or.inl rfl) (C8.pe_c c_law_base hr (by decide) rfl (pa_cons (pv 0) pa_nil)))
    (pss_cons (ps_for PassesOwn.never rfl (pi_list (pe_revL (pe_ix ix_tup (pv 0) pe_int (fun _ _ => rfl)))) (pg_tup (by rfl) (pgs_cons (pg_name (i := 2) sc_law_made.nd rfl (Or.inl rfl)) (pgs_cons (pg_name (i := 3) sc_law_made.nd rfl (Or.inl rfl)) pgs_nil))) (pss_one (ps_set (i := 1) sc_law_made.nd rfl (Or.inl rfl) (pe_ifExp (pt_cmpR op_eq (pv 2) pe_str (nomark _)) (C8.pe_mk m_Times hr (by decide) rfl (pa_cons (pv 1) (pa_cons (pv 3) pa_nil))) (C8.pe_mk m_Moved hr (by decide) rfl (pa_cons (pv 1) (pa_cons (pv 3) pa_nil)))))))
    (pss_one (ps_ret (pv 1))))), ?_⟩
    have hlen := h.wr.len
    refine ⟨_, rfl, b, wr, a, wl, nl, rl, ws, rfl, h, hok, fun p0 H0 s0 np0 hp0 => ?_⟩
    have h0 := h.same s0
    refine ⟨_, rfl, _, _, (3 : Int), _, rfl, rfl, .of h0.at_, rfl, _, _, rfl, .of h0.wr.at_, fun m hm => ?_⟩
    have s1 : Same H (upd H0 m (.lst ws.reverse)) := s0.trans (Same.upd hm)
    have h1 : LAt (upd H0 m (.lst ws.reverse)) b wr a wl nl rl ws := h0.same (Same.upd hm)
    have hp1 : PartAt C (upd H0 m (.lst ws.reverse)) b p0 := hp0.same (Same.upd hm)
    have em : upd H0 m (.lst ws.reverse) m = some (.lst ws.reverse) := upd_same
    generalize upd H0 m (.lst ws.reverse) = H1 at s1 h1 hp1 em
    refine ⟨m, rfl, ⟨_, .of em⟩, for_list (K := K) (a := m) (xs := ws.reverse) (fun i σ H' => Same H1 H' ∧ ∃ p v2 v3, H p = none ∧ PartAt C H' (wrapI b (wr.reverse.take i)) p ∧ σ = [some (.ref a), some (.ref p), v2, v3]) ⟨Same.refl _, p0, _, _, np0, hp1, rfl⟩ (fun i σ H' _ ⟨e, _⟩ => .of (e _ _ em)) ?_ ?_⟩
    · rintro i y σ H' hi ⟨s2, p, v2, v3, np, hp, rfl⟩
      obtain ⟨w, hw, hv, hw2⟩ := rev_at hlen hi
      obtain ⟨t, rfl, ht⟩ := (h1.same s2).wr.all _ _ _ hw2 hv
      have hb := ho.2 _ (List.mem_of_getElem? hw2)
      have e : wrapI b (wr.reverse.take (i + 1)) = wrap1 w (wrapI b (wr.reverse.take i)) := by
        unfold wrapI
        rw [take_fold _ _ hw]
      have lw : (wrapI b (wr.reverse.take i)).wraps < 8 := by
        have hi' : i < wr.reverse.length := (List.getElem?_eq_some_iff.mp hw).1
        have h8 := ho.1
        have hz : b.wraps = 0 := wraps_wrap b h.base []
        rw [wraps_wrapI, hz, List.length_take]
        rw [List.length_reverse] at hi' ⊢
        omega
      generalize wrapI b (wr.reverse.take i) = q at hp e lw
      obtain ⟨tm, n⟩ := w
      obtain ⟨b1, b2, b3⟩ := hb
      refine ⟨_, _, rfl, .of ht, rfl, _, _, rfl, _, _, rfl, rfl, ?_⟩
      refine ⟨_, rfl, rfl, _, rfl, ?_⟩
      cases tm with
      | true =>
        refine iteY (c := decide (V.str "times" = V.str "times")) (by decide +kernel) ⟨_, rfl, _, rfl, fun x dx hx hdx hne => ⟨x, dx, p, q, n, rfl, upd_same, hp.same (Same.new hx hdx), lw, b3 rfl, b2, fun H2 bt ee => ⟨rfl, ?_⟩⟩⟩
        have s3 := Same.made hx hdx bt
        exact ⟨s2.trans s3, x, _, _, (s1.trans s2).free hx, by rw [e]; exact ⟨dx, p, ee, hp.same s3⟩, rfl⟩
      | false =>
        refine iteN (c := decide (V.str "moved" = V.str "times")) (by decide +kernel) ⟨_, rfl, _, rfl, fun x dx hx hdx hne => ⟨x, dx, p, q, n, rfl, upd_same, hp.same (Same.new hx hdx), lw, b1, b2, fun H2 bt ee => ⟨rfl, ?_⟩⟩⟩
        have s3 := Same.made hx hdx bt
        exact ⟨s2.trans s3, x, _, _, (s1.trans s2).free hx, by rw [e]; exact ⟨dx, p, ee, hp.same s3⟩, rfl⟩
    · rintro σ H' ⟨s2, p, v2, v3, np, hp, rfl⟩
      rw [show List.take ws.reverse.length wr.reverse = wr.reverse by rw [List.length_reverse, hlen, ← List.length_reverse (as := wr)]; exact List.take_length, wrapI_rev] at hp
      refine ⟨_, rfl, ?_⟩
      exact k p H' (s1.trans s2) np hp

end
end Ev

namespace Ev
open PySem L2 Ax
section
variable {P : Program} {w : World} {K : PySem.W.Frag} {mg : Str → Option Value} {base : Heap} {C : Str → Addr} {f : Addr} {fd : FuncData}

theorem dp_ints {K : PySem.W.Frag} {H : Hp} : ∀ ns : List Int, DpAll K H (ns.map V.int) (ns.map PyData.int)
  | [] => .nil
  | n :: r => .cons (.int n) (dp_ints r)
theorem eqv_ints : ∀ a b : List Int, PyData.eqv (.list (a.map PyData.int)) (.list (b.map PyData.int)) = decide (a = b)
  | [], [] => by simp [PyData.eqv, PyData.eqvAll]
  | [], y :: ys => by simp [PyData.eqv, PyData.eqvAll]
  | x :: xs, [] => by simp [PyData.eqv, PyData.eqvAll]
  | x :: xs, y :: ys => by
    have ih := eqv_ints xs ys
    simp only [PyData.eqv] at ih ⊢
    simp only [List.map_cons, PyData.eqvAll, ih, PyData.eqv]
    by_cases h : x = y
    · simp [h]
    · simp [h]
theorem shp_ints (ns : List Int) : SeqAt.shaped (.list (ns.map PyData.int)) = true := by
  unfold SeqAt.shaped
  have h1 : ∀ l : List Int, PyData.canLayAll0 (l.map PyData.int) = true := fun l => by
    induction l with
    | nil => simp [PyData.canLayAll0]
    | cons x r ih => simp [PyData.canLayAll0, PyData.canLay0, ih]
  have h2 : ∀ l : List Int, PyData.depth (.list (l.map PyData.int)) ≤ 64 := fun l => by
    exact SeqAt.depth_of_shaped (PySem.W.shaped_ints l)
  rw [PyData.canLay0, h1, Bool.true_and, decide_eq_true (h2 ns)]
def spCell (K : PySem.W.Frag) : Sp := fun vs H Q _ => ∃ (a : Addr) (ns : List Int) (k : Int), vs = [.ref a, .int k] ∧ SqL K H a (ns.map V.int) ∧ ns.length ≤ 63 ∧ 0 ≤ k ∧ k ≤ 1000 ∧ ∀ (c : Int) H', Same H H' → Q (.int c) H'
def spNumbers : Sp := fun vs H Q _ => ∃ (c : Int) (bl : Addr) (bs : List Int), vs = [.int c, .ref bl] ∧ H bl = some (.lst (bs.map V.int)) ∧ (∀ b ∈ bs, 0 < b ∧ b < 1000000000) ∧ bs.length ≤ 40 ∧
  ∀ (l : Addr) (ds : List Int) H', Same H H' → H l = none → H' l = some (.lst (ds.map V.int)) → ds.length = bs.length → (∀ i : Nat, i < bs.length → 0 ≤ ds.getD i 0 ∧ ds.getD i 0 < bs.getD i 0) → Q (.ref l) H'
theorem getD_app {l : List Int} {x : Int} {i : Nat} : (l ++ [x]).getD i 0 = if i < l.length then l.getD i 0 else if i = l.length then x else 0 := by
  rw [List.getD_eq_getElem?_getD, List.getD_eq_getElem?_getD]
  by_cases h : i < l.length
  · rw [if_pos h, List.getElem?_append_left h]
  · rw [if_neg h, List.getElem?_append_right (by omega)]
    by_cases h2 : i = l.length
    · rw [if_pos h2, h2, Nat.sub_self]
      rfl
    · rw [if_neg h2, List.getElem?_eq_none_iff.mpr (by simp; omega)]
      rfl

theorem ok_law_cell_at (T : Txt K mg C)  (F : C8.Def K mg "_law_cell_at" s_law_cell_at f fd) (b : Binds K fd ["_law_script", "_law_k"] []) : C8.Cal P w K mg base 1 "_law_cell_at" (spCell K) [] := by
  refine C8.cal0 F b .nil sc_law_cell_at (fun vs H Q E h => ?_) (fun cdv A outer s H vs Q E hr h => ?_)
  · obtain ⟨a, ns, k', rfl, hS, hl, h1, h2, k⟩ := h
    rfl
  · obtain ⟨a, ns, k', rfl, hS, hl, h1, h2, k⟩ := h
    refine ⟨_, (pss_cons (ps_if (pt_cmpR op_lt (pv 1) (pe_callB call_len (by rfl) T.b_len (by decide +kernel) (pa_cons (pv 0) pa_nil)) (nomark _)) (pss_one (ps_ret (pe_ix ix_list (pv 0) (pv 1) (fun _ _ => rfl)))) pss_nil)
    (pss_cons (ps_if (pt_cmpR (op_eqD hr.units) (pv 0) (pe_lst pa_nil) (nomark _)) (pss_one (ps_ret (pe_op op_mul (pv 1) pe_int))) pss_nil)
    (pss_one (ps_ret (pe_op op_mod (pe_op op_mul (pe_op op_add (pe_ix ix_list (pv 0) (pe_op op_mod (pv 1) (pe_callB call_len (by rfl) T.b_len (by decide +kernel) (pa_cons (pv 0) pa_nil))) (fun _ _ => rfl)) (pv 1)) pe_int) pe_int))))), ?_⟩
    have e1 : ((ns.map V.int).length : Int) = (ns.length : Int) := by rw [List.length_map]
    refine ⟨_, rfl, _, rfl, _, _, rfl, .inl ⟨_, hS, rfl⟩, _, _, rfl, rfl, _, rfl, ?_⟩
    rw [e1]
    by_cases hk : k' < (ns.length : Int)
    · rw [decide_eq_true hk]
      have x0 := at_int (ws := ns) (i := k'.toNat) (by omega)
      refine iteT ⟨_, rfl, _, rfl, _, _, _, _, rfl, rfl, hS, (by rw [show k' = ((k'.toNat : Nat) : Int) by omega]; exact x0), ?_⟩
      exact k _ _ (Same.refl _)
    · rw [decide_eq_false hk]
      refine iteF ?_
      refine ⟨_, rfl, Nat.zero_le _, fun l hl' => ⟨_, _, .lst ((Same.upd hl').seq hS) (dp_ints ns), .lst (.of upd_same) (dp_ints []), shp_ints ns, shp_ints [], _, rfl, ?_⟩⟩
      rw [eqv_ints]
      by_cases hn : ns = []
      · rw [decide_eq_true hn]
        refine iteT ⟨_, rfl, _, _, rfl, rfl, .inr ⟨by decide, by decide⟩, ?_⟩
        exact k _ _ (Same.upd hl')
      · rw [decide_eq_false hn]
        have hp : 0 < ns.length := by
          cases ns with
          | nil => exact absurd rfl hn
          | cons => simp
        have hm1 : 0 ≤ k' % (ns.length : Int) := Int.emod_nonneg _ (by omega)
        have hm2 : k' % (ns.length : Int) < (ns.length : Int) := Int.emod_lt_of_pos _ (by omega)
        have x0 := at_int (ws := ns) (i := (k' % (ns.length : Int)).toNat) (by omega)
        have hS' := (Same.upd (o := .lst []) hl').seq hS
        refine iteF ⟨_, rfl, _, rfl, _, rfl, _, _, rfl, .inl ⟨_, hS', rfl⟩, _, _, rfl, rfl, (by show (0 : Int) < ((ns.map V.int).length : Int); rw [e1]; omega), _, _, _, _, rfl, rfl, hS', (by rw [e1, show k' % (ns.length : Int) = (((k' % (ns.length : Int)).toNat : Nat) : Int) by omega]; exact x0), _, rfl, _, _, rfl, rfl, _, _, rfl, rfl, .inr ⟨by decide, by decide⟩, _, _, rfl, rfl, (by show (0 : Int) < 2147483647; decide), ?_⟩
        exact k _ _ (Same.upd hl')

theorem ok_law_numbers (T : Txt K mg C)  (F : C8.Def K mg "_law_numbers" s_law_numbers f fd) (b : Binds K fd ["_law_cell", "_law_bounds"] []) : C8.Cal P w K mg base 1 "_law_numbers" spNumbers [] := by
  refine C8.cal0 F b .nil sc_law_numbers (fun vs H Q E h => ?_) (fun cdv A outer s H vs Q E hr h => ?_)
  · obtain ⟨c, bl, bs, rfl, hb, hp, hl, k⟩ := h
    rfl
  · obtain ⟨c, bl, bs, rfl, hb, hp, hl, k⟩ := h
    refine ⟨_, (pss_cons (ps_set (i := 2) sc_law_numbers.nd rfl (Or.inl rfl) (pv 0))
    (C8.pss_cut (ps_if (pt_cmpR op_lt (pv 0) (pe_op op_pow pe_int pe_int) (nomark _)) (pss_one (ps_set (i := 2) sc_law_numbers.nd rfl (Or.inl rfl) (pe_op op_fdiv (pe_op op_pow (pe_op op_add (pe_op op_mul (pe_op op_mod (pv 0) pe_int) pe_int) pe_int) pe_int) pe_int))) pss_nil) (pss_cons (ps_set (i := 3) sc_law_numbers.nd rfl (Or.inl rfl) (pe_lst pa_nil))
    (pss_cons (ps_for PassesOwn.never rfl (pi_list (pv 1)) (pg_name (i := 4) sc_law_numbers.nd rfl (Or.inl rfl)) (pss_cons (ps_expr (pe_bm PySem.F.plainAttrs_list PySem.F.slot_list_append PySem.F.type_list_append mt_append (pv 3) (pa_cons (pe_op op_mod (pv 2) (pv 4)) pa_nil)))
    (pss_one (ps_set (i := 2) sc_law_numbers.nd rfl (Or.inl rfl) (pe_op op_fdiv (pv 2) (pv 4))))))
    (pss_one (ps_ret (pv 3))))))), ?_⟩
    refine ⟨_, rfl, ?_⟩
    refine ⟨fun σ H' => H' = H ∧ ∃ lf : Int, σ = [some (.int c), some (.ref bl), some (.int lf), none, none], ?_, ?_⟩
    · refine ⟨_, rfl, _, _, rfl, rfl, ⟨by decide, by decide, by decide⟩, _, _, rfl, rfl, _, rfl, ite2 (fun _ => ?_) (fun _ => ?_)⟩
      · have h1 : 0 ≤ c % 2147483647 := Int.emod_nonneg _ (by decide)
        have h2 : c % 2147483647 < 2147483647 := Int.emod_lt_of_pos _ (by decide)
        refine ⟨_, rfl, _, _, rfl, rfl, (by show (0 : Int) < 2147483647; decide), _, _, rfl, rfl, .inr ⟨by decide, by decide⟩, _, _, rfl, rfl, _, _, rfl, rfl, ⟨by decide, by decide, by omega⟩, _, _, rfl, rfl, ⟨by decide, by decide⟩, ?_⟩
        exact ⟨rfl, _, rfl⟩
      · exact ⟨rfl, _, rfl⟩
    rintro σ H' ⟨rfl, lf0, rfl⟩
    refine ⟨Nat.zero_le _, fun l hlN => ?_⟩
    have nlb : l ≠ bl := fun q => by rw [q, hb] at hlN; cases hlN
    have sm : ∀ xs, Same H' (upd H' l (.lst xs)) := fun xs => Same.upd hlN
    refine ⟨_, rfl, bl, rfl, ⟨_, .of (sm _ _ _ hb)⟩, for_list (K := K) (a := bl) (xs := bs.map V.int) (fun i σ H2 => ∃ (ds : List Int) (lf : Int) (v : Option V), H2 = upd H' l (.lst (ds.map V.int)) ∧ ds.length = i ∧ (∀ j : Nat, j < i → 0 ≤ ds.getD j 0 ∧ ds.getD j 0 < bs.getD j 0) ∧ σ = [some (.int c), some (.ref bl), some (.int lf), some (.ref l), v]) ⟨[], lf0, none, rfl, rfl, fun j hj => absurd hj (Nat.not_lt_zero _), rfl⟩ (fun i σ H2 _ ⟨ds, lf, v, e, _⟩ => by rw [e]; exact .of (sm _ _ _ hb)) ?_ ?_⟩
    · rintro i y σ H2 hi ⟨ds, lf, v, rfl, hd, hB, rfl⟩
      obtain ⟨u, hu, rfl⟩ := int_item hi
      have hi' : i < bs.length := (List.getElem?_eq_some_iff.mp hu).1
      have hpu := hp u (List.mem_of_getElem? hu)
      refine ⟨_, rfl, .inl ⟨rfl, _, .of upd_same⟩, _, rfl, _, rfl, _, _, rfl, rfl, hpu.1, _, _, _, rfl, rfl, upd_same, (by rw [List.length_map]; exact small1000 (by omega)), ?_⟩
      refine ⟨_, rfl, _, rfl, _, _, rfl, rfl, ⟨hpu.1, by omega⟩, ?_⟩
      refine ⟨ds ++ [lf % u], lf / u, _, ?_, by rw [List.length_append, hd]; rfl, fun j hj => ?_, rfl⟩
      · rw [upd_upd, List.map_append]
        rfl
      · rw [getD_app]
        by_cases hj' : j < ds.length
        · rw [if_pos hj']
          exact hB j (by omega)
        · have ej : j = ds.length := by omega
          rw [if_neg hj', if_pos ej, ej, hd, List.getD_eq_getElem?_getD, hu]
          exact ⟨Int.emod_nonneg _ (by omega), Int.emod_lt_of_pos _ hpu.1⟩
    · rintro σ H2 ⟨ds, lf, v, rfl, hd, hB, rfl⟩
      rw [List.length_map] at hd hB
      refine ⟨_, rfl, ?_⟩
      exact k l ds _ (sm _) hlN upd_same hd hB

end
end Ev

namespace Ev
open PySem L2 Ax
section
variable {P : Program} {w : World} {K : PySem.W.Frag} {mg : Str → Option Value} {base : Heap} {C : Str → Addr} {f : Addr} {fd : FuncData}

theorem cut_from (xs : List V) (k : Nat) : cutV xs (some (k : Int)) none = xs.drop k := by
  unfold cutV
  rw [HT.sIx_nat, HT.sIx_none]
  by_cases h : k ≤ xs.length
  · rw [Nat.min_eq_left h, List.take_of_length_le (by rw [List.length_drop]; exact Nat.le_refl _)]
  · rw [Nat.min_eq_right (by omega), Nat.sub_self, List.take_zero, List.drop_eq_nil_of_le (by omega)]
theorem cut_mid (xs : List V) (k j : Nat) (h : k ≤ j) (hk : k ≤ xs.length) : cutV xs (some (k : Int)) (some (j : Int)) = (xs.drop k).take (j - k) := by
  unfold cutV
  rw [HT.sIx_nat, HT.sIx_nat, Nat.min_eq_left hk]
  by_cases hj : j ≤ xs.length
  · rw [Nat.min_eq_left hj]
  · rw [Nat.min_eq_right (by omega), List.take_of_length_le (by rw [List.length_drop]; exact Nat.le_refl _), List.take_of_length_le (by rw [List.length_drop]; omega)]
theorem even_app {ys : List Int} {z : Int} (h : Even ys) (hd : 2 ≤ ys.length → ys.getD (ys.length - 1) 0 - ys.getD (ys.length - 2) 0 ≤ z - ys.getD (ys.length - 1) 0) : Even (ys ++ [z]) := by
  intro i hi
  rw [List.length_append, List.length_singleton] at hi
  simp only [getD_app]
  by_cases h2 : i + 2 < ys.length
  · rw [if_pos (by omega), if_pos (by omega), if_pos h2]
    exact h i h2
  · have e : i + 2 = ys.length := by omega
    have := hd (by omega)
    rw [if_pos (by omega), if_pos (by omega), if_neg (by omega), if_pos e]
    rw [show ys.length - 1 = i + 1 by omega, show ys.length - 2 = i by omega] at this
    omega
theorem getD_mul (sc : Int) (ys : List Int) (i : Nat) : (ys.map fun y => sc * y).getD i 0 = sc * ys.getD i 0 := by
  rw [List.getD_eq_getElem?_getD, List.getD_eq_getElem?_getD, List.getElem?_map]
  cases ys[i]? with
  | none => show (0 : Int) = sc * 0; rw [Int.mul_zero]
  | some y => rfl
theorem even_mul {sc : Int} (h0 : 0 ≤ sc) {ys : List Int} (h : Even ys) : Even (ys.map fun y => sc * y) := by
  intro i hi
  rw [List.length_map] at hi
  have q := Int.mul_le_mul_of_nonneg_left (h i hi) h0
  simp only [getD_mul]
  rw [Int.mul_add, Int.mul_left_comm] at q
  exact q
/-- worths under way, without their scale: those told, the last of them, the next step -/
structure WI (i : Nat) (pre : List Int) (yl st : Int) : Prop where
  len : pre.length = i
  ev : Even (pre ++ [yl])
  bd : ∀ y ∈ pre ++ [yl], -(9 + 27 * (i : Int)) ≤ y ∧ y ≤ 9 + 27 * (i : Int)
  s1 : -6 ≤ st
  s2 : st ≤ 6 + 3 * (i : Int)
  df : 1 ≤ i → yl - pre.getD (i - 1) 0 ≤ st
theorem WI.next {i : Nat} {pre : List Int} {yl st u : Int} (w : WI i pre yl st) (h0 : 0 ≤ u) (h3 : u ≤ 3) (hi : i ≤ 6) : WI (i + 1) (pre ++ [yl]) (yl + st) (st + u) := by
  have hl := w.len
  have s1 := w.s1
  have s2 := w.s2
  have b0 := w.bd yl (by simp)
  refine ⟨by rw [List.length_append, hl]; rfl, even_app w.ev fun h2 => ?_, fun y hy => ?_, by omega, by omega, fun _ => ?_⟩
  · rw [List.length_append, List.length_singleton] at h2 ⊢
    have := w.df (by omega)
    rw [show pre.length + 1 - 1 = pre.length by omega, show pre.length + 1 - 2 = i - 1 by omega]
    simp only [getD_app, Nat.lt_irrefl, if_false, if_true]
    rw [if_pos (show i - 1 < pre.length by omega)]
    omega
  · rcases List.mem_append.mp hy with hy | hy
    · have := w.bd y hy
      omega
    · have e : y = yl + st := by simpa using hy
      omega
  · rw [show i + 1 - 1 = i by omega, getD_app, if_neg (by omega), if_pos hl.symm]
    omega
def spWorths : Sp := fun vs H Q _ => ∃ (dl : Addr) (ds : List Int) (sc : Int), vs = [.ref dl, .int sc] ∧ H dl = some (.lst (ds.map V.int)) ∧ 2 ≤ ds.length ∧ ds.length ≤ 9 ∧ 0 ≤ ds.getD 0 0 ∧ ds.getD 0 0 < 19 ∧ 0 ≤ ds.getD 1 0 ∧ ds.getD 1 0 < 13 ∧ (∀ x ∈ ds.drop 2, 0 ≤ x ∧ x ≤ 3) ∧ 1 ≤ sc ∧ sc ≤ 5000 ∧
  ∀ (wl : Addr) (ws : List Int) H', Same H H' → H wl = none → H' wl = some (.lst (ws.map V.int)) → RowOk 0 ws → ws.length ≤ 8 → Q (.ref wl) H'
theorem mul_small {sc y : Int} (h1 : 1 ≤ sc) (h2 : sc ≤ 5000) (h3 : -198 ≤ y) (h4 : y ≤ 198) : -1000000 ≤ sc * y ∧ sc * y ≤ 1000000 := by
  have a := Int.mul_le_mul_of_nonneg_left h3 (show (0 : Int) ≤ sc by omega)
  have b := Int.mul_le_mul_of_nonneg_left h4 (show (0 : Int) ≤ sc by omega)
  omega

theorem ok_law_worths (T : Txt K mg C)  (F : C8.Def K mg "_law_worths" s_law_worths f fd) (b : Binds K fd ["_law_digits", "_law_scale"] []) : C8.Cal P w K mg base 1 "_law_worths" spWorths [] := by
  refine C8.cal0 F b .nil sc_law_worths (fun vs H Q E h => ?_) (fun cdv A outer s H vs Q E hr h => ?_)
  · obtain ⟨dl, ds, sc, rfl, hd, l2, l9, a1, a2, b1, b2, h3, c1, c2, k⟩ := h
    rfl
  · obtain ⟨dl, ds, sc, rfl, hd, l2, l9, a1, a2, b1, b2, h3, c1, c2, k⟩ := h
    refine ⟨_, (pss_cons (ps_set (i := 2) sc_law_worths.nd rfl (Or.inl rfl) (pe_lst (pa_cons (pe_op op_mul (pv 1) (pe_op op_sub (pe_ix ix_list (pv 0) pe_int (fun _ _ => rfl)) pe_int)) pa_nil)))
    (pss_cons (ps_set (i := 3) sc_law_worths.nd rfl (Or.inl rfl) (pe_op op_sub (pe_ix ix_list (pv 0) pe_int (fun _ _ => rfl)) pe_int))
    (pss_cons (ps_for PassesOwn.never rfl (pi_list (pe_slice sl_list (pv 0) (po_some pe_int) po_none)) (pg_name (i := 4) sc_law_worths.nd rfl (Or.inl rfl)) (pss_cons (ps_expr (pe_bm PySem.F.plainAttrs_list PySem.F.slot_list_append PySem.F.type_list_append mt_append (pv 2) (pa_cons (pe_op op_add (pe_ix ix_list (pv 2) (pe_un un_neg pe_int) (fun _ _ => rfl)) (pe_op op_mul (pv 1) (pv 3))) pa_nil)))
    (pss_one (ps_set (i := 3) sc_law_worths.nd rfl (Or.inl rfl) (pe_op op_add (pv 3) (pv 4))))))
    (pss_one (ps_ret (pv 2)))))), ?_⟩
    have x0 := at_int (ws := ds) (i := 0) (by omega)
    have x1 := at_int (ws := ds) (i := 1) (by omega)
    refine ⟨_, rfl, _, rfl, _, _, _, _, rfl, rfl, .of hd, x0, _, _, rfl, rfl, _, _, rfl, rfl, .inl ⟨by omega, by omega⟩, (by show 1 ≤ sizeLine; decide), fun wl hw => ?_⟩
    have sm : ∀ xs, Same H (upd H wl (.lst xs)) := fun xs => Same.upd hw
    refine ⟨_, rfl, _, _, _, _, rfl, rfl, .of (sm _ _ _ hd), x1, _, _, rfl, rfl, ?_⟩
    refine ⟨_, rfl, _, rfl, _, _, rfl, .of (sm _ _ _ hd), fun tl ht => ?_⟩
    have ec : cutV (ds.map V.int) (some 2) none = (ds.drop 2).map V.int := by
      rw [show (some (2 : Int)) = some ((2 : Nat) : Int) from rfl, cut_from, List.map_drop]
    rw [ec]
    have nwt : wl ≠ tl := fun q => by rw [← q, upd_same] at ht; cases ht
    have ht0 : H tl = none := (sm _).free ht
    have hH : ∀ xs, Same H (upd (upd H wl (.lst xs)) tl (.lst ((ds.drop 2).map V.int))) := fun xs => (sm xs).trans (Same.upd (by rw [upd_ne nwt.symm]; exact ht0))
    have hcm : ∀ xs ys, upd (upd (upd H wl (.lst xs)) tl (.lst ((ds.drop 2).map V.int))) wl (.lst ys) = upd (upd H wl (.lst ys)) tl (.lst ((ds.drop 2).map V.int)) := fun xs ys => by
      funext b
      unfold upd
      by_cases h1 : b = wl
      · rw [if_pos h1, if_neg (by rw [h1]; exact nwt), if_pos h1]
      · simp only [if_neg h1]
    have e0 : sc * (ds.getD 0 0 - 9) = sc * (ds.getD 0 0 - 9) := rfl
    refine ⟨tl, rfl, ⟨_, .of upd_same⟩, for_list (K := K) (a := tl) (xs := (ds.drop 2).map V.int) (fun i σ H2 => ∃ (pre : List Int) (yl st : Int) (v : Option V), H2 = upd (upd H wl (.lst (((pre ++ [yl]).map fun y => sc * y).map V.int))) tl (.lst ((ds.drop 2).map V.int)) ∧ WI i pre yl st ∧ σ = [some (.ref dl), some (.int sc), some (.ref wl), some (.int st), v]) ⟨[], ds.getD 0 0 - 9, ds.getD 1 0 - 6, none, rfl, ⟨rfl, fun i hi => absurd hi (by simp), fun y hy => ?_, by omega, by omega, fun q => absurd q (by decide)⟩, rfl⟩ (fun i σ H2 _ ⟨pre, yl, st, v, e, _⟩ => by rw [e]; exact .of upd_same) ?_ ?_⟩
    · have e : y = ds.getD 0 0 - 9 := by simpa using hy
      omega
    · rintro i y σ H2 hi ⟨pre, yl, st, v, rfl, w, rfl⟩
      obtain ⟨u, hu, rfl⟩ := int_item hi
      have hiL : i < (ds.drop 2).length := (List.getElem?_eq_some_iff.mp hu).1
      have hu3 := h3 u (List.mem_of_getElem? hu)
      rw [List.length_drop] at hiL
      have w2 := w.next hu3.1 hu3.2 (by omega)
      have hwl : upd (upd H wl (.lst (((pre ++ [yl]).map fun y => sc * y).map V.int))) tl (.lst ((ds.drop 2).map V.int)) wl = some (.lst (((pre ++ [yl]).map fun y => sc * y).map V.int)) := by
        rw [upd_ne nwt]
        exact upd_same
      have xl : atI (((pre ++ [yl]).map fun y => sc * y).map V.int) (-1) = some (V.int (sc * yl)) := by
        rw [List.map_append, List.map_append]
        exact atI_last _ _
      have len9 : (((pre ++ [yl]).map fun y => sc * y).map V.int).length < sizeLine := by
        rw [List.length_map, List.length_map, List.length_append, w.len]
        exact small1000 (by rw [List.length_singleton]; omega)
      refine ⟨_, rfl, .inl ⟨rfl, _, .of hwl⟩, _, rfl, _, rfl, _, _, (-1 : Int), _, rfl, rfl, .of hwl, xl, _, rfl, _, rfl, _, _, rfl, rfl, .inl ⟨by omega, by omega⟩, _, _, rfl, rfl, _, _, _, rfl, rfl, hwl, len9, ?_⟩
      refine ⟨_, rfl, _, rfl, _, _, rfl, rfl, ?_⟩
      refine ⟨pre ++ [yl], yl + st, st + u, _, ?_, w2, rfl⟩
      rw [hcm]
      have e : ((pre ++ [yl]).map fun y => sc * y).map V.int ++ [V.int (sc * yl + sc * st)] = ((pre ++ [yl] ++ [yl + st]).map fun y => sc * y).map V.int := by
        rw [← Int.mul_add, List.map_append (l₁ := pre ++ [yl]), List.map_append (l₁ := (pre ++ [yl]).map fun y => sc * y)]
        rfl
      rw [← e]
    · rintro σ H2 ⟨pre, yl, st, v, rfl, w, rfl⟩
      rw [List.length_map, List.length_drop] at w
      have hl := w.len
      refine ⟨_, rfl, ?_⟩
      refine k wl ((pre ++ [yl]).map fun y => sc * y) _ (hH _) hw (by rw [upd_ne nwt]; exact upd_same) ⟨by unfold Rch; omega, by simp, by simp; omega, fun x hx => ?_, even_mul (by omega) w.ev⟩ (by simp; omega)
      obtain ⟨y, hy, rfl⟩ := List.mem_map.mp hx
      have := w.bd y hy
      exact mul_small c1 c2 (by omega) (by omega)

end
end Ev

namespace Ev
open PySem L2 Ax
section
variable {P : Program} {w : World} {K : PySem.W.Frag} {mg : Str → Option Value} {base : Heap} {C : Str → Addr} {f : Addr} {fd : FuncData}

structure DgOk (ds : List Int) : Prop where
  len : ds.length = 19
  d0 : 0 ≤ ds.getD 0 0
  d3 : 0 ≤ ds.getD 3 0 ∧ ds.getD 3 0 < 70
  d4 : 0 ≤ ds.getD 4 0 ∧ ds.getD 4 0 < 6
  d5 : 0 ≤ ds.getD 5 0 ∧ ds.getD 5 0 < 8
  d6 : 0 ≤ ds.getD 6 0 ∧ ds.getD 6 0 < 8
  d7 : 0 ≤ ds.getD 7 0 ∧ ds.getD 7 0 < 5
  d8 : 0 ≤ ds.getD 8 0 ∧ ds.getD 8 0 < 19
  d9 : 0 ≤ ds.getD 9 0 ∧ ds.getD 9 0 < 13
  dx : ∀ i : Nat, 10 ≤ i → i < 19 → 0 ≤ ds.getD i 0 ∧ ds.getD i 0 < 4
/-- its limits are near, and its weights are those of a part -/
def LimOk (b : PD) : Prop := ∀ y, b.limits.1 = some y ∨ b.limits.2 = some y → -30 ≤ y ∧ y ≤ 30
def slc (ds : List Int) (n : Nat) : List Int := (ds.drop 8).take n
theorem slc_ok {ds : List Int} (D : DgOk ds) {n : Nat} (h2 : 2 ≤ n) (h9 : n ≤ 9) : (slc ds n).length = n ∧ (slc ds n).getD 0 0 = ds.getD 8 0 ∧ (slc ds n).getD 1 0 = ds.getD 9 0 ∧ ∀ x ∈ (slc ds n).drop 2, 0 ≤ x ∧ x ≤ 3 := by
  have hl := D.len
  have key : ∀ i : Nat, i < n → (slc ds n)[i]? = ds[8 + i]? := fun i hi => by
    unfold slc
    rw [List.getElem?_take_of_lt hi, List.getElem?_drop]
  refine ⟨by unfold slc; rw [List.length_take, List.length_drop]; omega, ?_, ?_, fun x hx => ?_⟩
  · rw [List.getD_eq_getElem?_getD, List.getD_eq_getElem?_getD, key 0 (by omega)]
  · rw [List.getD_eq_getElem?_getD, List.getD_eq_getElem?_getD, key 1 (by omega)]
  · obtain ⟨i, hi⟩ := List.mem_iff_getElem?.mp hx
    rw [List.getElem?_drop] at hi
    have hn : 2 + i < n := by
      have := (List.getElem?_eq_some_iff.mp hi).1
      unfold slc at this
      rw [List.length_take, List.length_drop] at this
      omega
    rw [key _ hn] at hi
    have hb := D.dx (8 + (2 + i)) (by omega) (by omega)
    rw [List.getD_eq_getElem?_getD, hi] at hb
    exact ⟨hb.1, Int.le_of_lt_add_one hb.2⟩
theorem scale_at {d : Int} (h0 : 0 ≤ d) : ∃ sc : Int, atI [V.int 1, V.int 1, V.int 1, V.int 5000] (d % 4) = some (V.int sc) ∧ 1 ≤ sc ∧ sc ≤ 5000 := by
  have h1 : 0 ≤ d % 4 := Int.emod_nonneg _ (by decide)
  have h2 : d % 4 < 4 := Int.emod_lt_of_pos _ (by decide)
  generalize d % 4 = e at h1 h2
  have : e = 0 ∨ e = 1 ∨ e = 2 ∨ e = 3 := by omega
  rcases this with rfl | rfl | rfl | rfl
  · exact ⟨1, rfl, by decide, by decide⟩
  · exact ⟨1, rfl, by decide, by decide⟩
  · exact ⟨1, rfl, by decide, by decide⟩
  · exact ⟨5000, rfl, by decide, by decide⟩
theorem cut_slc (ds : List Int) (hl : ds.length = 19) {d : Int} (h0 : 0 ≤ d) (h8 : d < 8) : cutV (ds.map V.int) (some 8) (some (10 + d)) = (slc ds (2 + d.toNat)).map V.int := by
  rw [show (some (8 : Int)) = some ((8 : Nat) : Int) from rfl, show 10 + d = (((10 + d.toNat : Nat)) : Int) by omega, cut_mid _ _ _ (by omega) (by rw [List.length_map, hl]; decide)]
  unfold slc
  rw [show 10 + d.toNat - 8 = 2 + d.toNat by omega, ← List.map_drop, ← List.map_take]
theorem row_of {f : Int} {ws : List Int} (h : RowOk 0 ws) (hf : Rch f) : RowOk f ws := ⟨hf, h.l1, h.l2, h.wb, h.ev⟩
def spSingle : Sp := fun vs H Q _ => ∃ (dl : Addr) (ds : List Int) (bt p : Int), vs = [.ref dl, .int bt] ∧ H dl = some (.lst (ds.map V.int)) ∧ DgOk ds ∧ -10 ≤ bt ∧ bt ≤ 10 ∧ Plc p ∧
  ∀ (b : PD) (t nl : Addr) H', Same H H' → H t = none → H' t = some (.tup [.str b.word, .ref nl]) → NumAt H' b nl → b.base → b.stands = [p] → b.ok → LimOk b → Q (.ref t) H'
def spDouble : Sp := fun vs H Q _ => ∃ (dl : Addr) (ds : List Int) (o u : Int), vs = [.ref dl] ∧ H dl = some (.lst (ds.map V.int)) ∧ DgOk ds ∧ Plc o ∧ Plc u ∧ o ≠ u ∧
  ∀ (b : PD) (t nl : Addr) H', Same H H' → H t = none → H' t = some (.tup [.str b.word, .ref nl]) → NumAt H' b nl → b.base → b.stands = [o, u] → b.ok → LimOk b → Q (.ref t) H'
theorem lim_none {b : PD} (h1 : b.limits.1 = none) (h2 : b.limits.2 = none) : LimOk b := fun y h => by
  rcases h with h | h
  · rw [h1] at h; cases h
  · rw [h2] at h; cases h
theorem lim_two {b : PD} {x z : Int} (h1 : b.limits.1 = some x) (h2 : b.limits.2 = some z) (a : -30 ≤ x ∧ x ≤ 30) (c : -30 ≤ z ∧ z ≤ 30) : LimOk b := fun y h => by
  rcases h with h | h
  · rw [h1] at h; cases h; exact a
  · rw [h2] at h; cases h; exact c
theorem lim_up {b : PD} {z : Int} (h1 : b.limits.1 = none) (h2 : b.limits.2 = some z) (c : -30 ≤ z ∧ z ≤ 30) : LimOk b := fun y h => by
  rcases h with h | h
  · rw [h1] at h; cases h
  · rw [h2] at h; cases h; exact c

theorem ok_law_single (T : Txt K mg C) (c_law_worths : C8.Cal P w K mg base 1 "_law_worths" spWorths []) (F : C8.Def K mg "_law_single" s_law_single f fd) (b : Binds K fd ["_law_digits", "_law_bottom"] []) : C8.Cal P w K mg base 2 "_law_single" spSingle [] := by
  refine C8.cal0 F b .nil sc_law_single (fun vs H Q E h => ?_) (fun cdv A outer s H vs Q E hr h => ?_)
  · obtain ⟨dl, ds, bt, p, rfl, hd, D, hb1, hb2, hp, k⟩ := h
    rfl
  · obtain ⟨dl, ds, bt, p, rfl, hd, D, hb1, hb2, hp, k⟩ := h
    refine ⟨_, (pss_cons (ps_set (i := 2) sc_law_single.nd rfl (Or.inl rfl) (pe_op op_mod (pe_ix ix_list (pv 0) pe_int (fun _ _ => rfl)) pe_int))
    (pss_cons (ps_set (i := 3) sc_law_single.nd rfl (Or.inl rfl) (pe_op op_add (pe_op op_sub (pv 1) pe_int) (pe_ix ix_list (pv 0) pe_int (fun _ _ => rfl))))
    (pss_cons (ps_if (pt_cmpR op_eq (pv 2) pe_int (nomark _)) (pss_one (ps_ret (pe_tup (pa_cons pe_str (pa_cons (pe_lst (pa_cons (pe_op op_sub (pe_op op_mul pe_int (pe_ix ix_list (pv 0) pe_int (fun _ _ => rfl))) pe_int) pa_nil)) pa_nil))))) pss_nil)
    (pss_cons (ps_if (pt_cmpR op_eq (pv 2) pe_int (nomark _)) (pss_one (ps_ret (pe_tup (pa_cons pe_str (pa_cons (pe_lst (pa_cons (pv 3) (pa_cons (pe_ix ix_list (pv 0) pe_int (fun _ _ => rfl)) pa_nil))) pa_nil))))) pss_nil)
    (pss_cons (ps_if (pt_cmpR op_eq (pv 2) pe_int (nomark _)) (pss_one (ps_ret (pe_tup (pa_cons pe_str (pa_cons (pe_lst (pa_cons (pv 3) (pa_cons (pe_op op_mod (pe_ix ix_list (pv 0) pe_int (fun _ _ => rfl)) pe_int) pa_nil))) pa_nil))))) pss_nil)
    (pss_cons (ps_if (pt_cmpR op_eq (pv 2) pe_int (nomark _)) (pss_cons (ps_set (i := 4) sc_law_single.nd rfl (Or.inl rfl) (pe_ix ix_list (pe_lst (pa_cons pe_int (pa_cons pe_int (pa_cons pe_int (pa_cons pe_int pa_nil))))) (pe_op op_mod (pe_ix ix_list (pv 0) pe_int (fun _ _ => rfl)) pe_int) (fun _ _ => rfl)))
    (pss_one (ps_ret (pe_tup (pa_cons pe_str (pa_cons (pe_lst (pa_cons (pe_op op_add (pe_op op_sub (pv 1) pe_int) (pe_op op_mod (pe_ix ix_list (pv 0) pe_int (fun _ _ => rfl)) pe_int)) (pa_cons (C8.pe_c c_law_worths hr (by decide) rfl (pa_cons (pe_slice sl_list (pv 0) (po_some pe_int) (po_some (pe_op op_add pe_int (pe_ix ix_list (pv 0) pe_int (fun _ _ => rfl))))) (pa_cons (pv 4) pa_nil))) pa_nil))) pa_nil)))))) pss_nil)
    (pss_cons (ps_set (i := 5) sc_law_single.nd rfl (Or.inl rfl) (pe_op op_add (pe_op op_sub (pv 1) pe_int) (pe_op op_mod (pe_ix ix_list (pv 0) pe_int (fun _ _ => rfl)) pe_int)))
    (pss_one (ps_ret (pe_tup (pa_cons pe_str (pa_cons (pe_lst (pa_cons (pv 5) (pa_cons (pe_op op_add (pv 5) (pe_ix ix_list (pv 0) pe_int (fun _ _ => rfl))) pa_nil))) pa_nil)))))))))))), ?_⟩
    have x0 := at_int (ws := ds) (i := 0) (by have := D.len; omega)
    have x3 := at_int (ws := ds) (i := 3) (by have := D.len; omega)
    have x4 := at_int (ws := ds) (i := 4) (by have := D.len; omega)
    have x5 := at_int (ws := ds) (i := 5) (by have := D.len; omega)
    have x7 := at_int (ws := ds) (i := 7) (by have := D.len; omega)
    have x8 := at_int (ws := ds) (i := 8) (by have := D.len; omega)
    have x9 := at_int (ws := ds) (i := 9) (by have := D.len; omega)
    obtain ⟨a3, z3⟩ := D.d3
    obtain ⟨a4, z4⟩ := D.d4
    obtain ⟨a5, z5⟩ := D.d5
    obtain ⟨a7, z7⟩ := D.d7
    obtain ⟨a8, z8⟩ := D.d8
    obtain ⟨a9, z9⟩ := D.d9
    have q4 : 0 ≤ ds.getD 3 0 % 4 ∧ ds.getD 3 0 % 4 < 4 := ⟨Int.emod_nonneg _ (by decide), Int.emod_lt_of_pos _ (by decide)⟩
    have q3 : 0 ≤ ds.getD 4 0 % 3 ∧ ds.getD 4 0 % 3 < 3 := ⟨Int.emod_nonneg _ (by decide), Int.emod_lt_of_pos _ (by decide)⟩
    refine ⟨_, rfl, _, _, _, _, rfl, rfl, .of (hd), x0, _, _, rfl, rfl, (by show (0 : Int) < 5; decide), ?_⟩
    refine ⟨_, rfl, _, _, rfl, rfl, _, rfl, _, _, _, _, rfl, rfl, .of (hd), x3, _, _, rfl, rfl, ?_⟩
    refine ⟨_, rfl, rfl, _, rfl, ite2 (fun _ => ?_) (fun _ => ?_)⟩
    · refine ⟨_, rfl, _, _, _, _, rfl, rfl, .of (hd), x4, _, _, rfl, rfl, .inl ⟨by decide, by decide⟩, _, _, rfl, rfl, (by show 1 ≤ sizeLine; decide), fun nl hn => ⟨(by show 2 ≤ sizeLine; decide), fun t ht => ?_⟩⟩
      exact k (PD.slope p (2 * ds.getD 4 0 - 5)) t nl _ ((Same.upd hn).trans (Same.upd ht)) ((Same.upd hn).free ht) upd_same (Same.upd ht _ _ upd_same) True.intro rfl ⟨hp, by omega, by omega⟩ (lim_none rfl rfl)
    refine ⟨_, rfl, rfl, _, rfl, ite2 (fun _ => ?_) (fun _ => ?_)⟩
    · refine ⟨_, rfl, _, rfl, _, _, _, _, rfl, rfl, .of (hd), x4, (by show 2 ≤ sizeLine; decide), fun nl hn => ⟨(by show 2 ≤ sizeLine; decide), fun t ht => ?_⟩⟩
      exact k (PD.aim p (bt - 2 + ds.getD 3 0) (ds.getD 4 0)) t nl _ ((Same.upd hn).trans (Same.upd ht)) ((Same.upd hn).free ht) upd_same (Same.upd ht _ _ upd_same) True.intro rfl ⟨hp, by unfold Rch; omega, by omega, by omega⟩ (lim_none rfl rfl)
    refine ⟨_, rfl, rfl, _, rfl, ite2 (fun _ => ?_) (fun _ => ?_)⟩
    · refine ⟨_, rfl, _, rfl, _, _, _, _, rfl, rfl, .of (hd), x4, _, _, rfl, rfl, (by show (0 : Int) < 3; decide), (by show 2 ≤ sizeLine; decide), fun nl hn => ⟨(by show 2 ≤ sizeLine; decide), fun t ht => ?_⟩⟩
      exact k (PD.square p (bt - 2 + ds.getD 3 0) (ds.getD 4 0 % 3)) t nl _ ((Same.upd hn).trans (Same.upd ht)) ((Same.upd hn).free ht) upd_same (Same.upd ht _ _ upd_same) True.intro rfl ⟨hp, by unfold Rch; omega, by omega, by omega⟩ (lim_none rfl rfl)
    refine ⟨_, rfl, rfl, _, rfl, ite2 (fun _ => ?_) (fun _ => ?_)⟩
    · obtain ⟨sc, hsc, c1, c2⟩ := scale_at a7
      refine ⟨(by show 4 ≤ sizeLine; decide), fun m hm => ⟨_, rfl, _, _, _, _, rfl, rfl, .of (Same.upd hm _ _ hd), x7, _, _, rfl, rfl, (by show (0 : Int) < 4; decide), _, _, _, _, rfl, rfl, .of upd_same, hsc, ?_⟩⟩
      have hd1 := Same.upd (o := .lst [V.int 1, V.int 1, V.int 1, V.int 5000]) hm _ _ hd
      have s1 : Same H _ := Same.upd (o := .lst [V.int 1, V.int 1, V.int 1, V.int 5000]) hm
      generalize upd H m (.lst [V.int 1, V.int 1, V.int 1, V.int 5000]) = H1 at hd1 s1 ⊢
      refine ⟨_, rfl, _, _, rfl, rfl, _, rfl, _, _, _, _, rfl, rfl, .of (hd1), x3, _, _, rfl, rfl, (by show (0 : Int) < 4; decide), _, _, rfl, rfl, _, rfl, _, rfl, _, rfl, _, _, _, _, rfl, rfl, .of (hd1), x5, _, _, rfl, rfl, _, rfl, _, _, rfl, .of hd1, fun q hq => ?_⟩
      rw [cut_slc ds D.len a5 z5]
      obtain ⟨g1, g2, g3, g4⟩ := slc_ok D (n := 2 + (ds.getD 5 0).toNat) (by omega) (by omega)
      refine ⟨_, rfl, q, slc ds (2 + (ds.getD 5 0).toNat), sc, rfl, upd_same, by omega, by omega, by omega, by omega, by omega, by omega, g4, c1, c2, fun wl ws H2 s2 hw ew rw8 l8 => ?_⟩
      have s3 : Same H H2 := s1.trans ((Same.upd hq).trans s2)
      refine ⟨(by show 2 ≤ sizeLine; decide), fun nl hnl => ⟨(by show 2 ≤ sizeLine; decide), fun t ht => ?_⟩⟩
      have s4 : Same H2 _ := Same.upd (o := .lst [V.int (bt - 2 + ds.getD 3 0 % 4), V.ref wl]) hnl
      have e4 : upd H2 nl (.lst [V.int (bt - 2 + ds.getD 3 0 % 4), V.ref wl]) nl = some _ := upd_same
      generalize upd H2 nl (.lst [V.int (bt - 2 + ds.getD 3 0 % 4), V.ref wl]) = H3 at s4 e4 ht ⊢
      have s5 : Same H3 _ := Same.upd (o := .tup [V.str "row", V.ref nl]) ht
      have l1 := rw8.l1
      exact k (PD.row p (bt - 2 + ds.getD 3 0 % 4) ws) t nl _ (s3.trans (s4.trans s5)) ((s3.trans s4).free ht) upd_same ⟨wl, s5 _ _ e4, s5 _ _ (s4 _ _ ew)⟩ True.intro rfl ⟨hp, row_of rw8 (by unfold Rch; omega)⟩ (lim_two rfl rfl ⟨by omega, by omega⟩ ⟨by omega, by omega⟩)
    refine ⟨_, rfl, _, _, rfl, rfl, _, rfl, _, _, _, _, rfl, rfl, .of (hd), x3, _, _, rfl, rfl, (by show (0 : Int) < 4; decide), _, _, rfl, rfl, ?_⟩
    refine ⟨_, rfl, _, rfl, _, rfl, _, _, _, _, rfl, rfl, .of (hd), x5, _, _, rfl, rfl, (by show 2 ≤ sizeLine; decide), fun nl hn => ⟨(by show 2 ≤ sizeLine; decide), fun t ht => ?_⟩⟩
    exact k (PD.wall p (bt - 1 + ds.getD 3 0 % 4) (bt - 1 + ds.getD 3 0 % 4 + ds.getD 5 0)) t nl _ ((Same.upd hn).trans (Same.upd ht)) ((Same.upd hn).free ht) upd_same (Same.upd ht _ _ upd_same) True.intro rfl ⟨hp, by unfold Rch; omega, by unfold Rch; omega, by omega⟩ (lim_two rfl rfl ⟨by omega, by omega⟩ ⟨by omega, by omega⟩)

theorem ok_law_double (T : Txt K mg C) (c_law_worths : C8.Cal P w K mg base 1 "_law_worths" spWorths []) (F : C8.Def K mg "_law_double" s_law_double f fd) (b : Binds K fd ["_law_digits"] []) : C8.Cal P w K mg base 2 "_law_double" spDouble [] := by
  refine C8.cal0 F b .nil sc_law_double (fun vs H Q E h => ?_) (fun cdv A outer s H vs Q E hr h => ?_)
  · obtain ⟨dl, ds, o, u, rfl, hd, D, ho, hu, hou, k⟩ := h
    rfl
  · obtain ⟨dl, ds, o, u, rfl, hd, D, ho, hu, hou, k⟩ := h
    refine ⟨_, (pss_cons (ps_set (i := 1) sc_law_double.nd rfl (Or.inl rfl) (pe_op op_mod (pe_ix ix_list (pv 0) pe_int (fun _ _ => rfl)) pe_int))
    (pss_cons (ps_if (pt_cmpR op_lt (pv 1) pe_int (nomark _)) (pss_one (ps_ret (pe_tup (pa_cons pe_str (pa_cons (pe_lst (pa_cons (pe_op op_sub (pe_op op_mod (pe_ix ix_list (pv 0) pe_int (fun _ _ => rfl)) pe_int) pe_int) (pa_cons (pe_ix ix_list (pv 0) pe_int (fun _ _ => rfl)) pa_nil))) pa_nil))))) pss_nil)
    (pss_cons (ps_if (pt_cmpR op_lt (pv 1) pe_int (nomark _)) (pss_cons (ps_set (i := 2) sc_law_double.nd rfl (Or.inl rfl) (pe_ix ix_list (pe_lst (pa_cons pe_int (pa_cons pe_int (pa_cons pe_int (pa_cons pe_int pa_nil))))) (pe_op op_mod (pe_ix ix_list (pv 0) pe_int (fun _ _ => rfl)) pe_int) (fun _ _ => rfl)))
    (pss_one (ps_ret (pe_tup (pa_cons pe_str (pa_cons (pe_lst (pa_cons (pe_op op_sub (pe_op op_mod (pe_ix ix_list (pv 0) pe_int (fun _ _ => rfl)) pe_int) pe_int) (pa_cons (C8.pe_c c_law_worths hr (by decide) rfl (pa_cons (pe_slice sl_list (pv 0) (po_some pe_int) (po_some (pe_op op_add pe_int (pe_ix ix_list (pv 0) pe_int (fun _ _ => rfl))))) (pa_cons (pv 2) pa_nil))) pa_nil))) pa_nil)))))) pss_nil)
    (pss_one (ps_ret (pe_tup (pa_cons pe_str (pa_cons (pe_lst (pa_cons (pe_op op_sub (pe_op op_mod (pe_ix ix_list (pv 0) pe_int (fun _ _ => rfl)) pe_int) pe_int) pa_nil)) pa_nil)))))))), ?_⟩
    have x0 := at_int (ws := ds) (i := 0) (by have := D.len; omega)
    have x3 := at_int (ws := ds) (i := 3) (by have := D.len; omega)
    have x4 := at_int (ws := ds) (i := 4) (by have := D.len; omega)
    have x5 := at_int (ws := ds) (i := 5) (by have := D.len; omega)
    have x7 := at_int (ws := ds) (i := 7) (by have := D.len; omega)
    have x8 := at_int (ws := ds) (i := 8) (by have := D.len; omega)
    have x9 := at_int (ws := ds) (i := 9) (by have := D.len; omega)
    obtain ⟨a3, z3⟩ := D.d3
    obtain ⟨a4, z4⟩ := D.d4
    obtain ⟨a5, z5⟩ := D.d5
    obtain ⟨a7, z7⟩ := D.d7
    obtain ⟨a8, z8⟩ := D.d8
    obtain ⟨a9, z9⟩ := D.d9
    have q7 : 0 ≤ ds.getD 3 0 % 7 ∧ ds.getD 3 0 % 7 < 7 := ⟨Int.emod_nonneg _ (by decide), Int.emod_lt_of_pos _ (by decide)⟩
    have q5 : 0 ≤ ds.getD 3 0 % 5 ∧ ds.getD 3 0 % 5 < 5 := ⟨Int.emod_nonneg _ (by decide), Int.emod_lt_of_pos _ (by decide)⟩
    refine ⟨_, rfl, _, _, _, _, rfl, rfl, .of (hd), x0, _, _, rfl, rfl, (by show (0 : Int) < 6; decide), ?_⟩
    refine ⟨_, rfl, _, _, rfl, rfl, _, rfl, ite2 (fun _ => ?_) (fun _ => ?_)⟩
    · refine ⟨_, rfl, _, _, _, _, rfl, rfl, .of (hd), x3, _, _, rfl, rfl, (by show (0 : Int) < 7; decide), _, _, rfl, rfl, _, rfl, _, _, _, _, rfl, rfl, .of (hd), x4, (by show 2 ≤ sizeLine; decide), fun nl hn => ⟨(by show 2 ≤ sizeLine; decide), fun t ht => ?_⟩⟩
      exact k (PD.near o u (ds.getD 3 0 % 7 - 3) (ds.getD 4 0)) t nl _ ((Same.upd hn).trans (Same.upd ht)) ((Same.upd hn).free ht) upd_same (Same.upd ht _ _ upd_same) True.intro rfl ⟨ho, hu, hou, by unfold Rch; omega, by omega, by omega⟩ (lim_none rfl rfl)
    refine ⟨_, rfl, _, _, rfl, rfl, _, rfl, ite2 (fun _ => ?_) (fun _ => ?_)⟩
    · obtain ⟨sc, hsc, c1, c2⟩ := scale_at a7
      refine ⟨(by show 4 ≤ sizeLine; decide), fun m hm => ⟨_, rfl, _, _, _, _, rfl, rfl, .of (Same.upd hm _ _ hd), x7, _, _, rfl, rfl, (by show (0 : Int) < 4; decide), _, _, _, _, rfl, rfl, .of upd_same, hsc, ?_⟩⟩
      have hd1 := Same.upd (o := .lst [V.int 1, V.int 1, V.int 1, V.int 5000]) hm _ _ hd
      have s1 : Same H _ := Same.upd (o := .lst [V.int 1, V.int 1, V.int 1, V.int 5000]) hm
      generalize upd H m (.lst [V.int 1, V.int 1, V.int 1, V.int 5000]) = H1 at hd1 s1 ⊢
      refine ⟨_, rfl, _, _, _, _, rfl, rfl, .of (hd1), x3, _, _, rfl, rfl, (by show (0 : Int) < 5; decide), _, _, rfl, rfl, _, rfl, _, rfl, _, rfl, _, _, _, _, rfl, rfl, .of (hd1), x5, _, _, rfl, rfl, _, rfl, _, _, rfl, .of hd1, fun q hq => ?_⟩
      rw [cut_slc ds D.len a5 z5]
      obtain ⟨g1, g2, g3, g4⟩ := slc_ok D (n := 2 + (ds.getD 5 0).toNat) (by omega) (by omega)
      refine ⟨_, rfl, q, slc ds (2 + (ds.getD 5 0).toNat), sc, rfl, upd_same, by omega, by omega, by omega, by omega, by omega, by omega, g4, c1, c2, fun wl ws H2 s2 hw ew rw8 l8 => ?_⟩
      have s3 : Same H H2 := s1.trans ((Same.upd hq).trans s2)
      refine ⟨(by show 2 ≤ sizeLine; decide), fun nl hnl => ⟨(by show 2 ≤ sizeLine; decide), fun t ht => ?_⟩⟩
      have s4 : Same H2 _ := Same.upd (o := .lst [V.int (ds.getD 3 0 % 5 - 4), V.ref wl]) hnl
      have e4 : upd H2 nl (.lst [V.int (ds.getD 3 0 % 5 - 4), V.ref wl]) nl = some _ := upd_same
      generalize upd H2 nl (.lst [V.int (ds.getD 3 0 % 5 - 4), V.ref wl]) = H3 at s4 e4 ht ⊢
      have s5 : Same H3 _ := Same.upd (o := .tup [V.str "gaps", V.ref nl]) ht
      have l1 := rw8.l1
      exact k (PD.gaps o u (ds.getD 3 0 % 5 - 4) ws) t nl _ (s3.trans (s4.trans s5)) ((s3.trans s4).free ht) upd_same ⟨wl, s5 _ _ e4, s5 _ _ (s4 _ _ ew)⟩ True.intro rfl ⟨ho, hu, hou, row_of rw8 (by unfold Rch; omega)⟩ (lim_two rfl rfl ⟨by omega, by omega⟩ ⟨by omega, by omega⟩)
    refine ⟨_, rfl, _, _, _, _, rfl, rfl, .of (hd), x3, _, _, rfl, rfl, (by show (0 : Int) < 7; decide), _, _, rfl, rfl, (by show 1 ≤ sizeLine; decide), fun nl hn => ⟨(by show 2 ≤ sizeLine; decide), fun t ht => ?_⟩⟩
    exact k (PD.ahead o u (ds.getD 3 0 % 7 - 2)) t nl _ ((Same.upd hn).trans (Same.upd ht)) ((Same.upd hn).free ht) upd_same (Same.upd ht _ _ upd_same) True.intro rfl ⟨ho, hu, hou, by unfold Rch; omega⟩ (lim_up rfl rfl ⟨by omega, by omega⟩)

end
end Ev

namespace Ev
open PySem L2 Ax
section
variable {P : Program} {w : World} {K : PySem.W.Frag} {mg : Str → Option Value} {base : Heap} {C : Str → Addr} {f : Addr} {fd : FuncData}

theorem wrAt0 {H : Hp} {a : Addr} (h : H a = some (.lst [])) : WrAt H [] a [] := ⟨h, rfl, fun i w v e _ => by simp at e⟩
theorem wrAt_cons {H : Hp} {a a' : Addr} {w : Bool × Int} {wr : Wr} {v : V} {vs : List V} (h : H a = some (.lst (v :: vs))) (h1 : wrV H w v) (l : vs.length = wr.length) (h2 : ∀ (i : Nat) (w : Bool × Int) (v : V), wr[i]? = some w → vs[i]? = some v → wrV H w v) : WrAt H (w :: wr) a (v :: vs) := by
  refine ⟨h, by rw [List.length_cons, List.length_cons, l], fun i w' v' e1 e2 => ?_⟩
  cases i with
  | zero =>
    simp at e1 e2
    subst e1 e2
    exact h1
  | succ i => exact h2 i w' v' (by simpa using e1) (by simpa using e2)
theorem nilW {H : Hp} : ∀ (i : Nat) (w : Bool × Int) (v : V), ([] : Wr)[i]? = some w → ([] : List V)[i]? = some v → wrV H w v := fun i w v e _ => by simp at e
theorem consW {H : Hp} {w : Bool × Int} {wr : Wr} {v : V} {vs : List V} (h1 : wrV H w v) (h2 : ∀ (i : Nat) (w : Bool × Int) (v : V), wr[i]? = some w → vs[i]? = some v → wrV H w v) : ∀ (i : Nat) (w' : Bool × Int) (v' : V), (w :: wr)[i]? = some w' → (v :: vs)[i]? = some v' → wrV H w' v' := fun i w' v' e1 e2 => by
  cases i with
  | zero =>
    simp at e1 e2
    subst e1 e2
    exact h1
  | succ i => exact h2 i w' v' (by simpa using e1) (by simpa using e2)
theorem Same.updN {H H1 : Hp} {p : Addr} {o : HO} (s : Same H H1) (h : H p = none) : Same H (L2.upd H1 p o) := fun b u e => by
  rw [upd_ne (ne_of_none e h)]
  exact s b u e
theorem getD_set0 {ds : List Int} {x : Int} {i : Nat} (h : i ≠ 0) : (ds.set 0 x).getD i 0 = ds.getD i 0 := by
  rw [List.getD_eq_getElem?_getD, List.getD_eq_getElem?_getD, List.getElem?_set_ne (Ne.symm h)]
theorem DgOk.set {ds : List Int} (D : DgOk ds) {x : Int} (h : 0 ≤ x) : DgOk (ds.set 0 x) := by
  refine ⟨by rw [List.length_set]; exact D.len, ?_, by rw [getD_set0 (by decide)]; exact D.d3, by rw [getD_set0 (by decide)]; exact D.d4, by rw [getD_set0 (by decide)]; exact D.d5, by rw [getD_set0 (by decide)]; exact D.d6, by rw [getD_set0 (by decide)]; exact D.d7, by rw [getD_set0 (by decide)]; exact D.d8, by rw [getD_set0 (by decide)]; exact D.d9, fun i h1 h2 => by rw [getD_set0 (by omega)]; exact D.dx i h1 h2⟩
  have hl := D.len
  rw [List.getD_eq_getElem?_getD, List.getElem?_set_self (by omega)]
  exact h
theorem other_place {m a d : Int} (hm : 1 < m) (h0 : 0 ≤ a) (h1 : a < m) (h2 : 0 ≤ d) (h3 : d < m - 1) : 0 ≤ (a + 1 + d) % m ∧ (a + 1 + d) % m < m ∧ a ≠ (a + 1 + d) % m := by
  refine ⟨Int.emod_nonneg _ (by omega), Int.emod_lt_of_pos _ (by omega), ?_⟩
  by_cases h : a + 1 + d < m
  · rw [Int.emod_eq_of_lt (by omega) h]
    omega
  · have e : a + 1 + d = (a + 1 + d - m) + m * 1 := by omega
    rw [e, Int.add_mul_emod_self_left, Int.emod_eq_of_lt (by omega) (by omega)]
    omega
/-- the wraps that the law draws -/
def WrGood (wr : Wr) : Prop := WrOk wr ∧ wr.length ≤ 3 ∧ ∀ w ∈ wr, w.1 = false → -3 ≤ w.2 ∧ w.2 ≤ 3
def spPart : Sp := fun vs H Q _ => ∃ c many bt tp : Int, vs = [.int c, .int many, .int bt, .int tp] ∧ 1 ≤ many ∧ many ≤ 8 ∧ -10 ≤ bt ∧ bt ≤ 0 ∧ bt ≤ tp ∧ tp ≤ 50 ∧
  ∀ (b : PD) (wr : Wr) (a wl nl rl : Addr) (ws : List V) H', Same H H' → LAt H' b wr a wl nl rl ws → b.ok → WrGood wr → LimOk b → (∀ p ∈ b.stands, p < many) → Q (.ref a) H'
def bndL (many bt tp : Int) : List Int := [30, many, (if many - 1 > 1 then many - 1 else 1), tp - bt + 5, 6, 8, 8, 5, 19, 13, 4, 4, 4, 4, 4, 4, 4, 4, 4]

theorem ok_law_part (T : Txt K mg C) (c_law_numbers : C8.Cal P w K mg base 1 "_law_numbers" spNumbers []) (c_law_single : C8.Cal P w K mg base 2 "_law_single" spSingle []) (c_law_double : C8.Cal P w K mg base 2 "_law_double" spDouble []) (F : C8.Def K mg "_law_part" s_law_part f fd) (b : Binds K fd ["_law_cell", "_law_many", "_law_bottom", "_law_top"] []) : C8.Cal P w K mg base 3 "_law_part" spPart [] := by
  refine C8.cal0 F b .nil sc_law_part (fun vs H Q E h => ?_) (fun cdv A outer s H vs Q E hr h => ?_)
  · obtain ⟨c, many, bt, tp, rfl, hm1, hm8, hbt1, hbt0, htp, htp5, k⟩ := h
    rfl
  · obtain ⟨c, many, bt, tp, rfl, hm1, hm8, hbt1, hbt0, htp, htp5, k⟩ := h
    refine ⟨_, (pss_cons (ps_set (i := 4) sc_law_part.nd rfl (Or.inl rfl) (pe_op op_cat (pe_op op_cat (pe_lst (pa_cons pe_int (pa_cons (pv 1) (pa_cons (pe_callB (call_max2 rfl) (by rfl) T.b_max (by decide +kernel) (pa_cons pe_int (pa_cons (pe_op op_sub (pv 1) pe_int) pa_nil))) (pa_cons (pe_op op_add (pe_op op_sub (pv 3) (pv 2)) pe_int) (pa_cons pe_int (pa_cons pe_int (pa_cons pe_int (pa_cons pe_int pa_nil))))))))) (pe_lst (pa_cons pe_int (pa_cons pe_int pa_nil)))) (pe_op op_rep (pe_lst (pa_cons pe_int pa_nil)) pe_int)))
    (pss_cons (ps_set (i := 5) sc_law_part.nd rfl (Or.inl rfl) (C8.pe_c c_law_numbers hr (by decide) rfl (pa_cons (pv 0) (pa_cons (pv 4) pa_nil))))
    (pss_cons (ps_set (i := 6) sc_law_part.nd rfl (Or.inl rfl) (pe_lst (pa_cons (pe_ix ix_list (pv 5) pe_int (fun _ _ => rfl)) pa_nil)))
    (C8.pss_cut (ps_if (PW.pt (pw_and (pt_cmpR op_gt (pv 1) pe_int (nomark _)) (pw_and1 (pt_cmpR op_eq (pe_op op_mod (pe_ix ix_list (pv 5) pe_int (fun _ _ => rfl)) pe_int) pe_int (nomark _))))) (pss_cons (ps_expr (pe_bm PySem.F.plainAttrs_list PySem.F.slot_list_append PySem.F.type_list_append mt_append (pv 6) (pa_cons (pe_op op_mod (pe_op op_add (pe_op op_add (pe_ix ix_list (pv 5) pe_int (fun _ _ => rfl)) pe_int) (pe_ix ix_list (pv 5) pe_int (fun _ _ => rfl))) (pv 1)) pa_nil)))
    (pss_cons (ps_asg (pe_op op_fdiv (pe_ix ix_list (pv 5) pe_int (fun _ _ => rfl)) pe_int) (pg_sub (pv 5) pe_int set_list))
    (pss_one (ps_asg (C8.pe_c c_law_double hr (by decide) rfl (pa_cons (pv 5) pa_nil)) (pg_tup (by rfl) (pgs_cons (pg_name (i := 7) sc_law_part.nd rfl (Or.inl rfl)) (pgs_cons (pg_name (i := 8) sc_law_part.nd rfl (Or.inl rfl)) pgs_nil))))))) (pss_cons (ps_asg (pe_op op_fdiv (pe_ix ix_list (pv 5) pe_int (fun _ _ => rfl)) pe_int) (pg_sub (pv 5) pe_int set_list))
    (pss_one (ps_asg (C8.pe_c c_law_single hr (by decide) rfl (pa_cons (pv 5) (pa_cons (pv 2) pa_nil))) (pg_tup (by rfl) (pgs_cons (pg_name (i := 7) sc_law_part.nd rfl (Or.inl rfl)) (pgs_cons (pg_name (i := 8) sc_law_part.nd rfl (Or.inl rfl)) pgs_nil))))))) (pss_cons (ps_set (i := 9) sc_law_part.nd rfl (Or.inl rfl) (pe_op op_sub (pe_ix ix_list (pv 5) pe_int (fun _ _ => rfl)) pe_int))
    (pss_cons (ps_set (i := 10) sc_law_part.nd rfl (Or.inl rfl) (pe_lst (pa_cons (pe_lst pa_nil) (pa_cons (pe_lst pa_nil) (pa_cons (pe_lst pa_nil) (pa_cons (pe_lst (pa_cons (pe_tup (pa_cons pe_str (pa_cons (pe_op op_add pe_int (pe_op op_mul (pe_ix ix_list (pv 5) pe_int (fun _ _ => rfl)) (pe_ix ix_list (pv 5) pe_int (fun _ _ => rfl)))) pa_nil))) pa_nil)) (pa_cons (pe_lst (pa_cons (pe_tup (pa_cons pe_str (pa_cons (pv 9) pa_nil))) pa_nil)) (pa_cons (pe_lst (pa_cons (pe_tup (pa_cons pe_str (pa_cons pe_int pa_nil))) (pa_cons (pe_tup (pa_cons pe_str (pa_cons (pv 9) pa_nil))) pa_nil))) pa_nil))))))))
    (pss_cons (ps_set (i := 10) sc_law_part.nd rfl (Or.inl rfl) (pe_op op_cat (pv 10) (pe_lst (pa_cons (pe_lst (pa_cons (pe_tup (pa_cons pe_str (pa_cons (pv 9) pa_nil))) (pa_cons (pe_tup (pa_cons pe_str (pa_cons pe_int pa_nil))) pa_nil))) (pa_cons (pe_lst (pa_cons (pe_tup (pa_cons pe_str (pa_cons (pe_un un_neg pe_int) pa_nil))) (pa_cons (pe_tup (pa_cons pe_str (pa_cons pe_int pa_nil))) (pa_cons (pe_tup (pa_cons pe_str (pa_cons pe_int pa_nil))) pa_nil)))) pa_nil)))))
    (pss_one (ps_ret (pe_tup (pa_cons (pv 7) (pa_cons (pv 6) (pa_cons (pv 8) (pa_cons (pe_ix ix_list (pv 10) (pe_ix ix_list (pv 5) pe_int (fun _ _ => rfl)) (fun _ _ => rfl)) pa_nil)))))))))))))), ?_⟩
    refine ⟨_, rfl, _, rfl, _, _, rfl, rfl, _, _, rfl, _, rfl, _, rfl, _, _, rfl, rfl, _, _, rfl, rfl, (by show 8 ≤ sizeLine; decide), fun A1 hA1 => ?_⟩
    have sA1 : Same H _ := Same.upd (o := .lst [V.int 30, V.int many, V.int (if many - 1 > 1 then many - 1 else 1), V.int (tp - bt + 5), V.int 6, V.int 8, V.int 8, V.int 5]) hA1
    have eA1 : upd H A1 (.lst [V.int 30, V.int many, V.int (if many - 1 > 1 then many - 1 else 1), V.int (tp - bt + 5), V.int 6, V.int 8, V.int 8, V.int 5]) A1 = some (.lst [V.int 30, V.int many, V.int (if many - 1 > 1 then many - 1 else 1), V.int (tp - bt + 5), V.int 6, V.int 8, V.int 8, V.int 5]) := upd_same
    generalize upd H A1 (.lst [V.int 30, V.int many, V.int (if many - 1 > 1 then many - 1 else 1), V.int (tp - bt + 5), V.int 6, V.int 8, V.int 8, V.int 5]) = HA1 at sA1 eA1 ⊢
    refine ⟨(by show 2 ≤ sizeLine; decide), fun A2 hA2 => ?_⟩
    have sA2 : Same HA1 _ := Same.upd (o := .lst [V.int 19, V.int 13]) hA2
    have eA2 : upd HA1 A2 (.lst [V.int 19, V.int 13]) A2 = some (.lst [V.int 19, V.int 13]) := upd_same
    generalize upd HA1 A2 (.lst [V.int 19, V.int 13]) = HA2 at sA2 eA2 ⊢
    refine ⟨_, _, _, _, rfl, rfl, (sA2 _ _ eA1), ((Same.refl _) _ _ eA2), (by show 10 ≤ sizeLine; decide), fun A3 hA3 => ?_⟩
    have sA3 : Same HA2 _ := Same.upd (o := .lst ([V.int 30, V.int many, V.int (if many - 1 > 1 then many - 1 else 1), V.int (tp - bt + 5), V.int 6, V.int 8, V.int 8, V.int 5] ++ [V.int 19, V.int 13])) hA3
    have eA3 : upd HA2 A3 (.lst ([V.int 30, V.int many, V.int (if many - 1 > 1 then many - 1 else 1), V.int (tp - bt + 5), V.int 6, V.int 8, V.int 8, V.int 5] ++ [V.int 19, V.int 13])) A3 = some (.lst ([V.int 30, V.int many, V.int (if many - 1 > 1 then many - 1 else 1), V.int (tp - bt + 5), V.int 6, V.int 8, V.int 8, V.int 5] ++ [V.int 19, V.int 13])) := upd_same
    generalize upd HA2 A3 (.lst ([V.int 30, V.int many, V.int (if many - 1 > 1 then many - 1 else 1), V.int (tp - bt + 5), V.int 6, V.int 8, V.int 8, V.int 5] ++ [V.int 19, V.int 13])) = HA3 at sA3 eA3 ⊢
    refine ⟨(by show 1 ≤ sizeLine; decide), fun A4 hA4 => ?_⟩
    have sA4 : Same HA3 _ := Same.upd (o := .lst [V.int 4]) hA4
    have eA4 : upd HA3 A4 (.lst [V.int 4]) A4 = some (.lst [V.int 4]) := upd_same
    generalize upd HA3 A4 (.lst [V.int 4]) = HA4 at sA4 eA4 ⊢
    refine ⟨_, _, _, rfl, rfl, ((Same.refl _) _ _ eA4), by decide, by decide, (by show 9 ≤ sizeLine; decide), fun A5 hA5 => ?_⟩
    have sA5 : Same HA4 _ := Same.upd (o := .lst (List.replicate (9 : Int).toNat [V.int 4]).flatten) hA5
    have eA5 : upd HA4 A5 (.lst (List.replicate (9 : Int).toNat [V.int 4]).flatten) A5 = some (.lst (List.replicate (9 : Int).toNat [V.int 4]).flatten) := upd_same
    generalize upd HA4 A5 (.lst (List.replicate (9 : Int).toNat [V.int 4]).flatten) = HA5 at sA5 eA5 ⊢
    refine ⟨_, _, _, _, rfl, rfl, ((sA4.trans sA5) _ _ eA3), ((Same.refl _) _ _ eA5), (by show 19 ≤ sizeLine; decide), fun A6 hA6 => ?_⟩
    have sA6 : Same HA5 _ := Same.upd (o := .lst (([V.int 30, V.int many, V.int (if many - 1 > 1 then many - 1 else 1), V.int (tp - bt + 5), V.int 6, V.int 8, V.int 8, V.int 5] ++ [V.int 19, V.int 13]) ++ (List.replicate (9 : Int).toNat [V.int 4]).flatten)) hA6
    have eA6 : upd HA5 A6 (.lst (([V.int 30, V.int many, V.int (if many - 1 > 1 then many - 1 else 1), V.int (tp - bt + 5), V.int 6, V.int 8, V.int 8, V.int 5] ++ [V.int 19, V.int 13]) ++ (List.replicate (9 : Int).toNat [V.int 4]).flatten)) A6 = some (.lst (([V.int 30, V.int many, V.int (if many - 1 > 1 then many - 1 else 1), V.int (tp - bt + 5), V.int 6, V.int 8, V.int 8, V.int 5] ++ [V.int 19, V.int 13]) ++ (List.replicate (9 : Int).toNat [V.int 4]).flatten)) := upd_same
    generalize upd HA5 A6 (.lst (([V.int 30, V.int many, V.int (if many - 1 > 1 then many - 1 else 1), V.int (tp - bt + 5), V.int 6, V.int 8, V.int 8, V.int 5] ++ [V.int 19, V.int 13]) ++ (List.replicate (9 : Int).toNat [V.int 4]).flatten)) = HA6 at sA6 eA6 ⊢
    have eb : HA6 A6 = some (.lst ((bndL many bt tp).map V.int)) := eA6
    refine ⟨_, rfl, _, rfl, c, A6, bndL many bt tp, rfl, eb, fun b hb => ?_, (by show 19 ≤ 40; decide), fun dl ds HD sD hdl eD lD BD => ?_⟩
    · unfold bndL at hb
      simp only [List.mem_cons, List.not_mem_nil, or_false] at hb
      rcases hb with rfl | rfl | rfl | rfl | rfl | rfl | rfl | rfl | rfl | rfl | rfl | rfl | rfl | rfl | rfl | rfl | rfl | rfl | rfl <;> first | decide | (split <;> omega) | omega
    have sH : Same H HD := (((((sA1.trans sA2).trans sA3).trans sA4).trans sA5).trans sA6).trans sD
    have ndl : H dl = none := (((((sA1.trans sA2).trans sA3).trans sA4).trans sA5).trans sA6).free hdl
    have B : ∀ (i : Nat) (x : Int), i < 19 → (bndL many bt tp).getD i 0 = x → 0 ≤ ds.getD i 0 ∧ ds.getD i 0 < x := fun i x hi e => by rw [← e]; exact BD i hi
    have D : DgOk ds := ⟨lD, (B 0 30 (by decide) rfl).1, by have := B 3 (tp - bt + 5) (by decide) rfl; omega, B 4 6 (by decide) rfl, B 5 8 (by decide) rfl, B 6 8 (by decide) rfl, B 7 5 (by decide) rfl, B 8 19 (by decide) rfl, B 9 13 (by decide) rfl, fun i h1 h2 => B i 4 h2 ?_⟩
    rotate_left
    · have : i = 10 ∨ i = 11 ∨ i = 12 ∨ i = 13 ∨ i = 14 ∨ i = 15 ∨ i = 16 ∨ i = 17 ∨ i = 18 := by omega
      rcases this with rfl | rfl | rfl | rfl | rfl | rfl | rfl | rfl | rfl <;> rfl
    have b1 := B 1 many (by decide) rfl
    have b2 := B 2 (if many - 1 > 1 then many - 1 else 1) (by decide) rfl
    have hl19 := D.len
    have x0 := at_int (ws := ds) (i := 0) (by omega)
    have x1 := at_int (ws := ds) (i := 1) (by omega)
    have x2 := at_int (ws := ds) (i := 2) (by omega)
    refine ⟨_, rfl, _, _, _, _, rfl, rfl, .of (eD), x1, (by show 1 ≤ sizeLine; decide), fun wl hwl => ?_⟩
    have nwd : wl ≠ dl := fun q => by rw [q, eD] at hwl; cases hwl
    have nwl : H wl = none := sH.free hwl
    have sW : Same H (upd HD wl (.lst [V.int (ds.getD 1 0)])) := Same.updN sH nwl
    have eW : upd HD wl (.lst [V.int (ds.getD 1 0)]) wl = some (.lst [V.int (ds.getD 1 0)]) := upd_same
    have eD2 : upd HD wl (.lst [V.int (ds.getD 1 0)]) dl = some (.lst (ds.map V.int)) := by rw [upd_ne nwd.symm]; exact eD
    generalize upd HD wl (.lst [V.int (ds.getD 1 0)]) = H0 at sW eW eD2 ⊢
    have es : ∀ x : Int, (ds.map V.int).set 0 (V.int x) = (ds.set 0 x).map V.int := fun x => by rw [List.map_set]
    have d0 := D.d0
    have dv : 0 ≤ ds.getD 0 0 / 2 := Int.ediv_nonneg d0 (by decide)
    have D2 := D.set dv
    refine ⟨fun σ H2 => Same H H2 ∧ ∃ (b : PD) (nl : Addr) (ds2 : List Int), DgOk ds2 ∧ H2 dl = some (.lst (ds2.map V.int)) ∧ H2 wl = some (.lst (b.stands.map V.int)) ∧ NumAt H2 b nl ∧ b.base ∧ b.ok ∧ LimOk b ∧ (∀ p ∈ b.stands, p < many) ∧ σ = [some (.int c), some (.int many), some (.int bt), some (.int tp), some (.ref A6), some (.ref dl), some (.ref wl), some (.str b.word), some (.ref nl), none, none], ?_, ?_⟩
    have ix0 : ixN (ds.map V.int).length 0 = some 0 := by unfold ixN; rw [if_pos (by decide), if_pos (by rw [List.length_map]; omega)]; rfl
    · refine ⟨_, rfl, _, _, rfl, rfl, _, rfl, ?_⟩
      by_cases hm1 : 1 < many
      · rw [decide_eq_true hm1]
        refine iteT ⟨_, rfl, _, _, _, _, rfl, rfl, .of eD2, x0, _, _, rfl, rfl, (by show (0 : Int) < 2; decide), rfl, _, rfl, ite2 (fun _ => ?_) (fun _ => ?_)⟩
        · have b2' : 0 ≤ ds.getD 2 0 ∧ ds.getD 2 0 < many - 1 := by
            refine ⟨b2.1, ?_⟩
            have := b2.2
            split at this <;> omega
          obtain ⟨op1, op2, op3⟩ := other_place hm1 b1.1 b1.2 b2'.1 b2'.2
          refine ⟨_, rfl, .inl ⟨rfl, _, .of eW⟩, _, rfl, _, _, _, _, rfl, rfl, .of eD2, x1, _, _, rfl, rfl, _, rfl, _, _, _, _, rfl, rfl, .of eD2, x2, _, _, rfl, rfl, _, rfl, _, _, rfl, rfl, (by show 0 < many; omega), _, _, _, rfl, rfl, eW, (by show 1 < sizeLine; decide), ?_⟩
          have eD3 : upd H0 wl (.lst ([V.int (ds.getD 1 0)] ++ [V.int ((ds.getD 1 0 + 1 + ds.getD 2 0) % many)])) dl = some (.lst (ds.map V.int)) := by rw [upd_ne nwd.symm]; exact eD2
          refine ⟨_, rfl, _, _, _, _, rfl, rfl, .of eD3, x0, _, _, rfl, rfl, ⟨by decide, by decide⟩, _, rfl, _, _, _, (0 : Nat), rfl, rfl, eD3, ix0, ?_⟩
          rw [es]
          refine ⟨_, rfl, dl, ds.set 0 (ds.getD 0 0 / 2), ds.getD 1 0, (ds.getD 1 0 + 1 + ds.getD 2 0) % many, rfl, upd_same, D2, ⟨b1.1, by omega⟩, ⟨op1, by omega⟩, op3, fun b t nl H3 s3 ht e3 hn hb hs hok hlim => ?_⟩
          refine ⟨_, _, rfl, .of e3, rfl, _, _, rfl, _, _, rfl, rfl, ?_⟩
          refine ⟨(Same.updN (Same.updN sW nwl) ndl).trans s3, b, nl, _, D2, s3 _ _ upd_same, by rw [hs]; exact s3 _ _ (by rw [upd_ne nwd]; exact upd_same), hn, hb, hok, hlim, fun p hp => ?_, rfl⟩
          rw [hs] at hp
          have : p = ds.getD 1 0 ∨ p = (ds.getD 1 0 + 1 + ds.getD 2 0) % many := by simpa using hp
          rcases this with rfl | rfl
          · exact b1.2
          · exact op2
        · refine ⟨_, rfl, _, _, _, _, rfl, rfl, .of eD2, x0, _, _, rfl, rfl, ⟨by decide, by decide⟩, _, rfl, _, _, _, (0 : Nat), rfl, rfl, eD2, ix0, ?_⟩
          rw [es]
          have hp : Plc (ds.getD 1 0) := ⟨b1.1, by omega⟩
          refine ⟨_, rfl, _, rfl, dl, ds.set 0 (ds.getD 0 0 / 2), bt, ds.getD 1 0, rfl, upd_same, D2, hbt1, by omega, hp, fun b t nl H3 s3 ht e3 hn hb hs hok hlim => ?_⟩
          refine ⟨_, _, rfl, .of e3, rfl, _, _, rfl, _, _, rfl, rfl, ?_⟩
          refine ⟨(Same.updN sW ndl).trans s3, b, nl, _, D2, s3 _ _ upd_same, by rw [hs]; exact s3 _ _ (by rw [upd_ne nwd]; exact eW), hn, hb, hok, hlim, fun p hp => ?_, rfl⟩
          rw [hs] at hp
          have : p = ds.getD 1 0 := by simpa using hp
          omega
      · rw [decide_eq_false hm1]
        refine iteF (iteF ?_)
        refine ⟨_, rfl, _, _, _, _, rfl, rfl, .of eD2, x0, _, _, rfl, rfl, ⟨by decide, by decide⟩, _, rfl, _, _, _, (0 : Nat), rfl, rfl, eD2, ix0, ?_⟩
        rw [es]
        have hp : Plc (ds.getD 1 0) := ⟨b1.1, by omega⟩
        refine ⟨_, rfl, _, rfl, dl, ds.set 0 (ds.getD 0 0 / 2), bt, ds.getD 1 0, rfl, upd_same, D2, hbt1, by omega, hp, fun b t nl H3 s3 ht e3 hn hb hs hok hlim => ?_⟩
        refine ⟨_, _, rfl, .of e3, rfl, _, _, rfl, _, _, rfl, rfl, ?_⟩
        refine ⟨(Same.updN sW ndl).trans s3, b, nl, _, D2, s3 _ _ upd_same, by rw [hs]; exact s3 _ _ (by rw [upd_ne nwd]; exact eW), hn, hb, hok, hlim, fun p hp => ?_, rfl⟩
        rw [hs] at hp
        have : p = ds.getD 1 0 := by simpa using hp
        omega
    rintro σ HT ⟨sT, b, nl, ds2, E, eT, eS, hN, hb, hok, hlim, hst, rfl⟩
    clear eD2 eW sW D2 D es
    have hl2 := E.len
    obtain ⟨p6, q6⟩ := E.d6
    obtain ⟨p7, q7⟩ := E.d7
    have x6 := at_int (ws := ds2) (i := 6) (by omega)
    have x7 := at_int (ws := ds2) (i := 7) (by omega)
    refine ⟨_, rfl, _, _, _, _, rfl, rfl, .of eT, x7, _, _, rfl, rfl, ?_⟩
    refine ⟨Nat.zero_le _, fun M1 hM1 => ?_⟩
    have sM1 : Same HT _ := Same.upd (o := .lst []) hM1
    have eM1 : upd HT M1 (.lst []) M1 = some (.lst []) := upd_same
    generalize upd HT M1 (.lst []) = HM1 at sM1 eM1 ⊢
    refine ⟨Nat.zero_le _, fun M2 hM2 => ?_⟩
    have sM2 : Same HM1 _ := Same.upd (o := .lst []) hM2
    have eM2 : upd HM1 M2 (.lst []) M2 = some (.lst []) := upd_same
    generalize upd HM1 M2 (.lst []) = HM2 at sM2 eM2 ⊢
    refine ⟨Nat.zero_le _, fun M3 hM3 => ?_⟩
    have sM3 : Same HM2 _ := Same.upd (o := .lst []) hM3
    have eM3 : upd HM2 M3 (.lst []) M3 = some (.lst []) := upd_same
    generalize upd HM2 M3 (.lst []) = HM3 at sM3 eM3 ⊢
    refine ⟨_, rfl, _, _, _, _, rfl, rfl, .of (((sM1.trans sM2).trans sM3) _ _ eT), x7, _, rfl, _, _, _, _, rfl, rfl, .of (((sM1.trans sM2).trans sM3) _ _ eT), x7, _, _, rfl, rfl, .inl ⟨by omega, by omega⟩, _, _, rfl, rfl, (by show 2 ≤ sizeLine; decide), fun T1 hT1 => ?_⟩
    have sT1 : Same HM3 _ := Same.upd (o := .tup [V.str "times", V.int (1 + ds2.getD 7 0 * ds2.getD 7 0)]) hT1
    have eT1 : upd HM3 T1 (.tup [V.str "times", V.int (1 + ds2.getD 7 0 * ds2.getD 7 0)]) T1 = some (.tup [V.str "times", V.int (1 + ds2.getD 7 0 * ds2.getD 7 0)]) := upd_same
    generalize upd HM3 T1 (.tup [V.str "times", V.int (1 + ds2.getD 7 0 * ds2.getD 7 0)]) = HT1 at sT1 eT1 ⊢
    refine ⟨(by show 1 ≤ sizeLine; decide), fun M4 hM4 => ?_⟩
    have sM4 : Same HT1 _ := Same.upd (o := .lst [V.ref T1]) hM4
    have eM4 : upd HT1 M4 (.lst [V.ref T1]) M4 = some (.lst [V.ref T1]) := upd_same
    generalize upd HT1 M4 (.lst [V.ref T1]) = HM4 at sM4 eM4 ⊢
    refine ⟨_, rfl, (by show 2 ≤ sizeLine; decide), fun T2 hT2 => ?_⟩
    have sT2 : Same HM4 _ := Same.upd (o := .tup [V.str "moved", V.int (ds2.getD 7 0 - 2)]) hT2
    have eT2 : upd HM4 T2 (.tup [V.str "moved", V.int (ds2.getD 7 0 - 2)]) T2 = some (.tup [V.str "moved", V.int (ds2.getD 7 0 - 2)]) := upd_same
    generalize upd HM4 T2 (.tup [V.str "moved", V.int (ds2.getD 7 0 - 2)]) = HT2 at sT2 eT2 ⊢
    refine ⟨(by show 1 ≤ sizeLine; decide), fun M5 hM5 => ?_⟩
    have sM5 : Same HT2 _ := Same.upd (o := .lst [V.ref T2]) hM5
    have eM5 : upd HT2 M5 (.lst [V.ref T2]) M5 = some (.lst [V.ref T2]) := upd_same
    generalize upd HT2 M5 (.lst [V.ref T2]) = HM5 at sM5 eM5 ⊢
    refine ⟨(by show 2 ≤ sizeLine; decide), fun T3 hT3 => ?_⟩
    have sT3 : Same HM5 _ := Same.upd (o := .tup [V.str "times", V.int 2]) hT3
    have eT3 : upd HM5 T3 (.tup [V.str "times", V.int 2]) T3 = some (.tup [V.str "times", V.int 2]) := upd_same
    generalize upd HM5 T3 (.tup [V.str "times", V.int 2]) = HT3 at sT3 eT3 ⊢
    refine ⟨_, rfl, (by show 2 ≤ sizeLine; decide), fun T4 hT4 => ?_⟩
    have sT4 : Same HT3 _ := Same.upd (o := .tup [V.str "moved", V.int (ds2.getD 7 0 - 2)]) hT4
    have eT4 : upd HT3 T4 (.tup [V.str "moved", V.int (ds2.getD 7 0 - 2)]) T4 = some (.tup [V.str "moved", V.int (ds2.getD 7 0 - 2)]) := upd_same
    generalize upd HT3 T4 (.tup [V.str "moved", V.int (ds2.getD 7 0 - 2)]) = HT4 at sT4 eT4 ⊢
    refine ⟨(by show 2 ≤ sizeLine; decide), fun M6 hM6 => ?_⟩
    have sM6 : Same HT4 _ := Same.upd (o := .lst [V.ref T3, V.ref T4]) hM6
    have eM6 : upd HT4 M6 (.lst [V.ref T3, V.ref T4]) M6 = some (.lst [V.ref T3, V.ref T4]) := upd_same
    generalize upd HT4 M6 (.lst [V.ref T3, V.ref T4]) = HM6 at sM6 eM6 ⊢
    refine ⟨(by show 6 ≤ sizeLine; decide), fun N1 hN1 => ?_⟩
    have sN1 : Same HM6 _ := Same.upd (o := .lst [V.ref M1, V.ref M2, V.ref M3, V.ref M4, V.ref M5, V.ref M6]) hN1
    have eN1 : upd HM6 N1 (.lst [V.ref M1, V.ref M2, V.ref M3, V.ref M4, V.ref M5, V.ref M6]) N1 = some (.lst [V.ref M1, V.ref M2, V.ref M3, V.ref M4, V.ref M5, V.ref M6]) := upd_same
    generalize upd HM6 N1 (.lst [V.ref M1, V.ref M2, V.ref M3, V.ref M4, V.ref M5, V.ref M6]) = HN1 at sN1 eN1 ⊢
    refine ⟨_, rfl, _, rfl, (by show 2 ≤ sizeLine; decide), fun T5 hT5 => ?_⟩
    have sT5 : Same HN1 _ := Same.upd (o := .tup [V.str "moved", V.int (ds2.getD 7 0 - 2)]) hT5
    have eT5 : upd HN1 T5 (.tup [V.str "moved", V.int (ds2.getD 7 0 - 2)]) T5 = some (.tup [V.str "moved", V.int (ds2.getD 7 0 - 2)]) := upd_same
    generalize upd HN1 T5 (.tup [V.str "moved", V.int (ds2.getD 7 0 - 2)]) = HT5 at sT5 eT5 ⊢
    refine ⟨(by show 2 ≤ sizeLine; decide), fun T6 hT6 => ?_⟩
    have sT6 : Same HT5 _ := Same.upd (o := .tup [V.str "moved", V.int 3]) hT6
    have eT6 : upd HT5 T6 (.tup [V.str "moved", V.int 3]) T6 = some (.tup [V.str "moved", V.int 3]) := upd_same
    generalize upd HT5 T6 (.tup [V.str "moved", V.int 3]) = HT6 at sT6 eT6 ⊢
    refine ⟨(by show 2 ≤ sizeLine; decide), fun M7 hM7 => ?_⟩
    have sM7 : Same HT6 _ := Same.upd (o := .lst [V.ref T5, V.ref T6]) hM7
    have eM7 : upd HT6 M7 (.lst [V.ref T5, V.ref T6]) M7 = some (.lst [V.ref T5, V.ref T6]) := upd_same
    generalize upd HT6 M7 (.lst [V.ref T5, V.ref T6]) = HM7 at sM7 eM7 ⊢
    refine ⟨_, rfl, (by show 2 ≤ sizeLine; decide), fun T7 hT7 => ?_⟩
    have sT7 : Same HM7 _ := Same.upd (o := .tup [V.str "moved", V.int (-1)]) hT7
    have eT7 : upd HM7 T7 (.tup [V.str "moved", V.int (-1)]) T7 = some (.tup [V.str "moved", V.int (-1)]) := upd_same
    generalize upd HM7 T7 (.tup [V.str "moved", V.int (-1)]) = HT7 at sT7 eT7 ⊢
    refine ⟨(by show 2 ≤ sizeLine; decide), fun T8 hT8 => ?_⟩
    have sT8 : Same HT7 _ := Same.upd (o := .tup [V.str "times", V.int 3]) hT8
    have eT8 : upd HT7 T8 (.tup [V.str "times", V.int 3]) T8 = some (.tup [V.str "times", V.int 3]) := upd_same
    generalize upd HT7 T8 (.tup [V.str "times", V.int 3]) = HT8 at sT8 eT8 ⊢
    refine ⟨(by show 2 ≤ sizeLine; decide), fun T9 hT9 => ?_⟩
    have sT9 : Same HT8 _ := Same.upd (o := .tup [V.str "times", V.int 2]) hT9
    have eT9 : upd HT8 T9 (.tup [V.str "times", V.int 2]) T9 = some (.tup [V.str "times", V.int 2]) := upd_same
    generalize upd HT8 T9 (.tup [V.str "times", V.int 2]) = HT9 at sT9 eT9 ⊢
    refine ⟨(by show 3 ≤ sizeLine; decide), fun M8 hM8 => ?_⟩
    have sM8 : Same HT9 _ := Same.upd (o := .lst [V.ref T7, V.ref T8, V.ref T9]) hM8
    have eM8 : upd HT9 M8 (.lst [V.ref T7, V.ref T8, V.ref T9]) M8 = some (.lst [V.ref T7, V.ref T8, V.ref T9]) := upd_same
    generalize upd HT9 M8 (.lst [V.ref T7, V.ref T8, V.ref T9]) = HM8 at sM8 eM8 ⊢
    refine ⟨(by show 2 ≤ sizeLine; decide), fun N2 hN2 => ?_⟩
    have sN2 : Same HM8 _ := Same.upd (o := .lst [V.ref M7, V.ref M8]) hN2
    have eN2 : upd HM8 N2 (.lst [V.ref M7, V.ref M8]) N2 = some (.lst [V.ref M7, V.ref M8]) := upd_same
    generalize upd HM8 N2 (.lst [V.ref M7, V.ref M8]) = HN2 at sN2 eN2 ⊢
    refine ⟨_, _, _, _, rfl, rfl, ((((((((sT5.trans sT6).trans sM7).trans sT7).trans sT8).trans sT9).trans sM8).trans sN2) _ _ eN1), ((Same.refl _) _ _ eN2), (by show 8 ≤ sizeLine; decide), fun N3 hN3 => ?_⟩
    have sN3 : Same HN2 _ := Same.upd (o := .lst ([V.ref M1, V.ref M2, V.ref M3, V.ref M4, V.ref M5, V.ref M6] ++ [V.ref M7, V.ref M8])) hN3
    have eN3 : upd HN2 N3 (.lst ([V.ref M1, V.ref M2, V.ref M3, V.ref M4, V.ref M5, V.ref M6] ++ [V.ref M7, V.ref M8])) N3 = some (.lst ([V.ref M1, V.ref M2, V.ref M3, V.ref M4, V.ref M5, V.ref M6] ++ [V.ref M7, V.ref M8])) := upd_same
    generalize upd HN2 N3 (.lst ([V.ref M1, V.ref M2, V.ref M3, V.ref M4, V.ref M5, V.ref M6] ++ [V.ref M7, V.ref M8])) = HN3 at sN3 eN3 ⊢
    have sq1 : 0 ≤ ds2.getD 7 0 * ds2.getD 7 0 ∧ ds2.getD 7 0 * ds2.getD 7 0 ≤ 16 := by
      have : ds2.getD 7 0 = 0 ∨ ds2.getD 7 0 = 1 ∨ ds2.getD 7 0 = 2 ∨ ds2.getD 7 0 = 3 ∨ ds2.getD 7 0 = 4 := by omega
      rcases this with h | h | h | h | h <;> rw [h] <;> decide
    have sel : ∃ (rl : Addr) (wr : Wr) (vs : List V), atI ([V.ref M1, V.ref M2, V.ref M3, V.ref M4, V.ref M5, V.ref M6] ++ [V.ref M7, V.ref M8]) (ds2.getD 6 0) = some (V.ref rl) ∧ WrAt HN3 wr rl vs ∧ WrGood wr := by
      have : ds2.getD 6 0 = 0 ∨ ds2.getD 6 0 = 1 ∨ ds2.getD 6 0 = 2 ∨ ds2.getD 6 0 = 3 ∨ ds2.getD 6 0 = 4 ∨ ds2.getD 6 0 = 5 ∨ ds2.getD 6 0 = 6 ∨ ds2.getD 6 0 = 7 := by omega
      rcases this with h | h | h | h | h | h | h | h <;> rw [h]
      · refine ⟨M1, [], [], rfl, wrAt0 (((((((((((((((((((sM2.trans sM3).trans sT1).trans sM4).trans sT2).trans sM5).trans sT3).trans sT4).trans sM6).trans sN1).trans sT5).trans sT6).trans sM7).trans sT7).trans sT8).trans sT9).trans sM8).trans sN2).trans sN3) _ _ eM1), ⟨by simp, fun w hw => ?_⟩, by simp, fun w hw => ?_⟩
        · exact absurd hw (by simp)
        · exact absurd hw (by simp)
      · refine ⟨M2, [], [], rfl, wrAt0 ((((((((((((((((((sM3.trans sT1).trans sM4).trans sT2).trans sM5).trans sT3).trans sT4).trans sM6).trans sN1).trans sT5).trans sT6).trans sM7).trans sT7).trans sT8).trans sT9).trans sM8).trans sN2).trans sN3) _ _ eM2), ⟨by simp, fun w hw => ?_⟩, by simp, fun w hw => ?_⟩
        · exact absurd hw (by simp)
        · exact absurd hw (by simp)
      · refine ⟨M3, [], [], rfl, wrAt0 (((((((((((((((((sT1.trans sM4).trans sT2).trans sM5).trans sT3).trans sT4).trans sM6).trans sN1).trans sT5).trans sT6).trans sM7).trans sT7).trans sT8).trans sT9).trans sM8).trans sN2).trans sN3) _ _ eM3), ⟨by simp, fun w hw => ?_⟩, by simp, fun w hw => ?_⟩
        · exact absurd hw (by simp)
        · exact absurd hw (by simp)
      · refine ⟨M4, [(true, (1 + ds2.getD 7 0 * ds2.getD 7 0))], [V.ref T1], rfl, wrAt_cons (a' := M4) (((((((((((((((sT2.trans sM5).trans sT3).trans sT4).trans sM6).trans sN1).trans sT5).trans sT6).trans sM7).trans sT7).trans sT8).trans sT9).trans sM8).trans sN2).trans sN3) _ _ eM4) ⟨_, rfl, ((((((((((((((((sM4.trans sT2).trans sM5).trans sT3).trans sT4).trans sM6).trans sN1).trans sT5).trans sT6).trans sM7).trans sT7).trans sT8).trans sT9).trans sM8).trans sN2).trans sN3) _ _ eT1)⟩ rfl nilW, ⟨by simp, fun w hw => ?_⟩, by simp, fun w hw => ?_⟩
        · have e := List.mem_singleton.mp hw
          subst e
          exact ⟨by (try dsimp only); omega, by (try dsimp only); omega, fun q => by first | exact absurd (show true = false from q) (by decide) | exact absurd (show false = true from q) (by decide) | ((try dsimp only); omega)⟩
        · have e := List.mem_singleton.mp hw
          subst e
          exact fun q => by first | exact absurd (show true = false from q) (by decide) | exact absurd (show false = true from q) (by decide) | (refine ⟨?_, ?_⟩ <;> (try dsimp only) <;> omega)
      · refine ⟨M5, [(false, (ds2.getD 7 0 - 2))], [V.ref T2], rfl, wrAt_cons (a' := M5) (((((((((((((sT3.trans sT4).trans sM6).trans sN1).trans sT5).trans sT6).trans sM7).trans sT7).trans sT8).trans sT9).trans sM8).trans sN2).trans sN3) _ _ eM5) ⟨_, rfl, ((((((((((((((sM5.trans sT3).trans sT4).trans sM6).trans sN1).trans sT5).trans sT6).trans sM7).trans sT7).trans sT8).trans sT9).trans sM8).trans sN2).trans sN3) _ _ eT2)⟩ rfl nilW, ⟨by simp, fun w hw => ?_⟩, by simp, fun w hw => ?_⟩
        · have e := List.mem_singleton.mp hw
          subst e
          exact ⟨by (try dsimp only); omega, by (try dsimp only); omega, fun q => by first | exact absurd (show true = false from q) (by decide) | exact absurd (show false = true from q) (by decide) | ((try dsimp only); omega)⟩
        · have e := List.mem_singleton.mp hw
          subst e
          exact fun q => by first | exact absurd (show true = false from q) (by decide) | exact absurd (show false = true from q) (by decide) | (refine ⟨?_, ?_⟩ <;> (try dsimp only) <;> omega)
      · refine ⟨M6, [(true, 2), (false, (ds2.getD 7 0 - 2))], [V.ref T3, V.ref T4], rfl, wrAt_cons (a' := M6) ((((((((((sN1.trans sT5).trans sT6).trans sM7).trans sT7).trans sT8).trans sT9).trans sM8).trans sN2).trans sN3) _ _ eM6) ⟨_, rfl, ((((((((((((sT4.trans sM6).trans sN1).trans sT5).trans sT6).trans sM7).trans sT7).trans sT8).trans sT9).trans sM8).trans sN2).trans sN3) _ _ eT3)⟩ rfl (consW ⟨_, rfl, (((((((((((sM6.trans sN1).trans sT5).trans sT6).trans sM7).trans sT7).trans sT8).trans sT9).trans sM8).trans sN2).trans sN3) _ _ eT4)⟩ nilW), ⟨by simp, fun w hw => ?_⟩, by simp, fun w hw => ?_⟩
        · simp only [List.mem_cons, List.not_mem_nil, or_false] at hw
          rcases hw with rfl | rfl <;> exact ⟨by (try dsimp only); omega, by (try dsimp only); omega, fun q => by first | exact absurd (show true = false from q) (by decide) | exact absurd (show false = true from q) (by decide) | ((try dsimp only); omega)⟩
        · simp only [List.mem_cons, List.not_mem_nil, or_false] at hw
          rcases hw with rfl | rfl <;> exact fun q => by first | exact absurd (show true = false from q) (by decide) | exact absurd (show false = true from q) (by decide) | (refine ⟨?_, ?_⟩ <;> (try dsimp only) <;> omega)
      · refine ⟨M7, [(false, (ds2.getD 7 0 - 2)), (false, 3)], [V.ref T5, V.ref T6], rfl, wrAt_cons (a' := M7) ((((((sT7.trans sT8).trans sT9).trans sM8).trans sN2).trans sN3) _ _ eM7) ⟨_, rfl, ((((((((sT6.trans sM7).trans sT7).trans sT8).trans sT9).trans sM8).trans sN2).trans sN3) _ _ eT5)⟩ rfl (consW ⟨_, rfl, (((((((sM7.trans sT7).trans sT8).trans sT9).trans sM8).trans sN2).trans sN3) _ _ eT6)⟩ nilW), ⟨by simp, fun w hw => ?_⟩, by simp, fun w hw => ?_⟩
        · simp only [List.mem_cons, List.not_mem_nil, or_false] at hw
          rcases hw with rfl | rfl <;> exact ⟨by (try dsimp only); omega, by (try dsimp only); omega, fun q => by first | exact absurd (show true = false from q) (by decide) | exact absurd (show false = true from q) (by decide) | ((try dsimp only); omega)⟩
        · simp only [List.mem_cons, List.not_mem_nil, or_false] at hw
          rcases hw with rfl | rfl <;> exact fun q => by first | exact absurd (show true = false from q) (by decide) | exact absurd (show false = true from q) (by decide) | (refine ⟨?_, ?_⟩ <;> (try dsimp only) <;> omega)
      · refine ⟨M8, [(false, -1), (true, 3), (true, 2)], [V.ref T7, V.ref T8, V.ref T9], rfl, wrAt_cons (a' := M8) ((sN2.trans sN3) _ _ eM8) ⟨_, rfl, (((((sT8.trans sT9).trans sM8).trans sN2).trans sN3) _ _ eT7)⟩ rfl (consW ⟨_, rfl, ((((sT9.trans sM8).trans sN2).trans sN3) _ _ eT8)⟩ (consW ⟨_, rfl, (((sM8.trans sN2).trans sN3) _ _ eT9)⟩ nilW)), ⟨by simp, fun w hw => ?_⟩, by simp, fun w hw => ?_⟩
        · simp only [List.mem_cons, List.not_mem_nil, or_false] at hw
          rcases hw with rfl | rfl | rfl <;> exact ⟨by (try dsimp only); omega, by (try dsimp only); omega, fun q => by first | exact absurd (show true = false from q) (by decide) | exact absurd (show false = true from q) (by decide) | ((try dsimp only); omega)⟩
        · simp only [List.mem_cons, List.not_mem_nil, or_false] at hw
          rcases hw with rfl | rfl | rfl <;> exact fun q => by first | exact absurd (show true = false from q) (by decide) | exact absurd (show false = true from q) (by decide) | (refine ⟨?_, ?_⟩ <;> (try dsimp only) <;> omega)
    obtain ⟨rl, wr, vs, hrl, hwr, hg⟩ := sel
    have sF : Same HT HN3 := (((((((((((((((((((sM1.trans sM2).trans sM3).trans sT1).trans sM4).trans sT2).trans sM5).trans sT3).trans sT4).trans sM6).trans sN1).trans sT5).trans sT6).trans sM7).trans sT7).trans sT8).trans sT9).trans sM8).trans sN2).trans sN3)
    refine ⟨_, rfl, _, rfl, _, rfl, _, rfl, _, rfl, _, _, _, _, rfl, rfl, .of (sF _ _ eT), x6, _, _, _, _, rfl, rfl, .of eN3, hrl, (by show 4 ≤ sizeLine; decide), fun a ha => ?_⟩
    have sZ : Same HN3 _ := Same.upd (o := .tup [V.str b.word, V.ref wl, V.ref nl, V.ref rl]) ha
    exact k b wr a wl nl rl vs _ (sT.trans (sF.trans sZ)) ⟨hb, upd_same, sZ _ _ (sF _ _ eS), (hN.same sF).same sZ, hwr.same sZ⟩ hok hg hlim hst

end
end Ev

namespace Ev
open PySem L2 Ax
section
variable {P : Program} {w : World} {K : PySem.W.Frag} {mg : Str → Option Value} {base : Heap} {C : Str → Addr} {f : Addr} {fd : FuncData}

/-- what a wrapped part lets be read -/
theorem lim_base {b : PD} (hb : b.base) (hok : b.ok) (x : Int) : b.worth x ≠ none ↔ (∀ y, b.limits.1 = some y → y ≤ x) ∧ (∀ y, b.limits.2 = some y → x ≤ y) := by
  have rowc : ∀ (f : Int) (ws : List Int), rowAt f ws x ≠ none ↔ (∀ y, some f = some y → y ≤ x) ∧ (∀ y, some (f + (ws.length : Int) - 1) = some y → x ≤ y) := fun f ws => by
    unfold rowAt
    constructor
    · intro h
      by_cases h0 : 0 ≤ x - f
      · rw [if_pos h0] at h
        by_cases h1 : (x - f).toNat < ws.length
        · exact ⟨fun y e => by cases e; omega, fun y e => by cases e; omega⟩
        · exact absurd (List.getElem?_eq_none_iff.mpr (by omega)) h
      · rw [if_neg h0] at h
        exact absurd rfl h
    · rintro ⟨h1, h2⟩
      have a := h1 _ rfl
      have c := h2 _ rfl
      rw [if_pos (by omega), List.getElem?_eq_getElem (by omega : (x - f).toNat < ws.length)]
      exact fun q => nomatch q
  cases b with
  | times => exact hb.elim
  | moved => exact hb.elim
  | slope p w => exact ⟨fun _ => ⟨fun y e => (nomatch e), fun y e => (nomatch e)⟩, fun _ e => (nomatch e)⟩
  | aim p a w => exact ⟨fun _ => ⟨fun y e => (nomatch e), fun y e => (nomatch e)⟩, fun _ e => (nomatch e)⟩
  | square p a w => exact ⟨fun _ => ⟨fun y e => (nomatch e), fun y e => (nomatch e)⟩, fun _ e => (nomatch e)⟩
  | near o t a w => exact ⟨fun _ => ⟨fun y e => (nomatch e), fun y e => (nomatch e)⟩, fun _ e => (nomatch e)⟩
  | row p f ws => exact rowc f ws
  | gaps o u f ws => exact rowc f ws
  | wall p lo hi =>
    show (if lo ≤ x ∧ x ≤ hi then some (0 : Int) else none) ≠ none ↔ (∀ y, some lo = some y → y ≤ x) ∧ (∀ y, some hi = some y → x ≤ y)
    constructor
    · intro h
      by_cases h0 : lo ≤ x ∧ x ≤ hi
      · exact ⟨fun y e => by cases e; exact h0.1, fun y e => by cases e; exact h0.2⟩
      · rw [if_neg h0] at h
        exact absurd rfl h
    · rintro ⟨h1, h2⟩
      rw [if_pos ⟨h1 _ rfl, h2 _ rfl⟩]
      exact fun q => nomatch q
  | ahead o t g =>
    show (if x ≤ g then some (0 : Int) else none) ≠ none ↔ (∀ y, none = some y → y ≤ x) ∧ (∀ y, some g = some y → x ≤ y)
    constructor
    · intro h
      by_cases h0 : x ≤ g
      · exact ⟨fun y e => (nomatch e), fun y e => by cases e; exact h0⟩
      · rw [if_neg h0] at h
        exact absurd rfl h
    · rintro ⟨h1, h2⟩
      rw [if_pos (h2 _ rfl)]
      exact fun q => nomatch q
theorem lim_wrap {b : PD} (hb : b.base) (hok : b.ok) : ∀ (wr : Wr) (x : Int), (wrap wr b).worth x ≠ none ↔ (∀ y, (wrap wr b).limits.1 = some y → y ≤ x) ∧ (∀ y, (wrap wr b).limits.2 = some y → x ≤ y)
  | [], x => lim_base hb hok x
  | (true, n) :: r, x => by
    refine Iff.trans ?_ (lim_wrap hb hok r x)
    show ((wrap r b).worth x).map (fun y => n * y) ≠ none ↔ (wrap r b).worth x ≠ none
    cases (wrap r b).worth x <;> simp
  | (false, n) :: r, x => by
    have ih := lim_wrap hb hok r (x - n)
    show (wrap r b).worth (x - n) ≠ none ↔ (∀ y, (wrap r b).limits.1.map (fun y => y + n) = some y → y ≤ x) ∧ (∀ y, (wrap r b).limits.2.map (fun y => y + n) = some y → x ≤ y)
    rw [ih]
    constructor
    · rintro ⟨h1, h2⟩
      refine ⟨fun y e => ?_, fun y e => ?_⟩
      · obtain ⟨z, hz, rfl⟩ := Option.map_eq_some_iff.mp e
        have := h1 z hz
        omega
      · obtain ⟨z, hz, rfl⟩ := Option.map_eq_some_iff.mp e
        have := h2 z hz
        omega
    · rintro ⟨h1, h2⟩
      refine ⟨fun y e => ?_, fun y e => ?_⟩
      · have := h1 (y + n) (by rw [e]; rfl)
        omega
      · have := h2 (y + n) (by rw [e]; rfl)
        omega
theorem lim_some {b : PD} : ∀ (wr : Wr), ((wrap wr b).limits.1.isSome = b.limits.1.isSome) ∧ ((wrap wr b).limits.2.isSome = b.limits.2.isSome)
  | [] => ⟨rfl, rfl⟩
  | (true, n) :: r => lim_some (b := b) r
  | (false, n) :: r => by
    obtain ⟨h1, h2⟩ := lim_some (b := b) r
    refine ⟨?_, ?_⟩
    · show ((wrap r b).limits.1.map (fun y => y + n)).isSome = _
      rw [Option.isSome_map, h1]
    · show ((wrap r b).limits.2.map (fun y => y + n)).isSome = _
      rw [Option.isSome_map, h2]
theorem lim_near {b : PD} (hb : LimOk b) : ∀ (wr : Wr), (∀ w ∈ wr, w.1 = false → -3 ≤ w.2 ∧ w.2 ≤ 3) → ∀ y, (wrap wr b).limits.1 = some y ∨ (wrap wr b).limits.2 = some y → -(30 + 3 * (wr.length : Int)) ≤ y ∧ y ≤ 30 + 3 * (wr.length : Int)
  | [], _, y, h => by
    have := hb y h
    rw [List.length_nil]
    omega
  | (true, n) :: r, hw, y, h => by
    have ih := lim_near hb r (fun w hw' => hw w (List.mem_cons_of_mem _ hw')) y h
    rw [List.length_cons]
    omega
  | (false, n) :: r, hw, y, h => by
    have hn := hw _ List.mem_cons_self rfl
    have hn' : -3 ≤ n ∧ n ≤ 3 := hn
    rw [List.length_cons]
    have h' : (wrap r b).limits.1.map (fun y => y + n) = some y ∨ (wrap r b).limits.2.map (fun y => y + n) = some y := h
    rcases h' with e | e
    · obtain ⟨z, hz, rfl⟩ := Option.map_eq_some_iff.mp e
      have ih := lim_near hb r (fun w hw' => hw w (List.mem_cons_of_mem _ hw')) z (.inl hz)
      omega
    · obtain ⟨z, hz, rfl⟩ := Option.map_eq_some_iff.mp e
      have ih := lim_near hb r (fun w hw' => hw w (List.mem_cons_of_mem _ hw')) z (.inr hz)
      omega
/-- of a run of numbers those within limits: the first and the last -/
def runL (lo : Int) (n : Nat) : List Int := (List.range n).map fun i : Nat => lo + (i : Int)
theorem run_succ (lo : Int) (n : Nat) : runL lo (n + 1) = runL lo n ++ [lo + (n : Int)] := by
  unfold runL
  rw [List.range_succ, List.map_append]
  rfl
theorem filt_first {p : Int → Bool} {lo x : Int} : ∀ {n : Nat}, lo ≤ x → x < lo + (n : Int) → p x = true → (∀ y, p y = true → x ≤ y) → ((runL lo n).filter p)[0]? = some x
  | 0, h1, h2, _, _ => by exfalso; omega
  | n + 1, h1, h2, hp, hm => by
    rw [run_succ, List.filter_append]
    by_cases h : x < lo + (n : Int)
    · have ih := filt_first (n := n) h1 h hp hm
      have hl := (List.getElem?_eq_some_iff.mp ih).1
      rw [List.getElem?_append_left hl]
      exact ih
    · have e : x = lo + (n : Int) := by omega
      have hn : (runL lo n).filter p = [] := by
        rw [List.filter_eq_nil_iff]
        intro y hy hpy
        have := hm y hpy
        unfold runL at hy
        obtain ⟨i, hi, rfl⟩ := List.mem_map.mp hy
        rw [List.mem_range] at hi
        omega
      rw [hn, List.nil_append, ← e, List.filter_cons_of_pos hp]
      rfl
theorem filt_last {p : Int → Bool} {lo x : Int} : ∀ {n : Nat}, lo ≤ x → x < lo + (n : Int) → p x = true → (∀ y, p y = true → y ≤ x) → ∃ l, (runL lo n).filter p = l ++ [x]
  | 0, h1, h2, _, _ => by exfalso; omega
  | n + 1, h1, h2, hp, hm => by
    rw [run_succ, List.filter_append]
    by_cases h : x < lo + (n : Int)
    · obtain ⟨l, e⟩ := filt_last (n := n) h1 h hp hm
      refine ⟨l, ?_⟩
      have : p (lo + (n : Int)) ≠ true := fun q => by
        have := hm _ q
        omega
      rw [List.filter_cons_of_neg this, List.filter_nil, List.append_nil, e]
    · have e : x = lo + (n : Int) := by omega
      refine ⟨(runL lo n).filter p, ?_⟩
      rw [← e, List.filter_cons_of_pos hp, List.filter_nil]
theorem filt_succ (p : Int → Bool) (lo : Int) (n : Nat) : (runL lo (n + 1)).filter p = (runL lo n).filter p ++ (if p (lo + (n : Int)) = true then [lo + (n : Int)] else []) := by
  rw [run_succ, List.filter_append]
  congr 1
  by_cases h : p (lo + (n : Int)) = true
  · rw [if_pos h, List.filter_cons_of_pos h, List.filter_nil]
  · rw [if_neg h, List.filter_cons_of_neg h, List.filter_nil]
theorem filt_len (p : Int → Bool) (lo : Int) (n : Nat) : ((runL lo n).filter p).length ≤ n := by
  refine Nat.le_trans (List.length_filter_le _ _) ?_
  unfold runL
  rw [List.length_map, List.length_range]
  exact Nat.le_refl _
theorem lim_le {b : PD} (h : ∀ x y, b.limits.1 = some x → b.limits.2 = some y → x ≤ y) : ∀ (wr : Wr) (x y : Int), (wrap wr b).limits.1 = some x → (wrap wr b).limits.2 = some y → x ≤ y
  | [], x, y, h1, h2 => h x y h1 h2
  | (true, n) :: r, x, y, h1, h2 => lim_le h r x y h1 h2
  | (false, n) :: r, x, y, h1, h2 => by
    have h1' : (wrap r b).limits.1.map (fun y => y + n) = some x := h1
    have h2' : (wrap r b).limits.2.map (fun y => y + n) = some y := h2
    obtain ⟨z, hz, rfl⟩ := Option.map_eq_some_iff.mp h1'
    obtain ⟨u, hu, rfl⟩ := Option.map_eq_some_iff.mp h2'
    have := lim_le h r z u hz hu
    omega
def spEnds : Sp := fun vs H Q _ => ∃ (b : PD) (wr : Wr) (a wl nl rl : Addr) (ws : List V), vs = [.ref a] ∧ LAt H b wr a wl nl rl ws ∧ b.ok ∧ WrGood wr ∧ LimOk b ∧ ∀ t H', Same H H' → H t = none → H' t = some (.tup [vO (wrap wr b).limits.1, vO (wrap wr b).limits.2]) → Q (.ref t) H'

theorem ok_law_ends (T : Txt K mg C) (c_law_at : C8.Cal P w K mg base 1 "_law_at" spAt []) (F : C8.Def K mg "_law_ends" s_law_ends f fd) (b : Binds K fd ["_law_part_here"] []) : C8.Cal P w K mg base 2 "_law_ends" spEnds [] := by
  refine C8.cal0 F b .nil sc_law_ends (fun vs H Q E h => ?_) (fun cdv A outer s H vs Q E hr h => ?_)
  · obtain ⟨b, wr, a, wl, nl, rl, ws, rfl, h, hok, hg, hlim, k⟩ := h
    rfl
  · obtain ⟨b, wr, a, wl, nl, rl, ws, rfl, h, hok, hg, hlim, k⟩ := h
    refine ⟨_, (pss_cons (ps_setLc (i := 1) (own := [("_law_reads", 5)]) (g := gName 5) rfl sc_law_ends.nd rfl rfl (sw_true rfl rfl rfl (by decide +kernel)) (pi_range2 (by rfl) T.b_range (pa_cons (pe_un un_neg pe_int) (pa_cons pe_int pa_nil))) (blkOk_by (N := ["_law_part_here", "_law_some", "_law_word", "_law_under", "_law_over", "_law_reads"]) (sc := (defScope s_law_ends)) (by decide +kernel)) (fun _ _ _ _ _ => pg_name (i := 5) sc_law_ends.nd rfl (Or.inl rfl)) (fun _ _ _ _ _ => pts_one (pt_cmp (pc_notN (C8.pe_c c_law_at hr (by decide) rfl (pa_cons (pv 0) (pa_cons (pv 5) pa_nil)))))) (fun _ _ _ _ _ => (pv 5)))
    (pss_cons (ps_set (i := 2) sc_law_ends.nd rfl (Or.inl rfl) (pe_ix ix_tup (pv 0) pe_int (fun _ _ => rfl)))
    (pss_cons (ps_set (i := 3) sc_law_ends.nd rfl (Or.inl rfl) (pe_ifExp (pt_cmpR op_in_seq (pv 2) (pe_tup (pa_cons pe_str (pa_cons pe_str (pa_cons pe_str pa_nil)))) (by rfl)) (pe_ix ix_list (pv 1) pe_int (fun _ _ => rfl)) pe_non))
    (pss_cons (ps_set (i := 4) sc_law_ends.nd rfl (Or.inl rfl) (pe_ifExp (pt_cmpR op_in_seq (pv 2) (pe_tup (pa_cons pe_str (pa_cons pe_str (pa_cons pe_str (pa_cons pe_str pa_nil))))) (by rfl)) (pe_ix ix_list (pv 1) (pe_un un_neg pe_int) (fun _ _ => rfl)) pe_non))
    (pss_one (ps_ret (pe_tup (pa_cons (pv 3) (pa_cons (pv 4) pa_nil))))))))), ?_⟩
    obtain ⟨ho, hl3, hw3⟩ := hg
    have hnear := lim_near hlim wr hw3
    have hls := lim_wrap h.base hok wr
    have hso := lim_some (b := b) wr
    refine ⟨_, rfl, (-60 : Int), (61 : Int), rfl, ⟨by decide, by decide, by decide, by decide⟩, fun D hD => ?_⟩
    have sD : ∀ xs, Same H (upd H D (.lst xs)) := fun xs => Same.upd hD
    refine lc_range (lo := -60) (n := 121) (fun i H2 => Same H H2 ∧ H2 D = some (.lst (((runL (-60) i).filter fun x => decide ((wrap wr b).worth x ≠ none)).map V.int))) ⟨sD _, upd_same⟩ ?_ ?_
    · rintro i H2 hi ⟨s2, e2⟩
      refine ⟨rfl, _, rfl, _, rfl, b, wr, a, wl, nl, rl, ws, -60 + (i : Int), rfl, h.same s2, ho, by omega, by omega, fun p w e => ?_, hok, fun H3 s3 => ⟨_, rfl, ?_⟩⟩
      · subst e
        exact ⟨hok.2.1, hok.2.2⟩
      have fs := filt_succ (fun x => decide ((wrap wr b).worth x ≠ none)) (-60) i
      cases hz : (wrap wr b).worth (-60 + (i : Int)) with
      | none =>
        refine iteN (c := !decide (V.non = V.non)) (by decide) ⟨s2.trans s3, ?_⟩
        rw [fs, if_neg (by rw [hz]; decide), List.append_nil]
        exact s3 _ _ e2
      | some y =>
        refine iteY (c := !decide (V.int y = V.non)) rfl ⟨_, rfl, _, s3 _ _ e2, ?_, ?_, ?_⟩
        · rw [List.length_map]
          exact small1000 (Nat.le_trans (filt_len _ _ _) (by omega))
        · exact Same.updN (s2.trans s3) hD
        · rw [fs, if_pos (by rw [hz]; exact decide_eq_true (fun q => nomatch q)), upd_same, List.map_append]
          rfl
    · rintro H2 ⟨s2, e2⟩
      have h2 := h.same s2
      generalize hL : (runL (-60) 121).filter (fun x => decide ((wrap wr b).worth x ≠ none)) = L at e2
      refine ⟨_, rfl, _, _, (0 : Int), _, rfl, rfl, .of h2.at_, rfl, ?_⟩
      have pp : ∀ x, (decide ((wrap wr b).worth x ≠ none) = true ↔ (∀ y, (wrap wr b).limits.1 = some y → y ≤ x) ∧ (∀ y, (wrap wr b).limits.2 = some y → x ≤ y)) := fun x => by rw [decide_eq_true_iff]; exact hls x
      obtain ⟨so1, so2⟩ := hso
      cases b with
      | times => exact h.base.elim
      | moved => exact h.base.elim
      | slope p w =>
        have q1 : (wrap wr (PD.slope p w)).limits.1 = none := Option.not_isSome_iff_eq_none.mp (by rw [so1]; exact Bool.false_ne_true)
        have q2 : (wrap wr (PD.slope p w)).limits.2 = none := Option.not_isSome_iff_eq_none.mp (by rw [so2]; exact Bool.false_ne_true)
        refine ⟨_, rfl, (by show 3 ≤ sizeLine; decide), fun t1 ht1 => ⟨_, _, rfl, .inr (.of upd_same), rfl, rfl, _, rfl, iteN (c := inV (V.str "slope") [V.str "row", V.str "gaps", V.str "wall"]) (by decide +kernel) ?_⟩⟩
        refine ⟨_, rfl, (by show 4 ≤ sizeLine; decide), fun t2 ht2 => ⟨_, _, rfl, .inr (.of upd_same), rfl, rfl, _, rfl, iteN (c := inV (V.str "slope") [V.str "row", V.str "gaps", V.str "wall", V.str "ahead"]) (by decide +kernel) ?_⟩⟩
        refine ⟨_, rfl, _, rfl, (by show 2 ≤ sizeLine; decide), fun t' ht => ?_⟩
        exact k t' _ (((s2.trans (Same.upd (o := .tup [V.str "row", V.str "gaps", V.str "wall"]) ht1)).trans (Same.upd (o := .tup [V.str "row", V.str "gaps", V.str "wall", V.str "ahead"]) ht2)).trans (Same.upd ht)) (((s2.trans (Same.upd (o := .tup [V.str "row", V.str "gaps", V.str "wall"]) ht1)).trans (Same.upd (o := .tup [V.str "row", V.str "gaps", V.str "wall", V.str "ahead"]) ht2)).free ht) (upd_same.trans (by rw [q1, q2]; rfl))
      | aim p b w =>
        have q1 : (wrap wr (PD.aim p b w)).limits.1 = none := Option.not_isSome_iff_eq_none.mp (by rw [so1]; exact Bool.false_ne_true)
        have q2 : (wrap wr (PD.aim p b w)).limits.2 = none := Option.not_isSome_iff_eq_none.mp (by rw [so2]; exact Bool.false_ne_true)
        refine ⟨_, rfl, (by show 3 ≤ sizeLine; decide), fun t1 ht1 => ⟨_, _, rfl, .inr (.of upd_same), rfl, rfl, _, rfl, iteN (c := inV (V.str "aim") [V.str "row", V.str "gaps", V.str "wall"]) (by decide +kernel) ?_⟩⟩
        refine ⟨_, rfl, (by show 4 ≤ sizeLine; decide), fun t2 ht2 => ⟨_, _, rfl, .inr (.of upd_same), rfl, rfl, _, rfl, iteN (c := inV (V.str "aim") [V.str "row", V.str "gaps", V.str "wall", V.str "ahead"]) (by decide +kernel) ?_⟩⟩
        refine ⟨_, rfl, _, rfl, (by show 2 ≤ sizeLine; decide), fun t' ht => ?_⟩
        exact k t' _ (((s2.trans (Same.upd (o := .tup [V.str "row", V.str "gaps", V.str "wall"]) ht1)).trans (Same.upd (o := .tup [V.str "row", V.str "gaps", V.str "wall", V.str "ahead"]) ht2)).trans (Same.upd ht)) (((s2.trans (Same.upd (o := .tup [V.str "row", V.str "gaps", V.str "wall"]) ht1)).trans (Same.upd (o := .tup [V.str "row", V.str "gaps", V.str "wall", V.str "ahead"]) ht2)).free ht) (upd_same.trans (by rw [q1, q2]; rfl))
      | square p b w =>
        have q1 : (wrap wr (PD.square p b w)).limits.1 = none := Option.not_isSome_iff_eq_none.mp (by rw [so1]; exact Bool.false_ne_true)
        have q2 : (wrap wr (PD.square p b w)).limits.2 = none := Option.not_isSome_iff_eq_none.mp (by rw [so2]; exact Bool.false_ne_true)
        refine ⟨_, rfl, (by show 3 ≤ sizeLine; decide), fun t1 ht1 => ⟨_, _, rfl, .inr (.of upd_same), rfl, rfl, _, rfl, iteN (c := inV (V.str "square") [V.str "row", V.str "gaps", V.str "wall"]) (by decide +kernel) ?_⟩⟩
        refine ⟨_, rfl, (by show 4 ≤ sizeLine; decide), fun t2 ht2 => ⟨_, _, rfl, .inr (.of upd_same), rfl, rfl, _, rfl, iteN (c := inV (V.str "square") [V.str "row", V.str "gaps", V.str "wall", V.str "ahead"]) (by decide +kernel) ?_⟩⟩
        refine ⟨_, rfl, _, rfl, (by show 2 ≤ sizeLine; decide), fun t' ht => ?_⟩
        exact k t' _ (((s2.trans (Same.upd (o := .tup [V.str "row", V.str "gaps", V.str "wall"]) ht1)).trans (Same.upd (o := .tup [V.str "row", V.str "gaps", V.str "wall", V.str "ahead"]) ht2)).trans (Same.upd ht)) (((s2.trans (Same.upd (o := .tup [V.str "row", V.str "gaps", V.str "wall"]) ht1)).trans (Same.upd (o := .tup [V.str "row", V.str "gaps", V.str "wall", V.str "ahead"]) ht2)).free ht) (upd_same.trans (by rw [q1, q2]; rfl))
      | row p f vs =>
        obtain ⟨x1, q1⟩ := Option.isSome_iff_exists.mp (show (wrap wr (PD.row p f vs)).limits.1.isSome = true from so1)
        obtain ⟨x2, q2⟩ := Option.isSome_iff_exists.mp (show (wrap wr (PD.row p f vs)).limits.2.isSome = true from so2)
        have hle : x1 ≤ x2 := lim_le (b := PD.row p f vs) (fun x y e1 e2 => by cases e1; cases e2; have := hok.2.l1; omega) wr x1 x2 q1 q2
        have n1 := hnear x1 (.inl q1)
        have n2 := hnear x2 (.inr q2)
        have f1 := filt_first (p := fun x => decide ((wrap wr (PD.row p f vs)).worth x ≠ none)) (lo := -60) (x := x1) (n := 121) (by omega) (by omega) ((pp x1).mpr ⟨fun y e => by rw [q1] at e; cases e; exact Int.le_refl _, fun y e => by rw [q2] at e; cases e; exact hle⟩) (fun y hy => ((pp y).mp hy).1 _ q1)
        obtain ⟨l, f2⟩ := filt_last (p := fun x => decide ((wrap wr (PD.row p f vs)).worth x ≠ none)) (lo := -60) (x := x2) (n := 121) (by omega) (by omega) ((pp x2).mpr ⟨fun y e => by rw [q1] at e; cases e; exact hle, fun y e => by rw [q2] at e; cases e; exact Int.le_refl _⟩) (fun y hy => ((pp y).mp hy).2 _ q2)
        rw [hL] at f1 f2
        have g1 : atI (L.map V.int) (0 : Int) = some (V.int x1) := atI_nat (j := 0) (by rw [List.getElem?_map, f1]; rfl)
        have g2 : atI (L.map V.int) (-1 : Int) = some (V.int x2) := by rw [f2, List.map_append]; exact atI_last _ _
        refine ⟨_, rfl, (by show 3 ≤ sizeLine; decide), fun t1 ht1 => ⟨_, _, rfl, .inr (.of upd_same), rfl, rfl, _, rfl, iteY (c := inV (V.str "row") [V.str "row", V.str "gaps", V.str "wall"]) (by decide +kernel) ⟨_, rfl, _, _, _, _, rfl, rfl, .of ((Same.upd (o := .tup [V.str "row", V.str "gaps", V.str "wall"]) ht1) _ _ e2), g1, ?_⟩⟩⟩
        refine ⟨_, rfl, (by show 4 ≤ sizeLine; decide), fun t2 ht2 => ⟨_, _, rfl, .inr (.of upd_same), rfl, rfl, _, rfl, iteY (c := inV (V.str "row") [V.str "row", V.str "gaps", V.str "wall", V.str "ahead"]) (by decide +kernel) ⟨_, rfl, _, rfl, _, _, _, _, rfl, rfl, .of (((Same.upd (o := .tup [V.str "row", V.str "gaps", V.str "wall"]) ht1).trans (Same.upd (o := .tup [V.str "row", V.str "gaps", V.str "wall", V.str "ahead"]) ht2)) _ _ e2), g2, ?_⟩⟩⟩
        refine ⟨_, rfl, _, rfl, (by show 2 ≤ sizeLine; decide), fun t ht => ?_⟩
        exact k t _ (((s2.trans (Same.upd (o := .tup [V.str "row", V.str "gaps", V.str "wall"]) ht1)).trans (Same.upd (o := .tup [V.str "row", V.str "gaps", V.str "wall", V.str "ahead"]) ht2)).trans (Same.upd ht)) (((s2.trans (Same.upd (o := .tup [V.str "row", V.str "gaps", V.str "wall"]) ht1)).trans (Same.upd (o := .tup [V.str "row", V.str "gaps", V.str "wall", V.str "ahead"]) ht2)).free ht) (upd_same.trans (by rw [q1, q2]; rfl))
      | wall p lo hi =>
        obtain ⟨x1, q1⟩ := Option.isSome_iff_exists.mp (show (wrap wr (PD.wall p lo hi)).limits.1.isSome = true from so1)
        obtain ⟨x2, q2⟩ := Option.isSome_iff_exists.mp (show (wrap wr (PD.wall p lo hi)).limits.2.isSome = true from so2)
        have hle : x1 ≤ x2 := lim_le (b := PD.wall p lo hi) (fun x y e1 e2 => by cases e1; cases e2; exact hok.2.2.2) wr x1 x2 q1 q2
        have n1 := hnear x1 (.inl q1)
        have n2 := hnear x2 (.inr q2)
        have f1 := filt_first (p := fun x => decide ((wrap wr (PD.wall p lo hi)).worth x ≠ none)) (lo := -60) (x := x1) (n := 121) (by omega) (by omega) ((pp x1).mpr ⟨fun y e => by rw [q1] at e; cases e; exact Int.le_refl _, fun y e => by rw [q2] at e; cases e; exact hle⟩) (fun y hy => ((pp y).mp hy).1 _ q1)
        obtain ⟨l, f2⟩ := filt_last (p := fun x => decide ((wrap wr (PD.wall p lo hi)).worth x ≠ none)) (lo := -60) (x := x2) (n := 121) (by omega) (by omega) ((pp x2).mpr ⟨fun y e => by rw [q1] at e; cases e; exact hle, fun y e => by rw [q2] at e; cases e; exact Int.le_refl _⟩) (fun y hy => ((pp y).mp hy).2 _ q2)
        rw [hL] at f1 f2
        have g1 : atI (L.map V.int) (0 : Int) = some (V.int x1) := atI_nat (j := 0) (by rw [List.getElem?_map, f1]; rfl)
        have g2 : atI (L.map V.int) (-1 : Int) = some (V.int x2) := by rw [f2, List.map_append]; exact atI_last _ _
        refine ⟨_, rfl, (by show 3 ≤ sizeLine; decide), fun t1 ht1 => ⟨_, _, rfl, .inr (.of upd_same), rfl, rfl, _, rfl, iteY (c := inV (V.str "wall") [V.str "row", V.str "gaps", V.str "wall"]) (by decide +kernel) ⟨_, rfl, _, _, _, _, rfl, rfl, .of ((Same.upd (o := .tup [V.str "row", V.str "gaps", V.str "wall"]) ht1) _ _ e2), g1, ?_⟩⟩⟩
        refine ⟨_, rfl, (by show 4 ≤ sizeLine; decide), fun t2 ht2 => ⟨_, _, rfl, .inr (.of upd_same), rfl, rfl, _, rfl, iteY (c := inV (V.str "wall") [V.str "row", V.str "gaps", V.str "wall", V.str "ahead"]) (by decide +kernel) ⟨_, rfl, _, rfl, _, _, _, _, rfl, rfl, .of (((Same.upd (o := .tup [V.str "row", V.str "gaps", V.str "wall"]) ht1).trans (Same.upd (o := .tup [V.str "row", V.str "gaps", V.str "wall", V.str "ahead"]) ht2)) _ _ e2), g2, ?_⟩⟩⟩
        refine ⟨_, rfl, _, rfl, (by show 2 ≤ sizeLine; decide), fun t ht => ?_⟩
        exact k t _ (((s2.trans (Same.upd (o := .tup [V.str "row", V.str "gaps", V.str "wall"]) ht1)).trans (Same.upd (o := .tup [V.str "row", V.str "gaps", V.str "wall", V.str "ahead"]) ht2)).trans (Same.upd ht)) (((s2.trans (Same.upd (o := .tup [V.str "row", V.str "gaps", V.str "wall"]) ht1)).trans (Same.upd (o := .tup [V.str "row", V.str "gaps", V.str "wall", V.str "ahead"]) ht2)).free ht) (upd_same.trans (by rw [q1, q2]; rfl))
      | near o t b w =>
        have q1 : (wrap wr (PD.near o t b w)).limits.1 = none := Option.not_isSome_iff_eq_none.mp (by rw [so1]; exact Bool.false_ne_true)
        have q2 : (wrap wr (PD.near o t b w)).limits.2 = none := Option.not_isSome_iff_eq_none.mp (by rw [so2]; exact Bool.false_ne_true)
        refine ⟨_, rfl, (by show 3 ≤ sizeLine; decide), fun t1 ht1 => ⟨_, _, rfl, .inr (.of upd_same), rfl, rfl, _, rfl, iteN (c := inV (V.str "near") [V.str "row", V.str "gaps", V.str "wall"]) (by decide +kernel) ?_⟩⟩
        refine ⟨_, rfl, (by show 4 ≤ sizeLine; decide), fun t2 ht2 => ⟨_, _, rfl, .inr (.of upd_same), rfl, rfl, _, rfl, iteN (c := inV (V.str "near") [V.str "row", V.str "gaps", V.str "wall", V.str "ahead"]) (by decide +kernel) ?_⟩⟩
        refine ⟨_, rfl, _, rfl, (by show 2 ≤ sizeLine; decide), fun t' ht => ?_⟩
        exact k t' _ (((s2.trans (Same.upd (o := .tup [V.str "row", V.str "gaps", V.str "wall"]) ht1)).trans (Same.upd (o := .tup [V.str "row", V.str "gaps", V.str "wall", V.str "ahead"]) ht2)).trans (Same.upd ht)) (((s2.trans (Same.upd (o := .tup [V.str "row", V.str "gaps", V.str "wall"]) ht1)).trans (Same.upd (o := .tup [V.str "row", V.str "gaps", V.str "wall", V.str "ahead"]) ht2)).free ht) (upd_same.trans (by rw [q1, q2]; rfl))
      | gaps o u f vs =>
        obtain ⟨x1, q1⟩ := Option.isSome_iff_exists.mp (show (wrap wr (PD.gaps o u f vs)).limits.1.isSome = true from so1)
        obtain ⟨x2, q2⟩ := Option.isSome_iff_exists.mp (show (wrap wr (PD.gaps o u f vs)).limits.2.isSome = true from so2)
        have hle : x1 ≤ x2 := lim_le (b := PD.gaps o u f vs) (fun x y e1 e2 => by cases e1; cases e2; have := hok.2.2.2.l1; omega) wr x1 x2 q1 q2
        have n1 := hnear x1 (.inl q1)
        have n2 := hnear x2 (.inr q2)
        have f1 := filt_first (p := fun x => decide ((wrap wr (PD.gaps o u f vs)).worth x ≠ none)) (lo := -60) (x := x1) (n := 121) (by omega) (by omega) ((pp x1).mpr ⟨fun y e => by rw [q1] at e; cases e; exact Int.le_refl _, fun y e => by rw [q2] at e; cases e; exact hle⟩) (fun y hy => ((pp y).mp hy).1 _ q1)
        obtain ⟨l, f2⟩ := filt_last (p := fun x => decide ((wrap wr (PD.gaps o u f vs)).worth x ≠ none)) (lo := -60) (x := x2) (n := 121) (by omega) (by omega) ((pp x2).mpr ⟨fun y e => by rw [q1] at e; cases e; exact hle, fun y e => by rw [q2] at e; cases e; exact Int.le_refl _⟩) (fun y hy => ((pp y).mp hy).2 _ q2)
        rw [hL] at f1 f2
        have g1 : atI (L.map V.int) (0 : Int) = some (V.int x1) := atI_nat (j := 0) (by rw [List.getElem?_map, f1]; rfl)
        have g2 : atI (L.map V.int) (-1 : Int) = some (V.int x2) := by rw [f2, List.map_append]; exact atI_last _ _
        refine ⟨_, rfl, (by show 3 ≤ sizeLine; decide), fun t1 ht1 => ⟨_, _, rfl, .inr (.of upd_same), rfl, rfl, _, rfl, iteY (c := inV (V.str "gaps") [V.str "row", V.str "gaps", V.str "wall"]) (by decide +kernel) ⟨_, rfl, _, _, _, _, rfl, rfl, .of ((Same.upd (o := .tup [V.str "row", V.str "gaps", V.str "wall"]) ht1) _ _ e2), g1, ?_⟩⟩⟩
        refine ⟨_, rfl, (by show 4 ≤ sizeLine; decide), fun t2 ht2 => ⟨_, _, rfl, .inr (.of upd_same), rfl, rfl, _, rfl, iteY (c := inV (V.str "gaps") [V.str "row", V.str "gaps", V.str "wall", V.str "ahead"]) (by decide +kernel) ⟨_, rfl, _, rfl, _, _, _, _, rfl, rfl, .of (((Same.upd (o := .tup [V.str "row", V.str "gaps", V.str "wall"]) ht1).trans (Same.upd (o := .tup [V.str "row", V.str "gaps", V.str "wall", V.str "ahead"]) ht2)) _ _ e2), g2, ?_⟩⟩⟩
        refine ⟨_, rfl, _, rfl, (by show 2 ≤ sizeLine; decide), fun t ht => ?_⟩
        exact k t _ (((s2.trans (Same.upd (o := .tup [V.str "row", V.str "gaps", V.str "wall"]) ht1)).trans (Same.upd (o := .tup [V.str "row", V.str "gaps", V.str "wall", V.str "ahead"]) ht2)).trans (Same.upd ht)) (((s2.trans (Same.upd (o := .tup [V.str "row", V.str "gaps", V.str "wall"]) ht1)).trans (Same.upd (o := .tup [V.str "row", V.str "gaps", V.str "wall", V.str "ahead"]) ht2)).free ht) (upd_same.trans (by rw [q1, q2]; rfl))
      | ahead o t g =>
        have q1 : (wrap wr (PD.ahead o t g)).limits.1 = none := Option.not_isSome_iff_eq_none.mp (by rw [so1]; exact Bool.false_ne_true)
        obtain ⟨x2, q2⟩ := Option.isSome_iff_exists.mp (show (wrap wr (PD.ahead o t g)).limits.2.isSome = true from so2)
        have n2 := hnear x2 (.inr q2)
        obtain ⟨l, f2⟩ := filt_last (p := fun x => decide ((wrap wr (PD.ahead o t g)).worth x ≠ none)) (lo := -60) (x := x2) (n := 121) (by omega) (by omega) ((pp x2).mpr ⟨fun y e => (by rw [q1] at e; cases e), fun y e => by rw [q2] at e; cases e; exact Int.le_refl _⟩) (fun y hy => ((pp y).mp hy).2 _ q2)
        rw [hL] at f2
        have g2 : atI (L.map V.int) (-1 : Int) = some (V.int x2) := by rw [f2, List.map_append]; exact atI_last _ _
        refine ⟨_, rfl, (by show 3 ≤ sizeLine; decide), fun t1 ht1 => ⟨_, _, rfl, .inr (.of upd_same), rfl, rfl, _, rfl, iteN (c := inV (V.str "ahead") [V.str "row", V.str "gaps", V.str "wall"]) (by decide +kernel) ?_⟩⟩
        refine ⟨_, rfl, (by show 4 ≤ sizeLine; decide), fun t2 ht2 => ⟨_, _, rfl, .inr (.of upd_same), rfl, rfl, _, rfl, iteY (c := inV (V.str "ahead") [V.str "row", V.str "gaps", V.str "wall", V.str "ahead"]) (by decide +kernel) ⟨_, rfl, _, rfl, _, _, _, _, rfl, rfl, .of (((Same.upd (o := .tup [V.str "row", V.str "gaps", V.str "wall"]) ht1).trans (Same.upd (o := .tup [V.str "row", V.str "gaps", V.str "wall", V.str "ahead"]) ht2)) _ _ e2), g2, ?_⟩⟩⟩
        refine ⟨_, rfl, _, rfl, (by show 2 ≤ sizeLine; decide), fun t' ht => ?_⟩
        exact k t' _ (((s2.trans (Same.upd (o := .tup [V.str "row", V.str "gaps", V.str "wall"]) ht1)).trans (Same.upd (o := .tup [V.str "row", V.str "gaps", V.str "wall", V.str "ahead"]) ht2)).trans (Same.upd ht)) (((s2.trans (Same.upd (o := .tup [V.str "row", V.str "gaps", V.str "wall"]) ht1)).trans (Same.upd (o := .tup [V.str "row", V.str "gaps", V.str "wall", V.str "ahead"]) ht2)).free ht) (upd_same.trans (by rw [q1, q2]; rfl))

end
end Ev

namespace Ev
open PySem L2 Ax
section
variable {P : Program} {w : World} {K : PySem.W.Frag} {mg : Str → Option Value} {base : Heap} {C : Str → Addr} {f : Addr} {fd : FuncData}

def dO : Option Int → PyData
  | none => .none
  | some i => .int i
theorem dp_vO {K : PySem.W.Frag} {H : Hp} : ∀ o : Option Int, Dp K H (vO o) (dO o)
  | none => .non
  | some i => .int i
theorem shp_two (a b : Option Int) : SeqAt.shaped (.tuple [dO a, dO b]) = true := by
  cases a <;> cases b <;> rfl
theorem eqv_two (a b : Option Int) : PyData.eqv (.tuple [dO a, dO b]) (.tuple [dO a, dO b]) = true := by
  cases a <;> cases b <;> simp [dO, PyData.eqv, PyData.eqvAll]
theorem scal_vO (o : Option Int) : scal (vO o) (vO o) = true := by cases o <;> rfl
def spRight (C : Str → Addr) : Sp := fun vs H Q _ => ∃ (b : PD) (wr : Wr) (a wl nl rl : Addr) (ws : List V) (c : Int), vs = [.ref a, .int c] ∧ LAt H b wr a wl nl rl ws ∧ b.ok ∧ WrGood wr ∧ LimOk b ∧ ∀ H', Same H H' → Q (.bl true) H'

theorem ok_law_right (T : Txt K mg C) (TC : ClsT K C) (IT : IsT K C) (c_law_made : C8.Cal P w K mg base 10 "_law_made" (spMade C) []) (c_law_at : C8.Cal P w K mg base 1 "_law_at" spAt []) (c_law_ends : C8.Cal P w K mg base 2 "_law_ends" spEnds [])
  (MS : ∀ c ∈ clss, C8.Met P w K mg base 11 (C c) "stands" (spStands C 8 c) []) (MW : ∀ c ∈ clss, C8.Met P w K mg base 11 (C c) "worth_of" (spWorth C 8 c) []) (ML : ∀ c ∈ clss, C8.Met P w K mg base 11 (C c) "limits" (spLimits C 8 c) []) (F : C8.Def K mg "_law_right" s_law_right f fd) (b : Binds K fd ["_law_part_here", "_law_cell"] []) : C8.Cal P w K mg base 12 "_law_right" (spRight C) [] := by
  refine C8.cal0 F b .nil sc_law_right (fun vs H Q E h => ?_) (fun cdv A outer s H vs Q E hr h => ?_)
  · obtain ⟨b, wr, a, wl, nl, rl, ws, c, rfl, h, hok, hg, hlim, k⟩ := h
    rfl
  · obtain ⟨b, wr, a, wl, nl, rl, ws, c, rfl, h, hok, hg, hlim, k⟩ := h
    refine ⟨_, (pss_cons (ps_set (i := 2) sc_law_right.nd rfl (Or.inl rfl) (C8.pe_c c_law_made hr (by decide) rfl (pa_cons (pv 0) pa_nil)))
    (pss_cons (ps_if (PW.pt (pw_or (pt_not (pt_val (pe_callB call_isi (by rfl) T.b_isinstance (by decide +kernel) (pa_cons (pv 2) (pa_cons (C8.pe_gc rfl T.g_Part) pa_nil))))) (pw_or (pt_cmpR (op_neD hr.units) (pe_anyP (p := fun c => c ∈ clss) fun c hc => C8.pe_mt0 (MS c hc) hr (Nat.le_refl _) (pv 2)) (pe_ix ix_tup (pv 0) pe_int (fun _ _ => rfl)) (nomark _)) (pw_or1 (pt_not (pt_val (pe_callB call_isi (by rfl) T.b_isinstance (by decide +kernel) (pa_cons (pe_anyP (p := fun c => c ∈ clss) fun c hc => C8.pe_mt0 (MS c hc) hr (Nat.le_refl _) (pv 2)) (pa_cons (pe_bltn (v := .ty "list") (u := .type "list") (by rfl) T.b_list (by decide +kernel) rfl) pa_nil))))))))) (pss_one (ps_ret pe_bl)) pss_nil)
    (pss_cons (ps_for PassesOwn.never rfl (pi_list (pe_op op_cat (pe_listRg rfl (by rfl) T.b_list (prg_2 (by rfl) T.b_range (pe_un un_neg pe_int) pe_int)) (pe_lst (pa_cons pe_int (pa_cons (pe_un un_neg pe_int) (pa_cons (pe_op op_add pe_int (pe_op op_mod (pv 1) pe_int)) (pa_cons (pe_op op_sub (pe_un un_neg (pe_op op_pow pe_int pe_int)) (pe_op op_mod (pv 1) (pe_op op_pow pe_int pe_int))) pa_nil))))))) (pg_name (i := 3) sc_law_right.nd rfl (Or.inl rfl)) (pss_cons (ps_set (i := 4) sc_law_right.nd rfl (Or.inl rfl) (C8.pe_c c_law_at hr (by decide) rfl (pa_cons (pv 0) (pa_cons (pv 3) pa_nil))))
    (pss_cons (ps_set (i := 5) sc_law_right.nd rfl (Or.inl rfl) (pe_anyP (p := fun c => c ∈ clss) fun c hc => C8.pe_mt (MW c hc) hr (Nat.le_refl _) (pv 2) (pa_cons (pv 3) pa_nil)))
    (pss_one (ps_if (PW.pt (pw_or (pt_cmpR op_ne (pv 5) (pv 4) (nomark _)) (pw_or (pt_val (pe_callB call_isi (by rfl) T.b_isinstance (by decide +kernel) (pa_cons (pv 5) (pa_cons (pe_bltn (v := .ty "bool") (u := .type "bool") (by rfl) T.b_bool (by decide +kernel) rfl) pa_nil)))) (pw_or1 (pt_cmpR op_ne (pe_cmp (pc_isN (pv 5))) (pe_cmp (pc_isN (pv 4))) (nomark _)))))) (pss_one (ps_ret pe_bl)) pss_nil)))))
    (pss_cons (ps_set (i := 5) sc_law_right.nd rfl (Or.inl rfl) (pe_anyP (p := fun c => c ∈ clss) fun c hc => C8.pe_mt0 (ML c hc) hr (Nat.le_refl _) (pv 2)))
    (pss_cons (ps_if (PW.pt (pw_or (pt_not (pt_val (pe_callB call_isi (by rfl) T.b_isinstance (by decide +kernel) (pa_cons (pv 5) (pa_cons (pe_bltn (v := .ty "tuple") (u := .type "tuple") (by rfl) T.b_tuple (by decide +kernel) rfl) pa_nil))))) (pw_or (pt_cmpR (op_neD hr.units) (pv 5) (C8.pe_c c_law_ends hr (by decide) rfl (pa_cons (pv 0) pa_nil)) (nomark _)) (pw_or1 (pt_cmpR (op_neD hr.units) (pe_anyP (p := fun c => c ∈ clss) fun c hc => C8.pe_mt0 (ML c hc) hr (Nat.le_refl _) (pv 2)) (pv 5) (nomark _)))))) (pss_one (ps_ret pe_bl)) pss_nil)
    (pss_cons (ps_expr (pe_bm PySem.F.plainAttrs_list PySem.F.slot_list_append PySem.F.type_list_append mt_append (pe_anyP (p := fun c => c ∈ clss) fun c hc => C8.pe_mt0 (MS c hc) hr (Nat.le_refl _) (pv 2)) (pa_cons pe_int pa_nil)))
    (pss_one (ps_ret (pe_and (pe_cmpR (op_eqD hr.units) (pe_anyP (p := fun c => c ∈ clss) fun c hc => C8.pe_mt0 (MS c hc) hr (Nat.le_refl _) (pv 2)) (pe_ix ix_tup (pv 0) pe_int (fun _ _ => rfl)) (nomark _)) (pe_one (pe_cmpR op_eq (pe_anyP (p := fun c => c ∈ clss) fun c hc => C8.pe_mt (MW c hc) hr (Nat.le_refl _) (pv 2) (pa_cons pe_int pa_nil)) (C8.pe_c c_law_at hr (by decide) rfl (pa_cons (pv 0) (pa_cons pe_int pa_nil))) (nomark _)))))))))))), ?_⟩
    obtain ⟨ho, hl3, hw3⟩ := hg
    refine ⟨_, rfl, b, wr, a, wl, nl, rl, ws, rfl, h, hok, ho, fun p0 H1 s1 np hp => ?_⟩
    have hst := stands_wrap b wr
    have hwr8 : (wrap wr b).wraps ≤ 8 := by rw [wraps_wrap b h.base]; exact ho.1
    have hokw := ok_wrap h.base hok ho
    -- a call of a method of the part: its reading's first half
    have meth : ∀ (H2 : Hp), Same H1 H2 → ∃ dx fs, H2 p0 = some (.ins (C (wrap wr b).cls) dx fs) ∧ (∀ q ∈ fs, q.1 ∈ flds) := fun H2 s => (hp.same s).ins
    obtain ⟨dx, fs, hI, hF⟩ := meth H1 (Same.refl _)
    generalize hpd : wrap wr b = pd at *
    refine ⟨_, rfl, _, _, _, _, _, rfl, .own _, ty_of IT TC pd.cls_mem hI, IT.par _ pd.cls_mem, _, rfl, iteF ?_⟩
    refine ⟨pd.cls, pd.cls_mem, _, rfl, _, _, _, rfl, hI, lookup_no no_stands hF, pd, p0, rfl, rfl, hwr8, hp, fun l2 H2 s2 hn2 e2 => ?_⟩
    have h2 := (h.same s1).same s2
    refine ⟨_, rfl, _, _, (1 : Int), _, rfl, rfl, .of h2.at_, rfl, _, _, .lst (.of e2) (dp_ints _), .lst (.of h2.wh) (dp_ints _), shp_ints _, shp_ints _, _, rfl, ?_⟩
    rw [eqv_ints, decide_eq_true hst]
    refine iteF ?_
    have hI2 := s2 _ _ hI
    have hp2 := hp.same s2
    refine ⟨pd.cls, pd.cls_mem, _, rfl, _, _, _, rfl, hI2, lookup_no no_stands hF, pd, p0, rfl, rfl, hwr8, hp2, fun l3 H3 s3 hn3 e3 => ?_⟩
    refine ⟨_, _, _, _, true, rfl, .ty _, .base (.lst e3), kit_ty (by decide +kernel), _, rfl, ?_⟩
    refine iteF ?_
    have h3 := h2.same s3
    have hI3 := s3 _ _ hI2
    have hp3 := hp2.same s3
    -- the numbers read
    refine ⟨_, rfl, _, _, rfl, rfl, ⟨by decide, by decide, by decide, by decide, by decide⟩, fun l4 hn4 => ?_⟩
    refine ⟨_, rfl, _, rfl, _, _, rfl, rfl, (by show (0 : Int) < 977; decide), _, _, rfl, rfl, _, _, rfl, rfl, ⟨by decide, by decide, by decide⟩, _, rfl, _, rfl, _, _, rfl, rfl, ⟨by decide, by decide, by decide⟩, _, _, rfl, rfl, (by show (0 : Int) < 10 ^ (6 : Int).toNat; decide), _, _, rfl, rfl, (by show 4 ≤ sizeLine; decide), fun l5 hn5 => ?_⟩
    refine ⟨_, _, _, _, rfl, rfl, (by rw [upd_ne (fun q => by rw [← q, upd_same] at hn5; cases hn5)]; exact upd_same), upd_same, ?_, fun l6 hn6 => ?_⟩
    · rw [rgV_length]
      show 25 + 4 ≤ sizeLine
      decide
    have hX : ∀ y ∈ rgV (-12) 13 ++ [V.int 30, V.int (-30), V.int (1000 + c % 977), V.int (-(10 ^ (9 : Int).toNat) - c % 10 ^ (6 : Int).toNat)], ∃ r : Int, y = V.int r ∧ -(2 ^ 50) ≤ r ∧ r ≤ 2 ^ 50 := by
      have m1 : 0 ≤ c % 977 ∧ c % 977 < 977 := ⟨Int.emod_nonneg _ (by decide), Int.emod_lt_of_pos _ (by decide)⟩
      have e6 : (10 : Int) ^ (6 : Int).toNat = 1000000 := by decide
      have e9 : (10 : Int) ^ (9 : Int).toNat = 1000000000 := by decide
      rw [e6, e9]
      have m2 : 0 ≤ c % 1000000 ∧ c % 1000000 < 1000000 := ⟨Int.emod_nonneg _ (by decide), Int.emod_lt_of_pos _ (by decide)⟩
      intro y hy
      rcases List.mem_append.mp hy with hy | hy
      · unfold rgV at hy
        obtain ⟨i, hi, rfl⟩ := List.mem_map.mp hy
        rw [List.mem_range] at hi
        have hi' : i < 25 := hi
        exact ⟨_, rfl, by omega, by omega⟩
      · simp only [List.mem_cons, List.not_mem_nil, or_false] at hy
        rcases hy with rfl | rfl | rfl | rfl
        · exact ⟨_, rfl, by decide, by decide⟩
        · exact ⟨_, rfl, by decide, by decide⟩
        · exact ⟨_, rfl, by omega, by omega⟩
        · exact ⟨_, rfl, by omega, by omega⟩
    have s6 : Same H3 _ := ((Same.upd (o := .lst (rgV (-12) 13)) hn4).trans (Same.upd (o := .lst [V.int 30, V.int (-30), V.int (1000 + c % 977), V.int (-(10 ^ (9 : Int).toNat) - c % 10 ^ (6 : Int).toNat)]) hn5)).trans (Same.upd (o := .lst (rgV (-12) 13 ++ [V.int 30, V.int (-30), V.int (1000 + c % 977), V.int (-(10 ^ (9 : Int).toNat) - c % 10 ^ (6 : Int).toNat)])) hn6)
    have e6 : upd (upd (upd H3 l4 (.lst (rgV (-12) 13))) l5 (.lst [V.int 30, V.int (-30), V.int (1000 + c % 977), V.int (-(10 ^ (9 : Int).toNat) - c % 10 ^ (6 : Int).toNat)])) l6 (.lst (rgV (-12) 13 ++ [V.int 30, V.int (-30), V.int (1000 + c % 977), V.int (-(10 ^ (9 : Int).toNat) - c % 10 ^ (6 : Int).toNat)])) l6 = some _ := upd_same
    generalize rgV (-12) 13 ++ [V.int 30, V.int (-30), V.int (1000 + c % 977), V.int (-(10 ^ (9 : Int).toNat) - c % 10 ^ (6 : Int).toNat)] = X at hX s6 e6 ⊢
    generalize upd (upd (upd H3 l4 (.lst (rgV (-12) 13))) l5 (.lst [V.int 30, V.int (-30), V.int (1000 + c % 977), V.int (-(10 ^ (9 : Int).toNat) - c % 10 ^ (6 : Int).toNat)])) l6 (.lst X) = HB at s6 e6 ⊢
    refine ⟨l6, rfl, ⟨_, .of e6⟩, for_list (K := K) (a := l6) (xs := X) (fun i σ H' => Same HB H' ∧ ∃ v3 v4 v5, σ = [some (.ref a), some (.int c), some (.ref p0), v3, v4, v5]) ⟨Same.refl _, _, _, _, rfl⟩ (fun i σ H' _ ⟨s, _⟩ => .of (s _ _ e6)) ?_ ?_⟩
    · rintro i y σ H4 hi ⟨s4, v3, v4, v5, rfl⟩
      obtain ⟨r, rfl, hr1, hr2⟩ := hX y (List.mem_of_getElem? hi)
      have t4 := s6.trans s4
      refine ⟨_, rfl, _, rfl, b, wr, a, wl, nl, rl, ws, r, rfl, h3.same t4, ho, by omega, by omega, fun p w e => (by subst e; exact ⟨hok.2.1, hok.2.2⟩), hok, fun H5 s5 => ?_⟩
      rw [hpd]
      have t5 := t4.trans s5
      refine ⟨pd.cls, pd.cls_mem, _, rfl, _, _, _, rfl, t5 _ _ hI3, lookup_no no_worth hF, _, rfl, pd, p0, r, rfl, rfl, hwr8, hokw, hp3.same t5, (by unfold Rd; omega), ?_⟩
      refine ⟨_, rfl, _, rfl, scal_vO _, _, rfl, ?_⟩
      rw [decide_eq_true rfl]
      refine iteF ?_
      cases pd.worth r with
      | none =>
        refine ⟨_, rfl, _, _, _, _, false, rfl, .ty _, .base .non, kit_ty (by decide +kernel), _, rfl, iteF ⟨_, rfl, _, rfl, rfl, _, rfl, ?_⟩⟩
        rw [decide_eq_true rfl]
        exact iteF ⟨s4.trans s5, _, _, _, rfl⟩
      | some z =>
        refine ⟨_, rfl, _, _, _, _, false, rfl, .ty _, .base (.int _), kit_ty (by decide +kernel), _, rfl, iteF ⟨_, rfl, _, rfl, rfl, _, rfl, ?_⟩⟩
        rw [decide_eq_true rfl]
        exact iteF ⟨s4.trans s5, _, _, _, rfl⟩
    · rintro σ H4 ⟨s4, v3, v4, v5, rfl⟩
      have t4 := s6.trans s4
      refine ⟨pd.cls, pd.cls_mem, _, rfl, _, _, _, rfl, t4 _ _ hI3, lookup_no no_limits hF, pd, p0, rfl, rfl, hwr8, hp3.same t4, fun l7 H7 s7 hn7 e7 => ?_⟩
      have t7 := t4.trans s7
      refine ⟨_, rfl, _, _, _, _, true, rfl, .ty _, .base (.tup e7), kit_ty (by decide +kernel), _, rfl, iteF ?_⟩
      refine ⟨_, rfl, _, rfl, b, wr, a, wl, nl, rl, ws, rfl, h3.same t7, hok, ⟨ho, hl3, hw3⟩, hlim, fun l8 H8 s8 hn8 e8 => ?_⟩
      rw [hpd] at e8
      have e7' := s8 _ _ e7
      have t8 := t7.trans s8
      refine ⟨_, _, .tup (.of e7') (.cons (dp_vO _) (.cons (dp_vO _) .nil)), .tup (.of e8) (.cons (dp_vO _) (.cons (dp_vO _) .nil)), shp_two _ _, shp_two _ _, _, rfl, ?_⟩
      rw [eqv_two]
      refine iteF ?_
      refine ⟨pd.cls, pd.cls_mem, _, rfl, _, _, _, rfl, t8 _ _ hI3, lookup_no no_limits hF, pd, p0, rfl, rfl, hwr8, hp3.same t8, fun l9 H9 s9 hn9 e9 => ?_⟩
      have t9 := t8.trans s9
      refine ⟨_, rfl, _, _, .tup (.of e9) (.cons (dp_vO _) (.cons (dp_vO _) .nil)), .tup (.of (s9 _ _ e7')) (.cons (dp_vO _) (.cons (dp_vO _) .nil)), shp_two _ _, shp_two _ _, _, rfl, ?_⟩
      rw [eqv_two]
      refine iteF ?_
      refine ⟨pd.cls, pd.cls_mem, _, rfl, _, _, _, rfl, t9 _ _ hI3, lookup_no no_stands hF, pd, p0, rfl, rfl, hwr8, hp3.same t9, fun m1 G1 u1 hm1 f1 => ?_⟩
      refine ⟨.inl ⟨rfl, _, .of f1⟩, _, _, _, rfl, rfl, f1, ?_, ?_⟩
      · rw [List.length_map, hst]
        exact small1000 (by cases b <;> simp [PD.stands] <;> exact h.base.elim)
      have t10 : Same H3 (upd G1 m1 (.lst (pd.stands.map V.int ++ [V.int 0]))) := Same.updN (t9.trans u1) (t9.free hm1)
      generalize upd G1 m1 (.lst (pd.stands.map V.int ++ [V.int 0])) = G2 at t10 ⊢
      refine ⟨pd.cls, pd.cls_mem, _, rfl, _, _, _, rfl, t10 _ _ hI3, lookup_no no_stands hF, pd, p0, rfl, rfl, hwr8, hp3.same t10, fun m2 G3 u3 hm3 f3 => ?_⟩
      have t11 := t10.trans u3
      have h11 := h3.same t11
      refine ⟨_, rfl, _, _, (1 : Int), _, rfl, rfl, .of h11.at_, rfl, _, _, .lst (.of f3) (dp_ints _), .lst (.of h11.wh) (dp_ints _), shp_ints _, shp_ints _, _, rfl, ?_⟩
      rw [eqv_ints, decide_eq_true hst]
      refine iteT ⟨pd.cls, pd.cls_mem, _, rfl, _, _, _, rfl, t11 _ _ hI3, lookup_no no_worth hF, pd, p0, 0, rfl, rfl, hwr8, hokw, hp3.same t11, (by unfold Rd; decide), ?_⟩
      refine ⟨_, rfl, b, wr, a, wl, nl, rl, ws, 0, rfl, h11, ho, by decide, by decide, fun p w e => (by subst e; exact ⟨hok.2.1, hok.2.2⟩), hok, fun H12 s12 => ⟨?_, ?_⟩⟩
      · rw [hpd]
        exact scal_vO _
      · rw [hpd]
        have ed : decide (vO (pd.worth 0) = vO (pd.worth 0)) = true := decide_eq_true rfl
        show Q (V.bl (decide (vO (pd.worth 0) = vO (pd.worth 0)))) H12
        rw [ed]
        exact k _ (s1.trans (s2.trans (s3.trans (t11.trans s12))))

end
end Ev

namespace Ev
open PySem L2 Ax
section
variable {P : Program} {w : World} {K : PySem.W.Frag} {mg : Str → Option Value} {base : Heap} {C : Str → Addr} {f : Addr} {fd : FuncData}

theorem yes_go {σ : L2.St} {H : Hp} {A B : Hp → Prop} (h : A H) : tYes σ H (fun b H3 => if b = true then A H3 else B H3) := by
  show (if true = true then A H else B H)
  exact iteT h
def spClasses : Sp := fun vs H Q _ => ∃ c : Int, vs = [.int c] ∧ ∀ H', Same H H' → Q (.bl true) H'
theorem even3 {e : Int} (h : 0 ≤ e) : Even [3, 1, 1 + e] := by
  intro i hi
  have : i = 0 := by
    have : i + 2 < 3 := hi
    omega
  subst this
  show 2 * (1 : Int) ≤ 3 + (1 + e)
  omega
theorem row3 {e : Int} (h0 : 0 ≤ e) (h8 : e < 9) : RowOk (-1) [3, 1, 1 + e] := by
  refine ⟨by unfold Rch; omega, by show 1 ≤ 3; decide, by show 3 ≤ 40; decide, fun x hx => ?_, even3 h0⟩
  simp only [List.mem_cons, List.not_mem_nil, or_false] at hx
  rcases hx with rfl | rfl | rfl <;> omega
theorem sq_eq (x : Int) : 1 * (x - 5) * (x - 5) = (x - 5) ^ (2 : Int).toNat := by
  rw [Int.one_mul]
  show _ = (x - 5) ^ 2
  rw [Int.pow_succ, Int.pow_succ, Int.pow_zero, Int.one_mul]
def spLaw (K : PySem.W.Frag) : Sp := fun vs H Q _ => ∃ (a : Addr) (ns : List Int), vs = [.ref a] ∧ SqL K H a (ns.map V.int) ∧ ns.length ≤ 63 ∧ ∀ H', Q (.bl true) H'

theorem ok_law_classes (T : Txt K mg C) (TC : ClsT K C) (IT : IsT K C) (I2 : IsT2 K C)
  (MS : ∀ c ∈ clss, C8.Met P w K mg base 11 (C c) "stands" (spStands C 8 c) []) (MW : ∀ c ∈ clss, C8.Met P w K mg base 11 (C c) "worth_of" (spWorth C 8 c) [])
  (m_Row : C8.Mak P w K mg base 5 "Row" (C "Row") (spIRow K C) []) (m_Gaps : C8.Mak P w K mg base 6 "Gaps" (C "Gaps") (spIGaps C) []) (m_Ahead : C8.Mak P w K mg base 6 "Ahead" (C "Ahead") (spIAhead C) [])
  (m_Near2 : C8.Mak P w K mg base 7 "Near" (C "Near") (spINear C) [.int 0, .int 1]) (k_Near : MakKw P w K mg base 7 2 "Near" (C "Near") ["weight"] (spINear C) (fun vs zs => vs ++ [.int 0] ++ zs))
  (m_Aim2 : C8.Mak P w K mg base 6 "Aim" (C "Aim") (spIAim C) [.int 1]) (m_Square2 : C8.Mak P w K mg base 6 "Square" (C "Square") (spISquare C) [.int 1]) (F : C8.Def K mg "_law_classes" s_law_classes f fd) (b : Binds K fd ["_law_cell"] []) : C8.Cal P w K mg base 12 "_law_classes" spClasses [] := by
  refine C8.cal0 F b .nil sc_law_classes (fun vs H Q E h => ?_) (fun cdv A outer s H vs Q E hr h => ?_)
  · obtain ⟨c, rfl, k⟩ := h
    rfl
  · obtain ⟨c, rfl, k⟩ := h
    refine ⟨_, (pss_cons (ps_set (i := 1) sc_law_classes.nd rfl (Or.inl rfl) (pe_lst (pa_cons pe_int (pa_cons pe_int (pa_cons (pe_op op_add pe_int (pe_op op_mod (pv 0) pe_int)) pa_nil)))))
    (pss_cons (ps_set (i := 2) sc_law_classes.nd rfl (Or.inl rfl) (C8.pe_mk m_Row hr (by decide) rfl (pa_cons pe_int (pa_cons (pe_un un_neg pe_int) (pa_cons (pv 1) pa_nil)))))
    (pss_cons (ps_set (i := 3) sc_law_classes.nd rfl (Or.inl rfl) (C8.pe_mk m_Gaps hr (by decide) rfl (pa_cons pe_int (pa_cons pe_int (pa_cons (pe_un un_neg pe_int) (pa_cons (pv 1) pa_nil))))))
    (pss_cons (ps_expr (pe_bm0 PySem.F.plainAttrs_list PySem.F.slot_list_clear PySem.F.type_list_clear mt_clear (pv 1)))
    (pss_cons (ps_set (i := 4) sc_law_classes.nd rfl (Or.inr rfl) (C8.pe_mk m_Near2 hr (by decide) rfl (pa_cons pe_int (pa_cons pe_int pa_nil))))
    (pss_cons (ps_if (PW.pt (pw_or (pt_not (pt_val (pe_callB call_isi (by rfl) T.b_isinstance (by decide +kernel) (pa_cons (pv 4) (pa_cons (C8.pe_gc rfl T.g_Aim) pa_nil))))) (pw_or (pt_not (pt_val (pe_callB call_isi (by rfl) T.b_isinstance (by decide +kernel) (pa_cons (pv 3) (pa_cons (C8.pe_gc rfl T.g_Row) pa_nil))))) (pw_or1 (pt_not (pt_val (pe_callB call_isi (by rfl) T.b_isinstance (by decide +kernel) (pa_cons (C8.pe_mk m_Ahead hr (by decide) rfl (pa_cons pe_int (pa_cons pe_int (pa_cons pe_int pa_nil)))) (pa_cons (C8.pe_gc rfl T.g_Part) pa_nil))))))))) (pss_one (ps_ret pe_bl)) pss_nil)
    (pss_cons (ps_if (PW.pt (pw_or (pt_cmpR (op_neD hr.units) (pe_lc (own := [("_law_reads", 5)]) (g := gName 5) (tt := tYes) rfl sc_law_classes.nd (pi_tup (pe_tup (pa_cons (pe_un un_neg pe_int) (pa_cons pe_int (pa_cons pe_int pa_nil))))) (blkOk_by (N := ["_law_cell", "_law_worths_here", "_law_row", "_law_gaps", "_law_near", "_law_reads"]) (sc := (defScope s_law_classes)) (by decide +kernel)) (fun _ _ _ _ _ => pg_name (i := 5) sc_law_classes.nd rfl (Or.inl rfl)) (fun _ _ _ _ _ => pts_nil) (fun _ _ _ _ _ => (pe_anyP (p := fun c => c ∈ clss) fun c hc => C8.pe_mt (MW c hc) hr (Nat.le_refl _) (pv 4) (pa_cons (pv 5) pa_nil)))) (pe_lst (pa_cons pe_int (pa_cons pe_int (pa_cons pe_int pa_nil)))) (nomark _)) (pw_or1 (pt_cmpR op_ne (pe_anyP (p := fun c => c ∈ clss) fun c hc => C8.pe_mt (MW c hc) hr (Nat.le_refl _) (pe_mkw k_Near hr (by decide) rfl (pa_cons pe_int (pa_cons pe_int pa_nil)) (pk_cons pe_int pk_nil)) (pa_cons (pe_un un_neg pe_int) pa_nil)) pe_int (nomark _))))) (pss_one (ps_ret pe_bl)) pss_nil)
    (pss_cons (ps_if (PW.pt (pw_or (pt_cmpR op_ne (pe_anyP (p := fun c => c ∈ clss) fun c hc => C8.pe_mt (MW c hc) hr (Nat.le_refl _) (C8.pe_mk m_Aim2 hr (by decide) rfl (pa_cons pe_int (pa_cons pe_int pa_nil))) (pa_cons (pe_op op_mod (pv 0) pe_int) pa_nil)) (pe_callB call_abs (by rfl) T.b_abs (by decide +kernel) (pa_cons (pe_op op_sub (pe_op op_mod (pv 0) pe_int) pe_int) pa_nil)) (nomark _)) (pw_or1 (pt_cmpR op_ne (pe_anyP (p := fun c => c ∈ clss) fun c hc => C8.pe_mt (MW c hc) hr (Nat.le_refl _) (C8.pe_mk m_Square2 hr (by decide) rfl (pa_cons pe_int (pa_cons pe_int pa_nil))) (pa_cons (pe_op op_mod (pv 0) pe_int) pa_nil)) (pe_op op_pow (pe_op op_sub (pe_op op_mod (pv 0) pe_int) pe_int) pe_int) (nomark _))))) (pss_one (ps_ret pe_bl)) pss_nil)
    (pss_one (ps_ret (pe_cmpR (op_eqD hr.units) (pe_lst (pa_cons (pe_anyP (p := fun c => c ∈ clss) fun c hc => C8.pe_mt (MW c hc) hr (Nat.le_refl _) (pv 2) (pa_cons pe_int pa_nil)) (pa_cons (pe_anyP (p := fun c => c ∈ clss) fun c hc => C8.pe_mt (MW c hc) hr (Nat.le_refl _) (pv 3) (pa_cons pe_int pa_nil)) (pa_cons (pe_anyP (p := fun c => c ∈ clss) fun c hc => C8.pe_mt (MW c hc) hr (Nat.le_refl _) (pv 3) (pa_cons pe_int pa_nil)) pa_nil)))) (pe_lst (pa_cons (pe_op op_add pe_int (pe_op op_mod (pv 0) pe_int)) (pa_cons (pe_op op_add pe_int (pe_op op_mod (pv 0) pe_int)) (pa_cons pe_non pa_nil)))) (nomark _)))))))))))), ?_⟩
    have he0 : 0 ≤ c % 9 := Int.emod_nonneg _ (by decide)
    have he9 : c % 9 < 9 := Int.emod_lt_of_pos _ (by decide)
    have hx0 : 0 ≤ c % 50 := Int.emod_nonneg _ (by decide)
    have hx5 : c % 50 < 50 := Int.emod_lt_of_pos _ (by decide)
    refine ⟨_, rfl, _, _, rfl, rfl, (by show (0 : Int) < 9; decide), _, _, rfl, rfl, (by show 3 ≤ sizeLine; decide), fun l hl => ?_⟩
    have sA : Same H _ := Same.upd (o := .lst [V.int 3, V.int 1, V.int (1 + c % 9)]) hl
    have eA : upd H l (.lst [V.int 3, V.int 1, V.int (1 + c % 9)]) l = some (.lst ([3, 1, 1 + c % 9].map V.int)) := upd_same
    generalize upd H l (.lst [V.int 3, V.int 1, V.int (1 + c % 9)]) = HA at sA eA ⊢
    -- the row and the gaps
    refine ⟨_, rfl, _, rfl, fun r dr hr0 hdr0 hne => ⟨"Row", r, dr, l, 1, -1, [3, 1, 1 + c % 9], rfl, cm_Row, upd_same, ?_, ⟨⟨by decide, by decide⟩, row3 he0 he9⟩, fun HB tB bB eB nB fB => ⟨rfl, ?_⟩⟩⟩
    · exact Same.new hr0 hdr0 _ _ eA
    have sB := Same.made hr0 hdr0 bB
    have pR : PartAt C HB (.row 1 (-1) [3, 1, 1 + c % 9]) r := ⟨dr, tB, eB, fB⟩
    have eA' := sB _ _ eA
    refine ⟨_, rfl, _, rfl, fun g dg hg0 hdg0 hneg => ⟨g, dg, l, 1, 0, -1, [3, 1, 1 + c % 9], rfl, upd_same, ?_, ⟨⟨by decide, by decide⟩, ⟨by decide, by decide⟩, by decide, row3 he0 he9⟩, fun HC tC bC eC nC fC => ⟨rfl, ?_⟩⟩⟩
    · exact Same.new hg0 hdg0 _ _ eA'
    have sC := Same.made hg0 hdg0 bC
    have pG : PartAt C HC (.gaps 1 0 (-1) [3, 1, 1 + c % 9]) g := ⟨dg, tC, eC, fC⟩
    have pR2 := pR.same sC
    have eA2 := sC _ _ eA'
    refine ⟨_, rfl, .inl ⟨rfl, _, .of eA2⟩, l, _, rfl, rfl, eA2, ?_⟩
    have pR3 := PartAt.updL (u := .lst []) eA2 pR2
    have pG3 := PartAt.updL (u := .lst []) eA2 pG
    have sD : Same H (upd HC l (.lst [])) := Same.updN ((sA.trans sB).trans sC) hl
    generalize upd HC l (.lst []) = HD at pR3 pG3 sD ⊢
    refine fun n dn hn0 hdn0 hnen => ⟨n, dn, 0, 1, 0, 1, rfl, upd_same, ⟨⟨by decide, by decide⟩, ⟨by decide, by decide⟩, by decide, ⟨by decide, by decide⟩, by decide, by decide⟩, fun HE bE eE => ⟨rfl, ?_⟩⟩
    have sE := Same.made hn0 hdn0 bE
    have pN : PartAt C HE (.near 0 1 0 1) n := ⟨dn, eE⟩
    have pR4 := pR3.same sE
    have pG4 := pG3.same sE
    obtain ⟨dxg, fsg, hIg, hFg⟩ := pG4.ins
    refine ⟨_, rfl, _, _, _, _, true, rfl, .own _, ty_of IT TC cm_Near eE, I2.na, _, rfl, iteF ?_⟩
    refine ⟨_, rfl, _, _, _, _, true, rfl, .own _, ty_of IT TC cm_Gaps hIg, I2.gr, _, rfl, iteF ?_⟩
    refine fun h dh hh0 hdh0 hneh => ⟨h, dh, 0, 1, 2, rfl, upd_same, ⟨⟨by decide, by decide⟩, ⟨by decide, by decide⟩, by decide, ⟨by decide, by decide⟩⟩, fun HF bF eF => ⟨rfl, ?_⟩⟩
    have sF := Same.made hh0 hdh0 bF
    refine ⟨_, _, _, _, true, rfl, .own _, ty_of IT TC cm_Ahead eF, IT.par _ cm_Ahead, _, rfl, iteF ?_⟩
    have s0 := (sD.trans sE).trans sF
    have pN5 := pN.same sF
    have pR5 := pR4.same sF
    have pG5 := pG4.same sF
    -- the comprehension
    refine ⟨_, rfl, (by show 3 ≤ sizeLine; decide), fun t ht => ?_⟩
    have sT : Same HF _ := Same.upd (o := .tup [V.int (-2), V.int 0, V.int 3]) ht
    have eT : upd HF t (.tup [V.int (-2), V.int 0, V.int 3]) t = some (.tup ([-2, 0, 3].map V.int)) := upd_same
    generalize upd HF t (.tup [V.int (-2), V.int 0, V.int 3]) = HT at sT eT ⊢
    have pN6 := pN5.same sT
    refine ⟨t, rfl, ⟨_, .of eT⟩, fun D hD => ?_⟩
    have sDD : ∀ xs, Same HT (upd HT D (.lst xs)) := fun xs => Same.upd hD
    refine lc_tup (K := K) (a := t) (xs := [-2, 0, 3].map V.int) (fun i H' => Same HT H' ∧ H' D = some (.lst (([2, 0, 3] : List Int).take i |>.map V.int))) ⟨sDD _, upd_same⟩ (fun i H' _ ⟨s, _⟩ => .of (s _ _ eT)) ?_ ?_
    · rintro i y H' hi ⟨s7, e7⟩
      obtain ⟨u, hu, rfl⟩ := int_item hi
      have pN7 := pN6.same s7
      obtain ⟨dxn, fsn, hIn, hFn⟩ := pN7.ins
      have hu3 : -3 ≤ u ∧ u ≤ 3 ∧ (([2, 0, 3] : List Int).take (i + 1)).map V.int = (([2, 0, 3] : List Int).take i).map V.int ++ [V.int (1 * absI (u - 0))] ∧ i < 3 := by
        have hi3 : i < 3 := (List.getElem?_eq_some_iff.mp hu).1
        have : i = 0 ∨ i = 1 ∨ i = 2 := by omega
        rcases this with rfl | rfl | rfl
        · cases hu; exact ⟨by decide, by decide, rfl, by decide⟩
        · cases hu; exact ⟨by decide, by decide, rfl, by decide⟩
        · cases hu; exact ⟨by decide, by decide, rfl, by decide⟩
      refine ⟨rfl, ?_⟩
      refine yes_go ?_
      refine ⟨"Near", cm_Near, _, rfl, _, _, _, rfl, hIn, lookup_no no_worth hFn, _, rfl, .near 0 1 0 1, n, u, rfl, rfl, Nat.zero_le _, ⟨⟨by decide, by decide⟩, ⟨by decide, by decide⟩, by decide, ⟨by decide, by decide⟩, by decide, by decide⟩, pN7, (by unfold Rd; omega), _, e7, ?_, Same.updN s7 hD, ?_⟩
      · rw [List.length_map, List.length_take]
        exact small1000 (by show min i 3 ≤ 1000; omega)
      · rw [upd_same, hu3.2.2.1]
        rfl
    rintro H7 ⟨s7, e7⟩
    have e7' : H7 D = some (.lst ([2, 0, 3].map V.int)) := e7
    refine ⟨(by show 3 ≤ sizeLine; decide), fun q hq => ⟨_, _, .lst (.of (Same.upd hq _ _ e7')) (dp_ints _), .lst (.of upd_same) (dp_ints [2, 0, 3]), shp_ints _, shp_ints _, _, rfl, ?_⟩⟩
    rw [eqv_ints, decide_eq_true rfl]
    refine iteF ?_
    have s8 := (s0.trans sT).trans (s7.trans (Same.upd (o := .lst [V.int 2, V.int 0, V.int 3]) hq))
    have pR8 := (pR5.same sT).same (s7.trans (Same.upd (o := .lst [V.int 2, V.int 0, V.int 3]) hq))
    have pG8 := (pG5.same sT).same (s7.trans (Same.upd (o := .lst [V.int 2, V.int 0, V.int 3]) hq))
    generalize upd H7 q (.lst [V.int 2, V.int 0, V.int 3]) = H8 at s8 pR8 pG8 ⊢
    -- Near(1, 0, weight=4).worth_of(-1)
    refine ⟨"Near", cm_Near, rfl, rfl, fun m dm hm0 hdm0 hnem => ⟨m, dm, 1, 0, 0, 4, rfl, upd_same, ⟨⟨by decide, by decide⟩, ⟨by decide, by decide⟩, by decide, ⟨by decide, by decide⟩, by decide, by decide⟩, fun H9 b9 e9 => ⟨rfl, ?_⟩⟩⟩
    have s9 := Same.made hm0 hdm0 b9
    have pM : PartAt C H9 (.near 1 0 0 4) m := ⟨dm, e9⟩
    obtain ⟨dxm, fsm, hIm, hFm⟩ := pM.ins
    refine ⟨_, _, _, rfl, hIm, lookup_no no_worth hFm, _, rfl, .near 1 0 0 4, m, -1, rfl, rfl, Nat.zero_le _, ⟨⟨by decide, by decide⟩, ⟨by decide, by decide⟩, by decide, ⟨by decide, by decide⟩, by decide, by decide⟩, pM, (by unfold Rd; decide), rfl, _, rfl, iteN (c := !decide (V.int (4 * absI (-1 - 0)) = V.int 4)) (by decide) ?_⟩
    -- Aim(2, 5), Square(2, 5)
    refine ⟨"Aim", cm_Aim, fun u du hu0 hdu0 hneu => ⟨"Aim", u, du, 2, 5, 1, rfl, cm_Aim, upd_same, ⟨⟨by decide, by decide⟩, ⟨by decide, by decide⟩, by decide, by decide⟩, fun H10 b10 e10 => ⟨rfl, ?_⟩⟩⟩
    have s10 := Same.made hu0 hdu0 b10
    have pU : PartAt C H10 (.aim 2 5 1) u := ⟨du, e10⟩
    obtain ⟨dxu, fsu, hIu, hFu⟩ := pU.ins
    refine ⟨_, _, _, rfl, hIu, lookup_no no_worth hFu, _, rfl, _, _, rfl, rfl, (by show (0 : Int) < 50; decide), .aim 2 5 1, u, c % 50, rfl, rfl, Nat.zero_le _, ⟨⟨by decide, by decide⟩, ⟨by decide, by decide⟩, by decide, by decide⟩, pU, (by unfold Rd; omega), ?_⟩
    refine ⟨_, rfl, _, _, rfl, rfl, (by show (0 : Int) < 50; decide), _, _, rfl, rfl, _, rfl, rfl, _, rfl, ?_⟩
    have ea : decide (V.int (1 * absI (c % 50 - 5)) = V.int (if c % 50 - 5 < 0 then -(c % 50 - 5) else c % 50 - 5)) = true := decide_eq_true (by rw [Int.one_mul]; rfl)
    refine iteN (c := !decide (V.int (1 * absI (c % 50 - 5)) = V.int (if c % 50 - 5 < 0 then -(c % 50 - 5) else c % 50 - 5))) (by rw [ea]; rfl) ?_
    refine ⟨"Square", cm_Square, fun v dv hv0 hdv0 hnev => ⟨v, dv, 2, 5, 1, rfl, upd_same, ⟨⟨by decide, by decide⟩, ⟨by decide, by decide⟩, by decide, by decide⟩, fun H11 b11 e11 => ⟨rfl, ?_⟩⟩⟩
    have s11 := Same.made hv0 hdv0 b11
    have pV : PartAt C H11 (.square 2 5 1) v := ⟨dv, e11⟩
    obtain ⟨dxv, fsv, hIv, hFv⟩ := pV.ins
    refine ⟨_, _, _, rfl, hIv, lookup_no no_worth hFv, _, rfl, _, _, rfl, rfl, (by show (0 : Int) < 50; decide), .square 2 5 1, v, c % 50, rfl, rfl, Nat.zero_le _, ⟨⟨by decide, by decide⟩, ⟨by decide, by decide⟩, by decide, by decide⟩, pV, (by unfold Rd; omega), ?_⟩
    refine ⟨_, rfl, _, _, rfl, rfl, (by show (0 : Int) < 50; decide), _, _, rfl, rfl, _, _, rfl, rfl, ⟨by decide, by decide, by omega⟩, rfl, _, rfl, ?_⟩
    have eb : decide (V.int (1 * (c % 50 - 5) * (c % 50 - 5)) = V.int ((c % 50 - 5) ^ (2 : Int).toNat)) = true := decide_eq_true (by rw [sq_eq])
    refine iteN (c := !decide (V.int (1 * (c % 50 - 5) * (c % 50 - 5)) = V.int ((c % 50 - 5) ^ (2 : Int).toNat))) (by rw [eb]; rfl) ?_
    -- the end
    have sZ := (s9.trans s10).trans s11
    have pRz := pR8.same sZ
    have pGz := pG8.same sZ
    obtain ⟨dxr, fsr, hIr, hFr⟩ := pRz.ins
    obtain ⟨dxq, fsq, hIq, hFq⟩ := pGz.ins
    have w1 : rowAt (-1) [3, 1, 1 + c % 9] 1 = some (1 + c % 9) := rfl
    have w2 : rowAt (-1) [3, 1, 1 + c % 9] 2 = none := rfl
    have okR : (PD.row 1 (-1) [3, 1, 1 + c % 9]).ok := ⟨⟨by decide, by decide⟩, row3 he0 he9⟩
    have okG : (PD.gaps 1 0 (-1) [3, 1, 1 + c % 9]).ok := ⟨⟨by decide, by decide⟩, ⟨by decide, by decide⟩, by decide, row3 he0 he9⟩
    refine ⟨"Row", cm_Row, _, rfl, _, _, _, rfl, hIr, lookup_no no_worth hFr, .row 1 (-1) [3, 1, 1 + c % 9], r, 1, rfl, rfl, Nat.zero_le _, okR, pRz, (by unfold Rd; decide), ?_⟩
    refine ⟨"Gaps", cm_Gaps, _, rfl, _, _, _, rfl, hIq, lookup_no no_worth hFq, .gaps 1 0 (-1) [3, 1, 1 + c % 9], g, 1, rfl, rfl, Nat.zero_le _, okG, pGz, (by unfold Rd; decide), ?_⟩
    refine ⟨"Gaps", cm_Gaps, _, rfl, _, _, _, rfl, hIq, lookup_no no_worth hFq, .gaps 1 0 (-1) [3, 1, 1 + c % 9], g, 2, rfl, rfl, Nat.zero_le _, okG, pGz, (by unfold Rd; decide), ?_⟩
    refine ⟨(by show 3 ≤ sizeLine; decide), fun o1 ho1 => ?_⟩
    refine ⟨_, rfl, _, _, rfl, rfl, (by show (0 : Int) < 9; decide), _, _, rfl, rfl, _, rfl, _, _, rfl, rfl, (by show (0 : Int) < 9; decide), _, _, rfl, rfl, (by show 3 ≤ sizeLine; decide), fun o2 ho2 => ?_⟩
    have n12 : o1 ≠ o2 := fun e => by rw [← e, upd_same] at ho2; cases ho2
    refine ⟨.list [.int (1 + c % 9), .int (1 + c % 9), .none], .list [.int (1 + c % 9), .int (1 + c % 9), .none], .lst (.of (by rw [upd_ne n12]; exact upd_same)) (.cons (.int _) (.cons (.int _) (.cons .non .nil))), .lst (.of upd_same) (.cons (.int _) (.cons (.int _) (.cons .non .nil))), rfl, rfl, ?_⟩
    have ev : PyData.eqv (.list [.int (1 + c % 9), .int (1 + c % 9), .none]) (.list [.int (1 + c % 9), .int (1 + c % 9), .none]) = true := by simp [PyData.eqv, PyData.eqvAll]
    rw [ev]
    exact k _ ((s8.trans sZ).trans ((Same.upd ho1).trans (Same.upd ho2)))

theorem ok_law (T : Txt K mg C) (c_law_cell_at : C8.Cal P w K mg base 1 "_law_cell_at" (spCell K) []) (c_law_part : C8.Cal P w K mg base 3 "_law_part" spPart []) (c_law_right : C8.Cal P w K mg base 12 "_law_right" (spRight C) []) (c_law_classes : C8.Cal P w K mg base 12 "_law_classes" spClasses []) (F : C8.Fun K "law" "law" s_law f fd) : FnOk P w K mg base CX0 13 f fd ["_law_script"] (spLaw K) := by
  refine C8.fn0 F sc_law (fun vs H Q E h => ?_) (fun cdv A outer s H vs Q E hr h => ?_)
  · obtain ⟨a, ns, rfl, hS, hlen, k⟩ := h
    rfl
  · obtain ⟨a, ns, rfl, hS, hlen, k⟩ := h
    refine ⟨_, (pss_cons (ps_for PassesOwn.never rfl (pi_range1 (by rfl) T.b_range (pa_cons (pe_op op_add pe_int (pe_op op_mod (C8.pe_c c_law_cell_at hr (by decide) rfl (pa_cons (pv 0) (pa_cons pe_int pa_nil))) pe_int)) pa_nil)) (pg_name (i := 1) sc_law.nd rfl (Or.inl rfl)) (pss_cons (ps_set (i := 2) sc_law.nd rfl (Or.inl rfl) (C8.pe_c c_law_cell_at hr (by decide) rfl (pa_cons (pv 0) (pa_cons (pe_op op_add pe_int (pv 1)) pa_nil))))
    (pss_one (ps_if (pt_not (pt_val (C8.pe_c c_law_right hr (by decide) rfl (pa_cons (C8.pe_c c_law_part hr (by decide) rfl (pa_cons (pv 2) (pa_cons pe_int (pa_cons (pe_un un_neg pe_int) (pa_cons pe_int pa_nil))))) (pa_cons (pv 2) pa_nil))))) (pss_one (ps_ret pe_bl)) pss_nil))))
    (pss_one (ps_ret (C8.pe_c c_law_classes hr (by decide) rfl (pa_cons (C8.pe_c c_law_cell_at hr (by decide) rfl (pa_cons (pv 0) (pa_cons pe_int pa_nil))) pa_nil))))), ?_⟩
    refine ⟨_, rfl, a, ns, 1, rfl, hS, hlen, by decide, by decide, fun c H1 s1 => ?_⟩
    have hc0 : 0 ≤ c % 8 := Int.emod_nonneg _ (by decide)
    have hc8 : c % 8 < 8 := Int.emod_lt_of_pos _ (by decide)
    refine ⟨_, _, rfl, rfl, (by show (0 : Int) < 8; decide), _, _, rfl, rfl, _, rfl, by omega, by omega, ?_⟩
    refine for_range (fun i σ H' => Same H H' ∧ ∃ v1 v2, σ = [some (.ref a), v1, v2]) ⟨s1, _, _, rfl⟩ ?_ ?_
    · rintro i σ H' hi ⟨s2, v1, v2, rfl⟩
      refine ⟨_, rfl, _, rfl, _, _, rfl, rfl, a, ns, 8 + (0 + (i : Int)), rfl, s2.seq hS, hlen, by omega, by omega, fun x H2 s3 => ?_⟩
      refine ⟨_, rfl, _, rfl, x, 5, -2, 6, rfl, by decide, by decide, by decide, by decide, by decide, by decide, fun b wr pa wl nl rl ws H3 s4 hL hok hg hlim hst => ?_⟩
      refine ⟨_, rfl, b, wr, pa, wl, nl, rl, ws, x, rfl, hL, hok, hg, hlim, fun H4 s5 => ⟨_, rfl, iteF ?_⟩⟩
      exact ⟨s2.trans (s3.trans (s4.trans s5)), _, _, rfl⟩
    · rintro σ H' ⟨s2, v1, v2, rfl⟩
      refine ⟨_, rfl, a, ns, 2, rfl, s2.seq hS, hlen, by decide, by decide, fun x H2 s3 => ?_⟩
      refine ⟨x, rfl, fun H3 s4 => ?_⟩
      exact k _

end
end Ev

/-! what the top has written, as existence -/
namespace Ev
open PySem L2 Ax
open PySem.W (nsIn findIn isFn keepIn codeIn makesIn kitOne fnOf ksFn)
def HasDef (K : PySem.W.Frag) (mg : Str → Option Value) (x : Str) (st : Stmt) (ps : List Str) : Prop := ∃ f fd, C8.Def K mg x st f fd ∧ Binds K fd ps []
def HasMet (K : PySem.W.Frag) (C : Addr) (m qual : Str) (st : Stmt) (ps : List Str) : Prop := ∃ f fd, Meth K C m f ∧ C8.Fun K m qual st f fd ∧ Binds K fd ps []
def HasInit (K : PySem.W.Frag) (C : Addr) (qual : Str) (st : Stmt) (ps : List Str) : Prop := ∃ f fd, Mk K C f ∧ C8.Fun K "__init__" qual st f fd ∧ Binds K fd ps []
abbrev BnOk (x qual : Str) (st : Stmt) (ps : List Str) : Prop := ∀ (kV doc pm : Value) (an : Option Addr) (cdv ct : Value) (us : List Value), us.length = ps.length → bindArgs (fnOf x qual (C8.fnArgs st) (C8.fnBody st) (C8.fnScope st) .none kV doc pm an cdv ct) ⟨us, []⟩ = pure (ps.zip us)
section
variable {K : PySem.W.Frag} {h : Heap} {mg : Str → Option Value} {x m qual : Str} {st : Stmt} {ps : List Str} {f C D T : Addr} {oc kV doc pm cdv ct tc : Value} {od an td : Option Addr} {osl tsl : Array (Option Value)}
theorem def_mk (X : K.In h) (G : h.Ns mainGlobals mg) (a : nsIn K mainGlobals x = some (some (.ref f))) (l : K.lookup f = some ⟨oc, od, .func (fnOf x x (C8.fnArgs st) (C8.fnBody st) (C8.fnScope st) .none kV doc pm an cdv ct), osl⟩)
    (c : codeIn K cdv x = true) (k : keepIn K (.ref f) = true) (b : BnOk x x st ps) : HasDef K mg x st ps :=
  have F : C8.Fun K x x st f (fnOf x x (C8.fnArgs st) (C8.fnBody st) (C8.fnScope st) .none kV doc pm an cdv ct) := ⟨oc, od, .none, kV, doc, pm, an, cdv, ct, osl, rfl, l, c⟩
  ⟨f, _, ⟨F, PySem.W.mg_of X G a, k⟩, F.binds rfl b⟩
theorem met_mk (a : findIn K (.ref C) m = some (some (.ref f))) (i : isFn K (.ref f) = true) (l : K.lookup f = some ⟨oc, od, .func (fnOf m qual (C8.fnArgs st) (C8.fnBody st) (C8.fnScope st) .none kV doc pm an cdv ct), osl⟩)
    (c : codeIn K cdv qual = true) (k : keepIn K (.ref f) = true) (b : BnOk m qual st ps) : HasMet K C m qual st ps :=
  have F : C8.Fun K m qual st f (fnOf m qual (C8.fnArgs st) (C8.fnBody st) (C8.fnScope st) .none kV doc pm an cdv ct) := ⟨oc, od, .none, kV, doc, pm, an, cdv, ct, osl, rfl, l, c⟩
  ⟨f, _, ⟨a, i, k⟩, F, F.binds rfl b⟩
theorem init_mk (mk : makesIn K C = true) (kc : keepIn K (.ref C) = true) (a : findIn K (.ref C) "__init__" = some (some (.ref f))) (i : isFn K (.ref f) = true) (l : K.lookup f = some ⟨oc, od, .func (fnOf "__init__" qual (C8.fnArgs st) (C8.fnBody st) (C8.fnScope st) .none kV doc pm an cdv ct), osl⟩)
    (c : codeIn K cdv qual = true) (b : BnOk "__init__" qual st ps) : HasInit K C qual st ps :=
  have F : C8.Fun K "__init__" qual st f (fnOf "__init__" qual (C8.fnArgs st) (C8.fnBody st) (C8.fnScope st) .none kV doc pm an cdv ct) := ⟨oc, od, .none, kV, doc, pm, an, cdv, ct, osl, rfl, l, c⟩
  ⟨f, _, ⟨mk, a, i, kc⟩, F, F.binds rfl b⟩
/-! defaults: a tuple at T -/
theorem vals_len {xs : List V} {us : List Value} (r : Vals xs us) : xs.length = us.length := Paired.length r
/-- n values are written, the defaults behind the first j fill up -/
theorem binds_dfl {fd : FuncData} {o : Obj} {its : List Value} {dvs : List V} {mm : Nat} (n j : Nat) (lT : K.lookup T = some o) (oT : o.data = .seq its.toArray mm) (rT : Vals dvs its) (hn : n + (its.length - j) = ps.length)
    (h : ∀ us : List Value, us.length = n → ∃ k, bindArgs fd ⟨us, []⟩ = seqItems? (.ref T) >>= k ∧ k (some its.toArray) = pure (ps.zip (us ++ its.drop j))) : Vals (dvs.drop j) (its.drop j) ∧ Binds K fd ps (its.drop j) := by
  refine ⟨rT.drop j, fun s us X hlen => ?_⟩
  have l2 : us.length = n := by
    rw [List.length_append, List.length_drop] at hlen
    omega
  obtain ⟨k, e1, e2⟩ := h us l2
  refine BindsTo.of_looks fun M => ?_
  rw [e1]
  exact looks_items X lT oT (.of_pure e2)
/-- n positional values and keywords -/
theorem kbinds_dfl {fd : FuncData} {o : Obj} {its : List Value} {dvs : List V} {mm : Nat} (n : Nat) (ks : List Str) (g : {α : Type} → List α → List α → List α → List α) (lT : K.lookup T = some o) (oT : o.data = .seq its.toArray mm) (rT : Vals dvs its)
    (hrel : ∀ {vs ds zs : List V} {us its ws : List Value}, Vals vs us → Vals ds its → Vals zs ws → Vals (g vs ds zs) (g us its ws))
    (h : ∀ us ws : List Value, us.length = n → ws.length = ks.length → ∃ k, bindArgs fd ⟨us, ks.zip ws⟩ = seqItems? (.ref T) >>= k ∧ k (some its.toArray) = pure (ps.zip (g us its ws))) :
    KBn K fd ps n ks (fun us ws => g us its ws) (fun vs zs => g vs dvs zs) := by
  refine ⟨fun s us ws X l1 l2 => ?_, fun r1 r2 => hrel r1 rT r2⟩
  obtain ⟨k, e1, e2⟩ := h us ws l1 l2
  refine BindsTo.of_looks fun M => ?_
  rw [e1]
  exact looks_items X lT oT (.of_pure e2)
end
theorem calO_met {P : Program} {w : World} {K : PySem.W.Frag} {mg : Str → Option Value} {base : Heap} {k : Nat} {C f2 : Addr} {m : Str} {sp : Sp} (c : C8.Met P w K mg base k C m sp []) (e : findIn K (.ref C) m = some (some (.ref f2))) : CalO P w K mg base k f2 sp [] := by
  obtain ⟨f, fd, ps, ds, hc, hm, F, b, d⟩ := c.ex
  have q := hm.at_.symm.trans e
  cases q
  exact ⟨fd, ps, ds, F, b, d⟩
/-! the classes by name -/
def cof (l : List Addr) : Str → Addr := fun s => (((clss ++ (["Part"] : List Str)).zip l).lookup s).getD 0
def naB (K : PySem.W.Frag) (l : List Addr) : Bool := l.all fun c => flds.all fun f => match findIn K (.ref c) f with | some none => true | _ => false
def kitB' (K : PySem.W.Frag) (c d : Addr) (b : Bool) : Bool := match kitOne K (.ref c) (.ref d) with | some r => r == b | none => false
theorem kitB_of {K : PySem.W.Frag} {c d : Addr} {b : Bool} (h : kitB' K c d b = true) : kitOne K (.ref c) (.ref d) = some b := by
  unfold kitB' at h
  split at h
  · rename_i r e
    rw [e, beq_iff_eq.mp h]
  · cases h
structure ClsF (K : PySem.W.Frag) (c : Addr) : Prop where
  pg : PySem.W.plainGet K c Str.empty = true
  hd : PySem.W.hasDictIn K c = true
  po : PySem.W.plainOver K c = true
  sa : findIn K (.ref c) "__setattr__" = some (some (.builtin "object.__setattr__"))
  ca : findIn K (.ref c) "__class__" = some (some (.builtin "object.__class__"))
  mo : PySem.W.mroIn K c (.type "object") = some true
section
variable {K : PySem.W.Frag} {a1 a2 a3 a4 a5 a6 a7 a8 a9 a10 a11 : Addr}
theorem cof1 : cof [a1, a2, a3, a4, a5, a6, a7, a8, a9, a10, a11] "Slope" = a1 := by kernel_rfl
theorem cof2 : cof [a1, a2, a3, a4, a5, a6, a7, a8, a9, a10, a11] "Aim" = a2 := by kernel_rfl
theorem cof3 : cof [a1, a2, a3, a4, a5, a6, a7, a8, a9, a10, a11] "Square" = a3 := by kernel_rfl
theorem cof4 : cof [a1, a2, a3, a4, a5, a6, a7, a8, a9, a10, a11] "Row" = a4 := by kernel_rfl
theorem cof5 : cof [a1, a2, a3, a4, a5, a6, a7, a8, a9, a10, a11] "Wall" = a5 := by kernel_rfl
theorem cof6 : cof [a1, a2, a3, a4, a5, a6, a7, a8, a9, a10, a11] "Near" = a6 := by kernel_rfl
theorem cof7 : cof [a1, a2, a3, a4, a5, a6, a7, a8, a9, a10, a11] "Gaps" = a7 := by kernel_rfl
theorem cof8 : cof [a1, a2, a3, a4, a5, a6, a7, a8, a9, a10, a11] "Ahead" = a8 := by kernel_rfl
theorem cof9 : cof [a1, a2, a3, a4, a5, a6, a7, a8, a9, a10, a11] "Times" = a9 := by kernel_rfl
theorem cof10 : cof [a1, a2, a3, a4, a5, a6, a7, a8, a9, a10, a11] "Moved" = a10 := by kernel_rfl
theorem cof11 : cof [a1, a2, a3, a4, a5, a6, a7, a8, a9, a10, a11] "Part" = a11 := by kernel_rfl
theorem clss_all {p : Str → Prop} (h1 : p "Slope") (h2 : p "Aim") (h3 : p "Square") (h4 : p "Row") (h5 : p "Wall") (h6 : p "Near") (h7 : p "Gaps") (h8 : p "Ahead") (h9 : p "Times") (h10 : p "Moved") : ∀ c ∈ clss, p c := fun c hc => by
  unfold clss at hc
  simp only [List.mem_cons, List.not_mem_nil, or_false] at hc
  rcases hc with rfl | rfl | rfl | rfl | rfl | rfl | rfl | rfl | rfl | rfl <;> assumption
theorem clsT_mk (f1 : ClsF K a1) (f2 : ClsF K a2) (f3 : ClsF K a3) (f4 : ClsF K a4) (f5 : ClsF K a5) (f6 : ClsF K a6) (f7 : ClsF K a7) (f8 : ClsF K a8) (f9 : ClsF K a9) (f10 : ClsF K a10) (n : naB K [a1, a2, a3, a4, a5, a6, a7, a8, a9, a10] = true) :
    ClsT K (cof [a1, a2, a3, a4, a5, a6, a7, a8, a9, a10, a11]) := by
  have na : ∀ c ∈ [a1, a2, a3, a4, a5, a6, a7, a8, a9, a10], ∀ f ∈ flds, NoAttr K c f := fun c hc f hf => by
    have q := List.all_eq_true.mp (List.all_eq_true.mp n c hc) f hf
    show findIn K (.ref c) f = some none
    split at q
    · assumption
    · cases q
  have cl : ∀ {c : Addr}, ClsF K c → Cls K c := fun f => ⟨f.pg, f.hd, f.po, f.sa⟩
  refine ⟨clss_all ?_ ?_ ?_ ?_ ?_ ?_ ?_ ?_ ?_ ?_, clss_all ?_ ?_ ?_ ?_ ?_ ?_ ?_ ?_ ?_ ?_⟩
  · rw [cof1]; exact cl f1
  · rw [cof2]; exact cl f2
  · rw [cof3]; exact cl f3
  · rw [cof4]; exact cl f4
  · rw [cof5]; exact cl f5
  · rw [cof6]; exact cl f6
  · rw [cof7]; exact cl f7
  · rw [cof8]; exact cl f8
  · rw [cof9]; exact cl f9
  · rw [cof10]; exact cl f10
  · rw [cof1]; exact na _ (by simp)
  · rw [cof2]; exact na _ (by simp)
  · rw [cof3]; exact na _ (by simp)
  · rw [cof4]; exact na _ (by simp)
  · rw [cof5]; exact na _ (by simp)
  · rw [cof6]; exact na _ (by simp)
  · rw [cof7]; exact na _ (by simp)
  · rw [cof8]; exact na _ (by simp)
  · rw [cof9]; exact na _ (by simp)
  · rw [cof10]; exact na _ (by simp)
def kitsB (K : PySem.W.Frag) (l : List Addr) (d : Addr) (bs : List Bool) : Bool := (l.zip bs).all fun p => kitB' K p.1 d p.2
theorem kits_of {l : List Addr} {d : Addr} {bs : List Bool} (h : kitsB K l d bs = true) {c : Addr} {b : Bool} (hc : (c, b) ∈ l.zip bs) : kitOne K (.ref c) (.ref d) = some b := kitB_of (List.all_eq_true.mp h _ hc)
theorem isT_mk (f1 : ClsF K a1) (f2 : ClsF K a2) (f3 : ClsF K a3) (f4 : ClsF K a4) (f5 : ClsF K a5) (f6 : ClsF K a6) (f7 : ClsF K a7) (f8 : ClsF K a8) (f9 : ClsF K a9) (f10 : ClsF K a10)
    (sp : PySem.W.specialIn K (.builtin "object.__class__") "__get__" = some (some (.builtin "getset_descriptor.__get__"))) (tk : PySem.W.takesIn K (.builtin "object.__class__") = some true)
    (p : kitsB K [a1, a2, a3, a4, a5, a6, a7, a8, a9, a10] a11 [true, true, true, true, true, true, true, true, true, true] = true)
    (t : kitsB K [a1, a2, a3, a4, a5, a6, a7, a8, a9, a10] a9 [false, false, false, false, false, false, false, false, true, false] = true)
    (v : kitsB K [a1, a2, a3, a4, a5, a6, a7, a8, a9, a10] a10 [false, false, false, false, false, false, false, false, false, true] = true) :
    IsT K (cof [a1, a2, a3, a4, a5, a6, a7, a8, a9, a10, a11]) := by
  refine ⟨clss_all (by rw [cof1]; exact f1.ca) (by rw [cof2]; exact f2.ca) (by rw [cof3]; exact f3.ca) (by rw [cof4]; exact f4.ca) (by rw [cof5]; exact f5.ca) (by rw [cof6]; exact f6.ca) (by rw [cof7]; exact f7.ca) (by rw [cof8]; exact f8.ca) (by rw [cof9]; exact f9.ca) (by rw [cof10]; exact f10.ca), sp, tk,
    clss_all (by rw [cof1]; exact f1.mo) (by rw [cof2]; exact f2.mo) (by rw [cof3]; exact f3.mo) (by rw [cof4]; exact f4.mo) (by rw [cof5]; exact f5.mo) (by rw [cof6]; exact f6.mo) (by rw [cof7]; exact f7.mo) (by rw [cof8]; exact f8.mo) (by rw [cof9]; exact f9.mo) (by rw [cof10]; exact f10.mo), ?_, ?_, ?_⟩
  · rw [cof11]
    refine clss_all ?_ ?_ ?_ ?_ ?_ ?_ ?_ ?_ ?_ ?_
    · rw [cof1]; exact kits_of p (by simp)
    · rw [cof2]; exact kits_of p (by simp)
    · rw [cof3]; exact kits_of p (by simp)
    · rw [cof4]; exact kits_of p (by simp)
    · rw [cof5]; exact kits_of p (by simp)
    · rw [cof6]; exact kits_of p (by simp)
    · rw [cof7]; exact kits_of p (by simp)
    · rw [cof8]; exact kits_of p (by simp)
    · rw [cof9]; exact kits_of p (by simp)
    · rw [cof10]; exact kits_of p (by simp)
  · rw [cof9]
    refine clss_all ?_ ?_ ?_ ?_ ?_ ?_ ?_ ?_ ?_ ?_
    · rw [cof1, show (("Slope" : Str) == "Times") = false by decide +kernel]; exact kits_of t (by simp)
    · rw [cof2, show (("Aim" : Str) == "Times") = false by decide +kernel]; exact kits_of t (by simp)
    · rw [cof3, show (("Square" : Str) == "Times") = false by decide +kernel]; exact kits_of t (by simp)
    · rw [cof4, show (("Row" : Str) == "Times") = false by decide +kernel]; exact kits_of t (by simp)
    · rw [cof5, show (("Wall" : Str) == "Times") = false by decide +kernel]; exact kits_of t (by simp)
    · rw [cof6, show (("Near" : Str) == "Times") = false by decide +kernel]; exact kits_of t (by simp)
    · rw [cof7, show (("Gaps" : Str) == "Times") = false by decide +kernel]; exact kits_of t (by simp)
    · rw [cof8, show (("Ahead" : Str) == "Times") = false by decide +kernel]; exact kits_of t (by simp)
    · rw [cof9, show (("Times" : Str) == "Times") = true by decide +kernel]; exact kits_of t (by simp)
    · rw [cof10, show (("Moved" : Str) == "Times") = false by decide +kernel]; exact kits_of t (by simp)
  · rw [cof10]
    refine clss_all ?_ ?_ ?_ ?_ ?_ ?_ ?_ ?_ ?_ ?_
    · rw [cof1, show (("Slope" : Str) == "Moved") = false by decide +kernel]; exact kits_of v (by simp)
    · rw [cof2, show (("Aim" : Str) == "Moved") = false by decide +kernel]; exact kits_of v (by simp)
    · rw [cof3, show (("Square" : Str) == "Moved") = false by decide +kernel]; exact kits_of v (by simp)
    · rw [cof4, show (("Row" : Str) == "Moved") = false by decide +kernel]; exact kits_of v (by simp)
    · rw [cof5, show (("Wall" : Str) == "Moved") = false by decide +kernel]; exact kits_of v (by simp)
    · rw [cof6, show (("Near" : Str) == "Moved") = false by decide +kernel]; exact kits_of v (by simp)
    · rw [cof7, show (("Gaps" : Str) == "Moved") = false by decide +kernel]; exact kits_of v (by simp)
    · rw [cof8, show (("Ahead" : Str) == "Moved") = false by decide +kernel]; exact kits_of v (by simp)
    · rw [cof9, show (("Times" : Str) == "Moved") = false by decide +kernel]; exact kits_of v (by simp)
    · rw [cof10, show (("Moved" : Str) == "Moved") = true by decide +kernel]; exact kits_of v (by simp)
theorem isT2_mk (n : kitB' K a6 a2 true = true) (g : kitB' K a7 a4 true = true) : IsT2 K (cof [a1, a2, a3, a4, a5, a6, a7, a8, a9, a10, a11]) :=
  ⟨by rw [cof6, cof2]; exact kitB_of n, by rw [cof7, cof4]; exact kitB_of g⟩
end
end Ev

namespace Ev
open PySem L2 Ax
section
variable {P : Program} {w : World} {K : PySem.W.Frag} {mg : Str → Option Value} {base : Heap} {C : Str → Addr} {f : Addr} {fd : FuncData}
theorem bn_is_number : BnOk "is_number" "is_number" s_is_number ["value"] := fun _ _ _ _ _ _ us hl => match us, hl with | [_], _ => rfl
theorem bn_is_number_from : BnOk "is_number_from" "is_number_from" s_is_number_from ["value", "low", "high"] := fun _ _ _ _ _ _ us hl => match us, hl with | [_, _, _], _ => rfl
theorem bn_check_number : BnOk "check_number" "check_number" s_check_number ["value", "low", "high", "name"] := fun _ _ _ _ _ _ us hl => match us, hl with | [_, _, _, _], _ => rfl
theorem bn_check_place : BnOk "check_place" "check_place" s_check_place ["place"] := fun _ _ _ _ _ _ us hl => match us, hl with | [_], _ => rfl
theorem bn_check_reach : BnOk "check_reach" "check_reach" s_check_reach ["value", "name"] := fun _ _ _ _ _ _ us hl => match us, hl with | [_, _], _ => rfl
theorem bn_check_aim : BnOk "check_aim" "check_aim" s_check_aim ["place", "aim", "weight"] := fun _ _ _ _ _ _ us hl => match us, hl with | [_, _, _], _ => rfl
theorem bn_check_worths : BnOk "check_worths" "check_worths" s_check_worths ["worths"] := fun _ _ _ _ _ _ us hl => match us, hl with | [_], _ => rfl
theorem bn_check_bends : BnOk "check_bends" "check_bends" s_check_bends ["worths"] := fun _ _ _ _ _ _ us hl => match us, hl with | [_], _ => rfl
theorem bn_Slope_init : BnOk "__init__" "Slope.__init__" s_Slope_init ["self", "place", "weight"] := fun _ _ _ _ _ _ us hl => match us, hl with | [_, _, _], _ => rfl
theorem bn_Slope_stands : BnOk "stands" "Slope.stands" s_Slope_stands ["self"] := fun _ _ _ _ _ _ us hl => match us, hl with | [_], _ => rfl
theorem bn_Slope_worth_of : BnOk "worth_of" "Slope.worth_of" s_Slope_worth_of ["self", "reads"] := fun _ _ _ _ _ _ us hl => match us, hl with | [_, _], _ => rfl
theorem bn_Slope_limits : BnOk "limits" "Slope.limits" s_Slope_limits ["self"] := fun _ _ _ _ _ _ us hl => match us, hl with | [_], _ => rfl
theorem bn_Aim_stands : BnOk "stands" "Aim.stands" s_Aim_stands ["self"] := fun _ _ _ _ _ _ us hl => match us, hl with | [_], _ => rfl
theorem bn_Aim_worth_of : BnOk "worth_of" "Aim.worth_of" s_Aim_worth_of ["self", "reads"] := fun _ _ _ _ _ _ us hl => match us, hl with | [_, _], _ => rfl
theorem bn_Aim_limits : BnOk "limits" "Aim.limits" s_Aim_limits ["self"] := fun _ _ _ _ _ _ us hl => match us, hl with | [_], _ => rfl
theorem bn_Square_stands : BnOk "stands" "Square.stands" s_Square_stands ["self"] := fun _ _ _ _ _ _ us hl => match us, hl with | [_], _ => rfl
theorem bn_Square_worth_of : BnOk "worth_of" "Square.worth_of" s_Square_worth_of ["self", "reads"] := fun _ _ _ _ _ _ us hl => match us, hl with | [_, _], _ => rfl
theorem bn_Square_limits : BnOk "limits" "Square.limits" s_Square_limits ["self"] := fun _ _ _ _ _ _ us hl => match us, hl with | [_], _ => rfl
theorem bn_Row_init : BnOk "__init__" "Row.__init__" s_Row_init ["self", "place", "first", "worths"] := fun _ _ _ _ _ _ us hl => match us, hl with | [_, _, _, _], _ => rfl
theorem bn_Row_stands : BnOk "stands" "Row.stands" s_Row_stands ["self"] := fun _ _ _ _ _ _ us hl => match us, hl with | [_], _ => rfl
theorem bn_Row_worth_of : BnOk "worth_of" "Row.worth_of" s_Row_worth_of ["self", "reads"] := fun _ _ _ _ _ _ us hl => match us, hl with | [_, _], _ => rfl
theorem bn_Row_limits : BnOk "limits" "Row.limits" s_Row_limits ["self"] := fun _ _ _ _ _ _ us hl => match us, hl with | [_], _ => rfl
theorem bn_Wall_init : BnOk "__init__" "Wall.__init__" s_Wall_init ["self", "place", "low", "high"] := fun _ _ _ _ _ _ us hl => match us, hl with | [_, _, _, _], _ => rfl
theorem bn_Wall_stands : BnOk "stands" "Wall.stands" s_Wall_stands ["self"] := fun _ _ _ _ _ _ us hl => match us, hl with | [_], _ => rfl
theorem bn_Wall_worth_of : BnOk "worth_of" "Wall.worth_of" s_Wall_worth_of ["self", "reads"] := fun _ _ _ _ _ _ us hl => match us, hl with | [_, _], _ => rfl
theorem bn_Wall_limits : BnOk "limits" "Wall.limits" s_Wall_limits ["self"] := fun _ _ _ _ _ _ us hl => match us, hl with | [_], _ => rfl
theorem bn_check_places : BnOk "check_places" "check_places" s_check_places ["one", "other"] := fun _ _ _ _ _ _ us hl => match us, hl with | [_, _], _ => rfl
theorem bn_Near_stands : BnOk "stands" "Near.stands" s_Near_stands ["self"] := fun _ _ _ _ _ _ us hl => match us, hl with | [_], _ => rfl
theorem bn_Gaps_stands : BnOk "stands" "Gaps.stands" s_Gaps_stands ["self"] := fun _ _ _ _ _ _ us hl => match us, hl with | [_], _ => rfl
theorem bn_Ahead_init : BnOk "__init__" "Ahead.__init__" s_Ahead_init ["self", "one", "other", "gap"] := fun _ _ _ _ _ _ us hl => match us, hl with | [_, _, _, _], _ => rfl
theorem bn_Ahead_stands : BnOk "stands" "Ahead.stands" s_Ahead_stands ["self"] := fun _ _ _ _ _ _ us hl => match us, hl with | [_], _ => rfl
theorem bn_Ahead_worth_of : BnOk "worth_of" "Ahead.worth_of" s_Ahead_worth_of ["self", "reads"] := fun _ _ _ _ _ _ us hl => match us, hl with | [_, _], _ => rfl
theorem bn_Ahead_limits : BnOk "limits" "Ahead.limits" s_Ahead_limits ["self"] := fun _ _ _ _ _ _ us hl => match us, hl with | [_], _ => rfl
theorem bn_wraps_around : BnOk "wraps_around" "wraps_around" s_wraps_around ["part"] := fun _ _ _ _ _ _ us hl => match us, hl with | [_], _ => rfl
theorem bn_check_wrapped : BnOk "check_wrapped" "check_wrapped" s_check_wrapped ["part"] := fun _ _ _ _ _ _ us hl => match us, hl with | [_], _ => rfl
theorem bn_moved_limit : BnOk "moved_limit" "moved_limit" s_moved_limit ["limit", "by"] := fun _ _ _ _ _ _ us hl => match us, hl with | [_, _], _ => rfl
theorem bn_Times_init : BnOk "__init__" "Times.__init__" s_Times_init ["self", "part", "many"] := fun _ _ _ _ _ _ us hl => match us, hl with | [_, _, _], _ => rfl
theorem bn_Times_stands : BnOk "stands" "Times.stands" s_Times_stands ["self"] := fun _ _ _ _ _ _ us hl => match us, hl with | [_], _ => rfl
theorem bn_Times_worth_of : BnOk "worth_of" "Times.worth_of" s_Times_worth_of ["self", "reads"] := fun _ _ _ _ _ _ us hl => match us, hl with | [_, _], _ => rfl
theorem bn_Times_limits : BnOk "limits" "Times.limits" s_Times_limits ["self"] := fun _ _ _ _ _ _ us hl => match us, hl with | [_], _ => rfl
theorem bn_Moved_init : BnOk "__init__" "Moved.__init__" s_Moved_init ["self", "part", "by"] := fun _ _ _ _ _ _ us hl => match us, hl with | [_, _, _], _ => rfl
theorem bn_Moved_stands : BnOk "stands" "Moved.stands" s_Moved_stands ["self"] := fun _ _ _ _ _ _ us hl => match us, hl with | [_], _ => rfl
theorem bn_Moved_worth_of : BnOk "worth_of" "Moved.worth_of" s_Moved_worth_of ["self", "reads"] := fun _ _ _ _ _ _ us hl => match us, hl with | [_, _], _ => rfl
theorem bn_Moved_limits : BnOk "limits" "Moved.limits" s_Moved_limits ["self"] := fun _ _ _ _ _ _ us hl => match us, hl with | [_], _ => rfl
theorem bn_law_cell_at : BnOk "_law_cell_at" "_law_cell_at" s_law_cell_at ["_law_script", "_law_k"] := fun _ _ _ _ _ _ us hl => match us, hl with | [_, _], _ => rfl
theorem bn_law_numbers : BnOk "_law_numbers" "_law_numbers" s_law_numbers ["_law_cell", "_law_bounds"] := fun _ _ _ _ _ _ us hl => match us, hl with | [_, _], _ => rfl
theorem bn_law_worths : BnOk "_law_worths" "_law_worths" s_law_worths ["_law_digits", "_law_scale"] := fun _ _ _ _ _ _ us hl => match us, hl with | [_, _], _ => rfl
theorem bn_law_single : BnOk "_law_single" "_law_single" s_law_single ["_law_digits", "_law_bottom"] := fun _ _ _ _ _ _ us hl => match us, hl with | [_, _], _ => rfl
theorem bn_law_double : BnOk "_law_double" "_law_double" s_law_double ["_law_digits"] := fun _ _ _ _ _ _ us hl => match us, hl with | [_], _ => rfl
theorem bn_law_part : BnOk "_law_part" "_law_part" s_law_part ["_law_cell", "_law_many", "_law_bottom", "_law_top"] := fun _ _ _ _ _ _ us hl => match us, hl with | [_, _, _, _], _ => rfl
theorem bn_law_at : BnOk "_law_at" "_law_at" s_law_at ["_law_part_here", "_law_reads"] := fun _ _ _ _ _ _ us hl => match us, hl with | [_, _], _ => rfl
theorem bn_law_base : BnOk "_law_base" "_law_base" s_law_base ["_law_part_here"] := fun _ _ _ _ _ _ us hl => match us, hl with | [_], _ => rfl
theorem bn_law_made : BnOk "_law_made" "_law_made" s_law_made ["_law_part_here"] := fun _ _ _ _ _ _ us hl => match us, hl with | [_], _ => rfl
theorem bn_law_ends : BnOk "_law_ends" "_law_ends" s_law_ends ["_law_part_here"] := fun _ _ _ _ _ _ us hl => match us, hl with | [_], _ => rfl
theorem bn_law_right : BnOk "_law_right" "_law_right" s_law_right ["_law_part_here", "_law_cell"] := fun _ _ _ _ _ _ us hl => match us, hl with | [_, _], _ => rfl
theorem bn_law_classes : BnOk "_law_classes" "_law_classes" s_law_classes ["_law_cell"] := fun _ _ _ _ _ _ us hl => match us, hl with | [_], _ => rfl
theorem bn_law : BnOk "law" "law" s_law ["_law_script"] := fun _ _ _ _ _ _ us hl => match us, hl with | [_], _ => rfl

def HasInitD (K : PySem.W.Frag) (C : Addr) (qual : Str) (st : Stmt) (ps : List Str) : Prop := ∃ f fd, Mk K C f ∧ C8.Fun K "__init__" qual st f fd ∧ Binds K fd ps [] ∧ (∃ ds, Vals [.int 1] ds ∧ Binds K fd ps ds) ∧ ∃ g, KBn K fd ps 3 ["weight"] g (fun vs zs => vs ++ zs)
def HasSup (P : Program) (K : PySem.W.Frag) (mg : Str → Option Value) (D B : Addr) (m qual : Str) (st : Stmt) (ps : List Str) : Prop := ∃ f cc cda f2 fd, Meth K D m f ∧ FunS K m qual st f cc cda D fd ∧ SupOk P K mg f cc cda D D m f2 ∧ Binds K fd ps [] ∧ PySem.W.findIn K (.ref B) m = some (some (.ref f2))
def HasSupI (P : Program) (K : PySem.W.Frag) (mg : Str → Option Value) (D B : Addr) (qual : Str) (st : Stmt) (Bn : FuncData → Prop) : Prop := ∃ f cc cda f2 fd, Mk K D f ∧ FunS K "__init__" qual st f cc cda D fd ∧ SupOk P K mg f cc cda D D "__init__" f2 ∧ Bn fd ∧ PySem.W.findIn K (.ref B) "__init__" = some (some (.ref f2))
def BnNear (K : PySem.W.Frag) (fd : FuncData) : Prop := Binds K fd ["self", "one", "other", "aim", "weight"] [] ∧ (∃ ds, Vals [.int 0, .int 1] ds ∧ Binds K fd ["self", "one", "other", "aim", "weight"] ds) ∧ ∃ g, KBn K fd ["self", "one", "other", "aim", "weight"] 3 ["weight"] g (fun vs zs => vs ++ [.int 0] ++ zs)
open PySem.W (nsIn findIn isFn keepIn codeIn makesIn fnOf ksFn) in
theorem initA_mk {K : PySem.W.Frag} {C f T : Addr} {oc kV doc pm cdv ct tc : Value} {od an td : Option Addr} {osl tsl : Array (Option Value)} {t1 : Tok} {n1 : Nat} (mk : makesIn K C = true) (kc : keepIn K (.ref C) = true) (a : findIn K (.ref C) "__init__" = some (some (.ref f))) (i : isFn K (.ref f) = true)
    (l : K.lookup f = some ⟨oc, od, .func (fnOf "__init__" "Aim.__init__" (C8.fnArgs s_Aim_init) (C8.fnBody s_Aim_init) (C8.fnScope s_Aim_init) (.ref T) kV doc pm an cdv ct), osl⟩) (c : codeIn K cdv "Aim.__init__" = true)
    (lT : K.lookup T = some ⟨tc, td, .seq [Value.int 1 t1].toArray n1, tsl⟩) : HasInitD K C "Aim.__init__" s_Aim_init ["self", "place", "aim", "weight"] := by
  refine ⟨f, _, ⟨mk, a, i, kc⟩, ⟨oc, od, .ref T, kV, doc, pm, an, cdv, ct, osl, rfl, l, c⟩, ?_, ?_, ?_⟩
  · exact (binds_dfl (dvs := [.int 1]) (its := [Value.int 1 t1]) 4 1 lT rfl (.cons ⟨_, rfl⟩ .nil) rfl fun us hl => match us, hl with | [_, _, _, _], _ => ⟨_, rfl, rfl⟩).2
  · exact ⟨_, binds_dfl (dvs := [.int 1]) (its := [Value.int 1 t1]) 3 0 lT rfl (.cons ⟨_, rfl⟩ .nil) rfl fun us hl => match us, hl with | [_, _, _], _ => ⟨_, rfl, rfl⟩⟩
  · exact ⟨_, kbinds_dfl (dvs := [.int 1]) (its := [Value.int 1 t1]) 3 ["weight"] (fun us _ ws => us ++ ws) lT rfl (.cons ⟨_, rfl⟩ .nil) (fun r _ r2 => r.append r2) fun us ws hl hw => match us, ws, hl, hw with | [_, _, _], [_], _, _ => ⟨_, rfl, rfl⟩⟩

open PySem.W (nsIn findIn isFn keepIn codeIn makesIn fnOf ksFn) in
theorem initSq_mk {K : PySem.W.Frag} {C f T : Addr} {oc kV doc pm cdv ct tc : Value} {od an td : Option Addr} {osl tsl : Array (Option Value)} {t1 : Tok} {n1 : Nat} (mk : makesIn K C = true) (kc : keepIn K (.ref C) = true) (a : findIn K (.ref C) "__init__" = some (some (.ref f))) (i : isFn K (.ref f) = true)
    (l : K.lookup f = some ⟨oc, od, .func (fnOf "__init__" "Square.__init__" (C8.fnArgs s_Square_init) (C8.fnBody s_Square_init) (C8.fnScope s_Square_init) (.ref T) kV doc pm an cdv ct), osl⟩) (c : codeIn K cdv "Square.__init__" = true)
    (lT : K.lookup T = some ⟨tc, td, .seq [Value.int 1 t1].toArray n1, tsl⟩) : HasInitD K C "Square.__init__" s_Square_init ["self", "place", "aim", "weight"] := by
  refine ⟨f, _, ⟨mk, a, i, kc⟩, ⟨oc, od, .ref T, kV, doc, pm, an, cdv, ct, osl, rfl, l, c⟩, ?_, ?_, ?_⟩
  · exact (binds_dfl (dvs := [.int 1]) (its := [Value.int 1 t1]) 4 1 lT rfl (.cons ⟨_, rfl⟩ .nil) rfl fun us hl => match us, hl with | [_, _, _, _], _ => ⟨_, rfl, rfl⟩).2
  · exact ⟨_, binds_dfl (dvs := [.int 1]) (its := [Value.int 1 t1]) 3 0 lT rfl (.cons ⟨_, rfl⟩ .nil) rfl fun us hl => match us, hl with | [_, _, _], _ => ⟨_, rfl, rfl⟩⟩
  · exact ⟨_, kbinds_dfl (dvs := [.int 1]) (its := [Value.int 1 t1]) 3 ["weight"] (fun us _ ws => us ++ ws) lT rfl (.cons ⟨_, rfl⟩ .nil) (fun r _ r2 => r.append r2) fun us ws hl hw => match us, ws, hl, hw with | [_, _, _], [_], _, _ => ⟨_, rfl, rfl⟩⟩

open PySem.W (nsIn findIn isFn keepIn codeIn makesIn fnOf ksFn clsIn mroIn ks_superIn typeIn fnIn)
theorem supOk_mk {P : Program} {K : PySem.W.Frag} {mg : Str → Option Value} {D f cc cda f2 : Addr} {m qual : Str} {st : Stmt} {oc dV kV doc pm ct c1 c2 : Value} {od an d1 d2 : Option Addr} {osl sl1 sl2 : Array (Option Value)} {vs : Array Value} {file : Str} {tf : Tok} {cd : ClassData} {ar : Arg}
    (l : K.lookup f = some ⟨oc, od, .func (ksFn m qual (C8.fnArgs st) (C8.fnBody st) (C8.fnScope st) dV kV doc pm an (.ref cda) ct cc), osl⟩) (hp : ((C8.fnArgs st).posonlyargs ++ (C8.fnArgs st).args).head? = some ar) (har : ar.arg = "self")
    (lc : K.lookup cda = some ⟨c1, d1, .fields vs, sl1⟩) (hv : vs[2]? = some (.str file tf)) (hf : ((P.main.file : Str) == file) = true) (lcell : K.lookup cc = some ⟨c2, d2, .cell (some (.ref D)), sl2⟩)
    (cls : clsIn K D = some cd) (sub : mroIn K D (.ref D) = some true) (top : (P.main.scope.names.lookup ("super" : Str)).isSome = false) (sup : mg "super" = none) (opq : nsIn K cStatics "thirdparty.any" = some none)
    (met : ks_superIn K D D m = some (some (.ref f2))) (ty : typeIn K (.ref f2) = some (.type "function")) (fi : fnIn K f2 = true) (nm : (m == ("__class__" : Str)) = false) : SupOk P K mg f cc cda D D m f2 :=
  ⟨⟨oc, od, _, osl, ar, l, hp, har⟩, ⟨c1, d1, vs, sl1, file, tf, lc, hv, hf⟩, ⟨c2, d2, sl2, lcell⟩, ⟨cd, cls⟩, ⟨cd, cls⟩, sub, top, sup, opq, met, ty, fi, nm⟩
theorem sup_mk {P : Program} {K : PySem.W.Frag} {mg : Str → Option Value} {D B f cc cda f2 : Addr} {m qual : Str} {st : Stmt} {ps : List Str} {oc kV doc pm ct c2 : Value} {od an d2 : Option Addr} {osl sl2 : Array (Option Value)}
    (a : findIn K (.ref D) m = some (some (.ref f))) (i : isFn K (.ref f) = true) (l : K.lookup f = some ⟨oc, od, .func (ksFn m qual (C8.fnArgs st) (C8.fnBody st) (C8.fnScope st) .none kV doc pm an (.ref cda) ct cc), osl⟩) (c : codeIn K (.ref cda) qual = true) (k : keepIn K (.ref f) = true)
    (lcell : K.lookup cc = some ⟨c2, d2, .cell (some (.ref D)), sl2⟩) (S : SupOk P K mg f cc cda D D m f2) (e2 : findIn K (.ref B) m = some (some (.ref f2)))
    (b : ∀ us : List Value, us.length = ps.length → bindArgs (ksFn m qual (C8.fnArgs st) (C8.fnBody st) (C8.fnScope st) .none kV doc pm an (.ref cda) ct cc) ⟨us, []⟩ = pure (ps.zip us)) : HasSup P K mg D B m qual st ps :=
  ⟨f, cc, cda, f2, _, ⟨a, i, k⟩, ⟨⟨oc, od, .none, kV, doc, pm, an, ct, osl, rfl, l, c⟩, ⟨c2, d2, sl2, lcell⟩⟩, S, .all b, e2⟩
theorem supG_mk {P : Program} {K : PySem.W.Frag} {mg : Str → Option Value} {D B f cc cda f2 : Addr} {oc kV doc pm ct c2 : Value} {od an d2 : Option Addr} {osl sl2 : Array (Option Value)}
    (mk : makesIn K D = true) (kc : keepIn K (.ref D) = true) (a : findIn K (.ref D) "__init__" = some (some (.ref f))) (i : isFn K (.ref f) = true) (l : K.lookup f = some ⟨oc, od, .func (ksFn "__init__" "Gaps.__init__" (C8.fnArgs s_Gaps_init) (C8.fnBody s_Gaps_init) (C8.fnScope s_Gaps_init) .none kV doc pm an (.ref cda) ct cc), osl⟩) (c : codeIn K (.ref cda) "Gaps.__init__" = true)
    (lcell : K.lookup cc = some ⟨c2, d2, .cell (some (.ref D)), sl2⟩) (S : SupOk P K mg f cc cda D D "__init__" f2) (e2 : findIn K (.ref B) "__init__" = some (some (.ref f2))) : HasSupI P K mg D B "Gaps.__init__" s_Gaps_init (fun fd => Binds K fd ["self", "one", "other", "first", "worths"] []) :=
  ⟨f, cc, cda, f2, _, ⟨mk, a, i, kc⟩, ⟨⟨oc, od, .none, kV, doc, pm, an, ct, osl, rfl, l, c⟩, ⟨c2, d2, sl2, lcell⟩⟩, S, .all fun us hl => match us, hl with | [_, _, _, _, _], _ => rfl, e2⟩
theorem supN_mk {P : Program} {K : PySem.W.Frag} {mg : Str → Option Value} {D B f cc cda f2 T : Addr} {oc kV doc pm ct c2 tc : Value} {od an d2 td : Option Addr} {osl sl2 tsl : Array (Option Value)} {t0 t1 : Tok} {n1 : Nat}
    (mk : makesIn K D = true) (kc : keepIn K (.ref D) = true) (a : findIn K (.ref D) "__init__" = some (some (.ref f))) (i : isFn K (.ref f) = true) (l : K.lookup f = some ⟨oc, od, .func (ksFn "__init__" "Near.__init__" (C8.fnArgs s_Near_init) (C8.fnBody s_Near_init) (C8.fnScope s_Near_init) (.ref T) kV doc pm an (.ref cda) ct cc), osl⟩) (c : codeIn K (.ref cda) "Near.__init__" = true)
    (lT : K.lookup T = some ⟨tc, td, .seq [Value.int 0 t0, Value.int 1 t1].toArray n1, tsl⟩)
    (lcell : K.lookup cc = some ⟨c2, d2, .cell (some (.ref D)), sl2⟩) (S : SupOk P K mg f cc cda D D "__init__" f2) (e2 : findIn K (.ref B) "__init__" = some (some (.ref f2))) : HasSupI P K mg D B "Near.__init__" s_Near_init (BnNear K) := by
  refine ⟨f, cc, cda, f2, _, ⟨mk, a, i, kc⟩, ⟨⟨oc, od, .ref T, kV, doc, pm, an, ct, osl, rfl, l, c⟩, ⟨c2, d2, sl2, lcell⟩⟩, S, ⟨?_, ?_, ?_⟩, e2⟩
  · exact (binds_dfl (dvs := [.int 0, .int 1]) (its := [Value.int 0 t0, Value.int 1 t1]) 5 2 lT rfl (.cons ⟨_, rfl⟩ (.cons ⟨_, rfl⟩ .nil)) rfl fun us hl => match us, hl with | [_, _, _, _, _], _ => ⟨_, rfl, rfl⟩).2
  · exact ⟨_, binds_dfl (dvs := [.int 0, .int 1]) (its := [Value.int 0 t0, Value.int 1 t1]) 3 0 lT rfl (.cons ⟨_, rfl⟩ (.cons ⟨_, rfl⟩ .nil)) rfl fun us hl => match us, hl with | [_, _, _], _ => ⟨_, rfl, rfl⟩⟩
  · exact ⟨_, kbinds_dfl (dvs := [.int 0, .int 1]) (its := [Value.int 0 t0, Value.int 1 t1]) 3 ["weight"] (fun us its ws => us ++ its.take 1 ++ ws) lT rfl (.cons ⟨_, rfl⟩ (.cons ⟨_, rfl⟩ .nil)) (fun r r1 r2 => (r.append (r1.take 1)).append r2) fun us ws hl hw => match us, ws, hl, hw with | [_, _, _], [_], _, _ => ⟨_, rfl, rfl⟩⟩

end
end Ev

namespace Ev
open PySem L2 Ax
section
variable {P : Program} {w : World} {K : PySem.W.Frag} {mg : Str → Option Value} {base : Heap} {C : Str → Addr} {f : Addr} {fd : FuncData}

theorem calO_init {Cb f2 : Addr} {fd2 : FuncData} {ps : List Str} {k : Nat} {sp : Sp} (M : Mk K Cb f) (F : FnOk P w K mg base CX0 k f fd2 ps sp) (b : Binds K fd2 ps []) (e : PySem.W.findIn K (.ref Cb) "__init__" = some (some (.ref f2))) : CalO P w K mg base k f2 sp [] := by
  have q := M.init.symm.trans e
  cases q
  exact ⟨fd2, ps, [], F, b, .nil⟩

theorem calO_aimlim (T : Txt K mg C) (TC : ClsT K C) (hm : HasMet K (C "Aim") "limits" "Aim.limits" s_Aim_limits ["self"]) {f2 : Addr} (e : PySem.W.findIn K (.ref (C "Aim")) "limits" = some (some (.ref f2))) : CalO P w K mg base 1 f2 (spLimN C "Near") [] := by
  obtain ⟨f, fd, me, F, b⟩ := hm
  have q := me.at_.symm.trans e
  cases q
  refine ⟨fd, ["self"], [], C8.fn0 F sc_Aim_limits (fun vs H Q E h => ?_) (fun cdv A outer s H vs Q E hr h => ?_), b, .nil⟩
  · obtain ⟨a, dx, fs, rfl, ha, k⟩ := h
    rfl
  · obtain ⟨a, dx, fs, rfl, ha, k⟩ := h
    refine ⟨_, (pss_one (ps_ret (pe_tup (pa_cons pe_non (pa_cons pe_non pa_nil))))), ?_⟩
    refine ⟨(by show 2 ≤ sizeLine; decide), fun l hl => ?_⟩
    exact k l hl

theorem all0 (T : Txt K mg C) (TC : ClsT K C) (IT : IsT K C) (I2 : IsT2 K C) {fa : Addr} {fda : FuncData} (Flaw : C8.Fun K "law" "law" s_law fa fda)
    (hd_is_number : HasDef K mg "is_number" s_is_number ["value"])
    (hd_is_number_from : HasDef K mg "is_number_from" s_is_number_from ["value", "low", "high"])
    (hd_check_number : HasDef K mg "check_number" s_check_number ["value", "low", "high", "name"])
    (hd_check_place : HasDef K mg "check_place" s_check_place ["place"])
    (hd_check_reach : HasDef K mg "check_reach" s_check_reach ["value", "name"])
    (hd_check_aim : HasDef K mg "check_aim" s_check_aim ["place", "aim", "weight"])
    (hd_check_worths : HasDef K mg "check_worths" s_check_worths ["worths"])
    (hd_check_bends : HasDef K mg "check_bends" s_check_bends ["worths"])
    (hd_check_places : HasDef K mg "check_places" s_check_places ["one", "other"])
    (hd_wraps_around : HasDef K mg "wraps_around" s_wraps_around ["part"])
    (hd_check_wrapped : HasDef K mg "check_wrapped" s_check_wrapped ["part"])
    (hd_moved_limit : HasDef K mg "moved_limit" s_moved_limit ["limit", "by"])
    (hd_law_cell_at : HasDef K mg "_law_cell_at" s_law_cell_at ["_law_script", "_law_k"])
    (hd_law_numbers : HasDef K mg "_law_numbers" s_law_numbers ["_law_cell", "_law_bounds"])
    (hd_law_worths : HasDef K mg "_law_worths" s_law_worths ["_law_digits", "_law_scale"])
    (hd_law_single : HasDef K mg "_law_single" s_law_single ["_law_digits", "_law_bottom"])
    (hd_law_double : HasDef K mg "_law_double" s_law_double ["_law_digits"])
    (hd_law_part : HasDef K mg "_law_part" s_law_part ["_law_cell", "_law_many", "_law_bottom", "_law_top"])
    (hd_law_at : HasDef K mg "_law_at" s_law_at ["_law_part_here", "_law_reads"])
    (hd_law_base : HasDef K mg "_law_base" s_law_base ["_law_part_here"])
    (hd_law_made : HasDef K mg "_law_made" s_law_made ["_law_part_here"])
    (hd_law_ends : HasDef K mg "_law_ends" s_law_ends ["_law_part_here"])
    (hd_law_right : HasDef K mg "_law_right" s_law_right ["_law_part_here", "_law_cell"])
    (hd_law_classes : HasDef K mg "_law_classes" s_law_classes ["_law_cell"])
    (mgc_Slope : mg "Slope" = some (.ref (C "Slope")))
    (mgc_Aim : mg "Aim" = some (.ref (C "Aim")))
    (mgc_Square : mg "Square" = some (.ref (C "Square")))
    (mgc_Row : mg "Row" = some (.ref (C "Row")))
    (mgc_Wall : mg "Wall" = some (.ref (C "Wall")))
    (mgc_Near : mg "Near" = some (.ref (C "Near")))
    (mgc_Gaps : mg "Gaps" = some (.ref (C "Gaps")))
    (mgc_Ahead : mg "Ahead" = some (.ref (C "Ahead")))
    (mgc_Times : mg "Times" = some (.ref (C "Times")))
    (mgc_Moved : mg "Moved" = some (.ref (C "Moved")))
    (hi_Slope : HasInit K (C "Slope") "Slope.__init__" s_Slope_init ["self", "place", "weight"])
    (hi_Aim : HasInitD K (C "Aim") "Aim.__init__" s_Aim_init ["self", "place", "aim", "weight"])
    (hi_Square : HasInitD K (C "Square") "Square.__init__" s_Square_init ["self", "place", "aim", "weight"])
    (hi_Row : HasInit K (C "Row") "Row.__init__" s_Row_init ["self", "place", "first", "worths"])
    (hi_Wall : HasInit K (C "Wall") "Wall.__init__" s_Wall_init ["self", "place", "low", "high"])
    (hi_Ahead : HasInit K (C "Ahead") "Ahead.__init__" s_Ahead_init ["self", "one", "other", "gap"])
    (hi_Times : HasInit K (C "Times") "Times.__init__" s_Times_init ["self", "part", "many"])
    (hi_Moved : HasInit K (C "Moved") "Moved.__init__" s_Moved_init ["self", "part", "by"])
    (hm_Slope_stands : HasMet K (C "Slope") "stands" "Slope.stands" s_Slope_stands ["self"])
    (hm_Aim_stands : HasMet K (C "Aim") "stands" "Aim.stands" s_Aim_stands ["self"])
    (hm_Square_stands : HasMet K (C "Square") "stands" "Square.stands" s_Square_stands ["self"])
    (hm_Row_stands : HasMet K (C "Row") "stands" "Row.stands" s_Row_stands ["self"])
    (hm_Wall_stands : HasMet K (C "Wall") "stands" "Wall.stands" s_Wall_stands ["self"])
    (hm_Near_stands : HasMet K (C "Near") "stands" "Near.stands" s_Near_stands ["self"])
    (hm_Gaps_stands : HasMet K (C "Gaps") "stands" "Gaps.stands" s_Gaps_stands ["self"])
    (hm_Ahead_stands : HasMet K (C "Ahead") "stands" "Ahead.stands" s_Ahead_stands ["self"])
    (hm_Slope_worth_of : HasMet K (C "Slope") "worth_of" "Slope.worth_of" s_Slope_worth_of ["self", "reads"])
    (hm_Slope_limits : HasMet K (C "Slope") "limits" "Slope.limits" s_Slope_limits ["self"])
    (hm_Aim_worth_of : HasMet K (C "Aim") "worth_of" "Aim.worth_of" s_Aim_worth_of ["self", "reads"])
    (hm_Aim_limits : HasMet K (C "Aim") "limits" "Aim.limits" s_Aim_limits ["self"])
    (hm_Square_worth_of : HasMet K (C "Square") "worth_of" "Square.worth_of" s_Square_worth_of ["self", "reads"])
    (hm_Square_limits : HasMet K (C "Square") "limits" "Square.limits" s_Square_limits ["self"])
    (hm_Row_worth_of : HasMet K (C "Row") "worth_of" "Row.worth_of" s_Row_worth_of ["self", "reads"])
    (hm_Row_limits : HasMet K (C "Row") "limits" "Row.limits" s_Row_limits ["self"])
    (hm_Wall_worth_of : HasMet K (C "Wall") "worth_of" "Wall.worth_of" s_Wall_worth_of ["self", "reads"])
    (hm_Wall_limits : HasMet K (C "Wall") "limits" "Wall.limits" s_Wall_limits ["self"])
    (hm_Ahead_worth_of : HasMet K (C "Ahead") "worth_of" "Ahead.worth_of" s_Ahead_worth_of ["self", "reads"])
    (hm_Ahead_limits : HasMet K (C "Ahead") "limits" "Ahead.limits" s_Ahead_limits ["self"])
    (hs_Near_worth_of : HasSup P K mg (C "Near") (C "Aim") "worth_of" "Near.worth_of" s_Near_worth_of ["self", "reads"])
    (hs_Near_limits : HasSup P K mg (C "Near") (C "Aim") "limits" "Near.limits" s_Near_limits ["self"])
    (hs_Gaps_worth_of : HasSup P K mg (C "Gaps") (C "Row") "worth_of" "Gaps.worth_of" s_Gaps_worth_of ["self", "reads"])
    (hs_Gaps_limits : HasSup P K mg (C "Gaps") (C "Row") "limits" "Gaps.limits" s_Gaps_limits ["self"])
    (hs_Near : HasSupI P K mg (C "Near") (C "Aim") "Near.__init__" s_Near_init (BnNear K))
    (hs_Gaps : HasSupI P K mg (C "Gaps") (C "Row") "Gaps.__init__" s_Gaps_init (fun fd => Binds K fd ["self", "one", "other", "first", "worths"] []))
    (hm_Times_stands : HasMet K (C "Times") "stands" "Times.stands" s_Times_stands ["self"])
    (hm_Times_worth_of : HasMet K (C "Times") "worth_of" "Times.worth_of" s_Times_worth_of ["self", "reads"])
    (hm_Times_limits : HasMet K (C "Times") "limits" "Times.limits" s_Times_limits ["self"])
    (hm_Moved_stands : HasMet K (C "Moved") "stands" "Moved.stands" s_Moved_stands ["self"])
    (hm_Moved_worth_of : HasMet K (C "Moved") "worth_of" "Moved.worth_of" s_Moved_worth_of ["self", "reads"])
    (hm_Moved_limits : HasMet K (C "Moved") "limits" "Moved.limits" s_Moved_limits ["self"]) : FnOk P w K mg base CX0 13 fa fda ["_law_script"] (spLaw K) := by
  obtain ⟨_, _, D, b⟩ := hd_is_number
  have c_is_number := ok_is_number (P := P) (w := w) (base := base) T D b
  obtain ⟨_, _, D, b⟩ := hd_is_number_from
  have c_is_number_from := ok_is_number_from (P := P) (w := w) (base := base) T c_is_number D b
  obtain ⟨_, _, D, b⟩ := hd_check_number
  have c_check_number := ok_check_number (P := P) (w := w) (base := base) T c_is_number_from D b
  obtain ⟨_, _, D, b⟩ := hd_check_place
  have c_check_place := ok_check_place (P := P) (w := w) (base := base) T c_check_number D b
  obtain ⟨_, _, D, b⟩ := hd_check_reach
  have c_check_reach := ok_check_reach (P := P) (w := w) (base := base) T c_check_number D b
  obtain ⟨_, _, D, b⟩ := hd_check_aim
  have c_check_aim := ok_check_aim (P := P) (w := w) (base := base) T c_check_place c_check_reach c_check_number D b
  obtain ⟨_, _, D, b⟩ := hd_check_worths
  have c_check_worths := ok_check_worths (P := P) (w := w) (base := base) T c_check_number D b
  obtain ⟨_, _, D, b⟩ := hd_check_bends
  have c_check_bends := ok_check_bends (P := P) (w := w) (base := base) T D b
  obtain ⟨_, _, D, b⟩ := hd_check_places
  have c_check_places := ok_check_places (P := P) (w := w) (base := base) T c_check_place D b
  obtain ⟨_, _, D, b⟩ := hd_wraps_around
  have c_wraps_around := ok_wraps_around (P := P) (w := w) (base := base) T TC IT D b
  obtain ⟨_, _, D, b⟩ := hd_check_wrapped
  have c_check_wrapped := ok_check_wrapped (P := P) (w := w) (base := base) T TC IT c_wraps_around D b
  obtain ⟨_, _, D, b⟩ := hd_moved_limit
  have c_moved_limit := ok_moved_limit (P := P) (w := w) (base := base) T (C := C) D b
  obtain ⟨_, _, M, F, b⟩ := hi_Slope
  have m_Slope : C8.Mak P w K mg base _ "Slope" (C "Slope") _ [] := ⟨_, _, _, _, M, ok_Slope_init (P := P) (w := w) (base := base) T TC c_check_place c_check_number F, mgc_Slope, b, .nil⟩
  obtain ⟨fAim, _, MAim, F, b, ⟨dsAim, dvAim, bdAim⟩, ⟨gAim, kbAim⟩⟩ := hi_Aim
  have i_Aim := ok_Aim_init (P := P) (w := w) (base := base) T TC c_check_aim F
  have m_Aim : C8.Mak P w K mg base _ "Aim" (C "Aim") _ [] := ⟨_, _, _, _, MAim, i_Aim, mgc_Aim, b, .nil⟩
  have m_Aim2 : C8.Mak P w K mg base _ "Aim" (C "Aim") _ [.int 1] := ⟨_, _, _, _, MAim, i_Aim, mgc_Aim, bdAim, dvAim⟩
  have k_Aim : MakKw P w K mg base _ 2 "Aim" (C "Aim") ["weight"] _ (fun vs zs => vs ++ zs) := ⟨_, _, _, _, MAim, i_Aim, mgc_Aim, kbAim⟩
  have oi_Aim : FnOk P w K mg base CX0 6 fAim _ ["self", "place", "aim", "weight"] _ := i_Aim
  have bAim := b
  obtain ⟨fSquare, _, MSquare, F, b, ⟨dsSquare, dvSquare, bdSquare⟩, ⟨gSquare, kbSquare⟩⟩ := hi_Square
  have i_Square := ok_Square_init (P := P) (w := w) (base := base) T TC c_check_aim F
  have m_Square : C8.Mak P w K mg base _ "Square" (C "Square") _ [] := ⟨_, _, _, _, MSquare, i_Square, mgc_Square, b, .nil⟩
  have m_Square2 : C8.Mak P w K mg base _ "Square" (C "Square") _ [.int 1] := ⟨_, _, _, _, MSquare, i_Square, mgc_Square, bdSquare, dvSquare⟩
  have k_Square : MakKw P w K mg base _ 2 "Square" (C "Square") ["weight"] _ (fun vs zs => vs ++ zs) := ⟨_, _, _, _, MSquare, i_Square, mgc_Square, kbSquare⟩
  have oi_Square : FnOk P w K mg base CX0 6 fSquare _ ["self", "place", "aim", "weight"] _ := i_Square
  obtain ⟨fRow, fdRow, MRow, F, bRow⟩ := hi_Row
  have i_Row := ok_Row_init (P := P) (w := w) (base := base) T TC c_check_place c_check_reach c_check_worths c_check_bends F
  have m_Row : C8.Mak P w K mg base _ "Row" (C "Row") _ [] := ⟨_, _, _, _, MRow, i_Row, mgc_Row, bRow, .nil⟩
  obtain ⟨_, _, M, F, b⟩ := hi_Wall
  have m_Wall : C8.Mak P w K mg base _ "Wall" (C "Wall") _ [] := ⟨_, _, _, _, M, ok_Wall_init (P := P) (w := w) (base := base) T TC c_check_place c_check_reach F, mgc_Wall, b, .nil⟩
  obtain ⟨_, _, M, F, b⟩ := hi_Ahead
  have m_Ahead : C8.Mak P w K mg base _ "Ahead" (C "Ahead") _ [] := ⟨_, _, _, _, M, ok_Ahead_init (P := P) (w := w) (base := base) T TC c_check_places c_check_reach F, mgc_Ahead, b, .nil⟩
  obtain ⟨_, _, M, F, b⟩ := hi_Times
  have m_Times : C8.Mak P w K mg base _ "Times" (C "Times") _ [] := ⟨_, _, _, _, M, ok_Times_init (P := P) (w := w) (base := base) T TC c_check_wrapped c_wraps_around c_check_number F, mgc_Times, b, .nil⟩
  obtain ⟨_, _, M, F, b⟩ := hi_Moved
  have m_Moved : C8.Mak P w K mg base _ "Moved" (C "Moved") _ [] := ⟨_, _, _, _, M, ok_Moved_init (P := P) (w := w) (base := base) T TC c_check_wrapped c_wraps_around c_check_number F, mgc_Moved, b, .nil⟩
  obtain ⟨_, _, me, F, b⟩ := id hm_Slope_stands
  have o_Slope_stands := ok_Slope_stands (P := P) (w := w) (base := base) T TC me F b
  obtain ⟨_, _, me, F, b⟩ := id hm_Aim_stands
  have o_Aim_stands := ok_Aim_stands (P := P) (w := w) (base := base) T TC me F b
  obtain ⟨_, _, me, F, b⟩ := id hm_Square_stands
  have o_Square_stands := ok_Square_stands (P := P) (w := w) (base := base) T TC me F b
  obtain ⟨_, _, me, F, b⟩ := id hm_Row_stands
  have o_Row_stands := ok_Row_stands (P := P) (w := w) (base := base) T TC me F b
  obtain ⟨_, _, me, F, b⟩ := id hm_Wall_stands
  have o_Wall_stands := ok_Wall_stands (P := P) (w := w) (base := base) T TC me F b
  obtain ⟨_, _, me, F, b⟩ := id hm_Near_stands
  have o_Near_stands := ok_Near_stands (P := P) (w := w) (base := base) T TC me F b
  obtain ⟨_, _, me, F, b⟩ := id hm_Gaps_stands
  have o_Gaps_stands := ok_Gaps_stands (P := P) (w := w) (base := base) T TC me F b
  obtain ⟨_, _, me, F, b⟩ := id hm_Ahead_stands
  have o_Ahead_stands := ok_Ahead_stands (P := P) (w := w) (base := base) T TC me F b
  obtain ⟨_, _, me, F, b⟩ := id hm_Slope_worth_of
  have o_Slope_worth_of := ok_Slope_worth_of (P := P) (w := w) (base := base) T TC me F b
  obtain ⟨_, _, me, F, b⟩ := id hm_Slope_limits
  have o_Slope_limits := ok_Slope_limits (P := P) (w := w) (base := base) T TC me F b
  obtain ⟨_, _, me, F, b⟩ := id hm_Aim_worth_of
  have o_Aim_worth_of := ok_Aim_worth_of (P := P) (w := w) (base := base) T TC me F b
  obtain ⟨_, _, me, F, b⟩ := id hm_Aim_limits
  have o_Aim_limits := ok_Aim_limits (P := P) (w := w) (base := base) T TC me F b
  obtain ⟨_, _, me, F, b⟩ := id hm_Square_worth_of
  have o_Square_worth_of := ok_Square_worth_of (P := P) (w := w) (base := base) T TC me F b
  obtain ⟨_, _, me, F, b⟩ := id hm_Square_limits
  have o_Square_limits := ok_Square_limits (P := P) (w := w) (base := base) T TC me F b
  obtain ⟨_, _, me, F, b⟩ := id hm_Row_worth_of
  have o_Row_worth_of := ok_Row_worth_of (P := P) (w := w) (base := base) T TC me F b
  obtain ⟨_, _, me, F, b⟩ := id hm_Row_limits
  have o_Row_limits := ok_Row_limits (P := P) (w := w) (base := base) T TC me F b
  obtain ⟨_, _, me, F, b⟩ := id hm_Wall_worth_of
  have o_Wall_worth_of := ok_Wall_worth_of (P := P) (w := w) (base := base) T TC me F b
  obtain ⟨_, _, me, F, b⟩ := id hm_Wall_limits
  have o_Wall_limits := ok_Wall_limits (P := P) (w := w) (base := base) T TC me F b
  obtain ⟨_, _, me, F, b⟩ := id hm_Ahead_worth_of
  have o_Ahead_worth_of := ok_Ahead_worth_of (P := P) (w := w) (base := base) T TC me F b
  obtain ⟨_, _, me, F, b⟩ := id hm_Ahead_limits
  have o_Ahead_limits := ok_Ahead_limits (P := P) (w := w) (base := base) T TC me F b
  obtain ⟨_, _, _, _, _, me, F, SS, b, e2⟩ := hs_Near_worth_of
  have cO := calO_met o_Aim_worth_of e2
  have o_Near_worth_of : C8.Met P w K mg base 2 (C "Near") "worth_of" _ [] := ⟨_, _, _, _, TC.cl _ cm_Near, me, ok_Near_worth_of (P := P) (w := w) (base := base) T TC SS cO F, b, .nil⟩
  obtain ⟨_, _, _, _, _, me, F, SS, b, e2⟩ := hs_Near_limits
  have cO : CalO P w K mg base 1 _ (spLimN C "Near") [] := calO_aimlim T TC hm_Aim_limits e2
  have o_Near_limits : C8.Met P w K mg base 2 (C "Near") "limits" _ [] := ⟨_, _, _, _, TC.cl _ cm_Near, me, ok_Near_limits (P := P) (w := w) (base := base) T TC SS cO F, b, .nil⟩
  obtain ⟨_, _, _, _, _, me, F, SS, b, e2⟩ := hs_Gaps_worth_of
  have cO := calO_met o_Row_worth_of e2
  have o_Gaps_worth_of : C8.Met P w K mg base 2 (C "Gaps") "worth_of" _ [] := ⟨_, _, _, _, TC.cl _ cm_Gaps, me, ok_Gaps_worth_of (P := P) (w := w) (base := base) T TC SS cO F, b, .nil⟩
  obtain ⟨_, _, _, _, _, me, F, SS, b, e2⟩ := hs_Gaps_limits
  have cO := calO_met o_Row_limits e2
  have o_Gaps_limits : C8.Met P w K mg base 2 (C "Gaps") "limits" _ [] := ⟨_, _, _, _, TC.cl _ cm_Gaps, me, ok_Gaps_limits (P := P) (w := w) (base := base) T TC SS cO F, b, .nil⟩
  obtain ⟨_, _, _, _, _, MN, F, SS, ⟨bN, ⟨dsN, dvN, bdN⟩, ⟨gN, kbN⟩⟩, e2⟩ := hs_Near
  have cO := calO_init MAim oi_Aim bAim e2
  have i_Near := ok_Near_init (P := P) (w := w) (base := base) T TC c_check_places SS cO F
  have m_Near : C8.Mak P w K mg base _ "Near" (C "Near") _ [] := ⟨_, _, _, _, MN, i_Near, mgc_Near, bN, .nil⟩
  have m_Near2 : C8.Mak P w K mg base _ "Near" (C "Near") _ [.int 0, .int 1] := ⟨_, _, _, _, MN, i_Near, mgc_Near, bdN, dvN⟩
  have k_Near : MakKw P w K mg base _ 2 "Near" (C "Near") ["weight"] _ (fun vs zs => vs ++ [.int 0] ++ zs) := ⟨_, _, _, _, MN, i_Near, mgc_Near, kbN⟩
  obtain ⟨_, _, _, _, _, MG, F, SS, bG, e2⟩ := hs_Gaps
  have cO := calO_init MRow i_Row bRow e2
  have i_Gaps := ok_Gaps_init (P := P) (w := w) (base := base) T TC c_check_places SS cO F
  have m_Gaps : C8.Mak P w K mg base _ "Gaps" (C "Gaps") _ [] := ⟨_, _, _, _, MG, i_Gaps, mgc_Gaps, bG, .nil⟩
  obtain ⟨_, _, me_Times_stands, F_Times_stands, b_Times_stands⟩ := hm_Times_stands
  obtain ⟨_, _, me_Times_worth_of, F_Times_worth_of, b_Times_worth_of⟩ := hm_Times_worth_of
  obtain ⟨_, _, me_Times_limits, F_Times_limits, b_Times_limits⟩ := hm_Times_limits
  obtain ⟨_, _, me_Moved_stands, F_Moved_stands, b_Moved_stands⟩ := hm_Moved_stands
  obtain ⟨_, _, me_Moved_worth_of, F_Moved_worth_of, b_Moved_worth_of⟩ := hm_Moved_worth_of
  obtain ⟨_, _, me_Moved_limits, F_Moved_limits, b_Moved_limits⟩ := hm_Moved_limits
  have Fstands : ∀ n, ∀ c ∈ clss, C8.Met P w K mg base (3 + n) (C c) "stands" (spStands C n c) [] := by
    refine fam (sp := spStands C) (fun n => base8 ?_) (ok_Times_stands0 TC me_Times_stands F_Times_stands b_Times_stands) (ok_Moved_stands0 TC me_Moved_stands F_Moved_stands b_Moved_stands) (fun n M => ok_Times_stands T TC M me_Times_stands F_Times_stands b_Times_stands) (fun n M => ok_Moved_stands T TC M me_Moved_stands F_Moved_stands b_Moved_stands)
    intro c hc
    simp only [List.mem_cons, List.not_mem_nil, or_false] at hc
    rcases hc with rfl | rfl | rfl | rfl | rfl | rfl | rfl | rfl
    · exact up_slope_stands o_Slope_stands n
    · exact up_aim_stands o_Aim_stands n
    · exact up_square_stands o_Square_stands n
    · exact up_row_stands o_Row_stands n
    · exact up_wall_stands o_Wall_stands n
    · exact up_near_stands o_Near_stands n
    · exact up_gaps_stands o_Gaps_stands n
    · exact up_ahead_stands o_Ahead_stands n
  have Fworth_of : ∀ n, ∀ c ∈ clss, C8.Met P w K mg base (3 + n) (C c) "worth_of" (spWorth C n c) [] := by
    refine fam (sp := spWorth C) (fun n => base8 ?_) (ok_Times_worth_of0 TC me_Times_worth_of F_Times_worth_of b_Times_worth_of) (ok_Moved_worth_of0 TC me_Moved_worth_of F_Moved_worth_of b_Moved_worth_of) (fun n M => ok_Times_worth_of T TC M me_Times_worth_of F_Times_worth_of b_Times_worth_of) (fun n M => ok_Moved_worth_of T TC M me_Moved_worth_of F_Moved_worth_of b_Moved_worth_of)
    intro c hc
    simp only [List.mem_cons, List.not_mem_nil, or_false] at hc
    rcases hc with rfl | rfl | rfl | rfl | rfl | rfl | rfl | rfl
    · exact up_slope_worth_of o_Slope_worth_of n
    · exact up_aim_worth_of o_Aim_worth_of n
    · exact up_square_worth_of o_Square_worth_of n
    · exact up_row_worth_of o_Row_worth_of n
    · exact up_wall_worth_of o_Wall_worth_of n
    · exact up_near_worth_of o_Near_worth_of n
    · exact up_gaps_worth_of o_Gaps_worth_of n
    · exact up_ahead_worth_of o_Ahead_worth_of n
  have Flimits : ∀ n, ∀ c ∈ clss, C8.Met P w K mg base (3 + n) (C c) "limits" (spLimits C n c) [] := by
    refine fam (sp := spLimits C) (fun n => base8 ?_) (ok_Times_limits0 TC me_Times_limits F_Times_limits b_Times_limits) (ok_Moved_limits0 TC me_Moved_limits F_Moved_limits b_Moved_limits) (fun n M => ok_Times_limits T TC M me_Times_limits F_Times_limits b_Times_limits) (fun n M => ok_Moved_limits T TC c_moved_limit M me_Moved_limits F_Moved_limits b_Moved_limits)
    intro c hc
    simp only [List.mem_cons, List.not_mem_nil, or_false] at hc
    rcases hc with rfl | rfl | rfl | rfl | rfl | rfl | rfl | rfl
    · exact up_slope_limits o_Slope_limits n
    · exact up_aim_limits o_Aim_limits n
    · exact up_square_limits o_Square_limits n
    · exact up_row_limits o_Row_limits n
    · exact up_wall_limits o_Wall_limits n
    · exact up_near_limits o_Near_limits n
    · exact up_gaps_limits o_Gaps_limits n
    · exact up_ahead_limits o_Ahead_limits n
  obtain ⟨_, _, D, b⟩ := hd_law_cell_at
  have c_law_cell_at := ok_law_cell_at (P := P) (w := w) (base := base) T D b
  obtain ⟨_, _, D, b⟩ := hd_law_numbers
  have c_law_numbers := ok_law_numbers (P := P) (w := w) (base := base) T D b
  obtain ⟨_, _, D, b⟩ := hd_law_worths
  have c_law_worths := ok_law_worths (P := P) (w := w) (base := base) T D b
  obtain ⟨_, _, D, b⟩ := hd_law_single
  have c_law_single := ok_law_single (P := P) (w := w) (base := base) T c_law_worths D b
  obtain ⟨_, _, D, b⟩ := hd_law_double
  have c_law_double := ok_law_double (P := P) (w := w) (base := base) T c_law_worths D b
  obtain ⟨_, _, D, b⟩ := hd_law_part
  have c_law_part := ok_law_part (P := P) (w := w) (base := base) T c_law_numbers c_law_single c_law_double D b
  obtain ⟨_, _, D, b⟩ := hd_law_at
  have c_law_at := ok_law_at (P := P) (w := w) (base := base) T D b
  obtain ⟨_, _, D, b⟩ := hd_law_base
  have c_law_base := ok_law_base (P := P) (w := w) (base := base) T m_Slope m_Aim m_Row m_Wall m_Near m_Gaps m_Ahead k_Square D b
  obtain ⟨_, _, D, b⟩ := hd_law_made
  have c_law_made := ok_law_made (P := P) (w := w) (base := base) T c_law_base m_Times m_Moved D b
  obtain ⟨_, _, D, b⟩ := hd_law_ends
  have c_law_ends := ok_law_ends (P := P) (w := w) (base := base) T c_law_at D b
  obtain ⟨_, _, D, b⟩ := hd_law_right
  have c_law_right := ok_law_right (P := P) (w := w) (base := base) T TC IT c_law_made c_law_at c_law_ends (Fstands 8) (Fworth_of 8) (Flimits 8) D b
  obtain ⟨_, _, D, b⟩ := hd_law_classes
  have c_law_classes := ok_law_classes (P := P) (w := w) (base := base) T TC IT I2 (Fstands 8) (Fworth_of 8) m_Row m_Gaps m_Ahead m_Near2 k_Near m_Aim2 m_Square2 D b
  exact ok_law (P := P) (w := w) (base := base) T c_law_cell_at c_law_part c_law_right c_law_classes Flaw

end
end Ev

namespace Ev
open PySem L2 Ax
section
variable {P : Program} {w : World} {K : PySem.W.Frag} {mg : Str → Option Value} {base : Heap} {C : Str → Addr} {f : Addr} {fd : FuncData}

open PySem.W (nsIn findIn isFn keepIn codeIn makesIn fnOf ksFn) in
theorem rel_cof {s : Str} {a : Addr} {l : List Addr} (e : cof l s = a) : RelV (.ref (cof l s)) (.ref a) := by
  rw [e]
  rfl
open PySem.W (nsIn findIn isFn keepIn codeIn makesIn fnOf ksFn) in
theorem all1 {w : World} {K : PySem.W.Frag} {h : Heap} {mg : Str → Option Value} {fa fl a1 a2 a3 a4 a5 a6 a7 a8 a9 a10 a11 : Addr} {t_LAST_PLACE t_WEIGHT t_REACH t_LONGEST t_WORTH t_MOST_WRAPS t_MOST_TIMES t_FARTHEST : Tok} {oc kV doc pm cdv ct : Value} {od an : Option Addr} {osl : Array (Option Value)} (X : K.In h) (G : h.Ns mainGlobals mg) (hfa : mg "law" = some (.ref fa))
    (n1 : nsIn K mainGlobals "Slope" = some (some (.ref a1)))
    (n2 : nsIn K mainGlobals "Aim" = some (some (.ref a2)))
    (n3 : nsIn K mainGlobals "Square" = some (some (.ref a3)))
    (n4 : nsIn K mainGlobals "Row" = some (some (.ref a4)))
    (n5 : nsIn K mainGlobals "Wall" = some (some (.ref a5)))
    (n6 : nsIn K mainGlobals "Near" = some (some (.ref a6)))
    (n7 : nsIn K mainGlobals "Gaps" = some (some (.ref a7)))
    (n8 : nsIn K mainGlobals "Ahead" = some (some (.ref a8)))
    (n9 : nsIn K mainGlobals "Times" = some (some (.ref a9)))
    (n10 : nsIn K mainGlobals "Moved" = some (some (.ref a10)))
    (n11 : nsIn K mainGlobals "Part" = some (some (.ref a11)))
    (b_abs : nsIn K mainGlobals "abs" = some none)
    (b_bool : nsIn K mainGlobals "bool" = some none)
    (b_int : nsIn K mainGlobals "int" = some none)
    (b_isinstance : nsIn K mainGlobals "isinstance" = some none)
    (b_len : nsIn K mainGlobals "len" = some none)
    (b_list : nsIn K mainGlobals "list" = some none)
    (b_max : nsIn K mainGlobals "max" = some none)
    (b_range : nsIn K mainGlobals "range" = some none)
    (b_tuple : nsIn K mainGlobals "tuple" = some none)
    (g_LAST_PLACE : nsIn K mainGlobals "LAST_PLACE" = some (some (.int 7 t_LAST_PLACE)))
    (g_WEIGHT : nsIn K mainGlobals "WEIGHT" = some (some (.int 1000 t_WEIGHT)))
    (g_REACH : nsIn K mainGlobals "REACH" = some (some (.int 100 t_REACH)))
    (g_LONGEST : nsIn K mainGlobals "LONGEST" = some (some (.int 40 t_LONGEST)))
    (g_WORTH : nsIn K mainGlobals "WORTH" = some (some (.int 1000000 t_WORTH)))
    (g_MOST_WRAPS : nsIn K mainGlobals "MOST_WRAPS" = some (some (.int 8 t_MOST_WRAPS)))
    (g_MOST_TIMES : nsIn K mainGlobals "MOST_TIMES" = some (some (.int 100 t_MOST_TIMES)))
    (g_FARTHEST : nsIn K mainGlobals "FARTHEST" = some (some (.int 100 t_FARTHEST)))
    (f1 : ClsF K a1)
    (f2 : ClsF K a2)
    (f3 : ClsF K a3)
    (f4 : ClsF K a4)
    (f5 : ClsF K a5)
    (f6 : ClsF K a6)
    (f7 : ClsF K a7)
    (f8 : ClsF K a8)
    (f9 : ClsF K a9)
    (f10 : ClsF K a10)
    (na : naB K [a1, a2, a3, a4, a5, a6, a7, a8, a9, a10] = true)
    (spc : PySem.W.specialIn K (.builtin "object.__class__") "__get__" = some (some (.builtin "getset_descriptor.__get__")))
    (tkn : PySem.W.takesIn K (.builtin "object.__class__") = some true)
    (kp : kitsB K [a1, a2, a3, a4, a5, a6, a7, a8, a9, a10] a11 [true, true, true, true, true, true, true, true, true, true] = true)
    (kt : kitsB K [a1, a2, a3, a4, a5, a6, a7, a8, a9, a10] a9 [false, false, false, false, false, false, false, false, true, false] = true)
    (kv : kitsB K [a1, a2, a3, a4, a5, a6, a7, a8, a9, a10] a10 [false, false, false, false, false, false, false, false, false, true] = true)
    (kn : kitB' K a6 a2 true = true)
    (kg : kitB' K a7 a4 true = true)
    (law1 : nsIn K mainGlobals "law" = some (some (.ref fl)))
    (law2 : K.lookup fl = some ⟨oc, od, .func (fnOf "law" "law" (C8.fnArgs s_law) (C8.fnBody s_law) (C8.fnScope s_law) .none kV doc pm an cdv ct), osl⟩)
    (law3 : codeIn K cdv "law" = true)
    (hd_is_number : HasDef K mg "is_number" s_is_number ["value"])
    (hd_is_number_from : HasDef K mg "is_number_from" s_is_number_from ["value", "low", "high"])
    (hd_check_number : HasDef K mg "check_number" s_check_number ["value", "low", "high", "name"])
    (hd_check_place : HasDef K mg "check_place" s_check_place ["place"])
    (hd_check_reach : HasDef K mg "check_reach" s_check_reach ["value", "name"])
    (hd_check_aim : HasDef K mg "check_aim" s_check_aim ["place", "aim", "weight"])
    (hd_check_worths : HasDef K mg "check_worths" s_check_worths ["worths"])
    (hd_check_bends : HasDef K mg "check_bends" s_check_bends ["worths"])
    (hd_check_places : HasDef K mg "check_places" s_check_places ["one", "other"])
    (hd_wraps_around : HasDef K mg "wraps_around" s_wraps_around ["part"])
    (hd_check_wrapped : HasDef K mg "check_wrapped" s_check_wrapped ["part"])
    (hd_moved_limit : HasDef K mg "moved_limit" s_moved_limit ["limit", "by"])
    (hd_law_cell_at : HasDef K mg "_law_cell_at" s_law_cell_at ["_law_script", "_law_k"])
    (hd_law_numbers : HasDef K mg "_law_numbers" s_law_numbers ["_law_cell", "_law_bounds"])
    (hd_law_worths : HasDef K mg "_law_worths" s_law_worths ["_law_digits", "_law_scale"])
    (hd_law_single : HasDef K mg "_law_single" s_law_single ["_law_digits", "_law_bottom"])
    (hd_law_double : HasDef K mg "_law_double" s_law_double ["_law_digits"])
    (hd_law_part : HasDef K mg "_law_part" s_law_part ["_law_cell", "_law_many", "_law_bottom", "_law_top"])
    (hd_law_at : HasDef K mg "_law_at" s_law_at ["_law_part_here", "_law_reads"])
    (hd_law_base : HasDef K mg "_law_base" s_law_base ["_law_part_here"])
    (hd_law_made : HasDef K mg "_law_made" s_law_made ["_law_part_here"])
    (hd_law_ends : HasDef K mg "_law_ends" s_law_ends ["_law_part_here"])
    (hd_law_right : HasDef K mg "_law_right" s_law_right ["_law_part_here", "_law_cell"])
    (hd_law_classes : HasDef K mg "_law_classes" s_law_classes ["_law_cell"])
    (hi_Slope : HasInit K a1 "Slope.__init__" s_Slope_init ["self", "place", "weight"])
    (hi_Aim : HasInitD K a2 "Aim.__init__" s_Aim_init ["self", "place", "aim", "weight"])
    (hi_Square : HasInitD K a3 "Square.__init__" s_Square_init ["self", "place", "aim", "weight"])
    (hi_Row : HasInit K a4 "Row.__init__" s_Row_init ["self", "place", "first", "worths"])
    (hi_Wall : HasInit K a5 "Wall.__init__" s_Wall_init ["self", "place", "low", "high"])
    (hi_Ahead : HasInit K a8 "Ahead.__init__" s_Ahead_init ["self", "one", "other", "gap"])
    (hi_Times : HasInit K a9 "Times.__init__" s_Times_init ["self", "part", "many"])
    (hi_Moved : HasInit K a10 "Moved.__init__" s_Moved_init ["self", "part", "by"])
    (hm_Slope_stands : HasMet K a1 "stands" "Slope.stands" s_Slope_stands ["self"])
    (hm_Aim_stands : HasMet K a2 "stands" "Aim.stands" s_Aim_stands ["self"])
    (hm_Square_stands : HasMet K a3 "stands" "Square.stands" s_Square_stands ["self"])
    (hm_Row_stands : HasMet K a4 "stands" "Row.stands" s_Row_stands ["self"])
    (hm_Wall_stands : HasMet K a5 "stands" "Wall.stands" s_Wall_stands ["self"])
    (hm_Near_stands : HasMet K a6 "stands" "Near.stands" s_Near_stands ["self"])
    (hm_Gaps_stands : HasMet K a7 "stands" "Gaps.stands" s_Gaps_stands ["self"])
    (hm_Ahead_stands : HasMet K a8 "stands" "Ahead.stands" s_Ahead_stands ["self"])
    (hm_Slope_worth_of : HasMet K a1 "worth_of" "Slope.worth_of" s_Slope_worth_of ["self", "reads"])
    (hm_Slope_limits : HasMet K a1 "limits" "Slope.limits" s_Slope_limits ["self"])
    (hm_Aim_worth_of : HasMet K a2 "worth_of" "Aim.worth_of" s_Aim_worth_of ["self", "reads"])
    (hm_Aim_limits : HasMet K a2 "limits" "Aim.limits" s_Aim_limits ["self"])
    (hm_Square_worth_of : HasMet K a3 "worth_of" "Square.worth_of" s_Square_worth_of ["self", "reads"])
    (hm_Square_limits : HasMet K a3 "limits" "Square.limits" s_Square_limits ["self"])
    (hm_Row_worth_of : HasMet K a4 "worth_of" "Row.worth_of" s_Row_worth_of ["self", "reads"])
    (hm_Row_limits : HasMet K a4 "limits" "Row.limits" s_Row_limits ["self"])
    (hm_Wall_worth_of : HasMet K a5 "worth_of" "Wall.worth_of" s_Wall_worth_of ["self", "reads"])
    (hm_Wall_limits : HasMet K a5 "limits" "Wall.limits" s_Wall_limits ["self"])
    (hm_Ahead_worth_of : HasMet K a8 "worth_of" "Ahead.worth_of" s_Ahead_worth_of ["self", "reads"])
    (hm_Ahead_limits : HasMet K a8 "limits" "Ahead.limits" s_Ahead_limits ["self"])
    (hs_Near_worth_of : HasSup PySem.Challenge.pw_evenbend_k01_parts K mg a6 a2 "worth_of" "Near.worth_of" s_Near_worth_of ["self", "reads"])
    (hs_Near_limits : HasSup PySem.Challenge.pw_evenbend_k01_parts K mg a6 a2 "limits" "Near.limits" s_Near_limits ["self"])
    (hs_Gaps_worth_of : HasSup PySem.Challenge.pw_evenbend_k01_parts K mg a7 a4 "worth_of" "Gaps.worth_of" s_Gaps_worth_of ["self", "reads"])
    (hs_Gaps_limits : HasSup PySem.Challenge.pw_evenbend_k01_parts K mg a7 a4 "limits" "Gaps.limits" s_Gaps_limits ["self"])
    (hs_Near : HasSupI PySem.Challenge.pw_evenbend_k01_parts K mg a6 a2 "Near.__init__" s_Near_init (BnNear K))
    (hs_Gaps : HasSupI PySem.Challenge.pw_evenbend_k01_parts K mg a7 a4 "Gaps.__init__" s_Gaps_init (fun fd => Binds K fd ["self", "one", "other", "first", "worths"] []))
    (hm_Times_stands : HasMet K a9 "stands" "Times.stands" s_Times_stands ["self"])
    (hm_Times_worth_of : HasMet K a9 "worth_of" "Times.worth_of" s_Times_worth_of ["self", "reads"])
    (hm_Times_limits : HasMet K a9 "limits" "Times.limits" s_Times_limits ["self"])
    (hm_Moved_stands : HasMet K a10 "stands" "Moved.stands" s_Moved_stands ["self"])
    (hm_Moved_worth_of : HasMet K a10 "worth_of" "Moved.worth_of" s_Moved_worth_of ["self", "reads"])
    (hm_Moved_limits : HasMet K a10 "limits" "Moved.limits" s_Moved_limits ["self"]) :
    ∃ fd : FuncData, (∀ (s : Shared) (v : Value), BindsTo s fd ⟨[v], []⟩ [("_law_script", v)]) ∧ ∀ base : Heap, K.In base → base.Ns mainGlobals mg → FnOk PySem.Challenge.pw_evenbend_k01_parts w K mg base CX0 13 fa fd ["_law_script"] (spLaw K) := by
  have e := hfa.symm.trans (PySem.W.mg_of X G law1)
  cases e
  have T : Txt K mg (cof [a1, a2, a3, a4, a5, a6, a7, a8, a9, a10, a11]) := ⟨PySem.W.mg_none_of X G b_abs, PySem.W.mg_none_of X G b_bool, PySem.W.mg_none_of X G b_int, PySem.W.mg_none_of X G b_isinstance, PySem.W.mg_none_of X G b_len, PySem.W.mg_none_of X G b_list, PySem.W.mg_none_of X G b_max, PySem.W.mg_none_of X G b_range, PySem.W.mg_none_of X G b_tuple, ⟨_, PySem.W.mg_of X G g_LAST_PLACE, ⟨_, rfl⟩⟩, ⟨_, PySem.W.mg_of X G g_WEIGHT, ⟨_, rfl⟩⟩, ⟨_, PySem.W.mg_of X G g_REACH, ⟨_, rfl⟩⟩, ⟨_, PySem.W.mg_of X G g_LONGEST, ⟨_, rfl⟩⟩, ⟨_, PySem.W.mg_of X G g_WORTH, ⟨_, rfl⟩⟩, ⟨_, PySem.W.mg_of X G g_MOST_WRAPS, ⟨_, rfl⟩⟩, ⟨_, PySem.W.mg_of X G g_MOST_TIMES, ⟨_, rfl⟩⟩, ⟨_, PySem.W.mg_of X G g_FARTHEST, ⟨_, rfl⟩⟩, ⟨_, PySem.W.mg_of X G n11, rel_cof cof11⟩, ⟨_, PySem.W.mg_of X G n1, rel_cof cof1⟩, ⟨_, PySem.W.mg_of X G n2, rel_cof cof2⟩, ⟨_, PySem.W.mg_of X G n3, rel_cof cof3⟩, ⟨_, PySem.W.mg_of X G n4, rel_cof cof4⟩, ⟨_, PySem.W.mg_of X G n5, rel_cof cof5⟩, ⟨_, PySem.W.mg_of X G n6, rel_cof cof6⟩, ⟨_, PySem.W.mg_of X G n7, rel_cof cof7⟩, ⟨_, PySem.W.mg_of X G n8, rel_cof cof8⟩, ⟨_, PySem.W.mg_of X G n9, rel_cof cof9⟩, ⟨_, PySem.W.mg_of X G n10, rel_cof cof10⟩⟩
  have TC : ClsT K (cof [a1, a2, a3, a4, a5, a6, a7, a8, a9, a10, a11]) := clsT_mk f1 f2 f3 f4 f5 f6 f7 f8 f9 f10 na
  have IT : IsT K (cof [a1, a2, a3, a4, a5, a6, a7, a8, a9, a10, a11]) := isT_mk f1 f2 f3 f4 f5 f6 f7 f8 f9 f10 spc tkn kp kt kv
  have I2 : IsT2 K (cof [a1, a2, a3, a4, a5, a6, a7, a8, a9, a10, a11]) := isT2_mk kn kg
  refine ⟨fnOf "law" "law" (C8.fnArgs s_law) (C8.fnBody s_law) (C8.fnScope s_law) .none kV doc pm an cdv ct, fun s v => .of_eq rfl, fun base _ _ => ?_⟩
  exact all0 (P := PySem.Challenge.pw_evenbend_k01_parts) T TC IT I2 ⟨oc, od, .none, kV, doc, pm, an, cdv, ct, osl, rfl, law2, law3⟩
    hd_is_number
    hd_is_number_from
    hd_check_number
    hd_check_place
    hd_check_reach
    hd_check_aim
    hd_check_worths
    hd_check_bends
    hd_check_places
    hd_wraps_around
    hd_check_wrapped
    hd_moved_limit
    hd_law_cell_at
    hd_law_numbers
    hd_law_worths
    hd_law_single
    hd_law_double
    hd_law_part
    hd_law_at
    hd_law_base
    hd_law_made
    hd_law_ends
    hd_law_right
    hd_law_classes
    (by rw [cof1]; exact PySem.W.mg_of X G n1)
    (by rw [cof2]; exact PySem.W.mg_of X G n2)
    (by rw [cof3]; exact PySem.W.mg_of X G n3)
    (by rw [cof4]; exact PySem.W.mg_of X G n4)
    (by rw [cof5]; exact PySem.W.mg_of X G n5)
    (by rw [cof6]; exact PySem.W.mg_of X G n6)
    (by rw [cof7]; exact PySem.W.mg_of X G n7)
    (by rw [cof8]; exact PySem.W.mg_of X G n8)
    (by rw [cof9]; exact PySem.W.mg_of X G n9)
    (by rw [cof10]; exact PySem.W.mg_of X G n10)
    (by rw [cof1]; exact hi_Slope)
    (by rw [cof2]; exact hi_Aim)
    (by rw [cof3]; exact hi_Square)
    (by rw [cof4]; exact hi_Row)
    (by rw [cof5]; exact hi_Wall)
    (by rw [cof8]; exact hi_Ahead)
    (by rw [cof9]; exact hi_Times)
    (by rw [cof10]; exact hi_Moved)
    (by rw [cof1]; exact hm_Slope_stands)
    (by rw [cof2]; exact hm_Aim_stands)
    (by rw [cof3]; exact hm_Square_stands)
    (by rw [cof4]; exact hm_Row_stands)
    (by rw [cof5]; exact hm_Wall_stands)
    (by rw [cof6]; exact hm_Near_stands)
    (by rw [cof7]; exact hm_Gaps_stands)
    (by rw [cof8]; exact hm_Ahead_stands)
    (by rw [cof1]; exact hm_Slope_worth_of)
    (by rw [cof1]; exact hm_Slope_limits)
    (by rw [cof2]; exact hm_Aim_worth_of)
    (by rw [cof2]; exact hm_Aim_limits)
    (by rw [cof3]; exact hm_Square_worth_of)
    (by rw [cof3]; exact hm_Square_limits)
    (by rw [cof4]; exact hm_Row_worth_of)
    (by rw [cof4]; exact hm_Row_limits)
    (by rw [cof5]; exact hm_Wall_worth_of)
    (by rw [cof5]; exact hm_Wall_limits)
    (by rw [cof8]; exact hm_Ahead_worth_of)
    (by rw [cof8]; exact hm_Ahead_limits)
    (by rw [cof6, cof2]; exact hs_Near_worth_of)
    (by rw [cof6, cof2]; exact hs_Near_limits)
    (by rw [cof7, cof4]; exact hs_Gaps_worth_of)
    (by rw [cof7, cof4]; exact hs_Gaps_limits)
    (by rw [cof6, cof2]; exact hs_Near)
    (by rw [cof7, cof4]; exact hs_Gaps)
    (by rw [cof9]; exact hm_Times_stands)
    (by rw [cof9]; exact hm_Times_worth_of)
    (by rw [cof9]; exact hm_Times_limits)
    (by rw [cof10]; exact hm_Moved_stands)
    (by rw [cof10]; exact hm_Moved_worth_of)
    (by rw [cof10]; exact hm_Moved_limits)
theorem walk {l : PySem.W.OpenLaw} {q : Program} {loose : List Str} {XP : (Str → Option Value) → Heap → Prop} {YP : World → Heap → Prop} {d : DefRec} {K : Params → PySem.W.Frag} (hn : l.most = some 63) (hdf : d.params.defaults = [])
    (hY : ∀ (w : World) (h : Heap), YP w h → (K w.params).In h)
    (F : ∀ (w : World) (mg : Str → Option Value) (fa : Addr) (h : Heap), (K w.params).In h → h.Ns mainGlobals mg → mg d.name = some (.ref fa) →
      ∃ fd : FuncData, (∀ (s : Shared) (u : Value), BindsTo s fd ⟨[u], []⟩ [("_law_script", u)]) ∧ ∀ base : Heap, (K w.params).In base → base.Ns mainGlobals mg → FnOk l.prog w (K w.params) mg base CX0 13 fa fd ["_law_script"] (spLaw (K w.params))) :
    PySem.W.WalkO q loose XP YP l.row.toRowW d [] (fun f vs => PySem.call f vs) :=
  L2.walk_of (n := 63) (k := 13) (x := "_law_script") (CX := fun _ => CX0) (sp := fun w => spLaw (K w.params)) hn (by decide) hdf ⟨rfl, by decide, by decide⟩ hY F (fun _ _ a ns hl _ hS => ⟨a, ns, rfl, hS, hl, fun _ => rfl⟩) fun _ _ _ _ _ z => z

end
end Ev

open PySem PySem.W PyProof.Rows Ev in
set_option maxRecDepth 100000 in
set_option maxHeartbeats 0 in
theorem PySem.Challenge.cw_evenbend_k01_parts_holds : PySem.Challenge.rw_evenbend_k01_parts.Holds := by
  w_on; o_law; k_head; (case hw => w_witness2)
  k_fill
  refine Ev.walk (l := PySem.Challenge.rw_evenbend_k01_parts) rfl rfl (fun w h Y => PySem.W.kIn_of Y) ?F
  case F =>
    intro w mg fa h KX G hmg
    refine' Ev.all1 KX G hmg ?n1 ?n2 ?n3 ?n4 ?n5 ?n6 ?n7 ?n8 ?n9 ?n10 ?n11 ?b_abs ?b_bool ?b_int ?b_isinstance ?b_len ?b_list ?b_max ?b_range ?b_tuple ?g_LAST_PLACE ?g_WEIGHT ?g_REACH ?g_LONGEST ?g_WORTH ?g_MOST_WRAPS ?g_MOST_TIMES ?g_FARTHEST ?f1 ?f2 ?f3 ?f4 ?f5 ?f6 ?f7 ?f8 ?f9 ?f10 ?na ?spc ?tkn ?kp ?kt ?kv ?kn ?kg ?law1 ?law2 ?law3 ?hd_is_number ?hd_is_number_from ?hd_check_number ?hd_check_place ?hd_check_reach ?hd_check_aim ?hd_check_worths ?hd_check_bends ?hd_check_places ?hd_wraps_around ?hd_check_wrapped ?hd_moved_limit ?hd_law_cell_at ?hd_law_numbers ?hd_law_worths ?hd_law_single ?hd_law_double ?hd_law_part ?hd_law_at ?hd_law_base ?hd_law_made ?hd_law_ends ?hd_law_right ?hd_law_classes ?hi_Slope ?hi_Aim ?hi_Square ?hi_Row ?hi_Wall ?hi_Ahead ?hi_Times ?hi_Moved ?hm_Slope_stands ?hm_Aim_stands ?hm_Square_stands ?hm_Row_stands ?hm_Wall_stands ?hm_Near_stands ?hm_Gaps_stands ?hm_Ahead_stands ?hm_Slope_worth_of ?hm_Slope_limits ?hm_Aim_worth_of ?hm_Aim_limits ?hm_Square_worth_of ?hm_Square_limits ?hm_Row_worth_of ?hm_Row_limits ?hm_Wall_worth_of ?hm_Wall_limits ?hm_Ahead_worth_of ?hm_Ahead_limits ?hs_Near_worth_of ?hs_Near_limits ?hs_Gaps_worth_of ?hs_Gaps_limits ?hs_Near ?hs_Gaps ?hm_Times_stands ?hm_Times_worth_of ?hm_Times_limits ?hm_Moved_stands ?hm_Moved_worth_of ?hm_Moved_limits
    (case n1 => k_is)
    (case n2 => k_is)
    (case n3 => k_is)
    (case n4 => k_is)
    (case n5 => k_is)
    (case n6 => k_is)
    (case n7 => k_is)
    (case n8 => k_is)
    (case n9 => k_is)
    (case n10 => k_is)
    (case n11 => k_is)
    (case b_abs => k_is)
    (case b_bool => k_is)
    (case b_int => k_is)
    (case b_isinstance => k_is)
    (case b_len => k_is)
    (case b_list => k_is)
    (case b_max => k_is)
    (case b_range => k_is)
    (case b_tuple => k_is)
    (case g_LAST_PLACE => k_is)
    (case g_WEIGHT => k_is)
    (case g_REACH => k_is)
    (case g_LONGEST => k_is)
    (case g_WORTH => k_is)
    (case g_MOST_WRAPS => k_is)
    (case g_MOST_TIMES => k_is)
    (case g_FARTHEST => k_is)
    (case f1 => (refine' ⟨?_, ?_, ?_, ?_, ?_, ?_⟩ <;> k_is))
    (case f2 => (refine' ⟨?_, ?_, ?_, ?_, ?_, ?_⟩ <;> k_is))
    (case f3 => (refine' ⟨?_, ?_, ?_, ?_, ?_, ?_⟩ <;> k_is))
    (case f4 => (refine' ⟨?_, ?_, ?_, ?_, ?_, ?_⟩ <;> k_is))
    (case f5 => (refine' ⟨?_, ?_, ?_, ?_, ?_, ?_⟩ <;> k_is))
    (case f6 => (refine' ⟨?_, ?_, ?_, ?_, ?_, ?_⟩ <;> k_is))
    (case f7 => (refine' ⟨?_, ?_, ?_, ?_, ?_, ?_⟩ <;> k_is))
    (case f8 => (refine' ⟨?_, ?_, ?_, ?_, ?_, ?_⟩ <;> k_is))
    (case f9 => (refine' ⟨?_, ?_, ?_, ?_, ?_, ?_⟩ <;> k_is))
    (case f10 => (refine' ⟨?_, ?_, ?_, ?_, ?_, ?_⟩ <;> k_is))
    (case na => kernel_rfl)
    (case spc => k_is)
    (case tkn => k_is)
    (case kp => kernel_rfl)
    (case kt => kernel_rfl)
    (case kv => kernel_rfl)
    (case kn => kernel_rfl)
    (case kg => kernel_rfl)
    (case law1 => k_is)
    (case law2 => k_is)
    (case law3 => k_is)
    (case hd_is_number => (refine' def_mk KX G ?a ?l ?c ?k bn_is_number; (case a => k_is); (case l => k_is); (case c => k_is); (case k => k_is)))
    (case hd_is_number_from => (refine' def_mk KX G ?a ?l ?c ?k bn_is_number_from; (case a => k_is); (case l => k_is); (case c => k_is); (case k => k_is)))
    (case hd_check_number => (refine' def_mk KX G ?a ?l ?c ?k bn_check_number; (case a => k_is); (case l => k_is); (case c => k_is); (case k => k_is)))
    (case hd_check_place => (refine' def_mk KX G ?a ?l ?c ?k bn_check_place; (case a => k_is); (case l => k_is); (case c => k_is); (case k => k_is)))
    (case hd_check_reach => (refine' def_mk KX G ?a ?l ?c ?k bn_check_reach; (case a => k_is); (case l => k_is); (case c => k_is); (case k => k_is)))
    (case hd_check_aim => (refine' def_mk KX G ?a ?l ?c ?k bn_check_aim; (case a => k_is); (case l => k_is); (case c => k_is); (case k => k_is)))
    (case hd_check_worths => (refine' def_mk KX G ?a ?l ?c ?k bn_check_worths; (case a => k_is); (case l => k_is); (case c => k_is); (case k => k_is)))
    (case hd_check_bends => (refine' def_mk KX G ?a ?l ?c ?k bn_check_bends; (case a => k_is); (case l => k_is); (case c => k_is); (case k => k_is)))
    (case hd_check_places => (refine' def_mk KX G ?a ?l ?c ?k bn_check_places; (case a => k_is); (case l => k_is); (case c => k_is); (case k => k_is)))
    (case hd_wraps_around => (refine' def_mk KX G ?a ?l ?c ?k bn_wraps_around; (case a => k_is); (case l => k_is); (case c => k_is); (case k => k_is)))
    (case hd_check_wrapped => (refine' def_mk KX G ?a ?l ?c ?k bn_check_wrapped; (case a => k_is); (case l => k_is); (case c => k_is); (case k => k_is)))
    (case hd_moved_limit => (refine' def_mk KX G ?a ?l ?c ?k bn_moved_limit; (case a => k_is); (case l => k_is); (case c => k_is); (case k => k_is)))
    (case hd_law_cell_at => (refine' def_mk KX G ?a ?l ?c ?k bn_law_cell_at; (case a => k_is); (case l => k_is); (case c => k_is); (case k => k_is)))
    (case hd_law_numbers => (refine' def_mk KX G ?a ?l ?c ?k bn_law_numbers; (case a => k_is); (case l => k_is); (case c => k_is); (case k => k_is)))
    (case hd_law_worths => (refine' def_mk KX G ?a ?l ?c ?k bn_law_worths; (case a => k_is); (case l => k_is); (case c => k_is); (case k => k_is)))
    (case hd_law_single => (refine' def_mk KX G ?a ?l ?c ?k bn_law_single; (case a => k_is); (case l => k_is); (case c => k_is); (case k => k_is)))
    (case hd_law_double => (refine' def_mk KX G ?a ?l ?c ?k bn_law_double; (case a => k_is); (case l => k_is); (case c => k_is); (case k => k_is)))
    (case hd_law_part => (refine' def_mk KX G ?a ?l ?c ?k bn_law_part; (case a => k_is); (case l => k_is); (case c => k_is); (case k => k_is)))
    (case hd_law_at => (refine' def_mk KX G ?a ?l ?c ?k bn_law_at; (case a => k_is); (case l => k_is); (case c => k_is); (case k => k_is)))
    (case hd_law_base => (refine' def_mk KX G ?a ?l ?c ?k bn_law_base; (case a => k_is); (case l => k_is); (case c => k_is); (case k => k_is)))
    (case hd_law_made => (refine' def_mk KX G ?a ?l ?c ?k bn_law_made; (case a => k_is); (case l => k_is); (case c => k_is); (case k => k_is)))
    (case hd_law_ends => (refine' def_mk KX G ?a ?l ?c ?k bn_law_ends; (case a => k_is); (case l => k_is); (case c => k_is); (case k => k_is)))
    (case hd_law_right => (refine' def_mk KX G ?a ?l ?c ?k bn_law_right; (case a => k_is); (case l => k_is); (case c => k_is); (case k => k_is)))
    (case hd_law_classes => (refine' def_mk KX G ?a ?l ?c ?k bn_law_classes; (case a => k_is); (case l => k_is); (case c => k_is); (case k => k_is)))
    (case hi_Slope => (refine' init_mk ?mk ?kc ?a ?i ?l ?c bn_Slope_init; (case mk => k_is); (case kc => k_is); (case a => k_is); (case i => k_is); (case l => k_is); (case c => k_is)))
    (case hi_Aim => (refine' initA_mk ?mk ?kc ?a ?i ?l ?c ?lT; (case mk => k_is); (case kc => k_is); (case a => k_is); (case i => k_is); (case l => k_is); (case c => k_is); (case lT => k_is)))
    (case hi_Square => (refine' initSq_mk ?mk ?kc ?a ?i ?l ?c ?lT; (case mk => k_is); (case kc => k_is); (case a => k_is); (case i => k_is); (case l => k_is); (case c => k_is); (case lT => k_is)))
    (case hi_Row => (refine' init_mk ?mk ?kc ?a ?i ?l ?c bn_Row_init; (case mk => k_is); (case kc => k_is); (case a => k_is); (case i => k_is); (case l => k_is); (case c => k_is)))
    (case hi_Wall => (refine' init_mk ?mk ?kc ?a ?i ?l ?c bn_Wall_init; (case mk => k_is); (case kc => k_is); (case a => k_is); (case i => k_is); (case l => k_is); (case c => k_is)))
    (case hi_Ahead => (refine' init_mk ?mk ?kc ?a ?i ?l ?c bn_Ahead_init; (case mk => k_is); (case kc => k_is); (case a => k_is); (case i => k_is); (case l => k_is); (case c => k_is)))
    (case hi_Times => (refine' init_mk ?mk ?kc ?a ?i ?l ?c bn_Times_init; (case mk => k_is); (case kc => k_is); (case a => k_is); (case i => k_is); (case l => k_is); (case c => k_is)))
    (case hi_Moved => (refine' init_mk ?mk ?kc ?a ?i ?l ?c bn_Moved_init; (case mk => k_is); (case kc => k_is); (case a => k_is); (case i => k_is); (case l => k_is); (case c => k_is)))
    (case hm_Slope_stands => (refine' met_mk ?a ?i ?l ?c ?k bn_Slope_stands; (case a => k_is); (case i => k_is); (case l => k_is); (case c => k_is); (case k => k_is)))
    (case hm_Aim_stands => (refine' met_mk ?a ?i ?l ?c ?k bn_Aim_stands; (case a => k_is); (case i => k_is); (case l => k_is); (case c => k_is); (case k => k_is)))
    (case hm_Square_stands => (refine' met_mk ?a ?i ?l ?c ?k bn_Square_stands; (case a => k_is); (case i => k_is); (case l => k_is); (case c => k_is); (case k => k_is)))
    (case hm_Row_stands => (refine' met_mk ?a ?i ?l ?c ?k bn_Row_stands; (case a => k_is); (case i => k_is); (case l => k_is); (case c => k_is); (case k => k_is)))
    (case hm_Wall_stands => (refine' met_mk ?a ?i ?l ?c ?k bn_Wall_stands; (case a => k_is); (case i => k_is); (case l => k_is); (case c => k_is); (case k => k_is)))
    (case hm_Near_stands => (refine' met_mk ?a ?i ?l ?c ?k bn_Near_stands; (case a => k_is); (case i => k_is); (case l => k_is); (case c => k_is); (case k => k_is)))
    (case hm_Gaps_stands => (refine' met_mk ?a ?i ?l ?c ?k bn_Gaps_stands; (case a => k_is); (case i => k_is); (case l => k_is); (case c => k_is); (case k => k_is)))
    (case hm_Ahead_stands => (refine' met_mk ?a ?i ?l ?c ?k bn_Ahead_stands; (case a => k_is); (case i => k_is); (case l => k_is); (case c => k_is); (case k => k_is)))
    (case hm_Slope_worth_of => (refine' met_mk ?a ?i ?l ?c ?k bn_Slope_worth_of; (case a => k_is); (case i => k_is); (case l => k_is); (case c => k_is); (case k => k_is)))
    (case hm_Slope_limits => (refine' met_mk ?a ?i ?l ?c ?k bn_Slope_limits; (case a => k_is); (case i => k_is); (case l => k_is); (case c => k_is); (case k => k_is)))
    (case hm_Aim_worth_of => (refine' met_mk ?a ?i ?l ?c ?k bn_Aim_worth_of; (case a => k_is); (case i => k_is); (case l => k_is); (case c => k_is); (case k => k_is)))
    (case hm_Aim_limits => (refine' met_mk ?a ?i ?l ?c ?k bn_Aim_limits; (case a => k_is); (case i => k_is); (case l => k_is); (case c => k_is); (case k => k_is)))
    (case hm_Square_worth_of => (refine' met_mk ?a ?i ?l ?c ?k bn_Square_worth_of; (case a => k_is); (case i => k_is); (case l => k_is); (case c => k_is); (case k => k_is)))
    (case hm_Square_limits => (refine' met_mk ?a ?i ?l ?c ?k bn_Square_limits; (case a => k_is); (case i => k_is); (case l => k_is); (case c => k_is); (case k => k_is)))
    (case hm_Row_worth_of => (refine' met_mk ?a ?i ?l ?c ?k bn_Row_worth_of; (case a => k_is); (case i => k_is); (case l => k_is); (case c => k_is); (case k => k_is)))
    (case hm_Row_limits => (refine' met_mk ?a ?i ?l ?c ?k bn_Row_limits; (case a => k_is); (case i => k_is); (case l => k_is); (case c => k_is); (case k => k_is)))
    (case hm_Wall_worth_of => (refine' met_mk ?a ?i ?l ?c ?k bn_Wall_worth_of; (case a => k_is); (case i => k_is); (case l => k_is); (case c => k_is); (case k => k_is)))
    (case hm_Wall_limits => (refine' met_mk ?a ?i ?l ?c ?k bn_Wall_limits; (case a => k_is); (case i => k_is); (case l => k_is); (case c => k_is); (case k => k_is)))
    (case hm_Ahead_worth_of => (refine' met_mk ?a ?i ?l ?c ?k bn_Ahead_worth_of; (case a => k_is); (case i => k_is); (case l => k_is); (case c => k_is); (case k => k_is)))
    (case hm_Ahead_limits => (refine' met_mk ?a ?i ?l ?c ?k bn_Ahead_limits; (case a => k_is); (case i => k_is); (case l => k_is); (case c => k_is); (case k => k_is)))
    (case hs_Near_worth_of => (refine' sup_mk ?a ?i ?l ?c ?k ?lcell ?S ?e2 ?b; (case a => k_is); (case i => k_is); (case l => k_is); (case c => k_is); (case k => k_is); (case lcell => k_is); (case e2 => k_is); (case S => (refine' supOk_mk (st := s_Near_worth_of) (qual := "Near.worth_of") ?sl ?hp ?har ?lc ?hv ?hf ?lcl ?cls ?sub ?top ?sup ?opq ?met ?ty ?fi ?nm; (case sl => k_is); (case hp => rfl); (case har => rfl); (case lc => k_is); (case hv => rfl); (case hf => first | rfl | decide +kernel); (case lcl => k_is); (case cls => k_is); (case sub => k_is); (case top => first | rfl | decide +kernel); (case sup => (refine' PySem.W.mg_none_of KX G ?ss; (case ss => k_is))); (case opq => k_is); (case met => ks_is); (case ty => k_is); (case fi => k_is); (case nm => decide))); (case b => exact fun us hl => match us, hl with | [_, _], _ => rfl)))
    (case hs_Near_limits => (refine' sup_mk ?a ?i ?l ?c ?k ?lcell ?S ?e2 ?b; (case a => k_is); (case i => k_is); (case l => k_is); (case c => k_is); (case k => k_is); (case lcell => k_is); (case e2 => k_is); (case S => (refine' supOk_mk (st := s_Near_limits) (qual := "Near.limits") ?sl ?hp ?har ?lc ?hv ?hf ?lcl ?cls ?sub ?top ?sup ?opq ?met ?ty ?fi ?nm; (case sl => k_is); (case hp => rfl); (case har => rfl); (case lc => k_is); (case hv => rfl); (case hf => first | rfl | decide +kernel); (case lcl => k_is); (case cls => k_is); (case sub => k_is); (case top => first | rfl | decide +kernel); (case sup => (refine' PySem.W.mg_none_of KX G ?ss; (case ss => k_is))); (case opq => k_is); (case met => ks_is); (case ty => k_is); (case fi => k_is); (case nm => decide))); (case b => exact fun us hl => match us, hl with | [_], _ => rfl)))
    (case hs_Gaps_worth_of => (refine' sup_mk ?a ?i ?l ?c ?k ?lcell ?S ?e2 ?b; (case a => k_is); (case i => k_is); (case l => k_is); (case c => k_is); (case k => k_is); (case lcell => k_is); (case e2 => k_is); (case S => (refine' supOk_mk (st := s_Gaps_worth_of) (qual := "Gaps.worth_of") ?sl ?hp ?har ?lc ?hv ?hf ?lcl ?cls ?sub ?top ?sup ?opq ?met ?ty ?fi ?nm; (case sl => k_is); (case hp => rfl); (case har => rfl); (case lc => k_is); (case hv => rfl); (case hf => first | rfl | decide +kernel); (case lcl => k_is); (case cls => k_is); (case sub => k_is); (case top => first | rfl | decide +kernel); (case sup => (refine' PySem.W.mg_none_of KX G ?ss; (case ss => k_is))); (case opq => k_is); (case met => ks_is); (case ty => k_is); (case fi => k_is); (case nm => decide))); (case b => exact fun us hl => match us, hl with | [_, _], _ => rfl)))
    (case hs_Gaps_limits => (refine' sup_mk ?a ?i ?l ?c ?k ?lcell ?S ?e2 ?b; (case a => k_is); (case i => k_is); (case l => k_is); (case c => k_is); (case k => k_is); (case lcell => k_is); (case e2 => k_is); (case S => (refine' supOk_mk (st := s_Gaps_limits) (qual := "Gaps.limits") ?sl ?hp ?har ?lc ?hv ?hf ?lcl ?cls ?sub ?top ?sup ?opq ?met ?ty ?fi ?nm; (case sl => k_is); (case hp => rfl); (case har => rfl); (case lc => k_is); (case hv => rfl); (case hf => first | rfl | decide +kernel); (case lcl => k_is); (case cls => k_is); (case sub => k_is); (case top => first | rfl | decide +kernel); (case sup => (refine' PySem.W.mg_none_of KX G ?ss; (case ss => k_is))); (case opq => k_is); (case met => ks_is); (case ty => k_is); (case fi => k_is); (case nm => decide))); (case b => exact fun us hl => match us, hl with | [_], _ => rfl)))
    (case hs_Near => (refine' supN_mk ?mk ?kc ?a ?i ?l ?c ?lT ?lcell ?S ?e2; (case mk => k_is); (case kc => k_is); (case a => k_is); (case i => k_is); (case l => k_is); (case c => k_is); (case lT => k_is); (case lcell => k_is); (case e2 => k_is); (case S => (refine' supOk_mk (st := s_Near_init) (qual := "Near.__init__") ?sl ?hp ?har ?lc ?hv ?hf ?lcl ?cls ?sub ?top ?sup ?opq ?met ?ty ?fi ?nm; (case sl => k_is); (case hp => rfl); (case har => rfl); (case lc => k_is); (case hv => rfl); (case hf => first | rfl | decide +kernel); (case lcl => k_is); (case cls => k_is); (case sub => k_is); (case top => first | rfl | decide +kernel); (case sup => (refine' PySem.W.mg_none_of KX G ?ss; (case ss => k_is))); (case opq => k_is); (case met => ks_is); (case ty => k_is); (case fi => k_is); (case nm => decide)))))
    (case hs_Gaps => (refine' supG_mk ?mk ?kc ?a ?i ?l ?c ?lcell ?S ?e2; (case mk => k_is); (case kc => k_is); (case a => k_is); (case i => k_is); (case l => k_is); (case c => k_is); (case lcell => k_is); (case e2 => k_is); (case S => (refine' supOk_mk (st := s_Gaps_init) (qual := "Gaps.__init__") ?sl ?hp ?har ?lc ?hv ?hf ?lcl ?cls ?sub ?top ?sup ?opq ?met ?ty ?fi ?nm; (case sl => k_is); (case hp => rfl); (case har => rfl); (case lc => k_is); (case hv => rfl); (case hf => first | rfl | decide +kernel); (case lcl => k_is); (case cls => k_is); (case sub => k_is); (case top => first | rfl | decide +kernel); (case sup => (refine' PySem.W.mg_none_of KX G ?ss; (case ss => k_is))); (case opq => k_is); (case met => ks_is); (case ty => k_is); (case fi => k_is); (case nm => decide)))))
    (case hm_Times_stands => (refine' met_mk ?a ?i ?l ?c ?k bn_Times_stands; (case a => k_is); (case i => k_is); (case l => k_is); (case c => k_is); (case k => k_is)))
    (case hm_Times_worth_of => (refine' met_mk ?a ?i ?l ?c ?k bn_Times_worth_of; (case a => k_is); (case i => k_is); (case l => k_is); (case c => k_is); (case k => k_is)))
    (case hm_Times_limits => (refine' met_mk ?a ?i ?l ?c ?k bn_Times_limits; (case a => k_is); (case i => k_is); (case l => k_is); (case c => k_is); (case k => k_is)))
    (case hm_Moved_stands => (refine' met_mk ?a ?i ?l ?c ?k bn_Moved_stands; (case a => k_is); (case i => k_is); (case l => k_is); (case c => k_is); (case k => k_is)))
    (case hm_Moved_worth_of => (refine' met_mk ?a ?i ?l ?c ?k bn_Moved_worth_of; (case a => k_is); (case i => k_is); (case l => k_is); (case c => k_is); (case k => k_is)))
    (case hm_Moved_limits => (refine' met_mk ?a ?i ?l ?c ?k bn_Moved_limits; (case a => k_is); (case i => k_is); (case l => k_is); (case c => k_is); (case k => k_is)))
#print axioms PySem.Challenge.cw_evenbend_k01_parts_holds
