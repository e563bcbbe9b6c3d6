import PyProof.Rows.All
import Wide.All
import OpenK.AllK
import Wide.FinOn
import HandS.ForMost
import HandS.ForExc
import HandS.Wide
import HandS.Gcd
import HandS.IsInst
import HandS.Property
import HandS.Flow
import HandS.RaiseMore
import HandS.Ends
import HandS.Style
import OpenK.KMeth
import KE.KOpsOwn
import KE.KCallOwn
import HandS.ClsMeth
import HandS.Defaults
import HandS.FStr
import OpenK.KOps
import HandS.Star
import HandS.Iter
import HandS.ExcInit
import HandS.Lambda
import HandS.TryMany
import HandS.ExcField
import HandS.ExcIs
import HandS.EndOwn
import KE.KExcIs
import KE.KNestM
import HandS.Walk
import HandS.Steps
import HandS.MakeKwOnly
import KE.GoesMore
import PyProof.StrOps2
import HandS.Text
import PyProof.StrLawsRepr
import KE.KExcInit
import PyProof.ReprRoads
import PySem.Challenge.RW_carpets_k94_kinds_of_errors
set_option Elab.async false
set_option linter.all false
set_option maxRecDepth 100000
set_option maxHeartbeats 2000000
/-! MVA: calls that know that no repr is under way (A.guards), and rules of calls over them. -/
namespace MV
open PySem PySem.Spec PyProof.Rows L2

/-- as FnOk, asked only where no repr is under way -/
structure FnG (P : Program) (w : World) (K : PySem.W.Frag) (mg : Str → Option Value) (base : Heap) (CX : CXT)
    (k : Nat) (f : Addr) (fd : FuncData) (ps : List Str) (sp : Sp) : Prop where
  ln : ∀ vs H Q E, sp vs H Q E → vs.length = ps.length
  go : ∀ (A : Around) (outer : List Env) (s : Shared) (H : Hp) (args : Args) (us : List Value) (vs : List V) (Q : VK) (E : XK),
    Room k A → A.guards = some [] → Env0 P w K mg base A outer s H → BindsTo s fd args (ps.zip us) → Vals vs us →
    sp vs H Q E → codeAny (model P w) A (.call (.ref f) args) (CR CX outer P w H s Q E) s

section
variable {P : Program} {w : World} {K : PySem.W.Frag} {mg : Str → Option Value} {base : Heap} {CX : CXT}
  {k j : Nat} {f : Addr} {fd : FuncData} {ps : List Str} {sp sp' : Sp}

theorem FnG.ofOk (F : FnOk P w K mg base CX k f fd ps sp) : FnG P w K mg base CX k f fd ps sp where
  ln := F.len
  go A outer s H args us vs Q E r _ e b v q := F.run A outer s H args us vs Q E r e b v q

theorem FnG.up (F : FnG P w K mg base CX j f fd ps sp) (h : j ≤ k) : FnG P w K mg base CX k f fd ps sp where
  ln := F.ln
  go A outer s H args us vs Q E r g e b v q := F.go A outer s H args us vs Q E (r.mono h) g e b v q

/-- the rule of a def, the context of its body knowing that no repr is under way -/
theorem fng_of {name qual : Str} {params : Arguments} {body : List Stmt} {scope : Scope} {dV kV doc pm cdv ct oc : Value}
    {an od : Option Addr} {osl : Array (Option Value)} {N : List Str}
    (lk : K.lookup f = some ⟨oc, od, .func (PySem.W.fnOf name qual params body scope dV kV doc pm an cdv ct), osl⟩)
    (hcd : PySem.W.codeIn K cdv qual = true) (S : FnScope N ps scope)
    (ln : ∀ vs H Q E, sp vs H Q E → vs.length = ps.length)
    (hbody : ∀ (A : Around) (outer : List Env) (s : Shared) (H : Hp) (vs : List V) (Q : VK) (E : XK),
      Room k (A.deeper (envOfC qual scope s.heap.objs.size f cdv)) →
      (A.deeper (envOfC qual scope s.heap.objs.size f cdv)).guards = some [] → sp vs H Q E →
      ∃ t, PSs (cxOf CX P w K mg base N qual scope f cdv A outer s H E) body t ∧
        t { nx := fun _ H' => Q .non H', rt := Q } (start N vs) H) :
    FnG P w K mg base CX (k + 1) f (PySem.W.fnOf name qual params body scope dV kV doc pm an cdv ct) ps sp where
  ln := ln
  go A outer s H args us vs Q E hr hg e0 hb r hsp := by
    have keep := fun b o e => (e0.bs b o e).1
    have KX : K.In s.heap := e0.mod.kin.keeps keep
    have kinds : ∀ y ∈ ps.zip us, scope.names.lookup y.1 = some .local ∨ (scope.names.lookup y.1 = some .cell ∧
        ((cellsFrom (s.heap.objs.size + 1) scope.names []).lookup y.1).isSome = true) := by
      rintro ⟨n, v⟩ hy
      cases S.par n (List.of_mem_zip hy).1 with
      | inl q => exact .inl q
      | inr q => exact .inr ⟨q, PySem.W.cellsFrom_some _ _ _ (.inl q)⟩
    apply codeAny_call_function hr.depth (KX _ _ lk) rfl S.co S.gen rfl (PySem.W.codeRec_of KX hcd)
    refine hb _ _ _ _ (wpAny_newFunctionEnv_cells S.kind kinds ?_)
    rintro env rfl s1 x
    refine ⟨(e0.mod.nolimit.keeps keep).keeps x.toInCall.keep, codeAny_func ?_⟩
    obtain ⟨t, ht, q⟩ := hbody A outer s H vs Q E (hr.deeper _) hg hsp
    have I := inv_start (CX := CX) (E := E) S hr.hd e0 (ln _ _ _ _ hsp) r x
    apply wpAny_mono (ht.run [] s1 _ H _ I q)
    · intro fl s' hs
      cases fl with
      | brk => exact (let ⟨_, _, _, z⟩ := hs; False.elim z)
      | cont => exact (let ⟨_, _, _, z⟩ := hs; False.elim z)
      | ret u => exact (let ⟨v, _, H', J, rv, z⟩ := hs; ⟨v, H', J.os, J.bare, J.base, J.hok, rv, z⟩)
      | next => exact (let ⟨_, H', J, z⟩ := hs; ⟨V.non, H', J.os, J.bare, J.base, J.hok, rfl, z⟩)
    · exact fun _ _ hs => hs

/-- the rule of a def of the text; what it raises lies as CX says -/
theorem Fun.g {x qual : Str} {st : Stmt} {N : List Str} (F : Fun K x qual st f fd) (S : FnScope N ps (defScope st))
    (ln : ∀ vs H Q E, sp vs H Q E → vs.length = ps.length)
    (hb : ∀ (cdv : Value) (A : Around) (outer : List Env) (s : Shared) (H : Hp) (vs : List V) (Q : VK) (E : XK),
      Room k (A.deeper (envOfC qual (defScope st) s.heap.objs.size f cdv)) →
      (A.deeper (envOfC qual (defScope st) s.heap.objs.size f cdv)).guards = some [] → sp vs H Q E →
      ∃ t, PSs (cxOf CX P w K mg base N qual (defScope st) f cdv A outer s H E) (defBody st) t ∧
        t { nx := fun _ H' => Q .non H', rt := Q } (start N vs) H) :
    FnG P w K mg base CX (k + 1) f fd ps sp := by
  obtain ⟨oc, od, kV, doc, pm, an, cdv, ct, osl, rfl, lk, hcd⟩ := F.ex
  exact fng_of lk hcd S ln fun A outer s H vs Q E hr hg h => hb cdv A outer s H vs Q E hr hg h

/-- as Fun.g, for a def of which nothing comes out but values: with loops -/
theorem Fun.gn {x qual : Str} {st : Stmt} {N : List Str} (F : Fun K x qual st f fd) (S : FnScope N ps (defScope st))
    (ln : ∀ vs H Q E, sp vs H Q E → vs.length = ps.length)
    (hb : ∀ (cdv : Value) (A : Around) (outer : List Env) (s : Shared) (H : Hp) (vs : List V) (Q : VK) (E : XK),
      Room k (A.deeper (envOfC qual (defScope st) s.heap.objs.size f cdv)) →
      (A.deeper (envOfC qual (defScope st) s.heap.objs.size f cdv)).guards = some [] → sp vs H Q E →
      ∃ t, PSs (cxOf CX P w K mg base N qual (defScope st) f cdv A outer s H E).nox (defBody st) t ∧
        t { nx := fun _ H' => Q .non H', rt := Q } (start N vs) H) :
    FnG P w K mg base CX (k + 1) f fd ps sp :=
  Fun.g F S ln fun cdv A outer s H vs Q E hr hg h => (let ⟨t, p, q⟩ := hb cdv A outer s H vs Q E hr hg h; ⟨t, p.nox, q⟩)
end

/-! ### the call of such a def, by values and in the text -/
section
variable {X : Cx} {CX : CXT} {k : Nat} {f C : Addr} {fd : FuncData} {ps : List Str} {sp : Sp} {dvs : List V} {ds : List Value}
  {E : XK} {x m : Str} {p pos apos : Pos} {e o : Expr} {es : List Expr} {ta : TE} {t : TA}

/-- what a caller reads off a callee's end -/
def Back (X : Cx) (pins : List (Addr × Obj)) (σ : L2.St) (Q : VK) : Result → Shared → Prop
  | .ok (.ret u), s' => EP X pins σ Q u s'
  | .ok _, _ => False
  | .error z, s' => X.xe z s'
theorem ended {pins : List (Addr × Obj)} {σ : L2.St} {H : Hp} {s s' : Shared} {Q : VK} {r : Result} (hx : Passes CX X E)
    (I : Inv X pins σ H s) (h : CR CX X.stack X.prog X.w H s Q E r s') :
    Back X pins σ Q r s' := by
  match r, h with
  | .ok (.ret u), h => exact I.after h
  | .ok .next, h => exact h
  | .ok .brk, h => exact h
  | .ok .cont, h => exact h
  | .error z, h => exact hx pins σ H s z s' I h

theorem runG {A : Around} {pins : List (Addr × Obj)} {σ : L2.St} {H : Hp} {s : Shared} {Q : VK} {us : List Value} {vs : List V}
    (F : FnG X.prog X.w X.K X.mg X.base CX k f fd ps sp) (hr : Room k A) (hg : A.guards = some [])
    (e0 : Env0 X.prog X.w X.K X.mg X.base A X.stack s H) (hb : Binds X.K fd ps ds) (hd : Vals dvs ds) (hx : Passes CX X E)
    (I : Inv X pins σ H s) (r : Vals vs us) (h : sp (vs ++ dvs) H Q E) :
    codeAny (model X.prog X.w) A (.call (.ref f) ⟨us, []⟩) (Back X pins σ Q) s := by
  have r2 := r.append hd
  have hl : (us ++ ds).length = ps.length := r2.length.symm.trans (F.ln _ _ _ _ h)
  exact codeAny_mono (F.go A X.stack s H ⟨us, []⟩ (us ++ ds) (vs ++ dvs) Q E hr hg e0 (hb s us I.kIn hl) r2 h)
    fun r s' hq => ended hx I hq

/-- a call by values -/
theorem callG {pins : List (Addr × Obj)} {σ : L2.St} {H : Hp} {s : Shared} {Q : VK} {us : List Value} {vs : List V}
    (F : FnG X.prog X.w X.K X.mg X.base CX k f fd ps sp) (hr : Room k X.A) (hg : X.A.guards = some [])
    (hb : Binds X.K fd ps ds) (hd : Vals dvs ds) (hx : Passes CX X E)
    (I : Inv X pins σ H s) (r : Vals vs us) (h : sp (vs ++ dvs) H Q E) :
    wpAny (model X.prog X.w) X.A (call (.ref f) us) (EP X pins σ Q) X.xe s := by
  refine wpAny_call (codeAny_mono (runG F hr hg I.env0 hb hd hx I r h) fun z s' q => ?_)
  match z, q with
  | .ok (.ret _), q => exact q
  | .error _, q => exact q

theorem peg_call (F : FnG X.prog X.w X.K X.mg X.base CX k f fd ps sp) (hr : Room k X.A) (hg : X.A.guards = some [])
    (hn : Gl X x) (hm : X.mg x = some (.ref f)) (hk : PySem.W.keepIn X.K (.ref f) = true) (hb : Binds X.K fd ps ds)
    (hd : Vals dvs ds) (hx : Passes CX X E) (ha : PA X (e :: es) t)
    (hdb : (x == ("__debug__" : Str)) = false := by decide)
    (he : starEach (e :: es) X.env = (false, eval e X.env) :: starEach es X.env := by rfl)
    (hpl : (backTo pos (starEach es X.env)).any (·.1) = false := by rfl) :
    PE X (.Call (.Name x p) (e :: es) [] pos) (tCall sp dvs E t) := by
  constructor
  intro pins s σ H Q I h
  apply wpAny_Call_Name_kw
  refine ld_glob I hn hm (PySem.W.callWith_K (h₀ := X.base) I.ok.mod.kin hk ?_ he hpl) hdb
  exact thn (ha.run pos pins s σ H _ I h) fun us s1 ⟨vs, H1, I1, r, q⟩ => ⟨I1.kIn, callG F hr hg hb hd hx I1 r q⟩

theorem peg_call0 (F : FnG X.prog X.w X.K X.mg X.base CX k f fd ps sp) (hr : Room k X.A) (hg : X.A.guards = some [])
    (hn : Gl X x) (hm : X.mg x = some (.ref f)) (hk : PySem.W.keepIn X.K (.ref f) = true) (hb : Binds X.K fd ps ds)
    (hd : Vals dvs ds) (hx : Passes CX X E) (hdb : (x == ("__debug__" : Str)) = false := by decide) :
    PE X (.Call (.Name x p) [] [] pos) (tCall sp dvs E tNil) := by
  constructor
  intro pins s σ H Q I h
  apply wpAny_Call_Name_kw
  exact ld_glob I hn hm (PySem.W.callWith_K0 I.kIn hk (callG (us := []) F hr hg hb hd hx I .nil h)) hdb

/-- o.m(..) -/
theorem peg_meth {pl : Sem Bool} (he : PE X o ta) (c : Cls X.K C) (hm : Meth X.K C m f)
    (F : FnG X.prog X.w X.K X.mg X.base CX k f fd ps sp) (hr : Room k X.A) (hg : X.A.guards = some [])
    (hb : Binds X.K fd ps ds) (hd : Vals dvs ds) (hx : Passes CX X E) (ha : PA X (e :: es) t)
    (hst : starEach (e :: es) X.env = (false, eval e X.env) :: starEach es X.env := by rfl)
    (hpl : (backTo pos (starEach es X.env)).any (·.1) = false := by rfl)
    (ht : eval (.Call (.Attribute o m apos) (e :: es) [] pos) X.env = (do
      let ov ← eval o X.env
      standAt apos.atName
      let (g, first) ← holding [ov] (getMethod ov m pl)
      callWith pos g first (backTo pos (starEach (e :: es) X.env)) (backToKw pos (keywordEach [] X.env))) := by rfl) :
    PE X (.Call (.Attribute o m apos) (e :: es) [] pos) (tMeth C m sp dvs E ta t) := by
  constructor
  intro pins s σ H Q I h
  refine PySem.W.methodCall_KW (pl := pl) (thn (he.run pins s σ H _ I h) ?_) ht
  rintro u s1 ⟨_, H1, I1, rx, a, dx, fs, rfl, ea, l, q⟩
  cases rx
  refine getmeth_ok I1 ea c hm l (PySem.W.callWith_K (first := [.ref a]) (h₀ := X.base) I.ok.mod.kin hm.kp ?_ hst hpl)
  refine thn (ha.run pos pins s1 σ H1 _ I1 q) fun us s2 ⟨vs, H2, I2, r, q2⟩ => ⟨I2.kIn, ?_⟩
  exact callG (us := .ref a :: us) (vs := .ref a :: vs) F hr hg hb hd hx I2 (.cons rfl r) q2

theorem peg_meth0 {pl : Sem Bool} (he : PE X o ta) (c : Cls X.K C) (hm : Meth X.K C m f)
    (F : FnG X.prog X.w X.K X.mg X.base CX k f fd ps sp) (hr : Room k X.A) (hg : X.A.guards = some [])
    (hb : Binds X.K fd ps ds) (hd : Vals dvs ds) (hx : Passes CX X E)
    (ht : eval (.Call (.Attribute o m apos) [] [] pos) X.env = (do
      let ov ← eval o X.env
      standAt apos.atName
      let (g, first) ← holding [ov] (getMethod ov m pl)
      callWith pos g first (backTo pos (starEach [] X.env)) (backToKw pos (keywordEach [] X.env))) := by rfl) :
    PE X (.Call (.Attribute o m apos) [] [] pos) (tMeth C m sp dvs E ta tNil) := by
  constructor
  intro pins s σ H Q I h
  refine PySem.W.methodCall_KW (pl := pl) (thn (he.run pins s σ H _ I h) ?_) ht
  rintro u s1 ⟨_, H1, I1, rx, a, dx, fs, rfl, ea, l, q⟩
  cases rx
  refine getmeth_ok I1 ea c hm l (PySem.W.callWith_K0 (first := [.ref a]) I1.kIn hm.kp ?_)
  exact callG (us := [.ref a]) (vs := [.ref a]) F hr hg hb hd hx I1 (.cons rfl .nil) q

theorem guards_make {A : Around} (h : A.guards = some []) (C : Addr) (us : List Value) (kw : List (Str × Value)) :
    (A.under (.builtin "type.__call__" ⟨.ref C :: us, kw⟩)).guards = some [] := by
  have z : ∀ c : Code, c.isGuard = false → (A.under c).guards = A.guards := fun c hc => by
    simp [Around.under, Code.guards, hc, pushGuards]
  rw [z _ rfl, h]

/-- C(..), by values -/
theorem makeG {pins : List (Addr × Obj)} {σ : L2.St} {H : Hp} {s : Shared} {Q : VK} {us : List Value} {vs : List V} (M : Mk X.K C f)
    (F : FnG X.prog X.w X.K X.mg X.base CX k f fd ps sp) (hr : Room (k + 1) X.A) (hg : X.A.guards = some [])
    (hb : Binds X.K fd ps ds) (hd : Vals dvs ds) (hx : Passes CX X E) (I : Inv X pins σ H s) (r : Vals vs us)
    (h : ∀ x dx, H x = none → H dx = none → dx ≠ x → sp (.ref x :: (vs ++ dvs)) (upd (upd H dx (.own x)) x (.ins C dx []))
      (fun v H2 => v = .non ∧ Q (.ref x) H2) E) :
    wpAny (model X.prog X.w) X.A (call (.ref C) us) (EP X pins σ Q) X.xe s := by
  have n := s.heap.objs.size
  have free : ∀ i, s.heap.objs.size ≤ i → H i = none := fun i hi => I.hok.fresh hi
  have q := h (s.heap.objs.size + 1) s.heap.objs.size (free _ (by omega)) (free _ (by omega)) (by
    show s.heap.objs.size ≠ s.heap.objs.size + 1
    exact Nat.ne_of_lt (Nat.lt_succ_self _))
  have J := Inv.made (C := C) I
  have w2 := runG (us := Value.ref (s.heap.objs.size + 1) :: us) (vs := V.ref (s.heap.objs.size + 1) :: vs) F (hr.make C us [])
    (guards_make hg C us []) (J.env0.make C us []) hb hd hx J (.cons rfl r) q
  refine wpAny_call (make_map (f := f) I.kIn M.makes M.init (beq_iff_eq.mp M.fn) (codeAny_mono w2 ?_))
  rintro (z | (_ | _ | _ | u)) s' hq
  · exact hq
  · exact hq.elim
  · exact hq.elim
  · exact hq.elim
  · obtain ⟨v, H', I3, rv, rfl, q3⟩ := hq
    exact ⟨rv, V.ref (s.heap.objs.size + 1), H', I3, rfl, q3⟩

theorem peg_make (M : Mk X.K C f) (F : FnG X.prog X.w X.K X.mg X.base CX k f fd ps sp) (hr : Room (k + 1) X.A)
    (hg : X.A.guards = some []) (hn : Gl X x) (hm : X.mg x = some (.ref C)) (hb : Binds X.K fd ps ds) (hd : Vals dvs ds)
    (hx : Passes CX X E) (ha : PA X (e :: es) t) (hdb : (x == ("__debug__" : Str)) = false := by decide)
    (he : starEach (e :: es) X.env = (false, eval e X.env) :: starEach es X.env := by rfl)
    (hpl : (backTo pos (starEach es X.env)).any (·.1) = false := by rfl) :
    PE X (.Call (.Name x p) (e :: es) [] pos) (tMake C sp dvs E t) := by
  constructor
  intro pins s σ H Q I h
  apply wpAny_Call_Name_kw
  refine ld_glob I hn hm (PySem.W.callWith_K (h₀ := X.base) I.ok.mod.kin M.kp ?_ he hpl) hdb
  exact thn (ha.run pos pins s σ H _ I h) fun us s1 ⟨vs, H1, I1, r, q⟩ => ⟨I1.kIn, makeG M F hr hg hb hd hx I1 r q⟩
end
end MV

set_option Elab.async false
set_option linter.all false
set_option maxRecDepth 100000
set_option maxHeartbeats 2000000
/-! MVB: the end of a law over FnG; repr of data; own in, ==, !=. -/
namespace MV
open PySem PySem.Spec PyProof.Rows L2

/-! ### the end -/
/-- the abstract heap at the law's entry: the script and nothing else -/
def scriptHp (a : Addr) (o : Obj) (xs : List V) : Hp := fun b => if b = a then some (.frz o (.lst xs)) else none
theorem scriptHp_at {a b : Addr} {o : Obj} {xs : List V} {u : HO} (h : scriptHp a o xs b = some u) : b = a ∧ u = .frz o (.lst xs) := by
  unfold scriptHp at h
  split at h
  · exact ⟨by assumption, (Option.some.inj h).symm⟩
  · cases h
theorem scriptHp_none {a b : Addr} {o : Obj} {xs : List V} (h : b ≠ a) : scriptHp a o xs b = none := if_neg h

/-- what the law's run needs of an abstract heap in which at most the script is tracked -/
theorem law_core {P : Program} {w : World} {K : PySem.W.Frag} {mg mb : Str → Option Value} {k : Nat} {fa a : Addr} {fd : FuncData}
    {x : Str} {sp : Sp} {s₁ : Shared} {H : Hp} {CX : CXT}
    (KX : K.In s₁.heap) (hns : s₁.heap.Ns mainGlobals mg) (hb : s₁.heap.Ns builtinsNs mb) (hbb : ∀ x : Str, x ≠ "__name__" → mb x = bootBuiltins x)
    (hlim : s₁.heap.NoLimit) (hg : s₁.gens = #[]) (hr : Room k callerA)
    (F : ∀ base : Heap, K.In base → base.Ns mainGlobals mg → FnG P w K mg base CX k fa fd [x] sp)
    (hbind : ∀ (s : Shared) (u : Value), BindsTo s fd ⟨[u], []⟩ [(x, u)])
    (hsp : sp [.ref a] H (fun v _ => v = .bl true) fun _ _ _ => False)
    (hCX : ∀ e s', CX [] H s₁ (fun _ _ _ => False) e s' → False)
    (ok : HOk P w H s₁.heap) (only : ∀ b u, H b = some u → K.lookup b = none ∧ ∃ o xs, u = .frz o (.lst xs)) :
    codeAny (model P w) callerA (.call (.ref fa) ⟨[.ref a], []⟩)
      (fun r s' => r = .ok (.ret (.bool true)) ∧ OldK s₁.heap s'.heap ∧ s'.os = s₁.os ∧ AllBare s'.gens) s₁ := by
  have dictFree : ∀ {b : Addr} {o : Obj} {es : Array DictEntry} {ep : Nat}, s₁.heap.get? b = some o → o.data = .dict es ep → H b = none := by
    intro b o es ep e d
    match q : H b with
    | none => rfl
    | some u =>
      obtain ⟨_, ob, xs, rfl⟩ := only b u q
      obtain ⟨e2, _, its, n, _, e3⟩ := ok b _ q
      rw [e2] at e3
      cases e3
      rw [e2] at e
      cases e
      cases d
  have ns : ∀ {b : Addr} {m : Str → Option Value}, s₁.heap.Ns b m → (hidT s₁.heap H).Ns b m := by
    rintro b m ⟨o, es, ep, e, d, r⟩
    exact ⟨o, es, ep, hidT_get e (dictFree e d), d, r⟩
  have kin : K.In (hidT s₁.heap H) := by
    intro b o e
    refine hidT_get (KX b o e) ?_
    match q : H b with
    | none => rfl
    | some u => exact absurd e (by rw [(only b u q).1]; simp)
  obtain ⟨ml, l1, l2⟩ := hlim
  have e0 : Env0 P w K mg (hidT s₁.heap H) callerA [] s₁ H :=
    { frames := rfl
      mod := ⟨kin, ns hns, ⟨mb, ns hb, hbb⟩, ⟨ml, ns l1, l2⟩⟩
      bs := fun b o e => of_hidT e
      bsz := Nat.le_of_eq (hidT_size _ _)
      funs := trivial
      frf := fun b z => absurd z List.not_mem_nil
      hok := ok
      bare := .of_eq hg }
  refine codeAny_mono ((F _ kin (ns hns)).go callerA [] s₁ H _ [.ref a] [.ref a] _ _ hr rfl e0 (hbind s₁ (.ref a)) (.cons rfl .nil) hsp) ?_
  intro r s' h
  match r, h with
  | .error e, h => exact (hCX e s' h).elim
  | .ok (.ret u), h =>
    obtain ⟨v, H', os, bare, un, hok', rv, q⟩ := h
    have e1 : v = .bl true := q
    subst e1
    have e2 : u = Value.bool true := rv
    subst e2
    refine ⟨rfl, OldK.of_keep ?_, os, bare⟩
    intro b o e
    match q : H b with
    | none => exact un.keep b o e q List.not_mem_nil List.not_mem_nil
    | some z =>
      obtain ⟨_, ob, xs, rfl⟩ := only b z q
      have e3 := (ok b _ q).1
      rw [e] at e3
      cases e3
      exact (hok' b _ (un.frzs b o _ q)).1

theorem law_callG {P : Program} {w : World} {K : PySem.W.Frag} {mg mb : Str → Option Value} {k : Nat} {fa a : Addr} {fd : FuncData}
    {x : Str} {sp : Sp} {s₁ : Shared} {vs : List Value} {ns : List Int} {CX : CXT}
    (KX : K.In s₁.heap) (hns : s₁.heap.Ns mainGlobals mg) (hb : s₁.heap.Ns builtinsNs mb) (hbb : ∀ x : Str, x ≠ "__name__" → mb x = bootBuiltins x)
    (hlim : s₁.heap.NoLimit) (hg : s₁.gens = #[])
    (ha : s₁.heap.get? a = some { cls := .type "list", data := .seq vs.toArray }) (hi : IntsAre vs ns) (hl : ns.length ≤ sizeLine) (hr : Room k callerA)
    (F : ∀ base : Heap, K.In base → base.Ns mainGlobals mg → FnG P w K mg base CX k fa fd [x] sp)
    (hbind : ∀ (s : Shared) (u : Value), BindsTo s fd ⟨[u], []⟩ [(x, u)])
    (hsp : ∀ H : Hp, SqL K H a (ns.map V.int) → sp [.ref a] H (fun v _ => v = .bl true) fun _ _ _ => False)
    (hCX : ∀ H e s', CX [] H s₁ (fun _ _ _ => False) e s' → False) :
    codeAny (model P w) callerA (.call (.ref fa) ⟨[.ref a], []⟩)
      (fun r s' => r = .ok (.ret (.bool true)) ∧ OldK s₁.heap s'.heap ∧ s'.os = s₁.os ∧ AllBare s'.gens) s₁ := by
  have rv := vals_ints hi
  have n1 := hi.length
  match hk : K.lookup a with
  | some o =>
    have e := (KX a o hk).symm.trans ha
    cases e
    refine law_core (H := fun _ => none) KX hns hb hbb hlim hg hr F hbind (hsp _ (.inr ⟨_, vs.toArray, _, hk, rfl, rfl, rfl, ?_, by simpa using rv⟩)) (hCX _) (fun b u z => nomatch z) (fun b u z => nomatch z)
    rw [List.size_toArray]
    omega
  | none =>
    have hS : SqL K (scriptHp a { cls := .type "list", data := .seq vs.toArray } (ns.map V.int)) a (ns.map V.int) := .inl (.inr ⟨_, if_pos rfl⟩)
    refine law_core (H := scriptHp a { cls := .type "list", data := .seq vs.toArray } (ns.map V.int)) KX hns hb hbb hlim hg hr F hbind (hsp _ hS) (hCX _) (fun b u z => ?_) (fun b u z => ?_)
    · obtain ⟨rfl, rfl⟩ := scriptHp_at z
      exact ⟨ha, by rw [List.length_map]; exact hl, vs, _, rv, ha⟩
    · obtain ⟨rfl, rfl⟩ := scriptHp_at z
      exact ⟨hk, _, _, rfl⟩

/-- the law's row from the promise of its def -/
theorem walkG {l : PySem.W.OpenLaw} {n k : Nat} {q : Program} {loose : List Str} {XP : (Str → Option Value) → Heap → Prop} {YP : World → Heap → Prop}
    {d : DefRec} {K : Params → PySem.W.Frag} {CX : CXT} {sp : PySem.W.Frag → Sp} {x : Str}
    (hn : l.most = some n) (hn2 : n ≤ sizeLine) (hdf : d.params.defaults = []) (hr : Room k callerA)
    (hY : ∀ (w : World) (h : Heap), YP w h → (K w.params).In h)
    (F : ∀ (w : World) (mg : Str → Option Value) (fa : Addr) (h : Heap), (K w.params).In h → h.Ns mainGlobals mg → mg d.name = some (.ref fa) →
      ∃ fd : FuncData, (∀ (s : Shared) (u : Value), BindsTo s fd ⟨[u], []⟩ [(x, u)]) ∧
        ∀ base : Heap, (K w.params).In base → base.Ns mainGlobals mg → FnG l.prog w (K w.params) mg base CX k fa fd [x] (sp (K w.params)))
    (hsp : ∀ (K : PySem.W.Frag) (H : Hp) (a : Addr) (ns : List Int), ns.length ≤ n → SqL K H a (ns.map V.int) → sp K [.ref a] H (fun v _ => v = .bl true) fun _ _ _ => False)
    (hCX : ∀ (H : Hp) (s : Shared) (e : Value) (s' : Shared), CX [] H s (fun _ _ _ => False) e s' → False) :
    PySem.W.WalkO q loose XP YP l.row.toRowW d [] (fun f vs => PySem.call f vs) := by
  refine Att.attach_call hn hdf ?_
  intro w s₀ s₁ mg mb fa o pm cd doc a vs ns G Y ho hd hcd hmg hobj hints hlen hg
  obtain ⟨fd, hb, hF⟩ := F w mg fa _ (hY w _ Y) G.T.g hmg
  exact law_callG (hY w _ Y) G.T.g G.T.b G.T.builtins G.T.nolimit hg hobj hints (Nat.le_trans hlen hn2) hr hF hb
    (fun H hS => hsp _ H a ns hlen hS) fun H e s' => hCX H s₁ e s'

/-! ### properties, own in, own ==, own != -/
section
variable {X : Cx} {CX : CXT} {k : Nat} {f C p : Addr} {fd : FuncData} {ps : List Str} {sp : Sp} {dvs : List V} {ds : List Value}
  {E : XK} {x m : Str} {pos : Pos} {e : Expr} {ta : TE} {n : Str}
/-- e.n, a property -/
theorem peg_prop (he : PE X e ta) (c : Cls X.K C) (hp : PropOf X.K C n p f)
    (F : FnG X.prog X.w X.K X.mg X.base CX k f fd ps sp) (hr : Room (k + 1) X.A) (hg : X.A.guards = some [])
    (hb : Binds X.K fd ps ds) (hd : Vals dvs ds) (hx : Passes CX X.nox E)
    (hab : attributeBase e n X.env (eval e X.env) = eval e X.env := by rfl) :
    PE X (.Attribute e n pos) (tProp C sp dvs E ta) := by
  constructor
  intro pins s σ H Q I h
  refine attr_of hab (thn (he.run pins s σ H _ I h) ?_)
  rintro u s1 ⟨_, H1, I1, rx, a, dx, fs, rfl, ea, q⟩
  cases rx
  obtain ⟨mA, O, _⟩ := ins_get I1.hok ea
  obtain ⟨od, J, _⟩ := O.look
  obtain ⟨rest, hrec⟩ := hp.rec_
  have g := PySem.W.plainGet_of (c.get n)
  have hc : (PySem.W.clsIn X.K C).isSome = true := by
    obtain ⟨cd, hc, _⟩ := PySem.W.any_some c.hd
    rw [hc]
    rfl
  have I2 := I1.tok (s1.toks + 1)
  refine PySem.W.get_bind I1.kIn J g.1 (PySem.W.findObj_data hc hp.at_ hp.get hp.tak) g.2
    (wpAny_call (PySem.W.prop_get (s := { s1 with toks := s1.toks + 1 }) I1.kIn hrec ?_))
  refine codeAny_mono (runG (X := X.nox) (us := [.ref a]) (vs := [.ref a]) F hr.in1 hg I2.env0.in1 hb hd hx (I2.wish _) (.cons rfl .nil) q) fun r s' hq => ?_
  match r, hq with
  | .error _, hq => exact False.elim hq
  | .ok (.ret u), ⟨v, H', I3, rv, q3⟩ =>
    show wpAny _ _ (handedOut u) _ _ _
    rw [PySem.W.handedOut_of (handed_of rv)]
    exact wpAny_pure ⟨v, H', I3.wish _, rv, q3⟩

/-- y in x, x an instance whose class has a def __contains__ -/
def rHas (C : Addr) (sp : Sp) (E : XK) (neg : Bool) : R2 := fun y x H Q => ∃ a dx fs, x = .ref a ∧ H a = some (.ins C dx fs) ∧
  sp [x, y] H (fun z H' => ∃ b, z = .bl b ∧ Q (.bl (if neg then !b else b)) H') E
structure HasC (K : PySem.W.Frag) (C f : Addr) : Prop where
  at_ : PySem.W.findIn K (.ref C) "__contains__" = some (some (.ref f))
  fn : PySem.W.isFn K (.ref f) = true
theorem opg_in (h : HasC X.K C f) (F : FnG X.prog X.w X.K X.mg X.base CX k f fd ps sp) (hr : Room k X.A) (hg : X.A.guards = some [])
    (hb : Binds X.K fd ps []) (hx : Passes CX X E) : OpR X (compareOp .In) (rHas C sp E false) := by
  intro pins s σ H y x v u Q I ry rx q
  obtain ⟨a, dx, fs, rfl, ea, q⟩ := q
  cases rx
  obtain ⟨mA, O, _⟩ := ins_get I.hok ea
  obtain ⟨od, J, _⟩ := O.look
  obtain ⟨m, hF⟩ := I.fr
  refine PySem.W.in_K hF I.ok.mod.kin J h.at_ h.fn (thn (callG (us := [.ref a, v]) (vs := [.ref a, y]) F hr hg hb .nil hx I (.cons rfl (.cons ry .nil)) q) ?_)
  rintro _ s' ⟨_, H', I', rv, b, rfl, q'⟩
  cases rv
  exact wpAny_truthy_bool ⟨V.bl _, H', I', rfl, q'⟩
theorem opg_notIn (h : HasC X.K C f) (F : FnG X.prog X.w X.K X.mg X.base CX k f fd ps sp) (hr : Room k X.A) (hg : X.A.guards = some [])
    (hb : Binds X.K fd ps []) (hx : Passes CX X E) : OpR X (compareOp .NotIn) (rHas C sp E true) := by
  intro pins s σ H y x v u Q I ry rx q
  obtain ⟨a, dx, fs, rfl, ea, q⟩ := q
  cases rx
  obtain ⟨mA, O, _⟩ := ins_get I.hok ea
  obtain ⟨od, J, _⟩ := O.look
  obtain ⟨m, hF⟩ := I.fr
  refine PySem.W.notIn_K hF I.ok.mod.kin J h.at_ h.fn (thn (callG (us := [.ref a, v]) (vs := [.ref a, y]) F hr hg hb .nil hx I (.cons rfl (.cons ry .nil)) q) ?_)
  rintro _ s' ⟨_, H', I', rv, b, rfl, q'⟩
  cases rv
  exact wpAny_truthy_bool ⟨V.bl _, H', I', rfl, q'⟩
end
end MV

set_option Elab.async false
set_option linter.all false
set_option maxRecDepth 100000
set_option maxHeartbeats 2000000
/-! MVC: == and != by an own __eq__. -/
namespace MV
open PySem PySem.Spec PyProof.Rows L2
open PySem.W (InstAt looks_findIn looks_subIn findIn subIn isFn ifBound_K notFirst)

section
variable {prog : Program} {w : World} {A : Around} {E : Value → Shared → Prop} {s : Shared} {K : PySem.W.Frag} {x C f : Addr} {ox : Obj} {od : Option Obj} {name : Str} {b tb : Value} {id : String}

/-- a special name that the class has from a built-in, called -/
theorem ifBoundB {M : Model} {args : List Value} {Q : Option Value → Shared → Prop} (X : K.In s.heap) (I : InstAt s.heap x ox C od)
    (hs : findIn K (.ref C) name = some (some (.builtin id))) (hb : ∀ self, bindSpecial (.builtin id) self = pure (.builtin id, [self]))
    (h : wpAny M A (call (.builtin id) (.ref x :: args)) (fun v => Q (some v)) E s) :
    wpAny M A (callSpecialIfBound? (.ref x) name args) Q E s := by
  simp only [callSpecialIfBound?, bindSpecialIfBound?]
  apply wpAny_holding
  apply wpAny_bind
  apply wpAny_bind
  apply wpAny_bind
  refine I.type.here ((looks_findIn X hs).here ?_)
  simp only [hb]
  have fin : wpAny M A (call (.builtin id) ([.ref x] ++ args) >>= fun v => pure (some v)) Q E s :=
    wpAny_bind (thn h fun v s' z => wpAny_pure z)
  refine wpAny_bind (wpAny_askSetting (wpAny_ite ?_))
  split
  · exact wpAny_bind (wpAny_pure (wpAny_pure fin))
  · exact wpAny_tryCatch (wpAny_bind (wpAny_pure (wpAny_pure fin)))

/-- a built-in slot's own check of its first argument, an instance -/
theorem checkSlot {M : Model} {owner n : String} {rest : List Value} {Q : Unit → Shared → Prop} (hk : builtinKind id = some .slot)
    (hs : splitId id = some (owner, n)) (ha : argsOk id ⟨.ref x :: rest, []⟩) (X : K.In s.heap) (I : InstAt s.heap x ox C od)
    (hob : subIn K (.ref C) (.type owner) = some true) (hq : Q () s) :
    wpAny M A (checkBuiltinCall id ⟨.ref x :: rest, []⟩) Q E s := by
  simp only [checkBuiltinCall, hk, hs]
  apply wpAny_bind
  unfold isInstance
  refine wpAny_bind (I.type.here ((looks_subIn X hob).here ?_))
  match hsig : Manifest.signature? id with
  | none => exact wpAny_pure hq
  | some sig =>
    simp only [argsOk, hsig] at ha
    have h2 : Bind.checkArgs id sig ⟨.ref x :: rest, []⟩ = pure () := ha
    show wpAny M A (Bind.checkArgs id sig ⟨.ref x :: rest, []⟩) Q E _
    rw [h2]
    exact wpAny_pure hq

/-- what != asks of a class with an own __eq__ and no own __ne__ -/
structure EqC (K : PySem.W.Frag) (C f : Addr) : Prop where
  at_ : findIn K (.ref C) "__eq__" = some (some (.ref f))
  fn : isFn K (.ref f) = true
  ne_ : findIn K (.ref C) "__ne__" = some (some (.builtin "object.__ne__"))
  ob : subIn K (.ref C) (.type "object") = some true

theorem neEntry (X : K.In s.heap) (I : InstAt s.heap x ox C od) (c : EqC K C f) (hu : A.units < cLine) {Q : Fin → Shared → Prop}
    (hcall : wpAny (model prog w) A (call (.ref f) [.ref x, b]) (fun v s' => ∃ r, v = .bool r ∧ Q (.done (.ret (.bool (!r)))) s') E s) :
    wpAny (model prog w) A (Builtin.«object.__ne__» ⟨[.ref x, b], []⟩) Q E s := by
  unfold Builtin.«object.__ne__»
  repeat (first
    | with_reducible refine wpAny_cRoomFor hu ?_
    | (refine wpAny_bind (m := callSpecialIfBound? (.ref x) (Str.ofString "__eq__") [b])
        (ifBound_K X I c.at_ c.fn (thn hcall fun r s' hr => by
          obtain ⟨b, rfl, hq⟩ := hr
          repeat (first | exact hq | exact wpAny_pure hq | exact wpAny_truthy_bool hq | (refine wpAny_bind (m := truthy (.bool _)) (wpAny_truthy_bool ?_)) | wp_step))))
    | wp_step)

theorem neOwn (X : K.In s.heap) (I : InstAt s.heap x ox C od) (c : EqC K C f) (hb : PySem.W.Looks (model prog w) s.heap (typeOf b) tb)
    (hn : notFirst K C tb = true) (hu : A.units + 1 < cLine) {Q : Value → Shared → Prop}
    (hcall : wpAny (model prog w) A.in1 (call (.ref f) [.ref x, b]) (fun v s' => ∃ r, v = .bool r ∧ Q (.bool (!r)) s') E s) :
    wpAny (model prog w) A (richCompare .NotEq (.ref x) b) Q E s := by
  have one : wpAny (model prog w) A (tryCompare (.ref x) (cmpInfo .NotEq).2.1 b) (fun r s' => ∃ v, r = some v ∧ Q v s') E s := by
    have ent : wpAny (model prog w) A.in1 (Builtin.«object.__ne__» ⟨[.ref x, b], []⟩)
        (fun fin s' => match fin with
          | .done q => ∃ r, q = .ret (.bool r) ∧ Q (.bool r) s'
          | .again _ => False) E s :=
      neEntry X I c hu (thn hcall fun v s' ⟨r, e, q⟩ => ⟨r, e, !r, rfl, q⟩)
    unfold tryCompare
    refine wpAny_bind (ifBoundB X I c.ne_ F.cmp_object.ne.bind (wpAny_call (codeAny_call_builtin F.cmp_object.ne.plain F.cmpEntry_ne
      (checkSlot F.cmpKind_ne F.cmpSplit_ne (F.cmpArgs_ne _ _) X I c.ob ?_))))
    refine thn ent ?_
    rintro (q | _) s' h
    · obtain ⟨r, rfl, q⟩ := h
      first | exact ⟨_, rfl, q⟩ | exact wpAny_pure ⟨_, rfl, q⟩
    · exact h.elim
  unfold richCompare
  simp only [oneThing_ref]
  refine wpAny_holding (wpAny_bind (wpAny_cRoomFor (Nat.lt_of_succ_lt hu) ?_))
  refine wpAny_bind (I.type.here (wpAny_bind (hb.here ?_)))
  have tail : wpAny (model prog w) A (tryCompare (.ref x) (cmpInfo .NotEq).2.1 b >>= fun r => match r with
      | some v => pure v
      | none => (pure .none : Sem Value)) Q E s := wpAny_bind (thn one fun r s' ⟨v, e, q⟩ => by subst e; exact wpAny_pure q)
  split
  · rename_i q
    have e : subIn K tb (.ref C) = some false := by
      rcases Bool.or_eq_true_iff.mp hn with e | e
      · rw [beq_iff_eq.mp e] at q
        simp at q
      · exact beq_iff_eq.mp e
    refine wpAny_bind ((looks_subIn X e).here ?_)
    simp only [Bool.false_eq_true, if_false]
    refine wpAny_bind (thn one ?_)
    rintro _ s' ⟨v, rfl, q⟩
    exact wpAny_pure q
  · refine wpAny_bind (wpAny_pure ?_)
    simp only [Bool.false_eq_true, if_false]
    refine wpAny_bind (thn one ?_)
    rintro _ s' ⟨v, rfl, q⟩
    exact wpAny_pure q
end
end MV

set_option Elab.async false
set_option linter.all false
set_option maxRecDepth 100000
set_option maxHeartbeats 2000000
namespace MV
open PySem PySem.Spec PyProof.Rows L2
section
variable {X : Cx} {CX : CXT} {k : Nat} {f C : Addr} {fd : FuncData} {ps : List Str} {sp : Sp} {E : XK}
/-- x == y, x != y, x an instance of a class with an own __eq__ -/
def rOwnEq (K : PySem.W.Frag) (C : Addr) (sp : Sp) (E : XK) (neg : Bool) : R2 := fun x y H Q => ∃ a dx fs t, x = .ref a ∧ H a = some (.ins C dx fs) ∧
  TyX K H y t ∧ PySem.W.notFirst K C t = true ∧ sp [x, y] H (fun z H' => ∃ b, z = .bl b ∧ Q (.bl (if neg then !b else b)) H') E
theorem opg_eq (c : EqC X.K C f) (F : FnG X.prog X.w X.K X.mg X.base CX k f fd ps sp) (hr : Room k X.A) (hg : X.A.guards = some [])
    (hb : Binds X.K fd ps []) (hx : Passes CX X E) : OpR X (compareOp .Eq) (rOwnEq X.K C sp E false) := by
  intro pins s σ H x y v u Q I rx ry q
  obtain ⟨a, dx, fs, t, rfl, ea, ty, nf, q⟩ := q
  cases rx
  obtain ⟨mA, O, _⟩ := ins_get I.hok ea
  obtain ⟨od, J, _⟩ := O.look
  obtain ⟨m, hF⟩ := I.fr
  obtain ⟨P, kx, hP, _⟩ := kit_of I ry ty
  show wpAny _ _ (richCompare .Eq _ _) _ _ _
  refine PySem.W.cmp_K (op := .Eq) hr.units0 hF I.ok.mod.kin J (kx.ty _ _ I.kIn hP) nf c.at_ c.fn ?_
  refine thn (callG (us := [.ref a, u]) (vs := [.ref a, y]) F hr hg hb .nil hx I (.cons rfl (.cons ry .nil)) q) ?_
  rintro _ s' ⟨_, H', I', rv, b, rfl, q'⟩
  cases rv
  exact ⟨V.bl _, H', I', rfl, q'⟩
theorem opg_ne (c : EqC X.K C f) (F : FnG X.prog X.w X.K X.mg X.base CX k f fd ps sp) (hr : Room (k + 1) X.A) (hg : X.A.guards = some [])
    (hb : Binds X.K fd ps []) (hx : Passes CX X E) : OpR X (compareOp .NotEq) (rOwnEq X.K C sp E true) := by
  intro pins s σ H x y v u Q I rx ry q
  obtain ⟨a, dx, fs, t, rfl, ea, ty, nf, q⟩ := q
  cases rx
  obtain ⟨mA, O, _⟩ := ins_get I.hok ea
  obtain ⟨od, J, _⟩ := O.look
  obtain ⟨P, kx, hP, _⟩ := kit_of I ry ty
  show wpAny _ _ (richCompare .NotEq _ _) _ _ _
  have hu : X.A.units + 1 < cLine := by have := hr.un; omega
  refine neOwn I.kIn J c (kx.ty _ _ I.kIn hP) nf hu (wpAny_call ?_)
  refine codeAny_mono (runG (us := [.ref a, u]) (vs := [.ref a, y]) F hr.in1 hg I.env0.in1 hb .nil hx I (.cons rfl (.cons ry .nil)) q) fun r s' hq => ?_
  match r, hq with
  | .error _, hq => exact hq
  | .ok (.ret w), ⟨_, H', I', rv, b, e, q'⟩ =>
    subst e
    have e2 : w = Value.bool b := rv
    subst e2
    exact ⟨b, rfl, V.bl (!b), H', I', rfl, q'⟩
end
end MV

set_option Elab.async false
set_option linter.all false
set_option maxRecDepth 100000
set_option maxHeartbeats 2000000
/-! MVE: what a step leaves of the heap (Stp), int tuples (IT), readings by lemmas (r_*), the walk over them. -/
namespace MV
open PySem PySem.Spec PyProof.Rows L2

/-! ### the tape of draws -/
/-- at t the tape: the script's ints, how many are read, what is left of a great one, the seed -/
def TapeL (H : Hp) (t l : Addr) : Prop := ∃ (ns : List Int) (a b c : Int), l ≠ t ∧
  H t = some (.lst [.ref l, .int a, .int b, .int c]) ∧ H l = some (.lst (ns.map V.int)) ∧ 0 ≤ a ∧ 0 ≤ c ∧ c < 2147483647
def Tape (H : Hp) (t : Addr) : Prop := ∃ l, TapeL H t l

/-- what a step leaves: all objects, but for the list at t (the tape), which stays a tape -/
structure Stp (t : Option Addr) (H H' : Hp) : Prop where
  ge : ∀ b o, (t = some b → ∀ xs, o ≠ .lst xs) → H b = some o → H' b = some o
  tp : ∀ a l, t = some a → TapeL H a l → TapeL H' a l

theorem TapeL.more {H H' : Hp} {a l : Addr} (T : TapeL H a l) (s : ∀ b o, H b = some o → H' b = some o) : TapeL H' a l := by
  obtain ⟨ns, x, b, c, h1, h2, h3, h4⟩ := T
  exact ⟨ns, x, b, c, h1, s _ _ h2, s _ _ h3, h4⟩
theorem Tape.more {H H' : Hp} {a : Addr} (T : Tape H a) (s : ∀ b o, H b = some o → H' b = some o) : Tape H' a := (let ⟨l, h⟩ := T; ⟨l, h.more s⟩)
theorem Stp.refl (t : Option Addr) (H : Hp) : Stp t H H := ⟨fun _ _ _ h => h, fun _ _ _ h => h⟩
theorem Stp.all {H H' : Hp} (s : Stp none H H') : ∀ b o, H b = some o → H' b = some o := fun b o h => s.ge b o (fun z => nomatch z) h
theorem Stp.of {H H' : Hp} (s : ∀ b o, H b = some o → H' b = some o) (t : Option Addr) : Stp t H H' := ⟨fun b o _ h => s b o h, fun _ _ _ T => T.more s⟩
theorem Stp.w {H H' : Hp} {t : Option Addr} (s : Stp none H H') : Stp t H H' := Stp.of s.all t
theorem Stp.trans {H H1 H2 : Hp} {t : Option Addr} (a : Stp t H H1) (b : Stp t H1 H2) : Stp t H H2 :=
  ⟨fun c o n h => b.ge c o n (a.ge c o n h), fun c l e T => b.tp c l e (a.tp c l e T)⟩
theorem Stp.new {H : Hp} {p : Addr} {o : HO} (h : H p = none) : Stp none H (upd H p o) := Stp.of (fun b u e => by
  rw [upd_ne (ne_of_none e h)]
  exact e) none
theorem Tape.mv {t : Option Addr} {H H' : Hp} {a : Addr} (s : Stp t H H') (h : t = none ∨ t = some a) (T : Tape H a) : Tape H' a := by
  rcases h with rfl | rfl
  · exact T.more s.all
  · exact (let ⟨l, h⟩ := T; ⟨l, s.tp a l rfl h⟩)
theorem Tape.mvN {H H' : Hp} {a : Addr} (s : Stp none H H') (T : Tape H a) : Tape H' a := T.more s.all
theorem Tape.mvS {H H' : Hp} {a : Addr} (s : Stp (some a) H H') (T : Tape H a) : Tape H' a := (let ⟨l, h⟩ := T; ⟨l, s.tp a l rfl h⟩)
theorem Stp.same {H H' : Hp} (s : Stp none H H') : Same H H' := s.all

/-! ### int tuples, lists, instances -/
/-- v is a tuple of the ints ns -/
def IT (H : Hp) (v : V) (ns : List Int) : Prop := ∃ p, v = .ref p ∧ H p = some (.tup (ns.map V.int))
theorem IT.mv {t : Option Addr} {H H' : Hp} {v : V} {ns : List Int} (s : Stp t H H') (h : IT H v ns) : IT H' v ns := by
  obtain ⟨p, e, h⟩ := h
  exact ⟨p, e, s.ge _ _ (fun _ xs z => by cases z) h⟩
/-- as IT, or a tuple of the text that is always there -/
def IK (K : PySem.W.Frag) (H : Hp) (v : V) (ns : List Int) : Prop := ∃ p, v = .ref p ∧ SqT K H p (ns.map V.int)
theorem IT.k {K : PySem.W.Frag} {H : Hp} {v : V} {ns : List Int} (h : IT H v ns) : IK K H v ns := by
  obtain ⟨p, e, h⟩ := h
  exact ⟨p, e, SqT.of h⟩
theorem SqT.mvS {K : PySem.W.Frag} {t : Option Addr} {H H' : Hp} {p : Addr} {xs : List V} (s : Stp t H H') (h : SqT K H p xs) : SqT K H' p xs := by
  rcases h with h | h
  · rcases h with h | ⟨o, h⟩
    · exact .inl (.inl (s.ge _ _ (fun _ xs z => by cases z) h))
    · exact .inl (.inr ⟨o, s.ge _ _ (fun _ xs z => by cases z) h⟩)
  · exact .inr h
theorem IK.mv {K : PySem.W.Frag} {t : Option Addr} {H H' : Hp} {v : V} {ns : List Int} (s : Stp t H H') (h : IK K H v ns) : IK K H' v ns := by
  obtain ⟨p, e, h⟩ := h
  exact ⟨p, e, SqT.mvS s h⟩
theorem At.tup {t : Option Addr} {H H' : Hp} {p : Addr} {xs : List V} (s : Stp t H H') (h : H p = some (.tup xs)) : H' p = some (.tup xs) :=
  s.ge _ _ (fun _ xs z => by cases z) h
theorem At.ins {t : Option Addr} {H H' : Hp} {p C dx : Addr} {fs : List (Str × V)} (s : Stp t H H') (h : H p = some (.ins C dx fs)) : H' p = some (.ins C dx fs) :=
  s.ge _ _ (fun _ xs z => by cases z) h
theorem At.lst {H H' : Hp} {p : Addr} {xs : List V} (s : Stp none H H') (h : H p = some (.lst xs)) : H' p = some (.lst xs) := s.all _ _ h
theorem At.lstS {t : Addr} {H H' : Hp} {p : Addr} {xs : List V} (s : Stp (some t) H H') (n : p ≠ t) (h : H p = some (.lst xs)) : H' p = some (.lst xs) :=
  s.ge _ _ (fun z => absurd (Option.some.inj z).symm n) h

theorem dp_ints {K : PySem.W.Frag} {H : Hp} : ∀ ns : List Int, DpAll K H (ns.map V.int) (ns.map PyData.int)
  | [] => .nil
  | n :: r => .cons (.int n) (dp_ints r)
theorem IK.dp {K : PySem.W.Frag} {H : Hp} {v : V} {ns : List Int} (h : IK K H v ns) : Dp K H v (.tuple (ns.map PyData.int)) := by
  obtain ⟨p, rfl, h⟩ := h
  exact .tup h (dp_ints ns)
theorem canLay_ints : ∀ ns : List Int, PyData.canLayAll0 (ns.map PyData.int) = true
  | [] => by rw [List.map_nil, PyData.canLayAll0]
  | n :: r => by rw [List.map_cons, PyData.canLayAll0, canLay_ints r, PyData.canLay0]; rfl
theorem depth_ints : ∀ ns : List Int, PyData.depthAll (ns.map PyData.int) = 0
  | [] => by rw [List.map_nil, PyData.depthAll]
  | n :: r => by rw [List.map_cons, PyData.depthAll, depth_ints r, PyData.depth]; rfl
theorem shaped_int (ns : List Int) : SeqAt.shaped (.tuple (ns.map PyData.int)) = true := by
  unfold SeqAt.shaped
  rw [PyData.canLay0, canLay_ints, PyData.depth, depth_ints]
  rfl
theorem eqvAll_ints : ∀ ns ms : List Int, PyData.eqvAll (ns.map PyData.int) (ms.map PyData.int) = decide (ns = ms)
  | [], [] => by rw [List.map_nil, PyData.eqvAll]; rfl
  | [], _ :: _ => by rw [List.map_nil, List.map_cons, PyData.eqvAll]; rfl
  | _ :: _, [] => by rw [List.map_nil, List.map_cons, PyData.eqvAll]; rfl
  | n :: r, m :: q => by
    rw [List.map_cons, List.map_cons, PyData.eqvAll, PyData.eqv, eqvAll_ints r q]
    by_cases h : n = m
    · subst h
      by_cases h2 : r = q
      · subst h2; simp
      · simp [h2]
    · simp [h]
theorem eqv_ints (ns ms : List Int) : PyData.eqv (.tuple (ns.map PyData.int)) (.tuple (ms.map PyData.int)) = decide (ns = ms) := by
  rw [PyData.eqv, eqvAll_ints]

/-! ### readings -/
section
variable {K : PySem.W.Frag} {σ : L2.St} {H H1 H2 : Hp} {Q : VK} {v x y : V} {i j : Int} {n : Nat} {ta tb te tc : TE} {t u : TS} {D : Ends} {tt uu : TT} {a tr : TA} {r : R2} {g : TG} {gs : TGs}
theorem r_var (h : σ[n]? = some (some v)) (q : Q v H) : tVar n σ H Q := ⟨v, h, q⟩
theorem r_c (q : Q v H) : tC v σ H Q := q
theorem r_op (q : ta σ H fun x H1 => tb σ H1 fun y H2 => r x y H2 Q) : tOp r ta tb σ H Q := q
theorem r_un {r : V → Hp → VK → Prop} (q : ta σ H fun x H1 => r x H1 Q) : tUn r ta σ H Q := q
theorem r_nil {Q : List V → Hp → Prop} (q : Q [] H) : tNil σ H Q := q
theorem r_cons {Q : List V → Hp → Prop} (q : ta σ H fun x H1 => tr σ H1 fun xs H2 => Q (x :: xs) H2) : tCons ta tr σ H Q := q
/-- a new tuple, a new list of xs is handed to Q -/
def NewT (xs : List V) (H : Hp) (Q : VK) : Prop := xs.length ≤ sizeLine ∧ ∀ p, H p = none → Q (.ref p) (upd H p (.tup xs))
def NewL (xs : List V) (H : Hp) (Q : VK) : Prop := xs.length ≤ sizeLine ∧ ∀ p, H p = none → Q (.ref p) (upd H p (.lst xs))
theorem r_tup (q : a σ H fun xs H1 => NewT xs H1 Q) : tTup a σ H Q := q
theorem r_lst (q : a σ H fun xs H1 => NewL xs H1 Q) : tLst a σ H Q := q
theorem r_newT {xs : List V} (hl : xs.length ≤ sizeLine) (k : ∀ p H2, Stp none H H2 → H2 p = some (.tup xs) → H p = none → Q (.ref p) H2) :
    NewT xs H Q := ⟨hl, fun p hp => k p _ (Stp.new hp) upd_same hp⟩
theorem r_newL {xs : List V} (hl : xs.length ≤ sizeLine) (k : ∀ p H2, Stp none H H2 → H2 p = some (.lst xs) → H p = none → Q (.ref p) H2) :
    NewL xs H Q := ⟨hl, fun p hp => k p _ (Stp.new hp) upd_same hp⟩
theorem sz100 {n : Nat} (h : n ≤ 100) : n ≤ sizeLine := Nat.le_trans h (by decide)
theorem r_newI {ns : List Int} (hl : ns.length ≤ 100) (k : ∀ v H2, Stp none H H2 → IT H2 v ns → Q v H2) :
    NewT (ns.map V.int) H Q :=
  ⟨sz100 (by rw [List.length_map]; exact hl), fun p hp => k _ _ (Stp.new hp) ⟨p, rfl, upd_same⟩⟩
theorem r_newI2 (k : ∀ v H2, Stp none H H2 → IT H2 v [i, j] → Q v H2) : NewT [V.int i, V.int j] H Q := r_newI (ns := [i, j]) (Nat.le_of_ble_eq_true rfl) k
theorem r_newI3 {l : Int} (k : ∀ v H2, Stp none H H2 → IT H2 v [i, j, l] → Q v H2) : NewT [V.int i, V.int j, V.int l] H Q := r_newI (ns := [i, j, l]) (Nat.le_of_ble_eq_true rfl) k
theorem r_newL1 (k : ∀ p H2, Stp none H H2 → H2 p = some (.lst [x]) → H p = none → Q (.ref p) H2) : NewL [x] H Q := r_newL (sz100 (Nat.le_of_ble_eq_true rfl)) k
theorem r_newL2 (k : ∀ p H2, Stp none H H2 → H2 p = some (.lst [x, y]) → H p = none → Q (.ref p) H2) : NewL [x, y] H Q := r_newL (sz100 (Nat.le_of_ble_eq_true rfl)) k
theorem r_newL3 {z : V} (k : ∀ p H2, Stp none H H2 → H2 p = some (.lst [x, y, z]) → H p = none → Q (.ref p) H2) : NewL [x, y, z] H Q := r_newL (sz100 (Nat.le_of_ble_eq_true rfl)) k
theorem r_cb {r : List V → Hp → VK → Prop} (q : a σ H fun vs H1 => r vs H1 Q) : tCB r a σ H Q := q
theorem r_call {sp : Sp} {dvs : List V} {E : XK} (q : a σ H fun vs H1 => sp (vs ++ dvs) H1 Q E) : tCall sp dvs E a σ H Q := q
theorem r_prop {C : Addr} {sp : Sp} {dvs : List V} {E : XK} (q : ta σ H fun x H1 => ∃ a dx fs, x = .ref a ∧ H1 a = some (.ins C dx fs) ∧ sp (.ref a :: dvs) H1 Q E) : tProp C sp dvs E ta σ H Q := q
theorem r_meth {C : Addr} {m : Str} {sp : Sp} {dvs : List V} {E : XK} (q : ta σ H fun x H1 => ∃ b dx fs, x = .ref b ∧ H1 b = some (.ins C dx fs) ∧ fs.lookup m = none ∧ a σ H1 fun vs H2 => sp (x :: (vs ++ dvs)) H2 Q E) :
    tMeth C m sp dvs E ta a σ H Q := q
/-- C(..): a new object is handed to __init__ and then to Q -/
def MkR (C : Addr) (sp : Sp) (vs : List V) (H1 : Hp) (Q : VK) (E : XK) : Prop := ∀ x dx, H1 x = none → H1 dx = none → dx ≠ x →
    sp (.ref x :: vs) (upd (upd H1 dx (.own x)) x (.ins C dx [])) (fun v H2 => v = .non ∧ Q (.ref x) H2) E
theorem r_make {C : Addr} {sp : Sp} {dvs : List V} {E : XK} (q : a σ H fun vs H1 => MkR C sp (vs ++ dvs) H1 Q E) : tMake C sp dvs E a σ H Q := q
theorem r_andV (q : ta σ H fun x H1 => ∃ c, x = .bl c ∧ if c = true then tb σ H1 Q else Q (.bl false) H1) : tAndV ta tb σ H Q := q
theorem r_orV (q : ta σ H fun x H1 => ∃ c, x = .bl c ∧ if c = true then Q (.bl true) H1 else tb σ H1 Q) : tOrV ta tb σ H Q := q
theorem r_notV (q : ta σ H fun x H1 => ∃ c, x = .bl c ∧ Q (.bl (!c)) H1) : tNotV ta σ H Q := q
theorem r_chain {r' : R2} (q : ta σ H fun x H1 => tb σ H1 fun y H2 => r x y H2 fun z H3 => ∃ k, z = .bl k ∧ (if k = true then tc σ H3 fun w' H4 => r' y w' H4 Q else Q (.bl false) H3)) : tChain r r' ta tb tc σ H Q := q
theorem r_ifE (q : tt σ H fun c H1 => if c = true then ta σ H1 Q else tb σ H1 Q) : tIf tt ta tb σ H Q := q
section
variable {Q : Bool → Hp → Prop}
theorem r_test (q : te σ H fun x H' => ∃ k, x = .bl k ∧ Q k H') : tTest te σ H Q := q
theorem r_B (q : te σ H fun x H' => ∃ k, x = .bl k ∧ Q k H') : tB te σ H Q := q
theorem r_and (q : tt σ H fun c H1 => if c = true then uu σ H1 Q else Q false H1) : tAnd tt uu σ H Q := q
theorem r_or (q : tt σ H fun c H1 => if c = true then Q true H1 else uu σ H1 Q) : tOr tt uu σ H Q := q
theorem r_not (q : tt σ H fun c H1 => Q (!c) H1) : tNot tt σ H Q := q
theorem r_yes (q : Q true H) : tYes σ H Q := q
theorem r_k {b : Bool} (q : Q b H) : ∃ k, V.bl b = .bl k ∧ Q k H := ⟨b, rfl, q⟩
end
theorem r_kV {b : Bool} {P : Bool → Prop} (q : P b) : ∃ k, V.bl b = .bl k ∧ P k := ⟨b, rfl, q⟩
theorem r_seq (q : t { D with nx := u D } σ H) : tSeq t u D σ H := q
theorem r_next (q : D.nx σ H) : tNext D σ H := q
theorem r_asg (q : te σ H fun x H1 => g x σ H1 D.nx) : tAsg te g D σ H := q
theorem r_drop (q : te σ H fun _ H1 => D.nx σ H1) : tDrop te D σ H := q
theorem r_ret (q : te σ H D.rt) : tRet te D σ H := q
theorem r_ifS (q : tt σ H fun b H1 => if b = true then t D σ H1 else u D σ H1) : tIfS tt t u D σ H := q
theorem r_par {m : Nat} (q : a σ H fun vs H1 => ∃ v w, vs = [v, w] ∧ D.nx ((σ.set n (some v)).set m (some w)) H1) : tPar n m a D σ H := q
theorem r_par1 {m : Nat} (q : D.nx ((σ.set n (some x)).set m (some y)) H) : ∃ v w, [x, y] = [v, w] ∧ D.nx ((σ.set n (some v)).set m (some w)) H := ⟨x, y, rfl, q⟩
section
variable {Q : L2.St → Hp → Prop} {vs : List V}
theorem r_gname (q : Q (σ.set n (some v)) H) : gName n v σ H Q := q
theorem r_gnil (q : Q σ H) : gNil [] σ H Q := ⟨rfl, q⟩
theorem r_gcons (q : g v σ H fun σ' H' => gs vs σ' H' Q) : gCons g gs (v :: vs) σ H Q := ⟨v, vs, rfl, q⟩
theorem r_unpack {ns : List Int} (h : IK K H v ns) (hn : ns.length = n) (q : gs (ns.map V.int) σ H Q) : gTup K n gs v σ H Q := by
  obtain ⟨p, rfl, h⟩ := h
  exact ⟨p, _, rfl, h, by rw [List.length_map]; exact hn, q⟩
theorem r_unpack2 (h : IK K H v [i, j]) (q : gs [V.int i, V.int j] σ H Q) : gTup K 2 gs v σ H Q := r_unpack h rfl q
theorem r_unpack3 {l : Int} (h : IK K H v [i, j, l]) (q : gs [V.int i, V.int j, V.int l] σ H Q) : gTup K 3 gs v σ H Q := r_unpack h rfl q
end
-- operators by values
theorem r_add (q : Q (.int (i + j)) H) : rI0 (fun i j => .int (i + j)) (.int i) (.int j) H Q := ⟨i, j, rfl, rfl, q⟩
theorem r_sub (q : Q (.int (i - j)) H) : rI0 (fun i j => .int (i - j)) (.int i) (.int j) H Q := ⟨i, j, rfl, rfl, q⟩
theorem r_mod (h : 0 < j) (q : Q (.int (i % j)) H) : rI (fun _ j => 0 < j) (fun i j => .int (i % j)) (.int i) (.int j) H Q := ⟨i, j, rfl, rfl, h, q⟩
theorem r_div (h : CDivW i j) (q : Q (.int (i / j)) H) : rI CDivW (fun i j => .int (i / j)) (.int i) (.int j) H Q := ⟨i, j, rfl, rfl, h, q⟩
theorem r_mulW (h : CMulW i j) (q : Q (.int (i * j)) H) : rI CMulW (fun i j => .int (i * j)) (.int i) (.int j) H Q := ⟨i, j, rfl, rfl, h, q⟩
theorem r_mul (h : CMul i j) (q : Q (.int (i * j)) H) : rI CMul (fun i j => .int (i * j)) (.int i) (.int j) H Q := ⟨i, j, rfl, rfl, h, q⟩
theorem r_pow (h : CPow i j) (q : Q (.int (i ^ j.toNat)) H) : rI CPow (fun i j => .int (i ^ j.toNat)) (.int i) (.int j) H Q := ⟨i, j, rfl, rfl, h, q⟩
theorem r_neg (q : Q (.int (-i)) H) : rU (fun i => .int (-i)) (.int i) H Q := ⟨i, rfl, q⟩
theorem r_lt (q : Q (.bl (decide (i < j))) H) : rI0 (fun i j => .bl (decide (i < j))) (.int i) (.int j) H Q := ⟨i, j, rfl, rfl, q⟩
theorem r_le (q : Q (.bl (decide (i ≤ j))) H) : rI0 (fun i j => .bl (decide (i ≤ j))) (.int i) (.int j) H Q := ⟨i, j, rfl, rfl, q⟩
theorem r_gt (q : Q (.bl (decide (j < i))) H) : rI0 (fun i j => .bl (decide (j < i))) (.int i) (.int j) H Q := ⟨i, j, rfl, rfl, q⟩
theorem r_ge (q : Q (.bl (decide (j ≤ i))) H) : rI0 (fun i j => .bl (decide (j ≤ i))) (.int i) (.int j) H Q := ⟨i, j, rfl, rfl, q⟩
theorem dec_int : decide (V.int i = V.int j) = decide (i = j) := decide_eq_decide.mpr ⟨V.int.inj, congrArg V.int⟩
theorem r_eqI (q : Q (.bl (decide (i = j))) H) : rEq (.int i) (.int j) H Q := ⟨rfl, by rw [dec_int]; exact q⟩
theorem r_neI (q : Q (.bl (!decide (i = j))) H) : rNe (.int i) (.int j) H Q := ⟨rfl, by rw [dec_int]; exact q⟩
theorem dec_str {s z : Str} : decide (V.str s = V.str z) = decide (s = z) := decide_eq_decide.mpr ⟨V.str.inj, congrArg V.str⟩
theorem r_eqS {s z : Str} (q : Q (.bl (decide (s = z))) H) : rEq (.str s) (.str z) H Q := ⟨rfl, by rw [dec_str]; exact q⟩
theorem r_neS {s z : Str} (q : Q (.bl (!decide (s = z))) H) : rNe (.str s) (.str z) H Q := ⟨rfl, by rw [dec_str]; exact q⟩
/-- == and != of int tuples -/
theorem r_eqT {ns ms : List Int} (hx : IK K H x ns) (hy : IK K H y ms) (q : Q (.bl (decide (ns = ms))) H) : rEqD K x y H Q :=
  ⟨_, _, hx.dp, hy.dp, shaped_int ns, shaped_int ms, by rw [eqv_ints]; exact q⟩
theorem r_neT {ns ms : List Int} (hx : IK K H x ns) (hy : IK K H y ms) (q : Q (.bl (!decide (ns = ms))) H) : rNeD K x y H Q :=
  ⟨_, _, hx.dp, hy.dp, shaped_int ns, shaped_int ms, by rw [eqv_ints]; exact q⟩
/-- an item of an int tuple -/
theorem r_ixI {ns : List Int} {m : Int} (h : IK K H v ns) (hn : ns[n]? = some m) (q : Q (.int m) H) : rIx K v (.int (n : Nat)) H Q := by
  obtain ⟨p, rfl, h⟩ := h
  exact .inr (.inl ⟨p, _, _, _, rfl, rfl, h, atI_nat (by rw [List.getElem?_map, hn]; rfl), q⟩)
theorem r_ix0 {m : Int} {ns : List Int} (h : IK K H v (m :: ns)) (q : Q (.int m) H) : rIx K v (.int 0) H Q := r_ixI (n := 0) h rfl q
theorem r_ix1 {m k : Int} {ns : List Int} (h : IK K H v (k :: m :: ns)) (q : Q (.int m) H) : rIx K v (.int 1) H Q := r_ixI (n := 1) h rfl q
theorem r_ix2 {m k l : Int} {ns : List Int} (h : IK K H v (k :: l :: m :: ns)) (q : Q (.int m) H) : rIx K v (.int 2) H Q := r_ixI (n := 2) h rfl q
/-- an item of a list that stands in H -/
theorem r_ixL {p : Addr} {xs : List V} (h : H p = some (.lst xs)) (hn : xs[n]? = some v) (q : Q v H) : rIx K (.ref p) (.int (n : Nat)) H Q :=
  .inl ⟨p, xs, _, v, rfl, rfl, SqL.of h, atI_nat hn, q⟩
theorem r_ixLi {p : Addr} {xs : List V} {i : Int} (h : H p = some (.lst xs)) (h0 : 0 ≤ i) (hn : xs[i.toNat]? = some v) (q : Q v H) : rIx K (.ref p) (.int i) H Q := by
  have e : i = ((i.toNat : Nat) : Int) := (Int.toNat_of_nonneg h0).symm
  rw [e]
  exact r_ixL h hn q
theorem ixN_nat {m k : Nat} (h : k < m) : ixN m ((k : Nat) : Int) = some k := by
  unfold ixN
  rw [if_pos (Int.natCast_nonneg k), if_pos (by omega)]
  rfl
theorem r_setL {p : Addr} {xs : List V} {Q : Hp → Prop} (h : H p = some (.lst xs)) (hn : n < xs.length) (q : Q (upd H p (.lst (xs.set n v)))) : rSetL (.ref p) (.int (n : Nat)) v H Q :=
  ⟨p, xs, _, n, rfl, rfl, h, ixN_nat hn, q⟩
-- tests
theorem r_ite {p : Prop} [Decidable p] {A B : Prop} (h1 : p → A) (h2 : ¬ p → B) : if decide p = true then A else B := by
  by_cases h : p
  · rw [if_pos (decide_eq_true h)]; exact h1 h
  · rw [if_neg (by simp [h])]; exact h2 h
theorem r_iteN {p : Prop} [Decidable p] {A B : Prop} (h1 : ¬ p → A) (h2 : p → B) : if (!decide p) = true then A else B := by
  by_cases h : p
  · rw [if_neg (by simp [h])]; exact h2 h
  · rw [if_pos (by simp [h])]; exact h1 h
theorem r_T {A B : Prop} (q : A) : if true = true then A else B := q
theorem r_F {A B : Prop} (q : B) : if false = true then A else B := q
theorem r_iT {b : Bool} {A B : Prop} (h : b = true) (q : A) : if b = true then A else B := by rw [h]; exact q
theorem r_iF {b : Bool} {A B : Prop} (h : b = false) (q : B) : if b = true then A else B := by rw [h]; exact q

/-! ### more readings -/
theorem r_call0 {sp : Sp} {E : XK} (q : a σ H fun vs H1 => sp vs H1 Q E) : tCall sp [] E a σ H Q := by
  unfold tCall
  simp only [List.append_nil]
  exact q
theorem r_meth0 {C : Addr} {m : Str} {sp : Sp} {E : XK} (q : ta σ H fun x H1 => ∃ b dx fs, x = .ref b ∧ H1 b = some (.ins C dx fs) ∧ fs.lookup m = none ∧ a σ H1 fun vs H2 => sp (x :: vs) H2 Q E) :
    tMeth C m sp [] E ta a σ H Q := by
  unfold tMeth
  simp only [List.append_nil]
  exact q
theorem r_make0 {C : Addr} {sp : Sp} {E : XK} (q : a σ H fun vs H1 => MkR C sp vs H1 Q E) : tMake C sp [] E a σ H Q := by
  unfold tMake
  simp only [List.append_nil]
  exact q
theorem r_isi {c t u : _} {b : Bool} {x : V} (cl : ClsV c u) (ty : TyX K H x t) (e : PySem.W.kitOne K t u = some b) (q : Q (.bl b) H) : rIsi K [x, c] H Q :=
  ⟨x, c, t, u, b, rfl, cl, ty, e, q⟩
theorem r_isiII (q : Q (.bl true) H) : rIsi K [.int i, .ty "int"] H Q := r_isi (.ty _) (.base (.int i)) (kit_ty (by decide +kernel)) q
theorem r_isiIB (q : Q (.bl false) H) : rIsi K [.int i, .ty "bool"] H Q := r_isi (.ty _) (.base (.int i)) (kit_ty (by decide +kernel)) q
theorem ty_tup {p : Addr} {xs : List V} (h : SqT K H p xs) : TyX K H (.ref p) (.type "tuple") := by
  rcases h with h | ⟨o, _, _, h1, h2, _⟩
  · rcases h with h | ⟨o, h⟩
    · exact .base (.tup h)
    · exact .fTuple h
  · exact .kTuple h1 h2
theorem r_isiTT {ns : List Int} (h : IK K H v ns) (q : Q (.bl true) H) : rIsi K [v, .ty "tuple"] H Q := by
  obtain ⟨p, rfl, h⟩ := h
  exact r_isi (.ty _) (ty_tup h) (kit_ty (by decide +kernel)) q
def rLenV (K : PySem.W.Frag) : List V → Hp → VK → Prop := fun xs H Q => ∃ p ys, xs = [.ref p] ∧ (SqL K H p ys ∨ SqT K H p ys) ∧ Q (.int ys.length) H
theorem r_cbLen (q : a σ H fun vs H1 => rLenV K vs H1 Q) : tCB (fun xs H Q => ∃ p ys, xs = [.ref p] ∧ (SqL K H p ys ∨ SqT K H p ys) ∧ Q (.int ys.length) H) a σ H Q := q
theorem r_lenI {ns : List Int} {m : Int} (h : IK K H v ns) (e : (ns.length : Int) = m) (q : Q (.int m) H) : rLenV K [v] H Q := by
  obtain ⟨p, rfl, h⟩ := h
  refine ⟨p, _, rfl, .inr h, ?_⟩
  rw [List.length_map, e]
  exact q
theorem r_len2 (h : IK K H v [i, j]) (q : Q (.int 2) H) : rLenV K [v] H Q := r_lenI h rfl q
theorem r_len3 {l : Int} (h : IK K H v [i, j, l]) (q : Q (.int 3) H) : rLenV K [v] H Q := r_lenI h rfl q
theorem r_lenL {p : Addr} {xs : List V} (h : H p = some (.lst xs)) (q : Q (.int xs.length) H) : rLenV K [.ref p] H Q := ⟨p, xs, rfl, .inl (SqL.of h), q⟩
def rInt1 : List V → Hp → VK → Prop := fun xs H Q => (∃ i, xs = [.int i] ∧ Q (.int i) H) ∨ ∃ k, xs = [.bl k] ∧ Q (.int (if k then 1 else 0)) H
theorem r_cbInt (q : a σ H fun vs H1 => rInt1 vs H1 Q) : tCB (fun xs H Q => (∃ i, xs = [.int i] ∧ Q (.int i) H) ∨ ∃ k, xs = [.bl k] ∧ Q (.int (if k then 1 else 0)) H) a σ H Q := q
theorem r_int1 (q : Q (.int i) H) : rInt1 [.int i] H Q := .inl ⟨i, rfl, q⟩
theorem r_int1B {b : Bool} (q : Q (.int (if b then 1 else 0)) H) : rInt1 [.bl b] H Q := .inr ⟨b, rfl, q⟩
def rReprI : List V → Hp → VK → Prop := fun xs H Q => ∃ i, xs = [.int i] ∧ i.natAbs.log2 < 1920 ∧ Q (.str (toString i)) H
theorem r_cbRepr (q : a σ H fun vs H1 => rReprI vs H1 Q) : tCB (fun xs H Q => ∃ i, xs = [.int i] ∧ i.natAbs.log2 < 1920 ∧ Q (.str (toString i)) H) a σ H Q := q
theorem r_reprI (h : i.natAbs.log2 < 1920) (q : Q (.str (toString i)) H) : rReprI [.int i] H Q := ⟨i, rfl, h, q⟩
def rTupL (K : PySem.W.Frag) : List V → Hp → VK → Prop := fun xs H Q => ∃ p ys, xs = [.ref p] ∧ ((SqL K H p ys ∧ ∀ l, H l = none → Q (.ref l) (upd H l (.tup ys))) ∨ (SqT K H p ys ∧ Q (.ref p) H))
theorem r_cbTup (q : a σ H fun vs H1 => rTupL K vs H1 Q) : tCB (fun xs H Q => ∃ p ys, xs = [.ref p] ∧ ((SqL K H p ys ∧ ∀ l, H l = none → Q (.ref l) (upd H l (.tup ys))) ∨ (SqT K H p ys ∧ Q (.ref p) H))) a σ H Q := q
theorem r_tupL {p : Addr} {ns : List Int} (h : H p = some (.lst (ns.map V.int))) (k : ∀ v H2, Stp none H H2 → IT H2 v ns → Q v H2) : rTupL K [.ref p] H Q :=
  ⟨p, _, rfl, .inl ⟨SqL.of h, fun l hl => k _ _ (Stp.new hl) ⟨l, rfl, upd_same⟩⟩⟩
def rLstL (K : PySem.W.Frag) : List V → Hp → VK → Prop := fun xs H Q => ∃ p ys, xs = [.ref p] ∧ (SqL K H p ys ∨ SqT K H p ys) ∧ ∀ l, H l = none → Q (.ref l) (upd H l (.lst ys))
theorem r_cbLst (q : a σ H fun vs H1 => rLstL K vs H1 Q) : tCB (fun xs H Q => ∃ p ys, xs = [.ref p] ∧ (SqL K H p ys ∨ SqT K H p ys) ∧ ∀ l, H l = none → Q (.ref l) (upd H l (.lst ys))) a σ H Q := q
theorem r_lstL {p : Addr} {xs : List V} (h : SqL K H p xs) (k : ∀ l H2, Stp none H H2 → H2 l = some (.lst xs) → H l = none → Q (.ref l) H2) : rLstL K [.ref p] H Q :=
  ⟨p, xs, rfl, .inl h, fun l hl => k l _ (Stp.new hl) upd_same hl⟩
theorem r_nT {A B : Prop} (q : B) : if (!true) = true then A else B := q
theorem r_nF {A B : Prop} (q : A) : if (!false) = true then A else B := q
theorem r_gcd {i j : Int} (q : Q (.int ((Nat.gcd i.natAbs j.natAbs : Nat) : Int)) H) : rGcd [.int i, .int j] H Q := ⟨i, j, rfl, q⟩
theorem r_setLi {p : Addr} {xs : List V} {i : Int} {Q : Hp → Prop} (h : H p = some (.lst xs)) (h0 : 0 ≤ i) (hn : i.toNat < xs.length) (q : Q (upd H p (.lst (xs.set i.toNat v)))) : rSetL (.ref p) (.int i) v H Q := by
  have e : i = ((i.toNat : Nat) : Int) := (Int.toNat_of_nonneg h0).symm
  rw [e]
  exact r_setL h hn q
/-- xs[i] = v, both parts read -/
theorem r_gsub {to ti : TE} {t : TSet} {Q : L2.St → Hp → Prop} (q : to σ H fun o H1 => ti σ H1 fun i H2 => t o i v H2 fun H3 => Q σ H3) : gSub to ti t v σ H Q := q
/-- x.f handed to Q -/
def FldR (K : PySem.W.Frag) (f : Str) (x : V) (H : Hp) (Q : VK) : Prop := ∃ a C dx fs v, x = .ref a ∧ H a = some (.ins C dx fs) ∧ Cls K C ∧ NoAttr K C f ∧ fs.lookup f = some v ∧ Q v H
theorem r_fld {f : Str} (q : ta σ H fun x H1 => FldR K f x H1 Q) : tFld K ta f σ H Q := q
theorem mulW_of {i j : Int} (hi : i.natAbs < 10 ^ 70) (hj : j.natAbs < 10 ^ 70) : CMulW i j :=
  wide_mul (a := 240) (b := 240) (Nat.lt_of_lt_of_le hi (by decide)) (Nat.lt_of_lt_of_le hj (by decide)) (by decide) (by decide) (by decide)
theorem divW_of {i j : Int} (h : 0 < j) (hj : j.natAbs < 10 ^ 70) : CDivW i j :=
  wide_div (b := 240) h (Nat.lt_of_lt_of_le hj (by decide)) (by decide) (by decide)
theorem log2_of {i : Int} (h : i.natAbs < 10 ^ 500) : i.natAbs.log2 < 1920 := by
  have : i.natAbs < 2 ^ 1920 := Nat.lt_of_lt_of_le h (by decide +kernel)
  by_cases z : i.natAbs = 0
  · rw [z]; decide
  · exact (Nat.log2_lt z).mpr this
theorem r_p6 (q : Q (.int 1000000) H) : rI CPow (fun i j => .int (i ^ j.toNat)) (.int 10) (.int 6) H Q := ⟨10, 6, rfl, rfl, ⟨by decide, by decide, by decide⟩, q⟩
theorem r_p9 (q : Q (.int 1000000000) H) : rI CPow (fun i j => .int (i ^ j.toNat)) (.int 10) (.int 9) H Q := ⟨10, 9, rfl, rfl, ⟨by decide, by decide, by decide⟩, q⟩
theorem r_p10 (q : Q (.int 10000000000) H) : rI CPow (fun i j => .int (i ^ j.toNat)) (.int 10) (.int 10) H Q := ⟨10, 10, rfl, rfl, ⟨by decide, by decide, by decide⟩, q⟩
theorem r_p11 (q : Q (.int 100000000000) H) : rI CPow (fun i j => .int (i ^ j.toNat)) (.int 10) (.int 11) H Q := ⟨10, 11, rfl, rfl, ⟨by decide, by decide, by decide⟩, q⟩
theorem r_p12 (q : Q (.int 1000000000000) H) : rI CPow (fun i j => .int (i ^ j.toNat)) (.int 10) (.int 12) H Q := ⟨10, 12, rfl, rfl, ⟨by decide, by decide, by decide⟩, q⟩
theorem r_p18 (q : Q (.int 1000000000000000000) H) : rI CPow (fun i j => .int (i ^ j.toNat)) (.int 10) (.int 18) H Q := ⟨10, 18, rfl, rfl, ⟨by decide, by decide, by decide⟩, q⟩
theorem r_p20 (q : Q (.int 100000000000000000000) H) : rI CPow (fun i j => .int (i ^ j.toNat)) (.int 10) (.int 20) H Q := ⟨10, 20, rfl, rfl, ⟨by decide, by decide, by decide⟩, q⟩
theorem r_p26 (q : Q (.int 100000000000000000000000000) H) : rI CPow (fun i j => .int (i ^ j.toNat)) (.int 10) (.int 26) H Q := ⟨10, 26, rfl, rfl, ⟨by decide, by decide, by decide⟩, q⟩
theorem r_p27 (q : Q (.int 1000000000000000000000000000) H) : rI CPow (fun i j => .int (i ^ j.toNat)) (.int 10) (.int 27) H Q := ⟨10, 27, rfl, rfl, ⟨by decide, by decide, by decide⟩, q⟩
theorem r_p30 (q : Q (.int 1000000000000000000000000000000) H) : rI CPow (fun i j => .int (i ^ j.toNat)) (.int 10) (.int 30) H Q := ⟨10, 30, rfl, rfl, ⟨by decide, by decide, by decide⟩, q⟩
theorem r_sfld {f : Str} {tv : TE} (q : tv σ H fun y H1 => ta σ H1 fun x H2 => ∃ a C dx fs, x = .ref a ∧ H2 a = some (.ins C dx fs) ∧ Cls K C ∧ NoAttr K C f ∧ fs.length < 1000 ∧ D.nx σ (upd H2 a (.ins C dx (putF f y fs)))) :
    sFld K ta tv f D σ H := q
theorem r_unl2 {Q : L2.St → Hp → Prop} {p : Addr} (h : H p = some (.lst [x, y])) (q : gs [x, y] σ H Q) : gLst K 2 gs (.ref p) σ H Q := ⟨p, _, rfl, SqL.of h, rfl, q⟩
/-- what isinstance asks of a class of the text -/
structure IsC (K : PySem.W.Frag) (C : Addr) : Prop where
  ca : PySem.W.findIn K (.ref C) "__class__" = some (some (.builtin "object.__class__"))
  cn : PySem.W.specialIn K (.builtin "object.__class__") "__get__" = some (some (.builtin "getset_descriptor.__get__"))
  ct : PySem.W.takesIn K (.builtin "object.__class__") = some true
  cm : PySem.W.mroIn K C (.type "object") = some true
theorem IsC.ty {C p dx : Addr} {fs : List (Str × V)} (c : IsC K C) (cl : Cls K C) (h : H p = some (.ins C dx fs)) : TyX K H (.ref p) (.ref C) :=
  .base (.ins h cl c.ca c.cn c.ct c.cm)
theorem kit_self {C : Addr} : PySem.W.kitOne K (.ref C) (.ref C) = some true := by
  unfold PySem.W.kitOne
  rw [if_pos (by simp)]
theorem notFirst_self {C : Addr} : PySem.W.notFirst K C (.ref C) = true := by
  unfold PySem.W.notFirst
  simp
/-- a property's object is known -/
theorem r_propAt {C p dx : Addr} {fs : List (Str × V)} {sp : Sp} {E : XK} (h : H p = some (.ins C dx fs)) (q : sp [.ref p] H Q E) :
    ∃ a dx fs, V.ref p = .ref a ∧ H a = some (.ins C dx fs) ∧ sp (.ref a :: []) H Q E := ⟨p, dx, fs, rfl, h, q⟩
theorem r_sl {rs : V → Option Int → Option Int → Hp → VK → Prop} {tl th : TO} (q : te σ H fun x H1 => tl σ H1 fun l H2 => th σ H2 fun u H3 => rs x l u H3 Q) : tSl rs te tl th σ H Q := q
theorem r_noPart {Q : Option Int → Hp → Prop} (q : Q none H) : tNoPart σ H Q := q
theorem r_part {Q : Option Int → Hp → Prop} (q : te σ H fun x H1 => ∃ i, x = .int i ∧ Q (some i) H1) : tPart te σ H Q := q
theorem r_pk {P : Int → Prop} (q : P i) : ∃ i', V.int i = .int i' ∧ P i' := ⟨i, rfl, q⟩
theorem r_slL {p : Addr} {xs : List V} {lo hi : Option Int} (h : SqL K H p xs) (k : ∀ l H2, Stp none H H2 → H2 l = some (.lst (cutV xs lo hi)) → H l = none → Q (.ref l) H2) : rSlL K (.ref p) lo hi H Q :=
  ⟨p, xs, rfl, h, fun l hl => k l _ (Stp.new hl) upd_same hl⟩
theorem cutV_map (ns : List Int) (lo hi : Option Int) : ∃ ms : List Int, cutV (ns.map V.int) lo hi = ms.map V.int :=
  ⟨(ns.drop (HT.sIx ns.length 0 lo)).take (HT.sIx ns.length ns.length hi - HT.sIx ns.length 0 lo), by
    unfold cutV
    simp only [List.length_map, List.map_take, List.map_drop]⟩
theorem r_set1 {t : Addr} {p q r s : V} {Q : Hp → Prop} (h : H t = some (.lst [p, q, r, s])) (k : Q (upd H t (.lst [p, v, r, s]))) : rSetL (.ref t) (.int 1) v H Q := r_setLi h (by decide) (Nat.le_of_ble_eq_true rfl) k
theorem r_set2 {t : Addr} {p q r s : V} {Q : Hp → Prop} (h : H t = some (.lst [p, q, r, s])) (k : Q (upd H t (.lst [p, q, v, s]))) : rSetL (.ref t) (.int 2) v H Q := r_setLi h (by decide) (Nat.le_of_ble_eq_true rfl) k
theorem r_set3 {t : Addr} {p q r s : V} {Q : Hp → Prop} (h : H t = some (.lst [p, q, r, s])) (k : Q (upd H t (.lst [p, q, r, v]))) : rSetL (.ref t) (.int 3) v H Q := r_setLi h (by decide) (Nat.le_of_ble_eq_true rfl) k
/-- the tape at t, written out -/
structure TapeIs (H : Hp) (t l : Addr) (ns : List Int) (a b c : Int) : Prop where
  ne : l ≠ t
  at_ : H t = some (.lst [.ref l, .int a, .int b, .int c])
  li : H l = some (.lst (ns.map V.int))
  a0 : 0 ≤ a
  c0 : 0 ≤ c
  c1 : c < 2147483647
theorem Tape.is {t : Addr} (T : Tape H t) : ∃ l ns a b c, TapeIs H t l ns a b c := by
  obtain ⟨l, ns, a, b, c, h1, h2, h3, h4, h5, h6⟩ := T
  exact ⟨l, ns, a, b, c, h1, h2, h3, h4, h5, h6⟩
theorem TapeIs.put {t l : Addr} {ns : List Int} {a b c a' b' c' : Int} (T : TapeIs H t l ns a b c) (a0 : 0 ≤ a') (c0 : 0 ≤ c') (c1 : c' < 2147483647) :
    Stp (some t) H (upd H t (.lst [.ref l, .int a', .int b', .int c'])) ∧ TapeIs (upd H t (.lst [.ref l, .int a', .int b', .int c'])) t l ns a' b' c' := by
  have T' : TapeIs (upd H t (.lst [.ref l, .int a', .int b', .int c'])) t l ns a' b' c' := ⟨T.ne, upd_same, by rw [upd_ne T.ne]; exact T.li, a0, c0, c1⟩
  refine ⟨⟨fun x o n e => ?_, fun x l' e z => ?_⟩, T'⟩
  · by_cases h : x = t
    · subst h
      rw [T.at_] at e
      exact absurd (Option.some.inj e).symm (n rfl _)
    · rw [upd_ne h]; exact e
  · cases e
    have el : l' = l := by
      obtain ⟨_, _, _, _, _, h, _⟩ := z
      rw [T.at_] at h
      simp only [Option.some.injEq, HO.lst.injEq, List.cons.injEq, V.ref.injEq] at h
      exact h.1.symm
    subst el
    exact ⟨ns, a', b', c', T'.ne, T'.at_, T'.li, a0, c0, c1⟩
theorem r_while {c : TT} {tb : TS} (W : Nat → L2.St → Hp → Prop) (h0 : ∃ m, W m σ H) (hs : ∀ m σ H, W m σ H →
    c σ H fun b H1 => if b = true then ∃ N : L2.St → Hp → Prop, (∀ σ' H', N σ' H' → ∃ m', m' < m ∧ W m' σ' H') ∧ tb { D with nx := N, ct := N, bk := D.nx } σ H1 else D.nx σ H1) :
    tWhile c tb D σ H := ⟨W, h0, hs⟩
end
end MV

set_option Elab.async false
set_option linter.all false
set_option maxRecDepth 100000
set_option maxHeartbeats 2000000
/-! MVF: loops and comprehensions as readings. -/
namespace MV
open PySem PySem.Spec PyProof.Rows L2
section
variable {K : PySem.W.Frag} {σ : L2.St} {H : Hp} {n : Nat} {tl : TE} {g : TG} {tb : TS} {D : Ends} {ta : TA} {x : V}
/-- a loop over a list that stands still -/
def ForL (g : TG) (tb : TS) (D : Ends) (σ : L2.St) (x : V) (H1 : Hp) : Prop := ∃ (a : Addr) (xs : List V) (Pv : Nat → L2.St → Hp → Prop), x = .ref a ∧ Pv 0 σ H1 ∧
  (∀ i σ H, i ≤ xs.length → Pv i σ H → H a = some (.lst xs)) ∧
  (∀ i x σ H, xs[i]? = some x → Pv i σ H → g x σ H fun σ2 H2 => tb { D with nx := Pv (i + 1), ct := Pv (i + 1), bk := D.nx } σ2 H2) ∧ (∀ σ H, Pv xs.length σ H → D.nx σ H)
def ForLR (K : PySem.W.Frag) (g : TG) (tb : TS) (D : Ends) (σ : L2.St) (x : V) (H1 : Hp) : Prop := ∃ a, x = .ref a ∧ (∃ xs, SqL K H1 a xs) ∧ ∃ W : Nat → Nat → L2.St → Hp → Prop, (∃ m, W 0 m σ H1) ∧ ∀ i m σ H, W i m σ H →
  ((Itl K a).stop i H ∧ D.nx σ H) ∨ ((Itl K a).go i H ∧ ∃ N : L2.St → Hp → Prop, (∀ σ' H', N σ' H' → ∃ m', m' < m ∧ W (i + 1) m' σ' H') ∧ ∀ x H', (Itl K a).yld i H x H' → g x σ H' fun σ2 H2 => tb { D with nx := N, ct := N, bk := D.nx } σ2 H2)
theorem r_forL (q : tl σ H fun x H1 => ForLR K g tb D σ x H1) : tFor (iList K tl) g tb D σ H := q
theorem ForL.ok (q : ForL g tb D σ x H) : ForLR K g tb D σ x H := by
  obtain ⟨a, xs, Pv, rfl, h0, hl, hs, hd⟩ := q
  exact ⟨a, rfl, ⟨xs, SqL.of (hl 0 σ H (Nat.zero_le _) h0)⟩, for_list Pv h0 (fun i σ H h p => SqL.of (hl i σ H h p)) hs hd⟩
/-- range(n) -/
def ForR (g : TG) (tb : TS) (D : Ends) (σ : L2.St) (vs : List V) (H1 : Hp) : Prop := ∃ (n : Nat) (Pv : Nat → L2.St → Hp → Prop), vs = [.int n] ∧ n < 2 ^ 62 ∧ Pv 0 σ H1 ∧
  (∀ i σ H, i < n → Pv i σ H → g (.int i) σ H fun σ2 H2 => tb { D with nx := Pv (i + 1), ct := Pv (i + 1), bk := D.nx } σ2 H2) ∧ (∀ σ H, Pv n σ H → D.nx σ H)
def ForRn (g : TG) (tb : TS) (D : Ends) (σ : L2.St) (vs : List V) (H : Hp) : Prop := ∃ j : Int, vs = [.int j] ∧ -(2 ^ 62) ≤ j ∧ j < 2 ^ 62 ∧ ∃ W : Nat → Nat → L2.St → Hp → Prop, (∃ m, W 0 m σ H) ∧ ∀ i m σ H, W i m σ H →
      ((Itr 0 j.toNat).stop i H ∧ D.nx σ H) ∨ ((Itr 0 j.toNat).go i H ∧ ∃ N : L2.St → Hp → Prop, (∀ σ' H', N σ' H' → ∃ m', m' < m ∧ W (i + 1) m' σ' H') ∧ ∀ x H', (Itr 0 j.toNat).yld i H x H' → g x σ H' fun σ2 H2 => tb { D with nx := N, ct := N, bk := D.nx } σ2 H2)
theorem ForR.ok {vs : List V} (q : ForR g tb D σ vs H) : ForRn g tb D σ vs H := by
  obtain ⟨n, Pv, rfl, hn, h0, hs, hd⟩ := q
  refine ⟨n, rfl, by omega, by omega, for_range (lo := 0) (n := (n : Int).toNat) Pv h0 (fun i σ H h p => ?_) hd⟩
  rw [Int.zero_add]
  exact hs i σ H h p
theorem r_forR (q : ta σ H fun vs H1 => ForRn g tb D σ vs H1) : tFor (iRng1 ta) g tb D σ H := q
theorem r_forRc {i : Int} (q : ForR g tb D σ [.int i] H) : tFor (iRng1 (tCons (tC (.int i)) tNil)) g tb D σ H := ForR.ok q
theorem r_forRv {m : Nat} {v : V} (h : σ[m]? = some (some v)) (q : ForR g tb D σ [v] H) : tFor (iRng1 (tCons (tVar m) tNil)) g tb D σ H := ⟨v, h, ForR.ok q⟩

/-- [te for n in an int tuple], the terms made of ints alone -/
def LcI (K : PySem.W.Frag) (n : Nat) (te : TE) (vs : List Nat) (σ : L2.St) (Q : VK) (v : V) (H1 : Hp) : Prop := ∃ (ns : List Int) (f : Int → Int), IK K H1 v ns ∧ ns.length ≤ 100 ∧
  (∀ m H', m ∈ ns → Stp none H1 H' → wipe ((wipe σ vs).set n (some (.int m))) vs = wipe σ vs ∧ ∀ Q : VK, Q (.int (f m)) H' → te ((wipe σ vs).set n (some (.int m))) H' Q) ∧
  ∀ p H2, Stp none H1 H2 → H2 p = some (.lst ((ns.map f).map V.int)) → H1 p = none → Q (.ref p) H2
theorem LcI.ok {te : TE} {vs : List Nat} {Q : VK} {v : V} (q : LcI K n te vs σ Q v H) : ∃ a, v = .ref a ∧ (∃ xs, SqT K H a xs) ∧ ∀ D, H D = none → ∃ W : Nat → Nat → Hp → Prop, (∃ m, W 0 m (upd H D (.lst []))) ∧ ∀ i m H, W i m H →
  ((Itt K a).stop i H ∧ Q (.ref D) H) ∨ ((Itt K a).go i H ∧ ∃ Nx : Hp → Prop, (∀ H', Nx H' → ∃ m', m' < m ∧ W (i + 1) m' H') ∧ ∀ x H', (Itt K a).yld i H x H' → gName n x (wipe σ vs) H' fun σ2 H2 => wipe σ2 vs = wipe σ vs ∧ tYes σ2 H2 fun b H3 =>
    if b = true then te σ2 H3 fun y H4 => ∃ acc, H4 D = some (.lst acc) ∧ acc.length < sizeLine ∧ Nx (upd H4 D (.lst (acc ++ [y]))) else Nx H3) := by
  obtain ⟨ns, f, ⟨a, rfl, ha⟩, hl, hs, hd⟩ := q
  refine ⟨a, rfl, ⟨_, ha⟩, fun D hD => ?_⟩
  have up : ∀ {H' : Hp} {o : HO}, (∀ b o, H b = some o → H' b = some o) → ∀ b o', H b = some o' → upd H' D o b = some o' := fun s b o' e => by
    rw [upd_ne (ne_of_none e hD)]
    exact s b o' e
  refine lc_tup (fun i H' => (∀ b o, H b = some o → H' b = some o) ∧ H' D = some (.lst (((ns.take i).map f).map V.int))) ⟨up fun _ _ e => e, upd_same⟩
    (fun i H' _ p => SqT.mvS (Stp.of p.1 none) ha) (fun i x H' hx p => ?_) (fun H' p => hd D H' (Stp.of p.1 none) ?_ hD)
  · rw [List.getElem?_map] at hx
    obtain ⟨m, hm, rfl⟩ := Option.map_eq_some_iff.mp hx
    obtain ⟨w1, w2⟩ := hs m H' (List.mem_of_getElem? hm) (Stp.of p.1 none)
    refine ⟨w1, ?_⟩
    refine w2 _ ⟨_, p.2, ?_, up p.1, ?_⟩
    · rw [List.length_map, List.length_map, List.length_take]
      exact Nat.lt_of_le_of_lt (Nat.le_trans (Nat.min_le_right _ _) hl) (by decide)
    · rw [upd_same]
      have : i < ns.length := (List.getElem?_eq_some_iff.mp hm).1
      rw [List.take_succ, hm]
      simp
  · have e := p.2
    rw [List.length_map, List.take_length] at e
    exact e
theorem r_lcV {m : Nat} {te : TE} {vs : List Nat} {Q : VK} {v : V} (h : σ[m]? = some (some v)) (q : LcI K n te vs σ Q v H) : tLc (iTup K (tVar m)) (gName n) tYes te vs σ H Q := ⟨v, h, q.ok⟩
theorem r_nX {p : Prop} [Decidable p] {A B : Prop} (h : p) (q : B) : if (!decide p) = true then A else B := by
  rw [if_neg (by simp [h])]; exact q
theorem r_pX {p : Prop} [Decidable p] {A B : Prop} (h : p) (q : A) : if decide p = true then A else B := by
  rw [if_pos (by simp [h])]; exact q
theorem r_pN {p : Prop} [Decidable p] {A B : Prop} (h : ¬ p) (q : B) : if decide p = true then A else B := by
  rw [if_neg (by simp [h])]; exact q
end
theorem byTxt {α : Type} {p : α → Prop} {q : Prop} (h : ∃ a, p a) (k : ∀ a, p a → q) : q := (let ⟨a, z⟩ := h; k a z)
end MV

set_option Elab.async false
set_option linter.all false
set_option maxRecDepth 100000
set_option maxHeartbeats 2000000
/-! MVG: repr of data (none, bools, ints, texts, lists, tuples), where no repr is under way; how long such a text may be. -/
namespace MV
open PySem PySem.Spec PyProof.Rows L2
mutual
def bnd : PyData → Nat
  | .none => 4
  | .bool _ => 5
  | .int _ => 2000
  | .str x => (PySem.reprText x).length
  | .list ds => 2 + bndAll ds
  | .tuple ds => 3 + bndAll ds
  | .dict _ => 0
def bndAll : List PyData → Nat
  | [] => 0
  | d :: ds => bnd d + 2 + bndAll ds
end
theorem len_join : ∀ ts : List Str, (Str.join ", " ts).length ≤ piled ts
  | [] => by decide
  | t :: r => by
    have := join_length_add (t :: r) (by simp)
    omega
theorem len_list (ts : List Str) : (listText ts).length ≤ piled ts + 2 := by
  cases ts with
  | nil => decide
  | cons t r =>
    have h := textFrom_length_pos r 1 (("[" : Str) ++ (if (0 : Nat) > 0 then ", " else "" : String) ++ t) (Nat.succ_pos 0)
    have e : ((("[" : Str) ++ (if (0 : Nat) > 0 then ", " else "" : String) ++ t)).length = 1 + t.length := by
      rw [strLen_append, strLen_append]; rfl
    have hX : (listText (t :: r)).length = (textFrom 0 "[" (t :: r)).length + 1 := by
      unfold listText
      rw [strLen_append]; rfl
    have hY : textFrom 0 "[" (t :: r) = textFrom 1 (("[" : Str) ++ (if (0 : Nat) > 0 then ", " else "" : String) ++ t) r := rfl
    rw [hX, hY, h, e, piled_cons]
    omega
theorem len_tuple (ts : List Str) : (tupleText ts).length ≤ piled ts + 3 := by
  have := len_join ts
  unfold tupleText
  rw [strLen_append, strLen_append]
  have e1 : ((("(" : String) : Str)).length = 1 := rfl
  have e3 : (((if ts.length == 1 then ",)" else ")" : String) : Str)).length ≤ 2 := by split <;> decide
  rw [e1]
  omega
mutual
theorem bnd_ok : ∀ d : PyData, d.showable = true → d.hasDict = false → d.shown.length ≤ bnd d
  | .none, _, _ => by decide
  | .bool b, _, _ => by cases b <;> decide
  | .int i, h, _ => by
    rw [PyData.showable] at h
    have := PySem.int_text_length_le (a := i) (k := 1920) (by decide) (of_decide_eq_true h)
    rw [PyData.shown, bnd]
    have e : (PySem.Str.ofString (toString i)).length = (toString i).length := by exact PySem.ofString_length _
    omega
  | .str x, _, _ => by rw [PyData.shown, bnd]; exact Nat.le_refl _
  | .list ds, h, g => by
    rw [PyData.showable] at h
    rw [PyData.hasDict] at g
    have := bndAll_ok ds h g
    have := len_list (PyData.shownAll ds)
    rw [PyData.shown, bnd]
    omega
  | .tuple ds, h, g => by
    rw [PyData.showable] at h
    rw [PyData.hasDict] at g
    have := bndAll_ok ds h g
    have := len_tuple (PyData.shownAll ds)
    rw [PyData.shown, bnd]
    omega
  | .dict _, _, g => by rw [PyData.hasDict] at g; cases g
theorem bndAll_ok : ∀ ds : List PyData, PyData.showableAll ds = true → PyData.hasDictAll ds = false → piled (PyData.shownAll ds) ≤ bndAll ds
  | [], _, _ => by rw [PyData.shownAll]; exact Nat.zero_le _
  | d :: r, h, g => by
    rw [PyData.showableAll, Bool.and_eq_true] at h
    rw [PyData.hasDictAll, Bool.or_eq_false_iff] at g
    have h1 := bnd_ok d h.1 g.1
    have h2 := bndAll_ok r h.2 g.2
    rw [PyData.shownAll, piled_cons, bndAll]
    omega
end
/-- data that can be shown: ints of at most 500 digits, texts and depth within bounds -/
structure Shw (d : PyData) : Prop where
  sh : d.showable = true
  nd : d.hasDict = false
  dp : d.depth ≤ 50
  ln : bnd d ≤ sizeLine
def rRepr (K : PySem.W.Frag) : List V → Hp → VK → Prop := fun xs H Q => ∃ x d, xs = [x] ∧ Dp K H x d ∧ Shw d ∧ Q (.str d.shown) H
theorem callg_repr {X : Cx} (hg : X.A.guards = some []) (hu : X.A.units + 64 < cLine) : CallR X (.builtin "repr") (rRepr X.K) := by
  intro pins s σ H xs us Q I r h
  obtain ⟨x, d, rfl, hd, S, q⟩ := h
  obtain ⟨as, hr⟩ : ∃ as, us = [as] ∧ RelV x as := by
    cases r with
    | cons r rr => cases rr; exact ⟨_, rfl, r⟩
  obtain ⟨rfl, rv⟩ := hr
  obtain ⟨ps, R⟩ := Dp.reads I d x as hd rv
  have hl : d.shown.length ≤ sizeLine := Nat.le_trans (bnd_ok d S.sh S.nd) S.ln
  have fin : ∀ (h' : Heap) (u tk : Nat), (∀ b o, s.heap.get? b = some o → h'.get? b = some o) → EP X pins σ Q (.str d.shown u) { s with heap := h', toks := tk } :=
    fun h' u tk hk => ⟨.str d.shown, H, I.kept hk, ⟨u, rfl⟩, q⟩
  have dp := S.dp
  cases R with
  | none => exact PySem.P.repr_of_none (fin _ _ _ fun _ _ e => e)
  | bool b => exact PySem.P.repr_of_bool (by have := fin s.heap s.toks (s.toks + 1) fun _ _ e => e; cases b <;> exact this)
  | int i t => exact PySem.P.repr_of_int (by have z := S.sh; rw [PyData.showable] at z; exact of_decide_eq_true z) (fin _ _ _ fun _ _ e => e)
  | str x t => exact PySem.P.repr_of_str (fin _ _ _ fun _ _ e => e) hl
  | list h1 h2 h3 h4 => exact repr_of_reads' (.list h1 h2 h3 h4) S.sh (PyData.noDict_hsm S.nd) hg (by omega) (fun _ _ e => e) (fun h' u tk hk => fin h' u tk hk) hl
  | tuple h1 h2 h3 h4 => exact repr_of_reads' (.tuple h1 h2 h3 h4) S.sh (PyData.noDict_hsm S.nd) hg (by omega) (fun _ _ e => e) (fun h' u tk hk => fin h' u tk hk) hl
  | dict _ _ _ _ _ => exact absurd S.nd (by rw [PyData.hasDict]; decide)
end MV

set_option Elab.async false
set_option linter.all false
set_option maxRecDepth 100000
set_option maxHeartbeats 2000000
/-! MVH: own operators of two instances of a class, own ~, own calls. -/
namespace MV
open PySem PySem.Spec PySem.Calls PyProof.Rows L2
section
variable {X : Cx} {CX : CXT} {k i : Nat} {f C : Addr} {fd : FuncData} {ps : List Str} {sp : Sp} {E : XK} {x : Str} {p pos : Pos} {e : Expr} {es : List Expr} {t : TA}
/-- the class C has a def of that special name -/
structure HasS (K : PySem.W.Frag) (C f : Addr) (n : Str) : Prop where
  at_ : PySem.W.findIn K (.ref C) n = some (some (.ref f))
  fn : PySem.W.isFn K (.ref f) = true
def rOwnBin (K : PySem.W.Frag) (C : Addr) (sp : Sp) (E : XK) : R2 := fun x y H Q => ∃ a dx fs, x = .ref a ∧ H a = some (.ins C dx fs) ∧ TyX K H y (.ref C) ∧ sp [x, y] H Q E
theorem opg_bin {op : Operator} (h : HasS X.K C f (PySem.dunder op.info.2)) (hc : PySem.W.selfFirst X.K C = true) (F : FnG X.prog X.w X.K X.mg X.base CX k f fd ps sp) (hr : Room k X.A) (hg : X.A.guards = some [])
    (hb : Binds X.K fd ps []) (hx : Passes CX X E) : OpR X (binaryOp op) (rOwnBin X.K C sp E) := by
  intro pins s σ H x y v u Q I rx ry q
  obtain ⟨a, dx, fs, rfl, ea, ty, q⟩ := q
  cases rx
  obtain ⟨mA, O, _⟩ := ins_get I.hok ea
  obtain ⟨od, J, _⟩ := O.look
  obtain ⟨m, hF⟩ := I.fr
  obtain ⟨P, kx, hP, _⟩ := kit_of I ry ty
  refine PySem.W.binop_K hF I.ok.mod.kin J (kx.ty _ _ I.kIn hP) hc h.at_ h.fn (thn (callG (us := [.ref a, u]) (vs := [.ref a, y]) F hr hg hb .nil hx I (.cons rfl (.cons ry .nil)) q) ?_)
  rintro z s' ⟨v', H', I', rv, q'⟩
  have fin : EP X pins σ Q z s' := ⟨v', H', I', rv, q'⟩
  cases z <;> first | exact fin | (cases v' <;> first | exact False.elim rv | (obtain ⟨_, h⟩ := rv; cases h) | cases rv)
def rOwnInv (C : Addr) (sp : Sp) (E : XK) : V → Hp → VK → Prop := fun x H Q => ∃ a dx fs, x = .ref a ∧ H a = some (.ins C dx fs) ∧ sp [x] H Q E
theorem ung_inv (h : HasS X.K C f "__invert__") (F : FnG X.prog X.w X.K X.mg X.base CX k f fd ps sp) (hr : Room k X.A) (hg : X.A.guards = some [])
    (hb : Binds X.K fd ps []) (hx : Passes CX X E) : UnR X (unaryOp .Invert) (rOwnInv C sp E) := by
  intro pins s σ H x v Q I rx q
  obtain ⟨a, dx, fs, rfl, ea, q⟩ := q
  cases rx
  obtain ⟨mA, O, _⟩ := ins_get I.hok ea
  obtain ⟨od, J, _⟩ := O.look
  obtain ⟨m, hF⟩ := I.fr
  exact PySem.W.ksp_inv hF I.ok.mod.kin J h.at_ h.fn (callG (us := [.ref a]) (vs := [.ref a]) F hr hg hb .nil hx I (.cons rfl .nil) q)
theorem instPlain {C dx : Addr} : (PySem.W.instObj C dx).data = .plain := rfl
theorem keeper_of {M : Model} {h : Heap} {a : Addr} {o : Obj} (e : h.get? a = some o) (d : o.data = .plain) : PySem.W.Looks M h (keeperOf (.ref a)) .caller := by
  refine PySem.W.Looks.andThen (.ld (part := none) e) ?_
  rw [d]
  exact .now
/-- a call of an instance that stays where it is while the arguments are made -/
theorem callInst {M : Model} {A : Around} {z : Value → Shared → Prop} {s : Shared} {a : Addr} {o : Obj} {Q : Value → Shared → Prop} {ls : List (Bool × Sem Value)} {ks : List (Option Str × Sem Value)}
    (no : (ls.any (·.1) || ks.any (·.1.isNone)) = false) (d : o.data = .plain)
    (run : wpAny M A (evalArgs (.ref a) true ls ks) (fun g s1 => s1.heap.get? a = some o ∧ wpAny M A (call (.ref a) g.pos g.kw) Q z s1) z s) :
    wpAny M A (callWith pos (.ref a) [] ls ks) Q z s := by
  unfold callWith
  refine wpAny_bind (wpAny_holding (thn run ?_))
  intro g s1 w1
  obtain ⟨e1, w1⟩ := w1
  refine wpAny_bind (wpAny_standAt ?_)
  rw [no]
  refine wpAny_bind ((keeper_of e1 d).here (wpAny_bind (thn (wpAny_operateT w1) ?_)))
  intro r s2 q
  exact wpAny_bind (wpAny_holding (wpAny_point (wpAny_pure q)))
/-- x(..), x a local that holds an instance whose class has a def __call__ -/
def tCallI (i : Nat) (C : Addr) (sp : Sp) (E : XK) (t : TA) : TE := fun σ H Q => ∃ v a dx fs, σ[i]? = some (some v) ∧ v = .ref a ∧ H a = some (.ins C dx fs) ∧ t σ H fun vs H1 => (∃ fs', H1 a = some (.ins C dx fs')) ∧ sp (v :: vs) H1 Q E
theorem peg_calli (h : HasS X.K C f "__call__") (hfn : PySem.W.fnIn X.K f = true) (F : FnG X.prog X.w X.K X.mg X.base CX k f fd ps sp) (hr : Room k X.A) (hg : X.A.guards = some [])
    (hb : Binds X.K fd ps []) (hx : Passes CX X E) (hN : X.N[i]? = some x) (hv : Vis X.env.scope x) (ha : PA X (e :: es) t)
    (hdb : (x == ("__debug__" : Str)) = false := by decide) (hcd : (x == ("__classdict__" : Str)) = false := by decide)
    (he : starEach (e :: es) X.env = (false, eval e X.env) :: starEach es X.env := by rfl) (hpl : (backTo pos (starEach es X.env)).any (·.1) = false := by rfl) :
    PE X (.Call (.Name x p) (e :: es) [] pos) (tCallI i C sp E t) := by
  refine ⟨fun pins s σ H Q I h' => ?_⟩
  obtain ⟨v, a, dx, fs, hs, rfl, ea, ht⟩ := h'
  refine wpAny_Call_Name_kw (thn ((pe_var (pos := p) hN hv hdb hcd).run pins s σ H (fun v H1 => v = .ref a ∧ H1 = H) I ⟨.ref a, hs, rfl, rfl⟩) fun u s1 ⟨v, H1, I1, r1, q1⟩ => ?_)
  obtain ⟨rfl, rfl⟩ := q1
  cases r1
  obtain ⟨mA, O, _⟩ := ins_get I1.hok ea
  obtain ⟨od, J, _⟩ := O.look
  rw [he]
  refine callInst (o := PySem.W.instObj C dx) (by show ((false || (backTo pos (starEach es X.env)).any (·.1)) || false) = false; rw [hpl]; rfl) rfl (evalArgs_plain ?_)
  suffices go : wpAny (model X.prog X.w) X.A (spliced (backTo pos (starEach (e :: es) X.env))) (fun vs s' => s'.heap.get? a = some (PySem.W.instObj C dx) ∧ wpAny (model X.prog X.w) X.A (call (.ref a) vs) (EP X pins σ Q) X.xe s') X.xe s1 by
    rw [he] at go
    exact go
  refine thn (ha.run pos pins s1 σ _ _ I1 ht) fun us s2 ⟨vs, H2, I2, r, ⟨fs2, e2⟩, q⟩ => ?_
  obtain ⟨mA2, O2, _⟩ := ins_get I2.hok e2
  obtain ⟨od2, J2, _⟩ := O2.look
  refine ⟨J2.at_, wpAny_call ?_⟩
  refine PySem.W.kco_code I2.kIn J2 rfl h.at_ h.fn hfn ?_
  refine codeAny_mono (runG (us := .ref a :: us) (vs := .ref a :: vs) (Q := Q) F hr hg I2.env0 hb .nil hx I2 (.cons rfl r) ?_) fun z s' hq => ?_
  · rw [List.append_nil]
    exact q
  · match z, hq with
    | .ok (.ret _), hq => exact hq
    | .error _, hq => exact hq
theorem r_cval {K : PySem.W.Frag} {σ : L2.St} {H : Hp} {Q : VK} {ta : TE} {fn : Str} (q : ta σ H fun x H1 => ∃ C mc v u, x = .ref C ∧ ClX.CRead K C mc ∧ ClX.CVal K C mc fn v u ∧ Q v H1) : ClX.tCVal K ta fn σ H Q := q
theorem r_isiSS {K : PySem.W.Frag} {H : Hp} {Q : VK} {z : Str} (q : Q (.bl true) H) : rIsi K [.str z, .ty "str"] H Q := r_isi (.ty _) (.base (.str z)) (kit_ty (by decide +kernel)) q
end
end MV

set_option Elab.async false
set_option linter.all false
set_option maxRecDepth 100000
set_option maxHeartbeats 2000000
/-! MVI: static methods by their class; the keys of a dict of the text; a comprehension over known items. -/
namespace MV
open PySem PySem.Spec PySem.Calls PyProof.Rows L2
section
variable {X : Cx} {CX : CXT} {k : Nat} {f C p : Addr} {fd : FuncData} {ps : List Str} {sp : Sp} {dvs : List V} {ds : List Value} {E : XK} {m : Str} {pos apos : Pos} {o e : Expr} {es : List Expr} {ta : TE} {t : TA} {mc : Value}
/-- C.m is a static method: its record at p, its def at f -/
structure SMet (K : PySem.W.Frag) (C : Addr) (mc : Value) (m : Str) (p f : Addr) : Prop where
  rd : ClX.CRead K C mc
  at_ : PySem.W.findCls K (.ref C) mc m = some (.get (.builtin "staticmethod.__get__") (.ref p) .none (.ref C))
  rc : ∃ rest, PySem.W.recIn K p "staticmethod" = some (.ref f :: rest)
  kp : PySem.W.keepIn K (.ref f) = true
def tSMeth (C : Addr) (sp : Sp) (dvs : List V) (E : XK) (ta : TE) (t : TA) : TE := fun σ H Q => ta σ H fun x H1 => x = .ref C ∧ t σ H1 fun vs H2 => sp (vs ++ dvs) H2 Q E
theorem peg_smeth {pl : Sem Bool} (he : PE X o ta) (S : SMet X.K C mc m p f)
    (F : FnG X.prog X.w X.K X.mg X.base CX k f fd ps sp) (hr : Room k X.A) (hg : X.A.guards = some [])
    (hb : Binds X.K fd ps ds) (hd : Vals dvs ds) (hx : Passes CX X E) (ha : PA X (e :: es) t)
    (hst : starEach (e :: es) X.env = (false, eval e X.env) :: starEach es X.env := by rfl)
    (hpl : (backTo pos (starEach es X.env)).any (·.1) = false := by rfl)
    (ht : eval (.Call (.Attribute o m apos) (e :: es) [] pos) X.env = (do
      let ov ← eval o X.env
      standAt apos.atName
      let (g, first) ← holding [ov] (getMethod ov m pl)
      callWith pos g first (backTo pos (starEach (e :: es) X.env)) (backToKw pos (keywordEach [] X.env))) := by rfl) :
    PE X (.Call (.Attribute o m apos) (e :: es) [] pos) (tSMeth C sp dvs E ta t) := by
  constructor
  intro pins s σ H Q I h
  refine PySem.W.methodCall_KW (pl := pl) (thn (he.run pins s σ H _ I h) ?_) ht
  rintro u s1 ⟨_, H1, I1, rx, rfl, q⟩
  cases rx
  obtain ⟨rest, hrec⟩ := S.rc
  refine PySem.W.method_cls I1.kIn S.rd.ga (PySem.W.cls_bind I1.kIn S.rd.rd S.at_ (wpAny_call (PySem.W.sm_get (s := { s1 with toks := s1.toks + 1 }) I1.kIn hrec (PySem.W.handed_on rfl ?_))))
  have I2 := I1.tok (s1.toks + 1)
  refine PySem.W.callWith_K (first := []) (h₀ := X.base) I.ok.mod.kin S.kp ?_ hst hpl
  refine thn (ha.run pos pins _ σ H1 _ I2 q) fun us s2 ⟨vs, H2, I3, r, q2⟩ => ⟨I3.kIn, ?_⟩
  exact callG F hr hg hb hd hx I3 r q2
end

/-! ### the keys of a dict of the text -/
def KKeys (K : PySem.W.Frag) (d : Addr) (xs : List V) : Prop := ∃ (es : Array DictEntry) (n : Nat), K.lookup d = some ⟨.type "dict", none, .dict es n, #[]⟩ ∧ (d == sysModules) = false ∧ Vals xs (es.toList.map (·.key))
/-- known items, one behind another -/
def Itx (xs : List V) : It := ⟨fun i _ => i < xs.length, fun i H x H' => H' = H ∧ xs[i]? = some x, fun i _ => xs.length ≤ i⟩
def iKK (K : PySem.W.Frag) (td : TE) : TI := fun σ H R => td σ H fun x H1 => ∃ d xs, x = .ref d ∧ KKeys K d xs ∧ R (Itx xs) H1
theorem vals_at {xs : List V} {us : List Value} (r : Vals xs us) {i : Nat} {x : V} (h : xs[i]? = some x) : ∃ u, us[i]? = some u ∧ RelV x u := by
  induction r generalizing i with
  | nil => cases h
  | cons r _ ih =>
    cases i with
    | zero => cases h; exact ⟨_, rfl, r⟩
    | succ i => exact ih h
theorem turn_kk {P : Program} {w : World} {K : PySem.W.Frag} {tg : Expr} {d : Addr} {xs : List V} {es : Array DictEntry} {n : Nat} (it : Addr) (hl : K.lookup d = some ⟨.type "dict", none, .dict es n, #[]⟩)
    (r : Vals xs (es.toList.map (·.key))) : Turn P w K tg (Itx xs) [it] it (fun i h => h.IsKeyIter it d i xs.length n) where
  mem := List.mem_cons_self
  obj := by
    intro i h st b hb
    cases List.mem_singleton.mp hb
    obtain ⟨oi, e, c, dd⟩ := st
    exact ⟨oi, e, fun v z => by rw [dd] at z; cases z⟩
  keep := fun i h h' st k => st.at fun oi e => k it List.mem_cons_self oi e
  item := by
    intro X hP hw hK hc i pins s σ H E I hf st hg
    subst hP hw hK
    have hg : i < xs.length := hg
    obtain ⟨f0, f1, f2, f3, f4, f5⟩ := hf it List.mem_cons_self
    obtain ⟨x, hx⟩ : ∃ x, xs[i]? = some x := ⟨xs[i], List.getElem?_eq_getElem hg⟩
    obtain ⟨u, hu, ru⟩ := vals_at r hx
    rw [List.getElem?_map] at hu
    obtain ⟨en, hen, rfl⟩ := Option.map_eq_some_iff.mp hu
    have hsz : es.size = xs.length := by
      have := Paired.length r
      rw [List.length_map, Array.length_toList] at this
      exact this.symm
    refine next_key_item st (I.kIn _ _ hl) rfl hsz (by rw [← Array.getElem?_toList]; exact hen) fun h' st' sb => ?_
    have I1 : Inv X pins σ H { s with heap := h' } := I.turned (t' := s.toks) (fun b ob hb e => (sb.2 b hb).trans e) f0 f1 f3 f4 f5
    obtain ⟨oi, e, c, dd⟩ := id st'
    exact ⟨_, rfl, go_of (s := { s with heap := h' }) e c dd (by decide) ⟨x, H, I1, ru, ⟨rfl, hx⟩, st', fun b hb => (hf b hb).1⟩⟩
  done := by
    intro X hP hw hK hc i pins s σ H E I hf st hg
    subst hP hw hK
    have hg : xs.length ≤ i := hg
    obtain ⟨f0, f1, f2, f3, f4, f5⟩ := hf it List.mem_cons_self
    have hsz : es.size = xs.length := by
      have := Paired.length r
      rw [List.length_map, Array.length_toList] at this
      exact this.symm
    exact next_key_end (I.ok.hd hc) st (I.kIn _ _ hl) rfl hsz hg fun h' eb => ⟨rfl, I.turned (t' := s.toks) (fun b ob hb e => eb b ob hb e) f0 f1 f3 f4 f5⟩
  self := fun A i s Q E st h => wpAny_pyIter_keyiter st h
theorem pi_kk {X : Cx} {tg e : Expr} {td : TE} (he : PE X e td) : PI X tg e (iKK X.K td) := by
  constructor
  intro pins s σ H R I h
  refine thn (he.run pins s σ H _ I h) ?_
  rintro u s1 ⟨_, H1, I1, rx, d, xs, rfl, ⟨es, n, hl, hs, r⟩, q⟩
  cases rx
  have hsz : es.size = xs.length := by
    have := Paired.length r
    rw [List.length_map, Array.length_toList] at this
    exact this.symm
  refine iter_keys hs (I1.kIn _ _ hl) ⟨rfl, rfl, rfl⟩ rfl (pi_one (tk := s1.toks) I1 _ (turn_kk _ hl r) ⟨_, Heap.get?_push_size _ rfl, rfl, ?_⟩ q)
  rw [hsz]
  rfl

/-! ### [te for n in known items if tt] -/
theorem lc_known {xs : List V} {g : TG} {tt : TT} {te : TE} {vs : List Nat} {σ : L2.St} {H1 : Hp} {D : Addr} {Qd : Hp → Prop} (Pv : Nat → Hp → Prop) (h0 : Pv 0 (upd H1 D (.lst [])))
    (hs : ∀ i x H, xs[i]? = some x → Pv i H → g x (wipe σ vs) H fun σ2 H2 => wipe σ2 vs = wipe σ vs ∧ tt σ2 H2 fun b H3 =>
      if b = true then te σ2 H3 fun y H4 => ∃ acc, H4 D = some (.lst acc) ∧ acc.length < sizeLine ∧ Pv (i + 1) (upd H4 D (.lst (acc ++ [y]))) else Pv (i + 1) H3) (hd : ∀ H, Pv xs.length H → Qd H) :
    ∃ W : Nat → Nat → Hp → Prop, (∃ m, W 0 m (upd H1 D (.lst []))) ∧ ∀ i m H, W i m H →
      ((Itx xs).stop i H ∧ Qd H) ∨ ((Itx xs).go i H ∧ ∃ Nx : Hp → Prop, (∀ H', Nx H' → ∃ m', m' < m ∧ W (i + 1) m' H') ∧ ∀ x H', (Itx xs).yld i H x H' → g x (wipe σ vs) H' fun σ2 H2 => wipe σ2 vs = wipe σ vs ∧ tt σ2 H2 fun b H3 =>
        if b = true then te σ2 H3 fun y H4 => ∃ acc, H4 D = some (.lst acc) ∧ acc.length < sizeLine ∧ Nx (upd H4 D (.lst (acc ++ [y]))) else Nx H3) := by
  refine ⟨fun i m H => m = xs.length - i ∧ i ≤ xs.length ∧ Pv i H, ⟨_, rfl, Nat.zero_le _, h0⟩, ?_⟩
  rintro i m H ⟨rfl, hi, p⟩
  by_cases hlt : i < xs.length
  · refine .inr ⟨hlt, Pv (i + 1), fun H' p' => ⟨_, ?_, rfl, hlt, p'⟩, ?_⟩
    · omega
    · rintro x H' ⟨rfl, hx⟩
      exact hs i x _ hx p
  · have e : i = xs.length := by omega
    subst e
    exact .inl ⟨Nat.le_refl _, hd H p⟩
end MV

set_option Elab.async false
set_option linter.all false
set_option maxRecDepth 100000
set_option maxHeartbeats 2000000
/-! MVJ: defs with defaults; tuples and dicts of the text as facts. -/
namespace MV
open PySem PySem.Spec PySem.Calls PyProof.Rows L2
section
variable {P : Program} {w : World} {K : PySem.W.Frag} {mg : Str → Option Value} {base : Heap} {CX : CXT} {k : Nat} {f : Addr} {fd : FuncData} {ps : List Str} {sp : Sp}
  {x qual : Str} {params : Arguments} {body : List Stmt} {scope : Scope} {dvs : List V} {kws : List (Str × V)} {N : List Str}
/-- the rule of a def with defaults -/
theorem FunD.g (F : FunD K x qual params body scope dvs kws f fd) (S : FnScope N ps scope)
    (ln : ∀ vs H Q E, sp vs H Q E → vs.length = ps.length)
    (hb : ∀ (cdv : Value) (A : Around) (outer : List Env) (s : Shared) (H : Hp) (vs : List V) (Q : VK) (E : XK),
      Room k (A.deeper (envOfC qual scope s.heap.objs.size f cdv)) →
      (A.deeper (envOfC qual scope s.heap.objs.size f cdv)).guards = some [] → sp vs H Q E →
      ∃ t, PSs (cxOf CX P w K mg base N qual scope f cdv A outer s H E) body t ∧
        t { nx := fun _ H' => Q .non H', rt := Q } (start N vs) H) :
    FnG P w K mg base CX (k + 1) f fd ps sp := by
  obtain ⟨oc, od, dV, kV, doc, pm, an, cdv, ct, osl, rfl, lk, hcd, _, _⟩ := F.ex
  exact fng_of lk hcd S ln fun A outer s H vs Q E hr hg h => hb cdv A outer s H vs Q E hr hg h
end
/-- a tuple of the text -/
def KT (K : PySem.W.Frag) (p : Addr) (xs : List V) : Prop := ∃ (od : Option Addr) (its : Array Value) (n : Nat) (sl : Array (Option Value)), K.lookup p = some ⟨.type "tuple", od, .seq its n, sl⟩ ∧ its.size ≤ sizeLine ∧ Vals xs its.toList
theorem KT.t {K : PySem.W.Frag} {H : Hp} {p : Addr} {xs : List V} (h : KT K p xs) : SqT K H p xs := (let ⟨_, its, n, _, h1, h2, h3⟩ := h; .inr ⟨_, its, n, h1, rfl, rfl, h2, h3⟩)
theorem KT.k {K : PySem.W.Frag} {H : Hp} {p : Addr} {ns : List Int} (h : KT K p (ns.map V.int)) : IK K H (.ref p) ns := ⟨p, rfl, h.t⟩
/-- == of data at any depth, where the frame's K is given -/
theorem op_eqDk {X : Cx} {K : PySem.W.Frag} (e : X.K = K) (hu : X.A.units + 64 < cLine) : OpR X (compareOp .Eq) (rEqD K) := e ▸ op_eqD hu
theorem op_neDk {X : Cx} {K : PySem.W.Frag} (e : X.K = K) (hu : X.A.units + 64 < cLine) : OpR X (compareOp .NotEq) (rNeD K) := e ▸ op_neD hu
theorem kt_mk {K : PySem.W.Frag} {p : Addr} {xs : List V} {od : Option Addr} {its : Array Value} {n : Nat} {sl : Array (Option Value)} (h : K.lookup p = some ⟨.type "tuple", od, .seq its n, sl⟩) (z : its.size ≤ sizeLine) (v : Vals xs its.toList) : KT K p xs :=
  ⟨od, its, n, sl, h, z, v⟩
theorem kd_mk {K : PySem.W.Frag} {w : World} {a : Addr} {x : Str} {v : V} {es : Array DictEntry} {n : Nat} {u : Value} (h : K.lookup a = some ⟨.type "dict", none, .dict es n, #[]⟩) (l : PySem.W.KeysLit w.params es.toList)
    (e : PySem.W.nsIn K a x = some (some u)) (r : RelV v u) : KDct K w a x v := ⟨es, n, u, h, l, e, r⟩
theorem kk_mk {K : PySem.W.Frag} {d : Addr} {xs : List V} {es : Array DictEntry} {n : Nat} (h : K.lookup d = some ⟨.type "dict", none, .dict es n, #[]⟩) (e : (d == sysModules) = false) (r : Vals xs (es.toList.map (·.key))) : KKeys K d xs := ⟨es, n, h, e, r⟩
theorem binds_all {K : PySem.W.Frag} {fd : FuncData} {ps : List Str} (h : ∃ ds, Vals [] ds ∧ Binds K fd ps ds) : Binds K fd ps [] := by
  obtain ⟨ds, v, b⟩ := h
  cases v
  exact b
end MV

set_option Elab.async false
set_option linter.all false
set_option maxRecDepth 100000
set_option maxHeartbeats 2000000
/-! MVK: repr by an own __repr__; {x!r} of data. -/
namespace MV
open PySem PySem.Spec PySem.Calls PyProof.Rows L2
theorem ix_seqk {X : Cx} {K : PySem.W.Frag} (e : X.K = K) : IxR X (rIx K) := e ▸ ix_seq
section
variable {X : Cx} {CX : CXT} {k : Nat} {f C : Addr} {fd : FuncData} {ps : List Str} {sp : Sp} {E : XK} {e : Expr} {te : TE} {pos : Pos}
/-- repr(x), x an instance whose class has a def __repr__ -/
def rOwnRepr (C : Addr) (sp : Sp) (E : XK) : List V → Hp → VK → Prop := fun xs H Q => ∃ a dx fs, xs = [.ref a] ∧ H a = some (.ins C dx fs) ∧ sp xs H (fun z H' => ∃ t, z = .str t ∧ Q (.str t) H') E
theorem callg_own {K : PySem.W.Frag} (h : HasS X.K C f "__repr__") (F : FnG X.prog X.w X.K X.mg X.base CX k f fd ps sp) (hr : Room (k + 1) X.A) (hg : X.A.guards = some [])
    (hb : Binds X.K fd ps []) (hx : Passes CX X E) : CallR X (.builtin "repr") (rOwnRepr C sp E) := by
  intro pins s σ H xs us Q I r q
  obtain ⟨a, dx, fs, rfl, ea, q⟩ := q
  obtain ⟨u, rfl, rv⟩ : ∃ u, us = [u] ∧ RelV (.ref a) u := by
    cases r with
    | cons r rr => cases rr; exact ⟨_, rfl, r⟩
  cases rv
  obtain ⟨mA, O, _⟩ := ins_get I.hok ea
  obtain ⟨od, J, _⟩ := O.look
  obtain ⟨m, hF⟩ := I.fr
  have hu : X.A.in1.units < cLine := by
    have := hr.un
    show X.A.units + 1 < cLine
    omega
  refine PySem.W.repr_K hu hF I.ok.mod.kin J h.at_ h.fn (wpAny_call ?_)
  refine codeAny_mono (runG (us := [.ref a]) (vs := [.ref a]) F hr.in1 hg I.env0.in1 hb .nil hx I (.cons rfl .nil) q) fun z s' hq => ?_
  match z, hq with
  | .error _, hq => exact hq
  | .ok (.ret w), ⟨v, H', I', rv, t, ev, q'⟩ =>
    subst ev
    obtain ⟨tk, rfl⟩ := rv
    exact ⟨.str t, H', I', ⟨tk, rfl⟩, q'⟩
/-- {x!r} of data that stands at an address -/
def tFmtD (K : PySem.W.Frag) (te : TE) : TE := fun σ H Q => te σ H fun x H1 => ∃ a d, x = .ref a ∧ Dp K H1 x d ∧ Shw d ∧ Q (.str d.shown) H1
theorem pe_fmtD (hg : X.A.guards = some []) (hu : X.A.units + 64 < cLine) (he : PE X e te) : PE X (.FormattedValue e 114 none pos) (tFmtD X.K te) := by
  constructor
  intro pins s σ H Q I h
  refine wpAny_FormattedValue_repr (thn (he.run pins s σ H _ I h) ?_)
  rintro v s1 ⟨_, H1, I1, rv, a, d, rfl, hd, S, q⟩
  obtain ⟨as, R⟩ := Dp.reads I1 d _ v hd rv
  cases rv
  have dp := S.dp
  have hl : d.shown.length ≤ sizeLine := Nat.le_trans (bnd_ok d S.sh S.nd) S.ln
  refine pyReprObj_of_reads R S.sh (PyData.noDict_hsm S.nd) hg (by omega) (fun _ _ e => e) (fun h' u tk hk => ?_) hl
  have I2 : Inv X pins σ H1 { s1 with heap := h', toks := tk } := I1.kept hk
  exact wpAny_formatField_str ⟨.str d.shown, H1, I2, ⟨_, rfl⟩, q⟩ ⟨.str d.shown, H1, I2.tok _, ⟨_, rfl⟩, q⟩ hl
end
end MV

set_option Elab.async false
set_option linter.all false
set_option maxRecDepth 100000
set_option maxHeartbeats 2000000
/-! MVL: comprehensions over a list as readings; pairs unpacked; data of texts. -/
namespace MV
open PySem PySem.Spec PySem.Calls PyProof.Rows L2
section
variable {K : PySem.W.Frag} {σ : L2.St} {H H1 : Hp} {n : Nat} {tl te : TE} {tt : TT} {g : TG} {vs : List Nat} {Q : VK} {x : V}
/-- [te for .. in x if tt], x a list that is already read -/
def LcLR (K : PySem.W.Frag) (g : TG) (tt : TT) (te : TE) (vs : List Nat) (σ : L2.St) (Q : VK) (x : V) (H1 : Hp) : Prop := ∃ a, x = .ref a ∧ (∃ xs, SqL K H1 a xs) ∧ ∀ D, H1 D = none → ∃ W : Nat → Nat → Hp → Prop, (∃ m, W 0 m (upd H1 D (.lst []))) ∧ ∀ i m H, W i m H →
  ((Itl K a).stop i H ∧ Q (.ref D) H) ∨ ((Itl K a).go i H ∧ ∃ Nx : Hp → Prop, (∀ H', Nx H' → ∃ m', m' < m ∧ W (i + 1) m' H') ∧ ∀ x H', (Itl K a).yld i H x H' → g x (wipe σ vs) H' fun σ2 H2 => wipe σ2 vs = wipe σ vs ∧ tt σ2 H2 fun b H3 =>
    if b = true then te σ2 H3 fun y H4 => ∃ acc, H4 D = some (.lst acc) ∧ acc.length < sizeLine ∧ Nx (upd H4 D (.lst (acc ++ [y]))) else Nx H3)
theorem r_lcL (q : tl σ H fun x H1 => LcLR K g tt te vs σ Q x H1) : tLc (iList K tl) g tt te vs σ H Q := q
theorem lcl_ok {p : Addr} {xs : List V} (hp : H1 p = some (.lst xs)) (k : ∀ D, H1 D = none → ∃ Pv : Nat → Hp → Prop, Pv 0 (upd H1 D (.lst [])) ∧ (∀ i H, i ≤ xs.length → Pv i H → H p = some (.lst xs)) ∧
    (∀ i x H, xs[i]? = some x → Pv i H → g x (wipe σ vs) H fun σ2 H2 => wipe σ2 vs = wipe σ vs ∧ tt σ2 H2 fun b H3 =>
      if b = true then te σ2 H3 fun y H4 => ∃ acc, H4 D = some (.lst acc) ∧ acc.length < sizeLine ∧ Pv (i + 1) (upd H4 D (.lst (acc ++ [y]))) else Pv (i + 1) H3) ∧ ∀ H, Pv xs.length H → Q (.ref D) H) :
    LcLR K g tt te vs σ Q (.ref p) H1 := by
  refine ⟨p, rfl, ⟨_, SqL.of hp⟩, fun D hD => ?_⟩
  obtain ⟨Pv, h0, hl, hs, hd⟩ := k D hD
  exact lc_list (xs := xs) Pv h0 (fun i H hi pv => SqL.of (hl i H hi pv)) hs hd
theorem r_unT2 {gs : TGs} {Q : L2.St → Hp → Prop} {p : Addr} {a b : V} (h : H p = some (.tup [a, b])) (q : gs [a, b] σ H Q) : gTup K 2 gs (.ref p) σ H Q := ⟨p, _, rfl, SqT.of h, rfl, q⟩
/-- the heap of a comprehension's start: what stood stands, the new list is empty -/
theorem lc_keep {D : Addr} {o : HO} (hD : H1 D = none) : ∀ b o', H1 b = some o' → upd H1 D o b = some o' := fun b o' e => by
  rw [upd_ne (ne_of_none e hD)]
  exact e
end
theorem dp_strs {K : PySem.W.Frag} {H : Hp} : ∀ ns : List Str, DpAll K H (ns.map V.str) (ns.map PyData.str)
  | [] => .nil
  | n :: r => .cons (.str n) (dp_strs r)
theorem eqvAll_strs : ∀ ns ms : List Str, PyData.eqvAll (ns.map PyData.str) (ms.map PyData.str) = decide (ns = ms)
  | [], [] => by rw [List.map_nil, PyData.eqvAll]; rfl
  | [], _ :: _ => by rw [List.map_nil, List.map_cons, PyData.eqvAll]; rfl
  | _ :: _, [] => by rw [List.map_nil, List.map_cons, PyData.eqvAll]; rfl
  | n :: r, m :: q => by
    rw [List.map_cons, List.map_cons, PyData.eqvAll, PyData.eqv, eqvAll_strs r q]
    by_cases h : n = m
    · subst h
      by_cases h2 : r = q
      · subst h2; simp
      · simp [h2]
    · simp [h]
end MV

set_option Elab.async false
set_option linter.all false
set_option maxRecDepth 100000
set_option maxHeartbeats 2000000
/-! MVM: defs with *rest; class methods without arguments; a class held in a local; // by wide numbers of either sign. -/
namespace MV
open PySem PySem.Spec PySem.Calls PyProof.Rows L2
/-- a promise of what is called with any positions, where no repr is under way -/
def FnGR (P : Program) (w : World) (K : PySem.W.Frag) (mg : Str → Option Value) (base : Heap) (CX : CXT) (k : Nat) (f : Addr) (sp : Sp) : Prop :=
  ∀ (A : Around) (outer : List Env) (s : Shared) (H : Hp) (us : List Value) (vs : List V) (Q : VK) (E : XK), Room k A → A.guards = some [] → Env0 P w K mg base A outer s H → Vals vs us → sp vs H Q E →
    codeAny (model P w) A (.call (.ref f) ⟨us, []⟩) (CR CX outer P w H s Q E) s
/-- what a def with *rest alone promises, from what its body does with the tuple -/
def spStar (sp : Sp) : Sp := fun vs H Q E => vs.length ≤ sizeLine ∧ ∀ p, H p = none → sp [.ref p] (upd H p (.tup vs)) Q E
section
variable {P : Program} {w : World} {K : PySem.W.Frag} {mg : Str → Option Value} {base : Heap} {CX : CXT} {k : Nat} {f : Addr} {fd : FuncData} {ps : List Str} {sp : Sp}
theorem Fun.gs {x qual pv : Str} {st : Stmt} {N : List Str} (F : Fun K x qual st f fd) (S : FnScope N [pv] (defScope st)) (hCX : StX.CXUp CX)
    (hb : ∀ rest : List Value, bindArgs fd ⟨rest, []⟩ = (newTuple rest >>= fun t => pure [(pv, t)]))
    (hbody : ∀ (cdv : Value) (A : Around) (outer : List Env) (s : Shared) (H : Hp) (vs : List V) (Q : VK) (E : XK),
      Room k (A.deeper (envOfC qual (defScope st) s.heap.objs.size f cdv)) →
      (A.deeper (envOfC qual (defScope st) s.heap.objs.size f cdv)).guards = some [] → sp vs H Q E →
      ∃ t, PSs (cxOf CX P w K mg base N qual (defScope st) f cdv A outer s H E).nox (defBody st) t ∧
        t { nx := fun _ H' => Q .non H', rt := Q } (start N vs) H) :
    FnGR P w K mg base CX (k + 1) f (spStar sp) := by
  obtain ⟨oc, od, kV, doc, pm, an, cdv, ct, osl, rfl, lk, hcd⟩ := F.ex
  intro A outer s H us vs Q E hr hg e0 r ⟨hz, hq⟩
  have hn : H s.heap.objs.size = Option.none := e0.hok.fresh (Nat.le_refl _)
  have hl2 : us.length ≤ sizeLine := by rw [← r.length]; exact hz
  refine StX.run_bnd lk hcd S hr e0 (G := fun xs H2 => ∃ p, H p = Option.none ∧ xs = [V.ref p] ∧ H2 = upd H p (.tup vs)) (fun A' Ex Q' h => ?_) fun s2 H2 xs ⟨p, hp, ex, eH⟩ hr' => ?_
  · rw [hb us]
    refine wpAny_bind (wpAny_newTuple (wpAny_pure ?_) hl2)
    have new : ObjOk P w (upd H s.heap.objs.size (.tup vs)) (s.heap.push ({ cls := .type "tuple", data := .seq us.toArray } : Obj)) s.heap.objs.size (.tup vs) := ⟨hz, us, r, ⟨_, Heap.get?_push_size _ rfl, rfl, _, rfl⟩⟩
    have un := StX.un_laid (fs := frs outer) (s := s) (o := ({ cls := .type "tuple", data := .seq us.toArray } : Obj)) (u := .tup vs) hn
    exact h _ _ [V.ref s.heap.objs.size] [Value.ref s.heap.objs.size] (StX.env0_laid e0 new) un rfl (fun e s' => hCX outer s H _ _ E e s' un (fun b o q => Heap.get?_push_of_some _ q) rfl) (.cons rfl .nil) rfl ⟨_, hn, rfl, rfl⟩
  · subst ex eH
    obtain ⟨t, p1, q1⟩ := hbody cdv A outer s2 _ _ Q E hr' hg (hq p hp)
    exact ⟨t, p1.nox, q1⟩
end
section
variable {X : Cx} {CX : CXT} {k i : Nat} {f C p : Addr} {fd : FuncData} {ps : List Str} {sp : Sp} {E : XK} {x m : Str} {pos apos np : Pos} {o e : Expr} {es : List Expr} {ta : TE} {t : TA} {mc : Value}
theorem runGR {A : Around} {pins : List (Addr × Obj)} {σ : L2.St} {H : Hp} {s : Shared} {Q : VK} {us : List Value} {vs : List V}
    (F : FnGR X.prog X.w X.K X.mg X.base CX k f sp) (hr : Room k A) (hg : A.guards = some [])
    (e0 : Env0 X.prog X.w X.K X.mg X.base A X.stack s H) (hx : Passes CX X E)
    (I : Inv X pins σ H s) (r : Vals vs us) (h : sp vs H Q E) :
    codeAny (model X.prog X.w) A (.call (.ref f) ⟨us, []⟩) (Back X pins σ Q) s :=
  codeAny_mono (F A X.stack s H us vs Q E hr hg e0 r h) fun r s' hq => ended hx I hq
theorem callGR {pins : List (Addr × Obj)} {σ : L2.St} {H : Hp} {s : Shared} {Q : VK} {us : List Value} {vs : List V}
    (F : FnGR X.prog X.w X.K X.mg X.base CX k f sp) (hr : Room k X.A) (hg : X.A.guards = some []) (hx : Passes CX X E)
    (I : Inv X pins σ H s) (r : Vals vs us) (h : sp vs H Q E) :
    wpAny (model X.prog X.w) X.A (call (.ref f) us) (EP X pins σ Q) X.xe s := by
  refine wpAny_call (codeAny_mono (runGR F hr hg I.env0 hx I r h) fun z s' q => ?_)
  match z, q with
  | .ok (.ret _), q => exact q
  | .error _, q => exact q
/-- C.m(..), m a static method with *rest -/
theorem peg_smethR {pl : Sem Bool} (he : PE X o ta) (S : SMet X.K C mc m p f)
    (F : FnGR X.prog X.w X.K X.mg X.base CX k f sp) (hr : Room k X.A) (hg : X.A.guards = some []) (hx : Passes CX X E) (ha : PA X (e :: es) t)
    (hst : starEach (e :: es) X.env = (false, eval e X.env) :: starEach es X.env := by rfl)
    (hpl : (backTo pos (starEach es X.env)).any (·.1) = false := by rfl)
    (ht : eval (.Call (.Attribute o m apos) (e :: es) [] pos) X.env = (do
      let ov ← eval o X.env
      standAt apos.atName
      let (g, first) ← holding [ov] (getMethod ov m pl)
      callWith pos g first (backTo pos (starEach (e :: es) X.env)) (backToKw pos (keywordEach [] X.env))) := by rfl) :
    PE X (.Call (.Attribute o m apos) (e :: es) [] pos) (tSMeth C sp [] E ta t) := by
  constructor
  intro pins s σ H Q I h
  refine PySem.W.methodCall_KW (pl := pl) (thn (he.run pins s σ H _ I h) ?_) ht
  rintro u s1 ⟨_, H1, I1, rx, rfl, q⟩
  cases rx
  obtain ⟨rest, hrec⟩ := S.rc
  refine PySem.W.method_cls I1.kIn S.rd.ga (PySem.W.cls_bind I1.kIn S.rd.rd S.at_ (wpAny_call (PySem.W.sm_get (s := { s1 with toks := s1.toks + 1 }) I1.kIn hrec (PySem.W.handed_on rfl ?_))))
  have I2 := I1.tok (s1.toks + 1)
  refine PySem.W.callWith_K (first := []) (h₀ := X.base) I.ok.mod.kin S.kp ?_ hst hpl
  refine thn (ha.run pos pins _ σ H1 _ I2 q) fun us s2 ⟨vs, H2, I3, r, q2⟩ => ⟨I3.kIn, ?_⟩
  have q2 : sp (vs ++ []) H2 Q E := q2
  rw [List.append_nil] at q2
  exact callGR F hr hg hx I3 r q2
/-- C.m(), m a class method -/
def tCMeth0 (C : Addr) (sp : Sp) (E : XK) (ta : TE) : TE := fun σ H Q => ta σ H fun x H1 => x = .ref C ∧ sp [.ref C] H1 Q E
theorem peg_cmeth0 {pl : Sem Bool} (he : PE X o ta) (r : ClX.CRead X.K C mc) (c : ClX.CMet X.K C mc m p f)
    (F : FnG X.prog X.w X.K X.mg X.base CX k f fd ps sp) (hr : Room k X.A) (hg : X.A.guards = some []) (hb : Binds X.K fd ps []) (hx : Passes CX X E)
    (ht : eval (.Call (.Attribute o m apos) [] [] pos) X.env = (do
      let ov ← eval o X.env
      standAt apos.atName
      let (g, first) ← holding [ov] (getMethod ov m pl)
      callWith pos g first (backTo pos (starEach [] X.env)) (backToKw pos (keywordEach [] X.env))) := by rfl) :
    PE X (.Call (.Attribute o m apos) [] [] pos) (tCMeth0 C sp E ta) := by
  constructor
  intro pins s σ H Q I h
  refine PySem.W.methodCall_KW (pl := pl) (thn (he.run pins s σ H _ I h) ?_) ht
  rintro u s1 ⟨_, H1, I1, rx, rfl, q⟩
  cases rx
  refine ClX.getmethcm_ok I1 r c fun s2 I2 => ?_
  have hq := ClX.pin_at I2
  refine PySem.W.callWith_M0 (first := []) (g := f) (self := .ref C) ⟨hq, I2.kIn⟩ c.fi ?_
  have z : wpAny (model X.prog X.w) X.A (call (.ref s1.heap.objs.size) []) (EP X ((s1.heap.objs.size, PySem.W.methodObj (.ref f) (.ref C)) :: pins) σ Q) X.xe s2 := by
    refine wpAny_call (PySem.W.method_call hq ?_)
    refine codeAny_mono (runG (us := [.ref C]) (vs := [.ref C]) (Q := Q) F hr hg I2.env0 hb .nil hx I2 (.cons rfl .nil) q) fun z s' q' => ?_
    match z, q' with
    | .ok (.ret _), q' => exact q'
    | .error _, q' => exact q'
  exact thn z fun _ _ y => ClX.unpinE y
/-- x(..), x a local that holds the class C -/
def tMakeL (i : Nat) (C : Addr) (sp : Sp) (E : XK) (t : TA) : TE := fun σ H Q => σ[i]? = some (some (.ref C)) ∧ t σ H fun vs H1 => MkR C sp vs H1 Q E
theorem peg_makeL (M : Mk X.K C f) (F : FnG X.prog X.w X.K X.mg X.base CX k f fd ps sp) (hr : Room (k + 1) X.A) (hg : X.A.guards = some []) (hb : Binds X.K fd ps []) (hx : Passes CX X E)
    (hN : X.N[i]? = some x) (hv : Vis X.env.scope x) (ha : PA X (e :: es) t)
    (hdb : (x == ("__debug__" : Str)) = false := by decide) (hcd : (x == ("__classdict__" : Str)) = false := by decide)
    (he : starEach (e :: es) X.env = (false, eval e X.env) :: starEach es X.env := by rfl) (hpl : (backTo pos (starEach es X.env)).any (·.1) = false := by rfl) :
    PE X (.Call (.Name x np) (e :: es) [] pos) (tMakeL i C sp E t) := by
  refine ⟨fun pins s σ H Q I h' => ?_⟩
  obtain ⟨hs, ht⟩ := h'
  refine wpAny_Call_Name_kw (thn ((pe_var (pos := np) hN hv hdb hcd).run pins s σ H (fun v H1 => v = .ref C ∧ H1 = H) I ⟨.ref C, hs, rfl, rfl⟩) fun u s1 ⟨v, H1, I1, r1, q1⟩ => ?_)
  obtain ⟨rfl, rfl⟩ := q1
  cases r1
  refine PySem.W.callWith_K (h₀ := X.base) I1.ok.mod.kin M.kp ?_ he hpl
  refine thn (ha.run pos pins s1 σ _ _ I1 ht) fun us s2 ⟨vs, H2, I2, r, q⟩ => ⟨I2.kIn, ?_⟩
  refine makeG (dvs := []) M F hr hg hb .nil hx I2 r ?_
  rw [List.append_nil]
  exact q
end
/-- // of numbers whose divisor is not 0 and has fewer than 9000 bits -/
def CDivN9 (_ j : Int) : Prop := j ≠ 0 ∧ j.natAbs.log2 < 9000
theorem op_fdivN9 {X : Cx} : OpR X (binaryOp .FloorDiv) (rI CDivN9 fun i j => .int (i.fdiv j)) := opI fun i j _ _ _ _ _ hc q =>
  floordiv_int hc.1 q (.inl (PyProof.noPylong_of_log2 hc.2))
section
variable {K : PySem.W.Frag} {H : Hp} {Q : VK} {i j : Int}
theorem r_divN9 (h : CDivN9 i j) (q : Q (.int (i.fdiv j)) H) : rI CDivN9 (fun i j => .int (i.fdiv j)) (.int i) (.int j) H Q := ⟨i, j, rfl, rfl, h, q⟩
theorem r_modN (h : j ≠ 0) (q : Q (.int (i.fmod j)) H) : rI (fun _ j => j ≠ 0) (fun i j => .int (i.fmod j)) (.int i) (.int j) H Q := ⟨i, j, rfl, rfl, h, q⟩
theorem r_cmeth0 {C : Addr} {sp : Sp} {E : XK} {ta : TE} {σ : L2.St} (q : ta σ H fun x H1 => x = .ref C ∧ sp [.ref C] H1 Q E) : tCMeth0 C sp E ta σ H Q := q
end
section
variable {K : PySem.W.Frag} {σ : L2.St} {H : Hp} {n : Nat} {tl : TE} {g : TG} {tb : TS} {D : Ends} {x : V} {Q : VK} {i j l m : Int} {gs : TGs}
/-- a loop over a tuple -/
def ForT (K : PySem.W.Frag) (g : TG) (tb : TS) (D : Ends) (σ : L2.St) (x : V) (H1 : Hp) : Prop := ∃ (a : Addr) (xs : List V) (Pv : Nat → L2.St → Hp → Prop), x = .ref a ∧ Pv 0 σ H1 ∧
  (∀ i σ H, i ≤ xs.length → Pv i σ H → SqT K H a xs) ∧
  (∀ i x σ H, xs[i]? = some x → Pv i σ H → g x σ H fun σ2 H2 => tb { D with nx := Pv (i + 1), ct := Pv (i + 1), bk := D.nx } σ2 H2) ∧ (∀ σ H, Pv xs.length σ H → D.nx σ H)
def ForTR (K : PySem.W.Frag) (g : TG) (tb : TS) (D : Ends) (σ : L2.St) (x : V) (H1 : Hp) : Prop := ∃ a, x = .ref a ∧ (∃ xs, SqT K H1 a xs) ∧ ∃ W : Nat → Nat → L2.St → Hp → Prop, (∃ m, W 0 m σ H1) ∧ ∀ i m σ H, W i m σ H →
  ((Itt K a).stop i H ∧ D.nx σ H) ∨ ((Itt K a).go i H ∧ ∃ N : L2.St → Hp → Prop, (∀ σ' H', N σ' H' → ∃ m', m' < m ∧ W (i + 1) m' σ' H') ∧ ∀ x H', (Itt K a).yld i H x H' → g x σ H' fun σ2 H2 => tb { D with nx := N, ct := N, bk := D.nx } σ2 H2)
theorem r_forT (q : tl σ H fun x H1 => ForTR K g tb D σ x H1) : tFor (iTup K tl) g tb D σ H := q
theorem ForT.ok (q : ForT K g tb D σ x H) : ForTR K g tb D σ x H := by
  obtain ⟨a, xs, Pv, rfl, h0, hl, hs, hd⟩ := q
  exact ⟨a, rfl, ⟨xs, hl 0 σ H (Nat.zero_le _) h0⟩, for_tup Pv h0 (fun i σ H h p => hl i σ H h p) hs hd⟩
theorem r_newI4 (k : ∀ v H2, Stp none H H2 → IT H2 v [i, j, l, m] → Q v H2) : NewT [V.int i, V.int j, V.int l, V.int m] H Q := r_newI (ns := [i, j, l, m]) (Nat.le_of_ble_eq_true rfl) k
theorem r_unpack4 {v : V} {Q : L2.St → Hp → Prop} (h : IK K H v [i, j, l, m]) (q : gs [V.int i, V.int j, V.int l, V.int m] σ H Q) : gTup K 4 gs v σ H Q := r_unpack h rfl q
end
/-! ### a list of one's own is written -/
theorem Stp.put {t : Option Addr} {H H' : Hp} {f : Addr} {o : HO} (s : Stp t H H') (n : H f = none) : Stp t H (upd H' f o) := by
  refine ⟨fun b o' m e => ?_, fun a l e T => ?_⟩
  · rw [upd_ne (ne_of_none e n)]
    exact s.ge b o' m e
  · have T' := s.tp a l e T
    obtain ⟨_, _, _, _, _, h1, h2, _⟩ := T
    obtain ⟨ns, x, b, c, k0, k1, k2, k3⟩ := T'
    exact ⟨ns, x, b, c, k0, by rw [upd_ne (ne_of_none h1 n)]; exact k1, by rw [upd_ne (ne_of_none h2 n)]; exact k2, k3⟩
theorem IT.put {H : Hp} {f : Addr} {xs ys : List V} {v : V} {ns : List Int} (h : IT H v ns) (e : H f = some (.lst xs)) : IT (upd H f (.lst ys)) v ns := by
  obtain ⟨p, rfl, h⟩ := h
  exact ⟨p, rfl, by rw [upd_ne (by rintro rfl; rw [e] at h; cases h)]; exact h⟩
/-- xs.append(y) as a statement -/
theorem r_app {H : Hp} {Q : VK} {f : Addr} {xs : List V} {y : V} (h : H f = some (.lst xs)) (hl : xs.length < sizeLine) (q : Q .non (upd H f (.lst (xs ++ [y])))) : rAppend (.ref f) [y] H Q := ⟨f, xs, y, rfl, rfl, h, hl, q⟩
theorem r_bm {K : PySem.W.Frag} {T : String} {r : V → List V → Hp → VK → Prop} {ta : TE} {t : TA} {σ : L2.St} {H : Hp} {Q : VK} (q : ta σ H fun x H1 => tyV K T x H1 ∧ t σ H1 fun xs H2 => r x xs H2 Q) : tBM K T r ta t σ H Q := q
/-! ### a cut behind a statement -/
def tCut (t u : TS) : TS := fun D σ H => ∃ Pv : L2.St → Hp → Prop, t { D with nx := Pv } σ H ∧ ∀ σ' H', Pv σ' H' → u D σ' H'
theorem pss_cut {X : Cx} {st : Stmt} {rest : List Stmt} {t u : TS} (h1 : PS X st t) (h2 : PSs X rest u) : PSs X (st :: rest) (tCut t u) := by
  refine ⟨fun pins s σ H D I ⟨Pv, h, hk⟩ => ?_⟩
  refine wpAny_execs_cons (thn (h1.run pins s σ H { D with nx := Pv } I h) fun f s1 q => ?_)
  cases f with
  | next =>
    obtain ⟨σ', H', I', q⟩ := q
    exact h2.run pins s1 σ' H' D I' (hk _ _ q)
  | ret v => exact q
  | brk => exact q
  | cont => exact q
theorem r_cut {t u : TS} {D : Ends} {σ : L2.St} {H : Hp} (Pv : L2.St → Hp → Prop) (h1 : t { D with nx := Pv } σ H) (h2 : ∀ σ' H', Pv σ' H' → u D σ' H') : tCut t u D σ H := ⟨Pv, h1, h2⟩
end MV

set_option Elab.async false
set_option linter.all false
set_option maxRecDepth 100000
set_option maxHeartbeats 2000000
/-! MVN: ranges of two and three numbers; rules within a comprehension's block; bools compared; lists added and repeated. -/
namespace MV
open PySem PySem.Spec PySem.Calls PyProof.Rows L2
section
variable {X : Cx} {K : PySem.W.Frag} {tg e : Expr} {te : TE}
theorem pi_tupk (h : X.K = K) (he : PE X e te) : PI X tg e (iTup K te) := h ▸ pi_tup he
theorem pi_listk (h : X.K = K) (he : PE X e te) : PI X tg e (iList K te) := h ▸ pi_list he
theorem call_tuple_ofk (h : X.K = K) : CallR X (.type "tuple") (rTupL K) := by
  subst h
  exact call_tuple_of
end
section
variable {K : PySem.W.Frag} {σ : L2.St} {H H1 : Hp} {Q : VK} {g : TG} {tb : TS} {D : Ends} {ta : TA} {x y : V} {b c : Bool}
/-- range(i, j) -/
def ForR2 (g : TG) (tb : TS) (D : Ends) (σ : L2.St) (vs : List V) (H1 : Hp) : Prop := ∃ (i j : Int) (Pv : Nat → L2.St → Hp → Prop), vs = [.int i, .int j] ∧ -(2 ^ 62) ≤ i ∧ i < 2 ^ 62 ∧ -(2 ^ 62) ≤ j ∧ j < 2 ^ 62 ∧ Pv 0 σ H1 ∧
  (∀ n σ H, n < (j - i).toNat → Pv n σ H → g (.int (i + n)) σ H fun σ2 H2 => tb { D with nx := Pv (n + 1), ct := Pv (n + 1), bk := D.nx } σ2 H2) ∧ (∀ σ H, Pv (j - i).toNat σ H → D.nx σ H)
def ForR2n (g : TG) (tb : TS) (D : Ends) (σ : L2.St) (vs : List V) (H : Hp) : Prop := ∃ i j : Int, vs = [.int i, .int j] ∧ (-(2 ^ 62) ≤ i ∧ i < 2 ^ 62 ∧ -(2 ^ 62) ≤ j ∧ j < 2 ^ 62) ∧ ∃ W : Nat → Nat → L2.St → Hp → Prop, (∃ m, W 0 m σ H) ∧ ∀ n m σ H, W n m σ H →
      ((Itr i (j - i).toNat).stop n H ∧ D.nx σ H) ∨ ((Itr i (j - i).toNat).go n H ∧ ∃ N : L2.St → Hp → Prop, (∀ σ' H', N σ' H' → ∃ m', m' < m ∧ W (n + 1) m' σ' H') ∧ ∀ x H', (Itr i (j - i).toNat).yld n H x H' → g x σ H' fun σ2 H2 => tb { D with nx := N, ct := N, bk := D.nx } σ2 H2)
theorem ForR2.ok {vs : List V} (q : ForR2 g tb D σ vs H) : ForR2n g tb D σ vs H := by
  obtain ⟨i, j, Pv, rfl, a1, a2, a3, a4, h0, hs, hd⟩ := q
  exact ⟨i, j, rfl, ⟨a1, a2, a3, a4⟩, for_range Pv h0 hs hd⟩
theorem r_forR2 (q : ta σ H fun vs H1 => ForR2n g tb D σ vs H1) : tFor (iRng2 ta) g tb D σ H := q
/-- range(i, j, c) -/
def ForR3n (g : TG) (tb : TS) (D : Ends) (σ : L2.St) (vs : List V) (H : Hp) : Prop := ∃ (i j c : Int) (n : Nat), vs = [.int i, .int j, .int c] ∧ RgC i j c n ∧ ∃ W : Nat → Nat → L2.St → Hp → Prop, (∃ m, W 0 m σ H) ∧ ∀ k m σ H, W k m σ H →
      ((Itc i c n).stop k H ∧ D.nx σ H) ∨ ((Itc i c n).go k H ∧ ∃ N : L2.St → Hp → Prop, (∀ σ' H', N σ' H' → ∃ m', m' < m ∧ W (k + 1) m' σ' H') ∧ ∀ x H', (Itc i c n).yld k H x H' → g x σ H' fun σ2 H2 => tb { D with nx := N, ct := N, bk := D.nx } σ2 H2)
theorem for3_ok {i j c : Int} {n : Nat} (hr : RgC i j c n) (Pv : Nat → L2.St → Hp → Prop) (h0 : Pv 0 σ H)
    (hs : ∀ k σ H, k < n → Pv k σ H → g (.int (i + (k : Nat) * c)) σ H fun σ2 H2 => tb { D with nx := Pv (k + 1), ct := Pv (k + 1), bk := D.nx } σ2 H2) (hd : ∀ σ H, Pv n σ H → D.nx σ H) : ForR3n g tb D σ [.int i, .int j, .int c] H :=
  ⟨i, j, c, n, rfl, hr, for_rangeC Pv h0 hs hd⟩
theorem r_forR3 (q : ta σ H fun vs H1 => ForR3n g tb D σ vs H1) : tFor (iRng3 ta) g tb D σ H := q
theorem r_neB (q : Q (.bl (!decide (b = c))) H) : rNe (.bl b) (.bl c) H Q := ⟨rfl, by
  have e : decide (V.bl b = V.bl c) = decide (b = c) := decide_eq_decide.mpr ⟨V.bl.inj, congrArg V.bl⟩
  rw [e]; exact q⟩
theorem r_eqB (q : Q (.bl (decide (b = c))) H) : rEq (.bl b) (.bl c) H Q := ⟨rfl, by
  have e : decide (V.bl b = V.bl c) = decide (b = c) := decide_eq_decide.mpr ⟨V.bl.inj, congrArg V.bl⟩
  rw [e]; exact q⟩
theorem r_catL {l m : Addr} {xs ys : List V} (h : H l = some (.lst xs)) (h2 : H m = some (.lst ys)) (hl : xs.length + ys.length ≤ 100) (k : ∀ p H2, Stp none H H2 → H2 p = some (.lst (xs ++ ys)) → H p = none → Q (.ref p) H2) : rCat (.ref l) (.ref m) H Q :=
  ⟨l, m, xs, ys, rfl, rfl, h, h2, sz100 hl, fun p hp => k p _ (Stp.new hp) upd_same hp⟩
theorem r_rep3 {l : Addr} {x : V} (h : H l = some (.lst [x])) (k : ∀ p H2, Stp none H H2 → H2 p = some (.lst [x, x, x]) → H p = none → Q (.ref p) H2) : rRep (.ref l) (.int 3) H Q :=
  ⟨l, 3, [x], rfl, rfl, h, by decide, by decide, (show (1 : Nat) * 3 ≤ sizeLine by decide), fun p hp => k p _ (Stp.new hp) upd_same hp⟩
end
/-- three bools in a list -/
abbrev b3 (b c d : Bool) : PyData := .list [.bool b, .bool c, .bool d]
theorem shw_b3 (b c d : Bool) : Shw (b3 b c d) where
  sh := by
    rw [PyData.showable, PyData.showableAll, PyData.showableAll, PyData.showableAll, PyData.showableAll, PyData.showable, PyData.showable, PyData.showable]
    rfl
  nd := by
    rw [PyData.hasDict, PyData.hasDictAll, PyData.hasDictAll, PyData.hasDictAll, PyData.hasDictAll, PyData.hasDict, PyData.hasDict, PyData.hasDict]
    rfl
  dp := by
    rw [PyData.depth, PyData.depthAll, PyData.depthAll, PyData.depthAll, PyData.depthAll, PyData.depth, PyData.depth, PyData.depth]
    decide
  ln := by
    rw [bnd, bndAll, bndAll, bndAll, bndAll, bnd, bnd, bnd]
    decide
theorem shaped_b3 {b c d : Bool} : SeqAt.shaped (b3 b c d) = true := by
  simp [SeqAt.shaped, PyData.canLay0, PyData.canLayAll0, PyData.depth, PyData.depthAll]
theorem eqv_b3 {b c d : Bool} : PyData.eqv (b3 b c d) (b3 b c d) = true := by
  simp [PyData.eqv, PyData.eqvAll]
end MV

set_option Elab.async false
set_option linter.all false
set_option maxRecDepth 100000
set_option maxHeartbeats 2000000
/-! MVO: own binary operators of instances of two classes. -/
namespace PySem.W
open PySem PySem.Spec PyProof.Rows
section
variable {prog : Program} {w : World} {A : Around} {E : Value → Shared → Prop} {s : Shared} {K : Frag} {x C D L f f' : Addr} {h₀ : Heap} {m : Str → Option Value} {ox : Obj} {od : Option Obj}
theorem mv_binTwo {op : Operator} {b : Value} {Q : Value → Shared → Prop} (F : Fr h₀ L s.heap m) (X₀ : K.In h₀) (I : InstAt s.heap x ox C od) (hb : Looks (model prog w) s.heap (typeOf b) (.ref D)) (hcd : (C == D) = false) (hc : selfFirst K C = true) (hd : selfFirst K D = true)
    (hs : findIn K (.ref C) (PySem.dunder op.info.2) = some (some (.ref f))) (hf : isFn K (.ref f) = true) (hr : findIn K (.ref C) (dunderR op.info.2) = some none)
    (hs' : findIn K (.ref D) (PySem.dunder op.info.2) = some (some (.ref f'))) (hr' : findIn K (.ref D) (dunderR op.info.2) = some none) (hsub : subIn K (.ref D) (.ref C) = some false)
    (h : wpAny (model prog w) A (call (.ref f) [.ref x, b]) (CmpBack Q) E s) : wpAny (model prog w) A (binaryOp op (.ref x) b) Q E s := by
  have X := X₀.keeps F.keep
  obtain ⟨cd, rest, hcl, hm⟩ := ksp_first hc
  obtain ⟨cd', rest', hcl', hm'⟩ := ksp_first hd
  rcases hi : op.info with ⟨sym, nm'⟩
  rw [hi] at hs hr hs' hr'
  dsimp only at hs hr hs' hr'
  have one := ksp_try X I hs hf h
  obtain ⟨hh, g, d, tt, os⟩ := s
  have L1 : Looks (model prog w) hh (typeOf (.ref x)) (.ref C) := I.type
  have L2 : Looks (model prog w) hh (typeOf b) (.ref D) := hb
  have L3 : Looks (model prog w) hh (fillsNumberSlot (.ref C) nm') true := fills_K X hcl hm hs
  have L4 : Looks (model prog w) hh (fillsNumberSlot (.ref D) nm') true := fills_K X hcl' hm' hs'
  have L5 : Looks (model prog w) hh (isSubtype (.ref D) (.ref C)) false := looks_subIn X hsub
  have L6 : Looks (model prog w) hh (numberSlotInPython (.ref C) nm') true := ksp_inPy X hs hr (.inl rfl)
  have L7 : Looks (model prog w) hh (numberSlotInPython (.ref D) nm') true := ksp_inPy X hs' hr' (.inl rfl)
  have hne : (Value.ref C == Value.ref D) = false := Bool.eq_false_iff.mpr fun q => by
    cases beq_iff_eq.mp q
    rw [beq_self_eq_true] at hcd
    cases hcd
  simp only [binaryOp, hi]
  refine wpAny_holding (wpAny_bind ?_)
  unfold binaryOp1
  refine wpAny_bind (L1.at (wpAny_bind (L2.at (wpAny_bind (L3.at ?_)))))
  simp only [hne, Bool.false_eq_true, if_false]
  ksp_lk
  refine wpAny_mono one (fun r s' hr' => ?_) fun _ _ e => e
  obtain ⟨v, rfl, hq⟩ := hr'
  ksp_lk
  exact hq
end
end PySem.W
namespace MV
open PySem PySem.Spec PySem.Calls PyProof.Rows L2
section
variable {X : Cx} {CX : CXT} {k : Nat} {f f' C D : Addr} {fd : FuncData} {ps : List Str} {sp : Sp} {E : XK}
/-- what an operator of two classes asks of the text -/
structure Two (K : PySem.W.Frag) (C D f f' : Addr) (n r : Str) : Prop where
  ne : (C == D) = false
  c : PySem.W.selfFirst K C = true
  d : PySem.W.selfFirst K D = true
  at_ : PySem.W.findIn K (.ref C) n = some (some (.ref f))
  fn : PySem.W.isFn K (.ref f) = true
  nr : PySem.W.findIn K (.ref C) r = some none
  at' : PySem.W.findIn K (.ref D) n = some (some (.ref f'))
  nr' : PySem.W.findIn K (.ref D) r = some none
  sub : PySem.W.subIn K (.ref D) (.ref C) = some false
def rOwnTwo (K : PySem.W.Frag) (C D : Addr) (sp : Sp) (E : XK) : R2 := fun x y H Q => ∃ a dx fs, x = .ref a ∧ H a = some (.ins C dx fs) ∧ TyX K H y (.ref D) ∧ sp [x, y] H Q E
theorem opg_two {op : Operator} (h : Two X.K C D f f' (PySem.dunder op.info.2) (PySem.dunderR op.info.2)) (F : FnG X.prog X.w X.K X.mg X.base CX k f fd ps sp) (hr : Room k X.A) (hg : X.A.guards = some [])
    (hb : Binds X.K fd ps []) (hx : Passes CX X E) : OpR X (binaryOp op) (rOwnTwo X.K C D sp E) := by
  intro pins s σ H x y v u Q I rx ry q
  obtain ⟨a, dx, fs, rfl, ea, ty, q⟩ := q
  cases rx
  obtain ⟨mA, O, _⟩ := ins_get I.hok ea
  obtain ⟨od, J, _⟩ := O.look
  obtain ⟨m, hF⟩ := I.fr
  obtain ⟨P, kx, hP, _⟩ := kit_of I ry ty
  refine PySem.W.mv_binTwo hF I.ok.mod.kin J (kx.ty _ _ I.kIn hP) h.ne h.c h.d h.at_ h.fn h.nr h.at' h.nr' h.sub (thn (callG (us := [.ref a, u]) (vs := [.ref a, y]) F hr hg hb .nil hx I (.cons rfl (.cons ry .nil)) q) ?_)
  rintro z s' ⟨v', H', I', rv, q'⟩
  have fin : EP X pins σ Q z s' := ⟨v', H', I', rv, q'⟩
  cases z <;> first | exact fin | (cases v' <;> first | exact False.elim rv | (obtain ⟨_, h⟩ := rv; cases h) | cases rv)
end
end MV

set_option Elab.async false
set_option linter.all false
set_option maxRecDepth 100000
set_option maxHeartbeats 2000000
/-! MVP: own exceptions with one field, made and raised. -/
namespace MV
open PySem PySem.Spec PyProof.Rows L2

/-- an own exception class C, one parameter, which its __init__ keeps in the field f -/
structure Xc (K : PySem.W.Frag) (C fI : Addr) (f : Str) : Prop where
  c : OexC K C
  i : PySem.W.findIn K (.ref C) "__init__" = some (some (.ref fI))
  t : PySem.W.typeIn K (.ref fI) = some (.type "function")
  n : PySem.W.findIn K (.ref C) f = some none

/-- what such an __init__ promises -/
def spX (K : PySem.W.Frag) (f : Str) : Sp := fun vs H Q _ => ∃ (a C : Addr) (y : V), vs = [.ref a, y] ∧ OexC K C ∧ PySem.W.findIn K (.ref C) f = some none ∧
  H a = some (exo a C none) ∧ ∀ dx, H dx = none → dx ≠ a → Q .non (upd (upd H dx (exd dx [(f, y)])) a (exo a C (some dx)))

section
variable {P : Program} {w : World} {K : PySem.W.Frag} {mg : Str → Option Value} {base : Heap} {k : Nat} {f fI : Addr} {fd : FuncData}
/-- def __init__(self, v): self.v = v -/
theorem xinit_ok {qual v : Str} {st : Stmt} {p1 p2 p3 p4 : Pos} (F : Fun K "__init__" qual st fI fd) (S : FnScope ["self", v] ["self", v] (defScope st))
    (hb : defBody st = [.Assign [.Attribute (.Name "self" p1) v p2] (.Name v p3) p4])
    (h1 : Vis (defScope st) "self") (h2 : Vis (defScope st) v)
    (d1 : (v == ("__debug__" : Str)) = false) (d2 : (v == ("__classdict__" : Str)) = false) :
    FnOk P w K mg base CX0 (k + 1) fI fd ["self", v] (spX K v) := by
  refine F.ok S (fun vs H Q E h => ?_) fun cdv A outer s H vs Q E hr h => ?_
  · obtain ⟨a, C, y, rfl, _⟩ := h
    rfl
  · obtain ⟨a, C, y, rfl, hC, hn, ha, q⟩ := h
    rw [hb]
    refine ⟨_, pss_one (ps_ost (pe_var (i := 0) rfl h1 (by decide) (by decide)) (pe_var (i := 1) rfl h2 d1 d2)), ?_⟩
    exact ⟨y, rfl, .ref a, rfl, a, C, rfl, hC, hn, .inl ⟨ha, q⟩⟩

/-- C(e), to be raised -/
def tXm (C : Addr) (f : Str) (te : TE) : L2.St → Hp → XK → Prop := fun σ H Q => te σ H fun y H1 => ∀ d, H1 d = none → Q (.ref C) (some d) (upd H1 d (.xd [(f, y)]))
end

theorem upd_xd {H : Hp} {a d : Addr} {o o1 o2 o3 : HO} (ha : H a = none) (hd : d ≠ a) :
    upd (del (upd (upd (upd H a o) d o1) a o2) a) d o3 = upd H d o3 := by
  funext b
  by_cases e : b = d
  · rw [e, upd_same, upd_same]
  · rw [upd_ne e, upd_ne e]
    by_cases e2 : b = a
    · rw [e2, del_same, ha]
    · rw [del_ne e2, upd_ne e2, upd_ne e, upd_ne e2]

section
variable {X : Cx} {C fI : Addr} {fd : FuncData} {k : Nat} {f x : Str} {e : Expr} {te : TE} {p pos pos2 : Pos} {W : WX}
theorem pe_mono (he : PE X e te) : PE X e (fun σ H Q => ∃ Q0 : VK, te σ H Q0 ∧ ∀ v H1, Q0 v H1 → Q v H1) :=
  ⟨fun pins s σ H Q I ⟨Q0, h, m⟩ => wpAny_mono (he.run pins s σ H Q0 I h) (fun _ _ ⟨v, H1, I1, r, q⟩ => ⟨v, H1, I1, r, m v H1 q⟩) fun _ _ z => z⟩
theorem pmk_x (T : Xc X.K C fI f) (F : FnOk X.prog X.w X.K X.mg X.base CX0 k fI fd ["self", f] (spX X.K f)) (hr : Room (k + 1) X.A)
    (hb : Binds X.K fd ["self", f] []) (hg : Gl X x) (hm : X.mg x = some (.ref C)) (he : PE X e te)
    (hdb : (x == ("__debug__" : Str)) = false := by decide) (hs : starEach [e] X.env = (false, eval e X.env) :: starEach [] X.env := by rfl) :
    PMk X (.Call (.Name x p) [e] [] pos) (tXm C f te) := by
  intro pins s σ H Q I h
  refine pmk_oex T.c T.i T.t F hr hb .nil (fun _ _ _ _ _ _ _ z => z.elim) hg hm (pa_cons (pe_mono he) pa_nil hs) hdb hs rfl pins s σ H Q I ?_
  refine ⟨_, h, fun y H1 q => ⟨by show 1 ≤ 1000; decide, fun a ha => ⟨a, C, y, rfl, T.c, T.n, upd_same, fun dx n1 ne => ⟨rfl, dx, [(f, y)], upd_same, ?_, ?_, ?_⟩⟩⟩⟩
  · exact (upd_ne ne).trans upd_same
  · rw [upd_ne ne] at n1
    exact n1
  · rw [upd_xd ha ne]
    rw [upd_ne ne] at n1
    exact q dx n1

/-- raise C(e) -/
theorem ps_x (hc : X.calm = true) (tk : Takes X W) (hk : PMk X (.Call (.Name x p) [e] [] pos) (tXm C f te)) :
    PS X (.Raise (some (.Call (.Name x p) [e] [] pos)) none pos2) (fun _ σ H => te σ H fun y H1 => ∀ d, H1 d = none → W (.ref C) (some d) σ (upd H1 d (.xd [(f, y)]))) :=
  ps_raise hc tk hk
end
end MV

set_option Elab.async false
set_option linter.all false
set_option maxRecDepth 100000
set_option maxHeartbeats 2000000
/-! MVQ: a lambda handed to a def, where no repr is under way. -/
namespace MV
open PySem PySem.Spec PyProof.Rows L2 LamX
section
variable {X : Cx} {pins : List (Addr × Obj)} {σ : L2.St} {H HZ : Hp} {s s1 : Shared}
/-- x(), the def's parameter a lambda of the caller, no repr under way -/
theorem peg_act {CXg : CXT} {Eg : XK} {Ng : List Str} {qg : Str} {sg : Scope} {g f c' : Addr} {cdg pm ctv : Value} {params : Arguments} {body : Expr} {scope : Scope} {k i : Nat} {a : Str} {pn : List (Addr × Obj)}
    {xe : Value → Shared → Prop} {W : WX} {E : XK} {tb : TE} {p1 p2 : Pos} (hG : X.A.guards = some [])
    (I : Inv X pins σ H s) (L : LamS X.env.scope scope)
    (hf : s.heap.get? f = some (PySem.W.kla_obj "<lambda>" (X.env.qual ++ "<lambda>") params body scope (cloFrom X.env.cells scope.names []) pm c' ctv)) (hfn : H f = none) (hfr : f ∉ frs X.stack)
    (hbind : bindArgs (PySem.W.kla_fn "<lambda>" (X.env.qual ++ "<lambda>") params body scope (cloFrom X.env.cells scope.names []) pm (.ref c') ctv) ⟨[], []⟩ = pure [])
    (tk : Takes ((cxOf CXg X.prog X.w X.K X.mg X.base Ng qg sg g cdg X.A X.stack s H Eg).tr pn xe) W) (hW : ∀ cls d σ' H', E cls d H' → W cls d σ' H')
    (hr : Room (k + 1) (X.A.deeper (envOfC qg sg s.heap.objs.size g cdg)))
    (hbody : ∀ (A : Around) (outer : List Env) (s : Shared) (H : Hp), A.guards = some [] → Room k (A.deeper (lamEnv X scope s.heap.objs.size f c')) → PE (lamCx X A outer s H E scope f c') body tb)
    (hN : Ng[i]? = some a) (hv : Vis sg a) (hd : (a == ("__debug__" : Str)) = false := by decide) (hcd : (a == ("__classdict__" : Str)) = false := by decide) :
    PE ((cxOf CXg X.prog X.w X.K X.mg X.base Ng qg sg g cdg X.A X.stack s H Eg).tr pn xe) (.Call (.Name a p1) [] [] p2)
      (fun σZ HZ Q => σZ[i]? = some (some (.ref f)) ∧ HZ c' = some (CodeO c' (X.env.qual ++ "<lambda>")) ∧ tb σ HZ Q) := by
  constructor
  rintro pinsZ sZ σZ HZ Q IZ ⟨h1, h2, h3⟩
  apply wpAny_Call_Name_kw
  refine thn ((pe_var (pos := p1) (i := i) hN hv hd hcd).run pinsZ sZ σZ HZ (fun v H1 => v = .ref f ∧ H1 = HZ) IZ ⟨.ref f, h1, rfl, rfl⟩) ?_
  rintro u s1 ⟨v, H1, I1, r1, rfl, rfl⟩
  cases r1
  have there := I1.base.keep f _ hf hfn hfr (fun z => nomatch (show f ∈ ([] : List Addr) from z))
  refine PySem.W.callWith_F0 ⟨_, _, _, _, there⟩ ?_
  obtain ⟨⟨oc, vs, t, e1, e2, e3⟩, _, _⟩ := I1.hok c' _ h2
  have run : codeAny (model X.prog X.w) (X.A.deeper (envOfC qg sg s.heap.objs.size g cdg)) (.call (.ref f) ⟨[], []⟩)
      (CR (L2.CX X.prog X.w) (envOfC qg sg s.heap.objs.size g cdg :: X.stack) X.prog X.w H1 s1 Q E) s1 := by
    refine PySem.W.kla_callFunE hr.depth there rfl L.co L.gen rfl ⟨c', oc, vs, t, rfl, e1, e2, e3⟩ ?_
    rw [hbind]
    refine wpAny_pure (wpAny_newFunctionEnv (fun y hy => (L.own y hy).2) (fun y hy => nomatch hy) (fun h₁ hns hsb => ⟨I1.nolimit.fresh _ hsb, ?_⟩) L.kind)
    have kp : ∀ b o, s1.heap.get? b = some o → h₁.get? b = some o := fun b o e =>
      hsb.extBut b o (Nat.ne_of_lt (Heap.lt_size e)) (Heap.get?_push_of_some _ e)
    have J := lam_start2 (E := E) (f := f) (c' := c') (tk := s1.toks + ([] : List (Str × Value)).length) I L I1.env0 hr.hd I1.base hns kp
    refine PySem.W.kla_codeExpr (wpAny_mono ((hbody (X.A.deeper (envOfC qg sg s.heap.objs.size g cdg)) _ s1 H1 hG (hr.deeper _)).run [] _ _ H1 Q J h3) ?_ fun _ _ z => z)
    rintro v s' ⟨w', H', J', rv, q⟩
    exact ⟨w', H', J'.os, J'.bare, J'.base, J'.hok, rv, q⟩
  have out := passes_call tk hW
  refine wpAny_call (codeAny_mono run ?_)
  rintro (e | (_ | _ | _ | u)) s' hq
  · exact out pinsZ σZ H1 s1 e s' I1 hq
  · exact hq.elim
  · exact hq.elim
  · exact hq.elim
  · exact I1.after hq

/-- x(lambda: body), no repr under way -/
theorem peg_lamcall {T : List (Addr × Str)} {TT : (XK → Hp → VK → Prop) → Hp → VK → Prop} {x a : Str} {g c P : Addr} {k : Nat} {pg : Arguments} {bg : List Stmt} {sg : Scope} {dV kV doc pm cdv ct oc : Value} {an od : Option Addr} {osl : Array (Option Value)}
    {Ng : List Str} {params : Arguments} {body : Expr} {scope : Scope} {t : XK → TE} {p lpos pos : Pos} (hG : X.A.guards = some []) (hg : Gl X x) (hm : X.mg x = some (.ref g)) (hk : PySem.W.keepIn X.K (.ref g) = true)
    (lk : X.K.lookup g = some ⟨oc, od, .func (PySem.W.fnOf x x pg bg sg dV kV doc pm an cdv ct), osl⟩) (hcg : PySem.W.codeIn X.K cdv x = true) (hb : L2.Binds X.K (PySem.W.fnOf x x pg bg sg dV kV doc pm an cdv ct) [a] [])
    (Sg : FnScope Ng [a] sg) (hNg : Ng[0]? = some a) (hva : Vis sg a) (hgv : GivesTo X Ng x sg g cdv bg a (X.env.qual ++ "<lambda>") TT)
    (TB : TabB X.base X.mg c P) (hcode : X.env.code = .ref c) (hmT : (P, X.env.qual ++ "<lambda>") ∈ T) (hu : ∀ p ∈ T, p.1 = P → p.2 = X.env.qual ++ "<lambda>") (hr : Room (k + 2) X.A) (L : LamS X.env.scope scope)
    (hdef : defaultsOf params X.env = ([], []))
    (hbind : ∀ (q : Str) (cl : List (Str × Addr)) (pm cv ctv : Value), bindArgs (PySem.W.kla_fn "<lambda>" q params body scope cl pm cv ctv) ⟨[], []⟩ = pure [])
    (hbody : ∀ (A : Around) (outer : List Env) (s : Shared) (H : Hp) (E : XK) (f c' : Addr), A.guards = some [] → Room k (A.deeper (lamEnv X scope s.heap.objs.size f c')) → PE (lamCx X A outer s H E scope f c') body (t E))
    (hdb : (x == ("__debug__" : Str)) = false := by decide) (hd : (a == ("__debug__" : Str)) = false := by decide) (hcd : (a == ("__classdict__" : Str)) = false := by decide) :
    PE X (.Call (.Name x p) [.Lambda params body scope lpos] [] pos) (tLam T TT t) := by
  constructor
  rintro pins s σ H Q I ⟨hT, h⟩
  apply wpAny_Call_Name_kw
  refine ld_glob I hg hm (PySem.W.callWith_K (h₀ := X.base) I.ok.mod.kin hk ?_ (by rfl) (by rfl)) hdb
  show wpAny _ _ (spliced ((false, eval (.Lambda params body scope lpos) X.env) :: backTo pos (starEach [] X.env))) _ _ s
  refine Calls.spliced_cons (lam_make2 I TB hcode hmT hu hT hdef (L.has I.ok) fun f c' pm' ctv H1 s' I1 eN T1 hf hfn hfr hco => Calls.spliced_nil ⟨I1.kIn, ?_⟩)
  have run : codeAny (model X.prog X.w) X.A (.call (.ref g) ⟨[.ref f], []⟩) (CR C8.CX0 X.stack X.prog X.w H1 s' Q C8.E0) s' := by
    refine run_ofS (N := Ng) (ps := [a]) (us := [.ref f]) (vs := [.ref f]) lk hcg Sg hr I1.env0 (hb s' [.ref f] I1.kIn rfl) (.cons rfl .nil) rfl fun hr' => ?_
    obtain ⟨t', ht', q'⟩ := hgv f c' s' H1 Q (fun E H' Q' => t E σ H' Q')
      (fun W pn xe E p1 p2 tk hW => peg_act (i := 0) hG I1 L hf hfn hfr (hbind _ _ _ _ _) tk hW hr' (fun A outer s H hA hr2 => hbody A outer s H E f c' hA hr2) hNg hva hd hcd) hco (h H1 eN T1)
    exact ⟨t', ht'.nox, q'⟩
  refine wpAny_call (codeAny_mono run ?_)
  rintro (e | (_ | _ | _ | u)) s2 hq
  · exact False.elim hq
  · exact hq.elim
  · exact hq.elim
  · exact hq.elim
  · exact I1.after hq
end
end MV

set_option Elab.async false
set_option linter.all false
set_option maxRecDepth 100000
set_option maxHeartbeats 2000000
/-! MVR: several clauses `except C as e`. -/
namespace MV
open PySem PySem.Spec PyProof.Rows L2

/-- a clause's class, and what its suite asks -/
abbrev Cl := Value × (Addr → Value → Option Addr → TS)
/-- what is asked behind a suite whose name stands in slot i: the name is gone -/
def behind (i : Nat) (D : Ends) : Ends := { nx := fun σ H => D.nx (σ.set i none) H, rt := D.rt, bk := fun σ H => D.bk (σ.set i none) H, ct := fun σ H => D.ct (σ.set i none) H }
/-- what the clauses ask of an exception, one after the other -/
def wAsN (K : PySem.W.Frag) (i : Nat) (Wout : WX) (D : Ends) : List Cl → WX
  | [] => Wout
  | (c, ts) :: r => fun cls d σ H => ∃ b, PySem.W.exmOne K cls c = some b ∧ (b = true → ∀ a, H a = none → ts a cls d (behind i D) (σ.set i (some (.ref a))) H) ∧ (b = false → wAsN K i Wout D r cls d σ H)
inductive HdsAs (X : Cx) (n : Str) : List ExceptHandler → List Cl → Prop
  | nil : HdsAs X n [] []
  | cons {x : Str} {c : Value} {ts : Addr → Value → Option Addr → TS} {b₀ : Stmt} {suite : List Stmt} {np pos' : Pos} {hds : List ExceptHandler} {l : List Cl} (hc : Names X x c)
      (hsu : ∀ (a : Addr) (oe : Obj) (cls : Value) (d : Option Addr) (pn : List (Addr × Obj)), Zc cls d oe → (∃ vs, oe.data = .fields vs) → PSs (X.suite a ((a, oe) :: pn)) (b₀ :: suite) (ts a cls d)) (r : HdsAs X n hds l) :
      HdsAs X n (.ExceptHandler (some (.Name x np)) (some n) (b₀ :: suite) pos' :: hds) ((c, ts) :: l)

section
variable {X : Cx} {n : Str} {i : Nat} {body : List Stmt} {h₀ : ExceptHandler} {hds : List ExceptHandler} {l : List Cl} {pos : Pos} {tb : WX → TS} {Wout : WX}
theorem ps_try_asN (hs : X.stack = X.env :: X.outer) (hf : X.env.frame = some X.env.locals) (hN : X.N.Nodup) (hi : X.N[i]? = some n) (hln : X.env.kindOf n = some .local) (tk : Takes X Wout)
    (hb : ∀ (W : WX) (pn : List (Addr × Obj)) (xe : Value → Shared → Prop), Takes (X.tr pn xe) W → PassesOwn (model X.prog X.w) X.A X.env xe → PSs (X.tr pn xe) body (tb W))
    (hh : HdsAs X n (h₀ :: hds) l) : PS X (.Try body (h₀ :: hds) [] [] pos) (fun D σ H => tb (wAsN X.K i Wout D l) D σ H) := by
  constructor
  intro pins s σ H D I h
  have ok := I.ok
  have frames : X.A.frames = some (X.env :: X.outer) := by rw [ok.frames, hs]
  apply wpAny_Try_except
  refine wpAny_mono ((hb (wAsN X.K i Wout D l) (X.pn ++ pins)
    (fun e s₁ => wpAny (model X.prog X.w) X.A (noteFrame e X.env) (fun _ s₂ => wpAny (model X.prog X.w) X.A (setFlight e none) (fun _ s₃ => wpAny (model X.prog X.w) X.A (handleBy e X.env (h₀ :: hds)) (SP X pins D) X.xe s₃) X.xe s₂) X.xe s₁)
    (fun u s' xx => ?_) PassesOwn.looking).run [] s σ H D (I.toTry _) h) ?_ fun _ _ z => z
  · obtain ⟨a, B, sI, pins', σ', H', cls, d, rfl, J', nb, up, sky, na, os, ag, w⟩ := xx
    have J : Inv X pins σ' H' sI := J'.ofTry ok
    have sky' : Sky B (X.env :: X.outer) a (Zc cls d) X.env.locals s'.heap := hs ▸ sky
    refine Sky.land Zc.steady frames hf sky' fun h3 fl3 up3 => ?_
    have J3 : Inv X pins σ' H' { s' with heap := h3 } := J.landed nb fl3.1 (up.trans up3) os ag
    obtain ⟨oe3, vs3, he3, hz3, hd3⟩ := fl3.there
    have nfr : a ∉ frs (X.env :: X.outer) := fun hm => by
      obtain ⟨_, o', e', hnf⟩ := fl3.2.2.1.mem hm
      rw [he3] at e'
      cases e'
      exact hnf _ hd3
    have nL : a ≠ X.env.locals := fun z => nfr (List.mem_filterMap.mpr ⟨X.env, List.mem_cons_self, by rw [hf, z]⟩)
    have nF : a ∉ X.fs := fun hm => by
      obtain ⟨e, he, q⟩ := List.mem_filterMap.mp hm
      exact nfr (List.mem_filterMap.mpr ⟨e, List.mem_cons_of_mem _ he, q⟩)
    have S3 := J3.suite he3 hd3 na nL nF
    have go : ∀ {hds' : List ExceptHandler} {l' : List Cl}, HdsAs X n hds' l' → wAsN X.K i Wout D l' cls d σ' H' →
        wpAny (model X.prog X.w) X.A (handleBy (.ref a) X.env hds') (SP X pins D) X.xe { s' with heap := h3 } := by
      intro hds' l' hk
      induction hk with
      | nil =>
        intro w
        apply wpAny_handleBy_nil
        obtain ⟨_, _, _, oe, vs, T, oT, ts', he, hz, hd, h1, hr⟩ := id fl3
        have fin : wpAny (model X.prog X.w) X.A (setFlight (.ref a) X.env.frame) (fun _ s4 => wpAny (model X.prog X.w) X.A (throw (.ref a) : Sem Flow) (SP X pins D) X.xe s4) X.xe { s' with heap := h3 } := by
          rw [hf]
          exact HandSPX.setFlight_upZ fl3 fun h4 hh4 up4 => wpAny_throw (tk _ _ ⟨a, B, sI, pins, σ', H', cls, d, rfl, J, nb, (up.trans up3).trans up4, .inr (.inr (by rw [hs]; exact hh4)), na, os, ag, w⟩)
        unfold PySem.passOn
        refine wpAny_bind (wpAny_field he hd h1 ?_)
        rw [if_neg (by simp)]
        first
          | exact wpAny_bind (wpAny_pure (wpAny_bind fin))
          | exact wpAny_bind fin
      | @cons x c ts b₀ suite np pos' hds2 l2 hc hsu r ih =>
        rintro ⟨b, hb1, hyes, hno⟩
        refine wpAny_handleBy_cons (codeAny_handlers_test ?_) (by intro q; cases q)
        have LT : PySem.W.Looks (model X.prog X.w) h3 (typeOf (.ref a)) cls := fun A Q E s k q => wpAny_typeOf_ref (k _ _ he3) (by rw [hz3.1]; exact q)
        have LM := PySem.W.exm_one (M := model X.prog X.w) (J3.kIn) LT hb1
        have test : ∀ {Q : Value → Shared → Prop} {E : Value → Shared → Prop}, Q c { s' with heap := h3 } →
            wpAny (model X.prog X.w) (X.A.mark (some (.ref a))) (eval (.Name x np) X.env) Q E { s' with heap := h3 } := by
          intro Q E q
          obtain ⟨hg, hdbg, hm | ⟨hm, hv, hnn⟩⟩ := hc
          · exact ld_glob (X := X.suite a ((a, oe3) :: (X.pn ++ pins))) S3 hg hm q hdbg
          · exact ld_blt (X := X.suite a ((a, oe3) :: (X.pn ++ pins))) S3 hg hm hv q hnn hdbg
        refine test (LM.here ?_)
        cases b with
        | false => exact ih (hno rfl)
        | true =>
          apply codeAny_handlers_suite_as
          refine HandSPX.lands_againZ fl3 fun h4 fl4 up4 => ?_
          have J4 : Inv X pins σ' H' { s' with heap := h4 } := J.landed nb fl4.1 ((up.trans up3).trans up4) os ag
          obtain ⟨oe4, vs4, he4, hz4, hd4⟩ := fl4.there
          have S4 := J4.suite he4 hd4 na nL nF
          refine store_ok (X := X.suite a ((a, oe4) :: (X.pn ++ pins))) (v := .ref a) S4 hN hi (.inl hln) rfl (fun s5 S5 => ?_) (.inr hln)
          refine wpAny_mono ((hsu a oe4 cls d (X.pn ++ pins) hz4 ⟨_, hd4⟩).run [] s5 _ H' _ S5 (hyes rfl a na)) (fun f s6 hsp => ?_) (fun _ _ z => False.elim z)
          have last : ∀ {σ6 : L2.St} {H6 : Hp} {Q : Shared → Prop}, Inv (X.suite a ((a, oe4) :: (X.pn ++ pins))) [] σ6 H6 s6 → (∀ s7, Inv X pins (σ6.set i none) H6 s7 → Q s7) →
              wpAny (model X.prog X.w) X.A (do bindName X.env n .none; unbindBehindTheSuite X.env n pos') (fun _ s7 => Q s7) X.xe s6 := fun S6 hq => gone_ok (S6.unsuite ok) hN hi hln hq
          match f, hsp with
          | .next, ⟨σ6, H6, S6, q6⟩ => exact last S6 fun s7 J7 => ⟨_, _, J7, q6⟩
          | .brk, ⟨σ6, H6, S6, q6⟩ => exact last S6 fun s7 J7 => ⟨_, _, J7, q6⟩
          | .cont, ⟨σ6, H6, S6, q6⟩ => exact last S6 fun s7 J7 => ⟨_, _, J7, q6⟩
          | .ret u, ⟨v6, σ6, H6, S6, r6, q6⟩ => exact last S6 fun s7 J7 => ⟨_, _, _, J7, r6, q6⟩
    exact go hh w
  · intro f s1 hsp
    match f, hsp with
    | .next, ⟨σ', H', J', q⟩ => exact wpAny_execs_nil ⟨σ', H', J'.ofTry ok, q⟩
    | .brk, ⟨σ', H', J', q⟩ => exact ⟨σ', H', J'.ofTry ok, q⟩
    | .cont, ⟨σ', H', J', q⟩ => exact ⟨σ', H', J'.ofTry ok, q⟩
    | .ret u, ⟨v, σ', H', J', r, q⟩ => exact ⟨v, σ', H', J'.ofTry ok, r, q⟩
end
end MV

set_option Elab.async false
set_option linter.all false
set_option maxRecDepth 100000
set_option maxHeartbeats 2000000
/-! MVS: the end of a law whose defs make lambdas: tables of code objects stand in the heap. -/
namespace MV
open PySem PySem.Spec PyProof.Rows L2 LamX

/-- nothing is tracked but the script and tables -/
structure OnlyT (K : PySem.W.Frag) (cs : List (Addr × Addr)) (H : Hp) : Prop where
  k : ∀ b u, H b = some u → K.lookup b = none
  u : ∀ b u, H b = some u → (∃ o xs, u = .frz o (.lst xs)) ∨ (u = .tbl #[] ∧ ∃ p ∈ cs, p.2 = b)

theorem law_coreT {P : Program} {w : World} {K : PySem.W.Frag} {mg mb : Str → Option Value} {k : Nat} {fa a : Addr} {fd : FuncData}
    {x : Str} {sp : Sp} {s₁ : Shared} {H : Hp} {CX : CXT} {cs : List (Addr × Addr)}
    (KX : K.In s₁.heap) (hns : s₁.heap.Ns mainGlobals mg) (hb : s₁.heap.Ns builtinsNs mb) (hbb : ∀ x : Str, x ≠ "__name__" → mb x = bootBuiltins x)
    (hlim : s₁.heap.NoLimit) (hg : s₁.gens = #[]) (hT : ∀ p ∈ cs, s₁.heap.get? p.2 = some { cls := .none, data := .fields #[] })
    (C : ∀ p ∈ cs, PySem.W.CodeHd s₁.heap p.1 p.2)
    (hbm : ∃ (bm : Addr) (ob : Obj), mg "__builtins__" = some (.ref bm) ∧ bm ≠ builtinsNs ∧ s₁.heap.get? bm = some ob ∧ ob.cls = .type "module" ∧ ob.dict = some builtinsNs ∧ ob.data = .plain)
    (hr : Room k callerA)
    (F : ∀ base : Heap, K.In base → base.Ns mainGlobals mg → (∀ p ∈ cs, TabB base mg p.1 p.2) → FnG P w K mg base CX k fa fd [x] sp)
    (hbind : ∀ (s : Shared) (u : Value), BindsTo s fd ⟨[u], []⟩ [(x, u)])
    (hsp : sp [.ref a] H (fun v _ => v = .bl true) fun _ _ _ => False)
    (hCX : ∀ e s', CX [] H s₁ (fun _ _ _ => False) e s' → False)
    (ok : HOk P w H s₁.heap) (only : OnlyT K cs H) :
    codeAny (model P w) callerA (.call (.ref fa) ⟨[.ref a], []⟩)
      (fun r s' => r = .ok (.ret (.bool true)) ∧ OldK s₁.heap s'.heap ∧ s'.os = s₁.os ∧ AllBare s'.gens) s₁ := by
  -- what is neither a list nor an empty table is not tracked
  have free : ∀ {b : Addr} {o : Obj}, s₁.heap.get? b = some o → (∀ vs n, o.data ≠ .seq vs n) → o.data ≠ .fields #[] → H b = none := by
    intro b o e n1 n2
    match q : H b with
    | none => rfl
    | some u =>
      rcases only.u b u q with ⟨ob, xs, rfl⟩ | ⟨rfl, p, hp, rfl⟩
      · obtain ⟨e2, _, its, n, _, e3⟩ := ok b _ q
        rw [e2] at e3
        cases e3
        rw [e2] at e
        cases e
        exact (n1 _ _ rfl).elim
      · rw [hT p hp] at e
        cases e
        exact (n2 rfl).elim
  have ns : ∀ {b : Addr} {m : Str → Option Value}, s₁.heap.Ns b m → (hidT s₁.heap H).Ns b m := by
    rintro b m ⟨o, es, ep, e, d, r⟩
    exact ⟨o, es, ep, hidT_get e (free e (fun _ _ z => by rw [d] at z; cases z) (fun z => by rw [d] at z; cases z)), d, r⟩
  have kin : K.In (hidT s₁.heap H) := by
    intro b o e
    refine hidT_get (KX b o e) ?_
    match q : H b with
    | none => rfl
    | some u => exact absurd e (by rw [only.k b u q]; simp)
  have TB : ∀ p ∈ cs, TabB (hidT s₁.heap H) mg p.1 p.2 := by
    intro p hp
    have here := hT p hp
    constructor
    · obtain ⟨o, us, file, tf, flags, tg, inF, text, tt, e1, r1, r2, r3, r⟩ := C p hp
      refine ⟨o, us, file, tf, flags, tg, inF, text, tt, hidT_get e1 (free e1 (fun _ _ z => by rw [r2] at z; cases z) (fun z => ?_)), r1, r2, r3, r⟩
      rw [r2] at z
      cases z
      simp at r3
    · obtain ⟨bm, ob, b1, b2, b3, b4, b5, b6⟩ := hbm
      refine ⟨bm, ob, b1, b2, ?_, ?_, hidT_get b3 (free b3 (fun _ _ z => by rw [b6] at z; cases z) (fun z => by rw [b6] at z; cases z)), b4, b5, b6⟩
      · rintro rfl
        obtain ⟨o, es, ep, e, hd, _⟩ := hns
        rw [e] at b3
        cases b3
        rw [hd] at b6
        cases b6
      · rintro rfl
        rw [here] at b3
        cases b3
        cases b6
    · intro z
      obtain ⟨o, es, ep, e, hd, _⟩ := hns
      rw [z, here] at e
      cases e
      cases hd
  obtain ⟨ml, l1, l2⟩ := hlim
  have e0 : Env0 P w K mg (hidT s₁.heap H) callerA [] s₁ H :=
    { frames := rfl
      mod := ⟨kin, ns hns, ⟨mb, ns hb, hbb⟩, ⟨ml, ns l1, l2⟩⟩
      bs := fun b o e => of_hidT e
      bsz := Nat.le_of_eq (hidT_size _ _)
      funs := trivial
      frf := fun b z => absurd z List.not_mem_nil
      hok := ok
      bare := .of_eq hg }
  refine codeAny_mono ((F _ kin (ns hns) TB).go callerA [] s₁ H _ [.ref a] [.ref a] _ _ hr rfl e0 (hbind s₁ (.ref a)) (.cons rfl .nil) hsp) ?_
  intro r s' h
  match r, h with
  | .error e, h => exact (hCX e s' h).elim
  | .ok (.ret u), h =>
    obtain ⟨v, H', os, bare, un, hok', rv, q⟩ := h
    have e1 : v = .bl true := q
    subst e1
    have e2 : u = Value.bool true := rv
    subst e2
    have old : ∀ b o, s₁.heap.get? b = some o → s'.heap.get? b = some o ∨ (∃ p ∈ cs, p.2 = b ∧ o = { cls := .none, data := .fields #[] } ∧ ∃ more : Array Value, s'.heap.get? b = some { cls := .none, data := .fields more }) := by
      intro b o e
      match q : H b with
      | none => exact .inl (un.keep b o e q List.not_mem_nil List.not_mem_nil)
      | some z =>
        rcases only.u b z q with ⟨ob, xs, rfl⟩ | ⟨rfl, p, hp, rfl⟩
        · have e3 := (ok b _ q).1
          rw [e] at e3
          cases e3
          exact .inl (hok' b _ (un.frzs b o _ q)).1
        · rw [hT p hp] at e
          cases e
          obtain ⟨more, z⟩ := un.tbls p.2 #[] q
          exact .inr ⟨p, hp, rfl, rfl, _, hok' p.2 _ z⟩
    refine ⟨rfl, ⟨fun b o e => ?_, fun b o e => ?_⟩, os, bare⟩
    · rcases old b o e with z | ⟨p, hp, rfl, rfl, more, z⟩
      · exact .inl z
      · exact .inr (.inl ⟨((C p hp).tab (hT p hp)).isCodeTable, rfl, #[], more, rfl, by rw [Array.empty_append]; exact z⟩)
    · rcases old b o e with z | ⟨p, hp, rfl, rfl, more, z⟩
      · exact ⟨_, z⟩
      · exact ⟨_, z⟩

/-- the heap of a law's start: the script, perhaps, and the tables -/
def startT (s : Option (Addr × HO)) (cs : List (Addr × Addr)) : Hp := fun b => if b ∈ cs.map (·.2) then some (.tbl #[]) else match s with | some (a, o) => if b = a then some o else none | none => none

theorem law_callT {P : Program} {w : World} {K : PySem.W.Frag} {mg mb : Str → Option Value} {k : Nat} {fa a : Addr} {fd : FuncData}
    {x : Str} {sp : Sp} {s₁ : Shared} {vs : List Value} {ns : List Int} {CX : CXT} {cs : List (Addr × Addr)}
    (KX : K.In s₁.heap) (hns : s₁.heap.Ns mainGlobals mg) (hb : s₁.heap.Ns builtinsNs mb) (hbb : ∀ x : Str, x ≠ "__name__" → mb x = bootBuiltins x)
    (hlim : s₁.heap.NoLimit) (hg : s₁.gens = #[]) (hT : ∀ p ∈ cs, s₁.heap.get? p.2 = some { cls := .none, data := .fields #[] }) (nT : ∀ p ∈ cs, K.lookup p.2 = none)
    (C : ∀ p ∈ cs, PySem.W.CodeHd s₁.heap p.1 p.2)
    (hbm : ∃ (bm : Addr) (ob : Obj), mg "__builtins__" = some (.ref bm) ∧ bm ≠ builtinsNs ∧ s₁.heap.get? bm = some ob ∧ ob.cls = .type "module" ∧ ob.dict = some builtinsNs ∧ ob.data = .plain)
    (ha : s₁.heap.get? a = some { cls := .type "list", data := .seq vs.toArray }) (hi : IntsAre vs ns) (hl : ns.length ≤ sizeLine) (hr : Room k callerA)
    (F : ∀ base : Heap, K.In base → base.Ns mainGlobals mg → (∀ p ∈ cs, TabB base mg p.1 p.2) → FnG P w K mg base CX k fa fd [x] sp)
    (hbind : ∀ (s : Shared) (u : Value), BindsTo s fd ⟨[u], []⟩ [(x, u)])
    (hsp : ∀ H : Hp, (∀ p ∈ cs, H p.2 = some (.tbl #[])) → SqL K H a (ns.map V.int) → sp [.ref a] H (fun v _ => v = .bl true) fun _ _ _ => False)
    (hCX : ∀ H e s', CX [] H s₁ (fun _ _ _ => False) e s' → False) :
    codeAny (model P w) callerA (.call (.ref fa) ⟨[.ref a], []⟩)
      (fun r s' => r = .ok (.ret (.bool true)) ∧ OldK s₁.heap s'.heap ∧ s'.os = s₁.os ∧ AllBare s'.gens) s₁ := by
  have rv := vals_ints hi
  have n1 := hi.length
  have mem : ∀ {b}, b ∈ cs.map (·.2) → ∃ p ∈ cs, p.2 = b := fun hb => List.mem_map.mp hb
  have atT : ∀ (z : Option (Addr × HO)) (p : Addr × Addr), p ∈ cs → startT z cs p.2 = some (.tbl #[]) := fun z p hp => if_pos (List.mem_map.mpr ⟨p, hp, rfl⟩)
  have aT : a ∉ cs.map (·.2) := fun z => by
    obtain ⟨p, hp, e⟩ := mem z
    have q := hT p hp
    rw [e, ha] at q
    cases q
  match hk : K.lookup a with
  | some o =>
    have e := (KX a o hk).symm.trans ha
    cases e
    have at_ : ∀ b u, startT none cs b = some u → u = .tbl #[] ∧ ∃ p ∈ cs, p.2 = b := fun b u z => by
      unfold startT at z
      split at z
      · rename_i hb
        cases z
        exact ⟨rfl, mem hb⟩
      · cases z
    refine law_coreT (H := startT none cs) KX hns hb hbb hlim hg hT C hbm hr F hbind (hsp _ (atT none) (.inr ⟨_, vs.toArray, _, hk, rfl, rfl, rfl, ?_, by simpa using rv⟩)) (hCX _) (fun b u z => ?_) ⟨fun b u z => ?_, fun b u z => .inr (at_ b u z)⟩
    · rw [List.size_toArray]
      omega
    · obtain ⟨rfl, p, hp, rfl⟩ := at_ b u z
      exact hT p hp
    · obtain ⟨rfl, p, hp, rfl⟩ := at_ b u z
      exact nT p hp
  | none =>
    have at_ : ∀ b u, startT (some (a, .frz { cls := .type "list", data := .seq vs.toArray } (.lst (ns.map V.int)))) cs b = some u →
        (b = a ∧ u = .frz { cls := .type "list", data := .seq vs.toArray } (.lst (ns.map V.int))) ∨ (u = .tbl #[] ∧ ∃ p ∈ cs, p.2 = b) := fun b u z => by
      unfold startT at z
      split at z
      · rename_i hb
        cases z
        exact .inr ⟨rfl, mem hb⟩
      · dsimp only at z
        split at z
        · rename_i hb
          cases z
          exact .inl ⟨hb, rfl⟩
        · cases z
    have ata : startT (some (a, .frz { cls := .type "list", data := .seq vs.toArray } (.lst (ns.map V.int)))) cs a = some (.frz { cls := .type "list", data := .seq vs.toArray } (.lst (ns.map V.int))) := by
      unfold startT
      rw [if_neg aT]
      exact if_pos rfl
    refine law_coreT (H := startT (some (a, .frz { cls := .type "list", data := .seq vs.toArray } (.lst (ns.map V.int)))) cs) KX hns hb hbb hlim hg hT C hbm hr F hbind
      (hsp _ (atT _) (.inl (.inr ⟨_, ata⟩))) (hCX _) (fun b u z => ?_) ⟨fun b u z => ?_, fun b u z => ?_⟩
    · rcases at_ b u z with ⟨rfl, rfl⟩ | ⟨rfl, p, hp, rfl⟩
      · exact ⟨ha, by rw [List.length_map]; exact hl, vs, _, rv, ha⟩
      · exact hT p hp
    · rcases at_ b u z with ⟨rfl, rfl⟩ | ⟨rfl, p, hp, rfl⟩
      · exact hk
      · exact nT p hp
    · rcases at_ b u z with ⟨rfl, rfl⟩ | h
      · exact .inl ⟨_, _, rfl⟩
      · exact .inr h

/-- what is known of the law's promise where tables stand -/
def LawT (l : PySem.W.OpenLaw) (w : World) (K : PySem.W.Frag) (CX : CXT) (k n : Nat) (x : Str) (mg : Str → Option Value) (fa : Addr) (h : Heap) : Prop :=
  ∃ (fd : FuncData) (cs : List (Addr × Addr)) (sp : Sp), (∀ p ∈ cs, h.get? p.2 = some { cls := .none, data := .fields #[] }) ∧ (∀ p ∈ cs, K.lookup p.2 = none) ∧ (∀ p ∈ cs, PySem.W.CodeHd h p.1 p.2) ∧
    (∀ (s : Shared) (u : Value), BindsTo s fd ⟨[u], []⟩ [(x, u)]) ∧
    (∀ (H : Hp) (a : Addr) (ns : List Int), ns.length ≤ n → (∀ p ∈ cs, H p.2 = some (.tbl #[])) → SqL K H a (ns.map V.int) → sp [.ref a] H (fun v _ => v = .bl true) fun _ _ _ => False) ∧
    ∀ base : Heap, K.In base → base.Ns mainGlobals mg → (∀ p ∈ cs, TabB base mg p.1 p.2) → FnG l.prog w K mg base CX k fa fd [x] sp

/-- the law's row from the promise of its def, the tables of all defs of the text being known to be empty at the start -/
theorem walkT {l : PySem.W.OpenLaw} {n k : Nat} {q : Program} {loose : List Str} {XP : (Str → Option Value) → Heap → Prop} {YP : World → Heap → Prop}
    {d : DefRec} {K : Params → PySem.W.Frag} {CX : World → CXT} {x : Str}
    (hn : l.most = some n) (hn2 : n ≤ sizeLine) (hdf : d.params.defaults = []) (hr : Room k callerA)
    (hY : ∀ (w : World) (h : Heap), YP w h → (K w.params).In h)
    (F : ∀ (w : World) (mg : Str → Option Value) (fa : Addr) (h : Heap), (K w.params).In h → h.Ns mainGlobals mg → mg d.name = some (.ref fa) →
      (∀ (y : Str) (fy : Addr), ((recsOf q).any fun e => e.name == y) = true → mg y = some (.ref fy) → OwnTab (K w.params) fy h) → LawT l w (K w.params) (CX w) k n x mg fa h)
    (hCX : ∀ (w : World) (H : Hp) (s : Shared) (e : Value) (s' : Shared), CX w [] H s (fun _ _ _ => False) e s' → False) :
    PySem.W.WalkO q loose XP YP l.row.toRowW d [] (fun f vs => PySem.call f vs) := by
  refine Att.attach_callB hn hdf ?_
  intro w s₀ s₁ mg mb fa o pm cd doc a vs ns G Y ho hd hcd hmg hobj hints hlen hbits hg
  have KX := hY w _ Y
  have tabs : ∀ (y : Str) (fy : Addr), ((recsOf q).any fun e => e.name == y) = true → mg y = some (.ref fy) → OwnTab (K w.params) fy s₁.heap := by
    intro y fy hy hm c P o1 fd1 e dd vs1 sl k1 k2 k3 k4 k5
    obtain ⟨dL, hdL, hn1⟩ := List.any_eq_true.mp hy
    obtain ⟨a', o', fd', c', P', h1, h2, h3, h4, h5, h6⟩ := G.T.tab dL hdL
    rw [show dL.name = y from beq_iff_eq.mp hn1, hm] at h1
    cases h1
    have g1 := KX _ _ k1
    rw [g1] at h2
    cases h2
    rw [k2] at h3
    cases h3
    rw [k3] at h4
    cases h4
    obtain ⟨⟨oc, vc, e1, _, e3, e4⟩, hP⟩ := h6
    have g2 := KX _ _ k4
    rw [g2] at e1
    cases e1
    cases e3
    rw [k5] at e4
    cases e4
    exact hP
  obtain ⟨fd, cs, sp, hT, nT, C, hb, hsp, hF⟩ := F w mg fa _ KX G.T.g hmg tabs
  exact law_callT KX G.T.g G.T.b G.T.builtins G.T.nolimit hg hT nT C G.T.bmain hobj hints (Nat.le_trans hlen hn2) hr hF hb
    (fun H hH hS => hsp H a ns hlen hH hS) fun H e s' => hCX w H s₁ e s'
end MV

set_option Elab.async false
set_option linter.all false
set_option maxRecDepth 100000
set_option maxHeartbeats 2000000
/-! MVT: in an except suite: isinstance of the caught error, which keeps a field. -/
namespace MV
open PySem PySem.Spec PyProof.Rows L2

/-- isinstance(e, c), e the exception that the suite holds, of the class D, its dict at d -/
def rIsX (K : PySem.W.Frag) (D a d : Addr) : List V → Hp → VK → Prop := fun xs H Q =>
  ∃ (c : V) (cv : Value) (b : Bool) (fs : List (Str × V)), xs = [.ref a, c] ∧ (∀ u, RelV c u → u = cv) ∧ PySem.W.kitOne K (.ref D) cv = some b ∧ H d = some (.xd fs) ∧ Q (.bl b) H
theorem call_isX {X : Cx} {a D d : Addr} {oe : Obj} {pn : List (Addr × Obj)} (C : ExcC X.K D) (hz : Zc (.ref D) (some d) oe) (hf : ∃ vs, oe.data = .fields vs) :
    CallR (X.suite a ((a, oe) :: pn)) (.builtin "isinstance") (rIsX X.K D a d) := by
  rintro pins s σ H xs us Q I r ⟨c, cv, b, fs, rfl, hcv, e, ed, q⟩
  match r with
  | .cons rx (.cons rt .nil) =>
    cases rx
    have ec := hcv _ rt
    subst ec
    obtain ⟨hget, _⟩ := I.pin (a, oe) (List.mem_append.mpr (.inl List.mem_cons_self))
    obtain ⟨vs, hv⟩ := hf
    have hx : ObjOk X.prog X.w H s.heap d (.xd fs) := I.hok d _ ed
    obtain ⟨mA, hns, hr⟩ := hx
    obtain ⟨od, ho, hl⟩ := lookIn_ns hns
    have J : PySem.W.InstAt s.heap a oe D (some od) := ⟨hget, hz.1, by unfold PySem.W.notCls; rw [hv] <;> rfl, by rw [hz.2]; exact ho⟩
    obtain ⟨cd, hcd, _⟩ := PySem.W.any_some C.hd
    exact PySem.W.kia_one (PySem.W.kitx_exc (by rw [hcd]; rfl) C.hg C.hk C.hs C.ha C.hn C.ht C.hm) I.kIn J e (fun z => nomatch z) fun tk => ⟨.bl b, H, I.kept (t' := tk) fun _ _ z => z, rfl, q⟩

/-- .. where the class and the dict are told by the reading -/
def rIsY (K : PySem.W.Frag) (D a : Addr) (cls : Value) (d : Option Addr) : List V → Hp → VK → Prop := fun xs H Q => ∃ dd, cls = .ref D ∧ d = some dd ∧ rIsX K D a dd xs H Q
theorem call_isY {X : Cx} {a D : Addr} {cls : Value} {d : Option Addr} {oe : Obj} {pn : List (Addr × Obj)} (C : ExcC X.K D) (hz : Zc cls d oe) (hf : ∃ vs, oe.data = .fields vs) :
    CallR (X.suite a ((a, oe) :: pn)) (.builtin "isinstance") (rIsY X.K D a cls d) := by
  rintro pins s σ H xs us Q I r ⟨dd, rfl, rfl, h⟩
  exact call_isX C hz hf pins s σ H xs us Q I r h
end MV

set_option Elab.async false
set_option linter.all false
set_option maxRecDepth 100000
set_option maxHeartbeats 2000000
/-! MVU: defs that let exceptions out. -/
namespace MV
open PySem PySem.Spec PyProof.Rows L2
section
variable {P : Program} {w : World} {K : PySem.W.Frag} {mg : Str → Option Value} {base : Heap} {N : List Str} {qual : Str} {scope : Scope} {f : Addr} {cd : Value} {A : Around} {outer : List Env} {s : Shared} {H : Hp} {E : XK}
theorem takes_cx : Takes (cxOf (L2.CX P w) P w K mg base N qual scope f cd A outer s H E) (fun cls d _ H' => E cls d H') :=
  takes_of rfl rfl rfl rfl
/-- what a callee lets out, the def lets out -/
theorem passX : Passes (L2.CX P w) (cxOf (L2.CX P w) P w K mg base N qual scope f cd A outer s H E) E :=
  passes_call takes_cx fun _ _ _ _ h => h
end
section
variable {X : Cx} {W : WX} {E : XK}
/-- .. within the body of a try -/
theorem passT (tk : Takes X W) (h : ∀ cls d σ H, E cls d H → W cls d σ H) : Passes (L2.CX X.prog X.w) X E := passes_call tk h
end

/-- what is taken is taken of frames with all their slots -/
theorem takes_len {X : Cx} {W : WX} (tk : Takes X W) : Takes X (fun cls d σ H => σ.length = X.N.length → W cls d σ H) :=
  fun u s' ⟨a, B, sI, pins, σ, H, cls, d, e, I, nb, up, sky, na, os, ag, w⟩ => tk u s' ⟨a, B, sI, pins, σ, H, cls, d, e, I, nb, up, sky, na, os, ag, w I.len⟩

/-- try: a() / except C as e: .. / rest: what it makes of the lambda's reading -/
def TTas (K : PySem.W.Frag) (Ng : List Str) (i : Nat) (l : List Cl) (tr : TS) : (XK → Hp → VK → Prop) → Hp → VK → Prop := fun tl H Q => ∀ f : Addr,
  tl (fun cls d H' => ∀ σ' : L2.St, σ'.length = Ng.length → wAsN K i (fun _ _ _ _ => False) { nx := tr { nx := fun _ H' => Q .non H', rt := Q }, rt := Q } l cls d σ' H') H
    (fun _ H' => tr { nx := fun _ H' => Q .non H', rt := Q } (L2.start Ng [.ref f]) H')
theorem gives_as {X : Cx} {Ng : List Str} {x a n q : Str} {sg : Scope} {g : Addr} {cdg : Value} {i : Nat} {l : List Cl} {tr : TS} {h₀ : ExceptHandler} {hds : List ExceptHandler} {rest : List Stmt} {p1 p2 p3 p4 : Pos}
    (nd : Ng.Nodup) (hi : Ng[i]? = some n) (hln : sg.names.lookup n = some .local) (h0 : ∀ f : Addr, (L2.start Ng [V.ref f])[0]? = some (some (V.ref f)))
    (hh : ∀ (s : Shared) (H : Hp), HdsAs (cxOf C8.CX0 X.prog X.w X.K X.mg X.base Ng x sg g cdg X.A X.stack s H C8.E0).nox n (h₀ :: hds) l)
    (hr : ∀ (s : Shared) (H : Hp), PSs (cxOf C8.CX0 X.prog X.w X.K X.mg X.base Ng x sg g cdg X.A X.stack s H C8.E0).nox rest tr) :
    LamX.GivesTo X Ng x sg g cdg (.Try [.Expr (.Call (.Name a p1) [] [] p2) p3] (h₀ :: hds) [] [] p4 :: rest) a q (TTas X.K Ng i l tr) := by
  intro f c' s H Q tl act hc h
  refine ⟨_, pss_cons (ps_try_asN (X := (cxOf C8.CX0 X.prog X.w X.K X.mg X.base Ng x sg g cdg X.A X.stack s H C8.E0).nox) (n := n) (i := i) (l := l)
      (tb := fun W D σ H => ∃ Ech : XK, (∀ cls d σ' H', Ech cls d H' → σ'.length = Ng.length → W cls d σ' H') ∧ σ[0]? = some (some (.ref f)) ∧ H c' = some (LamX.CodeO c' q) ∧ tl Ech H (fun _ H' => D.nx σ H'))
      rfl rfl nd hi hln takes_none5 (fun W pn xe tk _ => ?_) (hh s H)) (hr s H), ?_⟩
  · refine ⟨fun pins s' σ H' D I h' => ?_⟩
    obtain ⟨Ech, hW, h1, h2, h3⟩ := h'
    have hp := act _ pn xe Ech p1 p2 (takes_len tk) (fun cls d σ' H' e => hW cls d σ' H' e)
    exact (pss_one (ps_expr (pos := p3) hp)).run pins s' σ H' D I ⟨h1, h2, h3⟩
  · exact ⟨fun cls d H' => ∀ σ' : L2.St, σ'.length = Ng.length → wAsN X.K i (fun _ _ _ _ => False) { nx := tr { nx := fun _ H' => Q .non H', rt := Q }, rt := Q } l cls d σ' H', fun cls d σ' H' e hl => e σ' hl, h0 f, hc, h f⟩
end MV

set_option Elab.async false
set_option linter.all false
set_option maxRecDepth 100000
set_option maxHeartbeats 2000000
/-! MVV: a def whose code object is known (its lambdas lie in that one's table). -/
namespace MV
open PySem PySem.Spec PyProof.Rows L2
section
variable {P : Program} {w : World} {K : PySem.W.Frag} {mg : Str → Option Value} {base : Heap} {CX : CXT} {k : Nat} {f : Addr} {fd : FuncData} {ps : List Str} {sp : Sp}
/-- as Fun, the code object at c -/
structure FunC (K : PySem.W.Frag) (x qual : Str) (st : Stmt) (f : Addr) (fd : FuncData) (c : Addr) : Prop where
  ex : ∃ (oc : Value) (od : Option Addr) (kV doc pm : Value) (an : Option Addr) (ct : Value) (osl : Array (Option Value)),
    fd = PySem.W.fnOf x qual (defArgs st) (defBody st) (defScope st) .none kV doc pm an (.ref c) ct ∧ K.lookup f = some ⟨oc, od, .func fd, osl⟩ ∧ PySem.W.codeIn K (.ref c) qual = true
theorem FunC.g {x qual : Str} {st : Stmt} {N : List Str} {c : Addr} (F : FunC K x qual st f fd c) (S : FnScope N ps (defScope st))
    (ln : ∀ vs H Q E, sp vs H Q E → vs.length = ps.length)
    (hb : ∀ (A : Around) (outer : List Env) (s : Shared) (H : Hp) (vs : List V) (Q : VK) (E : XK),
      Room k (A.deeper (envOfC qual (defScope st) s.heap.objs.size f (.ref c))) →
      (A.deeper (envOfC qual (defScope st) s.heap.objs.size f (.ref c))).guards = some [] → sp vs H Q E →
      ∃ t, PSs (cxOf CX P w K mg base N qual (defScope st) f (.ref c) A outer s H E) (defBody st) t ∧
        t { nx := fun _ H' => Q .non H', rt := Q } (start N vs) H) :
    FnG P w K mg base CX (k + 1) f fd ps sp := by
  obtain ⟨oc, od, kV, doc, pm, an, ct, osl, rfl, lk, hcd⟩ := F.ex
  exact fng_of lk hcd S ln hb
theorem code_row {c Pt : Addr} (h : PySem.W.codeHdIn K c Pt = true) : ∃ (e : Value) (dd : Option Addr) (vs : Array Value) (sl : Array (Option Value)), K.lookup c = some ⟨e, dd, .fields vs, sl⟩ ∧ vs[11]? = some (.ref Pt) := by
  unfold PySem.W.codeHdIn at h
  split at h
  · rename_i dd vs n sl e
    simp only [Bool.and_eq_true] at h
    obtain ⟨⟨⟨⟨⟨h1, _⟩, _⟩, _⟩, _⟩, _⟩ := h
    split at h1
    · rename_i P' e2
      rw [beq_iff_eq.mp h1] at e2
      exact ⟨_, _, _, _, e, e2⟩
    · cases h1
  · cases h
theorem own_tab {x qual : Str} {st : Stmt} {c Pt : Addr} {h : Heap} (O : LamX.OwnTab K f h) (F : FunC K x qual st f fd c) (ch : PySem.W.codeHdIn K c Pt = true) : h.get? Pt = some { cls := .none, data := .fields #[] } := by
  obtain ⟨oc, od, kV, doc, pm, an, ct, osl, rfl, lk, hcd⟩ := F.ex
  obtain ⟨e, dd, vs, sl, e1, e2⟩ := code_row ch
  exact O c Pt _ _ e dd vs sl lk rfl rfl e1 e2
/-- what a law's end wants, from the facts of the text: one table -/
theorem lawT_one {l : PySem.W.OpenLaw} {n : Nat} {fa c Pt : Addr} {x qual y : Str} {st : Stmt} {h : Heap} (X : K.In h) (O : LamX.OwnTab K fa h) (F : FunC K x qual st fa fd c) (ch : PySem.W.codeHdIn K c Pt = true) (nP : K.lookup Pt = none)
    (hb : ∀ (s : Shared) (u : Value), BindsTo s fd ⟨[u], []⟩ [(y, u)])
    (hsp : ∀ (H : Hp) (a : Addr) (ns : List Int), ns.length ≤ n → H Pt = some (.tbl #[]) → SqL K H a (ns.map V.int) → sp [.ref a] H (fun v _ => v = .bl true) fun _ _ _ => False)
    (hF : ∀ base : Heap, LamX.TabB base mg c Pt → FnG l.prog w K mg base CX k fa fd [y] sp) : LawT l w K CX k n y mg fa h :=
  ⟨fd, [(c, Pt)], sp, fun p hp => by rw [List.mem_singleton.mp hp]; exact own_tab O F ch, fun p hp => by rw [List.mem_singleton.mp hp]; exact nP,
    fun p hp => by rw [List.mem_singleton.mp hp]; exact PySem.W.codeHd_of_K X ch, hb, fun H a ns hl hH hS => hsp H a ns hl (hH _ List.mem_cons_self) hS,
    fun base _ _ hT => hF base (hT _ List.mem_cons_self)⟩
end
section
variable {X : Cx} {A : Around} {outer : List Env} {s : Shared} {H : Hp} {E : XK} {scope : Scope} {f c' : Addr}
/-- what a lambda's body lets out -/
theorem passLam : Passes (L2.CX X.prog X.w) (LamX.lamCx X A outer s H E scope f c') E :=
  passes_call (W := fun cls d _ H' => E cls d H') (takes_of rfl rfl rfl rfl) fun _ _ _ _ h => h
end
end MV

set_option Elab.async false
set_option linter.all false
set_option maxRecDepth 100000
set_option maxHeartbeats 2000000
/-! MVW: loops and comprehensions over any walk; enumerate over a list or a tuple; a text repeated; C(k = v). -/
namespace PySem
open Sem (wp)
open Builtin Builtin.Str
/-- enumerate of a tuple -/
theorem mv_meets_enumerate_tup (l : Addr) (items : Array Value) (n : Nat) (od : Option Addr) (sl : Array (Option Value)) :
    Meets (Builtin.«enumerate.__new__» ⟨[.type "enumerate", .ref l], []⟩) (fun _ R s => s.heap.get? l = some { cls := .type "tuple", dict := od, data := .seq items n, slots := sl } ∧
      R (.ok (.ret (.ref (s.heap.push { cls := .type "tuple_iterator", data := .fields #[.ref l, .int 0 0] }).objs.size)))
        { s with heap := (s.heap.push { cls := .type "tuple_iterator", data := .fields #[.ref l, .int 0 0] }).push { cls := .type "enumerate", data := .fields #[.none, .bool false, .ref s.heap.objs.size, rawInt 0, .none, .none] } }) :=
  .of_wp fun prog w A R s h => by
    obtain ⟨hp, g, d, tk, os⟩ := s; obtain ⟨hl, h⟩ := h
    have hsub := sub_enumerate
    have hL : Heap.IsTuple (Shared.heap ⟨hp, g, d, tk, os⟩) l items := ⟨_, hl, rfl, n, rfl⟩
    wp_walk using wpAny_loadPart' hl
    refine wpAny_stack_any fun st => wpAny_pure ?_
    split
    · rename_i c _ _ _ _ _
      cases (c == Value.type "enumerate")
      · wp_walk using wpAny_loadPart' hl, wpAny_pyIter_tuple hL
        exact ⟨_, rfl, h⟩
      · wp_walk using wpAny_loadPart' hl, wpAny_pyIter_tuple hL
        exact ⟨_, rfl, h⟩
    · wp_walk using wpAny_loadPart' hl, wpAny_pyIter_tuple hL
      exact ⟨_, rfl, h⟩
section
variable {prog : Program} {w : World} {A : Around} {E : Value → Shared → Prop} {s : Shared}
theorem mv_call_enumerate_tup {l : Addr} {items : Array Value} {Q : Value → Shared → Prop} (hL : s.heap.IsTuple l items)
    (h : ∀ h', IsEnum h' (s.heap.objs.size + 1) s.heap.objs.size 0 .none → h'.IsTupleIter s.heap.objs.size l 0 → h'.objs.size = s.heap.objs.size + 2 →
      (∀ b o, s.heap.get? b = some o → h'.get? b = some o) → Q (.ref (s.heap.objs.size + 1)) { s with heap := h' }) :
    wpAny (model prog w) A (call (.type "enumerate") [.ref l]) Q E s := by
  obtain ⟨⟨c, dct, dt, sl⟩, hl, hc, n, hd⟩ := hL
  replace hc : c = .type "tuple" := hc
  replace hd : dt = .seq items n := hd
  subst hc hd
  refine callType_new F.called_enumerate (by decide) (F.typeCall_enumerate_1 _) (F.newCall_enumerate_1 _) (fun obj => F.args_object_init_2 obj _) F.entry_enumerate_new
    (mv_meets_enumerate_tup l items n dct sl) ⟨hl, ?_⟩
  have hz : (s.heap.push { cls := .type "tuple_iterator", data := .fields #[.ref l, .int 0 0] }).objs.size = s.heap.objs.size + 1 := Heap.size_push ..
  show _ ∧ _
  rw [hz]
  have he : IsEnum ((s.heap.push { cls := .type "tuple_iterator", data := .fields #[.ref l, .int 0 0] }).push
      { cls := .type "enumerate", data := .fields #[.none, .bool false, .ref s.heap.objs.size, rawInt 0, .none, .none] }) (s.heap.objs.size + 1) s.heap.objs.size 0 .none := by
    have := Heap.get?_push_size (s.heap.push { cls := .type "tuple_iterator", data := .fields #[.ref l, .int 0 0] })
      (o := { cls := .type "enumerate", data := .fields #[.none, .bool false, .ref s.heap.objs.size, rawInt 0, .none, .none] }) rfl
    rw [hz] at this; exact this
  refine ⟨⟨_, he, rfl⟩, h _ he ⟨_, Heap.get?_push_of_some _ (Heap.get?_push_size _ rfl), rfl, rfl⟩ (by rw [Heap.size_push, hz]) fun b o x => Heap.get?_push_of_some _ (Heap.get?_push_of_some _ x)⟩
end
end PySem
namespace MV
open PySem PySem.Spec PySem.Calls PyProof.Rows L2
/-! ### enumerate -/
def IteT (K : PySem.W.Frag) (a : Addr) : It :=
  ⟨fun i H => ∃ (xs : List V) (x : V), SqT K H a xs ∧ xs[i]? = some x, fun i H v H' => ∃ T x, v = .ref T ∧ H T = none ∧ H' = upd H T (.tup [.int (i : Nat), x]) ∧ ∀ xs, SqT K H a xs → xs[i]? = some x, fun i H => ∃ xs : List V, SqT K H a xs ∧ xs.length ≤ i⟩
theorem turn_enumT {P : Program} {w : World} {K : PySem.W.Frag} {elts : List Expr} {kk : Nat} {tpos : Pos} (a e it : Addr) :
    Turn P w K (.Tuple elts kk tpos) (IteT K a) [e, it] e (fun i h => (∃ old, IsEnum h e it ((i : Nat) : Int) old) ∧ h.IsTupleIter it a i ∧ e ≠ it) where
  mem := by simp
  obj := fun i h st b hb => by
    obtain ⟨⟨old, he⟩, ⟨o, ho, hc, hd⟩, _⟩ := st
    have e' : b = e ∨ b = it := by simpa using hb
    rcases e' with z | z
    · rw [z]; exact ⟨_, he, fun v q => nomatch q⟩
    · rw [z]; exact ⟨o, ho, fun v q => by rw [hd] at q; cases q⟩
  keep := fun i h h' st k => let ⟨⟨old, he⟩, hi, hne⟩ := st; ⟨⟨old, k e (by simp) _ he⟩, hi.at fun o q => k it (by simp) o q, hne⟩
  item := by
    intro X hP hw hK hc i pins s σ H E I hf st hg
    subst hP hw hK
    obtain ⟨⟨old, he⟩, hit, hne⟩ := st
    obtain ⟨xs, x, hq, hx⟩ := hg
    obtain ⟨its, rv, p, hz⟩ := I.tuple hq
    have pT : s.heap.IsTuple a its.toArray := p
    obtain ⟨u, hu, ru⟩ := rv.get hx
    have hel : e < s.heap.objs.size := Heap.lt_size he
    have hil : it < s.heap.objs.size := by obtain ⟨_, q, _⟩ := hit; exact Heap.lt_size q
    have hai : a ≠ it := by
      obtain ⟨o, e1, c1, _⟩ := pT
      obtain ⟨o', e2, c2, _⟩ := hit
      rintro rfl
      rw [e1] at e2
      cases e2
      rw [c1] at c2
      exact absurd (Value.type.inj c2) (by decide)
    have hea : e ≠ a := by
      obtain ⟨o, e1, c1, _⟩ := pT
      rintro rfl
      have he' := he
      unfold IsEnum at he'
      rw [e1] at he'
      cases he'
      exact absurd (Value.type.inj c1) (by decide)
    have hin : i < its.toArray.size := by
      have := (List.getElem?_eq_some_iff.mp hu).1
      simpa using this
    refine wpAny_pyNext_enum_itemD (Draws.tuple (A := X.A.in1) (I.ok.hd hc) it a hai its.toArray) he ⟨hit, pT⟩ hin hne (by simp [hne, hea]) fun v h' tk hv ho hst hT hsz hk => ?_
    have ev : v = u := by
      have e1 : its[i]? = some v := by simpa using hv
      rw [hu] at e1
      exact (Option.some.inj e1).symm
    subst ev
    obtain ⟨hit', _⟩ := hst
    refine ⟨_, rfl, wpAny_letOwnedTupleGo_enum (s := { s with heap := h', toks := tk + 1 }) ho fun h'' he' sb => ?_⟩
    have hT2 : h''.get? s.heap.objs.size = some { cls := .type "tuple", data := .seq #[.int i tk, v] } := (sb.2 _ (Nat.ne_of_gt hel)).trans hT
    have new : ObjOk X.prog X.w (upd H s.heap.objs.size (.tup [.int (i : Nat), x])) h'' s.heap.objs.size (.tup [.int (i : Nat), x]) :=
      ⟨by show 2 ≤ sizeLine; decide, [.int i tk, v], .cons ⟨_, rfl⟩ (.cons ru .nil), ⟨_, hT2, rfl, _, rfl⟩⟩
    have I1 : Inv X pins σ (upd H s.heap.objs.size (.tup [.int (i : Nat), x])) { s with heap := h'', toks := tk + 1 } :=
      I.turnedNew (ch := [e, it]) (fun b ob hb q => (sb.2 b (fun z => hb (by simp [z]))).trans (hk b ob (fun z => hb (by simp [z])) (fun z => hb (by simp [z])) q)) hf (Nat.le_refl _) new
    refine ⟨.ref s.heap.objs.size, _, I1, rfl, ⟨_, x, rfl, I.hok.fresh (Nat.le_refl _), rfl, fun ys hy => by rw [I.tuple_inj hy hq]; exact hx⟩, ⟨⟨v, ?_⟩, hit'.at fun o q => (sb.2 it (Ne.symm hne)).trans q, hne⟩, fun b hb => ?_⟩
    · have e1 : ((i + 1 : Nat) : Int) = (i : Int) + 1 := by omega
      rw [e1]; exact he'
    · have hb' : b < s.heap.objs.size := by
        have e' : b = e ∨ b = it := by simpa using hb
        rcases e' with z | z
        · rw [z]; exact hel
        · rw [z]; exact hil
      rw [upd_ne (Nat.ne_of_lt hb')]
      exact (hf b hb).1
  done := by
    intro X hP hw hK hc i pins s σ H E I hf st hg
    subst hP hw hK
    obtain ⟨⟨old, he⟩, hit, hne⟩ := st
    obtain ⟨xs, hq, hx⟩ := hg
    obtain ⟨its, rv, p, hz⟩ := I.tuple hq
    have pT : s.heap.IsTuple a its.toArray := p
    obtain ⟨f0, f1, f2, f3, f4, f5⟩ := hf it (by simp)
    have hl := rv.length
    have hai : a ≠ it := by
      obtain ⟨o, e1, c1, _⟩ := pT
      obtain ⟨o', e2, c2, _⟩ := hit
      rintro rfl
      rw [e1] at e2
      cases e2
      rw [c1] at c2
      exact absurd (Value.type.inj c2) (by decide)
    have hnone : its.toArray[i]? = none := by
      have : its[i]? = none := List.getElem?_eq_none_iff.mpr (by omega)
      simpa using this
    have hT : s.TypeIs (.ref e) "enumerate" := ⟨_, he, rfl⟩
    unfold pyNext
    refine wpAny_bind (wpAny_attempt (wpAny_callSpecial?_slot (name := Str.ofString "__next__") hT F.slot_enumerate_next
      (wpAny_call_entry F.slot_enumerate_next hT F.entry_enumerate_next ?_ (F.args_enumerate_next_1 _))))
    show wpAny _ _ (field (.ref e) 2 >>= _) _ _ _
    refine wpAny_bind (wpAny_field he rfl (x := .ref it) rfl ?_)
    refine wpAny_bind (wpAny_nextOf_tuple_end (A := X.A.in1) (I.ok.hd hc) hit pT hnone fun h' x eb hx' => ?_)
    obtain ⟨o, ho, hc'⟩ := hx'
    refine wpAny_bind (wpAny_isInstance (T := "StopIteration") (b := true) ⟨o, ho, hc'⟩ isSubtype_stop ?_)
    exact wpAny_pure ⟨rfl, I.turned (t' := s.toks) (fun b o hb q => eb b o hb q) f0 f1 f3 f4 f5⟩
  self := fun A i s Q E st h => let ⟨⟨_, he⟩, _⟩ := st; wpAny_pyIter_enum he h
/-- enumerate(x), x a list or a tuple -/
def iEnumA (K : PySem.W.Frag) (ta : TA) : TI := fun σ H R => ta σ H fun vs H1 => ∃ a xs, vs = [.ref a] ∧ ((SqL K H1 a xs ∧ R (Ite K a) H1) ∨ (SqT K H1 a xs ∧ R (IteT K a) H1))
theorem pi_enumA {X : Cx} {e : Expr} {ta : TA} {p pos tpos : Pos} {elts : List Expr} {kk : Nat} (hg : Gl X "enumerate") (hm : X.mg "enumerate" = none) (ha : PA X [e] ta) (hs : starEach [e] X.env = [(false, eval e X.env)] := by rfl) :
    PI X (.Tuple elts kk tpos) (.Call (.Name "enumerate" p) [e] [] pos) (iEnumA X.K ta) := by
  refine ⟨fun pins s σ H R I h => ?_⟩
  refine Call_ (ld_blt I hg hm boot_enumerate (PyProof.Rows.callWith_type1 (thn (ha.run pos pins s σ H _ I h) fun us s1 ⟨vs, H1, I1, r1, q1⟩ => ?_) hs rfl))
  obtain ⟨a, xs, ex, q⟩ := q1
  subst ex
  cases r1 with
  | cons r rr =>
    cases rr
    cases r
    have fp : ∀ b ∈ [s1.heap.objs.size + 1, s1.heap.objs.size], s1.heap.objs.size ≤ b := fun b hb => by
      have e' : b = s1.heap.objs.size + 1 ∨ b = s1.heap.objs.size := by simpa using hb
      rcases e' with z | z
      · rw [z]; exact Nat.le_add_right _ _
      · rw [z]; exact Nat.le_refl _
    rcases q with ⟨hq, q⟩ | ⟨hq, q⟩
    · obtain ⟨its, rv, p', hz⟩ := I1.list hq
      refine call_enumerate_list p'.isList fun h' he hit hsz hk => wpAny_pyIter_enum he ?_
      have I2 : Inv X pins σ H1 { s1 with heap := h' } := I1.kept (t' := s1.toks) hk
      exact ⟨s1.heap.objs.size + 1, [s1.heap.objs.size + 1, s1.heap.objs.size], _, _, H1, rfl, I2, turn_enum a (s1.heap.objs.size + 1) s1.heap.objs.size, ⟨⟨.none, he⟩, hit, Nat.succ_ne_self _⟩, fun b hb => I1.fpOk (fp b hb) (I1.hok.fresh (fp b hb)), q⟩
    · obtain ⟨its, rv, p', hz⟩ := I1.tuple hq
      have pT : s1.heap.IsTuple a its.toArray := p'
      refine mv_call_enumerate_tup pT fun h' he hit hsz hk => wpAny_pyIter_enum he ?_
      have I2 : Inv X pins σ H1 { s1 with heap := h' } := I1.kept (t' := s1.toks) hk
      exact ⟨s1.heap.objs.size + 1, [s1.heap.objs.size + 1, s1.heap.objs.size], _, _, H1, rfl, I2, turn_enumT a (s1.heap.objs.size + 1) s1.heap.objs.size, ⟨⟨.none, he⟩, hit, Nat.succ_ne_self _⟩, fun b hb => I1.fpOk (fp b hb) (I1.hok.fresh (fp b hb)), q⟩
theorem walk_enumT {K : PySem.W.Frag} {a : Addr} {xs : List V} : Walk (IteT K a) xs.length (fun H => SqT K H a xs) (YPair (fun i => some (.int (i : Nat))) (fun i => xs[i]?)) := by
  refine ⟨fun i _ hi q => ⟨xs, xs[i], q, by simp [hi]⟩, fun _ q => ⟨xs, q, Nat.le_refl _⟩, fun i H v H' _ q y => ?_⟩
  obtain ⟨T, x, h1, h2, h3, h4⟩ := y
  exact ⟨T, .int (i : Nat), x, h1, h2, h3, rfl, h4 xs q⟩
end MV

set_option Elab.async false
set_option linter.all false
set_option maxRecDepth 100000
set_option maxHeartbeats 2000000
/-! MVX: loops and comprehensions over any walk as readings; a text repeated; C(k = v); try .. except one class. -/
namespace MV
open PySem PySem.Spec PySem.Calls PyProof.Rows L2 TL
/-! ### loops, comprehensions -/
section
variable {K : PySem.W.Frag} {σ : L2.St} {H H1 : Hp} {tl te : TE} {ta : TA} {g : TG} {tb : TS} {D : Ends} {Q : VK} {tt : TT} {vs : List Nat} {J : It} {n : Nat} {G : Hp → Prop} {Y : Nat → Hp → V → Hp → Prop} {R : It → Hp → Prop} {a : Addr} {xs : List V} {x : V}
def ForJ (g : TG) (tb : TS) (D : Ends) (σ : L2.St) (J : It) (H : Hp) : Prop := ∃ W : Nat → Nat → L2.St → Hp → Prop, (∃ m, W 0 m σ H) ∧ ∀ i m σ H, W i m σ H →
  (J.stop i H ∧ D.nx σ H) ∨ (J.go i H ∧ ∃ N : L2.St → Hp → Prop, (∀ σ' H', N σ' H' → ∃ m', m' < m ∧ W (i + 1) m' σ' H') ∧ ∀ x H', J.yld i H x H' → g x σ H' fun σ2 H2 => tb { D with nx := N, ct := N, bk := D.nx } σ2 H2)
theorem r_for {wi : TI} (q : wi σ H (ForJ g tb D σ)) : tFor wi g tb D σ H := q
theorem ForJ.ok (w : Walk J n G Y) (Pv : Nat → L2.St → Hp → Prop) (h0 : Pv 0 σ H) (hG : ∀ i σ H, i ≤ n → Pv i σ H → G H)
    (hs : ∀ i x σ H H', i < n → Pv i σ H → Y i H x H' → g x σ H' fun σ2 H2 => tb { D with nx := Pv (i + 1), ct := Pv (i + 1), bk := D.nx } σ2 H2) (hd : ∀ σ H, Pv n σ H → D.nx σ H) : ForJ g tb D σ J H :=
  for_it w Pv h0 hG hs hd
def LcJ (g : TG) (tt : TT) (te : TE) (vs : List Nat) (σ : L2.St) (Q : VK) (J : It) (H1 : Hp) : Prop := ∀ D, H1 D = none → ∃ W : Nat → Nat → Hp → Prop, (∃ m, W 0 m (upd H1 D (.lst []))) ∧ ∀ i m H, W i m H →
  (J.stop i H ∧ Q (.ref D) H) ∨ (J.go i H ∧ ∃ Nx : Hp → Prop, (∀ H', Nx H' → ∃ m', m' < m ∧ W (i + 1) m' H') ∧ ∀ x H', J.yld i H x H' → g x (wipe σ vs) H' fun σ2 H2 => wipe σ2 vs = wipe σ vs ∧ tt σ2 H2 fun b H3 =>
    if b = true then te σ2 H3 fun y H4 => ∃ acc, H4 D = some (.lst acc) ∧ acc.length < sizeLine ∧ Nx (upd H4 D (.lst (acc ++ [y]))) else Nx H3)
theorem r_lc {wi : TI} (q : wi σ H (LcJ g tt te vs σ Q)) : tLc wi g tt te vs σ H Q := q
theorem LcJ.ok (w : Walk J n G Y) (k : ∀ D, H1 D = none → ∃ Pv : Nat → Hp → Prop, Pv 0 (upd H1 D (.lst [])) ∧ (∀ i H, i ≤ n → Pv i H → G H) ∧
    (∀ i x H H', i < n → Pv i H → Y i H x H' → g x (wipe σ vs) H' fun σ2 H2 => wipe σ2 vs = wipe σ vs ∧ tt σ2 H2 fun b H3 =>
      if b = true then te σ2 H3 fun y H4 => ∃ acc, H4 D = some (.lst acc) ∧ acc.length < sizeLine ∧ Pv (i + 1) (upd H4 D (.lst (acc ++ [y]))) else Pv (i + 1) H3) ∧ ∀ H, Pv n H → Q (.ref D) H) : LcJ g tt te vs σ Q J H1 := by
  intro D hD
  obtain ⟨Pv, h0, hG, hs, hd⟩ := k D hD
  exact lc_it w Pv h0 hG hs hd
/-- what a step leaves, seen from a heap in which D is free -/
theorem Stp.up0 {t : Option Addr} {D : Addr} {o : HO} (hD : H1 D = none) : Stp t H1 (upd H1 D o) := (Stp.refl t H1).put hD
theorem tp_ne {t : Option Addr} {D : Addr} (hD : H1 D = none) (ht : ∀ b, t = some b → H1 b ≠ none) : t = some D → False := fun e => ht D e hD
theorem Stp.at_new {t : Option Addr} {H H' : Hp} {D : Addr} {xs : List V} (s : Stp t H H') (n : t = some D → False) (h : H D = some (.lst xs)) : H' D = some (.lst xs) :=
  s.ge _ _ (fun e => (n e).elim) h
/-- a comprehension whose items are told by P (i turns, what is kept so far); t: the tape, if its steps draw -/
theorem LcJ.run (t : Option Addr) (ht : ∀ b, t = some b → H1 b ≠ none) (w : Walk J n G Y) (hG : ∀ H', Stp t H1 H' → G H') (hn : n < sizeLine) (P : Nat → List V → Hp → Prop) (p0 : P 0 [] H1)
    (pl : ∀ i acc H, P i acc H → acc.length ≤ i)
    (pm : ∀ i acc H H' (D : Addr), H1 D = none → P i acc H → (∀ b o, b ≠ D → H b = some o → H' b = some o) → P i acc H')
    (hs : ∀ i x H H' acc, i < n → Stp t H1 H → P i acc H → Y i H x H' → ∀ (Y1 : VK) (N1 : Hp → Prop), (∀ y H4, Stp t H H4 → P (i + 1) (acc ++ [y]) H4 → Y1 y H4) → (∀ H3, Stp t H H3 → P (i + 1) acc H3 → N1 H3) →
      g x (wipe σ vs) H' fun σ2 H2 => wipe σ2 vs = wipe σ vs ∧ tt σ2 H2 fun b H3 => if b = true then te σ2 H3 Y1 else N1 H3)
    (hd : ∀ p H2 acc, Stp t H1 H2 → H2 p = some (.lst acc) → H1 p = none → P n acc H2 → Q (.ref p) H2) : LcJ g tt te vs σ Q J H1 := by
  refine LcJ.ok w fun D hD => ⟨fun i H => Stp t H1 H ∧ ∃ acc, H D = some (.lst acc) ∧ P i acc H, ⟨Stp.up0 hD, [], upd_same, pm _ _ _ _ D hD p0 fun b o hb e => by rw [upd_ne hb]; exact e⟩, fun i H _ pv => hG H pv.1, fun i x H H' hi pv y => ?_, fun H pv => ?_⟩
  · obtain ⟨s, acc, ha, p⟩ := pv
    refine hs i x H H' acc hi s p y _ _ (fun v H4 s4 p4 => ?_) (fun H3 s3 p3 => ⟨s.trans s3, acc, s3.at_new (tp_ne hD ht) ha, p3⟩)
    have hl := pl _ _ _ p
    refine ⟨acc, s4.at_new (tp_ne hD ht) ha, by omega, (s.trans s4).put hD, _, upd_same, pm _ _ _ _ D hD p4 fun b o hb e => by rw [upd_ne hb]; exact e⟩
  · obtain ⟨s, acc, ha, p⟩ := pv
    exact hd D H acc s ha hD p
/-- .. the values themselves are told: those with keep, each f of its turn -/
theorem LcJ.flat (w : Walk J n G Y) (hG : ∀ H', Stp none H1 H' → G H') (hn : n < sizeLine) (keep : Nat → Bool) (f : Nat → V)
    (hs : ∀ i x H H', i < n → Stp none H1 H → Y i H x H' → ∀ (Y1 : VK) (N1 : Hp → Prop), (keep i = true → ∀ H4, Stp none H H4 → Y1 (f i) H4) → (keep i = false → ∀ H3, Stp none H H3 → N1 H3) →
      g x (wipe σ vs) H' fun σ2 H2 => wipe σ2 vs = wipe σ vs ∧ tt σ2 H2 fun b H3 => if b = true then te σ2 H3 Y1 else N1 H3)
    (hd : ∀ p H2, Stp none H1 H2 → H2 p = some (.lst (((List.range n).filter keep).map f)) → H1 p = none → Q (.ref p) H2) : LcJ g tt te vs σ Q J H1 := by
  refine LcJ.run none (fun _ e => nomatch e) w hG hn (fun i acc _ => acc = ((List.range i).filter keep).map f) rfl (fun i acc _ e => ?_) (fun _ _ _ _ _ _ e _ => e) (fun i x H H' acc hi s e y Y1 N1 h1 h2 => ?_) (fun p H2 acc s h np e => ?_)
  · subst e
    rw [List.length_map]
    exact Nat.le_trans (List.length_filter_le _ _) (by rw [List.length_range]; exact Nat.le_refl _)
  · subst e
    refine hs i x H H' hi s y Y1 N1 (fun k H4 s4 => h1 _ H4 s4 ?_) (fun k H3 s3 => h2 H3 s3 ?_)
    · rw [List.range_succ, List.filter_append, List.map_append, List.filter_cons, if_pos k]; rfl
    · rw [List.range_succ, List.filter_append, List.map_append, List.filter_cons, if_neg (by rw [k]; decide)]; simp
  · subst e
    exact hd p H2 s h np
end
theorem SqL.mvN {K : PySem.W.Frag} {H H' : Hp} {a : Addr} {xs : List V} (s : Stp none H H') (h : SqL K H a xs) : SqL K H' a xs := by
  rcases h with (h | ⟨o, h⟩) | h
  · exact .inl (.inl (s.all _ _ h))
  · exact .inl (.inr ⟨o, s.all _ _ h⟩)
  · exact .inr h
section
variable {K : PySem.W.Frag} {σ : L2.St} {H : Hp} {ta : TA} {te : TE} {R : It → Hp → Prop} {a : Addr} {xs : List V} {x : V} {i j : Int}
/-- what is walked is a list, a tuple: already read -/
def ItL (K : PySem.W.Frag) (x : V) (H1 : Hp) (R : It → Hp → Prop) : Prop := ∃ a, x = .ref a ∧ (∃ xs, SqL K H1 a xs) ∧ R (Itl K a) H1
def ItT (K : PySem.W.Frag) (x : V) (H1 : Hp) (R : It → Hp → Prop) : Prop := ∃ a, x = .ref a ∧ (∃ xs, SqT K H1 a xs) ∧ R (Itt K a) H1
theorem r_iList (q : te σ H fun x H1 => ItL K x H1 R) : iList K te σ H R := q
theorem r_iTup (q : te σ H fun x H1 => ItT K x H1 R) : iTup K te σ H R := q
theorem it_l (h : SqL K H a xs) (q : R (Itl K a) H) : ItL K (.ref a) H R := ⟨a, rfl, ⟨xs, h⟩, q⟩
theorem it_t (h : SqT K H a xs) (q : R (Itt K a) H) : ItT K (.ref a) H R := ⟨a, rfl, ⟨xs, h⟩, q⟩
def ItS (x : V) (H1 : Hp) (R : It → Hp → Prop) : Prop := ∃ z, x = .str z ∧ R (Its z) H1
theorem r_iStr (q : te σ H fun x H1 => ItS x H1 R) : iStr te σ H R := q
theorem it_s {z : Str} (q : R (Its z) H) : ItS (.str z) H R := ⟨z, rfl, q⟩
def ItR1 (vs : List V) (H1 : Hp) (R : It → Hp → Prop) : Prop := ∃ j : Int, vs = [.int j] ∧ -(2 ^ 62) ≤ j ∧ j < 2 ^ 62 ∧ R (Itr 0 j.toNat) H1
theorem r_iRng1 (q : ta σ H fun vs H1 => ItR1 vs H1 R) : iRng1 ta σ H R := q
theorem it_r1 (h0 : 0 ≤ j) (h1 : j ≤ 1000000) (q : R (Itr 0 j.toNat) H) : ItR1 [.int j] H R := ⟨j, rfl, by omega, by omega, q⟩
def ItR2 (vs : List V) (H1 : Hp) (R : It → Hp → Prop) : Prop := ∃ i j : Int, vs = [.int i, .int j] ∧ (-(2 ^ 62) ≤ i ∧ i < 2 ^ 62 ∧ -(2 ^ 62) ≤ j ∧ j < 2 ^ 62) ∧ R (Itr i (j - i).toNat) H1
theorem r_iRng2 (q : ta σ H fun vs H1 => ItR2 vs H1 R) : iRng2 ta σ H R := q
theorem it_r2 (h0 : -(2 ^ 62) ≤ i) (h1 : i < 2 ^ 62) (h2 : -(2 ^ 62) ≤ j) (h3 : j < 2 ^ 62) (q : R (Itr i (j - i).toNat) H) : ItR2 [.int i, .int j] H R := ⟨i, j, rfl, ⟨h0, h1, h2, h3⟩, q⟩
def ItE (K : PySem.W.Frag) (vs : List V) (H1 : Hp) (R : It → Hp → Prop) : Prop := ∃ a xs, vs = [.ref a] ∧ ((SqL K H1 a xs ∧ R (Ite K a) H1) ∨ (SqT K H1 a xs ∧ R (IteT K a) H1))
theorem r_iEnumA (q : ta σ H fun vs H1 => ItE K vs H1 R) : iEnumA K ta σ H R := q
/-- enumerate is walked, over a list or over a tuple -/
theorem it_e (hx : SqL K H a xs ∨ SqT K H a xs) (q : ∀ (J : It) (G : Hp → Prop), Walk J xs.length G (YPair (fun i => some (.int (i : Nat))) (fun i => xs[i]?)) → (∀ H', Stp none H H' → G H') → R J H) : ItE K [.ref a] H R := by
  rcases hx with h | h
  · exact ⟨a, xs, rfl, .inl ⟨h, q _ _ walk_enum fun H' s => SqL.mvN s h⟩⟩
  · exact ⟨a, xs, rfl, .inr ⟨h, q _ _ walk_enumT fun H' s => SqT.mvS s h⟩⟩
end
/-! ### texts added -/
def rAddS : R2 := fun x y H Q => ∃ i j, x = .str i ∧ y = .str j ∧ i.length + j.length ≤ sizeLine ∧ Q (.str (i ++ j)) H
theorem op_addS {X : Cx} : OpR X (binaryOp .Add) rAddS := op_add_str
theorem r_addS {s z : Str} {H : Hp} {Q : VK} (h : s.length + z.length ≤ 100000) (q : Q (.str (s ++ z)) H) : rAddS (.str s) (.str z) H Q := ⟨s, z, rfl, rfl, Nat.le_trans h (by decide), q⟩
/-! ### a text repeated -/
/-- z * k -/
def repS (z : Str) (k : Int) : Str := if k < 1 then Str.empty else if (k == 1 || z.length == 0) = true then z else ⟨(List.replicate k.toNat z.cps).foldl (· ++ ·) #[]⟩
theorem cat_fold (l : List (Array Nat)) : ∀ a : Array Nat, (l.foldl (· ++ ·) a).toList = a.toList ++ (l.map Array.toList).flatten := by
  induction l with
  | nil => intro a; simp
  | cons b r ih => intro a; rw [List.foldl_cons, ih]; simp
theorem tl_repS (z : Str) {k : Int} : tl (repS z k) = (List.replicate k.toNat (tl z)).flatten := by
  unfold repS
  split
  · rename_i c
    have e : k.toNat = 0 := by omega
    rw [e]; rfl
  · rename_i c
    split
    · rename_i c2
      simp only [Bool.or_eq_true, beq_iff_eq] at c2
      rcases c2 with c2 | c2
      · subst c2
        show tl z = [tl z].flatten
        simp
      · have e : tl z = [] := (len0_tl z).mp c2
        rw [e]
        simp
    · show (List.foldl (· ++ ·) (#[] : Array Nat) (List.replicate k.toNat z.cps)).toList = _
      rw [cat_fold, List.map_replicate]
      rfl
theorem len_repS (z : Str) {k : Int} : (repS z k).length = k.toNat * z.length := by
  rw [len_tl, tl_repS, len_tl]
  simp
def rMulS : R2 := fun x y H Q => ∃ z k, x = .str z ∧ y = .int k ∧ k ≤ 1000 ∧ -1000 ≤ k ∧ z.length ≤ 1000 ∧ Q (.str (repS z k)) H
theorem op_mulS {X : Cx} : OpR X (binaryOp .Mult) rMulS := by
  intro pins s σ H x y v u Q I rx ry h
  obtain ⟨z, k, rfl, rfl, h1, h0, h2, q⟩ := h
  obtain ⟨t, rfl⟩ := rx
  obtain ⟨t2, rfl⟩ := ry
  have hk : k.toNat ≤ 1000 := by omega
  have hm : z.length * k.toNat ≤ 1000 * 1000 := Nat.mul_le_mul h2 hk
  refine P.mul_str ?_ (fun _ _ => ?_) (fun _ _ => ?_) ?_
  · rw [decide_eq_false (by omega), decide_eq_false (by omega)]; rfl
  · have : (1000 : Int) ≤ (2 ^ 63 - 1) / k := by
      rw [Int.le_ediv_iff_mul_le (by omega)]
      omega
    omega
  · exact decide_eq_false (by rw [show sizeLine = sizeLine from rfl]; exact Nat.not_lt.mpr (Nat.le_trans hm (by decide)))
  · unfold repS at q
    split
    · rename_i c
      rw [if_pos c] at q
      exact ⟨by decide, V.str Str.empty, H, I.tok _, ⟨_, rfl⟩, q⟩
    · rename_i c
      rw [if_neg c] at q
      split
      · rename_i c2
        rw [if_pos c2] at q
        exact ⟨V.str z, H, I, ⟨_, rfl⟩, q⟩
      · rename_i c2
        rw [if_neg c2] at q
        refine ⟨?_, V.str _, H, I.tok _, ⟨_, rfl⟩, q⟩
        have e := len_repS z (k := k)
        unfold repS at e
        rw [if_neg c, if_neg c2] at e
        rw [e, Nat.mul_comm]
        exact Nat.le_trans hm (by decide)
/-- a name of the module, by its value -/
theorem peg_gc {X : Cx} {x : Str} {pos : Pos} {v : V} (hg : Gl X x) (h : ∃ u, X.mg x = some u ∧ RelV v u) (hd : (x == ("__debug__" : Str)) = false := by decide) : PE X (.Name x pos) (tC v) := by
  obtain ⟨u, hm, r⟩ := h
  exact pe_glob hg hm r hd
/-! ### C(k = v) -/
section
variable {X : Cx} {CX : CXT} {k n : Nat} {f C : Addr} {fd : FuncData} {ps ks : List Str} {sp : Sp} {E : XK} {x : Str} {p pos : Pos} {e : Expr} {es : List Expr} {kws : List Keyword} {t tk : TA} {g : List Value → List Value → List Value} {gV : List V → List V → List V}
theorem runGK {A : Around} {pins : List (Addr × Obj)} {σ : L2.St} {H : Hp} {s : Shared} {Q : VK} {args : Args} {us : List Value} {vs : List V}
    (F : FnG X.prog X.w X.K X.mg X.base CX k f fd ps sp) (hr : Room k A) (hg : A.guards = some [])
    (e0 : Env0 X.prog X.w X.K X.mg X.base A X.stack s H) (hb : BindsTo s fd args (ps.zip us)) (hx : Passes CX X E)
    (I : Inv X pins σ H s) (r : Vals vs us) (h : sp vs H Q E) :
    codeAny (model X.prog X.w) A (.call (.ref f) args) (Back X pins σ Q) s :=
  codeAny_mono (F.go A X.stack s H args us vs Q E hr hg e0 hb r h) fun r s' hq => ended hx I hq
theorem makeGK {pins : List (Addr × Obj)} {σ : L2.St} {H : Hp} {s : Shared} {Q : VK} {us ws : List Value} {vs zs : List V} (M : Mk X.K C f)
    (F : FnG X.prog X.w X.K X.mg X.base CX k f fd ps sp) (hr : Room (k + 1) X.A) (hg : X.A.guards = some []) (hb : KBn X.K fd ps (n + 1) ks g gV)
    (hx : Passes CX X E) (I : Inv X pins σ H s) (r : Vals vs us) (rz : Vals zs ws) (l1 : vs.length = n) (l2 : zs.length = ks.length)
    (h : ∀ x dx, H x = none → H dx = none → dx ≠ x → sp (gV (.ref x :: vs) zs) (upd (upd H dx (.own x)) x (.ins C dx [])) (fun v H2 => v = .non ∧ Q (.ref x) H2) E) :
    wpAny (model X.prog X.w) X.A (call (.ref C) us (ks.zip ws)) (EP X pins σ Q) X.xe s := by
  have q := h (s.heap.objs.size + 1) s.heap.objs.size (I.hok.fresh (Nat.le_succ _)) (I.hok.fresh (Nat.le_refl _)) (Nat.ne_of_lt (Nat.lt_succ_self _))
  have J := Inv.made (C := C) I
  have r1 : Vals (V.ref (s.heap.objs.size + 1) :: vs) (Value.ref (s.heap.objs.size + 1) :: us) := .cons rfl r
  have n1 : (Value.ref (s.heap.objs.size + 1) :: us).length = n + 1 := by
    rw [List.length_cons, ← r.length, l1]
  have w2 := runGK F (hr.make C us (ks.zip ws)) (guards_make hg C us (ks.zip ws)) (J.env0.make C us (ks.zip ws)) (hb.to _ (Value.ref (s.heap.objs.size + 1) :: us) ws J.kIn n1 (rz.length.symm.trans l2)) hx J (hb.rel r1 rz) q
  refine wpAny_call (make_map (f := f) I.kIn M.makes M.init (beq_iff_eq.mp M.fn) (codeAny_mono w2 ?_))
  rintro (z | (_ | _ | _ | u)) s' hq
  · exact hq
  · exact hq.elim
  · exact hq.elim
  · exact hq.elim
  · obtain ⟨v, H', I3, rv, rfl, q3⟩ := hq
    exact ⟨rv, V.ref (s.heap.objs.size + 1), H', I3, rfl, q3⟩
/-- C(k = v, ..) -/
theorem peg_makeK0 (M : Mk X.K C f) (F : FnG X.prog X.w X.K X.mg X.base CX k f fd ps sp) (hr : Room (k + 1) X.A) (hG : X.A.guards = some []) (hg : Gl X x) (hm : X.mg x = some (.ref C)) (hb : KBn X.K fd ps 1 ks g gV) (hx : Passes CX X E) (hkw : PK X kws tk)
    (hall : (backToKw pos (keywordEach kws X.env)).all (·.1.isSome) = true := by rfl) (hks : (backToKw pos (keywordEach kws X.env)).filterMap (·.1) = ks := by rfl) (hdb : (x == ("__debug__" : Str)) = false := by decide)
    (hpl : ((backTo pos (starEach [] X.env)).any (·.1) || (backToKw pos (keywordEach kws X.env)).any (·.1.isNone)) = false := by rfl) :
    PE X (.Call (.Name x p) [] kws pos) (tMakeK C 0 ks.length sp gV E tNil tk) := by
  refine ⟨fun pins s σ H Q I h => ?_⟩
  refine wpAny_Call_Name_kw (ld_glob I hg hm ?_ hdb)
  refine PySem.W.callWith_KW0 (h₀ := X.base) I.ok.mod.kin M.kp hall ?_ hpl
  refine thn (hkw.run pos pins s σ H _ I h) fun ws s2 ⟨zs, H2, I2, rz, l1, l2, q2⟩ => ⟨I2.kIn, ?_⟩
  rw [hks]
  exact makeGK (us := []) (vs := []) M F hr hG hb hx I2 .nil rz rfl l2 q2
/-- C(e, .., k = v, ..) -/
theorem peg_makeK (M : Mk X.K C f) (F : FnG X.prog X.w X.K X.mg X.base CX k f fd ps sp) (hr : Room (k + 1) X.A) (hG : X.A.guards = some []) (hg : Gl X x) (hm : X.mg x = some (.ref C)) (hb : KBn X.K fd ps (n + 1) ks g gV) (hx : Passes CX X E) (ha : PA X (e :: es) t) (hkw : PK X kws tk)
    (hall : (backToKw pos (keywordEach kws X.env)).all (·.1.isSome) = true := by rfl) (hks : (backToKw pos (keywordEach kws X.env)).filterMap (·.1) = ks := by rfl) (hdb : (x == ("__debug__" : Str)) = false := by decide)
    (he : starEach (e :: es) X.env = (false, eval e X.env) :: starEach es X.env := by rfl) (hpl : ((backTo pos (starEach (e :: es) X.env)).any (·.1) || (backToKw pos (keywordEach kws X.env)).any (·.1.isNone)) = false := by rfl) :
    PE X (.Call (.Name x p) (e :: es) kws pos) (tMakeK C n ks.length sp gV E t tk) := by
  refine ⟨fun pins s σ H Q I h => ?_⟩
  refine wpAny_Call_Name_kw (ld_glob I hg hm ?_ hdb)
  refine PySem.W.callWith_KW (h₀ := X.base) I.ok.mod.kin M.kp hall (thn (ha.run pos pins s σ H _ I h) fun us s1 ⟨vs, H1, I1, r, q⟩ => ?_) hpl he
  refine thn (hkw.run pos pins s1 σ H1 _ I1 q) fun ws s2 ⟨zs, H2, I2, rz, l1, l2, q2⟩ => ⟨I2.kIn, ?_⟩
  rw [hks]
  exact makeGK M F hr hG hb hx I2 r rz l1 l2 q2
/-- C(k = v): one value by its name -/
def MkK (C : Addr) (sp : Sp) (m : Nat) (us zs : List V) (H : Hp) (Q : VK) (E : XK) : Prop := us.length = us.length ∧ zs.length = m ∧ MkR C sp (us ++ zs) H Q E
theorem r_makeK0 {σ : L2.St} {H : Hp} {Q : VK} {m : Nat} (q : tk σ H fun zs H2 => MkK C sp m [] zs H2 Q E) : tMakeK C 0 m sp (fun us ws => us ++ ws) E tNil tk σ H Q := q
theorem r_makeK1 {σ : L2.St} {H : Hp} {Q : VK} {te : TE} {m : Nat} (q : te σ H fun x H1 => tk σ H1 fun zs H2 => MkK C sp m [x] zs H2 Q E) : tMakeK C 1 m sp (fun us ws => us ++ ws) E (tCons te tNil) tk σ H Q := q
theorem mkk1 {H : Hp} {Q : VK} {z : V} {us : List V} (q : MkR C sp (us ++ [z]) H Q E) : MkK C sp 1 us [z] H Q E := ⟨rfl, rfl, q⟩
end
/-! ### more readings -/
section
variable {K : PySem.W.Frag} {σ : L2.St} {H : Hp} {Q : VK} {a : TA} {x v : V}
theorem r_inS {c : Nat} {z : Str} (q : Q (.bl (decide (c ∈ tl z))) H) : rInS (.str ⟨#[c]⟩) (.str z) H Q := ⟨c, z, rfl, rfl, q⟩
theorem r_cbAll (q : a σ H fun vs H1 => rAll K vs H1 Q) : tCB (rAll K) a σ H Q := q
theorem r_all {p : Addr} {bs : List Bool} (h : SqL K H p (bs.map V.bl)) (q : Q (.bl (bs.all id)) H) : rAll K [.ref p] H Q := ⟨p, bs, rfl, h, q⟩
theorem r_cbIsiT (q : a σ H fun vs H1 => rIsiT K vs H1 Q) : tCB (rIsiT K) a σ H Q := q
theorem r_isiT {p : Addr} {cs : List V} {t : Value} {us : List Value} {b : Bool} (h : H p = some (.tup cs)) (pc : Paired ClsV cs us) (ty : TyX K H x t) (e : PySem.W.kitAny K t us = some b) (q : Q (.bl b) H) : rIsiT K [x, .ref p] H Q :=
  ⟨x, p, cs, t, us, b, rfl, h, pc, ty, e, q⟩
def rLenS : List V → Hp → VK → Prop := fun xs H Q => ∃ z, xs = [.str z] ∧ z.length ≤ sizeLine ∧ Q (.int z.length) H
theorem r_cbLenS (q : a σ H fun vs H1 => rLenS vs H1 Q) : tCB (fun xs H Q => ∃ z, xs = [.str z] ∧ z.length ≤ sizeLine ∧ Q (.int z.length) H) a σ H Q := q
theorem r_lenS {z : Str} (h : z.length ≤ 100000) (q : Q (.int z.length) H) : rLenS [.str z] H Q := ⟨z, rfl, Nat.le_trans h (by decide), q⟩
theorem ty_lst {p : Addr} {xs : List V} (h : SqL K H p xs) : TyX K H (.ref p) (.type "list") := by
  rcases h with h | ⟨o, _, _, h1, h2, _⟩
  · rcases h with h | ⟨o, h⟩
    · exact .base (.lst h)
    · exact .base (.frz h)
  · exact .kList h1 h2
theorem joinL_nil : ∀ l : List (List Nat), joinL [] l = l.flatten
  | [] => rfl
  | [p] => by simp [joinL]
  | p :: q :: r => by
    rw [joinL, joinL_nil (q :: r)]
    simp
theorem tl_inj {x y : Str} (h : tl x = tl y) : x = y := ext_tl h
/-- sep.join(a list of texts) -/
def rJoin (K : PySem.W.Frag) : V → List V → Hp → VK → Prop := fun x xs H Q => ∃ a p, ∃ ys : List Str, x = .str a ∧ xs = [.ref p] ∧ (SqL K H p (ys.map V.str) ∨ SqT K H p (ys.map V.str)) ∧ (ys.map (·.length)).sum + ys.length * a.length ≤ 16777216 ∧ Q (.str (Txt.join a ys)) H
theorem mt_joinR {X : Cx} : MtR X "str.join" (rJoin X.K) := mt_join
theorem join_nil (ys : List Str) : tl (Txt.join ("" : Str) ys) = (ys.map tl).flatten := by
  rw [join_eq, tl_join]
  exact joinL_nil _
/-- ''.join of signs -/
theorem r_joinC {p : Addr} {cs : List Nat} (h : H p = some (.lst (cs.map fun c => V.str ⟨#[c]⟩))) (hl : cs.length ≤ 100000) (q : Q (.str ⟨cs.toArray⟩) H) : rJoin K (.str ("" : Str)) [.ref p] H Q := by
  have e : ∀ l : List Nat, (((l.map fun c => (⟨#[c]⟩ : Str)).map (·.length)).sum) = l.length := fun l => by
    induction l with
    | nil => rfl
    | cons c r ih => rw [List.map_cons, List.map_cons, List.sum_cons, ih, List.length_cons]; show 1 + _ = _; omega
  have e2 : (cs.map fun c => V.str (⟨#[c]⟩ : Str)) = (cs.map fun c => (⟨#[c]⟩ : Str)).map V.str := by simp
  refine ⟨_, p, cs.map fun c => ⟨#[c]⟩, rfl, rfl, .inl (SqL.of (by rw [← e2]; exact h)), ?_, ?_⟩
  · rw [e, List.length_map]
    have : (("" : Str)).length = 0 := rfl
    rw [this]
    omega
  · have e3 : Txt.join ("" : Str) (cs.map fun c => (⟨#[c]⟩ : Str)) = ⟨cs.toArray⟩ := by
      refine tl_inj ?_
      rw [join_nil]
      have e4 : ∀ l : List Nat, (((l.map fun c => (⟨#[c]⟩ : Str)).map tl).flatten) = l := fun l => by
        induction l with
        | nil => rfl
        | cons c r ih => rw [List.map_cons, List.map_cons, List.flatten_cons, ih]; rfl
      rw [e4]
    rw [e3]
    exact q
/-- a sign of a text -/
theorem r_ixS {z : Str} {i : Int} {c : Nat} (h0 : 0 ≤ i) (hc : (tl z)[i.toNat]? = some c) (hl : z.length ≤ 100000) (q : Q (.str ⟨#[c]⟩) H) : rIx K (.str z) (.int i) H Q := by
  refine .inr (.inr ⟨z, i, c, rfl, rfl, Nat.le_trans hl (by decide), ?_, q⟩)
  have e : i = ((i.toNat : Nat) : Int) := (Int.toNat_of_nonneg h0).symm
  rw [e]
  exact atI_nat hc
end
end MV

set_option Elab.async false
set_option linter.all false
set_option maxRecDepth 100000
set_option maxHeartbeats 2000000
/-! MVY: lists of texts as data; parts of an f-string as readings; what lets nothing out. -/
namespace MV
open PySem PySem.Spec PySem.Calls PyProof.Rows L2 TL
/-- a list of texts as data -/
abbrev ds (ss : List Str) : PyData := .list (ss.map PyData.str)
theorem dp_ds {K : PySem.W.Frag} {H : Hp} {p : Addr} {ss : List Str} (h : SqL K H p (ss.map V.str)) : Dp K H (.ref p) (ds ss) := .lst h (dp_strs ss)
theorem depth_strs : ∀ ss : List Str, PyData.depthAll (ss.map PyData.str) = 0
  | [] => by rw [List.map_nil, PyData.depthAll]
  | n :: r => by rw [List.map_cons, PyData.depthAll, depth_strs r, PyData.depth]; rfl
/-- the signs are codes -/
def Cd (ss : List Str) : Prop := ∀ z ∈ ss, ∀ c ∈ tl z, c < 0x110000
theorem strOk_of {z : Str} (h : ∀ c ∈ tl z, c < 0x110000) : PyData.strOk z = true := by
  unfold PyData.strOk
  rw [Array.all_eq_true_iff_forall_mem]
  intro c hc
  exact decide_eq_true (h c (Array.mem_toList_iff.mpr hc))
theorem canLay_strs : ∀ {ss : List Str}, Cd ss → PyData.canLayAll0 (ss.map PyData.str) = true
  | [], _ => by rw [List.map_nil, PyData.canLayAll0]
  | n :: r, h => by
    rw [List.map_cons, PyData.canLayAll0, canLay_strs (fun z hz => h z (List.mem_cons_of_mem _ hz)), PyData.canLay0, strOk_of (h n List.mem_cons_self)]
    rfl
theorem shaped_ds {ss : List Str} (h : Cd ss) : SeqAt.shaped (ds ss) = true := by
  unfold SeqAt.shaped
  rw [PyData.canLay0, canLay_strs h, PyData.depth, depth_strs]
  rfl
theorem eqv_ds (a b : List Str) : PyData.eqv (ds a) (ds b) = decide (a = b) := by
  rw [PyData.eqv, eqvAll_strs]
/-- texts that can be shown: no more than m, each of at most n signs -/
structure Tx (n : Nat) (ss : List Str) : Prop where
  ln : ∀ z ∈ ss, z.length ≤ n
  cd : Cd ss
theorem bnd_strs {n : Nat} : ∀ {ss : List Str}, Tx n ss → bndAll (ss.map PyData.str) ≤ ss.length * (10 * n + 4)
  | [], _ => by rw [List.map_nil, bndAll]; exact Nat.zero_le _
  | z :: r, h => by
    have := bnd_strs (ss := r) ⟨fun y hy => h.ln y (List.mem_cons_of_mem _ hy), fun y hy => h.cd y (List.mem_cons_of_mem _ hy)⟩
    have h1 := StrLaws.reprText_len z (fun c hc => Nat.lt_of_lt_of_le (h.cd z List.mem_cons_self c hc) (by decide))
    have h2 := h.ln z List.mem_cons_self
    rw [List.map_cons, bndAll, bnd, List.length_cons, Nat.add_mul]
    omega
theorem showable_strs : ∀ ss : List Str, PyData.showableAll (ss.map PyData.str) = true
  | [] => by rw [List.map_nil, PyData.showableAll]
  | z :: r => by rw [List.map_cons, PyData.showableAll, showable_strs r, PyData.showable]; rfl
theorem noDict_strs : ∀ ss : List Str, PyData.hasDictAll (ss.map PyData.str) = false
  | [] => by rw [List.map_nil, PyData.hasDictAll]
  | z :: r => by rw [List.map_cons, PyData.hasDictAll, noDict_strs r, PyData.hasDict]; rfl
theorem shw_ds {n : Nat} {ss : List Str} (h : Tx n ss) (hb : ss.length * (10 * n + 4) ≤ 100000) : Shw (ds ss) where
  sh := by rw [PyData.showable, showable_strs]
  nd := by rw [PyData.hasDict, noDict_strs]
  dp := by rw [PyData.depth, depth_strs]; decide
  ln := by
    rw [bnd]
    have := bnd_strs h
    exact Nat.le_trans (show 2 + bndAll _ ≤ 100002 by omega) (by decide)
theorem ds_len {n : Nat} {ss : List Str} (h : Tx n ss) : (ds ss).shown.length ≤ 2 + ss.length * (10 * n + 4) := by
  have h1 := bnd_ok (ds ss) (by rw [PyData.showable, showable_strs]) (by rw [PyData.hasDict, noDict_strs])
  rw [bnd] at h1
  have := bnd_strs h
  omega
theorem cut_to {xs : List V} {k : Int} (h0 : 0 ≤ k) (hk : k ≤ xs.length) : cutV xs none (some k) = xs.take k.toNat := by
  obtain ⟨n, rfl⟩ : ∃ n : Nat, k = (n : Int) := ⟨k.toNat, by omega⟩
  unfold cutV
  rw [HT.sIx_nat, HT.sIx_none, List.drop_zero, Nat.sub_zero, Nat.min_eq_left (by omega), Int.toNat_natCast]
theorem cut_from {xs : List V} {k : Int} (h0 : 0 ≤ k) (hk : k ≤ xs.length) : cutV xs (some k) none = xs.drop k.toNat := by
  obtain ⟨n, rfl⟩ : ∃ n : Nat, k = (n : Int) := ⟨k.toNat, by omega⟩
  unfold cutV
  rw [HT.sIx_nat, HT.sIx_none, Nat.min_eq_left (by omega), Int.toNat_natCast]
  refine List.take_of_length_le ?_
  rw [List.length_drop]
  exact Nat.le_refl _
section
variable {K : PySem.W.Frag} {H : Hp} {Q : VK} {a b : Addr} {ss ts : List Str} {x y : V}
theorem r_eqDs (ca : Cd ss) (cb : Cd ts) (h : SqL K H a (ss.map V.str)) (g : SqL K H b (ts.map V.str)) (q : Q (.bl (decide (ss = ts))) H) : rEqD K (.ref a) (.ref b) H Q :=
  ⟨_, _, dp_ds h, dp_ds g, shaped_ds ca, shaped_ds cb, by rw [eqv_ds]; exact q⟩
theorem r_neDs (ca : Cd ss) (cb : Cd ts) (h : SqL K H a (ss.map V.str)) (g : SqL K H b (ts.map V.str)) (q : Q (.bl (!decide (ss = ts))) H) : rNeD K (.ref a) (.ref b) H Q :=
  ⟨_, _, dp_ds h, dp_ds g, shaped_ds ca, shaped_ds cb, by rw [eqv_ds]; exact q⟩
theorem r_tupA {p : Addr} {xs : List V} (h : SqL K H p xs) (k : ∀ l H2, Stp none H H2 → H2 l = some (.tup xs) → H l = none → Q (.ref l) H2) : rTupL K [.ref p] H Q :=
  ⟨p, xs, rfl, .inl ⟨h, fun l hl => k l _ (Stp.new hl) upd_same hl⟩⟩
theorem r_mulSk {z : Str} {k : Int} (h1 : k ≤ 1000) (h0 : -1000 ≤ k) (hz : z.length ≤ 1000) (q : Q (.str (repS z k)) H) : rMulS (.str z) (.int k) H Q := ⟨z, k, rfl, rfl, h1, h0, hz, q⟩
theorem r_repL {l : Addr} {xs : List V} {k : Int} (h : H l = some (.lst xs)) (h1 : -(2 ^ 63) ≤ k) (h2 : k < 2 ^ 63) (hl : xs.length * k.toNat ≤ 100000) (k' : ∀ p H2, Stp none H H2 → H2 p = some (.lst (List.replicate k.toNat xs).flatten) → H p = none → Q (.ref p) H2) : rRep (.ref l) (.int k) H Q :=
  ⟨l, k, xs, rfl, rfl, h, h1, h2, Nat.le_trans hl (by decide), fun p hp => k' p _ (Stp.new hp) upd_same hp⟩
theorem r_cat {l m : Addr} {xs ys : List V} (h : H l = some (.lst xs)) (h2 : H m = some (.lst ys)) (hl : xs.length + ys.length ≤ 100000) (k : ∀ p H2, Stp none H H2 → H2 p = some (.lst (xs ++ ys)) → H p = none → Q (.ref p) H2) : rCat (.ref l) (.ref m) H Q :=
  ⟨l, m, xs, ys, rfl, rfl, h, h2, Nat.le_trans hl (by decide), fun p hp => k p _ (Stp.new hp) upd_same hp⟩
/-- a new empty dict -/
theorem r_dnew {σ : L2.St} (k : ∀ p H2, Stp none H H2 → H2 p = some (.dK []) → H p = none → Q (.ref p) H2) : tDNewK σ H Q := fun p hp => k p _ (Stp.new hp) upd_same hp
theorem r_lstA {p : Addr} {xs : List V} (h : SqL K H p xs ∨ SqT K H p xs) (k : ∀ l H2, Stp none H H2 → H2 l = some (.lst xs) → H l = none → Q (.ref l) H2) : rLstL K [.ref p] H Q :=
  ⟨p, xs, rfl, h, fun l hl => k l _ (Stp.new hl) upd_same hl⟩
theorem r_repr {d : PyData} {z : V} (h : Dp K H z d) (S : Shw d) (q : Q (.str d.shown) H) : rRepr K [z] H Q := ⟨z, d, rfl, h, S, q⟩
theorem r_js {t : TE} {ts : List TE} {acc : Str} {σ : L2.St} {Q : Str → Hp → Prop} (q : t σ H fun x H1 => ∃ y : Str, x = .str y ∧ (acc ++ y).length ≤ sizeLine ∧ tJs ts (acc ++ y) σ H1 Q) : tJs (t :: ts) acc σ H Q := q
theorem r_js0 {acc : Str} {σ : L2.St} {Q : Str → Hp → Prop} (q : Q acc H) : tJs [] acc σ H Q := q
theorem r_jv {y acc : Str} {ts : List TE} {σ : L2.St} {Q : Str → Hp → Prop} (h : (acc ++ y).length ≤ sizeLine) (q : tJs ts (acc ++ y) σ H Q) : ∃ z : Str, V.str y = .str z ∧ (acc ++ z).length ≤ sizeLine ∧ tJs ts (acc ++ z) σ H Q := ⟨y, rfl, h, q⟩
theorem r_fmtR {te : TE} {σ : L2.St} (q : te σ H fun x H1 => (∃ y : Str, x = .str y ∧ (PySem.reprText y).length ≤ sizeLine ∧ Q (.str (PySem.reprText y)) H1) ∨ ∃ i : Int, x = .int i ∧ i.natAbs.log2 < 1920 ∧ Q (.str (toString i)) H1) : tFmtR te σ H Q := q
theorem r_fmtD {te : TE} {σ : L2.St} (q : te σ H fun x H1 => ∃ a d, x = .ref a ∧ Dp K H1 x d ∧ Shw d ∧ Q (.str d.shown) H1) : tFmtD K te σ H Q := q
theorem app_le {a b : Str} {m n : Nat} (ha : a.length ≤ m) (hb : b.length ≤ n) : (a ++ b).length ≤ m + n := by
  rw [strLen_append]
  omega
theorem fits_of {a : Str} {m : Nat} (h : a.length ≤ m) (hm : m ≤ 100000) : a.length ≤ sizeLine := Nat.le_trans h (Nat.le_trans hm (by decide))
theorem tl_app (x y : Str) : tl (x ++ y) = tl x ++ tl y := tl_append x y
end
/-- e.f of the caught error, told -/
theorem r_xf {a C : Addr} {cls : Value} {d : Option Addr} {dd : Addr} {f : Str} {σ : L2.St} {H : Hp} {Q : VK} {n : Nat} {fs : List (Str × V)} {v : V} (ec : cls = .ref C) (ed : d = some dd) (hd : H dd = some (.xd fs)) (hf : fs.lookup f = some v) (h : σ[n]? = some (some (.ref a))) (q : Q v H) :
    tXf a cls d C f (tVar n) σ H Q := ⟨.ref a, h, rfl, ec, dd, fs, v, ed, hd, hf, q⟩
/-! ### lists or tuples; types -/
section
variable {K : PySem.W.Frag} {H : Hp} {Q : VK} {v : V}
theorem ty_mv {H H' : Hp} {x : V} {t : Value} (s : Stp none H H') (h : TyX K H x t) : TyX K H' x t := by
  cases h with
  | base b =>
    cases b with
    | non => exact .base .non
    | bl b => exact .base (.bl b)
    | int i => exact .base (.int i)
    | str z => exact .base (.str z)
    | flt z => exact .base (.flt z)
    | lst e => exact .base (.lst (s.all _ _ e))
    | frz e => exact .base (.frz (s.all _ _ e))
    | tup e => exact .base (.tup (s.all _ _ e))
    | dK e => exact .base (.dK (s.all _ _ e))
    | dT e => exact .base (.dT (s.all _ _ e))
    | ins e a b c d f => exact .base (.ins (s.all _ _ e) a b c d f)
  | byt b => exact .byt b
  | set e => exact .set (s.all _ _ e)
  | kList e c => exact .kList e c
  | kTuple e c => exact .kTuple e c
  | kDict e c => exact .kDict e c
  | fTuple e => exact .fTuple (s.all _ _ e)
  | fDict e => exact .fDict (s.all _ _ e)
theorem ty_tl {p : Addr} {xs : List V} (h : SqL K H p xs ∨ SqT K H p xs) : ∃ t, TyX K H (.ref p) t ∧ PySem.W.kitAny K t [.type "list", .type "tuple"] = some true := by
  rcases h with h | h
  · exact ⟨_, ty_lst h, kitAny_cons (b := true) (kit_ty (by decide +kernel)) (fun z => nomatch z) (fun _ => rfl)⟩
  · exact ⟨_, ty_tup h, kitAny_cons (b := false) (kit_ty (by decide +kernel)) (fun _ => kitAny_cons (b := true) (kit_ty (by decide +kernel)) (fun z => nomatch z) fun _ => rfl) (fun z => nomatch z)⟩
theorem sq_mv {p : Addr} {xs : List V} {H H' : Hp} (s : Stp none H H') (h : SqL K H p xs ∨ SqT K H p xs) : SqL K H' p xs ∨ SqT K H' p xs := h.elim (fun h => .inl (SqL.mvN s h)) fun h => .inr (SqT.mvS s h)
theorem r_nN {p : Prop} [Decidable p] {A B : Prop} (h : ¬ p) (q : A) : if (!decide p) = true then A else B := by
  rw [if_pos (by simp [h])]; exact q
/-- an item of a list or a tuple -/
theorem r_ixA {p : Addr} {xs : List V} {n : Nat} (h : SqL K H p xs ∨ SqT K H p xs) (hn : xs[n]? = some v) (q : Q v H) : rIx K (.ref p) (.int (n : Nat)) H Q := by
  rcases h with h | h
  · exact .inl ⟨p, xs, _, v, rfl, rfl, h, atI_nat hn, q⟩
  · exact .inr (.inl ⟨p, xs, _, v, rfl, rfl, h, atI_nat hn, q⟩)
theorem r_lenA {p : Addr} {xs : List V} (h : SqL K H p xs ∨ SqT K H p xs) (q : Q (.int xs.length) H) : rLenV K [.ref p] H Q := ⟨p, xs, rfl, h, q⟩
end
end MV

set_option Elab.async false
set_option linter.all false
set_option maxRecDepth 100000
set_option maxHeartbeats 2000000
/-! MVZ: what a step with lambdas leaves (Sn); a lambda handed to a def of the text; repr of an empty dict. -/
namespace MV
open PySem PySem.Spec PySem.Calls PyProof.Rows L2 TL LamX
/-- what a step leaves that may write the tables T and the tape t -/
structure Sn (T : List (Addr × Str)) (t : Option Addr) (H H' : Hp) : Prop where
  ge : ∀ b o, H b = some o → (∀ ps, o ≠ .tbl ps) → (t = some b → ∀ xs, o ≠ .lst xs) → H' b = some o
  tp : ∀ a l, t = some a → TapeL H a l → TapeL H' a l
  tb : Tabs T H → Tabs T H'
section
variable {T : List (Addr × Str)} {t : Option Addr} {H H' H1 H2 : Hp}
theorem codeO_lst {c : Addr} {q : Str} (xs : List V) : CodeO c q ≠ .lst xs := fun z => by
  have z' : HO.ext _ = HO.lst xs := z
  cases z'
theorem Tabs.stp (s : Stp t H H') (h : Tabs T H) : Tabs T H' := fun p hp => by
  obtain ⟨ps, h1, h2, h3⟩ := h p hp
  refine ⟨ps, s.ge _ _ (fun _ xs z => by cases z) h1, h2, fun pos cv hc => ?_⟩
  obtain ⟨c, e1, e2⟩ := h3 pos cv hc
  exact ⟨c, e1, s.ge _ _ (fun _ xs => codeO_lst xs) e2⟩
theorem Sn.of (s : Stp t H H') : Sn T t H H' := ⟨fun b o e _ n => s.ge b o n e, s.tp, fun h => Tabs.stp s h⟩
theorem Sn.ofN (s : Stp none H H') : Sn T t H H' := .of s.w
theorem Sn.lam (e : ExtN H H') (h : Tabs T H') : Sn T t H H' := by
  refine ⟨fun b o h n _ => e b o h n, fun a l _ X => ?_, fun _ => h⟩
  obtain ⟨ns, x, b, c, h0, h1, h2, h3⟩ := X
  exact ⟨ns, x, b, c, h0, e _ _ h1 (fun ps z => by cases z), e _ _ h2 (fun ps z => by cases z), h3⟩
theorem Sn.refl : Sn T t H H := ⟨fun _ _ h _ _ => h, fun _ _ _ h => h, fun h => h⟩
theorem Sn.trans (a : Sn T t H H1) (b : Sn T t H1 H2) : Sn T t H H2 := ⟨fun c o h n m => b.ge c o (a.ge c o h n m) n m, fun c l e X => b.tp c l e (a.tp c l e X), fun h => b.tb (a.tb h)⟩
theorem Sn.tup (s : Sn T t H H') {p : Addr} {xs : List V} (h : H p = some (.tup xs)) : H' p = some (.tup xs) := s.ge _ _ h (fun _ z => by cases z) (fun _ _ z => by cases z)
theorem Sn.ins (s : Sn T t H H') {p C dx : Addr} {fs : List (Str × V)} (h : H p = some (.ins C dx fs)) : H' p = some (.ins C dx fs) := s.ge _ _ h (fun _ z => by cases z) (fun _ _ z => by cases z)
theorem Sn.dK (s : Sn T t H H') {p : Addr} {kvs : List (Key × V)} (h : H p = some (.dK kvs)) : H' p = some (.dK kvs) := s.ge _ _ h (fun _ z => by cases z) (fun _ _ z => by cases z)
theorem Sn.xd (s : Sn T t H H') {p : Addr} {fs : List (Str × V)} (h : H p = some (.xd fs)) : H' p = some (.xd fs) := s.ge _ _ h (fun _ z => by cases z) (fun _ _ z => by cases z)
theorem Sn.lst (s : Sn T t H H') {p : Addr} {xs : List V} (n : t = some p → False) (h : H p = some (.lst xs)) : H' p = some (.lst xs) := s.ge _ _ h (fun _ z => by cases z) (fun e => (n e).elim)
theorem Sn.it (s : Sn T t H H') {v : V} {ns : List Int} (h : IT H v ns) : IT H' v ns := (let ⟨p, e, h⟩ := h; ⟨p, e, s.tup h⟩)
theorem Sn.tape {a : Addr} (s : Sn T (some a) H H') (h : Tape H a) : Tape H' a := (let ⟨l, h⟩ := h; ⟨l, s.tp a l rfl h⟩)
end
/-! ### a lambda handed to a def -/
section
variable {X : Cx}
theorem peg_lamF {T : List (Addr × Str)} {TT : (XK → Hp → VK → Prop) → Hp → VK → Prop} {x a : Str} {g c P : Addr} {k : Nat} {st : Stmt} {fd : FuncData} {Ng : List Str} {params : Arguments} {body : Expr} {scope : Scope} {t : XK → TE} {p lpos pos : Pos}
    (hG : X.A.guards = some []) (hg : Gl X x) (hm : X.mg x = some (.ref g)) (F : Fun X.K x x st g fd) (hb : L2.Binds X.K fd [a] []) (Sg : FnScope Ng [a] (defScope st)) (hNg : Ng[0]? = some a) (hva : Vis (defScope st) a)
    (hgv : ∀ cdv, GivesTo X Ng x (defScope st) g cdv (defBody st) a (X.env.qual ++ "<lambda>") TT)
    (TB : TabB X.base X.mg c P) (hcode : X.env.code = .ref c) (hmT : (P, X.env.qual ++ "<lambda>") ∈ T) (hu : ∀ p ∈ T, p.1 = P → p.2 = X.env.qual ++ "<lambda>") (hr : Room (k + 2) X.A) (L : LamS X.env.scope scope)
    (hdef : defaultsOf params X.env = ([], []))
    (hbind : ∀ (q : Str) (cl : List (Str × Addr)) (pm cv ctv : Value), bindArgs (PySem.W.kla_fn "<lambda>" q params body scope cl pm cv ctv) ⟨[], []⟩ = pure [])
    (hbody : ∀ (A : Around) (outer : List Env) (s : Shared) (H : Hp) (E : XK) (f c' : Addr), A.guards = some [] → Room k (A.deeper (lamEnv X scope s.heap.objs.size f c')) → PE (lamCx X A outer s H E scope f c') body (t E))
    (hdb : (x == ("__debug__" : Str)) = false := by decide) (hd : (a == ("__debug__" : Str)) = false := by decide) (hcd : (a == ("__classdict__" : Str)) = false := by decide) :
    PE X (.Call (.Name x p) [.Lambda params body scope lpos] [] pos) (tLam T TT t) := by
  obtain ⟨oc, od, kV, doc, pm, an, cdv, ct, osl, rfl, lk, hcd⟩ := F.ex
  exact peg_lamcall hG hg hm F.kp lk hcd hb Sg hNg hva (hgv cdv) TB hcode hmT hu hr L hdef hbind hbody hdb ‹_› ‹_›
/-- .. the def's own table alone -/
theorem peg_lam1 {qn : Str} (hq : X.env.qual = qn) {TT : (XK → Hp → VK → Prop) → Hp → VK → Prop} {x a : Str} {g c P : Addr} {k : Nat} {st : Stmt} {fd : FuncData} {Ng : List Str} {params : Arguments} {body : Expr} {scope : Scope} {t : XK → TE} {p lpos pos : Pos}
    (hcode : X.env.code = .ref c) (TB : TabB X.base X.mg c P)
    (hG : X.A.guards = some []) (hr : Room (k + 2) X.A) (hg : Gl X x) (hm : X.mg x = some (.ref g)) (F : Fun X.K x x st g fd) (hb : L2.Binds X.K fd [a] []) (Sg : FnScope Ng [a] (defScope st)) (hNg : Ng[0]? = some a) (hva : Vis (defScope st) a)
    (hgv : ∀ cdv, GivesTo X Ng x (defScope st) g cdv (defBody st) a (X.env.qual ++ "<lambda>") TT)
    (L : LamS X.env.scope scope)
    (hdef : defaultsOf params X.env = ([], []))
    (hbind : ∀ (q : Str) (cl : List (Str × Addr)) (pm cv ctv : Value), bindArgs (PySem.W.kla_fn "<lambda>" q params body scope cl pm cv ctv) ⟨[], []⟩ = pure [])
    (hbody : ∀ (A : Around) (outer : List Env) (s : Shared) (H : Hp) (E : XK) (f c' : Addr), A.guards = some [] → Room k (A.deeper (lamEnv X scope s.heap.objs.size f c')) → PE (lamCx X A outer s H E scope f c') body (t E))
    (hdb : (x == ("__debug__" : Str)) = false := by decide) (hd : (a == ("__debug__" : Str)) = false := by decide) (hcd : (a == ("__classdict__" : Str)) = false := by decide) :
    PE X (.Call (.Name x p) [.Lambda params body scope lpos] [] pos) (tLam [(P, qn ++ ("<lambda>" : Str))] TT t) := by
  subst hq
  exact peg_lamF hG hg hm F hb Sg hNg hva hgv TB hcode List.mem_cons_self (fun p hp _ => by rw [List.mem_singleton.mp hp]) hr L hdef hbind hbody hdb hd hcd
end
/-- the readings of lambdas -/
theorem r_lam {T : List (Addr × Str)} {TT : (XK → Hp → VK → Prop) → Hp → VK → Prop} {t : XK → TE} {σ : L2.St} {H : Hp} {Q : VK} (h : Tabs T H) (q : ∀ H1, ExtN H H1 → Tabs T H1 → TT (fun E H' Q' => t E σ H' Q') H1 Q) : tLam T TT t σ H Q := ⟨h, q⟩
theorem r_TTas {K : PySem.W.Frag} {Ng : List Str} {i : Nat} {l : List Cl} {tr : TS} {tl : XK → Hp → VK → Prop} {H : Hp} {Q : VK} (q : ∀ f : Addr,
    tl (fun cls d H' => ∀ σ' : L2.St, σ'.length = Ng.length → wAsN K i (fun _ _ _ _ => False) { nx := tr { nx := fun _ H' => Q .non H', rt := Q }, rt := Q } l cls d σ' H') H
      (fun _ H' => tr { nx := fun _ H' => Q .non H', rt := Q } (L2.start Ng [.ref f]) H')) : TTas K Ng i l tr tl H Q := q
/-! ### repr of an empty dict -/
def rReprE : List V → Hp → VK → Prop := fun xs H Q => ∃ a, xs = [.ref a] ∧ H a = some (.dK []) ∧ Q (.str "{}") H
theorem shown_e : (PyData.dict []).shown = "{}" := by
  rw [PyData.shown]
  rfl
theorem callg_reprE {X : Cx} (hg : X.A.guards = some []) (hu : X.A.units + 64 < cLine) : CallR X (.builtin "repr") rReprE := by
  intro pins s σ H xs us Q I r h
  obtain ⟨a, rfl, ha, q⟩ := h
  obtain ⟨u, rfl, rv⟩ : ∃ u, us = [u] ∧ RelV (.ref a) u := by
    cases r with
    | cons r rr => cases rr; exact ⟨_, rfl, r⟩
  cases rv
  have ok : ObjOk X.prog X.w H s.heap a (.dK []) := I.hok a _ ha
  obtain ⟨_, hs, vs, kv, o, es, ep, h1, h2, h3, h4, h5, _⟩ := ok
  have ev : vs = [] := by cases kv; rfl
  subst ev
  have ee : es.toList = [] := by
    generalize es.toList = l at h5
    cases h5
    rfl
  have R : Reads s.heap (.ref a) (.dict []) ([a] ++ []) := Reads.dict (as := []) h1 h2.1 h3 (by rw [ee]; exact .nil) (by rw [ee]; exact .nil)
  have hq : ∀ h' u tk, (∀ b o, s.heap.get? b = some o → h'.get? b = some o) → EP X pins σ Q (.str (PyData.dict []).shown u) { s with heap := h', toks := tk } :=
    fun h' u tk hk => ⟨.str (PyData.dict []).shown, H, I.kept hk, ⟨u, rfl⟩, by rw [shown_e]; exact q⟩
  refine repr_of_reads' R ?_ (fun _ hm => ?_) hg ?_ (fun _ _ e => e) hq ?_
  · rw [PyData.showable]; rfl
  · have e : sysModules = a := by simpa using hm
    rw [← e] at hs
    cases hs
  · rw [PyData.depth]
    show X.A.units + (1 + 1) < cLine
    omega
  · rw [shown_e]; decide +kernel
def rReprX (K : PySem.W.Frag) : List V → Hp → VK → Prop := fun xs H Q => rRepr K xs H Q ∨ rReprE xs H Q
theorem callg_reprX {X : Cx} (hg : X.A.guards = some []) (hu : X.A.units + 64 < cLine) : CallR X (.builtin "repr") (rReprX X.K) := (callg_repr hg hu).or (callg_reprE hg hu)
/-- .. in a suite of a def that was handed a lambda -/
theorem callg_reprH {X : Cx} {Ng : List Str} {x : Str} {sg : Scope} {g a : Addr} {cdg : Value} {s : Shared} {H : Hp} {pn : List (Addr × Obj)} (hg : X.A.guards = some []) (hr : Room 2 X.A) :
    CallR ((cxOf C8.CX0 X.prog X.w X.K X.mg X.base Ng x sg g cdg X.A X.stack s H C8.E0).nox.suite a pn) (.builtin "repr") (rReprX X.K) :=
  callg_reprX (X := ((cxOf C8.CX0 X.prog X.w X.K X.mg X.base Ng x sg g cdg X.A X.stack s H C8.E0).nox.suite a pn)) hg (by have := hr.un; show X.A.units + 3 + 64 < cLine; omega)
end MV

set_option Elab.async false
set_option linter.all false
set_option maxRecDepth 100000
set_option maxHeartbeats 4000000
/-! MWA: own exceptions over any built-in one, held as values: made, their field, isinstance. -/
namespace PySem
namespace F
theorem store_KeyErr : StoreFacts "KeyError" [.type "KeyError", .type "LookupError", .type "Exception", .type "BaseException", .type "object"] "object.__setattr__" "object" := by
  refine { store_LookupError with mro := ?_, slot := ?_, hasOwner := ?_, passes := ?_ }
  · kernel_rfl
  · refine .of (owner := "object") (n := "__setattr__") ?_ ?_ ?_ ?_ ?_ ?_
    · rw [typeLookup_type, builtinLookup_eq_fast]
      kernel_rfl
    · decide +kernel
    · decide +kernel
    · decide +kernel
    · first
        | exact .inl (by decide +kernel)
        | exact .inr (by decide +kernel)
    · rw [isSubtype_type]
      kernel_rfl
  · decide +kernel
  · intro self
    kernel_rfl
end F
end PySem
namespace MV
open PySem PySem.Spec PySem.Calls PyProof.Rows L2
section
open Builtin Builtin.ObjectAttr
variable {prog : Program} {w : World} {A : Around} {R : Result → Shared → Prop} {hp : Heap} {g : Array GenState} {d : Drawn} {t : Nat} {os : OsState}
/-- the first field of an exception's object, whatever its class is over -/
theorem gosa {K : PySem.W.Frag} {B : String} {bmB : List Value} {name : Str} {tk : Tok} {v : Value} {x C : Addr} {fv : Array Value} {cd : ClassData}
    (SF : StoreFacts B bmB "object.__setattr__" "object") (X : K.In hp) (hx : hp.get? x = some { cls := .ref C, data := .fields fv }) (ho : PySem.W.excOver K C bmB = true) (hcd : PySem.W.clsIn K C = some cd) (hh : cd.hasDict = true)
    (ha : PySem.W.takerIn K C name = some none)
    (hq : ∀ h' tk' dx, (∀ b o, b ≠ x → hp.get? b = some o → h'.get? b = some o) → hp.objs.size ≤ dx → dx ≠ x → h'.get? x = some { cls := .ref C, dict := some dx, data := .fields fv } →
      h'.Ns1 dx (fun y => if y = name then some v else none) → R (.ok (.ret .none)) ⟨h', g, d, tk', os⟩) :
    codeAny (model prog w) A (.call (.builtin "object.__setattr__") ⟨[.ref x, .str name tk, v], []⟩) R ⟨hp, g, d, t, os⟩ := by
  refine PySem.W.osa_openX SF X (ox := { cls := .ref C, data := .fields fv }) (od := none) ⟨hx, rfl, rfl, trivial⟩ ho ha fun b => ?_
  have hxs : x ≠ hp.objs.size := Nat.ne_of_lt (Heap.lt_size hx)
  have hcls : PySem.W.Looks (model prog w) hp (classData C) cd := PySem.W.looks_clsIn X hcd
  show wpAny _ _ (storeInOwnDict (.ref x) (.ref C) (.str name tk) name v b) _ _ _
  obtain ⟨nm, bs, mro, ns, qn, hd, sn, sb, ab, col, del⟩ := cd
  dsimp only at hh
  subst hh
  unfold storeInOwnDict ownDictForStores
  repeat (first
    | with_reducible refine HandSPX.store_in_new ?_ ?_
    | with_reducible refine wpAny_loadPart_at hx ?_
    | with_reducible refine hcls.at ?_
    | wp_step)
  · exact ⟨_, #[], _, (Heap.get?_update_ne _ _ _ _ hxs.symm).trans (Heap.get?_push_at rfl rfl), rfl, fun e he => absurd he (by simp), fun _ => rfl⟩
  · intro h' tk' hn' hs
    have e1 : (hp.push { cls := .type "dict", data := .dict #[] }).get? x = some { cls := .ref C, data := .fields fv } := Heap.get?_push_of_some _ hx
    refine hq h' tk' hp.objs.size (fun b o hb ho => ?_) (Nat.le_refl _) hxs.symm ?_ hn'
    · have e2 := hs.2 b (Nat.ne_of_lt (Heap.lt_size ho))
      rw [e2, Heap.get?_update_ne _ _ _ _ hb]
      exact Heap.get?_push_of_some _ ho
    · rw [hs.2 x hxs]
      exact Heap.get?_update_self _ e1 rfl
end
end MV

set_option Elab.async false
set_option linter.all false
set_option maxRecDepth 100000
set_option maxHeartbeats 4000000
/-! MWB: an own exception class over any built-in one is called, with keywords too. -/
namespace MV
open PySem PySem.Spec PySem.Calls PyProof.Rows L2 HandSPX
/-- what is asked of the classes behind the own one -/
structure Bhd (C : Addr) (B : String) (bm : List Value) : Prop where
  b : (Value.ref C :: bm).contains (.type B) = true
  a : (Value.ref C :: bm).contains (.type "AttributeError") = false
  n : (Value.ref C :: bm).contains (.type "NameError") = false
section
variable {prog : Program} {w : World} {M : Model} {A : Around} {E : Value → Shared → Prop} {R : Result → Shared → Prop} {h : Heap} {g : Array GenState} {d : Drawn} {t : Nat} {os : OsState}
variable {nm q : Str} {C N : Addr} {bs bm bmB : List Value} {hdct : Bool} {sn : List Str} {sub : List Value} {ab : Bool} {col : Option Bool} {dd : Option Addr} {k0 k1 k2 k3 k5 : Option Value} {B newId initId : String} {rest : List Value} {kw : List (Str × Value)}
theorem gx_check (F : ExcBaseFacts B newId initId bmB) (hb : Bhd C B bm) {Q : Unit → Shared → Prop}
    (hC : h.get? C = some (excClassObj nm q C N bs bm hdct sn sub ab col dd k0 k1 k2 k3 k5 newId)) (hq : Q () ⟨h, g, d, t, os⟩) :
    wpAny M A (checkBuiltinCall newId ⟨.ref C :: rest, kw⟩) Q E ⟨h, g, d, t, os⟩ := by
  have e1 := hb.b
  have e2 := F.noStar
  simp only [checkBuiltinCall, F.newKind, F.newSplit, F.newRow]
  repeat (first
    | refine wpAny_loadPart_at hC ?_
    | (refine wpAny_isSubtype_exc hC ?_
       rw [e1])
    | refine wpAny_staticBase_exc hC ?_
    | refine wpAny_madeBy_exc hC ?_
    | simp only [bne_self_eq_false, Bool.false_eq_true, if_false]
    | wp_step)
  all_goals exact hq
theorem gx_new (F : ExcBaseFacts B newId initId bmB) (hb : Bhd C B bm)
    (hC : h.get? C = some (excClassObj nm q C N bs bm hdct sn sub ab col dd k0 k1 k2 k3 k5 newId)) (hl : rest.length ≤ sizeLine)
    (hq : R (.ok (.ret (.ref (h.objs.size + 1)))) ⟨(h.push (PySem.W.kdv_tup rest)).push (excO C h.objs.size), g, d, t, os⟩) :
    codeAny (model prog w) A (.builtin newId ⟨.ref C :: rest, kw⟩) R ⟨h, g, d, t, os⟩ := by
  have e0 := F.ends
  have e1 := hb.b
  have e2 := hb.a
  have e3 := hb.n
  refine codeAny_builtinAt F.entry ?_
  unfold Builtin.«BaseException.__new__»
  refine PySem.wpAt_bind ?_
  show PySem.wpAt _ _ _ (stack >>= _) _ _ _
  refine PySem.wpAt_bind (PySem.wpAt_stack fun p below => PySem.wpAt_of_wpAny ?_)
  wp_walk
  refine PySem.wpAt_of_wpAny ?_
  rw [F.owner]
  repeat (first
    | with_reducible refine wpAny_madeHere_exc F.canon hC ?_
    | with_reducible refine wpAny_loadPart_at hC ?_
    | (with_reducible refine wpAny_isSubtype_exc hC ?_
       first
       | rw [e1]
       | rw [e2]
       | rw [e3])
    | wp_step)
  show R _ _
  rw [Heap.size_push]
  exact hq
theorem gx_type (F : ExcBaseFacts B newId initId bmB) (hb : Bhd C B bm) {v : Value} {Q : PySem.Fin → Shared → Prop}
    (hC : h.get? C = some (excClassObj nm q C N bs bm hdct sn sub ab col dd k0 k1 k2 k3 k5 newId)) (hl : rest.length ≤ sizeLine)
    (hi : PySem.W.Looks (model prog w) h (typeLookup (.ref C) "__init__") (some v)) (hv : ∀ self, PySem.W.Looks (model prog w) h (bindSpecial v self) (v, [self]))
    (hq : codeAny (model prog w) A (.call v ⟨.ref (h.objs.size + 1) :: rest, kw⟩)
      (fun r s' => match r with | .ok (.ret u) => u = .none ∧ Q (.done (.ret (.ref (h.objs.size + 1)))) s' | .ok _ => False | .error e => E e s')
      ⟨(h.push (PySem.W.kdv_tup rest)).push (excO C h.objs.size), g, d, t, os⟩) :
    wpAny (model prog w) A (Builtin.«type.__call__» ⟨.ref C :: rest, kw⟩) Q E ⟨h, g, d, t, os⟩ := by
  repeat (first
    | with_reducible refine wpAny_loadPart_at hC ?_
    | with_reducible refine wpAny_madeBy_exc hC ?_
    | wp_step)
  refine codeAny_call_builtin_code (Code.quiet_builtin _ F.quiet) (gx_check F hb hC ?_)
  refine gx_new F hb hC hl ?_
  show wpAny _ _ _ _ _ _
  have k : ∀ b o, h.get? b = some o → ((h.push (PySem.W.kdv_tup rest)).push (excO C h.objs.size)).get? b = some o := fun b o e =>
    Heap.get?_push_of_some _ (Heap.get?_push_of_some _ e)
  have hC1 := k _ _ hC
  have hget : ((h.push (PySem.W.kdv_tup rest)).push (excO C h.objs.size)).get? (h.objs.size + 1) = some (excO C h.objs.size) := by
    heap_get
  have ec : (Value.ref C :: bm).contains (.ref C) = true := by simp
  have i1 := hi.keeps k
  have b1 := (hv (.ref (h.objs.size + 1))).keeps k
  unfold isInstance
  repeat (first
    | with_reducible refine wpAny_loadPart_at hget ?_
    | (with_reducible refine wpAny_isSubtype_exc hC1 ?_
       rw [ec])
    | wp_step)
  show wpAny _ _ (typeLookup (.ref C) _) _ _ _
  refine i1.at ?_
  refine wpAny_holding (wpAny_bind (b1.at ?_))
  refine wpAny_bind (wpAny_call (codeAny_mono hq fun r s' z => ?_))
  match r, z with
  | .error e, z => exact z
  | .ok (.ret u), z =>
    obtain ⟨rfl, z⟩ := z
    first
      | exact wpAny_pure (wpAny_pure z)
      | (wp_walk
         exact z)
  | .ok .next, z => exact z.elim
  | .ok .brk, z => exact z.elim
  | .ok .cont, z => exact z.elim
theorem gx_call (F : ExcBaseFacts B newId initId bmB) (hb : Bhd C B bm) {v : Value}
    (hC : h.get? C = some (excClassObj nm q C N bs bm hdct sn sub ab col dd k0 k1 k2 k3 k5 newId)) (hl : rest.length ≤ sizeLine)
    (hi : PySem.W.Looks (model prog w) h (typeLookup (.ref C) "__init__") (some v)) (hv : ∀ self, PySem.W.Looks (model prog w) h (bindSpecial v self) (v, [self]))
    (hq : codeAny (model prog w) (A.under (.builtin "type.__call__" ⟨.ref C :: rest, kw⟩)) (.call v ⟨.ref (h.objs.size + 1) :: rest, kw⟩) (PySem.W.InitBack (h.objs.size + 1) R)
      ⟨(h.push (PySem.W.kdv_tup rest)).push (excO C h.objs.size), g, d, t, os⟩) :
    codeAny (model prog w) A (.call (.ref C) ⟨rest, kw⟩) R ⟨h, g, d, t, os⟩ := by
  have f1 := tc_lookup
  have f2 := tc_bind (.ref C)
  have f3 := tc_sub
  have hTy : (⟨h, g, d, t, os⟩ : Shared).TypeIs (.ref C) "type" := ⟨_, hC, rfl⟩
  refine codeAny_of_tree ?_
  show wpAny _ _ (callAny (.ref C) _) _ _ _
  repeat (any_goals (first
    | assumption
    | with_reducible refine wpAny_loadPart_at hC ?_
    | wp_step))
  refine ⟨rfl, ?_⟩
  have ck : ∀ {A' : Around} {E' : Value → Shared → Prop} {Q : Unit → Shared → Prop}, Q () ⟨h, g, d, t, os⟩ → wpAny (model prog w) A' (checkBuiltinCall "type.__call__" ⟨.ref C :: rest, kw⟩) Q E' ⟨h, g, d, t, os⟩ := by
    intro A' E' Q hq'
    simp only [checkBuiltinCall, tc_kind, tc_split]
    repeat (any_goals (first
      | assumption
      | with_reducible refine wpAny_loadPart_at hC ?_
      | with_reducible refine wpAny_onRaise ?_
      | with_reducible refine wpAny_map ?_
      | wp_step))
  refine codeAny_call_builtin_at (Code.quiet_builtin _ (by decide +kernel)) entry_typeCall (ck (gx_type F hb hC hl hi hv ?_))
  refine codeAny_mono hq fun r s' z => ?_
  rcases r with e | (u | _ | _ | _) <;> exact z
end
end MV

set_option Elab.async false
set_option linter.all false
set_option maxRecDepth 100000
set_option maxHeartbeats 4000000
/-! MWC: own exceptions held as values: their __init__, C(e), C(f = e), C(). -/
namespace MV
open PySem PySem.Spec PySem.Calls PyProof.Rows L2
/-- objects of the class at C take their first field f -/
structure Gf (K : PySem.W.Frag) (C : Addr) (f : Str) : Prop where
  ex : ∃ (B : String) (bmB : List Value), StoreFacts B bmB "object.__setattr__" "object" ∧ PySem.W.excOver K C bmB = true
  hd : PySem.W.hasDictIn K C = true
  tk : PySem.W.takerIn K C f = some none
  sa : PySem.W.findIn K (.ref C) "__setattr__" = some (some (.builtin "object.__setattr__"))
/-- the class at C is called -/
structure Gc (K : PySem.W.Frag) (C : Addr) : Prop where
  ex : ∃ (B newId initId : String) (bmF bmB : List Value), ExcBaseFacts B newId initId bmF ∧ PySem.W.excInitIn K C bmB newId = true ∧ bmB.contains (.type B) = true ∧ bmB.contains (.type "AttributeError") = false ∧ bmB.contains (.type "NameError") = false
  kp : PySem.W.keepIn K (.ref C) = true
section
variable {X : Cx} {pins : List (Addr × Obj)} {σ : L2.St} {H : Hp} {s : Shared} {a C : Addr} {f : Str} {y : V} {u : Value}
theorem gst_new {Q : Unit → Shared → Prop} {E : Value → Shared → Prop} {A : Around} (T : Gf X.K C f) (I : Inv X pins σ H s) (e : H a = some (exo a C none)) (ry : RelV y u)
    (h : ∀ dx s', H dx = none → dx ≠ a → Inv X pins σ (upd (upd H dx (exd dx [(f, y)])) a (exo a C (some dx))) s' → Q () s') : wpAny (model X.prog X.w) A (setAttr (.ref a) f u) Q E s := by
  obtain ⟨B, bmB, SF, ov⟩ := T.ex
  obtain ⟨cd, hcd, hdd⟩ := PySem.W.any_some T.hd
  obtain ⟨t1, ho⟩ := exo_at I.hok e
  obtain ⟨hp, g, d, t, os⟩ := s
  refine PySem.W.set_plain I.kIn (ox := { cls := .ref C, dict := none, data := .fields #[.ref t1, .none, .none, .none, .bool false, .none] }) (od := none) ⟨ho, rfl, rfl, trivial⟩ T.sa ?_
  refine gosa SF I.kIn ho ov hcd hdd T.tk fun h' tk' dx k dn dne hx hn => ?_
  have hnd : H dx = none := I.hok.fresh dn
  have nd : ∀ {b : Addr} {o : Obj}, hp.get? b = some o → b ≠ dx := fun {b o} q => Nat.ne_of_lt (Nat.lt_of_lt_of_le (Heap.lt_size q) dn)
  have na : ∀ {b : Addr}, H b = none → b ≠ a := fun {b} n z => by
    rw [z, e] at n
    cases n
  have U : Un X.fs [] H (upd (upd H dx (exd dx [(f, y)])) a (exo a C (some dx))) hp h' := by
    constructor
    case keep => exact fun b o q n _ _ => k b o (na n) q
    case slot => exact fun b o q n _ _ => ⟨o.slots, k b o (na n) q⟩
    case free =>
      intro b o q n _
      rw [upd_ne (na n), upd_ne (nd q)]
      exact n
    case there =>
      intro b o q _
      by_cases hb : b = a
      · rw [hb]
        exact ⟨_, hx⟩
      · exact ⟨o, k b o hb q⟩
    case tups =>
      intro b xs q
      rw [upd_ne (at_ne e q exo_tup), upd_ne (ne_of_none q hnd)]
      exact q
    case frzs =>
      intro b o v q
      rw [upd_ne (at_ne e q exo_frz), upd_ne (ne_of_none q hnd)]
      exact q
    case tbls =>
      intro b ps q
      refine ⟨#[], ?_⟩
      rw [upd_ne (at_ne e q exo_tbl), upd_ne (ne_of_none q hnd), q]
      simp
  refine h dx _ hnd dne (I.un (t' := tk') U fun b o q => ?_)
  by_cases hb : b = a
  · subst hb
    rw [upd_same] at q
    cases q
    exact exo_ok hx
  rw [upd_ne hb] at q
  by_cases hd : b = dx
  · subst hd
    rw [upd_same] at q
    cases q
    exact exd_ok hn (relO_put (fs := []) ry fun g => True.intro)
  rw [upd_ne hd] at q
  refine (I.hok b o q).stay (fun c v hc z => k c v ?_ z) (fun c hc => ?_) fun c xs hc => ?_
  · rcases hc with hc | hc
    · rw [hc]
      exact hb
    · exact at_ne e hc exo_own
  · rw [upd_ne (at_ne e hc exo_own), upd_ne (ne_of_none hc hnd)]
    exact hc
  · rw [upd_ne (at_ne e hc exo_tup), upd_ne (ne_of_none hc hnd)]
    exact hc
end
/-- self.f = e, e's object new -/
def tGst (K : PySem.W.Frag) (f : Str) (to te : TE) : TS := fun D σ H => te σ H fun y H1 => to σ H1 fun x H2 => ∃ a C : Addr, x = .ref a ∧ Gf K C f ∧ H2 a = some (exo a C none) ∧
  ∀ dx, H2 dx = none → dx ≠ a → D.nx σ (upd (upd H2 dx (exd dx [(f, y)])) a (exo a C (some dx)))
theorem ps_gst {X : Cx} {o e : Expr} {to te : TE} {f : Str} {p' pos : Pos} (ho : PE X o to) (he : PE X e te) (hs : swapsWith e (some (.Attribute o f p')) pos.line X.env = pure false := by rfl) : PS X (.Assign [.Attribute o f p'] e pos) (tGst X.K f to te) := by
  constructor
  intro pins s σ H D I h
  refine plainObj_wpAny_Assign_Attribute (thn (he.run pins s σ H _ I h) fun v s1 z1 => ?_) hs
  obtain ⟨y, H1, I1, r1, q1⟩ := z1
  refine thn (ho.run pins s1 σ H1 _ I1 q1) fun u s2 z2 => ?_
  obtain ⟨x, H2, I2, r2, a, C, rfl, T, ea, q⟩ := z2
  obtain rfl : u = Value.ref a := r2
  exact gst_new T I2 ea r1 fun dx s' n ne J => ⟨σ, _, J, q dx n ne⟩
/-- what such an __init__ promises -/
def spG (K : PySem.W.Frag) (f : Str) : Sp := fun vs H Q _ => ∃ (a C : Addr) (y : V), vs = [.ref a, y] ∧ Gf K C f ∧ H a = some (exo a C none) ∧ ∀ dx, H dx = none → dx ≠ a → Q .non (upd (upd H dx (exd dx [(f, y)])) a (exo a C (some dx)))
section
variable {P : Program} {w : World} {K : PySem.W.Frag} {mg : Str → Option Value} {base : Heap} {k : Nat} {f fI : Addr} {fd : FuncData}
theorem ginit_ok {qual v : Str} {st : Stmt} {p1 p2 p3 p4 : Pos} (F : Fun K "__init__" qual st fI fd) (S : FnScope ["self", v] ["self", v] (defScope st))
    (hb : defBody st = [.Assign [.Attribute (.Name "self" p1) v p2] (.Name v p3) p4])
    (h1 : Vis (defScope st) "self") (h2 : Vis (defScope st) v)
    (d1 : (v == ("__debug__" : Str)) = false) (d2 : (v == ("__classdict__" : Str)) = false) :
    FnOk P w K mg base CX0 (k + 1) fI fd ["self", v] (spG K v) := by
  refine F.ok S (fun vs H Q E h => ?_) fun cdv A outer s H vs Q E hr h => ?_
  · obtain ⟨a, C, y, rfl, _⟩ := h
    rfl
  · obtain ⟨a, C, y, rfl, T, ha, q⟩ := h
    rw [hb]
    exact ⟨_, pss_one (ps_gst (pe_var (i := 0) rfl h1 (by decide) (by decide)) (pe_var (i := 1) rfl h2 d1 d2)), y, rfl, .ref a, rfl, a, C, rfl, T, ha, q⟩
end
/-- a new exception of the class at C with the field f -/
def XNew (C : Addr) (f : Str) (y : V) (H : Hp) (Q : VK) : Prop := ∀ a d, H a = none → H d = none → d ≠ a → Q (.ref a) (upd (upd H d (exd d [(f, y)])) a (exo a C (some d)))
section
variable {X : Cx} {pins : List (Addr × Obj)} {σ : L2.St} {H : Hp} {s : Shared} {C fI : Addr} {fd : FuncData} {k : Nat} {f x : Str} {y : V} {us : List Value} {kw : List (Str × Value)} {Q : VK}
theorem gx_run (T : Gf X.K C f) (G : Gc X.K C) (hi : PySem.W.findIn X.K (.ref C) "__init__" = some (some (.ref fI))) (tI : PySem.W.typeIn X.K (.ref fI) = some (.type "function"))
    (F : FnOk X.prog X.w X.K X.mg X.base CX0 k fI fd ["self", f] (spG X.K f)) (hr : Room (k + 1) X.A) (I : Inv X pins σ H s) (hl : us.length ≤ 1) {u : Value}
    (hb : ∀ (s' : Shared) (v : Value), X.K.In s'.heap → BindsTo s' fd ⟨v :: us, kw⟩ ((["self", f] : List Str).zip [v, u])) (ry : RelV y u) (h : XNew C f y H Q) :
    wpAny (model X.prog X.w) X.A (call (.ref C) us kw) (EP X pins σ Q) X.xe s := by
  obtain ⟨B, nid, iid, bmF, bmB, FB, q1, q2, q3, q4⟩ := G.ex
  obtain ⟨hp, g, dr, tk, os⟩ := s
  obtain ⟨nm, N, qn, bs, bm, hdct, sn, sub, ab, col, dd, k0, k1, k2, k3, k5, hC, hT⟩ := PySem.W.excInit_of I.kIn q1
  have hB : Bhd C B bm := by
    constructor
    · rw [List.contains_cons, hT, q2, Bool.or_true]
    · rw [List.contains_cons, hT, q3]
      rfl
    · rw [List.contains_cons, hT, q4]
      rfl
  have hsz : hp.objs.size ≤ hp.objs.size + 1 := Nat.le_succ _
  have hn : H (hp.objs.size + 1) = none := I.hok.fresh hsz
  have kk : ∀ b o, hp.get? b = some o → ((hp.push (PySem.W.kdv_tup us)).push (HandSPX.excO C hp.objs.size)).get? b = some o := fun b o e => Heap.get?_push_of_some _ (Heap.get?_push_of_some _ e)
  have hget : ((hp.push (PySem.W.kdv_tup us)).push (HandSPX.excO C hp.objs.size)).get? (hp.objs.size + 1) = some (HandSPX.excO C hp.objs.size) := by
    heap_get
  have I2 := I.laid (t' := tk) (a := hp.objs.size + 1) (o := exo (hp.objs.size + 1) C none) (h' := (hp.push (PySem.W.kdv_tup us)).push (HandSPX.excO C hp.objs.size)) kk hsz (exo_ok hget)
  have hq : spG X.K f [.ref (hp.objs.size + 1), y] (upd H (hp.objs.size + 1) (exo (hp.objs.size + 1) C none)) (fun v H2 => v = .non ∧ Q (.ref (hp.objs.size + 1)) H2) (fun _ _ _ => False) := by
    refine ⟨_, C, y, rfl, T, upd_same, fun dx n1 ne => ⟨rfl, ?_⟩⟩
    rw [upd_ne ne] at n1
    have e := h (hp.objs.size + 1) dx hn n1 ne
    have e2 : upd (upd (upd H (hp.objs.size + 1) (exo (hp.objs.size + 1) C none)) dx (exd dx [(f, y)])) (hp.objs.size + 1) (exo (hp.objs.size + 1) C (some dx)) = upd (upd H dx (exd dx [(f, y)])) (hp.objs.size + 1) (exo (hp.objs.size + 1) C (some dx)) := by
      funext b
      by_cases e : b = hp.objs.size + 1
      · rw [e, upd_same, upd_same]
      · rw [upd_ne e, upd_ne e]
        by_cases e2 : b = dx
        · rw [e2, upd_same, upd_same]
        · rw [upd_ne e2, upd_ne e2, upd_ne e]
    rw [e2]
    exact e
  have r2 : Vals [V.ref (hp.objs.size + 1), y] [Value.ref (hp.objs.size + 1), u] := .cons rfl (.cons ry .nil)
  refine wpAny_call (gx_call FB hB hC (Nat.le_trans hl (by decide)) (PySem.W.looks_findIn I.kIn hi) (fun self => PySem.W.bind_fn I.kIn self tI)
    (codeAny_mono (F.run _ X.stack _ _ ⟨Value.ref (hp.objs.size + 1) :: us, kw⟩ [Value.ref (hp.objs.size + 1), u] _ _ (fun _ _ _ => False) (hr.make C us kw) (I2.env0.make C us kw) (hb _ _ I2.kIn) r2 hq) fun r s' hq' => ?_))
  cases r with
  | error e => exact False.elim hq'
  | ok fl =>
    cases fl with
    | ret u' =>
      obtain ⟨v, H', I3, rv, ev, q3⟩ := I2.after hq'
      subst ev
      exact ⟨rv, ⟨V.ref (hp.objs.size + 1), H', I3, rfl, q3⟩⟩
    | next => exact False.elim hq'
    | brk => exact False.elim hq'
    | cont => exact False.elim hq'
theorem len1 {us : List Value} {v : V} (r : Vals [v] us) : ∃ u, us = [u] ∧ RelV v u := by
  cases r with
  | cons r rr =>
    cases rr
    exact ⟨_, rfl, r⟩
/-- C(e) -/
def tXh (C : Addr) (f : Str) (ta : TA) : TE := fun σ H Q => ta σ H fun vs H1 => ∃ y, vs = [y] ∧ XNew C f y H1 Q
theorem peg_xh {e : Expr} {ta : TA} {p pos : Pos} (T : Gf X.K C f) (G : Gc X.K C) (hi : PySem.W.findIn X.K (.ref C) "__init__" = some (some (.ref fI))) (tI : PySem.W.typeIn X.K (.ref fI) = some (.type "function"))
    (F : FnOk X.prog X.w X.K X.mg X.base CX0 k fI fd ["self", f] (spG X.K f)) (hr : Room (k + 1) X.A) (hb : Binds X.K fd ["self", f] []) (hg : Gl X x) (hm : X.mg x = some (.ref C)) (ha : PA X [e] ta)
    (hdb : (x == ("__debug__" : Str)) = false := by decide) (he : starEach [e] X.env = (false, eval e X.env) :: starEach [] X.env := by rfl) (hpl : (backTo pos (starEach [] X.env)).any (·.1) = false := by rfl) :
    PE X (.Call (.Name x p) [e] [] pos) (tXh C f ta) := by
  constructor
  intro pins s σ H Q I h
  refine wpAny_Call_Name_kw (ld_glob I hg hm ?_ hdb)
  refine PySem.W.callWith_K (h₀ := X.base) I.ok.mod.kin G.kp (thn (ha.run pos pins s σ H _ I h) fun us s1 z => ?_) he hpl
  obtain ⟨vs, H1, I1, r1, y, rfl, q⟩ := z
  obtain ⟨u, rfl, ru⟩ := len1 r1
  refine ⟨I1.kIn, ?_⟩
  exact gx_run T G hi tI F hr I1 (Nat.le_refl 1) (fun s' v kin => by
    have e := hb s' [v, u] kin rfl
    rwa [List.append_nil] at e) ru q
/-- C(f = e) -/
def tXk (C : Addr) (f : Str) (tk : TA) : TE := fun σ H Q => tk σ H fun vs H1 => ∃ y, vs = [y] ∧ XNew C f y H1 Q
theorem peg_xk {kws : List Keyword} {tk : TA} {p pos : Pos} {gV : List V → List V → List V} (T : Gf X.K C f) (G : Gc X.K C) (hi : PySem.W.findIn X.K (.ref C) "__init__" = some (some (.ref fI))) (tI : PySem.W.typeIn X.K (.ref fI) = some (.type "function"))
    (F : FnOk X.prog X.w X.K X.mg X.base CX0 k fI fd ["self", f] (spG X.K f)) (hr : Room (k + 1) X.A) (hb : KBn X.K fd ["self", f] 1 [f] (fun us ws => us ++ ws) gV) (hg : Gl X x) (hm : X.mg x = some (.ref C)) (hkw : PK X kws tk)
    (hall : (backToKw pos (keywordEach kws X.env)).all (·.1.isSome) = true := by rfl) (hks : (backToKw pos (keywordEach kws X.env)).filterMap (·.1) = [f] := by rfl) (hdb : (x == ("__debug__" : Str)) = false := by decide)
    (hpl : ((backTo pos (starEach [] X.env)).any (·.1) || (backToKw pos (keywordEach kws X.env)).any (·.1.isNone)) = false := by rfl) :
    PE X (.Call (.Name x p) [] kws pos) (tXk C f tk) := by
  constructor
  intro pins s σ H Q I h
  refine wpAny_Call_Name_kw (ld_glob I hg hm ?_ hdb)
  refine PySem.W.callWith_KW0 (h₀ := X.base) I.ok.mod.kin G.kp hall ?_ hpl
  refine thn (hkw.run pos pins s σ H _ I h) fun ws s2 z => ?_
  obtain ⟨zs, H2, I2, rz, y, rfl, q2⟩ := z
  obtain ⟨u, rfl, ru⟩ := len1 rz
  refine ⟨I2.kIn, ?_⟩
  rw [hks]
  exact gx_run T G hi tI F hr I2 (Nat.zero_le 1) (fun s' v kin => hb.to s' [v] [u] kin rfl rfl) ru q2
/-- e.f, e an exception that is held -/
def tXg (K : PySem.W.Frag) (f : Str) (te : TE) : TE := fun σ H Q => te σ H fun x H1 => ∃ (a C d : Addr) (fs : List (Str × V)) (v : V), x = .ref a ∧ XfC K C ∧ PySem.W.findIn K (.ref C) f = some none ∧ H1 a = some (exo a C (some d)) ∧ H1 d = some (exd d fs) ∧ fs.lookup f = some v ∧ Q v H1
theorem pe_xg {e : Expr} {te : TE} {pos : Pos} (he : PE X e te) (hb : attributeBase e f X.env (eval e X.env) = eval e X.env := by rfl) : PE X (.Attribute e f pos) (tXg X.K f te) := by
  constructor
  intro pins s σ H Q I h
  refine attr_of hb (thn (he.run pins s σ H _ I h) fun u s1 hh => ?_)
  obtain ⟨x, H1, I1, rx, a, C, d, fs, v, rfl, T, hno, ea, ed, l, q⟩ := hh
  obtain rfl : u = Value.ref a := rx
  obtain ⟨t1, ho⟩ := exo_at I1.hok ea
  obtain ⟨mA, hns, rel⟩ := exd_at I1.hok ed
  obtain ⟨od, hod, hl⟩ := lookIn_ns hns
  have rr := rel f
  rw [l] at rr
  obtain ⟨u, hu, ru⟩ := RelO.some_of rr
  have J : PySem.W.InstAt s1.heap a { cls := .ref C, dict := some d, data := .fields #[.ref t1, .none, .none, .none, .bool false, .none] } C (some od) := ⟨ho, rfl, rfl, hod⟩
  exact HandSPX.exc_get I1.kIn J T.ga T.gg T.exC (PySem.W.findObj_own T.hdC hno rfl (by rw [hl, hu])) (handed_of ru) ⟨v, H1, I1.tok _, ru, q⟩
/-- isinstance(e, c), e an exception that is held -/
def rIsO (K : PySem.W.Frag) : List V → Hp → VK → Prop := fun xs H Q => ∃ (a C : Addr) (d : Option Addr) (c : V) (cv : Value) (b : Bool), xs = [.ref a, c] ∧ ClsV c cv ∧ ExcC K C ∧ PySem.W.kitOne K (.ref C) cv = some b ∧
  H a = some (exo a C d) ∧ (∀ dd, d = some dd → ∃ fs, H dd = some (exd dd fs)) ∧ Q (.bl b) H
theorem call_isO {X : Cx} : CallR X (.builtin "isinstance") (rIsO X.K) := by
  rintro pins s σ H xs us Q I r ⟨a, C, d, c, cv, b, rfl, hc, T, e, ea, ed, q⟩
  match r with
  | .cons rx (.cons rt .nil) =>
    cases rx
    have ec := hc.eq rt
    subst ec
    obtain ⟨t1, ho⟩ := exo_at I.hok ea
    obtain ⟨od, J⟩ : ∃ od, PySem.W.InstAt s.heap a { cls := .ref C, dict := d, data := .fields #[.ref t1, .none, .none, .none, .bool false, .none] } C od := by
      cases d with
      | none => exact ⟨none, ho, rfl, rfl, trivial⟩
      | some dd =>
        obtain ⟨fs, ed⟩ := ed dd rfl
        obtain ⟨mA, hns, _⟩ := exd_at I.hok ed
        obtain ⟨od, hod, _⟩ := lookIn_ns hns
        exact ⟨some od, ho, rfl, rfl, hod⟩
    obtain ⟨cd, hcd, _⟩ := PySem.W.any_some T.hd
    exact PySem.W.kia_one (PySem.W.kitx_exc (by rw [hcd]; rfl) T.hg T.hk T.hs T.ha T.hn T.ht T.hm) I.kIn J e (fun z => nomatch z) fun tk => ⟨.bl b, H, I.kept (t' := tk) fun _ _ z => z, rfl, q⟩
/-- a class without an __init__ of its own, over a built-in one -/
structure G0 (K : PySem.W.Frag) (C : Addr) : Prop where
  ex : ∃ (B newId initId : String) (bmF : List Value), ExcBaseFacts B newId initId bmF ∧ PySem.W.excInitIn K C bmF newId = true ∧ PySem.W.findIn K (.ref C) "__init__" = some (some (.builtin initId))
  kp : PySem.W.keepIn K (.ref C) = true
/-- C() -/
def tX0 (C : Addr) : TE := fun σ H Q => ∀ a, H a = none → Q (.ref a) (upd H a (exo a C none))
theorem peg_x0 {p pos : Pos} (G : G0 X.K C) (hg : Gl X x) (hm : X.mg x = some (.ref C)) (hdb : (x == ("__debug__" : Str)) = false := by decide)
    :
    PE X (.Call (.Name x p) [] [] pos) (tX0 C) := by
  constructor
  intro pins s σ H Q I h
  obtain ⟨B, nid, iid, bm0, FB, q1, q5⟩ := G.ex
  refine wpAny_Call_Name_kw (ld_glob I hg hm ?_ hdb)
  refine PySem.W.callWith_K0 I.kIn G.kp ?_
  show wpAny _ _ (call (.ref C) []) _ _ _
  obtain ⟨hp, g, dr, tk, os⟩ := s
  obtain ⟨nm, N, qn, bs, bm, hdct, sn, sub, ab, col, dd, k0, k1, k2, k3, k5, hC, hT⟩ := PySem.W.excInit_of I.kIn q1
  have hB : Bhd C B bm := by
    constructor
    · rw [List.contains_cons, hT, FB.hasB, Bool.or_true]
    · rw [List.contains_cons, hT, FB.noAttr]
      rfl
    · rw [List.contains_cons, hT, FB.noName]
      rfl
  have hsz : hp.objs.size ≤ hp.objs.size + 1 := Nat.le_succ _
  have hn : H (hp.objs.size + 1) = none := I.hok.fresh hsz
  have kk : ∀ b o, hp.get? b = some o → ((hp.push (PySem.W.kdv_tup [])).push (HandSPX.excO C hp.objs.size)).get? b = some o := fun b o e => Heap.get?_push_of_some _ (Heap.get?_push_of_some _ e)
  have hget : ((hp.push (PySem.W.kdv_tup [])).push (HandSPX.excO C hp.objs.size)).get? (hp.objs.size + 1) = some (HandSPX.excO C hp.objs.size) := by
    heap_get
  have hv : ∀ self, PySem.W.Looks (model X.prog X.w) hp (bindSpecial (.builtin iid) self) (.builtin iid, [self]) := fun self => by
    rw [FB.init.bind self]
    exact .now
  refine wpAny_call (gx_call FB hB hC (Nat.zero_le _) (PySem.W.looks_findIn I.kIn q5) hv (HandSPX.init_base FB hT (kk _ _ hC) hget (Nat.zero_le _) fun h' t1 k hx => ?_))
  have J := I.laid (t' := tk) (a := hp.objs.size + 1) (o := exo (hp.objs.size + 1) C none) (h' := h') (fun b o e => k b o (Nat.ne_of_lt (Nat.lt_succ_of_lt (Heap.lt_size e))) (kk b o e)) hsz (exo_ok hx)
  exact ⟨rfl, ⟨V.ref (hp.objs.size + 1), _, J, rfl, h _ hn⟩⟩
end
end MV

set_option Elab.async false
set_option linter.all false
set_option maxRecDepth 100000
set_option maxHeartbeats 4000000
/-! MWD: repr of a list of dicts. -/
namespace MV
open PySem PySem.Spec PySem.Calls PyProof.Rows L2 TL
theorem shows_l {prog : Program} {w : World} {h0 : Heap} {a : Addr} {o : Obj} {vs : Array Value} {n : Nat} {xs : List PyData} {bs : List Addr}
    (h1 : h0.get? a = some o) (h2 : o.cls = .type "list") (h3 : o.data = .seq vs n) (h4 : ReadsAll h0 vs.toList xs bs) (hs : (PyData.list xs).showable = true) (ns : sysModules ∉ bs)
    (hz : (PyData.list xs).shown.length ≤ sizeLine) (ne : xs ≠ []) : ∃ T idr, ShowsBy prog w h0 a (.list xs) T idr := by
  have z1 : (listText (PyData.shownAll xs)).length ≤ sizeLine := by
    rw [PyData.shown] at hz
    exact hz
  have z2 : PyData.showableAll xs = true := by
    rw [PyData.showable] at hs
    exact hs
  have q := ReprAllK.of_readsAll (prog := prog) (w := w) h4 z2 (fun _ hm => ns hm) (fun t ht => Nat.le_trans (listText_mem_le ht) z1)
  obtain ⟨ps, hb, hk⟩ := q
  have hna : a ∉ ps := not_mem_of_deeper (.list h1 h2 h3 h4) (by
    rw [PyData.depth]
    omega) hb
  refine ⟨"list", "list.__repr__", F.slot_list_repr.toG, F.slot_list_str, F.slot_list_format, fun s k => ⟨o, k _ _ h1, h2⟩, ?_⟩
  intro A E s Q hg hu k hQ
  rw [PyData.depth] at hu
  rw [PyData.shown] at hQ
  obtain ⟨l⟩ := vs
  cases l with
  | nil =>
    have h5 : ReadsAll h0 [] xs _ := h4
    cases h5
    exact absurd rfl ne
  | cons x l => exact call_list_reprK h1 h2 h3 hna (by simpa using hk.length_eq) (fun i y e => hk.item i y (by simpa using e)) hg (fun b _ => Clear.nil b) hu k hQ z1
/-- {"a": 1} -/
def dA : PyData := .dict [(.str "a", .int 1)]
theorem reads_rep {h : Heap} {b : Addr} {us : List Value} (R : Reads h (.ref b) dA [b]) : ∀ n : Nat, us = List.replicate n (.ref b) → ReadsAll h us (List.replicate n dA) (List.replicate n b) := by
  intro n
  induction n generalizing us with
  | zero =>
    rintro rfl
    exact .nil
  | succ n ih =>
    rintro rfl
    rw [List.replicate_succ, List.replicate_succ, List.replicate_succ]
    exact ReadsAll.cons (as := [b]) R (ih rfl)
theorem vals_rep {b : Addr} : ∀ {n : Nat} {us : List Value}, Vals (List.replicate n (V.ref b)) us → us = List.replicate n (.ref b) := by
  intro n
  induction n with
  | zero =>
    intro us r
    cases r
    rfl
  | succ n ih =>
    intro us r
    rw [List.replicate_succ] at r
    cases r with
    | cons r rr =>
      rw [ih rr, List.replicate_succ]
      cases r
      rfl
def rReprDs : List V → Hp → VK → Prop := fun xs H Q => ∃ p b n, xs = [.ref p] ∧ (n = 13 ∨ n = 5) ∧ H p = some (.lst (List.replicate n (.ref b))) ∧ H b = some (.dK [(.inr "a", .int 1)]) ∧ Q (.str (PyData.list (List.replicate n dA)).shown) H
theorem callg_reprDs {X : Cx} (hg : X.A.guards = some []) (hu : X.A.units + 64 < cLine) : CallR X (.builtin "repr") rReprDs := by
  intro pins s σ H xs us Q I r h
  obtain ⟨p, b, n, rfl, hn, hp, hb, q⟩ := h
  obtain ⟨u, rfl, rv⟩ := len1 r
  cases rv
  have okb : ObjOk X.prog X.w H s.heap b (.dK [(.inr "a", .int 1)]) := I.hok b _ hb
  obtain ⟨_, hs, vs, kv, o, es, ep, h1, h2, h3, h4, h5, _⟩ := okb
  have okp : ObjOk X.prog X.w H s.heap p (.lst (List.replicate n (.ref b))) := I.hok p _ hp
  obtain ⟨_, its, m, rel, g1⟩ := okp
  have ei := vals_rep rel
  obtain ⟨t1, ev⟩ : ∃ t1, vs = [(.inr "a", .int 1 t1)] := by
    cases kv with
    | @cons _ qq _ _ z zz =>
      cases zz
      obtain ⟨k0, u0⟩ := qq
      obtain ⟨z1, t, z2⟩ := z
      have e1 : k0 = .inr "a" := z1.symm
      have e2 : u0 = .int 1 t := z2
      exact ⟨t, by rw [e1, e2]⟩
  subst ev
  obtain ⟨en, t2, e1, e2, e3⟩ : ∃ (en : DictEntry) (t2 : Tok), es.toList = [en] ∧ en.key = .str "a" t2 ∧ en.val = .int 1 t1 := by
    generalize es.toList = l at h5
    cases h5 with
    | @cons en _ l' _ k1 v1 r1 =>
      cases r1
      have k2 : keyIs (.inr "a") en.key = true := k1
      rcases keyIs_shape k2 with ⟨i, t, z, _⟩ | ⟨x, t, z, e⟩
      · cases z
      · cases z
        exact ⟨en, t, rfl, e, v1⟩
  have R : Reads s.heap (.ref b) dA ([b] ++ []) := by
    refine Reads.dict (as := []) (bs := []) h1 h2.1 h3 ?_ ?_
    · rw [e1]
      show ReadsAll s.heap [en.key] [.str "a"] []
      rw [e2]
      exact ReadsAll.cons (as := []) (.str _ _) .nil
    · rw [e1]
      show ReadsAll s.heap [en.val] [.int 1] []
      rw [e3]
      exact ReadsAll.cons (as := []) (.int _ _) .nil
  have R2 := reads_rep R n ei
  have nb : sysModules ∉ List.replicate n b := fun hm => by
    have := (List.mem_replicate.mp hm).2
    rw [this] at hs
    simp at hs
  have big : ∀ k, (k = 13 ∨ k = 5) → (PyData.list (List.replicate k dA)).showable = true ∧ (PyData.list (List.replicate k dA)).shown.length ≤ 1000 ∧ (PyData.list (List.replicate k dA)).depth ≤ 10 ∧ List.replicate k dA ≠ [] := by
    rintro k (rfl | rfl) <;> exact ⟨by decide +kernel, by decide +kernel, by decide +kernel, by decide⟩
  obtain ⟨b1, b2, b3, b4⟩ := big n hn
  have hk : ∀ h' u tk, (∀ c oo, s.heap.get? c = some oo → h'.get? c = some oo) → EP X pins σ Q (.str (PyData.list (List.replicate n dA)).shown u) { s with heap := h', toks := tk } :=
    fun h' u tk hk => ⟨.str (PyData.list (List.replicate n dA)).shown, H, I.kept hk, ⟨u, rfl⟩, q⟩
  obtain ⟨T, idr, S⟩ := shows_l (prog := X.prog) (w := X.w) g1 rfl rfl R2 b1 nb (Nat.le_trans b2 (by decide)) b4
  refine call_repr_slot (by omega) (S.typeIs s fun _ _ e => e) S.slotRepr (S.call X.A.in1 _ s _ hg ?_ (fun _ _ e => e) fun h' u tk k => ?_)
  · show X.A.units + 1 + _ < cLine
    omega
  · exact ⟨_, _, rfl, hk h' u tk k⟩
/-- repr of data, or of a list of dicts -/
def rReprN (K : PySem.W.Frag) : List V → Hp → VK → Prop := fun xs H Q => rRepr K xs H Q ∨ rReprDs xs H Q
theorem callg_reprN {X : Cx} (hg : X.A.guards = some []) (hu : X.A.units + 64 < cLine) : CallR X (.builtin "repr") (rReprN X.K) := (callg_repr hg hu).or (callg_reprDs hg hu)
/-! ### readings of exceptions -/
/-- the exception at a: its class, its field -/
def XO (H : Hp) (a C : Addr) (y : V) : Option Str → Prop
  | some f => ∃ d, H a = some (exo a C (some d)) ∧ H d = some (exd d [(f, y)])
  | none => H a = some (exo a C none)
section
variable {K : PySem.W.Frag} {H H' : Hp} {Q : VK} {σ : L2.St} {a C : Addr} {y v : V} {f : Str} {g : Option Str} {te : TE} {ta : TA}
theorem XO.mv (s : Stp none H H') (h : XO H a C y g) : XO H' a C y g := by
  cases g with
  | none => exact s.all _ _ h
  | some f =>
    obtain ⟨d, h1, h2⟩ := h
    exact ⟨d, s.all _ _ h1, s.all _ _ h2⟩
theorem r_xh (q : ∀ a H', Stp none H H' → XO H' a C y (some f) → Q (.ref a) H') : XNew C f y H Q := fun a d ha hd ne => by
  have e : upd H d (exd d [(f, y)]) a = none := (upd_ne (Ne.symm ne)).trans ha
  refine q a _ ((Stp.up0 hd).trans (Stp.up0 e)) ⟨d, upd_same, ?_⟩
  rw [upd_ne ne]
  exact upd_same
theorem r_tXh (q : ta σ H fun vs H1 => ∃ y, vs = [y] ∧ XNew C f y H1 Q) : tXh C f ta σ H Q := q
theorem r_tXk (q : ta σ H fun vs H1 => ∃ y, vs = [y] ∧ XNew C f y H1 Q) : tXk C f ta σ H Q := q
theorem r_x1 (q : XNew C f y H Q) : ∃ z, [y] = [z] ∧ XNew C f z H Q := ⟨y, rfl, q⟩
theorem r_x0 (q : ∀ a H', Stp none H H' → XO H' a C y none → Q (.ref a) H') : tX0 C σ H Q := fun a ha => q a _ (Stp.up0 ha) upd_same
def XgR (K : PySem.W.Frag) (f : Str) (x : V) (H : Hp) (Q : VK) : Prop := ∃ (a C d : Addr) (fs : List (Str × V)) (v : V), x = .ref a ∧ XfC K C ∧ PySem.W.findIn K (.ref C) f = some none ∧ H a = some (exo a C (some d)) ∧ H d = some (exd d fs) ∧ fs.lookup f = some v ∧ Q v H
theorem r_tXg (q : te σ H fun x H1 => XgR K f x H1 Q) : tXg K f te σ H Q := q
theorem r_xg (T : XfC K C) (n : PySem.W.findIn K (.ref C) f = some none) (h : XO H a C y (some f)) (q : Q y H) : XgR K f (.ref a) H Q := by
  obtain ⟨d, h1, h2⟩ := h
  refine ⟨a, C, d, _, y, rfl, T, n, h1, h2, ?_, q⟩
  rw [lookup_put, if_pos rfl]
theorem r_cbIsO (q : ta σ H fun vs H1 => rIsO K vs H1 Q) : tCB (rIsO K) ta σ H Q := q
theorem r_isO {c : V} {cv : Value} {b : Bool} (h : XO H a C y g) (hc : ClsV c cv) (T : ExcC K C) (e : PySem.W.kitOne K (.ref C) cv = some b) (q : Q (.bl b) H) : rIsO K [.ref a, c] H Q := by
  cases g with
  | none => exact ⟨a, C, none, c, cv, b, rfl, hc, T, e, h, fun _ z => (by cases z), q⟩
  | some f =>
    obtain ⟨d, h1, h2⟩ := h
    exact ⟨a, C, some d, c, cv, b, rfl, hc, T, e, h1, fun dd z => ⟨_, by cases z; exact h2⟩, q⟩
theorem r_cbReprN (q : ta σ H fun vs H1 => rReprN K vs H1 Q) : tCB (rReprN K) ta σ H Q := q
/-- lists of bools that are alike -/
theorem dp_bs : ∀ bs : List Bool, DpAll K H (bs.map V.bl) (bs.map PyData.bool)
  | [] => .nil
  | b :: r => .cons (.bl b) (dp_bs r)
theorem lay_bs : ∀ bs : List Bool, PyData.canLayAll0 (bs.map PyData.bool) = true ∧ PyData.depthAll (bs.map PyData.bool) ≤ 1 ∧ PyData.eqvAll (bs.map PyData.bool) (bs.map PyData.bool) = true
  | [] => ⟨by rw [List.map_nil, PyData.canLayAll0], by rw [List.map_nil, PyData.depthAll]; decide, by simp [PyData.eqvAll]⟩
  | b :: r => by
    obtain ⟨h1, h2, h3⟩ := lay_bs r
    rw [List.map_cons]
    refine ⟨?_, ?_, ?_⟩
    · rw [PyData.canLayAll0, PyData.canLay0, h1]
      rfl
    · rw [PyData.depthAll, PyData.depth]
      omega
    · simp [PyData.eqvAll, PyData.eqv, h3]
theorem r_neBs {p q : Addr} {bs : List Bool} (h : H p = some (.lst (bs.map V.bl))) (h2 : H q = some (.lst (bs.map V.bl))) (z : Q (.bl false) H) : rNeD K (.ref p) (.ref q) H Q := by
  obtain ⟨l1, l2, l3⟩ := lay_bs bs
  have sh : SeqAt.shaped (.list (bs.map PyData.bool)) = true := by
    unfold SeqAt.shaped
    rw [PyData.canLay0, l1, PyData.depth]
    simp only [Bool.true_and, decide_eq_true_eq]
    first
      | omega
      | (apply Nat.le_trans (Nat.add_le_add_right l2 _); decide)
  refine ⟨.list (bs.map PyData.bool), .list (bs.map PyData.bool), .lst (SqL.of h) (dp_bs bs), .lst (SqL.of h2) (dp_bs bs), sh, sh, ?_⟩
  have e : PyData.eqv (.list (bs.map PyData.bool)) (.list (bs.map PyData.bool)) = true := by
    simp [PyData.eqv, l3]
  rw [e]
  exact z
end
end MV

set_option Elab.async false
set_option linter.all false
set_option maxRecDepth 100000
set_option maxHeartbeats 4000000
namespace Law
open PySem PySem.Spec PyProof.Rows L2 MV TL
def topS (i : Nat) : Stmt := PySem.Challenge.pw_carpets_k94_kinds_of_errors.main.body.getD i (.Pass ⟨0, 0, 0, 0⟩)
abbrev s_InvalidNet_init : Stmt := inClass (topS 2) 0
abbrev N_InvalidNet_init : List Str := ["self", "value"]
abbrev P_InvalidNet_init : List Str := ["self", "value"]
theorem sc_InvalidNet_init : FnScope N_InvalidNet_init P_InvalidNet_init (defScope s_InvalidNet_init) := ⟨rfl, rfl, rfl, by decide +kernel, rfl, by decide +kernel, by decide +kernel⟩
abbrev s_InvalidPlace_init : Stmt := inClass (topS 3) 0
abbrev N_InvalidPlace_init : List Str := ["self", "value"]
abbrev P_InvalidPlace_init : List Str := ["self", "value"]
theorem sc_InvalidPlace_init : FnScope N_InvalidPlace_init P_InvalidPlace_init (defScope s_InvalidPlace_init) := ⟨rfl, rfl, rfl, by decide +kernel, rfl, by decide +kernel, by decide +kernel⟩
abbrev s_InvalidMotion_init : Stmt := inClass (topS 4) 0
abbrev N_InvalidMotion_init : List Str := ["self", "value"]
abbrev P_InvalidMotion_init : List Str := ["self", "value"]
theorem sc_InvalidMotion_init : FnScope N_InvalidMotion_init P_InvalidMotion_init (defScope s_InvalidMotion_init) := ⟨rfl, rfl, rfl, by decide +kernel, rfl, by decide +kernel, by decide +kernel⟩
abbrev s_InvalidRows_init : Stmt := inClass (topS 5) 0
abbrev N_InvalidRows_init : List Str := ["self", "index"]
abbrev P_InvalidRows_init : List Str := ["self", "index"]
theorem sc_InvalidRows_init : FnScope N_InvalidRows_init P_InvalidRows_init (defScope s_InvalidRows_init) := ⟨rfl, rfl, rfl, by decide +kernel, rfl, by decide +kernel, by decide +kernel⟩
abbrev s_InvalidColour_init : Stmt := inClass (topS 6) 0
abbrev N_InvalidColour_init : List Str := ["self", "value"]
abbrev P_InvalidColour_init : List Str := ["self", "value"]
theorem sc_InvalidColour_init : FnScope N_InvalidColour_init P_InvalidColour_init (defScope s_InvalidColour_init) := ⟨rfl, rfl, rfl, by decide +kernel, rfl, by decide +kernel, by decide +kernel⟩
abbrev s_InvalidTable_init : Stmt := inClass (topS 7) 0
abbrev N_InvalidTable_init : List Str := ["self", "value"]
abbrev P_InvalidTable_init : List Str := ["self", "value"]
theorem sc_InvalidTable_init : FnScope N_InvalidTable_init P_InvalidTable_init (defScope s_InvalidTable_init) := ⟨rfl, rfl, rfl, by decide +kernel, rfl, by decide +kernel, by decide +kernel⟩
abbrev s_InvalidNumber_init : Stmt := inClass (topS 8) 0
abbrev N_InvalidNumber_init : List Str := ["self", "value"]
abbrev P_InvalidNumber_init : List Str := ["self", "value"]
theorem sc_InvalidNumber_init : FnScope N_InvalidNumber_init P_InvalidNumber_init (defScope s_InvalidNumber_init) := ⟨rfl, rfl, rfl, by decide +kernel, rfl, by decide +kernel, by decide +kernel⟩
abbrev s_InvalidObservation_init : Stmt := inClass (topS 9) 0
abbrev N_InvalidObservation_init : List Str := ["self", "index"]
abbrev P_InvalidObservation_init : List Str := ["self", "index"]
theorem sc_InvalidObservation_init : FnScope N_InvalidObservation_init P_InvalidObservation_init (defScope s_InvalidObservation_init) := ⟨rfl, rfl, rfl, by decide +kernel, rfl, by decide +kernel, by decide +kernel⟩
abbrev s_InvalidText_init : Stmt := inClass (topS 10) 0
abbrev N_InvalidText_init : List Str := ["self", "value"]
abbrev P_InvalidText_init : List Str := ["self", "value"]
theorem sc_InvalidText_init : FnScope N_InvalidText_init P_InvalidText_init (defScope s_InvalidText_init) := ⟨rfl, rfl, rfl, by decide +kernel, rfl, by decide +kernel, by decide +kernel⟩
abbrev s_InvalidCommand_init : Stmt := inClass (topS 11) 0
abbrev N_InvalidCommand_init : List Str := ["self", "value"]
abbrev P_InvalidCommand_init : List Str := ["self", "value"]
theorem sc_InvalidCommand_init : FnScope N_InvalidCommand_init P_InvalidCommand_init (defScope s_InvalidCommand_init) := ⟨rfl, rfl, rfl, by decide +kernel, rfl, by decide +kernel, by decide +kernel⟩
abbrev s_LimitExceeded_init : Stmt := inClass (topS 12) 0
abbrev N_LimitExceeded_init : List Str := ["self", "limit"]
abbrev P_LimitExceeded_init : List Str := ["self", "limit"]
theorem sc_LimitExceeded_init : FnScope N_LimitExceeded_init P_LimitExceeded_init (defScope s_LimitExceeded_init) := ⟨rfl, rfl, rfl, by decide +kernel, rfl, by decide +kernel, by decide +kernel⟩
abbrev s_UnknownName_init : Stmt := inClass (topS 14) 0
abbrev N_UnknownName_init : List Str := ["self", "name"]
abbrev P_UnknownName_init : List Str := ["self", "name"]
theorem sc_UnknownName_init : FnScope N_UnknownName_init P_UnknownName_init (defScope s_UnknownName_init) := ⟨rfl, rfl, rfl, by decide +kernel, rfl, by decide +kernel, by decide +kernel⟩
abbrev s_RunFailed_init : Stmt := inClass (topS 15) 0
abbrev N_RunFailed_init : List Str := ["self", "index"]
abbrev P_RunFailed_init : List Str := ["self", "index"]
theorem sc_RunFailed_init : FnScope N_RunFailed_init P_RunFailed_init (defScope s_RunFailed_init) := ⟨rfl, rfl, rfl, by decide +kernel, rfl, by decide +kernel, by decide +kernel⟩
abbrev s_law_tape : Stmt := topS 17
abbrev N_law_tape : List Str := ["_law_script"]
abbrev P_law_tape : List Str := ["_law_script"]
theorem sc_law_tape : FnScope N_law_tape P_law_tape (defScope s_law_tape) := ⟨rfl, rfl, rfl, by decide +kernel, rfl, by decide +kernel, by decide +kernel⟩
abbrev s_law_draw : Stmt := topS 18
abbrev N_law_draw : List Str := ["_law_tape_here", "_law_many", "_law_digit", "_law_cell", "_law_near"]
abbrev P_law_draw : List Str := ["_law_tape_here", "_law_many"]
theorem sc_law_draw : FnScope N_law_draw P_law_draw (defScope s_law_draw) := ⟨rfl, rfl, rfl, by decide +kernel, rfl, by decide +kernel, by decide +kernel⟩
abbrev s_law_made_errors : Stmt := topS 19
abbrev N_law_made_errors : List Str := ["_law_thing", "_law_found"]
abbrev P_law_made_errors : List Str := ["_law_thing"]
theorem sc_law_made_errors : FnScope N_law_made_errors P_law_made_errors (defScope s_law_made_errors) := ⟨rfl, rfl, rfl, by decide +kernel, rfl, by decide +kernel, by decide +kernel⟩
abbrev s_law_kinds_of : Stmt := topS 20
abbrev N_law_kinds_of : List Str := ["_law_error", "_law_found"]
abbrev P_law_kinds_of : List Str := ["_law_error"]
theorem sc_law_kinds_of : FnScope N_law_kinds_of P_law_kinds_of (defScope s_law_kinds_of) := ⟨rfl, rfl, rfl, by decide +kernel, rfl, by decide +kernel, by decide +kernel⟩
abbrev s_law_above : Stmt := topS 21
abbrev N_law_above : List Str := ["_law_error", "_law_found"]
abbrev P_law_above : List Str := ["_law_error"]
theorem sc_law_above : FnScope N_law_above P_law_above (defScope s_law_above) := ⟨rfl, rfl, rfl, by decide +kernel, rfl, by decide +kernel, by decide +kernel⟩
abbrev s_law : Stmt := topS 22
abbrev N_law : List Str := ["_law_script", "_law_tape_here", "_law_some", "_law_turn", "_law_thing", "_law_made", "_law_at", "_law_error", "_law_due", "_law_told", "_law_named", "_law_number"]
abbrev P_law : List Str := ["_law_script"]
theorem sc_law : FnScope N_law P_law (defScope s_law) := ⟨rfl, rfl, rfl, by decide +kernel, rfl, by decide +kernel, by decide +kernel⟩
structure Ad where
  C_CarpetError : Addr
  C_InvalidNet : Addr
  C_InvalidPlace : Addr
  C_InvalidMotion : Addr
  C_InvalidRows : Addr
  C_InvalidColour : Addr
  C_InvalidTable : Addr
  C_InvalidNumber : Addr
  C_InvalidObservation : Addr
  C_InvalidText : Addr
  C_InvalidCommand : Addr
  C_LimitExceeded : Addr
  C_UnknownName : Addr
  C_RunFailed : Addr
  C_NothingToUndo : Addr
  InvalidNet_init : Addr
  InvalidNet_init_d : FuncData
  InvalidPlace_init : Addr
  InvalidPlace_init_d : FuncData
  InvalidMotion_init : Addr
  InvalidMotion_init_d : FuncData
  InvalidRows_init : Addr
  InvalidRows_init_d : FuncData
  InvalidColour_init : Addr
  InvalidColour_init_d : FuncData
  InvalidTable_init : Addr
  InvalidTable_init_d : FuncData
  InvalidNumber_init : Addr
  InvalidNumber_init_d : FuncData
  InvalidObservation_init : Addr
  InvalidObservation_init_d : FuncData
  InvalidText_init : Addr
  InvalidText_init_d : FuncData
  InvalidCommand_init : Addr
  InvalidCommand_init_d : FuncData
  LimitExceeded_init : Addr
  LimitExceeded_init_d : FuncData
  UnknownName_init : Addr
  UnknownName_init_d : FuncData
  RunFailed_init : Addr
  RunFailed_init_d : FuncData
  law_tape : Addr
  law_tape_d : FuncData
  law_draw : Addr
  law_draw_d : FuncData
  law_made_errors : Addr
  law_made_errors_d : FuncData
  law_kinds_of : Addr
  law_kinds_of_d : FuncData
  law_above : Addr
  law_above_d : FuncData
  law : Addr
  law_d : FuncData
structure Txt (K : PySem.W.Frag) (mg : Str → Option Value) (a : Ad) : Prop where
  g_InvalidNet : mg "InvalidNet" = some (.ref a.C_InvalidNet)
  xf_InvalidNet : XfC K a.C_InvalidNet
  xi_InvalidNet : ExcC K a.C_InvalidNet
  y_InvalidNet : Gf K a.C_InvalidNet "value"
  w_InvalidNet : Gc K a.C_InvalidNet
  yi_InvalidNet : PySem.W.findIn K (.ref a.C_InvalidNet) "__init__" = some (some (.ref a.InvalidNet_init))
  yt_InvalidNet : PySem.W.typeIn K (.ref a.InvalidNet_init) = some (.type "function")
  nf_InvalidNet : PySem.W.findIn K (.ref a.C_InvalidNet) "value" = some none
  g_InvalidPlace : mg "InvalidPlace" = some (.ref a.C_InvalidPlace)
  xf_InvalidPlace : XfC K a.C_InvalidPlace
  xi_InvalidPlace : ExcC K a.C_InvalidPlace
  y_InvalidPlace : Gf K a.C_InvalidPlace "value"
  w_InvalidPlace : Gc K a.C_InvalidPlace
  yi_InvalidPlace : PySem.W.findIn K (.ref a.C_InvalidPlace) "__init__" = some (some (.ref a.InvalidPlace_init))
  yt_InvalidPlace : PySem.W.typeIn K (.ref a.InvalidPlace_init) = some (.type "function")
  nf_InvalidPlace : PySem.W.findIn K (.ref a.C_InvalidPlace) "value" = some none
  g_InvalidMotion : mg "InvalidMotion" = some (.ref a.C_InvalidMotion)
  xf_InvalidMotion : XfC K a.C_InvalidMotion
  xi_InvalidMotion : ExcC K a.C_InvalidMotion
  y_InvalidMotion : Gf K a.C_InvalidMotion "value"
  w_InvalidMotion : Gc K a.C_InvalidMotion
  yi_InvalidMotion : PySem.W.findIn K (.ref a.C_InvalidMotion) "__init__" = some (some (.ref a.InvalidMotion_init))
  yt_InvalidMotion : PySem.W.typeIn K (.ref a.InvalidMotion_init) = some (.type "function")
  nf_InvalidMotion : PySem.W.findIn K (.ref a.C_InvalidMotion) "value" = some none
  g_InvalidRows : mg "InvalidRows" = some (.ref a.C_InvalidRows)
  xf_InvalidRows : XfC K a.C_InvalidRows
  xi_InvalidRows : ExcC K a.C_InvalidRows
  y_InvalidRows : Gf K a.C_InvalidRows "index"
  w_InvalidRows : Gc K a.C_InvalidRows
  yi_InvalidRows : PySem.W.findIn K (.ref a.C_InvalidRows) "__init__" = some (some (.ref a.InvalidRows_init))
  yt_InvalidRows : PySem.W.typeIn K (.ref a.InvalidRows_init) = some (.type "function")
  nf_InvalidRows : PySem.W.findIn K (.ref a.C_InvalidRows) "index" = some none
  g_InvalidColour : mg "InvalidColour" = some (.ref a.C_InvalidColour)
  xf_InvalidColour : XfC K a.C_InvalidColour
  xi_InvalidColour : ExcC K a.C_InvalidColour
  y_InvalidColour : Gf K a.C_InvalidColour "value"
  w_InvalidColour : Gc K a.C_InvalidColour
  yi_InvalidColour : PySem.W.findIn K (.ref a.C_InvalidColour) "__init__" = some (some (.ref a.InvalidColour_init))
  yt_InvalidColour : PySem.W.typeIn K (.ref a.InvalidColour_init) = some (.type "function")
  nf_InvalidColour : PySem.W.findIn K (.ref a.C_InvalidColour) "value" = some none
  g_InvalidTable : mg "InvalidTable" = some (.ref a.C_InvalidTable)
  xf_InvalidTable : XfC K a.C_InvalidTable
  xi_InvalidTable : ExcC K a.C_InvalidTable
  y_InvalidTable : Gf K a.C_InvalidTable "value"
  w_InvalidTable : Gc K a.C_InvalidTable
  yi_InvalidTable : PySem.W.findIn K (.ref a.C_InvalidTable) "__init__" = some (some (.ref a.InvalidTable_init))
  yt_InvalidTable : PySem.W.typeIn K (.ref a.InvalidTable_init) = some (.type "function")
  nf_InvalidTable : PySem.W.findIn K (.ref a.C_InvalidTable) "value" = some none
  g_InvalidNumber : mg "InvalidNumber" = some (.ref a.C_InvalidNumber)
  xf_InvalidNumber : XfC K a.C_InvalidNumber
  xi_InvalidNumber : ExcC K a.C_InvalidNumber
  y_InvalidNumber : Gf K a.C_InvalidNumber "value"
  w_InvalidNumber : Gc K a.C_InvalidNumber
  yi_InvalidNumber : PySem.W.findIn K (.ref a.C_InvalidNumber) "__init__" = some (some (.ref a.InvalidNumber_init))
  yt_InvalidNumber : PySem.W.typeIn K (.ref a.InvalidNumber_init) = some (.type "function")
  nf_InvalidNumber : PySem.W.findIn K (.ref a.C_InvalidNumber) "value" = some none
  g_InvalidObservation : mg "InvalidObservation" = some (.ref a.C_InvalidObservation)
  xf_InvalidObservation : XfC K a.C_InvalidObservation
  xi_InvalidObservation : ExcC K a.C_InvalidObservation
  y_InvalidObservation : Gf K a.C_InvalidObservation "index"
  w_InvalidObservation : Gc K a.C_InvalidObservation
  yi_InvalidObservation : PySem.W.findIn K (.ref a.C_InvalidObservation) "__init__" = some (some (.ref a.InvalidObservation_init))
  yt_InvalidObservation : PySem.W.typeIn K (.ref a.InvalidObservation_init) = some (.type "function")
  nf_InvalidObservation : PySem.W.findIn K (.ref a.C_InvalidObservation) "index" = some none
  g_InvalidText : mg "InvalidText" = some (.ref a.C_InvalidText)
  xf_InvalidText : XfC K a.C_InvalidText
  xi_InvalidText : ExcC K a.C_InvalidText
  y_InvalidText : Gf K a.C_InvalidText "value"
  w_InvalidText : Gc K a.C_InvalidText
  yi_InvalidText : PySem.W.findIn K (.ref a.C_InvalidText) "__init__" = some (some (.ref a.InvalidText_init))
  yt_InvalidText : PySem.W.typeIn K (.ref a.InvalidText_init) = some (.type "function")
  nf_InvalidText : PySem.W.findIn K (.ref a.C_InvalidText) "value" = some none
  g_InvalidCommand : mg "InvalidCommand" = some (.ref a.C_InvalidCommand)
  xf_InvalidCommand : XfC K a.C_InvalidCommand
  xi_InvalidCommand : ExcC K a.C_InvalidCommand
  y_InvalidCommand : Gf K a.C_InvalidCommand "value"
  w_InvalidCommand : Gc K a.C_InvalidCommand
  yi_InvalidCommand : PySem.W.findIn K (.ref a.C_InvalidCommand) "__init__" = some (some (.ref a.InvalidCommand_init))
  yt_InvalidCommand : PySem.W.typeIn K (.ref a.InvalidCommand_init) = some (.type "function")
  nf_InvalidCommand : PySem.W.findIn K (.ref a.C_InvalidCommand) "value" = some none
  g_LimitExceeded : mg "LimitExceeded" = some (.ref a.C_LimitExceeded)
  xf_LimitExceeded : XfC K a.C_LimitExceeded
  xi_LimitExceeded : ExcC K a.C_LimitExceeded
  y_LimitExceeded : Gf K a.C_LimitExceeded "limit"
  w_LimitExceeded : Gc K a.C_LimitExceeded
  yi_LimitExceeded : PySem.W.findIn K (.ref a.C_LimitExceeded) "__init__" = some (some (.ref a.LimitExceeded_init))
  yt_LimitExceeded : PySem.W.typeIn K (.ref a.LimitExceeded_init) = some (.type "function")
  nf_LimitExceeded : PySem.W.findIn K (.ref a.C_LimitExceeded) "limit" = some none
  g_UnknownName : mg "UnknownName" = some (.ref a.C_UnknownName)
  xf_UnknownName : XfC K a.C_UnknownName
  xi_UnknownName : ExcC K a.C_UnknownName
  y_UnknownName : Gf K a.C_UnknownName "name"
  w_UnknownName : Gc K a.C_UnknownName
  yi_UnknownName : PySem.W.findIn K (.ref a.C_UnknownName) "__init__" = some (some (.ref a.UnknownName_init))
  yt_UnknownName : PySem.W.typeIn K (.ref a.UnknownName_init) = some (.type "function")
  nf_UnknownName : PySem.W.findIn K (.ref a.C_UnknownName) "name" = some none
  g_RunFailed : mg "RunFailed" = some (.ref a.C_RunFailed)
  xf_RunFailed : XfC K a.C_RunFailed
  xi_RunFailed : ExcC K a.C_RunFailed
  y_RunFailed : Gf K a.C_RunFailed "index"
  w_RunFailed : Gc K a.C_RunFailed
  yi_RunFailed : PySem.W.findIn K (.ref a.C_RunFailed) "__init__" = some (some (.ref a.RunFailed_init))
  yt_RunFailed : PySem.W.typeIn K (.ref a.RunFailed_init) = some (.type "function")
  nf_RunFailed : PySem.W.findIn K (.ref a.C_RunFailed) "index" = some none
  g_NothingToUndo : mg "NothingToUndo" = some (.ref a.C_NothingToUndo)
  xf_NothingToUndo : XfC K a.C_NothingToUndo
  xi_NothingToUndo : ExcC K a.C_NothingToUndo
  w0_NothingToUndo : G0 K a.C_NothingToUndo
  F_InvalidNet_init : Fun K "__init__" "InvalidNet.__init__" s_InvalidNet_init a.InvalidNet_init a.InvalidNet_init_d
  b_InvalidNet_init : Binds K a.InvalidNet_init_d P_InvalidNet_init []
  F_InvalidPlace_init : Fun K "__init__" "InvalidPlace.__init__" s_InvalidPlace_init a.InvalidPlace_init a.InvalidPlace_init_d
  b_InvalidPlace_init : Binds K a.InvalidPlace_init_d P_InvalidPlace_init []
  F_InvalidMotion_init : Fun K "__init__" "InvalidMotion.__init__" s_InvalidMotion_init a.InvalidMotion_init a.InvalidMotion_init_d
  b_InvalidMotion_init : Binds K a.InvalidMotion_init_d P_InvalidMotion_init []
  F_InvalidRows_init : Fun K "__init__" "InvalidRows.__init__" s_InvalidRows_init a.InvalidRows_init a.InvalidRows_init_d
  b_InvalidRows_init : Binds K a.InvalidRows_init_d P_InvalidRows_init []
  F_InvalidColour_init : Fun K "__init__" "InvalidColour.__init__" s_InvalidColour_init a.InvalidColour_init a.InvalidColour_init_d
  b_InvalidColour_init : Binds K a.InvalidColour_init_d P_InvalidColour_init []
  F_InvalidTable_init : Fun K "__init__" "InvalidTable.__init__" s_InvalidTable_init a.InvalidTable_init a.InvalidTable_init_d
  b_InvalidTable_init : Binds K a.InvalidTable_init_d P_InvalidTable_init []
  F_InvalidNumber_init : Fun K "__init__" "InvalidNumber.__init__" s_InvalidNumber_init a.InvalidNumber_init a.InvalidNumber_init_d
  b_InvalidNumber_init : Binds K a.InvalidNumber_init_d P_InvalidNumber_init []
  F_InvalidObservation_init : Fun K "__init__" "InvalidObservation.__init__" s_InvalidObservation_init a.InvalidObservation_init a.InvalidObservation_init_d
  b_InvalidObservation_init : Binds K a.InvalidObservation_init_d P_InvalidObservation_init []
  F_InvalidText_init : Fun K "__init__" "InvalidText.__init__" s_InvalidText_init a.InvalidText_init a.InvalidText_init_d
  b_InvalidText_init : Binds K a.InvalidText_init_d P_InvalidText_init []
  F_InvalidCommand_init : Fun K "__init__" "InvalidCommand.__init__" s_InvalidCommand_init a.InvalidCommand_init a.InvalidCommand_init_d
  b_InvalidCommand_init : Binds K a.InvalidCommand_init_d P_InvalidCommand_init []
  F_LimitExceeded_init : Fun K "__init__" "LimitExceeded.__init__" s_LimitExceeded_init a.LimitExceeded_init a.LimitExceeded_init_d
  b_LimitExceeded_init : Binds K a.LimitExceeded_init_d P_LimitExceeded_init []
  F_UnknownName_init : Fun K "__init__" "UnknownName.__init__" s_UnknownName_init a.UnknownName_init a.UnknownName_init_d
  b_UnknownName_init : Binds K a.UnknownName_init_d P_UnknownName_init []
  F_RunFailed_init : Fun K "__init__" "RunFailed.__init__" s_RunFailed_init a.RunFailed_init a.RunFailed_init_d
  b_RunFailed_init : Binds K a.RunFailed_init_d P_RunFailed_init []
  g_law_tape : mg "_law_tape" = some (.ref a.law_tape)
  F_law_tape : Fun K "_law_tape" "_law_tape" s_law_tape a.law_tape a.law_tape_d
  b_law_tape : Binds K a.law_tape_d P_law_tape []
  g_law_draw : mg "_law_draw" = some (.ref a.law_draw)
  F_law_draw : Fun K "_law_draw" "_law_draw" s_law_draw a.law_draw a.law_draw_d
  b_law_draw : Binds K a.law_draw_d P_law_draw []
  g_law_made_errors : mg "_law_made_errors" = some (.ref a.law_made_errors)
  F_law_made_errors : Fun K "_law_made_errors" "_law_made_errors" s_law_made_errors a.law_made_errors a.law_made_errors_d
  b_law_made_errors : Binds K a.law_made_errors_d P_law_made_errors []
  g_law_kinds_of : mg "_law_kinds_of" = some (.ref a.law_kinds_of)
  F_law_kinds_of : Fun K "_law_kinds_of" "_law_kinds_of" s_law_kinds_of a.law_kinds_of a.law_kinds_of_d
  b_law_kinds_of : Binds K a.law_kinds_of_d P_law_kinds_of []
  g_law_above : mg "_law_above" = some (.ref a.law_above)
  F_law_above : Fun K "_law_above" "_law_above" s_law_above a.law_above a.law_above_d
  b_law_above : Binds K a.law_above_d P_law_above []
  g_law : mg "law" = some (.ref a.law)
  F_law : Fun K "law" "law" s_law a.law a.law_d
  b_law : Binds K a.law_d P_law []
  kb_InvalidRows_init_0_index : KBn K a.InvalidRows_init_d P_InvalidRows_init 1 ["index"] (fun us ws => us ++ ws) (fun us ws => us ++ ws)
  kb_LimitExceeded_init_0_limit : KBn K a.LimitExceeded_init_d P_LimitExceeded_init 1 ["limit"] (fun us ws => us ++ ws) (fun us ws => us ++ ws)
  kb_UnknownName_init_0_name : KBn K a.UnknownName_init_d P_UnknownName_init 1 ["name"] (fun us ws => us ++ ws) (fun us ws => us ++ ws)
  kb_InvalidNet_init_0_value : KBn K a.InvalidNet_init_d P_InvalidNet_init 1 ["value"] (fun us ws => us ++ ws) (fun us ws => us ++ ws)
  kb_RunFailed_init_0_index : KBn K a.RunFailed_init_d P_RunFailed_init 1 ["index"] (fun us ws => us ++ ws) (fun us ws => us ++ ws)
  z_ArithmeticError : mg "ArithmeticError" = none
  z_KeyError : mg "KeyError" = none
  z_OverflowError : mg "OverflowError" = none
  z_RuntimeError : mg "RuntimeError" = none
  z_ValueError : mg "ValueError" = none
  z_enumerate : mg "enumerate" = none
  z_isinstance : mg "isinstance" = none
  z_len : mg "len" = none
  z_list : mg "list" = none
  z_range : mg "range" = none
  z_repr : mg "repr" = none
  g_CarpetError : mg "CarpetError" = some (.ref a.C_CarpetError)
  kr_InvalidNet : PySem.W.kitOne K (.ref a.C_InvalidNet) (.ref a.C_InvalidNet) = some true ∧ PySem.W.kitOne K (.ref a.C_InvalidNet) (.ref a.C_InvalidPlace) = some false ∧ PySem.W.kitOne K (.ref a.C_InvalidNet) (.ref a.C_InvalidMotion) = some false ∧ PySem.W.kitOne K (.ref a.C_InvalidNet) (.ref a.C_InvalidRows) = some false ∧ PySem.W.kitOne K (.ref a.C_InvalidNet) (.ref a.C_InvalidColour) = some false ∧ PySem.W.kitOne K (.ref a.C_InvalidNet) (.ref a.C_InvalidTable) = some false ∧ PySem.W.kitOne K (.ref a.C_InvalidNet) (.ref a.C_InvalidNumber) = some false ∧ PySem.W.kitOne K (.ref a.C_InvalidNet) (.ref a.C_InvalidObservation) = some false ∧ PySem.W.kitOne K (.ref a.C_InvalidNet) (.ref a.C_InvalidText) = some false ∧ PySem.W.kitOne K (.ref a.C_InvalidNet) (.ref a.C_InvalidCommand) = some false ∧ PySem.W.kitOne K (.ref a.C_InvalidNet) (.ref a.C_LimitExceeded) = some false ∧ PySem.W.kitOne K (.ref a.C_InvalidNet) (.ref a.C_NothingToUndo) = some false ∧ PySem.W.kitOne K (.ref a.C_InvalidNet) (.ref a.C_UnknownName) = some false ∧ PySem.W.kitOne K (.ref a.C_InvalidNet) (.ref a.C_RunFailed) = some false
  kt_InvalidNet : PySem.W.kitOne K (.ref a.C_InvalidNet) (.ref a.C_CarpetError) = some true ∧ PySem.W.kitOne K (.ref a.C_InvalidNet) (.type "ValueError") = some true ∧ PySem.W.kitOne K (.ref a.C_InvalidNet) (.type "OverflowError") = some false ∧ PySem.W.kitOne K (.ref a.C_InvalidNet) (.type "RuntimeError") = some false ∧ PySem.W.kitOne K (.ref a.C_InvalidNet) (.type "KeyError") = some false ∧ PySem.W.kitOne K (.ref a.C_InvalidNet) (.type "ArithmeticError") = some false
  kr_InvalidPlace : PySem.W.kitOne K (.ref a.C_InvalidPlace) (.ref a.C_InvalidNet) = some false ∧ PySem.W.kitOne K (.ref a.C_InvalidPlace) (.ref a.C_InvalidPlace) = some true ∧ PySem.W.kitOne K (.ref a.C_InvalidPlace) (.ref a.C_InvalidMotion) = some false ∧ PySem.W.kitOne K (.ref a.C_InvalidPlace) (.ref a.C_InvalidRows) = some false ∧ PySem.W.kitOne K (.ref a.C_InvalidPlace) (.ref a.C_InvalidColour) = some false ∧ PySem.W.kitOne K (.ref a.C_InvalidPlace) (.ref a.C_InvalidTable) = some false ∧ PySem.W.kitOne K (.ref a.C_InvalidPlace) (.ref a.C_InvalidNumber) = some false ∧ PySem.W.kitOne K (.ref a.C_InvalidPlace) (.ref a.C_InvalidObservation) = some false ∧ PySem.W.kitOne K (.ref a.C_InvalidPlace) (.ref a.C_InvalidText) = some false ∧ PySem.W.kitOne K (.ref a.C_InvalidPlace) (.ref a.C_InvalidCommand) = some false ∧ PySem.W.kitOne K (.ref a.C_InvalidPlace) (.ref a.C_LimitExceeded) = some false ∧ PySem.W.kitOne K (.ref a.C_InvalidPlace) (.ref a.C_NothingToUndo) = some false ∧ PySem.W.kitOne K (.ref a.C_InvalidPlace) (.ref a.C_UnknownName) = some false ∧ PySem.W.kitOne K (.ref a.C_InvalidPlace) (.ref a.C_RunFailed) = some false
  kt_InvalidPlace : PySem.W.kitOne K (.ref a.C_InvalidPlace) (.ref a.C_CarpetError) = some true ∧ PySem.W.kitOne K (.ref a.C_InvalidPlace) (.type "ValueError") = some true ∧ PySem.W.kitOne K (.ref a.C_InvalidPlace) (.type "OverflowError") = some false ∧ PySem.W.kitOne K (.ref a.C_InvalidPlace) (.type "RuntimeError") = some false ∧ PySem.W.kitOne K (.ref a.C_InvalidPlace) (.type "KeyError") = some false ∧ PySem.W.kitOne K (.ref a.C_InvalidPlace) (.type "ArithmeticError") = some false
  kr_InvalidMotion : PySem.W.kitOne K (.ref a.C_InvalidMotion) (.ref a.C_InvalidNet) = some false ∧ PySem.W.kitOne K (.ref a.C_InvalidMotion) (.ref a.C_InvalidPlace) = some false ∧ PySem.W.kitOne K (.ref a.C_InvalidMotion) (.ref a.C_InvalidMotion) = some true ∧ PySem.W.kitOne K (.ref a.C_InvalidMotion) (.ref a.C_InvalidRows) = some false ∧ PySem.W.kitOne K (.ref a.C_InvalidMotion) (.ref a.C_InvalidColour) = some false ∧ PySem.W.kitOne K (.ref a.C_InvalidMotion) (.ref a.C_InvalidTable) = some false ∧ PySem.W.kitOne K (.ref a.C_InvalidMotion) (.ref a.C_InvalidNumber) = some false ∧ PySem.W.kitOne K (.ref a.C_InvalidMotion) (.ref a.C_InvalidObservation) = some false ∧ PySem.W.kitOne K (.ref a.C_InvalidMotion) (.ref a.C_InvalidText) = some false ∧ PySem.W.kitOne K (.ref a.C_InvalidMotion) (.ref a.C_InvalidCommand) = some false ∧ PySem.W.kitOne K (.ref a.C_InvalidMotion) (.ref a.C_LimitExceeded) = some false ∧ PySem.W.kitOne K (.ref a.C_InvalidMotion) (.ref a.C_NothingToUndo) = some false ∧ PySem.W.kitOne K (.ref a.C_InvalidMotion) (.ref a.C_UnknownName) = some false ∧ PySem.W.kitOne K (.ref a.C_InvalidMotion) (.ref a.C_RunFailed) = some false
  kt_InvalidMotion : PySem.W.kitOne K (.ref a.C_InvalidMotion) (.ref a.C_CarpetError) = some true ∧ PySem.W.kitOne K (.ref a.C_InvalidMotion) (.type "ValueError") = some true ∧ PySem.W.kitOne K (.ref a.C_InvalidMotion) (.type "OverflowError") = some false ∧ PySem.W.kitOne K (.ref a.C_InvalidMotion) (.type "RuntimeError") = some false ∧ PySem.W.kitOne K (.ref a.C_InvalidMotion) (.type "KeyError") = some false ∧ PySem.W.kitOne K (.ref a.C_InvalidMotion) (.type "ArithmeticError") = some false
  kr_InvalidRows : PySem.W.kitOne K (.ref a.C_InvalidRows) (.ref a.C_InvalidNet) = some false ∧ PySem.W.kitOne K (.ref a.C_InvalidRows) (.ref a.C_InvalidPlace) = some false ∧ PySem.W.kitOne K (.ref a.C_InvalidRows) (.ref a.C_InvalidMotion) = some false ∧ PySem.W.kitOne K (.ref a.C_InvalidRows) (.ref a.C_InvalidRows) = some true ∧ PySem.W.kitOne K (.ref a.C_InvalidRows) (.ref a.C_InvalidColour) = some false ∧ PySem.W.kitOne K (.ref a.C_InvalidRows) (.ref a.C_InvalidTable) = some false ∧ PySem.W.kitOne K (.ref a.C_InvalidRows) (.ref a.C_InvalidNumber) = some false ∧ PySem.W.kitOne K (.ref a.C_InvalidRows) (.ref a.C_InvalidObservation) = some false ∧ PySem.W.kitOne K (.ref a.C_InvalidRows) (.ref a.C_InvalidText) = some false ∧ PySem.W.kitOne K (.ref a.C_InvalidRows) (.ref a.C_InvalidCommand) = some false ∧ PySem.W.kitOne K (.ref a.C_InvalidRows) (.ref a.C_LimitExceeded) = some false ∧ PySem.W.kitOne K (.ref a.C_InvalidRows) (.ref a.C_NothingToUndo) = some false ∧ PySem.W.kitOne K (.ref a.C_InvalidRows) (.ref a.C_UnknownName) = some false ∧ PySem.W.kitOne K (.ref a.C_InvalidRows) (.ref a.C_RunFailed) = some false
  kt_InvalidRows : PySem.W.kitOne K (.ref a.C_InvalidRows) (.ref a.C_CarpetError) = some true ∧ PySem.W.kitOne K (.ref a.C_InvalidRows) (.type "ValueError") = some true ∧ PySem.W.kitOne K (.ref a.C_InvalidRows) (.type "OverflowError") = some false ∧ PySem.W.kitOne K (.ref a.C_InvalidRows) (.type "RuntimeError") = some false ∧ PySem.W.kitOne K (.ref a.C_InvalidRows) (.type "KeyError") = some false ∧ PySem.W.kitOne K (.ref a.C_InvalidRows) (.type "ArithmeticError") = some false
  kr_InvalidColour : PySem.W.kitOne K (.ref a.C_InvalidColour) (.ref a.C_InvalidNet) = some false ∧ PySem.W.kitOne K (.ref a.C_InvalidColour) (.ref a.C_InvalidPlace) = some false ∧ PySem.W.kitOne K (.ref a.C_InvalidColour) (.ref a.C_InvalidMotion) = some false ∧ PySem.W.kitOne K (.ref a.C_InvalidColour) (.ref a.C_InvalidRows) = some false ∧ PySem.W.kitOne K (.ref a.C_InvalidColour) (.ref a.C_InvalidColour) = some true ∧ PySem.W.kitOne K (.ref a.C_InvalidColour) (.ref a.C_InvalidTable) = some false ∧ PySem.W.kitOne K (.ref a.C_InvalidColour) (.ref a.C_InvalidNumber) = some false ∧ PySem.W.kitOne K (.ref a.C_InvalidColour) (.ref a.C_InvalidObservation) = some false ∧ PySem.W.kitOne K (.ref a.C_InvalidColour) (.ref a.C_InvalidText) = some false ∧ PySem.W.kitOne K (.ref a.C_InvalidColour) (.ref a.C_InvalidCommand) = some false ∧ PySem.W.kitOne K (.ref a.C_InvalidColour) (.ref a.C_LimitExceeded) = some false ∧ PySem.W.kitOne K (.ref a.C_InvalidColour) (.ref a.C_NothingToUndo) = some false ∧ PySem.W.kitOne K (.ref a.C_InvalidColour) (.ref a.C_UnknownName) = some false ∧ PySem.W.kitOne K (.ref a.C_InvalidColour) (.ref a.C_RunFailed) = some false
  kt_InvalidColour : PySem.W.kitOne K (.ref a.C_InvalidColour) (.ref a.C_CarpetError) = some true ∧ PySem.W.kitOne K (.ref a.C_InvalidColour) (.type "ValueError") = some true ∧ PySem.W.kitOne K (.ref a.C_InvalidColour) (.type "OverflowError") = some false ∧ PySem.W.kitOne K (.ref a.C_InvalidColour) (.type "RuntimeError") = some false ∧ PySem.W.kitOne K (.ref a.C_InvalidColour) (.type "KeyError") = some false ∧ PySem.W.kitOne K (.ref a.C_InvalidColour) (.type "ArithmeticError") = some false
  kr_InvalidTable : PySem.W.kitOne K (.ref a.C_InvalidTable) (.ref a.C_InvalidNet) = some false ∧ PySem.W.kitOne K (.ref a.C_InvalidTable) (.ref a.C_InvalidPlace) = some false ∧ PySem.W.kitOne K (.ref a.C_InvalidTable) (.ref a.C_InvalidMotion) = some false ∧ PySem.W.kitOne K (.ref a.C_InvalidTable) (.ref a.C_InvalidRows) = some false ∧ PySem.W.kitOne K (.ref a.C_InvalidTable) (.ref a.C_InvalidColour) = some false ∧ PySem.W.kitOne K (.ref a.C_InvalidTable) (.ref a.C_InvalidTable) = some true ∧ PySem.W.kitOne K (.ref a.C_InvalidTable) (.ref a.C_InvalidNumber) = some false ∧ PySem.W.kitOne K (.ref a.C_InvalidTable) (.ref a.C_InvalidObservation) = some false ∧ PySem.W.kitOne K (.ref a.C_InvalidTable) (.ref a.C_InvalidText) = some false ∧ PySem.W.kitOne K (.ref a.C_InvalidTable) (.ref a.C_InvalidCommand) = some false ∧ PySem.W.kitOne K (.ref a.C_InvalidTable) (.ref a.C_LimitExceeded) = some false ∧ PySem.W.kitOne K (.ref a.C_InvalidTable) (.ref a.C_NothingToUndo) = some false ∧ PySem.W.kitOne K (.ref a.C_InvalidTable) (.ref a.C_UnknownName) = some false ∧ PySem.W.kitOne K (.ref a.C_InvalidTable) (.ref a.C_RunFailed) = some false
  kt_InvalidTable : PySem.W.kitOne K (.ref a.C_InvalidTable) (.ref a.C_CarpetError) = some true ∧ PySem.W.kitOne K (.ref a.C_InvalidTable) (.type "ValueError") = some true ∧ PySem.W.kitOne K (.ref a.C_InvalidTable) (.type "OverflowError") = some false ∧ PySem.W.kitOne K (.ref a.C_InvalidTable) (.type "RuntimeError") = some false ∧ PySem.W.kitOne K (.ref a.C_InvalidTable) (.type "KeyError") = some false ∧ PySem.W.kitOne K (.ref a.C_InvalidTable) (.type "ArithmeticError") = some false
  kr_InvalidNumber : PySem.W.kitOne K (.ref a.C_InvalidNumber) (.ref a.C_InvalidNet) = some false ∧ PySem.W.kitOne K (.ref a.C_InvalidNumber) (.ref a.C_InvalidPlace) = some false ∧ PySem.W.kitOne K (.ref a.C_InvalidNumber) (.ref a.C_InvalidMotion) = some false ∧ PySem.W.kitOne K (.ref a.C_InvalidNumber) (.ref a.C_InvalidRows) = some false ∧ PySem.W.kitOne K (.ref a.C_InvalidNumber) (.ref a.C_InvalidColour) = some false ∧ PySem.W.kitOne K (.ref a.C_InvalidNumber) (.ref a.C_InvalidTable) = some false ∧ PySem.W.kitOne K (.ref a.C_InvalidNumber) (.ref a.C_InvalidNumber) = some true ∧ PySem.W.kitOne K (.ref a.C_InvalidNumber) (.ref a.C_InvalidObservation) = some false ∧ PySem.W.kitOne K (.ref a.C_InvalidNumber) (.ref a.C_InvalidText) = some false ∧ PySem.W.kitOne K (.ref a.C_InvalidNumber) (.ref a.C_InvalidCommand) = some false ∧ PySem.W.kitOne K (.ref a.C_InvalidNumber) (.ref a.C_LimitExceeded) = some false ∧ PySem.W.kitOne K (.ref a.C_InvalidNumber) (.ref a.C_NothingToUndo) = some false ∧ PySem.W.kitOne K (.ref a.C_InvalidNumber) (.ref a.C_UnknownName) = some false ∧ PySem.W.kitOne K (.ref a.C_InvalidNumber) (.ref a.C_RunFailed) = some false
  kt_InvalidNumber : PySem.W.kitOne K (.ref a.C_InvalidNumber) (.ref a.C_CarpetError) = some true ∧ PySem.W.kitOne K (.ref a.C_InvalidNumber) (.type "ValueError") = some true ∧ PySem.W.kitOne K (.ref a.C_InvalidNumber) (.type "OverflowError") = some false ∧ PySem.W.kitOne K (.ref a.C_InvalidNumber) (.type "RuntimeError") = some false ∧ PySem.W.kitOne K (.ref a.C_InvalidNumber) (.type "KeyError") = some false ∧ PySem.W.kitOne K (.ref a.C_InvalidNumber) (.type "ArithmeticError") = some false
  kr_InvalidObservation : PySem.W.kitOne K (.ref a.C_InvalidObservation) (.ref a.C_InvalidNet) = some false ∧ PySem.W.kitOne K (.ref a.C_InvalidObservation) (.ref a.C_InvalidPlace) = some false ∧ PySem.W.kitOne K (.ref a.C_InvalidObservation) (.ref a.C_InvalidMotion) = some false ∧ PySem.W.kitOne K (.ref a.C_InvalidObservation) (.ref a.C_InvalidRows) = some false ∧ PySem.W.kitOne K (.ref a.C_InvalidObservation) (.ref a.C_InvalidColour) = some false ∧ PySem.W.kitOne K (.ref a.C_InvalidObservation) (.ref a.C_InvalidTable) = some false ∧ PySem.W.kitOne K (.ref a.C_InvalidObservation) (.ref a.C_InvalidNumber) = some false ∧ PySem.W.kitOne K (.ref a.C_InvalidObservation) (.ref a.C_InvalidObservation) = some true ∧ PySem.W.kitOne K (.ref a.C_InvalidObservation) (.ref a.C_InvalidText) = some false ∧ PySem.W.kitOne K (.ref a.C_InvalidObservation) (.ref a.C_InvalidCommand) = some false ∧ PySem.W.kitOne K (.ref a.C_InvalidObservation) (.ref a.C_LimitExceeded) = some false ∧ PySem.W.kitOne K (.ref a.C_InvalidObservation) (.ref a.C_NothingToUndo) = some false ∧ PySem.W.kitOne K (.ref a.C_InvalidObservation) (.ref a.C_UnknownName) = some false ∧ PySem.W.kitOne K (.ref a.C_InvalidObservation) (.ref a.C_RunFailed) = some false
  kt_InvalidObservation : PySem.W.kitOne K (.ref a.C_InvalidObservation) (.ref a.C_CarpetError) = some true ∧ PySem.W.kitOne K (.ref a.C_InvalidObservation) (.type "ValueError") = some true ∧ PySem.W.kitOne K (.ref a.C_InvalidObservation) (.type "OverflowError") = some false ∧ PySem.W.kitOne K (.ref a.C_InvalidObservation) (.type "RuntimeError") = some false ∧ PySem.W.kitOne K (.ref a.C_InvalidObservation) (.type "KeyError") = some false ∧ PySem.W.kitOne K (.ref a.C_InvalidObservation) (.type "ArithmeticError") = some false
  kr_InvalidText : PySem.W.kitOne K (.ref a.C_InvalidText) (.ref a.C_InvalidNet) = some false ∧ PySem.W.kitOne K (.ref a.C_InvalidText) (.ref a.C_InvalidPlace) = some false ∧ PySem.W.kitOne K (.ref a.C_InvalidText) (.ref a.C_InvalidMotion) = some false ∧ PySem.W.kitOne K (.ref a.C_InvalidText) (.ref a.C_InvalidRows) = some false ∧ PySem.W.kitOne K (.ref a.C_InvalidText) (.ref a.C_InvalidColour) = some false ∧ PySem.W.kitOne K (.ref a.C_InvalidText) (.ref a.C_InvalidTable) = some false ∧ PySem.W.kitOne K (.ref a.C_InvalidText) (.ref a.C_InvalidNumber) = some false ∧ PySem.W.kitOne K (.ref a.C_InvalidText) (.ref a.C_InvalidObservation) = some false ∧ PySem.W.kitOne K (.ref a.C_InvalidText) (.ref a.C_InvalidText) = some true ∧ PySem.W.kitOne K (.ref a.C_InvalidText) (.ref a.C_InvalidCommand) = some false ∧ PySem.W.kitOne K (.ref a.C_InvalidText) (.ref a.C_LimitExceeded) = some false ∧ PySem.W.kitOne K (.ref a.C_InvalidText) (.ref a.C_NothingToUndo) = some false ∧ PySem.W.kitOne K (.ref a.C_InvalidText) (.ref a.C_UnknownName) = some false ∧ PySem.W.kitOne K (.ref a.C_InvalidText) (.ref a.C_RunFailed) = some false
  kt_InvalidText : PySem.W.kitOne K (.ref a.C_InvalidText) (.ref a.C_CarpetError) = some true ∧ PySem.W.kitOne K (.ref a.C_InvalidText) (.type "ValueError") = some true ∧ PySem.W.kitOne K (.ref a.C_InvalidText) (.type "OverflowError") = some false ∧ PySem.W.kitOne K (.ref a.C_InvalidText) (.type "RuntimeError") = some false ∧ PySem.W.kitOne K (.ref a.C_InvalidText) (.type "KeyError") = some false ∧ PySem.W.kitOne K (.ref a.C_InvalidText) (.type "ArithmeticError") = some false
  kr_InvalidCommand : PySem.W.kitOne K (.ref a.C_InvalidCommand) (.ref a.C_InvalidNet) = some false ∧ PySem.W.kitOne K (.ref a.C_InvalidCommand) (.ref a.C_InvalidPlace) = some false ∧ PySem.W.kitOne K (.ref a.C_InvalidCommand) (.ref a.C_InvalidMotion) = some false ∧ PySem.W.kitOne K (.ref a.C_InvalidCommand) (.ref a.C_InvalidRows) = some false ∧ PySem.W.kitOne K (.ref a.C_InvalidCommand) (.ref a.C_InvalidColour) = some false ∧ PySem.W.kitOne K (.ref a.C_InvalidCommand) (.ref a.C_InvalidTable) = some false ∧ PySem.W.kitOne K (.ref a.C_InvalidCommand) (.ref a.C_InvalidNumber) = some false ∧ PySem.W.kitOne K (.ref a.C_InvalidCommand) (.ref a.C_InvalidObservation) = some false ∧ PySem.W.kitOne K (.ref a.C_InvalidCommand) (.ref a.C_InvalidText) = some false ∧ PySem.W.kitOne K (.ref a.C_InvalidCommand) (.ref a.C_InvalidCommand) = some true ∧ PySem.W.kitOne K (.ref a.C_InvalidCommand) (.ref a.C_LimitExceeded) = some false ∧ PySem.W.kitOne K (.ref a.C_InvalidCommand) (.ref a.C_NothingToUndo) = some false ∧ PySem.W.kitOne K (.ref a.C_InvalidCommand) (.ref a.C_UnknownName) = some false ∧ PySem.W.kitOne K (.ref a.C_InvalidCommand) (.ref a.C_RunFailed) = some false
  kt_InvalidCommand : PySem.W.kitOne K (.ref a.C_InvalidCommand) (.ref a.C_CarpetError) = some true ∧ PySem.W.kitOne K (.ref a.C_InvalidCommand) (.type "ValueError") = some true ∧ PySem.W.kitOne K (.ref a.C_InvalidCommand) (.type "OverflowError") = some false ∧ PySem.W.kitOne K (.ref a.C_InvalidCommand) (.type "RuntimeError") = some false ∧ PySem.W.kitOne K (.ref a.C_InvalidCommand) (.type "KeyError") = some false ∧ PySem.W.kitOne K (.ref a.C_InvalidCommand) (.type "ArithmeticError") = some false
  kr_LimitExceeded : PySem.W.kitOne K (.ref a.C_LimitExceeded) (.ref a.C_InvalidNet) = some false ∧ PySem.W.kitOne K (.ref a.C_LimitExceeded) (.ref a.C_InvalidPlace) = some false ∧ PySem.W.kitOne K (.ref a.C_LimitExceeded) (.ref a.C_InvalidMotion) = some false ∧ PySem.W.kitOne K (.ref a.C_LimitExceeded) (.ref a.C_InvalidRows) = some false ∧ PySem.W.kitOne K (.ref a.C_LimitExceeded) (.ref a.C_InvalidColour) = some false ∧ PySem.W.kitOne K (.ref a.C_LimitExceeded) (.ref a.C_InvalidTable) = some false ∧ PySem.W.kitOne K (.ref a.C_LimitExceeded) (.ref a.C_InvalidNumber) = some false ∧ PySem.W.kitOne K (.ref a.C_LimitExceeded) (.ref a.C_InvalidObservation) = some false ∧ PySem.W.kitOne K (.ref a.C_LimitExceeded) (.ref a.C_InvalidText) = some false ∧ PySem.W.kitOne K (.ref a.C_LimitExceeded) (.ref a.C_InvalidCommand) = some false ∧ PySem.W.kitOne K (.ref a.C_LimitExceeded) (.ref a.C_LimitExceeded) = some true ∧ PySem.W.kitOne K (.ref a.C_LimitExceeded) (.ref a.C_NothingToUndo) = some false ∧ PySem.W.kitOne K (.ref a.C_LimitExceeded) (.ref a.C_UnknownName) = some false ∧ PySem.W.kitOne K (.ref a.C_LimitExceeded) (.ref a.C_RunFailed) = some false
  kt_LimitExceeded : PySem.W.kitOne K (.ref a.C_LimitExceeded) (.ref a.C_CarpetError) = some false ∧ PySem.W.kitOne K (.ref a.C_LimitExceeded) (.type "ValueError") = some false ∧ PySem.W.kitOne K (.ref a.C_LimitExceeded) (.type "OverflowError") = some true ∧ PySem.W.kitOne K (.ref a.C_LimitExceeded) (.type "RuntimeError") = some false ∧ PySem.W.kitOne K (.ref a.C_LimitExceeded) (.type "KeyError") = some false ∧ PySem.W.kitOne K (.ref a.C_LimitExceeded) (.type "ArithmeticError") = some true
  kr_NothingToUndo : PySem.W.kitOne K (.ref a.C_NothingToUndo) (.ref a.C_InvalidNet) = some false ∧ PySem.W.kitOne K (.ref a.C_NothingToUndo) (.ref a.C_InvalidPlace) = some false ∧ PySem.W.kitOne K (.ref a.C_NothingToUndo) (.ref a.C_InvalidMotion) = some false ∧ PySem.W.kitOne K (.ref a.C_NothingToUndo) (.ref a.C_InvalidRows) = some false ∧ PySem.W.kitOne K (.ref a.C_NothingToUndo) (.ref a.C_InvalidColour) = some false ∧ PySem.W.kitOne K (.ref a.C_NothingToUndo) (.ref a.C_InvalidTable) = some false ∧ PySem.W.kitOne K (.ref a.C_NothingToUndo) (.ref a.C_InvalidNumber) = some false ∧ PySem.W.kitOne K (.ref a.C_NothingToUndo) (.ref a.C_InvalidObservation) = some false ∧ PySem.W.kitOne K (.ref a.C_NothingToUndo) (.ref a.C_InvalidText) = some false ∧ PySem.W.kitOne K (.ref a.C_NothingToUndo) (.ref a.C_InvalidCommand) = some false ∧ PySem.W.kitOne K (.ref a.C_NothingToUndo) (.ref a.C_LimitExceeded) = some false ∧ PySem.W.kitOne K (.ref a.C_NothingToUndo) (.ref a.C_NothingToUndo) = some true ∧ PySem.W.kitOne K (.ref a.C_NothingToUndo) (.ref a.C_UnknownName) = some false ∧ PySem.W.kitOne K (.ref a.C_NothingToUndo) (.ref a.C_RunFailed) = some false
  kt_NothingToUndo : PySem.W.kitOne K (.ref a.C_NothingToUndo) (.ref a.C_CarpetError) = some false ∧ PySem.W.kitOne K (.ref a.C_NothingToUndo) (.type "ValueError") = some false ∧ PySem.W.kitOne K (.ref a.C_NothingToUndo) (.type "OverflowError") = some false ∧ PySem.W.kitOne K (.ref a.C_NothingToUndo) (.type "RuntimeError") = some true ∧ PySem.W.kitOne K (.ref a.C_NothingToUndo) (.type "KeyError") = some false ∧ PySem.W.kitOne K (.ref a.C_NothingToUndo) (.type "ArithmeticError") = some false
  kr_UnknownName : PySem.W.kitOne K (.ref a.C_UnknownName) (.ref a.C_InvalidNet) = some false ∧ PySem.W.kitOne K (.ref a.C_UnknownName) (.ref a.C_InvalidPlace) = some false ∧ PySem.W.kitOne K (.ref a.C_UnknownName) (.ref a.C_InvalidMotion) = some false ∧ PySem.W.kitOne K (.ref a.C_UnknownName) (.ref a.C_InvalidRows) = some false ∧ PySem.W.kitOne K (.ref a.C_UnknownName) (.ref a.C_InvalidColour) = some false ∧ PySem.W.kitOne K (.ref a.C_UnknownName) (.ref a.C_InvalidTable) = some false ∧ PySem.W.kitOne K (.ref a.C_UnknownName) (.ref a.C_InvalidNumber) = some false ∧ PySem.W.kitOne K (.ref a.C_UnknownName) (.ref a.C_InvalidObservation) = some false ∧ PySem.W.kitOne K (.ref a.C_UnknownName) (.ref a.C_InvalidText) = some false ∧ PySem.W.kitOne K (.ref a.C_UnknownName) (.ref a.C_InvalidCommand) = some false ∧ PySem.W.kitOne K (.ref a.C_UnknownName) (.ref a.C_LimitExceeded) = some false ∧ PySem.W.kitOne K (.ref a.C_UnknownName) (.ref a.C_NothingToUndo) = some false ∧ PySem.W.kitOne K (.ref a.C_UnknownName) (.ref a.C_UnknownName) = some true ∧ PySem.W.kitOne K (.ref a.C_UnknownName) (.ref a.C_RunFailed) = some false
  kt_UnknownName : PySem.W.kitOne K (.ref a.C_UnknownName) (.ref a.C_CarpetError) = some false ∧ PySem.W.kitOne K (.ref a.C_UnknownName) (.type "ValueError") = some false ∧ PySem.W.kitOne K (.ref a.C_UnknownName) (.type "OverflowError") = some false ∧ PySem.W.kitOne K (.ref a.C_UnknownName) (.type "RuntimeError") = some false ∧ PySem.W.kitOne K (.ref a.C_UnknownName) (.type "KeyError") = some true ∧ PySem.W.kitOne K (.ref a.C_UnknownName) (.type "ArithmeticError") = some false
  kr_RunFailed : PySem.W.kitOne K (.ref a.C_RunFailed) (.ref a.C_InvalidNet) = some false ∧ PySem.W.kitOne K (.ref a.C_RunFailed) (.ref a.C_InvalidPlace) = some false ∧ PySem.W.kitOne K (.ref a.C_RunFailed) (.ref a.C_InvalidMotion) = some false ∧ PySem.W.kitOne K (.ref a.C_RunFailed) (.ref a.C_InvalidRows) = some false ∧ PySem.W.kitOne K (.ref a.C_RunFailed) (.ref a.C_InvalidColour) = some false ∧ PySem.W.kitOne K (.ref a.C_RunFailed) (.ref a.C_InvalidTable) = some false ∧ PySem.W.kitOne K (.ref a.C_RunFailed) (.ref a.C_InvalidNumber) = some false ∧ PySem.W.kitOne K (.ref a.C_RunFailed) (.ref a.C_InvalidObservation) = some false ∧ PySem.W.kitOne K (.ref a.C_RunFailed) (.ref a.C_InvalidText) = some false ∧ PySem.W.kitOne K (.ref a.C_RunFailed) (.ref a.C_InvalidCommand) = some false ∧ PySem.W.kitOne K (.ref a.C_RunFailed) (.ref a.C_LimitExceeded) = some false ∧ PySem.W.kitOne K (.ref a.C_RunFailed) (.ref a.C_NothingToUndo) = some false ∧ PySem.W.kitOne K (.ref a.C_RunFailed) (.ref a.C_UnknownName) = some false ∧ PySem.W.kitOne K (.ref a.C_RunFailed) (.ref a.C_RunFailed) = some true
  kt_RunFailed : PySem.W.kitOne K (.ref a.C_RunFailed) (.ref a.C_CarpetError) = some false ∧ PySem.W.kitOne K (.ref a.C_RunFailed) (.type "ValueError") = some false ∧ PySem.W.kitOne K (.ref a.C_RunFailed) (.type "OverflowError") = some false ∧ PySem.W.kitOne K (.ref a.C_RunFailed) (.type "RuntimeError") = some false ∧ PySem.W.kitOne K (.ref a.C_RunFailed) (.type "KeyError") = some false ∧ PySem.W.kitOne K (.ref a.C_RunFailed) (.type "ArithmeticError") = some true
/-- the classes in the law's order, with their fields -/
def tab (ad : Ad) : List (Addr × Option Str) := [(ad.C_InvalidNet, some "value"), (ad.C_InvalidPlace, some "value"), (ad.C_InvalidMotion, some "value"), (ad.C_InvalidRows, some "index"), (ad.C_InvalidColour, some "value"), (ad.C_InvalidTable, some "value"), (ad.C_InvalidNumber, some "value"), (ad.C_InvalidObservation, some "index"), (ad.C_InvalidText, some "value"), (ad.C_InvalidCommand, some "value"), (ad.C_LimitExceeded, some "limit"), (ad.C_NothingToUndo, none), (ad.C_UnknownName, some "name"), (ad.C_RunFailed, some "index")]
theorem krow {K : PySem.W.Frag} {mg : Str → Option Value} {ad : Ad} (T : Txt K mg ad) : ∀ (i : Nat) (e : Addr × Option Str), (tab ad)[i]? = some e → ExcC K e.1 ∧
    (∀ (j : Nat) (f : Addr × Option Str), (tab ad)[j]? = some f → PySem.W.kitOne K (.ref e.1) (.ref f.1) = some (decide ((j : Int) = (i : Int)))) ∧
    PySem.W.kitOne K (.ref e.1) (.ref ad.C_CarpetError) = some (decide ((i : Int) < 10)) ∧ PySem.W.kitOne K (.ref e.1) (.type "ValueError") = some (decide ((i : Int) < 10)) ∧
    PySem.W.kitOne K (.ref e.1) (.type "OverflowError") = some (decide ((i : Int) = 10)) ∧ PySem.W.kitOne K (.ref e.1) (.type "RuntimeError") = some (decide ((i : Int) = 11)) ∧
    PySem.W.kitOne K (.ref e.1) (.type "KeyError") = some (decide ((i : Int) = 12)) ∧ PySem.W.kitOne K (.ref e.1) (.type "ArithmeticError") = some (inV (.int i) [V.int 10, V.int 13])
  | 0, _, rfl => ⟨T.xi_InvalidNet, fun | 0, _, rfl => T.kr_InvalidNet.1 | 1, _, rfl => T.kr_InvalidNet.2.1 | 2, _, rfl => T.kr_InvalidNet.2.2.1 | 3, _, rfl => T.kr_InvalidNet.2.2.2.1 | 4, _, rfl => T.kr_InvalidNet.2.2.2.2.1 | 5, _, rfl => T.kr_InvalidNet.2.2.2.2.2.1 | 6, _, rfl => T.kr_InvalidNet.2.2.2.2.2.2.1 | 7, _, rfl => T.kr_InvalidNet.2.2.2.2.2.2.2.1 | 8, _, rfl => T.kr_InvalidNet.2.2.2.2.2.2.2.2.1 | 9, _, rfl => T.kr_InvalidNet.2.2.2.2.2.2.2.2.2.1 | 10, _, rfl => T.kr_InvalidNet.2.2.2.2.2.2.2.2.2.2.1 | 11, _, rfl => T.kr_InvalidNet.2.2.2.2.2.2.2.2.2.2.2.1 | 12, _, rfl => T.kr_InvalidNet.2.2.2.2.2.2.2.2.2.2.2.2.1 | 13, _, rfl => T.kr_InvalidNet.2.2.2.2.2.2.2.2.2.2.2.2.2 | n + 14, _, h => (by cases h), T.kt_InvalidNet.1, T.kt_InvalidNet.2.1, T.kt_InvalidNet.2.2.1, T.kt_InvalidNet.2.2.2.1, T.kt_InvalidNet.2.2.2.2.1, T.kt_InvalidNet.2.2.2.2.2⟩
  | 1, _, rfl => ⟨T.xi_InvalidPlace, fun | 0, _, rfl => T.kr_InvalidPlace.1 | 1, _, rfl => T.kr_InvalidPlace.2.1 | 2, _, rfl => T.kr_InvalidPlace.2.2.1 | 3, _, rfl => T.kr_InvalidPlace.2.2.2.1 | 4, _, rfl => T.kr_InvalidPlace.2.2.2.2.1 | 5, _, rfl => T.kr_InvalidPlace.2.2.2.2.2.1 | 6, _, rfl => T.kr_InvalidPlace.2.2.2.2.2.2.1 | 7, _, rfl => T.kr_InvalidPlace.2.2.2.2.2.2.2.1 | 8, _, rfl => T.kr_InvalidPlace.2.2.2.2.2.2.2.2.1 | 9, _, rfl => T.kr_InvalidPlace.2.2.2.2.2.2.2.2.2.1 | 10, _, rfl => T.kr_InvalidPlace.2.2.2.2.2.2.2.2.2.2.1 | 11, _, rfl => T.kr_InvalidPlace.2.2.2.2.2.2.2.2.2.2.2.1 | 12, _, rfl => T.kr_InvalidPlace.2.2.2.2.2.2.2.2.2.2.2.2.1 | 13, _, rfl => T.kr_InvalidPlace.2.2.2.2.2.2.2.2.2.2.2.2.2 | n + 14, _, h => (by cases h), T.kt_InvalidPlace.1, T.kt_InvalidPlace.2.1, T.kt_InvalidPlace.2.2.1, T.kt_InvalidPlace.2.2.2.1, T.kt_InvalidPlace.2.2.2.2.1, T.kt_InvalidPlace.2.2.2.2.2⟩
  | 2, _, rfl => ⟨T.xi_InvalidMotion, fun | 0, _, rfl => T.kr_InvalidMotion.1 | 1, _, rfl => T.kr_InvalidMotion.2.1 | 2, _, rfl => T.kr_InvalidMotion.2.2.1 | 3, _, rfl => T.kr_InvalidMotion.2.2.2.1 | 4, _, rfl => T.kr_InvalidMotion.2.2.2.2.1 | 5, _, rfl => T.kr_InvalidMotion.2.2.2.2.2.1 | 6, _, rfl => T.kr_InvalidMotion.2.2.2.2.2.2.1 | 7, _, rfl => T.kr_InvalidMotion.2.2.2.2.2.2.2.1 | 8, _, rfl => T.kr_InvalidMotion.2.2.2.2.2.2.2.2.1 | 9, _, rfl => T.kr_InvalidMotion.2.2.2.2.2.2.2.2.2.1 | 10, _, rfl => T.kr_InvalidMotion.2.2.2.2.2.2.2.2.2.2.1 | 11, _, rfl => T.kr_InvalidMotion.2.2.2.2.2.2.2.2.2.2.2.1 | 12, _, rfl => T.kr_InvalidMotion.2.2.2.2.2.2.2.2.2.2.2.2.1 | 13, _, rfl => T.kr_InvalidMotion.2.2.2.2.2.2.2.2.2.2.2.2.2 | n + 14, _, h => (by cases h), T.kt_InvalidMotion.1, T.kt_InvalidMotion.2.1, T.kt_InvalidMotion.2.2.1, T.kt_InvalidMotion.2.2.2.1, T.kt_InvalidMotion.2.2.2.2.1, T.kt_InvalidMotion.2.2.2.2.2⟩
  | 3, _, rfl => ⟨T.xi_InvalidRows, fun | 0, _, rfl => T.kr_InvalidRows.1 | 1, _, rfl => T.kr_InvalidRows.2.1 | 2, _, rfl => T.kr_InvalidRows.2.2.1 | 3, _, rfl => T.kr_InvalidRows.2.2.2.1 | 4, _, rfl => T.kr_InvalidRows.2.2.2.2.1 | 5, _, rfl => T.kr_InvalidRows.2.2.2.2.2.1 | 6, _, rfl => T.kr_InvalidRows.2.2.2.2.2.2.1 | 7, _, rfl => T.kr_InvalidRows.2.2.2.2.2.2.2.1 | 8, _, rfl => T.kr_InvalidRows.2.2.2.2.2.2.2.2.1 | 9, _, rfl => T.kr_InvalidRows.2.2.2.2.2.2.2.2.2.1 | 10, _, rfl => T.kr_InvalidRows.2.2.2.2.2.2.2.2.2.2.1 | 11, _, rfl => T.kr_InvalidRows.2.2.2.2.2.2.2.2.2.2.2.1 | 12, _, rfl => T.kr_InvalidRows.2.2.2.2.2.2.2.2.2.2.2.2.1 | 13, _, rfl => T.kr_InvalidRows.2.2.2.2.2.2.2.2.2.2.2.2.2 | n + 14, _, h => (by cases h), T.kt_InvalidRows.1, T.kt_InvalidRows.2.1, T.kt_InvalidRows.2.2.1, T.kt_InvalidRows.2.2.2.1, T.kt_InvalidRows.2.2.2.2.1, T.kt_InvalidRows.2.2.2.2.2⟩
  | 4, _, rfl => ⟨T.xi_InvalidColour, fun | 0, _, rfl => T.kr_InvalidColour.1 | 1, _, rfl => T.kr_InvalidColour.2.1 | 2, _, rfl => T.kr_InvalidColour.2.2.1 | 3, _, rfl => T.kr_InvalidColour.2.2.2.1 | 4, _, rfl => T.kr_InvalidColour.2.2.2.2.1 | 5, _, rfl => T.kr_InvalidColour.2.2.2.2.2.1 | 6, _, rfl => T.kr_InvalidColour.2.2.2.2.2.2.1 | 7, _, rfl => T.kr_InvalidColour.2.2.2.2.2.2.2.1 | 8, _, rfl => T.kr_InvalidColour.2.2.2.2.2.2.2.2.1 | 9, _, rfl => T.kr_InvalidColour.2.2.2.2.2.2.2.2.2.1 | 10, _, rfl => T.kr_InvalidColour.2.2.2.2.2.2.2.2.2.2.1 | 11, _, rfl => T.kr_InvalidColour.2.2.2.2.2.2.2.2.2.2.2.1 | 12, _, rfl => T.kr_InvalidColour.2.2.2.2.2.2.2.2.2.2.2.2.1 | 13, _, rfl => T.kr_InvalidColour.2.2.2.2.2.2.2.2.2.2.2.2.2 | n + 14, _, h => (by cases h), T.kt_InvalidColour.1, T.kt_InvalidColour.2.1, T.kt_InvalidColour.2.2.1, T.kt_InvalidColour.2.2.2.1, T.kt_InvalidColour.2.2.2.2.1, T.kt_InvalidColour.2.2.2.2.2⟩
  | 5, _, rfl => ⟨T.xi_InvalidTable, fun | 0, _, rfl => T.kr_InvalidTable.1 | 1, _, rfl => T.kr_InvalidTable.2.1 | 2, _, rfl => T.kr_InvalidTable.2.2.1 | 3, _, rfl => T.kr_InvalidTable.2.2.2.1 | 4, _, rfl => T.kr_InvalidTable.2.2.2.2.1 | 5, _, rfl => T.kr_InvalidTable.2.2.2.2.2.1 | 6, _, rfl => T.kr_InvalidTable.2.2.2.2.2.2.1 | 7, _, rfl => T.kr_InvalidTable.2.2.2.2.2.2.2.1 | 8, _, rfl => T.kr_InvalidTable.2.2.2.2.2.2.2.2.1 | 9, _, rfl => T.kr_InvalidTable.2.2.2.2.2.2.2.2.2.1 | 10, _, rfl => T.kr_InvalidTable.2.2.2.2.2.2.2.2.2.2.1 | 11, _, rfl => T.kr_InvalidTable.2.2.2.2.2.2.2.2.2.2.2.1 | 12, _, rfl => T.kr_InvalidTable.2.2.2.2.2.2.2.2.2.2.2.2.1 | 13, _, rfl => T.kr_InvalidTable.2.2.2.2.2.2.2.2.2.2.2.2.2 | n + 14, _, h => (by cases h), T.kt_InvalidTable.1, T.kt_InvalidTable.2.1, T.kt_InvalidTable.2.2.1, T.kt_InvalidTable.2.2.2.1, T.kt_InvalidTable.2.2.2.2.1, T.kt_InvalidTable.2.2.2.2.2⟩
  | 6, _, rfl => ⟨T.xi_InvalidNumber, fun | 0, _, rfl => T.kr_InvalidNumber.1 | 1, _, rfl => T.kr_InvalidNumber.2.1 | 2, _, rfl => T.kr_InvalidNumber.2.2.1 | 3, _, rfl => T.kr_InvalidNumber.2.2.2.1 | 4, _, rfl => T.kr_InvalidNumber.2.2.2.2.1 | 5, _, rfl => T.kr_InvalidNumber.2.2.2.2.2.1 | 6, _, rfl => T.kr_InvalidNumber.2.2.2.2.2.2.1 | 7, _, rfl => T.kr_InvalidNumber.2.2.2.2.2.2.2.1 | 8, _, rfl => T.kr_InvalidNumber.2.2.2.2.2.2.2.2.1 | 9, _, rfl => T.kr_InvalidNumber.2.2.2.2.2.2.2.2.2.1 | 10, _, rfl => T.kr_InvalidNumber.2.2.2.2.2.2.2.2.2.2.1 | 11, _, rfl => T.kr_InvalidNumber.2.2.2.2.2.2.2.2.2.2.2.1 | 12, _, rfl => T.kr_InvalidNumber.2.2.2.2.2.2.2.2.2.2.2.2.1 | 13, _, rfl => T.kr_InvalidNumber.2.2.2.2.2.2.2.2.2.2.2.2.2 | n + 14, _, h => (by cases h), T.kt_InvalidNumber.1, T.kt_InvalidNumber.2.1, T.kt_InvalidNumber.2.2.1, T.kt_InvalidNumber.2.2.2.1, T.kt_InvalidNumber.2.2.2.2.1, T.kt_InvalidNumber.2.2.2.2.2⟩
  | 7, _, rfl => ⟨T.xi_InvalidObservation, fun | 0, _, rfl => T.kr_InvalidObservation.1 | 1, _, rfl => T.kr_InvalidObservation.2.1 | 2, _, rfl => T.kr_InvalidObservation.2.2.1 | 3, _, rfl => T.kr_InvalidObservation.2.2.2.1 | 4, _, rfl => T.kr_InvalidObservation.2.2.2.2.1 | 5, _, rfl => T.kr_InvalidObservation.2.2.2.2.2.1 | 6, _, rfl => T.kr_InvalidObservation.2.2.2.2.2.2.1 | 7, _, rfl => T.kr_InvalidObservation.2.2.2.2.2.2.2.1 | 8, _, rfl => T.kr_InvalidObservation.2.2.2.2.2.2.2.2.1 | 9, _, rfl => T.kr_InvalidObservation.2.2.2.2.2.2.2.2.2.1 | 10, _, rfl => T.kr_InvalidObservation.2.2.2.2.2.2.2.2.2.2.1 | 11, _, rfl => T.kr_InvalidObservation.2.2.2.2.2.2.2.2.2.2.2.1 | 12, _, rfl => T.kr_InvalidObservation.2.2.2.2.2.2.2.2.2.2.2.2.1 | 13, _, rfl => T.kr_InvalidObservation.2.2.2.2.2.2.2.2.2.2.2.2.2 | n + 14, _, h => (by cases h), T.kt_InvalidObservation.1, T.kt_InvalidObservation.2.1, T.kt_InvalidObservation.2.2.1, T.kt_InvalidObservation.2.2.2.1, T.kt_InvalidObservation.2.2.2.2.1, T.kt_InvalidObservation.2.2.2.2.2⟩
  | 8, _, rfl => ⟨T.xi_InvalidText, fun | 0, _, rfl => T.kr_InvalidText.1 | 1, _, rfl => T.kr_InvalidText.2.1 | 2, _, rfl => T.kr_InvalidText.2.2.1 | 3, _, rfl => T.kr_InvalidText.2.2.2.1 | 4, _, rfl => T.kr_InvalidText.2.2.2.2.1 | 5, _, rfl => T.kr_InvalidText.2.2.2.2.2.1 | 6, _, rfl => T.kr_InvalidText.2.2.2.2.2.2.1 | 7, _, rfl => T.kr_InvalidText.2.2.2.2.2.2.2.1 | 8, _, rfl => T.kr_InvalidText.2.2.2.2.2.2.2.2.1 | 9, _, rfl => T.kr_InvalidText.2.2.2.2.2.2.2.2.2.1 | 10, _, rfl => T.kr_InvalidText.2.2.2.2.2.2.2.2.2.2.1 | 11, _, rfl => T.kr_InvalidText.2.2.2.2.2.2.2.2.2.2.2.1 | 12, _, rfl => T.kr_InvalidText.2.2.2.2.2.2.2.2.2.2.2.2.1 | 13, _, rfl => T.kr_InvalidText.2.2.2.2.2.2.2.2.2.2.2.2.2 | n + 14, _, h => (by cases h), T.kt_InvalidText.1, T.kt_InvalidText.2.1, T.kt_InvalidText.2.2.1, T.kt_InvalidText.2.2.2.1, T.kt_InvalidText.2.2.2.2.1, T.kt_InvalidText.2.2.2.2.2⟩
  | 9, _, rfl => ⟨T.xi_InvalidCommand, fun | 0, _, rfl => T.kr_InvalidCommand.1 | 1, _, rfl => T.kr_InvalidCommand.2.1 | 2, _, rfl => T.kr_InvalidCommand.2.2.1 | 3, _, rfl => T.kr_InvalidCommand.2.2.2.1 | 4, _, rfl => T.kr_InvalidCommand.2.2.2.2.1 | 5, _, rfl => T.kr_InvalidCommand.2.2.2.2.2.1 | 6, _, rfl => T.kr_InvalidCommand.2.2.2.2.2.2.1 | 7, _, rfl => T.kr_InvalidCommand.2.2.2.2.2.2.2.1 | 8, _, rfl => T.kr_InvalidCommand.2.2.2.2.2.2.2.2.1 | 9, _, rfl => T.kr_InvalidCommand.2.2.2.2.2.2.2.2.2.1 | 10, _, rfl => T.kr_InvalidCommand.2.2.2.2.2.2.2.2.2.2.1 | 11, _, rfl => T.kr_InvalidCommand.2.2.2.2.2.2.2.2.2.2.2.1 | 12, _, rfl => T.kr_InvalidCommand.2.2.2.2.2.2.2.2.2.2.2.2.1 | 13, _, rfl => T.kr_InvalidCommand.2.2.2.2.2.2.2.2.2.2.2.2.2 | n + 14, _, h => (by cases h), T.kt_InvalidCommand.1, T.kt_InvalidCommand.2.1, T.kt_InvalidCommand.2.2.1, T.kt_InvalidCommand.2.2.2.1, T.kt_InvalidCommand.2.2.2.2.1, T.kt_InvalidCommand.2.2.2.2.2⟩
  | 10, _, rfl => ⟨T.xi_LimitExceeded, fun | 0, _, rfl => T.kr_LimitExceeded.1 | 1, _, rfl => T.kr_LimitExceeded.2.1 | 2, _, rfl => T.kr_LimitExceeded.2.2.1 | 3, _, rfl => T.kr_LimitExceeded.2.2.2.1 | 4, _, rfl => T.kr_LimitExceeded.2.2.2.2.1 | 5, _, rfl => T.kr_LimitExceeded.2.2.2.2.2.1 | 6, _, rfl => T.kr_LimitExceeded.2.2.2.2.2.2.1 | 7, _, rfl => T.kr_LimitExceeded.2.2.2.2.2.2.2.1 | 8, _, rfl => T.kr_LimitExceeded.2.2.2.2.2.2.2.2.1 | 9, _, rfl => T.kr_LimitExceeded.2.2.2.2.2.2.2.2.2.1 | 10, _, rfl => T.kr_LimitExceeded.2.2.2.2.2.2.2.2.2.2.1 | 11, _, rfl => T.kr_LimitExceeded.2.2.2.2.2.2.2.2.2.2.2.1 | 12, _, rfl => T.kr_LimitExceeded.2.2.2.2.2.2.2.2.2.2.2.2.1 | 13, _, rfl => T.kr_LimitExceeded.2.2.2.2.2.2.2.2.2.2.2.2.2 | n + 14, _, h => (by cases h), T.kt_LimitExceeded.1, T.kt_LimitExceeded.2.1, T.kt_LimitExceeded.2.2.1, T.kt_LimitExceeded.2.2.2.1, T.kt_LimitExceeded.2.2.2.2.1, T.kt_LimitExceeded.2.2.2.2.2⟩
  | 11, _, rfl => ⟨T.xi_NothingToUndo, fun | 0, _, rfl => T.kr_NothingToUndo.1 | 1, _, rfl => T.kr_NothingToUndo.2.1 | 2, _, rfl => T.kr_NothingToUndo.2.2.1 | 3, _, rfl => T.kr_NothingToUndo.2.2.2.1 | 4, _, rfl => T.kr_NothingToUndo.2.2.2.2.1 | 5, _, rfl => T.kr_NothingToUndo.2.2.2.2.2.1 | 6, _, rfl => T.kr_NothingToUndo.2.2.2.2.2.2.1 | 7, _, rfl => T.kr_NothingToUndo.2.2.2.2.2.2.2.1 | 8, _, rfl => T.kr_NothingToUndo.2.2.2.2.2.2.2.2.1 | 9, _, rfl => T.kr_NothingToUndo.2.2.2.2.2.2.2.2.2.1 | 10, _, rfl => T.kr_NothingToUndo.2.2.2.2.2.2.2.2.2.2.1 | 11, _, rfl => T.kr_NothingToUndo.2.2.2.2.2.2.2.2.2.2.2.1 | 12, _, rfl => T.kr_NothingToUndo.2.2.2.2.2.2.2.2.2.2.2.2.1 | 13, _, rfl => T.kr_NothingToUndo.2.2.2.2.2.2.2.2.2.2.2.2.2 | n + 14, _, h => (by cases h), T.kt_NothingToUndo.1, T.kt_NothingToUndo.2.1, T.kt_NothingToUndo.2.2.1, T.kt_NothingToUndo.2.2.2.1, T.kt_NothingToUndo.2.2.2.2.1, T.kt_NothingToUndo.2.2.2.2.2⟩
  | 12, _, rfl => ⟨T.xi_UnknownName, fun | 0, _, rfl => T.kr_UnknownName.1 | 1, _, rfl => T.kr_UnknownName.2.1 | 2, _, rfl => T.kr_UnknownName.2.2.1 | 3, _, rfl => T.kr_UnknownName.2.2.2.1 | 4, _, rfl => T.kr_UnknownName.2.2.2.2.1 | 5, _, rfl => T.kr_UnknownName.2.2.2.2.2.1 | 6, _, rfl => T.kr_UnknownName.2.2.2.2.2.2.1 | 7, _, rfl => T.kr_UnknownName.2.2.2.2.2.2.2.1 | 8, _, rfl => T.kr_UnknownName.2.2.2.2.2.2.2.2.1 | 9, _, rfl => T.kr_UnknownName.2.2.2.2.2.2.2.2.2.1 | 10, _, rfl => T.kr_UnknownName.2.2.2.2.2.2.2.2.2.2.1 | 11, _, rfl => T.kr_UnknownName.2.2.2.2.2.2.2.2.2.2.2.1 | 12, _, rfl => T.kr_UnknownName.2.2.2.2.2.2.2.2.2.2.2.2.1 | 13, _, rfl => T.kr_UnknownName.2.2.2.2.2.2.2.2.2.2.2.2.2 | n + 14, _, h => (by cases h), T.kt_UnknownName.1, T.kt_UnknownName.2.1, T.kt_UnknownName.2.2.1, T.kt_UnknownName.2.2.2.1, T.kt_UnknownName.2.2.2.2.1, T.kt_UnknownName.2.2.2.2.2⟩
  | 13, _, rfl => ⟨T.xi_RunFailed, fun | 0, _, rfl => T.kr_RunFailed.1 | 1, _, rfl => T.kr_RunFailed.2.1 | 2, _, rfl => T.kr_RunFailed.2.2.1 | 3, _, rfl => T.kr_RunFailed.2.2.2.1 | 4, _, rfl => T.kr_RunFailed.2.2.2.2.1 | 5, _, rfl => T.kr_RunFailed.2.2.2.2.2.1 | 6, _, rfl => T.kr_RunFailed.2.2.2.2.2.2.1 | 7, _, rfl => T.kr_RunFailed.2.2.2.2.2.2.2.1 | 8, _, rfl => T.kr_RunFailed.2.2.2.2.2.2.2.2.1 | 9, _, rfl => T.kr_RunFailed.2.2.2.2.2.2.2.2.2.1 | 10, _, rfl => T.kr_RunFailed.2.2.2.2.2.2.2.2.2.2.1 | 11, _, rfl => T.kr_RunFailed.2.2.2.2.2.2.2.2.2.2.2.1 | 12, _, rfl => T.kr_RunFailed.2.2.2.2.2.2.2.2.2.2.2.2.1 | 13, _, rfl => T.kr_RunFailed.2.2.2.2.2.2.2.2.2.2.2.2.2 | n + 14, _, h => (by cases h), T.kt_RunFailed.1, T.kt_RunFailed.2.1, T.kt_RunFailed.2.2.1, T.kt_RunFailed.2.2.2.1, T.kt_RunFailed.2.2.2.2.1, T.kt_RunFailed.2.2.2.2.2⟩
  | n + 14, _, h => by cases h
/-- the list of the errors that were made -/
def XL (H : Hp) (y : V) : List Addr → List (Addr × Option Str) → Prop
  | [], [] => True
  | a :: as, e :: es => XO H a e.1 y e.2 ∧ XL H y as es
  | _, _ => False
theorem XL.mv {H H' : Hp} {y : V} (s : Stp none H H') : ∀ {as : List Addr} {es : List (Addr × Option Str)}, XL H y as es → XL H' y as es
  | [], [], _ => True.intro
  | _ :: _, _ :: _, h => ⟨h.1.mv s, XL.mv s h.2⟩
  | [], _ :: _, h => h.elim
  | _ :: _, [], h => h.elim
theorem XL.at {H : Hp} {y : V} : ∀ {as : List Addr} {es : List (Addr × Option Str)} {i : Nat} {v : V}, XL H y as es → (as.map V.ref)[i]? = some v → ∃ a e, v = .ref a ∧ es[i]? = some e ∧ XO H a e.1 y e.2
  | [], [], i, v, _, h => by simp at h
  | a :: as, e :: es, 0, v, h, hv => by
    have : V.ref a = v := by simpa using hv
    exact ⟨a, e, this.symm, rfl, h.1⟩
  | a :: as, e :: es, i + 1, v, h, hv => by
    obtain ⟨b, f, h1, h2, h3⟩ := XL.at (i := i) h.2 (by simpa using hv)
    exact ⟨b, f, h1, by simpa using h2, h3⟩
  | [], _ :: _, _, _, h, _ => h.elim
  | _ :: _, [], _, _, h, _ => h.elim
theorem XL.len {H : Hp} {y : V} : ∀ {as : List Addr} {es : List (Addr × Option Str)}, XL H y as es → as.length = es.length
  | [], [], _ => rfl
  | _ :: _, _ :: _, h => congrArg Nat.succ (XL.len h.2)
  | [], _ :: _, h => h.elim
  | _ :: _, [], h => h.elim
end Law

set_option Elab.async false
set_option linter.all false
set_option maxRecDepth 100000
set_option maxHeartbeats 4000000
namespace Law
open PySem PySem.Spec PyProof.Rows L2 MV TL
local macro_rules | `(tactic| walk_at "up") => `(tactic| first
  | assumption
  | (refine' IT.mv ?s ?g; (case s => assumption); (case g => walk_at "up"))
  | (refine' IT.k ?g; (case g => walk_at "up"))
  | (refine' IK.mv ?s ?g; (case s => assumption); (case g => walk_at "up"))
  | (refine' Tape.mvN ?s ?g; (case s => assumption); (case g => walk_at "up"))
  | (refine' Tape.mvS ?s ?g; (case s => assumption); (case g => walk_at "up"))
  | (refine' At.tup ?s ?g; (case s => assumption); (case g => walk_at "up"))
  | (refine' At.ins ?s ?g; (case s => assumption); (case g => walk_at "up"))
  | (refine' At.lst ?s ?g; (case s => assumption); (case g => walk_at "up"))
  | (refine' At.lstS ?s ?n ?g; (case s => assumption); (case n => assumption); (case g => walk_at "up"))
  | fail)
local macro_rules | `(tactic| walk_at "st") => `(tactic| first
  | assumption
  | exact Stp.refl _ _
  | (refine' Stp.w ?s; (case s => assumption))
  | (refine' Stp.trans ?g ?s; (case s => (first | assumption | (refine' Stp.w ?u; (case u => assumption)))); (case g => walk_at "st"))
  | fail)
local macro_rules | `(tactic| walk_at "bT") => `(tactic| first
  | decide
  | (simp only [Bool.not_eq_true', Bool.not_eq_false', decide_eq_true_eq, decide_eq_false_iff_not]; omega)
  | fail)
local macro_rules | `(tactic| walk_at "sd") => `(tactic| first | assumption | decide | omega | fail)
local macro_rules | `(tactic| walk_at "r") => `(tactic| first
  | (with_reducible refine r_seq ?_)
  | (with_reducible refine r_asg ?_)
  | ((with_reducible refine' r_var ?h ?k); (case h => rfl))
  | (with_reducible refine r_c ?_)
  | (with_reducible refine r_op ?_)
  | (with_reducible refine r_un ?_)
  | (with_reducible refine r_nil ?_)
  | (with_reducible refine r_cons ?_)
  | (with_reducible refine r_tup ?_)
  | (with_reducible refine r_lst ?_)
  | (with_reducible refine r_cbLen ?_)
  | (with_reducible refine r_cbInt ?_)
  | (with_reducible refine r_cbRepr ?_)
  | (with_reducible refine r_cbTup ?_)
  | (with_reducible refine r_cbLst ?_)
  | (with_reducible refine r_cb ?_)
  | (with_reducible refine r_prop ?_)
  | (with_reducible refine r_andV ?_)
  | (with_reducible refine r_orV ?_)
  | (with_reducible refine r_notV ?_)
  | (with_reducible refine r_chain ?_)
  | (with_reducible refine r_ifE ?_)
  | (with_reducible refine r_test ?_)
  | (with_reducible refine r_B ?_)
  | (with_reducible refine r_and ?_)
  | (with_reducible refine r_or ?_)
  | (with_reducible refine r_not ?_)
  | (with_reducible refine r_yes ?_)
  | (with_reducible refine r_k ?_)
  | (with_reducible refine r_kV ?_)
  | (with_reducible refine r_next ?_)
  | (with_reducible refine r_drop ?_)
  | (with_reducible refine r_ret ?_)
  | (with_reducible refine r_ifS ?_)
  | (with_reducible refine r_par ?_)
  | (with_reducible refine r_par1 ?_)
  | (with_reducible refine r_gname ?_)
  | (with_reducible refine r_gnil ?_)
  | (with_reducible refine r_gcons ?_)
  | ((with_reducible refine' r_unpack2 ?h ?k); (case h => walk_at "up"))
  | ((with_reducible refine' r_unpack3 ?h ?k); (case h => walk_at "up"))
  | (with_reducible refine r_add ?_)
  | (with_reducible refine r_sub ?_)
  | (with_reducible refine r_neg ?_)
  | ((with_reducible refine' r_mod ?h ?k); (case h => walk_at "sd"))
  | ((with_reducible refine' r_div ?h ?k); (case h => walk_at "sd"))
  | ((with_reducible refine' r_mul ?h ?k); (case h => walk_at "sd"))
  | ((with_reducible refine' r_mulW ?h ?k); (case h => walk_at "sd"))
  | ((with_reducible refine' r_pow ?h ?k); (case h => (show (0 : Int) ≤ _ ∧ _ ∧ _; decide)))
  | (with_reducible refine r_lt ?_)
  | (with_reducible refine r_le ?_)
  | (with_reducible refine r_gt ?_)
  | (with_reducible refine r_ge ?_)
  | (with_reducible refine r_eqI ?_)
  | (with_reducible refine r_neI ?_)
  | (with_reducible refine r_eqS ?_)
  | (with_reducible refine r_neS ?_)
  | ((with_reducible refine' r_eqT ?h ?g ?k); (case h => walk_at "up"); (case g => walk_at "up"))
  | ((with_reducible refine' r_neT ?h ?g ?k); (case h => walk_at "up"); (case g => walk_at "up"))
  | ((with_reducible refine' r_ix0 ?h ?k); (case h => walk_at "up"))
  | ((with_reducible refine' r_ix1 ?h ?k); (case h => walk_at "up"))
  | ((with_reducible refine' r_ix2 ?h ?k); (case h => walk_at "up"))
  | (with_reducible refine r_newI2 (fun v H2 S I => ?_))
  | (with_reducible refine r_newI3 (fun v H2 S I => ?_))
  | (with_reducible refine r_newL1 (fun p H2 S hp np => ?_))
  | (with_reducible refine r_newL2 (fun p H2 S hp np => ?_))
  | (with_reducible refine r_newL3 (fun p H2 S hp np => ?_))
  | (with_reducible refine r_T ?_)
  | (with_reducible refine r_F ?_)
  | fail)
local macro_rules | `(tactic| walk_at "go") => `(tactic| repeat (walk_at "r"))
local macro_rules | `(tactic| walk_at "r") => `(tactic| first
  | (with_reducible refine r_call0 ?_)
  | (with_reducible refine r_meth0 ?_)
  | (with_reducible refine r_make0 ?_)
  | (with_reducible refine r_isiII ?_)
  | (with_reducible refine r_isiIB ?_)
  | ((with_reducible refine' r_isiTT ?h ?k); (case h => walk_at "up"))
  | ((with_reducible refine' r_len2 ?h ?k); (case h => walk_at "up"))
  | ((with_reducible refine' r_len3 ?h ?k); (case h => walk_at "up"))
  | ((with_reducible refine' r_lenL ?h ?k); (case h => walk_at "up"))
  | (with_reducible refine r_int1 ?_)
  | (with_reducible refine r_int1B ?_)
  | (with_reducible refine r_nT ?_)
  | (with_reducible refine r_nF ?_)
  | (with_reducible refine r_gcd ?_)
  | (with_reducible refine r_gsub ?_)
  | (with_reducible refine r_fld ?_)
  | (with_reducible refine r_p6 ?_)
  | (with_reducible refine r_p9 ?_)
  | (with_reducible refine r_p10 ?_)
  | (with_reducible refine r_p11 ?_)
  | (with_reducible refine r_p12 ?_)
  | (with_reducible refine r_p18 ?_)
  | (with_reducible refine r_p20 ?_)
  | (with_reducible refine r_p26 ?_)
  | (with_reducible refine r_p27 ?_)
  | (with_reducible refine r_p30 ?_)
  | ((with_reducible refine' r_iF ?h ?k); (case h => walk_at "bT"))
  | ((with_reducible refine' r_iT ?h ?k); (case h => walk_at "bT"))
  | (with_reducible refine r_sfld ?_)
  | (with_reducible refine r_sl ?_)
  | (with_reducible refine r_noPart ?_)
  | (with_reducible refine r_part ?_)
  | (with_reducible refine r_pk ?_)
  | ((with_reducible refine' r_unl2 ?h ?k); (case h => walk_at "up"))
  | ((with_reducible refine' r_ixLi ?h ?h0 ?hn ?k); (case h => walk_at "up"); (case h0 => walk_at "sd"); (case hn => rfl))
  | fail)

section
variable {P : Program} {w : World} {K : PySem.W.Frag} {mg : Str → Option Value} {base : Heap} {ad : Ad} {H : Hp} {Q : VK} {E : XK} {i j x y : Int} {v : V}
/-! ### draws -/
def sp_law_tape (K : PySem.W.Frag) : Sp := fun vs H Q _ => ∃ (l : Addr) (ns : List Int), vs = [.ref l] ∧ SqL K H l (ns.map V.int) ∧ ∀ t H', Stp none H H' → H t = none → Tape H' t → Q (.ref t) H'
theorem ok_law_tape (T : Txt K mg ad) : FnG P w K mg base CX0 1 ad.law_tape ad.law_tape_d P_law_tape (sp_law_tape K) := by
  refine Fun.g T.F_law_tape sc_law_tape (fun vs H Q E h => ?_) (fun cdv A outer s H vs Q E hr hg h => ?_)
  · obtain ⟨l, ns, rfl, _⟩ := h
    rfl
  · obtain ⟨l, ns, rfl, hl, q⟩ := h
    refine ⟨_, (pss_one (ps_ret (pe_lst (pa_cons (pe_callTy call_list_of (by rfl) T.z_list (by decide +kernel) (pa_cons (pe_slice sl_list (pv 0) po_none (po_some pe_int)) pa_nil)) (pa_cons pe_int (pa_cons pe_int (pa_cons pe_int pa_nil))))))), ?_⟩
    walk_at "go"
    refine r_slL hl fun l1 H1 S1 h1 n1 => ?_
    walk_at "go"
    refine r_lstL (SqL.of h1) fun l2 H2 S2 h2 n2 => ?_
    walk_at "go"
    refine r_newL (sz100 (Nat.le_of_ble_eq_true rfl)) fun t H3 S3 h3 n3 => ?_
    obtain ⟨ms, e⟩ := cutV_map ns none (some 63)
    rw [e] at h2
    have nl : l2 ≠ t := ne_of_none h2 n3
    refine q t H3 (by walk_at "st") ?_ ⟨l2, ms, 0, 0, 17, nl, h3, S3.all _ _ h2, by decide, by decide, by decide⟩
    cases z : H t with
    | none => rfl
    | some o => exact absurd (S2.all _ _ (S1.all _ _ z)) (by rw [n3]; simp)
theorem do_law_tape {l : Addr} {ns : List Int} (h : SqL K H l (ns.map V.int)) (k : ∀ t H', Stp none H H' → H t = none → Tape H' t → Q (.ref t) H') :
    sp_law_tape K [.ref l] H Q E := ⟨l, ns, rfl, h, k⟩

def sp_law_draw : Sp := fun vs H Q _ => ∃ t m, vs = [.ref t, .int m] ∧ Tape H t ∧ 0 < m ∧ m < 10 ^ 30 ∧ ∀ r H', 0 ≤ r → r < m → Stp (some t) H H' → Q (.int r) H'
theorem ok_law_draw (T : Txt K mg ad) : FnG P w K mg base CX0 1 ad.law_draw ad.law_draw_d P_law_draw sp_law_draw := by
  refine Fun.g T.F_law_draw sc_law_draw (fun vs H Q E h => ?_) (fun cdv A outer s H vs Q E hr hg h => ?_)
  · obtain ⟨t, m, rfl, _⟩ := h
    rfl
  · obtain ⟨t, m, rfl, hT, m0, m1, q⟩ := h
    obtain ⟨l, ns, a, b, c, X⟩ := hT.is
    have ht := X.at_
    have hl := X.li
    have a0 := X.a0
    have c0 := X.c0
    have c1 := X.c1
    have dv : ∀ z : Int, CDivW z m := fun z => divW_of m0 (by omega)
    have rm : ∀ z : Int, 0 ≤ z % m ∧ z % m < m := fun z => ⟨Int.emod_nonneg _ (by omega), Int.emod_lt_of_pos _ m0⟩
    refine ⟨_, (pss_cons (ps_if (pt_cmpR op_gt (pe_ix ix_seq (pv 0) pe_int (fun _ _ => rfl)) pe_int (nomark _))
      (pss_cons (ps_set (i := 2) sc_law_draw.nd rfl (Or.inl rfl) (pe_op op_mod (pe_ix ix_seq (pv 0) pe_int (fun _ _ => rfl)) (pv 1)))
      (pss_cons (ps_asg (pe_op op_fdivW (pe_ix ix_seq (pv 0) pe_int (fun _ _ => rfl)) (pv 1)) (pg_sub (pv 0) pe_int set_list))
      (pss_one (ps_ret (pv 2))))) pss_nil)
      (pss_cons (ps_set (i := 3) sc_law_draw.nd rfl (Or.inl rfl) pe_int)
      (pss_cons (ps_if (pt_cmpR op_lt (pe_ix ix_seq (pv 0) pe_int (fun _ _ => rfl)) (pe_callB call_len_seq (by rfl) T.z_len (by decide +kernel) (pa_cons (pe_ix ix_seq (pv 0) pe_int (fun _ _ => rfl)) pa_nil)) (nomark _))
      (pss_one (ps_set (i := 3) sc_law_draw.nd rfl (Or.inl rfl) (pe_ix ix_seq (pe_ix ix_seq (pv 0) pe_int (fun _ _ => rfl)) (pe_ix ix_seq (pv 0) pe_int (fun _ _ => rfl)) (fun _ _ => rfl)))) pss_nil)
      (pss_cons (ps_asg (pe_op op_add (pe_ix ix_seq (pv 0) pe_int (fun _ _ => rfl)) pe_int) (pg_sub (pv 0) pe_int set_list))
      (pss_cons (ps_if (pt_cmpR op_ge (pv 3) (pe_op op_pow pe_int pe_int) (nomark _))
      (pss_cons (ps_asg (pe_op op_fdivW (pv 3) (pv 1)) (pg_sub (pv 0) pe_int set_list))
      (pss_one (ps_ret (pe_op op_mod (pv 3) (pv 1))))) pss_nil)
      (pss_cons (ps_set (i := 4) sc_law_draw.nd rfl (Or.inl rfl) (pe_op op_add (pe_op op_add (pe_op op_mod (pv 3) pe_int) (pe_op op_mul pe_int (pe_ix ix_seq (pv 0) pe_int (fun _ _ => rfl)))) pe_int))
      (pss_cons (ps_asg (pe_op op_mod (pe_op op_add (pe_op op_mul (pe_ix ix_seq (pv 0) pe_int (fun _ _ => rfl)) pe_int) (pv 4)) pe_int) (pg_sub (pv 0) pe_int set_list))
      (pss_one (ps_ret (pe_op op_mod (pe_op op_mod (pe_op op_pow (pe_ix ix_seq (pv 0) pe_int (fun _ _ => rfl)) pe_int) pe_int) (pv 1))))))))))), ?_⟩
    walk_at "go"
    refine r_ite (fun hb => ?_) (fun hb => ?_)
    · walk_at "go"
      refine r_div (dv _) ?_
      walk_at "go"
      obtain ⟨S1, X1⟩ := X.put (a' := a) (b' := b / m) a0 c0 c1
      refine r_set2 ht ?_
      walk_at "go"
      exact q _ _ (rm _).1 (rm _).2 S1
    · walk_at "go"
      refine r_ite (fun ha => ?_) (fun ha => ?_)
      · have hz : ∃ z : Int, (ns.map V.int)[a.toNat]? = some (.int z) := by
          rw [List.length_map] at ha
          have : a.toNat < ns.length := by omega
          exact ⟨ns[a.toNat], by rw [List.getElem?_map, List.getElem?_eq_getElem this]; rfl⟩
        obtain ⟨z, hz⟩ := hz
        walk_at "go"
        refine r_ixLi hl a0 hz ?_
        walk_at "go"
        obtain ⟨S1, X1⟩ := X.put (a' := a + 1) (b' := b) (by omega) c0 c1
        refine r_set1 ht ?_
        generalize upd H t (.lst [.ref l, .int (a + 1), .int b, .int c]) = H1 at S1 X1 ⊢
        have ht1 := X1.at_
        walk_at "go"
        refine r_ite (fun hc => ?_) (fun hc => ?_)
        · walk_at "go"
          refine r_div (dv _) ?_
          walk_at "go"
          obtain ⟨S2, X2⟩ := X1.put (a' := a + 1) (b' := z / m) (by omega) c0 c1
          refine r_set2 ht1 ?_
          walk_at "go"
          exact q _ _ (rm _).1 (rm _).2 (S1.trans S2)
        · walk_at "go"
          refine r_mul (.inl ⟨by decide, by decide⟩) ?_
          walk_at "go"
          refine r_mul (.inl ⟨by omega, by omega⟩) ?_
          walk_at "go"
          have rm2 : ∀ z : Int, 0 ≤ z % 2147483647 ∧ z % 2147483647 < 2147483647 := fun z => ⟨Int.emod_nonneg _ (by omega), Int.emod_lt_of_pos _ (by omega)⟩
          obtain ⟨S2, X2⟩ := X1.put (a' := a + 1) (b' := b) (by omega) (rm2 _).1 (rm2 _).2
          refine r_set3 ht1 ?_
          have ht2 := X2.at_
          walk_at "go"
          refine r_pow ?_ ?_
          · have := rm2 (c * 48271 + (z % 2147483647 + 7919 * (a + 1) + 11))
            exact ⟨by decide, by decide, by omega⟩
          walk_at "go"
          exact q _ _ (rm _).1 (rm _).2 (S1.trans S2)
      · walk_at "go"
        obtain ⟨S1, X1⟩ := X.put (a' := a + 1) (b' := b) (by omega) c0 c1
        refine r_set1 ht ?_
        generalize upd H t (.lst [.ref l, .int (a + 1), .int b, .int c]) = H1 at S1 X1 ⊢
        have ht1 := X1.at_
        walk_at "go"
        refine r_mul (.inl ⟨by decide, by decide⟩) ?_
        walk_at "go"
        refine r_mul (.inl ⟨by omega, by omega⟩) ?_
        walk_at "go"
        have rm2 : ∀ z : Int, 0 ≤ z % 2147483647 ∧ z % 2147483647 < 2147483647 := fun z => ⟨Int.emod_nonneg _ (by omega), Int.emod_lt_of_pos _ (by omega)⟩
        obtain ⟨S2, X2⟩ := X1.put (a' := a + 1) (b' := b) (by omega) (rm2 _).1 (rm2 _).2
        refine r_set3 ht1 ?_
        have ht2 := X2.at_
        walk_at "go"
        refine r_pow ?_ ?_
        · have := rm2 (c * 48271 + (0 % 2147483647 + 7919 * (a + 1) + 11))
          exact ⟨by decide, by decide, by omega⟩
        walk_at "go"
        exact q _ _ (rm _).1 (rm _).2 (S1.trans S2)
theorem do_law_draw {t : Addr} {m : Int} (T : Tape H t) (h0 : 0 < m) (h1 : m < 10 ^ 30) (k : ∀ r H', 0 ≤ r → r < m → Stp (some t) H H' → Q (.int r) H') :
    sp_law_draw [.ref t, .int m] H Q E := ⟨t, m, rfl, T, h0, h1, k⟩
local macro_rules | `(tactic| walk_at "dr") => `(tactic| (refine do_law_draw (by walk_at "up") (by first | decide | omega) (by first | decide | omega) ?_))
end
end Law

set_option Elab.async false
set_option linter.all false
set_option maxRecDepth 100000
set_option maxHeartbeats 4000000
namespace Law
open PySem PySem.Spec PyProof.Rows L2 MV TL
local macro_rules | `(tactic| walk_at "up") => `(tactic| first
  | assumption
  | (refine' IT.mv ?s ?g; (case s => assumption); (case g => walk_at "up"))
  | (refine' IT.k ?g; (case g => walk_at "up"))
  | (refine' IK.mv ?s ?g; (case s => assumption); (case g => walk_at "up"))
  | (refine' Tape.mvN ?s ?g; (case s => assumption); (case g => walk_at "up"))
  | (refine' Tape.mvS ?s ?g; (case s => assumption); (case g => walk_at "up"))
  | (refine' At.tup ?s ?g; (case s => assumption); (case g => walk_at "up"))
  | (refine' At.ins ?s ?g; (case s => assumption); (case g => walk_at "up"))
  | (refine' At.lst ?s ?g; (case s => assumption); (case g => walk_at "up"))
  | (refine' At.lstS ?s ?n ?g; (case s => assumption); (case n => assumption); (case g => walk_at "up"))
  | fail)
local macro_rules | `(tactic| walk_at "st") => `(tactic| first
  | assumption
  | exact Stp.refl _ _
  | (refine' Stp.w ?s; (case s => assumption))
  | (refine' Stp.trans ?g ?s; (case s => (first | assumption | (refine' Stp.w ?u; (case u => assumption)))); (case g => walk_at "st"))
  | fail)
local macro_rules | `(tactic| walk_at "bT") => `(tactic| first
  | decide
  | (simp only [Bool.not_eq_true', Bool.not_eq_false', decide_eq_true_eq, decide_eq_false_iff_not]; omega)
  | fail)
local macro_rules | `(tactic| walk_at "sd") => `(tactic| first | assumption | decide | omega | fail)
local macro_rules | `(tactic| walk_at "r") => `(tactic| first
  | (with_reducible refine r_seq ?_)
  | (with_reducible refine r_asg ?_)
  | ((with_reducible refine' r_var ?h ?k); (case h => rfl))
  | (with_reducible refine r_c ?_)
  | (with_reducible refine r_op ?_)
  | (with_reducible refine r_un ?_)
  | (with_reducible refine r_nil ?_)
  | (with_reducible refine r_cons ?_)
  | (with_reducible refine r_tup ?_)
  | (with_reducible refine r_lst ?_)
  | (with_reducible refine r_cbLen ?_)
  | (with_reducible refine r_cbInt ?_)
  | (with_reducible refine r_cbRepr ?_)
  | (with_reducible refine r_cbTup ?_)
  | (with_reducible refine r_cbLst ?_)
  | (with_reducible refine r_cb ?_)
  | (with_reducible refine r_prop ?_)
  | (with_reducible refine r_andV ?_)
  | (with_reducible refine r_orV ?_)
  | (with_reducible refine r_notV ?_)
  | (with_reducible refine r_chain ?_)
  | (with_reducible refine r_ifE ?_)
  | (with_reducible refine r_test ?_)
  | (with_reducible refine r_B ?_)
  | (with_reducible refine r_and ?_)
  | (with_reducible refine r_or ?_)
  | (with_reducible refine r_not ?_)
  | (with_reducible refine r_yes ?_)
  | (with_reducible refine r_k ?_)
  | (with_reducible refine r_kV ?_)
  | (with_reducible refine r_next ?_)
  | (with_reducible refine r_drop ?_)
  | (with_reducible refine r_ret ?_)
  | (with_reducible refine r_ifS ?_)
  | (with_reducible refine r_par ?_)
  | (with_reducible refine r_par1 ?_)
  | (with_reducible refine r_gname ?_)
  | (with_reducible refine r_gnil ?_)
  | (with_reducible refine r_gcons ?_)
  | ((with_reducible refine' r_unpack2 ?h ?k); (case h => walk_at "up"))
  | ((with_reducible refine' r_unpack3 ?h ?k); (case h => walk_at "up"))
  | (with_reducible refine r_add ?_)
  | (with_reducible refine r_sub ?_)
  | (with_reducible refine r_neg ?_)
  | ((with_reducible refine' r_mod ?h ?k); (case h => walk_at "sd"))
  | ((with_reducible refine' r_div ?h ?k); (case h => walk_at "sd"))
  | ((with_reducible refine' r_mul ?h ?k); (case h => walk_at "sd"))
  | ((with_reducible refine' r_mulW ?h ?k); (case h => walk_at "sd"))
  | ((with_reducible refine' r_pow ?h ?k); (case h => (show (0 : Int) ≤ _ ∧ _ ∧ _; decide)))
  | (with_reducible refine r_lt ?_)
  | (with_reducible refine r_le ?_)
  | (with_reducible refine r_gt ?_)
  | (with_reducible refine r_ge ?_)
  | (with_reducible refine r_eqI ?_)
  | (with_reducible refine r_neI ?_)
  | (with_reducible refine r_eqS ?_)
  | (with_reducible refine r_neS ?_)
  | ((with_reducible refine' r_eqT ?h ?g ?k); (case h => walk_at "up"); (case g => walk_at "up"))
  | ((with_reducible refine' r_neT ?h ?g ?k); (case h => walk_at "up"); (case g => walk_at "up"))
  | ((with_reducible refine' r_ix0 ?h ?k); (case h => walk_at "up"))
  | ((with_reducible refine' r_ix1 ?h ?k); (case h => walk_at "up"))
  | ((with_reducible refine' r_ix2 ?h ?k); (case h => walk_at "up"))
  | (with_reducible refine r_newI2 (fun v H2 S I => ?_))
  | (with_reducible refine r_newI3 (fun v H2 S I => ?_))
  | (with_reducible refine r_newL1 (fun p H2 S hp np => ?_))
  | (with_reducible refine r_newL2 (fun p H2 S hp np => ?_))
  | (with_reducible refine r_newL3 (fun p H2 S hp np => ?_))
  | (with_reducible refine r_T ?_)
  | (with_reducible refine r_F ?_)
  | fail)
local macro_rules | `(tactic| walk_at "go") => `(tactic| repeat (walk_at "r"))
local macro_rules | `(tactic| walk_at "r") => `(tactic| first
  | (with_reducible refine r_call0 ?_)
  | (with_reducible refine r_meth0 ?_)
  | (with_reducible refine r_make0 ?_)
  | (with_reducible refine r_isiII ?_)
  | (with_reducible refine r_isiIB ?_)
  | ((with_reducible refine' r_isiTT ?h ?k); (case h => walk_at "up"))
  | ((with_reducible refine' r_len2 ?h ?k); (case h => walk_at "up"))
  | ((with_reducible refine' r_len3 ?h ?k); (case h => walk_at "up"))
  | ((with_reducible refine' r_lenL ?h ?k); (case h => walk_at "up"))
  | (with_reducible refine r_int1 ?_)
  | (with_reducible refine r_int1B ?_)
  | (with_reducible refine r_nT ?_)
  | (with_reducible refine r_nF ?_)
  | (with_reducible refine r_gcd ?_)
  | (with_reducible refine r_gsub ?_)
  | (with_reducible refine r_fld ?_)
  | (with_reducible refine r_p6 ?_)
  | (with_reducible refine r_p9 ?_)
  | (with_reducible refine r_p10 ?_)
  | (with_reducible refine r_p11 ?_)
  | (with_reducible refine r_p12 ?_)
  | (with_reducible refine r_p18 ?_)
  | (with_reducible refine r_p20 ?_)
  | (with_reducible refine r_p26 ?_)
  | (with_reducible refine r_p27 ?_)
  | (with_reducible refine r_p30 ?_)
  | ((with_reducible refine' r_iF ?h ?k); (case h => walk_at "bT"))
  | ((with_reducible refine' r_iT ?h ?k); (case h => walk_at "bT"))
  | (with_reducible refine r_sfld ?_)
  | (with_reducible refine r_sl ?_)
  | (with_reducible refine r_noPart ?_)
  | (with_reducible refine r_part ?_)
  | (with_reducible refine r_pk ?_)
  | ((with_reducible refine' r_unl2 ?h ?k); (case h => walk_at "up"))
  | ((with_reducible refine' r_ixLi ?h ?h0 ?hn ?k); (case h => walk_at "up"); (case h0 => walk_at "sd"); (case hn => rfl))
  | fail)

local macro_rules | `(tactic| walk_at "r") => `(tactic| first
  | (with_reducible refine r_for ?_)
  | (with_reducible refine r_lc ?_)
  | (with_reducible refine r_iList ?_)
  | (with_reducible refine r_iTup ?_)
  | (with_reducible refine r_iStr ?_)
  | (with_reducible refine it_s ?_)
  | (with_reducible refine r_iRng1 ?_)
  | (with_reducible refine r_iRng2 ?_)
  | (with_reducible refine r_iEnumA ?_)
  | (with_reducible refine r_bm ?_)
  | (with_reducible refine r_inS ?_)
  | (with_reducible refine r_cbAll ?_)
  | (with_reducible refine r_cbIsiT ?_)
  | (with_reducible refine r_cbLenS ?_)
  | (with_reducible refine r_makeK0 ?_)
  | (with_reducible refine r_makeK1 ?_)
  | (with_reducible refine mkk1 ?_)
  | fail)
local macro_rules | `(tactic| walk_at "up") => `(tactic| first
  | (refine' SqL.mvN ?s ?g; (case s => assumption); (case g => walk_at "up"))
  | (refine' SqT.mvS ?s ?g; (case s => assumption); (case g => walk_at "up"))
  | fail)

local macro_rules | `(tactic| walk_at "up") => `(tactic| first
  | (refine' sq_mv ?s ?g; (case s => assumption); (case g => walk_at "up"))
  | fail)
local macro_rules | `(tactic| walk_at "r") => `(tactic| first
  | (with_reducible refine r_tXh ?_)
  | (with_reducible refine r_tXk ?_)
  | (with_reducible refine r_tXg ?_)
  | (with_reducible refine r_x1 ?_)
  | (with_reducible refine r_cbIsO ?_)
  | (with_reducible refine r_cbReprN ?_)
  | fail)
local macro_rules | `(tactic| walk_at "up") => `(tactic| first | (refine' XO.mv ?s ?g; (case s => assumption); (case g => walk_at "up")) | fail)

section
variable {P : Program} {w : World} {K : PySem.W.Frag} {mg : Str → Option Value} {base : Heap} {ad : Ad} {H : Hp} {Q : VK} {E : XK} {i j x y : Int} {v : V}
def sp_made (ad : Ad) : Sp := fun vs H Q _ => ∃ y, vs = [y] ∧ ∀ p H' as, Stp none H H' → H p = none → H' p = some (.lst (as.map V.ref)) → XL H' y as (tab ad) → Q (.ref p) H'
theorem ok_law_made_errors (T : Txt K mg ad) : FnG P w K mg base CX0 3 ad.law_made_errors ad.law_made_errors_d P_law_made_errors (sp_made ad) := by
  have G_InvalidNet_init := ginit_ok (P := P) (w := w) (K := K) (mg := mg) (base := base) (k := 0) T.F_InvalidNet_init sc_InvalidNet_init rfl (.inl rfl) (.inl rfl) rfl rfl
  have G_InvalidPlace_init := ginit_ok (P := P) (w := w) (K := K) (mg := mg) (base := base) (k := 0) T.F_InvalidPlace_init sc_InvalidPlace_init rfl (.inl rfl) (.inl rfl) rfl rfl
  have G_InvalidMotion_init := ginit_ok (P := P) (w := w) (K := K) (mg := mg) (base := base) (k := 0) T.F_InvalidMotion_init sc_InvalidMotion_init rfl (.inl rfl) (.inl rfl) rfl rfl
  have G_InvalidRows_init := ginit_ok (P := P) (w := w) (K := K) (mg := mg) (base := base) (k := 0) T.F_InvalidRows_init sc_InvalidRows_init rfl (.inl rfl) (.inl rfl) rfl rfl
  have G_InvalidColour_init := ginit_ok (P := P) (w := w) (K := K) (mg := mg) (base := base) (k := 0) T.F_InvalidColour_init sc_InvalidColour_init rfl (.inl rfl) (.inl rfl) rfl rfl
  have G_InvalidTable_init := ginit_ok (P := P) (w := w) (K := K) (mg := mg) (base := base) (k := 0) T.F_InvalidTable_init sc_InvalidTable_init rfl (.inl rfl) (.inl rfl) rfl rfl
  have G_InvalidNumber_init := ginit_ok (P := P) (w := w) (K := K) (mg := mg) (base := base) (k := 0) T.F_InvalidNumber_init sc_InvalidNumber_init rfl (.inl rfl) (.inl rfl) rfl rfl
  have G_InvalidObservation_init := ginit_ok (P := P) (w := w) (K := K) (mg := mg) (base := base) (k := 0) T.F_InvalidObservation_init sc_InvalidObservation_init rfl (.inl rfl) (.inl rfl) rfl rfl
  have G_InvalidText_init := ginit_ok (P := P) (w := w) (K := K) (mg := mg) (base := base) (k := 0) T.F_InvalidText_init sc_InvalidText_init rfl (.inl rfl) (.inl rfl) rfl rfl
  have G_InvalidCommand_init := ginit_ok (P := P) (w := w) (K := K) (mg := mg) (base := base) (k := 0) T.F_InvalidCommand_init sc_InvalidCommand_init rfl (.inl rfl) (.inl rfl) rfl rfl
  have G_LimitExceeded_init := ginit_ok (P := P) (w := w) (K := K) (mg := mg) (base := base) (k := 0) T.F_LimitExceeded_init sc_LimitExceeded_init rfl (.inl rfl) (.inl rfl) rfl rfl
  have G_UnknownName_init := ginit_ok (P := P) (w := w) (K := K) (mg := mg) (base := base) (k := 0) T.F_UnknownName_init sc_UnknownName_init rfl (.inl rfl) (.inl rfl) rfl rfl
  have G_RunFailed_init := ginit_ok (P := P) (w := w) (K := K) (mg := mg) (base := base) (k := 0) T.F_RunFailed_init sc_RunFailed_init rfl (.inl rfl) (.inl rfl) rfl rfl
  refine Fun.g T.F_law_made_errors sc_law_made_errors (fun vs H Q E h => ?_) (fun cdv A outer s H vs Q E hr hg h => ?_)
  · obtain ⟨y, rfl, _⟩ := h
    rfl
  · obtain ⟨y, rfl, q⟩ := h
    refine ⟨_, (pss_cons (ps_set (i := 1) sc_law_made_errors.nd rfl (Or.inl rfl) (pe_lst (pa_cons (peg_xh T.y_InvalidNet T.w_InvalidNet T.yi_InvalidNet T.yt_InvalidNet G_InvalidNet_init (hr.mono (by decide)) T.b_InvalidNet_init (by rfl) T.g_InvalidNet (pa_cons (pv 0) pa_nil)) (pa_cons (peg_xh T.y_InvalidPlace T.w_InvalidPlace T.yi_InvalidPlace T.yt_InvalidPlace G_InvalidPlace_init (hr.mono (by decide)) T.b_InvalidPlace_init (by rfl) T.g_InvalidPlace (pa_cons (pv 0) pa_nil)) (pa_cons (peg_xh T.y_InvalidMotion T.w_InvalidMotion T.yi_InvalidMotion T.yt_InvalidMotion G_InvalidMotion_init (hr.mono (by decide)) T.b_InvalidMotion_init (by rfl) T.g_InvalidMotion (pa_cons (pv 0) pa_nil)) (pa_cons (peg_xh T.y_InvalidRows T.w_InvalidRows T.yi_InvalidRows T.yt_InvalidRows G_InvalidRows_init (hr.mono (by decide)) T.b_InvalidRows_init (by rfl) T.g_InvalidRows (pa_cons (pv 0) pa_nil)) (pa_cons (peg_xh T.y_InvalidColour T.w_InvalidColour T.yi_InvalidColour T.yt_InvalidColour G_InvalidColour_init (hr.mono (by decide)) T.b_InvalidColour_init (by rfl) T.g_InvalidColour (pa_cons (pv 0) pa_nil)) pa_nil)))))))
      (pss_cons (ps_set (i := 1) sc_law_made_errors.nd rfl (Or.inl rfl) (pe_op op_cat (pv 1) (pe_lst (pa_cons (peg_xh T.y_InvalidTable T.w_InvalidTable T.yi_InvalidTable T.yt_InvalidTable G_InvalidTable_init (hr.mono (by decide)) T.b_InvalidTable_init (by rfl) T.g_InvalidTable (pa_cons (pv 0) pa_nil)) (pa_cons (peg_xh T.y_InvalidNumber T.w_InvalidNumber T.yi_InvalidNumber T.yt_InvalidNumber G_InvalidNumber_init (hr.mono (by decide)) T.b_InvalidNumber_init (by rfl) T.g_InvalidNumber (pa_cons (pv 0) pa_nil)) (pa_cons (peg_xh T.y_InvalidObservation T.w_InvalidObservation T.yi_InvalidObservation T.yt_InvalidObservation G_InvalidObservation_init (hr.mono (by decide)) T.b_InvalidObservation_init (by rfl) T.g_InvalidObservation (pa_cons (pv 0) pa_nil)) (pa_cons (peg_xh T.y_InvalidText T.w_InvalidText T.yi_InvalidText T.yt_InvalidText G_InvalidText_init (hr.mono (by decide)) T.b_InvalidText_init (by rfl) T.g_InvalidText (pa_cons (pv 0) pa_nil)) pa_nil)))))))
      (pss_cons (ps_set (i := 1) sc_law_made_errors.nd rfl (Or.inl rfl) (pe_op op_cat (pv 1) (pe_lst (pa_cons (peg_xh T.y_InvalidCommand T.w_InvalidCommand T.yi_InvalidCommand T.yt_InvalidCommand G_InvalidCommand_init (hr.mono (by decide)) T.b_InvalidCommand_init (by rfl) T.g_InvalidCommand (pa_cons (pv 0) pa_nil)) (pa_cons (peg_xh T.y_LimitExceeded T.w_LimitExceeded T.yi_LimitExceeded T.yt_LimitExceeded G_LimitExceeded_init (hr.mono (by decide)) T.b_LimitExceeded_init (by rfl) T.g_LimitExceeded (pa_cons (pv 0) pa_nil)) pa_nil)))))
      (pss_one (ps_ret (pe_op op_cat (pv 1) (pe_lst (pa_cons (peg_x0 T.w0_NothingToUndo (by rfl) T.g_NothingToUndo) (pa_cons (peg_xh T.y_UnknownName T.w_UnknownName T.yi_UnknownName T.yt_UnknownName G_UnknownName_init (hr.mono (by decide)) T.b_UnknownName_init (by rfl) T.g_UnknownName (pa_cons (pv 0) pa_nil)) (pa_cons (peg_xh T.y_RunFailed T.w_RunFailed T.yi_RunFailed T.yt_RunFailed G_RunFailed_init (hr.mono (by decide)) T.b_RunFailed_init (by rfl) T.g_RunFailed (pa_cons (pv 0) pa_nil)) pa_nil)))))))))), ?_⟩
    walk_at "go"
    refine r_xh fun a0 A0 S0 x0 => ?_
    walk_at "go"
    refine r_xh fun a1 A1 S1 x1 => ?_
    walk_at "go"
    refine r_xh fun a2 A2 S2 x2 => ?_
    walk_at "go"
    refine r_xh fun a3 A3 S3 x3 => ?_
    walk_at "go"
    refine r_xh fun a4 A4 S4 x4 => ?_
    walk_at "go"
    refine r_newL (sz100 (Nat.le_of_ble_eq_true rfl)) fun l1 B1 R1 e1 m1 => ?_
    walk_at "go"
    refine r_xh fun a5 A5 S5 x5 => ?_
    walk_at "go"
    refine r_xh fun a6 A6 S6 x6 => ?_
    walk_at "go"
    refine r_xh fun a7 A7 S7 x7 => ?_
    walk_at "go"
    refine r_xh fun a8 A8 S8 x8 => ?_
    walk_at "go"
    refine r_newL (sz100 (Nat.le_of_ble_eq_true rfl)) fun l2 B2 R2 e2 m2 => ?_
    refine r_catL (xs := [_, _, _, _, _]) (ys := [_, _, _, _]) (by walk_at "up") e2 (Nat.le_of_ble_eq_true rfl) fun l3 B3 R3 e3 m3 => ?_
    walk_at "go"
    refine r_xh fun a9 A9 S9 x9 => ?_
    walk_at "go"
    refine r_xh fun a10 A10 S10 x10 => ?_
    walk_at "go"
    rename_i l4 B4 R4 e4 m4
    refine r_catL (by walk_at "up") e4 (Nat.le_of_ble_eq_true rfl) fun l5 B5 R5 e5 m5 => ?_
    walk_at "go"
    refine r_x0 (y := y) fun a11 A11 S11 x11 => ?_
    walk_at "go"
    refine r_xh fun a12 A12 S12 x12 => ?_
    walk_at "go"
    refine r_xh fun a13 A13 S13 x13 => ?_
    walk_at "go"
    rename_i l6 B6 R6 e6 m6
    refine r_catL (by walk_at "up") e6 (Nat.le_of_ble_eq_true rfl) fun l7 B7 R7 e7 m7 => ?_
    walk_at "go"
    have X : XL B7 y [a0, a1, a2, a3, a4, a5, a6, a7, a8, a9, a10, a11, a12, a13] (tab ad) := ⟨by walk_at "up", by walk_at "up", by walk_at "up", by walk_at "up", by walk_at "up", by walk_at "up", by walk_at "up", by walk_at "up", by walk_at "up", by walk_at "up", by walk_at "up", by walk_at "up", by walk_at "up", by walk_at "up", True.intro⟩
    have S : Stp none H B6 := by walk_at "st"
    refine q l7 B7 [a0, a1, a2, a3, a4, a5, a6, a7, a8, a9, a10, a11, a12, a13] (S.trans R7) ?_ e7 X
    cases z : H l7 with
    | none => rfl
    | some o => exact absurd (S.all _ _ z) (by rw [m7]; simp)
theorem do_made (k : ∀ p H' as, Stp none H H' → H p = none → H' p = some (.lst (as.map V.ref)) → XL H' v as (tab ad) → Q (.ref p) H') : sp_made ad [v] H Q E := ⟨v, rfl, k⟩
/-- which of the 14 classes -/
def kindsB (i : Nat) : List Bool := (List.range 14).map fun (j : Nat) => decide ((j : Int) = (i : Int))
def sp_kinds_of (ad : Ad) : Sp := fun vs H Q _ => ∃ (a : Addr) (i : Nat) (e : Addr × Option Str) (y : V), vs = [.ref a] ∧ (tab ad)[i]? = some e ∧ XO H a e.1 y e.2 ∧ ∀ p H', Stp none H H' → H' p = some (.lst ((kindsB i).map V.bl)) → Q (.ref p) H'
theorem ok_law_kinds_of (T : Txt K mg ad) : FnG P w K mg base CX0 1 ad.law_kinds_of ad.law_kinds_of_d P_law_kinds_of (sp_kinds_of ad) := by
  refine Fun.g T.F_law_kinds_of sc_law_kinds_of (fun vs H Q E h => ?_) (fun cdv A outer s H vs Q E hr hg h => ?_)
  · obtain ⟨a, i, e, y, rfl, _⟩ := h
    rfl
  · obtain ⟨a, i, e, y, rfl, hi, hx, q⟩ := h
    obtain ⟨xi, kr, _⟩ := krow T i e hi
    refine ⟨_, (pss_cons (ps_set (i := 1) sc_law_kinds_of.nd rfl (Or.inl rfl) (pe_lst (pa_cons (pe_callB call_isO (by rfl) T.z_isinstance (by decide +kernel) (pa_cons (pv 0) (pa_cons (pe_glob (v := V.ref ad.C_InvalidNet) rfl T.g_InvalidNet rfl) pa_nil))) (pa_cons (pe_callB call_isO (by rfl) T.z_isinstance (by decide +kernel) (pa_cons (pv 0) (pa_cons (pe_glob (v := V.ref ad.C_InvalidPlace) rfl T.g_InvalidPlace rfl) pa_nil))) (pa_cons (pe_callB call_isO (by rfl) T.z_isinstance (by decide +kernel) (pa_cons (pv 0) (pa_cons (pe_glob (v := V.ref ad.C_InvalidMotion) rfl T.g_InvalidMotion rfl) pa_nil))) pa_nil)))))
      (pss_cons (ps_set (i := 1) sc_law_kinds_of.nd rfl (Or.inl rfl) (pe_op op_cat (pv 1) (pe_lst (pa_cons (pe_callB call_isO (by rfl) T.z_isinstance (by decide +kernel) (pa_cons (pv 0) (pa_cons (pe_glob (v := V.ref ad.C_InvalidRows) rfl T.g_InvalidRows rfl) pa_nil))) (pa_cons (pe_callB call_isO (by rfl) T.z_isinstance (by decide +kernel) (pa_cons (pv 0) (pa_cons (pe_glob (v := V.ref ad.C_InvalidColour) rfl T.g_InvalidColour rfl) pa_nil))) pa_nil)))))
      (pss_cons (ps_set (i := 1) sc_law_kinds_of.nd rfl (Or.inl rfl) (pe_op op_cat (pv 1) (pe_lst (pa_cons (pe_callB call_isO (by rfl) T.z_isinstance (by decide +kernel) (pa_cons (pv 0) (pa_cons (pe_glob (v := V.ref ad.C_InvalidTable) rfl T.g_InvalidTable rfl) pa_nil))) (pa_cons (pe_callB call_isO (by rfl) T.z_isinstance (by decide +kernel) (pa_cons (pv 0) (pa_cons (pe_glob (v := V.ref ad.C_InvalidNumber) rfl T.g_InvalidNumber rfl) pa_nil))) pa_nil)))))
      (pss_cons (ps_set (i := 1) sc_law_kinds_of.nd rfl (Or.inl rfl) (pe_op op_cat (pv 1) (pe_lst (pa_cons (pe_callB call_isO (by rfl) T.z_isinstance (by decide +kernel) (pa_cons (pv 0) (pa_cons (pe_glob (v := V.ref ad.C_InvalidObservation) rfl T.g_InvalidObservation rfl) pa_nil))) (pa_cons (pe_callB call_isO (by rfl) T.z_isinstance (by decide +kernel) (pa_cons (pv 0) (pa_cons (pe_glob (v := V.ref ad.C_InvalidText) rfl T.g_InvalidText rfl) pa_nil))) pa_nil)))))
      (pss_cons (ps_set (i := 1) sc_law_kinds_of.nd rfl (Or.inl rfl) (pe_op op_cat (pv 1) (pe_lst (pa_cons (pe_callB call_isO (by rfl) T.z_isinstance (by decide +kernel) (pa_cons (pv 0) (pa_cons (pe_glob (v := V.ref ad.C_InvalidCommand) rfl T.g_InvalidCommand rfl) pa_nil))) (pa_cons (pe_callB call_isO (by rfl) T.z_isinstance (by decide +kernel) (pa_cons (pv 0) (pa_cons (pe_glob (v := V.ref ad.C_LimitExceeded) rfl T.g_LimitExceeded rfl) pa_nil))) pa_nil)))))
      (pss_one (ps_ret (pe_op op_cat (pv 1) (pe_lst (pa_cons (pe_callB call_isO (by rfl) T.z_isinstance (by decide +kernel) (pa_cons (pv 0) (pa_cons (pe_glob (v := V.ref ad.C_NothingToUndo) rfl T.g_NothingToUndo rfl) pa_nil))) (pa_cons (pe_callB call_isO (by rfl) T.z_isinstance (by decide +kernel) (pa_cons (pv 0) (pa_cons (pe_glob (v := V.ref ad.C_UnknownName) rfl T.g_UnknownName rfl) pa_nil))) (pa_cons (pe_callB call_isO (by rfl) T.z_isinstance (by decide +kernel) (pa_cons (pv 0) (pa_cons (pe_glob (v := V.ref ad.C_RunFailed) rfl T.g_RunFailed rfl) pa_nil))) pa_nil)))))))))))), ?_⟩
    walk_at "go"
    refine r_isO (by walk_at "up") (.own _) xi (kr 0 _ rfl) ?_
    walk_at "go"
    refine r_isO (by walk_at "up") (.own _) xi (kr 1 _ rfl) ?_
    walk_at "go"
    refine r_isO (by walk_at "up") (.own _) xi (kr 2 _ rfl) ?_
    walk_at "go"
    rename_i l1 B1 R1 e1 m1
    refine r_isO (by walk_at "up") (.own _) xi (kr 3 _ rfl) ?_
    walk_at "go"
    refine r_isO (by walk_at "up") (.own _) xi (kr 4 _ rfl) ?_
    walk_at "go"
    rename_i l2 B2 R2 e2 m2
    refine r_catL (by walk_at "up") e2 (Nat.le_of_ble_eq_true rfl) fun l3 B3 R3 e3 m3 => ?_
    walk_at "go"
    refine r_isO (by walk_at "up") (.own _) xi (kr 5 _ rfl) ?_
    walk_at "go"
    refine r_isO (by walk_at "up") (.own _) xi (kr 6 _ rfl) ?_
    walk_at "go"
    rename_i l4 B4 R4 e4 m4
    refine r_catL (by walk_at "up") e4 (Nat.le_of_ble_eq_true rfl) fun l5 B5 R5 e5 m5 => ?_
    walk_at "go"
    refine r_isO (by walk_at "up") (.own _) xi (kr 7 _ rfl) ?_
    walk_at "go"
    refine r_isO (by walk_at "up") (.own _) xi (kr 8 _ rfl) ?_
    walk_at "go"
    rename_i l6 B6 R6 e6 m6
    refine r_catL (by walk_at "up") e6 (Nat.le_of_ble_eq_true rfl) fun l7 B7 R7 e7 m7 => ?_
    walk_at "go"
    refine r_isO (by walk_at "up") (.own _) xi (kr 9 _ rfl) ?_
    walk_at "go"
    refine r_isO (by walk_at "up") (.own _) xi (kr 10 _ rfl) ?_
    walk_at "go"
    rename_i l8 B8 R8 e8 m8
    refine r_catL (by walk_at "up") e8 (Nat.le_of_ble_eq_true rfl) fun l9 B9 R9 e9 m9 => ?_
    walk_at "go"
    refine r_isO (by walk_at "up") (.own _) xi (kr 11 _ rfl) ?_
    walk_at "go"
    refine r_isO (by walk_at "up") (.own _) xi (kr 12 _ rfl) ?_
    walk_at "go"
    refine r_isO (by walk_at "up") (.own _) xi (kr 13 _ rfl) ?_
    walk_at "go"
    rename_i l10 B10 R10 e10 m10
    refine r_catL (by walk_at "up") e10 (Nat.le_of_ble_eq_true rfl) fun l11 B11 R11 e11 m11 => ?_
    walk_at "go"
    exact q _ _ (by walk_at "st") e11
theorem do_kinds_of {a : Addr} {i : Nat} {e : Addr × Option Str} {y : V} (hi : (tab ad)[i]? = some e) (hx : XO H a e.1 y e.2) (k : ∀ p H', Stp none H H' → H' p = some (.lst ((kindsB i).map V.bl)) → Q (.ref p) H') : sp_kinds_of ad [.ref a] H Q E := ⟨a, i, e, y, rfl, hi, hx, k⟩
/-- the kinds above -/
def aboveB (i : Nat) : List Bool := [decide ((i : Int) < 10), decide ((i : Int) < 10), decide ((i : Int) = 10), decide ((i : Int) = 11), decide ((i : Int) = 12), inV (.int i) [V.int 10, V.int 13]]
def sp_above (ad : Ad) : Sp := fun vs H Q _ => ∃ (a : Addr) (i : Nat) (e : Addr × Option Str) (y : V), vs = [.ref a] ∧ (tab ad)[i]? = some e ∧ XO H a e.1 y e.2 ∧ ∀ p H', Stp none H H' → H' p = some (.lst ((aboveB i).map V.bl)) → Q (.ref p) H'
theorem ok_law_above (T : Txt K mg ad) : FnG P w K mg base CX0 1 ad.law_above ad.law_above_d P_law_above (sp_above ad) := by
  refine Fun.g T.F_law_above sc_law_above (fun vs H Q E h => ?_) (fun cdv A outer s H vs Q E hr hg h => ?_)
  · obtain ⟨a, i, e, y, rfl, _⟩ := h
    rfl
  · obtain ⟨a, i, e, y, rfl, hi, hx, q⟩ := h
    obtain ⟨xi, _, t0, t1, t2, t3, t4, t5⟩ := krow T i e hi
    refine ⟨_, (pss_cons (ps_set (i := 1) sc_law_above.nd rfl (Or.inl rfl) (pe_lst (pa_cons (pe_callB call_isO (by rfl) T.z_isinstance (by decide +kernel) (pa_cons (pv 0) (pa_cons (pe_glob (v := V.ref ad.C_CarpetError) rfl T.g_CarpetError rfl) pa_nil))) (pa_cons (pe_callB call_isO (by rfl) T.z_isinstance (by decide +kernel) (pa_cons (pv 0) (pa_cons (pe_bltn (v := V.ty "ValueError") (u := Value.type "ValueError") (by rfl) T.z_ValueError (by decide +kernel) rfl) pa_nil))) (pa_cons (pe_callB call_isO (by rfl) T.z_isinstance (by decide +kernel) (pa_cons (pv 0) (pa_cons (pe_bltn (v := V.ty "OverflowError") (u := Value.type "OverflowError") (by rfl) T.z_OverflowError (by decide +kernel) rfl) pa_nil))) pa_nil)))))
      (pss_one (ps_ret (pe_op op_cat (pv 1) (pe_lst (pa_cons (pe_callB call_isO (by rfl) T.z_isinstance (by decide +kernel) (pa_cons (pv 0) (pa_cons (pe_bltn (v := V.ty "RuntimeError") (u := Value.type "RuntimeError") (by rfl) T.z_RuntimeError (by decide +kernel) rfl) pa_nil))) (pa_cons (pe_callB call_isO (by rfl) T.z_isinstance (by decide +kernel) (pa_cons (pv 0) (pa_cons (pe_bltn (v := V.ty "KeyError") (u := Value.type "KeyError") (by rfl) T.z_KeyError (by decide +kernel) rfl) pa_nil))) (pa_cons (pe_callB call_isO (by rfl) T.z_isinstance (by decide +kernel) (pa_cons (pv 0) (pa_cons (pe_bltn (v := V.ty "ArithmeticError") (u := Value.type "ArithmeticError") (by rfl) T.z_ArithmeticError (by decide +kernel) rfl) pa_nil))) pa_nil)))))))), ?_⟩
    walk_at "go"
    refine r_isO (by walk_at "up") (.own _) xi t0 ?_
    walk_at "go"
    refine r_isO (by walk_at "up") (.ty _) xi t1 ?_
    walk_at "go"
    refine r_isO (by walk_at "up") (.ty _) xi t2 ?_
    walk_at "go"
    rename_i l1 B1 R1 e1 m1
    refine r_isO (by walk_at "up") (.ty _) xi t3 ?_
    walk_at "go"
    refine r_isO (by walk_at "up") (.ty _) xi t4 ?_
    walk_at "go"
    refine r_isO (by walk_at "up") (.ty _) xi t5 ?_
    walk_at "go"
    rename_i l2 B2 R2 e2 m2
    refine r_catL (by walk_at "up") e2 (Nat.le_of_ble_eq_true rfl) fun l3 B3 R3 e3 m3 => ?_
    walk_at "go"
    exact q _ _ (by walk_at "st") e3
theorem do_above {a : Addr} {i : Nat} {e : Addr × Option Str} {y : V} (hi : (tab ad)[i]? = some e) (hx : XO H a e.1 y e.2) (k : ∀ p H', Stp none H H' → H' p = some (.lst ((aboveB i).map V.bl)) → Q (.ref p) H') : sp_above ad [.ref a] H Q E := ⟨a, i, e, y, rfl, hi, hx, k⟩
end
end Law

set_option Elab.async false
set_option linter.all false
set_option maxRecDepth 100000
set_option maxHeartbeats 1000000
namespace Law
open PySem PySem.Spec PyProof.Rows L2 MV TL
local macro_rules | `(tactic| walk_at "up") => `(tactic| first
  | assumption
  | (refine' IT.mv ?s ?g; (case s => assumption); (case g => walk_at "up"))
  | (refine' IT.k ?g; (case g => walk_at "up"))
  | (refine' IK.mv ?s ?g; (case s => assumption); (case g => walk_at "up"))
  | (refine' Tape.mvN ?s ?g; (case s => assumption); (case g => walk_at "up"))
  | (refine' Tape.mvS ?s ?g; (case s => assumption); (case g => walk_at "up"))
  | (refine' At.tup ?s ?g; (case s => assumption); (case g => walk_at "up"))
  | (refine' At.ins ?s ?g; (case s => assumption); (case g => walk_at "up"))
  | (refine' At.lst ?s ?g; (case s => assumption); (case g => walk_at "up"))
  | (refine' At.lstS ?s ?n ?g; (case s => assumption); (case n => assumption); (case g => walk_at "up"))
  | fail)
local macro_rules | `(tactic| walk_at "st") => `(tactic| first
  | assumption
  | exact Stp.refl _ _
  | (refine' Stp.w ?s; (case s => assumption))
  | (refine' Stp.trans ?g ?s; (case s => (first | assumption | (refine' Stp.w ?u; (case u => assumption)))); (case g => walk_at "st"))
  | fail)
local macro_rules | `(tactic| walk_at "bT") => `(tactic| first
  | decide
  | (simp only [Bool.not_eq_true', Bool.not_eq_false', decide_eq_true_eq, decide_eq_false_iff_not]; omega)
  | fail)
local macro_rules | `(tactic| walk_at "sd") => `(tactic| first | assumption | decide | omega | fail)
local macro_rules | `(tactic| walk_at "r") => `(tactic| first
  | (with_reducible refine r_seq ?_)
  | (with_reducible refine r_asg ?_)
  | ((with_reducible refine' r_var ?h ?k); (case h => rfl))
  | (with_reducible refine r_c ?_)
  | (with_reducible refine r_op ?_)
  | (with_reducible refine r_un ?_)
  | (with_reducible refine r_nil ?_)
  | (with_reducible refine r_cons ?_)
  | (with_reducible refine r_tup ?_)
  | (with_reducible refine r_lst ?_)
  | (with_reducible refine r_cbLen ?_)
  | (with_reducible refine r_cbInt ?_)
  | (with_reducible refine r_cbRepr ?_)
  | (with_reducible refine r_cbTup ?_)
  | (with_reducible refine r_cbLst ?_)
  | (with_reducible refine r_cb ?_)
  | (with_reducible refine r_prop ?_)
  | (with_reducible refine r_andV ?_)
  | (with_reducible refine r_orV ?_)
  | (with_reducible refine r_notV ?_)
  | (with_reducible refine r_chain ?_)
  | (with_reducible refine r_ifE ?_)
  | (with_reducible refine r_test ?_)
  | (with_reducible refine r_B ?_)
  | (with_reducible refine r_and ?_)
  | (with_reducible refine r_or ?_)
  | (with_reducible refine r_not ?_)
  | (with_reducible refine r_yes ?_)
  | (with_reducible refine r_k ?_)
  | (with_reducible refine r_kV ?_)
  | (with_reducible refine r_next ?_)
  | (with_reducible refine r_drop ?_)
  | (with_reducible refine r_ret ?_)
  | (with_reducible refine r_ifS ?_)
  | (with_reducible refine r_par ?_)
  | (with_reducible refine r_par1 ?_)
  | (with_reducible refine r_gname ?_)
  | (with_reducible refine r_gnil ?_)
  | (with_reducible refine r_gcons ?_)
  | ((with_reducible refine' r_unpack2 ?h ?k); (case h => walk_at "up"))
  | ((with_reducible refine' r_unpack3 ?h ?k); (case h => walk_at "up"))
  | (with_reducible refine r_add ?_)
  | (with_reducible refine r_sub ?_)
  | (with_reducible refine r_neg ?_)
  | ((with_reducible refine' r_mod ?h ?k); (case h => walk_at "sd"))
  | ((with_reducible refine' r_div ?h ?k); (case h => walk_at "sd"))
  | ((with_reducible refine' r_mul ?h ?k); (case h => walk_at "sd"))
  | ((with_reducible refine' r_mulW ?h ?k); (case h => walk_at "sd"))
  | ((with_reducible refine' r_pow ?h ?k); (case h => (show (0 : Int) ≤ _ ∧ _ ∧ _; decide)))
  | (with_reducible refine r_lt ?_)
  | (with_reducible refine r_le ?_)
  | (with_reducible refine r_gt ?_)
  | (with_reducible refine r_ge ?_)
  | (with_reducible refine r_eqI ?_)
  | (with_reducible refine r_neI ?_)
  | (with_reducible refine r_eqS ?_)
  | (with_reducible refine r_neS ?_)
  | ((with_reducible refine' r_eqT ?h ?g ?k); (case h => walk_at "up"); (case g => walk_at "up"))
  | ((with_reducible refine' r_neT ?h ?g ?k); (case h => walk_at "up"); (case g => walk_at "up"))
  | ((with_reducible refine' r_ix0 ?h ?k); (case h => walk_at "up"))
  | ((with_reducible refine' r_ix1 ?h ?k); (case h => walk_at "up"))
  | ((with_reducible refine' r_ix2 ?h ?k); (case h => walk_at "up"))
  | (with_reducible refine r_newI2 (fun v H2 S I => ?_))
  | (with_reducible refine r_newI3 (fun v H2 S I => ?_))
  | (with_reducible refine r_newL1 (fun p H2 S hp np => ?_))
  | (with_reducible refine r_newL2 (fun p H2 S hp np => ?_))
  | (with_reducible refine r_newL3 (fun p H2 S hp np => ?_))
  | (with_reducible refine r_T ?_)
  | (with_reducible refine r_F ?_)
  | fail)
local macro_rules | `(tactic| walk_at "go") => `(tactic| repeat (walk_at "r"))
local macro_rules | `(tactic| walk_at "r") => `(tactic| first
  | (with_reducible refine r_call0 ?_)
  | (with_reducible refine r_meth0 ?_)
  | (with_reducible refine r_make0 ?_)
  | (with_reducible refine r_isiII ?_)
  | (with_reducible refine r_isiIB ?_)
  | ((with_reducible refine' r_isiTT ?h ?k); (case h => walk_at "up"))
  | ((with_reducible refine' r_len2 ?h ?k); (case h => walk_at "up"))
  | ((with_reducible refine' r_len3 ?h ?k); (case h => walk_at "up"))
  | ((with_reducible refine' r_lenL ?h ?k); (case h => walk_at "up"))
  | (with_reducible refine r_int1 ?_)
  | (with_reducible refine r_int1B ?_)
  | (with_reducible refine r_nT ?_)
  | (with_reducible refine r_nF ?_)
  | (with_reducible refine r_gcd ?_)
  | (with_reducible refine r_gsub ?_)
  | (with_reducible refine r_fld ?_)
  | (with_reducible refine r_p6 ?_)
  | (with_reducible refine r_p9 ?_)
  | (with_reducible refine r_p10 ?_)
  | (with_reducible refine r_p11 ?_)
  | (with_reducible refine r_p12 ?_)
  | (with_reducible refine r_p18 ?_)
  | (with_reducible refine r_p20 ?_)
  | (with_reducible refine r_p26 ?_)
  | (with_reducible refine r_p27 ?_)
  | (with_reducible refine r_p30 ?_)
  | ((with_reducible refine' r_iF ?h ?k); (case h => walk_at "bT"))
  | ((with_reducible refine' r_iT ?h ?k); (case h => walk_at "bT"))
  | (with_reducible refine r_sfld ?_)
  | (with_reducible refine r_sl ?_)
  | (with_reducible refine r_noPart ?_)
  | (with_reducible refine r_part ?_)
  | (with_reducible refine r_pk ?_)
  | ((with_reducible refine' r_unl2 ?h ?k); (case h => walk_at "up"))
  | ((with_reducible refine' r_ixLi ?h ?h0 ?hn ?k); (case h => walk_at "up"); (case h0 => walk_at "sd"); (case hn => rfl))
  | fail)

local macro_rules | `(tactic| walk_at "r") => `(tactic| first
  | (with_reducible refine r_for ?_)
  | (with_reducible refine r_lc ?_)
  | (with_reducible refine r_iList ?_)
  | (with_reducible refine r_iTup ?_)
  | (with_reducible refine r_iStr ?_)
  | (with_reducible refine it_s ?_)
  | (with_reducible refine r_iRng1 ?_)
  | (with_reducible refine r_iRng2 ?_)
  | (with_reducible refine r_iEnumA ?_)
  | (with_reducible refine r_bm ?_)
  | (with_reducible refine r_inS ?_)
  | (with_reducible refine r_cbAll ?_)
  | (with_reducible refine r_cbIsiT ?_)
  | (with_reducible refine r_cbLenS ?_)
  | (with_reducible refine r_makeK0 ?_)
  | (with_reducible refine r_makeK1 ?_)
  | (with_reducible refine mkk1 ?_)
  | fail)
local macro_rules | `(tactic| walk_at "up") => `(tactic| first
  | (refine' SqL.mvN ?s ?g; (case s => assumption); (case g => walk_at "up"))
  | (refine' SqT.mvS ?s ?g; (case s => assumption); (case g => walk_at "up"))
  | fail)

local macro_rules | `(tactic| walk_at "up") => `(tactic| first
  | (refine' sq_mv ?s ?g; (case s => assumption); (case g => walk_at "up"))
  | fail)
local macro_rules | `(tactic| walk_at "r") => `(tactic| first
  | (with_reducible refine r_tXh ?_)
  | (with_reducible refine r_tXk ?_)
  | (with_reducible refine r_tXg ?_)
  | (with_reducible refine r_x1 ?_)
  | (with_reducible refine r_cbIsO ?_)
  | (with_reducible refine r_cbReprN ?_)
  | fail)
local macro_rules | `(tactic| walk_at "up") => `(tactic| first | (refine' XO.mv ?s ?g; (case s => assumption); (case g => walk_at "up")) | fail)

section
variable {P : Program} {w : World} {K : PySem.W.Frag} {mg : Str → Option Value} {base : Heap} {ad : Ad} {H : Hp} {Q : VK} {E : XK} {i j x y : Int} {v : V}
/-- the things of the law -/
structure FT (p1 p2 p3 t : Addr) (H : Hp) : Prop where
  h1 : H p1 = some (.tup [.int 1, .int 2])
  h2 : H p2 = some (.lst [.int 3])
  n2 : p2 ≠ t
  h3 : H p3 = some (.dK [(.inr "a", .int 1)])
theorem FT.mv {p1 p2 p3 t : Addr} {H H' : Hp} (s : Stp (some t) H H') (h : FT p1 p2 p3 t H) : FT p1 p2 p3 t H' :=
  ⟨At.tup s h.h1, At.lstS s h.n2 h.h2, h.n2, s.ge _ _ (fun _ _ e => by cases e) h.h3⟩
def someL (p1 p2 p3 : Addr) : List V := [.non, .int 5, .str "a", .ref p1, .ref p2, .ref p3, .bl true, .int (0 - 100000000000000000000)]
/-- what repr tells of a list of n of them -/
def ThN (K : PySem.W.Frag) (H : Hp) (y : V) (n : Nat) (z : Str) : Prop := ∀ (p : Addr) (Q : VK), H p = some (.lst (List.replicate n y)) → Q (.str z) H → rReprN K [.ref p] H Q
theorem dp_rep {d : PyData} (h : Dp K H v d) : ∀ n : Nat, DpAll K H (List.replicate n v) (List.replicate n d)
  | 0 => .nil
  | n + 1 => .cons h (dp_rep h n)
theorem thn_d {d : PyData} {n : Nat} (h : Dp K H v d) (S : Shw (.list (List.replicate n d))) : ThN K H v n (PyData.list (List.replicate n d)).shown :=
  fun p Q hp q => .inl ⟨.ref p, .list (List.replicate n d), rfl, .lst (SqL.of hp) (dp_rep h n), S, q⟩
theorem shw_b (d : PyData) (h1 : d.showable = true) (h2 : d.hasDict = false) (h3 : d.depth ≤ 50) (h4 : bnd d ≤ 100000) : Shw d := ⟨h1, h2, h3, Nat.le_trans h4 (by decide)⟩
theorem thing_ok {p1 p2 p3 t : Addr} : ∀ y ∈ someL p1 p2 p3, ∃ z1 z2, ∀ H', FT p1 p2 p3 t H' → ThN K H' y 13 z1 ∧ ThN K H' y 5 z2 := by
  intro y hy
  have key : ∀ d : PyData, Shw (.list (List.replicate 13 d)) → Shw (.list (List.replicate 5 d)) → (∀ H', FT p1 p2 p3 t H' → Dp K H' y d) → ∃ z1 z2, ∀ H', FT p1 p2 p3 t H' → ThN K H' y 13 z1 ∧ ThN K H' y 5 z2 :=
    fun d s1 s2 h => ⟨_, _, fun H' f => ⟨thn_d (h H' f) s1, thn_d (h H' f) s2⟩⟩
  unfold someL at hy
  simp only [List.mem_cons, List.not_mem_nil, or_false] at hy
  rcases hy with rfl | rfl | rfl | rfl | rfl | rfl | rfl | rfl
  · exact key .none (shw_b _ (by decide +kernel) (by decide +kernel) (by decide +kernel) (by decide +kernel)) (shw_b _ (by decide +kernel) (by decide +kernel) (by decide +kernel) (by decide +kernel)) fun _ _ => .non
  · exact key (.int 5) (shw_b _ (by decide +kernel) (by decide +kernel) (by decide +kernel) (by decide +kernel)) (shw_b _ (by decide +kernel) (by decide +kernel) (by decide +kernel) (by decide +kernel)) fun _ _ => .int 5
  · exact key (.str "a") (shw_b _ (by decide +kernel) (by decide +kernel) (by decide +kernel) (by decide +kernel)) (shw_b _ (by decide +kernel) (by decide +kernel) (by decide +kernel) (by decide +kernel)) fun _ _ => .str "a"
  · exact key (.tuple [.int 1, .int 2]) (shw_b _ (by decide +kernel) (by decide +kernel) (by decide +kernel) (by decide +kernel)) (shw_b _ (by decide +kernel) (by decide +kernel) (by decide +kernel) (by decide +kernel)) fun _ f => .tup (SqT.of f.h1) (.cons (.int 1) (.cons (.int 2) .nil))
  · exact key (.list [.int 3]) (shw_b _ (by decide +kernel) (by decide +kernel) (by decide +kernel) (by decide +kernel)) (shw_b _ (by decide +kernel) (by decide +kernel) (by decide +kernel) (by decide +kernel)) fun _ f => .lst (SqL.of f.h2) (.cons (.int 3) .nil)
  · exact ⟨_, _, fun H' f => ⟨fun p Q hp q => .inr ⟨p, p3, 13, rfl, .inl rfl, hp, f.h3, q⟩, fun p Q hp q => .inr ⟨p, p3, 5, rfl, .inr rfl, hp, f.h3, q⟩⟩⟩
  · exact key (.bool true) (shw_b _ (by decide +kernel) (by decide +kernel) (by decide +kernel) (by decide +kernel)) (shw_b _ (by decide +kernel) (by decide +kernel) (by decide +kernel) (by decide +kernel)) fun _ _ => .bl true
  · exact key (.int (0 - 100000000000000000000)) (shw_b _ (by decide +kernel) (by decide +kernel) (by decide +kernel) (by decide +kernel)) (shw_b _ (by decide +kernel) (by decide +kernel) (by decide +kernel) (by decide +kernel)) fun _ _ => .int _
theorem r_in2 {p : Addr} {i : Int} {xs : List V} (h : H p = some (.lst xs)) (q : Q (.bl (inV (.int i) xs)) H) (hx : xs.all flatV = true := by rfl) : rIn K false (.int i) (.ref p) H Q :=
  ⟨p, xs, rfl, .inl (SqL.of h), rfl, hx, q⟩
theorem r_rep13 {l : Addr} {x : V} (h : H l = some (.lst [x])) (k : ∀ p H2, Stp none H H2 → H2 p = some (.lst (List.replicate 13 x)) → H p = none → Q (.ref p) H2) : rRep (.ref l) (.int 13) H Q :=
  ⟨l, 13, [x], rfl, rfl, h, by decide, by decide, (show (1 : Nat) * 13 ≤ sizeLine by decide), fun p hp => k p _ (Stp.new hp) upd_same hp⟩
theorem r_rep5 {l : Addr} {x : V} (h : H l = some (.lst [x])) (k : ∀ p H2, Stp none H H2 → H2 p = some (.lst (List.replicate 5 x)) → H p = none → Q (.ref p) H2) : rRep (.ref l) (.int 5) H Q :=
  ⟨l, 5, [x], rfl, rfl, h, by decide, by decide, (show (1 : Nat) * 5 ≤ sizeLine by decide), fun p hp => k p _ (Stp.new hp) upd_same hp⟩
theorem r_neSs {z : Str} (q : Q (.bl false) H) : rNe (.str z) (.str z) H Q := ⟨rfl, by
  have e : (!decide (V.str z = V.str z)) = false := by simp
  rw [e]
  exact q⟩
theorem r_dispA {σ : L2.St} (q : ∀ p H', Stp none H H' → H' p = some (.dK [(.inr "a", .int 1)]) → H p = none → Q (.ref p) H') : tDisp [(tC (.str "a"), tC (.int 1))] σ H Q := fun p hp => by
  refine ⟨upd_same, [(.inr "a", .int 1)], rfl, by decide, ?_⟩
  rw [upd_upd]
  exact q p _ (Stp.up0 hp) upd_same hp
theorem fresh_ne {t l : Addr} (T : Tape H t) (h : H l = none) : l ≠ t := by
  rintro rfl
  obtain ⟨l', ns, a, b, c, _, e, _⟩ := T
  rw [h] at e
  cases e
def sp_law (K : PySem.W.Frag) : Sp := fun vs H Q _ => ∃ (l : Addr) (ns : List Int), vs = [.ref l] ∧ SqL K H l (ns.map V.int) ∧ ∀ H', Q (.bl true) H'
theorem sp_start (K : PySem.W.Frag) (H : Hp) (a : Addr) (ns : List Int) (hl : ns.length ≤ 63) (h : SqL K H a (ns.map V.int)) : sp_law K [.ref a] H (fun v _ => v = .bl true) fun _ _ _ => False :=
  ⟨a, ns, rfl, h, fun _ => rfl⟩
theorem ok_law (T : Txt K mg ad) : FnG P w K mg base CX0 8 ad.law ad.law_d ["_law_script"] (sp_law K) := by
  have G_InvalidNet_init := ginit_ok (P := P) (w := w) (K := K) (mg := mg) (base := base) (k := 0) T.F_InvalidNet_init sc_InvalidNet_init rfl (.inl rfl) (.inl rfl) rfl rfl
  have G_InvalidPlace_init := ginit_ok (P := P) (w := w) (K := K) (mg := mg) (base := base) (k := 0) T.F_InvalidPlace_init sc_InvalidPlace_init rfl (.inl rfl) (.inl rfl) rfl rfl
  have G_InvalidMotion_init := ginit_ok (P := P) (w := w) (K := K) (mg := mg) (base := base) (k := 0) T.F_InvalidMotion_init sc_InvalidMotion_init rfl (.inl rfl) (.inl rfl) rfl rfl
  have G_InvalidRows_init := ginit_ok (P := P) (w := w) (K := K) (mg := mg) (base := base) (k := 0) T.F_InvalidRows_init sc_InvalidRows_init rfl (.inl rfl) (.inl rfl) rfl rfl
  have G_InvalidColour_init := ginit_ok (P := P) (w := w) (K := K) (mg := mg) (base := base) (k := 0) T.F_InvalidColour_init sc_InvalidColour_init rfl (.inl rfl) (.inl rfl) rfl rfl
  have G_InvalidTable_init := ginit_ok (P := P) (w := w) (K := K) (mg := mg) (base := base) (k := 0) T.F_InvalidTable_init sc_InvalidTable_init rfl (.inl rfl) (.inl rfl) rfl rfl
  have G_InvalidNumber_init := ginit_ok (P := P) (w := w) (K := K) (mg := mg) (base := base) (k := 0) T.F_InvalidNumber_init sc_InvalidNumber_init rfl (.inl rfl) (.inl rfl) rfl rfl
  have G_InvalidObservation_init := ginit_ok (P := P) (w := w) (K := K) (mg := mg) (base := base) (k := 0) T.F_InvalidObservation_init sc_InvalidObservation_init rfl (.inl rfl) (.inl rfl) rfl rfl
  have G_InvalidText_init := ginit_ok (P := P) (w := w) (K := K) (mg := mg) (base := base) (k := 0) T.F_InvalidText_init sc_InvalidText_init rfl (.inl rfl) (.inl rfl) rfl rfl
  have G_InvalidCommand_init := ginit_ok (P := P) (w := w) (K := K) (mg := mg) (base := base) (k := 0) T.F_InvalidCommand_init sc_InvalidCommand_init rfl (.inl rfl) (.inl rfl) rfl rfl
  have G_LimitExceeded_init := ginit_ok (P := P) (w := w) (K := K) (mg := mg) (base := base) (k := 0) T.F_LimitExceeded_init sc_LimitExceeded_init rfl (.inl rfl) (.inl rfl) rfl rfl
  have G_UnknownName_init := ginit_ok (P := P) (w := w) (K := K) (mg := mg) (base := base) (k := 0) T.F_UnknownName_init sc_UnknownName_init rfl (.inl rfl) (.inl rfl) rfl rfl
  have G_RunFailed_init := ginit_ok (P := P) (w := w) (K := K) (mg := mg) (base := base) (k := 0) T.F_RunFailed_init sc_RunFailed_init rfl (.inl rfl) (.inl rfl) rfl rfl
  have G_law_tape := ok_law_tape (P := P) (w := w) (base := base) T
  have G_law_draw := ok_law_draw (P := P) (w := w) (base := base) T
  have G_law_made_errors := ok_law_made_errors (P := P) (w := w) (base := base) T
  have G_law_kinds_of := ok_law_kinds_of (P := P) (w := w) (base := base) T
  have G_law_above := ok_law_above (P := P) (w := w) (base := base) T
  refine Fun.gn T.F_law sc_law (fun vs H Q E h => ?_) (fun cdv A outer s H vs Q E hr hg h => ?_)
  · obtain ⟨l, ns, rfl, _⟩ := h
    rfl
  · obtain ⟨l, ns, rfl, hS, q⟩ := h
    refine ⟨_, (pss_cons (ps_set (i := 1) sc_law.nd rfl (Or.inl rfl) (peg_call G_law_tape (hr.mono (by decide)) hg (by rfl) T.g_law_tape T.F_law_tape.kp T.b_law_tape .nil pass0 (pa_cons (pv 0) pa_nil)))
      (pss_cons (ps_set (i := 2) sc_law.nd rfl (Or.inl rfl) (pe_lst (pa_cons pe_non (pa_cons pe_int (pa_cons pe_str (pa_cons (pe_tup (pa_cons pe_int (pa_cons pe_int pa_nil))) (pa_cons (pe_lst (pa_cons pe_int pa_nil)) (pa_cons (pe_disp (pps_cons pe_str pe_int pps_nil) rfl rfl (by simp) (by decide)) (pa_cons pe_bl (pa_cons (pe_op op_sub pe_int (pe_op op_pow pe_int pe_int)) pa_nil))))))))))
      (pss_cons (ps_for PassesOwn.never rfl (pi_range1 rfl T.z_range (pa_cons pe_int pa_nil)) (pg_name (i := 3) sc_law.nd rfl (Or.inl rfl))
      (pss_cons (ps_set (i := 4) sc_law.nd rfl (Or.inl rfl) (pe_ix ix_seq (pv 2) (peg_call G_law_draw (hr.mono (by decide)) hg (by rfl) T.g_law_draw T.F_law_draw.kp T.b_law_draw .nil pass0 (pa_cons (pv 1) (pa_cons pe_int pa_nil))) (fun _ _ => rfl)))
      (pss_cons (ps_set (i := 5) sc_law.nd rfl (Or.inl rfl) (peg_call G_law_made_errors (hr.mono (by decide)) hg (by rfl) T.g_law_made_errors T.F_law_made_errors.kp T.b_law_made_errors .nil pass0 (pa_cons (pv 4) pa_nil)))
      (pss_cons (ps_for PassesOwn.never rfl (pi_enumA (by rfl) T.z_enumerate (pa_cons (pv 5) pa_nil)) (pg_tup (n := 2) rfl (pgs_cons (pg_name (i := 6) sc_law.nd rfl (Or.inr rfl)) (pgs_cons (pg_name (i := 7) sc_law.nd rfl (Or.inl rfl)) pgs_nil)))
      (pss_cons (ps_if (pt_cmpR (op_neD hr.units) (peg_call G_law_kinds_of (hr.mono (by decide)) hg (by rfl) T.g_law_kinds_of T.F_law_kinds_of.kp T.b_law_kinds_of .nil pass0 (pa_cons (pv 7) pa_nil)) (pe_lc (own := [("_law_number", 11)]) (g := gName 11) (tt := tYes) rfl sc_law.nd (pi_range1 rfl T.z_range (pa_cons pe_int pa_nil)) (blkOk_by (own := [("_law_number", 11)]) (N := N_law) (sc := defScope s_law) (by decide +kernel)) (fun _ _ _ _ _ => (pg_name (i := 11) sc_law.nd rfl (Or.inl rfl))) (fun _ _ _ _ _ => pts_nil) (fun _ _ _ _ _ => (pe_cmpR op_eq (pv 11) (pv 6) (nomark _))) ) (nomark _))
      (pss_one (ps_ret pe_bl)) pss_nil)
      (pss_cons (ps_set (i := 8) sc_law.nd rfl (Or.inl rfl) (pe_lst (pa_cons (pe_cmpR op_lt (pv 6) pe_int (nomark _)) (pa_cons (pe_cmpR op_lt (pv 6) pe_int (nomark _)) (pa_cons (pe_cmpR op_eq (pv 6) pe_int (nomark _)) (pa_cons (pe_cmpR op_eq (pv 6) pe_int (nomark _)) (pa_cons (pe_cmpR op_eq (pv 6) pe_int (nomark _)) (pa_cons (pe_cmpR op_in_seq (pv 6) (pe_lst (pa_cons pe_int (pa_cons pe_int pa_nil))) (by rfl)) pa_nil))))))))
      (pss_one (ps_if (pt_cmpR (op_neD hr.units) (peg_call G_law_above (hr.mono (by decide)) hg (by rfl) T.g_law_above T.F_law_above.kp T.b_law_above .nil pass0 (pa_cons (pv 7) pa_nil)) (pv 8) (nomark _))
      (pss_one (ps_ret pe_bl)) pss_nil)))))
      (pss_cons (ps_set (i := 9) sc_law.nd rfl (Or.inl rfl) (pe_lst (pa_cons (pe_xg (pe_ix ix_seq (pv 5) pe_int (fun _ _ => rfl))) (pa_cons (pe_xg (pe_ix ix_seq (pv 5) pe_int (fun _ _ => rfl))) (pa_cons (pe_xg (pe_ix ix_seq (pv 5) pe_int (fun _ _ => rfl))) (pa_cons (pe_xg (pe_ix ix_seq (pv 5) pe_int (fun _ _ => rfl))) (pa_cons (pe_xg (pe_ix ix_seq (pv 5) pe_int (fun _ _ => rfl))) (pa_cons (pe_xg (pe_ix ix_seq (pv 5) pe_int (fun _ _ => rfl))) pa_nil))))))))
      (pss_cons (ps_set (i := 9) sc_law.nd rfl (Or.inl rfl) (pe_op op_cat (pv 9) (pe_lst (pa_cons (pe_xg (pe_ix ix_seq (pv 5) pe_int (fun _ _ => rfl))) (pa_cons (pe_xg (pe_ix ix_seq (pv 5) pe_int (fun _ _ => rfl))) (pa_cons (pe_xg (pe_ix ix_seq (pv 5) pe_int (fun _ _ => rfl))) (pa_cons (pe_xg (pe_ix ix_seq (pv 5) pe_int (fun _ _ => rfl))) (pa_cons (pe_xg (pe_ix ix_seq (pv 5) pe_int (fun _ _ => rfl))) (pa_cons (pe_xg (pe_ix ix_seq (pv 5) pe_int (fun _ _ => rfl))) pa_nil)))))))))
      (pss_cons (ps_if (pt_cmpR op_ne (pe_callB (callg_reprN hg hr.units) (by rfl) T.z_repr (by decide +kernel) (pa_cons (pe_op op_cat (pv 9) (pe_lst (pa_cons (pe_xg (pe_ix ix_seq (pv 5) pe_int (fun _ _ => rfl))) pa_nil))) pa_nil)) (pe_callB (callg_reprN hg hr.units) (by rfl) T.z_repr (by decide +kernel) (pa_cons (pe_op op_rep (pe_lst (pa_cons (pv 4) pa_nil)) pe_int) pa_nil)) (nomark _))
      (pss_one (ps_ret pe_bl)) pss_nil)
      (pss_cons (ps_set (i := 10) sc_law.nd rfl (Or.inl rfl) (pe_lst (pa_cons (pe_xg (peg_xk T.y_InvalidRows T.w_InvalidRows T.yi_InvalidRows T.yt_InvalidRows G_InvalidRows_init (hr.mono (by decide)) T.kb_InvalidRows_init_0_index (by rfl) T.g_InvalidRows (pk_cons (pv 4) pk_nil))) (pa_cons (pe_xg (peg_xk T.y_LimitExceeded T.w_LimitExceeded T.yi_LimitExceeded T.yt_LimitExceeded G_LimitExceeded_init (hr.mono (by decide)) T.kb_LimitExceeded_init_0_limit (by rfl) T.g_LimitExceeded (pk_cons (pv 4) pk_nil))) (pa_cons (pe_xg (peg_xk T.y_UnknownName T.w_UnknownName T.yi_UnknownName T.yt_UnknownName G_UnknownName_init (hr.mono (by decide)) T.kb_UnknownName_init_0_name (by rfl) T.g_UnknownName (pk_cons (pv 4) pk_nil))) pa_nil)))))
      (pss_one (ps_if (pt_cmpR op_ne (pe_callB (callg_reprN hg hr.units) (by rfl) T.z_repr (by decide +kernel) (pa_cons (pe_op op_cat (pv 10) (pe_lst (pa_cons (pe_xg (peg_xk T.y_InvalidNet T.w_InvalidNet T.yi_InvalidNet T.yt_InvalidNet G_InvalidNet_init (hr.mono (by decide)) T.kb_InvalidNet_init_0_value (by rfl) T.g_InvalidNet (pk_cons (pv 4) pk_nil))) (pa_cons (pe_xg (peg_xk T.y_RunFailed T.w_RunFailed T.yi_RunFailed T.yt_RunFailed G_RunFailed_init (hr.mono (by decide)) T.kb_RunFailed_init_0_index (by rfl) T.g_RunFailed (pk_cons (pv 4) pk_nil))) pa_nil)))) pa_nil)) (pe_callB (callg_reprN hg hr.units) (by rfl) T.z_repr (by decide +kernel) (pa_cons (pe_op op_rep (pe_lst (pa_cons (pv 4) pa_nil)) pe_int) pa_nil)) (nomark _))
      (pss_one (ps_ret pe_bl)) pss_nil))))))))))
      (pss_one (ps_ret pe_bl))))), ?_⟩
    walk_at "go"
    refine do_law_tape hS fun t H1 S1 nt T1 => ?_
    walk_at "go"
    rename_i v1 H2 S2 i2 p2 H3 S3 h3 n3
    refine r_dispA fun p3 H4 S4 h4 n4 => ?_
    walk_at "go"
    obtain ⟨p1, rfl, i1⟩ := i2
    refine r_newL (sz100 (Nat.le_of_ble_eq_true rfl)) fun ps H5 S5 h5 n5 => ?_
    have T2 : Tape H2 t := T1.mvN S2
    have T4 : Tape H4 t := (T2.mvN S3).mvN S4
    have T5 : Tape H5 t := T4.mvN S5
    have ft : FT p1 p2 p3 t H5 := ⟨At.tup (S3.trans (S4.trans S5)) i1, At.lst (S4.trans S5) h3, fresh_ne T2 n3, S5.ge _ _ (fun _ _ e => by cases e) h4⟩
    have np : ps ≠ t := fresh_ne T4 n5
    have hs : H5 ps = some (.lst (someL p1 p2 p3)) := h5
    clear h5 n5 S5 T4 h4 n4 S4 h3 n3 S3 T2 i1 S2 T1 nt S1
    walk_at "go"
    refine it_r1 (by decide) (by decide) ?_
    refine ForJ.ok walk_range (fun i σ H' => ∃ b3 b4 b5 b6 b7 b8 b9 b10 b11, σ = [some (.ref l), some (.ref t), some (.ref ps), b3, b4, b5, b6, b7, b8, b9, b10, b11] ∧ Stp (some t) H5 H') ⟨none, none, none, none, none, none, none, none, none, rfl, Stp.refl _ _⟩ (fun _ _ _ _ _ => trivial) ?_ ?_
    · rintro i x σ H6 H7 hi ⟨b3, b4, b5, b6, b7, b8, b9, b10, b11, rfl, s6⟩ ⟨rfl, rfl⟩
      have T6 : Tape H7 t := T5.mvS s6
      walk_at "go"
      refine do_law_draw T6 (by decide) (by decide) fun r H8 r0 r1 S8 => ?_
      have s8 : Stp (some t) H5 H8 := s6.trans S8
      obtain ⟨y, hy⟩ : ∃ y, (someL p1 p2 p3)[r.toNat]? = some y := by
        have h8 : r.toNat < (someL p1 p2 p3).length := by show r.toNat < 8; omega
        exact ⟨_, List.getElem?_eq_getElem h8⟩
      obtain ⟨z1, z2, hz⟩ := thing_ok (K := K) (t := t) y (List.mem_of_getElem? hy)
      refine r_ixLi (At.lstS s8 np hs) r0 hy ?_
      walk_at "go"
      refine do_made fun p H9 as S9 hn h9 X9 => ?_
      have s9 : Stp (some t) H5 H9 := s8.trans S9.w
      walk_at "go"
      refine it_e (.inl (SqL.of h9)) fun J G wk hG => ?_
      refine ForJ.ok wk (fun i' σ H' => ∃ b6 b7 b8 b11, σ = [some (.ref l), some (.ref t), some (.ref ps), some (.int (0 + (i : Int))), some y, some (.ref p), b6, b7, b8, b9, b10, b11] ∧ Stp none H9 H') ⟨b6, b7, b8, b11, rfl, Stp.refl _ _⟩ (fun i' σ H' hi pv => (let ⟨_, _, _, _, _, s⟩ := pv; hG H' s)) ?_ ?_
      · rintro k z σ H10 H11 hk ⟨c6, c7, c8, c11, rfl, s10⟩ ⟨Tp, x, ye, rfl, nT, rfl, ex, ey⟩
        cases ex
        obtain ⟨a, e, rfl, he, hx⟩ := XL.at (X9.mv s10) ey
        refine r_unT2 (a := .int (k : Nat)) (b := .ref a) upd_same ?_
        have sT : Stp none H10 (upd H10 Tp (.tup [.int (k : Nat), .ref a])) := Stp.new nT
        generalize upd H10 Tp (.tup [.int (k : Nat), .ref a]) = H12 at sT ⊢
        walk_at "go"
        refine do_kinds_of he (hx.mv sT) fun q1 H13 S13 h13 => ?_
        walk_at "go"
        refine it_r1 (by decide) (by decide) ?_
        refine LcJ.flat walk_range (fun _ _ => trivial) (by decide) (fun _ => true) (fun j => .bl (decide ((0 + (j : Int)) = (k : Int)))) (fun j x H14 H15 hj s14 yy Y1 N1 g1 g2 => ?_) (fun q2 H14 S14 h14 n14 => ?_)
        · obtain ⟨rfl, rfl⟩ := yy
          walk_at "go"
          refine ⟨rfl, ?_⟩
          walk_at "go"
          exact g1 rfl _ (Stp.refl _ _)
        · have ek : (((List.range (14 : Int).toNat).filter fun _ => true).map fun (j : Nat) => V.bl (decide ((0 + (j : Int)) = (k : Int)))) = (kindsB k).map V.bl := by
            rw [List.filter_eq_self.mpr (by simp)]
            unfold kindsB
            rw [List.map_map]
            refine List.map_congr_left fun j _ => ?_
            show V.bl _ = V.bl _
            rw [Int.zero_add]
          rw [ek] at h14
          refine r_neBs (At.lst S14 h13) h14 ?_
          walk_at "go"
          rename_i q3 H15 S15 h15 n15
          refine r_in2 h15 ?_
          walk_at "go"
          refine r_newL (sz100 (Nat.le_of_ble_eq_true rfl)) fun q4 H16 S16 h16 n16 => ?_
          walk_at "go"
          have s16 : Stp none H10 H16 := sT.trans (S13.trans (S14.trans (S15.trans S16)))
          refine do_above he (hx.mv s16) fun q5 H17 S17 h17 => ?_
          walk_at "go"
          refine r_neBs (bs := aboveB k) h17 (At.lst S17 h16) ?_
          walk_at "go"
          exact ⟨_, _, _, _, rfl, s10.trans (s16.trans S17)⟩
      · rintro σ H10 ⟨c6, c7, c8, c11, rfl, s10⟩
        walk_at "go"
        have X10 := X9.mv s10
        have h10 := At.lst s10 h9
        have l14 : as.length = 14 := X9.len
        match as, l14, X10, h10 with
        | [a0, a1, a2, a3, a4, a5, a6, a7, a8, a9, a10, a11, a12, a13], _, ⟨x0, x1, x2, x3, x4, x5, x6, x7, x8, x9, x10, x11, x12, x13, _⟩, h10 =>
          try refine r_ixLi (i := 0) (by walk_at "up") (by decide) rfl ?_
          refine r_xg T.xf_InvalidNet T.nf_InvalidNet (by walk_at "up") ?_
          walk_at "go"
          try refine r_ixLi (i := 1) (by walk_at "up") (by decide) rfl ?_
          refine r_xg T.xf_InvalidPlace T.nf_InvalidPlace (by walk_at "up") ?_
          walk_at "go"
          try refine r_ixLi (i := 2) (by walk_at "up") (by decide) rfl ?_
          refine r_xg T.xf_InvalidMotion T.nf_InvalidMotion (by walk_at "up") ?_
          walk_at "go"
          try refine r_ixLi (i := 3) (by walk_at "up") (by decide) rfl ?_
          refine r_xg T.xf_InvalidRows T.nf_InvalidRows (by walk_at "up") ?_
          walk_at "go"
          try refine r_ixLi (i := 4) (by walk_at "up") (by decide) rfl ?_
          refine r_xg T.xf_InvalidColour T.nf_InvalidColour (by walk_at "up") ?_
          walk_at "go"
          try refine r_ixLi (i := 5) (by walk_at "up") (by decide) rfl ?_
          refine r_xg T.xf_InvalidTable T.nf_InvalidTable (by walk_at "up") ?_
          walk_at "go"
          refine r_newL (sz100 (Nat.le_of_ble_eq_true rfl)) fun g1 H11 S11 h11 n11 => ?_
          walk_at "go"
          try refine r_ixLi (i := 6) (by walk_at "up") (by decide) rfl ?_
          refine r_xg T.xf_InvalidNumber T.nf_InvalidNumber (by walk_at "up") ?_
          walk_at "go"
          try refine r_ixLi (i := 7) (by walk_at "up") (by decide) rfl ?_
          refine r_xg T.xf_InvalidObservation T.nf_InvalidObservation (by walk_at "up") ?_
          walk_at "go"
          try refine r_ixLi (i := 8) (by walk_at "up") (by decide) rfl ?_
          refine r_xg T.xf_InvalidText T.nf_InvalidText (by walk_at "up") ?_
          walk_at "go"
          try refine r_ixLi (i := 9) (by walk_at "up") (by decide) rfl ?_
          refine r_xg T.xf_InvalidCommand T.nf_InvalidCommand (by walk_at "up") ?_
          walk_at "go"
          try refine r_ixLi (i := 10) (by walk_at "up") (by decide) rfl ?_
          refine r_xg T.xf_LimitExceeded T.nf_LimitExceeded (by walk_at "up") ?_
          walk_at "go"
          try refine r_ixLi (i := 12) (by walk_at "up") (by decide) rfl ?_
          refine r_xg T.xf_UnknownName T.nf_UnknownName (by walk_at "up") ?_
          walk_at "go"
          refine r_newL (sz100 (Nat.le_of_ble_eq_true rfl)) fun g2 H12 S12 h12 n12 => ?_
          refine r_catL (xs := [y, y, y, y, y, y]) (by walk_at "up") h12 (Nat.le_of_ble_eq_true rfl) fun g3 H13 S13 h13 n13 => ?_
          walk_at "go"
          try refine r_ixLi (i := 13) (by walk_at "up") (by decide) rfl ?_
          refine r_xg T.xf_RunFailed T.nf_RunFailed (by walk_at "up") ?_
          walk_at "go"
          rename_i g4 H14 S14 h14 n14
          refine r_catL (xs := [y, y, y, y, y, y, y, y, y, y, y, y]) (At.lst S14 h13) h14 (Nat.le_of_ble_eq_true rfl) fun g5 H15 S15 h15 n15 => ?_
          walk_at "go"
          have s15 : Stp (some t) H5 H15 := s9.trans (s10.trans (S11.trans (S12.trans (S13.trans (S14.trans S15))))).w
          refine (hz H15 (ft.mv s15)).1 g5 _ h15 ?_
          walk_at "go"
          rename_i g6 H16 S16 h16 n16
          refine r_rep13 h16 fun g7 H17 S17 h17 n17 => ?_
          walk_at "go"
          have s17 : Stp (some t) H5 H17 := s15.trans (S16.trans S17).w
          refine (hz H17 (ft.mv s17)).1 g7 _ h17 ?_
          refine r_neSs ?_
          walk_at "go"
          clear s15 S16 S17 h16 h17 n16 n17
          refine r_xh fun b1 H18 S18 y1 => ?_
          refine r_xg T.xf_InvalidRows T.nf_InvalidRows y1 ?_
          walk_at "go"
          refine r_xh fun b2 H19 S19 y2 => ?_
          refine r_xg T.xf_LimitExceeded T.nf_LimitExceeded y2 ?_
          walk_at "go"
          refine r_xh fun b3 H20 S20 y3 => ?_
          refine r_xg T.xf_UnknownName T.nf_UnknownName y3 ?_
          walk_at "go"
          rename_i g8 H21 S21 h21 n21
          refine r_xh fun b4 H22 S22 y4 => ?_
          refine r_xg T.xf_InvalidNet T.nf_InvalidNet y4 ?_
          walk_at "go"
          refine r_xh fun b5 H23 S23 y5 => ?_
          refine r_xg T.xf_RunFailed T.nf_RunFailed y5 ?_
          walk_at "go"
          rename_i g9 H24 S24 h24 n24
          refine r_catL (xs := [y, y, y]) (At.lst (S22.trans (S23.trans S24)) h21) h24 (Nat.le_of_ble_eq_true rfl) fun g10 H25 S25 h25 n25 => ?_
          walk_at "go"
          have s25 : Stp (some t) H5 H25 := s17.trans (S18.trans (S19.trans (S20.trans (S21.trans (S22.trans (S23.trans (S24.trans S25))))))).w
          refine (hz H25 (ft.mv s25)).2 g10 _ h25 ?_
          walk_at "go"
          rename_i g11 H26 S26 h26 n26
          refine r_rep5 h26 fun g12 H27 S27 h27 n27 => ?_
          walk_at "go"
          have s27 : Stp (some t) H5 H27 := s25.trans (S26.trans S27).w
          refine (hz H27 (ft.mv s27)).2 g12 _ h27 ?_
          refine r_neSs ?_
          walk_at "go"
          exact ⟨_, _, _, _, _, _, _, _, _, rfl, s27⟩
    · rintro σ H6 ⟨b3, b4, b5, b6, b7, b8, b9, b10, b11, rfl, s6⟩
      walk_at "go"
      exact q _
end
end Law

set_option Elab.async false
set_option linter.all false
set_option maxRecDepth 100000
set_option maxHeartbeats 4000000
namespace Law
open PySem PySem.Spec PyProof.Rows L2 MV TL
local macro_rules | `(tactic| walk_at "mv_vals") => `(tactic| repeat first | exact Paired.nil | refine Paired.cons ?_ ?_ | exact rfl | exact ⟨_, rfl⟩)
local macro_rules | `(tactic| walk_at "mv_kt") => `(tactic| (refine' MV.kt_mk ?h ?z ?v; (case h => k_is); (case z => decide +kernel); (case v => walk_at "mv_vals")))
local macro_rules | `(tactic| walk_at "mv_lit") => `(tactic| repeat first | exact True.intro | refine ⟨⟨_, _, rfl, rfl⟩, ?_⟩)
local macro_rules | `(tactic| walk_at "mv_kd") => `(tactic| (refine' MV.kd_mk ?h ?l ?n ?v; (case h => k_is); (case n => k_is); (case l => walk_at "mv_lit"); (case v => first | exact rfl | exact ⟨_, rfl⟩)))
local macro_rules | `(tactic| walk_at "mv_kk") => `(tactic| (refine' MV.kk_mk ?h ?n ?v; (case h => k_is); (case n => decide +kernel); (case v => walk_at "mv_vals")))
local macro_rules | `(tactic| walk_at "mv_bind") => `(tactic| (refine ⟨?k, ?h, ?g⟩; (case h => (unfold bindArgs; dsimp only; rw [List.forIn_nil, pure_bind])); (case g => exact rfl)))
theorem all_mk {K : PySem.W.Frag} {h : Heap} {mg : Str → Option Value} {fa : Addr} (X : K.In h) (G : h.Ns mainGlobals mg) (hfa : mg "law" = some (.ref fa))
    {C_CarpetError : Addr}
    {C_InvalidNet : Addr}
    {C_InvalidPlace : Addr}
    {C_InvalidMotion : Addr}
    {C_InvalidRows : Addr}
    {C_InvalidColour : Addr}
    {C_InvalidTable : Addr}
    {C_InvalidNumber : Addr}
    {C_InvalidObservation : Addr}
    {C_InvalidText : Addr}
    {C_InvalidCommand : Addr}
    {C_LimitExceeded : Addr}
    {C_UnknownName : Addr}
    {C_RunFailed : Addr}
    {C_NothingToUndo : Addr}
    {InvalidNet_init : Addr} {od_InvalidNet_init an_InvalidNet_init : Option Addr} {sl_InvalidNet_init : Array (Option Value)} {oc_InvalidNet_init kV_InvalidNet_init dc_InvalidNet_init pm_InvalidNet_init cd_InvalidNet_init ct_InvalidNet_init : Value}
    {InvalidPlace_init : Addr} {od_InvalidPlace_init an_InvalidPlace_init : Option Addr} {sl_InvalidPlace_init : Array (Option Value)} {oc_InvalidPlace_init kV_InvalidPlace_init dc_InvalidPlace_init pm_InvalidPlace_init cd_InvalidPlace_init ct_InvalidPlace_init : Value}
    {InvalidMotion_init : Addr} {od_InvalidMotion_init an_InvalidMotion_init : Option Addr} {sl_InvalidMotion_init : Array (Option Value)} {oc_InvalidMotion_init kV_InvalidMotion_init dc_InvalidMotion_init pm_InvalidMotion_init cd_InvalidMotion_init ct_InvalidMotion_init : Value}
    {InvalidRows_init : Addr} {od_InvalidRows_init an_InvalidRows_init : Option Addr} {sl_InvalidRows_init : Array (Option Value)} {oc_InvalidRows_init kV_InvalidRows_init dc_InvalidRows_init pm_InvalidRows_init cd_InvalidRows_init ct_InvalidRows_init : Value}
    {InvalidColour_init : Addr} {od_InvalidColour_init an_InvalidColour_init : Option Addr} {sl_InvalidColour_init : Array (Option Value)} {oc_InvalidColour_init kV_InvalidColour_init dc_InvalidColour_init pm_InvalidColour_init cd_InvalidColour_init ct_InvalidColour_init : Value}
    {InvalidTable_init : Addr} {od_InvalidTable_init an_InvalidTable_init : Option Addr} {sl_InvalidTable_init : Array (Option Value)} {oc_InvalidTable_init kV_InvalidTable_init dc_InvalidTable_init pm_InvalidTable_init cd_InvalidTable_init ct_InvalidTable_init : Value}
    {InvalidNumber_init : Addr} {od_InvalidNumber_init an_InvalidNumber_init : Option Addr} {sl_InvalidNumber_init : Array (Option Value)} {oc_InvalidNumber_init kV_InvalidNumber_init dc_InvalidNumber_init pm_InvalidNumber_init cd_InvalidNumber_init ct_InvalidNumber_init : Value}
    {InvalidObservation_init : Addr} {od_InvalidObservation_init an_InvalidObservation_init : Option Addr} {sl_InvalidObservation_init : Array (Option Value)} {oc_InvalidObservation_init kV_InvalidObservation_init dc_InvalidObservation_init pm_InvalidObservation_init cd_InvalidObservation_init ct_InvalidObservation_init : Value}
    {InvalidText_init : Addr} {od_InvalidText_init an_InvalidText_init : Option Addr} {sl_InvalidText_init : Array (Option Value)} {oc_InvalidText_init kV_InvalidText_init dc_InvalidText_init pm_InvalidText_init cd_InvalidText_init ct_InvalidText_init : Value}
    {InvalidCommand_init : Addr} {od_InvalidCommand_init an_InvalidCommand_init : Option Addr} {sl_InvalidCommand_init : Array (Option Value)} {oc_InvalidCommand_init kV_InvalidCommand_init dc_InvalidCommand_init pm_InvalidCommand_init cd_InvalidCommand_init ct_InvalidCommand_init : Value}
    {LimitExceeded_init : Addr} {od_LimitExceeded_init an_LimitExceeded_init : Option Addr} {sl_LimitExceeded_init : Array (Option Value)} {oc_LimitExceeded_init kV_LimitExceeded_init dc_LimitExceeded_init pm_LimitExceeded_init cd_LimitExceeded_init ct_LimitExceeded_init : Value}
    {UnknownName_init : Addr} {od_UnknownName_init an_UnknownName_init : Option Addr} {sl_UnknownName_init : Array (Option Value)} {oc_UnknownName_init kV_UnknownName_init dc_UnknownName_init pm_UnknownName_init cd_UnknownName_init ct_UnknownName_init : Value}
    {RunFailed_init : Addr} {od_RunFailed_init an_RunFailed_init : Option Addr} {sl_RunFailed_init : Array (Option Value)} {oc_RunFailed_init kV_RunFailed_init dc_RunFailed_init pm_RunFailed_init cd_RunFailed_init ct_RunFailed_init : Value}
    {law_tape : Addr} {od_law_tape an_law_tape : Option Addr} {sl_law_tape : Array (Option Value)} {oc_law_tape kV_law_tape dc_law_tape pm_law_tape cd_law_tape ct_law_tape : Value}
    {law_draw : Addr} {od_law_draw an_law_draw : Option Addr} {sl_law_draw : Array (Option Value)} {oc_law_draw kV_law_draw dc_law_draw pm_law_draw cd_law_draw ct_law_draw : Value}
    {law_made_errors : Addr} {od_law_made_errors an_law_made_errors : Option Addr} {sl_law_made_errors : Array (Option Value)} {oc_law_made_errors kV_law_made_errors dc_law_made_errors pm_law_made_errors cd_law_made_errors ct_law_made_errors : Value}
    {law_kinds_of : Addr} {od_law_kinds_of an_law_kinds_of : Option Addr} {sl_law_kinds_of : Array (Option Value)} {oc_law_kinds_of kV_law_kinds_of dc_law_kinds_of pm_law_kinds_of cd_law_kinds_of ct_law_kinds_of : Value}
    {law_above : Addr} {od_law_above an_law_above : Option Addr} {sl_law_above : Array (Option Value)} {oc_law_above kV_law_above dc_law_above pm_law_above cd_law_above ct_law_above : Value}
    {law : Addr} {od_law an_law : Option Addr} {sl_law : Array (Option Value)} {oc_law kV_law dc_law pm_law cd_law ct_law : Value}
    (a_InvalidNet : PySem.W.nsIn K mainGlobals "InvalidNet" = some (some (.ref C_InvalidNet)))
    (ei_InvalidNet : PySem.W.excInitIn K C_InvalidNet [.type "ValueError", .type "Exception", .type "BaseException", .type "object"] "ValueError.__new__" = true)
    (kc_InvalidNet : PySem.W.keepIn K (.ref C_InvalidNet) = true)
    (xg_InvalidNet : xfB K C_InvalidNet = true)
    (xa_InvalidNet : PySem.W.findIn K (.ref C_InvalidNet) "__class__" = some (some (.builtin "object.__class__")))
    (xn_InvalidNet : PySem.W.specialIn K (.builtin "object.__class__") "__get__" = some (some (.builtin "getset_descriptor.__get__")))
    (xt_InvalidNet : PySem.W.takesIn K (.builtin "object.__class__") = some true)
    (xm_InvalidNet : PySem.W.mroIn K C_InvalidNet (.type "object") = some true)
    (ov_InvalidNet : PySem.W.excOver K C_InvalidNet [.type "ValueError", .type "Exception", .type "BaseException", .type "object"] = true)
    (hd_InvalidNet : PySem.W.hasDictIn K C_InvalidNet = true)
    (tk_InvalidNet : PySem.W.takerIn K C_InvalidNet "value" = some none)
    (sa_InvalidNet : PySem.W.findIn K (.ref C_InvalidNet) "__setattr__" = some (some (.builtin "object.__setattr__")))
    (nf_InvalidNet : PySem.W.findIn K (.ref C_InvalidNet) "value" = some none)
    (a_InvalidPlace : PySem.W.nsIn K mainGlobals "InvalidPlace" = some (some (.ref C_InvalidPlace)))
    (ei_InvalidPlace : PySem.W.excInitIn K C_InvalidPlace [.type "ValueError", .type "Exception", .type "BaseException", .type "object"] "ValueError.__new__" = true)
    (kc_InvalidPlace : PySem.W.keepIn K (.ref C_InvalidPlace) = true)
    (xg_InvalidPlace : xfB K C_InvalidPlace = true)
    (xa_InvalidPlace : PySem.W.findIn K (.ref C_InvalidPlace) "__class__" = some (some (.builtin "object.__class__")))
    (xn_InvalidPlace : PySem.W.specialIn K (.builtin "object.__class__") "__get__" = some (some (.builtin "getset_descriptor.__get__")))
    (xt_InvalidPlace : PySem.W.takesIn K (.builtin "object.__class__") = some true)
    (xm_InvalidPlace : PySem.W.mroIn K C_InvalidPlace (.type "object") = some true)
    (ov_InvalidPlace : PySem.W.excOver K C_InvalidPlace [.type "ValueError", .type "Exception", .type "BaseException", .type "object"] = true)
    (hd_InvalidPlace : PySem.W.hasDictIn K C_InvalidPlace = true)
    (tk_InvalidPlace : PySem.W.takerIn K C_InvalidPlace "value" = some none)
    (sa_InvalidPlace : PySem.W.findIn K (.ref C_InvalidPlace) "__setattr__" = some (some (.builtin "object.__setattr__")))
    (nf_InvalidPlace : PySem.W.findIn K (.ref C_InvalidPlace) "value" = some none)
    (a_InvalidMotion : PySem.W.nsIn K mainGlobals "InvalidMotion" = some (some (.ref C_InvalidMotion)))
    (ei_InvalidMotion : PySem.W.excInitIn K C_InvalidMotion [.type "ValueError", .type "Exception", .type "BaseException", .type "object"] "ValueError.__new__" = true)
    (kc_InvalidMotion : PySem.W.keepIn K (.ref C_InvalidMotion) = true)
    (xg_InvalidMotion : xfB K C_InvalidMotion = true)
    (xa_InvalidMotion : PySem.W.findIn K (.ref C_InvalidMotion) "__class__" = some (some (.builtin "object.__class__")))
    (xn_InvalidMotion : PySem.W.specialIn K (.builtin "object.__class__") "__get__" = some (some (.builtin "getset_descriptor.__get__")))
    (xt_InvalidMotion : PySem.W.takesIn K (.builtin "object.__class__") = some true)
    (xm_InvalidMotion : PySem.W.mroIn K C_InvalidMotion (.type "object") = some true)
    (ov_InvalidMotion : PySem.W.excOver K C_InvalidMotion [.type "ValueError", .type "Exception", .type "BaseException", .type "object"] = true)
    (hd_InvalidMotion : PySem.W.hasDictIn K C_InvalidMotion = true)
    (tk_InvalidMotion : PySem.W.takerIn K C_InvalidMotion "value" = some none)
    (sa_InvalidMotion : PySem.W.findIn K (.ref C_InvalidMotion) "__setattr__" = some (some (.builtin "object.__setattr__")))
    (nf_InvalidMotion : PySem.W.findIn K (.ref C_InvalidMotion) "value" = some none)
    (a_InvalidRows : PySem.W.nsIn K mainGlobals "InvalidRows" = some (some (.ref C_InvalidRows)))
    (ei_InvalidRows : PySem.W.excInitIn K C_InvalidRows [.type "ValueError", .type "Exception", .type "BaseException", .type "object"] "ValueError.__new__" = true)
    (kc_InvalidRows : PySem.W.keepIn K (.ref C_InvalidRows) = true)
    (xg_InvalidRows : xfB K C_InvalidRows = true)
    (xa_InvalidRows : PySem.W.findIn K (.ref C_InvalidRows) "__class__" = some (some (.builtin "object.__class__")))
    (xn_InvalidRows : PySem.W.specialIn K (.builtin "object.__class__") "__get__" = some (some (.builtin "getset_descriptor.__get__")))
    (xt_InvalidRows : PySem.W.takesIn K (.builtin "object.__class__") = some true)
    (xm_InvalidRows : PySem.W.mroIn K C_InvalidRows (.type "object") = some true)
    (ov_InvalidRows : PySem.W.excOver K C_InvalidRows [.type "ValueError", .type "Exception", .type "BaseException", .type "object"] = true)
    (hd_InvalidRows : PySem.W.hasDictIn K C_InvalidRows = true)
    (tk_InvalidRows : PySem.W.takerIn K C_InvalidRows "index" = some none)
    (sa_InvalidRows : PySem.W.findIn K (.ref C_InvalidRows) "__setattr__" = some (some (.builtin "object.__setattr__")))
    (nf_InvalidRows : PySem.W.findIn K (.ref C_InvalidRows) "index" = some none)
    (a_InvalidColour : PySem.W.nsIn K mainGlobals "InvalidColour" = some (some (.ref C_InvalidColour)))
    (ei_InvalidColour : PySem.W.excInitIn K C_InvalidColour [.type "ValueError", .type "Exception", .type "BaseException", .type "object"] "ValueError.__new__" = true)
    (kc_InvalidColour : PySem.W.keepIn K (.ref C_InvalidColour) = true)
    (xg_InvalidColour : xfB K C_InvalidColour = true)
    (xa_InvalidColour : PySem.W.findIn K (.ref C_InvalidColour) "__class__" = some (some (.builtin "object.__class__")))
    (xn_InvalidColour : PySem.W.specialIn K (.builtin "object.__class__") "__get__" = some (some (.builtin "getset_descriptor.__get__")))
    (xt_InvalidColour : PySem.W.takesIn K (.builtin "object.__class__") = some true)
    (xm_InvalidColour : PySem.W.mroIn K C_InvalidColour (.type "object") = some true)
    (ov_InvalidColour : PySem.W.excOver K C_InvalidColour [.type "ValueError", .type "Exception", .type "BaseException", .type "object"] = true)
    (hd_InvalidColour : PySem.W.hasDictIn K C_InvalidColour = true)
    (tk_InvalidColour : PySem.W.takerIn K C_InvalidColour "value" = some none)
    (sa_InvalidColour : PySem.W.findIn K (.ref C_InvalidColour) "__setattr__" = some (some (.builtin "object.__setattr__")))
    (nf_InvalidColour : PySem.W.findIn K (.ref C_InvalidColour) "value" = some none)
    (a_InvalidTable : PySem.W.nsIn K mainGlobals "InvalidTable" = some (some (.ref C_InvalidTable)))
    (ei_InvalidTable : PySem.W.excInitIn K C_InvalidTable [.type "ValueError", .type "Exception", .type "BaseException", .type "object"] "ValueError.__new__" = true)
    (kc_InvalidTable : PySem.W.keepIn K (.ref C_InvalidTable) = true)
    (xg_InvalidTable : xfB K C_InvalidTable = true)
    (xa_InvalidTable : PySem.W.findIn K (.ref C_InvalidTable) "__class__" = some (some (.builtin "object.__class__")))
    (xn_InvalidTable : PySem.W.specialIn K (.builtin "object.__class__") "__get__" = some (some (.builtin "getset_descriptor.__get__")))
    (xt_InvalidTable : PySem.W.takesIn K (.builtin "object.__class__") = some true)
    (xm_InvalidTable : PySem.W.mroIn K C_InvalidTable (.type "object") = some true)
    (ov_InvalidTable : PySem.W.excOver K C_InvalidTable [.type "ValueError", .type "Exception", .type "BaseException", .type "object"] = true)
    (hd_InvalidTable : PySem.W.hasDictIn K C_InvalidTable = true)
    (tk_InvalidTable : PySem.W.takerIn K C_InvalidTable "value" = some none)
    (sa_InvalidTable : PySem.W.findIn K (.ref C_InvalidTable) "__setattr__" = some (some (.builtin "object.__setattr__")))
    (nf_InvalidTable : PySem.W.findIn K (.ref C_InvalidTable) "value" = some none)
    (a_InvalidNumber : PySem.W.nsIn K mainGlobals "InvalidNumber" = some (some (.ref C_InvalidNumber)))
    (ei_InvalidNumber : PySem.W.excInitIn K C_InvalidNumber [.type "ValueError", .type "Exception", .type "BaseException", .type "object"] "ValueError.__new__" = true)
    (kc_InvalidNumber : PySem.W.keepIn K (.ref C_InvalidNumber) = true)
    (xg_InvalidNumber : xfB K C_InvalidNumber = true)
    (xa_InvalidNumber : PySem.W.findIn K (.ref C_InvalidNumber) "__class__" = some (some (.builtin "object.__class__")))
    (xn_InvalidNumber : PySem.W.specialIn K (.builtin "object.__class__") "__get__" = some (some (.builtin "getset_descriptor.__get__")))
    (xt_InvalidNumber : PySem.W.takesIn K (.builtin "object.__class__") = some true)
    (xm_InvalidNumber : PySem.W.mroIn K C_InvalidNumber (.type "object") = some true)
    (ov_InvalidNumber : PySem.W.excOver K C_InvalidNumber [.type "ValueError", .type "Exception", .type "BaseException", .type "object"] = true)
    (hd_InvalidNumber : PySem.W.hasDictIn K C_InvalidNumber = true)
    (tk_InvalidNumber : PySem.W.takerIn K C_InvalidNumber "value" = some none)
    (sa_InvalidNumber : PySem.W.findIn K (.ref C_InvalidNumber) "__setattr__" = some (some (.builtin "object.__setattr__")))
    (nf_InvalidNumber : PySem.W.findIn K (.ref C_InvalidNumber) "value" = some none)
    (a_InvalidObservation : PySem.W.nsIn K mainGlobals "InvalidObservation" = some (some (.ref C_InvalidObservation)))
    (ei_InvalidObservation : PySem.W.excInitIn K C_InvalidObservation [.type "ValueError", .type "Exception", .type "BaseException", .type "object"] "ValueError.__new__" = true)
    (kc_InvalidObservation : PySem.W.keepIn K (.ref C_InvalidObservation) = true)
    (xg_InvalidObservation : xfB K C_InvalidObservation = true)
    (xa_InvalidObservation : PySem.W.findIn K (.ref C_InvalidObservation) "__class__" = some (some (.builtin "object.__class__")))
    (xn_InvalidObservation : PySem.W.specialIn K (.builtin "object.__class__") "__get__" = some (some (.builtin "getset_descriptor.__get__")))
    (xt_InvalidObservation : PySem.W.takesIn K (.builtin "object.__class__") = some true)
    (xm_InvalidObservation : PySem.W.mroIn K C_InvalidObservation (.type "object") = some true)
    (ov_InvalidObservation : PySem.W.excOver K C_InvalidObservation [.type "ValueError", .type "Exception", .type "BaseException", .type "object"] = true)
    (hd_InvalidObservation : PySem.W.hasDictIn K C_InvalidObservation = true)
    (tk_InvalidObservation : PySem.W.takerIn K C_InvalidObservation "index" = some none)
    (sa_InvalidObservation : PySem.W.findIn K (.ref C_InvalidObservation) "__setattr__" = some (some (.builtin "object.__setattr__")))
    (nf_InvalidObservation : PySem.W.findIn K (.ref C_InvalidObservation) "index" = some none)
    (a_InvalidText : PySem.W.nsIn K mainGlobals "InvalidText" = some (some (.ref C_InvalidText)))
    (ei_InvalidText : PySem.W.excInitIn K C_InvalidText [.type "ValueError", .type "Exception", .type "BaseException", .type "object"] "ValueError.__new__" = true)
    (kc_InvalidText : PySem.W.keepIn K (.ref C_InvalidText) = true)
    (xg_InvalidText : xfB K C_InvalidText = true)
    (xa_InvalidText : PySem.W.findIn K (.ref C_InvalidText) "__class__" = some (some (.builtin "object.__class__")))
    (xn_InvalidText : PySem.W.specialIn K (.builtin "object.__class__") "__get__" = some (some (.builtin "getset_descriptor.__get__")))
    (xt_InvalidText : PySem.W.takesIn K (.builtin "object.__class__") = some true)
    (xm_InvalidText : PySem.W.mroIn K C_InvalidText (.type "object") = some true)
    (ov_InvalidText : PySem.W.excOver K C_InvalidText [.type "ValueError", .type "Exception", .type "BaseException", .type "object"] = true)
    (hd_InvalidText : PySem.W.hasDictIn K C_InvalidText = true)
    (tk_InvalidText : PySem.W.takerIn K C_InvalidText "value" = some none)
    (sa_InvalidText : PySem.W.findIn K (.ref C_InvalidText) "__setattr__" = some (some (.builtin "object.__setattr__")))
    (nf_InvalidText : PySem.W.findIn K (.ref C_InvalidText) "value" = some none)
    (a_InvalidCommand : PySem.W.nsIn K mainGlobals "InvalidCommand" = some (some (.ref C_InvalidCommand)))
    (ei_InvalidCommand : PySem.W.excInitIn K C_InvalidCommand [.type "ValueError", .type "Exception", .type "BaseException", .type "object"] "ValueError.__new__" = true)
    (kc_InvalidCommand : PySem.W.keepIn K (.ref C_InvalidCommand) = true)
    (xg_InvalidCommand : xfB K C_InvalidCommand = true)
    (xa_InvalidCommand : PySem.W.findIn K (.ref C_InvalidCommand) "__class__" = some (some (.builtin "object.__class__")))
    (xn_InvalidCommand : PySem.W.specialIn K (.builtin "object.__class__") "__get__" = some (some (.builtin "getset_descriptor.__get__")))
    (xt_InvalidCommand : PySem.W.takesIn K (.builtin "object.__class__") = some true)
    (xm_InvalidCommand : PySem.W.mroIn K C_InvalidCommand (.type "object") = some true)
    (ov_InvalidCommand : PySem.W.excOver K C_InvalidCommand [.type "ValueError", .type "Exception", .type "BaseException", .type "object"] = true)
    (hd_InvalidCommand : PySem.W.hasDictIn K C_InvalidCommand = true)
    (tk_InvalidCommand : PySem.W.takerIn K C_InvalidCommand "value" = some none)
    (sa_InvalidCommand : PySem.W.findIn K (.ref C_InvalidCommand) "__setattr__" = some (some (.builtin "object.__setattr__")))
    (nf_InvalidCommand : PySem.W.findIn K (.ref C_InvalidCommand) "value" = some none)
    (a_LimitExceeded : PySem.W.nsIn K mainGlobals "LimitExceeded" = some (some (.ref C_LimitExceeded)))
    (ei_LimitExceeded : PySem.W.excInitIn K C_LimitExceeded [.type "OverflowError", .type "ArithmeticError", .type "Exception", .type "BaseException", .type "object"] "OverflowError.__new__" = true)
    (kc_LimitExceeded : PySem.W.keepIn K (.ref C_LimitExceeded) = true)
    (xg_LimitExceeded : xfB K C_LimitExceeded = true)
    (xa_LimitExceeded : PySem.W.findIn K (.ref C_LimitExceeded) "__class__" = some (some (.builtin "object.__class__")))
    (xn_LimitExceeded : PySem.W.specialIn K (.builtin "object.__class__") "__get__" = some (some (.builtin "getset_descriptor.__get__")))
    (xt_LimitExceeded : PySem.W.takesIn K (.builtin "object.__class__") = some true)
    (xm_LimitExceeded : PySem.W.mroIn K C_LimitExceeded (.type "object") = some true)
    (ov_LimitExceeded : PySem.W.excOver K C_LimitExceeded [.type "OverflowError", .type "ArithmeticError", .type "Exception", .type "BaseException", .type "object"] = true)
    (hd_LimitExceeded : PySem.W.hasDictIn K C_LimitExceeded = true)
    (tk_LimitExceeded : PySem.W.takerIn K C_LimitExceeded "limit" = some none)
    (sa_LimitExceeded : PySem.W.findIn K (.ref C_LimitExceeded) "__setattr__" = some (some (.builtin "object.__setattr__")))
    (nf_LimitExceeded : PySem.W.findIn K (.ref C_LimitExceeded) "limit" = some none)
    (a_UnknownName : PySem.W.nsIn K mainGlobals "UnknownName" = some (some (.ref C_UnknownName)))
    (ei_UnknownName : PySem.W.excInitIn K C_UnknownName [.type "KeyError", .type "LookupError", .type "Exception", .type "BaseException", .type "object"] "LookupError.__new__" = true)
    (kc_UnknownName : PySem.W.keepIn K (.ref C_UnknownName) = true)
    (xg_UnknownName : xfB K C_UnknownName = true)
    (xa_UnknownName : PySem.W.findIn K (.ref C_UnknownName) "__class__" = some (some (.builtin "object.__class__")))
    (xn_UnknownName : PySem.W.specialIn K (.builtin "object.__class__") "__get__" = some (some (.builtin "getset_descriptor.__get__")))
    (xt_UnknownName : PySem.W.takesIn K (.builtin "object.__class__") = some true)
    (xm_UnknownName : PySem.W.mroIn K C_UnknownName (.type "object") = some true)
    (ov_UnknownName : PySem.W.excOver K C_UnknownName [.type "KeyError", .type "LookupError", .type "Exception", .type "BaseException", .type "object"] = true)
    (hd_UnknownName : PySem.W.hasDictIn K C_UnknownName = true)
    (tk_UnknownName : PySem.W.takerIn K C_UnknownName "name" = some none)
    (sa_UnknownName : PySem.W.findIn K (.ref C_UnknownName) "__setattr__" = some (some (.builtin "object.__setattr__")))
    (nf_UnknownName : PySem.W.findIn K (.ref C_UnknownName) "name" = some none)
    (a_RunFailed : PySem.W.nsIn K mainGlobals "RunFailed" = some (some (.ref C_RunFailed)))
    (ei_RunFailed : PySem.W.excInitIn K C_RunFailed [.type "ArithmeticError", .type "Exception", .type "BaseException", .type "object"] "ArithmeticError.__new__" = true)
    (kc_RunFailed : PySem.W.keepIn K (.ref C_RunFailed) = true)
    (xg_RunFailed : xfB K C_RunFailed = true)
    (xa_RunFailed : PySem.W.findIn K (.ref C_RunFailed) "__class__" = some (some (.builtin "object.__class__")))
    (xn_RunFailed : PySem.W.specialIn K (.builtin "object.__class__") "__get__" = some (some (.builtin "getset_descriptor.__get__")))
    (xt_RunFailed : PySem.W.takesIn K (.builtin "object.__class__") = some true)
    (xm_RunFailed : PySem.W.mroIn K C_RunFailed (.type "object") = some true)
    (ov_RunFailed : PySem.W.excOver K C_RunFailed [.type "ArithmeticError", .type "Exception", .type "BaseException", .type "object"] = true)
    (hd_RunFailed : PySem.W.hasDictIn K C_RunFailed = true)
    (tk_RunFailed : PySem.W.takerIn K C_RunFailed "index" = some none)
    (sa_RunFailed : PySem.W.findIn K (.ref C_RunFailed) "__setattr__" = some (some (.builtin "object.__setattr__")))
    (nf_RunFailed : PySem.W.findIn K (.ref C_RunFailed) "index" = some none)
    (a_NothingToUndo : PySem.W.nsIn K mainGlobals "NothingToUndo" = some (some (.ref C_NothingToUndo)))
    (ei_NothingToUndo : PySem.W.excInitIn K C_NothingToUndo [.type "RuntimeError", .type "Exception", .type "BaseException", .type "object"] "RuntimeError.__new__" = true)
    (kc_NothingToUndo : PySem.W.keepIn K (.ref C_NothingToUndo) = true)
    (xg_NothingToUndo : xfB K C_NothingToUndo = true)
    (xa_NothingToUndo : PySem.W.findIn K (.ref C_NothingToUndo) "__class__" = some (some (.builtin "object.__class__")))
    (xn_NothingToUndo : PySem.W.specialIn K (.builtin "object.__class__") "__get__" = some (some (.builtin "getset_descriptor.__get__")))
    (xt_NothingToUndo : PySem.W.takesIn K (.builtin "object.__class__") = some true)
    (xm_NothingToUndo : PySem.W.mroIn K C_NothingToUndo (.type "object") = some true)
    (zi_NothingToUndo : PySem.W.findIn K (.ref C_NothingToUndo) "__init__" = some (some (.builtin "RuntimeError.__init__")))
    (a_InvalidNet_init : PySem.W.findIn K (.ref C_InvalidNet) "__init__" = some (some (.ref InvalidNet_init)))
    (i_InvalidNet_init : PySem.W.isFn K (.ref InvalidNet_init) = true)
    (l_InvalidNet_init : K.lookup InvalidNet_init = some ⟨oc_InvalidNet_init, od_InvalidNet_init, .func (PySem.W.fnOf "__init__" "InvalidNet.__init__" (defArgs s_InvalidNet_init) (defBody s_InvalidNet_init) (defScope s_InvalidNet_init) .none kV_InvalidNet_init dc_InvalidNet_init pm_InvalidNet_init an_InvalidNet_init cd_InvalidNet_init ct_InvalidNet_init), sl_InvalidNet_init⟩)
    (c_InvalidNet_init : PySem.W.codeIn K cd_InvalidNet_init "InvalidNet.__init__" = true)
    (k_InvalidNet_init : PySem.W.keepIn K (.ref InvalidNet_init) = true)
    (tf_InvalidNet : PySem.W.typeIn K (.ref InvalidNet_init) = some (.type "function"))
    (a_InvalidPlace_init : PySem.W.findIn K (.ref C_InvalidPlace) "__init__" = some (some (.ref InvalidPlace_init)))
    (i_InvalidPlace_init : PySem.W.isFn K (.ref InvalidPlace_init) = true)
    (l_InvalidPlace_init : K.lookup InvalidPlace_init = some ⟨oc_InvalidPlace_init, od_InvalidPlace_init, .func (PySem.W.fnOf "__init__" "InvalidPlace.__init__" (defArgs s_InvalidPlace_init) (defBody s_InvalidPlace_init) (defScope s_InvalidPlace_init) .none kV_InvalidPlace_init dc_InvalidPlace_init pm_InvalidPlace_init an_InvalidPlace_init cd_InvalidPlace_init ct_InvalidPlace_init), sl_InvalidPlace_init⟩)
    (c_InvalidPlace_init : PySem.W.codeIn K cd_InvalidPlace_init "InvalidPlace.__init__" = true)
    (k_InvalidPlace_init : PySem.W.keepIn K (.ref InvalidPlace_init) = true)
    (tf_InvalidPlace : PySem.W.typeIn K (.ref InvalidPlace_init) = some (.type "function"))
    (a_InvalidMotion_init : PySem.W.findIn K (.ref C_InvalidMotion) "__init__" = some (some (.ref InvalidMotion_init)))
    (i_InvalidMotion_init : PySem.W.isFn K (.ref InvalidMotion_init) = true)
    (l_InvalidMotion_init : K.lookup InvalidMotion_init = some ⟨oc_InvalidMotion_init, od_InvalidMotion_init, .func (PySem.W.fnOf "__init__" "InvalidMotion.__init__" (defArgs s_InvalidMotion_init) (defBody s_InvalidMotion_init) (defScope s_InvalidMotion_init) .none kV_InvalidMotion_init dc_InvalidMotion_init pm_InvalidMotion_init an_InvalidMotion_init cd_InvalidMotion_init ct_InvalidMotion_init), sl_InvalidMotion_init⟩)
    (c_InvalidMotion_init : PySem.W.codeIn K cd_InvalidMotion_init "InvalidMotion.__init__" = true)
    (k_InvalidMotion_init : PySem.W.keepIn K (.ref InvalidMotion_init) = true)
    (tf_InvalidMotion : PySem.W.typeIn K (.ref InvalidMotion_init) = some (.type "function"))
    (a_InvalidRows_init : PySem.W.findIn K (.ref C_InvalidRows) "__init__" = some (some (.ref InvalidRows_init)))
    (i_InvalidRows_init : PySem.W.isFn K (.ref InvalidRows_init) = true)
    (l_InvalidRows_init : K.lookup InvalidRows_init = some ⟨oc_InvalidRows_init, od_InvalidRows_init, .func (PySem.W.fnOf "__init__" "InvalidRows.__init__" (defArgs s_InvalidRows_init) (defBody s_InvalidRows_init) (defScope s_InvalidRows_init) .none kV_InvalidRows_init dc_InvalidRows_init pm_InvalidRows_init an_InvalidRows_init cd_InvalidRows_init ct_InvalidRows_init), sl_InvalidRows_init⟩)
    (c_InvalidRows_init : PySem.W.codeIn K cd_InvalidRows_init "InvalidRows.__init__" = true)
    (k_InvalidRows_init : PySem.W.keepIn K (.ref InvalidRows_init) = true)
    (tf_InvalidRows : PySem.W.typeIn K (.ref InvalidRows_init) = some (.type "function"))
    (a_InvalidColour_init : PySem.W.findIn K (.ref C_InvalidColour) "__init__" = some (some (.ref InvalidColour_init)))
    (i_InvalidColour_init : PySem.W.isFn K (.ref InvalidColour_init) = true)
    (l_InvalidColour_init : K.lookup InvalidColour_init = some ⟨oc_InvalidColour_init, od_InvalidColour_init, .func (PySem.W.fnOf "__init__" "InvalidColour.__init__" (defArgs s_InvalidColour_init) (defBody s_InvalidColour_init) (defScope s_InvalidColour_init) .none kV_InvalidColour_init dc_InvalidColour_init pm_InvalidColour_init an_InvalidColour_init cd_InvalidColour_init ct_InvalidColour_init), sl_InvalidColour_init⟩)
    (c_InvalidColour_init : PySem.W.codeIn K cd_InvalidColour_init "InvalidColour.__init__" = true)
    (k_InvalidColour_init : PySem.W.keepIn K (.ref InvalidColour_init) = true)
    (tf_InvalidColour : PySem.W.typeIn K (.ref InvalidColour_init) = some (.type "function"))
    (a_InvalidTable_init : PySem.W.findIn K (.ref C_InvalidTable) "__init__" = some (some (.ref InvalidTable_init)))
    (i_InvalidTable_init : PySem.W.isFn K (.ref InvalidTable_init) = true)
    (l_InvalidTable_init : K.lookup InvalidTable_init = some ⟨oc_InvalidTable_init, od_InvalidTable_init, .func (PySem.W.fnOf "__init__" "InvalidTable.__init__" (defArgs s_InvalidTable_init) (defBody s_InvalidTable_init) (defScope s_InvalidTable_init) .none kV_InvalidTable_init dc_InvalidTable_init pm_InvalidTable_init an_InvalidTable_init cd_InvalidTable_init ct_InvalidTable_init), sl_InvalidTable_init⟩)
    (c_InvalidTable_init : PySem.W.codeIn K cd_InvalidTable_init "InvalidTable.__init__" = true)
    (k_InvalidTable_init : PySem.W.keepIn K (.ref InvalidTable_init) = true)
    (tf_InvalidTable : PySem.W.typeIn K (.ref InvalidTable_init) = some (.type "function"))
    (a_InvalidNumber_init : PySem.W.findIn K (.ref C_InvalidNumber) "__init__" = some (some (.ref InvalidNumber_init)))
    (i_InvalidNumber_init : PySem.W.isFn K (.ref InvalidNumber_init) = true)
    (l_InvalidNumber_init : K.lookup InvalidNumber_init = some ⟨oc_InvalidNumber_init, od_InvalidNumber_init, .func (PySem.W.fnOf "__init__" "InvalidNumber.__init__" (defArgs s_InvalidNumber_init) (defBody s_InvalidNumber_init) (defScope s_InvalidNumber_init) .none kV_InvalidNumber_init dc_InvalidNumber_init pm_InvalidNumber_init an_InvalidNumber_init cd_InvalidNumber_init ct_InvalidNumber_init), sl_InvalidNumber_init⟩)
    (c_InvalidNumber_init : PySem.W.codeIn K cd_InvalidNumber_init "InvalidNumber.__init__" = true)
    (k_InvalidNumber_init : PySem.W.keepIn K (.ref InvalidNumber_init) = true)
    (tf_InvalidNumber : PySem.W.typeIn K (.ref InvalidNumber_init) = some (.type "function"))
    (a_InvalidObservation_init : PySem.W.findIn K (.ref C_InvalidObservation) "__init__" = some (some (.ref InvalidObservation_init)))
    (i_InvalidObservation_init : PySem.W.isFn K (.ref InvalidObservation_init) = true)
    (l_InvalidObservation_init : K.lookup InvalidObservation_init = some ⟨oc_InvalidObservation_init, od_InvalidObservation_init, .func (PySem.W.fnOf "__init__" "InvalidObservation.__init__" (defArgs s_InvalidObservation_init) (defBody s_InvalidObservation_init) (defScope s_InvalidObservation_init) .none kV_InvalidObservation_init dc_InvalidObservation_init pm_InvalidObservation_init an_InvalidObservation_init cd_InvalidObservation_init ct_InvalidObservation_init), sl_InvalidObservation_init⟩)
    (c_InvalidObservation_init : PySem.W.codeIn K cd_InvalidObservation_init "InvalidObservation.__init__" = true)
    (k_InvalidObservation_init : PySem.W.keepIn K (.ref InvalidObservation_init) = true)
    (tf_InvalidObservation : PySem.W.typeIn K (.ref InvalidObservation_init) = some (.type "function"))
    (a_InvalidText_init : PySem.W.findIn K (.ref C_InvalidText) "__init__" = some (some (.ref InvalidText_init)))
    (i_InvalidText_init : PySem.W.isFn K (.ref InvalidText_init) = true)
    (l_InvalidText_init : K.lookup InvalidText_init = some ⟨oc_InvalidText_init, od_InvalidText_init, .func (PySem.W.fnOf "__init__" "InvalidText.__init__" (defArgs s_InvalidText_init) (defBody s_InvalidText_init) (defScope s_InvalidText_init) .none kV_InvalidText_init dc_InvalidText_init pm_InvalidText_init an_InvalidText_init cd_InvalidText_init ct_InvalidText_init), sl_InvalidText_init⟩)
    (c_InvalidText_init : PySem.W.codeIn K cd_InvalidText_init "InvalidText.__init__" = true)
    (k_InvalidText_init : PySem.W.keepIn K (.ref InvalidText_init) = true)
    (tf_InvalidText : PySem.W.typeIn K (.ref InvalidText_init) = some (.type "function"))
    (a_InvalidCommand_init : PySem.W.findIn K (.ref C_InvalidCommand) "__init__" = some (some (.ref InvalidCommand_init)))
    (i_InvalidCommand_init : PySem.W.isFn K (.ref InvalidCommand_init) = true)
    (l_InvalidCommand_init : K.lookup InvalidCommand_init = some ⟨oc_InvalidCommand_init, od_InvalidCommand_init, .func (PySem.W.fnOf "__init__" "InvalidCommand.__init__" (defArgs s_InvalidCommand_init) (defBody s_InvalidCommand_init) (defScope s_InvalidCommand_init) .none kV_InvalidCommand_init dc_InvalidCommand_init pm_InvalidCommand_init an_InvalidCommand_init cd_InvalidCommand_init ct_InvalidCommand_init), sl_InvalidCommand_init⟩)
    (c_InvalidCommand_init : PySem.W.codeIn K cd_InvalidCommand_init "InvalidCommand.__init__" = true)
    (k_InvalidCommand_init : PySem.W.keepIn K (.ref InvalidCommand_init) = true)
    (tf_InvalidCommand : PySem.W.typeIn K (.ref InvalidCommand_init) = some (.type "function"))
    (a_LimitExceeded_init : PySem.W.findIn K (.ref C_LimitExceeded) "__init__" = some (some (.ref LimitExceeded_init)))
    (i_LimitExceeded_init : PySem.W.isFn K (.ref LimitExceeded_init) = true)
    (l_LimitExceeded_init : K.lookup LimitExceeded_init = some ⟨oc_LimitExceeded_init, od_LimitExceeded_init, .func (PySem.W.fnOf "__init__" "LimitExceeded.__init__" (defArgs s_LimitExceeded_init) (defBody s_LimitExceeded_init) (defScope s_LimitExceeded_init) .none kV_LimitExceeded_init dc_LimitExceeded_init pm_LimitExceeded_init an_LimitExceeded_init cd_LimitExceeded_init ct_LimitExceeded_init), sl_LimitExceeded_init⟩)
    (c_LimitExceeded_init : PySem.W.codeIn K cd_LimitExceeded_init "LimitExceeded.__init__" = true)
    (k_LimitExceeded_init : PySem.W.keepIn K (.ref LimitExceeded_init) = true)
    (tf_LimitExceeded : PySem.W.typeIn K (.ref LimitExceeded_init) = some (.type "function"))
    (a_UnknownName_init : PySem.W.findIn K (.ref C_UnknownName) "__init__" = some (some (.ref UnknownName_init)))
    (i_UnknownName_init : PySem.W.isFn K (.ref UnknownName_init) = true)
    (l_UnknownName_init : K.lookup UnknownName_init = some ⟨oc_UnknownName_init, od_UnknownName_init, .func (PySem.W.fnOf "__init__" "UnknownName.__init__" (defArgs s_UnknownName_init) (defBody s_UnknownName_init) (defScope s_UnknownName_init) .none kV_UnknownName_init dc_UnknownName_init pm_UnknownName_init an_UnknownName_init cd_UnknownName_init ct_UnknownName_init), sl_UnknownName_init⟩)
    (c_UnknownName_init : PySem.W.codeIn K cd_UnknownName_init "UnknownName.__init__" = true)
    (k_UnknownName_init : PySem.W.keepIn K (.ref UnknownName_init) = true)
    (tf_UnknownName : PySem.W.typeIn K (.ref UnknownName_init) = some (.type "function"))
    (a_RunFailed_init : PySem.W.findIn K (.ref C_RunFailed) "__init__" = some (some (.ref RunFailed_init)))
    (i_RunFailed_init : PySem.W.isFn K (.ref RunFailed_init) = true)
    (l_RunFailed_init : K.lookup RunFailed_init = some ⟨oc_RunFailed_init, od_RunFailed_init, .func (PySem.W.fnOf "__init__" "RunFailed.__init__" (defArgs s_RunFailed_init) (defBody s_RunFailed_init) (defScope s_RunFailed_init) .none kV_RunFailed_init dc_RunFailed_init pm_RunFailed_init an_RunFailed_init cd_RunFailed_init ct_RunFailed_init), sl_RunFailed_init⟩)
    (c_RunFailed_init : PySem.W.codeIn K cd_RunFailed_init "RunFailed.__init__" = true)
    (k_RunFailed_init : PySem.W.keepIn K (.ref RunFailed_init) = true)
    (tf_RunFailed : PySem.W.typeIn K (.ref RunFailed_init) = some (.type "function"))
    (a_law_tape : PySem.W.nsIn K mainGlobals "_law_tape" = some (some (.ref law_tape)))
    (l_law_tape : K.lookup law_tape = some ⟨oc_law_tape, od_law_tape, .func (PySem.W.fnOf "_law_tape" "_law_tape" (defArgs s_law_tape) (defBody s_law_tape) (defScope s_law_tape) .none kV_law_tape dc_law_tape pm_law_tape an_law_tape cd_law_tape ct_law_tape), sl_law_tape⟩)
    (c_law_tape : PySem.W.codeIn K cd_law_tape "_law_tape" = true)
    (k_law_tape : PySem.W.keepIn K (.ref law_tape) = true)
    (a_law_draw : PySem.W.nsIn K mainGlobals "_law_draw" = some (some (.ref law_draw)))
    (l_law_draw : K.lookup law_draw = some ⟨oc_law_draw, od_law_draw, .func (PySem.W.fnOf "_law_draw" "_law_draw" (defArgs s_law_draw) (defBody s_law_draw) (defScope s_law_draw) .none kV_law_draw dc_law_draw pm_law_draw an_law_draw cd_law_draw ct_law_draw), sl_law_draw⟩)
    (c_law_draw : PySem.W.codeIn K cd_law_draw "_law_draw" = true)
    (k_law_draw : PySem.W.keepIn K (.ref law_draw) = true)
    (a_law_made_errors : PySem.W.nsIn K mainGlobals "_law_made_errors" = some (some (.ref law_made_errors)))
    (l_law_made_errors : K.lookup law_made_errors = some ⟨oc_law_made_errors, od_law_made_errors, .func (PySem.W.fnOf "_law_made_errors" "_law_made_errors" (defArgs s_law_made_errors) (defBody s_law_made_errors) (defScope s_law_made_errors) .none kV_law_made_errors dc_law_made_errors pm_law_made_errors an_law_made_errors cd_law_made_errors ct_law_made_errors), sl_law_made_errors⟩)
    (c_law_made_errors : PySem.W.codeIn K cd_law_made_errors "_law_made_errors" = true)
    (k_law_made_errors : PySem.W.keepIn K (.ref law_made_errors) = true)
    (a_law_kinds_of : PySem.W.nsIn K mainGlobals "_law_kinds_of" = some (some (.ref law_kinds_of)))
    (l_law_kinds_of : K.lookup law_kinds_of = some ⟨oc_law_kinds_of, od_law_kinds_of, .func (PySem.W.fnOf "_law_kinds_of" "_law_kinds_of" (defArgs s_law_kinds_of) (defBody s_law_kinds_of) (defScope s_law_kinds_of) .none kV_law_kinds_of dc_law_kinds_of pm_law_kinds_of an_law_kinds_of cd_law_kinds_of ct_law_kinds_of), sl_law_kinds_of⟩)
    (c_law_kinds_of : PySem.W.codeIn K cd_law_kinds_of "_law_kinds_of" = true)
    (k_law_kinds_of : PySem.W.keepIn K (.ref law_kinds_of) = true)
    (a_law_above : PySem.W.nsIn K mainGlobals "_law_above" = some (some (.ref law_above)))
    (l_law_above : K.lookup law_above = some ⟨oc_law_above, od_law_above, .func (PySem.W.fnOf "_law_above" "_law_above" (defArgs s_law_above) (defBody s_law_above) (defScope s_law_above) .none kV_law_above dc_law_above pm_law_above an_law_above cd_law_above ct_law_above), sl_law_above⟩)
    (c_law_above : PySem.W.codeIn K cd_law_above "_law_above" = true)
    (k_law_above : PySem.W.keepIn K (.ref law_above) = true)
    (a_law : PySem.W.nsIn K mainGlobals "law" = some (some (.ref law)))
    (l_law : K.lookup law = some ⟨oc_law, od_law, .func (PySem.W.fnOf "law" "law" (defArgs s_law) (defBody s_law) (defScope s_law) .none kV_law dc_law pm_law an_law cd_law ct_law), sl_law⟩)
    (c_law : PySem.W.codeIn K cd_law "law" = true)
    (k_law : PySem.W.keepIn K (.ref law) = true)
    (z_ArithmeticError : PySem.W.nsIn K mainGlobals "ArithmeticError" = some none)
    (z_KeyError : PySem.W.nsIn K mainGlobals "KeyError" = some none)
    (z_OverflowError : PySem.W.nsIn K mainGlobals "OverflowError" = some none)
    (z_RuntimeError : PySem.W.nsIn K mainGlobals "RuntimeError" = some none)
    (z_ValueError : PySem.W.nsIn K mainGlobals "ValueError" = some none)
    (z_enumerate : PySem.W.nsIn K mainGlobals "enumerate" = some none)
    (z_isinstance : PySem.W.nsIn K mainGlobals "isinstance" = some none)
    (z_len : PySem.W.nsIn K mainGlobals "len" = some none)
    (z_list : PySem.W.nsIn K mainGlobals "list" = some none)
    (z_range : PySem.W.nsIn K mainGlobals "range" = some none)
    (z_repr : PySem.W.nsIn K mainGlobals "repr" = some none)
    (a_CE : PySem.W.nsIn K mainGlobals "CarpetError" = some (some (.ref C_CarpetError)))
    (kr_InvalidNet_InvalidNet : PySem.W.kitOne K (.ref C_InvalidNet) (.ref C_InvalidNet) = some true)
    (kr_InvalidNet_InvalidPlace : PySem.W.kitOne K (.ref C_InvalidNet) (.ref C_InvalidPlace) = some false)
    (kr_InvalidNet_InvalidMotion : PySem.W.kitOne K (.ref C_InvalidNet) (.ref C_InvalidMotion) = some false)
    (kr_InvalidNet_InvalidRows : PySem.W.kitOne K (.ref C_InvalidNet) (.ref C_InvalidRows) = some false)
    (kr_InvalidNet_InvalidColour : PySem.W.kitOne K (.ref C_InvalidNet) (.ref C_InvalidColour) = some false)
    (kr_InvalidNet_InvalidTable : PySem.W.kitOne K (.ref C_InvalidNet) (.ref C_InvalidTable) = some false)
    (kr_InvalidNet_InvalidNumber : PySem.W.kitOne K (.ref C_InvalidNet) (.ref C_InvalidNumber) = some false)
    (kr_InvalidNet_InvalidObservation : PySem.W.kitOne K (.ref C_InvalidNet) (.ref C_InvalidObservation) = some false)
    (kr_InvalidNet_InvalidText : PySem.W.kitOne K (.ref C_InvalidNet) (.ref C_InvalidText) = some false)
    (kr_InvalidNet_InvalidCommand : PySem.W.kitOne K (.ref C_InvalidNet) (.ref C_InvalidCommand) = some false)
    (kr_InvalidNet_LimitExceeded : PySem.W.kitOne K (.ref C_InvalidNet) (.ref C_LimitExceeded) = some false)
    (kr_InvalidNet_NothingToUndo : PySem.W.kitOne K (.ref C_InvalidNet) (.ref C_NothingToUndo) = some false)
    (kr_InvalidNet_UnknownName : PySem.W.kitOne K (.ref C_InvalidNet) (.ref C_UnknownName) = some false)
    (kr_InvalidNet_RunFailed : PySem.W.kitOne K (.ref C_InvalidNet) (.ref C_RunFailed) = some false)
    (kt_InvalidNet_CE : PySem.W.kitOne K (.ref C_InvalidNet) (.ref C_CarpetError) = some true)
    (kt_InvalidNet_ValueError : PySem.W.kitOne K (.ref C_InvalidNet) (.type "ValueError") = some true)
    (kt_InvalidNet_OverflowError : PySem.W.kitOne K (.ref C_InvalidNet) (.type "OverflowError") = some false)
    (kt_InvalidNet_RuntimeError : PySem.W.kitOne K (.ref C_InvalidNet) (.type "RuntimeError") = some false)
    (kt_InvalidNet_KeyError : PySem.W.kitOne K (.ref C_InvalidNet) (.type "KeyError") = some false)
    (kt_InvalidNet_ArithmeticError : PySem.W.kitOne K (.ref C_InvalidNet) (.type "ArithmeticError") = some false)
    (kr_InvalidPlace_InvalidNet : PySem.W.kitOne K (.ref C_InvalidPlace) (.ref C_InvalidNet) = some false)
    (kr_InvalidPlace_InvalidPlace : PySem.W.kitOne K (.ref C_InvalidPlace) (.ref C_InvalidPlace) = some true)
    (kr_InvalidPlace_InvalidMotion : PySem.W.kitOne K (.ref C_InvalidPlace) (.ref C_InvalidMotion) = some false)
    (kr_InvalidPlace_InvalidRows : PySem.W.kitOne K (.ref C_InvalidPlace) (.ref C_InvalidRows) = some false)
    (kr_InvalidPlace_InvalidColour : PySem.W.kitOne K (.ref C_InvalidPlace) (.ref C_InvalidColour) = some false)
    (kr_InvalidPlace_InvalidTable : PySem.W.kitOne K (.ref C_InvalidPlace) (.ref C_InvalidTable) = some false)
    (kr_InvalidPlace_InvalidNumber : PySem.W.kitOne K (.ref C_InvalidPlace) (.ref C_InvalidNumber) = some false)
    (kr_InvalidPlace_InvalidObservation : PySem.W.kitOne K (.ref C_InvalidPlace) (.ref C_InvalidObservation) = some false)
    (kr_InvalidPlace_InvalidText : PySem.W.kitOne K (.ref C_InvalidPlace) (.ref C_InvalidText) = some false)
    (kr_InvalidPlace_InvalidCommand : PySem.W.kitOne K (.ref C_InvalidPlace) (.ref C_InvalidCommand) = some false)
    (kr_InvalidPlace_LimitExceeded : PySem.W.kitOne K (.ref C_InvalidPlace) (.ref C_LimitExceeded) = some false)
    (kr_InvalidPlace_NothingToUndo : PySem.W.kitOne K (.ref C_InvalidPlace) (.ref C_NothingToUndo) = some false)
    (kr_InvalidPlace_UnknownName : PySem.W.kitOne K (.ref C_InvalidPlace) (.ref C_UnknownName) = some false)
    (kr_InvalidPlace_RunFailed : PySem.W.kitOne K (.ref C_InvalidPlace) (.ref C_RunFailed) = some false)
    (kt_InvalidPlace_CE : PySem.W.kitOne K (.ref C_InvalidPlace) (.ref C_CarpetError) = some true)
    (kt_InvalidPlace_ValueError : PySem.W.kitOne K (.ref C_InvalidPlace) (.type "ValueError") = some true)
    (kt_InvalidPlace_OverflowError : PySem.W.kitOne K (.ref C_InvalidPlace) (.type "OverflowError") = some false)
    (kt_InvalidPlace_RuntimeError : PySem.W.kitOne K (.ref C_InvalidPlace) (.type "RuntimeError") = some false)
    (kt_InvalidPlace_KeyError : PySem.W.kitOne K (.ref C_InvalidPlace) (.type "KeyError") = some false)
    (kt_InvalidPlace_ArithmeticError : PySem.W.kitOne K (.ref C_InvalidPlace) (.type "ArithmeticError") = some false)
    (kr_InvalidMotion_InvalidNet : PySem.W.kitOne K (.ref C_InvalidMotion) (.ref C_InvalidNet) = some false)
    (kr_InvalidMotion_InvalidPlace : PySem.W.kitOne K (.ref C_InvalidMotion) (.ref C_InvalidPlace) = some false)
    (kr_InvalidMotion_InvalidMotion : PySem.W.kitOne K (.ref C_InvalidMotion) (.ref C_InvalidMotion) = some true)
    (kr_InvalidMotion_InvalidRows : PySem.W.kitOne K (.ref C_InvalidMotion) (.ref C_InvalidRows) = some false)
    (kr_InvalidMotion_InvalidColour : PySem.W.kitOne K (.ref C_InvalidMotion) (.ref C_InvalidColour) = some false)
    (kr_InvalidMotion_InvalidTable : PySem.W.kitOne K (.ref C_InvalidMotion) (.ref C_InvalidTable) = some false)
    (kr_InvalidMotion_InvalidNumber : PySem.W.kitOne K (.ref C_InvalidMotion) (.ref C_InvalidNumber) = some false)
    (kr_InvalidMotion_InvalidObservation : PySem.W.kitOne K (.ref C_InvalidMotion) (.ref C_InvalidObservation) = some false)
    (kr_InvalidMotion_InvalidText : PySem.W.kitOne K (.ref C_InvalidMotion) (.ref C_InvalidText) = some false)
    (kr_InvalidMotion_InvalidCommand : PySem.W.kitOne K (.ref C_InvalidMotion) (.ref C_InvalidCommand) = some false)
    (kr_InvalidMotion_LimitExceeded : PySem.W.kitOne K (.ref C_InvalidMotion) (.ref C_LimitExceeded) = some false)
    (kr_InvalidMotion_NothingToUndo : PySem.W.kitOne K (.ref C_InvalidMotion) (.ref C_NothingToUndo) = some false)
    (kr_InvalidMotion_UnknownName : PySem.W.kitOne K (.ref C_InvalidMotion) (.ref C_UnknownName) = some false)
    (kr_InvalidMotion_RunFailed : PySem.W.kitOne K (.ref C_InvalidMotion) (.ref C_RunFailed) = some false)
    (kt_InvalidMotion_CE : PySem.W.kitOne K (.ref C_InvalidMotion) (.ref C_CarpetError) = some true)
    (kt_InvalidMotion_ValueError : PySem.W.kitOne K (.ref C_InvalidMotion) (.type "ValueError") = some true)
    (kt_InvalidMotion_OverflowError : PySem.W.kitOne K (.ref C_InvalidMotion) (.type "OverflowError") = some false)
    (kt_InvalidMotion_RuntimeError : PySem.W.kitOne K (.ref C_InvalidMotion) (.type "RuntimeError") = some false)
    (kt_InvalidMotion_KeyError : PySem.W.kitOne K (.ref C_InvalidMotion) (.type "KeyError") = some false)
    (kt_InvalidMotion_ArithmeticError : PySem.W.kitOne K (.ref C_InvalidMotion) (.type "ArithmeticError") = some false)
    (kr_InvalidRows_InvalidNet : PySem.W.kitOne K (.ref C_InvalidRows) (.ref C_InvalidNet) = some false)
    (kr_InvalidRows_InvalidPlace : PySem.W.kitOne K (.ref C_InvalidRows) (.ref C_InvalidPlace) = some false)
    (kr_InvalidRows_InvalidMotion : PySem.W.kitOne K (.ref C_InvalidRows) (.ref C_InvalidMotion) = some false)
    (kr_InvalidRows_InvalidRows : PySem.W.kitOne K (.ref C_InvalidRows) (.ref C_InvalidRows) = some true)
    (kr_InvalidRows_InvalidColour : PySem.W.kitOne K (.ref C_InvalidRows) (.ref C_InvalidColour) = some false)
    (kr_InvalidRows_InvalidTable : PySem.W.kitOne K (.ref C_InvalidRows) (.ref C_InvalidTable) = some false)
    (kr_InvalidRows_InvalidNumber : PySem.W.kitOne K (.ref C_InvalidRows) (.ref C_InvalidNumber) = some false)
    (kr_InvalidRows_InvalidObservation : PySem.W.kitOne K (.ref C_InvalidRows) (.ref C_InvalidObservation) = some false)
    (kr_InvalidRows_InvalidText : PySem.W.kitOne K (.ref C_InvalidRows) (.ref C_InvalidText) = some false)
    (kr_InvalidRows_InvalidCommand : PySem.W.kitOne K (.ref C_InvalidRows) (.ref C_InvalidCommand) = some false)
    (kr_InvalidRows_LimitExceeded : PySem.W.kitOne K (.ref C_InvalidRows) (.ref C_LimitExceeded) = some false)
    (kr_InvalidRows_NothingToUndo : PySem.W.kitOne K (.ref C_InvalidRows) (.ref C_NothingToUndo) = some false)
    (kr_InvalidRows_UnknownName : PySem.W.kitOne K (.ref C_InvalidRows) (.ref C_UnknownName) = some false)
    (kr_InvalidRows_RunFailed : PySem.W.kitOne K (.ref C_InvalidRows) (.ref C_RunFailed) = some false)
    (kt_InvalidRows_CE : PySem.W.kitOne K (.ref C_InvalidRows) (.ref C_CarpetError) = some true)
    (kt_InvalidRows_ValueError : PySem.W.kitOne K (.ref C_InvalidRows) (.type "ValueError") = some true)
    (kt_InvalidRows_OverflowError : PySem.W.kitOne K (.ref C_InvalidRows) (.type "OverflowError") = some false)
    (kt_InvalidRows_RuntimeError : PySem.W.kitOne K (.ref C_InvalidRows) (.type "RuntimeError") = some false)
    (kt_InvalidRows_KeyError : PySem.W.kitOne K (.ref C_InvalidRows) (.type "KeyError") = some false)
    (kt_InvalidRows_ArithmeticError : PySem.W.kitOne K (.ref C_InvalidRows) (.type "ArithmeticError") = some false)
    (kr_InvalidColour_InvalidNet : PySem.W.kitOne K (.ref C_InvalidColour) (.ref C_InvalidNet) = some false)
    (kr_InvalidColour_InvalidPlace : PySem.W.kitOne K (.ref C_InvalidColour) (.ref C_InvalidPlace) = some false)
    (kr_InvalidColour_InvalidMotion : PySem.W.kitOne K (.ref C_InvalidColour) (.ref C_InvalidMotion) = some false)
    (kr_InvalidColour_InvalidRows : PySem.W.kitOne K (.ref C_InvalidColour) (.ref C_InvalidRows) = some false)
    (kr_InvalidColour_InvalidColour : PySem.W.kitOne K (.ref C_InvalidColour) (.ref C_InvalidColour) = some true)
    (kr_InvalidColour_InvalidTable : PySem.W.kitOne K (.ref C_InvalidColour) (.ref C_InvalidTable) = some false)
    (kr_InvalidColour_InvalidNumber : PySem.W.kitOne K (.ref C_InvalidColour) (.ref C_InvalidNumber) = some false)
    (kr_InvalidColour_InvalidObservation : PySem.W.kitOne K (.ref C_InvalidColour) (.ref C_InvalidObservation) = some false)
    (kr_InvalidColour_InvalidText : PySem.W.kitOne K (.ref C_InvalidColour) (.ref C_InvalidText) = some false)
    (kr_InvalidColour_InvalidCommand : PySem.W.kitOne K (.ref C_InvalidColour) (.ref C_InvalidCommand) = some false)
    (kr_InvalidColour_LimitExceeded : PySem.W.kitOne K (.ref C_InvalidColour) (.ref C_LimitExceeded) = some false)
    (kr_InvalidColour_NothingToUndo : PySem.W.kitOne K (.ref C_InvalidColour) (.ref C_NothingToUndo) = some false)
    (kr_InvalidColour_UnknownName : PySem.W.kitOne K (.ref C_InvalidColour) (.ref C_UnknownName) = some false)
    (kr_InvalidColour_RunFailed : PySem.W.kitOne K (.ref C_InvalidColour) (.ref C_RunFailed) = some false)
    (kt_InvalidColour_CE : PySem.W.kitOne K (.ref C_InvalidColour) (.ref C_CarpetError) = some true)
    (kt_InvalidColour_ValueError : PySem.W.kitOne K (.ref C_InvalidColour) (.type "ValueError") = some true)
    (kt_InvalidColour_OverflowError : PySem.W.kitOne K (.ref C_InvalidColour) (.type "OverflowError") = some false)
    (kt_InvalidColour_RuntimeError : PySem.W.kitOne K (.ref C_InvalidColour) (.type "RuntimeError") = some false)
    (kt_InvalidColour_KeyError : PySem.W.kitOne K (.ref C_InvalidColour) (.type "KeyError") = some false)
    (kt_InvalidColour_ArithmeticError : PySem.W.kitOne K (.ref C_InvalidColour) (.type "ArithmeticError") = some false)
    (kr_InvalidTable_InvalidNet : PySem.W.kitOne K (.ref C_InvalidTable) (.ref C_InvalidNet) = some false)
    (kr_InvalidTable_InvalidPlace : PySem.W.kitOne K (.ref C_InvalidTable) (.ref C_InvalidPlace) = some false)
    (kr_InvalidTable_InvalidMotion : PySem.W.kitOne K (.ref C_InvalidTable) (.ref C_InvalidMotion) = some false)
    (kr_InvalidTable_InvalidRows : PySem.W.kitOne K (.ref C_InvalidTable) (.ref C_InvalidRows) = some false)
    (kr_InvalidTable_InvalidColour : PySem.W.kitOne K (.ref C_InvalidTable) (.ref C_InvalidColour) = some false)
    (kr_InvalidTable_InvalidTable : PySem.W.kitOne K (.ref C_InvalidTable) (.ref C_InvalidTable) = some true)
    (kr_InvalidTable_InvalidNumber : PySem.W.kitOne K (.ref C_InvalidTable) (.ref C_InvalidNumber) = some false)
    (kr_InvalidTable_InvalidObservation : PySem.W.kitOne K (.ref C_InvalidTable) (.ref C_InvalidObservation) = some false)
    (kr_InvalidTable_InvalidText : PySem.W.kitOne K (.ref C_InvalidTable) (.ref C_InvalidText) = some false)
    (kr_InvalidTable_InvalidCommand : PySem.W.kitOne K (.ref C_InvalidTable) (.ref C_InvalidCommand) = some false)
    (kr_InvalidTable_LimitExceeded : PySem.W.kitOne K (.ref C_InvalidTable) (.ref C_LimitExceeded) = some false)
    (kr_InvalidTable_NothingToUndo : PySem.W.kitOne K (.ref C_InvalidTable) (.ref C_NothingToUndo) = some false)
    (kr_InvalidTable_UnknownName : PySem.W.kitOne K (.ref C_InvalidTable) (.ref C_UnknownName) = some false)
    (kr_InvalidTable_RunFailed : PySem.W.kitOne K (.ref C_InvalidTable) (.ref C_RunFailed) = some false)
    (kt_InvalidTable_CE : PySem.W.kitOne K (.ref C_InvalidTable) (.ref C_CarpetError) = some true)
    (kt_InvalidTable_ValueError : PySem.W.kitOne K (.ref C_InvalidTable) (.type "ValueError") = some true)
    (kt_InvalidTable_OverflowError : PySem.W.kitOne K (.ref C_InvalidTable) (.type "OverflowError") = some false)
    (kt_InvalidTable_RuntimeError : PySem.W.kitOne K (.ref C_InvalidTable) (.type "RuntimeError") = some false)
    (kt_InvalidTable_KeyError : PySem.W.kitOne K (.ref C_InvalidTable) (.type "KeyError") = some false)
    (kt_InvalidTable_ArithmeticError : PySem.W.kitOne K (.ref C_InvalidTable) (.type "ArithmeticError") = some false)
    (kr_InvalidNumber_InvalidNet : PySem.W.kitOne K (.ref C_InvalidNumber) (.ref C_InvalidNet) = some false)
    (kr_InvalidNumber_InvalidPlace : PySem.W.kitOne K (.ref C_InvalidNumber) (.ref C_InvalidPlace) = some false)
    (kr_InvalidNumber_InvalidMotion : PySem.W.kitOne K (.ref C_InvalidNumber) (.ref C_InvalidMotion) = some false)
    (kr_InvalidNumber_InvalidRows : PySem.W.kitOne K (.ref C_InvalidNumber) (.ref C_InvalidRows) = some false)
    (kr_InvalidNumber_InvalidColour : PySem.W.kitOne K (.ref C_InvalidNumber) (.ref C_InvalidColour) = some false)
    (kr_InvalidNumber_InvalidTable : PySem.W.kitOne K (.ref C_InvalidNumber) (.ref C_InvalidTable) = some false)
    (kr_InvalidNumber_InvalidNumber : PySem.W.kitOne K (.ref C_InvalidNumber) (.ref C_InvalidNumber) = some true)
    (kr_InvalidNumber_InvalidObservation : PySem.W.kitOne K (.ref C_InvalidNumber) (.ref C_InvalidObservation) = some false)
    (kr_InvalidNumber_InvalidText : PySem.W.kitOne K (.ref C_InvalidNumber) (.ref C_InvalidText) = some false)
    (kr_InvalidNumber_InvalidCommand : PySem.W.kitOne K (.ref C_InvalidNumber) (.ref C_InvalidCommand) = some false)
    (kr_InvalidNumber_LimitExceeded : PySem.W.kitOne K (.ref C_InvalidNumber) (.ref C_LimitExceeded) = some false)
    (kr_InvalidNumber_NothingToUndo : PySem.W.kitOne K (.ref C_InvalidNumber) (.ref C_NothingToUndo) = some false)
    (kr_InvalidNumber_UnknownName : PySem.W.kitOne K (.ref C_InvalidNumber) (.ref C_UnknownName) = some false)
    (kr_InvalidNumber_RunFailed : PySem.W.kitOne K (.ref C_InvalidNumber) (.ref C_RunFailed) = some false)
    (kt_InvalidNumber_CE : PySem.W.kitOne K (.ref C_InvalidNumber) (.ref C_CarpetError) = some true)
    (kt_InvalidNumber_ValueError : PySem.W.kitOne K (.ref C_InvalidNumber) (.type "ValueError") = some true)
    (kt_InvalidNumber_OverflowError : PySem.W.kitOne K (.ref C_InvalidNumber) (.type "OverflowError") = some false)
    (kt_InvalidNumber_RuntimeError : PySem.W.kitOne K (.ref C_InvalidNumber) (.type "RuntimeError") = some false)
    (kt_InvalidNumber_KeyError : PySem.W.kitOne K (.ref C_InvalidNumber) (.type "KeyError") = some false)
    (kt_InvalidNumber_ArithmeticError : PySem.W.kitOne K (.ref C_InvalidNumber) (.type "ArithmeticError") = some false)
    (kr_InvalidObservation_InvalidNet : PySem.W.kitOne K (.ref C_InvalidObservation) (.ref C_InvalidNet) = some false)
    (kr_InvalidObservation_InvalidPlace : PySem.W.kitOne K (.ref C_InvalidObservation) (.ref C_InvalidPlace) = some false)
    (kr_InvalidObservation_InvalidMotion : PySem.W.kitOne K (.ref C_InvalidObservation) (.ref C_InvalidMotion) = some false)
    (kr_InvalidObservation_InvalidRows : PySem.W.kitOne K (.ref C_InvalidObservation) (.ref C_InvalidRows) = some false)
    (kr_InvalidObservation_InvalidColour : PySem.W.kitOne K (.ref C_InvalidObservation) (.ref C_InvalidColour) = some false)
    (kr_InvalidObservation_InvalidTable : PySem.W.kitOne K (.ref C_InvalidObservation) (.ref C_InvalidTable) = some false)
    (kr_InvalidObservation_InvalidNumber : PySem.W.kitOne K (.ref C_InvalidObservation) (.ref C_InvalidNumber) = some false)
    (kr_InvalidObservation_InvalidObservation : PySem.W.kitOne K (.ref C_InvalidObservation) (.ref C_InvalidObservation) = some true)
    (kr_InvalidObservation_InvalidText : PySem.W.kitOne K (.ref C_InvalidObservation) (.ref C_InvalidText) = some false)
    (kr_InvalidObservation_InvalidCommand : PySem.W.kitOne K (.ref C_InvalidObservation) (.ref C_InvalidCommand) = some false)
    (kr_InvalidObservation_LimitExceeded : PySem.W.kitOne K (.ref C_InvalidObservation) (.ref C_LimitExceeded) = some false)
    (kr_InvalidObservation_NothingToUndo : PySem.W.kitOne K (.ref C_InvalidObservation) (.ref C_NothingToUndo) = some false)
    (kr_InvalidObservation_UnknownName : PySem.W.kitOne K (.ref C_InvalidObservation) (.ref C_UnknownName) = some false)
    (kr_InvalidObservation_RunFailed : PySem.W.kitOne K (.ref C_InvalidObservation) (.ref C_RunFailed) = some false)
    (kt_InvalidObservation_CE : PySem.W.kitOne K (.ref C_InvalidObservation) (.ref C_CarpetError) = some true)
    (kt_InvalidObservation_ValueError : PySem.W.kitOne K (.ref C_InvalidObservation) (.type "ValueError") = some true)
    (kt_InvalidObservation_OverflowError : PySem.W.kitOne K (.ref C_InvalidObservation) (.type "OverflowError") = some false)
    (kt_InvalidObservation_RuntimeError : PySem.W.kitOne K (.ref C_InvalidObservation) (.type "RuntimeError") = some false)
    (kt_InvalidObservation_KeyError : PySem.W.kitOne K (.ref C_InvalidObservation) (.type "KeyError") = some false)
    (kt_InvalidObservation_ArithmeticError : PySem.W.kitOne K (.ref C_InvalidObservation) (.type "ArithmeticError") = some false)
    (kr_InvalidText_InvalidNet : PySem.W.kitOne K (.ref C_InvalidText) (.ref C_InvalidNet) = some false)
    (kr_InvalidText_InvalidPlace : PySem.W.kitOne K (.ref C_InvalidText) (.ref C_InvalidPlace) = some false)
    (kr_InvalidText_InvalidMotion : PySem.W.kitOne K (.ref C_InvalidText) (.ref C_InvalidMotion) = some false)
    (kr_InvalidText_InvalidRows : PySem.W.kitOne K (.ref C_InvalidText) (.ref C_InvalidRows) = some false)
    (kr_InvalidText_InvalidColour : PySem.W.kitOne K (.ref C_InvalidText) (.ref C_InvalidColour) = some false)
    (kr_InvalidText_InvalidTable : PySem.W.kitOne K (.ref C_InvalidText) (.ref C_InvalidTable) = some false)
    (kr_InvalidText_InvalidNumber : PySem.W.kitOne K (.ref C_InvalidText) (.ref C_InvalidNumber) = some false)
    (kr_InvalidText_InvalidObservation : PySem.W.kitOne K (.ref C_InvalidText) (.ref C_InvalidObservation) = some false)
    (kr_InvalidText_InvalidText : PySem.W.kitOne K (.ref C_InvalidText) (.ref C_InvalidText) = some true)
    (kr_InvalidText_InvalidCommand : PySem.W.kitOne K (.ref C_InvalidText) (.ref C_InvalidCommand) = some false)
    (kr_InvalidText_LimitExceeded : PySem.W.kitOne K (.ref C_InvalidText) (.ref C_LimitExceeded) = some false)
    (kr_InvalidText_NothingToUndo : PySem.W.kitOne K (.ref C_InvalidText) (.ref C_NothingToUndo) = some false)
    (kr_InvalidText_UnknownName : PySem.W.kitOne K (.ref C_InvalidText) (.ref C_UnknownName) = some false)
    (kr_InvalidText_RunFailed : PySem.W.kitOne K (.ref C_InvalidText) (.ref C_RunFailed) = some false)
    (kt_InvalidText_CE : PySem.W.kitOne K (.ref C_InvalidText) (.ref C_CarpetError) = some true)
    (kt_InvalidText_ValueError : PySem.W.kitOne K (.ref C_InvalidText) (.type "ValueError") = some true)
    (kt_InvalidText_OverflowError : PySem.W.kitOne K (.ref C_InvalidText) (.type "OverflowError") = some false)
    (kt_InvalidText_RuntimeError : PySem.W.kitOne K (.ref C_InvalidText) (.type "RuntimeError") = some false)
    (kt_InvalidText_KeyError : PySem.W.kitOne K (.ref C_InvalidText) (.type "KeyError") = some false)
    (kt_InvalidText_ArithmeticError : PySem.W.kitOne K (.ref C_InvalidText) (.type "ArithmeticError") = some false)
    (kr_InvalidCommand_InvalidNet : PySem.W.kitOne K (.ref C_InvalidCommand) (.ref C_InvalidNet) = some false)
    (kr_InvalidCommand_InvalidPlace : PySem.W.kitOne K (.ref C_InvalidCommand) (.ref C_InvalidPlace) = some false)
    (kr_InvalidCommand_InvalidMotion : PySem.W.kitOne K (.ref C_InvalidCommand) (.ref C_InvalidMotion) = some false)
    (kr_InvalidCommand_InvalidRows : PySem.W.kitOne K (.ref C_InvalidCommand) (.ref C_InvalidRows) = some false)
    (kr_InvalidCommand_InvalidColour : PySem.W.kitOne K (.ref C_InvalidCommand) (.ref C_InvalidColour) = some false)
    (kr_InvalidCommand_InvalidTable : PySem.W.kitOne K (.ref C_InvalidCommand) (.ref C_InvalidTable) = some false)
    (kr_InvalidCommand_InvalidNumber : PySem.W.kitOne K (.ref C_InvalidCommand) (.ref C_InvalidNumber) = some false)
    (kr_InvalidCommand_InvalidObservation : PySem.W.kitOne K (.ref C_InvalidCommand) (.ref C_InvalidObservation) = some false)
    (kr_InvalidCommand_InvalidText : PySem.W.kitOne K (.ref C_InvalidCommand) (.ref C_InvalidText) = some false)
    (kr_InvalidCommand_InvalidCommand : PySem.W.kitOne K (.ref C_InvalidCommand) (.ref C_InvalidCommand) = some true)
    (kr_InvalidCommand_LimitExceeded : PySem.W.kitOne K (.ref C_InvalidCommand) (.ref C_LimitExceeded) = some false)
    (kr_InvalidCommand_NothingToUndo : PySem.W.kitOne K (.ref C_InvalidCommand) (.ref C_NothingToUndo) = some false)
    (kr_InvalidCommand_UnknownName : PySem.W.kitOne K (.ref C_InvalidCommand) (.ref C_UnknownName) = some false)
    (kr_InvalidCommand_RunFailed : PySem.W.kitOne K (.ref C_InvalidCommand) (.ref C_RunFailed) = some false)
    (kt_InvalidCommand_CE : PySem.W.kitOne K (.ref C_InvalidCommand) (.ref C_CarpetError) = some true)
    (kt_InvalidCommand_ValueError : PySem.W.kitOne K (.ref C_InvalidCommand) (.type "ValueError") = some true)
    (kt_InvalidCommand_OverflowError : PySem.W.kitOne K (.ref C_InvalidCommand) (.type "OverflowError") = some false)
    (kt_InvalidCommand_RuntimeError : PySem.W.kitOne K (.ref C_InvalidCommand) (.type "RuntimeError") = some false)
    (kt_InvalidCommand_KeyError : PySem.W.kitOne K (.ref C_InvalidCommand) (.type "KeyError") = some false)
    (kt_InvalidCommand_ArithmeticError : PySem.W.kitOne K (.ref C_InvalidCommand) (.type "ArithmeticError") = some false)
    (kr_LimitExceeded_InvalidNet : PySem.W.kitOne K (.ref C_LimitExceeded) (.ref C_InvalidNet) = some false)
    (kr_LimitExceeded_InvalidPlace : PySem.W.kitOne K (.ref C_LimitExceeded) (.ref C_InvalidPlace) = some false)
    (kr_LimitExceeded_InvalidMotion : PySem.W.kitOne K (.ref C_LimitExceeded) (.ref C_InvalidMotion) = some false)
    (kr_LimitExceeded_InvalidRows : PySem.W.kitOne K (.ref C_LimitExceeded) (.ref C_InvalidRows) = some false)
    (kr_LimitExceeded_InvalidColour : PySem.W.kitOne K (.ref C_LimitExceeded) (.ref C_InvalidColour) = some false)
    (kr_LimitExceeded_InvalidTable : PySem.W.kitOne K (.ref C_LimitExceeded) (.ref C_InvalidTable) = some false)
    (kr_LimitExceeded_InvalidNumber : PySem.W.kitOne K (.ref C_LimitExceeded) (.ref C_InvalidNumber) = some false)
    (kr_LimitExceeded_InvalidObservation : PySem.W.kitOne K (.ref C_LimitExceeded) (.ref C_InvalidObservation) = some false)
    (kr_LimitExceeded_InvalidText : PySem.W.kitOne K (.ref C_LimitExceeded) (.ref C_InvalidText) = some false)
    (kr_LimitExceeded_InvalidCommand : PySem.W.kitOne K (.ref C_LimitExceeded) (.ref C_InvalidCommand) = some false)
    (kr_LimitExceeded_LimitExceeded : PySem.W.kitOne K (.ref C_LimitExceeded) (.ref C_LimitExceeded) = some true)
    (kr_LimitExceeded_NothingToUndo : PySem.W.kitOne K (.ref C_LimitExceeded) (.ref C_NothingToUndo) = some false)
    (kr_LimitExceeded_UnknownName : PySem.W.kitOne K (.ref C_LimitExceeded) (.ref C_UnknownName) = some false)
    (kr_LimitExceeded_RunFailed : PySem.W.kitOne K (.ref C_LimitExceeded) (.ref C_RunFailed) = some false)
    (kt_LimitExceeded_CE : PySem.W.kitOne K (.ref C_LimitExceeded) (.ref C_CarpetError) = some false)
    (kt_LimitExceeded_ValueError : PySem.W.kitOne K (.ref C_LimitExceeded) (.type "ValueError") = some false)
    (kt_LimitExceeded_OverflowError : PySem.W.kitOne K (.ref C_LimitExceeded) (.type "OverflowError") = some true)
    (kt_LimitExceeded_RuntimeError : PySem.W.kitOne K (.ref C_LimitExceeded) (.type "RuntimeError") = some false)
    (kt_LimitExceeded_KeyError : PySem.W.kitOne K (.ref C_LimitExceeded) (.type "KeyError") = some false)
    (kt_LimitExceeded_ArithmeticError : PySem.W.kitOne K (.ref C_LimitExceeded) (.type "ArithmeticError") = some true)
    (kr_NothingToUndo_InvalidNet : PySem.W.kitOne K (.ref C_NothingToUndo) (.ref C_InvalidNet) = some false)
    (kr_NothingToUndo_InvalidPlace : PySem.W.kitOne K (.ref C_NothingToUndo) (.ref C_InvalidPlace) = some false)
    (kr_NothingToUndo_InvalidMotion : PySem.W.kitOne K (.ref C_NothingToUndo) (.ref C_InvalidMotion) = some false)
    (kr_NothingToUndo_InvalidRows : PySem.W.kitOne K (.ref C_NothingToUndo) (.ref C_InvalidRows) = some false)
    (kr_NothingToUndo_InvalidColour : PySem.W.kitOne K (.ref C_NothingToUndo) (.ref C_InvalidColour) = some false)
    (kr_NothingToUndo_InvalidTable : PySem.W.kitOne K (.ref C_NothingToUndo) (.ref C_InvalidTable) = some false)
    (kr_NothingToUndo_InvalidNumber : PySem.W.kitOne K (.ref C_NothingToUndo) (.ref C_InvalidNumber) = some false)
    (kr_NothingToUndo_InvalidObservation : PySem.W.kitOne K (.ref C_NothingToUndo) (.ref C_InvalidObservation) = some false)
    (kr_NothingToUndo_InvalidText : PySem.W.kitOne K (.ref C_NothingToUndo) (.ref C_InvalidText) = some false)
    (kr_NothingToUndo_InvalidCommand : PySem.W.kitOne K (.ref C_NothingToUndo) (.ref C_InvalidCommand) = some false)
    (kr_NothingToUndo_LimitExceeded : PySem.W.kitOne K (.ref C_NothingToUndo) (.ref C_LimitExceeded) = some false)
    (kr_NothingToUndo_NothingToUndo : PySem.W.kitOne K (.ref C_NothingToUndo) (.ref C_NothingToUndo) = some true)
    (kr_NothingToUndo_UnknownName : PySem.W.kitOne K (.ref C_NothingToUndo) (.ref C_UnknownName) = some false)
    (kr_NothingToUndo_RunFailed : PySem.W.kitOne K (.ref C_NothingToUndo) (.ref C_RunFailed) = some false)
    (kt_NothingToUndo_CE : PySem.W.kitOne K (.ref C_NothingToUndo) (.ref C_CarpetError) = some false)
    (kt_NothingToUndo_ValueError : PySem.W.kitOne K (.ref C_NothingToUndo) (.type "ValueError") = some false)
    (kt_NothingToUndo_OverflowError : PySem.W.kitOne K (.ref C_NothingToUndo) (.type "OverflowError") = some false)
    (kt_NothingToUndo_RuntimeError : PySem.W.kitOne K (.ref C_NothingToUndo) (.type "RuntimeError") = some true)
    (kt_NothingToUndo_KeyError : PySem.W.kitOne K (.ref C_NothingToUndo) (.type "KeyError") = some false)
    (kt_NothingToUndo_ArithmeticError : PySem.W.kitOne K (.ref C_NothingToUndo) (.type "ArithmeticError") = some false)
    (kr_UnknownName_InvalidNet : PySem.W.kitOne K (.ref C_UnknownName) (.ref C_InvalidNet) = some false)
    (kr_UnknownName_InvalidPlace : PySem.W.kitOne K (.ref C_UnknownName) (.ref C_InvalidPlace) = some false)
    (kr_UnknownName_InvalidMotion : PySem.W.kitOne K (.ref C_UnknownName) (.ref C_InvalidMotion) = some false)
    (kr_UnknownName_InvalidRows : PySem.W.kitOne K (.ref C_UnknownName) (.ref C_InvalidRows) = some false)
    (kr_UnknownName_InvalidColour : PySem.W.kitOne K (.ref C_UnknownName) (.ref C_InvalidColour) = some false)
    (kr_UnknownName_InvalidTable : PySem.W.kitOne K (.ref C_UnknownName) (.ref C_InvalidTable) = some false)
    (kr_UnknownName_InvalidNumber : PySem.W.kitOne K (.ref C_UnknownName) (.ref C_InvalidNumber) = some false)
    (kr_UnknownName_InvalidObservation : PySem.W.kitOne K (.ref C_UnknownName) (.ref C_InvalidObservation) = some false)
    (kr_UnknownName_InvalidText : PySem.W.kitOne K (.ref C_UnknownName) (.ref C_InvalidText) = some false)
    (kr_UnknownName_InvalidCommand : PySem.W.kitOne K (.ref C_UnknownName) (.ref C_InvalidCommand) = some false)
    (kr_UnknownName_LimitExceeded : PySem.W.kitOne K (.ref C_UnknownName) (.ref C_LimitExceeded) = some false)
    (kr_UnknownName_NothingToUndo : PySem.W.kitOne K (.ref C_UnknownName) (.ref C_NothingToUndo) = some false)
    (kr_UnknownName_UnknownName : PySem.W.kitOne K (.ref C_UnknownName) (.ref C_UnknownName) = some true)
    (kr_UnknownName_RunFailed : PySem.W.kitOne K (.ref C_UnknownName) (.ref C_RunFailed) = some false)
    (kt_UnknownName_CE : PySem.W.kitOne K (.ref C_UnknownName) (.ref C_CarpetError) = some false)
    (kt_UnknownName_ValueError : PySem.W.kitOne K (.ref C_UnknownName) (.type "ValueError") = some false)
    (kt_UnknownName_OverflowError : PySem.W.kitOne K (.ref C_UnknownName) (.type "OverflowError") = some false)
    (kt_UnknownName_RuntimeError : PySem.W.kitOne K (.ref C_UnknownName) (.type "RuntimeError") = some false)
    (kt_UnknownName_KeyError : PySem.W.kitOne K (.ref C_UnknownName) (.type "KeyError") = some true)
    (kt_UnknownName_ArithmeticError : PySem.W.kitOne K (.ref C_UnknownName) (.type "ArithmeticError") = some false)
    (kr_RunFailed_InvalidNet : PySem.W.kitOne K (.ref C_RunFailed) (.ref C_InvalidNet) = some false)
    (kr_RunFailed_InvalidPlace : PySem.W.kitOne K (.ref C_RunFailed) (.ref C_InvalidPlace) = some false)
    (kr_RunFailed_InvalidMotion : PySem.W.kitOne K (.ref C_RunFailed) (.ref C_InvalidMotion) = some false)
    (kr_RunFailed_InvalidRows : PySem.W.kitOne K (.ref C_RunFailed) (.ref C_InvalidRows) = some false)
    (kr_RunFailed_InvalidColour : PySem.W.kitOne K (.ref C_RunFailed) (.ref C_InvalidColour) = some false)
    (kr_RunFailed_InvalidTable : PySem.W.kitOne K (.ref C_RunFailed) (.ref C_InvalidTable) = some false)
    (kr_RunFailed_InvalidNumber : PySem.W.kitOne K (.ref C_RunFailed) (.ref C_InvalidNumber) = some false)
    (kr_RunFailed_InvalidObservation : PySem.W.kitOne K (.ref C_RunFailed) (.ref C_InvalidObservation) = some false)
    (kr_RunFailed_InvalidText : PySem.W.kitOne K (.ref C_RunFailed) (.ref C_InvalidText) = some false)
    (kr_RunFailed_InvalidCommand : PySem.W.kitOne K (.ref C_RunFailed) (.ref C_InvalidCommand) = some false)
    (kr_RunFailed_LimitExceeded : PySem.W.kitOne K (.ref C_RunFailed) (.ref C_LimitExceeded) = some false)
    (kr_RunFailed_NothingToUndo : PySem.W.kitOne K (.ref C_RunFailed) (.ref C_NothingToUndo) = some false)
    (kr_RunFailed_UnknownName : PySem.W.kitOne K (.ref C_RunFailed) (.ref C_UnknownName) = some false)
    (kr_RunFailed_RunFailed : PySem.W.kitOne K (.ref C_RunFailed) (.ref C_RunFailed) = some true)
    (kt_RunFailed_CE : PySem.W.kitOne K (.ref C_RunFailed) (.ref C_CarpetError) = some false)
    (kt_RunFailed_ValueError : PySem.W.kitOne K (.ref C_RunFailed) (.type "ValueError") = some false)
    (kt_RunFailed_OverflowError : PySem.W.kitOne K (.ref C_RunFailed) (.type "OverflowError") = some false)
    (kt_RunFailed_RuntimeError : PySem.W.kitOne K (.ref C_RunFailed) (.type "RuntimeError") = some false)
    (kt_RunFailed_KeyError : PySem.W.kitOne K (.ref C_RunFailed) (.type "KeyError") = some false)
    (kt_RunFailed_ArithmeticError : PySem.W.kitOne K (.ref C_RunFailed) (.type "ArithmeticError") = some true)
    : ∃ a : Ad, a.law = fa ∧ (∀ (s : Shared) (v : Value), BindsTo s a.law_d ⟨[v], []⟩ [("_law_script", v)]) ∧ Txt K mg a := by
  have e := hfa.symm.trans (PySem.W.mg_of X G a_law)
  cases e
  refine ⟨{ C_CarpetError := C_CarpetError, C_InvalidNet := C_InvalidNet, C_InvalidPlace := C_InvalidPlace, C_InvalidMotion := C_InvalidMotion, C_InvalidRows := C_InvalidRows, C_InvalidColour := C_InvalidColour, C_InvalidTable := C_InvalidTable, C_InvalidNumber := C_InvalidNumber, C_InvalidObservation := C_InvalidObservation, C_InvalidText := C_InvalidText, C_InvalidCommand := C_InvalidCommand, C_LimitExceeded := C_LimitExceeded, C_UnknownName := C_UnknownName, C_RunFailed := C_RunFailed, C_NothingToUndo := C_NothingToUndo, InvalidNet_init := InvalidNet_init, InvalidNet_init_d := PySem.W.fnOf "__init__" "InvalidNet.__init__" (defArgs s_InvalidNet_init) (defBody s_InvalidNet_init) (defScope s_InvalidNet_init) .none kV_InvalidNet_init dc_InvalidNet_init pm_InvalidNet_init an_InvalidNet_init cd_InvalidNet_init ct_InvalidNet_init, InvalidPlace_init := InvalidPlace_init, InvalidPlace_init_d := PySem.W.fnOf "__init__" "InvalidPlace.__init__" (defArgs s_InvalidPlace_init) (defBody s_InvalidPlace_init) (defScope s_InvalidPlace_init) .none kV_InvalidPlace_init dc_InvalidPlace_init pm_InvalidPlace_init an_InvalidPlace_init cd_InvalidPlace_init ct_InvalidPlace_init, InvalidMotion_init := InvalidMotion_init, InvalidMotion_init_d := PySem.W.fnOf "__init__" "InvalidMotion.__init__" (defArgs s_InvalidMotion_init) (defBody s_InvalidMotion_init) (defScope s_InvalidMotion_init) .none kV_InvalidMotion_init dc_InvalidMotion_init pm_InvalidMotion_init an_InvalidMotion_init cd_InvalidMotion_init ct_InvalidMotion_init, InvalidRows_init := InvalidRows_init, InvalidRows_init_d := PySem.W.fnOf "__init__" "InvalidRows.__init__" (defArgs s_InvalidRows_init) (defBody s_InvalidRows_init) (defScope s_InvalidRows_init) .none kV_InvalidRows_init dc_InvalidRows_init pm_InvalidRows_init an_InvalidRows_init cd_InvalidRows_init ct_InvalidRows_init, InvalidColour_init := InvalidColour_init, InvalidColour_init_d := PySem.W.fnOf "__init__" "InvalidColour.__init__" (defArgs s_InvalidColour_init) (defBody s_InvalidColour_init) (defScope s_InvalidColour_init) .none kV_InvalidColour_init dc_InvalidColour_init pm_InvalidColour_init an_InvalidColour_init cd_InvalidColour_init ct_InvalidColour_init, InvalidTable_init := InvalidTable_init, InvalidTable_init_d := PySem.W.fnOf "__init__" "InvalidTable.__init__" (defArgs s_InvalidTable_init) (defBody s_InvalidTable_init) (defScope s_InvalidTable_init) .none kV_InvalidTable_init dc_InvalidTable_init pm_InvalidTable_init an_InvalidTable_init cd_InvalidTable_init ct_InvalidTable_init, InvalidNumber_init := InvalidNumber_init, InvalidNumber_init_d := PySem.W.fnOf "__init__" "InvalidNumber.__init__" (defArgs s_InvalidNumber_init) (defBody s_InvalidNumber_init) (defScope s_InvalidNumber_init) .none kV_InvalidNumber_init dc_InvalidNumber_init pm_InvalidNumber_init an_InvalidNumber_init cd_InvalidNumber_init ct_InvalidNumber_init, InvalidObservation_init := InvalidObservation_init, InvalidObservation_init_d := PySem.W.fnOf "__init__" "InvalidObservation.__init__" (defArgs s_InvalidObservation_init) (defBody s_InvalidObservation_init) (defScope s_InvalidObservation_init) .none kV_InvalidObservation_init dc_InvalidObservation_init pm_InvalidObservation_init an_InvalidObservation_init cd_InvalidObservation_init ct_InvalidObservation_init, InvalidText_init := InvalidText_init, InvalidText_init_d := PySem.W.fnOf "__init__" "InvalidText.__init__" (defArgs s_InvalidText_init) (defBody s_InvalidText_init) (defScope s_InvalidText_init) .none kV_InvalidText_init dc_InvalidText_init pm_InvalidText_init an_InvalidText_init cd_InvalidText_init ct_InvalidText_init, InvalidCommand_init := InvalidCommand_init, InvalidCommand_init_d := PySem.W.fnOf "__init__" "InvalidCommand.__init__" (defArgs s_InvalidCommand_init) (defBody s_InvalidCommand_init) (defScope s_InvalidCommand_init) .none kV_InvalidCommand_init dc_InvalidCommand_init pm_InvalidCommand_init an_InvalidCommand_init cd_InvalidCommand_init ct_InvalidCommand_init, LimitExceeded_init := LimitExceeded_init, LimitExceeded_init_d := PySem.W.fnOf "__init__" "LimitExceeded.__init__" (defArgs s_LimitExceeded_init) (defBody s_LimitExceeded_init) (defScope s_LimitExceeded_init) .none kV_LimitExceeded_init dc_LimitExceeded_init pm_LimitExceeded_init an_LimitExceeded_init cd_LimitExceeded_init ct_LimitExceeded_init, UnknownName_init := UnknownName_init, UnknownName_init_d := PySem.W.fnOf "__init__" "UnknownName.__init__" (defArgs s_UnknownName_init) (defBody s_UnknownName_init) (defScope s_UnknownName_init) .none kV_UnknownName_init dc_UnknownName_init pm_UnknownName_init an_UnknownName_init cd_UnknownName_init ct_UnknownName_init, RunFailed_init := RunFailed_init, RunFailed_init_d := PySem.W.fnOf "__init__" "RunFailed.__init__" (defArgs s_RunFailed_init) (defBody s_RunFailed_init) (defScope s_RunFailed_init) .none kV_RunFailed_init dc_RunFailed_init pm_RunFailed_init an_RunFailed_init cd_RunFailed_init ct_RunFailed_init, law_tape := law_tape, law_tape_d := PySem.W.fnOf "_law_tape" "_law_tape" (defArgs s_law_tape) (defBody s_law_tape) (defScope s_law_tape) .none kV_law_tape dc_law_tape pm_law_tape an_law_tape cd_law_tape ct_law_tape, law_draw := law_draw, law_draw_d := PySem.W.fnOf "_law_draw" "_law_draw" (defArgs s_law_draw) (defBody s_law_draw) (defScope s_law_draw) .none kV_law_draw dc_law_draw pm_law_draw an_law_draw cd_law_draw ct_law_draw, law_made_errors := law_made_errors, law_made_errors_d := PySem.W.fnOf "_law_made_errors" "_law_made_errors" (defArgs s_law_made_errors) (defBody s_law_made_errors) (defScope s_law_made_errors) .none kV_law_made_errors dc_law_made_errors pm_law_made_errors an_law_made_errors cd_law_made_errors ct_law_made_errors, law_kinds_of := law_kinds_of, law_kinds_of_d := PySem.W.fnOf "_law_kinds_of" "_law_kinds_of" (defArgs s_law_kinds_of) (defBody s_law_kinds_of) (defScope s_law_kinds_of) .none kV_law_kinds_of dc_law_kinds_of pm_law_kinds_of an_law_kinds_of cd_law_kinds_of ct_law_kinds_of, law_above := law_above, law_above_d := PySem.W.fnOf "_law_above" "_law_above" (defArgs s_law_above) (defBody s_law_above) (defScope s_law_above) .none kV_law_above dc_law_above pm_law_above an_law_above cd_law_above ct_law_above, law := fa, law_d := PySem.W.fnOf "law" "law" (defArgs s_law) (defBody s_law) (defScope s_law) .none kV_law dc_law pm_law an_law cd_law ct_law }, rfl, fun s v => .of_eq rfl, ?_⟩
  exact {
    g_InvalidNet := PySem.W.mg_of X G a_InvalidNet,
    xf_InvalidNet := xfB_ok xg_InvalidNet,
    xi_InvalidNet := (let z := xfB_ok xg_InvalidNet; ⟨z.ga, z.gg, z.exC, z.hdC, xa_InvalidNet, xn_InvalidNet, xt_InvalidNet, xm_InvalidNet⟩),
    y_InvalidNet := ⟨⟨_, _, PySem.F.store_ValueError, ov_InvalidNet⟩, hd_InvalidNet, tk_InvalidNet, sa_InvalidNet⟩,
    w_InvalidNet := ⟨⟨_, _, _, _, _, PySem.F.excBase_ValueError, ei_InvalidNet, by decide +kernel, by decide +kernel, by decide +kernel⟩, kc_InvalidNet⟩,
    yi_InvalidNet := a_InvalidNet_init,
    yt_InvalidNet := tf_InvalidNet,
    nf_InvalidNet := nf_InvalidNet,
    g_InvalidPlace := PySem.W.mg_of X G a_InvalidPlace,
    xf_InvalidPlace := xfB_ok xg_InvalidPlace,
    xi_InvalidPlace := (let z := xfB_ok xg_InvalidPlace; ⟨z.ga, z.gg, z.exC, z.hdC, xa_InvalidPlace, xn_InvalidPlace, xt_InvalidPlace, xm_InvalidPlace⟩),
    y_InvalidPlace := ⟨⟨_, _, PySem.F.store_ValueError, ov_InvalidPlace⟩, hd_InvalidPlace, tk_InvalidPlace, sa_InvalidPlace⟩,
    w_InvalidPlace := ⟨⟨_, _, _, _, _, PySem.F.excBase_ValueError, ei_InvalidPlace, by decide +kernel, by decide +kernel, by decide +kernel⟩, kc_InvalidPlace⟩,
    yi_InvalidPlace := a_InvalidPlace_init,
    yt_InvalidPlace := tf_InvalidPlace,
    nf_InvalidPlace := nf_InvalidPlace,
    g_InvalidMotion := PySem.W.mg_of X G a_InvalidMotion,
    xf_InvalidMotion := xfB_ok xg_InvalidMotion,
    xi_InvalidMotion := (let z := xfB_ok xg_InvalidMotion; ⟨z.ga, z.gg, z.exC, z.hdC, xa_InvalidMotion, xn_InvalidMotion, xt_InvalidMotion, xm_InvalidMotion⟩),
    y_InvalidMotion := ⟨⟨_, _, PySem.F.store_ValueError, ov_InvalidMotion⟩, hd_InvalidMotion, tk_InvalidMotion, sa_InvalidMotion⟩,
    w_InvalidMotion := ⟨⟨_, _, _, _, _, PySem.F.excBase_ValueError, ei_InvalidMotion, by decide +kernel, by decide +kernel, by decide +kernel⟩, kc_InvalidMotion⟩,
    yi_InvalidMotion := a_InvalidMotion_init,
    yt_InvalidMotion := tf_InvalidMotion,
    nf_InvalidMotion := nf_InvalidMotion,
    g_InvalidRows := PySem.W.mg_of X G a_InvalidRows,
    xf_InvalidRows := xfB_ok xg_InvalidRows,
    xi_InvalidRows := (let z := xfB_ok xg_InvalidRows; ⟨z.ga, z.gg, z.exC, z.hdC, xa_InvalidRows, xn_InvalidRows, xt_InvalidRows, xm_InvalidRows⟩),
    y_InvalidRows := ⟨⟨_, _, PySem.F.store_ValueError, ov_InvalidRows⟩, hd_InvalidRows, tk_InvalidRows, sa_InvalidRows⟩,
    w_InvalidRows := ⟨⟨_, _, _, _, _, PySem.F.excBase_ValueError, ei_InvalidRows, by decide +kernel, by decide +kernel, by decide +kernel⟩, kc_InvalidRows⟩,
    yi_InvalidRows := a_InvalidRows_init,
    yt_InvalidRows := tf_InvalidRows,
    nf_InvalidRows := nf_InvalidRows,
    g_InvalidColour := PySem.W.mg_of X G a_InvalidColour,
    xf_InvalidColour := xfB_ok xg_InvalidColour,
    xi_InvalidColour := (let z := xfB_ok xg_InvalidColour; ⟨z.ga, z.gg, z.exC, z.hdC, xa_InvalidColour, xn_InvalidColour, xt_InvalidColour, xm_InvalidColour⟩),
    y_InvalidColour := ⟨⟨_, _, PySem.F.store_ValueError, ov_InvalidColour⟩, hd_InvalidColour, tk_InvalidColour, sa_InvalidColour⟩,
    w_InvalidColour := ⟨⟨_, _, _, _, _, PySem.F.excBase_ValueError, ei_InvalidColour, by decide +kernel, by decide +kernel, by decide +kernel⟩, kc_InvalidColour⟩,
    yi_InvalidColour := a_InvalidColour_init,
    yt_InvalidColour := tf_InvalidColour,
    nf_InvalidColour := nf_InvalidColour,
    g_InvalidTable := PySem.W.mg_of X G a_InvalidTable,
    xf_InvalidTable := xfB_ok xg_InvalidTable,
    xi_InvalidTable := (let z := xfB_ok xg_InvalidTable; ⟨z.ga, z.gg, z.exC, z.hdC, xa_InvalidTable, xn_InvalidTable, xt_InvalidTable, xm_InvalidTable⟩),
    y_InvalidTable := ⟨⟨_, _, PySem.F.store_ValueError, ov_InvalidTable⟩, hd_InvalidTable, tk_InvalidTable, sa_InvalidTable⟩,
    w_InvalidTable := ⟨⟨_, _, _, _, _, PySem.F.excBase_ValueError, ei_InvalidTable, by decide +kernel, by decide +kernel, by decide +kernel⟩, kc_InvalidTable⟩,
    yi_InvalidTable := a_InvalidTable_init,
    yt_InvalidTable := tf_InvalidTable,
    nf_InvalidTable := nf_InvalidTable,
    g_InvalidNumber := PySem.W.mg_of X G a_InvalidNumber,
    xf_InvalidNumber := xfB_ok xg_InvalidNumber,
    xi_InvalidNumber := (let z := xfB_ok xg_InvalidNumber; ⟨z.ga, z.gg, z.exC, z.hdC, xa_InvalidNumber, xn_InvalidNumber, xt_InvalidNumber, xm_InvalidNumber⟩),
    y_InvalidNumber := ⟨⟨_, _, PySem.F.store_ValueError, ov_InvalidNumber⟩, hd_InvalidNumber, tk_InvalidNumber, sa_InvalidNumber⟩,
    w_InvalidNumber := ⟨⟨_, _, _, _, _, PySem.F.excBase_ValueError, ei_InvalidNumber, by decide +kernel, by decide +kernel, by decide +kernel⟩, kc_InvalidNumber⟩,
    yi_InvalidNumber := a_InvalidNumber_init,
    yt_InvalidNumber := tf_InvalidNumber,
    nf_InvalidNumber := nf_InvalidNumber,
    g_InvalidObservation := PySem.W.mg_of X G a_InvalidObservation,
    xf_InvalidObservation := xfB_ok xg_InvalidObservation,
    xi_InvalidObservation := (let z := xfB_ok xg_InvalidObservation; ⟨z.ga, z.gg, z.exC, z.hdC, xa_InvalidObservation, xn_InvalidObservation, xt_InvalidObservation, xm_InvalidObservation⟩),
    y_InvalidObservation := ⟨⟨_, _, PySem.F.store_ValueError, ov_InvalidObservation⟩, hd_InvalidObservation, tk_InvalidObservation, sa_InvalidObservation⟩,
    w_InvalidObservation := ⟨⟨_, _, _, _, _, PySem.F.excBase_ValueError, ei_InvalidObservation, by decide +kernel, by decide +kernel, by decide +kernel⟩, kc_InvalidObservation⟩,
    yi_InvalidObservation := a_InvalidObservation_init,
    yt_InvalidObservation := tf_InvalidObservation,
    nf_InvalidObservation := nf_InvalidObservation,
    g_InvalidText := PySem.W.mg_of X G a_InvalidText,
    xf_InvalidText := xfB_ok xg_InvalidText,
    xi_InvalidText := (let z := xfB_ok xg_InvalidText; ⟨z.ga, z.gg, z.exC, z.hdC, xa_InvalidText, xn_InvalidText, xt_InvalidText, xm_InvalidText⟩),
    y_InvalidText := ⟨⟨_, _, PySem.F.store_ValueError, ov_InvalidText⟩, hd_InvalidText, tk_InvalidText, sa_InvalidText⟩,
    w_InvalidText := ⟨⟨_, _, _, _, _, PySem.F.excBase_ValueError, ei_InvalidText, by decide +kernel, by decide +kernel, by decide +kernel⟩, kc_InvalidText⟩,
    yi_InvalidText := a_InvalidText_init,
    yt_InvalidText := tf_InvalidText,
    nf_InvalidText := nf_InvalidText,
    g_InvalidCommand := PySem.W.mg_of X G a_InvalidCommand,
    xf_InvalidCommand := xfB_ok xg_InvalidCommand,
    xi_InvalidCommand := (let z := xfB_ok xg_InvalidCommand; ⟨z.ga, z.gg, z.exC, z.hdC, xa_InvalidCommand, xn_InvalidCommand, xt_InvalidCommand, xm_InvalidCommand⟩),
    y_InvalidCommand := ⟨⟨_, _, PySem.F.store_ValueError, ov_InvalidCommand⟩, hd_InvalidCommand, tk_InvalidCommand, sa_InvalidCommand⟩,
    w_InvalidCommand := ⟨⟨_, _, _, _, _, PySem.F.excBase_ValueError, ei_InvalidCommand, by decide +kernel, by decide +kernel, by decide +kernel⟩, kc_InvalidCommand⟩,
    yi_InvalidCommand := a_InvalidCommand_init,
    yt_InvalidCommand := tf_InvalidCommand,
    nf_InvalidCommand := nf_InvalidCommand,
    g_LimitExceeded := PySem.W.mg_of X G a_LimitExceeded,
    xf_LimitExceeded := xfB_ok xg_LimitExceeded,
    xi_LimitExceeded := (let z := xfB_ok xg_LimitExceeded; ⟨z.ga, z.gg, z.exC, z.hdC, xa_LimitExceeded, xn_LimitExceeded, xt_LimitExceeded, xm_LimitExceeded⟩),
    y_LimitExceeded := ⟨⟨_, _, PySem.F.store_OverflowError, ov_LimitExceeded⟩, hd_LimitExceeded, tk_LimitExceeded, sa_LimitExceeded⟩,
    w_LimitExceeded := ⟨⟨_, _, _, _, _, PySem.F.excBase_OverflowError, ei_LimitExceeded, by decide +kernel, by decide +kernel, by decide +kernel⟩, kc_LimitExceeded⟩,
    yi_LimitExceeded := a_LimitExceeded_init,
    yt_LimitExceeded := tf_LimitExceeded,
    nf_LimitExceeded := nf_LimitExceeded,
    g_UnknownName := PySem.W.mg_of X G a_UnknownName,
    xf_UnknownName := xfB_ok xg_UnknownName,
    xi_UnknownName := (let z := xfB_ok xg_UnknownName; ⟨z.ga, z.gg, z.exC, z.hdC, xa_UnknownName, xn_UnknownName, xt_UnknownName, xm_UnknownName⟩),
    y_UnknownName := ⟨⟨_, _, PySem.F.store_KeyErr, ov_UnknownName⟩, hd_UnknownName, tk_UnknownName, sa_UnknownName⟩,
    w_UnknownName := ⟨⟨_, _, _, _, _, PySem.F.excBase_LookupError, ei_UnknownName, by decide +kernel, by decide +kernel, by decide +kernel⟩, kc_UnknownName⟩,
    yi_UnknownName := a_UnknownName_init,
    yt_UnknownName := tf_UnknownName,
    nf_UnknownName := nf_UnknownName,
    g_RunFailed := PySem.W.mg_of X G a_RunFailed,
    xf_RunFailed := xfB_ok xg_RunFailed,
    xi_RunFailed := (let z := xfB_ok xg_RunFailed; ⟨z.ga, z.gg, z.exC, z.hdC, xa_RunFailed, xn_RunFailed, xt_RunFailed, xm_RunFailed⟩),
    y_RunFailed := ⟨⟨_, _, PySem.F.store_ArithmeticError, ov_RunFailed⟩, hd_RunFailed, tk_RunFailed, sa_RunFailed⟩,
    w_RunFailed := ⟨⟨_, _, _, _, _, PySem.F.excBase_ArithmeticError, ei_RunFailed, by decide +kernel, by decide +kernel, by decide +kernel⟩, kc_RunFailed⟩,
    yi_RunFailed := a_RunFailed_init,
    yt_RunFailed := tf_RunFailed,
    nf_RunFailed := nf_RunFailed,
    g_NothingToUndo := PySem.W.mg_of X G a_NothingToUndo,
    xf_NothingToUndo := xfB_ok xg_NothingToUndo,
    xi_NothingToUndo := (let z := xfB_ok xg_NothingToUndo; ⟨z.ga, z.gg, z.exC, z.hdC, xa_NothingToUndo, xn_NothingToUndo, xt_NothingToUndo, xm_NothingToUndo⟩),
    w0_NothingToUndo := ⟨⟨_, _, _, _, PySem.F.excBase_RuntimeError, ei_NothingToUndo, zi_NothingToUndo⟩, kc_NothingToUndo⟩,
    F_InvalidNet_init := fun_mk (st := s_InvalidNet_init) l_InvalidNet_init c_InvalidNet_init k_InvalidNet_init,
    b_InvalidNet_init := (fun_mk (st := s_InvalidNet_init) l_InvalidNet_init c_InvalidNet_init k_InvalidNet_init).binds (ps := P_InvalidNet_init) fun _ _ _ _ _ _ us hl => match us, hl with | [_, _], _ => rfl,
    F_InvalidPlace_init := fun_mk (st := s_InvalidPlace_init) l_InvalidPlace_init c_InvalidPlace_init k_InvalidPlace_init,
    b_InvalidPlace_init := (fun_mk (st := s_InvalidPlace_init) l_InvalidPlace_init c_InvalidPlace_init k_InvalidPlace_init).binds (ps := P_InvalidPlace_init) fun _ _ _ _ _ _ us hl => match us, hl with | [_, _], _ => rfl,
    F_InvalidMotion_init := fun_mk (st := s_InvalidMotion_init) l_InvalidMotion_init c_InvalidMotion_init k_InvalidMotion_init,
    b_InvalidMotion_init := (fun_mk (st := s_InvalidMotion_init) l_InvalidMotion_init c_InvalidMotion_init k_InvalidMotion_init).binds (ps := P_InvalidMotion_init) fun _ _ _ _ _ _ us hl => match us, hl with | [_, _], _ => rfl,
    F_InvalidRows_init := fun_mk (st := s_InvalidRows_init) l_InvalidRows_init c_InvalidRows_init k_InvalidRows_init,
    b_InvalidRows_init := (fun_mk (st := s_InvalidRows_init) l_InvalidRows_init c_InvalidRows_init k_InvalidRows_init).binds (ps := P_InvalidRows_init) fun _ _ _ _ _ _ us hl => match us, hl with | [_, _], _ => rfl,
    F_InvalidColour_init := fun_mk (st := s_InvalidColour_init) l_InvalidColour_init c_InvalidColour_init k_InvalidColour_init,
    b_InvalidColour_init := (fun_mk (st := s_InvalidColour_init) l_InvalidColour_init c_InvalidColour_init k_InvalidColour_init).binds (ps := P_InvalidColour_init) fun _ _ _ _ _ _ us hl => match us, hl with | [_, _], _ => rfl,
    F_InvalidTable_init := fun_mk (st := s_InvalidTable_init) l_InvalidTable_init c_InvalidTable_init k_InvalidTable_init,
    b_InvalidTable_init := (fun_mk (st := s_InvalidTable_init) l_InvalidTable_init c_InvalidTable_init k_InvalidTable_init).binds (ps := P_InvalidTable_init) fun _ _ _ _ _ _ us hl => match us, hl with | [_, _], _ => rfl,
    F_InvalidNumber_init := fun_mk (st := s_InvalidNumber_init) l_InvalidNumber_init c_InvalidNumber_init k_InvalidNumber_init,
    b_InvalidNumber_init := (fun_mk (st := s_InvalidNumber_init) l_InvalidNumber_init c_InvalidNumber_init k_InvalidNumber_init).binds (ps := P_InvalidNumber_init) fun _ _ _ _ _ _ us hl => match us, hl with | [_, _], _ => rfl,
    F_InvalidObservation_init := fun_mk (st := s_InvalidObservation_init) l_InvalidObservation_init c_InvalidObservation_init k_InvalidObservation_init,
    b_InvalidObservation_init := (fun_mk (st := s_InvalidObservation_init) l_InvalidObservation_init c_InvalidObservation_init k_InvalidObservation_init).binds (ps := P_InvalidObservation_init) fun _ _ _ _ _ _ us hl => match us, hl with | [_, _], _ => rfl,
    F_InvalidText_init := fun_mk (st := s_InvalidText_init) l_InvalidText_init c_InvalidText_init k_InvalidText_init,
    b_InvalidText_init := (fun_mk (st := s_InvalidText_init) l_InvalidText_init c_InvalidText_init k_InvalidText_init).binds (ps := P_InvalidText_init) fun _ _ _ _ _ _ us hl => match us, hl with | [_, _], _ => rfl,
    F_InvalidCommand_init := fun_mk (st := s_InvalidCommand_init) l_InvalidCommand_init c_InvalidCommand_init k_InvalidCommand_init,
    b_InvalidCommand_init := (fun_mk (st := s_InvalidCommand_init) l_InvalidCommand_init c_InvalidCommand_init k_InvalidCommand_init).binds (ps := P_InvalidCommand_init) fun _ _ _ _ _ _ us hl => match us, hl with | [_, _], _ => rfl,
    F_LimitExceeded_init := fun_mk (st := s_LimitExceeded_init) l_LimitExceeded_init c_LimitExceeded_init k_LimitExceeded_init,
    b_LimitExceeded_init := (fun_mk (st := s_LimitExceeded_init) l_LimitExceeded_init c_LimitExceeded_init k_LimitExceeded_init).binds (ps := P_LimitExceeded_init) fun _ _ _ _ _ _ us hl => match us, hl with | [_, _], _ => rfl,
    F_UnknownName_init := fun_mk (st := s_UnknownName_init) l_UnknownName_init c_UnknownName_init k_UnknownName_init,
    b_UnknownName_init := (fun_mk (st := s_UnknownName_init) l_UnknownName_init c_UnknownName_init k_UnknownName_init).binds (ps := P_UnknownName_init) fun _ _ _ _ _ _ us hl => match us, hl with | [_, _], _ => rfl,
    F_RunFailed_init := fun_mk (st := s_RunFailed_init) l_RunFailed_init c_RunFailed_init k_RunFailed_init,
    b_RunFailed_init := (fun_mk (st := s_RunFailed_init) l_RunFailed_init c_RunFailed_init k_RunFailed_init).binds (ps := P_RunFailed_init) fun _ _ _ _ _ _ us hl => match us, hl with | [_, _], _ => rfl,
    g_law_tape := PySem.W.mg_of X G a_law_tape,
    F_law_tape := fun_mk (st := s_law_tape) l_law_tape c_law_tape k_law_tape,
    b_law_tape := (fun_mk (st := s_law_tape) l_law_tape c_law_tape k_law_tape).binds (ps := P_law_tape) fun _ _ _ _ _ _ us hl => match us, hl with | [_], _ => rfl,
    g_law_draw := PySem.W.mg_of X G a_law_draw,
    F_law_draw := fun_mk (st := s_law_draw) l_law_draw c_law_draw k_law_draw,
    b_law_draw := (fun_mk (st := s_law_draw) l_law_draw c_law_draw k_law_draw).binds (ps := P_law_draw) fun _ _ _ _ _ _ us hl => match us, hl with | [_, _], _ => rfl,
    g_law_made_errors := PySem.W.mg_of X G a_law_made_errors,
    F_law_made_errors := fun_mk (st := s_law_made_errors) l_law_made_errors c_law_made_errors k_law_made_errors,
    b_law_made_errors := (fun_mk (st := s_law_made_errors) l_law_made_errors c_law_made_errors k_law_made_errors).binds (ps := P_law_made_errors) fun _ _ _ _ _ _ us hl => match us, hl with | [_], _ => rfl,
    g_law_kinds_of := PySem.W.mg_of X G a_law_kinds_of,
    F_law_kinds_of := fun_mk (st := s_law_kinds_of) l_law_kinds_of c_law_kinds_of k_law_kinds_of,
    b_law_kinds_of := (fun_mk (st := s_law_kinds_of) l_law_kinds_of c_law_kinds_of k_law_kinds_of).binds (ps := P_law_kinds_of) fun _ _ _ _ _ _ us hl => match us, hl with | [_], _ => rfl,
    g_law_above := PySem.W.mg_of X G a_law_above,
    F_law_above := fun_mk (st := s_law_above) l_law_above c_law_above k_law_above,
    b_law_above := (fun_mk (st := s_law_above) l_law_above c_law_above k_law_above).binds (ps := P_law_above) fun _ _ _ _ _ _ us hl => match us, hl with | [_], _ => rfl,
    g_law := PySem.W.mg_of X G a_law,
    F_law := fun_mk (st := s_law) l_law c_law k_law,
    b_law := (fun_mk (st := s_law) l_law c_law k_law).binds (ps := P_law) fun _ _ _ _ _ _ us hl => match us, hl with | [_], _ => rfl,
    kb_InvalidRows_init_0_index := ⟨fun s us ws _ h1 h2 => match us, ws, h1, h2 with | [_], [_], _, _ => .of_eq rfl, fun r1 r2 => r1.append r2⟩,
    kb_LimitExceeded_init_0_limit := ⟨fun s us ws _ h1 h2 => match us, ws, h1, h2 with | [_], [_], _, _ => .of_eq rfl, fun r1 r2 => r1.append r2⟩,
    kb_UnknownName_init_0_name := ⟨fun s us ws _ h1 h2 => match us, ws, h1, h2 with | [_], [_], _, _ => .of_eq rfl, fun r1 r2 => r1.append r2⟩,
    kb_InvalidNet_init_0_value := ⟨fun s us ws _ h1 h2 => match us, ws, h1, h2 with | [_], [_], _, _ => .of_eq rfl, fun r1 r2 => r1.append r2⟩,
    kb_RunFailed_init_0_index := ⟨fun s us ws _ h1 h2 => match us, ws, h1, h2 with | [_], [_], _, _ => .of_eq rfl, fun r1 r2 => r1.append r2⟩,
    z_ArithmeticError := PySem.W.mg_none_of X G z_ArithmeticError,
    z_KeyError := PySem.W.mg_none_of X G z_KeyError,
    z_OverflowError := PySem.W.mg_none_of X G z_OverflowError,
    z_RuntimeError := PySem.W.mg_none_of X G z_RuntimeError,
    z_ValueError := PySem.W.mg_none_of X G z_ValueError,
    z_enumerate := PySem.W.mg_none_of X G z_enumerate,
    z_isinstance := PySem.W.mg_none_of X G z_isinstance,
    z_len := PySem.W.mg_none_of X G z_len,
    z_list := PySem.W.mg_none_of X G z_list,
    z_range := PySem.W.mg_none_of X G z_range,
    z_repr := PySem.W.mg_none_of X G z_repr,
    g_CarpetError := PySem.W.mg_of X G a_CE,
    kr_InvalidNet := ⟨kr_InvalidNet_InvalidNet, kr_InvalidNet_InvalidPlace, kr_InvalidNet_InvalidMotion, kr_InvalidNet_InvalidRows, kr_InvalidNet_InvalidColour, kr_InvalidNet_InvalidTable, kr_InvalidNet_InvalidNumber, kr_InvalidNet_InvalidObservation, kr_InvalidNet_InvalidText, kr_InvalidNet_InvalidCommand, kr_InvalidNet_LimitExceeded, kr_InvalidNet_NothingToUndo, kr_InvalidNet_UnknownName, kr_InvalidNet_RunFailed⟩,
    kt_InvalidNet := ⟨kt_InvalidNet_CE, kt_InvalidNet_ValueError, kt_InvalidNet_OverflowError, kt_InvalidNet_RuntimeError, kt_InvalidNet_KeyError, kt_InvalidNet_ArithmeticError⟩,
    kr_InvalidPlace := ⟨kr_InvalidPlace_InvalidNet, kr_InvalidPlace_InvalidPlace, kr_InvalidPlace_InvalidMotion, kr_InvalidPlace_InvalidRows, kr_InvalidPlace_InvalidColour, kr_InvalidPlace_InvalidTable, kr_InvalidPlace_InvalidNumber, kr_InvalidPlace_InvalidObservation, kr_InvalidPlace_InvalidText, kr_InvalidPlace_InvalidCommand, kr_InvalidPlace_LimitExceeded, kr_InvalidPlace_NothingToUndo, kr_InvalidPlace_UnknownName, kr_InvalidPlace_RunFailed⟩,
    kt_InvalidPlace := ⟨kt_InvalidPlace_CE, kt_InvalidPlace_ValueError, kt_InvalidPlace_OverflowError, kt_InvalidPlace_RuntimeError, kt_InvalidPlace_KeyError, kt_InvalidPlace_ArithmeticError⟩,
    kr_InvalidMotion := ⟨kr_InvalidMotion_InvalidNet, kr_InvalidMotion_InvalidPlace, kr_InvalidMotion_InvalidMotion, kr_InvalidMotion_InvalidRows, kr_InvalidMotion_InvalidColour, kr_InvalidMotion_InvalidTable, kr_InvalidMotion_InvalidNumber, kr_InvalidMotion_InvalidObservation, kr_InvalidMotion_InvalidText, kr_InvalidMotion_InvalidCommand, kr_InvalidMotion_LimitExceeded, kr_InvalidMotion_NothingToUndo, kr_InvalidMotion_UnknownName, kr_InvalidMotion_RunFailed⟩,
    kt_InvalidMotion := ⟨kt_InvalidMotion_CE, kt_InvalidMotion_ValueError, kt_InvalidMotion_OverflowError, kt_InvalidMotion_RuntimeError, kt_InvalidMotion_KeyError, kt_InvalidMotion_ArithmeticError⟩,
    kr_InvalidRows := ⟨kr_InvalidRows_InvalidNet, kr_InvalidRows_InvalidPlace, kr_InvalidRows_InvalidMotion, kr_InvalidRows_InvalidRows, kr_InvalidRows_InvalidColour, kr_InvalidRows_InvalidTable, kr_InvalidRows_InvalidNumber, kr_InvalidRows_InvalidObservation, kr_InvalidRows_InvalidText, kr_InvalidRows_InvalidCommand, kr_InvalidRows_LimitExceeded, kr_InvalidRows_NothingToUndo, kr_InvalidRows_UnknownName, kr_InvalidRows_RunFailed⟩,
    kt_InvalidRows := ⟨kt_InvalidRows_CE, kt_InvalidRows_ValueError, kt_InvalidRows_OverflowError, kt_InvalidRows_RuntimeError, kt_InvalidRows_KeyError, kt_InvalidRows_ArithmeticError⟩,
    kr_InvalidColour := ⟨kr_InvalidColour_InvalidNet, kr_InvalidColour_InvalidPlace, kr_InvalidColour_InvalidMotion, kr_InvalidColour_InvalidRows, kr_InvalidColour_InvalidColour, kr_InvalidColour_InvalidTable, kr_InvalidColour_InvalidNumber, kr_InvalidColour_InvalidObservation, kr_InvalidColour_InvalidText, kr_InvalidColour_InvalidCommand, kr_InvalidColour_LimitExceeded, kr_InvalidColour_NothingToUndo, kr_InvalidColour_UnknownName, kr_InvalidColour_RunFailed⟩,
    kt_InvalidColour := ⟨kt_InvalidColour_CE, kt_InvalidColour_ValueError, kt_InvalidColour_OverflowError, kt_InvalidColour_RuntimeError, kt_InvalidColour_KeyError, kt_InvalidColour_ArithmeticError⟩,
    kr_InvalidTable := ⟨kr_InvalidTable_InvalidNet, kr_InvalidTable_InvalidPlace, kr_InvalidTable_InvalidMotion, kr_InvalidTable_InvalidRows, kr_InvalidTable_InvalidColour, kr_InvalidTable_InvalidTable, kr_InvalidTable_InvalidNumber, kr_InvalidTable_InvalidObservation, kr_InvalidTable_InvalidText, kr_InvalidTable_InvalidCommand, kr_InvalidTable_LimitExceeded, kr_InvalidTable_NothingToUndo, kr_InvalidTable_UnknownName, kr_InvalidTable_RunFailed⟩,
    kt_InvalidTable := ⟨kt_InvalidTable_CE, kt_InvalidTable_ValueError, kt_InvalidTable_OverflowError, kt_InvalidTable_RuntimeError, kt_InvalidTable_KeyError, kt_InvalidTable_ArithmeticError⟩,
    kr_InvalidNumber := ⟨kr_InvalidNumber_InvalidNet, kr_InvalidNumber_InvalidPlace, kr_InvalidNumber_InvalidMotion, kr_InvalidNumber_InvalidRows, kr_InvalidNumber_InvalidColour, kr_InvalidNumber_InvalidTable, kr_InvalidNumber_InvalidNumber, kr_InvalidNumber_InvalidObservation, kr_InvalidNumber_InvalidText, kr_InvalidNumber_InvalidCommand, kr_InvalidNumber_LimitExceeded, kr_InvalidNumber_NothingToUndo, kr_InvalidNumber_UnknownName, kr_InvalidNumber_RunFailed⟩,
    kt_InvalidNumber := ⟨kt_InvalidNumber_CE, kt_InvalidNumber_ValueError, kt_InvalidNumber_OverflowError, kt_InvalidNumber_RuntimeError, kt_InvalidNumber_KeyError, kt_InvalidNumber_ArithmeticError⟩,
    kr_InvalidObservation := ⟨kr_InvalidObservation_InvalidNet, kr_InvalidObservation_InvalidPlace, kr_InvalidObservation_InvalidMotion, kr_InvalidObservation_InvalidRows, kr_InvalidObservation_InvalidColour, kr_InvalidObservation_InvalidTable, kr_InvalidObservation_InvalidNumber, kr_InvalidObservation_InvalidObservation, kr_InvalidObservation_InvalidText, kr_InvalidObservation_InvalidCommand, kr_InvalidObservation_LimitExceeded, kr_InvalidObservation_NothingToUndo, kr_InvalidObservation_UnknownName, kr_InvalidObservation_RunFailed⟩,
    kt_InvalidObservation := ⟨kt_InvalidObservation_CE, kt_InvalidObservation_ValueError, kt_InvalidObservation_OverflowError, kt_InvalidObservation_RuntimeError, kt_InvalidObservation_KeyError, kt_InvalidObservation_ArithmeticError⟩,
    kr_InvalidText := ⟨kr_InvalidText_InvalidNet, kr_InvalidText_InvalidPlace, kr_InvalidText_InvalidMotion, kr_InvalidText_InvalidRows, kr_InvalidText_InvalidColour, kr_InvalidText_InvalidTable, kr_InvalidText_InvalidNumber, kr_InvalidText_InvalidObservation, kr_InvalidText_InvalidText, kr_InvalidText_InvalidCommand, kr_InvalidText_LimitExceeded, kr_InvalidText_NothingToUndo, kr_InvalidText_UnknownName, kr_InvalidText_RunFailed⟩,
    kt_InvalidText := ⟨kt_InvalidText_CE, kt_InvalidText_ValueError, kt_InvalidText_OverflowError, kt_InvalidText_RuntimeError, kt_InvalidText_KeyError, kt_InvalidText_ArithmeticError⟩,
    kr_InvalidCommand := ⟨kr_InvalidCommand_InvalidNet, kr_InvalidCommand_InvalidPlace, kr_InvalidCommand_InvalidMotion, kr_InvalidCommand_InvalidRows, kr_InvalidCommand_InvalidColour, kr_InvalidCommand_InvalidTable, kr_InvalidCommand_InvalidNumber, kr_InvalidCommand_InvalidObservation, kr_InvalidCommand_InvalidText, kr_InvalidCommand_InvalidCommand, kr_InvalidCommand_LimitExceeded, kr_InvalidCommand_NothingToUndo, kr_InvalidCommand_UnknownName, kr_InvalidCommand_RunFailed⟩,
    kt_InvalidCommand := ⟨kt_InvalidCommand_CE, kt_InvalidCommand_ValueError, kt_InvalidCommand_OverflowError, kt_InvalidCommand_RuntimeError, kt_InvalidCommand_KeyError, kt_InvalidCommand_ArithmeticError⟩,
    kr_LimitExceeded := ⟨kr_LimitExceeded_InvalidNet, kr_LimitExceeded_InvalidPlace, kr_LimitExceeded_InvalidMotion, kr_LimitExceeded_InvalidRows, kr_LimitExceeded_InvalidColour, kr_LimitExceeded_InvalidTable, kr_LimitExceeded_InvalidNumber, kr_LimitExceeded_InvalidObservation, kr_LimitExceeded_InvalidText, kr_LimitExceeded_InvalidCommand, kr_LimitExceeded_LimitExceeded, kr_LimitExceeded_NothingToUndo, kr_LimitExceeded_UnknownName, kr_LimitExceeded_RunFailed⟩,
    kt_LimitExceeded := ⟨kt_LimitExceeded_CE, kt_LimitExceeded_ValueError, kt_LimitExceeded_OverflowError, kt_LimitExceeded_RuntimeError, kt_LimitExceeded_KeyError, kt_LimitExceeded_ArithmeticError⟩,
    kr_NothingToUndo := ⟨kr_NothingToUndo_InvalidNet, kr_NothingToUndo_InvalidPlace, kr_NothingToUndo_InvalidMotion, kr_NothingToUndo_InvalidRows, kr_NothingToUndo_InvalidColour, kr_NothingToUndo_InvalidTable, kr_NothingToUndo_InvalidNumber, kr_NothingToUndo_InvalidObservation, kr_NothingToUndo_InvalidText, kr_NothingToUndo_InvalidCommand, kr_NothingToUndo_LimitExceeded, kr_NothingToUndo_NothingToUndo, kr_NothingToUndo_UnknownName, kr_NothingToUndo_RunFailed⟩,
    kt_NothingToUndo := ⟨kt_NothingToUndo_CE, kt_NothingToUndo_ValueError, kt_NothingToUndo_OverflowError, kt_NothingToUndo_RuntimeError, kt_NothingToUndo_KeyError, kt_NothingToUndo_ArithmeticError⟩,
    kr_UnknownName := ⟨kr_UnknownName_InvalidNet, kr_UnknownName_InvalidPlace, kr_UnknownName_InvalidMotion, kr_UnknownName_InvalidRows, kr_UnknownName_InvalidColour, kr_UnknownName_InvalidTable, kr_UnknownName_InvalidNumber, kr_UnknownName_InvalidObservation, kr_UnknownName_InvalidText, kr_UnknownName_InvalidCommand, kr_UnknownName_LimitExceeded, kr_UnknownName_NothingToUndo, kr_UnknownName_UnknownName, kr_UnknownName_RunFailed⟩,
    kt_UnknownName := ⟨kt_UnknownName_CE, kt_UnknownName_ValueError, kt_UnknownName_OverflowError, kt_UnknownName_RuntimeError, kt_UnknownName_KeyError, kt_UnknownName_ArithmeticError⟩,
    kr_RunFailed := ⟨kr_RunFailed_InvalidNet, kr_RunFailed_InvalidPlace, kr_RunFailed_InvalidMotion, kr_RunFailed_InvalidRows, kr_RunFailed_InvalidColour, kr_RunFailed_InvalidTable, kr_RunFailed_InvalidNumber, kr_RunFailed_InvalidObservation, kr_RunFailed_InvalidText, kr_RunFailed_InvalidCommand, kr_RunFailed_LimitExceeded, kr_RunFailed_NothingToUndo, kr_RunFailed_UnknownName, kr_RunFailed_RunFailed⟩,
    kt_RunFailed := ⟨kt_RunFailed_CE, kt_RunFailed_ValueError, kt_RunFailed_OverflowError, kt_RunFailed_RuntimeError, kt_RunFailed_KeyError, kt_RunFailed_ArithmeticError⟩ }
end Law
open PySem PySem.W PyProof.Rows
local macro_rules | `(tactic| walk_at "mv_vals") => `(tactic| repeat first | exact Paired.nil | refine Paired.cons ?_ ?_ | exact rfl | exact ⟨_, rfl⟩)
local macro_rules | `(tactic| walk_at "mv_kt") => `(tactic| (refine' MV.kt_mk ?h ?z ?v; (case h => k_is); (case z => decide +kernel); (case v => walk_at "mv_vals")))
local macro_rules | `(tactic| walk_at "mv_lit") => `(tactic| repeat first | exact True.intro | refine ⟨⟨_, _, rfl, rfl⟩, ?_⟩)
local macro_rules | `(tactic| walk_at "mv_kd") => `(tactic| (refine' MV.kd_mk ?h ?l ?n ?v; (case h => k_is); (case n => k_is); (case l => walk_at "mv_lit"); (case v => first | exact rfl | exact ⟨_, rfl⟩)))
local macro_rules | `(tactic| walk_at "mv_kk") => `(tactic| (refine' MV.kk_mk ?h ?n ?v; (case h => k_is); (case n => decide +kernel); (case v => walk_at "mv_vals")))
local macro_rules | `(tactic| walk_at "mv_bind") => `(tactic| (refine ⟨?k, ?h, ?g⟩; (case h => (unfold bindArgs; dsimp only; rw [List.forIn_nil, pure_bind])); (case g => exact rfl)))
set_option maxHeartbeats 0 in
theorem PySem.Challenge.cw_carpets_k94_kinds_of_errors_holds : PySem.Challenge.rw_carpets_k94_kinds_of_errors.Holds := by
  w_on; o_law; k_head; (case hw => w_witness2)
  k_fill
  refine MV.walkG (l := PySem.Challenge.rw_carpets_k94_kinds_of_errors) (n := 63) (k := 8) (x := "_law_script") (CX := L2.CX0) (sp := Law.sp_law) rfl (by decide) rfl ⟨rfl, by decide, by decide⟩ (fun w h Y => PySem.W.kIn_of Y) ?F (fun K H a ns hl hS => Law.sp_start K H a ns hl hS) (fun _ _ _ _ h => h)
  case F =>
    intro w mg fa h KX G hmg
    refine' MV.byTxt (Law.all_mk KX G hmg ?a_InvalidNet ?ei_InvalidNet ?kc_InvalidNet ?xg_InvalidNet ?xa_InvalidNet ?xn_InvalidNet ?xt_InvalidNet ?xm_InvalidNet ?ov_InvalidNet ?hd_InvalidNet ?tk_InvalidNet ?sa_InvalidNet ?nf_InvalidNet ?a_InvalidPlace ?ei_InvalidPlace ?kc_InvalidPlace ?xg_InvalidPlace ?xa_InvalidPlace ?xn_InvalidPlace ?xt_InvalidPlace ?xm_InvalidPlace ?ov_InvalidPlace ?hd_InvalidPlace ?tk_InvalidPlace ?sa_InvalidPlace ?nf_InvalidPlace ?a_InvalidMotion ?ei_InvalidMotion ?kc_InvalidMotion ?xg_InvalidMotion ?xa_InvalidMotion ?xn_InvalidMotion ?xt_InvalidMotion ?xm_InvalidMotion ?ov_InvalidMotion ?hd_InvalidMotion ?tk_InvalidMotion ?sa_InvalidMotion ?nf_InvalidMotion ?a_InvalidRows ?ei_InvalidRows ?kc_InvalidRows ?xg_InvalidRows ?xa_InvalidRows ?xn_InvalidRows ?xt_InvalidRows ?xm_InvalidRows ?ov_InvalidRows ?hd_InvalidRows ?tk_InvalidRows ?sa_InvalidRows ?nf_InvalidRows ?a_InvalidColour ?ei_InvalidColour ?kc_InvalidColour ?xg_InvalidColour ?xa_InvalidColour ?xn_InvalidColour ?xt_InvalidColour ?xm_InvalidColour ?ov_InvalidColour ?hd_InvalidColour ?tk_InvalidColour ?sa_InvalidColour ?nf_InvalidColour ?a_InvalidTable ?ei_InvalidTable ?kc_InvalidTable ?xg_InvalidTable ?xa_InvalidTable ?xn_InvalidTable ?xt_InvalidTable ?xm_InvalidTable ?ov_InvalidTable ?hd_InvalidTable ?tk_InvalidTable ?sa_InvalidTable ?nf_InvalidTable ?a_InvalidNumber ?ei_InvalidNumber ?kc_InvalidNumber ?xg_InvalidNumber ?xa_InvalidNumber ?xn_InvalidNumber ?xt_InvalidNumber ?xm_InvalidNumber ?ov_InvalidNumber ?hd_InvalidNumber ?tk_InvalidNumber ?sa_InvalidNumber ?nf_InvalidNumber ?a_InvalidObservation ?ei_InvalidObservation ?kc_InvalidObservation ?xg_InvalidObservation ?xa_InvalidObservation ?xn_InvalidObservation ?xt_InvalidObservation ?xm_InvalidObservation ?ov_InvalidObservation ?hd_InvalidObservation ?tk_InvalidObservation ?sa_InvalidObservation ?nf_InvalidObservation ?a_InvalidText ?ei_InvalidText ?kc_InvalidText ?xg_InvalidText ?xa_InvalidText ?xn_InvalidText ?xt_InvalidText ?xm_InvalidText ?ov_InvalidText ?hd_InvalidText ?tk_InvalidText ?sa_InvalidText ?nf_InvalidText ?a_InvalidCommand ?ei_InvalidCommand ?kc_InvalidCommand ?xg_InvalidCommand ?xa_InvalidCommand ?xn_InvalidCommand ?xt_InvalidCommand ?xm_InvalidCommand ?ov_InvalidCommand ?hd_InvalidCommand ?tk_InvalidCommand ?sa_InvalidCommand ?nf_InvalidCommand ?a_LimitExceeded ?ei_LimitExceeded ?kc_LimitExceeded ?xg_LimitExceeded ?xa_LimitExceeded ?xn_LimitExceeded ?xt_LimitExceeded ?xm_LimitExceeded ?ov_LimitExceeded ?hd_LimitExceeded ?tk_LimitExceeded ?sa_LimitExceeded ?nf_LimitExceeded ?a_UnknownName ?ei_UnknownName ?kc_UnknownName ?xg_UnknownName ?xa_UnknownName ?xn_UnknownName ?xt_UnknownName ?xm_UnknownName ?ov_UnknownName ?hd_UnknownName ?tk_UnknownName ?sa_UnknownName ?nf_UnknownName ?a_RunFailed ?ei_RunFailed ?kc_RunFailed ?xg_RunFailed ?xa_RunFailed ?xn_RunFailed ?xt_RunFailed ?xm_RunFailed ?ov_RunFailed ?hd_RunFailed ?tk_RunFailed ?sa_RunFailed ?nf_RunFailed ?a_NothingToUndo ?ei_NothingToUndo ?kc_NothingToUndo ?xg_NothingToUndo ?xa_NothingToUndo ?xn_NothingToUndo ?xt_NothingToUndo ?xm_NothingToUndo ?zi_NothingToUndo ?a_InvalidNet_init ?i_InvalidNet_init ?l_InvalidNet_init ?c_InvalidNet_init ?k_InvalidNet_init ?tf_InvalidNet ?a_InvalidPlace_init ?i_InvalidPlace_init ?l_InvalidPlace_init ?c_InvalidPlace_init ?k_InvalidPlace_init ?tf_InvalidPlace ?a_InvalidMotion_init ?i_InvalidMotion_init ?l_InvalidMotion_init ?c_InvalidMotion_init ?k_InvalidMotion_init ?tf_InvalidMotion ?a_InvalidRows_init ?i_InvalidRows_init ?l_InvalidRows_init ?c_InvalidRows_init ?k_InvalidRows_init ?tf_InvalidRows ?a_InvalidColour_init ?i_InvalidColour_init ?l_InvalidColour_init ?c_InvalidColour_init ?k_InvalidColour_init ?tf_InvalidColour ?a_InvalidTable_init ?i_InvalidTable_init ?l_InvalidTable_init ?c_InvalidTable_init ?k_InvalidTable_init ?tf_InvalidTable ?a_InvalidNumber_init ?i_InvalidNumber_init ?l_InvalidNumber_init ?c_InvalidNumber_init ?k_InvalidNumber_init ?tf_InvalidNumber ?a_InvalidObservation_init ?i_InvalidObservation_init ?l_InvalidObservation_init ?c_InvalidObservation_init ?k_InvalidObservation_init ?tf_InvalidObservation ?a_InvalidText_init ?i_InvalidText_init ?l_InvalidText_init ?c_InvalidText_init ?k_InvalidText_init ?tf_InvalidText ?a_InvalidCommand_init ?i_InvalidCommand_init ?l_InvalidCommand_init ?c_InvalidCommand_init ?k_InvalidCommand_init ?tf_InvalidCommand ?a_LimitExceeded_init ?i_LimitExceeded_init ?l_LimitExceeded_init ?c_LimitExceeded_init ?k_LimitExceeded_init ?tf_LimitExceeded ?a_UnknownName_init ?i_UnknownName_init ?l_UnknownName_init ?c_UnknownName_init ?k_UnknownName_init ?tf_UnknownName ?a_RunFailed_init ?i_RunFailed_init ?l_RunFailed_init ?c_RunFailed_init ?k_RunFailed_init ?tf_RunFailed ?a_law_tape ?l_law_tape ?c_law_tape ?k_law_tape ?a_law_draw ?l_law_draw ?c_law_draw ?k_law_draw ?a_law_made_errors ?l_law_made_errors ?c_law_made_errors ?k_law_made_errors ?a_law_kinds_of ?l_law_kinds_of ?c_law_kinds_of ?k_law_kinds_of ?a_law_above ?l_law_above ?c_law_above ?k_law_above ?a_law ?l_law ?c_law ?k_law ?z_ArithmeticError ?z_KeyError ?z_OverflowError ?z_RuntimeError ?z_ValueError ?z_enumerate ?z_isinstance ?z_len ?z_list ?z_range ?z_repr ?a_CE ?kr_InvalidNet_InvalidNet ?kr_InvalidNet_InvalidPlace ?kr_InvalidNet_InvalidMotion ?kr_InvalidNet_InvalidRows ?kr_InvalidNet_InvalidColour ?kr_InvalidNet_InvalidTable ?kr_InvalidNet_InvalidNumber ?kr_InvalidNet_InvalidObservation ?kr_InvalidNet_InvalidText ?kr_InvalidNet_InvalidCommand ?kr_InvalidNet_LimitExceeded ?kr_InvalidNet_NothingToUndo ?kr_InvalidNet_UnknownName ?kr_InvalidNet_RunFailed ?kt_InvalidNet_CE ?kt_InvalidNet_ValueError ?kt_InvalidNet_OverflowError ?kt_InvalidNet_RuntimeError ?kt_InvalidNet_KeyError ?kt_InvalidNet_ArithmeticError ?kr_InvalidPlace_InvalidNet ?kr_InvalidPlace_InvalidPlace ?kr_InvalidPlace_InvalidMotion ?kr_InvalidPlace_InvalidRows ?kr_InvalidPlace_InvalidColour ?kr_InvalidPlace_InvalidTable ?kr_InvalidPlace_InvalidNumber ?kr_InvalidPlace_InvalidObservation ?kr_InvalidPlace_InvalidText ?kr_InvalidPlace_InvalidCommand ?kr_InvalidPlace_LimitExceeded ?kr_InvalidPlace_NothingToUndo ?kr_InvalidPlace_UnknownName ?kr_InvalidPlace_RunFailed ?kt_InvalidPlace_CE ?kt_InvalidPlace_ValueError ?kt_InvalidPlace_OverflowError ?kt_InvalidPlace_RuntimeError ?kt_InvalidPlace_KeyError ?kt_InvalidPlace_ArithmeticError ?kr_InvalidMotion_InvalidNet ?kr_InvalidMotion_InvalidPlace ?kr_InvalidMotion_InvalidMotion ?kr_InvalidMotion_InvalidRows ?kr_InvalidMotion_InvalidColour ?kr_InvalidMotion_InvalidTable ?kr_InvalidMotion_InvalidNumber ?kr_InvalidMotion_InvalidObservation ?kr_InvalidMotion_InvalidText ?kr_InvalidMotion_InvalidCommand ?kr_InvalidMotion_LimitExceeded ?kr_InvalidMotion_NothingToUndo ?kr_InvalidMotion_UnknownName ?kr_InvalidMotion_RunFailed ?kt_InvalidMotion_CE ?kt_InvalidMotion_ValueError ?kt_InvalidMotion_OverflowError ?kt_InvalidMotion_RuntimeError ?kt_InvalidMotion_KeyError ?kt_InvalidMotion_ArithmeticError ?kr_InvalidRows_InvalidNet ?kr_InvalidRows_InvalidPlace ?kr_InvalidRows_InvalidMotion ?kr_InvalidRows_InvalidRows ?kr_InvalidRows_InvalidColour ?kr_InvalidRows_InvalidTable ?kr_InvalidRows_InvalidNumber ?kr_InvalidRows_InvalidObservation ?kr_InvalidRows_InvalidText ?kr_InvalidRows_InvalidCommand ?kr_InvalidRows_LimitExceeded ?kr_InvalidRows_NothingToUndo ?kr_InvalidRows_UnknownName ?kr_InvalidRows_RunFailed ?kt_InvalidRows_CE ?kt_InvalidRows_ValueError ?kt_InvalidRows_OverflowError ?kt_InvalidRows_RuntimeError ?kt_InvalidRows_KeyError ?kt_InvalidRows_ArithmeticError ?kr_InvalidColour_InvalidNet ?kr_InvalidColour_InvalidPlace ?kr_InvalidColour_InvalidMotion ?kr_InvalidColour_InvalidRows ?kr_InvalidColour_InvalidColour ?kr_InvalidColour_InvalidTable ?kr_InvalidColour_InvalidNumber ?kr_InvalidColour_InvalidObservation ?kr_InvalidColour_InvalidText ?kr_InvalidColour_InvalidCommand ?kr_InvalidColour_LimitExceeded ?kr_InvalidColour_NothingToUndo ?kr_InvalidColour_UnknownName ?kr_InvalidColour_RunFailed ?kt_InvalidColour_CE ?kt_InvalidColour_ValueError ?kt_InvalidColour_OverflowError ?kt_InvalidColour_RuntimeError ?kt_InvalidColour_KeyError ?kt_InvalidColour_ArithmeticError ?kr_InvalidTable_InvalidNet ?kr_InvalidTable_InvalidPlace ?kr_InvalidTable_InvalidMotion ?kr_InvalidTable_InvalidRows ?kr_InvalidTable_InvalidColour ?kr_InvalidTable_InvalidTable ?kr_InvalidTable_InvalidNumber ?kr_InvalidTable_InvalidObservation ?kr_InvalidTable_InvalidText ?kr_InvalidTable_InvalidCommand ?kr_InvalidTable_LimitExceeded ?kr_InvalidTable_NothingToUndo ?kr_InvalidTable_UnknownName ?kr_InvalidTable_RunFailed ?kt_InvalidTable_CE ?kt_InvalidTable_ValueError ?kt_InvalidTable_OverflowError ?kt_InvalidTable_RuntimeError ?kt_InvalidTable_KeyError ?kt_InvalidTable_ArithmeticError ?kr_InvalidNumber_InvalidNet ?kr_InvalidNumber_InvalidPlace ?kr_InvalidNumber_InvalidMotion ?kr_InvalidNumber_InvalidRows ?kr_InvalidNumber_InvalidColour ?kr_InvalidNumber_InvalidTable ?kr_InvalidNumber_InvalidNumber ?kr_InvalidNumber_InvalidObservation ?kr_InvalidNumber_InvalidText ?kr_InvalidNumber_InvalidCommand ?kr_InvalidNumber_LimitExceeded ?kr_InvalidNumber_NothingToUndo ?kr_InvalidNumber_UnknownName ?kr_InvalidNumber_RunFailed ?kt_InvalidNumber_CE ?kt_InvalidNumber_ValueError ?kt_InvalidNumber_OverflowError ?kt_InvalidNumber_RuntimeError ?kt_InvalidNumber_KeyError ?kt_InvalidNumber_ArithmeticError ?kr_InvalidObservation_InvalidNet ?kr_InvalidObservation_InvalidPlace ?kr_InvalidObservation_InvalidMotion ?kr_InvalidObservation_InvalidRows ?kr_InvalidObservation_InvalidColour ?kr_InvalidObservation_InvalidTable ?kr_InvalidObservation_InvalidNumber ?kr_InvalidObservation_InvalidObservation ?kr_InvalidObservation_InvalidText ?kr_InvalidObservation_InvalidCommand ?kr_InvalidObservation_LimitExceeded ?kr_InvalidObservation_NothingToUndo ?kr_InvalidObservation_UnknownName ?kr_InvalidObservation_RunFailed ?kt_InvalidObservation_CE ?kt_InvalidObservation_ValueError ?kt_InvalidObservation_OverflowError ?kt_InvalidObservation_RuntimeError ?kt_InvalidObservation_KeyError ?kt_InvalidObservation_ArithmeticError ?kr_InvalidText_InvalidNet ?kr_InvalidText_InvalidPlace ?kr_InvalidText_InvalidMotion ?kr_InvalidText_InvalidRows ?kr_InvalidText_InvalidColour ?kr_InvalidText_InvalidTable ?kr_InvalidText_InvalidNumber ?kr_InvalidText_InvalidObservation ?kr_InvalidText_InvalidText ?kr_InvalidText_InvalidCommand ?kr_InvalidText_LimitExceeded ?kr_InvalidText_NothingToUndo ?kr_InvalidText_UnknownName ?kr_InvalidText_RunFailed ?kt_InvalidText_CE ?kt_InvalidText_ValueError ?kt_InvalidText_OverflowError ?kt_InvalidText_RuntimeError ?kt_InvalidText_KeyError ?kt_InvalidText_ArithmeticError ?kr_InvalidCommand_InvalidNet ?kr_InvalidCommand_InvalidPlace ?kr_InvalidCommand_InvalidMotion ?kr_InvalidCommand_InvalidRows ?kr_InvalidCommand_InvalidColour ?kr_InvalidCommand_InvalidTable ?kr_InvalidCommand_InvalidNumber ?kr_InvalidCommand_InvalidObservation ?kr_InvalidCommand_InvalidText ?kr_InvalidCommand_InvalidCommand ?kr_InvalidCommand_LimitExceeded ?kr_InvalidCommand_NothingToUndo ?kr_InvalidCommand_UnknownName ?kr_InvalidCommand_RunFailed ?kt_InvalidCommand_CE ?kt_InvalidCommand_ValueError ?kt_InvalidCommand_OverflowError ?kt_InvalidCommand_RuntimeError ?kt_InvalidCommand_KeyError ?kt_InvalidCommand_ArithmeticError ?kr_LimitExceeded_InvalidNet ?kr_LimitExceeded_InvalidPlace ?kr_LimitExceeded_InvalidMotion ?kr_LimitExceeded_InvalidRows ?kr_LimitExceeded_InvalidColour ?kr_LimitExceeded_InvalidTable ?kr_LimitExceeded_InvalidNumber ?kr_LimitExceeded_InvalidObservation ?kr_LimitExceeded_InvalidText ?kr_LimitExceeded_InvalidCommand ?kr_LimitExceeded_LimitExceeded ?kr_LimitExceeded_NothingToUndo ?kr_LimitExceeded_UnknownName ?kr_LimitExceeded_RunFailed ?kt_LimitExceeded_CE ?kt_LimitExceeded_ValueError ?kt_LimitExceeded_OverflowError ?kt_LimitExceeded_RuntimeError ?kt_LimitExceeded_KeyError ?kt_LimitExceeded_ArithmeticError ?kr_NothingToUndo_InvalidNet ?kr_NothingToUndo_InvalidPlace ?kr_NothingToUndo_InvalidMotion ?kr_NothingToUndo_InvalidRows ?kr_NothingToUndo_InvalidColour ?kr_NothingToUndo_InvalidTable ?kr_NothingToUndo_InvalidNumber ?kr_NothingToUndo_InvalidObservation ?kr_NothingToUndo_InvalidText ?kr_NothingToUndo_InvalidCommand ?kr_NothingToUndo_LimitExceeded ?kr_NothingToUndo_NothingToUndo ?kr_NothingToUndo_UnknownName ?kr_NothingToUndo_RunFailed ?kt_NothingToUndo_CE ?kt_NothingToUndo_ValueError ?kt_NothingToUndo_OverflowError ?kt_NothingToUndo_RuntimeError ?kt_NothingToUndo_KeyError ?kt_NothingToUndo_ArithmeticError ?kr_UnknownName_InvalidNet ?kr_UnknownName_InvalidPlace ?kr_UnknownName_InvalidMotion ?kr_UnknownName_InvalidRows ?kr_UnknownName_InvalidColour ?kr_UnknownName_InvalidTable ?kr_UnknownName_InvalidNumber ?kr_UnknownName_InvalidObservation ?kr_UnknownName_InvalidText ?kr_UnknownName_InvalidCommand ?kr_UnknownName_LimitExceeded ?kr_UnknownName_NothingToUndo ?kr_UnknownName_UnknownName ?kr_UnknownName_RunFailed ?kt_UnknownName_CE ?kt_UnknownName_ValueError ?kt_UnknownName_OverflowError ?kt_UnknownName_RuntimeError ?kt_UnknownName_KeyError ?kt_UnknownName_ArithmeticError ?kr_RunFailed_InvalidNet ?kr_RunFailed_InvalidPlace ?kr_RunFailed_InvalidMotion ?kr_RunFailed_InvalidRows ?kr_RunFailed_InvalidColour ?kr_RunFailed_InvalidTable ?kr_RunFailed_InvalidNumber ?kr_RunFailed_InvalidObservation ?kr_RunFailed_InvalidText ?kr_RunFailed_InvalidCommand ?kr_RunFailed_LimitExceeded ?kr_RunFailed_NothingToUndo ?kr_RunFailed_UnknownName ?kr_RunFailed_RunFailed ?kt_RunFailed_CE ?kt_RunFailed_ValueError ?kt_RunFailed_OverflowError ?kt_RunFailed_RuntimeError ?kt_RunFailed_KeyError ?kt_RunFailed_ArithmeticError) (fun a z => ?go)
    (case go =>
      obtain ⟨e, b, T⟩ := z
      subst e
      exact ⟨_, b, fun base _ _ => Law.ok_law T⟩)
    (case a_InvalidNet => first | k_is | rfl)
    (case ei_InvalidNet => first | k_is | rfl)
    (case kc_InvalidNet => first | k_is | rfl)
    (case xg_InvalidNet => first | k_is | rfl)
    (case xa_InvalidNet => first | k_is | rfl)
    (case xn_InvalidNet => first | k_is | rfl)
    (case xt_InvalidNet => first | k_is | rfl)
    (case xm_InvalidNet => first | k_is | rfl)
    (case ov_InvalidNet => first | k_is | rfl)
    (case hd_InvalidNet => first | k_is | rfl)
    (case tk_InvalidNet => first | k_is | rfl)
    (case sa_InvalidNet => first | k_is | rfl)
    (case nf_InvalidNet => first | k_is | rfl)
    (case a_InvalidPlace => first | k_is | rfl)
    (case ei_InvalidPlace => first | k_is | rfl)
    (case kc_InvalidPlace => first | k_is | rfl)
    (case xg_InvalidPlace => first | k_is | rfl)
    (case xa_InvalidPlace => first | k_is | rfl)
    (case xn_InvalidPlace => first | k_is | rfl)
    (case xt_InvalidPlace => first | k_is | rfl)
    (case xm_InvalidPlace => first | k_is | rfl)
    (case ov_InvalidPlace => first | k_is | rfl)
    (case hd_InvalidPlace => first | k_is | rfl)
    (case tk_InvalidPlace => first | k_is | rfl)
    (case sa_InvalidPlace => first | k_is | rfl)
    (case nf_InvalidPlace => first | k_is | rfl)
    (case a_InvalidMotion => first | k_is | rfl)
    (case ei_InvalidMotion => first | k_is | rfl)
    (case kc_InvalidMotion => first | k_is | rfl)
    (case xg_InvalidMotion => first | k_is | rfl)
    (case xa_InvalidMotion => first | k_is | rfl)
    (case xn_InvalidMotion => first | k_is | rfl)
    (case xt_InvalidMotion => first | k_is | rfl)
    (case xm_InvalidMotion => first | k_is | rfl)
    (case ov_InvalidMotion => first | k_is | rfl)
    (case hd_InvalidMotion => first | k_is | rfl)
    (case tk_InvalidMotion => first | k_is | rfl)
    (case sa_InvalidMotion => first | k_is | rfl)
    (case nf_InvalidMotion => first | k_is | rfl)
    (case a_InvalidRows => first | k_is | rfl)
    (case ei_InvalidRows => first | k_is | rfl)
    (case kc_InvalidRows => first | k_is | rfl)
    (case xg_InvalidRows => first | k_is | rfl)
    (case xa_InvalidRows => first | k_is | rfl)
    (case xn_InvalidRows => first | k_is | rfl)
    (case xt_InvalidRows => first | k_is | rfl)
    (case xm_InvalidRows => first | k_is | rfl)
    (case ov_InvalidRows => first | k_is | rfl)
    (case hd_InvalidRows => first | k_is | rfl)
    (case tk_InvalidRows => first | k_is | rfl)
    (case sa_InvalidRows => first | k_is | rfl)
    (case nf_InvalidRows => first | k_is | rfl)
    (case a_InvalidColour => first | k_is | rfl)
    (case ei_InvalidColour => first | k_is | rfl)
    (case kc_InvalidColour => first | k_is | rfl)
    (case xg_InvalidColour => first | k_is | rfl)
    (case xa_InvalidColour => first | k_is | rfl)
    (case xn_InvalidColour => first | k_is | rfl)
    (case xt_InvalidColour => first | k_is | rfl)
    (case xm_InvalidColour => first | k_is | rfl)
    (case ov_InvalidColour => first | k_is | rfl)
    (case hd_InvalidColour => first | k_is | rfl)
    (case tk_InvalidColour => first | k_is | rfl)
    (case sa_InvalidColour => first | k_is | rfl)
    (case nf_InvalidColour => first | k_is | rfl)
    (case a_InvalidTable => first | k_is | rfl)
    (case ei_InvalidTable => first | k_is | rfl)
    (case kc_InvalidTable => first | k_is | rfl)
    (case xg_InvalidTable => first | k_is | rfl)
    (case xa_InvalidTable => first | k_is | rfl)
    (case xn_InvalidTable => first | k_is | rfl)
    (case xt_InvalidTable => first | k_is | rfl)
    (case xm_InvalidTable => first | k_is | rfl)
    (case ov_InvalidTable => first | k_is | rfl)
    (case hd_InvalidTable => first | k_is | rfl)
    (case tk_InvalidTable => first | k_is | rfl)
    (case sa_InvalidTable => first | k_is | rfl)
    (case nf_InvalidTable => first | k_is | rfl)
    (case a_InvalidNumber => first | k_is | rfl)
    (case ei_InvalidNumber => first | k_is | rfl)
    (case kc_InvalidNumber => first | k_is | rfl)
    (case xg_InvalidNumber => first | k_is | rfl)
    (case xa_InvalidNumber => first | k_is | rfl)
    (case xn_InvalidNumber => first | k_is | rfl)
    (case xt_InvalidNumber => first | k_is | rfl)
    (case xm_InvalidNumber => first | k_is | rfl)
    (case ov_InvalidNumber => first | k_is | rfl)
    (case hd_InvalidNumber => first | k_is | rfl)
    (case tk_InvalidNumber => first | k_is | rfl)
    (case sa_InvalidNumber => first | k_is | rfl)
    (case nf_InvalidNumber => first | k_is | rfl)
    (case a_InvalidObservation => first | k_is | rfl)
    (case ei_InvalidObservation => first | k_is | rfl)
    (case kc_InvalidObservation => first | k_is | rfl)
    (case xg_InvalidObservation => first | k_is | rfl)
    (case xa_InvalidObservation => first | k_is | rfl)
    (case xn_InvalidObservation => first | k_is | rfl)
    (case xt_InvalidObservation => first | k_is | rfl)
    (case xm_InvalidObservation => first | k_is | rfl)
    (case ov_InvalidObservation => first | k_is | rfl)
    (case hd_InvalidObservation => first | k_is | rfl)
    (case tk_InvalidObservation => first | k_is | rfl)
    (case sa_InvalidObservation => first | k_is | rfl)
    (case nf_InvalidObservation => first | k_is | rfl)
    (case a_InvalidText => first | k_is | rfl)
    (case ei_InvalidText => first | k_is | rfl)
    (case kc_InvalidText => first | k_is | rfl)
    (case xg_InvalidText => first | k_is | rfl)
    (case xa_InvalidText => first | k_is | rfl)
    (case xn_InvalidText => first | k_is | rfl)
    (case xt_InvalidText => first | k_is | rfl)
    (case xm_InvalidText => first | k_is | rfl)
    (case ov_InvalidText => first | k_is | rfl)
    (case hd_InvalidText => first | k_is | rfl)
    (case tk_InvalidText => first | k_is | rfl)
    (case sa_InvalidText => first | k_is | rfl)
    (case nf_InvalidText => first | k_is | rfl)
    (case a_InvalidCommand => first | k_is | rfl)
    (case ei_InvalidCommand => first | k_is | rfl)
    (case kc_InvalidCommand => first | k_is | rfl)
    (case xg_InvalidCommand => first | k_is | rfl)
    (case xa_InvalidCommand => first | k_is | rfl)
    (case xn_InvalidCommand => first | k_is | rfl)
    (case xt_InvalidCommand => first | k_is | rfl)
    (case xm_InvalidCommand => first | k_is | rfl)
    (case ov_InvalidCommand => first | k_is | rfl)
    (case hd_InvalidCommand => first | k_is | rfl)
    (case tk_InvalidCommand => first | k_is | rfl)
    (case sa_InvalidCommand => first | k_is | rfl)
    (case nf_InvalidCommand => first | k_is | rfl)
    (case a_LimitExceeded => first | k_is | rfl)
    (case ei_LimitExceeded => first | k_is | rfl)
    (case kc_LimitExceeded => first | k_is | rfl)
    (case xg_LimitExceeded => first | k_is | rfl)
    (case xa_LimitExceeded => first | k_is | rfl)
    (case xn_LimitExceeded => first | k_is | rfl)
    (case xt_LimitExceeded => first | k_is | rfl)
    (case xm_LimitExceeded => first | k_is | rfl)
    (case ov_LimitExceeded => first | k_is | rfl)
    (case hd_LimitExceeded => first | k_is | rfl)
    (case tk_LimitExceeded => first | k_is | rfl)
    (case sa_LimitExceeded => first | k_is | rfl)
    (case nf_LimitExceeded => first | k_is | rfl)
    (case a_UnknownName => first | k_is | rfl)
    (case ei_UnknownName => first | k_is | rfl)
    (case kc_UnknownName => first | k_is | rfl)
    (case xg_UnknownName => first | k_is | rfl)
    (case xa_UnknownName => first | k_is | rfl)
    (case xn_UnknownName => first | k_is | rfl)
    (case xt_UnknownName => first | k_is | rfl)
    (case xm_UnknownName => first | k_is | rfl)
    (case ov_UnknownName => first | k_is | rfl)
    (case hd_UnknownName => first | k_is | rfl)
    (case tk_UnknownName => first | k_is | rfl)
    (case sa_UnknownName => first | k_is | rfl)
    (case nf_UnknownName => first | k_is | rfl)
    (case a_RunFailed => first | k_is | rfl)
    (case ei_RunFailed => first | k_is | rfl)
    (case kc_RunFailed => first | k_is | rfl)
    (case xg_RunFailed => first | k_is | rfl)
    (case xa_RunFailed => first | k_is | rfl)
    (case xn_RunFailed => first | k_is | rfl)
    (case xt_RunFailed => first | k_is | rfl)
    (case xm_RunFailed => first | k_is | rfl)
    (case ov_RunFailed => first | k_is | rfl)
    (case hd_RunFailed => first | k_is | rfl)
    (case tk_RunFailed => first | k_is | rfl)
    (case sa_RunFailed => first | k_is | rfl)
    (case nf_RunFailed => first | k_is | rfl)
    (case a_NothingToUndo => first | k_is | rfl)
    (case ei_NothingToUndo => first | k_is | rfl)
    (case kc_NothingToUndo => first | k_is | rfl)
    (case xg_NothingToUndo => first | k_is | rfl)
    (case xa_NothingToUndo => first | k_is | rfl)
    (case xn_NothingToUndo => first | k_is | rfl)
    (case xt_NothingToUndo => first | k_is | rfl)
    (case xm_NothingToUndo => first | k_is | rfl)
    (case zi_NothingToUndo => first | k_is | rfl)
    (case a_InvalidNet_init => first | k_is | rfl)
    (case i_InvalidNet_init => first | k_is | rfl)
    (case l_InvalidNet_init => first | k_is | rfl)
    (case c_InvalidNet_init => first | k_is | rfl)
    (case k_InvalidNet_init => first | k_is | rfl)
    (case tf_InvalidNet => first | k_is | rfl)
    (case a_InvalidPlace_init => first | k_is | rfl)
    (case i_InvalidPlace_init => first | k_is | rfl)
    (case l_InvalidPlace_init => first | k_is | rfl)
    (case c_InvalidPlace_init => first | k_is | rfl)
    (case k_InvalidPlace_init => first | k_is | rfl)
    (case tf_InvalidPlace => first | k_is | rfl)
    (case a_InvalidMotion_init => first | k_is | rfl)
    (case i_InvalidMotion_init => first | k_is | rfl)
    (case l_InvalidMotion_init => first | k_is | rfl)
    (case c_InvalidMotion_init => first | k_is | rfl)
    (case k_InvalidMotion_init => first | k_is | rfl)
    (case tf_InvalidMotion => first | k_is | rfl)
    (case a_InvalidRows_init => first | k_is | rfl)
    (case i_InvalidRows_init => first | k_is | rfl)
    (case l_InvalidRows_init => first | k_is | rfl)
    (case c_InvalidRows_init => first | k_is | rfl)
    (case k_InvalidRows_init => first | k_is | rfl)
    (case tf_InvalidRows => first | k_is | rfl)
    (case a_InvalidColour_init => first | k_is | rfl)
    (case i_InvalidColour_init => first | k_is | rfl)
    (case l_InvalidColour_init => first | k_is | rfl)
    (case c_InvalidColour_init => first | k_is | rfl)
    (case k_InvalidColour_init => first | k_is | rfl)
    (case tf_InvalidColour => first | k_is | rfl)
    (case a_InvalidTable_init => first | k_is | rfl)
    (case i_InvalidTable_init => first | k_is | rfl)
    (case l_InvalidTable_init => first | k_is | rfl)
    (case c_InvalidTable_init => first | k_is | rfl)
    (case k_InvalidTable_init => first | k_is | rfl)
    (case tf_InvalidTable => first | k_is | rfl)
    (case a_InvalidNumber_init => first | k_is | rfl)
    (case i_InvalidNumber_init => first | k_is | rfl)
    (case l_InvalidNumber_init => first | k_is | rfl)
    (case c_InvalidNumber_init => first | k_is | rfl)
    (case k_InvalidNumber_init => first | k_is | rfl)
    (case tf_InvalidNumber => first | k_is | rfl)
    (case a_InvalidObservation_init => first | k_is | rfl)
    (case i_InvalidObservation_init => first | k_is | rfl)
    (case l_InvalidObservation_init => first | k_is | rfl)
    (case c_InvalidObservation_init => first | k_is | rfl)
    (case k_InvalidObservation_init => first | k_is | rfl)
    (case tf_InvalidObservation => first | k_is | rfl)
    (case a_InvalidText_init => first | k_is | rfl)
    (case i_InvalidText_init => first | k_is | rfl)
    (case l_InvalidText_init => first | k_is | rfl)
    (case c_InvalidText_init => first | k_is | rfl)
    (case k_InvalidText_init => first | k_is | rfl)
    (case tf_InvalidText => first | k_is | rfl)
    (case a_InvalidCommand_init => first | k_is | rfl)
    (case i_InvalidCommand_init => first | k_is | rfl)
    (case l_InvalidCommand_init => first | k_is | rfl)
    (case c_InvalidCommand_init => first | k_is | rfl)
    (case k_InvalidCommand_init => first | k_is | rfl)
    (case tf_InvalidCommand => first | k_is | rfl)
    (case a_LimitExceeded_init => first | k_is | rfl)
    (case i_LimitExceeded_init => first | k_is | rfl)
    (case l_LimitExceeded_init => first | k_is | rfl)
    (case c_LimitExceeded_init => first | k_is | rfl)
    (case k_LimitExceeded_init => first | k_is | rfl)
    (case tf_LimitExceeded => first | k_is | rfl)
    (case a_UnknownName_init => first | k_is | rfl)
    (case i_UnknownName_init => first | k_is | rfl)
    (case l_UnknownName_init => first | k_is | rfl)
    (case c_UnknownName_init => first | k_is | rfl)
    (case k_UnknownName_init => first | k_is | rfl)
    (case tf_UnknownName => first | k_is | rfl)
    (case a_RunFailed_init => first | k_is | rfl)
    (case i_RunFailed_init => first | k_is | rfl)
    (case l_RunFailed_init => first | k_is | rfl)
    (case c_RunFailed_init => first | k_is | rfl)
    (case k_RunFailed_init => first | k_is | rfl)
    (case tf_RunFailed => first | k_is | rfl)
    (case a_law_tape => first | k_is | rfl)
    (case l_law_tape => first | k_is | rfl)
    (case c_law_tape => first | k_is | rfl)
    (case k_law_tape => first | k_is | rfl)
    (case a_law_draw => first | k_is | rfl)
    (case l_law_draw => first | k_is | rfl)
    (case c_law_draw => first | k_is | rfl)
    (case k_law_draw => first | k_is | rfl)
    (case a_law_made_errors => first | k_is | rfl)
    (case l_law_made_errors => first | k_is | rfl)
    (case c_law_made_errors => first | k_is | rfl)
    (case k_law_made_errors => first | k_is | rfl)
    (case a_law_kinds_of => first | k_is | rfl)
    (case l_law_kinds_of => first | k_is | rfl)
    (case c_law_kinds_of => first | k_is | rfl)
    (case k_law_kinds_of => first | k_is | rfl)
    (case a_law_above => first | k_is | rfl)
    (case l_law_above => first | k_is | rfl)
    (case c_law_above => first | k_is | rfl)
    (case k_law_above => first | k_is | rfl)
    (case a_law => first | k_is | rfl)
    (case l_law => first | k_is | rfl)
    (case c_law => first | k_is | rfl)
    (case k_law => first | k_is | rfl)
    (case z_ArithmeticError => first | k_is | rfl)
    (case z_KeyError => first | k_is | rfl)
    (case z_OverflowError => first | k_is | rfl)
    (case z_RuntimeError => first | k_is | rfl)
    (case z_ValueError => first | k_is | rfl)
    (case z_enumerate => first | k_is | rfl)
    (case z_isinstance => first | k_is | rfl)
    (case z_len => first | k_is | rfl)
    (case z_list => first | k_is | rfl)
    (case z_range => first | k_is | rfl)
    (case z_repr => first | k_is | rfl)
    (case a_CE => first | k_is | rfl)
    (case kr_InvalidNet_InvalidNet => first | k_is | rfl)
    (case kr_InvalidNet_InvalidPlace => first | k_is | rfl)
    (case kr_InvalidNet_InvalidMotion => first | k_is | rfl)
    (case kr_InvalidNet_InvalidRows => first | k_is | rfl)
    (case kr_InvalidNet_InvalidColour => first | k_is | rfl)
    (case kr_InvalidNet_InvalidTable => first | k_is | rfl)
    (case kr_InvalidNet_InvalidNumber => first | k_is | rfl)
    (case kr_InvalidNet_InvalidObservation => first | k_is | rfl)
    (case kr_InvalidNet_InvalidText => first | k_is | rfl)
    (case kr_InvalidNet_InvalidCommand => first | k_is | rfl)
    (case kr_InvalidNet_LimitExceeded => first | k_is | rfl)
    (case kr_InvalidNet_NothingToUndo => first | k_is | rfl)
    (case kr_InvalidNet_UnknownName => first | k_is | rfl)
    (case kr_InvalidNet_RunFailed => first | k_is | rfl)
    (case kt_InvalidNet_CE => first | k_is | rfl)
    (case kt_InvalidNet_ValueError => first | k_is | rfl)
    (case kt_InvalidNet_OverflowError => first | k_is | rfl)
    (case kt_InvalidNet_RuntimeError => first | k_is | rfl)
    (case kt_InvalidNet_KeyError => first | k_is | rfl)
    (case kt_InvalidNet_ArithmeticError => first | k_is | rfl)
    (case kr_InvalidPlace_InvalidNet => first | k_is | rfl)
    (case kr_InvalidPlace_InvalidPlace => first | k_is | rfl)
    (case kr_InvalidPlace_InvalidMotion => first | k_is | rfl)
    (case kr_InvalidPlace_InvalidRows => first | k_is | rfl)
    (case kr_InvalidPlace_InvalidColour => first | k_is | rfl)
    (case kr_InvalidPlace_InvalidTable => first | k_is | rfl)
    (case kr_InvalidPlace_InvalidNumber => first | k_is | rfl)
    (case kr_InvalidPlace_InvalidObservation => first | k_is | rfl)
    (case kr_InvalidPlace_InvalidText => first | k_is | rfl)
    (case kr_InvalidPlace_InvalidCommand => first | k_is | rfl)
    (case kr_InvalidPlace_LimitExceeded => first | k_is | rfl)
    (case kr_InvalidPlace_NothingToUndo => first | k_is | rfl)
    (case kr_InvalidPlace_UnknownName => first | k_is | rfl)
    (case kr_InvalidPlace_RunFailed => first | k_is | rfl)
    (case kt_InvalidPlace_CE => first | k_is | rfl)
    (case kt_InvalidPlace_ValueError => first | k_is | rfl)
    (case kt_InvalidPlace_OverflowError => first | k_is | rfl)
    (case kt_InvalidPlace_RuntimeError => first | k_is | rfl)
    (case kt_InvalidPlace_KeyError => first | k_is | rfl)
    (case kt_InvalidPlace_ArithmeticError => first | k_is | rfl)
    (case kr_InvalidMotion_InvalidNet => first | k_is | rfl)
    (case kr_InvalidMotion_InvalidPlace => first | k_is | rfl)
    (case kr_InvalidMotion_InvalidMotion => first | k_is | rfl)
    (case kr_InvalidMotion_InvalidRows => first | k_is | rfl)
    (case kr_InvalidMotion_InvalidColour => first | k_is | rfl)
    (case kr_InvalidMotion_InvalidTable => first | k_is | rfl)
    (case kr_InvalidMotion_InvalidNumber => first | k_is | rfl)
    (case kr_InvalidMotion_InvalidObservation => first | k_is | rfl)
    (case kr_InvalidMotion_InvalidText => first | k_is | rfl)
    (case kr_InvalidMotion_InvalidCommand => first | k_is | rfl)
    (case kr_InvalidMotion_LimitExceeded => first | k_is | rfl)
    (case kr_InvalidMotion_NothingToUndo => first | k_is | rfl)
    (case kr_InvalidMotion_UnknownName => first | k_is | rfl)
    (case kr_InvalidMotion_RunFailed => first | k_is | rfl)
    (case kt_InvalidMotion_CE => first | k_is | rfl)
    (case kt_InvalidMotion_ValueError => first | k_is | rfl)
    (case kt_InvalidMotion_OverflowError => first | k_is | rfl)
    (case kt_InvalidMotion_RuntimeError => first | k_is | rfl)
    (case kt_InvalidMotion_KeyError => first | k_is | rfl)
    (case kt_InvalidMotion_ArithmeticError => first | k_is | rfl)
    (case kr_InvalidRows_InvalidNet => first | k_is | rfl)
    (case kr_InvalidRows_InvalidPlace => first | k_is | rfl)
    (case kr_InvalidRows_InvalidMotion => first | k_is | rfl)
    (case kr_InvalidRows_InvalidRows => first | k_is | rfl)
    (case kr_InvalidRows_InvalidColour => first | k_is | rfl)
    (case kr_InvalidRows_InvalidTable => first | k_is | rfl)
    (case kr_InvalidRows_InvalidNumber => first | k_is | rfl)
    (case kr_InvalidRows_InvalidObservation => first | k_is | rfl)
    (case kr_InvalidRows_InvalidText => first | k_is | rfl)
    (case kr_InvalidRows_InvalidCommand => first | k_is | rfl)
    (case kr_InvalidRows_LimitExceeded => first | k_is | rfl)
    (case kr_InvalidRows_NothingToUndo => first | k_is | rfl)
    (case kr_InvalidRows_UnknownName => first | k_is | rfl)
    (case kr_InvalidRows_RunFailed => first | k_is | rfl)
    (case kt_InvalidRows_CE => first | k_is | rfl)
    (case kt_InvalidRows_ValueError => first | k_is | rfl)
    (case kt_InvalidRows_OverflowError => first | k_is | rfl)
    (case kt_InvalidRows_RuntimeError => first | k_is | rfl)
    (case kt_InvalidRows_KeyError => first | k_is | rfl)
    (case kt_InvalidRows_ArithmeticError => first | k_is | rfl)
    (case kr_InvalidColour_InvalidNet => first | k_is | rfl)
    (case kr_InvalidColour_InvalidPlace => first | k_is | rfl)
    (case kr_InvalidColour_InvalidMotion => first | k_is | rfl)
    (case kr_InvalidColour_InvalidRows => first | k_is | rfl)
    (case kr_InvalidColour_InvalidColour => first | k_is | rfl)
    (case kr_InvalidColour_InvalidTable => first | k_is | rfl)
    (case kr_InvalidColour_InvalidNumber => first | k_is | rfl)
    (case kr_InvalidColour_InvalidObservation => first | k_is | rfl)
    (case kr_InvalidColour_InvalidText => first | k_is | rfl)
    (case kr_InvalidColour_InvalidCommand => first | k_is | rfl)
    (case kr_InvalidColour_LimitExceeded => first | k_is | rfl)
    (case kr_InvalidColour_NothingToUndo => first | k_is | rfl)
    (case kr_InvalidColour_UnknownName => first | k_is | rfl)
    (case kr_InvalidColour_RunFailed => first | k_is | rfl)
    (case kt_InvalidColour_CE => first | k_is | rfl)
    (case kt_InvalidColour_ValueError => first | k_is | rfl)
    (case kt_InvalidColour_OverflowError => first | k_is | rfl)
    (case kt_InvalidColour_RuntimeError => first | k_is | rfl)
    (case kt_InvalidColour_KeyError => first | k_is | rfl)
    (case kt_InvalidColour_ArithmeticError => first | k_is | rfl)
    (case kr_InvalidTable_InvalidNet => first | k_is | rfl)
    (case kr_InvalidTable_InvalidPlace => first | k_is | rfl)
    (case kr_InvalidTable_InvalidMotion => first | k_is | rfl)
    (case kr_InvalidTable_InvalidRows => first | k_is | rfl)
    (case kr_InvalidTable_InvalidColour => first | k_is | rfl)
    (case kr_InvalidTable_InvalidTable => first | k_is | rfl)
    (case kr_InvalidTable_InvalidNumber => first | k_is | rfl)
    (case kr_InvalidTable_InvalidObservation => first | k_is | rfl)
    (case kr_InvalidTable_InvalidText => first | k_is | rfl)
    (case kr_InvalidTable_InvalidCommand => first | k_is | rfl)
    (case kr_InvalidTable_LimitExceeded => first | k_is | rfl)
    (case kr_InvalidTable_NothingToUndo => first | k_is | rfl)
    (case kr_InvalidTable_UnknownName => first | k_is | rfl)
    (case kr_InvalidTable_RunFailed => first | k_is | rfl)
    (case kt_InvalidTable_CE => first | k_is | rfl)
    (case kt_InvalidTable_ValueError => first | k_is | rfl)
    (case kt_InvalidTable_OverflowError => first | k_is | rfl)
    (case kt_InvalidTable_RuntimeError => first | k_is | rfl)
    (case kt_InvalidTable_KeyError => first | k_is | rfl)
    (case kt_InvalidTable_ArithmeticError => first | k_is | rfl)
    (case kr_InvalidNumber_InvalidNet => first | k_is | rfl)
    (case kr_InvalidNumber_InvalidPlace => first | k_is | rfl)
    (case kr_InvalidNumber_InvalidMotion => first | k_is | rfl)
    (case kr_InvalidNumber_InvalidRows => first | k_is | rfl)
    (case kr_InvalidNumber_InvalidColour => first | k_is | rfl)
    (case kr_InvalidNumber_InvalidTable => first | k_is | rfl)
    (case kr_InvalidNumber_InvalidNumber => first | k_is | rfl)
    (case kr_InvalidNumber_InvalidObservation => first | k_is | rfl)
    (case kr_InvalidNumber_InvalidText => first | k_is | rfl)
    (case kr_InvalidNumber_InvalidCommand => first | k_is | rfl)
    (case kr_InvalidNumber_LimitExceeded => first | k_is | rfl)
    (case kr_InvalidNumber_NothingToUndo => first | k_is | rfl)
    (case kr_InvalidNumber_UnknownName => first | k_is | rfl)
    (case kr_InvalidNumber_RunFailed => first | k_is | rfl)
    (case kt_InvalidNumber_CE => first | k_is | rfl)
    (case kt_InvalidNumber_ValueError => first | k_is | rfl)
    (case kt_InvalidNumber_OverflowError => first | k_is | rfl)
    (case kt_InvalidNumber_RuntimeError => first | k_is | rfl)
    (case kt_InvalidNumber_KeyError => first | k_is | rfl)
    (case kt_InvalidNumber_ArithmeticError => first | k_is | rfl)
    (case kr_InvalidObservation_InvalidNet => first | k_is | rfl)
    (case kr_InvalidObservation_InvalidPlace => first | k_is | rfl)
    (case kr_InvalidObservation_InvalidMotion => first | k_is | rfl)
    (case kr_InvalidObservation_InvalidRows => first | k_is | rfl)
    (case kr_InvalidObservation_InvalidColour => first | k_is | rfl)
    (case kr_InvalidObservation_InvalidTable => first | k_is | rfl)
    (case kr_InvalidObservation_InvalidNumber => first | k_is | rfl)
    (case kr_InvalidObservation_InvalidObservation => first | k_is | rfl)
    (case kr_InvalidObservation_InvalidText => first | k_is | rfl)
    (case kr_InvalidObservation_InvalidCommand => first | k_is | rfl)
    (case kr_InvalidObservation_LimitExceeded => first | k_is | rfl)
    (case kr_InvalidObservation_NothingToUndo => first | k_is | rfl)
    (case kr_InvalidObservation_UnknownName => first | k_is | rfl)
    (case kr_InvalidObservation_RunFailed => first | k_is | rfl)
    (case kt_InvalidObservation_CE => first | k_is | rfl)
    (case kt_InvalidObservation_ValueError => first | k_is | rfl)
    (case kt_InvalidObservation_OverflowError => first | k_is | rfl)
    (case kt_InvalidObservation_RuntimeError => first | k_is | rfl)
    (case kt_InvalidObservation_KeyError => first | k_is | rfl)
    (case kt_InvalidObservation_ArithmeticError => first | k_is | rfl)
    (case kr_InvalidText_InvalidNet => first | k_is | rfl)
    (case kr_InvalidText_InvalidPlace => first | k_is | rfl)
    (case kr_InvalidText_InvalidMotion => first | k_is | rfl)
    (case kr_InvalidText_InvalidRows => first | k_is | rfl)
    (case kr_InvalidText_InvalidColour => first | k_is | rfl)
    (case kr_InvalidText_InvalidTable => first | k_is | rfl)
    (case kr_InvalidText_InvalidNumber => first | k_is | rfl)
    (case kr_InvalidText_InvalidObservation => first | k_is | rfl)
    (case kr_InvalidText_InvalidText => first | k_is | rfl)
    (case kr_InvalidText_InvalidCommand => first | k_is | rfl)
    (case kr_InvalidText_LimitExceeded => first | k_is | rfl)
    (case kr_InvalidText_NothingToUndo => first | k_is | rfl)
    (case kr_InvalidText_UnknownName => first | k_is | rfl)
    (case kr_InvalidText_RunFailed => first | k_is | rfl)
    (case kt_InvalidText_CE => first | k_is | rfl)
    (case kt_InvalidText_ValueError => first | k_is | rfl)
    (case kt_InvalidText_OverflowError => first | k_is | rfl)
    (case kt_InvalidText_RuntimeError => first | k_is | rfl)
    (case kt_InvalidText_KeyError => first | k_is | rfl)
    (case kt_InvalidText_ArithmeticError => first | k_is | rfl)
    (case kr_InvalidCommand_InvalidNet => first | k_is | rfl)
    (case kr_InvalidCommand_InvalidPlace => first | k_is | rfl)
    (case kr_InvalidCommand_InvalidMotion => first | k_is | rfl)
    (case kr_InvalidCommand_InvalidRows => first | k_is | rfl)
    (case kr_InvalidCommand_InvalidColour => first | k_is | rfl)
    (case kr_InvalidCommand_InvalidTable => first | k_is | rfl)
    (case kr_InvalidCommand_InvalidNumber => first | k_is | rfl)
    (case kr_InvalidCommand_InvalidObservation => first | k_is | rfl)
    (case kr_InvalidCommand_InvalidText => first | k_is | rfl)
    (case kr_InvalidCommand_InvalidCommand => first | k_is | rfl)
    (case kr_InvalidCommand_LimitExceeded => first | k_is | rfl)
    (case kr_InvalidCommand_NothingToUndo => first | k_is | rfl)
    (case kr_InvalidCommand_UnknownName => first | k_is | rfl)
    (case kr_InvalidCommand_RunFailed => first | k_is | rfl)
    (case kt_InvalidCommand_CE => first | k_is | rfl)
    (case kt_InvalidCommand_ValueError => first | k_is | rfl)
    (case kt_InvalidCommand_OverflowError => first | k_is | rfl)
    (case kt_InvalidCommand_RuntimeError => first | k_is | rfl)
    (case kt_InvalidCommand_KeyError => first | k_is | rfl)
    (case kt_InvalidCommand_ArithmeticError => first | k_is | rfl)
    (case kr_LimitExceeded_InvalidNet => first | k_is | rfl)
    (case kr_LimitExceeded_InvalidPlace => first | k_is | rfl)
    (case kr_LimitExceeded_InvalidMotion => first | k_is | rfl)
    (case kr_LimitExceeded_InvalidRows => first | k_is | rfl)
    (case kr_LimitExceeded_InvalidColour => first | k_is | rfl)
    (case kr_LimitExceeded_InvalidTable => first | k_is | rfl)
    (case kr_LimitExceeded_InvalidNumber => first | k_is | rfl)
    (case kr_LimitExceeded_InvalidObservation => first | k_is | rfl)
    (case kr_LimitExceeded_InvalidText => first | k_is | rfl)
    (case kr_LimitExceeded_InvalidCommand => first | k_is | rfl)
    (case kr_LimitExceeded_LimitExceeded => first | k_is | rfl)
    (case kr_LimitExceeded_NothingToUndo => first | k_is | rfl)
    (case kr_LimitExceeded_UnknownName => first | k_is | rfl)
    (case kr_LimitExceeded_RunFailed => first | k_is | rfl)
    (case kt_LimitExceeded_CE => first | k_is | rfl)
    (case kt_LimitExceeded_ValueError => first | k_is | rfl)
    (case kt_LimitExceeded_OverflowError => first | k_is | rfl)
    (case kt_LimitExceeded_RuntimeError => first | k_is | rfl)
    (case kt_LimitExceeded_KeyError => first | k_is | rfl)
    (case kt_LimitExceeded_ArithmeticError => first | k_is | rfl)
    (case kr_NothingToUndo_InvalidNet => first | k_is | rfl)
    (case kr_NothingToUndo_InvalidPlace => first | k_is | rfl)
    (case kr_NothingToUndo_InvalidMotion => first | k_is | rfl)
    (case kr_NothingToUndo_InvalidRows => first | k_is | rfl)
    (case kr_NothingToUndo_InvalidColour => first | k_is | rfl)
    (case kr_NothingToUndo_InvalidTable => first | k_is | rfl)
    (case kr_NothingToUndo_InvalidNumber => first | k_is | rfl)
    (case kr_NothingToUndo_InvalidObservation => first | k_is | rfl)
    (case kr_NothingToUndo_InvalidText => first | k_is | rfl)
    (case kr_NothingToUndo_InvalidCommand => first | k_is | rfl)
    (case kr_NothingToUndo_LimitExceeded => first | k_is | rfl)
    (case kr_NothingToUndo_NothingToUndo => first | k_is | rfl)
    (case kr_NothingToUndo_UnknownName => first | k_is | rfl)
    (case kr_NothingToUndo_RunFailed => first | k_is | rfl)
    (case kt_NothingToUndo_CE => first | k_is | rfl)
    (case kt_NothingToUndo_ValueError => first | k_is | rfl)
    (case kt_NothingToUndo_OverflowError => first | k_is | rfl)
    (case kt_NothingToUndo_RuntimeError => first | k_is | rfl)
    (case kt_NothingToUndo_KeyError => first | k_is | rfl)
    (case kt_NothingToUndo_ArithmeticError => first | k_is | rfl)
    (case kr_UnknownName_InvalidNet => first | k_is | rfl)
    (case kr_UnknownName_InvalidPlace => first | k_is | rfl)
    (case kr_UnknownName_InvalidMotion => first | k_is | rfl)
    (case kr_UnknownName_InvalidRows => first | k_is | rfl)
    (case kr_UnknownName_InvalidColour => first | k_is | rfl)
    (case kr_UnknownName_InvalidTable => first | k_is | rfl)
    (case kr_UnknownName_InvalidNumber => first | k_is | rfl)
    (case kr_UnknownName_InvalidObservation => first | k_is | rfl)
    (case kr_UnknownName_InvalidText => first | k_is | rfl)
    (case kr_UnknownName_InvalidCommand => first | k_is | rfl)
    (case kr_UnknownName_LimitExceeded => first | k_is | rfl)
    (case kr_UnknownName_NothingToUndo => first | k_is | rfl)
    (case kr_UnknownName_UnknownName => first | k_is | rfl)
    (case kr_UnknownName_RunFailed => first | k_is | rfl)
    (case kt_UnknownName_CE => first | k_is | rfl)
    (case kt_UnknownName_ValueError => first | k_is | rfl)
    (case kt_UnknownName_OverflowError => first | k_is | rfl)
    (case kt_UnknownName_RuntimeError => first | k_is | rfl)
    (case kt_UnknownName_KeyError => first | k_is | rfl)
    (case kt_UnknownName_ArithmeticError => first | k_is | rfl)
    (case kr_RunFailed_InvalidNet => first | k_is | rfl)
    (case kr_RunFailed_InvalidPlace => first | k_is | rfl)
    (case kr_RunFailed_InvalidMotion => first | k_is | rfl)
    (case kr_RunFailed_InvalidRows => first | k_is | rfl)
    (case kr_RunFailed_InvalidColour => first | k_is | rfl)
    (case kr_RunFailed_InvalidTable => first | k_is | rfl)
    (case kr_RunFailed_InvalidNumber => first | k_is | rfl)
    (case kr_RunFailed_InvalidObservation => first | k_is | rfl)
    (case kr_RunFailed_InvalidText => first | k_is | rfl)
    (case kr_RunFailed_InvalidCommand => first | k_is | rfl)
    (case kr_RunFailed_LimitExceeded => first | k_is | rfl)
    (case kr_RunFailed_NothingToUndo => first | k_is | rfl)
    (case kr_RunFailed_UnknownName => first | k_is | rfl)
    (case kr_RunFailed_RunFailed => first | k_is | rfl)
    (case kt_RunFailed_CE => first | k_is | rfl)
    (case kt_RunFailed_ValueError => first | k_is | rfl)
    (case kt_RunFailed_OverflowError => first | k_is | rfl)
    (case kt_RunFailed_RuntimeError => first | k_is | rfl)
    (case kt_RunFailed_KeyError => first | k_is | rfl)
    (case kt_RunFailed_ArithmeticError => first | k_is | rfl)

