import PyProof.Rows.All
import Wide.All
import OpenK.AllK
import Wide.FinOn
import HandS.ForMost
import HandS.ForExc
import HandS.Wide
import HandS.Gcd
import HandS.IsInst
import HandS.Property
import HandS.Flow
import HandS.RaiseMore
import HandS.Ends
import HandS.Style
import OpenK.KMeth
import KE.KOpsOwn
import KE.KCallOwn
import HandS.ClsMeth
import HandS.Defaults
import HandS.FStr
import OpenK.KOps
import PySem.Challenge.RW_carpets_k07_motions_and_their_products
set_option Elab.async false
set_option linter.all false
set_option maxRecDepth 100000
set_option maxHeartbeats 2000000
/-! MVA: calls that know that no repr is under way (A.guards), and rules of calls over them. -/
namespace MV
open PySem PySem.Spec PyProof.Rows L2

/-- as FnOk, asked only where no repr is under way -/
structure FnG (P : Program) (w : World) (K : PySem.W.Frag) (mg : Str → Option Value) (base : Heap) (CX : CXT)
    (k : Nat) (f : Addr) (fd : FuncData) (ps : List Str) (sp : Sp) : Prop where
  ln : ∀ vs H Q E, sp vs H Q E → vs.length = ps.length
  go : ∀ (A : Around) (outer : List Env) (s : Shared) (H : Hp) (args : Args) (us : List Value) (vs : List V) (Q : VK) (E : XK),
    Room k A → A.guards = some [] → Env0 P w K mg base A outer s H → BindsTo s fd args (ps.zip us) → Vals vs us →
    sp vs H Q E → codeAny (model P w) A (.call (.ref f) args) (CR CX outer P w H s Q E) s

section
variable {P : Program} {w : World} {K : PySem.W.Frag} {mg : Str → Option Value} {base : Heap} {CX : CXT}
  {k j : Nat} {f : Addr} {fd : FuncData} {ps : List Str} {sp sp' : Sp}

theorem FnG.ofOk (F : FnOk P w K mg base CX k f fd ps sp) : FnG P w K mg base CX k f fd ps sp where
  ln := F.len
  go A outer s H args us vs Q E r _ e b v q := F.run A outer s H args us vs Q E r e b v q

theorem FnG.up (F : FnG P w K mg base CX j f fd ps sp) (h : j ≤ k) : FnG P w K mg base CX k f fd ps sp where
  ln := F.ln
  go A outer s H args us vs Q E r g e b v q := F.go A outer s H args us vs Q E (r.mono h) g e b v q

/-- the rule of a def, the context of its body knowing that no repr is under way -/
theorem fng_of {name qual : Str} {params : Arguments} {body : List Stmt} {scope : Scope} {dV kV doc pm cdv ct oc : Value}
    {an od : Option Addr} {osl : Array (Option Value)} {N : List Str}
    (lk : K.lookup f = some ⟨oc, od, .func (PySem.W.fnOf name qual params body scope dV kV doc pm an cdv ct), osl⟩)
    (hcd : PySem.W.codeIn K cdv qual = true) (S : FnScope N ps scope)
    (ln : ∀ vs H Q E, sp vs H Q E → vs.length = ps.length)
    (hbody : ∀ (A : Around) (outer : List Env) (s : Shared) (H : Hp) (vs : List V) (Q : VK) (E : XK),
      Room k (A.deeper (envOfC qual scope s.heap.objs.size f cdv)) →
      (A.deeper (envOfC qual scope s.heap.objs.size f cdv)).guards = some [] → sp vs H Q E →
      ∃ t, PSs (cxOf CX P w K mg base N qual scope f cdv A outer s H E) body t ∧
        t { nx := fun _ H' => Q .non H', rt := Q } (start N vs) H) :
    FnG P w K mg base CX (k + 1) f (PySem.W.fnOf name qual params body scope dV kV doc pm an cdv ct) ps sp where
  ln := ln
  go A outer s H args us vs Q E hr hg e0 hb r hsp := by
    have keep := fun b o e => (e0.bs b o e).1
    have KX : K.In s.heap := e0.mod.kin.keeps keep
    have kinds : ∀ y ∈ ps.zip us, scope.names.lookup y.1 = some .local ∨ (scope.names.lookup y.1 = some .cell ∧
        ((cellsFrom (s.heap.objs.size + 1) scope.names []).lookup y.1).isSome = true) := by
      rintro ⟨n, v⟩ hy
      cases S.par n (List.of_mem_zip hy).1 with
      | inl q => exact .inl q
      | inr q => exact .inr ⟨q, PySem.W.cellsFrom_some _ _ _ (.inl q)⟩
    apply codeAny_call_function hr.depth (KX _ _ lk) rfl S.co S.gen rfl (PySem.W.codeRec_of KX hcd)
    refine hb _ _ _ _ (wpAny_newFunctionEnv_cells S.kind kinds ?_)
    rintro env rfl s1 x
    refine ⟨(e0.mod.nolimit.keeps keep).keeps x.toInCall.keep, codeAny_func ?_⟩
    obtain ⟨t, ht, q⟩ := hbody A outer s H vs Q E (hr.deeper _) hg hsp
    have I := inv_start (CX := CX) (E := E) S hr.hd e0 (ln _ _ _ _ hsp) r x
    apply wpAny_mono (ht.run [] s1 _ H _ I q)
    · intro fl s' hs
      cases fl with
      | brk => exact (let ⟨_, _, _, z⟩ := hs; False.elim z)
      | cont => exact (let ⟨_, _, _, z⟩ := hs; False.elim z)
      | ret u => exact (let ⟨v, _, H', J, rv, z⟩ := hs; ⟨v, H', J.os, J.bare, J.base, J.hok, rv, z⟩)
      | next => exact (let ⟨_, H', J, z⟩ := hs; ⟨V.non, H', J.os, J.bare, J.base, J.hok, rfl, z⟩)
    · exact fun _ _ hs => hs

/-- the rule of a def of the text; what it raises lies as CX says -/
theorem Fun.g {x qual : Str} {st : Stmt} {N : List Str} (F : Fun K x qual st f fd) (S : FnScope N ps (defScope st))
    (ln : ∀ vs H Q E, sp vs H Q E → vs.length = ps.length)
    (hb : ∀ (cdv : Value) (A : Around) (outer : List Env) (s : Shared) (H : Hp) (vs : List V) (Q : VK) (E : XK),
      Room k (A.deeper (envOfC qual (defScope st) s.heap.objs.size f cdv)) →
      (A.deeper (envOfC qual (defScope st) s.heap.objs.size f cdv)).guards = some [] → sp vs H Q E →
      ∃ t, PSs (cxOf CX P w K mg base N qual (defScope st) f cdv A outer s H E) (defBody st) t ∧
        t { nx := fun _ H' => Q .non H', rt := Q } (start N vs) H) :
    FnG P w K mg base CX (k + 1) f fd ps sp := by
  obtain ⟨oc, od, kV, doc, pm, an, cdv, ct, osl, rfl, lk, hcd⟩ := F.ex
  exact fng_of lk hcd S ln fun A outer s H vs Q E hr hg h => hb cdv A outer s H vs Q E hr hg h

/-- as Fun.g, for a def of which nothing comes out but values: with loops -/
theorem Fun.gn {x qual : Str} {st : Stmt} {N : List Str} (F : Fun K x qual st f fd) (S : FnScope N ps (defScope st))
    (ln : ∀ vs H Q E, sp vs H Q E → vs.length = ps.length)
    (hb : ∀ (cdv : Value) (A : Around) (outer : List Env) (s : Shared) (H : Hp) (vs : List V) (Q : VK) (E : XK),
      Room k (A.deeper (envOfC qual (defScope st) s.heap.objs.size f cdv)) →
      (A.deeper (envOfC qual (defScope st) s.heap.objs.size f cdv)).guards = some [] → sp vs H Q E →
      ∃ t, PSs (cxOf CX P w K mg base N qual (defScope st) f cdv A outer s H E).nox (defBody st) t ∧
        t { nx := fun _ H' => Q .non H', rt := Q } (start N vs) H) :
    FnG P w K mg base CX (k + 1) f fd ps sp :=
  Fun.g F S ln fun cdv A outer s H vs Q E hr hg h => (let ⟨t, p, q⟩ := hb cdv A outer s H vs Q E hr hg h; ⟨t, p.nox, q⟩)
end

/-! ### the call of such a def, by values and in the text -/
section
variable {X : Cx} {CX : CXT} {k : Nat} {f C : Addr} {fd : FuncData} {ps : List Str} {sp : Sp} {dvs : List V} {ds : List Value}
  {E : XK} {x m : Str} {p pos apos : Pos} {e o : Expr} {es : List Expr} {ta : TE} {t : TA}

/-- what a caller reads off a callee's end -/
def Back (X : Cx) (pins : List (Addr × Obj)) (σ : L2.St) (Q : VK) : Result → Shared → Prop
  | .ok (.ret u), s' => EP X pins σ Q u s'
  | .ok _, _ => False
  | .error z, s' => X.xe z s'
theorem ended {pins : List (Addr × Obj)} {σ : L2.St} {H : Hp} {s s' : Shared} {Q : VK} {r : Result} (hx : Passes CX X E)
    (I : Inv X pins σ H s) (h : CR CX X.stack X.prog X.w H s Q E r s') :
    Back X pins σ Q r s' := by
  match r, h with
  | .ok (.ret u), h => exact I.after h
  | .ok .next, h => exact h
  | .ok .brk, h => exact h
  | .ok .cont, h => exact h
  | .error z, h => exact hx pins σ H s z s' I h

theorem runG {A : Around} {pins : List (Addr × Obj)} {σ : L2.St} {H : Hp} {s : Shared} {Q : VK} {us : List Value} {vs : List V}
    (F : FnG X.prog X.w X.K X.mg X.base CX k f fd ps sp) (hr : Room k A) (hg : A.guards = some [])
    (e0 : Env0 X.prog X.w X.K X.mg X.base A X.stack s H) (hb : Binds X.K fd ps ds) (hd : Vals dvs ds) (hx : Passes CX X E)
    (I : Inv X pins σ H s) (r : Vals vs us) (h : sp (vs ++ dvs) H Q E) :
    codeAny (model X.prog X.w) A (.call (.ref f) ⟨us, []⟩) (Back X pins σ Q) s := by
  have r2 := r.append hd
  have hl : (us ++ ds).length = ps.length := r2.length.symm.trans (F.ln _ _ _ _ h)
  exact codeAny_mono (F.go A X.stack s H ⟨us, []⟩ (us ++ ds) (vs ++ dvs) Q E hr hg e0 (hb s us I.kIn hl) r2 h)
    fun r s' hq => ended hx I hq

/-- a call by values -/
theorem callG {pins : List (Addr × Obj)} {σ : L2.St} {H : Hp} {s : Shared} {Q : VK} {us : List Value} {vs : List V}
    (F : FnG X.prog X.w X.K X.mg X.base CX k f fd ps sp) (hr : Room k X.A) (hg : X.A.guards = some [])
    (hb : Binds X.K fd ps ds) (hd : Vals dvs ds) (hx : Passes CX X E)
    (I : Inv X pins σ H s) (r : Vals vs us) (h : sp (vs ++ dvs) H Q E) :
    wpAny (model X.prog X.w) X.A (call (.ref f) us) (EP X pins σ Q) X.xe s := by
  refine wpAny_call (codeAny_mono (runG F hr hg I.env0 hb hd hx I r h) fun z s' q => ?_)
  match z, q with
  | .ok (.ret _), q => exact q
  | .error _, q => exact q

theorem peg_call (F : FnG X.prog X.w X.K X.mg X.base CX k f fd ps sp) (hr : Room k X.A) (hg : X.A.guards = some [])
    (hn : Gl X x) (hm : X.mg x = some (.ref f)) (hk : PySem.W.keepIn X.K (.ref f) = true) (hb : Binds X.K fd ps ds)
    (hd : Vals dvs ds) (hx : Passes CX X E) (ha : PA X (e :: es) t)
    (hdb : (x == ("__debug__" : Str)) = false := by decide)
    (he : starEach (e :: es) X.env = (false, eval e X.env) :: starEach es X.env := by rfl)
    (hpl : (backTo pos (starEach es X.env)).any (·.1) = false := by rfl) :
    PE X (.Call (.Name x p) (e :: es) [] pos) (tCall sp dvs E t) := by
  constructor
  intro pins s σ H Q I h
  apply wpAny_Call_Name_kw
  refine ld_glob I hn hm (PySem.W.callWith_K (h₀ := X.base) I.ok.mod.kin hk ?_ he hpl) hdb
  exact thn (ha.run pos pins s σ H _ I h) fun us s1 ⟨vs, H1, I1, r, q⟩ => ⟨I1.kIn, callG F hr hg hb hd hx I1 r q⟩

theorem peg_call0 (F : FnG X.prog X.w X.K X.mg X.base CX k f fd ps sp) (hr : Room k X.A) (hg : X.A.guards = some [])
    (hn : Gl X x) (hm : X.mg x = some (.ref f)) (hk : PySem.W.keepIn X.K (.ref f) = true) (hb : Binds X.K fd ps ds)
    (hd : Vals dvs ds) (hx : Passes CX X E) (hdb : (x == ("__debug__" : Str)) = false := by decide) :
    PE X (.Call (.Name x p) [] [] pos) (tCall sp dvs E tNil) := by
  constructor
  intro pins s σ H Q I h
  apply wpAny_Call_Name_kw
  exact ld_glob I hn hm (PySem.W.callWith_K0 I.kIn hk (callG (us := []) F hr hg hb hd hx I .nil h)) hdb

/-- o.m(..) -/
theorem peg_meth {pl : Sem Bool} (he : PE X o ta) (c : Cls X.K C) (hm : Meth X.K C m f)
    (F : FnG X.prog X.w X.K X.mg X.base CX k f fd ps sp) (hr : Room k X.A) (hg : X.A.guards = some [])
    (hb : Binds X.K fd ps ds) (hd : Vals dvs ds) (hx : Passes CX X E) (ha : PA X (e :: es) t)
    (hst : starEach (e :: es) X.env = (false, eval e X.env) :: starEach es X.env := by rfl)
    (hpl : (backTo pos (starEach es X.env)).any (·.1) = false := by rfl)
    (ht : eval (.Call (.Attribute o m apos) (e :: es) [] pos) X.env = (do
      let ov ← eval o X.env
      standAt apos.atName
      let (g, first) ← holding [ov] (getMethod ov m pl)
      callWith pos g first (backTo pos (starEach (e :: es) X.env)) (backToKw pos (keywordEach [] X.env))) := by rfl) :
    PE X (.Call (.Attribute o m apos) (e :: es) [] pos) (tMeth C m sp dvs E ta t) := by
  constructor
  intro pins s σ H Q I h
  refine PySem.W.methodCall_KW (pl := pl) (thn (he.run pins s σ H _ I h) ?_) ht
  rintro u s1 ⟨_, H1, I1, rx, a, dx, fs, rfl, ea, l, q⟩
  cases rx
  refine getmeth_ok I1 ea c hm l (PySem.W.callWith_K (first := [.ref a]) (h₀ := X.base) I.ok.mod.kin hm.kp ?_ hst hpl)
  refine thn (ha.run pos pins s1 σ H1 _ I1 q) fun us s2 ⟨vs, H2, I2, r, q2⟩ => ⟨I2.kIn, ?_⟩
  exact callG (us := .ref a :: us) (vs := .ref a :: vs) F hr hg hb hd hx I2 (.cons rfl r) q2

theorem peg_meth0 {pl : Sem Bool} (he : PE X o ta) (c : Cls X.K C) (hm : Meth X.K C m f)
    (F : FnG X.prog X.w X.K X.mg X.base CX k f fd ps sp) (hr : Room k X.A) (hg : X.A.guards = some [])
    (hb : Binds X.K fd ps ds) (hd : Vals dvs ds) (hx : Passes CX X E)
    (ht : eval (.Call (.Attribute o m apos) [] [] pos) X.env = (do
      let ov ← eval o X.env
      standAt apos.atName
      let (g, first) ← holding [ov] (getMethod ov m pl)
      callWith pos g first (backTo pos (starEach [] X.env)) (backToKw pos (keywordEach [] X.env))) := by rfl) :
    PE X (.Call (.Attribute o m apos) [] [] pos) (tMeth C m sp dvs E ta tNil) := by
  constructor
  intro pins s σ H Q I h
  refine PySem.W.methodCall_KW (pl := pl) (thn (he.run pins s σ H _ I h) ?_) ht
  rintro u s1 ⟨_, H1, I1, rx, a, dx, fs, rfl, ea, l, q⟩
  cases rx
  refine getmeth_ok I1 ea c hm l (PySem.W.callWith_K0 (first := [.ref a]) I1.kIn hm.kp ?_)
  exact callG (us := [.ref a]) (vs := [.ref a]) F hr hg hb hd hx I1 (.cons rfl .nil) q

theorem guards_make {A : Around} (h : A.guards = some []) (C : Addr) (us : List Value) (kw : List (Str × Value)) :
    (A.under (.builtin "type.__call__" ⟨.ref C :: us, kw⟩)).guards = some [] := by
  have z : ∀ c : Code, c.isGuard = false → (A.under c).guards = A.guards := fun c hc => by
    simp [Around.under, Code.guards, hc, pushGuards]
  rw [z _ rfl, h]

/-- C(..), by values -/
theorem makeG {pins : List (Addr × Obj)} {σ : L2.St} {H : Hp} {s : Shared} {Q : VK} {us : List Value} {vs : List V} (M : Mk X.K C f)
    (F : FnG X.prog X.w X.K X.mg X.base CX k f fd ps sp) (hr : Room (k + 1) X.A) (hg : X.A.guards = some [])
    (hb : Binds X.K fd ps ds) (hd : Vals dvs ds) (hx : Passes CX X E) (I : Inv X pins σ H s) (r : Vals vs us)
    (h : ∀ x dx, H x = none → H dx = none → dx ≠ x → sp (.ref x :: (vs ++ dvs)) (upd (upd H dx (.own x)) x (.ins C dx []))
      (fun v H2 => v = .non ∧ Q (.ref x) H2) E) :
    wpAny (model X.prog X.w) X.A (call (.ref C) us) (EP X pins σ Q) X.xe s := by
  have n := s.heap.objs.size
  have free : ∀ i, s.heap.objs.size ≤ i → H i = none := fun i hi => I.hok.fresh hi
  have q := h (s.heap.objs.size + 1) s.heap.objs.size (free _ (by omega)) (free _ (by omega)) (by
    show s.heap.objs.size ≠ s.heap.objs.size + 1
    exact Nat.ne_of_lt (Nat.lt_succ_self _))
  have J := Inv.made (C := C) I
  have w2 := runG (us := Value.ref (s.heap.objs.size + 1) :: us) (vs := V.ref (s.heap.objs.size + 1) :: vs) F (hr.make C us [])
    (guards_make hg C us []) (J.env0.make C us []) hb hd hx J (.cons rfl r) q
  refine wpAny_call (make_map (f := f) I.kIn M.makes M.init (beq_iff_eq.mp M.fn) (codeAny_mono w2 ?_))
  rintro (z | (_ | _ | _ | u)) s' hq
  · exact hq
  · exact hq.elim
  · exact hq.elim
  · exact hq.elim
  · obtain ⟨v, H', I3, rv, rfl, q3⟩ := hq
    exact ⟨rv, V.ref (s.heap.objs.size + 1), H', I3, rfl, q3⟩

theorem peg_make (M : Mk X.K C f) (F : FnG X.prog X.w X.K X.mg X.base CX k f fd ps sp) (hr : Room (k + 1) X.A)
    (hg : X.A.guards = some []) (hn : Gl X x) (hm : X.mg x = some (.ref C)) (hb : Binds X.K fd ps ds) (hd : Vals dvs ds)
    (hx : Passes CX X E) (ha : PA X (e :: es) t) (hdb : (x == ("__debug__" : Str)) = false := by decide)
    (he : starEach (e :: es) X.env = (false, eval e X.env) :: starEach es X.env := by rfl)
    (hpl : (backTo pos (starEach es X.env)).any (·.1) = false := by rfl) :
    PE X (.Call (.Name x p) (e :: es) [] pos) (tMake C sp dvs E t) := by
  constructor
  intro pins s σ H Q I h
  apply wpAny_Call_Name_kw
  refine ld_glob I hn hm (PySem.W.callWith_K (h₀ := X.base) I.ok.mod.kin M.kp ?_ he hpl) hdb
  exact thn (ha.run pos pins s σ H _ I h) fun us s1 ⟨vs, H1, I1, r, q⟩ => ⟨I1.kIn, makeG M F hr hg hb hd hx I1 r q⟩
end
end MV

set_option Elab.async false
set_option linter.all false
set_option maxRecDepth 100000
set_option maxHeartbeats 2000000
/-! MVB: the end of a law over FnG; repr of data; own in, ==, !=. -/
namespace MV
open PySem PySem.Spec PyProof.Rows L2

/-! ### the end -/
/-- the abstract heap at the law's entry: the script and nothing else -/
def scriptHp (a : Addr) (o : Obj) (xs : List V) : Hp := fun b => if b = a then some (.frz o (.lst xs)) else none
theorem scriptHp_at {a b : Addr} {o : Obj} {xs : List V} {u : HO} (h : scriptHp a o xs b = some u) : b = a ∧ u = .frz o (.lst xs) := by
  unfold scriptHp at h
  split at h
  · exact ⟨by assumption, (Option.some.inj h).symm⟩
  · cases h
theorem scriptHp_none {a b : Addr} {o : Obj} {xs : List V} (h : b ≠ a) : scriptHp a o xs b = none := if_neg h

/-- what the law's run needs of an abstract heap in which at most the script is tracked -/
theorem law_core {P : Program} {w : World} {K : PySem.W.Frag} {mg mb : Str → Option Value} {k : Nat} {fa a : Addr} {fd : FuncData}
    {x : Str} {sp : Sp} {s₁ : Shared} {H : Hp} {CX : CXT}
    (KX : K.In s₁.heap) (hns : s₁.heap.Ns mainGlobals mg) (hb : s₁.heap.Ns builtinsNs mb) (hbb : ∀ x : Str, x ≠ "__name__" → mb x = bootBuiltins x)
    (hlim : s₁.heap.NoLimit) (hg : s₁.gens = #[]) (hr : Room k callerA)
    (F : ∀ base : Heap, K.In base → base.Ns mainGlobals mg → FnG P w K mg base CX k fa fd [x] sp)
    (hbind : ∀ (s : Shared) (u : Value), BindsTo s fd ⟨[u], []⟩ [(x, u)])
    (hsp : sp [.ref a] H (fun v _ => v = .bl true) fun _ _ _ => False)
    (hCX : ∀ e s', CX [] H s₁ (fun _ _ _ => False) e s' → False)
    (ok : HOk P w H s₁.heap) (only : ∀ b u, H b = some u → K.lookup b = none ∧ ∃ o xs, u = .frz o (.lst xs)) :
    codeAny (model P w) callerA (.call (.ref fa) ⟨[.ref a], []⟩)
      (fun r s' => r = .ok (.ret (.bool true)) ∧ OldK s₁.heap s'.heap ∧ s'.os = s₁.os ∧ AllBare s'.gens) s₁ := by
  have dictFree : ∀ {b : Addr} {o : Obj} {es : Array DictEntry} {ep : Nat}, s₁.heap.get? b = some o → o.data = .dict es ep → H b = none := by
    intro b o es ep e d
    match q : H b with
    | none => rfl
    | some u =>
      obtain ⟨_, ob, xs, rfl⟩ := only b u q
      obtain ⟨e2, _, its, n, _, e3⟩ := ok b _ q
      rw [e2] at e3
      cases e3
      rw [e2] at e
      cases e
      cases d
  have ns : ∀ {b : Addr} {m : Str → Option Value}, s₁.heap.Ns b m → (hidT s₁.heap H).Ns b m := by
    rintro b m ⟨o, es, ep, e, d, r⟩
    exact ⟨o, es, ep, hidT_get e (dictFree e d), d, r⟩
  have kin : K.In (hidT s₁.heap H) := by
    intro b o e
    refine hidT_get (KX b o e) ?_
    match q : H b with
    | none => rfl
    | some u => exact absurd e (by rw [(only b u q).1]; simp)
  obtain ⟨ml, l1, l2⟩ := hlim
  have e0 : Env0 P w K mg (hidT s₁.heap H) callerA [] s₁ H :=
    { frames := rfl
      mod := ⟨kin, ns hns, ⟨mb, ns hb, hbb⟩, ⟨ml, ns l1, l2⟩⟩
      bs := fun b o e => of_hidT e
      bsz := Nat.le_of_eq (hidT_size _ _)
      funs := trivial
      frf := fun b z => absurd z List.not_mem_nil
      hok := ok
      bare := .of_eq hg }
  refine codeAny_mono ((F _ kin (ns hns)).go callerA [] s₁ H _ [.ref a] [.ref a] _ _ hr rfl e0 (hbind s₁ (.ref a)) (.cons rfl .nil) hsp) ?_
  intro r s' h
  match r, h with
  | .error e, h => exact (hCX e s' h).elim
  | .ok (.ret u), h =>
    obtain ⟨v, H', os, bare, un, hok', rv, q⟩ := h
    have e1 : v = .bl true := q
    subst e1
    have e2 : u = Value.bool true := rv
    subst e2
    refine ⟨rfl, OldK.of_keep ?_, os, bare⟩
    intro b o e
    match q : H b with
    | none => exact un.keep b o e q List.not_mem_nil List.not_mem_nil
    | some z =>
      obtain ⟨_, ob, xs, rfl⟩ := only b z q
      have e3 := (ok b _ q).1
      rw [e] at e3
      cases e3
      exact (hok' b _ (un.frzs b o _ q)).1

theorem law_callG {P : Program} {w : World} {K : PySem.W.Frag} {mg mb : Str → Option Value} {k : Nat} {fa a : Addr} {fd : FuncData}
    {x : Str} {sp : Sp} {s₁ : Shared} {vs : List Value} {ns : List Int} {CX : CXT}
    (KX : K.In s₁.heap) (hns : s₁.heap.Ns mainGlobals mg) (hb : s₁.heap.Ns builtinsNs mb) (hbb : ∀ x : Str, x ≠ "__name__" → mb x = bootBuiltins x)
    (hlim : s₁.heap.NoLimit) (hg : s₁.gens = #[])
    (ha : s₁.heap.get? a = some { cls := .type "list", data := .seq vs.toArray }) (hi : IntsAre vs ns) (hl : ns.length ≤ sizeLine) (hr : Room k callerA)
    (F : ∀ base : Heap, K.In base → base.Ns mainGlobals mg → FnG P w K mg base CX k fa fd [x] sp)
    (hbind : ∀ (s : Shared) (u : Value), BindsTo s fd ⟨[u], []⟩ [(x, u)])
    (hsp : ∀ H : Hp, SqL K H a (ns.map V.int) → sp [.ref a] H (fun v _ => v = .bl true) fun _ _ _ => False)
    (hCX : ∀ H e s', CX [] H s₁ (fun _ _ _ => False) e s' → False) :
    codeAny (model P w) callerA (.call (.ref fa) ⟨[.ref a], []⟩)
      (fun r s' => r = .ok (.ret (.bool true)) ∧ OldK s₁.heap s'.heap ∧ s'.os = s₁.os ∧ AllBare s'.gens) s₁ := by
  have rv := vals_ints hi
  have n1 := hi.length
  match hk : K.lookup a with
  | some o =>
    have e := (KX a o hk).symm.trans ha
    cases e
    refine law_core (H := fun _ => none) KX hns hb hbb hlim hg hr F hbind (hsp _ (.inr ⟨_, vs.toArray, _, hk, rfl, rfl, rfl, ?_, by simpa using rv⟩)) (hCX _) (fun b u z => nomatch z) (fun b u z => nomatch z)
    rw [List.size_toArray]
    omega
  | none =>
    have hS : SqL K (scriptHp a { cls := .type "list", data := .seq vs.toArray } (ns.map V.int)) a (ns.map V.int) := .inl (.inr ⟨_, if_pos rfl⟩)
    refine law_core (H := scriptHp a { cls := .type "list", data := .seq vs.toArray } (ns.map V.int)) KX hns hb hbb hlim hg hr F hbind (hsp _ hS) (hCX _) (fun b u z => ?_) (fun b u z => ?_)
    · obtain ⟨rfl, rfl⟩ := scriptHp_at z
      exact ⟨ha, by rw [List.length_map]; exact hl, vs, _, rv, ha⟩
    · obtain ⟨rfl, rfl⟩ := scriptHp_at z
      exact ⟨hk, _, _, rfl⟩

/-- the law's row from the promise of its def -/
theorem walkG {l : PySem.W.OpenLaw} {n k : Nat} {q : Program} {loose : List Str} {XP : (Str → Option Value) → Heap → Prop} {YP : World → Heap → Prop}
    {d : DefRec} {K : Params → PySem.W.Frag} {CX : CXT} {sp : PySem.W.Frag → Sp} {x : Str}
    (hn : l.most = some n) (hn2 : n ≤ sizeLine) (hdf : d.params.defaults = []) (hr : Room k callerA)
    (hY : ∀ (w : World) (h : Heap), YP w h → (K w.params).In h)
    (F : ∀ (w : World) (mg : Str → Option Value) (fa : Addr) (h : Heap), (K w.params).In h → h.Ns mainGlobals mg → mg d.name = some (.ref fa) →
      ∃ fd : FuncData, (∀ (s : Shared) (u : Value), BindsTo s fd ⟨[u], []⟩ [(x, u)]) ∧
        ∀ base : Heap, (K w.params).In base → base.Ns mainGlobals mg → FnG l.prog w (K w.params) mg base CX k fa fd [x] (sp (K w.params)))
    (hsp : ∀ (K : PySem.W.Frag) (H : Hp) (a : Addr) (ns : List Int), ns.length ≤ n → SqL K H a (ns.map V.int) → sp K [.ref a] H (fun v _ => v = .bl true) fun _ _ _ => False)
    (hCX : ∀ (H : Hp) (s : Shared) (e : Value) (s' : Shared), CX [] H s (fun _ _ _ => False) e s' → False) :
    PySem.W.WalkO q loose XP YP l.row.toRowW d [] (fun f vs => PySem.call f vs) := by
  refine Att.attach_call hn hdf ?_
  intro w s₀ s₁ mg mb fa o pm cd doc a vs ns G Y ho hd hcd hmg hobj hints hlen hg
  obtain ⟨fd, hb, hF⟩ := F w mg fa _ (hY w _ Y) G.T.g hmg
  exact law_callG (hY w _ Y) G.T.g G.T.b G.T.builtins G.T.nolimit hg hobj hints (Nat.le_trans hlen hn2) hr hF hb
    (fun H hS => hsp _ H a ns hlen hS) fun H e s' => hCX H s₁ e s'

/-! ### properties, own in, own ==, own != -/
section
variable {X : Cx} {CX : CXT} {k : Nat} {f C p : Addr} {fd : FuncData} {ps : List Str} {sp : Sp} {dvs : List V} {ds : List Value}
  {E : XK} {x m : Str} {pos : Pos} {e : Expr} {ta : TE} {n : Str}
/-- e.n, a property -/
theorem peg_prop (he : PE X e ta) (c : Cls X.K C) (hp : PropOf X.K C n p f)
    (F : FnG X.prog X.w X.K X.mg X.base CX k f fd ps sp) (hr : Room (k + 1) X.A) (hg : X.A.guards = some [])
    (hb : Binds X.K fd ps ds) (hd : Vals dvs ds) (hx : Passes CX X.nox E)
    (hab : attributeBase e n X.env (eval e X.env) = eval e X.env := by rfl) :
    PE X (.Attribute e n pos) (tProp C sp dvs E ta) := by
  constructor
  intro pins s σ H Q I h
  refine attr_of hab (thn (he.run pins s σ H _ I h) ?_)
  rintro u s1 ⟨_, H1, I1, rx, a, dx, fs, rfl, ea, q⟩
  cases rx
  obtain ⟨mA, O, _⟩ := ins_get I1.hok ea
  obtain ⟨od, J, _⟩ := O.look
  obtain ⟨rest, hrec⟩ := hp.rec_
  have g := PySem.W.plainGet_of (c.get n)
  have hc : (PySem.W.clsIn X.K C).isSome = true := by
    obtain ⟨cd, hc, _⟩ := PySem.W.any_some c.hd
    rw [hc]
    rfl
  have I2 := I1.tok (s1.toks + 1)
  refine PySem.W.get_bind I1.kIn J g.1 (PySem.W.findObj_data hc hp.at_ hp.get hp.tak) g.2
    (wpAny_call (PySem.W.prop_get (s := { s1 with toks := s1.toks + 1 }) I1.kIn hrec ?_))
  refine codeAny_mono (runG (X := X.nox) (us := [.ref a]) (vs := [.ref a]) F hr.in1 hg I2.env0.in1 hb hd hx (I2.wish _) (.cons rfl .nil) q) fun r s' hq => ?_
  match r, hq with
  | .error _, hq => exact False.elim hq
  | .ok (.ret u), ⟨v, H', I3, rv, q3⟩ =>
    show wpAny _ _ (handedOut u) _ _ _
    rw [PySem.W.handedOut_of (handed_of rv)]
    exact wpAny_pure ⟨v, H', I3.wish _, rv, q3⟩

/-- y in x, x an instance whose class has a def __contains__ -/
def rHas (C : Addr) (sp : Sp) (E : XK) (neg : Bool) : R2 := fun y x H Q => ∃ a dx fs, x = .ref a ∧ H a = some (.ins C dx fs) ∧
  sp [x, y] H (fun z H' => ∃ b, z = .bl b ∧ Q (.bl (if neg then !b else b)) H') E
structure HasC (K : PySem.W.Frag) (C f : Addr) : Prop where
  at_ : PySem.W.findIn K (.ref C) "__contains__" = some (some (.ref f))
  fn : PySem.W.isFn K (.ref f) = true
theorem opg_in (h : HasC X.K C f) (F : FnG X.prog X.w X.K X.mg X.base CX k f fd ps sp) (hr : Room k X.A) (hg : X.A.guards = some [])
    (hb : Binds X.K fd ps []) (hx : Passes CX X E) : OpR X (compareOp .In) (rHas C sp E false) := by
  intro pins s σ H y x v u Q I ry rx q
  obtain ⟨a, dx, fs, rfl, ea, q⟩ := q
  cases rx
  obtain ⟨mA, O, _⟩ := ins_get I.hok ea
  obtain ⟨od, J, _⟩ := O.look
  obtain ⟨m, hF⟩ := I.fr
  refine PySem.W.in_K hF I.ok.mod.kin J h.at_ h.fn (thn (callG (us := [.ref a, v]) (vs := [.ref a, y]) F hr hg hb .nil hx I (.cons rfl (.cons ry .nil)) q) ?_)
  rintro _ s' ⟨_, H', I', rv, b, rfl, q'⟩
  cases rv
  exact wpAny_truthy_bool ⟨V.bl _, H', I', rfl, q'⟩
theorem opg_notIn (h : HasC X.K C f) (F : FnG X.prog X.w X.K X.mg X.base CX k f fd ps sp) (hr : Room k X.A) (hg : X.A.guards = some [])
    (hb : Binds X.K fd ps []) (hx : Passes CX X E) : OpR X (compareOp .NotIn) (rHas C sp E true) := by
  intro pins s σ H y x v u Q I ry rx q
  obtain ⟨a, dx, fs, rfl, ea, q⟩ := q
  cases rx
  obtain ⟨mA, O, _⟩ := ins_get I.hok ea
  obtain ⟨od, J, _⟩ := O.look
  obtain ⟨m, hF⟩ := I.fr
  refine PySem.W.notIn_K hF I.ok.mod.kin J h.at_ h.fn (thn (callG (us := [.ref a, v]) (vs := [.ref a, y]) F hr hg hb .nil hx I (.cons rfl (.cons ry .nil)) q) ?_)
  rintro _ s' ⟨_, H', I', rv, b, rfl, q'⟩
  cases rv
  exact wpAny_truthy_bool ⟨V.bl _, H', I', rfl, q'⟩
end
end MV

set_option Elab.async false
set_option linter.all false
set_option maxRecDepth 100000
set_option maxHeartbeats 2000000
/-! MVC: == and != by an own __eq__. -/
namespace MV
open PySem PySem.Spec PyProof.Rows L2
open PySem.W (InstAt looks_findIn looks_subIn findIn subIn isFn ifBound_K notFirst)

section
variable {prog : Program} {w : World} {A : Around} {E : Value → Shared → Prop} {s : Shared} {K : PySem.W.Frag} {x C f : Addr} {ox : Obj} {od : Option Obj} {name : Str} {b tb : Value} {id : String}

/-- a special name that the class has from a built-in, called -/
theorem ifBoundB {M : Model} {args : List Value} {Q : Option Value → Shared → Prop} (X : K.In s.heap) (I : InstAt s.heap x ox C od)
    (hs : findIn K (.ref C) name = some (some (.builtin id))) (hb : ∀ self, bindSpecial (.builtin id) self = pure (.builtin id, [self]))
    (h : wpAny M A (call (.builtin id) (.ref x :: args)) (fun v => Q (some v)) E s) :
    wpAny M A (callSpecialIfBound? (.ref x) name args) Q E s := by
  simp only [callSpecialIfBound?, bindSpecialIfBound?]
  apply wpAny_holding
  apply wpAny_bind
  apply wpAny_bind
  apply wpAny_bind
  refine I.type.here ((looks_findIn X hs).here ?_)
  simp only [hb]
  have fin : wpAny M A (call (.builtin id) ([.ref x] ++ args) >>= fun v => pure (some v)) Q E s :=
    wpAny_bind (thn h fun v s' z => wpAny_pure z)
  refine wpAny_bind (wpAny_askSetting (wpAny_ite ?_))
  split
  · exact wpAny_bind (wpAny_pure (wpAny_pure fin))
  · exact wpAny_tryCatch (wpAny_bind (wpAny_pure (wpAny_pure fin)))

/-- a built-in slot's own check of its first argument, an instance -/
theorem checkSlot {M : Model} {owner n : String} {rest : List Value} {Q : Unit → Shared → Prop} (hk : builtinKind id = some .slot)
    (hs : splitId id = some (owner, n)) (ha : argsOk id ⟨.ref x :: rest, []⟩) (X : K.In s.heap) (I : InstAt s.heap x ox C od)
    (hob : subIn K (.ref C) (.type owner) = some true) (hq : Q () s) :
    wpAny M A (checkBuiltinCall id ⟨.ref x :: rest, []⟩) Q E s := by
  simp only [checkBuiltinCall, hk, hs]
  apply wpAny_bind
  unfold isInstance
  refine wpAny_bind (I.type.here ((looks_subIn X hob).here ?_))
  match hsig : Manifest.signature? id with
  | none => exact wpAny_pure hq
  | some sig =>
    simp only [argsOk, hsig] at ha
    have h2 : Bind.checkArgs id sig ⟨.ref x :: rest, []⟩ = pure () := ha
    show wpAny M A (Bind.checkArgs id sig ⟨.ref x :: rest, []⟩) Q E _
    rw [h2]
    exact wpAny_pure hq

/-- what != asks of a class with an own __eq__ and no own __ne__ -/
structure EqC (K : PySem.W.Frag) (C f : Addr) : Prop where
  at_ : findIn K (.ref C) "__eq__" = some (some (.ref f))
  fn : isFn K (.ref f) = true
  ne_ : findIn K (.ref C) "__ne__" = some (some (.builtin "object.__ne__"))
  ob : subIn K (.ref C) (.type "object") = some true

theorem neEntry (X : K.In s.heap) (I : InstAt s.heap x ox C od) (c : EqC K C f) (hu : A.units < cLine) {Q : Fin → Shared → Prop}
    (hcall : wpAny (model prog w) A (call (.ref f) [.ref x, b]) (fun v s' => ∃ r, v = .bool r ∧ Q (.done (.ret (.bool (!r)))) s') E s) :
    wpAny (model prog w) A (Builtin.«object.__ne__» ⟨[.ref x, b], []⟩) Q E s := by
  unfold Builtin.«object.__ne__»
  repeat (first
    | with_reducible refine wpAny_cRoomFor hu ?_
    | (refine wpAny_bind (m := callSpecialIfBound? (.ref x) (Str.ofString "__eq__") [b])
        (ifBound_K X I c.at_ c.fn (thn hcall fun r s' hr => by
          obtain ⟨b, rfl, hq⟩ := hr
          repeat (first | exact hq | exact wpAny_pure hq | exact wpAny_truthy_bool hq | (refine wpAny_bind (m := truthy (.bool _)) (wpAny_truthy_bool ?_)) | wp_step))))
    | wp_step)

theorem neOwn (X : K.In s.heap) (I : InstAt s.heap x ox C od) (c : EqC K C f) (hb : PySem.W.Looks (model prog w) s.heap (typeOf b) tb)
    (hn : notFirst K C tb = true) (hu : A.units + 1 < cLine) {Q : Value → Shared → Prop}
    (hcall : wpAny (model prog w) A.in1 (call (.ref f) [.ref x, b]) (fun v s' => ∃ r, v = .bool r ∧ Q (.bool (!r)) s') E s) :
    wpAny (model prog w) A (richCompare .NotEq (.ref x) b) Q E s := by
  have one : wpAny (model prog w) A (tryCompare (.ref x) (cmpInfo .NotEq).2.1 b) (fun r s' => ∃ v, r = some v ∧ Q v s') E s := by
    have ent : wpAny (model prog w) A.in1 (Builtin.«object.__ne__» ⟨[.ref x, b], []⟩)
        (fun fin s' => match fin with
          | .done q => ∃ r, q = .ret (.bool r) ∧ Q (.bool r) s'
          | .again _ => False) E s :=
      neEntry X I c hu (thn hcall fun v s' ⟨r, e, q⟩ => ⟨r, e, !r, rfl, q⟩)
    unfold tryCompare
    refine wpAny_bind (ifBoundB X I c.ne_ F.cmp_object.ne.bind (wpAny_call (codeAny_call_builtin F.cmp_object.ne.plain F.cmpEntry_ne
      (checkSlot F.cmpKind_ne F.cmpSplit_ne (F.cmpArgs_ne _ _) X I c.ob ?_))))
    refine thn ent ?_
    rintro (q | _) s' h
    · obtain ⟨r, rfl, q⟩ := h
      first | exact ⟨_, rfl, q⟩ | exact wpAny_pure ⟨_, rfl, q⟩
    · exact h.elim
  unfold richCompare
  simp only [oneThing_ref]
  refine wpAny_holding (wpAny_bind (wpAny_cRoomFor (Nat.lt_of_succ_lt hu) ?_))
  refine wpAny_bind (I.type.here (wpAny_bind (hb.here ?_)))
  have tail : wpAny (model prog w) A (tryCompare (.ref x) (cmpInfo .NotEq).2.1 b >>= fun r => match r with
      | some v => pure v
      | none => (pure .none : Sem Value)) Q E s := wpAny_bind (thn one fun r s' ⟨v, e, q⟩ => by subst e; exact wpAny_pure q)
  split
  · rename_i q
    have e : subIn K tb (.ref C) = some false := by
      rcases Bool.or_eq_true_iff.mp hn with e | e
      · rw [beq_iff_eq.mp e] at q
        simp at q
      · exact beq_iff_eq.mp e
    refine wpAny_bind ((looks_subIn X e).here ?_)
    simp only [Bool.false_eq_true, if_false]
    refine wpAny_bind (thn one ?_)
    rintro _ s' ⟨v, rfl, q⟩
    exact wpAny_pure q
  · refine wpAny_bind (wpAny_pure ?_)
    simp only [Bool.false_eq_true, if_false]
    refine wpAny_bind (thn one ?_)
    rintro _ s' ⟨v, rfl, q⟩
    exact wpAny_pure q
end
end MV

set_option Elab.async false
set_option linter.all false
set_option maxRecDepth 100000
set_option maxHeartbeats 2000000
namespace MV
open PySem PySem.Spec PyProof.Rows L2
section
variable {X : Cx} {CX : CXT} {k : Nat} {f C : Addr} {fd : FuncData} {ps : List Str} {sp : Sp} {E : XK}
/-- x == y, x != y, x an instance of a class with an own __eq__ -/
def rOwnEq (K : PySem.W.Frag) (C : Addr) (sp : Sp) (E : XK) (neg : Bool) : R2 := fun x y H Q => ∃ a dx fs t, x = .ref a ∧ H a = some (.ins C dx fs) ∧
  TyX K H y t ∧ PySem.W.notFirst K C t = true ∧ sp [x, y] H (fun z H' => ∃ b, z = .bl b ∧ Q (.bl (if neg then !b else b)) H') E
theorem opg_eq (c : EqC X.K C f) (F : FnG X.prog X.w X.K X.mg X.base CX k f fd ps sp) (hr : Room k X.A) (hg : X.A.guards = some [])
    (hb : Binds X.K fd ps []) (hx : Passes CX X E) : OpR X (compareOp .Eq) (rOwnEq X.K C sp E false) := by
  intro pins s σ H x y v u Q I rx ry q
  obtain ⟨a, dx, fs, t, rfl, ea, ty, nf, q⟩ := q
  cases rx
  obtain ⟨mA, O, _⟩ := ins_get I.hok ea
  obtain ⟨od, J, _⟩ := O.look
  obtain ⟨m, hF⟩ := I.fr
  obtain ⟨P, kx, hP, _⟩ := kit_of I ry ty
  show wpAny _ _ (richCompare .Eq _ _) _ _ _
  refine PySem.W.cmp_K (op := .Eq) hr.units0 hF I.ok.mod.kin J (kx.ty _ _ I.kIn hP) nf c.at_ c.fn ?_
  refine thn (callG (us := [.ref a, u]) (vs := [.ref a, y]) F hr hg hb .nil hx I (.cons rfl (.cons ry .nil)) q) ?_
  rintro _ s' ⟨_, H', I', rv, b, rfl, q'⟩
  cases rv
  exact ⟨V.bl _, H', I', rfl, q'⟩
theorem opg_ne (c : EqC X.K C f) (F : FnG X.prog X.w X.K X.mg X.base CX k f fd ps sp) (hr : Room (k + 1) X.A) (hg : X.A.guards = some [])
    (hb : Binds X.K fd ps []) (hx : Passes CX X E) : OpR X (compareOp .NotEq) (rOwnEq X.K C sp E true) := by
  intro pins s σ H x y v u Q I rx ry q
  obtain ⟨a, dx, fs, t, rfl, ea, ty, nf, q⟩ := q
  cases rx
  obtain ⟨mA, O, _⟩ := ins_get I.hok ea
  obtain ⟨od, J, _⟩ := O.look
  obtain ⟨P, kx, hP, _⟩ := kit_of I ry ty
  show wpAny _ _ (richCompare .NotEq _ _) _ _ _
  have hu : X.A.units + 1 < cLine := by have := hr.un; omega
  refine neOwn I.kIn J c (kx.ty _ _ I.kIn hP) nf hu (wpAny_call ?_)
  refine codeAny_mono (runG (us := [.ref a, u]) (vs := [.ref a, y]) F hr.in1 hg I.env0.in1 hb .nil hx I (.cons rfl (.cons ry .nil)) q) fun r s' hq => ?_
  match r, hq with
  | .error _, hq => exact hq
  | .ok (.ret w), ⟨_, H', I', rv, b, e, q'⟩ =>
    subst e
    have e2 : w = Value.bool b := rv
    subst e2
    exact ⟨b, rfl, V.bl (!b), H', I', rfl, q'⟩
end
end MV

set_option Elab.async false
set_option linter.all false
set_option maxRecDepth 100000
set_option maxHeartbeats 2000000
/-! MVE: what a step leaves of the heap (Stp), int tuples (IT), readings by lemmas (r_*), the walk over them. -/
namespace MV
open PySem PySem.Spec PyProof.Rows L2

/-! ### the tape of draws -/
/-- at t the tape: the script's ints, how many are read, what is left of a great one, the seed -/
def Tape (H : Hp) (t : Addr) : Prop := ∃ (l : Addr) (ns : List Int) (a b c : Int), l ≠ t ∧
  H t = some (.lst [.ref l, .int a, .int b, .int c]) ∧ H l = some (.lst (ns.map V.int)) ∧ 0 ≤ a ∧ 0 ≤ c ∧ c < 2147483647

/-- what a step leaves: all objects, but for the list at t (the tape), which stays a tape -/
structure Stp (t : Option Addr) (H H' : Hp) : Prop where
  ge : ∀ b o, (t = some b → ∀ xs, o ≠ .lst xs) → H b = some o → H' b = some o
  tp : ∀ a, t = some a → Tape H a → Tape H' a

theorem Tape.more {H H' : Hp} {a : Addr} (T : Tape H a) (s : ∀ b o, H b = some o → H' b = some o) : Tape H' a := by
  obtain ⟨l, ns, x, b, c, h1, h2, h3, h4⟩ := T
  exact ⟨l, ns, x, b, c, h1, s _ _ h2, s _ _ h3, h4⟩
theorem Stp.refl (t : Option Addr) (H : Hp) : Stp t H H := ⟨fun _ _ _ h => h, fun _ _ h => h⟩
theorem Stp.all {H H' : Hp} (s : Stp none H H') : ∀ b o, H b = some o → H' b = some o := fun b o h => s.ge b o (fun z => nomatch z) h
theorem Stp.of {H H' : Hp} (s : ∀ b o, H b = some o → H' b = some o) (t : Option Addr) : Stp t H H' := ⟨fun b o _ h => s b o h, fun _ _ T => T.more s⟩
theorem Stp.w {H H' : Hp} {t : Option Addr} (s : Stp none H H') : Stp t H H' := Stp.of s.all t
theorem Stp.trans {H H1 H2 : Hp} {t : Option Addr} (a : Stp t H H1) (b : Stp t H1 H2) : Stp t H H2 :=
  ⟨fun c o n h => b.ge c o n (a.ge c o n h), fun c e T => b.tp c e (a.tp c e T)⟩
theorem Stp.new {H : Hp} {p : Addr} {o : HO} (h : H p = none) : Stp none H (upd H p o) := Stp.of (fun b u e => by
  rw [upd_ne (ne_of_none e h)]
  exact e) none
theorem Tape.mv {t : Option Addr} {H H' : Hp} {a : Addr} (s : Stp t H H') (h : t = none ∨ t = some a) (T : Tape H a) : Tape H' a := by
  rcases h with rfl | rfl
  · exact T.more s.all
  · exact s.tp a rfl T
theorem Tape.mvN {H H' : Hp} {a : Addr} (s : Stp none H H') (T : Tape H a) : Tape H' a := T.more s.all
theorem Tape.mvS {H H' : Hp} {a : Addr} (s : Stp (some a) H H') (T : Tape H a) : Tape H' a := s.tp a rfl T
theorem Stp.same {H H' : Hp} (s : Stp none H H') : Same H H' := s.all

/-! ### int tuples, lists, instances -/
/-- v is a tuple of the ints ns -/
def IT (H : Hp) (v : V) (ns : List Int) : Prop := ∃ p, v = .ref p ∧ H p = some (.tup (ns.map V.int))
theorem IT.mv {t : Option Addr} {H H' : Hp} {v : V} {ns : List Int} (s : Stp t H H') (h : IT H v ns) : IT H' v ns := by
  obtain ⟨p, e, h⟩ := h
  exact ⟨p, e, s.ge _ _ (fun _ xs z => by cases z) h⟩
/-- as IT, or a tuple of the text that is always there -/
def IK (K : PySem.W.Frag) (H : Hp) (v : V) (ns : List Int) : Prop := ∃ p, v = .ref p ∧ SqT K H p (ns.map V.int)
theorem IT.k {K : PySem.W.Frag} {H : Hp} {v : V} {ns : List Int} (h : IT H v ns) : IK K H v ns := by
  obtain ⟨p, e, h⟩ := h
  exact ⟨p, e, SqT.of h⟩
theorem SqT.mvS {K : PySem.W.Frag} {t : Option Addr} {H H' : Hp} {p : Addr} {xs : List V} (s : Stp t H H') (h : SqT K H p xs) : SqT K H' p xs := by
  rcases h with h | h
  · rcases h with h | ⟨o, h⟩
    · exact .inl (.inl (s.ge _ _ (fun _ xs z => by cases z) h))
    · exact .inl (.inr ⟨o, s.ge _ _ (fun _ xs z => by cases z) h⟩)
  · exact .inr h
theorem IK.mv {K : PySem.W.Frag} {t : Option Addr} {H H' : Hp} {v : V} {ns : List Int} (s : Stp t H H') (h : IK K H v ns) : IK K H' v ns := by
  obtain ⟨p, e, h⟩ := h
  exact ⟨p, e, SqT.mvS s h⟩
theorem At.tup {t : Option Addr} {H H' : Hp} {p : Addr} {xs : List V} (s : Stp t H H') (h : H p = some (.tup xs)) : H' p = some (.tup xs) :=
  s.ge _ _ (fun _ xs z => by cases z) h
theorem At.ins {t : Option Addr} {H H' : Hp} {p C dx : Addr} {fs : List (Str × V)} (s : Stp t H H') (h : H p = some (.ins C dx fs)) : H' p = some (.ins C dx fs) :=
  s.ge _ _ (fun _ xs z => by cases z) h
theorem At.lst {H H' : Hp} {p : Addr} {xs : List V} (s : Stp none H H') (h : H p = some (.lst xs)) : H' p = some (.lst xs) := s.all _ _ h
theorem At.lstS {t : Addr} {H H' : Hp} {p : Addr} {xs : List V} (s : Stp (some t) H H') (n : p ≠ t) (h : H p = some (.lst xs)) : H' p = some (.lst xs) :=
  s.ge _ _ (fun z => absurd (Option.some.inj z).symm n) h

theorem dp_ints {K : PySem.W.Frag} {H : Hp} : ∀ ns : List Int, DpAll K H (ns.map V.int) (ns.map PyData.int)
  | [] => .nil
  | n :: r => .cons (.int n) (dp_ints r)
theorem IK.dp {K : PySem.W.Frag} {H : Hp} {v : V} {ns : List Int} (h : IK K H v ns) : Dp K H v (.tuple (ns.map PyData.int)) := by
  obtain ⟨p, rfl, h⟩ := h
  exact .tup h (dp_ints ns)
theorem canLay_ints : ∀ ns : List Int, PyData.canLayAll0 (ns.map PyData.int) = true
  | [] => by rw [List.map_nil, PyData.canLayAll0]
  | n :: r => by rw [List.map_cons, PyData.canLayAll0, canLay_ints r, PyData.canLay0]; rfl
theorem depth_ints : ∀ ns : List Int, PyData.depthAll (ns.map PyData.int) = 0
  | [] => by rw [List.map_nil, PyData.depthAll]
  | n :: r => by rw [List.map_cons, PyData.depthAll, depth_ints r, PyData.depth]; rfl
theorem shaped_int (ns : List Int) : SeqAt.shaped (.tuple (ns.map PyData.int)) = true := by
  unfold SeqAt.shaped
  rw [PyData.canLay0, canLay_ints, PyData.depth, depth_ints]
  rfl
theorem eqvAll_ints : ∀ ns ms : List Int, PyData.eqvAll (ns.map PyData.int) (ms.map PyData.int) = decide (ns = ms)
  | [], [] => by rw [List.map_nil, PyData.eqvAll]; rfl
  | [], _ :: _ => by rw [List.map_nil, List.map_cons, PyData.eqvAll]; rfl
  | _ :: _, [] => by rw [List.map_nil, List.map_cons, PyData.eqvAll]; rfl
  | n :: r, m :: q => by
    rw [List.map_cons, List.map_cons, PyData.eqvAll, PyData.eqv, eqvAll_ints r q]
    by_cases h : n = m
    · subst h
      by_cases h2 : r = q
      · subst h2; simp
      · simp [h2]
    · simp [h]
theorem eqv_ints (ns ms : List Int) : PyData.eqv (.tuple (ns.map PyData.int)) (.tuple (ms.map PyData.int)) = decide (ns = ms) := by
  rw [PyData.eqv, eqvAll_ints]

/-! ### readings -/
section
variable {K : PySem.W.Frag} {σ : L2.St} {H H1 H2 : Hp} {Q : VK} {v x y : V} {i j : Int} {n : Nat} {ta tb te tc : TE} {t u : TS} {D : Ends} {tt uu : TT} {a tr : TA} {r : R2} {g : TG} {gs : TGs}
theorem r_var (h : σ[n]? = some (some v)) (q : Q v H) : tVar n σ H Q := ⟨v, h, q⟩
theorem r_c (q : Q v H) : tC v σ H Q := q
theorem r_op (q : ta σ H fun x H1 => tb σ H1 fun y H2 => r x y H2 Q) : tOp r ta tb σ H Q := q
theorem r_un {r : V → Hp → VK → Prop} (q : ta σ H fun x H1 => r x H1 Q) : tUn r ta σ H Q := q
theorem r_nil {Q : List V → Hp → Prop} (q : Q [] H) : tNil σ H Q := q
theorem r_cons {Q : List V → Hp → Prop} (q : ta σ H fun x H1 => tr σ H1 fun xs H2 => Q (x :: xs) H2) : tCons ta tr σ H Q := q
/-- a new tuple, a new list of xs is handed to Q -/
def NewT (xs : List V) (H : Hp) (Q : VK) : Prop := xs.length ≤ sizeLine ∧ ∀ p, H p = none → Q (.ref p) (upd H p (.tup xs))
def NewL (xs : List V) (H : Hp) (Q : VK) : Prop := xs.length ≤ sizeLine ∧ ∀ p, H p = none → Q (.ref p) (upd H p (.lst xs))
theorem r_tup (q : a σ H fun xs H1 => NewT xs H1 Q) : tTup a σ H Q := q
theorem r_lst (q : a σ H fun xs H1 => NewL xs H1 Q) : tLst a σ H Q := q
theorem r_newT {xs : List V} (hl : xs.length ≤ sizeLine) (k : ∀ p H2, Stp none H H2 → H2 p = some (.tup xs) → H p = none → Q (.ref p) H2) :
    NewT xs H Q := ⟨hl, fun p hp => k p _ (Stp.new hp) upd_same hp⟩
theorem r_newL {xs : List V} (hl : xs.length ≤ sizeLine) (k : ∀ p H2, Stp none H H2 → H2 p = some (.lst xs) → H p = none → Q (.ref p) H2) :
    NewL xs H Q := ⟨hl, fun p hp => k p _ (Stp.new hp) upd_same hp⟩
theorem sz100 {n : Nat} (h : n ≤ 100) : n ≤ sizeLine := Nat.le_trans h (by decide)
theorem r_newI {ns : List Int} (hl : ns.length ≤ 100) (k : ∀ v H2, Stp none H H2 → IT H2 v ns → Q v H2) :
    NewT (ns.map V.int) H Q :=
  ⟨sz100 (by rw [List.length_map]; exact hl), fun p hp => k _ _ (Stp.new hp) ⟨p, rfl, upd_same⟩⟩
theorem r_newI2 (k : ∀ v H2, Stp none H H2 → IT H2 v [i, j] → Q v H2) : NewT [V.int i, V.int j] H Q := r_newI (ns := [i, j]) (Nat.le_of_ble_eq_true rfl) k
theorem r_newI3 {l : Int} (k : ∀ v H2, Stp none H H2 → IT H2 v [i, j, l] → Q v H2) : NewT [V.int i, V.int j, V.int l] H Q := r_newI (ns := [i, j, l]) (Nat.le_of_ble_eq_true rfl) k
theorem r_newL1 (k : ∀ p H2, Stp none H H2 → H2 p = some (.lst [x]) → H p = none → Q (.ref p) H2) : NewL [x] H Q := r_newL (sz100 (Nat.le_of_ble_eq_true rfl)) k
theorem r_newL2 (k : ∀ p H2, Stp none H H2 → H2 p = some (.lst [x, y]) → H p = none → Q (.ref p) H2) : NewL [x, y] H Q := r_newL (sz100 (Nat.le_of_ble_eq_true rfl)) k
theorem r_newL3 {z : V} (k : ∀ p H2, Stp none H H2 → H2 p = some (.lst [x, y, z]) → H p = none → Q (.ref p) H2) : NewL [x, y, z] H Q := r_newL (sz100 (Nat.le_of_ble_eq_true rfl)) k
theorem r_cb {r : List V → Hp → VK → Prop} (q : a σ H fun vs H1 => r vs H1 Q) : tCB r a σ H Q := q
theorem r_call {sp : Sp} {dvs : List V} {E : XK} (q : a σ H fun vs H1 => sp (vs ++ dvs) H1 Q E) : tCall sp dvs E a σ H Q := q
theorem r_prop {C : Addr} {sp : Sp} {dvs : List V} {E : XK} (q : ta σ H fun x H1 => ∃ a dx fs, x = .ref a ∧ H1 a = some (.ins C dx fs) ∧ sp (.ref a :: dvs) H1 Q E) : tProp C sp dvs E ta σ H Q := q
theorem r_meth {C : Addr} {m : Str} {sp : Sp} {dvs : List V} {E : XK} (q : ta σ H fun x H1 => ∃ b dx fs, x = .ref b ∧ H1 b = some (.ins C dx fs) ∧ fs.lookup m = none ∧ a σ H1 fun vs H2 => sp (x :: (vs ++ dvs)) H2 Q E) :
    tMeth C m sp dvs E ta a σ H Q := q
/-- C(..): a new object is handed to __init__ and then to Q -/
def MkR (C : Addr) (sp : Sp) (vs : List V) (H1 : Hp) (Q : VK) (E : XK) : Prop := ∀ x dx, H1 x = none → H1 dx = none → dx ≠ x →
    sp (.ref x :: vs) (upd (upd H1 dx (.own x)) x (.ins C dx [])) (fun v H2 => v = .non ∧ Q (.ref x) H2) E
theorem r_make {C : Addr} {sp : Sp} {dvs : List V} {E : XK} (q : a σ H fun vs H1 => MkR C sp (vs ++ dvs) H1 Q E) : tMake C sp dvs E a σ H Q := q
theorem r_andV (q : ta σ H fun x H1 => ∃ c, x = .bl c ∧ if c = true then tb σ H1 Q else Q (.bl false) H1) : tAndV ta tb σ H Q := q
theorem r_orV (q : ta σ H fun x H1 => ∃ c, x = .bl c ∧ if c = true then Q (.bl true) H1 else tb σ H1 Q) : tOrV ta tb σ H Q := q
theorem r_notV (q : ta σ H fun x H1 => ∃ c, x = .bl c ∧ Q (.bl (!c)) H1) : tNotV ta σ H Q := q
theorem r_chain {r' : R2} (q : ta σ H fun x H1 => tb σ H1 fun y H2 => r x y H2 fun z H3 => ∃ k, z = .bl k ∧ (if k = true then tc σ H3 fun w' H4 => r' y w' H4 Q else Q (.bl false) H3)) : tChain r r' ta tb tc σ H Q := q
theorem r_ifE (q : tt σ H fun c H1 => if c = true then ta σ H1 Q else tb σ H1 Q) : tIf tt ta tb σ H Q := q
section
variable {Q : Bool → Hp → Prop}
theorem r_test (q : te σ H fun x H' => ∃ k, x = .bl k ∧ Q k H') : tTest te σ H Q := q
theorem r_B (q : te σ H fun x H' => ∃ k, x = .bl k ∧ Q k H') : tB te σ H Q := q
theorem r_and (q : tt σ H fun c H1 => if c = true then uu σ H1 Q else Q false H1) : tAnd tt uu σ H Q := q
theorem r_or (q : tt σ H fun c H1 => if c = true then Q true H1 else uu σ H1 Q) : tOr tt uu σ H Q := q
theorem r_not (q : tt σ H fun c H1 => Q (!c) H1) : tNot tt σ H Q := q
theorem r_yes (q : Q true H) : tYes σ H Q := q
theorem r_k {b : Bool} (q : Q b H) : ∃ k, V.bl b = .bl k ∧ Q k H := ⟨b, rfl, q⟩
end
theorem r_kV {b : Bool} {P : Bool → Prop} (q : P b) : ∃ k, V.bl b = .bl k ∧ P k := ⟨b, rfl, q⟩
theorem r_seq (q : t { D with nx := u D } σ H) : tSeq t u D σ H := q
theorem r_next (q : D.nx σ H) : tNext D σ H := q
theorem r_asg (q : te σ H fun x H1 => g x σ H1 D.nx) : tAsg te g D σ H := q
theorem r_drop (q : te σ H fun _ H1 => D.nx σ H1) : tDrop te D σ H := q
theorem r_ret (q : te σ H D.rt) : tRet te D σ H := q
theorem r_ifS (q : tt σ H fun b H1 => if b = true then t D σ H1 else u D σ H1) : tIfS tt t u D σ H := q
theorem r_par {m : Nat} (q : a σ H fun vs H1 => ∃ v w, vs = [v, w] ∧ D.nx ((σ.set n (some v)).set m (some w)) H1) : tPar n m a D σ H := q
theorem r_par1 {m : Nat} (q : D.nx ((σ.set n (some x)).set m (some y)) H) : ∃ v w, [x, y] = [v, w] ∧ D.nx ((σ.set n (some v)).set m (some w)) H := ⟨x, y, rfl, q⟩
section
variable {Q : L2.St → Hp → Prop} {vs : List V}
theorem r_gname (q : Q (σ.set n (some v)) H) : gName n v σ H Q := q
theorem r_gnil (q : Q σ H) : gNil [] σ H Q := ⟨rfl, q⟩
theorem r_gcons (q : g v σ H fun σ' H' => gs vs σ' H' Q) : gCons g gs (v :: vs) σ H Q := ⟨v, vs, rfl, q⟩
theorem r_unpack {ns : List Int} (h : IK K H v ns) (hn : ns.length = n) (q : gs (ns.map V.int) σ H Q) : gTup K n gs v σ H Q := by
  obtain ⟨p, rfl, h⟩ := h
  exact ⟨p, _, rfl, h, by rw [List.length_map]; exact hn, q⟩
theorem r_unpack2 (h : IK K H v [i, j]) (q : gs [V.int i, V.int j] σ H Q) : gTup K 2 gs v σ H Q := r_unpack h rfl q
theorem r_unpack3 {l : Int} (h : IK K H v [i, j, l]) (q : gs [V.int i, V.int j, V.int l] σ H Q) : gTup K 3 gs v σ H Q := r_unpack h rfl q
end
-- operators by values
theorem r_add (q : Q (.int (i + j)) H) : rI0 (fun i j => .int (i + j)) (.int i) (.int j) H Q := ⟨i, j, rfl, rfl, q⟩
theorem r_sub (q : Q (.int (i - j)) H) : rI0 (fun i j => .int (i - j)) (.int i) (.int j) H Q := ⟨i, j, rfl, rfl, q⟩
theorem r_mod (h : 0 < j) (q : Q (.int (i % j)) H) : rI (fun _ j => 0 < j) (fun i j => .int (i % j)) (.int i) (.int j) H Q := ⟨i, j, rfl, rfl, h, q⟩
theorem r_div (h : CDivW i j) (q : Q (.int (i / j)) H) : rI CDivW (fun i j => .int (i / j)) (.int i) (.int j) H Q := ⟨i, j, rfl, rfl, h, q⟩
theorem r_mulW (h : CMulW i j) (q : Q (.int (i * j)) H) : rI CMulW (fun i j => .int (i * j)) (.int i) (.int j) H Q := ⟨i, j, rfl, rfl, h, q⟩
theorem r_mul (h : CMul i j) (q : Q (.int (i * j)) H) : rI CMul (fun i j => .int (i * j)) (.int i) (.int j) H Q := ⟨i, j, rfl, rfl, h, q⟩
theorem r_pow (h : CPow i j) (q : Q (.int (i ^ j.toNat)) H) : rI CPow (fun i j => .int (i ^ j.toNat)) (.int i) (.int j) H Q := ⟨i, j, rfl, rfl, h, q⟩
theorem r_neg (q : Q (.int (-i)) H) : rU (fun i => .int (-i)) (.int i) H Q := ⟨i, rfl, q⟩
theorem r_lt (q : Q (.bl (decide (i < j))) H) : rI0 (fun i j => .bl (decide (i < j))) (.int i) (.int j) H Q := ⟨i, j, rfl, rfl, q⟩
theorem r_le (q : Q (.bl (decide (i ≤ j))) H) : rI0 (fun i j => .bl (decide (i ≤ j))) (.int i) (.int j) H Q := ⟨i, j, rfl, rfl, q⟩
theorem r_gt (q : Q (.bl (decide (j < i))) H) : rI0 (fun i j => .bl (decide (j < i))) (.int i) (.int j) H Q := ⟨i, j, rfl, rfl, q⟩
theorem r_ge (q : Q (.bl (decide (j ≤ i))) H) : rI0 (fun i j => .bl (decide (j ≤ i))) (.int i) (.int j) H Q := ⟨i, j, rfl, rfl, q⟩
theorem dec_int : decide (V.int i = V.int j) = decide (i = j) := decide_eq_decide.mpr ⟨V.int.inj, congrArg V.int⟩
theorem r_eqI (q : Q (.bl (decide (i = j))) H) : rEq (.int i) (.int j) H Q := ⟨rfl, by rw [dec_int]; exact q⟩
theorem r_neI (q : Q (.bl (!decide (i = j))) H) : rNe (.int i) (.int j) H Q := ⟨rfl, by rw [dec_int]; exact q⟩
theorem dec_str {s z : Str} : decide (V.str s = V.str z) = decide (s = z) := decide_eq_decide.mpr ⟨V.str.inj, congrArg V.str⟩
theorem r_eqS {s z : Str} (q : Q (.bl (decide (s = z))) H) : rEq (.str s) (.str z) H Q := ⟨rfl, by rw [dec_str]; exact q⟩
theorem r_neS {s z : Str} (q : Q (.bl (!decide (s = z))) H) : rNe (.str s) (.str z) H Q := ⟨rfl, by rw [dec_str]; exact q⟩
/-- == and != of int tuples -/
theorem r_eqT {ns ms : List Int} (hx : IK K H x ns) (hy : IK K H y ms) (q : Q (.bl (decide (ns = ms))) H) : rEqD K x y H Q :=
  ⟨_, _, hx.dp, hy.dp, shaped_int ns, shaped_int ms, by rw [eqv_ints]; exact q⟩
theorem r_neT {ns ms : List Int} (hx : IK K H x ns) (hy : IK K H y ms) (q : Q (.bl (!decide (ns = ms))) H) : rNeD K x y H Q :=
  ⟨_, _, hx.dp, hy.dp, shaped_int ns, shaped_int ms, by rw [eqv_ints]; exact q⟩
/-- an item of an int tuple -/
theorem r_ixI {ns : List Int} {m : Int} (h : IK K H v ns) (hn : ns[n]? = some m) (q : Q (.int m) H) : rIx K v (.int (n : Nat)) H Q := by
  obtain ⟨p, rfl, h⟩ := h
  exact .inr (.inl ⟨p, _, _, _, rfl, rfl, h, atI_nat (by rw [List.getElem?_map, hn]; rfl), q⟩)
theorem r_ix0 {m : Int} {ns : List Int} (h : IK K H v (m :: ns)) (q : Q (.int m) H) : rIx K v (.int 0) H Q := r_ixI (n := 0) h rfl q
theorem r_ix1 {m k : Int} {ns : List Int} (h : IK K H v (k :: m :: ns)) (q : Q (.int m) H) : rIx K v (.int 1) H Q := r_ixI (n := 1) h rfl q
theorem r_ix2 {m k l : Int} {ns : List Int} (h : IK K H v (k :: l :: m :: ns)) (q : Q (.int m) H) : rIx K v (.int 2) H Q := r_ixI (n := 2) h rfl q
/-- an item of a list that stands in H -/
theorem r_ixL {p : Addr} {xs : List V} (h : H p = some (.lst xs)) (hn : xs[n]? = some v) (q : Q v H) : rIx K (.ref p) (.int (n : Nat)) H Q :=
  .inl ⟨p, xs, _, v, rfl, rfl, SqL.of h, atI_nat hn, q⟩
theorem r_ixLi {p : Addr} {xs : List V} {i : Int} (h : H p = some (.lst xs)) (h0 : 0 ≤ i) (hn : xs[i.toNat]? = some v) (q : Q v H) : rIx K (.ref p) (.int i) H Q := by
  have e : i = ((i.toNat : Nat) : Int) := (Int.toNat_of_nonneg h0).symm
  rw [e]
  exact r_ixL h hn q
theorem ixN_nat {m k : Nat} (h : k < m) : ixN m ((k : Nat) : Int) = some k := by
  unfold ixN
  rw [if_pos (Int.natCast_nonneg k), if_pos (by omega)]
  rfl
theorem r_setL {p : Addr} {xs : List V} {Q : Hp → Prop} (h : H p = some (.lst xs)) (hn : n < xs.length) (q : Q (upd H p (.lst (xs.set n v)))) : rSetL (.ref p) (.int (n : Nat)) v H Q :=
  ⟨p, xs, _, n, rfl, rfl, h, ixN_nat hn, q⟩
-- tests
theorem r_ite {p : Prop} [Decidable p] {A B : Prop} (h1 : p → A) (h2 : ¬ p → B) : if decide p = true then A else B := by
  by_cases h : p
  · rw [if_pos (decide_eq_true h)]; exact h1 h
  · rw [if_neg (by simp [h])]; exact h2 h
theorem r_iteN {p : Prop} [Decidable p] {A B : Prop} (h1 : ¬ p → A) (h2 : p → B) : if (!decide p) = true then A else B := by
  by_cases h : p
  · rw [if_neg (by simp [h])]; exact h2 h
  · rw [if_pos (by simp [h])]; exact h1 h
theorem r_T {A B : Prop} (q : A) : if true = true then A else B := q
theorem r_F {A B : Prop} (q : B) : if false = true then A else B := q
theorem r_iT {b : Bool} {A B : Prop} (h : b = true) (q : A) : if b = true then A else B := by rw [h]; exact q
theorem r_iF {b : Bool} {A B : Prop} (h : b = false) (q : B) : if b = true then A else B := by rw [h]; exact q

/-! ### more readings -/
theorem r_call0 {sp : Sp} {E : XK} (q : a σ H fun vs H1 => sp vs H1 Q E) : tCall sp [] E a σ H Q := by
  unfold tCall
  simp only [List.append_nil]
  exact q
theorem r_meth0 {C : Addr} {m : Str} {sp : Sp} {E : XK} (q : ta σ H fun x H1 => ∃ b dx fs, x = .ref b ∧ H1 b = some (.ins C dx fs) ∧ fs.lookup m = none ∧ a σ H1 fun vs H2 => sp (x :: vs) H2 Q E) :
    tMeth C m sp [] E ta a σ H Q := by
  unfold tMeth
  simp only [List.append_nil]
  exact q
theorem r_make0 {C : Addr} {sp : Sp} {E : XK} (q : a σ H fun vs H1 => MkR C sp vs H1 Q E) : tMake C sp [] E a σ H Q := by
  unfold tMake
  simp only [List.append_nil]
  exact q
theorem r_isi {c t u : _} {b : Bool} {x : V} (cl : ClsV c u) (ty : TyX K H x t) (e : PySem.W.kitOne K t u = some b) (q : Q (.bl b) H) : rIsi K [x, c] H Q :=
  ⟨x, c, t, u, b, rfl, cl, ty, e, q⟩
theorem r_isiII (q : Q (.bl true) H) : rIsi K [.int i, .ty "int"] H Q := r_isi (.ty _) (.base (.int i)) (kit_ty (by decide +kernel)) q
theorem r_isiIB (q : Q (.bl false) H) : rIsi K [.int i, .ty "bool"] H Q := r_isi (.ty _) (.base (.int i)) (kit_ty (by decide +kernel)) q
theorem ty_tup {p : Addr} {xs : List V} (h : SqT K H p xs) : TyX K H (.ref p) (.type "tuple") := by
  rcases h with h | ⟨o, _, _, h1, h2, _⟩
  · rcases h with h | ⟨o, h⟩
    · exact .base (.tup h)
    · exact .fTuple h
  · exact .kTuple h1 h2
theorem r_isiTT {ns : List Int} (h : IK K H v ns) (q : Q (.bl true) H) : rIsi K [v, .ty "tuple"] H Q := by
  obtain ⟨p, rfl, h⟩ := h
  exact r_isi (.ty _) (ty_tup h) (kit_ty (by decide +kernel)) q
def rLenV (K : PySem.W.Frag) : List V → Hp → VK → Prop := fun xs H Q => ∃ p ys, xs = [.ref p] ∧ (SqL K H p ys ∨ SqT K H p ys) ∧ Q (.int ys.length) H
theorem r_cbLen (q : a σ H fun vs H1 => rLenV K vs H1 Q) : tCB (fun xs H Q => ∃ p ys, xs = [.ref p] ∧ (SqL K H p ys ∨ SqT K H p ys) ∧ Q (.int ys.length) H) a σ H Q := q
theorem r_lenI {ns : List Int} {m : Int} (h : IK K H v ns) (e : (ns.length : Int) = m) (q : Q (.int m) H) : rLenV K [v] H Q := by
  obtain ⟨p, rfl, h⟩ := h
  refine ⟨p, _, rfl, .inr h, ?_⟩
  rw [List.length_map, e]
  exact q
theorem r_len2 (h : IK K H v [i, j]) (q : Q (.int 2) H) : rLenV K [v] H Q := r_lenI h rfl q
theorem r_len3 {l : Int} (h : IK K H v [i, j, l]) (q : Q (.int 3) H) : rLenV K [v] H Q := r_lenI h rfl q
theorem r_lenL {p : Addr} {xs : List V} (h : H p = some (.lst xs)) (q : Q (.int xs.length) H) : rLenV K [.ref p] H Q := ⟨p, xs, rfl, .inl (SqL.of h), q⟩
def rInt1 : List V → Hp → VK → Prop := fun xs H Q => (∃ i, xs = [.int i] ∧ Q (.int i) H) ∨ ∃ k, xs = [.bl k] ∧ Q (.int (if k then 1 else 0)) H
theorem r_cbInt (q : a σ H fun vs H1 => rInt1 vs H1 Q) : tCB (fun xs H Q => (∃ i, xs = [.int i] ∧ Q (.int i) H) ∨ ∃ k, xs = [.bl k] ∧ Q (.int (if k then 1 else 0)) H) a σ H Q := q
theorem r_int1 (q : Q (.int i) H) : rInt1 [.int i] H Q := .inl ⟨i, rfl, q⟩
theorem r_int1B {b : Bool} (q : Q (.int (if b then 1 else 0)) H) : rInt1 [.bl b] H Q := .inr ⟨b, rfl, q⟩
def rReprI : List V → Hp → VK → Prop := fun xs H Q => ∃ i, xs = [.int i] ∧ i.natAbs.log2 < 1920 ∧ Q (.str (toString i)) H
theorem r_cbRepr (q : a σ H fun vs H1 => rReprI vs H1 Q) : tCB (fun xs H Q => ∃ i, xs = [.int i] ∧ i.natAbs.log2 < 1920 ∧ Q (.str (toString i)) H) a σ H Q := q
theorem r_reprI (h : i.natAbs.log2 < 1920) (q : Q (.str (toString i)) H) : rReprI [.int i] H Q := ⟨i, rfl, h, q⟩
def rTupL (K : PySem.W.Frag) : List V → Hp → VK → Prop := fun xs H Q => ∃ p ys, xs = [.ref p] ∧ ((SqL K H p ys ∧ ∀ l, H l = none → Q (.ref l) (upd H l (.tup ys))) ∨ (SqT K H p ys ∧ Q (.ref p) H))
theorem r_cbTup (q : a σ H fun vs H1 => rTupL K vs H1 Q) : tCB (fun xs H Q => ∃ p ys, xs = [.ref p] ∧ ((SqL K H p ys ∧ ∀ l, H l = none → Q (.ref l) (upd H l (.tup ys))) ∨ (SqT K H p ys ∧ Q (.ref p) H))) a σ H Q := q
theorem r_tupL {p : Addr} {ns : List Int} (h : H p = some (.lst (ns.map V.int))) (k : ∀ v H2, Stp none H H2 → IT H2 v ns → Q v H2) : rTupL K [.ref p] H Q :=
  ⟨p, _, rfl, .inl ⟨SqL.of h, fun l hl => k _ _ (Stp.new hl) ⟨l, rfl, upd_same⟩⟩⟩
def rLstL (K : PySem.W.Frag) : List V → Hp → VK → Prop := fun xs H Q => ∃ p ys, xs = [.ref p] ∧ (SqL K H p ys ∨ SqT K H p ys) ∧ ∀ l, H l = none → Q (.ref l) (upd H l (.lst ys))
theorem r_cbLst (q : a σ H fun vs H1 => rLstL K vs H1 Q) : tCB (fun xs H Q => ∃ p ys, xs = [.ref p] ∧ (SqL K H p ys ∨ SqT K H p ys) ∧ ∀ l, H l = none → Q (.ref l) (upd H l (.lst ys))) a σ H Q := q
theorem r_lstL {p : Addr} {xs : List V} (h : SqL K H p xs) (k : ∀ l H2, Stp none H H2 → H2 l = some (.lst xs) → H l = none → Q (.ref l) H2) : rLstL K [.ref p] H Q :=
  ⟨p, xs, rfl, .inl h, fun l hl => k l _ (Stp.new hl) upd_same hl⟩
theorem r_nT {A B : Prop} (q : B) : if (!true) = true then A else B := q
theorem r_nF {A B : Prop} (q : A) : if (!false) = true then A else B := q
theorem r_gcd {i j : Int} (q : Q (.int ((Nat.gcd i.natAbs j.natAbs : Nat) : Int)) H) : rGcd [.int i, .int j] H Q := ⟨i, j, rfl, q⟩
theorem r_setLi {p : Addr} {xs : List V} {i : Int} {Q : Hp → Prop} (h : H p = some (.lst xs)) (h0 : 0 ≤ i) (hn : i.toNat < xs.length) (q : Q (upd H p (.lst (xs.set i.toNat v)))) : rSetL (.ref p) (.int i) v H Q := by
  have e : i = ((i.toNat : Nat) : Int) := (Int.toNat_of_nonneg h0).symm
  rw [e]
  exact r_setL h hn q
/-- xs[i] = v, both parts read -/
theorem r_gsub {to ti : TE} {t : TSet} {Q : L2.St → Hp → Prop} (q : to σ H fun o H1 => ti σ H1 fun i H2 => t o i v H2 fun H3 => Q σ H3) : gSub to ti t v σ H Q := q
/-- x.f handed to Q -/
def FldR (K : PySem.W.Frag) (f : Str) (x : V) (H : Hp) (Q : VK) : Prop := ∃ a C dx fs v, x = .ref a ∧ H a = some (.ins C dx fs) ∧ Cls K C ∧ NoAttr K C f ∧ fs.lookup f = some v ∧ Q v H
theorem r_fld {f : Str} (q : ta σ H fun x H1 => FldR K f x H1 Q) : tFld K ta f σ H Q := q
theorem mulW_of {i j : Int} (hi : i.natAbs < 10 ^ 70) (hj : j.natAbs < 10 ^ 70) : CMulW i j :=
  wide_mul (a := 240) (b := 240) (Nat.lt_of_lt_of_le hi (by decide)) (Nat.lt_of_lt_of_le hj (by decide)) (by decide) (by decide) (by decide)
theorem divW_of {i j : Int} (h : 0 < j) (hj : j.natAbs < 10 ^ 70) : CDivW i j :=
  wide_div (b := 240) h (Nat.lt_of_lt_of_le hj (by decide)) (by decide) (by decide)
theorem log2_of {i : Int} (h : i.natAbs < 10 ^ 500) : i.natAbs.log2 < 1920 := by
  have : i.natAbs < 2 ^ 1920 := Nat.lt_of_lt_of_le h (by decide +kernel)
  by_cases z : i.natAbs = 0
  · rw [z]; decide
  · exact (Nat.log2_lt z).mpr this
theorem r_p6 (q : Q (.int 1000000) H) : rI CPow (fun i j => .int (i ^ j.toNat)) (.int 10) (.int 6) H Q := ⟨10, 6, rfl, rfl, ⟨by decide, by decide, by decide⟩, q⟩
theorem r_p9 (q : Q (.int 1000000000) H) : rI CPow (fun i j => .int (i ^ j.toNat)) (.int 10) (.int 9) H Q := ⟨10, 9, rfl, rfl, ⟨by decide, by decide, by decide⟩, q⟩
theorem r_p10 (q : Q (.int 10000000000) H) : rI CPow (fun i j => .int (i ^ j.toNat)) (.int 10) (.int 10) H Q := ⟨10, 10, rfl, rfl, ⟨by decide, by decide, by decide⟩, q⟩
theorem r_p11 (q : Q (.int 100000000000) H) : rI CPow (fun i j => .int (i ^ j.toNat)) (.int 10) (.int 11) H Q := ⟨10, 11, rfl, rfl, ⟨by decide, by decide, by decide⟩, q⟩
theorem r_p12 (q : Q (.int 1000000000000) H) : rI CPow (fun i j => .int (i ^ j.toNat)) (.int 10) (.int 12) H Q := ⟨10, 12, rfl, rfl, ⟨by decide, by decide, by decide⟩, q⟩
theorem r_p18 (q : Q (.int 1000000000000000000) H) : rI CPow (fun i j => .int (i ^ j.toNat)) (.int 10) (.int 18) H Q := ⟨10, 18, rfl, rfl, ⟨by decide, by decide, by decide⟩, q⟩
theorem r_p20 (q : Q (.int 100000000000000000000) H) : rI CPow (fun i j => .int (i ^ j.toNat)) (.int 10) (.int 20) H Q := ⟨10, 20, rfl, rfl, ⟨by decide, by decide, by decide⟩, q⟩
theorem r_p26 (q : Q (.int 100000000000000000000000000) H) : rI CPow (fun i j => .int (i ^ j.toNat)) (.int 10) (.int 26) H Q := ⟨10, 26, rfl, rfl, ⟨by decide, by decide, by decide⟩, q⟩
theorem r_p27 (q : Q (.int 1000000000000000000000000000) H) : rI CPow (fun i j => .int (i ^ j.toNat)) (.int 10) (.int 27) H Q := ⟨10, 27, rfl, rfl, ⟨by decide, by decide, by decide⟩, q⟩
theorem r_p30 (q : Q (.int 1000000000000000000000000000000) H) : rI CPow (fun i j => .int (i ^ j.toNat)) (.int 10) (.int 30) H Q := ⟨10, 30, rfl, rfl, ⟨by decide, by decide, by decide⟩, q⟩
theorem r_sfld {f : Str} {tv : TE} (q : tv σ H fun y H1 => ta σ H1 fun x H2 => ∃ a C dx fs, x = .ref a ∧ H2 a = some (.ins C dx fs) ∧ Cls K C ∧ NoAttr K C f ∧ fs.length < 1000 ∧ D.nx σ (upd H2 a (.ins C dx (putF f y fs)))) :
    sFld K ta tv f D σ H := q
theorem r_unl2 {Q : L2.St → Hp → Prop} {p : Addr} (h : H p = some (.lst [x, y])) (q : gs [x, y] σ H Q) : gLst K 2 gs (.ref p) σ H Q := ⟨p, _, rfl, SqL.of h, rfl, q⟩
/-- what isinstance asks of a class of the text -/
structure IsC (K : PySem.W.Frag) (C : Addr) : Prop where
  ca : PySem.W.findIn K (.ref C) "__class__" = some (some (.builtin "object.__class__"))
  cn : PySem.W.specialIn K (.builtin "object.__class__") "__get__" = some (some (.builtin "getset_descriptor.__get__"))
  ct : PySem.W.takesIn K (.builtin "object.__class__") = some true
  cm : PySem.W.mroIn K C (.type "object") = some true
theorem IsC.ty {C p dx : Addr} {fs : List (Str × V)} (c : IsC K C) (cl : Cls K C) (h : H p = some (.ins C dx fs)) : TyX K H (.ref p) (.ref C) :=
  .base (.ins h cl c.ca c.cn c.ct c.cm)
theorem kit_self {C : Addr} : PySem.W.kitOne K (.ref C) (.ref C) = some true := by
  unfold PySem.W.kitOne
  rw [if_pos (by simp)]
theorem notFirst_self {C : Addr} : PySem.W.notFirst K C (.ref C) = true := by
  unfold PySem.W.notFirst
  simp
/-- a property's object is known -/
theorem r_propAt {C p dx : Addr} {fs : List (Str × V)} {sp : Sp} {E : XK} (h : H p = some (.ins C dx fs)) (q : sp [.ref p] H Q E) :
    ∃ a dx fs, V.ref p = .ref a ∧ H a = some (.ins C dx fs) ∧ sp (.ref a :: []) H Q E := ⟨p, dx, fs, rfl, h, q⟩
theorem r_sl {rs : V → Option Int → Option Int → Hp → VK → Prop} {tl th : TO} (q : te σ H fun x H1 => tl σ H1 fun l H2 => th σ H2 fun u H3 => rs x l u H3 Q) : tSl rs te tl th σ H Q := q
theorem r_noPart {Q : Option Int → Hp → Prop} (q : Q none H) : tNoPart σ H Q := q
theorem r_part {Q : Option Int → Hp → Prop} (q : te σ H fun x H1 => ∃ i, x = .int i ∧ Q (some i) H1) : tPart te σ H Q := q
theorem r_pk {P : Int → Prop} (q : P i) : ∃ i', V.int i = .int i' ∧ P i' := ⟨i, rfl, q⟩
theorem r_slL {p : Addr} {xs : List V} {lo hi : Option Int} (h : SqL K H p xs) (k : ∀ l H2, Stp none H H2 → H2 l = some (.lst (cutV xs lo hi)) → H l = none → Q (.ref l) H2) : rSlL K (.ref p) lo hi H Q :=
  ⟨p, xs, rfl, h, fun l hl => k l _ (Stp.new hl) upd_same hl⟩
theorem cutV_map (ns : List Int) (lo hi : Option Int) : ∃ ms : List Int, cutV (ns.map V.int) lo hi = ms.map V.int :=
  ⟨(ns.drop (HT.sIx ns.length 0 lo)).take (HT.sIx ns.length ns.length hi - HT.sIx ns.length 0 lo), by
    unfold cutV
    simp only [List.length_map, List.map_take, List.map_drop]⟩
theorem r_set1 {t : Addr} {p q r s : V} {Q : Hp → Prop} (h : H t = some (.lst [p, q, r, s])) (k : Q (upd H t (.lst [p, v, r, s]))) : rSetL (.ref t) (.int 1) v H Q := r_setLi h (by decide) (Nat.le_of_ble_eq_true rfl) k
theorem r_set2 {t : Addr} {p q r s : V} {Q : Hp → Prop} (h : H t = some (.lst [p, q, r, s])) (k : Q (upd H t (.lst [p, q, v, s]))) : rSetL (.ref t) (.int 2) v H Q := r_setLi h (by decide) (Nat.le_of_ble_eq_true rfl) k
theorem r_set3 {t : Addr} {p q r s : V} {Q : Hp → Prop} (h : H t = some (.lst [p, q, r, s])) (k : Q (upd H t (.lst [p, q, r, v]))) : rSetL (.ref t) (.int 3) v H Q := r_setLi h (by decide) (Nat.le_of_ble_eq_true rfl) k
/-- the tape at t, written out -/
structure TapeIs (H : Hp) (t l : Addr) (ns : List Int) (a b c : Int) : Prop where
  ne : l ≠ t
  at_ : H t = some (.lst [.ref l, .int a, .int b, .int c])
  li : H l = some (.lst (ns.map V.int))
  a0 : 0 ≤ a
  c0 : 0 ≤ c
  c1 : c < 2147483647
theorem Tape.is {t : Addr} (T : Tape H t) : ∃ l ns a b c, TapeIs H t l ns a b c := by
  obtain ⟨l, ns, a, b, c, h1, h2, h3, h4, h5, h6⟩ := T
  exact ⟨l, ns, a, b, c, h1, h2, h3, h4, h5, h6⟩
theorem TapeIs.put {t l : Addr} {ns : List Int} {a b c a' b' c' : Int} (T : TapeIs H t l ns a b c) (a0 : 0 ≤ a') (c0 : 0 ≤ c') (c1 : c' < 2147483647) :
    Stp (some t) H (upd H t (.lst [.ref l, .int a', .int b', .int c'])) ∧ TapeIs (upd H t (.lst [.ref l, .int a', .int b', .int c'])) t l ns a' b' c' := by
  have T' : TapeIs (upd H t (.lst [.ref l, .int a', .int b', .int c'])) t l ns a' b' c' := ⟨T.ne, upd_same, by rw [upd_ne T.ne]; exact T.li, a0, c0, c1⟩
  refine ⟨⟨fun x o n e => ?_, fun x e _ => ?_⟩, T'⟩
  · by_cases h : x = t
    · subst h
      rw [T.at_] at e
      exact absurd (Option.some.inj e).symm (n rfl _)
    · rw [upd_ne h]; exact e
  · cases e
    exact ⟨l, ns, a', b', c', T'.ne, T'.at_, T'.li, a0, c0, c1⟩
theorem r_while {c : TT} {tb : TS} (W : Nat → L2.St → Hp → Prop) (h0 : ∃ m, W m σ H) (hs : ∀ m σ H, W m σ H →
    c σ H fun b H1 => if b = true then ∃ N : L2.St → Hp → Prop, (∀ σ' H', N σ' H' → ∃ m', m' < m ∧ W m' σ' H') ∧ tb { D with nx := N, ct := N, bk := D.nx } σ H1 else D.nx σ H1) :
    tWhile c tb D σ H := ⟨W, h0, hs⟩
end
end MV

set_option Elab.async false
set_option linter.all false
set_option maxRecDepth 100000
set_option maxHeartbeats 2000000
/-! MVF: loops and comprehensions as readings. -/
namespace MV
open PySem PySem.Spec PyProof.Rows L2
section
variable {K : PySem.W.Frag} {σ : L2.St} {H : Hp} {n : Nat} {tl : TE} {g : TG} {tb : TS} {D : Ends} {ta : TA} {x : V}
/-- a loop over a list that stands still -/
def ForL (g : TG) (tb : TS) (D : Ends) (σ : L2.St) (x : V) (H1 : Hp) : Prop := ∃ (a : Addr) (xs : List V) (Pv : Nat → L2.St → Hp → Prop), x = .ref a ∧ Pv 0 σ H1 ∧
  (∀ i σ H, i ≤ xs.length → Pv i σ H → H a = some (.lst xs)) ∧
  (∀ i x σ H, xs[i]? = some x → Pv i σ H → g x σ H fun σ2 H2 => tb { D with nx := Pv (i + 1), ct := Pv (i + 1), bk := D.nx } σ2 H2) ∧ (∀ σ H, Pv xs.length σ H → D.nx σ H)
def ForLR (K : PySem.W.Frag) (g : TG) (tb : TS) (D : Ends) (σ : L2.St) (x : V) (H1 : Hp) : Prop := ∃ a, x = .ref a ∧ (∃ xs, SqL K H1 a xs) ∧ ∃ W : Nat → Nat → L2.St → Hp → Prop, (∃ m, W 0 m σ H1) ∧ ∀ i m σ H, W i m σ H →
  ((Itl K a).stop i H ∧ D.nx σ H) ∨ ((Itl K a).go i H ∧ ∃ N : L2.St → Hp → Prop, (∀ σ' H', N σ' H' → ∃ m', m' < m ∧ W (i + 1) m' σ' H') ∧ ∀ x H', (Itl K a).yld i H x H' → g x σ H' fun σ2 H2 => tb { D with nx := N, ct := N, bk := D.nx } σ2 H2)
theorem r_forL (q : tl σ H fun x H1 => ForLR K g tb D σ x H1) : tFor (iList K tl) g tb D σ H := q
theorem ForL.ok (q : ForL g tb D σ x H) : ForLR K g tb D σ x H := by
  obtain ⟨a, xs, Pv, rfl, h0, hl, hs, hd⟩ := q
  exact ⟨a, rfl, ⟨xs, SqL.of (hl 0 σ H (Nat.zero_le _) h0)⟩, for_list Pv h0 (fun i σ H h p => SqL.of (hl i σ H h p)) hs hd⟩
/-- range(n) -/
def ForR (g : TG) (tb : TS) (D : Ends) (σ : L2.St) (vs : List V) (H1 : Hp) : Prop := ∃ (n : Nat) (Pv : Nat → L2.St → Hp → Prop), vs = [.int n] ∧ n < 2 ^ 62 ∧ Pv 0 σ H1 ∧
  (∀ i σ H, i < n → Pv i σ H → g (.int i) σ H fun σ2 H2 => tb { D with nx := Pv (i + 1), ct := Pv (i + 1), bk := D.nx } σ2 H2) ∧ (∀ σ H, Pv n σ H → D.nx σ H)
def ForRn (g : TG) (tb : TS) (D : Ends) (σ : L2.St) (vs : List V) (H : Hp) : Prop := ∃ j : Int, vs = [.int j] ∧ -(2 ^ 62) ≤ j ∧ j < 2 ^ 62 ∧ ∃ W : Nat → Nat → L2.St → Hp → Prop, (∃ m, W 0 m σ H) ∧ ∀ i m σ H, W i m σ H →
      ((Itr 0 j.toNat).stop i H ∧ D.nx σ H) ∨ ((Itr 0 j.toNat).go i H ∧ ∃ N : L2.St → Hp → Prop, (∀ σ' H', N σ' H' → ∃ m', m' < m ∧ W (i + 1) m' σ' H') ∧ ∀ x H', (Itr 0 j.toNat).yld i H x H' → g x σ H' fun σ2 H2 => tb { D with nx := N, ct := N, bk := D.nx } σ2 H2)
theorem ForR.ok {vs : List V} (q : ForR g tb D σ vs H) : ForRn g tb D σ vs H := by
  obtain ⟨n, Pv, rfl, hn, h0, hs, hd⟩ := q
  refine ⟨n, rfl, by omega, by omega, for_range (lo := 0) (n := (n : Int).toNat) Pv h0 (fun i σ H h p => ?_) hd⟩
  rw [Int.zero_add]
  exact hs i σ H h p
theorem r_forR (q : ta σ H fun vs H1 => ForRn g tb D σ vs H1) : tFor (iRng1 ta) g tb D σ H := q
theorem r_forRc {i : Int} (q : ForR g tb D σ [.int i] H) : tFor (iRng1 (tCons (tC (.int i)) tNil)) g tb D σ H := ForR.ok q
theorem r_forRv {m : Nat} {v : V} (h : σ[m]? = some (some v)) (q : ForR g tb D σ [v] H) : tFor (iRng1 (tCons (tVar m) tNil)) g tb D σ H := ⟨v, h, ForR.ok q⟩

/-- [te for n in an int tuple], the terms made of ints alone -/
def LcI (K : PySem.W.Frag) (n : Nat) (te : TE) (vs : List Nat) (σ : L2.St) (Q : VK) (v : V) (H1 : Hp) : Prop := ∃ (ns : List Int) (f : Int → Int), IK K H1 v ns ∧ ns.length ≤ 100 ∧
  (∀ m H', m ∈ ns → Stp none H1 H' → wipe ((wipe σ vs).set n (some (.int m))) vs = wipe σ vs ∧ ∀ Q : VK, Q (.int (f m)) H' → te ((wipe σ vs).set n (some (.int m))) H' Q) ∧
  ∀ p H2, Stp none H1 H2 → H2 p = some (.lst ((ns.map f).map V.int)) → H1 p = none → Q (.ref p) H2
theorem LcI.ok {te : TE} {vs : List Nat} {Q : VK} {v : V} (q : LcI K n te vs σ Q v H) : ∃ a, v = .ref a ∧ (∃ xs, SqT K H a xs) ∧ ∀ D, H D = none → ∃ W : Nat → Nat → Hp → Prop, (∃ m, W 0 m (upd H D (.lst []))) ∧ ∀ i m H, W i m H →
  ((Itt K a).stop i H ∧ Q (.ref D) H) ∨ ((Itt K a).go i H ∧ ∃ Nx : Hp → Prop, (∀ H', Nx H' → ∃ m', m' < m ∧ W (i + 1) m' H') ∧ ∀ x H', (Itt K a).yld i H x H' → gName n x (wipe σ vs) H' fun σ2 H2 => wipe σ2 vs = wipe σ vs ∧ tYes σ2 H2 fun b H3 =>
    if b = true then te σ2 H3 fun y H4 => ∃ acc, H4 D = some (.lst acc) ∧ acc.length < sizeLine ∧ Nx (upd H4 D (.lst (acc ++ [y]))) else Nx H3) := by
  obtain ⟨ns, f, ⟨a, rfl, ha⟩, hl, hs, hd⟩ := q
  refine ⟨a, rfl, ⟨_, ha⟩, fun D hD => ?_⟩
  have up : ∀ {H' : Hp} {o : HO}, (∀ b o, H b = some o → H' b = some o) → ∀ b o', H b = some o' → upd H' D o b = some o' := fun s b o' e => by
    rw [upd_ne (ne_of_none e hD)]
    exact s b o' e
  refine lc_tup (fun i H' => (∀ b o, H b = some o → H' b = some o) ∧ H' D = some (.lst (((ns.take i).map f).map V.int))) ⟨up fun _ _ e => e, upd_same⟩
    (fun i H' _ p => SqT.mvS (Stp.of p.1 none) ha) (fun i x H' hx p => ?_) (fun H' p => hd D H' (Stp.of p.1 none) ?_ hD)
  · rw [List.getElem?_map] at hx
    obtain ⟨m, hm, rfl⟩ := Option.map_eq_some_iff.mp hx
    obtain ⟨w1, w2⟩ := hs m H' (List.mem_of_getElem? hm) (Stp.of p.1 none)
    refine ⟨w1, ?_⟩
    refine w2 _ ⟨_, p.2, ?_, up p.1, ?_⟩
    · rw [List.length_map, List.length_map, List.length_take]
      exact Nat.lt_of_le_of_lt (Nat.le_trans (Nat.min_le_right _ _) hl) (by decide)
    · rw [upd_same]
      have : i < ns.length := (List.getElem?_eq_some_iff.mp hm).1
      rw [List.take_succ, hm]
      simp
  · have e := p.2
    rw [List.length_map, List.take_length] at e
    exact e
theorem r_lcV {m : Nat} {te : TE} {vs : List Nat} {Q : VK} {v : V} (h : σ[m]? = some (some v)) (q : LcI K n te vs σ Q v H) : tLc (iTup K (tVar m)) (gName n) tYes te vs σ H Q := ⟨v, h, q.ok⟩
theorem r_nX {p : Prop} [Decidable p] {A B : Prop} (h : p) (q : B) : if (!decide p) = true then A else B := by
  rw [if_neg (by simp [h])]; exact q
theorem r_pX {p : Prop} [Decidable p] {A B : Prop} (h : p) (q : A) : if decide p = true then A else B := by
  rw [if_pos (by simp [h])]; exact q
theorem r_pN {p : Prop} [Decidable p] {A B : Prop} (h : ¬ p) (q : B) : if decide p = true then A else B := by
  rw [if_neg (by simp [h])]; exact q
end
theorem byTxt {α : Type} {p : α → Prop} {q : Prop} (h : ∃ a, p a) (k : ∀ a, p a → q) : q := (let ⟨a, z⟩ := h; k a z)
end MV

set_option Elab.async false
set_option linter.all false
set_option maxRecDepth 100000
set_option maxHeartbeats 2000000
/-! MVG: repr of data (none, bools, ints, texts, lists, tuples), where no repr is under way; how long such a text may be. -/
namespace MV
open PySem PySem.Spec PyProof.Rows L2
mutual
def bnd : PyData → Nat
  | .none => 4
  | .bool _ => 5
  | .int _ => 2000
  | .str x => (PySem.reprText x).length
  | .list ds => 2 + bndAll ds
  | .tuple ds => 3 + bndAll ds
  | .dict _ => 0
def bndAll : List PyData → Nat
  | [] => 0
  | d :: ds => bnd d + 2 + bndAll ds
end
theorem len_join : ∀ ts : List Str, (Str.join ", " ts).length ≤ piled ts
  | [] => by decide
  | t :: r => by
    have := join_length_add (t :: r) (by simp)
    omega
theorem len_list (ts : List Str) : (listText ts).length ≤ piled ts + 2 := by
  cases ts with
  | nil => decide
  | cons t r =>
    have h := textFrom_length_pos r 1 (("[" : Str) ++ (if (0 : Nat) > 0 then ", " else "" : String) ++ t) (Nat.succ_pos 0)
    have e : ((("[" : Str) ++ (if (0 : Nat) > 0 then ", " else "" : String) ++ t)).length = 1 + t.length := by
      rw [strLen_append, strLen_append]; rfl
    have hX : (listText (t :: r)).length = (textFrom 0 "[" (t :: r)).length + 1 := by
      unfold listText
      rw [strLen_append]; rfl
    have hY : textFrom 0 "[" (t :: r) = textFrom 1 (("[" : Str) ++ (if (0 : Nat) > 0 then ", " else "" : String) ++ t) r := rfl
    rw [hX, hY, h, e, piled_cons]
    omega
theorem len_tuple (ts : List Str) : (tupleText ts).length ≤ piled ts + 3 := by
  have := len_join ts
  unfold tupleText
  rw [strLen_append, strLen_append]
  have e1 : ((("(" : String) : Str)).length = 1 := rfl
  have e3 : (((if ts.length == 1 then ",)" else ")" : String) : Str)).length ≤ 2 := by split <;> decide
  rw [e1]
  omega
mutual
theorem bnd_ok : ∀ d : PyData, d.showable = true → d.hasDict = false → d.shown.length ≤ bnd d
  | .none, _, _ => by decide
  | .bool b, _, _ => by cases b <;> decide
  | .int i, h, _ => by
    rw [PyData.showable] at h
    have := PySem.int_text_length_le (a := i) (k := 1920) (by decide) (of_decide_eq_true h)
    rw [PyData.shown, bnd]
    have e : (PySem.Str.ofString (toString i)).length = (toString i).length := by exact PySem.ofString_length _
    omega
  | .str x, _, _ => by rw [PyData.shown, bnd]; exact Nat.le_refl _
  | .list ds, h, g => by
    rw [PyData.showable] at h
    rw [PyData.hasDict] at g
    have := bndAll_ok ds h g
    have := len_list (PyData.shownAll ds)
    rw [PyData.shown, bnd]
    omega
  | .tuple ds, h, g => by
    rw [PyData.showable] at h
    rw [PyData.hasDict] at g
    have := bndAll_ok ds h g
    have := len_tuple (PyData.shownAll ds)
    rw [PyData.shown, bnd]
    omega
  | .dict _, _, g => by rw [PyData.hasDict] at g; cases g
theorem bndAll_ok : ∀ ds : List PyData, PyData.showableAll ds = true → PyData.hasDictAll ds = false → piled (PyData.shownAll ds) ≤ bndAll ds
  | [], _, _ => by rw [PyData.shownAll]; exact Nat.zero_le _
  | d :: r, h, g => by
    rw [PyData.showableAll, Bool.and_eq_true] at h
    rw [PyData.hasDictAll, Bool.or_eq_false_iff] at g
    have h1 := bnd_ok d h.1 g.1
    have h2 := bndAll_ok r h.2 g.2
    rw [PyData.shownAll, piled_cons, bndAll]
    omega
end
/-- data that can be shown: ints of at most 500 digits, texts and depth within bounds -/
structure Shw (d : PyData) : Prop where
  sh : d.showable = true
  nd : d.hasDict = false
  dp : d.depth ≤ 50
  ln : bnd d ≤ sizeLine
def rRepr (K : PySem.W.Frag) : List V → Hp → VK → Prop := fun xs H Q => ∃ x d, xs = [x] ∧ Dp K H x d ∧ Shw d ∧ Q (.str d.shown) H
theorem callg_repr {X : Cx} (hg : X.A.guards = some []) (hu : X.A.units + 64 < cLine) : CallR X (.builtin "repr") (rRepr X.K) := by
  intro pins s σ H xs us Q I r h
  obtain ⟨x, d, rfl, hd, S, q⟩ := h
  obtain ⟨as, hr⟩ : ∃ as, us = [as] ∧ RelV x as := by
    cases r with
    | cons r rr => cases rr; exact ⟨_, rfl, r⟩
  obtain ⟨rfl, rv⟩ := hr
  obtain ⟨ps, R⟩ := Dp.reads I d x as hd rv
  have hl : d.shown.length ≤ sizeLine := Nat.le_trans (bnd_ok d S.sh S.nd) S.ln
  have fin : ∀ (h' : Heap) (u tk : Nat), (∀ b o, s.heap.get? b = some o → h'.get? b = some o) → EP X pins σ Q (.str d.shown u) { s with heap := h', toks := tk } :=
    fun h' u tk hk => ⟨.str d.shown, H, I.kept hk, ⟨u, rfl⟩, q⟩
  have dp := S.dp
  cases R with
  | none => exact PySem.P.repr_of_none (fin _ _ _ fun _ _ e => e)
  | bool b => exact PySem.P.repr_of_bool (by have := fin s.heap s.toks (s.toks + 1) fun _ _ e => e; cases b <;> exact this)
  | int i t => exact PySem.P.repr_of_int (by have z := S.sh; rw [PyData.showable] at z; exact of_decide_eq_true z) (fin _ _ _ fun _ _ e => e)
  | str x t => exact PySem.P.repr_of_str (fin _ _ _ fun _ _ e => e) hl
  | list h1 h2 h3 h4 => exact repr_of_reads' (.list h1 h2 h3 h4) S.sh (PyData.noDict_hsm S.nd) hg (by omega) (fun _ _ e => e) (fun h' u tk hk => fin h' u tk hk) hl
  | tuple h1 h2 h3 h4 => exact repr_of_reads' (.tuple h1 h2 h3 h4) S.sh (PyData.noDict_hsm S.nd) hg (by omega) (fun _ _ e => e) (fun h' u tk hk => fin h' u tk hk) hl
  | dict _ _ _ _ _ => exact absurd S.nd (by rw [PyData.hasDict]; decide)
end MV

set_option Elab.async false
set_option linter.all false
set_option maxRecDepth 100000
set_option maxHeartbeats 2000000
/-! MVH: own operators of two instances of a class, own ~, own calls. -/
namespace MV
open PySem PySem.Spec PySem.Calls PyProof.Rows L2
section
variable {X : Cx} {CX : CXT} {k i : Nat} {f C : Addr} {fd : FuncData} {ps : List Str} {sp : Sp} {E : XK} {x : Str} {p pos : Pos} {e : Expr} {es : List Expr} {t : TA}
/-- the class C has a def of that special name -/
structure HasS (K : PySem.W.Frag) (C f : Addr) (n : Str) : Prop where
  at_ : PySem.W.findIn K (.ref C) n = some (some (.ref f))
  fn : PySem.W.isFn K (.ref f) = true
def rOwnBin (K : PySem.W.Frag) (C : Addr) (sp : Sp) (E : XK) : R2 := fun x y H Q => ∃ a dx fs, x = .ref a ∧ H a = some (.ins C dx fs) ∧ TyX K H y (.ref C) ∧ sp [x, y] H Q E
theorem opg_bin {op : Operator} (h : HasS X.K C f (PySem.dunder op.info.2)) (hc : PySem.W.selfFirst X.K C = true) (F : FnG X.prog X.w X.K X.mg X.base CX k f fd ps sp) (hr : Room k X.A) (hg : X.A.guards = some [])
    (hb : Binds X.K fd ps []) (hx : Passes CX X E) : OpR X (binaryOp op) (rOwnBin X.K C sp E) := by
  intro pins s σ H x y v u Q I rx ry q
  obtain ⟨a, dx, fs, rfl, ea, ty, q⟩ := q
  cases rx
  obtain ⟨mA, O, _⟩ := ins_get I.hok ea
  obtain ⟨od, J, _⟩ := O.look
  obtain ⟨m, hF⟩ := I.fr
  obtain ⟨P, kx, hP, _⟩ := kit_of I ry ty
  refine PySem.W.binop_K hF I.ok.mod.kin J (kx.ty _ _ I.kIn hP) hc h.at_ h.fn (thn (callG (us := [.ref a, u]) (vs := [.ref a, y]) F hr hg hb .nil hx I (.cons rfl (.cons ry .nil)) q) ?_)
  rintro z s' ⟨v', H', I', rv, q'⟩
  have fin : EP X pins σ Q z s' := ⟨v', H', I', rv, q'⟩
  cases z <;> first | exact fin | (cases v' <;> first | exact False.elim rv | (obtain ⟨_, h⟩ := rv; cases h) | cases rv)
def rOwnInv (C : Addr) (sp : Sp) (E : XK) : V → Hp → VK → Prop := fun x H Q => ∃ a dx fs, x = .ref a ∧ H a = some (.ins C dx fs) ∧ sp [x] H Q E
theorem ung_inv (h : HasS X.K C f "__invert__") (F : FnG X.prog X.w X.K X.mg X.base CX k f fd ps sp) (hr : Room k X.A) (hg : X.A.guards = some [])
    (hb : Binds X.K fd ps []) (hx : Passes CX X E) : UnR X (unaryOp .Invert) (rOwnInv C sp E) := by
  intro pins s σ H x v Q I rx q
  obtain ⟨a, dx, fs, rfl, ea, q⟩ := q
  cases rx
  obtain ⟨mA, O, _⟩ := ins_get I.hok ea
  obtain ⟨od, J, _⟩ := O.look
  obtain ⟨m, hF⟩ := I.fr
  exact PySem.W.ksp_inv hF I.ok.mod.kin J h.at_ h.fn (callG (us := [.ref a]) (vs := [.ref a]) F hr hg hb .nil hx I (.cons rfl .nil) q)
theorem instPlain {C dx : Addr} : (PySem.W.instObj C dx).data = .plain := rfl
theorem keeper_of {M : Model} {h : Heap} {a : Addr} {o : Obj} (e : h.get? a = some o) (d : o.data = .plain) : PySem.W.Looks M h (keeperOf (.ref a)) .caller := by
  refine PySem.W.Looks.andThen (.ld (part := none) e) ?_
  rw [d]
  exact .now
/-- a call of an instance that stays where it is while the arguments are made -/
theorem callInst {M : Model} {A : Around} {z : Value → Shared → Prop} {s : Shared} {a : Addr} {o : Obj} {Q : Value → Shared → Prop} {ls : List (Bool × Sem Value)} {ks : List (Option Str × Sem Value)}
    (no : (ls.any (·.1) || ks.any (·.1.isNone)) = false) (d : o.data = .plain)
    (run : wpAny M A (evalArgs (.ref a) true ls ks) (fun g s1 => s1.heap.get? a = some o ∧ wpAny M A (call (.ref a) g.pos g.kw) Q z s1) z s) :
    wpAny M A (callWith pos (.ref a) [] ls ks) Q z s := by
  unfold callWith
  refine wpAny_bind (wpAny_holding (thn run ?_))
  intro g s1 w1
  obtain ⟨e1, w1⟩ := w1
  refine wpAny_bind (wpAny_standAt ?_)
  rw [no]
  refine wpAny_bind ((keeper_of e1 d).here (wpAny_bind (thn (wpAny_operateT w1) ?_)))
  intro r s2 q
  exact wpAny_bind (wpAny_holding (wpAny_point (wpAny_pure q)))
/-- x(..), x a local that holds an instance whose class has a def __call__ -/
def tCallI (i : Nat) (C : Addr) (sp : Sp) (E : XK) (t : TA) : TE := fun σ H Q => ∃ v a dx fs, σ[i]? = some (some v) ∧ v = .ref a ∧ H a = some (.ins C dx fs) ∧ t σ H fun vs H1 => (∃ fs', H1 a = some (.ins C dx fs')) ∧ sp (v :: vs) H1 Q E
theorem peg_calli (h : HasS X.K C f "__call__") (hfn : PySem.W.fnIn X.K f = true) (F : FnG X.prog X.w X.K X.mg X.base CX k f fd ps sp) (hr : Room k X.A) (hg : X.A.guards = some [])
    (hb : Binds X.K fd ps []) (hx : Passes CX X E) (hN : X.N[i]? = some x) (hv : Vis X.env.scope x) (ha : PA X (e :: es) t)
    (hdb : (x == ("__debug__" : Str)) = false := by decide) (hcd : (x == ("__classdict__" : Str)) = false := by decide)
    (he : starEach (e :: es) X.env = (false, eval e X.env) :: starEach es X.env := by rfl) (hpl : (backTo pos (starEach es X.env)).any (·.1) = false := by rfl) :
    PE X (.Call (.Name x p) (e :: es) [] pos) (tCallI i C sp E t) := by
  refine ⟨fun pins s σ H Q I h' => ?_⟩
  obtain ⟨v, a, dx, fs, hs, rfl, ea, ht⟩ := h'
  refine wpAny_Call_Name_kw (thn ((pe_var (pos := p) hN hv hdb hcd).run pins s σ H (fun v H1 => v = .ref a ∧ H1 = H) I ⟨.ref a, hs, rfl, rfl⟩) fun u s1 ⟨v, H1, I1, r1, q1⟩ => ?_)
  obtain ⟨rfl, rfl⟩ := q1
  cases r1
  obtain ⟨mA, O, _⟩ := ins_get I1.hok ea
  obtain ⟨od, J, _⟩ := O.look
  rw [he]
  refine callInst (o := PySem.W.instObj C dx) (by show ((false || (backTo pos (starEach es X.env)).any (·.1)) || false) = false; rw [hpl]; rfl) rfl (evalArgs_plain ?_)
  suffices go : wpAny (model X.prog X.w) X.A (spliced (backTo pos (starEach (e :: es) X.env))) (fun vs s' => s'.heap.get? a = some (PySem.W.instObj C dx) ∧ wpAny (model X.prog X.w) X.A (call (.ref a) vs) (EP X pins σ Q) X.xe s') X.xe s1 by
    rw [he] at go
    exact go
  refine thn (ha.run pos pins s1 σ _ _ I1 ht) fun us s2 ⟨vs, H2, I2, r, ⟨fs2, e2⟩, q⟩ => ?_
  obtain ⟨mA2, O2, _⟩ := ins_get I2.hok e2
  obtain ⟨od2, J2, _⟩ := O2.look
  refine ⟨J2.at_, wpAny_call ?_⟩
  refine PySem.W.kco_code I2.kIn J2 rfl h.at_ h.fn hfn ?_
  refine codeAny_mono (runG (us := .ref a :: us) (vs := .ref a :: vs) (Q := Q) F hr hg I2.env0 hb .nil hx I2 (.cons rfl r) ?_) fun z s' hq => ?_
  · rw [List.append_nil]
    exact q
  · match z, hq with
    | .ok (.ret _), hq => exact hq
    | .error _, hq => exact hq
theorem r_cval {K : PySem.W.Frag} {σ : L2.St} {H : Hp} {Q : VK} {ta : TE} {fn : Str} (q : ta σ H fun x H1 => ∃ C mc v u, x = .ref C ∧ ClX.CRead K C mc ∧ ClX.CVal K C mc fn v u ∧ Q v H1) : ClX.tCVal K ta fn σ H Q := q
theorem r_isiSS {K : PySem.W.Frag} {H : Hp} {Q : VK} {z : Str} (q : Q (.bl true) H) : rIsi K [.str z, .ty "str"] H Q := r_isi (.ty _) (.base (.str z)) (kit_ty (by decide +kernel)) q
end
end MV

set_option Elab.async false
set_option linter.all false
set_option maxRecDepth 100000
set_option maxHeartbeats 2000000
/-! MVI: static methods by their class; the keys of a dict of the text; a comprehension over known items. -/
namespace MV
open PySem PySem.Spec PySem.Calls PyProof.Rows L2
section
variable {X : Cx} {CX : CXT} {k : Nat} {f C p : Addr} {fd : FuncData} {ps : List Str} {sp : Sp} {dvs : List V} {ds : List Value} {E : XK} {m : Str} {pos apos : Pos} {o e : Expr} {es : List Expr} {ta : TE} {t : TA} {mc : Value}
/-- C.m is a static method: its record at p, its def at f -/
structure SMet (K : PySem.W.Frag) (C : Addr) (mc : Value) (m : Str) (p f : Addr) : Prop where
  rd : ClX.CRead K C mc
  at_ : PySem.W.findCls K (.ref C) mc m = some (.get (.builtin "staticmethod.__get__") (.ref p) .none (.ref C))
  rc : ∃ rest, PySem.W.recIn K p "staticmethod" = some (.ref f :: rest)
  kp : PySem.W.keepIn K (.ref f) = true
def tSMeth (C : Addr) (sp : Sp) (dvs : List V) (E : XK) (ta : TE) (t : TA) : TE := fun σ H Q => ta σ H fun x H1 => x = .ref C ∧ t σ H1 fun vs H2 => sp (vs ++ dvs) H2 Q E
theorem peg_smeth {pl : Sem Bool} (he : PE X o ta) (S : SMet X.K C mc m p f)
    (F : FnG X.prog X.w X.K X.mg X.base CX k f fd ps sp) (hr : Room k X.A) (hg : X.A.guards = some [])
    (hb : Binds X.K fd ps ds) (hd : Vals dvs ds) (hx : Passes CX X E) (ha : PA X (e :: es) t)
    (hst : starEach (e :: es) X.env = (false, eval e X.env) :: starEach es X.env := by rfl)
    (hpl : (backTo pos (starEach es X.env)).any (·.1) = false := by rfl)
    (ht : eval (.Call (.Attribute o m apos) (e :: es) [] pos) X.env = (do
      let ov ← eval o X.env
      standAt apos.atName
      let (g, first) ← holding [ov] (getMethod ov m pl)
      callWith pos g first (backTo pos (starEach (e :: es) X.env)) (backToKw pos (keywordEach [] X.env))) := by rfl) :
    PE X (.Call (.Attribute o m apos) (e :: es) [] pos) (tSMeth C sp dvs E ta t) := by
  constructor
  intro pins s σ H Q I h
  refine PySem.W.methodCall_KW (pl := pl) (thn (he.run pins s σ H _ I h) ?_) ht
  rintro u s1 ⟨_, H1, I1, rx, rfl, q⟩
  cases rx
  obtain ⟨rest, hrec⟩ := S.rc
  refine PySem.W.method_cls I1.kIn S.rd.ga (PySem.W.cls_bind I1.kIn S.rd.rd S.at_ (wpAny_call (PySem.W.sm_get (s := { s1 with toks := s1.toks + 1 }) I1.kIn hrec (PySem.W.handed_on rfl ?_))))
  have I2 := I1.tok (s1.toks + 1)
  refine PySem.W.callWith_K (first := []) (h₀ := X.base) I.ok.mod.kin S.kp ?_ hst hpl
  refine thn (ha.run pos pins _ σ H1 _ I2 q) fun us s2 ⟨vs, H2, I3, r, q2⟩ => ⟨I3.kIn, ?_⟩
  exact callG F hr hg hb hd hx I3 r q2
end

/-! ### the keys of a dict of the text -/
def KKeys (K : PySem.W.Frag) (d : Addr) (xs : List V) : Prop := ∃ (es : Array DictEntry) (n : Nat), K.lookup d = some ⟨.type "dict", none, .dict es n, #[]⟩ ∧ (d == sysModules) = false ∧ Vals xs (es.toList.map (·.key))
/-- known items, one behind another -/
def Itx (xs : List V) : It := ⟨fun i _ => i < xs.length, fun i H x H' => H' = H ∧ xs[i]? = some x, fun i _ => xs.length ≤ i⟩
def iKK (K : PySem.W.Frag) (td : TE) : TI := fun σ H R => td σ H fun x H1 => ∃ d xs, x = .ref d ∧ KKeys K d xs ∧ R (Itx xs) H1
theorem vals_at {xs : List V} {us : List Value} (r : Vals xs us) {i : Nat} {x : V} (h : xs[i]? = some x) : ∃ u, us[i]? = some u ∧ RelV x u := by
  induction r generalizing i with
  | nil => cases h
  | cons r _ ih =>
    cases i with
    | zero => cases h; exact ⟨_, rfl, r⟩
    | succ i => exact ih h
theorem turn_kk {P : Program} {w : World} {K : PySem.W.Frag} {tg : Expr} {d : Addr} {xs : List V} {es : Array DictEntry} {n : Nat} (it : Addr) (hl : K.lookup d = some ⟨.type "dict", none, .dict es n, #[]⟩)
    (r : Vals xs (es.toList.map (·.key))) : Turn P w K tg (Itx xs) [it] it (fun i h => h.IsKeyIter it d i xs.length n) where
  mem := List.mem_cons_self
  obj := by
    intro i h st b hb
    cases List.mem_singleton.mp hb
    obtain ⟨oi, e, c, dd⟩ := st
    exact ⟨oi, e, fun v z => by rw [dd] at z; cases z⟩
  keep := fun i h h' st k => st.at fun oi e => k it List.mem_cons_self oi e
  item := by
    intro X hP hw hK hc i pins s σ H E I hf st hg
    subst hP hw hK
    have hg : i < xs.length := hg
    obtain ⟨f0, f1, f2, f3, f4, f5⟩ := hf it List.mem_cons_self
    obtain ⟨x, hx⟩ : ∃ x, xs[i]? = some x := ⟨xs[i], List.getElem?_eq_getElem hg⟩
    obtain ⟨u, hu, ru⟩ := vals_at r hx
    rw [List.getElem?_map] at hu
    obtain ⟨en, hen, rfl⟩ := Option.map_eq_some_iff.mp hu
    have hsz : es.size = xs.length := by
      have := Paired.length r
      rw [List.length_map, Array.length_toList] at this
      exact this.symm
    refine next_key_item st (I.kIn _ _ hl) rfl hsz (by rw [← Array.getElem?_toList]; exact hen) fun h' st' sb => ?_
    have I1 : Inv X pins σ H { s with heap := h' } := I.turned (t' := s.toks) (fun b ob hb e => (sb.2 b hb).trans e) f0 f1 f3 f4 f5
    obtain ⟨oi, e, c, dd⟩ := id st'
    exact ⟨_, rfl, go_of (s := { s with heap := h' }) e c dd (by decide) ⟨x, H, I1, ru, ⟨rfl, hx⟩, st', fun b hb => (hf b hb).1⟩⟩
  done := by
    intro X hP hw hK hc i pins s σ H E I hf st hg
    subst hP hw hK
    have hg : xs.length ≤ i := hg
    obtain ⟨f0, f1, f2, f3, f4, f5⟩ := hf it List.mem_cons_self
    have hsz : es.size = xs.length := by
      have := Paired.length r
      rw [List.length_map, Array.length_toList] at this
      exact this.symm
    exact next_key_end (I.ok.hd hc) st (I.kIn _ _ hl) rfl hsz hg fun h' eb => ⟨rfl, I.turned (t' := s.toks) (fun b ob hb e => eb b ob hb e) f0 f1 f3 f4 f5⟩
  self := fun A i s Q E st h => wpAny_pyIter_keyiter st h
theorem pi_kk {X : Cx} {tg e : Expr} {td : TE} (he : PE X e td) : PI X tg e (iKK X.K td) := by
  constructor
  intro pins s σ H R I h
  refine thn (he.run pins s σ H _ I h) ?_
  rintro u s1 ⟨_, H1, I1, rx, d, xs, rfl, ⟨es, n, hl, hs, r⟩, q⟩
  cases rx
  have hsz : es.size = xs.length := by
    have := Paired.length r
    rw [List.length_map, Array.length_toList] at this
    exact this.symm
  refine iter_keys hs (I1.kIn _ _ hl) ⟨rfl, rfl, rfl⟩ rfl (pi_one (tk := s1.toks) I1 _ (turn_kk _ hl r) ⟨_, Heap.get?_push_size _ rfl, rfl, ?_⟩ q)
  rw [hsz]
  rfl

/-! ### [te for n in known items if tt] -/
theorem lc_known {xs : List V} {g : TG} {tt : TT} {te : TE} {vs : List Nat} {σ : L2.St} {H1 : Hp} {D : Addr} {Qd : Hp → Prop} (Pv : Nat → Hp → Prop) (h0 : Pv 0 (upd H1 D (.lst [])))
    (hs : ∀ i x H, xs[i]? = some x → Pv i H → g x (wipe σ vs) H fun σ2 H2 => wipe σ2 vs = wipe σ vs ∧ tt σ2 H2 fun b H3 =>
      if b = true then te σ2 H3 fun y H4 => ∃ acc, H4 D = some (.lst acc) ∧ acc.length < sizeLine ∧ Pv (i + 1) (upd H4 D (.lst (acc ++ [y]))) else Pv (i + 1) H3) (hd : ∀ H, Pv xs.length H → Qd H) :
    ∃ W : Nat → Nat → Hp → Prop, (∃ m, W 0 m (upd H1 D (.lst []))) ∧ ∀ i m H, W i m H →
      ((Itx xs).stop i H ∧ Qd H) ∨ ((Itx xs).go i H ∧ ∃ Nx : Hp → Prop, (∀ H', Nx H' → ∃ m', m' < m ∧ W (i + 1) m' H') ∧ ∀ x H', (Itx xs).yld i H x H' → g x (wipe σ vs) H' fun σ2 H2 => wipe σ2 vs = wipe σ vs ∧ tt σ2 H2 fun b H3 =>
        if b = true then te σ2 H3 fun y H4 => ∃ acc, H4 D = some (.lst acc) ∧ acc.length < sizeLine ∧ Nx (upd H4 D (.lst (acc ++ [y]))) else Nx H3) := by
  refine ⟨fun i m H => m = xs.length - i ∧ i ≤ xs.length ∧ Pv i H, ⟨_, rfl, Nat.zero_le _, h0⟩, ?_⟩
  rintro i m H ⟨rfl, hi, p⟩
  by_cases hlt : i < xs.length
  · refine .inr ⟨hlt, Pv (i + 1), fun H' p' => ⟨_, ?_, rfl, hlt, p'⟩, ?_⟩
    · omega
    · rintro x H' ⟨rfl, hx⟩
      exact hs i x _ hx p
  · have e : i = xs.length := by omega
    subst e
    exact .inl ⟨Nat.le_refl _, hd H p⟩
end MV

set_option Elab.async false
set_option linter.all false
set_option maxRecDepth 100000
set_option maxHeartbeats 2000000
/-! MVJ: defs with defaults; tuples and dicts of the text as facts. -/
namespace MV
open PySem PySem.Spec PySem.Calls PyProof.Rows L2
section
variable {P : Program} {w : World} {K : PySem.W.Frag} {mg : Str → Option Value} {base : Heap} {CX : CXT} {k : Nat} {f : Addr} {fd : FuncData} {ps : List Str} {sp : Sp}
  {x qual : Str} {params : Arguments} {body : List Stmt} {scope : Scope} {dvs : List V} {kws : List (Str × V)} {N : List Str}
/-- the rule of a def with defaults -/
theorem FunD.g (F : FunD K x qual params body scope dvs kws f fd) (S : FnScope N ps scope)
    (ln : ∀ vs H Q E, sp vs H Q E → vs.length = ps.length)
    (hb : ∀ (cdv : Value) (A : Around) (outer : List Env) (s : Shared) (H : Hp) (vs : List V) (Q : VK) (E : XK),
      Room k (A.deeper (envOfC qual scope s.heap.objs.size f cdv)) →
      (A.deeper (envOfC qual scope s.heap.objs.size f cdv)).guards = some [] → sp vs H Q E →
      ∃ t, PSs (cxOf CX P w K mg base N qual scope f cdv A outer s H E) body t ∧
        t { nx := fun _ H' => Q .non H', rt := Q } (start N vs) H) :
    FnG P w K mg base CX (k + 1) f fd ps sp := by
  obtain ⟨oc, od, dV, kV, doc, pm, an, cdv, ct, osl, rfl, lk, hcd, _, _⟩ := F.ex
  exact fng_of lk hcd S ln fun A outer s H vs Q E hr hg h => hb cdv A outer s H vs Q E hr hg h
end
/-- a tuple of the text -/
def KT (K : PySem.W.Frag) (p : Addr) (xs : List V) : Prop := ∃ (od : Option Addr) (its : Array Value) (n : Nat) (sl : Array (Option Value)), K.lookup p = some ⟨.type "tuple", od, .seq its n, sl⟩ ∧ its.size ≤ sizeLine ∧ Vals xs its.toList
theorem KT.t {K : PySem.W.Frag} {H : Hp} {p : Addr} {xs : List V} (h : KT K p xs) : SqT K H p xs := (let ⟨_, its, n, _, h1, h2, h3⟩ := h; .inr ⟨_, its, n, h1, rfl, rfl, h2, h3⟩)
theorem KT.k {K : PySem.W.Frag} {H : Hp} {p : Addr} {ns : List Int} (h : KT K p (ns.map V.int)) : IK K H (.ref p) ns := ⟨p, rfl, h.t⟩
/-- == of data at any depth, where the frame's K is given -/
theorem op_eqDk {X : Cx} {K : PySem.W.Frag} (e : X.K = K) (hu : X.A.units + 64 < cLine) : OpR X (compareOp .Eq) (rEqD K) := e ▸ op_eqD hu
theorem op_neDk {X : Cx} {K : PySem.W.Frag} (e : X.K = K) (hu : X.A.units + 64 < cLine) : OpR X (compareOp .NotEq) (rNeD K) := e ▸ op_neD hu
theorem kt_mk {K : PySem.W.Frag} {p : Addr} {xs : List V} {od : Option Addr} {its : Array Value} {n : Nat} {sl : Array (Option Value)} (h : K.lookup p = some ⟨.type "tuple", od, .seq its n, sl⟩) (z : its.size ≤ sizeLine) (v : Vals xs its.toList) : KT K p xs :=
  ⟨od, its, n, sl, h, z, v⟩
theorem kd_mk {K : PySem.W.Frag} {w : World} {a : Addr} {x : Str} {v : V} {es : Array DictEntry} {n : Nat} {u : Value} (h : K.lookup a = some ⟨.type "dict", none, .dict es n, #[]⟩) (l : PySem.W.KeysLit w.params es.toList)
    (e : PySem.W.nsIn K a x = some (some u)) (r : RelV v u) : KDct K w a x v := ⟨es, n, u, h, l, e, r⟩
theorem kk_mk {K : PySem.W.Frag} {d : Addr} {xs : List V} {es : Array DictEntry} {n : Nat} (h : K.lookup d = some ⟨.type "dict", none, .dict es n, #[]⟩) (e : (d == sysModules) = false) (r : Vals xs (es.toList.map (·.key))) : KKeys K d xs := ⟨es, n, h, e, r⟩
theorem binds_all {K : PySem.W.Frag} {fd : FuncData} {ps : List Str} (h : ∃ ds, Vals [] ds ∧ Binds K fd ps ds) : Binds K fd ps [] := by
  obtain ⟨ds, v, b⟩ := h
  cases v
  exact b
end MV

set_option Elab.async false
set_option linter.all false
set_option maxRecDepth 100000
set_option maxHeartbeats 2000000
/-! MVK: repr by an own __repr__; {x!r} of data. -/
namespace MV
open PySem PySem.Spec PySem.Calls PyProof.Rows L2
theorem ix_seqk {X : Cx} {K : PySem.W.Frag} (e : X.K = K) : IxR X (rIx K) := e ▸ ix_seq
section
variable {X : Cx} {CX : CXT} {k : Nat} {f C : Addr} {fd : FuncData} {ps : List Str} {sp : Sp} {E : XK} {e : Expr} {te : TE} {pos : Pos}
/-- repr(x), x an instance whose class has a def __repr__ -/
def rOwnRepr (C : Addr) (sp : Sp) (E : XK) : List V → Hp → VK → Prop := fun xs H Q => ∃ a dx fs, xs = [.ref a] ∧ H a = some (.ins C dx fs) ∧ sp xs H (fun z H' => ∃ t, z = .str t ∧ Q (.str t) H') E
theorem callg_own {K : PySem.W.Frag} (h : HasS X.K C f "__repr__") (F : FnG X.prog X.w X.K X.mg X.base CX k f fd ps sp) (hr : Room (k + 1) X.A) (hg : X.A.guards = some [])
    (hb : Binds X.K fd ps []) (hx : Passes CX X E) : CallR X (.builtin "repr") (rOwnRepr C sp E) := by
  intro pins s σ H xs us Q I r q
  obtain ⟨a, dx, fs, rfl, ea, q⟩ := q
  obtain ⟨u, rfl, rv⟩ : ∃ u, us = [u] ∧ RelV (.ref a) u := by
    cases r with
    | cons r rr => cases rr; exact ⟨_, rfl, r⟩
  cases rv
  obtain ⟨mA, O, _⟩ := ins_get I.hok ea
  obtain ⟨od, J, _⟩ := O.look
  obtain ⟨m, hF⟩ := I.fr
  have hu : X.A.in1.units < cLine := by
    have := hr.un
    show X.A.units + 1 < cLine
    omega
  refine PySem.W.repr_K hu hF I.ok.mod.kin J h.at_ h.fn (wpAny_call ?_)
  refine codeAny_mono (runG (us := [.ref a]) (vs := [.ref a]) F hr.in1 hg I.env0.in1 hb .nil hx I (.cons rfl .nil) q) fun z s' hq => ?_
  match z, hq with
  | .error _, hq => exact hq
  | .ok (.ret w), ⟨v, H', I', rv, t, ev, q'⟩ =>
    subst ev
    obtain ⟨tk, rfl⟩ := rv
    exact ⟨.str t, H', I', ⟨tk, rfl⟩, q'⟩
/-- {x!r} of data that stands at an address -/
def tFmtD (K : PySem.W.Frag) (te : TE) : TE := fun σ H Q => te σ H fun x H1 => ∃ a d, x = .ref a ∧ Dp K H1 x d ∧ Shw d ∧ Q (.str d.shown) H1
theorem pe_fmtD (hg : X.A.guards = some []) (hu : X.A.units + 64 < cLine) (he : PE X e te) : PE X (.FormattedValue e 114 none pos) (tFmtD X.K te) := by
  constructor
  intro pins s σ H Q I h
  refine wpAny_FormattedValue_repr (thn (he.run pins s σ H _ I h) ?_)
  rintro v s1 ⟨_, H1, I1, rv, a, d, rfl, hd, S, q⟩
  obtain ⟨as, R⟩ := Dp.reads I1 d _ v hd rv
  cases rv
  have dp := S.dp
  have hl : d.shown.length ≤ sizeLine := Nat.le_trans (bnd_ok d S.sh S.nd) S.ln
  refine pyReprObj_of_reads R S.sh (PyData.noDict_hsm S.nd) hg (by omega) (fun _ _ e => e) (fun h' u tk hk => ?_) hl
  have I2 : Inv X pins σ H1 { s1 with heap := h', toks := tk } := I1.kept hk
  exact wpAny_formatField_str ⟨.str d.shown, H1, I2, ⟨_, rfl⟩, q⟩ ⟨.str d.shown, H1, I2.tok _, ⟨_, rfl⟩, q⟩ hl
end
end MV

set_option Elab.async false
set_option linter.all false
set_option maxRecDepth 100000
set_option maxHeartbeats 2000000
/-! MVL: comprehensions over a list as readings; pairs unpacked; data of texts. -/
namespace MV
open PySem PySem.Spec PySem.Calls PyProof.Rows L2
section
variable {K : PySem.W.Frag} {σ : L2.St} {H H1 : Hp} {n : Nat} {tl te : TE} {tt : TT} {g : TG} {vs : List Nat} {Q : VK} {x : V}
/-- [te for .. in x if tt], x a list that is already read -/
def LcLR (K : PySem.W.Frag) (g : TG) (tt : TT) (te : TE) (vs : List Nat) (σ : L2.St) (Q : VK) (x : V) (H1 : Hp) : Prop := ∃ a, x = .ref a ∧ (∃ xs, SqL K H1 a xs) ∧ ∀ D, H1 D = none → ∃ W : Nat → Nat → Hp → Prop, (∃ m, W 0 m (upd H1 D (.lst []))) ∧ ∀ i m H, W i m H →
  ((Itl K a).stop i H ∧ Q (.ref D) H) ∨ ((Itl K a).go i H ∧ ∃ Nx : Hp → Prop, (∀ H', Nx H' → ∃ m', m' < m ∧ W (i + 1) m' H') ∧ ∀ x H', (Itl K a).yld i H x H' → g x (wipe σ vs) H' fun σ2 H2 => wipe σ2 vs = wipe σ vs ∧ tt σ2 H2 fun b H3 =>
    if b = true then te σ2 H3 fun y H4 => ∃ acc, H4 D = some (.lst acc) ∧ acc.length < sizeLine ∧ Nx (upd H4 D (.lst (acc ++ [y]))) else Nx H3)
theorem r_lcL (q : tl σ H fun x H1 => LcLR K g tt te vs σ Q x H1) : tLc (iList K tl) g tt te vs σ H Q := q
theorem lcl_ok {p : Addr} {xs : List V} (hp : H1 p = some (.lst xs)) (k : ∀ D, H1 D = none → ∃ Pv : Nat → Hp → Prop, Pv 0 (upd H1 D (.lst [])) ∧ (∀ i H, i ≤ xs.length → Pv i H → H p = some (.lst xs)) ∧
    (∀ i x H, xs[i]? = some x → Pv i H → g x (wipe σ vs) H fun σ2 H2 => wipe σ2 vs = wipe σ vs ∧ tt σ2 H2 fun b H3 =>
      if b = true then te σ2 H3 fun y H4 => ∃ acc, H4 D = some (.lst acc) ∧ acc.length < sizeLine ∧ Pv (i + 1) (upd H4 D (.lst (acc ++ [y]))) else Pv (i + 1) H3) ∧ ∀ H, Pv xs.length H → Q (.ref D) H) :
    LcLR K g tt te vs σ Q (.ref p) H1 := by
  refine ⟨p, rfl, ⟨_, SqL.of hp⟩, fun D hD => ?_⟩
  obtain ⟨Pv, h0, hl, hs, hd⟩ := k D hD
  exact lc_list (xs := xs) Pv h0 (fun i H hi pv => SqL.of (hl i H hi pv)) hs hd
theorem r_unT2 {gs : TGs} {Q : L2.St → Hp → Prop} {p : Addr} {a b : V} (h : H p = some (.tup [a, b])) (q : gs [a, b] σ H Q) : gTup K 2 gs (.ref p) σ H Q := ⟨p, _, rfl, SqT.of h, rfl, q⟩
/-- the heap of a comprehension's start: what stood stands, the new list is empty -/
theorem lc_keep {D : Addr} {o : HO} (hD : H1 D = none) : ∀ b o', H1 b = some o' → upd H1 D o b = some o' := fun b o' e => by
  rw [upd_ne (ne_of_none e hD)]
  exact e
end
theorem dp_strs {K : PySem.W.Frag} {H : Hp} : ∀ ns : List Str, DpAll K H (ns.map V.str) (ns.map PyData.str)
  | [] => .nil
  | n :: r => .cons (.str n) (dp_strs r)
theorem eqvAll_strs : ∀ ns ms : List Str, PyData.eqvAll (ns.map PyData.str) (ms.map PyData.str) = decide (ns = ms)
  | [], [] => by rw [List.map_nil, PyData.eqvAll]; rfl
  | [], _ :: _ => by rw [List.map_nil, List.map_cons, PyData.eqvAll]; rfl
  | _ :: _, [] => by rw [List.map_nil, List.map_cons, PyData.eqvAll]; rfl
  | n :: r, m :: q => by
    rw [List.map_cons, List.map_cons, PyData.eqvAll, PyData.eqv, eqvAll_strs r q]
    by_cases h : n = m
    · subst h
      by_cases h2 : r = q
      · subst h2; simp
      · simp [h2]
    · simp [h]
end MV

set_option Elab.async false
set_option linter.all false
set_option maxRecDepth 100000
set_option maxHeartbeats 2000000
/-! Mot07Math: the eight kinds, numbers only. -/
namespace MV
open PySem
abbrev Mat := Int × Int × Int × Int
def KNS : List (Str × Mat) := [("none", 1, 0, 0, 1), ("left", 0, -1, 1, 0), ("half", -1, 0, 0, -1), ("right", 0, 1, -1, 0), ("flip", 1, 0, 0, -1), ("mirror", -1, 0, 0, 1), ("swap", 0, 1, 1, 0), ("cross", 0, -1, -1, 0)]
/-- k is the kind of the matrix m -/
def Kd (k : Str) (m : Mat) : Prop := (k, m) ∈ KNS
def mx (m : Mat) (x y : Int) : Int := m.1 * x + m.2.1 * y
def my (m : Mat) (x y : Int) : Int := m.2.2.1 * x + m.2.2.2 * y
/-- first n, then m -/
def mmul (m n : Mat) : Mat := (m.1 * n.1 + m.2.1 * n.2.2.1, m.1 * n.2.1 + m.2.1 * n.2.2.2, m.2.2.1 * n.1 + m.2.2.2 * n.2.2.1, m.2.2.1 * n.2.1 + m.2.2.2 * n.2.2.2)
def mone : Mat := (1, 0, 0, 1)
theorem Kd.cases {k : Str} {m : Mat} (h : Kd k m) : (k = "none" ∧ m = (1, 0, 0, 1)) ∨ (k = "left" ∧ m = (0, -1, 1, 0)) ∨ (k = "half" ∧ m = (-1, 0, 0, -1)) ∨ (k = "right" ∧ m = (0, 1, -1, 0)) ∨
    (k = "flip" ∧ m = (1, 0, 0, -1)) ∨ (k = "mirror" ∧ m = (-1, 0, 0, 1)) ∨ (k = "swap" ∧ m = (0, 1, 1, 0)) ∨ (k = "cross" ∧ m = (0, -1, -1, 0)) := by
  unfold Kd KNS at h
  simp only [List.mem_cons, List.not_mem_nil, or_false, Prod.mk.injEq] at h
  rcases h with ⟨h1, h2⟩ | ⟨h1, h2⟩ | ⟨h1, h2⟩ | ⟨h1, h2⟩ | ⟨h1, h2⟩ | ⟨h1, h2⟩ | ⟨h1, h2⟩ | ⟨h1, h2⟩ <;> simp [h1, h2, Prod.ext_iff]
theorem mat_list : ∀ t ∈ KNS, t.2 = (1, 0, 0, 1) ∨ t.2 = (0, -1, 1, 0) ∨ t.2 = (-1, 0, 0, -1) ∨ t.2 = (0, 1, -1, 0) ∨ t.2 = (1, 0, 0, -1) ∨ t.2 = (-1, 0, 0, 1) ∨ t.2 = (0, 1, 1, 0) ∨ t.2 = (0, -1, -1, 0) := by decide +kernel
theorem Kd.mat {k : Str} {m : Mat} (h : Kd k m) : m = (1, 0, 0, 1) ∨ m = (0, -1, 1, 0) ∨ m = (-1, 0, 0, -1) ∨ m = (0, 1, -1, 0) ∨ m = (1, 0, 0, -1) ∨ m = (-1, 0, 0, 1) ∨ m = (0, 1, 1, 0) ∨ m = (0, -1, -1, 0) := mat_list _ h
theorem uniq_list : ∀ t ∈ KNS, ∀ u ∈ KNS, mx t.2 1 2 = mx u.2 1 2 → my t.2 1 2 = my u.2 1 2 → t.1 = u.1 := by decide +kernel
theorem mul_list : ∀ t ∈ KNS, ∀ u ∈ KNS, ∃ v ∈ KNS, v.2 = mmul u.2 t.2 := by decide +kernel
theorem Kd.mul {k l : Str} {m n : Mat} (h : Kd k m) (g : Kd l n) : ∃ j, Kd j (mmul n m) := by
  obtain ⟨⟨j, a⟩, h1, h2⟩ := mul_list _ h _ g
  exact ⟨j, by cases h2; exact h1⟩
theorem inv_list : ∀ t ∈ KNS, ∃ v ∈ KNS, mmul v.2 t.2 = mone ∧ mmul t.2 v.2 = mone := by decide +kernel
theorem Kd.inv {k : Str} {m : Mat} (h : Kd k m) : ∃ j n, Kd j n ∧ mmul n m = mone ∧ mmul m n = mone := by
  obtain ⟨⟨j, a⟩, h1, h2⟩ := inv_list _ h
  exact ⟨j, a, h1, h2⟩
theorem invu_list : ∀ t ∈ KNS, ∀ u ∈ KNS, ∀ v ∈ KNS, mx u.2 (mx t.2 1 2) (my t.2 1 2) = 1 → my u.2 (mx t.2 1 2) (my t.2 1 2) = 2 → mx v.2 (mx t.2 1 2) (my t.2 1 2) = 1 → my v.2 (mx t.2 1 2) (my t.2 1 2) = 2 → u.1 = v.1 := by decide +kernel
theorem four_list : ∀ t ∈ KNS, mmul t.2 (mmul t.2 (mmul t.2 t.2)) = mone := by decide +kernel
theorem inj_list : ∀ t ∈ KNS, ∀ u ∈ KNS, t.2 = u.2 → t.1 = u.1 := by decide +kernel
theorem key_list : ∀ t ∈ KNS, ∀ u ∈ KNS, t.1 = u.1 → t.2 = u.2 := by decide +kernel
theorem Kd.same {k l : Str} {m : Mat} (h : Kd k m) (g : Kd l m) : k = l := inj_list _ h _ g rfl
theorem Kd.det {k : Str} {m n : Mat} (h : Kd k m) (g : Kd k n) : m = n := key_list _ h _ g rfl
theorem mx_mul (m n : Mat) (x y : Int) : mx m (mx n x y) (my n x y) = mx (mmul m n) x y := by
  unfold mx my mmul
  simp only [Int.mul_add, Int.add_mul, Int.mul_assoc]
  omega
theorem my_mul (m n : Mat) (x y : Int) : my m (mx n x y) (my n x y) = my (mmul m n) x y := by
  unfold mx my mmul
  simp only [Int.mul_add, Int.add_mul, Int.mul_assoc]
  omega
theorem mx_one (x y : Int) : mx mone x y = x := by show (1 : Int) * x + 0 * y = x; omega
theorem my_one (x y : Int) : my mone x y = y := by show (0 : Int) * x + 1 * y = y; omega
theorem Kd.bound {k : Str} {m : Mat} (h : Kd k m) (x y : Int) : ((mx m x y).natAbs = x.natAbs ∧ (my m x y).natAbs = y.natAbs) ∨ ((mx m x y).natAbs = y.natAbs ∧ (my m x y).natAbs = x.natAbs) := by
  unfold mx my
  rcases h.mat with rfl | rfl | rfl | rfl | rfl | rfl | rfl | rfl <;> simp only [] <;> omega
theorem Kd.coef {k : Str} {m : Mat} (h : Kd k m) : m.1.natAbs ≤ 1 ∧ m.2.1.natAbs ≤ 1 ∧ m.2.2.1.natAbs ≤ 1 ∧ m.2.2.2.natAbs ≤ 1 := by
  rcases h.mat with rfl | rfl | rfl | rfl | rfl | rfl | rfl | rfl <;> decide
theorem mx_add (m : Mat) (x y u v : Int) : mx m (x + u) (y + v) = mx m x y + mx m u v := by
  unfold mx; rw [Int.mul_add, Int.mul_add]; omega
theorem my_add (m : Mat) (x y u v : Int) : my m (x + u) (y + v) = my m x y + my m u v := by
  unfold my; rw [Int.mul_add, Int.mul_add]; omega
theorem mx_neg (m : Mat) (x y : Int) : mx m (-x) (-y) = -mx m x y := by
  unfold mx; rw [Int.mul_neg, Int.mul_neg]; omega
theorem my_neg (m : Mat) (x y : Int) : my m (-x) (-y) = -my m x y := by
  unfold my; rw [Int.mul_neg, Int.mul_neg]; omega
end MV

set_option Elab.async false
set_option linter.all false
set_option maxRecDepth 100000
set_option maxHeartbeats 4000000
namespace Law
open PySem PySem.Spec PyProof.Rows L2 MV
def topS (i : Nat) : Stmt := PySem.Challenge.pw_carpets_k07_motions_and_their_products.main.body.getD i (.Pass ⟨0, 0, 0, 0⟩)
abbrev s_is_integer : Stmt := topS 6
abbrev N_is_integer : List Str := ["value"]
abbrev P_is_integer : List Str := ["value"]
theorem sc_is_integer : FnScope N_is_integer P_is_integer (defScope s_is_integer) := ⟨rfl, rfl, rfl, by decide +kernel, rfl, by decide +kernel, by decide +kernel⟩
abbrev s_is_place : Stmt := topS 7
abbrev N_is_place : List Str := ["value"]
abbrev P_is_place : List Str := ["value"]
theorem sc_is_place : FnScope N_is_place P_is_place (defScope s_is_place) := ⟨rfl, rfl, rfl, by decide +kernel, rfl, by decide +kernel, by decide +kernel⟩
abbrev s_check_place : Stmt := topS 8
abbrev N_check_place : List Str := ["value"]
abbrev P_check_place : List Str := ["value"]
theorem sc_check_place : FnScope N_check_place P_check_place (defScope s_check_place) := ⟨rfl, rfl, rfl, by decide +kernel, rfl, by decide +kernel, by decide +kernel⟩
abbrev s_turned : Stmt := topS 13
abbrev N_turned : List Str := ["kind", "place", "p", "q", "r", "s", "x", "y"]
abbrev P_turned : List Str := ["kind", "place"]
theorem sc_turned : FnScope N_turned P_turned (defScope s_turned) := ⟨rfl, rfl, rfl, by decide +kernel, rfl, by decide +kernel, by decide +kernel⟩
abbrev s_kind_between : Stmt := topS 14
abbrev N_kind_between : List Str := ["place", "image", "kind"]
abbrev P_kind_between : List Str := ["place", "image"]
theorem sc_kind_between : FnScope N_kind_between P_kind_between (defScope s_kind_between) := ⟨rfl, rfl, rfl, by decide +kernel, rfl, by decide +kernel, by decide +kernel⟩
abbrev s_Motion_init : Stmt := inClass (topS 15) 1
abbrev N_Motion_init : List Str := ["self", "kind", "shift", "x", "y"]
abbrev P_Motion_init : List Str := ["self", "kind", "shift"]
theorem sc_Motion_init : FnScope N_Motion_init P_Motion_init (defScope s_Motion_init) := ⟨rfl, rfl, rfl, by decide +kernel, rfl, by decide +kernel, by decide +kernel⟩
abbrev s_Motion_by : Stmt := inClass (topS 15) 2
abbrev N_Motion_by : List Str := ["shift"]
abbrev P_Motion_by : List Str := ["shift"]
theorem sc_Motion_by : FnScope N_Motion_by P_Motion_by (defScope s_Motion_by) := ⟨rfl, rfl, rfl, by decide +kernel, rfl, by decide +kernel, by decide +kernel⟩
abbrev s_Motion_kind : Stmt := inClass (topS 15) 3
abbrev N_Motion_kind : List Str := ["self"]
abbrev P_Motion_kind : List Str := ["self"]
theorem sc_Motion_kind : FnScope N_Motion_kind P_Motion_kind (defScope s_Motion_kind) := ⟨rfl, rfl, rfl, by decide +kernel, rfl, by decide +kernel, by decide +kernel⟩
abbrev s_Motion_shift : Stmt := inClass (topS 15) 4
abbrev N_Motion_shift : List Str := ["self"]
abbrev P_Motion_shift : List Str := ["self"]
theorem sc_Motion_shift : FnScope N_Motion_shift P_Motion_shift (defScope s_Motion_shift) := ⟨rfl, rfl, rfl, by decide +kernel, rfl, by decide +kernel, by decide +kernel⟩
abbrev s_Motion_is_mirrored : Stmt := inClass (topS 15) 5
abbrev N_Motion_is_mirrored : List Str := ["self"]
abbrev P_Motion_is_mirrored : List Str := ["self"]
theorem sc_Motion_is_mirrored : FnScope N_Motion_is_mirrored P_Motion_is_mirrored (defScope s_Motion_is_mirrored) := ⟨rfl, rfl, rfl, by decide +kernel, rfl, by decide +kernel, by decide +kernel⟩
abbrev s_Motion_call : Stmt := inClass (topS 15) 6
abbrev N_Motion_call : List Str := ["self", "place", "x", "y", "dx", "dy"]
abbrev P_Motion_call : List Str := ["self", "place"]
theorem sc_Motion_call : FnScope N_Motion_call P_Motion_call (defScope s_Motion_call) := ⟨rfl, rfl, rfl, by decide +kernel, rfl, by decide +kernel, by decide +kernel⟩
abbrev s_Motion_mul : Stmt := inClass (topS 15) 7
abbrev N_Motion_mul : List Str := ["self", "other", "kind", "x", "y", "dx", "dy"]
abbrev P_Motion_mul : List Str := ["self", "other"]
theorem sc_Motion_mul : FnScope N_Motion_mul P_Motion_mul (defScope s_Motion_mul) := ⟨rfl, rfl, rfl, by decide +kernel, rfl, by decide +kernel, by decide +kernel⟩
abbrev s_Motion_invert : Stmt := inClass (topS 15) 8
abbrev N_Motion_invert : List Str := ["self", "kind", "x", "y"]
abbrev P_Motion_invert : List Str := ["self"]
theorem sc_Motion_invert : FnScope N_Motion_invert P_Motion_invert (defScope s_Motion_invert) := ⟨rfl, rfl, rfl, by decide +kernel, rfl, by decide +kernel, by decide +kernel⟩
abbrev s_Motion_repeated : Stmt := inClass (topS 15) 9
abbrev N_Motion_repeated : List Str := ["self", "number", "fourth", "dx", "dy", "fours", "result", "_"]
abbrev P_Motion_repeated : List Str := ["self", "number"]
theorem sc_Motion_repeated : FnScope N_Motion_repeated P_Motion_repeated (defScope s_Motion_repeated) := ⟨rfl, rfl, rfl, by decide +kernel, rfl, by decide +kernel, by decide +kernel⟩
abbrev s_Motion_eq : Stmt := inClass (topS 15) 10
abbrev N_Motion_eq : List Str := ["self", "other"]
abbrev P_Motion_eq : List Str := ["self", "other"]
theorem sc_Motion_eq : FnScope N_Motion_eq P_Motion_eq (defScope s_Motion_eq) := ⟨rfl, rfl, rfl, by decide +kernel, rfl, by decide +kernel, by decide +kernel⟩
abbrev s_Motion_repr : Stmt := inClass (topS 15) 11
abbrev N_Motion_repr : List Str := ["self"]
abbrev P_Motion_repr : List Str := ["self"]
theorem sc_Motion_repr : FnScope N_Motion_repr P_Motion_repr (defScope s_Motion_repr) := ⟨rfl, rfl, rfl, by decide +kernel, rfl, by decide +kernel, by decide +kernel⟩
abbrev s_law_tape : Stmt := topS 17
abbrev N_law_tape : List Str := ["_law_script"]
abbrev P_law_tape : List Str := ["_law_script"]
theorem sc_law_tape : FnScope N_law_tape P_law_tape (defScope s_law_tape) := ⟨rfl, rfl, rfl, by decide +kernel, rfl, by decide +kernel, by decide +kernel⟩
abbrev s_law_draw : Stmt := topS 18
abbrev N_law_draw : List Str := ["_law_tape_here", "_law_many", "_law_digit", "_law_cell", "_law_near"]
abbrev P_law_draw : List Str := ["_law_tape_here", "_law_many"]
theorem sc_law_draw : FnScope N_law_draw P_law_draw (defScope s_law_draw) := ⟨rfl, rfl, rfl, by decide +kernel, rfl, by decide +kernel, by decide +kernel⟩
abbrev s_law_great : Stmt := topS 19
abbrev N_law_great : List Str := ["_law_tape_here", "_law_size", "_law_high", "_law_value"]
abbrev P_law_great : List Str := ["_law_tape_here", "_law_size"]
theorem sc_law_great : FnScope N_law_great P_law_great (defScope s_law_great) := ⟨rfl, rfl, rfl, by decide +kernel, rfl, by decide +kernel, by decide +kernel⟩
abbrev s_law_place : Stmt := topS 20
abbrev N_law_place : List Str := ["_law_tape_here"]
abbrev P_law_place : List Str := ["_law_tape_here"]
theorem sc_law_place : FnScope N_law_place P_law_place (defScope s_law_place) := ⟨rfl, rfl, rfl, by decide +kernel, rfl, by decide +kernel, by decide +kernel⟩
abbrev s_law_turned : Stmt := topS 21
abbrev N_law_turned : List Str := ["_law_kind", "_law_place_here", "_law_x", "_law_y"]
abbrev P_law_turned : List Str := ["_law_kind", "_law_place_here"]
theorem sc_law_turned : FnScope N_law_turned P_law_turned (defScope s_law_turned) := ⟨rfl, rfl, rfl, by decide +kernel, rfl, by decide +kernel, by decide +kernel⟩
abbrev s_law_kinds : Stmt := topS 22
abbrev N_law_kinds : List Str := []
abbrev P_law_kinds : List Str := []
theorem sc_law_kinds : FnScope N_law_kinds P_law_kinds (defScope s_law_kinds) := ⟨rfl, rfl, rfl, by decide +kernel, rfl, by decide +kernel, by decide +kernel⟩
abbrev s_law_carried : Stmt := topS 23
abbrev N_law_carried : List Str := ["_law_move", "_law_place_here", "_law_x", "_law_y"]
abbrev P_law_carried : List Str := ["_law_move", "_law_place_here"]
theorem sc_law_carried : FnScope N_law_carried P_law_carried (defScope s_law_carried) := ⟨rfl, rfl, rfl, by decide +kernel, rfl, by decide +kernel, by decide +kernel⟩
abbrev s_law_far_move : Stmt := topS 24
abbrev N_law_far_move : List Str := ["_law_tape_here"]
abbrev P_law_far_move : List Str := ["_law_tape_here"]
theorem sc_law_far_move : FnScope N_law_far_move P_law_far_move (defScope s_law_far_move) := ⟨rfl, rfl, rfl, by decide +kernel, rfl, by decide +kernel, by decide +kernel⟩
abbrev s_law_told : Stmt := topS 25
abbrev N_law_told : List Str := ["_law_motion"]
abbrev P_law_told : List Str := ["_law_motion"]
theorem sc_law_told : FnScope N_law_told P_law_told (defScope s_law_told) := ⟨rfl, rfl, rfl, by decide +kernel, rfl, by decide +kernel, by decide +kernel⟩
abbrev s_law_right : Stmt := topS 26
abbrev N_law_right : List Str := ["_law_move", "_law_places", "_law_made", "_law_back", "_law_place_here", "_law_there"]
abbrev P_law_right : List Str := ["_law_move", "_law_places"]
theorem sc_law_right : FnScope N_law_right P_law_right (defScope s_law_right) := ⟨rfl, rfl, rfl, by decide +kernel, rfl, by decide +kernel, by decide +kernel⟩
abbrev s_law_products_right : Stmt := topS 27
abbrev N_law_products_right : List Str := ["_law_moves", "_law_places", "_law_one", "_law_two", "_law_three", "_law_both", "_law_place_here", "_law_move"]
abbrev P_law_products_right : List Str := ["_law_moves", "_law_places"]
theorem sc_law_products_right : FnScope N_law_products_right P_law_products_right (defScope s_law_products_right) := ⟨rfl, rfl, rfl, by decide +kernel, rfl, by decide +kernel, by decide +kernel⟩
abbrev s_law_powers_right : Stmt := topS 28
abbrev N_law_powers_right : List Str := ["_law_tape_here", "_law_move", "_law_place_here", "_law_made", "_law_here", "_law_whole", "_law_number", "_law_some", "_law_back", "_law_far"]
abbrev P_law_powers_right : List Str := ["_law_tape_here", "_law_move", "_law_place_here"]
theorem sc_law_powers_right : FnScope N_law_powers_right P_law_powers_right (defScope s_law_powers_right) := ⟨rfl, rfl, rfl, by decide +kernel, rfl, by decide +kernel, by decide +kernel⟩
abbrev s_law : Stmt := topS 29
abbrev N_law : List Str := ["_law_script", "_law_tape_here", "_law_places", "_law_kind", "_law_move", "_law_plain", "_law_turn", "_law_one", "_law_other", "_law_made", "_law_far", "_law_odd"]
abbrev P_law : List Str := ["_law_script"]
theorem sc_law : FnScope N_law P_law (defScope s_law) := ⟨rfl, rfl, rfl, by decide +kernel, rfl, by decide +kernel, by decide +kernel⟩
structure Ad where
  IMAGES : Addr
  MIRROR : Addr
  PROBE : Addr
  KINDS : Addr
  dfl0 : Addr
  im_none : Addr
  im_left : Addr
  im_half : Addr
  im_right : Addr
  im_flip : Addr
  im_mirror : Addr
  im_swap : Addr
  im_cross : Addr
  C_Motion : Addr
  is_integer : Addr
  is_integer_d : FuncData
  is_place : Addr
  is_place_d : FuncData
  check_place : Addr
  check_place_d : FuncData
  turned : Addr
  turned_d : FuncData
  kind_between : Addr
  kind_between_d : FuncData
  Motion_init : Addr
  Motion_init_d : FuncData
  Motion_by : Addr
  Motion_by_d : FuncData
  p_Motion_by : Addr
  Motion_kind : Addr
  Motion_kind_d : FuncData
  p_Motion_kind : Addr
  Motion_shift : Addr
  Motion_shift_d : FuncData
  p_Motion_shift : Addr
  Motion_is_mirrored : Addr
  Motion_is_mirrored_d : FuncData
  p_Motion_is_mirrored : Addr
  Motion_call : Addr
  Motion_call_d : FuncData
  Motion_mul : Addr
  Motion_mul_d : FuncData
  Motion_invert : Addr
  Motion_invert_d : FuncData
  Motion_repeated : Addr
  Motion_repeated_d : FuncData
  Motion_eq : Addr
  Motion_eq_d : FuncData
  Motion_repr : Addr
  Motion_repr_d : FuncData
  law_tape : Addr
  law_tape_d : FuncData
  law_draw : Addr
  law_draw_d : FuncData
  law_great : Addr
  law_great_d : FuncData
  law_place : Addr
  law_place_d : FuncData
  law_turned : Addr
  law_turned_d : FuncData
  law_kinds : Addr
  law_kinds_d : FuncData
  law_carried : Addr
  law_carried_d : FuncData
  law_far_move : Addr
  law_far_move_d : FuncData
  law_told : Addr
  law_told_d : FuncData
  law_right : Addr
  law_right_d : FuncData
  law_products_right : Addr
  law_products_right_d : FuncData
  law_powers_right : Addr
  law_powers_right_d : FuncData
  law : Addr
  law_d : FuncData
structure Txt (w : World) (K : PySem.W.Frag) (mg : Str → Option Value) (a : Ad) : Prop where
  g_Motion : mg "Motion" = some (.ref a.C_Motion)
  cl_Motion : Cls K a.C_Motion
  k_Motion : Mk K a.C_Motion a.Motion_init
  g_is_integer : mg "is_integer" = some (.ref a.is_integer)
  F_is_integer : Fun K "is_integer" "is_integer" s_is_integer a.is_integer a.is_integer_d
  b_is_integer : Binds K a.is_integer_d P_is_integer []
  g_is_place : mg "is_place" = some (.ref a.is_place)
  F_is_place : Fun K "is_place" "is_place" s_is_place a.is_place a.is_place_d
  b_is_place : Binds K a.is_place_d P_is_place []
  g_check_place : mg "check_place" = some (.ref a.check_place)
  F_check_place : Fun K "check_place" "check_place" s_check_place a.check_place a.check_place_d
  b_check_place : Binds K a.check_place_d P_check_place []
  g_turned : mg "turned" = some (.ref a.turned)
  F_turned : Fun K "turned" "turned" s_turned a.turned a.turned_d
  b_turned : Binds K a.turned_d P_turned []
  g_kind_between : mg "kind_between" = some (.ref a.kind_between)
  F_kind_between : Fun K "kind_between" "kind_between" s_kind_between a.kind_between a.kind_between_d
  b_kind_between : Binds K a.kind_between_d P_kind_between []
  F_Motion_init : FunD K "__init__" "Motion.__init__" (defArgs s_Motion_init) (defBody s_Motion_init) (defScope s_Motion_init) [V.ref a.dfl0] []  a.Motion_init a.Motion_init_d
  b_Motion_init : Binds K a.Motion_init_d P_Motion_init []
  bd_Motion_init : ∃ ds, Vals [V.ref a.dfl0] ds ∧ Binds K a.Motion_init_d P_Motion_init ds
  sm_Motion_by : SMet K a.C_Motion (.type "type") "by" a.p_Motion_by a.Motion_by
  F_Motion_by : Fun K "by" "Motion.by" s_Motion_by a.Motion_by a.Motion_by_d
  b_Motion_by : Binds K a.Motion_by_d P_Motion_by []
  p_Motion_kind : PropOf K a.C_Motion "kind" a.p_Motion_kind a.Motion_kind
  F_Motion_kind : Fun K "kind" "Motion.kind" s_Motion_kind a.Motion_kind a.Motion_kind_d
  b_Motion_kind : Binds K a.Motion_kind_d P_Motion_kind []
  p_Motion_shift : PropOf K a.C_Motion "shift" a.p_Motion_shift a.Motion_shift
  F_Motion_shift : Fun K "shift" "Motion.shift" s_Motion_shift a.Motion_shift a.Motion_shift_d
  b_Motion_shift : Binds K a.Motion_shift_d P_Motion_shift []
  p_Motion_is_mirrored : PropOf K a.C_Motion "is_mirrored" a.p_Motion_is_mirrored a.Motion_is_mirrored
  F_Motion_is_mirrored : Fun K "is_mirrored" "Motion.is_mirrored" s_Motion_is_mirrored a.Motion_is_mirrored a.Motion_is_mirrored_d
  b_Motion_is_mirrored : Binds K a.Motion_is_mirrored_d P_Motion_is_mirrored []
  o_Motion_call : HasS K a.C_Motion a.Motion_call "__call__"
  fn_Motion_call : PySem.W.fnIn K a.Motion_call = true
  F_Motion_call : Fun K "__call__" "Motion.__call__" s_Motion_call a.Motion_call a.Motion_call_d
  b_Motion_call : Binds K a.Motion_call_d P_Motion_call []
  o_Motion_mul : HasS K a.C_Motion a.Motion_mul "__mul__"
  sf_Motion : PySem.W.selfFirst K a.C_Motion = true
  F_Motion_mul : Fun K "__mul__" "Motion.__mul__" s_Motion_mul a.Motion_mul a.Motion_mul_d
  b_Motion_mul : Binds K a.Motion_mul_d P_Motion_mul []
  o_Motion_invert : HasS K a.C_Motion a.Motion_invert "__invert__"
  F_Motion_invert : Fun K "__invert__" "Motion.__invert__" s_Motion_invert a.Motion_invert a.Motion_invert_d
  b_Motion_invert : Binds K a.Motion_invert_d P_Motion_invert []
  m_Motion_repeated : Meth K a.C_Motion "repeated" a.Motion_repeated
  F_Motion_repeated : Fun K "repeated" "Motion.repeated" s_Motion_repeated a.Motion_repeated a.Motion_repeated_d
  b_Motion_repeated : Binds K a.Motion_repeated_d P_Motion_repeated []
  e_Motion : EqC K a.C_Motion a.Motion_eq
  F_Motion_eq : Fun K "__eq__" "Motion.__eq__" s_Motion_eq a.Motion_eq a.Motion_eq_d
  b_Motion_eq : Binds K a.Motion_eq_d P_Motion_eq []
  o_Motion_repr : HasS K a.C_Motion a.Motion_repr "__repr__"
  F_Motion_repr : Fun K "__repr__" "Motion.__repr__" s_Motion_repr a.Motion_repr a.Motion_repr_d
  b_Motion_repr : Binds K a.Motion_repr_d P_Motion_repr []
  g_law_tape : mg "_law_tape" = some (.ref a.law_tape)
  F_law_tape : Fun K "_law_tape" "_law_tape" s_law_tape a.law_tape a.law_tape_d
  b_law_tape : Binds K a.law_tape_d P_law_tape []
  g_law_draw : mg "_law_draw" = some (.ref a.law_draw)
  F_law_draw : Fun K "_law_draw" "_law_draw" s_law_draw a.law_draw a.law_draw_d
  b_law_draw : Binds K a.law_draw_d P_law_draw []
  g_law_great : mg "_law_great" = some (.ref a.law_great)
  F_law_great : Fun K "_law_great" "_law_great" s_law_great a.law_great a.law_great_d
  b_law_great : Binds K a.law_great_d P_law_great []
  g_law_place : mg "_law_place" = some (.ref a.law_place)
  F_law_place : Fun K "_law_place" "_law_place" s_law_place a.law_place a.law_place_d
  b_law_place : Binds K a.law_place_d P_law_place []
  g_law_turned : mg "_law_turned" = some (.ref a.law_turned)
  F_law_turned : Fun K "_law_turned" "_law_turned" s_law_turned a.law_turned a.law_turned_d
  b_law_turned : Binds K a.law_turned_d P_law_turned []
  g_law_kinds : mg "_law_kinds" = some (.ref a.law_kinds)
  F_law_kinds : Fun K "_law_kinds" "_law_kinds" s_law_kinds a.law_kinds a.law_kinds_d
  b_law_kinds : Binds K a.law_kinds_d P_law_kinds []
  g_law_carried : mg "_law_carried" = some (.ref a.law_carried)
  F_law_carried : Fun K "_law_carried" "_law_carried" s_law_carried a.law_carried a.law_carried_d
  b_law_carried : Binds K a.law_carried_d P_law_carried []
  g_law_far_move : mg "_law_far_move" = some (.ref a.law_far_move)
  F_law_far_move : Fun K "_law_far_move" "_law_far_move" s_law_far_move a.law_far_move a.law_far_move_d
  b_law_far_move : Binds K a.law_far_move_d P_law_far_move []
  g_law_told : mg "_law_told" = some (.ref a.law_told)
  F_law_told : Fun K "_law_told" "_law_told" s_law_told a.law_told a.law_told_d
  b_law_told : Binds K a.law_told_d P_law_told []
  g_law_right : mg "_law_right" = some (.ref a.law_right)
  F_law_right : Fun K "_law_right" "_law_right" s_law_right a.law_right a.law_right_d
  b_law_right : Binds K a.law_right_d P_law_right []
  g_law_products_right : mg "_law_products_right" = some (.ref a.law_products_right)
  F_law_products_right : Fun K "_law_products_right" "_law_products_right" s_law_products_right a.law_products_right a.law_products_right_d
  b_law_products_right : Binds K a.law_products_right_d P_law_products_right []
  g_law_powers_right : mg "_law_powers_right" = some (.ref a.law_powers_right)
  F_law_powers_right : Fun K "_law_powers_right" "_law_powers_right" s_law_powers_right a.law_powers_right a.law_powers_right_d
  b_law_powers_right : Binds K a.law_powers_right_d P_law_powers_right []
  g_law : mg "law" = some (.ref a.law)
  F_law : Fun K "law" "law" s_law a.law a.law_d
  b_law : Binds K a.law_d P_law []
  z_bool : mg "bool" = none
  z_int : mg "int" = none
  z_isinstance : mg "isinstance" = none
  z_len : mg "len" = none
  z_list : mg "list" = none
  z_range : mg "range" = none
  z_repr : mg "repr" = none
  z_str : mg "str" = none
  z_tuple : mg "tuple" = none
  v_IMAGES : mg "IMAGES" = some (.ref a.IMAGES)
  v_MIRROR_IMAGES : mg "MIRROR_IMAGES" = some (.ref a.MIRROR)
  v_PROBE : mg "PROBE" = some (.ref a.PROBE)
  t_MIRROR : KT K a.MIRROR [V.str "flip", V.str "mirror", V.str "swap", V.str "cross"]
  t_PROBE : KT K a.PROBE [V.int 1, V.int 2]
  t_dfl0 : KT K a.dfl0 [V.int 0, V.int 0]
  c_KINDS : ClX.CVal K a.C_Motion (.type "type") "KINDS" (V.ref a.KINDS) (.ref a.KINDS)
  t_KINDS : KT K a.KINDS [V.str "none", V.str "left", V.str "half", V.str "right", V.str "flip", V.str "mirror", V.str "swap", V.str "cross"]
  kk : KKeys K a.IMAGES [V.str "none", V.str "left", V.str "half", V.str "right", V.str "flip", V.str "mirror", V.str "swap", V.str "cross"]
  d_none : KDct K w a.IMAGES "none" (V.ref a.im_none)
  d_left : KDct K w a.IMAGES "left" (V.ref a.im_left)
  d_half : KDct K w a.IMAGES "half" (V.ref a.im_half)
  d_right : KDct K w a.IMAGES "right" (V.ref a.im_right)
  d_flip : KDct K w a.IMAGES "flip" (V.ref a.im_flip)
  d_mirror : KDct K w a.IMAGES "mirror" (V.ref a.im_mirror)
  d_swap : KDct K w a.IMAGES "swap" (V.ref a.im_swap)
  d_cross : KDct K w a.IMAGES "cross" (V.ref a.im_cross)
  t_none : KT K a.im_none [V.int 1, V.int 0, V.int 0, V.int 1]
  t_left : KT K a.im_left [V.int 0, V.int (-1), V.int 1, V.int 0]
  t_half : KT K a.im_half [V.int (-1), V.int 0, V.int 0, V.int (-1)]
  t_right : KT K a.im_right [V.int 0, V.int 1, V.int (-1), V.int 0]
  t_flip : KT K a.im_flip [V.int 1, V.int 0, V.int 0, V.int (-1)]
  t_mirror : KT K a.im_mirror [V.int (-1), V.int 0, V.int 0, V.int 1]
  t_swap : KT K a.im_swap [V.int 0, V.int 1, V.int 1, V.int 0]
  t_cross : KT K a.im_cross [V.int 0, V.int (-1), V.int (-1), V.int 0]
  n_kind : NoAttr K a.C_Motion "_kind"
  n_shift : NoAttr K a.C_Motion "_shift"
  i_Motion : IsC K a.C_Motion
  kf_NoneType : PySem.W.kitOne K (.type "NoneType") (.ref a.C_Motion) = some false
  kf_tuple : PySem.W.kitOne K (.type "tuple") (.ref a.C_Motion) = some false
  kf_str : PySem.W.kitOne K (.type "str") (.ref a.C_Motion) = some false
  kf_int : PySem.W.kitOne K (.type "int") (.ref a.C_Motion) = some false
  kf_list : PySem.W.kitOne K (.type "list") (.ref a.C_Motion) = some false
  nf_NoneType : PySem.W.notFirst K a.C_Motion (.type "NoneType") = true
  nf_tuple : PySem.W.notFirst K a.C_Motion (.type "tuple") = true
  nf_str : PySem.W.notFirst K a.C_Motion (.type "str") = true
  nf_int : PySem.W.notFirst K a.C_Motion (.type "int") = true
  nf_list : PySem.W.notFirst K a.C_Motion (.type "list") = true
local macro_rules | `(tactic| walk_at "up") => `(tactic| first
  | assumption
  | (refine' IT.mv ?s ?g; (case s => assumption); (case g => walk_at "up"))
  | (refine' IT.k ?g; (case g => walk_at "up"))
  | (refine' IK.mv ?s ?g; (case s => assumption); (case g => walk_at "up"))
  | (refine' Tape.mvN ?s ?g; (case s => assumption); (case g => walk_at "up"))
  | (refine' Tape.mvS ?s ?g; (case s => assumption); (case g => walk_at "up"))
  | (refine' At.tup ?s ?g; (case s => assumption); (case g => walk_at "up"))
  | (refine' At.ins ?s ?g; (case s => assumption); (case g => walk_at "up"))
  | (refine' At.lst ?s ?g; (case s => assumption); (case g => walk_at "up"))
  | (refine' At.lstS ?s ?n ?g; (case s => assumption); (case n => assumption); (case g => walk_at "up"))
  | fail)
local macro_rules | `(tactic| walk_at "st") => `(tactic| first
  | assumption
  | exact Stp.refl _ _
  | (refine' Stp.w ?s; (case s => assumption))
  | (refine' Stp.trans ?g ?s; (case s => (first | assumption | (refine' Stp.w ?u; (case u => assumption)))); (case g => walk_at "st"))
  | fail)
local macro_rules | `(tactic| walk_at "bT") => `(tactic| first
  | decide
  | (simp only [Bool.not_eq_true', Bool.not_eq_false', decide_eq_true_eq, decide_eq_false_iff_not]; omega)
  | fail)
local macro_rules | `(tactic| walk_at "sd") => `(tactic| first | assumption | decide | omega | fail)
local macro_rules | `(tactic| walk_at "r") => `(tactic| first
  | (with_reducible refine r_seq ?_)
  | (with_reducible refine r_asg ?_)
  | ((with_reducible refine' r_var ?h ?k); (case h => rfl))
  | (with_reducible refine r_c ?_)
  | (with_reducible refine r_op ?_)
  | (with_reducible refine r_un ?_)
  | (with_reducible refine r_nil ?_)
  | (with_reducible refine r_cons ?_)
  | (with_reducible refine r_tup ?_)
  | (with_reducible refine r_lst ?_)
  | (with_reducible refine r_cbLen ?_)
  | (with_reducible refine r_cbInt ?_)
  | (with_reducible refine r_cbRepr ?_)
  | (with_reducible refine r_cbTup ?_)
  | (with_reducible refine r_cbLst ?_)
  | (with_reducible refine r_cb ?_)
  | (with_reducible refine r_prop ?_)
  | (with_reducible refine r_andV ?_)
  | (with_reducible refine r_orV ?_)
  | (with_reducible refine r_notV ?_)
  | (with_reducible refine r_chain ?_)
  | (with_reducible refine r_ifE ?_)
  | (with_reducible refine r_test ?_)
  | (with_reducible refine r_B ?_)
  | (with_reducible refine r_and ?_)
  | (with_reducible refine r_or ?_)
  | (with_reducible refine r_not ?_)
  | (with_reducible refine r_yes ?_)
  | (with_reducible refine r_k ?_)
  | (with_reducible refine r_kV ?_)
  | (with_reducible refine r_next ?_)
  | (with_reducible refine r_drop ?_)
  | (with_reducible refine r_ret ?_)
  | (with_reducible refine r_ifS ?_)
  | (with_reducible refine r_par ?_)
  | (with_reducible refine r_par1 ?_)
  | (with_reducible refine r_gname ?_)
  | (with_reducible refine r_gnil ?_)
  | (with_reducible refine r_gcons ?_)
  | ((with_reducible refine' r_unpack2 ?h ?k); (case h => walk_at "up"))
  | ((with_reducible refine' r_unpack3 ?h ?k); (case h => walk_at "up"))
  | (with_reducible refine r_add ?_)
  | (with_reducible refine r_sub ?_)
  | (with_reducible refine r_neg ?_)
  | ((with_reducible refine' r_mod ?h ?k); (case h => walk_at "sd"))
  | ((with_reducible refine' r_div ?h ?k); (case h => walk_at "sd"))
  | ((with_reducible refine' r_mul ?h ?k); (case h => walk_at "sd"))
  | ((with_reducible refine' r_mulW ?h ?k); (case h => walk_at "sd"))
  | ((with_reducible refine' r_pow ?h ?k); (case h => (show (0 : Int) ≤ _ ∧ _ ∧ _; decide)))
  | (with_reducible refine r_lt ?_)
  | (with_reducible refine r_le ?_)
  | (with_reducible refine r_gt ?_)
  | (with_reducible refine r_ge ?_)
  | (with_reducible refine r_eqI ?_)
  | (with_reducible refine r_neI ?_)
  | (with_reducible refine r_eqS ?_)
  | (with_reducible refine r_neS ?_)
  | ((with_reducible refine' r_eqT ?h ?g ?k); (case h => walk_at "up"); (case g => walk_at "up"))
  | ((with_reducible refine' r_neT ?h ?g ?k); (case h => walk_at "up"); (case g => walk_at "up"))
  | ((with_reducible refine' r_ix0 ?h ?k); (case h => walk_at "up"))
  | ((with_reducible refine' r_ix1 ?h ?k); (case h => walk_at "up"))
  | ((with_reducible refine' r_ix2 ?h ?k); (case h => walk_at "up"))
  | (with_reducible refine r_newI2 (fun v H2 S I => ?_))
  | (with_reducible refine r_newI3 (fun v H2 S I => ?_))
  | (with_reducible refine r_newL1 (fun p H2 S hp np => ?_))
  | (with_reducible refine r_newL2 (fun p H2 S hp np => ?_))
  | (with_reducible refine r_newL3 (fun p H2 S hp np => ?_))
  | (with_reducible refine r_T ?_)
  | (with_reducible refine r_F ?_)
  | fail)
local macro_rules | `(tactic| walk_at "go") => `(tactic| repeat (walk_at "r"))
local macro_rules | `(tactic| walk_at "r") => `(tactic| first
  | (with_reducible refine r_call0 ?_)
  | (with_reducible refine r_meth0 ?_)
  | (with_reducible refine r_make0 ?_)
  | (with_reducible refine r_isiII ?_)
  | (with_reducible refine r_isiIB ?_)
  | ((with_reducible refine' r_isiTT ?h ?k); (case h => walk_at "up"))
  | ((with_reducible refine' r_len2 ?h ?k); (case h => walk_at "up"))
  | ((with_reducible refine' r_len3 ?h ?k); (case h => walk_at "up"))
  | ((with_reducible refine' r_lenL ?h ?k); (case h => walk_at "up"))
  | (with_reducible refine r_int1 ?_)
  | (with_reducible refine r_int1B ?_)
  | (with_reducible refine r_nT ?_)
  | (with_reducible refine r_nF ?_)
  | (with_reducible refine r_gcd ?_)
  | (with_reducible refine r_gsub ?_)
  | (with_reducible refine r_fld ?_)
  | (with_reducible refine r_p6 ?_)
  | (with_reducible refine r_p9 ?_)
  | (with_reducible refine r_p10 ?_)
  | (with_reducible refine r_p11 ?_)
  | (with_reducible refine r_p12 ?_)
  | (with_reducible refine r_p18 ?_)
  | (with_reducible refine r_p20 ?_)
  | (with_reducible refine r_p26 ?_)
  | (with_reducible refine r_p27 ?_)
  | (with_reducible refine r_p30 ?_)
  | ((with_reducible refine' r_iF ?h ?k); (case h => walk_at "bT"))
  | ((with_reducible refine' r_iT ?h ?k); (case h => walk_at "bT"))
  | (with_reducible refine r_sfld ?_)
  | (with_reducible refine r_sl ?_)
  | (with_reducible refine r_noPart ?_)
  | (with_reducible refine r_part ?_)
  | (with_reducible refine r_pk ?_)
  | ((with_reducible refine' r_unl2 ?h ?k); (case h => walk_at "up"))
  | ((with_reducible refine' r_ixLi ?h ?h0 ?hn ?k); (case h => walk_at "up"); (case h0 => walk_at "sd"); (case hn => rfl))
  | fail)

section
variable {P : Program} {w : World} {K : PySem.W.Frag} {mg : Str → Option Value} {base : Heap} {ad : Ad} {H : Hp} {Q : VK} {E : XK} {i j x y : Int} {v : V}

/-! ### checks -/
def sp_is_integer : Sp := fun vs H Q _ => ∃ i, vs = [.int i] ∧ Q (.bl true) H
theorem do_is_integer (q : Q (.bl true) H) : sp_is_integer [.int i] H Q E := ⟨i, rfl, q⟩
theorem ok_is_integer (T : Txt w K mg ad) : FnG P w K mg base CX0 1 ad.is_integer ad.is_integer_d P_is_integer sp_is_integer := by
  refine Fun.g T.F_is_integer sc_is_integer (fun vs H Q E h => ?_) (fun cdv A outer s H vs Q E hr hg h => ?_)
  · obtain ⟨i, rfl, _⟩ := h
    rfl
  · obtain ⟨i, rfl, q⟩ := h
    refine ⟨_, (pss_one (ps_ret (pe_and (pe_callB call_isi (by rfl) T.z_isinstance (by decide +kernel) (pa_cons (pv 0) (pa_cons (pe_bltn (v := V.ty "int") (u := Value.type "int") (by rfl) T.z_int (by decide +kernel) rfl) pa_nil))) (pe_one (pe_not (pe_callB call_isi (by rfl) T.z_isinstance (by decide +kernel) (pa_cons (pv 0) (pa_cons (pe_bltn (v := V.ty "bool") (u := Value.type "bool") (by rfl) T.z_bool (by decide +kernel) rfl) pa_nil)))))))), ?_⟩
    walk_at "go"
    exact q
local macro_rules | `(tactic| walk_at "r") => `(tactic| with_reducible refine do_is_integer ?_)

def sp_is_place (K : PySem.W.Frag) : Sp := fun vs H Q _ => ∃ v x y, vs = [v] ∧ IK K H v [x, y] ∧ Q (.bl true) H
theorem do_is_place (h : IK K H v [x, y]) (q : Q (.bl true) H) : sp_is_place K [v] H Q E := ⟨v, x, y, rfl, h, q⟩
theorem ok_is_place (T : Txt w K mg ad) : FnG P w K mg base CX0 2 ad.is_place ad.is_place_d P_is_place (sp_is_place K) := by
  have G_is_integer := ok_is_integer (P := P) (w := w) (base := base) T
  refine Fun.g T.F_is_place sc_is_place (fun vs H Q E h => ?_) (fun cdv A outer s H vs Q E hr hg h => ?_)
  · obtain ⟨v, x, y, rfl, _⟩ := h
    rfl
  · obtain ⟨v, x, y, rfl, hI, q⟩ := h
    refine ⟨_, (pss_cons (ps_if (PW.pt (pw_or (pt_not (pt_val (pe_callB call_isi (by rfl) T.z_isinstance (by decide +kernel) (pa_cons (pv 0) (pa_cons (pe_bltn (v := V.ty "tuple") (u := Value.type "tuple") (by rfl) T.z_tuple (by decide +kernel) rfl) pa_nil))))) (pw_or1 (pt_cmpR op_ne (pe_callB call_len_seq (by rfl) T.z_len (by decide +kernel) (pa_cons (pv 0) pa_nil)) pe_int (nomark _)))))
      (pss_one (ps_ret pe_bl)) pss_nil)
      (pss_one (ps_ret (pe_and (peg_call G_is_integer (hr.mono (by decide)) hg (by rfl) T.g_is_integer T.F_is_integer.kp T.b_is_integer .nil pass0 (pa_cons (pe_ix ix_seq (pv 0) pe_int (fun _ _ => rfl)) pa_nil)) (pe_one (peg_call G_is_integer (hr.mono (by decide)) hg (by rfl) T.g_is_integer T.F_is_integer.kp T.b_is_integer .nil pass0 (pa_cons (pe_ix ix_seq (pv 0) pe_int (fun _ _ => rfl)) pa_nil))))))), ?_⟩
    walk_at "go"
    exact q
local macro_rules | `(tactic| walk_at "r") => `(tactic| first | ((with_reducible refine' do_is_place ?h ?k); (case h => walk_at "up")) | fail)

def sp_check_place (K : PySem.W.Frag) : Sp := fun vs H Q _ => ∃ v x y, vs = [v] ∧ IK K H v [x, y] ∧ Q .non H
theorem do_check_place (h : IK K H v [x, y]) (q : Q .non H) : sp_check_place K [v] H Q E := ⟨v, x, y, rfl, h, q⟩
theorem ok_check_place (T : Txt w K mg ad) : FnG P w K mg base CX0 3 ad.check_place ad.check_place_d P_check_place (sp_check_place K) := by
  have G_is_place := ok_is_place (P := P) (w := w) (base := base) T
  refine Fun.g T.F_check_place sc_check_place (fun vs H Q E h => ?_) (fun cdv A outer s H vs Q E hr hg h => ?_)
  · obtain ⟨v, x, y, rfl, _⟩ := h
    rfl
  · obtain ⟨v, x, y, rfl, hI, q⟩ := h
    refine ⟨_, (pss_one (ps_if (pt_not (pt_val (peg_call G_is_place (hr.mono (by decide)) hg (by rfl) T.g_is_place T.F_is_place.kp T.b_is_place .nil pass0 (pa_cons (pv 0) pa_nil))))
      (pss_one ps_never) pss_nil)), ?_⟩
    walk_at "go"
    exact q
local macro_rules | `(tactic| walk_at "r") => `(tactic| first | ((with_reducible refine' do_check_place ?h ?k); (case h => walk_at "up")) | fail)

/-! ### kinds -/
/-- coordinates within the bounds of this proof -/
def Co (x : Int) : Prop := x.natAbs < 10 ^ 65
def im (a : Ad) (k : Str) : Addr := if k = "none" then a.im_none else if k = "left" then a.im_left else if k = "half" then a.im_half else if k = "right" then a.im_right else
  if k = "flip" then a.im_flip else if k = "mirror" then a.im_mirror else if k = "swap" then a.im_swap else a.im_cross
theorem Txt.im (T : Txt w K mg ad) {k : Str} {m : Mat} (h : Kd k m) : ∃ p, KDct K w ad.IMAGES k (.ref p) ∧ KT K p [.int m.1, .int m.2.1, .int m.2.2.1, .int m.2.2.2] := by
  rcases h.cases with ⟨rfl, rfl⟩ | ⟨rfl, rfl⟩ | ⟨rfl, rfl⟩ | ⟨rfl, rfl⟩ | ⟨rfl, rfl⟩ | ⟨rfl, rfl⟩ | ⟨rfl, rfl⟩ | ⟨rfl, rfl⟩
  · exact ⟨_, T.d_none, T.t_none⟩
  · exact ⟨_, T.d_left, T.t_left⟩
  · exact ⟨_, T.d_half, T.t_half⟩
  · exact ⟨_, T.d_right, T.t_right⟩
  · exact ⟨_, T.d_flip, T.t_flip⟩
  · exact ⟨_, T.d_mirror, T.t_mirror⟩
  · exact ⟨_, T.d_swap, T.t_swap⟩
  · exact ⟨_, T.d_cross, T.t_cross⟩
theorem r_ixD {d : Addr} {z : Str} (h : KDct K w d z v) (q : Q v H) : rIxD K w (.ref d) (.str z) H Q := ⟨d, z, v, rfl, rfl, h, q⟩
theorem r_unpack4 {gs : TGs} {σ : L2.St} {Q : L2.St → Hp → Prop} {a b c d : Int} (h : IK K H v [a, b, c, d]) (q : gs [V.int a, V.int b, V.int c, V.int d] σ H Q) : gTup K 4 gs v σ H Q := r_unpack h rfl q
def sp_turned (K : PySem.W.Frag) : Sp := fun vs H Q _ => ∃ k m v x y, vs = [.str k, v] ∧ Kd k m ∧ IK K H v [x, y] ∧ Co x ∧ Co y ∧ ∀ z H', Stp none H H' → IT H' z [mx m x y, my m x y] → Q z H'
theorem do_turned {k : Str} {m : Mat} (h : Kd k m) (hv : IK K H v [x, y]) (hx : Co x) (hy : Co y) (q : ∀ z H', Stp none H H' → IT H' z [mx m x y, my m x y] → Q z H') :
    sp_turned K [.str k, v] H Q E := ⟨k, m, v, x, y, rfl, h, hv, hx, hy, q⟩
theorem ok_turned (T : Txt w K mg ad) : FnG P w K mg base CX0 1 ad.turned ad.turned_d P_turned (sp_turned K) := by
  refine Fun.g T.F_turned sc_turned (fun vs H Q E h => ?_) (fun cdv A outer s H vs Q E hr hg h => ?_)
  · obtain ⟨k, m, v, x, y, rfl, _⟩ := h
    rfl
  · obtain ⟨k, m, v, x, y, rfl, hk, hv, hx, hy, q⟩ := h
    obtain ⟨p, h1, h2⟩ := T.im hk
    have h3 : IK K H (.ref p) [m.1, m.2.1, m.2.2.1, m.2.2.2] := KT.k (ns := [_, _, _, _]) h2
    obtain ⟨c1, c2, c3, c4⟩ := hk.coef
    unfold Co at hx hy
    have m1 : CMulW m.1 x := mulW_of (by omega) (by omega)
    have m2 : CMulW m.2.1 y := mulW_of (by omega) (by omega)
    have m3 : CMulW m.2.2.1 x := mulW_of (by omega) (by omega)
    have m4 : CMulW m.2.2.2 y := mulW_of (by omega) (by omega)
    refine ⟨_, (pss_cons (ps_asg (pe_ix ix_kdict (pe_glob (v := V.ref ad.IMAGES) rfl T.v_IMAGES rfl) (pv 0) (fun _ _ => rfl)) (pg_tup (n := 4) rfl (pgs_cons (pg_name (i := 2) sc_turned.nd rfl (Or.inl rfl)) (pgs_cons (pg_name (i := 3) sc_turned.nd rfl (Or.inl rfl)) (pgs_cons (pg_name (i := 4) sc_turned.nd rfl (Or.inl rfl)) (pgs_cons (pg_name (i := 5) sc_turned.nd rfl (Or.inl rfl)) pgs_nil))))))
      (pss_cons (ps_asg (pv 1) (pg_tup (n := 2) rfl (pgs_cons (pg_name (i := 6) sc_turned.nd rfl (Or.inl rfl)) (pgs_cons (pg_name (i := 7) sc_turned.nd rfl (Or.inl rfl)) pgs_nil))))
      (pss_one (ps_ret (pe_tup (pa_cons (pe_op op_add (pe_op op_mulW (pv 2) (pv 6)) (pe_op op_mulW (pv 3) (pv 7))) (pa_cons (pe_op op_add (pe_op op_mulW (pv 4) (pv 6)) (pe_op op_mulW (pv 5) (pv 7))) pa_nil))))))), ?_⟩
    walk_at "go"
    refine r_ixD h1 ?_
    walk_at "go"
    refine r_unpack4 h3 ?_
    walk_at "go"
    exact q _ _ (by walk_at "st") (by walk_at "up")

theorem head_of {f : Str × Mat → Bool} {k : Str} {m : Mat} (h : Kd k m) (hf : f (k, m) = true) (hu : ∀ t ∈ KNS, f t = true → t.1 = k) :
    ((KNS.filter f).map fun t => V.str t.1)[0]? = some (V.str k) := by
  have h1 : (k, m) ∈ KNS.filter f := List.mem_filter.mpr ⟨h, hf⟩
  cases e : KNS.filter f with
  | nil => rw [e] at h1; cases h1
  | cons t r =>
    have h2 : t ∈ KNS.filter f := by rw [e]; exact List.mem_cons_self
    obtain ⟨h3, h4⟩ := List.mem_filter.mp h2
    rw [List.map_cons, List.getElem?_cons_zero, hu t h3 h4]
def sp_kind_between (K : PySem.W.Frag) : Sp := fun vs H Q _ => ∃ v u x y a b k m, vs = [v, u] ∧ IK K H v [x, y] ∧ IK K H u [a, b] ∧ Co x ∧ Co y ∧ Kd k m ∧ mx m x y = a ∧ my m x y = b ∧
  (∀ l n, Kd l n → mx n x y = a → my n x y = b → l = k) ∧ ∀ H', Stp none H H' → Q (.str k) H'
theorem do_kind_between {u : V} {a b : Int} {k : Str} {m : Mat} (hv : IK K H v [x, y]) (hw : IK K H u [a, b]) (hx : Co x) (hy : Co y) (hk : Kd k m) (e1 : mx m x y = a) (e2 : my m x y = b)
    (hu : ∀ l n, Kd l n → mx n x y = a → my n x y = b → l = k) (q : ∀ H', Stp none H H' → Q (.str k) H') : sp_kind_between K [v, u] H Q E :=
  ⟨v, u, x, y, a, b, k, m, rfl, hv, hw, hx, hy, hk, e1, e2, hu, q⟩
theorem ok_kind_between (T : Txt w K mg ad) : FnG P w K mg base CX0 2 ad.kind_between ad.kind_between_d P_kind_between (sp_kind_between K) := by
  have G_turned := ok_turned (P := P) (w := w) (base := base) T
  refine Fun.gn T.F_kind_between sc_kind_between (fun vs H Q E h => ?_) (fun cdv A outer s H vs Q E hr hg h => ?_)
  · obtain ⟨v, u, x, y, a, b, k, m, rfl, _⟩ := h
    rfl
  · obtain ⟨v, u, x, y, a, b, k, m, rfl, hv, hw, hx, hy, hk, e1, e2, hu, q⟩ := h
    refine ⟨_, (pss_one (ps_ret (pe_ix ix_seq (pe_lc (own := [("kind", 2)]) (g := gName 2)  rfl sc_kind_between.nd (pi_kk (pe_glob (v := V.ref ad.IMAGES) rfl T.v_IMAGES rfl)) (blkOk_by (own := [("kind", 2)]) (N := N_kind_between) (sc := defScope s_kind_between) (by decide +kernel)) (fun _ _ _ _ _ => (pg_name (i := 2) sc_kind_between.nd rfl (Or.inl rfl))) (fun _ _ _ _ _ => (pts_one (pt_cmpR (op_eqDk (K := K) rfl hr.units) (peg_call G_turned (hr.mono (by decide)) hg (by rfl) T.g_turned T.F_turned.kp T.b_turned .nil pass0 (pa_cons (pv 2) (pa_cons (pv 0) pa_nil))) (pv 1) (nomark _)))) (fun _ _ _ _ _ => (pv 2)) ) pe_int (fun _ _ => rfl)))), ?_⟩
    walk_at "go"
    refine ⟨_, _, rfl, T.kk, fun D hD => ?_⟩
    have xs_eq : ([V.str "none", V.str "left", V.str "half", V.str "right", V.str "flip", V.str "mirror", V.str "swap", V.str "cross"] : List V) = KNS.map fun t => V.str t.1 := rfl
    rw [xs_eq]
    refine lc_known (fun i H' => (∀ b o, H b = some o → H' b = some o) ∧ H' D = some (.lst (((KNS.take i).filter fun t => decide (mx t.2 x y = a ∧ my t.2 x y = b)).map fun t => V.str t.1))) ⟨?_, upd_same⟩ (fun i z H' hz p => ?_) (fun H' p => ?_)
    · intro b o e
      rw [upd_ne (ne_of_none e hD)]
      exact e
    · rw [List.getElem?_map] at hz
      obtain ⟨⟨l, n⟩, hm, rfl⟩ := Option.map_eq_some_iff.mp hz
      have hl : Kd l n := List.mem_of_getElem? hm
      obtain ⟨p1, p2⟩ := p
      have S0 : Stp none H H' := Stp.of p1 none
      have tk : KNS.take (i + 1) = KNS.take i ++ [(l, n)] := by rw [List.take_succ, hm]; rfl
      refine ⟨rfl, ?_⟩
      walk_at "go"
      refine do_turned hl (by walk_at "up") hx hy fun y1 H2 S2 i2 => ?_
      walk_at "go"
      refine r_ite (fun h1 => ?_) (fun h1 => ?_)
      · walk_at "go"
        have hf : decide (mx n x y = a ∧ my n x y = b) = true := by
          injection h1 with h2 h3
          injection h3 with h3 _
          exact decide_eq_true ⟨h2, h3⟩
        refine ⟨_, S2.all _ _ p2, ?_, ?_, ?_⟩
        · refine Nat.lt_of_le_of_lt (m := 8) ?_ (by decide)
          rw [List.length_map]
          exact Nat.le_trans (List.length_filter_le _ _) (List.length_take_le' _ _)
        · intro b' o e
          rw [upd_ne (ne_of_none e hD)]
          exact S2.all _ _ (p1 _ _ e)
        · rw [upd_same, tk, List.filter_append, List.map_append, List.filter_cons_of_pos (by exact hf)]
          rfl
      · have hf : ¬ decide (mx n x y = a ∧ my n x y = b) = true := by
          intro h2
          obtain ⟨h3, h4⟩ := of_decide_eq_true h2
          rw [h3, h4] at h1
          exact h1 rfl
        refine ⟨fun b' o e => S2.all _ _ (p1 _ _ e), ?_⟩
        rw [tk, List.filter_append, List.filter_cons_of_neg (by exact hf), List.filter_nil, List.append_nil]
        exact S2.all _ _ p2
    · walk_at "go"
      refine r_ixL (n := 0) p.2 ?_ (q _ (Stp.of p.1 none))
      exact head_of hk (decide_eq_true ⟨e1, e2⟩) fun t ht hf => (let z := of_decide_eq_true hf; hu t.1 t.2 ht z.1 z.2)

/-! ### motions -/
/-- v is a Motion of the kind k (matrix m) and the shift (x, y) -/
def MA (C : Addr) (H : Hp) (v : V) (k : Str) (m : Mat) (x y : Int) : Prop := Kd k m ∧ ∃ p dx u, v = .ref p ∧ H p = some (.ins C dx (putF "_shift" u (putF "_kind" (.str k) []))) ∧ IT H u [x, y]
theorem MA.mv {C : Addr} {t : Option Addr} {H H' : Hp} {v : V} {k : Str} {m : Mat} (s : Stp t H H') (h : MA C H v k m x y) : MA C H' v k m x y := by
  obtain ⟨n, p, dx, u, e, h1, h2⟩ := h
  exact ⟨n, p, dx, u, e, At.ins s h1, h2.mv s⟩
local macro_rules | `(tactic| walk_at "up") => `(tactic| first | (refine' MA.mv ?s ?g; (case s => assumption); (case g => walk_at "up")) | fail)
theorem kinds_in {k : Str} {m : Mat} (h : Kd k m) : inV (.str k) [V.str "none", V.str "left", V.str "half", V.str "right", V.str "flip", V.str "mirror", V.str "swap", V.str "cross"] = true := by
  rcases h.cases with ⟨rfl, _⟩ | ⟨rfl, _⟩ | ⟨rfl, _⟩ | ⟨rfl, _⟩ | ⟨rfl, _⟩ | ⟨rfl, _⟩ | ⟨rfl, _⟩ | ⟨rfl, _⟩ <;> decide +kernel
def sp_Motion_init (K : PySem.W.Frag) (C : Addr) : Sp := fun vs H Q _ => ∃ p dx k m v x y, vs = [.ref p, .str k, v] ∧ Kd k m ∧ IK K H v [x, y] ∧ H p = some (.ins C dx []) ∧
  ∀ H', (∀ b o, b ≠ p → H b = some o → H' b = some o) → MA C H' (.ref p) k m x y → Q .non H'
theorem ok_Motion_init (T : Txt w K mg ad) : FnG P w K mg base CX0 4 ad.Motion_init ad.Motion_init_d P_Motion_init (sp_Motion_init K ad.C_Motion) := by
  have G_check_place := ok_check_place (P := P) (w := w) (base := base) T
  refine MV.FunD.g T.F_Motion_init sc_Motion_init (fun vs H Q E h => ?_) (fun cdv A outer s H vs Q E hr hg h => ?_)
  · obtain ⟨p, dx, k, m, v, x, y, rfl, _⟩ := h
    rfl
  · obtain ⟨p, dx, k, m, v, x, y, rfl, hk, hv, hp, q⟩ := h
    refine ⟨_, (pss_cons (ps_if (PW.pt (pw_or (pt_not (pt_val (pe_callB call_isi (by rfl) T.z_isinstance (by decide +kernel) (pa_cons (pv 1) (pa_cons (pe_bltn (v := V.ty "str") (u := Value.type "str") (by rfl) T.z_str (by decide +kernel) rfl) pa_nil))))) (pw_or1 (pt_cmpR op_notIn_seq (pv 1) (ClX.pe_cval (pe_glob (v := V.ref ad.C_Motion) rfl T.g_Motion rfl)) (by rfl)))))
      (pss_one ps_never) pss_nil)
      (pss_cons (ps_expr (peg_call G_check_place (hr.mono (by decide)) hg (by rfl) T.g_check_place T.F_check_place.kp T.b_check_place .nil pass0 (pa_cons (pv 2) pa_nil)))
      (pss_cons (ps_asg (pv 2) (pg_tup (n := 2) rfl (pgs_cons (pg_name (i := 3) sc_Motion_init.nd rfl (Or.inl rfl)) (pgs_cons (pg_name (i := 4) sc_Motion_init.nd rfl (Or.inl rfl)) pgs_nil))))
      (pss_cons (ps_fld (pv 0) (pv 1) rfl)
      (pss_one (ps_fld (pv 0) (pe_tup (pa_cons (pe_callTy call_int1 (by rfl) T.z_int (by decide +kernel) (pa_cons (pv 3) pa_nil)) (pa_cons (pe_callTy call_int1 (by rfl) T.z_int (by decide +kernel) (pa_cons (pv 4) pa_nil)) pa_nil))) rfl)))))), ?_⟩
    walk_at "go"
    refine r_isiSS ?_
    walk_at "go"
    refine r_cval ?_
    walk_at "go"
    refine ⟨_, _, _, _, rfl, T.sm_Motion_by.rd, T.c_KINDS, ⟨_, _, rfl, .inr T.t_KINDS.t, rfl, rfl, ?_⟩⟩
    rw [kinds_in hk]
    walk_at "go"
    refine ⟨p, ad.C_Motion, dx, [], rfl, hp, T.cl_Motion, T.n_kind, Nat.zero_lt_succ _, ?_⟩
    walk_at "go"
    refine ⟨p, ad.C_Motion, dx, _, rfl, At.ins (by assumption) upd_same, T.cl_Motion, T.n_shift, Nat.le_of_ble_eq_true rfl, ?_⟩
    rename_i u H2 S hI
    have ne : ∀ b o, b ≠ p → H b = some o → upd H p (.ins ad.C_Motion dx (putF "_kind" (.str k) [])) b = some o := fun b o nb e => by
      rw [upd_ne nb]
      exact e
    refine q _ (fun b o nb e => ?_) ⟨hk, p, dx, u, rfl, upd_same, ?_⟩
    · rw [upd_ne nb]
      exact S.all _ _ (ne _ _ nb e)
    · obtain ⟨t, rfl, ht⟩ := hI
      exact ⟨t, rfl, by rw [upd_ne (ne_of ht (S.all _ _ upd_same) (by intro z; cases z))]; exact ht⟩
/-- Motion(k, v) -/
theorem do_Motion {C : Addr} {k : Str} {m : Mat} (hk : Kd k m) (hv : IK K H v [x, y]) (q : ∀ z H', Stp none H H' → MA C H' z k m x y → Q z H') :
    MkR C (sp_Motion_init K C) [.str k, v] H Q E := by
  intro p dx hx hd ne
  have S0 : ∀ b o, H b = some o → upd (upd H dx (.own p)) p (.ins C dx []) b = some o := fun b o e => by
    rw [upd_ne (ne_of_none e hx), upd_ne (ne_of_none e hd)]
    exact e
  refine ⟨p, dx, k, m, v, x, y, rfl, hk, hv.mv (Stp.of S0 none), upd_same, fun H' s h => ⟨rfl, q _ _ (Stp.of (fun b o e => s b o (ne_of_none e hx) (S0 b o e)) none) h⟩⟩

theorem put2_shift (u z : V) : (putF "_shift" u (putF "_kind" z [])).lookup ("_shift" : Str) = some u := by rw [lookup_putF, if_pos rfl]
theorem put2_kind (u z : V) : (putF "_shift" u (putF "_kind" z [])).lookup ("_kind" : Str) = some z := by rw [lookup_putF, if_neg (by decide), lookup_putF, if_pos rfl]
theorem put2_other (u z : V) {m : Str} (h : m ≠ "_shift") (h2 : m ≠ "_kind") : (putF "_shift" u (putF "_kind" z [])).lookup m = none := by rw [lookup_putF, if_neg h, lookup_putF, if_neg h2]; rfl
/-- v._kind, v._shift -/
theorem r_kindF {C p dx : Addr} {u z : V} (c : Cls K C) (n : NoAttr K C "_kind") (h : H p = some (.ins C dx (putF "_shift" u (putF "_kind" z [])))) (q : Q z H) : FldR K "_kind" (.ref p) H Q :=
  ⟨p, C, dx, _, z, rfl, h, c, n, put2_kind u z, q⟩
theorem r_shiftF {C p dx : Addr} {u z : V} (c : Cls K C) (n : NoAttr K C "_shift") (h : H p = some (.ins C dx (putF "_shift" u (putF "_kind" z [])))) (q : Q u H) : FldR K "_shift" (.ref p) H Q :=
  ⟨p, C, dx, _, u, rfl, h, c, n, put2_shift u z, q⟩
def sp_Motion_kind (C : Addr) : Sp := fun vs H Q _ => ∃ v k m x y, vs = [v] ∧ MA C H v k m x y ∧ Q (.str k) H
theorem ok_Motion_kind (T : Txt w K mg ad) : FnG P w K mg base CX0 1 ad.Motion_kind ad.Motion_kind_d P_Motion_kind (sp_Motion_kind ad.C_Motion) := by
  refine Fun.g T.F_Motion_kind sc_Motion_kind (fun vs H Q E h => ?_) (fun cdv A outer s H vs Q E hr hg h => ?_)
  · obtain ⟨v, k, m, x, y, rfl, _⟩ := h
    rfl
  · obtain ⟨v, k, m, x, y, rfl, ⟨hk, p, dx, u, rfl, hp, hu⟩, q⟩ := h
    refine ⟨_, (pss_one (ps_ret (pe_fld (pv 0) rfl))), ?_⟩
    walk_at "go"
    exact r_kindF T.cl_Motion T.n_kind hp q
theorem do_Motion_kind {C : Addr} {k : Str} {m : Mat} (h : MA C H v k m x y) (q : Q (.str k) H) :
    ∃ p dx fs, v = .ref p ∧ H p = some (.ins C dx fs) ∧ sp_Motion_kind C (.ref p :: []) H Q E := by
  have h' := h
  obtain ⟨_, p, dx, u, rfl, h1, _⟩ := h'
  exact ⟨p, dx, _, rfl, h1, _, k, m, x, y, rfl, h, q⟩
def sp_Motion_shift (C : Addr) : Sp := fun vs H Q _ => ∃ v k m x y, vs = [v] ∧ MA C H v k m x y ∧ ∀ u, IT H u [x, y] → Q u H
theorem ok_Motion_shift (T : Txt w K mg ad) : FnG P w K mg base CX0 1 ad.Motion_shift ad.Motion_shift_d P_Motion_shift (sp_Motion_shift ad.C_Motion) := by
  refine Fun.g T.F_Motion_shift sc_Motion_shift (fun vs H Q E h => ?_) (fun cdv A outer s H vs Q E hr hg h => ?_)
  · obtain ⟨v, k, m, x, y, rfl, _⟩ := h
    rfl
  · obtain ⟨v, k, m, x, y, rfl, ⟨hk, p, dx, u, rfl, hp, hu⟩, q⟩ := h
    refine ⟨_, (pss_one (ps_ret (pe_fld (pv 0) rfl))), ?_⟩
    walk_at "go"
    exact r_shiftF T.cl_Motion T.n_shift hp (q _ hu)
theorem do_Motion_shift {C : Addr} {k : Str} {m : Mat} (h : MA C H v k m x y) (q : ∀ u, IT H u [x, y] → Q u H) :
    ∃ p dx fs, v = .ref p ∧ H p = some (.ins C dx fs) ∧ sp_Motion_shift C (.ref p :: []) H Q E := by
  have h' := h
  obtain ⟨_, p, dx, u, rfl, h1, _⟩ := h'
  exact ⟨p, dx, _, rfl, h1, _, k, m, x, y, rfl, h, q⟩
/-- whether a kind is a mirror image -/
def mir (k : Str) : Bool := inV (.str k) [V.str "flip", V.str "mirror", V.str "swap", V.str "cross"]
def sp_Motion_is_mirrored (C : Addr) : Sp := fun vs H Q _ => ∃ v k m x y, vs = [v] ∧ MA C H v k m x y ∧ Q (.bl (mir k)) H
theorem ok_Motion_is_mirrored (T : Txt w K mg ad) : FnG P w K mg base CX0 1 ad.Motion_is_mirrored ad.Motion_is_mirrored_d P_Motion_is_mirrored (sp_Motion_is_mirrored ad.C_Motion) := by
  refine Fun.g T.F_Motion_is_mirrored sc_Motion_is_mirrored (fun vs H Q E h => ?_) (fun cdv A outer s H vs Q E hr hg h => ?_)
  · obtain ⟨v, k, m, x, y, rfl, _⟩ := h
    rfl
  · obtain ⟨v, k, m, x, y, rfl, ⟨hk, p, dx, u, rfl, hp, hu⟩, q⟩ := h
    refine ⟨_, (pss_one (ps_ret (pe_cmpR op_in_seq (pe_fld (pv 0) rfl) (pe_glob (v := V.ref ad.MIRROR) rfl T.v_MIRROR_IMAGES rfl) (by rfl)))), ?_⟩
    walk_at "go"
    refine r_kindF T.cl_Motion T.n_kind hp ?_
    walk_at "go"
    exact ⟨_, _, rfl, .inr T.t_MIRROR.t, rfl, rfl, q⟩
theorem do_Motion_is_mirrored {C : Addr} {k : Str} {m : Mat} (h : MA C H v k m x y) (q : Q (.bl (mir k)) H) :
    ∃ p dx fs, v = .ref p ∧ H p = some (.ins C dx fs) ∧ sp_Motion_is_mirrored C (.ref p :: []) H Q E := by
  have h' := h
  obtain ⟨_, p, dx, u, rfl, h1, _⟩ := h'
  exact ⟨p, dx, _, rfl, h1, _, k, m, x, y, rfl, h, q⟩
theorem co_of {x : Int} (h : x.natAbs < 10 ^ 62) : Co x := Nat.lt_of_lt_of_le h (by decide)
/-- v(u) -/
def sp_Motion_call (K : PySem.W.Frag) (C : Addr) : Sp := fun vs H Q _ => ∃ v u k m x y a b, vs = [v, u] ∧ MA C H v k m x y ∧ IK K H u [a, b] ∧ Co a ∧ Co b ∧ ∀ z H', Stp none H H' → IT H' z [mx m a b + x, my m a b + y] → Q z H'
theorem ok_Motion_call (T : Txt w K mg ad) : FnG P w K mg base CX0 4 ad.Motion_call ad.Motion_call_d P_Motion_call (sp_Motion_call K ad.C_Motion) := by
  have G_check_place := ok_check_place (P := P) (w := w) (base := base) T
  have G_turned := ok_turned (P := P) (w := w) (base := base) T
  refine Fun.g T.F_Motion_call sc_Motion_call (fun vs H Q E h => ?_) (fun cdv A outer s H vs Q E hr hg h => ?_)
  · obtain ⟨v, u, k, m, x, y, a, b, rfl, _⟩ := h
    rfl
  · obtain ⟨v, u, k, m, x, y, a, b, rfl, ⟨hk, p, dx, w1, rfl, hp, hu⟩, hv, ca, cb, q⟩ := h
    refine ⟨_, (pss_cons (ps_expr (peg_call G_check_place (hr.mono (by decide)) hg (by rfl) T.g_check_place T.F_check_place.kp T.b_check_place .nil pass0 (pa_cons (pv 1) pa_nil)))
      (pss_cons (ps_asg (peg_call G_turned (hr.mono (by decide)) hg (by rfl) T.g_turned T.F_turned.kp T.b_turned .nil pass0 (pa_cons (pe_fld (pv 0) rfl) (pa_cons (pv 1) pa_nil))) (pg_tup (n := 2) rfl (pgs_cons (pg_name (i := 2) sc_Motion_call.nd rfl (Or.inl rfl)) (pgs_cons (pg_name (i := 3) sc_Motion_call.nd rfl (Or.inl rfl)) pgs_nil))))
      (pss_cons (ps_asg (pe_fld (pv 0) rfl) (pg_tup (n := 2) rfl (pgs_cons (pg_name (i := 4) sc_Motion_call.nd rfl (Or.inl rfl)) (pgs_cons (pg_name (i := 5) sc_Motion_call.nd rfl (Or.inl rfl)) pgs_nil))))
      (pss_one (ps_ret (pe_tup (pa_cons (pe_op op_add (pv 2) (pv 4)) (pa_cons (pe_op op_add (pv 3) (pv 5)) pa_nil)))))))), ?_⟩
    walk_at "go"
    refine r_kindF T.cl_Motion T.n_kind hp ?_
    walk_at "go"
    refine do_turned hk (by walk_at "up") ca cb fun z1 H1 S1 i1 => ?_
    walk_at "go"
    refine r_shiftF T.cl_Motion T.n_shift (by walk_at "up") ?_
    walk_at "go"
    exact q _ _ (by walk_at "st") (by walk_at "up")
theorem do_Motion_call {C : Addr} {u : V} {k : Str} {m : Mat} {a b : Int} (h : MA C H v k m x y) (hu : IK K H u [a, b]) (ca : Co a) (cb : Co b) (q : ∀ z H', Stp none H H' → IT H' z [mx m a b + x, my m a b + y] → Q z H') :
    sp_Motion_call K C [v, u] H Q E := ⟨v, u, k, m, x, y, a, b, rfl, h, hu, ca, cb, q⟩
end
end Law

set_option Elab.async false
set_option linter.all false
set_option maxRecDepth 100000
set_option maxHeartbeats 4000000
namespace Law
open PySem PySem.Spec PyProof.Rows L2 MV
local macro_rules | `(tactic| walk_at "up") => `(tactic| first
  | assumption
  | (refine' IT.mv ?s ?g; (case s => assumption); (case g => walk_at "up"))
  | (refine' IT.k ?g; (case g => walk_at "up"))
  | (refine' IK.mv ?s ?g; (case s => assumption); (case g => walk_at "up"))
  | (refine' Tape.mvN ?s ?g; (case s => assumption); (case g => walk_at "up"))
  | (refine' Tape.mvS ?s ?g; (case s => assumption); (case g => walk_at "up"))
  | (refine' At.tup ?s ?g; (case s => assumption); (case g => walk_at "up"))
  | (refine' At.ins ?s ?g; (case s => assumption); (case g => walk_at "up"))
  | (refine' At.lst ?s ?g; (case s => assumption); (case g => walk_at "up"))
  | (refine' At.lstS ?s ?n ?g; (case s => assumption); (case n => assumption); (case g => walk_at "up"))
  | fail)
local macro_rules | `(tactic| walk_at "st") => `(tactic| first
  | assumption
  | exact Stp.refl _ _
  | (refine' Stp.w ?s; (case s => assumption))
  | (refine' Stp.trans ?g ?s; (case s => (first | assumption | (refine' Stp.w ?u; (case u => assumption)))); (case g => walk_at "st"))
  | fail)
local macro_rules | `(tactic| walk_at "bT") => `(tactic| first
  | decide
  | (simp only [Bool.not_eq_true', Bool.not_eq_false', decide_eq_true_eq, decide_eq_false_iff_not]; omega)
  | fail)
local macro_rules | `(tactic| walk_at "sd") => `(tactic| first | assumption | decide | omega | fail)
local macro_rules | `(tactic| walk_at "r") => `(tactic| first
  | (with_reducible refine r_seq ?_)
  | (with_reducible refine r_asg ?_)
  | ((with_reducible refine' r_var ?h ?k); (case h => rfl))
  | (with_reducible refine r_c ?_)
  | (with_reducible refine r_op ?_)
  | (with_reducible refine r_un ?_)
  | (with_reducible refine r_nil ?_)
  | (with_reducible refine r_cons ?_)
  | (with_reducible refine r_tup ?_)
  | (with_reducible refine r_lst ?_)
  | (with_reducible refine r_cbLen ?_)
  | (with_reducible refine r_cbInt ?_)
  | (with_reducible refine r_cbRepr ?_)
  | (with_reducible refine r_cbTup ?_)
  | (with_reducible refine r_cbLst ?_)
  | (with_reducible refine r_cb ?_)
  | (with_reducible refine r_prop ?_)
  | (with_reducible refine r_andV ?_)
  | (with_reducible refine r_orV ?_)
  | (with_reducible refine r_notV ?_)
  | (with_reducible refine r_chain ?_)
  | (with_reducible refine r_ifE ?_)
  | (with_reducible refine r_test ?_)
  | (with_reducible refine r_B ?_)
  | (with_reducible refine r_and ?_)
  | (with_reducible refine r_or ?_)
  | (with_reducible refine r_not ?_)
  | (with_reducible refine r_yes ?_)
  | (with_reducible refine r_k ?_)
  | (with_reducible refine r_kV ?_)
  | (with_reducible refine r_next ?_)
  | (with_reducible refine r_drop ?_)
  | (with_reducible refine r_ret ?_)
  | (with_reducible refine r_ifS ?_)
  | (with_reducible refine r_par ?_)
  | (with_reducible refine r_par1 ?_)
  | (with_reducible refine r_gname ?_)
  | (with_reducible refine r_gnil ?_)
  | (with_reducible refine r_gcons ?_)
  | ((with_reducible refine' r_unpack2 ?h ?k); (case h => walk_at "up"))
  | ((with_reducible refine' r_unpack3 ?h ?k); (case h => walk_at "up"))
  | (with_reducible refine r_add ?_)
  | (with_reducible refine r_sub ?_)
  | (with_reducible refine r_neg ?_)
  | ((with_reducible refine' r_mod ?h ?k); (case h => walk_at "sd"))
  | ((with_reducible refine' r_div ?h ?k); (case h => walk_at "sd"))
  | ((with_reducible refine' r_mul ?h ?k); (case h => walk_at "sd"))
  | ((with_reducible refine' r_mulW ?h ?k); (case h => walk_at "sd"))
  | ((with_reducible refine' r_pow ?h ?k); (case h => (show (0 : Int) ≤ _ ∧ _ ∧ _; decide)))
  | (with_reducible refine r_lt ?_)
  | (with_reducible refine r_le ?_)
  | (with_reducible refine r_gt ?_)
  | (with_reducible refine r_ge ?_)
  | (with_reducible refine r_eqI ?_)
  | (with_reducible refine r_neI ?_)
  | (with_reducible refine r_eqS ?_)
  | (with_reducible refine r_neS ?_)
  | ((with_reducible refine' r_eqT ?h ?g ?k); (case h => walk_at "up"); (case g => walk_at "up"))
  | ((with_reducible refine' r_neT ?h ?g ?k); (case h => walk_at "up"); (case g => walk_at "up"))
  | ((with_reducible refine' r_ix0 ?h ?k); (case h => walk_at "up"))
  | ((with_reducible refine' r_ix1 ?h ?k); (case h => walk_at "up"))
  | ((with_reducible refine' r_ix2 ?h ?k); (case h => walk_at "up"))
  | (with_reducible refine r_newI2 (fun v H2 S I => ?_))
  | (with_reducible refine r_newI3 (fun v H2 S I => ?_))
  | (with_reducible refine r_newL1 (fun p H2 S hp np => ?_))
  | (with_reducible refine r_newL2 (fun p H2 S hp np => ?_))
  | (with_reducible refine r_newL3 (fun p H2 S hp np => ?_))
  | (with_reducible refine r_T ?_)
  | (with_reducible refine r_F ?_)
  | fail)
local macro_rules | `(tactic| walk_at "go") => `(tactic| repeat (walk_at "r"))
local macro_rules | `(tactic| walk_at "r") => `(tactic| first
  | (with_reducible refine r_call0 ?_)
  | (with_reducible refine r_meth0 ?_)
  | (with_reducible refine r_make0 ?_)
  | (with_reducible refine r_isiII ?_)
  | (with_reducible refine r_isiIB ?_)
  | ((with_reducible refine' r_isiTT ?h ?k); (case h => walk_at "up"))
  | ((with_reducible refine' r_len2 ?h ?k); (case h => walk_at "up"))
  | ((with_reducible refine' r_len3 ?h ?k); (case h => walk_at "up"))
  | ((with_reducible refine' r_lenL ?h ?k); (case h => walk_at "up"))
  | (with_reducible refine r_int1 ?_)
  | (with_reducible refine r_int1B ?_)
  | (with_reducible refine r_nT ?_)
  | (with_reducible refine r_nF ?_)
  | (with_reducible refine r_gcd ?_)
  | (with_reducible refine r_gsub ?_)
  | (with_reducible refine r_fld ?_)
  | (with_reducible refine r_p6 ?_)
  | (with_reducible refine r_p9 ?_)
  | (with_reducible refine r_p10 ?_)
  | (with_reducible refine r_p11 ?_)
  | (with_reducible refine r_p12 ?_)
  | (with_reducible refine r_p18 ?_)
  | (with_reducible refine r_p20 ?_)
  | (with_reducible refine r_p26 ?_)
  | (with_reducible refine r_p27 ?_)
  | (with_reducible refine r_p30 ?_)
  | ((with_reducible refine' r_iF ?h ?k); (case h => walk_at "bT"))
  | ((with_reducible refine' r_iT ?h ?k); (case h => walk_at "bT"))
  | (with_reducible refine r_sfld ?_)
  | (with_reducible refine r_sl ?_)
  | (with_reducible refine r_noPart ?_)
  | (with_reducible refine r_part ?_)
  | (with_reducible refine r_pk ?_)
  | ((with_reducible refine' r_unl2 ?h ?k); (case h => walk_at "up"))
  | ((with_reducible refine' r_ixLi ?h ?h0 ?hn ?k); (case h => walk_at "up"); (case h0 => walk_at "sd"); (case hn => rfl))
  | fail)

local macro_rules | `(tactic| walk_at "r") => `(tactic| with_reducible refine do_is_integer ?_)
local macro_rules | `(tactic| walk_at "r") => `(tactic| first | ((with_reducible refine' do_is_place ?h ?k); (case h => walk_at "up")) | fail)
local macro_rules | `(tactic| walk_at "r") => `(tactic| first | ((with_reducible refine' do_check_place ?h ?k); (case h => walk_at "up")) | fail)
local macro_rules | `(tactic| walk_at "up") => `(tactic| first | (refine' MA.mv ?s ?g; (case s => assumption); (case g => walk_at "up")) | fail)
local macro_rules | `(tactic| walk_at "r") => `(tactic| first
  | ((with_reducible refine' do_Motion_kind ?h ?k); (case h => walk_at "up"))
  | (with_reducible refine r_forR ?_)
  | (with_reducible refine r_forL ?_)
  | (with_reducible refine r_cval ?_)
  | (with_reducible refine r_isiSS ?_)
  | fail)

section
variable {P : Program} {w : World} {K : PySem.W.Frag} {mg : Str → Option Value} {base : Heap} {ad : Ad} {H : Hp} {Q : VK} {E : XK} {i j x y : Int} {v : V}
theorem r_smeth {C : Addr} {sp : Sp} {σ : L2.St} {ta : TE} {t : TA} (q : ta σ H fun x H1 => x = .ref C ∧ t σ H1 fun vs H2 => sp vs H2 Q E) : tSMeth C sp [] E ta t σ H Q := by
  unfold tSMeth
  simp only [List.append_nil]
  exact q
theorem r_same {a : Addr} {A : Prop} (q : A) : V.ref a = .ref a ∧ A := ⟨rfl, q⟩
local macro_rules | `(tactic| walk_at "r") => `(tactic| first | (with_reducible refine r_smeth ?_) | (with_reducible refine r_same ?_) | fail)
theorem co1 : Co 1 := by unfold Co; decide
theorem co2 : Co 2 := by unfold Co; decide
theorem co_m {k : Str} {m : Mat} (h : Kd k m) {B : Nat} (hB : B < 10 ^ 65) (hx : x.natAbs ≤ B) (hy : y.natAbs ≤ B) : Co (mx m x y) ∧ Co (my m x y) ∧ (mx m x y).natAbs ≤ B ∧ (my m x y).natAbs ≤ B := by
  have := h.bound x y
  unfold Co
  omega
/-! ### one * other -/
def sp_Motion_mul (K : PySem.W.Frag) (C : Addr) : Sp := fun vs H Q _ => ∃ v u k m x y l n a b, vs = [v, u] ∧ MA C H v k m x y ∧ MA C H u l n a b ∧ x.natAbs < 10 ^ 62 ∧ y.natAbs < 10 ^ 62 ∧
  ∀ z j H', Stp none H H' → MA C H' z j (mmul n m) (mx n x y + a) (my n x y + b) → Q z H'
theorem ok_Motion_mul (T : Txt w K mg ad) : FnG P w K mg base CX0 6 ad.Motion_mul ad.Motion_mul_d P_Motion_mul (sp_Motion_mul K ad.C_Motion) := by
  have G_turned := ok_turned (P := P) (w := w) (base := base) T
  have G_kind_between := ok_kind_between (P := P) (w := w) (base := base) T
  have G_Motion_kind := ok_Motion_kind (P := P) (w := w) (base := base) T
  have G_Motion_shift := ok_Motion_shift (P := P) (w := w) (base := base) T
  have G_Motion_init := ok_Motion_init (P := P) (w := w) (base := base) T
  refine Fun.g T.F_Motion_mul sc_Motion_mul (fun vs H Q E h => ?_) (fun cdv A outer s H vs Q E hr hg h => ?_)
  · obtain ⟨v, u, k, m, x, y, l, n, a, b, rfl, _⟩ := h
    rfl
  · obtain ⟨v, u, k, m, x, y, l, n, a, b, rfl, hv, hu, bx, by', q⟩ := h
    have hv' := hv
    obtain ⟨hk, p, dx, w1, rfl, hp, hw⟩ := hv'
    have hl := hu.1
    have hP : ∀ H, IK K H (.ref ad.PROBE) [1, 2] := fun H => KT.k (ns := [1, 2]) T.t_PROBE
    obtain ⟨c1, c2, c3, c4⟩ := co_m hk (B := 2) (x := 1) (y := 2) (by decide) (by decide) (by decide)
    obtain ⟨j3, hj⟩ := Kd.mul hk hl
    refine ⟨_, (pss_cons (ps_set (i := 2) sc_Motion_mul.nd rfl (Or.inl rfl) (peg_call G_kind_between (hr.mono (by decide)) hg (by rfl) T.g_kind_between T.F_kind_between.kp T.b_kind_between .nil pass0 (pa_cons (pe_glob (v := V.ref ad.PROBE) rfl T.v_PROBE rfl) (pa_cons (peg_call G_turned (hr.mono (by decide)) hg (by rfl) T.g_turned T.F_turned.kp T.b_turned .nil pass0 (pa_cons (peg_prop (pv 1) T.cl_Motion T.p_Motion_kind G_Motion_kind (hr.mono (by decide)) hg T.b_Motion_kind .nil pass0) (pa_cons (peg_call G_turned (hr.mono (by decide)) hg (by rfl) T.g_turned T.F_turned.kp T.b_turned .nil pass0 (pa_cons (pe_fld (pv 0) rfl) (pa_cons (pe_glob (v := V.ref ad.PROBE) rfl T.v_PROBE rfl) pa_nil))) pa_nil))) pa_nil))))
      (pss_cons (ps_asg (peg_call G_turned (hr.mono (by decide)) hg (by rfl) T.g_turned T.F_turned.kp T.b_turned .nil pass0 (pa_cons (peg_prop (pv 1) T.cl_Motion T.p_Motion_kind G_Motion_kind (hr.mono (by decide)) hg T.b_Motion_kind .nil pass0) (pa_cons (pe_fld (pv 0) rfl) pa_nil))) (pg_tup (n := 2) rfl (pgs_cons (pg_name (i := 3) sc_Motion_mul.nd rfl (Or.inl rfl)) (pgs_cons (pg_name (i := 4) sc_Motion_mul.nd rfl (Or.inl rfl)) pgs_nil))))
      (pss_cons (ps_asg (peg_prop (pv 1) T.cl_Motion T.p_Motion_shift G_Motion_shift (hr.mono (by decide)) hg T.b_Motion_shift .nil pass0) (pg_tup (n := 2) rfl (pgs_cons (pg_name (i := 5) sc_Motion_mul.nd rfl (Or.inl rfl)) (pgs_cons (pg_name (i := 6) sc_Motion_mul.nd rfl (Or.inl rfl)) pgs_nil))))
      (pss_one (ps_ret (peg_make T.k_Motion G_Motion_init (hr.mono (by decide)) hg (by rfl) T.g_Motion T.b_Motion_init .nil pass0 (pa_cons (pv 2) (pa_cons (pe_tup (pa_cons (pe_op op_add (pv 3) (pv 5)) (pa_cons (pe_op op_add (pv 4) (pv 6)) pa_nil))) pa_nil)))))))), ?_⟩
    walk_at "go"
    refine r_kindF T.cl_Motion T.n_kind (by walk_at "up") ?_
    walk_at "go"
    refine do_turned hk (hP _) co1 co2 fun z1 H1 S1 i1 => ?_
    walk_at "go"
    refine do_turned hl (by walk_at "up") c1 c2 fun z2 H2 S2 i2 => ?_
    walk_at "go"
    refine do_kind_between (hP _) (by walk_at "up") co1 co2 hj (mx_mul _ _ _ _).symm (my_mul _ _ _ _).symm ?_ fun H3 S3 => ?_
    · intro l' n' h' e1 e2
      exact uniq_list _ h' _ hj (e1.trans (mx_mul _ _ _ _)) (e2.trans (my_mul _ _ _ _))
    walk_at "go"
    refine r_shiftF T.cl_Motion T.n_shift (by walk_at "up") ?_
    walk_at "go"
    refine do_turned hl (by walk_at "up") (co_of bx) (co_of by') fun z4 H4 S4 i4 => ?_
    walk_at "go"
    refine do_Motion_shift (by walk_at "up") fun u5 i5 => ?_
    walk_at "go"
    exact do_Motion hj (by walk_at "up") fun z H' S h => q _ _ _ (by walk_at "st") h
theorem do_mul {C : Addr} {u : V} {k l : Str} {m n : Mat} {a b : Int} (ic : IsC K C) (cl : Cls K C) (h : MA C H v k m x y) (h2 : MA C H u l n a b) (hx : x.natAbs < 10 ^ 62) (hy : y.natAbs < 10 ^ 62)
    (q : ∀ z j H', Stp none H H' → MA C H' z j (mmul n m) (mx n x y + a) (my n x y + b) → Q z H') : rOwnBin K C (sp_Motion_mul K C) E v u H Q := by
  have h' := h
  have h2' := h2
  obtain ⟨_, p, dx, u1, rfl, h1, _⟩ := h'
  obtain ⟨_, p', dx', u2, rfl, h3, _⟩ := h2'
  exact ⟨p, dx, _, rfl, h1, ic.ty cl h3, _, _, k, m, x, y, l, n, a, b, rfl, h, h2, hx, hy, q⟩
/-! ### ~one -/
def sp_Motion_invert (K : PySem.W.Frag) (C : Addr) : Sp := fun vs H Q _ => ∃ v k m x y, vs = [v] ∧ MA C H v k m x y ∧ x.natAbs < 10 ^ 62 ∧ y.natAbs < 10 ^ 62 ∧
  ∀ z j n H', Stp none H H' → mmul n m = mone → mmul m n = mone → MA C H' z j n (-mx n x y) (-my n x y) → Q z H'
theorem ok_Motion_invert (T : Txt w K mg ad) : FnG P w K mg base CX0 6 ad.Motion_invert ad.Motion_invert_d P_Motion_invert (sp_Motion_invert K ad.C_Motion) := by
  have G_turned := ok_turned (P := P) (w := w) (base := base) T
  have G_kind_between := ok_kind_between (P := P) (w := w) (base := base) T
  have G_Motion_init := ok_Motion_init (P := P) (w := w) (base := base) T
  refine Fun.g T.F_Motion_invert sc_Motion_invert (fun vs H Q E h => ?_) (fun cdv A outer s H vs Q E hr hg h => ?_)
  · obtain ⟨v, k, m, x, y, rfl, _⟩ := h
    rfl
  · obtain ⟨v, k, m, x, y, rfl, hv, bx, by', q⟩ := h
    have hv' := hv
    obtain ⟨hk, p, dx, w1, rfl, hp, hw⟩ := hv'
    have hP : ∀ H, IK K H (.ref ad.PROBE) [1, 2] := fun H => KT.k (ns := [1, 2]) T.t_PROBE
    obtain ⟨c1, c2, c3, c4⟩ := co_m hk (B := 2) (x := 1) (y := 2) (by decide) (by decide) (by decide)
    obtain ⟨j, n, hj, e1, e2⟩ := Kd.inv hk
    have g1 : mx n (mx m 1 2) (my m 1 2) = 1 := by rw [mx_mul, e1, mx_one]
    have g2 : my n (mx m 1 2) (my m 1 2) = 2 := by rw [my_mul, e1, my_one]
    refine ⟨_, (pss_cons (ps_set (i := 1) sc_Motion_invert.nd rfl (Or.inl rfl) (peg_call G_kind_between (hr.mono (by decide)) hg (by rfl) T.g_kind_between T.F_kind_between.kp T.b_kind_between .nil pass0 (pa_cons (peg_call G_turned (hr.mono (by decide)) hg (by rfl) T.g_turned T.F_turned.kp T.b_turned .nil pass0 (pa_cons (pe_fld (pv 0) rfl) (pa_cons (pe_glob (v := V.ref ad.PROBE) rfl T.v_PROBE rfl) pa_nil))) (pa_cons (pe_glob (v := V.ref ad.PROBE) rfl T.v_PROBE rfl) pa_nil))))
      (pss_cons (ps_asg (peg_call G_turned (hr.mono (by decide)) hg (by rfl) T.g_turned T.F_turned.kp T.b_turned .nil pass0 (pa_cons (pv 1) (pa_cons (pe_fld (pv 0) rfl) pa_nil))) (pg_tup (n := 2) rfl (pgs_cons (pg_name (i := 2) sc_Motion_invert.nd rfl (Or.inl rfl)) (pgs_cons (pg_name (i := 3) sc_Motion_invert.nd rfl (Or.inl rfl)) pgs_nil))))
      (pss_one (ps_ret (peg_make T.k_Motion G_Motion_init (hr.mono (by decide)) hg (by rfl) T.g_Motion T.b_Motion_init .nil pass0 (pa_cons (pv 1) (pa_cons (pe_tup (pa_cons (pe_un un_neg (pv 2)) (pa_cons (pe_un un_neg (pv 3)) pa_nil))) pa_nil))))))), ?_⟩
    walk_at "go"
    refine r_kindF T.cl_Motion T.n_kind (by walk_at "up") ?_
    walk_at "go"
    refine do_turned hk (hP _) co1 co2 fun z1 H1 S1 i1 => ?_
    walk_at "go"
    refine do_kind_between (by walk_at "up") (hP _) c1 c2 hj g1 g2 ?_ fun H3 S3 => ?_
    · intro l' n' h' f1 f2
      exact invu_list _ hk _ h' _ hj f1 f2 g1 g2
    walk_at "go"
    refine r_shiftF T.cl_Motion T.n_shift (by walk_at "up") ?_
    walk_at "go"
    refine do_turned hj (by walk_at "up") (co_of bx) (co_of by') fun z4 H4 S4 i4 => ?_
    walk_at "go"
    exact do_Motion hj (by walk_at "up") fun z H' S h => q _ _ _ _ (by walk_at "st") e1 e2 h
theorem do_inv {C : Addr} {k : Str} {m : Mat} (h : MA C H v k m x y) (hx : x.natAbs < 10 ^ 62) (hy : y.natAbs < 10 ^ 62)
    (q : ∀ z j n H', Stp none H H' → mmul n m = mone → mmul m n = mone → MA C H' z j n (-mx n x y) (-my n x y) → Q z H') : rOwnInv C (sp_Motion_invert K C) E v H Q := by
  have h' := h
  obtain ⟨_, p, dx, u1, rfl, h1, _⟩ := h'
  exact ⟨p, dx, _, rfl, h1, _, k, m, x, y, rfl, h, hx, hy, q⟩
/-! ### Motion.by -/
def sp_Motion_by (K : PySem.W.Frag) (C : Addr) : Sp := fun vs H Q _ => ∃ v x y, vs = [v] ∧ IK K H v [x, y] ∧ ∀ z H', Stp none H H' → MA C H' z "none" mone x y → Q z H'
theorem ok_Motion_by (T : Txt w K mg ad) : FnG P w K mg base CX0 6 ad.Motion_by ad.Motion_by_d P_Motion_by (sp_Motion_by K ad.C_Motion) := by
  have G_Motion_init := ok_Motion_init (P := P) (w := w) (base := base) T
  refine Fun.g T.F_Motion_by sc_Motion_by (fun vs H Q E h => ?_) (fun cdv A outer s H vs Q E hr hg h => ?_)
  · obtain ⟨v, x, y, rfl, _⟩ := h
    rfl
  · obtain ⟨v, x, y, rfl, hv, q⟩ := h
    refine ⟨_, (pss_one (ps_ret (peg_make T.k_Motion G_Motion_init (hr.mono (by decide)) hg (by rfl) T.g_Motion T.b_Motion_init .nil pass0 (pa_cons pe_str (pa_cons (pv 0) pa_nil))))), ?_⟩
    walk_at "go"
    exact do_Motion (k := "none") (m := mone) (by unfold Kd; exact List.mem_cons_self) hv q
theorem do_by {C : Addr} (h : IK K H v [x, y]) (q : ∀ z H', Stp none H H' → MA C H' z "none" mone x y → Q z H') : sp_Motion_by K C [v] H Q E := ⟨v, x, y, rfl, h, q⟩
/-! ### repeated -/
/-- the shift of four times a motion -/
def f4 (m : Mat) (x y : Int) : Int × Int := (mx m (mx m (mx m x y + x) (my m x y + y) + x) (my m (mx m x y + x) (my m x y + y) + y) + x, my m (mx m (mx m x y + x) (my m x y + y) + x) (my m (mx m x y + x) (my m x y + y) + y) + y)
/-- i steps of a motion behind a shift -/
def rp (m : Mat) (x y u v : Int) : Nat → Mat × Int × Int
  | 0 => (mone, u, v)
  | i + 1 => (mmul m (rp m x y u v i).1, mx m (rp m x y u v i).2.1 (rp m x y u v i).2.2 + x, my m (rp m x y u v i).2.1 (rp m x y u v i).2.2 + y)
theorem rp_bound {k : Str} {m : Mat} (h : Kd k m) {u v : Int} {B C : Nat} (hx : x.natAbs ≤ B) (hy : y.natAbs ≤ B) (hu : u.natAbs ≤ C) (hv : v.natAbs ≤ C) : ∀ i, (rp m x y u v i).2.1.natAbs ≤ C + i * B ∧ (rp m x y u v i).2.2.natAbs ≤ C + i * B
  | 0 => by rw [Nat.zero_mul]; exact ⟨hu, hv⟩
  | i + 1 => by
    obtain ⟨h1, h2⟩ := rp_bound h hx hy hu hv i
    have h3 := h.bound (rp m x y u v i).2.1 (rp m x y u v i).2.2
    rw [Nat.add_mul, Nat.one_mul]
    show (mx m _ _ + x).natAbs ≤ _ ∧ (my m _ _ + y).natAbs ≤ _
    omega
theorem mb {k : Str} {m : Mat} (h : Kd k m) {B : Nat} (hx : x.natAbs ≤ B) (hy : y.natAbs ≤ B) : (mx m x y).natAbs ≤ B ∧ (my m x y).natAbs ≤ B := by
  have := h.bound x y
  omega
theorem nb_add {a b : Int} {m n : Nat} (h : a.natAbs ≤ m) (h2 : b.natAbs ≤ n) : (a + b).natAbs ≤ m + n := by omega
theorem nb_lt {a : Int} {m : Nat} (h : a.natAbs ≤ m) (h2 : m < 10 ^ 62) : a.natAbs < 10 ^ 62 := Nat.lt_of_le_of_lt h h2
structure Rb (m : Mat) (x y : Int) (B : Nat) : Prop where
  x0 : x.natAbs < 10 ^ 62
  y0 : y.natAbs < 10 ^ 62
  x1 : (mx m x y + x).natAbs < 10 ^ 62
  y1 : (my m x y + y).natAbs < 10 ^ 62
  x2 : (mx m (mx m x y + x) (my m x y + y) + x).natAbs < 10 ^ 62
  y2 : (my m (mx m x y + x) (my m x y + y) + y).natAbs < 10 ^ 62
  x3 : (f4 m x y).1.natAbs ≤ 4 * B
  y3 : (f4 m x y).2.natAbs ≤ 4 * B
theorem rb_of {k : Str} {m : Mat} (h : Kd k m) {B : Nat} (hB : B < 10 ^ 58) (hx : x.natAbs ≤ B) (hy : y.natAbs ≤ B) : Rb m x y B := by
  obtain ⟨a1, a2⟩ := mb h hx hy
  have a3 := nb_add a1 hx
  have a4 := nb_add a2 hy
  obtain ⟨a5, a6⟩ := mb h a3 a4
  have a7 := nb_add a5 hx
  have a8 := nb_add a6 hy
  obtain ⟨a9, a10⟩ := mb h a7 a8
  have a11 := nb_add a9 hx
  have a12 := nb_add a10 hy
  have c1 : B < 10 ^ 62 := by omega
  have c2 : B + B < 10 ^ 62 := by omega
  have c3 : B + B + B < 10 ^ 62 := by omega
  have c4 : B + B + B + B = 4 * B := by omega
  rw [c4] at a11 a12
  exact ⟨nb_lt hx c1, nb_lt hy c1, nb_lt a3 c2, nb_lt a4 c2, nb_lt a7 c3, nb_lt a8 c3, a11, a12⟩
def sp_Motion_repeated (K : PySem.W.Frag) (C : Addr) : Sp := fun vs H Q _ => ∃ v n k m x y B N, vs = [v, .int n] ∧ MA C H v k m x y ∧ x.natAbs ≤ B ∧ y.natAbs ≤ B ∧ n.natAbs ≤ N ∧ B < 10 ^ 58 ∧ N < 10 ^ 30 ∧ N * (4 * B) + 4 * B < 10 ^ 62 ∧
  ∀ z j H', Stp none H H' → MA C H' z j (rp m x y (n / 4 * (f4 m x y).1) (n / 4 * (f4 m x y).2) (n % 4).toNat).1 (rp m x y (n / 4 * (f4 m x y).1) (n / 4 * (f4 m x y).2) (n % 4).toNat).2.1 (rp m x y (n / 4 * (f4 m x y).1) (n / 4 * (f4 m x y).2) (n % 4).toNat).2.2 → Q z H'
theorem ok_Motion_repeated (T : Txt w K mg ad) : FnG P w K mg base CX0 7 ad.Motion_repeated ad.Motion_repeated_d P_Motion_repeated (sp_Motion_repeated K ad.C_Motion) := by
  have G_is_integer := ok_is_integer (P := P) (w := w) (base := base) T
  have G_Motion_mul := ok_Motion_mul (P := P) (w := w) (base := base) T
  have G_Motion_by := ok_Motion_by (P := P) (w := w) (base := base) T
  have G_Motion_shift := ok_Motion_shift (P := P) (w := w) (base := base) T
  refine Fun.gn T.F_Motion_repeated sc_Motion_repeated (fun vs H Q E h => ?_) (fun cdv A outer s H vs Q E hr hg h => ?_)
  · obtain ⟨v, n, k, m, x, y, B, N, rfl, _⟩ := h
    rfl
  · obtain ⟨v, n, k, m, x, y, B, N, rfl, hv, bx, by', bn, hB, hN, hNB, q⟩ := h
    have hk := hv.1
    have R := rb_of hk hB bx by'
    obtain ⟨x0, y0, x1, y1, x2, y2, x3, y3⟩ := R
    have bq : (n / 4).natAbs ≤ N := Nat.le_trans (Int.natAbs_ediv_le_natAbs _ _) bn
    have nb4 : 4 * B < 10 ^ 70 := by clear x0 y0 x1 y1 x2 y2 x3 y3; omega
    have nN : N < 10 ^ 70 := by clear x0 y0 x1 y1 x2 y2 x3 y3; omega
    have d4 : CDivW n 4 := divW_of (by decide) (by decide)
    have m1 : CMulW (n / 4) (f4 m x y).1 := mulW_of (Nat.lt_of_le_of_lt bq nN) (Nat.lt_of_le_of_lt x3 nb4)
    have m2 : CMulW (n / 4) (f4 m x y).2 := mulW_of (Nat.lt_of_le_of_lt bq nN) (Nat.lt_of_le_of_lt y3 nb4)
    have u1 : (n / 4 * (f4 m x y).1).natAbs ≤ N * (4 * B) := by rw [Int.natAbs_mul]; exact Nat.mul_le_mul bq x3
    have u2 : (n / 4 * (f4 m x y).2).natAbs ≤ N * (4 * B) := by rw [Int.natAbs_mul]; exact Nat.mul_le_mul bq y3
    have rpb := rp_bound hk bx by' u1 u2
    refine ⟨_, (pss_cons (ps_if (pt_not (pt_val (peg_call G_is_integer (hr.mono (by decide)) hg (by rfl) T.g_is_integer T.F_is_integer.kp T.b_is_integer .nil pass0 (pa_cons (pv 1) pa_nil))))
      (pss_one ps_never) pss_nil)
      (pss_cons (ps_set (i := 2) sc_Motion_repeated.nd rfl (Or.inl rfl) (pe_op (opg_bin (op := .Mult) T.o_Motion_mul T.sf_Motion G_Motion_mul (hr.mono (by decide)) hg T.b_Motion_mul pass0) (pe_op (opg_bin (op := .Mult) T.o_Motion_mul T.sf_Motion G_Motion_mul (hr.mono (by decide)) hg T.b_Motion_mul pass0) (pe_op (opg_bin (op := .Mult) T.o_Motion_mul T.sf_Motion G_Motion_mul (hr.mono (by decide)) hg T.b_Motion_mul pass0) (pv 0) (pv 0)) (pv 0)) (pv 0)))
      (pss_cons (ps_asg (peg_prop (pv 2) T.cl_Motion T.p_Motion_shift G_Motion_shift (hr.mono (by decide)) hg T.b_Motion_shift .nil pass0) (pg_tup (n := 2) rfl (pgs_cons (pg_name (i := 3) sc_Motion_repeated.nd rfl (Or.inl rfl)) (pgs_cons (pg_name (i := 4) sc_Motion_repeated.nd rfl (Or.inl rfl)) pgs_nil))))
      (pss_cons (ps_set (i := 5) sc_Motion_repeated.nd rfl (Or.inl rfl) (pe_op op_fdivW (pv 1) pe_int))
      (pss_cons (ps_set (i := 6) sc_Motion_repeated.nd rfl (Or.inl rfl) (peg_smeth (pe_glob (v := V.ref ad.C_Motion) rfl T.g_Motion rfl) T.sm_Motion_by G_Motion_by (hr.mono (by decide)) hg T.b_Motion_by .nil pass0 (pa_cons (pe_tup (pa_cons (pe_op op_mulW (pv 5) (pv 3)) (pa_cons (pe_op op_mulW (pv 5) (pv 4)) pa_nil))) pa_nil)))
      (pss_cons (ps_for PassesOwn.never rfl (pi_range1 rfl T.z_range (pa_cons (pe_op op_mod (pv 1) pe_int) pa_nil)) (pg_name (i := 7) sc_Motion_repeated.nd rfl (Or.inl rfl))
      (pss_one (ps_set (i := 6) sc_Motion_repeated.nd rfl (Or.inl rfl) (pe_op (opg_bin (op := .Mult) T.o_Motion_mul T.sf_Motion G_Motion_mul (hr.mono (by decide)) hg T.b_Motion_mul pass0) (pv 6) (pv 0)))))
      (pss_one (ps_ret (pv 6))))))))), ?_⟩
    walk_at "go"
    refine do_mul T.i_Motion T.cl_Motion (by walk_at "up") (by walk_at "up") x0 y0 fun z1 j1 H1 S1 h1 => ?_
    walk_at "go"
    refine do_mul T.i_Motion T.cl_Motion (by walk_at "up") (by walk_at "up") x1 y1 fun z2 j2 H2 S2 h2 => ?_
    walk_at "go"
    refine do_mul T.i_Motion T.cl_Motion (by walk_at "up") (by walk_at "up") x2 y2 fun z3 j3 H3 S3 h3 => ?_
    walk_at "go"
    refine do_Motion_shift h3 fun u i1 => ?_
    have i1' : IT H3 u [(f4 m x y).1, (f4 m x y).2] := i1
    clear x0 y0 x1 y1 x2 y2 i1 bx by' bn
    generalize hf1 : (f4 m x y).1 = fx at i1' m1 x3 u1 rpb
    generalize hf2 : (f4 m x y).2 = fy at i1' m2 y3 u2 rpb
    walk_at "go"
    refine do_by (by walk_at "up") fun r0 H4 S4 h4 => ?_
    walk_at "go"
    have e4 : n % 4 = (((n % 4).toNat : Nat) : Int) := by omega
    rw [e4]
    have hv4 : MA ad.C_Motion H4 v k m x y := by walk_at "up"
    have lt4 : (n % 4).toNat < 4 := by omega
    have st4 : Stp none H H4 := by walk_at "st"
    refine ForR.ok ⟨(n % 4).toNat, fun i σ H' => ∃ r j t, σ = [some v, some (.int n), some z3, some (.int fx), some (.int fy), some (.int (n / 4)), some r, t] ∧ Stp none H4 H' ∧
      MA ad.C_Motion H' r j (rp m x y (n / 4 * fx) (n / 4 * fy) i).1 (rp m x y (n / 4 * fx) (n / 4 * fy) i).2.1 (rp m x y (n / 4 * fx) (n / 4 * fy) i).2.2, rfl, Nat.lt_of_lt_of_le lt4 (by decide), ⟨r0, _, none, rfl, Stp.refl _ _, h4⟩, ?_, ?_⟩
    · rintro i σ H' hi ⟨r, j, t, rfl, s', hr'⟩
      have hb := rpb i
      have hi4 : i * B ≤ 4 * B := Nat.mul_le_mul_right B (by omega)
      have hlt : N * (4 * B) + i * B < 10 ^ 62 := Nat.lt_of_le_of_lt (Nat.add_le_add_left hi4 _) hNB
      have hvi : MA ad.C_Motion H' v k m x y := hv4.mv s'
      walk_at "go"
      refine do_mul T.i_Motion T.cl_Motion hr' hvi (nb_lt hb.1 hlt) (nb_lt hb.2 hlt) fun z5 j5 H5 S5 h5 => ?_
      exact ⟨z5, j5, _, rfl, by walk_at "st", h5⟩
    · rintro σ H' ⟨r, j, t, rfl, s', hr'⟩
      walk_at "go"
      rw [hf1, hf2] at q
      exact q _ _ _ (by walk_at "st") hr'
theorem do_repeated {C : Addr} {n : Int} {k : Str} {m : Mat} {B N : Nat} (h : MA C H v k m x y) (hx : x.natAbs ≤ B) (hy : y.natAbs ≤ B) (hn : n.natAbs ≤ N) (hB : B < 10 ^ 58) (hN : N < 10 ^ 30) (hNB : N * (4 * B) + 4 * B < 10 ^ 62)
    (q : ∀ z j H', Stp none H H' → MA C H' z j (rp m x y (n / 4 * (f4 m x y).1) (n / 4 * (f4 m x y).2) (n % 4).toNat).1 (rp m x y (n / 4 * (f4 m x y).1) (n / 4 * (f4 m x y).2) (n % 4).toNat).2.1 (rp m x y (n / 4 * (f4 m x y).1) (n / 4 * (f4 m x y).2) (n % 4).toNat).2.2 → Q z H') :
    sp_Motion_repeated K C [v, .int n] H Q E := ⟨v, n, k, m, x, y, B, N, rfl, h, hx, hy, hn, hB, hN, hNB, q⟩
end
end Law

set_option Elab.async false
set_option linter.all false
set_option maxRecDepth 100000
set_option maxHeartbeats 4000000
namespace Law
open PySem PySem.Spec PyProof.Rows L2 MV
local macro_rules | `(tactic| walk_at "up") => `(tactic| first
  | assumption
  | (refine' IT.mv ?s ?g; (case s => assumption); (case g => walk_at "up"))
  | (refine' IT.k ?g; (case g => walk_at "up"))
  | (refine' IK.mv ?s ?g; (case s => assumption); (case g => walk_at "up"))
  | (refine' Tape.mvN ?s ?g; (case s => assumption); (case g => walk_at "up"))
  | (refine' Tape.mvS ?s ?g; (case s => assumption); (case g => walk_at "up"))
  | (refine' At.tup ?s ?g; (case s => assumption); (case g => walk_at "up"))
  | (refine' At.ins ?s ?g; (case s => assumption); (case g => walk_at "up"))
  | (refine' At.lst ?s ?g; (case s => assumption); (case g => walk_at "up"))
  | (refine' At.lstS ?s ?n ?g; (case s => assumption); (case n => assumption); (case g => walk_at "up"))
  | fail)
local macro_rules | `(tactic| walk_at "st") => `(tactic| first
  | assumption
  | exact Stp.refl _ _
  | (refine' Stp.w ?s; (case s => assumption))
  | (refine' Stp.trans ?g ?s; (case s => (first | assumption | (refine' Stp.w ?u; (case u => assumption)))); (case g => walk_at "st"))
  | fail)
local macro_rules | `(tactic| walk_at "bT") => `(tactic| first
  | decide
  | (simp only [Bool.not_eq_true', Bool.not_eq_false', decide_eq_true_eq, decide_eq_false_iff_not]; omega)
  | fail)
local macro_rules | `(tactic| walk_at "sd") => `(tactic| first | assumption | decide | omega | fail)
local macro_rules | `(tactic| walk_at "r") => `(tactic| first
  | (with_reducible refine r_seq ?_)
  | (with_reducible refine r_asg ?_)
  | ((with_reducible refine' r_var ?h ?k); (case h => rfl))
  | (with_reducible refine r_c ?_)
  | (with_reducible refine r_op ?_)
  | (with_reducible refine r_un ?_)
  | (with_reducible refine r_nil ?_)
  | (with_reducible refine r_cons ?_)
  | (with_reducible refine r_tup ?_)
  | (with_reducible refine r_lst ?_)
  | (with_reducible refine r_cbLen ?_)
  | (with_reducible refine r_cbInt ?_)
  | (with_reducible refine r_cbRepr ?_)
  | (with_reducible refine r_cbTup ?_)
  | (with_reducible refine r_cbLst ?_)
  | (with_reducible refine r_cb ?_)
  | (with_reducible refine r_prop ?_)
  | (with_reducible refine r_andV ?_)
  | (with_reducible refine r_orV ?_)
  | (with_reducible refine r_notV ?_)
  | (with_reducible refine r_chain ?_)
  | (with_reducible refine r_ifE ?_)
  | (with_reducible refine r_test ?_)
  | (with_reducible refine r_B ?_)
  | (with_reducible refine r_and ?_)
  | (with_reducible refine r_or ?_)
  | (with_reducible refine r_not ?_)
  | (with_reducible refine r_yes ?_)
  | (with_reducible refine r_k ?_)
  | (with_reducible refine r_kV ?_)
  | (with_reducible refine r_next ?_)
  | (with_reducible refine r_drop ?_)
  | (with_reducible refine r_ret ?_)
  | (with_reducible refine r_ifS ?_)
  | (with_reducible refine r_par ?_)
  | (with_reducible refine r_par1 ?_)
  | (with_reducible refine r_gname ?_)
  | (with_reducible refine r_gnil ?_)
  | (with_reducible refine r_gcons ?_)
  | ((with_reducible refine' r_unpack2 ?h ?k); (case h => walk_at "up"))
  | ((with_reducible refine' r_unpack3 ?h ?k); (case h => walk_at "up"))
  | (with_reducible refine r_add ?_)
  | (with_reducible refine r_sub ?_)
  | (with_reducible refine r_neg ?_)
  | ((with_reducible refine' r_mod ?h ?k); (case h => walk_at "sd"))
  | ((with_reducible refine' r_div ?h ?k); (case h => walk_at "sd"))
  | ((with_reducible refine' r_mul ?h ?k); (case h => walk_at "sd"))
  | ((with_reducible refine' r_mulW ?h ?k); (case h => walk_at "sd"))
  | ((with_reducible refine' r_pow ?h ?k); (case h => (show (0 : Int) ≤ _ ∧ _ ∧ _; decide)))
  | (with_reducible refine r_lt ?_)
  | (with_reducible refine r_le ?_)
  | (with_reducible refine r_gt ?_)
  | (with_reducible refine r_ge ?_)
  | (with_reducible refine r_eqI ?_)
  | (with_reducible refine r_neI ?_)
  | (with_reducible refine r_eqS ?_)
  | (with_reducible refine r_neS ?_)
  | ((with_reducible refine' r_eqT ?h ?g ?k); (case h => walk_at "up"); (case g => walk_at "up"))
  | ((with_reducible refine' r_neT ?h ?g ?k); (case h => walk_at "up"); (case g => walk_at "up"))
  | ((with_reducible refine' r_ix0 ?h ?k); (case h => walk_at "up"))
  | ((with_reducible refine' r_ix1 ?h ?k); (case h => walk_at "up"))
  | ((with_reducible refine' r_ix2 ?h ?k); (case h => walk_at "up"))
  | (with_reducible refine r_newI2 (fun v H2 S I => ?_))
  | (with_reducible refine r_newI3 (fun v H2 S I => ?_))
  | (with_reducible refine r_newL1 (fun p H2 S hp np => ?_))
  | (with_reducible refine r_newL2 (fun p H2 S hp np => ?_))
  | (with_reducible refine r_newL3 (fun p H2 S hp np => ?_))
  | (with_reducible refine r_T ?_)
  | (with_reducible refine r_F ?_)
  | fail)
local macro_rules | `(tactic| walk_at "go") => `(tactic| repeat (walk_at "r"))
local macro_rules | `(tactic| walk_at "r") => `(tactic| first
  | (with_reducible refine r_call0 ?_)
  | (with_reducible refine r_meth0 ?_)
  | (with_reducible refine r_make0 ?_)
  | (with_reducible refine r_isiII ?_)
  | (with_reducible refine r_isiIB ?_)
  | ((with_reducible refine' r_isiTT ?h ?k); (case h => walk_at "up"))
  | ((with_reducible refine' r_len2 ?h ?k); (case h => walk_at "up"))
  | ((with_reducible refine' r_len3 ?h ?k); (case h => walk_at "up"))
  | ((with_reducible refine' r_lenL ?h ?k); (case h => walk_at "up"))
  | (with_reducible refine r_int1 ?_)
  | (with_reducible refine r_int1B ?_)
  | (with_reducible refine r_nT ?_)
  | (with_reducible refine r_nF ?_)
  | (with_reducible refine r_gcd ?_)
  | (with_reducible refine r_gsub ?_)
  | (with_reducible refine r_fld ?_)
  | (with_reducible refine r_p6 ?_)
  | (with_reducible refine r_p9 ?_)
  | (with_reducible refine r_p10 ?_)
  | (with_reducible refine r_p11 ?_)
  | (with_reducible refine r_p12 ?_)
  | (with_reducible refine r_p18 ?_)
  | (with_reducible refine r_p20 ?_)
  | (with_reducible refine r_p26 ?_)
  | (with_reducible refine r_p27 ?_)
  | (with_reducible refine r_p30 ?_)
  | ((with_reducible refine' r_iF ?h ?k); (case h => walk_at "bT"))
  | ((with_reducible refine' r_iT ?h ?k); (case h => walk_at "bT"))
  | (with_reducible refine r_sfld ?_)
  | (with_reducible refine r_sl ?_)
  | (with_reducible refine r_noPart ?_)
  | (with_reducible refine r_part ?_)
  | (with_reducible refine r_pk ?_)
  | ((with_reducible refine' r_unl2 ?h ?k); (case h => walk_at "up"))
  | ((with_reducible refine' r_ixLi ?h ?h0 ?hn ?k); (case h => walk_at "up"); (case h0 => walk_at "sd"); (case hn => rfl))
  | fail)

local macro_rules | `(tactic| walk_at "r") => `(tactic| with_reducible refine do_is_integer ?_)
local macro_rules | `(tactic| walk_at "r") => `(tactic| first | ((with_reducible refine' do_is_place ?h ?k); (case h => walk_at "up")) | fail)
local macro_rules | `(tactic| walk_at "r") => `(tactic| first | ((with_reducible refine' do_check_place ?h ?k); (case h => walk_at "up")) | fail)
local macro_rules | `(tactic| walk_at "up") => `(tactic| first | (refine' MA.mv ?s ?g; (case s => assumption); (case g => walk_at "up")) | fail)
local macro_rules | `(tactic| walk_at "r") => `(tactic| first
  | ((with_reducible refine' do_Motion_kind ?h ?k); (case h => walk_at "up"))
  | (with_reducible refine r_forR ?_)
  | (with_reducible refine r_forL ?_)
  | (with_reducible refine r_cval ?_)
  | (with_reducible refine r_isiSS ?_)
  | fail)

section
variable {P : Program} {w : World} {K : PySem.W.Frag} {mg : Str → Option Value} {base : Heap} {ad : Ad} {H : Hp} {Q : VK} {E : XK} {i j x y : Int} {v : V}
/-! ### draws -/
def sp_law_tape (K : PySem.W.Frag) : Sp := fun vs H Q _ => ∃ (l : Addr) (ns : List Int), vs = [.ref l] ∧ SqL K H l (ns.map V.int) ∧ ∀ t H', Stp none H H' → H t = none → Tape H' t → Q (.ref t) H'
theorem ok_law_tape (T : Txt w K mg ad) : FnG P w K mg base CX0 1 ad.law_tape ad.law_tape_d P_law_tape (sp_law_tape K) := by
  refine Fun.g T.F_law_tape sc_law_tape (fun vs H Q E h => ?_) (fun cdv A outer s H vs Q E hr hg h => ?_)
  · obtain ⟨l, ns, rfl, _⟩ := h
    rfl
  · obtain ⟨l, ns, rfl, hl, q⟩ := h
    refine ⟨_, (pss_one (ps_ret (pe_lst (pa_cons (pe_callTy call_list_of (by rfl) T.z_list (by decide +kernel) (pa_cons (pe_slice sl_list (pv 0) po_none (po_some pe_int)) pa_nil)) (pa_cons pe_int (pa_cons pe_int (pa_cons pe_int pa_nil))))))), ?_⟩
    walk_at "go"
    refine r_slL hl fun l1 H1 S1 h1 n1 => ?_
    walk_at "go"
    refine r_lstL (SqL.of h1) fun l2 H2 S2 h2 n2 => ?_
    walk_at "go"
    refine r_newL (sz100 (Nat.le_of_ble_eq_true rfl)) fun t H3 S3 h3 n3 => ?_
    obtain ⟨ms, e⟩ := cutV_map ns none (some 63)
    rw [e] at h2
    have nl : l2 ≠ t := ne_of_none h2 n3
    refine q t H3 (by walk_at "st") ?_ ⟨l2, ms, 0, 0, 17, nl, h3, S3.all _ _ h2, by decide, by decide, by decide⟩
    cases z : H t with
    | none => rfl
    | some o => exact absurd (S2.all _ _ (S1.all _ _ z)) (by rw [n3]; simp)
theorem do_law_tape {l : Addr} {ns : List Int} (h : SqL K H l (ns.map V.int)) (k : ∀ t H', Stp none H H' → H t = none → Tape H' t → Q (.ref t) H') :
    sp_law_tape K [.ref l] H Q E := ⟨l, ns, rfl, h, k⟩

def sp_law_draw : Sp := fun vs H Q _ => ∃ t m, vs = [.ref t, .int m] ∧ Tape H t ∧ 0 < m ∧ m < 10 ^ 30 ∧ ∀ r H', 0 ≤ r → r < m → Stp (some t) H H' → Q (.int r) H'
theorem ok_law_draw (T : Txt w K mg ad) : FnG P w K mg base CX0 1 ad.law_draw ad.law_draw_d P_law_draw sp_law_draw := by
  refine Fun.g T.F_law_draw sc_law_draw (fun vs H Q E h => ?_) (fun cdv A outer s H vs Q E hr hg h => ?_)
  · obtain ⟨t, m, rfl, _⟩ := h
    rfl
  · obtain ⟨t, m, rfl, hT, m0, m1, q⟩ := h
    obtain ⟨l, ns, a, b, c, X⟩ := hT.is
    have ht := X.at_
    have hl := X.li
    have a0 := X.a0
    have c0 := X.c0
    have c1 := X.c1
    have dv : ∀ z : Int, CDivW z m := fun z => divW_of m0 (by omega)
    have rm : ∀ z : Int, 0 ≤ z % m ∧ z % m < m := fun z => ⟨Int.emod_nonneg _ (by omega), Int.emod_lt_of_pos _ m0⟩
    refine ⟨_, (pss_cons (ps_if (pt_cmpR op_gt (pe_ix ix_seq (pv 0) pe_int (fun _ _ => rfl)) pe_int (nomark _))
      (pss_cons (ps_set (i := 2) sc_law_draw.nd rfl (Or.inl rfl) (pe_op op_mod (pe_ix ix_seq (pv 0) pe_int (fun _ _ => rfl)) (pv 1)))
      (pss_cons (ps_asg (pe_op op_fdivW (pe_ix ix_seq (pv 0) pe_int (fun _ _ => rfl)) (pv 1)) (pg_sub (pv 0) pe_int set_list))
      (pss_one (ps_ret (pv 2))))) pss_nil)
      (pss_cons (ps_set (i := 3) sc_law_draw.nd rfl (Or.inl rfl) pe_int)
      (pss_cons (ps_if (pt_cmpR op_lt (pe_ix ix_seq (pv 0) pe_int (fun _ _ => rfl)) (pe_callB call_len_seq (by rfl) T.z_len (by decide +kernel) (pa_cons (pe_ix ix_seq (pv 0) pe_int (fun _ _ => rfl)) pa_nil)) (nomark _))
      (pss_one (ps_set (i := 3) sc_law_draw.nd rfl (Or.inl rfl) (pe_ix ix_seq (pe_ix ix_seq (pv 0) pe_int (fun _ _ => rfl)) (pe_ix ix_seq (pv 0) pe_int (fun _ _ => rfl)) (fun _ _ => rfl)))) pss_nil)
      (pss_cons (ps_asg (pe_op op_add (pe_ix ix_seq (pv 0) pe_int (fun _ _ => rfl)) pe_int) (pg_sub (pv 0) pe_int set_list))
      (pss_cons (ps_if (pt_cmpR op_ge (pv 3) (pe_op op_pow pe_int pe_int) (nomark _))
      (pss_cons (ps_asg (pe_op op_fdivW (pv 3) (pv 1)) (pg_sub (pv 0) pe_int set_list))
      (pss_one (ps_ret (pe_op op_mod (pv 3) (pv 1))))) pss_nil)
      (pss_cons (ps_set (i := 4) sc_law_draw.nd rfl (Or.inl rfl) (pe_op op_add (pe_op op_add (pe_op op_mod (pv 3) pe_int) (pe_op op_mul pe_int (pe_ix ix_seq (pv 0) pe_int (fun _ _ => rfl)))) pe_int))
      (pss_cons (ps_asg (pe_op op_mod (pe_op op_add (pe_op op_mul (pe_ix ix_seq (pv 0) pe_int (fun _ _ => rfl)) pe_int) (pv 4)) pe_int) (pg_sub (pv 0) pe_int set_list))
      (pss_one (ps_ret (pe_op op_mod (pe_op op_mod (pe_op op_pow (pe_ix ix_seq (pv 0) pe_int (fun _ _ => rfl)) pe_int) pe_int) (pv 1))))))))))), ?_⟩
    walk_at "go"
    refine r_ite (fun hb => ?_) (fun hb => ?_)
    · walk_at "go"
      refine r_div (dv _) ?_
      walk_at "go"
      obtain ⟨S1, X1⟩ := X.put (a' := a) (b' := b / m) a0 c0 c1
      refine r_set2 ht ?_
      walk_at "go"
      exact q _ _ (rm _).1 (rm _).2 S1
    · walk_at "go"
      refine r_ite (fun ha => ?_) (fun ha => ?_)
      · have hz : ∃ z : Int, (ns.map V.int)[a.toNat]? = some (.int z) := by
          rw [List.length_map] at ha
          have : a.toNat < ns.length := by omega
          exact ⟨ns[a.toNat], by rw [List.getElem?_map, List.getElem?_eq_getElem this]; rfl⟩
        obtain ⟨z, hz⟩ := hz
        walk_at "go"
        refine r_ixLi hl a0 hz ?_
        walk_at "go"
        obtain ⟨S1, X1⟩ := X.put (a' := a + 1) (b' := b) (by omega) c0 c1
        refine r_set1 ht ?_
        generalize upd H t (.lst [.ref l, .int (a + 1), .int b, .int c]) = H1 at S1 X1 ⊢
        have ht1 := X1.at_
        walk_at "go"
        refine r_ite (fun hc => ?_) (fun hc => ?_)
        · walk_at "go"
          refine r_div (dv _) ?_
          walk_at "go"
          obtain ⟨S2, X2⟩ := X1.put (a' := a + 1) (b' := z / m) (by omega) c0 c1
          refine r_set2 ht1 ?_
          walk_at "go"
          exact q _ _ (rm _).1 (rm _).2 (S1.trans S2)
        · walk_at "go"
          refine r_mul (.inl ⟨by decide, by decide⟩) ?_
          walk_at "go"
          refine r_mul (.inl ⟨by omega, by omega⟩) ?_
          walk_at "go"
          have rm2 : ∀ z : Int, 0 ≤ z % 2147483647 ∧ z % 2147483647 < 2147483647 := fun z => ⟨Int.emod_nonneg _ (by omega), Int.emod_lt_of_pos _ (by omega)⟩
          obtain ⟨S2, X2⟩ := X1.put (a' := a + 1) (b' := b) (by omega) (rm2 _).1 (rm2 _).2
          refine r_set3 ht1 ?_
          have ht2 := X2.at_
          walk_at "go"
          refine r_pow ?_ ?_
          · have := rm2 (c * 48271 + (z % 2147483647 + 7919 * (a + 1) + 11))
            exact ⟨by decide, by decide, by omega⟩
          walk_at "go"
          exact q _ _ (rm _).1 (rm _).2 (S1.trans S2)
      · walk_at "go"
        obtain ⟨S1, X1⟩ := X.put (a' := a + 1) (b' := b) (by omega) c0 c1
        refine r_set1 ht ?_
        generalize upd H t (.lst [.ref l, .int (a + 1), .int b, .int c]) = H1 at S1 X1 ⊢
        have ht1 := X1.at_
        walk_at "go"
        refine r_mul (.inl ⟨by decide, by decide⟩) ?_
        walk_at "go"
        refine r_mul (.inl ⟨by omega, by omega⟩) ?_
        walk_at "go"
        have rm2 : ∀ z : Int, 0 ≤ z % 2147483647 ∧ z % 2147483647 < 2147483647 := fun z => ⟨Int.emod_nonneg _ (by omega), Int.emod_lt_of_pos _ (by omega)⟩
        obtain ⟨S2, X2⟩ := X1.put (a' := a + 1) (b' := b) (by omega) (rm2 _).1 (rm2 _).2
        refine r_set3 ht1 ?_
        have ht2 := X2.at_
        walk_at "go"
        refine r_pow ?_ ?_
        · have := rm2 (c * 48271 + (0 % 2147483647 + 7919 * (a + 1) + 11))
          exact ⟨by decide, by decide, by omega⟩
        walk_at "go"
        exact q _ _ (rm _).1 (rm _).2 (S1.trans S2)
theorem do_law_draw {t : Addr} {m : Int} (T : Tape H t) (h0 : 0 < m) (h1 : m < 10 ^ 30) (k : ∀ r H', 0 ≤ r → r < m → Stp (some t) H H' → Q (.int r) H') :
    sp_law_draw [.ref t, .int m] H Q E := ⟨t, m, rfl, T, h0, h1, k⟩
local macro_rules | `(tactic| walk_at "dr") => `(tactic| (refine do_law_draw (by walk_at "up") (by first | decide | omega) (by first | decide | omega) ?_))
def sp_law_great : Sp := fun vs H Q _ => ∃ t m, vs = [.ref t, .int m] ∧ Tape H t ∧ 60 ≤ m ∧ m < 10 ^ 30 ∧ ∀ r H', -m < r → r < m → Stp (some t) H H' → Q (.int r) H'
theorem ok_law_great (T : Txt w K mg ad) : FnG P w K mg base CX0 2 ad.law_great ad.law_great_d P_law_great sp_law_great := by
  have G_law_draw := ok_law_draw (P := P) (w := w) (base := base) T
  refine Fun.g T.F_law_great sc_law_great (fun vs H Q E h => ?_) (fun cdv A outer s H vs Q E hr hg h => ?_)
  · obtain ⟨t, m, rfl, _⟩ := h
    rfl
  · obtain ⟨t, m, rfl, hT, m0, m1, q⟩ := h
    refine ⟨_, (pss_cons (ps_set (i := 2) sc_law_great.nd rfl (Or.inl rfl) (pe_op op_add (pe_op op_mulW (peg_call G_law_draw (hr.mono (by decide)) hg (by rfl) T.g_law_draw T.F_law_draw.kp T.b_law_draw .nil pass0 (pa_cons (pv 0) (pa_cons (pe_op op_pow pe_int pe_int) pa_nil))) (pe_op op_pow pe_int pe_int)) (pe_op op_mulW (peg_call G_law_draw (hr.mono (by decide)) hg (by rfl) T.g_law_draw T.F_law_draw.kp T.b_law_draw .nil pass0 (pa_cons (pv 0) (pa_cons (pe_op op_pow pe_int pe_int) pa_nil))) (pe_op op_pow pe_int pe_int))))
      (pss_cons (ps_set (i := 3) sc_law_great.nd rfl (Or.inl rfl) (pe_ix ix_seq (pe_lst (pa_cons (peg_call G_law_draw (hr.mono (by decide)) hg (by rfl) T.g_law_draw T.F_law_draw.kp T.b_law_draw .nil pass0 (pa_cons (pv 0) (pa_cons pe_int pa_nil))) (pa_cons (peg_call G_law_draw (hr.mono (by decide)) hg (by rfl) T.g_law_draw T.F_law_draw.kp T.b_law_draw .nil pass0 (pa_cons (pv 0) (pa_cons pe_int pa_nil))) (pa_cons (pe_op op_mod (pe_op op_add (pv 2) (peg_call G_law_draw (hr.mono (by decide)) hg (by rfl) T.g_law_draw T.F_law_draw.kp T.b_law_draw .nil pass0 (pa_cons (pv 0) (pa_cons (pe_op op_pow pe_int pe_int) pa_nil)))) (pv 1)) pa_nil)))) (peg_call G_law_draw (hr.mono (by decide)) hg (by rfl) T.g_law_draw T.F_law_draw.kp T.b_law_draw .nil pass0 (pa_cons (pv 0) (pa_cons pe_int pa_nil))) (fun _ _ => rfl)))
      (pss_one (ps_ret (pe_op op_mulW (pv 3) (pe_ix ix_seq (pe_lst (pa_cons pe_int (pa_cons (pe_un un_neg pe_int) pa_nil))) (peg_call G_law_draw (hr.mono (by decide)) hg (by rfl) T.g_law_draw T.F_law_draw.kp T.b_law_draw .nil pass0 (pa_cons (pv 0) (pa_cons pe_int pa_nil))) (fun _ _ => rfl))))))), ?_⟩
    walk_at "go"
    walk_at "dr"
    intro r1 H1 a1 b1 S1
    walk_at "go"
    refine r_mulW (mulW_of (by omega) (by decide)) ?_
    walk_at "go"
    walk_at "dr"
    intro r2 H2 a2 b2 S2
    walk_at "go"
    refine r_mulW (mulW_of (by omega) (by decide)) ?_
    walk_at "go"
    walk_at "dr"
    intro r3 H3 a3 b3 S3
    walk_at "go"
    walk_at "dr"
    intro r4 H4 a4 b4 S4
    walk_at "go"
    walk_at "dr"
    intro r5 H5 a5 b5 S5
    walk_at "go"
    have e1 : 0 ≤ (r1 * 1000000000000000000 + r2 * 1000000000 + r5) % m := Int.emod_nonneg _ (by omega)
    have e2 : (r1 * 1000000000000000000 + r2 * 1000000000 + r5) % m < m := Int.emod_lt_of_pos _ (by omega)
    rename_i p1 H6 S6 hp1 np1
    generalize (r1 * 1000000000000000000 + r2 * 1000000000 + r5) % m = z at e1 e2 hp1
    have T6 : Tape H6 t := by walk_at "up"
    have nt1 : p1 ≠ t := by
      intro e
      have T5 : Tape H5 t := by walk_at "up"
      obtain ⟨_, _, _, _, _, _, h, _⟩ := T5
      rw [← e, np1] at h
      cases h
    walk_at "dr"
    intro r6 H7 a6 b6 S7
    have hz : ∃ u, [V.int r3, V.int r4, V.int z][r6.toNat]? = some (V.int u) ∧ 0 ≤ u ∧ u < m := by
      have : r6 = 0 ∨ r6 = 1 ∨ r6 = 2 := by omega
      rcases this with rfl | rfl | rfl
      · exact ⟨r3, rfl, by omega, by omega⟩
      · exact ⟨r4, rfl, by omega, by omega⟩
      · exact ⟨z, rfl, by omega, by omega⟩
    obtain ⟨u, hu, u0, u1⟩ := hz
    have hp7 : H7 p1 = some (.lst [V.int r3, V.int r4, V.int z]) := At.lstS S7 nt1 hp1
    refine r_ixLi hp7 a6 hu ?_
    walk_at "go"
    rename_i p2 H8 S8 hp2 np2
    have nt2 : p2 ≠ t := by
      intro e
      have T5 : Tape H7 t := by walk_at "up"
      obtain ⟨_, _, _, _, _, _, h, _⟩ := T5
      rw [← e, np2] at h
      cases h
    walk_at "dr"
    intro r7 H9 a7 b7 S9
    have hp9 : H9 p2 = some (.lst [V.int 1, V.int (-1)]) := At.lstS S9 nt2 hp2
    have : r7 = 0 ∨ r7 = 1 := by omega
    rcases this with rfl | rfl
    · walk_at "go"
      refine r_mulW (mulW_of (by omega) (by decide)) ?_
      exact q _ _ (by omega) (by omega) (by walk_at "st")
    · walk_at "go"
      refine r_mulW (mulW_of (by omega) (by decide)) ?_
      exact q _ _ (by omega) (by omega) (by walk_at "st")
theorem do_law_great {t : Addr} {m : Int} (T : Tape H t) (h0 : 60 ≤ m) (h1 : m < 10 ^ 30) (k : ∀ r H', -m < r → r < m → Stp (some t) H H' → Q (.int r) H') :
    sp_law_great [.ref t, .int m] H Q E := ⟨t, m, rfl, T, h0, h1, k⟩

def sp_law_place : Sp := fun vs H Q _ => ∃ t, vs = [.ref t] ∧ Tape H t ∧ ∀ v x y H', -10 ^ 26 < x → x < 10 ^ 26 → -10 ^ 26 < y → y < 10 ^ 26 → Stp (some t) H H' → IT H' v [x, y] → Q v H'
theorem ok_law_place (T : Txt w K mg ad) : FnG P w K mg base CX0 3 ad.law_place ad.law_place_d P_law_place sp_law_place := by
  have G_law_great := ok_law_great (P := P) (w := w) (base := base) T
  refine Fun.g T.F_law_place sc_law_place (fun vs H Q E h => ?_) (fun cdv A outer s H vs Q E hr hg h => ?_)
  · obtain ⟨t, rfl, _⟩ := h
    rfl
  · obtain ⟨t, rfl, hT, q⟩ := h
    refine ⟨_, (pss_one (ps_ret (pe_tup (pa_cons (peg_call G_law_great (hr.mono (by decide)) hg (by rfl) T.g_law_great T.F_law_great.kp T.b_law_great .nil pass0 (pa_cons (pv 0) (pa_cons (pe_op op_pow pe_int pe_int) pa_nil))) (pa_cons (peg_call G_law_great (hr.mono (by decide)) hg (by rfl) T.g_law_great T.F_law_great.kp T.b_law_great .nil pass0 (pa_cons (pv 0) (pa_cons (pe_op op_pow pe_int pe_int) pa_nil))) pa_nil))))), ?_⟩
    walk_at "go"
    refine do_law_great (by walk_at "up") (by decide) (by decide) fun x H1 x0 x1 S1 => ?_
    walk_at "go"
    refine do_law_great (by walk_at "up") (by decide) (by decide) fun y H2 y0 y1 S2 => ?_
    walk_at "go"
    exact q _ x y _ (by omega) (by omega) (by omega) (by omega) (by walk_at "st") (by walk_at "up")
theorem do_law_place {t : Addr} (T : Tape H t) (k : ∀ v x y H', -10 ^ 26 < x → x < 10 ^ 26 → -10 ^ 26 < y → y < 10 ^ 26 → Stp (some t) H H' → IT H' v [x, y] → Q v H') :
    sp_law_place [.ref t] H Q E := ⟨t, rfl, T, k⟩


/-! ### kinds, by the law's own words -/
theorem r_inT {p : Addr} {z : V} {xs : List V} (h : H p = some (.lst xs)) (f : flatV z = true) (g : xs.all flatV = true) (e : inV z xs = true) (q : Q (.bl true) H) : rIn K false z (.ref p) H Q :=
  ⟨p, xs, rfl, .inl (SqL.of h), f, g, by rw [e]; exact q⟩
theorem r_inF {p : Addr} {z : V} {xs : List V} (h : H p = some (.lst xs)) (f : flatV z = true) (g : xs.all flatV = true) (e : inV z xs = false) (q : Q (.bl false) H) : rIn K false z (.ref p) H Q :=
  ⟨p, xs, rfl, .inl (SqL.of h), f, g, by rw [e]; exact q⟩
theorem IT.cast {a b c d : Int} (h : IT H v [a, b]) (e1 : a = c) (e2 : b = d) : IT H v [c, d] := by rw [← e1, ← e2]; exact h
local macro_rules | `(tactic| walk_at "bT") => `(tactic| first | decide +kernel | fail)
local macro_rules | `(tactic| walk_at "r") => `(tactic| first
  | ((with_reducible refine' r_inT ?h ?f ?g ?e ?k); (case h => walk_at "up"); (case f => rfl); (case g => rfl); (case e => decide +kernel))
  | ((with_reducible refine' r_inF ?h ?f ?g ?e ?k); (case h => walk_at "up"); (case f => rfl); (case g => rfl); (case e => decide +kernel))
  | fail)
def sp_law_turned (K : PySem.W.Frag) : Sp := fun vs H Q _ => ∃ k m v x y, vs = [.str k, v] ∧ Kd k m ∧ IK K H v [x, y] ∧ ∀ z H', Stp none H H' → IT H' z [mx m x y, my m x y] → Q z H'
theorem do_law_turned {k : Str} {m : Mat} (h : Kd k m) (hv : IK K H v [x, y]) (q : ∀ z H', Stp none H H' → IT H' z [mx m x y, my m x y] → Q z H') :
    sp_law_turned K [.str k, v] H Q E := ⟨k, m, v, x, y, rfl, h, hv, q⟩
theorem ok_law_turned (T : Txt w K mg ad) : FnG P w K mg base CX0 1 ad.law_turned ad.law_turned_d P_law_turned (sp_law_turned K) := by
  refine Fun.g T.F_law_turned sc_law_turned (fun vs H Q E h => ?_) (fun cdv A outer s H vs Q E hr hg h => ?_)
  · obtain ⟨k, m, v, x, y, rfl, _⟩ := h
    rfl
  · obtain ⟨k, m, v, x, y, rfl, hk, hv, q⟩ := h
    refine ⟨_, (pss_cons (ps_asg (pv 1) (pg_tup (n := 2) rfl (pgs_cons (pg_name (i := 2) sc_law_turned.nd rfl (Or.inl rfl)) (pgs_cons (pg_name (i := 3) sc_law_turned.nd rfl (Or.inl rfl)) pgs_nil))))
      (pss_cons (ps_if (pt_cmpR op_in_seq (pv 0) (pe_lst (pa_cons pe_str (pa_cons pe_str pa_nil))) (by rfl))
      (pss_one (ps_ret (pe_ifExp (pt_cmpR op_eq (pv 0) pe_str (nomark _)) (pe_tup (pa_cons (pv 2) (pa_cons (pv 3) pa_nil))) (pe_tup (pa_cons (pv 2) (pa_cons (pe_op op_sub pe_int (pv 3)) pa_nil)))))) pss_nil)
      (pss_cons (ps_if (pt_cmpR op_in_seq (pv 0) (pe_lst (pa_cons pe_str (pa_cons pe_str pa_nil))) (by rfl))
      (pss_one (ps_ret (pe_ifExp (pt_cmpR op_eq (pv 0) pe_str (nomark _)) (pe_tup (pa_cons (pe_op op_sub pe_int (pv 3)) (pa_cons (pv 2) pa_nil))) (pe_tup (pa_cons (pv 3) (pa_cons (pe_op op_sub pe_int (pv 2)) pa_nil)))))) pss_nil)
      (pss_cons (ps_if (pt_cmpR op_in_seq (pv 0) (pe_lst (pa_cons pe_str (pa_cons pe_str pa_nil))) (by rfl))
      (pss_one (ps_ret (pe_ifExp (pt_cmpR op_eq (pv 0) pe_str (nomark _)) (pe_tup (pa_cons (pe_op op_sub pe_int (pv 2)) (pa_cons (pe_op op_sub pe_int (pv 3)) pa_nil))) (pe_tup (pa_cons (pe_op op_sub pe_int (pv 2)) (pa_cons (pv 3) pa_nil)))))) pss_nil)
      (pss_one (ps_ret (pe_ifExp (pt_cmpR op_eq (pv 0) pe_str (nomark _)) (pe_tup (pa_cons (pv 3) (pa_cons (pv 2) pa_nil))) (pe_tup (pa_cons (pe_op op_sub pe_int (pv 3)) (pa_cons (pe_op op_sub pe_int (pv 2)) pa_nil)))))))))), ?_⟩
    rcases hk.cases with ⟨rfl, rfl⟩ | ⟨rfl, rfl⟩ | ⟨rfl, rfl⟩ | ⟨rfl, rfl⟩ | ⟨rfl, rfl⟩ | ⟨rfl, rfl⟩ | ⟨rfl, rfl⟩ | ⟨rfl, rfl⟩ <;>
      (walk_at "go"; exact q _ _ (by walk_at "st") (IT.cast (by walk_at "up") (by unfold mx; dsimp only; omega) (by unfold my; dsimp only; omega)))
/-- the list of the kinds -/
def KL (H : Hp) (v : V) : Prop := ∃ p, v = .ref p ∧ H p = some (.lst (KNS.map fun t => V.str t.1))
def sp_law_kinds : Sp := fun vs H Q _ => vs = [] ∧ ∀ p H', Stp none H H' → H' p = some (.lst (KNS.map fun t => V.str t.1)) → H p = none → Q (.ref p) H'
theorem do_law_kinds (q : ∀ p H', Stp none H H' → H' p = some (.lst (KNS.map fun t => V.str t.1)) → H p = none → Q (.ref p) H') : sp_law_kinds [] H Q E := ⟨rfl, q⟩
theorem ok_law_kinds (T : Txt w K mg ad) : FnG P w K mg base CX0 1 ad.law_kinds ad.law_kinds_d P_law_kinds sp_law_kinds := by
  refine Fun.g T.F_law_kinds sc_law_kinds (fun vs H Q E h => ?_) (fun cdv A outer s H vs Q E hr hg h => ?_)
  · obtain ⟨rfl, _⟩ := h
    rfl
  · obtain ⟨rfl, q⟩ := h
    refine ⟨_, (pss_one (ps_ret (pe_lst (pa_cons pe_str (pa_cons pe_str (pa_cons pe_str (pa_cons pe_str (pa_cons pe_str (pa_cons pe_str (pa_cons pe_str (pa_cons pe_str pa_nil))))))))))), ?_⟩
    walk_at "go"
    exact r_newL (sz100 (Nat.le_of_ble_eq_true rfl)) fun p H2 S2 hp np => q p H2 S2 hp np
/-- a move: the tuple of a kind and a shift -/
def MV2 (K : PySem.W.Frag) (H : Hp) (v : V) (k : Str) (m : Mat) (x y : Int) : Prop := Kd k m ∧ ∃ p u, v = .ref p ∧ H p = some (.tup [.str k, u]) ∧ IT H u [x, y]
theorem MV2.mv {t : Option Addr} {H H' : Hp} {k : Str} {m : Mat} (s : Stp t H H') (h : MV2 K H v k m x y) : MV2 K H' v k m x y := by
  obtain ⟨n, p, u, e, h1, h2⟩ := h
  exact ⟨n, p, u, e, At.tup s h1, h2.mv s⟩
theorem r_ixT0 {p : Addr} {a b : V} (h : H p = some (.tup [a, b])) (q : Q a H) : rIx K (.ref p) (.int 0) H Q := .inr (.inl ⟨p, _, 0, _, rfl, rfl, SqT.of h, rfl, q⟩)
theorem r_ixT1 {p : Addr} {a b : V} (h : H p = some (.tup [a, b])) (q : Q b H) : rIx K (.ref p) (.int 1) H Q := .inr (.inl ⟨p, _, 1, _, rfl, rfl, SqT.of h, rfl, q⟩)
def sp_law_carried (K : PySem.W.Frag) : Sp := fun vs H Q _ => ∃ v u k m x y a b, vs = [v, u] ∧ MV2 K H v k m x y ∧ IK K H u [a, b] ∧ ∀ z H', Stp none H H' → IT H' z [mx m a b + x, my m a b + y] → Q z H'
theorem do_law_carried {u : V} {k : Str} {m : Mat} {a b : Int} (h : MV2 K H v k m x y) (hu : IK K H u [a, b]) (q : ∀ z H', Stp none H H' → IT H' z [mx m a b + x, my m a b + y] → Q z H') :
    sp_law_carried K [v, u] H Q E := ⟨v, u, k, m, x, y, a, b, rfl, h, hu, q⟩
theorem ok_law_carried (T : Txt w K mg ad) : FnG P w K mg base CX0 2 ad.law_carried ad.law_carried_d P_law_carried (sp_law_carried K) := by
  have G_law_turned := ok_law_turned (P := P) (w := w) (base := base) T
  refine Fun.g T.F_law_carried sc_law_carried (fun vs H Q E h => ?_) (fun cdv A outer s H vs Q E hr hg h => ?_)
  · obtain ⟨v, u, k, m, x, y, a, b, rfl, _⟩ := h
    rfl
  · obtain ⟨v, u, k, m, x, y, a, b, rfl, ⟨hk, p, t, rfl, hp, ht⟩, hu, q⟩ := h
    refine ⟨_, (pss_cons (ps_asg (peg_call G_law_turned (hr.mono (by decide)) hg (by rfl) T.g_law_turned T.F_law_turned.kp T.b_law_turned .nil pass0 (pa_cons (pe_ix ix_seq (pv 0) pe_int (fun _ _ => rfl)) (pa_cons (pv 1) pa_nil))) (pg_tup (n := 2) rfl (pgs_cons (pg_name (i := 2) sc_law_carried.nd rfl (Or.inl rfl)) (pgs_cons (pg_name (i := 3) sc_law_carried.nd rfl (Or.inl rfl)) pgs_nil))))
      (pss_one (ps_ret (pe_tup (pa_cons (pe_op op_add (pv 2) (pe_ix ix_seq (pe_ix ix_seq (pv 0) pe_int (fun _ _ => rfl)) pe_int (fun _ _ => rfl))) (pa_cons (pe_op op_add (pv 3) (pe_ix ix_seq (pe_ix ix_seq (pv 0) pe_int (fun _ _ => rfl)) pe_int (fun _ _ => rfl))) pa_nil)))))), ?_⟩
    walk_at "go"
    refine r_ixT0 hp ?_
    walk_at "go"
    refine do_law_turned hk hu fun z1 H1 S1 i1 => ?_
    walk_at "go"
    refine r_ixT1 (by walk_at "up") ?_
    walk_at "go"
    refine r_ixT1 (by walk_at "up") ?_
    walk_at "go"
    exact q _ _ (by walk_at "st") (by walk_at "up")
def sp_law_far_move (K : PySem.W.Frag) : Sp := fun vs H Q _ => ∃ t, vs = [.ref t] ∧ Tape H t ∧ ∀ v k m x y H', x.natAbs < 10 ^ 26 → y.natAbs < 10 ^ 26 → Stp (some t) H H' → MV2 K H' v k m x y → Q v H'
theorem do_law_far_move {t : Addr} (h : Tape H t) (q : ∀ v k m x y H', x.natAbs < 10 ^ 26 → y.natAbs < 10 ^ 26 → Stp (some t) H H' → MV2 K H' v k m x y → Q v H') : sp_law_far_move K [.ref t] H Q E := ⟨t, rfl, h, q⟩
theorem kns_at {n : Nat} (h : n < 8) : ∃ k m, (KNS.map fun t => V.str t.1)[n]? = some (V.str k) ∧ Kd k m := by
  have : n < KNS.length := h
  refine ⟨KNS[n].1, KNS[n].2, by rw [List.getElem?_map, List.getElem?_eq_getElem this]; rfl, ?_⟩
  exact List.getElem_mem this
theorem ok_law_far_move (T : Txt w K mg ad) : FnG P w K mg base CX0 4 ad.law_far_move ad.law_far_move_d P_law_far_move (sp_law_far_move K) := by
  have G_law_kinds := ok_law_kinds (P := P) (w := w) (base := base) T
  have G_law_draw := ok_law_draw (P := P) (w := w) (base := base) T
  have G_law_place := ok_law_place (P := P) (w := w) (base := base) T
  refine Fun.g T.F_law_far_move sc_law_far_move (fun vs H Q E h => ?_) (fun cdv A outer s H vs Q E hr hg h => ?_)
  · obtain ⟨t, rfl, _⟩ := h
    rfl
  · obtain ⟨t, rfl, hT, q⟩ := h
    refine ⟨_, (pss_one (ps_ret (pe_tup (pa_cons (pe_ix ix_seq (peg_call0 G_law_kinds (hr.mono (by decide)) hg (by rfl) T.g_law_kinds T.F_law_kinds.kp T.b_law_kinds .nil pass0) (peg_call G_law_draw (hr.mono (by decide)) hg (by rfl) T.g_law_draw T.F_law_draw.kp T.b_law_draw .nil pass0 (pa_cons (pv 0) (pa_cons pe_int pa_nil))) (fun _ _ => rfl)) (pa_cons (peg_call G_law_place (hr.mono (by decide)) hg (by rfl) T.g_law_place T.F_law_place.kp T.b_law_place .nil pass0 (pa_cons (pv 0) pa_nil)) pa_nil))))), ?_⟩
    walk_at "go"
    refine do_law_kinds fun p H1 S1 hp np => ?_
    walk_at "go"
    have nt : p ≠ t := by
      intro e
      obtain ⟨_, _, _, _, _, _, h, _⟩ := hT
      rw [← e, np] at h
      cases h
    walk_at "dr"
    intro r H2 a1 a2 S2
    obtain ⟨k, m, hk, hd⟩ := kns_at (n := r.toNat) (by omega)
    refine r_ixLi (At.lstS S2 nt hp) a1 hk ?_
    walk_at "go"
    refine do_law_place (by walk_at "up") fun v x y H3 b1 b2 b3 b4 S3 i3 => ?_
    walk_at "go"
    refine r_newT (sz100 (Nat.le_of_ble_eq_true rfl)) fun p2 H4 S4 hp2 np2 => ?_
    exact q _ k m x y _ (by omega) (by omega) (by walk_at "st") ⟨hd, p2, v, rfl, hp2, by walk_at "up"⟩
/-! ### == and repr of motions -/
theorem eq2 {a b c d : Int} : decide ([a, b] = [c, d]) = (decide (a = c) && decide (b = d)) := by
  by_cases h : a = c <;> by_cases g : b = d <;> simp [h, g]
def sp_Motion_eq (K : PySem.W.Frag) (C : Addr) : Sp := fun vs H Q _ => ∃ v u k m x y, vs = [v, u] ∧ MA C H v k m x y ∧
  ((∃ l n a b, MA C H u l n a b ∧ Q (.bl (decide (k = l) && decide ([x, y] = [a, b]))) H) ∨ (∃ t, TyX K H u t ∧ PySem.W.kitOne K t (.ref C) = some false ∧ Q (.bl false) H))
theorem ok_Motion_eq (T : Txt w K mg ad) : FnG P w K mg base CX0 1 ad.Motion_eq ad.Motion_eq_d P_Motion_eq (sp_Motion_eq K ad.C_Motion) := by
  refine Fun.g T.F_Motion_eq sc_Motion_eq (fun vs H Q E h => ?_) (fun cdv A outer s H vs Q E hr hg h => ?_)
  · obtain ⟨v, u, k, m, x, y, rfl, _⟩ := h
    rfl
  · obtain ⟨v, u, k, m, x, y, rfl, ⟨hk, p, dx, w1, rfl, hp, hw⟩, h⟩ := h
    refine ⟨_, (pss_one (ps_ret (pe_and (pe_callB call_isi (by rfl) T.z_isinstance (by decide +kernel) (pa_cons (pv 1) (pa_cons (pe_glob (v := V.ref ad.C_Motion) rfl T.g_Motion rfl) pa_nil))) (pe_and (pe_cmpR op_eq (pe_fld (pv 0) rfl) (pe_fld (pv 1) rfl) (nomark _)) (pe_one (pe_cmpR (op_eqD hr.units) (pe_fld (pv 0) rfl) (pe_fld (pv 1) rfl) (nomark _))))))), ?_⟩
    walk_at "go"
    rcases h with ⟨l, n, a, b, ⟨hl, p', dx', w2, rfl, hp', hw'⟩, q⟩ | ⟨t, ty, kt, q⟩
    · refine r_isi (.own ad.C_Motion) (T.i_Motion.ty T.cl_Motion hp') kit_self ?_
      walk_at "go"
      refine r_kindF T.cl_Motion T.n_kind hp ?_
      walk_at "go"
      refine r_kindF T.cl_Motion T.n_kind hp' ?_
      walk_at "go"
      refine r_ite (fun h1 => ?_) (fun h1 => ?_)
      · walk_at "go"
        refine r_shiftF T.cl_Motion T.n_shift hp ?_
        walk_at "go"
        refine r_shiftF T.cl_Motion T.n_shift hp' ?_
        walk_at "go"
        rw [decide_eq_true h1, Bool.true_and] at q
        exact q
      · rw [decide_eq_false h1, Bool.false_and] at q
        exact q
    · refine r_isi (.own ad.C_Motion) ty kt ?_
      walk_at "go"
      exact q
theorem do_meq {C : Addr} {u : V} {k l : Str} {m n : Mat} {a b : Int} (ic : IsC K C) (cl : Cls K C) (h : MA C H v k m x y) (h2 : MA C H u l n a b) (q : Q (.bl (decide (k = l) && decide ([x, y] = [a, b]))) H) :
    rOwnEq K C (sp_Motion_eq K C) E false v u H Q := by
  have h' := h
  have h2' := h2
  obtain ⟨_, p, dx, u1, rfl, h1, _⟩ := h'
  obtain ⟨_, p', dx', u2, rfl, h3, _⟩ := h2'
  exact ⟨p, dx, _, .ref C, rfl, h1, ic.ty cl h3, notFirst_self, _, _, k, m, x, y, rfl, h, .inl ⟨l, n, a, b, h2, _, rfl, q⟩⟩
theorem do_mne {C : Addr} {u : V} {k l : Str} {m n : Mat} {a b : Int} (ic : IsC K C) (cl : Cls K C) (h : MA C H v k m x y) (h2 : MA C H u l n a b) (q : Q (.bl (!(decide (k = l) && decide ([x, y] = [a, b])))) H) :
    rOwnEq K C (sp_Motion_eq K C) E true v u H Q := by
  have h' := h
  have h2' := h2
  obtain ⟨_, p, dx, u1, rfl, h1, _⟩ := h'
  obtain ⟨_, p', dx', u2, rfl, h3, _⟩ := h2'
  exact ⟨p, dx, _, .ref C, rfl, h1, ic.ty cl h3, notFirst_self, _, _, k, m, x, y, rfl, h, .inl ⟨l, n, a, b, h2, _, rfl, q⟩⟩
end
end Law

set_option Elab.async false
set_option linter.all false
set_option maxRecDepth 100000
set_option maxHeartbeats 4000000
namespace Law
open PySem PySem.Spec PyProof.Rows L2 MV
local macro_rules | `(tactic| walk_at "up") => `(tactic| first
  | assumption
  | (refine' IT.mv ?s ?g; (case s => assumption); (case g => walk_at "up"))
  | (refine' IT.k ?g; (case g => walk_at "up"))
  | (refine' IK.mv ?s ?g; (case s => assumption); (case g => walk_at "up"))
  | (refine' Tape.mvN ?s ?g; (case s => assumption); (case g => walk_at "up"))
  | (refine' Tape.mvS ?s ?g; (case s => assumption); (case g => walk_at "up"))
  | (refine' At.tup ?s ?g; (case s => assumption); (case g => walk_at "up"))
  | (refine' At.ins ?s ?g; (case s => assumption); (case g => walk_at "up"))
  | (refine' At.lst ?s ?g; (case s => assumption); (case g => walk_at "up"))
  | (refine' At.lstS ?s ?n ?g; (case s => assumption); (case n => assumption); (case g => walk_at "up"))
  | fail)
local macro_rules | `(tactic| walk_at "st") => `(tactic| first
  | assumption
  | exact Stp.refl _ _
  | (refine' Stp.w ?s; (case s => assumption))
  | (refine' Stp.trans ?g ?s; (case s => (first | assumption | (refine' Stp.w ?u; (case u => assumption)))); (case g => walk_at "st"))
  | fail)
local macro_rules | `(tactic| walk_at "bT") => `(tactic| first
  | decide
  | (simp only [Bool.not_eq_true', Bool.not_eq_false', decide_eq_true_eq, decide_eq_false_iff_not]; omega)
  | fail)
local macro_rules | `(tactic| walk_at "sd") => `(tactic| first | assumption | decide | omega | fail)
local macro_rules | `(tactic| walk_at "r") => `(tactic| first
  | (with_reducible refine r_seq ?_)
  | (with_reducible refine r_asg ?_)
  | ((with_reducible refine' r_var ?h ?k); (case h => rfl))
  | (with_reducible refine r_c ?_)
  | (with_reducible refine r_op ?_)
  | (with_reducible refine r_un ?_)
  | (with_reducible refine r_nil ?_)
  | (with_reducible refine r_cons ?_)
  | (with_reducible refine r_tup ?_)
  | (with_reducible refine r_lst ?_)
  | (with_reducible refine r_cbLen ?_)
  | (with_reducible refine r_cbInt ?_)
  | (with_reducible refine r_cbRepr ?_)
  | (with_reducible refine r_cbTup ?_)
  | (with_reducible refine r_cbLst ?_)
  | (with_reducible refine r_cb ?_)
  | (with_reducible refine r_prop ?_)
  | (with_reducible refine r_andV ?_)
  | (with_reducible refine r_orV ?_)
  | (with_reducible refine r_notV ?_)
  | (with_reducible refine r_chain ?_)
  | (with_reducible refine r_ifE ?_)
  | (with_reducible refine r_test ?_)
  | (with_reducible refine r_B ?_)
  | (with_reducible refine r_and ?_)
  | (with_reducible refine r_or ?_)
  | (with_reducible refine r_not ?_)
  | (with_reducible refine r_yes ?_)
  | (with_reducible refine r_k ?_)
  | (with_reducible refine r_kV ?_)
  | (with_reducible refine r_next ?_)
  | (with_reducible refine r_drop ?_)
  | (with_reducible refine r_ret ?_)
  | (with_reducible refine r_ifS ?_)
  | (with_reducible refine r_par ?_)
  | (with_reducible refine r_par1 ?_)
  | (with_reducible refine r_gname ?_)
  | (with_reducible refine r_gnil ?_)
  | (with_reducible refine r_gcons ?_)
  | ((with_reducible refine' r_unpack2 ?h ?k); (case h => walk_at "up"))
  | ((with_reducible refine' r_unpack3 ?h ?k); (case h => walk_at "up"))
  | (with_reducible refine r_add ?_)
  | (with_reducible refine r_sub ?_)
  | (with_reducible refine r_neg ?_)
  | ((with_reducible refine' r_mod ?h ?k); (case h => walk_at "sd"))
  | ((with_reducible refine' r_div ?h ?k); (case h => walk_at "sd"))
  | ((with_reducible refine' r_mul ?h ?k); (case h => walk_at "sd"))
  | ((with_reducible refine' r_mulW ?h ?k); (case h => walk_at "sd"))
  | ((with_reducible refine' r_pow ?h ?k); (case h => (show (0 : Int) ≤ _ ∧ _ ∧ _; decide)))
  | (with_reducible refine r_lt ?_)
  | (with_reducible refine r_le ?_)
  | (with_reducible refine r_gt ?_)
  | (with_reducible refine r_ge ?_)
  | (with_reducible refine r_eqI ?_)
  | (with_reducible refine r_neI ?_)
  | (with_reducible refine r_eqS ?_)
  | (with_reducible refine r_neS ?_)
  | ((with_reducible refine' r_eqT ?h ?g ?k); (case h => walk_at "up"); (case g => walk_at "up"))
  | ((with_reducible refine' r_neT ?h ?g ?k); (case h => walk_at "up"); (case g => walk_at "up"))
  | ((with_reducible refine' r_ix0 ?h ?k); (case h => walk_at "up"))
  | ((with_reducible refine' r_ix1 ?h ?k); (case h => walk_at "up"))
  | ((with_reducible refine' r_ix2 ?h ?k); (case h => walk_at "up"))
  | (with_reducible refine r_newI2 (fun v H2 S I => ?_))
  | (with_reducible refine r_newI3 (fun v H2 S I => ?_))
  | (with_reducible refine r_newL1 (fun p H2 S hp np => ?_))
  | (with_reducible refine r_newL2 (fun p H2 S hp np => ?_))
  | (with_reducible refine r_newL3 (fun p H2 S hp np => ?_))
  | (with_reducible refine r_T ?_)
  | (with_reducible refine r_F ?_)
  | fail)
local macro_rules | `(tactic| walk_at "go") => `(tactic| repeat (walk_at "r"))
local macro_rules | `(tactic| walk_at "r") => `(tactic| first
  | (with_reducible refine r_call0 ?_)
  | (with_reducible refine r_meth0 ?_)
  | (with_reducible refine r_make0 ?_)
  | (with_reducible refine r_isiII ?_)
  | (with_reducible refine r_isiIB ?_)
  | ((with_reducible refine' r_isiTT ?h ?k); (case h => walk_at "up"))
  | ((with_reducible refine' r_len2 ?h ?k); (case h => walk_at "up"))
  | ((with_reducible refine' r_len3 ?h ?k); (case h => walk_at "up"))
  | ((with_reducible refine' r_lenL ?h ?k); (case h => walk_at "up"))
  | (with_reducible refine r_int1 ?_)
  | (with_reducible refine r_int1B ?_)
  | (with_reducible refine r_nT ?_)
  | (with_reducible refine r_nF ?_)
  | (with_reducible refine r_gcd ?_)
  | (with_reducible refine r_gsub ?_)
  | (with_reducible refine r_fld ?_)
  | (with_reducible refine r_p6 ?_)
  | (with_reducible refine r_p9 ?_)
  | (with_reducible refine r_p10 ?_)
  | (with_reducible refine r_p11 ?_)
  | (with_reducible refine r_p12 ?_)
  | (with_reducible refine r_p18 ?_)
  | (with_reducible refine r_p20 ?_)
  | (with_reducible refine r_p26 ?_)
  | (with_reducible refine r_p27 ?_)
  | (with_reducible refine r_p30 ?_)
  | ((with_reducible refine' r_iF ?h ?k); (case h => walk_at "bT"))
  | ((with_reducible refine' r_iT ?h ?k); (case h => walk_at "bT"))
  | (with_reducible refine r_sfld ?_)
  | (with_reducible refine r_sl ?_)
  | (with_reducible refine r_noPart ?_)
  | (with_reducible refine r_part ?_)
  | (with_reducible refine r_pk ?_)
  | ((with_reducible refine' r_unl2 ?h ?k); (case h => walk_at "up"))
  | ((with_reducible refine' r_ixLi ?h ?h0 ?hn ?k); (case h => walk_at "up"); (case h0 => walk_at "sd"); (case hn => rfl))
  | fail)

local macro_rules | `(tactic| walk_at "r") => `(tactic| with_reducible refine do_is_integer ?_)
local macro_rules | `(tactic| walk_at "r") => `(tactic| first | ((with_reducible refine' do_is_place ?h ?k); (case h => walk_at "up")) | fail)
local macro_rules | `(tactic| walk_at "r") => `(tactic| first | ((with_reducible refine' do_check_place ?h ?k); (case h => walk_at "up")) | fail)
local macro_rules | `(tactic| walk_at "up") => `(tactic| first | (refine' MA.mv ?s ?g; (case s => assumption); (case g => walk_at "up")) | fail)
local macro_rules | `(tactic| walk_at "r") => `(tactic| first
  | ((with_reducible refine' do_Motion_kind ?h ?k); (case h => walk_at "up"))
  | (with_reducible refine r_forR ?_)
  | (with_reducible refine r_forL ?_)
  | (with_reducible refine r_cval ?_)
  | (with_reducible refine r_isiSS ?_)
  | fail)

local macro_rules | `(tactic| walk_at "dr") => `(tactic| (refine do_law_draw (by walk_at "up") (by first | decide | omega) (by first | decide | omega) ?_))
local macro_rules | `(tactic| walk_at "bT") => `(tactic| first | decide +kernel | fail)
local macro_rules | `(tactic| walk_at "r") => `(tactic| first
  | ((with_reducible refine' r_inT ?h ?f ?g ?e ?k); (case h => walk_at "up"); (case f => rfl); (case g => rfl); (case e => decide +kernel))
  | ((with_reducible refine' r_inF ?h ?f ?g ?e ?k); (case h => walk_at "up"); (case f => rfl); (case g => rfl); (case e => decide +kernel))
  | fail)
section
variable {P : Program} {w : World} {K : PySem.W.Frag} {mg : Str → Option Value} {base : Heap} {ad : Ad} {H : Hp} {Q : VK} {E : XK} {i j x y : Int} {v : V}
/-! ### the text of a motion -/
abbrev dsh (x y : Int) : PyData := .tuple [.int x, .int y]
theorem shw_int {i : Int} (h : i.natAbs < 10 ^ 500) : PyData.showable (.int i) = true := by
  rw [PyData.showable]
  exact decide_eq_true (log2_of h)
theorem shw_sh (hx : x.natAbs < 10 ^ 500) (hy : y.natAbs < 10 ^ 500) : Shw (dsh x y) where
  sh := by
    rw [PyData.showable, PyData.showableAll, PyData.showableAll, PyData.showableAll, shw_int hx, shw_int hy]
    rfl
  nd := by
    rw [PyData.hasDict, PyData.hasDictAll, PyData.hasDictAll, PyData.hasDictAll, PyData.hasDict, PyData.hasDict]
    rfl
  dp := by
    rw [PyData.depth, PyData.depthAll, PyData.depthAll, PyData.depthAll, PyData.depth, PyData.depth]
    decide
  ln := by
    rw [bnd, bndAll, bndAll, bndAll, bnd, bnd]
    decide
theorem r_js {t : TE} {ts : List TE} {acc : Str} {σ : L2.St} {Q : Str → Hp → Prop} (q : t σ H fun x H1 => ∃ y : Str, x = .str y ∧ (acc ++ y).length ≤ sizeLine ∧ tJs ts (acc ++ y) σ H1 Q) : tJs (t :: ts) acc σ H Q := q
theorem r_js0 {acc : Str} {σ : L2.St} {Q : Str → Hp → Prop} (q : Q acc H) : tJs [] acc σ H Q := q
theorem r_jv {y acc : Str} {ts : List TE} {σ : L2.St} {Q : Str → Hp → Prop} (h : (acc ++ y).length ≤ sizeLine) (q : tJs ts (acc ++ y) σ H Q) : ∃ z : Str, V.str y = .str z ∧ (acc ++ z).length ≤ sizeLine ∧ tJs ts (acc ++ z) σ H Q := ⟨y, rfl, h, q⟩
theorem r_fmtR {te : TE} {σ : L2.St} (q : te σ H fun x H1 => (∃ y : Str, x = .str y ∧ (PySem.reprText y).length ≤ sizeLine ∧ Q (.str (PySem.reprText y)) H1) ∨ ∃ i : Int, x = .int i ∧ i.natAbs.log2 < 1920 ∧ Q (.str (toString i)) H1) : tFmtR te σ H Q := q
theorem r_fmtD {te : TE} {σ : L2.St} (q : te σ H fun x H1 => ∃ a d, x = .ref a ∧ Dp K H1 x d ∧ Shw d ∧ Q (.str d.shown) H1) : tFmtD K te σ H Q := q
theorem app_le {a b : Str} {m n : Nat} (ha : a.length ≤ m) (hb : b.length ≤ n) : (a ++ b).length ≤ m + n := by
  rw [strLen_append]
  omega
theorem fits_of {a : Str} {m : Nat} (h : a.length ≤ m) (hm : m ≤ 100000) : a.length ≤ sizeLine := Nat.le_trans h (Nat.le_trans hm (by decide))
def mtext (k : Str) (x y : Int) : Str := (((("Motion(" : Str) ++ PySem.reprText k) ++ (", " : Str)) ++ (dsh x y).shown) ++ (")" : Str)
theorem kind_len {k : Str} {m : Mat} (h : Kd k m) : (PySem.reprText k).length ≤ 10 := by
  rcases h.cases with ⟨rfl, _⟩ | ⟨rfl, _⟩ | ⟨rfl, _⟩ | ⟨rfl, _⟩ | ⟨rfl, _⟩ | ⟨rfl, _⟩ | ⟨rfl, _⟩ | ⟨rfl, _⟩ <;> decide +kernel
def sp_Motion_repr (C : Addr) : Sp := fun vs H Q _ => ∃ v k m x y, vs = [v] ∧ MA C H v k m x y ∧ x.natAbs < 10 ^ 500 ∧ y.natAbs < 10 ^ 500 ∧ Q (.str (mtext k x y)) H
theorem ok_Motion_repr (T : Txt w K mg ad) : FnG P w K mg base CX0 1 ad.Motion_repr ad.Motion_repr_d P_Motion_repr (sp_Motion_repr ad.C_Motion) := by
  refine Fun.g T.F_Motion_repr sc_Motion_repr (fun vs H Q E h => ?_) (fun cdv A outer s H vs Q E hr hg h => ?_)
  · obtain ⟨v, k, m, x, y, rfl, _⟩ := h
    rfl
  · obtain ⟨v, k, m, x, y, rfl, ⟨hk, p, dx, w1, rfl, hp, hw⟩, bx, by', q⟩ := h
    have S := shw_sh bx by'
    have l1 := kind_len hk
    have l2 : (dsh x y).shown.length ≤ 4100 := by
      refine Nat.le_trans (bnd_ok _ S.sh S.nd) ?_
      rw [bnd, bndAll, bndAll, bndAll, bnd, bnd]
      decide
    refine ⟨_, (pss_one (ps_ret (pe_joined (PJ.cons pe_str (PJ.cons (pe_fmtR (pe_fld (pv 0) rfl)) (PJ.cons pe_str (PJ.cons (pe_fmtD hg hr.units (pe_fld (pv 0) rfl)) (PJ.cons pe_str PJ.nil)))))))), ?_⟩
    have e0 : Str.empty ++ ("Motion(" : Str) = "Motion(" := by decide +kernel
    have a1 : ("Motion(" : Str).length ≤ 7 := by decide +kernel
    have a2 := app_le a1 l1
    have a3 := app_le a2 (show (", " : Str).length ≤ 2 by decide +kernel)
    have a4 := app_le a3 l2
    have a5 := app_le a4 (show (")" : Str).length ≤ 1 by decide +kernel)
    walk_at "go"
    refine r_js ?_
    refine r_c ?_
    refine r_jv (by rw [e0]; exact fits_of a1 (by decide)) ?_
    rw [e0]
    refine r_js (r_fmtR ?_)
    walk_at "go"
    refine r_kindF T.cl_Motion T.n_kind hp (.inl ⟨k, rfl, fits_of l1 (by decide), ?_⟩)
    refine r_jv (fits_of a2 (by decide)) ?_
    refine r_js (r_c ?_)
    refine r_jv (fits_of a3 (by decide)) ?_
    refine r_js (r_fmtD ?_)
    walk_at "go"
    refine r_shiftF T.cl_Motion T.n_shift hp ?_
    obtain ⟨t, rfl, ht⟩ := hw
    refine ⟨t, dsh x y, rfl, IK.dp (IT.k ⟨t, rfl, ht⟩), S, ?_⟩
    refine r_jv (fits_of a4 (by decide)) ?_
    refine r_js (r_c ?_)
    refine r_jv (fits_of a5 (by decide)) ?_
    exact q
theorem do_mrepr {C : Addr} {k : Str} {m : Mat} (h : MA C H v k m x y) (bx : x.natAbs < 10 ^ 500) (by' : y.natAbs < 10 ^ 500) (q : Q (.str (mtext k x y)) H) : rOwnRepr C (sp_Motion_repr C) E [v] H Q := by
  have h' := h
  obtain ⟨_, p, dx, u1, rfl, h1, _⟩ := h'
  exact ⟨p, dx, _, rfl, h1, _, k, m, x, y, rfl, h, bx, by', _, rfl, q⟩
/-! ### what a motion tells -/
def sp_law_told (K : PySem.W.Frag) (C : Addr) : Sp := fun vs H Q _ => ∃ v k m x y, vs = [v] ∧ MA C H v k m x y ∧ ∀ z H', Stp none H H' → MV2 K H' z k m x y → Q z H'
theorem do_law_told {C : Addr} {k : Str} {m : Mat} (h : MA C H v k m x y) (q : ∀ z H', Stp none H H' → MV2 K H' z k m x y → Q z H') : sp_law_told K C [v] H Q E := ⟨v, k, m, x, y, rfl, h, q⟩
theorem ok_law_told (T : Txt w K mg ad) : FnG P w K mg base CX0 3 ad.law_told ad.law_told_d P_law_told (sp_law_told K ad.C_Motion) := by
  have G_Motion_kind := ok_Motion_kind (P := P) (w := w) (base := base) T
  have G_Motion_shift := ok_Motion_shift (P := P) (w := w) (base := base) T
  refine Fun.g T.F_law_told sc_law_told (fun vs H Q E h => ?_) (fun cdv A outer s H vs Q E hr hg h => ?_)
  · obtain ⟨v, k, m, x, y, rfl, _⟩ := h
    rfl
  · obtain ⟨v, k, m, x, y, rfl, hv, q⟩ := h
    refine ⟨_, (pss_one (ps_ret (pe_tup (pa_cons (peg_prop (pv 0) T.cl_Motion T.p_Motion_kind G_Motion_kind (hr.mono (by decide)) hg T.b_Motion_kind .nil pass0) (pa_cons (peg_prop (pv 0) T.cl_Motion T.p_Motion_shift G_Motion_shift (hr.mono (by decide)) hg T.b_Motion_shift .nil pass0) pa_nil))))), ?_⟩
    walk_at "go"
    refine do_Motion_shift (by walk_at "up") fun u iu => ?_
    walk_at "go"
    refine r_newT (sz100 (Nat.le_of_ble_eq_true rfl)) fun p H2 S2 hp np => ?_
    exact q _ _ S2 ⟨hv.1, p, u, rfl, hp, by walk_at "up"⟩
theorem MV2.dp {k : Str} {m : Mat} (h : MV2 K H v k m x y) : Dp K H v (.tuple [.str k, dsh x y]) := by
  obtain ⟨_, p, u, rfl, hp, hu⟩ := h
  exact .tup (SqT.of hp) (.cons (.str k) (.cons (IK.dp (IT.k hu)) .nil))
end
end Law

set_option Elab.async false
set_option linter.all false
set_option maxRecDepth 100000
set_option maxHeartbeats 4000000
namespace Law
open PySem PySem.Spec PyProof.Rows L2 MV
local macro_rules | `(tactic| walk_at "up") => `(tactic| first
  | assumption
  | (refine' IT.mv ?s ?g; (case s => assumption); (case g => walk_at "up"))
  | (refine' IT.k ?g; (case g => walk_at "up"))
  | (refine' IK.mv ?s ?g; (case s => assumption); (case g => walk_at "up"))
  | (refine' Tape.mvN ?s ?g; (case s => assumption); (case g => walk_at "up"))
  | (refine' Tape.mvS ?s ?g; (case s => assumption); (case g => walk_at "up"))
  | (refine' At.tup ?s ?g; (case s => assumption); (case g => walk_at "up"))
  | (refine' At.ins ?s ?g; (case s => assumption); (case g => walk_at "up"))
  | (refine' At.lst ?s ?g; (case s => assumption); (case g => walk_at "up"))
  | (refine' At.lstS ?s ?n ?g; (case s => assumption); (case n => assumption); (case g => walk_at "up"))
  | fail)
local macro_rules | `(tactic| walk_at "st") => `(tactic| first
  | assumption
  | exact Stp.refl _ _
  | (refine' Stp.w ?s; (case s => assumption))
  | (refine' Stp.trans ?g ?s; (case s => (first | assumption | (refine' Stp.w ?u; (case u => assumption)))); (case g => walk_at "st"))
  | fail)
local macro_rules | `(tactic| walk_at "bT") => `(tactic| first
  | decide
  | (simp only [Bool.not_eq_true', Bool.not_eq_false', decide_eq_true_eq, decide_eq_false_iff_not]; omega)
  | fail)
local macro_rules | `(tactic| walk_at "sd") => `(tactic| first | assumption | decide | omega | fail)
local macro_rules | `(tactic| walk_at "r") => `(tactic| first
  | (with_reducible refine r_seq ?_)
  | (with_reducible refine r_asg ?_)
  | ((with_reducible refine' r_var ?h ?k); (case h => rfl))
  | (with_reducible refine r_c ?_)
  | (with_reducible refine r_op ?_)
  | (with_reducible refine r_un ?_)
  | (with_reducible refine r_nil ?_)
  | (with_reducible refine r_cons ?_)
  | (with_reducible refine r_tup ?_)
  | (with_reducible refine r_lst ?_)
  | (with_reducible refine r_cbLen ?_)
  | (with_reducible refine r_cbInt ?_)
  | (with_reducible refine r_cbRepr ?_)
  | (with_reducible refine r_cbTup ?_)
  | (with_reducible refine r_cbLst ?_)
  | (with_reducible refine r_cb ?_)
  | (with_reducible refine r_prop ?_)
  | (with_reducible refine r_andV ?_)
  | (with_reducible refine r_orV ?_)
  | (with_reducible refine r_notV ?_)
  | (with_reducible refine r_chain ?_)
  | (with_reducible refine r_ifE ?_)
  | (with_reducible refine r_test ?_)
  | (with_reducible refine r_B ?_)
  | (with_reducible refine r_and ?_)
  | (with_reducible refine r_or ?_)
  | (with_reducible refine r_not ?_)
  | (with_reducible refine r_yes ?_)
  | (with_reducible refine r_k ?_)
  | (with_reducible refine r_kV ?_)
  | (with_reducible refine r_next ?_)
  | (with_reducible refine r_drop ?_)
  | (with_reducible refine r_ret ?_)
  | (with_reducible refine r_ifS ?_)
  | (with_reducible refine r_par ?_)
  | (with_reducible refine r_par1 ?_)
  | (with_reducible refine r_gname ?_)
  | (with_reducible refine r_gnil ?_)
  | (with_reducible refine r_gcons ?_)
  | ((with_reducible refine' r_unpack2 ?h ?k); (case h => walk_at "up"))
  | ((with_reducible refine' r_unpack3 ?h ?k); (case h => walk_at "up"))
  | (with_reducible refine r_add ?_)
  | (with_reducible refine r_sub ?_)
  | (with_reducible refine r_neg ?_)
  | ((with_reducible refine' r_mod ?h ?k); (case h => walk_at "sd"))
  | ((with_reducible refine' r_div ?h ?k); (case h => walk_at "sd"))
  | ((with_reducible refine' r_mul ?h ?k); (case h => walk_at "sd"))
  | ((with_reducible refine' r_mulW ?h ?k); (case h => walk_at "sd"))
  | ((with_reducible refine' r_pow ?h ?k); (case h => (show (0 : Int) ≤ _ ∧ _ ∧ _; decide)))
  | (with_reducible refine r_lt ?_)
  | (with_reducible refine r_le ?_)
  | (with_reducible refine r_gt ?_)
  | (with_reducible refine r_ge ?_)
  | (with_reducible refine r_eqI ?_)
  | (with_reducible refine r_neI ?_)
  | (with_reducible refine r_eqS ?_)
  | (with_reducible refine r_neS ?_)
  | ((with_reducible refine' r_eqT ?h ?g ?k); (case h => walk_at "up"); (case g => walk_at "up"))
  | ((with_reducible refine' r_neT ?h ?g ?k); (case h => walk_at "up"); (case g => walk_at "up"))
  | ((with_reducible refine' r_ix0 ?h ?k); (case h => walk_at "up"))
  | ((with_reducible refine' r_ix1 ?h ?k); (case h => walk_at "up"))
  | ((with_reducible refine' r_ix2 ?h ?k); (case h => walk_at "up"))
  | (with_reducible refine r_newI2 (fun v H2 S I => ?_))
  | (with_reducible refine r_newI3 (fun v H2 S I => ?_))
  | (with_reducible refine r_newL1 (fun p H2 S hp np => ?_))
  | (with_reducible refine r_newL2 (fun p H2 S hp np => ?_))
  | (with_reducible refine r_newL3 (fun p H2 S hp np => ?_))
  | (with_reducible refine r_T ?_)
  | (with_reducible refine r_F ?_)
  | fail)
local macro_rules | `(tactic| walk_at "go") => `(tactic| repeat (walk_at "r"))
local macro_rules | `(tactic| walk_at "r") => `(tactic| first
  | (with_reducible refine r_call0 ?_)
  | (with_reducible refine r_meth0 ?_)
  | (with_reducible refine r_make0 ?_)
  | (with_reducible refine r_isiII ?_)
  | (with_reducible refine r_isiIB ?_)
  | ((with_reducible refine' r_isiTT ?h ?k); (case h => walk_at "up"))
  | ((with_reducible refine' r_len2 ?h ?k); (case h => walk_at "up"))
  | ((with_reducible refine' r_len3 ?h ?k); (case h => walk_at "up"))
  | ((with_reducible refine' r_lenL ?h ?k); (case h => walk_at "up"))
  | (with_reducible refine r_int1 ?_)
  | (with_reducible refine r_int1B ?_)
  | (with_reducible refine r_nT ?_)
  | (with_reducible refine r_nF ?_)
  | (with_reducible refine r_gcd ?_)
  | (with_reducible refine r_gsub ?_)
  | (with_reducible refine r_fld ?_)
  | (with_reducible refine r_p6 ?_)
  | (with_reducible refine r_p9 ?_)
  | (with_reducible refine r_p10 ?_)
  | (with_reducible refine r_p11 ?_)
  | (with_reducible refine r_p12 ?_)
  | (with_reducible refine r_p18 ?_)
  | (with_reducible refine r_p20 ?_)
  | (with_reducible refine r_p26 ?_)
  | (with_reducible refine r_p27 ?_)
  | (with_reducible refine r_p30 ?_)
  | ((with_reducible refine' r_iF ?h ?k); (case h => walk_at "bT"))
  | ((with_reducible refine' r_iT ?h ?k); (case h => walk_at "bT"))
  | (with_reducible refine r_sfld ?_)
  | (with_reducible refine r_sl ?_)
  | (with_reducible refine r_noPart ?_)
  | (with_reducible refine r_part ?_)
  | (with_reducible refine r_pk ?_)
  | ((with_reducible refine' r_unl2 ?h ?k); (case h => walk_at "up"))
  | ((with_reducible refine' r_ixLi ?h ?h0 ?hn ?k); (case h => walk_at "up"); (case h0 => walk_at "sd"); (case hn => rfl))
  | fail)

local macro_rules | `(tactic| walk_at "r") => `(tactic| with_reducible refine do_is_integer ?_)
local macro_rules | `(tactic| walk_at "r") => `(tactic| first | ((with_reducible refine' do_is_place ?h ?k); (case h => walk_at "up")) | fail)
local macro_rules | `(tactic| walk_at "r") => `(tactic| first | ((with_reducible refine' do_check_place ?h ?k); (case h => walk_at "up")) | fail)
local macro_rules | `(tactic| walk_at "up") => `(tactic| first | (refine' MA.mv ?s ?g; (case s => assumption); (case g => walk_at "up")) | fail)
local macro_rules | `(tactic| walk_at "r") => `(tactic| first
  | ((with_reducible refine' do_Motion_kind ?h ?k); (case h => walk_at "up"))
  | (with_reducible refine r_forR ?_)
  | (with_reducible refine r_forL ?_)
  | (with_reducible refine r_cval ?_)
  | (with_reducible refine r_isiSS ?_)
  | fail)

local macro_rules | `(tactic| walk_at "dr") => `(tactic| (refine do_law_draw (by walk_at "up") (by first | decide | omega) (by first | decide | omega) ?_))
local macro_rules | `(tactic| walk_at "bT") => `(tactic| first | decide +kernel | fail)
local macro_rules | `(tactic| walk_at "r") => `(tactic| first
  | ((with_reducible refine' r_inT ?h ?f ?g ?e ?k); (case h => walk_at "up"); (case f => rfl); (case g => rfl); (case e => decide +kernel))
  | ((with_reducible refine' r_inF ?h ?f ?g ?e ?k); (case h => walk_at "up"); (case f => rfl); (case g => rfl); (case e => decide +kernel))
  | fail)
section
variable {P : Program} {w : World} {K : PySem.W.Frag} {mg : Str → Option Value} {base : Heap} {ad : Ad} {H : Hp} {Q : VK} {E : XK} {i j x y : Int} {v : V}
theorem r_calli {i : Nat} {C : Addr} {sp : Sp} {σ : L2.St} {ta : TA} {k : Str} {m : Mat} (h : σ[i]? = some (some v)) (hv : MA C H v k m x y)
    (q : ∀ p dx fs, v = .ref p → H p = some (.ins C dx fs) → ta σ H fun vs H1 => (∃ fs', H1 p = some (.ins C dx fs')) ∧ sp (v :: vs) H1 Q E) : tCallI i C sp E ta σ H Q := by
  obtain ⟨_, p, dx, u, rfl, hp, _⟩ := hv
  exact ⟨_, p, dx, _, h, rfl, hp, q p dx _ rfl hp⟩
theorem r_repr {d : PyData} {z : V} (h : Dp K H z d) (S : Shw d) (q : Q (.str d.shown) H) : rRepr K [z] H Q := ⟨z, d, rfl, h, S, q⟩
theorem r_cbReprD {a : TA} {σ : L2.St} (q : a σ H fun vs H1 => rRepr K vs H1 Q) : tCB (rRepr K) a σ H Q := q
theorem r_cbReprO {C : Addr} {sp : Sp} {a : TA} {σ : L2.St} (q : a σ H fun vs H1 => rOwnRepr C sp E vs H1 Q) : tCB (rOwnRepr C sp E) a σ H Q := q
/-- a list of places -/
def PL (H : Hp) (a : Addr) (vs : List V) : Prop := H a = some (.lst vs) ∧ ∀ (i : Nat) (v : V), vs[i]? = some v → ∃ x y, IT H v [x, y] ∧ x.natAbs < 10 ^ 27 ∧ y.natAbs < 10 ^ 27
abbrev dtold (k : Str) (x y : Int) (b : Bool) : PyData := .list [.str k, dsh x y, .bool b]
theorem shw_str {k : Str} {m : Mat} (h : Kd k m) : Shw (.str k) where
  sh := by rw [PyData.showable]
  nd := by rw [PyData.hasDict]
  dp := by rw [PyData.depth]; decide
  ln := by rw [bnd]; exact fits_of (kind_len h) (by decide)
theorem shw_told {k : Str} {m : Mat} {b : Bool} (h : Kd k m) (hx : x.natAbs < 10 ^ 500) (hy : y.natAbs < 10 ^ 500) : Shw (dtold k x y b) where
  sh := by
    rw [PyData.showable, PyData.showableAll, PyData.showableAll, PyData.showableAll, PyData.showableAll, (shw_str h).sh, (shw_sh hx hy).sh, PyData.showable]
    rfl
  nd := by
    rw [PyData.hasDict, PyData.hasDictAll, PyData.hasDictAll, PyData.hasDictAll, PyData.hasDictAll, (shw_str h).nd, (shw_sh hx hy).nd, PyData.hasDict]
    rfl
  dp := by
    rw [PyData.depth, PyData.depthAll, PyData.depthAll, PyData.depthAll, PyData.depthAll, PyData.depth, PyData.depth, PyData.depth, PyData.depthAll, PyData.depthAll, PyData.depthAll, PyData.depth, PyData.depth]
    decide
  ln := by
    have h1 := kind_len h
    have h2 : bnd (dsh x y) ≤ 4100 := by
      rw [bnd, bndAll, bndAll, bndAll, bnd, bnd]
      decide
    have h3 : bnd (.str k) ≤ 10 := by rw [bnd]; exact h1
    have h4 : bnd (.bool b) = 5 := by rw [bnd]
    rw [bnd, bndAll, bndAll, bndAll, bndAll, h4]
    refine Nat.le_trans (m := 5000) ?_ (by decide)
    omega
theorem r_addS {a b : Str} {Q : VK} (h : a.length + b.length ≤ sizeLine) (q : Q (.str (a ++ b)) H) : ∃ i j : Str, V.str a = .str i ∧ V.str b = .str j ∧ i.length + j.length ≤ sizeLine ∧ Q (.str (i ++ j)) H := ⟨a, b, rfl, rfl, h, q⟩
theorem sum_le {a b : Str} {m n : Nat} (ha : a.length ≤ m) (hb : b.length ≤ n) (h : m + n ≤ 100000) : a.length + b.length ≤ sizeLine := Nat.le_trans (Nat.add_le_add ha hb) (Nat.le_trans h (by decide))
theorem invs_list : ∀ t ∈ KNS, ∀ u ∈ KNS, ∀ v ∈ KNS, mmul u.2 t.2 = mone → mmul t.2 v.2 = mone → u.2 = v.2 := by decide +kernel
theorem back_x {m n : Mat} {a b : Int} (e : mmul n m = mone) : mx n (mx m a b + x) (my m a b + y) + -mx n x y = a := by
  rw [mx_add, mx_mul, e, mx_one]; omega
theorem back_y {m n : Mat} {a b : Int} (e : mmul n m = mone) : my n (mx m a b + x) (my m a b + y) + -my n x y = b := by
  rw [my_add, my_mul, e, my_one]; omega
theorem forth_x {m n : Mat} {a b : Int} (e : mmul m n = mone) : mx m (mx n a b + -mx n x y) (my n a b + -my n x y) + x = a := by
  rw [mx_add, mx_mul, mx_neg, mx_mul, e, mx_one, mx_one]; omega
theorem forth_y {m n : Mat} {a b : Int} (e : mmul m n = mone) : my m (mx n a b + -mx n x y) (my n a b + -my n x y) + y = b := by
  rw [my_add, my_mul, my_neg, my_mul, e, my_one, my_one]; omega
theorem co_sum {k : Str} {m : Mat} (h : Kd k m) {a b u v : Int} (ha : a.natAbs < 10 ^ 28) (hb : b.natAbs < 10 ^ 28) (hu : u.natAbs < 10 ^ 28) (hv : v.natAbs < 10 ^ 28) : Co (mx m a b + u) ∧ Co (my m a b + v) := by
  have := mb h (B := 10 ^ 28) (Nat.le_of_lt ha) (Nat.le_of_lt hb)
  unfold Co
  omega
theorem lt28 {a : Int} (h : a.natAbs < 10 ^ 27) : a.natAbs < 10 ^ 28 := by omega
theorem same2 {k : Str} {x y : Int} : (decide (k = k) && decide ([x, y] = [x, y])) = true := by simp
abbrev dmv (k : Str) (x y : Int) : PyData := .tuple [.str k, dsh x y]
theorem str_ok {k : Str} {m : Mat} (h : Kd k m) : PyData.strOk k = true := by
  rcases h.cases with ⟨rfl, _⟩ | ⟨rfl, _⟩ | ⟨rfl, _⟩ | ⟨rfl, _⟩ | ⟨rfl, _⟩ | ⟨rfl, _⟩ | ⟨rfl, _⟩ | ⟨rfl, _⟩ <;> decide +kernel
theorem shaped_mv {k : Str} {m : Mat} {x y : Int} (h : Kd k m) : SeqAt.shaped (dmv k x y) = true := by
  simp [SeqAt.shaped, PyData.canLay0, PyData.canLayAll0, PyData.depth, PyData.depthAll, str_ok h]
theorem eqv_mv {k l : Str} {x y a b : Int} : PyData.eqv (dmv k x y) (dmv l a b) = (decide (k = l) && decide ([x, y] = [a, b])) := by
  have e : PyData.eqv (dsh x y) (dsh a b) = decide ([x, y] = [a, b]) := eqv_ints [x, y] [a, b]
  rw [PyData.eqv, PyData.eqvAll, PyData.eqvAll, PyData.eqvAll, e, PyData.eqv, Bool.and_true]
  congr 1
def sp_law_right (K : PySem.W.Frag) : Sp := fun vs H Q _ => ∃ v a ws k m x y, vs = [v, .ref a] ∧ MV2 K H v k m x y ∧ x.natAbs < 10 ^ 27 ∧ y.natAbs < 10 ^ 27 ∧ PL H a ws ∧ ∀ H', Stp none H H' → Q (.bl true) H'
theorem ok_law_right (T : Txt w K mg ad) : FnG P w K mg base CX0 8 ad.law_right ad.law_right_d P_law_right (sp_law_right K) := by
  have G_Motion_init := ok_Motion_init (P := P) (w := w) (base := base) T
  have G_Motion_kind := ok_Motion_kind (P := P) (w := w) (base := base) T
  have G_Motion_shift := ok_Motion_shift (P := P) (w := w) (base := base) T
  have G_Motion_is_mirrored := ok_Motion_is_mirrored (P := P) (w := w) (base := base) T
  have G_Motion_call := ok_Motion_call (P := P) (w := w) (base := base) T
  have G_Motion_eq := ok_Motion_eq (P := P) (w := w) (base := base) T
  have G_Motion_invert := ok_Motion_invert (P := P) (w := w) (base := base) T
  have G_Motion_repr := ok_Motion_repr (P := P) (w := w) (base := base) T
  have G_law_kinds := ok_law_kinds (P := P) (w := w) (base := base) T
  have G_law_carried := ok_law_carried (P := P) (w := w) (base := base) T
  have G_law_told := ok_law_told (P := P) (w := w) (base := base) T
  refine Fun.gn T.F_law_right sc_law_right (fun vs H Q E h => ?_) (fun cdv A outer s H vs Q E hr hg h => ?_)
  · obtain ⟨v, a, ws, k, m, x, y, rfl, _⟩ := h
    rfl
  · obtain ⟨v, a, ws, k, m, x, y, rfl, hv, bx, by', hl, q⟩ := h
    have hv0 := hv
    obtain ⟨hk, p0, u0, rfl, hp0, hu0⟩ := hv0
    have bx5 : x.natAbs < 10 ^ 500 := Nat.lt_of_lt_of_le bx (by decide +kernel)
    have by5 : y.natAbs < 10 ^ 500 := Nat.lt_of_lt_of_le by' (by decide +kernel)
    have S3 := fun b => shw_told (b := b) hk bx5 by5
    refine ⟨_, (pss_cons (ps_set (i := 2) sc_law_right.nd rfl (Or.inl rfl) (peg_make T.k_Motion G_Motion_init (hr.mono (by decide)) hg (by rfl) T.g_Motion T.b_Motion_init .nil pass0 (pa_cons (pe_ix ix_seq (pv 0) pe_int (fun _ _ => rfl)) (pa_cons (pe_ix ix_seq (pv 0) pe_int (fun _ _ => rfl)) pa_nil))))
      (pss_cons (ps_if (pt_cmpR op_ne (pe_callB (callg_repr hg hr.units) (by rfl) T.z_repr (by decide +kernel) (pa_cons (pe_lst (pa_cons (peg_prop (pv 2) T.cl_Motion T.p_Motion_kind G_Motion_kind (hr.mono (by decide)) hg T.b_Motion_kind .nil pass0) (pa_cons (peg_prop (pv 2) T.cl_Motion T.p_Motion_shift G_Motion_shift (hr.mono (by decide)) hg T.b_Motion_shift .nil pass0) (pa_cons (peg_prop (pv 2) T.cl_Motion T.p_Motion_is_mirrored G_Motion_is_mirrored (hr.mono (by decide)) hg T.b_Motion_is_mirrored .nil pass0) pa_nil)))) pa_nil)) (pe_callB (callg_repr hg hr.units) (by rfl) T.z_repr (by decide +kernel) (pa_cons (pe_lst (pa_cons (pe_ix ix_seq (pv 0) pe_int (fun _ _ => rfl)) (pa_cons (pe_ix ix_seq (pv 0) pe_int (fun _ _ => rfl)) (pa_cons (pe_cmpR op_in_seq (pe_ix ix_seq (pv 0) pe_int (fun _ _ => rfl)) (pe_slice sl_list (peg_call0 G_law_kinds (hr.mono (by decide)) hg (by rfl) T.g_law_kinds T.F_law_kinds.kp T.b_law_kinds .nil pass0) (po_some pe_int) po_none) (by rfl)) pa_nil)))) pa_nil)) (nomark _))
      (pss_one (ps_ret pe_bl)) pss_nil)
      (pss_cons (ps_if (PW.pt (pw_or (pt_cmpR op_ne (pe_callB (callg_own (K := K) T.o_Motion_repr G_Motion_repr (hr.mono (by decide)) hg T.b_Motion_repr pass0) (by rfl) T.z_repr (by decide +kernel) (pa_cons (pv 2) pa_nil)) (pe_op op_add_str (pe_op op_add_str (pe_op op_add_str (pe_op op_add_str pe_str (pe_callB (callg_repr hg hr.units) (by rfl) T.z_repr (by decide +kernel) (pa_cons (pe_ix ix_seq (pv 0) pe_int (fun _ _ => rfl)) pa_nil))) pe_str) (pe_callB (callg_repr hg hr.units) (by rfl) T.z_repr (by decide +kernel) (pa_cons (pe_ix ix_seq (pv 0) pe_int (fun _ _ => rfl)) pa_nil))) pe_str) (nomark _)) (pw_or1 (pt_cmpR (opg_ne T.e_Motion G_Motion_eq (hr.mono (by decide)) hg T.b_Motion_eq pass0) (pv 2) (peg_make T.k_Motion G_Motion_init (hr.mono (by decide)) hg (by rfl) T.g_Motion T.b_Motion_init .nil pass0 (pa_cons (pe_ix ix_seq (pv 0) pe_int (fun _ _ => rfl)) (pa_cons (pe_ix ix_seq (pv 0) pe_int (fun _ _ => rfl)) pa_nil))) (nomark _)))))
      (pss_one (ps_ret pe_bl)) pss_nil)
      (pss_cons (ps_set (i := 3) sc_law_right.nd rfl (Or.inl rfl) (pe_un (ung_inv T.o_Motion_invert G_Motion_invert (hr.mono (by decide)) hg T.b_Motion_invert pass0) (pv 2)))
      (pss_cons (ps_for PassesOwn.never rfl (pi_list (pv 1)) (pg_name (i := 4) sc_law_right.nd rfl (Or.inl rfl))
      (pss_cons (ps_set (i := 5) sc_law_right.nd rfl (Or.inl rfl) (peg_calli (i := 2) T.o_Motion_call T.fn_Motion_call G_Motion_call (hr.mono (by decide)) hg T.b_Motion_call pass0 rfl (.inl rfl) (pa_cons (pv 4) pa_nil)))
      (pss_one (ps_if (PW.pt (pw_or (pt_cmpR (op_neD hr.units) (pv 5) (peg_call G_law_carried (hr.mono (by decide)) hg (by rfl) T.g_law_carried T.F_law_carried.kp T.b_law_carried .nil pass0 (pa_cons (pv 0) (pa_cons (pv 4) pa_nil))) (nomark _)) (pw_or (pt_cmpR (op_neD hr.units) (peg_calli (i := 3) T.o_Motion_call T.fn_Motion_call G_Motion_call (hr.mono (by decide)) hg T.b_Motion_call pass0 rfl (.inl rfl) (pa_cons (pv 5) pa_nil)) (pv 4) (nomark _)) (pw_or1 (pt_cmpR (op_neD hr.units) (peg_calli (i := 2) T.o_Motion_call T.fn_Motion_call G_Motion_call (hr.mono (by decide)) hg T.b_Motion_call pass0 rfl (.inl rfl) (pa_cons (peg_calli (i := 3) T.o_Motion_call T.fn_Motion_call G_Motion_call (hr.mono (by decide)) hg T.b_Motion_call pass0 rfl (.inl rfl) (pa_cons (pv 4) pa_nil)) pa_nil)) (pv 4) (nomark _))))))
      (pss_one (ps_ret pe_bl)) pss_nil))))
      (pss_one (ps_ret (pe_and (pe_cmpR (op_eqD hr.units) (peg_call G_law_told (hr.mono (by decide)) hg (by rfl) T.g_law_told T.F_law_told.kp T.b_law_told .nil pass0 (pa_cons (pe_un (ung_inv T.o_Motion_invert G_Motion_invert (hr.mono (by decide)) hg T.b_Motion_invert pass0) (pv 3)) pa_nil)) (pv 0) (nomark _)) (pe_one (pe_cmpR (op_eqD hr.units) (peg_call G_law_told (hr.mono (by decide)) hg (by rfl) T.g_law_told T.F_law_told.kp T.b_law_told .nil pass0 (pa_cons (pv 2) pa_nil)) (pv 0) (nomark _))))))))))), ?_⟩
    walk_at "go"
    refine r_ixT0 hp0 ?_
    walk_at "go"
    refine r_ixT1 hp0 ?_
    walk_at "go"
    refine do_Motion hk hu0.k fun m1 H1 S1 h1 => ?_
    walk_at "go"
    refine do_Motion_shift (by walk_at "up") fun u2 i2 => ?_
    walk_at "go"
    refine do_Motion_is_mirrored (by walk_at "up") ?_
    walk_at "go"
    rename_i l2 H2 S2 hp2 np2
    have iu2 : IT H2 u2 [x, y] := by walk_at "up"
    refine r_repr (d := dtold k x y (mir k)) (.lst (SqL.of hp2) (.cons (.str k) (.cons (IK.dp (K := K) iu2.k) (.cons (.bl _) .nil)))) (S3 _) ?_
    walk_at "go"
    refine r_ixT0 (by walk_at "up") ?_
    walk_at "go"
    refine r_ixT1 (by walk_at "up") ?_
    walk_at "go"
    refine r_ixT0 (by walk_at "up") ?_
    walk_at "go"
    refine do_law_kinds fun p3 H3 S3' hp3 np3 => ?_
    walk_at "go"
    refine r_slL (SqL.of hp3) fun l4 H4 S4 h4 n4 => ?_
    walk_at "go"
    refine ⟨l4, _, rfl, .inl (SqL.of h4), rfl, rfl, ?_⟩
    walk_at "go"
    rename_i l5 H5 S5 hp5 np5
    have iu5 : IT H5 u0 [x, y] := by walk_at "up"
    refine r_repr (d := dtold k x y (mir k)) (.lst (SqL.of hp5) (.cons (.str k) (.cons (IK.dp (K := K) iu5.k) (.cons (.bl _) .nil)))) (S3 _) ?_
    walk_at "go"
    refine r_nX rfl ?_
    walk_at "go"
    have sk : (PyData.str k).shown = PySem.reprText k := by rw [PyData.shown]
    have l1 := kind_len hk
    have S2' := shw_sh bx5 by5
    have l2 : (dsh x y).shown.length ≤ 4100 := by
      refine Nat.le_trans (bnd_ok _ S2'.sh S2'.nd) ?_
      rw [bnd, bndAll, bndAll, bndAll, bnd, bnd]
      decide
    have a1 : ("Motion(" : Str).length ≤ 7 := by decide +kernel
    have a1' : (", " : Str).length ≤ 2 := by decide +kernel
    have a1'' : (")" : Str).length ≤ 1 := by decide +kernel
    have a2 := app_le a1 l1
    have a3 := app_le a2 a1'
    have a4 := app_le a3 l2
    refine do_mrepr (by walk_at "up") bx5 by5 ?_
    walk_at "go"
    refine r_ixT0 (by walk_at "up") ?_
    walk_at "go"
    refine r_repr (d := .str k) (.str k) (shw_str hk) ?_
    rw [sk]
    refine ⟨_, _, rfl, rfl, sum_le a1 l1 (by decide), ?_⟩
    walk_at "go"
    refine ⟨_, _, rfl, rfl, sum_le a2 a1' (by decide), ?_⟩
    walk_at "go"
    refine r_ixT1 (by walk_at "up") ?_
    walk_at "go"
    refine r_repr (d := dsh x y) (IK.dp (K := K) iu5.k) S2' ?_
    refine ⟨_, _, rfl, rfl, sum_le a3 l2 (by decide), ?_⟩
    walk_at "go"
    refine ⟨_, _, rfl, rfl, sum_le a4 a1'' (by decide), ?_⟩
    walk_at "go"
    refine r_nX rfl ?_
    walk_at "go"
    refine r_ixT0 (by walk_at "up") ?_
    walk_at "go"
    refine r_ixT1 (by walk_at "up") ?_
    walk_at "go"
    refine do_Motion hk (by walk_at "up") fun m6 H6 S6 h6 => ?_
    refine do_mne T.i_Motion T.cl_Motion (by walk_at "up") (by walk_at "up") ?_
    rw [same2]
    walk_at "go"
    refine do_inv (by walk_at "up") (Nat.lt_of_lt_of_le bx (by decide)) (Nat.lt_of_lt_of_le by' (by decide)) fun bk j n H7 S7 e1 e2 h7 => ?_
    have hj := h7.1
    have nb := mb hj (Nat.le_of_lt bx) (Nat.le_of_lt by')
    have nbx : (-mx n x y).natAbs < 10 ^ 28 := by omega
    have nby : (-my n x y).natAbs < 10 ^ 28 := by omega
    have hm7 : MA ad.C_Motion H7 m1 k m x y := by walk_at "up"
    have sH7 : Stp none H H7 := by walk_at "st"
    walk_at "go"
    refine ForL.ok ⟨a, ws, fun _ σ H' => ∃ t4 t5, σ = [some (.ref p0), some (.ref a), some m1, some bk, t4, t5] ∧ Stp none H7 H', rfl, ⟨none, none, rfl, Stp.refl _ _⟩,
      fun _ σ H' _ ⟨_, _, _, s⟩ => s.all _ _ (sH7.all _ _ hl.1), ?_, ?_⟩
    · rintro i v' σ H' hx' ⟨t4, t5, rfl, s'⟩
      obtain ⟨a', b', iv0, ba, bb⟩ := hl.2 i v' hx'
      have iv7 : IT H7 v' [a', b'] := iv0.mv sH7
      have iv : IT H' v' [a', b'] := iv7.mv s'
      have hmv : MV2 K H' (.ref p0) k m x y := (hv.mv sH7).mv s'
      have hm : MA ad.C_Motion H' m1 k m x y := hm7.mv s'
      have hb : MA ad.C_Motion H' bk j n (-mx n x y) (-my n x y) := h7.mv s'
      have ca : Co a' := by clear nb nbx nby; unfold Co; omega
      have cb : Co b' := by clear nb nbx nby; unfold Co; omega
      have c1 := co_sum hk (lt28 ba) (lt28 bb) (lt28 bx) (lt28 by')
      have c2 := co_sum hj (lt28 ba) (lt28 bb) nbx nby
      clear nb nbx nby ba bb bx by' bx5 by5
      walk_at "go"
      refine r_calli rfl hm fun p dx fs ep hp => ?_
      walk_at "go"
      refine ⟨⟨_, hp⟩, do_Motion_call hm iv.k ca cb fun z1 H8 S8 i8 => ?_⟩
      walk_at "go"
      refine do_law_carried (hmv.mv S8) (iv.mv S8).k fun z2 H9 S9 i9 => ?_
      walk_at "go"
      refine r_nX rfl ?_
      walk_at "go"
      have i8' : IT H9 z1 [mx m a' b' + x, my m a' b' + y] := i8.mv S9
      refine r_calli rfl (by walk_at "up") fun p2 dx2 fs2 ep2 hp2' => ?_
      walk_at "go"
      refine ⟨⟨_, hp2'⟩, do_Motion_call (k := j) (m := n) (x := -mx n x y) (y := -my n x y) (by walk_at "up") i8'.k c1.1 c1.2 fun z3 H10 S10 i10 => ?_⟩
      rw [back_x e1, back_y e1] at i10
      walk_at "go"
      refine r_nX rfl ?_
      walk_at "go"
      refine r_calli rfl (by walk_at "up") fun p3 dx3 fs3 ep3 hp3' => ?_
      walk_at "go"
      refine r_calli rfl (by walk_at "up") fun p4 dx4 fs4 ep4 hp4' => ?_
      walk_at "go"
      refine ⟨⟨_, hp4'⟩, do_Motion_call (k := j) (m := n) (x := -mx n x y) (y := -my n x y) (by walk_at "up") (by walk_at "up") ca cb fun z5 H11 S11 i11 => ?_⟩
      walk_at "go"
      refine ⟨⟨_, by walk_at "up"⟩, do_Motion_call (k := k) (m := m) (x := x) (y := y) (by walk_at "up") (by walk_at "up") c2.1 c2.2 fun z6 H12 S12 i12 => ?_⟩
      rw [forth_x e2, forth_y e2] at i12
      walk_at "go"
      refine r_nX rfl ?_
      walk_at "go"
      exact ⟨_, _, rfl, by walk_at "st"⟩
    · rintro σ H' ⟨t4, t5, rfl, s'⟩
      have hmv : MV2 K H' (.ref p0) k m x y := (hv.mv sH7).mv s'
      have hm : MA ad.C_Motion H' m1 k m x y := hm7.mv s'
      have hb : MA ad.C_Motion H' bk j n (-mx n x y) (-my n x y) := h7.mv s'
      walk_at "go"
      refine do_inv hb (Nat.lt_trans nbx (by decide)) (Nat.lt_trans nby (by decide)) fun b2 j2 n2 H8 S8 f1 f2 h8 => ?_
      have em : n2 = m := invs_list _ hj _ h8.1 _ hk f1 e1
      subst em
      have ek : j2 = k := h8.1.same hk
      subst ek
      rw [mx_neg, my_neg, mx_mul, my_mul, f1, mx_one, my_one, Int.neg_neg, Int.neg_neg] at h8
      walk_at "go"
      refine do_law_told h8 fun z1 H9 S9 i9 => ?_
      walk_at "go"
      refine ⟨_, _, i9.dp, ((hmv.mv S8).mv S9).dp, shaped_mv hk, shaped_mv hk, ?_⟩
      rw [eqv_mv, same2]
      walk_at "go"
      refine do_law_told (by walk_at "up") fun z2 H10 S10 i10 => ?_
      walk_at "go"
      refine ⟨_, _, i10.dp, (((hmv.mv S8).mv S9).mv S10).dp, shaped_mv hk, shaped_mv hk, ?_⟩
      rw [eqv_mv, same2]
      exact q _ (by walk_at "st")
theorem do_law_right {a : Addr} {ws : List V} {k : Str} {m : Mat} (h : MV2 K H v k m x y) (hx : x.natAbs < 10 ^ 27) (hy : y.natAbs < 10 ^ 27) (hl : PL H a ws) (q : ∀ H', Stp none H H' → Q (.bl true) H') :
    sp_law_right K [v, .ref a] H Q E := ⟨v, a, ws, k, m, x, y, rfl, h, hx, hy, hl, q⟩
end
end Law

set_option Elab.async false
set_option linter.all false
set_option maxRecDepth 100000
set_option maxHeartbeats 4000000
namespace Law
open PySem PySem.Spec PyProof.Rows L2 MV
local macro_rules | `(tactic| walk_at "up") => `(tactic| first
  | assumption
  | (refine' IT.mv ?s ?g; (case s => assumption); (case g => walk_at "up"))
  | (refine' IT.k ?g; (case g => walk_at "up"))
  | (refine' IK.mv ?s ?g; (case s => assumption); (case g => walk_at "up"))
  | (refine' Tape.mvN ?s ?g; (case s => assumption); (case g => walk_at "up"))
  | (refine' Tape.mvS ?s ?g; (case s => assumption); (case g => walk_at "up"))
  | (refine' At.tup ?s ?g; (case s => assumption); (case g => walk_at "up"))
  | (refine' At.ins ?s ?g; (case s => assumption); (case g => walk_at "up"))
  | (refine' At.lst ?s ?g; (case s => assumption); (case g => walk_at "up"))
  | (refine' At.lstS ?s ?n ?g; (case s => assumption); (case n => assumption); (case g => walk_at "up"))
  | fail)
local macro_rules | `(tactic| walk_at "st") => `(tactic| first
  | assumption
  | exact Stp.refl _ _
  | (refine' Stp.w ?s; (case s => assumption))
  | (refine' Stp.trans ?g ?s; (case s => (first | assumption | (refine' Stp.w ?u; (case u => assumption)))); (case g => walk_at "st"))
  | fail)
local macro_rules | `(tactic| walk_at "bT") => `(tactic| first
  | decide
  | (simp only [Bool.not_eq_true', Bool.not_eq_false', decide_eq_true_eq, decide_eq_false_iff_not]; omega)
  | fail)
local macro_rules | `(tactic| walk_at "sd") => `(tactic| first | assumption | decide | omega | fail)
local macro_rules | `(tactic| walk_at "r") => `(tactic| first
  | (with_reducible refine r_seq ?_)
  | (with_reducible refine r_asg ?_)
  | ((with_reducible refine' r_var ?h ?k); (case h => rfl))
  | (with_reducible refine r_c ?_)
  | (with_reducible refine r_op ?_)
  | (with_reducible refine r_un ?_)
  | (with_reducible refine r_nil ?_)
  | (with_reducible refine r_cons ?_)
  | (with_reducible refine r_tup ?_)
  | (with_reducible refine r_lst ?_)
  | (with_reducible refine r_cbLen ?_)
  | (with_reducible refine r_cbInt ?_)
  | (with_reducible refine r_cbRepr ?_)
  | (with_reducible refine r_cbTup ?_)
  | (with_reducible refine r_cbLst ?_)
  | (with_reducible refine r_cb ?_)
  | (with_reducible refine r_prop ?_)
  | (with_reducible refine r_andV ?_)
  | (with_reducible refine r_orV ?_)
  | (with_reducible refine r_notV ?_)
  | (with_reducible refine r_chain ?_)
  | (with_reducible refine r_ifE ?_)
  | (with_reducible refine r_test ?_)
  | (with_reducible refine r_B ?_)
  | (with_reducible refine r_and ?_)
  | (with_reducible refine r_or ?_)
  | (with_reducible refine r_not ?_)
  | (with_reducible refine r_yes ?_)
  | (with_reducible refine r_k ?_)
  | (with_reducible refine r_kV ?_)
  | (with_reducible refine r_next ?_)
  | (with_reducible refine r_drop ?_)
  | (with_reducible refine r_ret ?_)
  | (with_reducible refine r_ifS ?_)
  | (with_reducible refine r_par ?_)
  | (with_reducible refine r_par1 ?_)
  | (with_reducible refine r_gname ?_)
  | (with_reducible refine r_gnil ?_)
  | (with_reducible refine r_gcons ?_)
  | ((with_reducible refine' r_unpack2 ?h ?k); (case h => walk_at "up"))
  | ((with_reducible refine' r_unpack3 ?h ?k); (case h => walk_at "up"))
  | (with_reducible refine r_add ?_)
  | (with_reducible refine r_sub ?_)
  | (with_reducible refine r_neg ?_)
  | ((with_reducible refine' r_mod ?h ?k); (case h => walk_at "sd"))
  | ((with_reducible refine' r_div ?h ?k); (case h => walk_at "sd"))
  | ((with_reducible refine' r_mul ?h ?k); (case h => walk_at "sd"))
  | ((with_reducible refine' r_mulW ?h ?k); (case h => walk_at "sd"))
  | ((with_reducible refine' r_pow ?h ?k); (case h => (show (0 : Int) ≤ _ ∧ _ ∧ _; decide)))
  | (with_reducible refine r_lt ?_)
  | (with_reducible refine r_le ?_)
  | (with_reducible refine r_gt ?_)
  | (with_reducible refine r_ge ?_)
  | (with_reducible refine r_eqI ?_)
  | (with_reducible refine r_neI ?_)
  | (with_reducible refine r_eqS ?_)
  | (with_reducible refine r_neS ?_)
  | ((with_reducible refine' r_eqT ?h ?g ?k); (case h => walk_at "up"); (case g => walk_at "up"))
  | ((with_reducible refine' r_neT ?h ?g ?k); (case h => walk_at "up"); (case g => walk_at "up"))
  | ((with_reducible refine' r_ix0 ?h ?k); (case h => walk_at "up"))
  | ((with_reducible refine' r_ix1 ?h ?k); (case h => walk_at "up"))
  | ((with_reducible refine' r_ix2 ?h ?k); (case h => walk_at "up"))
  | (with_reducible refine r_newI2 (fun v H2 S I => ?_))
  | (with_reducible refine r_newI3 (fun v H2 S I => ?_))
  | (with_reducible refine r_newL1 (fun p H2 S hp np => ?_))
  | (with_reducible refine r_newL2 (fun p H2 S hp np => ?_))
  | (with_reducible refine r_newL3 (fun p H2 S hp np => ?_))
  | (with_reducible refine r_T ?_)
  | (with_reducible refine r_F ?_)
  | fail)
local macro_rules | `(tactic| walk_at "go") => `(tactic| repeat (walk_at "r"))
local macro_rules | `(tactic| walk_at "r") => `(tactic| first
  | (with_reducible refine r_call0 ?_)
  | (with_reducible refine r_meth0 ?_)
  | (with_reducible refine r_make0 ?_)
  | (with_reducible refine r_isiII ?_)
  | (with_reducible refine r_isiIB ?_)
  | ((with_reducible refine' r_isiTT ?h ?k); (case h => walk_at "up"))
  | ((with_reducible refine' r_len2 ?h ?k); (case h => walk_at "up"))
  | ((with_reducible refine' r_len3 ?h ?k); (case h => walk_at "up"))
  | ((with_reducible refine' r_lenL ?h ?k); (case h => walk_at "up"))
  | (with_reducible refine r_int1 ?_)
  | (with_reducible refine r_int1B ?_)
  | (with_reducible refine r_nT ?_)
  | (with_reducible refine r_nF ?_)
  | (with_reducible refine r_gcd ?_)
  | (with_reducible refine r_gsub ?_)
  | (with_reducible refine r_fld ?_)
  | (with_reducible refine r_p6 ?_)
  | (with_reducible refine r_p9 ?_)
  | (with_reducible refine r_p10 ?_)
  | (with_reducible refine r_p11 ?_)
  | (with_reducible refine r_p12 ?_)
  | (with_reducible refine r_p18 ?_)
  | (with_reducible refine r_p20 ?_)
  | (with_reducible refine r_p26 ?_)
  | (with_reducible refine r_p27 ?_)
  | (with_reducible refine r_p30 ?_)
  | ((with_reducible refine' r_iF ?h ?k); (case h => walk_at "bT"))
  | ((with_reducible refine' r_iT ?h ?k); (case h => walk_at "bT"))
  | (with_reducible refine r_sfld ?_)
  | (with_reducible refine r_sl ?_)
  | (with_reducible refine r_noPart ?_)
  | (with_reducible refine r_part ?_)
  | (with_reducible refine r_pk ?_)
  | ((with_reducible refine' r_unl2 ?h ?k); (case h => walk_at "up"))
  | ((with_reducible refine' r_ixLi ?h ?h0 ?hn ?k); (case h => walk_at "up"); (case h0 => walk_at "sd"); (case hn => rfl))
  | fail)

local macro_rules | `(tactic| walk_at "r") => `(tactic| with_reducible refine do_is_integer ?_)
local macro_rules | `(tactic| walk_at "r") => `(tactic| first | ((with_reducible refine' do_is_place ?h ?k); (case h => walk_at "up")) | fail)
local macro_rules | `(tactic| walk_at "r") => `(tactic| first | ((with_reducible refine' do_check_place ?h ?k); (case h => walk_at "up")) | fail)
local macro_rules | `(tactic| walk_at "up") => `(tactic| first | (refine' MA.mv ?s ?g; (case s => assumption); (case g => walk_at "up")) | fail)
local macro_rules | `(tactic| walk_at "r") => `(tactic| first
  | ((with_reducible refine' do_Motion_kind ?h ?k); (case h => walk_at "up"))
  | (with_reducible refine r_forR ?_)
  | (with_reducible refine r_forL ?_)
  | (with_reducible refine r_cval ?_)
  | (with_reducible refine r_isiSS ?_)
  | fail)

local macro_rules | `(tactic| walk_at "dr") => `(tactic| (refine do_law_draw (by walk_at "up") (by first | decide | omega) (by first | decide | omega) ?_))
local macro_rules | `(tactic| walk_at "bT") => `(tactic| first | decide +kernel | fail)
local macro_rules | `(tactic| walk_at "r") => `(tactic| first
  | ((with_reducible refine' r_inT ?h ?f ?g ?e ?k); (case h => walk_at "up"); (case f => rfl); (case g => rfl); (case e => decide +kernel))
  | ((with_reducible refine' r_inF ?h ?f ?g ?e ?k); (case h => walk_at "up"); (case f => rfl); (case g => rfl); (case e => decide +kernel))
  | fail)
section
variable {P : Program} {w : World} {K : PySem.W.Frag} {mg : Str → Option Value} {base : Heap} {ad : Ad} {H : Hp} {Q : VK} {E : XK} {i j x y : Int} {v : V}
theorem assoc_list : ∀ t ∈ KNS, ∀ u ∈ KNS, ∀ z ∈ KNS, mmul t.2 (mmul u.2 z.2) = mmul (mmul t.2 u.2) z.2 := by decide +kernel
theorem prodinv_list : ∀ t ∈ KNS, ∀ u ∈ KNS, ∀ t' ∈ KNS, mmul t.2 t'.2 = mone → ∀ u' ∈ KNS, mmul u.2 u'.2 = mone → mmul (mmul u.2 t.2) (mmul t'.2 u'.2) = mone := by decide +kernel
def Sm (x : Int) : Prop := x.natAbs < 10 ^ 26
theorem both_x (m n : Mat) (a b x y u : Int) : mx (mmul n m) a b + (mx n x y + u) = mx n (mx m a b + x) (my m a b + y) + u := by
  rw [mx_add, mx_mul]; omega
theorem both_y (m n : Mat) (a b x y u : Int) : my (mmul n m) a b + (my n x y + u) = my n (mx m a b + x) (my m a b + y) + u := by
  rw [my_add, my_mul]; omega
theorem inv_x {m n o : Mat} {a b u v : Int} (e : mmul n m = mone) : -mx (mmul o n) (mx m a b + u) (my m a b + v) = mx o (-mx n u v) (-my n u v) + -mx o a b := by
  have h1 : mx (mmul o n) (mx m a b) (my m a b) = mx o a b := by rw [← mx_mul, mx_mul n m, my_mul n m, e, mx_one, my_one]
  rw [mx_add, h1, ← mx_mul, mx_neg]; omega
theorem inv_y {m n o : Mat} {a b u v : Int} (e : mmul n m = mone) : -my (mmul o n) (mx m a b + u) (my m a b + v) = my o (-mx n u v) (-my n u v) + -my o a b := by
  have h1 : my (mmul o n) (mx m a b) (my m a b) = my o a b := by rw [← my_mul, mx_mul n m, my_mul n m, e, mx_one, my_one]
  rw [my_add, h1, ← my_mul, my_neg]; omega
theorem neg62 {k : Str} {m : Mat} (h : Kd k m) {a b : Int} (ha : Sm a) (hb : Sm b) : (-mx m a b).natAbs < 10 ^ 62 ∧ (-my m a b).natAbs < 10 ^ 62 := by
  have := mb h (B := 10 ^ 26) (Nat.le_of_lt ha) (Nat.le_of_lt hb)
  omega
abbrev dml (k1 k2 k3 : Str) (x1 y1 x2 y2 x3 y3 : Int) : PyData := .list [dmv k1 x1 y1, dmv k2 x2 y2, dmv k3 x3 y3]
theorem shaped_ml {k1 k2 k3 : Str} {m1 m2 m3 : Mat} {x1 y1 x2 y2 x3 y3 : Int} (h1 : Kd k1 m1) (h2 : Kd k2 m2) (h3 : Kd k3 m3) : SeqAt.shaped (dml k1 k2 k3 x1 y1 x2 y2 x3 y3) = true := by
  simp [SeqAt.shaped, PyData.canLay0, PyData.canLayAll0, PyData.depth, PyData.depthAll, str_ok h1, str_ok h2, str_ok h3]
theorem eqv_ml {k1 k2 k3 : Str} {x1 y1 x2 y2 x3 y3 : Int} : PyData.eqv (dml k1 k2 k3 x1 y1 x2 y2 x3 y3) (dml k1 k2 k3 x1 y1 x2 y2 x3 y3) = true := by
  have e1 : PyData.eqv (dmv k1 x1 y1) (dmv k1 x1 y1) = true := by rw [eqv_mv, same2]
  have e2 : PyData.eqv (dmv k2 x2 y2) (dmv k2 x2 y2) = true := by rw [eqv_mv, same2]
  have e3 : PyData.eqv (dmv k3 x3 y3) (dmv k3 x3 y3) = true := by rw [eqv_mv, same2]
  rw [PyData.eqv, PyData.eqvAll, PyData.eqvAll, PyData.eqvAll, PyData.eqvAll, e1, e2, e3]
  rfl
theorem one_list : ∀ t ∈ KNS, mmul mone t.2 = t.2 := by decide +kernel
theorem sm28 {a : Int} (h : Sm a) : a.natAbs < 10 ^ 28 := Nat.lt_trans h (by decide)
theorem sm62 {a : Int} (h : Sm a) : a.natAbs < 10 ^ 62 := Nat.lt_trans h (by decide)
theorem sum62 {k : Str} {m : Mat} (h : Kd k m) {a b u v : Int} (ha : Sm a) (hb : Sm b) (hu : Sm u) (hv : Sm v) : (mx m a b + u).natAbs < 10 ^ 62 ∧ (my m a b + v).natAbs < 10 ^ 62 := by
  have := mb h (B := 10 ^ 26) (Nat.le_of_lt ha) (Nat.le_of_lt hb)
  unfold Sm at *
  omega
theorem co27 {a : Int} (h : a.natAbs < 10 ^ 27) : Co a := Nat.lt_trans h (by decide)
/-- the three moves of the law -/
def ML (K : PySem.W.Frag) (H : Hp) (v : V) (k1 k2 k3 : Str) (m1 m2 m3 : Mat) (x1 y1 x2 y2 x3 y3 : Int) : Prop :=
  ∃ p a b c, v = .ref p ∧ H p = some (.lst [a, b, c]) ∧ MV2 K H a k1 m1 x1 y1 ∧ MV2 K H b k2 m2 x2 y2 ∧ MV2 K H c k3 m3 x3 y3
def sp_law_products_right (K : PySem.W.Frag) : Sp := fun vs H Q _ => ∃ v a ws k1 k2 k3 m1 m2 m3 x1 y1 x2 y2 x3 y3, vs = [v, .ref a] ∧ ML K H v k1 k2 k3 m1 m2 m3 x1 y1 x2 y2 x3 y3 ∧
  Sm x1 ∧ Sm y1 ∧ Sm x2 ∧ Sm y2 ∧ Sm x3 ∧ Sm y3 ∧ PL H a ws ∧ ∀ H', Stp none H H' → Q (.bl true) H'
theorem ok_law_products_right (T : Txt w K mg ad) : FnG P w K mg base CX0 8 ad.law_products_right ad.law_products_right_d P_law_products_right (sp_law_products_right K) := by
  have G_Motion_init := ok_Motion_init (P := P) (w := w) (base := base) T
  have G_Motion_call := ok_Motion_call (P := P) (w := w) (base := base) T
  have G_Motion_eq := ok_Motion_eq (P := P) (w := w) (base := base) T
  have G_Motion_mul := ok_Motion_mul (P := P) (w := w) (base := base) T
  have G_Motion_invert := ok_Motion_invert (P := P) (w := w) (base := base) T
  have G_law_carried := ok_law_carried (P := P) (w := w) (base := base) T
  have G_law_told := ok_law_told (P := P) (w := w) (base := base) T
  obtain ⟨ds_i, vd_Motion_init, bd_Motion_init⟩ := T.bd_Motion_init
  refine Fun.gn T.F_law_products_right sc_law_products_right (fun vs H Q E h => ?_) (fun cdv A outer s H vs Q E hr hg h => ?_)
  · obtain ⟨v, a, ws, k1, k2, k3, m1, m2, m3, x1, y1, x2, y2, x3, y3, rfl, _⟩ := h
    rfl
  · obtain ⟨v, a, ws, k1, k2, k3, m1, m2, m3, x1, y1, x2, y2, x3, y3, rfl, ⟨p, va, vb, vc, rfl, hp, hva, hvb, hvc⟩, b1, b2, b3, b4, b5, b6, hl, q⟩ := h
    refine ⟨_, (pss_cons (ps_asg (pe_lc (own := [("_law_move", 7)]) (g := gName 7) (tt := tYes) rfl sc_law_products_right.nd (pi_list (pv 0)) (blkOk_by (own := [("_law_move", 7)]) (N := N_law_products_right) (sc := defScope s_law_products_right) (by decide +kernel)) (fun _ _ _ _ _ => (pg_name (i := 7) sc_law_products_right.nd rfl (Or.inl rfl))) (fun _ _ _ _ _ => pts_nil) (fun _ _ _ _ _ => (peg_make T.k_Motion G_Motion_init (hr.mono (by decide)) hg (by rfl) T.g_Motion T.b_Motion_init .nil pass0 (pa_cons (pe_ix (ix_seqk (K := K) rfl) (pv 7) pe_int (fun _ _ => rfl)) (pa_cons (pe_ix (ix_seqk (K := K) rfl) (pv 7) pe_int (fun _ _ => rfl)) pa_nil)))) ) (pg_lst (n := 3) rfl (pgs_cons (pg_name (i := 2) sc_law_products_right.nd rfl (Or.inl rfl)) (pgs_cons (pg_name (i := 3) sc_law_products_right.nd rfl (Or.inl rfl)) (pgs_cons (pg_name (i := 4) sc_law_products_right.nd rfl (Or.inl rfl)) pgs_nil)))))
      (pss_cons (ps_set (i := 5) sc_law_products_right.nd rfl (Or.inl rfl) (pe_op (opg_bin (op := .Mult) T.o_Motion_mul T.sf_Motion G_Motion_mul (hr.mono (by decide)) hg T.b_Motion_mul pass0) (pv 2) (pv 3)))
      (pss_cons (ps_for PassesOwn.never rfl (pi_list (pv 1)) (pg_name (i := 6) sc_law_products_right.nd rfl (Or.inl rfl))
      (pss_one (ps_if (pt_cmpR (op_neD hr.units) (peg_calli (i := 5) T.o_Motion_call T.fn_Motion_call G_Motion_call (hr.mono (by decide)) hg T.b_Motion_call pass0 rfl (.inl rfl) (pa_cons (pv 6) pa_nil)) (peg_call G_law_carried (hr.mono (by decide)) hg (by rfl) T.g_law_carried T.F_law_carried.kp T.b_law_carried .nil pass0 (pa_cons (pe_ix ix_seq (pv 0) pe_int (fun _ _ => rfl)) (pa_cons (peg_call G_law_carried (hr.mono (by decide)) hg (by rfl) T.g_law_carried T.F_law_carried.kp T.b_law_carried .nil pass0 (pa_cons (pe_ix ix_seq (pv 0) pe_int (fun _ _ => rfl)) (pa_cons (pv 6) pa_nil))) pa_nil))) (nomark _))
      (pss_one (ps_ret pe_bl)) pss_nil)))
      (pss_cons (ps_if (PW.pt (pw_or (pt_cmpR (opg_ne T.e_Motion G_Motion_eq (hr.mono (by decide)) hg T.b_Motion_eq pass0) (pe_op (opg_bin (op := .Mult) T.o_Motion_mul T.sf_Motion G_Motion_mul (hr.mono (by decide)) hg T.b_Motion_mul pass0) (pe_op (opg_bin (op := .Mult) T.o_Motion_mul T.sf_Motion G_Motion_mul (hr.mono (by decide)) hg T.b_Motion_mul pass0) (pv 2) (pv 3)) (pv 4)) (pe_op (opg_bin (op := .Mult) T.o_Motion_mul T.sf_Motion G_Motion_mul (hr.mono (by decide)) hg T.b_Motion_mul pass0) (pv 2) (pe_op (opg_bin (op := .Mult) T.o_Motion_mul T.sf_Motion G_Motion_mul (hr.mono (by decide)) hg T.b_Motion_mul pass0) (pv 3) (pv 4))) (nomark _)) (pw_or1 (pt_cmpR (opg_ne T.e_Motion G_Motion_eq (hr.mono (by decide)) hg T.b_Motion_eq pass0) (pe_un (ung_inv T.o_Motion_invert G_Motion_invert (hr.mono (by decide)) hg T.b_Motion_invert pass0) (pe_op (opg_bin (op := .Mult) T.o_Motion_mul T.sf_Motion G_Motion_mul (hr.mono (by decide)) hg T.b_Motion_mul pass0) (pv 2) (pv 3))) (pe_op (opg_bin (op := .Mult) T.o_Motion_mul T.sf_Motion G_Motion_mul (hr.mono (by decide)) hg T.b_Motion_mul pass0) (pe_un (ung_inv T.o_Motion_invert G_Motion_invert (hr.mono (by decide)) hg T.b_Motion_invert pass0) (pv 3)) (pe_un (ung_inv T.o_Motion_invert G_Motion_invert (hr.mono (by decide)) hg T.b_Motion_invert pass0) (pv 2))) (nomark _)))))
      (pss_one (ps_ret pe_bl)) pss_nil)
      (pss_one (ps_ret (pe_and (pe_cmpR (op_eqD hr.units) (pe_lst (pa_cons (peg_call G_law_told (hr.mono (by decide)) hg (by rfl) T.g_law_told T.F_law_told.kp T.b_law_told .nil pass0 (pa_cons (pv 2) pa_nil)) (pa_cons (peg_call G_law_told (hr.mono (by decide)) hg (by rfl) T.g_law_told T.F_law_told.kp T.b_law_told .nil pass0 (pa_cons (pv 3) pa_nil)) (pa_cons (peg_call G_law_told (hr.mono (by decide)) hg (by rfl) T.g_law_told T.F_law_told.kp T.b_law_told .nil pass0 (pa_cons (pv 4) pa_nil)) pa_nil)))) (pv 0) (nomark _)) (pe_one (pe_cmpR (opg_eq T.e_Motion G_Motion_eq (hr.mono (by decide)) hg T.b_Motion_eq pass0) (pe_op (opg_bin (op := .Mult) T.o_Motion_mul T.sf_Motion G_Motion_mul (hr.mono (by decide)) hg T.b_Motion_mul pass0) (pv 2) (peg_make T.k_Motion G_Motion_init (hr.mono (by decide)) hg (by rfl) T.g_Motion bd_Motion_init vd_Motion_init pass0 (pa_cons pe_str pa_nil))) (pv 2) (nomark _)))))))))), ?_⟩
    walk_at "go"
    refine ⟨.ref p, rfl, p, rfl, ⟨_, SqL.of hp⟩, fun D hD => ?_⟩
    have one : ∀ {k : Str} {m : Mat} {x y : Int} {z : V} {H' : Hp} {Qe : VK}, MV2 K H z k m x y → Stp none H H' → (∀ r H2, Stp none H' H2 → MA ad.C_Motion H2 r k m x y → Qe r H2) →
        tMake ad.C_Motion (sp_Motion_init K ad.C_Motion) [] E0 (tCons (tOp (rIx K) (tVar 7) (tC (V.int 0))) (tCons (tOp (rIx K) (tVar 7) (tC (V.int 1))) tNil))
          ((wipe (L2.start N_law_products_right [V.ref p, V.ref a]) (List.map (fun x => x.snd) [(Str.ofString "_law_move", 7)])).set 7 (some z)) H' Qe := by
      intro k m x y z H' Qe hz s' qe
      obtain ⟨hk, q0, u0, rfl, hq0, hu0⟩ := hz.mv s'
      walk_at "go"
      refine r_ixT0 hq0 ?_
      walk_at "go"
      refine r_ixT1 hq0 ?_
      walk_at "go"
      exact do_Motion hk hu0.k fun r H2 S2 h2 => qe r H2 S2 h2
    refine lc_list (xs := [va, vb, vc]) (fun i H' => (∀ b o, H b = some o → H' b = some o) ∧ ∃ zs, H' D = some (.lst zs) ∧ zs.length = i ∧ (0 < i → ∃ z, zs[0]? = some z ∧ MA ad.C_Motion H' z k1 m1 x1 y1) ∧
      (1 < i → ∃ z, zs[1]? = some z ∧ MA ad.C_Motion H' z k2 m2 x2 y2) ∧ (2 < i → ∃ z, zs[2]? = some z ∧ MA ad.C_Motion H' z k3 m3 x3 y3)) ⟨?_, [], upd_same, rfl, fun z => absurd z (by decide), fun z => absurd z (by decide), fun z => absurd z (by decide)⟩
      (fun i H' _ pv => SqL.of (pv.1 _ _ hp)) (fun i z H' hz pv => ?_) (fun H' pv => ?_)
    · intro b o e
      rw [upd_ne (ne_of_none e hD)]
      exact e
    · obtain ⟨pk, zs, pz, pl, p0, p1, p2⟩ := pv
      have s' : Stp none H H' := Stp.of pk none
      -- a motion that stood stays as it was when the list is written
      have kp : ∀ {H2 : Hp} {ys : List V} {r : V} {k : Str} {m : Mat} {x y : Int}, H2 D = some (.lst zs) → MA ad.C_Motion H2 r k m x y → MA ad.C_Motion (upd H2 D (.lst ys)) r k m x y := by
        rintro H2 ys r k m x y eD ⟨hk, q0, dx, u, rfl, h1, t, rfl, h2⟩
        refine ⟨hk, q0, dx, .ref t, rfl, ?_, t, rfl, ?_⟩
        · rw [upd_ne (by rintro rfl; rw [eD] at h1; cases h1)]; exact h1
        · rw [upd_ne (by rintro rfl; rw [eD] at h2; cases h2)]; exact h2
      have sv : ∀ {H2 : Hp} {ys : List V}, Stp none H' H2 → ∀ b o, H b = some o → upd H2 D (.lst ys) b = some o := fun S2 b o e => by
        rw [upd_ne (ne_of_none e hD)]
        exact S2.all _ _ (pk _ _ e)
      match i, hz with
      | 0, hz =>
        cases hz
        refine ⟨rfl, r_yes (r_T (one hva s' fun r H2 S2 h2 => ?_))⟩
        refine ⟨zs, S2.all _ _ pz, by rw [pl]; decide, sv S2, zs ++ [r], upd_same, by rw [List.length_append, pl]; rfl, fun _ => ⟨r, ?_, kp (S2.all _ _ pz) h2⟩, fun z => absurd z (by decide), fun z => absurd z (by decide)⟩
        rw [List.getElem?_append_right (by omega), pl]; rfl
      | 1, hz =>
        cases hz
        obtain ⟨z0, e0, g0⟩ := p0 (by decide)
        refine ⟨rfl, r_yes (r_T (one hvb s' fun r H2 S2 h2 => ?_))⟩
        refine ⟨zs, S2.all _ _ pz, by rw [pl]; decide, sv S2, zs ++ [r], upd_same, by rw [List.length_append, pl]; rfl, fun _ => ⟨z0, ?_, kp (S2.all _ _ pz) (g0.mv S2)⟩, fun _ => ⟨r, ?_, kp (S2.all _ _ pz) h2⟩, fun z => absurd z (by decide)⟩
        · rw [List.getElem?_append_left (by omega)]; exact e0
        · rw [List.getElem?_append_right (by omega), pl]; rfl
      | 2, hz =>
        cases hz
        obtain ⟨z0, e0, g0⟩ := p0 (by decide)
        obtain ⟨z1, e1, g1⟩ := p1 (by decide)
        refine ⟨rfl, r_yes (r_T (one hvc s' fun r H2 S2 h2 => ?_))⟩
        refine ⟨zs, S2.all _ _ pz, by rw [pl]; decide, sv S2, zs ++ [r], upd_same, by rw [List.length_append, pl]; rfl, fun _ => ⟨z0, ?_, kp (S2.all _ _ pz) (g0.mv S2)⟩, fun _ => ⟨z1, ?_, kp (S2.all _ _ pz) (g1.mv S2)⟩, fun _ => ⟨r, ?_, kp (S2.all _ _ pz) h2⟩⟩
        · rw [List.getElem?_append_left (by omega)]; exact e0
        · rw [List.getElem?_append_left (by omega)]; exact e1
        · rw [List.getElem?_append_right (by omega), pl]; rfl
    · obtain ⟨pk, zs, pz, pl, p0, p1, p2⟩ := pv
      obtain ⟨z0, e0, g0⟩ := p0 (show 0 < 3 by decide)
      obtain ⟨z1, e1, g1⟩ := p1 (show 1 < 3 by decide)
      obtain ⟨z2, e2, g2⟩ := p2 (show 2 < 3 by decide)
      have ez : zs = [z0, z1, z2] := by
        match zs, pl, e0, e1, e2 with
        | [a, b, c], _, e0, e1, e2 => cases e0; cases e1; cases e2; rfl
      subst ez
      have s' : Stp none H H' := Stp.of pk none
      refine ⟨D, _, rfl, SqL.of pz, rfl, ?_⟩
      have hk1 := hva.1
      have hk2 := hvb.1
      have hk3 := hvc.1
      have s12 := sum62 hk2 b1 b2 b3 b4
      have s23 := sum62 hk3 b3 b4 b5 b6
      walk_at "go"
      refine do_mul T.i_Motion T.cl_Motion g0 g1 (sm62 b1) (sm62 b2) fun z5 j5 H5 S5 g5 => ?_
      have hj5 := g5.1
      have q0 : MA ad.C_Motion H5 z0 k1 m1 x1 y1 := g0.mv S5
      have q1 : MA ad.C_Motion H5 z1 k2 m2 x2 y2 := g1.mv S5
      have q2 : MA ad.C_Motion H5 z2 k3 m3 x3 y3 := g2.mv S5
      have s5 : Stp none H H5 := s'.trans S5
      walk_at "go"
      refine ForL.ok ⟨a, ws, fun _ σ H' => ∃ t6, σ = [some (.ref p), some (.ref a), some z0, some z1, some z2, some z5, t6, none] ∧ Stp none H5 H', rfl, ⟨none, rfl, Stp.refl _ _⟩,
        fun _ σ H' _ ⟨_, _, s⟩ => s.all _ _ (s5.all _ _ hl.1), ?_, ?_⟩
      · rintro i v' σ H' hx' ⟨t6, rfl, s6⟩
        obtain ⟨a', b', iv0, ba, bb⟩ := hl.2 i v' hx'
        have iv : IT H' v' [a', b'] := (iv0.mv s5).mv s6
        have hA : MV2 K H' va k1 m1 x1 y1 := (hva.mv s5).mv s6
        have hB : MV2 K H' vb k2 m2 x2 y2 := (hvb.mv s5).mv s6
        have hP : H' p = some (.lst [va, vb, vc]) := s6.all _ _ (s5.all _ _ hp)
        have hZ : MA ad.C_Motion H' z5 j5 (mmul m2 m1) (mx m2 x1 y1 + x2) (my m2 x1 y1 + y2) := g5.mv s6
        walk_at "go"
        refine r_calli rfl hZ fun p2 dx2 fs2 ep2 hp2 => ?_
        walk_at "go"
        refine ⟨⟨_, hp2⟩, do_Motion_call hZ iv.k (co27 ba) (co27 bb) fun z6 H6 S6 i6 => ?_⟩
        walk_at "go"
        refine do_law_carried (hA.mv S6) (iv.mv S6).k fun z7 H7 S7 i7 => ?_
        walk_at "go"
        refine do_law_carried ((hB.mv S6).mv S7) i7.k fun z8 H8 S8 i8 => ?_
        walk_at "go"
        refine r_nX (by rw [both_x, both_y]) ?_
        walk_at "go"
        exact ⟨_, rfl, by walk_at "st"⟩
      · rintro σ H' ⟨t6, rfl, s6⟩
        have w0 : MA ad.C_Motion H' z0 k1 m1 x1 y1 := q0.mv s6
        have w1 : MA ad.C_Motion H' z1 k2 m2 x2 y2 := q1.mv s6
        have w2 : MA ad.C_Motion H' z2 k3 m3 x3 y3 := q2.mv s6
        have hP : H' p = some (.lst [va, vb, vc]) := s6.all _ _ (s5.all _ _ hp)
        have hA : MV2 K H' va k1 m1 x1 y1 := (hva.mv s5).mv s6
        have hB : MV2 K H' vb k2 m2 x2 y2 := (hvb.mv s5).mv s6
        have hC : MV2 K H' vc k3 m3 x3 y3 := (hvc.mv s5).mv s6
        have sE : Stp none H H' := s5.trans s6
        clear s6 s5 hl hva hvb hvc hp S5 g5 q0 q1 q2 g0 g1 g2 s' pk pz e0 e1 e2
        walk_at "go"
        refine do_mul T.i_Motion T.cl_Motion (by walk_at "up") (by walk_at "up") (sm62 b1) (sm62 b2) fun zA jA HA SA gA => ?_
        walk_at "go"
        refine do_mul T.i_Motion T.cl_Motion (by walk_at "up") (by walk_at "up") s12.1 s12.2 fun zB jB HB SB gB => ?_
        walk_at "go"
        refine do_mul T.i_Motion T.cl_Motion (by walk_at "up") (by walk_at "up") (sm62 b3) (sm62 b4) fun zC jC HC SC gC => ?_
        walk_at "go"
        refine do_mul T.i_Motion T.cl_Motion (by walk_at "up") (by walk_at "up") (sm62 b1) (sm62 b2) fun zD jD HD SD gD => ?_
        walk_at "go"
        have eBD : jB = jD := by
          have h := gB.1
          rw [assoc_list _ hk3 _ hk2 _ hk1] at h
          exact h.same gD.1
        rw [both_x, both_y] at gD
        refine do_mne T.i_Motion T.cl_Motion (by walk_at "up") gD ?_
        rw [eBD, same2]
        walk_at "go"
        refine do_mul T.i_Motion T.cl_Motion (by walk_at "up") (by walk_at "up") (sm62 b1) (sm62 b2) fun zE jE HE SE gE => ?_
        have hjE := gE.1
        walk_at "go"
        refine do_inv gE s12.1 s12.2 fun zF jF nF HF SF f1 f2 gF => ?_
        walk_at "go"
        refine do_inv (k := k2) (m := m2) (x := x2) (y := y2) (by walk_at "up") (sm62 b3) (sm62 b4) fun zG jG nG HG SG g1 g2 gG => ?_
        walk_at "go"
        refine do_inv (k := k1) (m := m1) (x := x1) (y := y1) (by walk_at "up") (sm62 b1) (sm62 b2) fun zI jI nI HI SI h1 h2 gI => ?_
        have ng := neg62 gG.1 b3 b4
        walk_at "go"
        refine do_mul T.i_Motion T.cl_Motion (gG.mv SI) gI ng.1 ng.2 fun zJ jJ HJ SJ gJ => ?_
        have en : nF = mmul nI nG := invs_list _ hjE _ gF.1 (_, _) gJ.1 f1 (prodinv_list _ hk1 _ hk2 _ gI.1 h2 _ gG.1 g2)
        subst en
        have ej : jF = jJ := gF.1.same gJ.1
        rw [← inv_x g1, ← inv_y g1] at gJ
        have gF' : MA ad.C_Motion HJ zF jF (mmul nI nG) _ _ := ((gF.mv SG).mv SI).mv SJ
        walk_at "go"
        refine do_mne T.i_Motion T.cl_Motion gF' gJ ?_
        rw [ej, same2]
        walk_at "go"
        refine do_law_told (by walk_at "up") fun t1 HK SK iK => ?_
        walk_at "go"
        refine do_law_told (by walk_at "up") fun t2 HL SL iL => ?_
        walk_at "go"
        refine do_law_told (by walk_at "up") fun t3 HM SM iM => ?_
        walk_at "go"
        rename_i lN HN SN hN nN
        have d1 := ((iK.mv SL).mv SM).mv SN
        have d2 := (iL.mv SM).mv SN
        have d3 := iM.mv SN
        have sx : Stp none H' HN := by walk_at "st"
        refine ⟨dml k1 k2 k3 x1 y1 x2 y2 x3 y3, dml k1 k2 k3 x1 y1 x2 y2 x3 y3, .lst (SqL.of hN) (.cons d1.dp (.cons d2.dp (.cons d3.dp .nil))),
          .lst (SqL.of (sx.all _ _ hP)) (.cons (hA.mv sx).dp (.cons (hB.mv sx).dp (.cons (hC.mv sx).dp .nil))), shaped_ml hk1 hk2 hk3, shaped_ml hk1 hk2 hk3, ?_⟩
        rw [eqv_ml]
        walk_at "go"
        refine r_make ?_
        walk_at "go"
        have hd0 : IK K HN (.ref ad.dfl0) [0, 0] := KT.k (ns := [0, 0]) T.t_dfl0
        refine do_Motion (k := "none") (m := mone) (v := .ref ad.dfl0) (by unfold Kd; exact List.mem_cons_self) hd0 fun zN HO SO gO => ?_
        refine do_mul T.i_Motion T.cl_Motion (k := k1) (m := m1) (x := x1) (y := y1) (by walk_at "up") gO (sm62 b1) (sm62 b2) fun zP jP HP SP gP => ?_
        have ejP : jP = k1 := by
          have h := gP.1
          rw [one_list _ hk1] at h
          exact h.same hk1
        walk_at "go"
        refine do_meq T.i_Motion T.cl_Motion (l := k1) (n := m1) (a := x1) (b := y1) gP (by walk_at "up") ?_
        rw [ejP, mx_one, my_one, Int.add_zero, Int.add_zero, same2]
        exact q _ (by walk_at "st")
theorem do_law_products_right {a : Addr} {ws : List V} {k1 k2 k3 : Str} {m1 m2 m3 : Mat} {x1 y1 x2 y2 x3 y3 : Int} (h : ML K H v k1 k2 k3 m1 m2 m3 x1 y1 x2 y2 x3 y3) (b1 : Sm x1) (b2 : Sm y1) (b3 : Sm x2) (b4 : Sm y2) (b5 : Sm x3) (b6 : Sm y3)
    (hl : PL H a ws) (q : ∀ H', Stp none H H' → Q (.bl true) H') : sp_law_products_right K [v, .ref a] H Q E := ⟨v, a, ws, k1, k2, k3, m1, m2, m3, x1, y1, x2, y2, x3, y3, rfl, h, b1, b2, b3, b4, b5, b6, hl, q⟩
end
end Law

set_option Elab.async false
set_option linter.all false
set_option maxRecDepth 100000
set_option maxHeartbeats 4000000
namespace Law
open PySem PySem.Spec PyProof.Rows L2 MV
local macro_rules | `(tactic| walk_at "up") => `(tactic| first
  | assumption
  | (refine' IT.mv ?s ?g; (case s => assumption); (case g => walk_at "up"))
  | (refine' IT.k ?g; (case g => walk_at "up"))
  | (refine' IK.mv ?s ?g; (case s => assumption); (case g => walk_at "up"))
  | (refine' Tape.mvN ?s ?g; (case s => assumption); (case g => walk_at "up"))
  | (refine' Tape.mvS ?s ?g; (case s => assumption); (case g => walk_at "up"))
  | (refine' At.tup ?s ?g; (case s => assumption); (case g => walk_at "up"))
  | (refine' At.ins ?s ?g; (case s => assumption); (case g => walk_at "up"))
  | (refine' At.lst ?s ?g; (case s => assumption); (case g => walk_at "up"))
  | (refine' At.lstS ?s ?n ?g; (case s => assumption); (case n => assumption); (case g => walk_at "up"))
  | fail)
local macro_rules | `(tactic| walk_at "st") => `(tactic| first
  | assumption
  | exact Stp.refl _ _
  | (refine' Stp.w ?s; (case s => assumption))
  | (refine' Stp.trans ?g ?s; (case s => (first | assumption | (refine' Stp.w ?u; (case u => assumption)))); (case g => walk_at "st"))
  | fail)
local macro_rules | `(tactic| walk_at "bT") => `(tactic| first
  | decide
  | (simp only [Bool.not_eq_true', Bool.not_eq_false', decide_eq_true_eq, decide_eq_false_iff_not]; omega)
  | fail)
local macro_rules | `(tactic| walk_at "sd") => `(tactic| first | assumption | decide | omega | fail)
local macro_rules | `(tactic| walk_at "r") => `(tactic| first
  | (with_reducible refine r_seq ?_)
  | (with_reducible refine r_asg ?_)
  | ((with_reducible refine' r_var ?h ?k); (case h => rfl))
  | (with_reducible refine r_c ?_)
  | (with_reducible refine r_op ?_)
  | (with_reducible refine r_un ?_)
  | (with_reducible refine r_nil ?_)
  | (with_reducible refine r_cons ?_)
  | (with_reducible refine r_tup ?_)
  | (with_reducible refine r_lst ?_)
  | (with_reducible refine r_cbLen ?_)
  | (with_reducible refine r_cbInt ?_)
  | (with_reducible refine r_cbRepr ?_)
  | (with_reducible refine r_cbTup ?_)
  | (with_reducible refine r_cbLst ?_)
  | (with_reducible refine r_cb ?_)
  | (with_reducible refine r_prop ?_)
  | (with_reducible refine r_andV ?_)
  | (with_reducible refine r_orV ?_)
  | (with_reducible refine r_notV ?_)
  | (with_reducible refine r_chain ?_)
  | (with_reducible refine r_ifE ?_)
  | (with_reducible refine r_test ?_)
  | (with_reducible refine r_B ?_)
  | (with_reducible refine r_and ?_)
  | (with_reducible refine r_or ?_)
  | (with_reducible refine r_not ?_)
  | (with_reducible refine r_yes ?_)
  | (with_reducible refine r_k ?_)
  | (with_reducible refine r_kV ?_)
  | (with_reducible refine r_next ?_)
  | (with_reducible refine r_drop ?_)
  | (with_reducible refine r_ret ?_)
  | (with_reducible refine r_ifS ?_)
  | (with_reducible refine r_par ?_)
  | (with_reducible refine r_par1 ?_)
  | (with_reducible refine r_gname ?_)
  | (with_reducible refine r_gnil ?_)
  | (with_reducible refine r_gcons ?_)
  | ((with_reducible refine' r_unpack2 ?h ?k); (case h => walk_at "up"))
  | ((with_reducible refine' r_unpack3 ?h ?k); (case h => walk_at "up"))
  | (with_reducible refine r_add ?_)
  | (with_reducible refine r_sub ?_)
  | (with_reducible refine r_neg ?_)
  | ((with_reducible refine' r_mod ?h ?k); (case h => walk_at "sd"))
  | ((with_reducible refine' r_div ?h ?k); (case h => walk_at "sd"))
  | ((with_reducible refine' r_mul ?h ?k); (case h => walk_at "sd"))
  | ((with_reducible refine' r_mulW ?h ?k); (case h => walk_at "sd"))
  | ((with_reducible refine' r_pow ?h ?k); (case h => (show (0 : Int) ≤ _ ∧ _ ∧ _; decide)))
  | (with_reducible refine r_lt ?_)
  | (with_reducible refine r_le ?_)
  | (with_reducible refine r_gt ?_)
  | (with_reducible refine r_ge ?_)
  | (with_reducible refine r_eqI ?_)
  | (with_reducible refine r_neI ?_)
  | (with_reducible refine r_eqS ?_)
  | (with_reducible refine r_neS ?_)
  | ((with_reducible refine' r_eqT ?h ?g ?k); (case h => walk_at "up"); (case g => walk_at "up"))
  | ((with_reducible refine' r_neT ?h ?g ?k); (case h => walk_at "up"); (case g => walk_at "up"))
  | ((with_reducible refine' r_ix0 ?h ?k); (case h => walk_at "up"))
  | ((with_reducible refine' r_ix1 ?h ?k); (case h => walk_at "up"))
  | ((with_reducible refine' r_ix2 ?h ?k); (case h => walk_at "up"))
  | (with_reducible refine r_newI2 (fun v H2 S I => ?_))
  | (with_reducible refine r_newI3 (fun v H2 S I => ?_))
  | (with_reducible refine r_newL1 (fun p H2 S hp np => ?_))
  | (with_reducible refine r_newL2 (fun p H2 S hp np => ?_))
  | (with_reducible refine r_newL3 (fun p H2 S hp np => ?_))
  | (with_reducible refine r_T ?_)
  | (with_reducible refine r_F ?_)
  | fail)
local macro_rules | `(tactic| walk_at "go") => `(tactic| repeat (walk_at "r"))
local macro_rules | `(tactic| walk_at "r") => `(tactic| first
  | (with_reducible refine r_call0 ?_)
  | (with_reducible refine r_meth0 ?_)
  | (with_reducible refine r_make0 ?_)
  | (with_reducible refine r_isiII ?_)
  | (with_reducible refine r_isiIB ?_)
  | ((with_reducible refine' r_isiTT ?h ?k); (case h => walk_at "up"))
  | ((with_reducible refine' r_len2 ?h ?k); (case h => walk_at "up"))
  | ((with_reducible refine' r_len3 ?h ?k); (case h => walk_at "up"))
  | ((with_reducible refine' r_lenL ?h ?k); (case h => walk_at "up"))
  | (with_reducible refine r_int1 ?_)
  | (with_reducible refine r_int1B ?_)
  | (with_reducible refine r_nT ?_)
  | (with_reducible refine r_nF ?_)
  | (with_reducible refine r_gcd ?_)
  | (with_reducible refine r_gsub ?_)
  | (with_reducible refine r_fld ?_)
  | (with_reducible refine r_p6 ?_)
  | (with_reducible refine r_p9 ?_)
  | (with_reducible refine r_p10 ?_)
  | (with_reducible refine r_p11 ?_)
  | (with_reducible refine r_p12 ?_)
  | (with_reducible refine r_p18 ?_)
  | (with_reducible refine r_p20 ?_)
  | (with_reducible refine r_p26 ?_)
  | (with_reducible refine r_p27 ?_)
  | (with_reducible refine r_p30 ?_)
  | ((with_reducible refine' r_iF ?h ?k); (case h => walk_at "bT"))
  | ((with_reducible refine' r_iT ?h ?k); (case h => walk_at "bT"))
  | (with_reducible refine r_sfld ?_)
  | (with_reducible refine r_sl ?_)
  | (with_reducible refine r_noPart ?_)
  | (with_reducible refine r_part ?_)
  | (with_reducible refine r_pk ?_)
  | ((with_reducible refine' r_unl2 ?h ?k); (case h => walk_at "up"))
  | ((with_reducible refine' r_ixLi ?h ?h0 ?hn ?k); (case h => walk_at "up"); (case h0 => walk_at "sd"); (case hn => rfl))
  | fail)

local macro_rules | `(tactic| walk_at "r") => `(tactic| with_reducible refine do_is_integer ?_)
local macro_rules | `(tactic| walk_at "r") => `(tactic| first | ((with_reducible refine' do_is_place ?h ?k); (case h => walk_at "up")) | fail)
local macro_rules | `(tactic| walk_at "r") => `(tactic| first | ((with_reducible refine' do_check_place ?h ?k); (case h => walk_at "up")) | fail)
local macro_rules | `(tactic| walk_at "up") => `(tactic| first | (refine' MA.mv ?s ?g; (case s => assumption); (case g => walk_at "up")) | fail)
local macro_rules | `(tactic| walk_at "r") => `(tactic| first
  | ((with_reducible refine' do_Motion_kind ?h ?k); (case h => walk_at "up"))
  | (with_reducible refine r_forR ?_)
  | (with_reducible refine r_forL ?_)
  | (with_reducible refine r_cval ?_)
  | (with_reducible refine r_isiSS ?_)
  | fail)

local macro_rules | `(tactic| walk_at "dr") => `(tactic| (refine do_law_draw (by walk_at "up") (by first | decide | omega) (by first | decide | omega) ?_))
local macro_rules | `(tactic| walk_at "bT") => `(tactic| first | decide +kernel | fail)
local macro_rules | `(tactic| walk_at "r") => `(tactic| first
  | ((with_reducible refine' r_inT ?h ?f ?g ?e ?k); (case h => walk_at "up"); (case f => rfl); (case g => rfl); (case e => decide +kernel))
  | ((with_reducible refine' r_inF ?h ?f ?g ?e ?k); (case h => walk_at "up"); (case f => rfl); (case g => rfl); (case e => decide +kernel))
  | fail)
/-! ### powers of a motion, numbers only -/
abbrev Aff := Mat × Int × Int
/-- first B, then A -/
def acomp (A B : Aff) : Aff := (mmul A.1 B.1, mx A.1 B.2.1 B.2.2 + A.2.1, my A.1 B.2.1 B.2.2 + A.2.2)
def aone : Aff := (mone, 0, 0)
def aap (A : Aff) (p : Int × Int) : Int × Int := (mx A.1 p.1 p.2 + A.2.1, my A.1 p.1 p.2 + A.2.2)
theorem mmul_assoc (m n o : Mat) : mmul m (mmul n o) = mmul (mmul m n) o := by
  obtain ⟨a1, a2, a3, a4⟩ := m
  obtain ⟨b1, b2, b3, b4⟩ := n
  obtain ⟨c1, c2, c3, c4⟩ := o
  unfold mmul
  simp only [Int.mul_add, Int.add_mul, Int.mul_assoc]
  refine Prod.ext ?_ (Prod.ext ?_ (Prod.ext ?_ ?_)) <;> simp only [] <;> omega
theorem aap_comp (A B : Aff) (p : Int × Int) : aap (acomp A B) p = aap A (aap B p) := by
  unfold aap acomp
  refine Prod.ext ?_ ?_
  · simp only []
    rw [mx_add, mx_mul]; omega
  · simp only []
    rw [my_add, my_mul]; omega
theorem acomp_assoc (A B C : Aff) : acomp A (acomp B C) = acomp (acomp A B) C := by
  unfold acomp
  refine Prod.ext (mmul_assoc _ _ _) (Prod.ext ?_ ?_)
  · simp only []
    rw [mx_add, mx_mul]; omega
  · simp only []
    rw [my_add, my_mul]; omega
theorem mmul_one (m : Mat) : mmul m mone = m := by
  obtain ⟨a1, a2, a3, a4⟩ := m
  unfold mmul mone
  refine Prod.ext ?_ (Prod.ext ?_ (Prod.ext ?_ ?_)) <;> simp only [] <;> omega
theorem one_mmul (m : Mat) : mmul mone m = m := by
  obtain ⟨a1, a2, a3, a4⟩ := m
  unfold mmul mone
  refine Prod.ext ?_ (Prod.ext ?_ (Prod.ext ?_ ?_)) <;> simp only [] <;> omega
theorem acomp_one (A : Aff) : acomp A aone = A := by
  unfold acomp aone
  refine Prod.ext (mmul_one _) (Prod.ext ?_ ?_)
  · simp only [mx]; omega
  · simp only [my]; omega
theorem one_acomp (A : Aff) : acomp aone A = A := by
  unfold acomp aone
  refine Prod.ext (one_mmul _) (Prod.ext ?_ ?_)
  · simp only [mx_one]; omega
  · simp only [my_one]; omega
theorem aap_one (p : Int × Int) : aap aone p = p := by
  unfold aap aone
  refine Prod.ext ?_ ?_
  · simp only [mx_one]; omega
  · simp only [my_one]; omega
/-- what repeated gives -/
def R4 (m : Mat) (x y n : Int) : Aff := rp m x y (n / 4 * (f4 m x y).1) (n / 4 * (f4 m x y).2) (n % 4).toNat
theorem rp_four {k : Str} {m : Mat} (h : Kd k m) (x y u v : Int) : rp m x y u v 4 = (mone, u + (f4 m x y).1, v + (f4 m x y).2) := by
  rcases h.mat with rfl | rfl | rfl | rfl | rfl | rfl | rfl | rfl <;>
  · refine Prod.ext ?_ (Prod.ext ?_ ?_)
    · rfl
    · simp only [rp, f4, mx, my]; omega
    · simp only [rp, f4, mx, my]; omega
theorem R4_succ {k : Str} {m : Mat} (h : Kd k m) (x y n : Int) : R4 m x y (n + 1) = acomp (m, x, y) (R4 m x y n) := by
  unfold R4
  by_cases c : n % 4 = 3
  · have e1 : (n + 1) / 4 = n / 4 + 1 := by omega
    have e2 : ((n + 1) % 4).toNat = 0 := by omega
    have e3 : (n % 4).toNat = 3 := by omega
    rw [e1, e2, e3]
    have e4 := rp_four h x y (n / 4 * (f4 m x y).1) (n / 4 * (f4 m x y).2)
    show _ = rp m x y _ _ 4
    rw [e4]
    refine Prod.ext rfl (Prod.ext ?_ ?_)
    · show (n / 4 + 1) * _ = _
      rw [Int.add_mul, Int.one_mul]
    · show (n / 4 + 1) * _ = _
      rw [Int.add_mul, Int.one_mul]
  · have e1 : (n + 1) / 4 = n / 4 := by omega
    have e2 : ((n + 1) % 4).toNat = (n % 4).toNat + 1 := by omega
    rw [e1, e2]
    rfl
theorem R4_zero (m : Mat) (x y : Int) : R4 m x y 0 = aone := by
  unfold R4 aone
  show (mone, 0 / 4 * _, 0 / 4 * _) = _
  simp
theorem acomp_inj {k : Str} {m : Mat} (h : Kd k m) (x y : Int) {A B : Aff} (e : acomp (m, x, y) A = acomp (m, x, y) B) : A = B := by
  obtain ⟨j, n, _, e1, _⟩ := h.inv
  have e2 : acomp (n, -mx n x y, -my n x y) (m, x, y) = aone := by
    unfold acomp aone
    refine Prod.ext e1 (Prod.ext ?_ ?_)
    · simp only []; omega
    · simp only []; omega
  have e3 := congrArg (acomp (n, -mx n x y, -my n x y)) e
  rwa [acomp_assoc, acomp_assoc, e2, one_acomp, one_acomp] at e3
theorem R4_comp {k : Str} {m : Mat} (h : Kd k m) (x y : Int) (a b : Int) : acomp (R4 m x y a) (R4 m x y b) = R4 m x y (a + b) := by
  have up : ∀ i : Nat, acomp (R4 m x y i) (R4 m x y b) = R4 m x y (i + b) := by
    intro i
    induction i with
    | zero => show acomp (R4 m x y 0) _ = _; rw [R4_zero, one_acomp]; congr 1; omega
    | succ i ih =>
      have e : ((i + 1 : Nat) : Int) = (i : Int) + 1 := by omega
      rw [e, R4_succ h, ← acomp_assoc, ih, ← R4_succ h]
      congr 1; omega
  have dn : ∀ i : Nat, acomp (R4 m x y (-i)) (R4 m x y b) = R4 m x y (-i + b) := by
    intro i
    induction i with
    | zero => show acomp (R4 m x y 0) _ = _; rw [R4_zero, one_acomp]; congr 1; omega
    | succ i ih =>
      refine acomp_inj h x y ?_
      rw [acomp_assoc, ← R4_succ h, ← R4_succ h]
      have e : -((i + 1 : Nat) : Int) + 1 = -(i : Int) := by omega
      have e2 : -((i + 1 : Nat) : Int) + b + 1 = -(i : Int) + b := by omega
      rw [e, e2, ih]
  rcases Int.eq_nat_or_neg a with ⟨n, rfl | rfl⟩
  · exact up n
  · exact dn n
theorem R4_one {k : Str} {m : Mat} (h : Kd k m) (x y : Int) : R4 m x y 1 = (m, x, y) := by
  have := R4_succ h x y 0
  rw [R4_zero, acomp_one] at this
  exact this
theorem R4_back {k : Str} {m : Mat} (h : Kd k m) (x y n : Int) (p : Int × Int) : aap (R4 m x y (-n)) (aap (R4 m x y n) p) = p := by
  rw [← aap_comp, R4_comp h]
  have : -n + n = 0 := by omega
  rw [this, R4_zero, aap_one]
theorem R4_two {k : Str} {m : Mat} (h : Kd k m) (x y n : Int) {j : Str} (h2 : Kd j (R4 m x y n).1) : R4 (R4 m x y n).1 (R4 m x y n).2.1 (R4 m x y n).2.2 2 = R4 m x y (2 * n) := by
  have e := R4_succ h2 (R4 m x y n).2.1 (R4 m x y n).2.2 1
  rw [R4_one h2] at e
  have e3 : (2 : Int) = 1 + 1 := rfl
  rw [e3, e]
  show acomp (R4 m x y n) (R4 m x y n) = _
  rw [R4_comp h]
  congr 1; omega
section
variable {P : Program} {w : World} {K : PySem.W.Frag} {mg : Str → Option Value} {base : Heap} {ad : Ad} {H : Hp} {Q : VK} {E : XK} {i j x y : Int} {v : V}
theorem R4_bound {k : Str} {m : Mat} (h : Kd k m) {B N : Nat} (hB : B < 10 ^ 58) (hx : x.natAbs ≤ B) (hy : y.natAbs ≤ B) {n : Int} (hn : n.natAbs ≤ N) :
    (R4 m x y n).2.1.natAbs ≤ N * (4 * B) + 4 * B ∧ (R4 m x y n).2.2.natAbs ≤ N * (4 * B) + 4 * B := by
  have R := rb_of h hB hx hy
  have bq : (n / 4).natAbs ≤ N := Nat.le_trans (Int.natAbs_ediv_le_natAbs _ _) hn
  have u1 : (n / 4 * (f4 m x y).1).natAbs ≤ N * (4 * B) := by rw [Int.natAbs_mul]; exact Nat.mul_le_mul bq R.x3
  have u2 : (n / 4 * (f4 m x y).2).natAbs ≤ N * (4 * B) := by rw [Int.natAbs_mul]; exact Nat.mul_le_mul bq R.y3
  have r := rp_bound h hx hy u1 u2 (n % 4).toNat
  have i4 : (n % 4).toNat * B ≤ 4 * B := Nat.mul_le_mul_right B (by omega)
  exact ⟨Nat.le_trans r.1 (Nat.add_le_add_left i4 _), Nat.le_trans r.2 (Nat.add_le_add_left i4 _)⟩
theorem r_mrep {C : Addr} {a : TA} {σ : L2.St} {sp : Sp} {k : Str} {m : Mat} (h : MA C H v k m x y) (q : a σ H fun vs H2 => (sp : Sp) (v :: vs) H2 Q E) :
    ∃ b dx fs, v = V.ref b ∧ H b = some (.ins C dx fs) ∧ fs.lookup ("repeated" : Str) = none ∧ a σ H fun vs H2 => sp (v :: vs) H2 Q E := by
  obtain ⟨_, p, dx, u, rfl, hp, _⟩ := h
  exact ⟨p, dx, _, rfl, hp, rfl, q⟩
theorem do_rep {C : Addr} {n : Int} {k : Str} {m : Mat} (h : MA C H v k m x y) (hx : Sm x) (hy : Sm y) (hn : n.natAbs ≤ 10 ^ 28)
    (q : ∀ z j H', Stp none H H' → MA C H' z j (R4 m x y n).1 (R4 m x y n).2.1 (R4 m x y n).2.2 → Q z H') : sp_Motion_repeated K C [v, .int n] H Q E :=
  do_repeated h (Nat.le_of_lt hx) (Nat.le_of_lt hy) hn (by decide) (by decide) (by decide) q
theorem here_co {k : Str} {m : Mat} (h : Kd k m) {a b u v : Int} (ha : a.natAbs < 10 ^ 27) (hb : b.natAbs < 10 ^ 27) (hu : u.natAbs ≤ 10 ^ 56) (hv : v.natAbs ≤ 10 ^ 56) : Co (mx m a b + u) ∧ Co (my m a b + v) := by
  have := mb h (B := 10 ^ 27) (Nat.le_of_lt ha) (Nat.le_of_lt hb)
  unfold Co
  omega
theorem aff_eta (A : Aff) : (A.1, A.2.1, A.2.2) = A := rfl
def sp_law_powers_right (K : PySem.W.Frag) : Sp := fun vs H Q _ => ∃ t v u k m x y a b, vs = [.ref t, v, u] ∧ Tape H t ∧ MV2 K H v k m x y ∧ Sm x ∧ Sm y ∧ IT H u [a, b] ∧ a.natAbs < 10 ^ 27 ∧ b.natAbs < 10 ^ 27 ∧
  ∀ H', Stp (some t) H H' → Q (.bl true) H'
theorem ok_law_powers_right (T : Txt w K mg ad) : FnG P w K mg base CX0 8 ad.law_powers_right ad.law_powers_right_d P_law_powers_right (sp_law_powers_right K) := by
  have G_Motion_init := ok_Motion_init (P := P) (w := w) (base := base) T
  have G_Motion_call := ok_Motion_call (P := P) (w := w) (base := base) T
  have G_Motion_eq := ok_Motion_eq (P := P) (w := w) (base := base) T
  have G_Motion_mul := ok_Motion_mul (P := P) (w := w) (base := base) T
  have G_Motion_repeated := ok_Motion_repeated (P := P) (w := w) (base := base) T
  have G_law_carried := ok_law_carried (P := P) (w := w) (base := base) T
  have G_law_great := ok_law_great (P := P) (w := w) (base := base) T
  obtain ⟨ds_i, vd_Motion_init, bd_Motion_init⟩ := T.bd_Motion_init
  refine Fun.gn T.F_law_powers_right sc_law_powers_right (fun vs H Q E h => ?_) (fun cdv A outer s H vs Q E hr hg h => ?_)
  · obtain ⟨t, v, u, k, m, x, y, a, b, rfl, _⟩ := h
    rfl
  · obtain ⟨t, v, u, k, m, x, y, a, b, rfl, hT, hmv, bx, by', hu, ba, bb, q⟩ := h
    have hmv0 := hmv
    obtain ⟨hk, p0, u0, rfl, hp0, hu0⟩ := hmv0
    have rb := fun {n : Int} (hn : n.natAbs ≤ 10 ^ 28) => R4_bound hk (B := 10 ^ 26) (by decide) (Nat.le_of_lt bx) (Nat.le_of_lt by') hn
    refine ⟨_, (pss_cons (ps_par (i := 3) (j := 4) rfl sc_law_powers_right.nd rfl rfl (by decide) rfl rfl (pa_cons (peg_make T.k_Motion G_Motion_init (hr.mono (by decide)) hg (by rfl) T.g_Motion T.b_Motion_init .nil pass0 (pa_cons (pe_ix ix_seq (pv 1) pe_int (fun _ _ => rfl)) (pa_cons (pe_ix ix_seq (pv 1) pe_int (fun _ _ => rfl)) pa_nil))) (pa_cons (pv 2) pa_nil)) rfl)
      (pss_cons (ps_set (i := 5) sc_law_powers_right.nd rfl (Or.inl rfl) (peg_make T.k_Motion G_Motion_init (hr.mono (by decide)) hg (by rfl) T.g_Motion bd_Motion_init vd_Motion_init pass0 (pa_cons pe_str pa_nil)))
      (pss_cons (ps_for PassesOwn.never rfl (pi_range1 rfl T.z_range (pa_cons pe_int pa_nil)) (pg_name (i := 6) sc_law_powers_right.nd rfl (Or.inl rfl))
      (pss_cons (ps_par (i := 7) (j := 8) rfl sc_law_powers_right.nd rfl rfl (by decide) rfl rfl (pa_cons (peg_meth (pv 3) T.cl_Motion T.m_Motion_repeated G_Motion_repeated (hr.mono (by decide)) hg T.b_Motion_repeated .nil pass0 (pa_cons (pv 6) pa_nil)) (pa_cons (peg_meth (pv 3) T.cl_Motion T.m_Motion_repeated G_Motion_repeated (hr.mono (by decide)) hg T.b_Motion_repeated .nil pass0 (pa_cons (pe_op op_sub pe_int (pv 6)) pa_nil)) pa_nil)) rfl)
      (pss_cons (ps_if (PW.pt (pw_or (pt_cmpR (op_neD hr.units) (peg_calli (i := 7) T.o_Motion_call T.fn_Motion_call G_Motion_call (hr.mono (by decide)) hg T.b_Motion_call pass0 rfl (.inl rfl) (pa_cons (pv 2) pa_nil)) (pv 4) (nomark _)) (pw_or (pt_cmpR (opg_ne T.e_Motion G_Motion_eq (hr.mono (by decide)) hg T.b_Motion_eq pass0) (pv 7) (pv 5) (nomark _)) (pw_or1 (pt_cmpR (op_neD hr.units) (peg_calli (i := 8) T.o_Motion_call T.fn_Motion_call G_Motion_call (hr.mono (by decide)) hg T.b_Motion_call pass0 rfl (.inl rfl) (pa_cons (pv 4) pa_nil)) (pv 2) (nomark _))))))
      (pss_one (ps_ret pe_bl)) pss_nil)
      (pss_one (ps_par (i := 4) (j := 5) rfl sc_law_powers_right.nd rfl rfl (by decide) rfl rfl (pa_cons (peg_call G_law_carried (hr.mono (by decide)) hg (by rfl) T.g_law_carried T.F_law_carried.kp T.b_law_carried .nil pass0 (pa_cons (pv 1) (pa_cons (pv 4) pa_nil))) (pa_cons (pe_op (opg_bin (op := .Mult) T.o_Motion_mul T.sf_Motion G_Motion_mul (hr.mono (by decide)) hg T.b_Motion_mul pass0) (pv 5) (pv 3)) pa_nil)) rfl)))))
      (pss_cons (ps_set (i := 9) sc_law_powers_right.nd rfl (Or.inl rfl) (peg_call G_law_great (hr.mono (by decide)) hg (by rfl) T.g_law_great T.F_law_great.kp T.b_law_great .nil pass0 (pa_cons (pv 0) (pa_cons (pe_op op_pow pe_int pe_int) pa_nil))))
      (pss_cons (ps_set (i := 7) sc_law_powers_right.nd rfl (Or.inl rfl) (peg_meth (pv 3) T.cl_Motion T.m_Motion_repeated G_Motion_repeated (hr.mono (by decide)) hg T.b_Motion_repeated .nil pass0 (pa_cons (pv 9) pa_nil)))
      (pss_one (ps_ret (pe_and (pe_cmpR (opg_eq T.e_Motion G_Motion_eq (hr.mono (by decide)) hg T.b_Motion_eq pass0) (pe_op (opg_bin (op := .Mult) T.o_Motion_mul T.sf_Motion G_Motion_mul (hr.mono (by decide)) hg T.b_Motion_mul pass0) (pv 7) (peg_meth (pv 3) T.cl_Motion T.m_Motion_repeated G_Motion_repeated (hr.mono (by decide)) hg T.b_Motion_repeated .nil pass0 (pa_cons pe_int pa_nil))) (peg_meth (pv 3) T.cl_Motion T.m_Motion_repeated G_Motion_repeated (hr.mono (by decide)) hg T.b_Motion_repeated .nil pass0 (pa_cons (pe_op op_add (pv 9) pe_int) pa_nil)) (nomark _)) (pe_one (pe_cmpR (opg_eq T.e_Motion G_Motion_eq (hr.mono (by decide)) hg T.b_Motion_eq pass0) (peg_meth (pv 3) T.cl_Motion T.m_Motion_repeated G_Motion_repeated (hr.mono (by decide)) hg T.b_Motion_repeated .nil pass0 (pa_cons (pe_op op_mulW pe_int (pv 9)) pa_nil)) (peg_meth (pv 7) T.cl_Motion T.m_Motion_repeated G_Motion_repeated (hr.mono (by decide)) hg T.b_Motion_repeated .nil pass0 (pa_cons pe_int pa_nil)) (nomark _))))))))))), ?_⟩
    walk_at "go"
    refine r_ixT0 hp0 ?_
    walk_at "go"
    refine r_ixT1 hp0 ?_
    walk_at "go"
    refine do_Motion hk hu0.k fun m1 H1 S1 h1 => ?_
    walk_at "go"
    refine r_make ?_
    walk_at "go"
    have hd0 : IK K H1 (.ref ad.dfl0) [0, 0] := KT.k (ns := [0, 0]) T.t_dfl0
    refine do_Motion (k := "none") (m := mone) (v := .ref ad.dfl0) (by unfold Kd; exact List.mem_cons_self) hd0 fun w2 H2 S2 h2 => ?_
    walk_at "go"
    have s2 : Stp none H H2 := by walk_at "st"
    have u2 : IT H2 u [a, b] := hu.mv s2
    have m2 : MA ad.C_Motion H2 m1 k m x y := h1.mv S2
    have v2 : MV2 K H2 (.ref p0) k m x y := hmv.mv s2
    have t2 : Tape H2 t := hT.mvN s2
    clear S1 S2 h1 hu0 hp0
    refine ForR.ok ⟨7, fun i σ H' => ∃ hh wh n6 n7 n8 j, σ = [some (.ref t), some (.ref p0), some u, some m1, some hh, some wh, n6, n7, n8, none] ∧ Stp none H2 H' ∧
      IT H' hh [(aap (R4 m x y i) (a, b)).1, (aap (R4 m x y i) (a, b)).2] ∧ MA ad.C_Motion H' wh j (R4 m x y i).1 (R4 m x y i).2.1 (R4 m x y i).2.2, rfl, by decide, ⟨u, w2, none, none, none, "none", rfl, Stp.refl _ _, ?_, ?_⟩, ?_, ?_⟩
    · show IT H2 u [(aap (R4 m x y 0) (a, b)).1, (aap (R4 m x y 0) (a, b)).2]
      rw [R4_zero, aap_one]
      exact u2
    · show MA _ H2 w2 _ (R4 m x y 0).1 (R4 m x y 0).2.1 (R4 m x y 0).2.2
      rw [R4_zero]
      exact h2
    · rintro i σ H' hi ⟨hh, wh, n6, n7, n8, jw, rfl, s', ihh, iwh⟩
      have u3 : IT H' u [a, b] := u2.mv s'
      have m3 : MA ad.C_Motion H' m1 k m x y := m2.mv s'
      have v3 : MV2 K H' (.ref p0) k m x y := v2.mv s'
      have ni : (i : Int).natAbs ≤ 10 ^ 28 := by omega
      have nm : (0 - (i : Int)).natAbs ≤ 10 ^ 28 := by omega
      have b1 := rb ni
      have b2 := rb nm
      have hkw := iwh.1
      walk_at "go"
      refine r_mrep m3 ?_
      walk_at "go"
      refine do_rep m3 bx by' ni fun z4 j4 H4 S4 h4 => ?_
      walk_at "go"
      refine r_mrep (m3.mv S4) ?_
      walk_at "go"
      refine do_rep (m3.mv S4) bx by' nm fun z5 j5 H5 S5 h5 => ?_
      walk_at "go"
      refine r_calli rfl (h4.mv S5) fun p2 dx2 fs2 ep2 hp2 => ?_
      walk_at "go"
      have u5 : IT H5 u [a, b] := by walk_at "up"
      refine ⟨⟨_, hp2⟩, do_Motion_call (h4.mv S5) u5.k (co27 ba) (co27 bb) fun z6 H6 S6 i6 => ?_⟩
      walk_at "go"
      refine r_nX rfl ?_
      walk_at "go"
      refine do_mne T.i_Motion T.cl_Motion (h4.mv S5 |>.mv S6) (iwh.mv S4 |>.mv S5 |>.mv S6) ?_
      rw [h4.1.same hkw, same2]
      walk_at "go"
      have h5' : MA ad.C_Motion H6 z5 j5 _ _ _ := h5.mv S6
      have ihh' : IT H6 hh [(aap (R4 m x y i) (a, b)).1, (aap (R4 m x y i) (a, b)).2] := by walk_at "up"
      have hc : Co (aap (R4 m x y i) (a, b)).1 ∧ Co (aap (R4 m x y i) (a, b)).2 := here_co hkw ba bb (Nat.le_trans b1.1 (by decide)) (Nat.le_trans b1.2 (by decide))
      refine r_calli rfl h5' fun p7 dx7 fs7 ep7 hp7 => ?_
      walk_at "go"
      refine ⟨⟨_, hp7⟩, do_Motion_call h5' ihh'.k hc.1 hc.2 fun z8 H8 S8 i8 => ?_⟩
      have eb := R4_back hk x y i (a, b)
      have e0 : (0 : Int) - (i : Int) = -(i : Int) := by omega
      rw [e0] at i8
      have i8' : IT H8 z8 [(aap (R4 m x y (-(i : Int))) (aap (R4 m x y i) (a, b))).1, (aap (R4 m x y (-(i : Int))) (aap (R4 m x y i) (a, b))).2] := i8
      rw [eb] at i8'
      walk_at "go"
      refine r_nX rfl ?_
      walk_at "go"
      refine do_law_carried ((((v3.mv S4).mv S5).mv S6).mv S8) (IT.k (by walk_at "up")) fun z9 H9 S9 i9 => ?_
      walk_at "go"
      refine do_mul T.i_Motion T.cl_Motion (((((iwh.mv S4).mv S5).mv S6).mv S8).mv S9) (by walk_at "up") (Nat.lt_of_le_of_lt b1.1 (by decide)) (Nat.lt_of_le_of_lt b1.2 (by decide)) fun zA jA HA SA gA => ?_
      walk_at "go"
      have eS := R4_succ hk x y (i : Int)
      have gA' : MA ad.C_Motion HA zA jA (acomp (m, x, y) (R4 m x y i)).1 (acomp (m, x, y) (R4 m x y i)).2.1 (acomp (m, x, y) (R4 m x y i)).2.2 := gA
      have i9' : IT H9 z9 [(aap (m, x, y) (aap (R4 m x y i) (a, b))).1, (aap (m, x, y) (aap (R4 m x y i) (a, b))).2] := i9
      rw [← aap_comp] at i9'
      rw [← eS] at gA' i9'
      exact ⟨z9, zA, _, _, _, jA, rfl, by walk_at "st", i9'.mv SA, gA'⟩
    · rintro σ H' ⟨hh, wh, n6, n7, n8, jw, rfl, s', ihh, iwh⟩
      have m3 : MA ad.C_Motion H' m1 k m x y := m2.mv s'
      have t3 : Tape H' t := t2.mvN s'
      have sE : Stp none H H' := s2.trans s'
      clear ihh iwh
      walk_at "go"
      refine do_law_great t3 (by decide) (by decide) fun n H4 n0 n1 S4 => ?_
      have nn : n.natAbs ≤ 10 ^ 27 := by clear bx by' ba bb rb; omega
      have nf : n.natAbs ≤ 10 ^ 28 := by clear bx by' ba bb rb; omega
      have n4 : (n + 4).natAbs ≤ 10 ^ 28 := by clear bx by' ba bb rb; omega
      have n2 : (2 * n).natAbs ≤ 10 ^ 28 := by clear bx by' ba bb rb; omega
      have m4 : MA ad.C_Motion H4 m1 k m x y := m3.mv S4
      have bf := rb nf
      walk_at "go"
      refine r_mrep m4 ?_
      walk_at "go"
      refine do_rep m4 bx by' nf fun z5 j5 H5 S5 h5 => ?_
      have hk5 := h5.1
      walk_at "go"
      refine r_mrep (m4.mv S5) ?_
      walk_at "go"
      refine do_rep (m4.mv S5) bx by' (by decide) fun z6 j6 H6 S6 h6 => ?_
      walk_at "go"
      refine do_mul T.i_Motion T.cl_Motion (h5.mv S6) h6 (Nat.lt_of_le_of_lt bf.1 (by decide)) (Nat.lt_of_le_of_lt bf.2 (by decide)) fun z7 j7 H7 S7 h7 => ?_
      walk_at "go"
      refine r_mrep (m := m) (by walk_at "up") ?_
      walk_at "go"
      refine do_rep (m := m) (x := x) (y := y) (by walk_at "up") bx by' n4 fun z8 j8 H8 S8 h8 => ?_
      have h7' : MA ad.C_Motion H7 z7 j7 (acomp (R4 m x y 4) (R4 m x y n)).1 (acomp (R4 m x y 4) (R4 m x y n)).2.1 (acomp (R4 m x y 4) (R4 m x y n)).2.2 := h7
      rw [R4_comp hk, Int.add_comm 4 n] at h7'
      refine do_meq T.i_Motion T.cl_Motion (h7'.mv S8) h8 ?_
      rw [h7'.1.same h8.1, same2]
      walk_at "go"
      refine r_mrep (m := m) (by walk_at "up") ?_
      walk_at "go"
      refine r_mulW (mulW_of (by decide) (Nat.lt_of_le_of_lt nf (by decide))) ?_
      walk_at "go"
      refine do_rep (m := m) (x := x) (y := y) (by walk_at "up") bx by' n2 fun z9 j9 H9 S9 h9 => ?_
      walk_at "go"
      have h5' : MA ad.C_Motion H9 z5 j5 (R4 m x y n).1 (R4 m x y n).2.1 (R4 m x y n).2.2 := by walk_at "up"
      refine r_mrep h5' ?_
      walk_at "go"
      refine do_repeated (B := 10 ^ 56) (N := 2) h5' (Nat.le_trans bf.1 (by decide)) (Nat.le_trans bf.2 (by decide)) (by decide) (by decide) (by decide) (by decide) fun zA jA HA SA hA => ?_
      have hA' : MA ad.C_Motion HA zA jA (R4 (R4 m x y n).1 (R4 m x y n).2.1 (R4 m x y n).2.2 2).1 (R4 (R4 m x y n).1 (R4 m x y n).2.1 (R4 m x y n).2.2 2).2.1 (R4 (R4 m x y n).1 (R4 m x y n).2.1 (R4 m x y n).2.2 2).2.2 := hA
      rw [R4_two hk x y n hk5] at hA'
      refine do_meq T.i_Motion T.cl_Motion (h9.mv SA) hA' ?_
      rw [h9.1.same hA'.1, same2]
      exact q _ (by walk_at "st")
theorem do_law_powers_right {t : Addr} {u : V} {k : Str} {m : Mat} {a b : Int} (hT : Tape H t) (h : MV2 K H v k m x y) (hx : Sm x) (hy : Sm y) (hu : IT H u [a, b]) (ha : a.natAbs < 10 ^ 27) (hb : b.natAbs < 10 ^ 27)
    (q : ∀ H', Stp (some t) H H' → Q (.bl true) H') : sp_law_powers_right K [.ref t, v, u] H Q E := ⟨t, v, u, k, m, x, y, a, b, rfl, hT, h, hx, hy, hu, ha, hb, q⟩
end
end Law

set_option Elab.async false
set_option linter.all false
set_option maxRecDepth 100000
set_option maxHeartbeats 4000000
namespace Law
open PySem PySem.Spec PyProof.Rows L2 MV
local macro_rules | `(tactic| walk_at "up") => `(tactic| first
  | assumption
  | (refine' IT.mv ?s ?g; (case s => assumption); (case g => walk_at "up"))
  | (refine' IT.k ?g; (case g => walk_at "up"))
  | (refine' IK.mv ?s ?g; (case s => assumption); (case g => walk_at "up"))
  | (refine' Tape.mvN ?s ?g; (case s => assumption); (case g => walk_at "up"))
  | (refine' Tape.mvS ?s ?g; (case s => assumption); (case g => walk_at "up"))
  | (refine' At.tup ?s ?g; (case s => assumption); (case g => walk_at "up"))
  | (refine' At.ins ?s ?g; (case s => assumption); (case g => walk_at "up"))
  | (refine' At.lst ?s ?g; (case s => assumption); (case g => walk_at "up"))
  | (refine' At.lstS ?s ?n ?g; (case s => assumption); (case n => assumption); (case g => walk_at "up"))
  | fail)
local macro_rules | `(tactic| walk_at "st") => `(tactic| first
  | assumption
  | exact Stp.refl _ _
  | (refine' Stp.w ?s; (case s => assumption))
  | (refine' Stp.trans ?g ?s; (case s => (first | assumption | (refine' Stp.w ?u; (case u => assumption)))); (case g => walk_at "st"))
  | fail)
local macro_rules | `(tactic| walk_at "bT") => `(tactic| first
  | decide
  | (simp only [Bool.not_eq_true', Bool.not_eq_false', decide_eq_true_eq, decide_eq_false_iff_not]; omega)
  | fail)
local macro_rules | `(tactic| walk_at "sd") => `(tactic| first | assumption | decide | omega | fail)
local macro_rules | `(tactic| walk_at "r") => `(tactic| first
  | (with_reducible refine r_seq ?_)
  | (with_reducible refine r_asg ?_)
  | ((with_reducible refine' r_var ?h ?k); (case h => rfl))
  | (with_reducible refine r_c ?_)
  | (with_reducible refine r_op ?_)
  | (with_reducible refine r_un ?_)
  | (with_reducible refine r_nil ?_)
  | (with_reducible refine r_cons ?_)
  | (with_reducible refine r_tup ?_)
  | (with_reducible refine r_lst ?_)
  | (with_reducible refine r_cbLen ?_)
  | (with_reducible refine r_cbInt ?_)
  | (with_reducible refine r_cbRepr ?_)
  | (with_reducible refine r_cbTup ?_)
  | (with_reducible refine r_cbLst ?_)
  | (with_reducible refine r_cb ?_)
  | (with_reducible refine r_prop ?_)
  | (with_reducible refine r_andV ?_)
  | (with_reducible refine r_orV ?_)
  | (with_reducible refine r_notV ?_)
  | (with_reducible refine r_chain ?_)
  | (with_reducible refine r_ifE ?_)
  | (with_reducible refine r_test ?_)
  | (with_reducible refine r_B ?_)
  | (with_reducible refine r_and ?_)
  | (with_reducible refine r_or ?_)
  | (with_reducible refine r_not ?_)
  | (with_reducible refine r_yes ?_)
  | (with_reducible refine r_k ?_)
  | (with_reducible refine r_kV ?_)
  | (with_reducible refine r_next ?_)
  | (with_reducible refine r_drop ?_)
  | (with_reducible refine r_ret ?_)
  | (with_reducible refine r_ifS ?_)
  | (with_reducible refine r_par ?_)
  | (with_reducible refine r_par1 ?_)
  | (with_reducible refine r_gname ?_)
  | (with_reducible refine r_gnil ?_)
  | (with_reducible refine r_gcons ?_)
  | ((with_reducible refine' r_unpack2 ?h ?k); (case h => walk_at "up"))
  | ((with_reducible refine' r_unpack3 ?h ?k); (case h => walk_at "up"))
  | (with_reducible refine r_add ?_)
  | (with_reducible refine r_sub ?_)
  | (with_reducible refine r_neg ?_)
  | ((with_reducible refine' r_mod ?h ?k); (case h => walk_at "sd"))
  | ((with_reducible refine' r_div ?h ?k); (case h => walk_at "sd"))
  | ((with_reducible refine' r_mul ?h ?k); (case h => walk_at "sd"))
  | ((with_reducible refine' r_mulW ?h ?k); (case h => walk_at "sd"))
  | ((with_reducible refine' r_pow ?h ?k); (case h => (show (0 : Int) ≤ _ ∧ _ ∧ _; decide)))
  | (with_reducible refine r_lt ?_)
  | (with_reducible refine r_le ?_)
  | (with_reducible refine r_gt ?_)
  | (with_reducible refine r_ge ?_)
  | (with_reducible refine r_eqI ?_)
  | (with_reducible refine r_neI ?_)
  | (with_reducible refine r_eqS ?_)
  | (with_reducible refine r_neS ?_)
  | ((with_reducible refine' r_eqT ?h ?g ?k); (case h => walk_at "up"); (case g => walk_at "up"))
  | ((with_reducible refine' r_neT ?h ?g ?k); (case h => walk_at "up"); (case g => walk_at "up"))
  | ((with_reducible refine' r_ix0 ?h ?k); (case h => walk_at "up"))
  | ((with_reducible refine' r_ix1 ?h ?k); (case h => walk_at "up"))
  | ((with_reducible refine' r_ix2 ?h ?k); (case h => walk_at "up"))
  | (with_reducible refine r_newI2 (fun v H2 S I => ?_))
  | (with_reducible refine r_newI3 (fun v H2 S I => ?_))
  | (with_reducible refine r_newL1 (fun p H2 S hp np => ?_))
  | (with_reducible refine r_newL2 (fun p H2 S hp np => ?_))
  | (with_reducible refine r_newL3 (fun p H2 S hp np => ?_))
  | (with_reducible refine r_T ?_)
  | (with_reducible refine r_F ?_)
  | fail)
local macro_rules | `(tactic| walk_at "go") => `(tactic| repeat (walk_at "r"))
local macro_rules | `(tactic| walk_at "r") => `(tactic| first
  | (with_reducible refine r_call0 ?_)
  | (with_reducible refine r_meth0 ?_)
  | (with_reducible refine r_make0 ?_)
  | (with_reducible refine r_isiII ?_)
  | (with_reducible refine r_isiIB ?_)
  | ((with_reducible refine' r_isiTT ?h ?k); (case h => walk_at "up"))
  | ((with_reducible refine' r_len2 ?h ?k); (case h => walk_at "up"))
  | ((with_reducible refine' r_len3 ?h ?k); (case h => walk_at "up"))
  | ((with_reducible refine' r_lenL ?h ?k); (case h => walk_at "up"))
  | (with_reducible refine r_int1 ?_)
  | (with_reducible refine r_int1B ?_)
  | (with_reducible refine r_nT ?_)
  | (with_reducible refine r_nF ?_)
  | (with_reducible refine r_gcd ?_)
  | (with_reducible refine r_gsub ?_)
  | (with_reducible refine r_fld ?_)
  | (with_reducible refine r_p6 ?_)
  | (with_reducible refine r_p9 ?_)
  | (with_reducible refine r_p10 ?_)
  | (with_reducible refine r_p11 ?_)
  | (with_reducible refine r_p12 ?_)
  | (with_reducible refine r_p18 ?_)
  | (with_reducible refine r_p20 ?_)
  | (with_reducible refine r_p26 ?_)
  | (with_reducible refine r_p27 ?_)
  | (with_reducible refine r_p30 ?_)
  | ((with_reducible refine' r_iF ?h ?k); (case h => walk_at "bT"))
  | ((with_reducible refine' r_iT ?h ?k); (case h => walk_at "bT"))
  | (with_reducible refine r_sfld ?_)
  | (with_reducible refine r_sl ?_)
  | (with_reducible refine r_noPart ?_)
  | (with_reducible refine r_part ?_)
  | (with_reducible refine r_pk ?_)
  | ((with_reducible refine' r_unl2 ?h ?k); (case h => walk_at "up"))
  | ((with_reducible refine' r_ixLi ?h ?h0 ?hn ?k); (case h => walk_at "up"); (case h0 => walk_at "sd"); (case hn => rfl))
  | fail)

local macro_rules | `(tactic| walk_at "r") => `(tactic| with_reducible refine do_is_integer ?_)
local macro_rules | `(tactic| walk_at "r") => `(tactic| first | ((with_reducible refine' do_is_place ?h ?k); (case h => walk_at "up")) | fail)
local macro_rules | `(tactic| walk_at "r") => `(tactic| first | ((with_reducible refine' do_check_place ?h ?k); (case h => walk_at "up")) | fail)
local macro_rules | `(tactic| walk_at "up") => `(tactic| first | (refine' MA.mv ?s ?g; (case s => assumption); (case g => walk_at "up")) | fail)
local macro_rules | `(tactic| walk_at "r") => `(tactic| first
  | ((with_reducible refine' do_Motion_kind ?h ?k); (case h => walk_at "up"))
  | (with_reducible refine r_forR ?_)
  | (with_reducible refine r_forL ?_)
  | (with_reducible refine r_cval ?_)
  | (with_reducible refine r_isiSS ?_)
  | fail)

local macro_rules | `(tactic| walk_at "r") => `(tactic| first | (with_reducible refine r_smeth ?_) | (with_reducible refine r_same ?_) | fail)
local macro_rules | `(tactic| walk_at "dr") => `(tactic| (refine do_law_draw (by walk_at "up") (by first | decide | omega) (by first | decide | omega) ?_))
section
variable {P : Program} {w : World} {K : PySem.W.Frag} {mg : Str → Option Value} {base : Heap} {ad : Ad} {H : Hp} {Q : VK} {E : XK} {i j x y : Int} {v : V}
theorem opg_eqk {X : Cx} {CX : CXT} {k : Nat} {f C : Addr} {fd : FuncData} {ps : List Str} {sp : Sp} {E : XK} {K : PySem.W.Frag} (e : X.K = K) (c : EqC X.K C f) (F : FnG X.prog X.w X.K X.mg X.base CX k f fd ps sp) (hr : Room k X.A) (hg : X.A.guards = some [])
    (hb : Binds X.K fd ps []) (hx : Passes CX X E) : OpR X (compareOp .Eq) (rOwnEq K C sp E false) := e ▸ opg_eq c F hr hg hb hx
theorem opg_nek {X : Cx} {CX : CXT} {k : Nat} {f C : Addr} {fd : FuncData} {ps : List Str} {sp : Sp} {E : XK} {K : PySem.W.Frag} (e : X.K = K) (c : EqC X.K C f) (F : FnG X.prog X.w X.K X.mg X.base CX k f fd ps sp) (hr : Room (k + 1) X.A) (hg : X.A.guards = some [])
    (hb : Binds X.K fd ps []) (hx : Passes CX X E) : OpR X (compareOp .NotEq) (rOwnEq K C sp E true) := e ▸ opg_ne c F hr hg hb hx
theorem do_meqX {C : Addr} {u : V} {k : Str} {m : Mat} {t : Value} (h : MA C H v k m x y) (ty : TyX K H u t) (nf : PySem.W.notFirst K C t = true) (kf : PySem.W.kitOne K t (.ref C) = some false) (q : Q (.bl false) H) :
    rOwnEq K C (sp_Motion_eq K C) E false v u H Q := by
  have h' := h
  obtain ⟨_, p, dx, u1, rfl, h1, _⟩ := h'
  exact ⟨p, dx, _, t, rfl, h1, ty, nf, _, _, k, m, x, y, rfl, h, .inr ⟨t, ty, kf, _, rfl, q⟩⟩
theorem do_mneX {C : Addr} {u : V} {k : Str} {m : Mat} {t : Value} (h : MA C H v k m x y) (ty : TyX K H u t) (nf : PySem.W.notFirst K C t = true) (kf : PySem.W.kitOne K t (.ref C) = some false) (q : Q (.bl true) H) :
    rOwnEq K C (sp_Motion_eq K C) E true v u H Q := by
  have h' := h
  obtain ⟨_, p, dx, u1, rfl, h1, _⟩ := h'
  exact ⟨p, dx, _, t, rfl, h1, ty, nf, _, _, k, m, x, y, rfl, h, .inr ⟨t, ty, kf, _, rfl, q⟩⟩
theorem PL.mvS {t a : Addr} {H H' : Hp} {vs : List V} (s : Stp (some t) H H') (n : a ≠ t) (h : PL H a vs) : PL H' a vs :=
  ⟨At.lstS s n h.1, fun i v e => (let ⟨x, y, h1, h2⟩ := h.2 i v e; ⟨x, y, h1.mv s, h2⟩)⟩
theorem tape_ne {t a : Addr} (h : Tape H t) (n : H a = none) : a ≠ t := by
  intro e
  obtain ⟨_, _, _, _, _, _, g, _⟩ := h
  rw [← e, n] at g
  cases g
theorem shw_b2 (b c : Bool) : Shw (.list [.bool b, .bool c]) where
  sh := by
    rw [PyData.showable, PyData.showableAll, PyData.showableAll, PyData.showableAll, PyData.showable, PyData.showable]
    rfl
  nd := by
    rw [PyData.hasDict, PyData.hasDictAll, PyData.hasDictAll, PyData.hasDictAll, PyData.hasDict, PyData.hasDict]
    rfl
  dp := by
    rw [PyData.depth, PyData.depthAll, PyData.depthAll, PyData.depthAll, PyData.depth, PyData.depth]
    decide
  ln := by
    rw [bnd, bndAll, bndAll, bndAll, bnd, bnd]
    decide
abbrev kstr : List Str := ["none", "left", "half", "right", "flip", "mirror", "swap", "cross"]
def sp_law (K : PySem.W.Frag) : Sp := fun vs H Q _ => ∃ (l : Addr) (ns : List Int), vs = [.ref l] ∧ SqL K H l (ns.map V.int) ∧ ∀ H', Q (.bl true) H'
theorem sp_start (K : PySem.W.Frag) (H : Hp) (a : Addr) (ns : List Int) (hl : ns.length ≤ 63) (hS : SqL K H a (ns.map V.int)) : sp_law K [.ref a] H (fun v _ => v = .bl true) fun _ _ _ => False :=
  ⟨a, ns, rfl, hS, fun _ => rfl⟩
theorem ok_law (T : Txt w K mg ad) : FnG P w K mg base CX0 9 ad.law ad.law_d P_law (sp_law K) := by
  have G_Motion_init := ok_Motion_init (P := P) (w := w) (base := base) T
  have G_Motion_by := ok_Motion_by (P := P) (w := w) (base := base) T
  have G_Motion_call := ok_Motion_call (P := P) (w := w) (base := base) T
  have G_Motion_eq := ok_Motion_eq (P := P) (w := w) (base := base) T
  have G_law_tape := ok_law_tape (P := P) (w := w) (base := base) T
  have G_law_draw := ok_law_draw (P := P) (w := w) (base := base) T
  have G_law_place := ok_law_place (P := P) (w := w) (base := base) T
  have G_law_kinds := ok_law_kinds (P := P) (w := w) (base := base) T
  have G_law_turned := ok_law_turned (P := P) (w := w) (base := base) T
  have G_law_far_move := ok_law_far_move (P := P) (w := w) (base := base) T
  have G_law_right := ok_law_right (P := P) (w := w) (base := base) T
  have G_law_powers_right := ok_law_powers_right (P := P) (w := w) (base := base) T
  have G_law_products_right := ok_law_products_right (P := P) (w := w) (base := base) T
  obtain ⟨ds_i, vd_Motion_init, bd_Motion_init⟩ := T.bd_Motion_init
  refine Fun.gn T.F_law sc_law (fun vs H Q E h => ?_) (fun cdv A outer s H vs Q E hr hg h => ?_)
  · obtain ⟨l, ns, rfl, _⟩ := h
    rfl
  · obtain ⟨l, ns, rfl, hS, q⟩ := h
    refine ⟨_, (pss_cons (ps_set (i := 1) sc_law.nd rfl (Or.inl rfl) (peg_call G_law_tape (hr.mono (by decide)) hg (by rfl) T.g_law_tape T.F_law_tape.kp T.b_law_tape .nil pass0 (pa_cons (pv 0) pa_nil)))
      (pss_cons (ps_set (i := 2) sc_law.nd rfl (Or.inl rfl) (pe_lst (pa_cons (peg_call G_law_place (hr.mono (by decide)) hg (by rfl) T.g_law_place T.F_law_place.kp T.b_law_place .nil pass0 (pa_cons (pv 1) pa_nil)) (pa_cons (peg_call G_law_place (hr.mono (by decide)) hg (by rfl) T.g_law_place T.F_law_place.kp T.b_law_place .nil pass0 (pa_cons (pv 1) pa_nil)) (pa_cons (pe_tup (pa_cons pe_int (pa_cons pe_int pa_nil))) (pa_cons (pe_tup (pa_cons pe_int (pa_cons pe_int pa_nil))) pa_nil))))))
      (pss_cons (ps_for PassesOwn.never rfl (pi_list (peg_call0 G_law_kinds (hr.mono (by decide)) hg (by rfl) T.g_law_kinds T.F_law_kinds.kp T.b_law_kinds .nil pass0)) (pg_name (i := 3) sc_law.nd rfl (Or.inl rfl))
      (pss_cons (ps_set (i := 4) sc_law.nd rfl (Or.inl rfl) (pe_tup (pa_cons (pv 3) (pa_cons (peg_call G_law_place (hr.mono (by decide)) hg (by rfl) T.g_law_place T.F_law_place.kp T.b_law_place .nil pass0 (pa_cons (pv 1) pa_nil)) pa_nil))))
      (pss_cons (ps_if (PW.pt (pw_or (pt_not (pt_val (peg_call G_law_right (hr.mono (by decide)) hg (by rfl) T.g_law_right T.F_law_right.kp T.b_law_right .nil pass0 (pa_cons (pv 4) (pa_cons (pv 2) pa_nil))))) (pw_or1 (pt_not (pt_val (peg_call G_law_powers_right (hr.mono (by decide)) hg (by rfl) T.g_law_powers_right T.F_law_powers_right.kp T.b_law_powers_right .nil pass0 (pa_cons (pv 1) (pa_cons (pv 4) (pa_cons (pe_ix ix_seq (pv 2) (peg_call G_law_draw (hr.mono (by decide)) hg (by rfl) T.g_law_draw T.F_law_draw.kp T.b_law_draw .nil pass0 (pa_cons (pv 1) (pa_cons pe_int pa_nil))) (fun _ _ => rfl)) pa_nil)))))))))
      (pss_one (ps_ret pe_bl)) pss_nil)
      (pss_cons (ps_set (i := 5) sc_law.nd rfl (Or.inl rfl) (peg_make T.k_Motion G_Motion_init (hr.mono (by decide)) hg (by rfl) T.g_Motion bd_Motion_init vd_Motion_init pass0 (pa_cons (pv 3) pa_nil)))
      (pss_one (ps_if (PW.pt (pw_or (pt_cmpR (opg_ne T.e_Motion G_Motion_eq (hr.mono (by decide)) hg T.b_Motion_eq pass0) (pv 5) (peg_make T.k_Motion G_Motion_init (hr.mono (by decide)) hg (by rfl) T.g_Motion T.b_Motion_init .nil pass0 (pa_cons (pv 3) (pa_cons (pe_tup (pa_cons pe_int (pa_cons pe_int pa_nil))) pa_nil))) (nomark _)) (pw_or1 (pt_cmpR (op_neD hr.units) (peg_calli (i := 5) T.o_Motion_call T.fn_Motion_call G_Motion_call (hr.mono (by decide)) hg T.b_Motion_call pass0 rfl (.inl rfl) (pa_cons (pe_tup (pa_cons pe_int (pa_cons pe_int pa_nil))) pa_nil)) (peg_call G_law_turned (hr.mono (by decide)) hg (by rfl) T.g_law_turned T.F_law_turned.kp T.b_law_turned .nil pass0 (pa_cons (pv 3) (pa_cons (pe_tup (pa_cons pe_int (pa_cons pe_int pa_nil))) pa_nil))) (nomark _)))))
      (pss_one (ps_ret pe_bl)) pss_nil))))))
      (pss_cons (ps_for PassesOwn.never rfl (pi_range1 rfl T.z_range (pa_cons pe_int pa_nil)) (pg_name (i := 6) sc_law.nd rfl (Or.inl rfl))
      (pss_one (ps_if (pt_not (pt_val (peg_call G_law_products_right (hr.mono (by decide)) hg (by rfl) T.g_law_products_right T.F_law_products_right.kp T.b_law_products_right .nil pass0 (pa_cons (pe_lst (pa_cons (peg_call G_law_far_move (hr.mono (by decide)) hg (by rfl) T.g_law_far_move T.F_law_far_move.kp T.b_law_far_move .nil pass0 (pa_cons (pv 1) pa_nil)) (pa_cons (peg_call G_law_far_move (hr.mono (by decide)) hg (by rfl) T.g_law_far_move T.F_law_far_move.kp T.b_law_far_move .nil pass0 (pa_cons (pv 1) pa_nil)) (pa_cons (peg_call G_law_far_move (hr.mono (by decide)) hg (by rfl) T.g_law_far_move T.F_law_far_move.kp T.b_law_far_move .nil pass0 (pa_cons (pv 1) pa_nil)) pa_nil)))) (pa_cons (pv 2) pa_nil)))))
      (pss_one (ps_ret pe_bl)) pss_nil)))
      (pss_cons (ps_par (i := 7) (j := 8) rfl sc_law.nd rfl rfl (by decide) rfl rfl (pa_cons (peg_call G_law_far_move (hr.mono (by decide)) hg (by rfl) T.g_law_far_move T.F_law_far_move.kp T.b_law_far_move .nil pass0 (pa_cons (pv 1) pa_nil)) (pa_cons (peg_call G_law_far_move (hr.mono (by decide)) hg (by rfl) T.g_law_far_move T.F_law_far_move.kp T.b_law_far_move .nil pass0 (pa_cons (pv 1) pa_nil)) pa_nil)) rfl)
      (pss_cons (ps_asg (pe_tup (pa_cons (peg_make T.k_Motion G_Motion_init (hr.mono (by decide)) hg (by rfl) T.g_Motion T.b_Motion_init .nil pass0 (pa_cons (pe_ix ix_seq (pv 7) pe_int (fun _ _ => rfl)) (pa_cons (pe_ix ix_seq (pv 7) pe_int (fun _ _ => rfl)) pa_nil))) (pa_cons (peg_make T.k_Motion G_Motion_init (hr.mono (by decide)) hg (by rfl) T.g_Motion T.b_Motion_init .nil pass0 (pa_cons (pe_ix ix_seq (pv 8) pe_int (fun _ _ => rfl)) (pa_cons (pe_ix ix_seq (pv 8) pe_int (fun _ _ => rfl)) pa_nil))) pa_nil))) (pg_tup (n := 2) rfl (pgs_cons (pg_name (i := 9) sc_law.nd rfl (Or.inr rfl)) (pgs_cons (pg_name (i := 10) sc_law.nd rfl (Or.inl rfl)) pgs_nil))))
      (pss_cons (ps_if (pt_cmpR op_ne (pe_callB (callg_repr hg hr.units) (by rfl) T.z_repr (by decide +kernel) (pa_cons (pe_lst (pa_cons (pe_cmpR (opg_eq T.e_Motion G_Motion_eq (hr.mono (by decide)) hg T.b_Motion_eq pass0) (pv 9) (pv 10) (nomark _)) (pa_cons (pe_cmpR (opg_ne T.e_Motion G_Motion_eq (hr.mono (by decide)) hg T.b_Motion_eq pass0) (pv 9) (pv 10) (nomark _)) pa_nil))) pa_nil)) (pe_callB (callg_repr hg hr.units) (by rfl) T.z_repr (by decide +kernel) (pa_cons (pe_lst (pa_cons (pe_cmpR (op_eqD hr.units) (pv 7) (pv 8) (nomark _)) (pa_cons (pe_cmpR (op_neD hr.units) (pv 7) (pv 8) (nomark _)) pa_nil))) pa_nil)) (nomark _))
      (pss_one (ps_ret pe_bl)) pss_nil)
      (pss_cons (ps_if (pt_cmpR (op_neD hr.units) (pe_lc (own := [("_law_odd", 11)]) (g := gName 11)  rfl sc_law.nd (pi_list (pe_lst (pa_cons pe_non (pa_cons (pv 7) (pa_cons (pe_ix ix_seq (pv 7) pe_int (fun _ _ => rfl)) (pa_cons pe_int (pa_cons (pe_lst (pa_cons (pv 9) pa_nil)) pa_nil))))))) (blkOk_by (own := [("_law_odd", 11)]) (N := N_law) (sc := defScope s_law) (by decide +kernel)) (fun _ _ _ _ _ => (pg_name (i := 11) sc_law.nd rfl (Or.inl rfl))) (fun _ _ _ _ _ => (pts_one (PW.pt (pw_or (pt_cmpR (opg_eqk (K := K) rfl T.e_Motion G_Motion_eq (hr.mono (by decide)) hg T.b_Motion_eq pass0) (pv 9) (pv 11) (nomark _)) (pw_or1 (pt_not (pt_cmpR (opg_nek (K := K) rfl T.e_Motion G_Motion_eq (hr.mono (by decide)) hg T.b_Motion_eq pass0) (pv 9) (pv 11) (nomark _)))))))) (fun _ _ _ _ _ => (pv 11)) ) (pe_lst pa_nil) (nomark _))
      (pss_one (ps_ret pe_bl)) pss_nil)
      (pss_one (ps_ret (pe_and (pe_cmpR (opg_eq T.e_Motion G_Motion_eq (hr.mono (by decide)) hg T.b_Motion_eq pass0) (peg_smeth (pe_glob (v := V.ref ad.C_Motion) rfl T.g_Motion rfl) T.sm_Motion_by G_Motion_by (hr.mono (by decide)) hg T.b_Motion_by .nil pass0 (pa_cons (pe_tup (pa_cons pe_int (pa_cons (pe_un un_neg pe_int) pa_nil))) pa_nil)) (peg_make T.k_Motion G_Motion_init (hr.mono (by decide)) hg (by rfl) T.g_Motion T.b_Motion_init .nil pass0 (pa_cons pe_str (pa_cons (pe_tup (pa_cons pe_int (pa_cons (pe_un un_neg pe_int) pa_nil))) pa_nil))) (nomark _)) (pe_one (pe_cmpR (op_eqD hr.units) (ClX.pe_cval (pe_glob (v := V.ref ad.C_Motion) rfl T.g_Motion rfl)) (pe_callTy call_tuple_of (by rfl) T.z_tuple (by decide +kernel) (pa_cons (peg_call0 G_law_kinds (hr.mono (by decide)) hg (by rfl) T.g_law_kinds T.F_law_kinds.kp T.b_law_kinds .nil pass0) pa_nil)) (nomark _)))))))))))))), ?_⟩
    walk_at "go"
    refine do_law_tape hS fun t H1 S1 nt T1 => ?_
    walk_at "go"
    refine do_law_place T1 fun v1 x1 y1 H2 a1 a2 a3 a4 S2 i1 => ?_
    walk_at "go"
    refine do_law_place (by walk_at "up") fun v2 x2 y2 H3 b1 b2 b3 b4 S3 i2 => ?_
    walk_at "go"
    rename_i v3 H4 S4 i3 v4 H5 S5 i4
    refine r_newL (sz100 (Nat.le_of_ble_eq_true rfl)) fun pl H6 S6 hpl npl => ?_
    have T5 : Tape H5 t := by walk_at "up"
    have npt : pl ≠ t := tape_ne T5 npl
    have T6 : Tape H6 t := T5.mvN S6
    have j1 : IT H6 v1 [x1, y1] := by walk_at "up"
    have j2 : IT H6 v2 [x2, y2] := by walk_at "up"
    have j3 : IT H6 v3 [0, 0] := by walk_at "up"
    have j4 : IT H6 v4 [1, 2] := by walk_at "up"
    have PL6 : PL H6 pl [v1, v2, v3, v4] := ⟨hpl, fun i v h => match i, h with
      | 0, h => by cases h; exact ⟨_, _, j1, by omega, by omega⟩
      | 1, h => by cases h; exact ⟨_, _, j2, by omega, by omega⟩
      | 2, h => by cases h; exact ⟨_, _, j3, by omega, by omega⟩
      | 3, h => by cases h; exact ⟨_, _, j4, by omega, by omega⟩⟩
    clear hpl T5 j1 j2 j3 j4 i1 i2 i3 i4 S1 S2 S3 S4 S5 S6 T1 a1 a2 a3 a4 b1 b2 b3 b4
    walk_at "go"
    refine do_law_kinds fun p H7 S7 hp np => ?_
    have PL7 : PL H7 pl [v1, v2, v3, v4] := PL6.mvS S7.w npt
    have T7 : Tape H7 t := T6.mvN S7
    have npp : p ≠ t := tape_ne T6 np
    walk_at "go"
    refine ForL.ok ⟨p, KNS.map fun t => V.str t.1, fun _ σ H' => ∃ a b c, σ = [some (.ref l), some (.ref t), some (.ref pl), a, b, c, none, none, none, none, none, none] ∧ Stp (some t) H7 H', rfl, ⟨none, none, none, rfl, Stp.refl _ _⟩,
      fun _ σ H' _ ⟨_, _, _, _, s⟩ => At.lstS s npp hp, ?_, ?_⟩
    · rintro i v' σ H' hx ⟨a, b, c, rfl, s'⟩
      have hi : i < 8 := by
        have := (List.getElem?_eq_some_iff.mp hx).1
        rw [List.length_map] at this
        exact this
      obtain ⟨k, m, ek, hk⟩ := kns_at hi
      rw [ek] at hx
      cases hx
      have TH : Tape H' t := T7.mvS s'
      walk_at "go"
      refine do_law_place TH fun v5 x5 y5 H8 a1 a2 a3 a4 S8 i5 => ?_
      walk_at "go"
      refine r_newT (sz100 (Nat.le_of_ble_eq_true rfl)) fun pm H9 S9 hpm npm => ?_
      have mv9 : MV2 K H9 (.ref pm) k m x5 y5 := ⟨hk, pm, v5, rfl, hpm, i5.mv S9⟩
      have s9 : Stp (some t) H7 H9 := (s'.trans S8).trans S9.w
      have PL9 : PL H9 pl [v1, v2, v3, v4] := PL7.mvS s9 npt
      have T9 : Tape H9 t := T7.mvS s9
      have bx : x5.natAbs < 10 ^ 26 := by omega
      have by' : y5.natAbs < 10 ^ 26 := by omega
      clear a1 a2 a3 a4
      walk_at "go"
      refine do_law_right mv9 (Nat.lt_trans bx (by decide)) (Nat.lt_trans by' (by decide)) PL9 fun H10 S10 => ?_
      walk_at "go"
      have T10 : Tape H10 t := T9.mvN S10
      walk_at "dr"
      intro r H11 c1 c2 S11
      have PL11 : PL H11 pl [v1, v2, v3, v4] := (PL9.mvS S10.w npt).mvS S11 npt
      have hr4 : r.toNat < [v1, v2, v3, v4].length := by show r.toNat < 4; omega
      refine r_ixLi PL11.1 c1 (List.getElem?_eq_getElem hr4) ?_
      obtain ⟨x6, y6, i6, b6, b7⟩ := PL11.2 _ _ (List.getElem?_eq_getElem hr4)
      walk_at "go"
      refine do_law_powers_right (by walk_at "up") ((mv9.mv S10).mv S11) bx by' i6 b6 b7 fun H12 S12 => ?_
      walk_at "go"
      refine r_make ?_
      walk_at "go"
      have hd0 : IK K H12 (.ref ad.dfl0) [0, 0] := KT.k (ns := [0, 0]) T.t_dfl0
      refine do_Motion hk hd0 fun z1 H13 S13 h13 => ?_
      walk_at "go"
      refine do_Motion hk (IT.k (by walk_at "up")) fun z2 H14 S14 h14 => ?_
      refine do_mne T.i_Motion T.cl_Motion (k := k) (m := m) (x := 0) (y := 0) (by walk_at "up") h14 ?_
      rw [same2]
      walk_at "go"
      refine r_calli (k := k) (m := m) (x := 0) (y := 0) rfl (by walk_at "up") fun p2 dx2 fs2 ep2 hp2 => ?_
      walk_at "go"
      refine ⟨⟨_, by walk_at "up"⟩, do_Motion_call (k := k) (m := m) (x := 0) (y := 0) (a := 3) (b := 5) (by walk_at "up") (IT.k (by walk_at "up")) (by unfold Co; decide) (by unfold Co; decide) fun z3 H16 S16 i16 => ?_⟩
      walk_at "go"
      refine do_law_turned (x := 3) (y := 5) hk (IT.k (by walk_at "up")) fun z4 H18 S18 i18 => ?_
      walk_at "go"
      refine r_nX (by rw [Int.add_zero, Int.add_zero]) ?_
      walk_at "go"
      exact ⟨_, _, _, rfl, by walk_at "st"⟩
    · rintro σ H8 ⟨a, b, c, rfl, s8⟩
      have PL8 : PL H8 pl [v1, v2, v3, v4] := PL7.mvS s8 npt
      have T8 : Tape H8 t := T7.mvS s8
      clear hp np S7 s8 PL7 PL6 T7 T6
      walk_at "go"
      refine ForR.ok ⟨4, fun i σ H' => ∃ d, σ = [some (.ref l), some (.ref t), some (.ref pl), a, b, c, d, none, none, none, none, none] ∧ Stp (some t) H8 H', rfl, by decide, ⟨none, rfl, Stp.refl _ _⟩, ?_, ?_⟩
      · rintro i σ H' hi ⟨d, rfl, s'⟩
        have PL9 : PL H' pl [v1, v2, v3, v4] := PL8.mvS s' npt
        have TH : Tape H' t := T8.mvS s'
        walk_at "go"
        refine do_law_far_move TH fun w1 k1 m1 x1 y1 H9 a1 b1 S9 g1 => ?_
        walk_at "go"
        refine do_law_far_move (by walk_at "up") fun w2 k2 m2 x2 y2 H10 a2 b2 S10 g2 => ?_
        walk_at "go"
        refine do_law_far_move (by walk_at "up") fun w3 k3 m3 x3 y3 H11 a3 b3 S11 g3 => ?_
        walk_at "go"
        rename_i pq H12 S12 hq nq
        have s12 : Stp (some t) H' H12 := ((S9.trans S10).trans S11).trans S12.w
        refine do_law_products_right ⟨pq, w1, w2, w3, rfl, hq, ((g1.mv S10).mv S11).mv S12, (g2.mv S11).mv S12, g3.mv S12⟩ a1 b1 a2 b2 a3 b3 (PL9.mvS s12 npt) fun H13 S13 => ?_
        walk_at "go"
        exact ⟨_, rfl, (s'.trans s12).trans S13.w⟩
      · rintro σ H9 ⟨d, rfl, s9⟩
        have T9 : Tape H9 t := T8.mvS s9
        clear PL8 s9 T8
        walk_at "go"
        refine do_law_far_move T9 fun w1 k1 m1 x1 y1 H10 a1 b1 S10 g1 => ?_
        walk_at "go"
        refine do_law_far_move (by walk_at "up") fun w2 k2 m2 x2 y2 H11 a2 b2 S11 g2 => ?_
        have g1' := g1.mv S11
        clear S10 S11 T9 g1
        have hk1 := g1'.1
        have hk2 := g2.1
        have g1b := g1'
        have g2b := g2
        obtain ⟨_, p1, u1, rfl, hp1, hu1⟩ := g1b
        obtain ⟨_, p2, u2, rfl, hp2, hu2⟩ := g2b
        walk_at "go"
        refine r_ixT0 hp1 ?_
        walk_at "go"
        refine r_ixT1 hp1 ?_
        walk_at "go"
        refine do_Motion hk1 hu1.k fun z1 H12 S12 h1 => ?_
        walk_at "go"
        refine r_ixT0 (At.tup S12 hp2) ?_
        walk_at "go"
        refine r_ixT1 (At.tup S12 hp2) ?_
        walk_at "go"
        refine do_Motion hk2 (hu2.mv S12).k fun z2 H13 S13 h2 => ?_
        walk_at "go"
        refine r_newT (sz100 (Nat.le_of_ble_eq_true rfl)) fun pp H13' S13' hpp npp' => ?_
        refine r_unT2 hpp ?_
        have h1 := (h1.mv S13).mv S13'
        have h2 := h2.mv S13'
        have S13 := S13.trans S13'
        clear S13'
        walk_at "go"
        refine do_meq T.i_Motion T.cl_Motion h1 h2 ?_
        walk_at "go"
        refine do_mne T.i_Motion T.cl_Motion h1 h2 ?_
        walk_at "go"
        rename_i l1 H14 S14 hl1 nl1
        refine r_repr (d := .list [.bool _, .bool _]) (.lst (SqL.of hl1) (.cons (.bl _) (.cons (.bl _) .nil))) (shw_b2 _ _) ?_
        have g1c : MV2 K H14 (.ref p1) k1 m1 x1 y1 := ((g1'.mv S12).mv S13).mv S14
        have g2c : MV2 K H14 (.ref p2) k2 m2 x2 y2 := ((g2.mv S12).mv S13).mv S14
        walk_at "go"
        refine ⟨_, _, g1c.dp, g2c.dp, shaped_mv hk1, shaped_mv hk2, ?_⟩
        rw [eqv_mv]
        walk_at "go"
        refine ⟨_, _, g1c.dp, g2c.dp, shaped_mv hk1, shaped_mv hk2, ?_⟩
        rw [eqv_mv]
        walk_at "go"
        rename_i l2 H15 S15 hl2 nl2
        refine r_repr (d := .list [.bool _, .bool _]) (.lst (SqL.of hl2) (.cons (.bl _) (.cons (.bl _) .nil))) (shw_b2 _ _) ?_
        walk_at "go"
        refine r_nX rfl ?_
        have h1f : MA ad.C_Motion H15 z1 k1 m1 x1 y1 := (h1.mv S14).mv S15
        have g1d : MV2 K H15 (.ref p1) k1 m1 x1 y1 := g1c.mv S15
        have hp1d : H15 p1 = some (.tup [.str k1, u1]) := by walk_at "up"
        walk_at "go"
        refine r_lcL ?_
        walk_at "go"
        refine r_ixT0 hp1d ?_
        walk_at "go"
        rename_i l3 H16 S16 hl3 nl3
        refine r_newL (sz100 (Nat.le_of_ble_eq_true rfl)) fun p3 H17 S17 hp3 np3 => ?_
        have h1g : MA ad.C_Motion H17 z1 k1 m1 x1 y1 := (h1f.mv S16).mv S17
        have hp1g : H17 p1 = some (.tup [.str k1, u1]) := by walk_at "up"
        have hl3g : H17 l3 = some (.lst [z1]) := by walk_at "up"
        refine lcl_ok hp3 fun D hD => ⟨fun i H' => (∀ b o, H17 b = some o → H' b = some o) ∧ H' D = some (.lst []), ⟨lc_keep hD, upd_same⟩, fun i H' _ pv => pv.1 _ _ hp3, fun i z H' hz pv => ?_, fun H' pv => ?_⟩
        · have m1' : MA ad.C_Motion H' z1 k1 m1 x1 y1 := h1g.mv (Stp.of pv.1 none)
          suffices go : ∃ ty, TyX K H' z ty ∧ PySem.W.notFirst K ad.C_Motion ty = true ∧ PySem.W.kitOne K ty (.ref ad.C_Motion) = some false by
            obtain ⟨ty, t1, t2, t3⟩ := go
            walk_at "go"
            refine ⟨rfl, ?_⟩
            walk_at "go"
            refine do_meqX m1' t1 t2 t3 ?_
            walk_at "go"
            refine do_mneX m1' t1 t2 t3 ?_
            walk_at "go"
            exact pv
          match i, hz with
          | 0, hz => cases hz; exact ⟨_, .base .non, T.nf_NoneType, T.kf_NoneType⟩
          | 1, hz => cases hz; exact ⟨_, ty_tup (SqT.of (pv.1 _ _ hp1g)), T.nf_tuple, T.kf_tuple⟩
          | 2, hz => cases hz; exact ⟨_, .base (.str _), T.nf_str, T.kf_str⟩
          | 3, hz => cases hz; exact ⟨_, .base (.int _), T.nf_int, T.kf_int⟩
          | 4, hz => cases hz; exact ⟨_, .base (.lst (pv.1 _ _ hl3g)), T.nf_list, T.kf_list⟩
        · obtain ⟨pv, pd⟩ := pv
          clear h1g hp1g hl3g h1f g1d hp1d hl1 hl2 hl3 hp3 S16 S17 S13 S14 S15
          walk_at "go"
          refine r_newL (sz100 (Nat.le_of_ble_eq_true rfl)) fun p4 H18 S18 hp4 np4 => ?_
          refine ⟨.list [], .list [], .lst (SqL.of (At.lst S18 pd)) .nil, .lst (SqL.of hp4) .nil, by simp [SeqAt.shaped, PyData.canLay0, PyData.canLayAll0, PyData.depth, PyData.depthAll], by simp [SeqAt.shaped, PyData.canLay0, PyData.canLayAll0, PyData.depth, PyData.depthAll], ?_⟩
          rw [PyData.eqv, PyData.eqvAll]
          walk_at "go"
          refine do_by (IT.k (by walk_at "up")) fun z5 H19 S19 h19 => ?_
          walk_at "go"
          refine do_Motion (k := "none") (m := mone) (by unfold Kd; exact List.mem_cons_self) (IT.k (by walk_at "up")) fun z6 H20 S20 h20 => ?_
          walk_at "go"
          refine do_meq T.i_Motion T.cl_Motion (k := "none") (m := mone) (x := 3) (y := -4) (by walk_at "up") h20 ?_
          rw [same2]
          walk_at "go"
          refine ⟨_, _, _, _, rfl, T.sm_Motion_by.rd, T.c_KINDS, ?_⟩
          walk_at "go"
          refine do_law_kinds fun p5 H21 S21 hp5 np5 => ?_
          refine ⟨p5, _, rfl, .inl ⟨SqL.of hp5, fun l5 hl5 => ?_⟩⟩
          have tk : KT K ad.KINDS (kstr.map V.str) := T.t_KINDS
          refine ⟨.tuple (kstr.map PyData.str), .tuple (kstr.map PyData.str), .tup tk.t (dp_strs _), .tup (SqT.of upd_same) (dp_strs kstr), ?_, ?_, ?_⟩
          · decide +kernel
          · decide +kernel
          rw [PyData.eqv, eqvAll_strs, decide_eq_true rfl]
          exact q _
end
local macro_rules | `(tactic| walk_at "mv_vals") => `(tactic| repeat first | exact Paired.nil | refine Paired.cons ?_ ?_ | exact rfl | exact ⟨_, rfl⟩)
local macro_rules | `(tactic| walk_at "mv_kt") => `(tactic| (refine' MV.kt_mk ?h ?z ?v; (case h => k_is); (case z => decide +kernel); (case v => walk_at "mv_vals")))
local macro_rules | `(tactic| walk_at "mv_lit") => `(tactic| repeat first | exact True.intro | refine ⟨⟨_, _, rfl, rfl⟩, ?_⟩)
local macro_rules | `(tactic| walk_at "mv_kd") => `(tactic| (refine' MV.kd_mk ?h ?l ?n ?v; (case h => k_is); (case n => k_is); (case l => walk_at "mv_lit"); (case v => first | exact rfl | exact ⟨_, rfl⟩)))
local macro_rules | `(tactic| walk_at "mv_kk") => `(tactic| (refine' MV.kk_mk ?h ?n ?v; (case h => k_is); (case n => decide +kernel); (case v => walk_at "mv_vals")))
local macro_rules | `(tactic| walk_at "mv_bind") => `(tactic| (refine ⟨?k, ?h, ?g⟩; (case h => (unfold bindArgs; dsimp only; rw [List.forIn_nil, pure_bind])); (case g => exact rfl)))
theorem all_mk {w : World} {K : PySem.W.Frag} {h : Heap} {mg : Str → Option Value} {fa : Addr} (X : K.In h) (G : h.Ns mainGlobals mg) (hfa : mg "law" = some (.ref fa))
    {IMAGES : Addr}
    {MIRROR : Addr}
    {PROBE : Addr}
    {KINDS : Addr}
    {dfl0 : Addr}
    {im_none : Addr}
    {im_left : Addr}
    {im_half : Addr}
    {im_right : Addr}
    {im_flip : Addr}
    {im_mirror : Addr}
    {im_swap : Addr}
    {im_cross : Addr}
    {C_Motion : Addr}
    {is_integer : Addr} {od_is_integer an_is_integer : Option Addr} {sl_is_integer : Array (Option Value)} {oc_is_integer kV_is_integer dc_is_integer pm_is_integer cd_is_integer ct_is_integer : Value}
    {is_place : Addr} {od_is_place an_is_place : Option Addr} {sl_is_place : Array (Option Value)} {oc_is_place kV_is_place dc_is_place pm_is_place cd_is_place ct_is_place : Value}
    {check_place : Addr} {od_check_place an_check_place : Option Addr} {sl_check_place : Array (Option Value)} {oc_check_place kV_check_place dc_check_place pm_check_place cd_check_place ct_check_place : Value}
    {turned : Addr} {od_turned an_turned : Option Addr} {sl_turned : Array (Option Value)} {oc_turned kV_turned dc_turned pm_turned cd_turned ct_turned : Value}
    {kind_between : Addr} {od_kind_between an_kind_between : Option Addr} {sl_kind_between : Array (Option Value)} {oc_kind_between kV_kind_between dc_kind_between pm_kind_between cd_kind_between ct_kind_between : Value}
    {Motion_init : Addr} {od_Motion_init an_Motion_init : Option Addr} {sl_Motion_init : Array (Option Value)} {oc_Motion_init kV_Motion_init dc_Motion_init pm_Motion_init cd_Motion_init ct_Motion_init : Value}
    {T_Motion_init : Addr} {odd_Motion_init : Option Addr} {nd_Motion_init : Nat} {sld_Motion_init : Array (Option Value)}
    {Motion_by : Addr} {od_Motion_by an_Motion_by : Option Addr} {sl_Motion_by : Array (Option Value)} {oc_Motion_by kV_Motion_by dc_Motion_by pm_Motion_by cd_Motion_by ct_Motion_by : Value}
    {p_Motion_by : Addr} {r_Motion_by : List Value}
    {Motion_kind : Addr} {od_Motion_kind an_Motion_kind : Option Addr} {sl_Motion_kind : Array (Option Value)} {oc_Motion_kind kV_Motion_kind dc_Motion_kind pm_Motion_kind cd_Motion_kind ct_Motion_kind : Value}
    {p_Motion_kind : Addr} {r_Motion_kind : List Value}
    {Motion_shift : Addr} {od_Motion_shift an_Motion_shift : Option Addr} {sl_Motion_shift : Array (Option Value)} {oc_Motion_shift kV_Motion_shift dc_Motion_shift pm_Motion_shift cd_Motion_shift ct_Motion_shift : Value}
    {p_Motion_shift : Addr} {r_Motion_shift : List Value}
    {Motion_is_mirrored : Addr} {od_Motion_is_mirrored an_Motion_is_mirrored : Option Addr} {sl_Motion_is_mirrored : Array (Option Value)} {oc_Motion_is_mirrored kV_Motion_is_mirrored dc_Motion_is_mirrored pm_Motion_is_mirrored cd_Motion_is_mirrored ct_Motion_is_mirrored : Value}
    {p_Motion_is_mirrored : Addr} {r_Motion_is_mirrored : List Value}
    {Motion_call : Addr} {od_Motion_call an_Motion_call : Option Addr} {sl_Motion_call : Array (Option Value)} {oc_Motion_call kV_Motion_call dc_Motion_call pm_Motion_call cd_Motion_call ct_Motion_call : Value}
    {Motion_mul : Addr} {od_Motion_mul an_Motion_mul : Option Addr} {sl_Motion_mul : Array (Option Value)} {oc_Motion_mul kV_Motion_mul dc_Motion_mul pm_Motion_mul cd_Motion_mul ct_Motion_mul : Value}
    {Motion_invert : Addr} {od_Motion_invert an_Motion_invert : Option Addr} {sl_Motion_invert : Array (Option Value)} {oc_Motion_invert kV_Motion_invert dc_Motion_invert pm_Motion_invert cd_Motion_invert ct_Motion_invert : Value}
    {Motion_repeated : Addr} {od_Motion_repeated an_Motion_repeated : Option Addr} {sl_Motion_repeated : Array (Option Value)} {oc_Motion_repeated kV_Motion_repeated dc_Motion_repeated pm_Motion_repeated cd_Motion_repeated ct_Motion_repeated : Value}
    {Motion_eq : Addr} {od_Motion_eq an_Motion_eq : Option Addr} {sl_Motion_eq : Array (Option Value)} {oc_Motion_eq kV_Motion_eq dc_Motion_eq pm_Motion_eq cd_Motion_eq ct_Motion_eq : Value}
    {Motion_repr : Addr} {od_Motion_repr an_Motion_repr : Option Addr} {sl_Motion_repr : Array (Option Value)} {oc_Motion_repr kV_Motion_repr dc_Motion_repr pm_Motion_repr cd_Motion_repr ct_Motion_repr : Value}
    {law_tape : Addr} {od_law_tape an_law_tape : Option Addr} {sl_law_tape : Array (Option Value)} {oc_law_tape kV_law_tape dc_law_tape pm_law_tape cd_law_tape ct_law_tape : Value}
    {law_draw : Addr} {od_law_draw an_law_draw : Option Addr} {sl_law_draw : Array (Option Value)} {oc_law_draw kV_law_draw dc_law_draw pm_law_draw cd_law_draw ct_law_draw : Value}
    {law_great : Addr} {od_law_great an_law_great : Option Addr} {sl_law_great : Array (Option Value)} {oc_law_great kV_law_great dc_law_great pm_law_great cd_law_great ct_law_great : Value}
    {law_place : Addr} {od_law_place an_law_place : Option Addr} {sl_law_place : Array (Option Value)} {oc_law_place kV_law_place dc_law_place pm_law_place cd_law_place ct_law_place : Value}
    {law_turned : Addr} {od_law_turned an_law_turned : Option Addr} {sl_law_turned : Array (Option Value)} {oc_law_turned kV_law_turned dc_law_turned pm_law_turned cd_law_turned ct_law_turned : Value}
    {law_kinds : Addr} {od_law_kinds an_law_kinds : Option Addr} {sl_law_kinds : Array (Option Value)} {oc_law_kinds kV_law_kinds dc_law_kinds pm_law_kinds cd_law_kinds ct_law_kinds : Value}
    {law_carried : Addr} {od_law_carried an_law_carried : Option Addr} {sl_law_carried : Array (Option Value)} {oc_law_carried kV_law_carried dc_law_carried pm_law_carried cd_law_carried ct_law_carried : Value}
    {law_far_move : Addr} {od_law_far_move an_law_far_move : Option Addr} {sl_law_far_move : Array (Option Value)} {oc_law_far_move kV_law_far_move dc_law_far_move pm_law_far_move cd_law_far_move ct_law_far_move : Value}
    {law_told : Addr} {od_law_told an_law_told : Option Addr} {sl_law_told : Array (Option Value)} {oc_law_told kV_law_told dc_law_told pm_law_told cd_law_told ct_law_told : Value}
    {law_right : Addr} {od_law_right an_law_right : Option Addr} {sl_law_right : Array (Option Value)} {oc_law_right kV_law_right dc_law_right pm_law_right cd_law_right ct_law_right : Value}
    {law_products_right : Addr} {od_law_products_right an_law_products_right : Option Addr} {sl_law_products_right : Array (Option Value)} {oc_law_products_right kV_law_products_right dc_law_products_right pm_law_products_right cd_law_products_right ct_law_products_right : Value}
    {law_powers_right : Addr} {od_law_powers_right an_law_powers_right : Option Addr} {sl_law_powers_right : Array (Option Value)} {oc_law_powers_right kV_law_powers_right dc_law_powers_right pm_law_powers_right cd_law_powers_right ct_law_powers_right : Value}
    {law : Addr} {od_law an_law : Option Addr} {sl_law : Array (Option Value)} {oc_law kV_law dc_law pm_law cd_law ct_law : Value}
    (a_Motion : PySem.W.nsIn K mainGlobals "Motion" = some (some (.ref C_Motion)))
    (pg_Motion : PySem.W.plainGet K C_Motion Str.empty = true)
    (hd_Motion : PySem.W.hasDictIn K C_Motion = true)
    (po_Motion : PySem.W.plainOver K C_Motion = true)
    (sa_Motion : PySem.W.findIn K (.ref C_Motion) "__setattr__" = some (some (.builtin "object.__setattr__")))
    (mk_Motion : PySem.W.makesIn K C_Motion = true)
    (kc_Motion : PySem.W.keepIn K (.ref C_Motion) = true)
    (a_is_integer : PySem.W.nsIn K mainGlobals "is_integer" = some (some (.ref is_integer)))
    (l_is_integer : K.lookup is_integer = some ⟨oc_is_integer, od_is_integer, .func (PySem.W.fnOf "is_integer" "is_integer" (defArgs s_is_integer) (defBody s_is_integer) (defScope s_is_integer) .none kV_is_integer dc_is_integer pm_is_integer an_is_integer cd_is_integer ct_is_integer), sl_is_integer⟩)
    (c_is_integer : PySem.W.codeIn K cd_is_integer "is_integer" = true)
    (k_is_integer : PySem.W.keepIn K (.ref is_integer) = true)
    (a_is_place : PySem.W.nsIn K mainGlobals "is_place" = some (some (.ref is_place)))
    (l_is_place : K.lookup is_place = some ⟨oc_is_place, od_is_place, .func (PySem.W.fnOf "is_place" "is_place" (defArgs s_is_place) (defBody s_is_place) (defScope s_is_place) .none kV_is_place dc_is_place pm_is_place an_is_place cd_is_place ct_is_place), sl_is_place⟩)
    (c_is_place : PySem.W.codeIn K cd_is_place "is_place" = true)
    (k_is_place : PySem.W.keepIn K (.ref is_place) = true)
    (a_check_place : PySem.W.nsIn K mainGlobals "check_place" = some (some (.ref check_place)))
    (l_check_place : K.lookup check_place = some ⟨oc_check_place, od_check_place, .func (PySem.W.fnOf "check_place" "check_place" (defArgs s_check_place) (defBody s_check_place) (defScope s_check_place) .none kV_check_place dc_check_place pm_check_place an_check_place cd_check_place ct_check_place), sl_check_place⟩)
    (c_check_place : PySem.W.codeIn K cd_check_place "check_place" = true)
    (k_check_place : PySem.W.keepIn K (.ref check_place) = true)
    (a_turned : PySem.W.nsIn K mainGlobals "turned" = some (some (.ref turned)))
    (l_turned : K.lookup turned = some ⟨oc_turned, od_turned, .func (PySem.W.fnOf "turned" "turned" (defArgs s_turned) (defBody s_turned) (defScope s_turned) .none kV_turned dc_turned pm_turned an_turned cd_turned ct_turned), sl_turned⟩)
    (c_turned : PySem.W.codeIn K cd_turned "turned" = true)
    (k_turned : PySem.W.keepIn K (.ref turned) = true)
    (a_kind_between : PySem.W.nsIn K mainGlobals "kind_between" = some (some (.ref kind_between)))
    (l_kind_between : K.lookup kind_between = some ⟨oc_kind_between, od_kind_between, .func (PySem.W.fnOf "kind_between" "kind_between" (defArgs s_kind_between) (defBody s_kind_between) (defScope s_kind_between) .none kV_kind_between dc_kind_between pm_kind_between an_kind_between cd_kind_between ct_kind_between), sl_kind_between⟩)
    (c_kind_between : PySem.W.codeIn K cd_kind_between "kind_between" = true)
    (k_kind_between : PySem.W.keepIn K (.ref kind_between) = true)
    (a_Motion_init : PySem.W.findIn K (.ref C_Motion) "__init__" = some (some (.ref Motion_init)))
    (i_Motion_init : PySem.W.isFn K (.ref Motion_init) = true)
    (l_Motion_init : K.lookup Motion_init = some ⟨oc_Motion_init, od_Motion_init, .func (PySem.W.fnOf "__init__" "Motion.__init__" (defArgs s_Motion_init) (defBody s_Motion_init) (defScope s_Motion_init) (.ref T_Motion_init) kV_Motion_init dc_Motion_init pm_Motion_init an_Motion_init cd_Motion_init ct_Motion_init), sl_Motion_init⟩)
    (c_Motion_init : PySem.W.codeIn K cd_Motion_init "Motion.__init__" = true)
    (k_Motion_init : PySem.W.keepIn K (.ref Motion_init) = true)
    (dd_Motion_init : K.lookup T_Motion_init = some ⟨.type "tuple", odd_Motion_init, .seq #[.ref dfl0] nd_Motion_init, sld_Motion_init⟩)
    (a_Motion_by : PySem.W.findCls K (.ref C_Motion) (.type "type") "by" = some (.get (.builtin "staticmethod.__get__") (.ref p_Motion_by) .none (.ref C_Motion)))
    (rc_Motion_by : PySem.W.recIn K p_Motion_by "staticmethod" = some (.ref Motion_by :: r_Motion_by))
    (rd_Motion_by : PySem.W.readsIn K C_Motion (.type "type") = true)
    (ga_Motion_by : PySem.W.specialIn K (.ref C_Motion) "__getattribute__" = some (some (.builtin "type.__getattribute__")))
    (l_Motion_by : K.lookup Motion_by = some ⟨oc_Motion_by, od_Motion_by, .func (PySem.W.fnOf "by" "Motion.by" (defArgs s_Motion_by) (defBody s_Motion_by) (defScope s_Motion_by) .none kV_Motion_by dc_Motion_by pm_Motion_by an_Motion_by cd_Motion_by ct_Motion_by), sl_Motion_by⟩)
    (c_Motion_by : PySem.W.codeIn K cd_Motion_by "Motion.by" = true)
    (k_Motion_by : PySem.W.keepIn K (.ref Motion_by) = true)
    (a_Motion_kind : PySem.W.findIn K (.ref C_Motion) "kind" = some (some (.ref p_Motion_kind)))
    (g1_Motion_kind : PySem.W.specialIn K (.ref p_Motion_kind) "__get__" = some (some (.builtin "property.__get__")))
    (g2_Motion_kind : PySem.W.takesIn K (.ref p_Motion_kind) = some true)
    (g3_Motion_kind : PySem.W.recIn K p_Motion_kind "property" = some (.ref Motion_kind :: r_Motion_kind))
    (l_Motion_kind : K.lookup Motion_kind = some ⟨oc_Motion_kind, od_Motion_kind, .func (PySem.W.fnOf "kind" "Motion.kind" (defArgs s_Motion_kind) (defBody s_Motion_kind) (defScope s_Motion_kind) .none kV_Motion_kind dc_Motion_kind pm_Motion_kind an_Motion_kind cd_Motion_kind ct_Motion_kind), sl_Motion_kind⟩)
    (c_Motion_kind : PySem.W.codeIn K cd_Motion_kind "Motion.kind" = true)
    (k_Motion_kind : PySem.W.keepIn K (.ref Motion_kind) = true)
    (a_Motion_shift : PySem.W.findIn K (.ref C_Motion) "shift" = some (some (.ref p_Motion_shift)))
    (g1_Motion_shift : PySem.W.specialIn K (.ref p_Motion_shift) "__get__" = some (some (.builtin "property.__get__")))
    (g2_Motion_shift : PySem.W.takesIn K (.ref p_Motion_shift) = some true)
    (g3_Motion_shift : PySem.W.recIn K p_Motion_shift "property" = some (.ref Motion_shift :: r_Motion_shift))
    (l_Motion_shift : K.lookup Motion_shift = some ⟨oc_Motion_shift, od_Motion_shift, .func (PySem.W.fnOf "shift" "Motion.shift" (defArgs s_Motion_shift) (defBody s_Motion_shift) (defScope s_Motion_shift) .none kV_Motion_shift dc_Motion_shift pm_Motion_shift an_Motion_shift cd_Motion_shift ct_Motion_shift), sl_Motion_shift⟩)
    (c_Motion_shift : PySem.W.codeIn K cd_Motion_shift "Motion.shift" = true)
    (k_Motion_shift : PySem.W.keepIn K (.ref Motion_shift) = true)
    (a_Motion_is_mirrored : PySem.W.findIn K (.ref C_Motion) "is_mirrored" = some (some (.ref p_Motion_is_mirrored)))
    (g1_Motion_is_mirrored : PySem.W.specialIn K (.ref p_Motion_is_mirrored) "__get__" = some (some (.builtin "property.__get__")))
    (g2_Motion_is_mirrored : PySem.W.takesIn K (.ref p_Motion_is_mirrored) = some true)
    (g3_Motion_is_mirrored : PySem.W.recIn K p_Motion_is_mirrored "property" = some (.ref Motion_is_mirrored :: r_Motion_is_mirrored))
    (l_Motion_is_mirrored : K.lookup Motion_is_mirrored = some ⟨oc_Motion_is_mirrored, od_Motion_is_mirrored, .func (PySem.W.fnOf "is_mirrored" "Motion.is_mirrored" (defArgs s_Motion_is_mirrored) (defBody s_Motion_is_mirrored) (defScope s_Motion_is_mirrored) .none kV_Motion_is_mirrored dc_Motion_is_mirrored pm_Motion_is_mirrored an_Motion_is_mirrored cd_Motion_is_mirrored ct_Motion_is_mirrored), sl_Motion_is_mirrored⟩)
    (c_Motion_is_mirrored : PySem.W.codeIn K cd_Motion_is_mirrored "Motion.is_mirrored" = true)
    (k_Motion_is_mirrored : PySem.W.keepIn K (.ref Motion_is_mirrored) = true)
    (a_Motion_call : PySem.W.findIn K (.ref C_Motion) "__call__" = some (some (.ref Motion_call)))
    (i_Motion_call : PySem.W.isFn K (.ref Motion_call) = true)
    (fn_Motion_call : PySem.W.fnIn K Motion_call = true)
    (l_Motion_call : K.lookup Motion_call = some ⟨oc_Motion_call, od_Motion_call, .func (PySem.W.fnOf "__call__" "Motion.__call__" (defArgs s_Motion_call) (defBody s_Motion_call) (defScope s_Motion_call) .none kV_Motion_call dc_Motion_call pm_Motion_call an_Motion_call cd_Motion_call ct_Motion_call), sl_Motion_call⟩)
    (c_Motion_call : PySem.W.codeIn K cd_Motion_call "Motion.__call__" = true)
    (k_Motion_call : PySem.W.keepIn K (.ref Motion_call) = true)
    (a_Motion_mul : PySem.W.findIn K (.ref C_Motion) "__mul__" = some (some (.ref Motion_mul)))
    (i_Motion_mul : PySem.W.isFn K (.ref Motion_mul) = true)
    (sf_Motion : PySem.W.selfFirst K C_Motion = true)
    (l_Motion_mul : K.lookup Motion_mul = some ⟨oc_Motion_mul, od_Motion_mul, .func (PySem.W.fnOf "__mul__" "Motion.__mul__" (defArgs s_Motion_mul) (defBody s_Motion_mul) (defScope s_Motion_mul) .none kV_Motion_mul dc_Motion_mul pm_Motion_mul an_Motion_mul cd_Motion_mul ct_Motion_mul), sl_Motion_mul⟩)
    (c_Motion_mul : PySem.W.codeIn K cd_Motion_mul "Motion.__mul__" = true)
    (k_Motion_mul : PySem.W.keepIn K (.ref Motion_mul) = true)
    (a_Motion_invert : PySem.W.findIn K (.ref C_Motion) "__invert__" = some (some (.ref Motion_invert)))
    (i_Motion_invert : PySem.W.isFn K (.ref Motion_invert) = true)
    (l_Motion_invert : K.lookup Motion_invert = some ⟨oc_Motion_invert, od_Motion_invert, .func (PySem.W.fnOf "__invert__" "Motion.__invert__" (defArgs s_Motion_invert) (defBody s_Motion_invert) (defScope s_Motion_invert) .none kV_Motion_invert dc_Motion_invert pm_Motion_invert an_Motion_invert cd_Motion_invert ct_Motion_invert), sl_Motion_invert⟩)
    (c_Motion_invert : PySem.W.codeIn K cd_Motion_invert "Motion.__invert__" = true)
    (k_Motion_invert : PySem.W.keepIn K (.ref Motion_invert) = true)
    (a_Motion_repeated : PySem.W.findIn K (.ref C_Motion) "repeated" = some (some (.ref Motion_repeated)))
    (i_Motion_repeated : PySem.W.isFn K (.ref Motion_repeated) = true)
    (l_Motion_repeated : K.lookup Motion_repeated = some ⟨oc_Motion_repeated, od_Motion_repeated, .func (PySem.W.fnOf "repeated" "Motion.repeated" (defArgs s_Motion_repeated) (defBody s_Motion_repeated) (defScope s_Motion_repeated) .none kV_Motion_repeated dc_Motion_repeated pm_Motion_repeated an_Motion_repeated cd_Motion_repeated ct_Motion_repeated), sl_Motion_repeated⟩)
    (c_Motion_repeated : PySem.W.codeIn K cd_Motion_repeated "Motion.repeated" = true)
    (k_Motion_repeated : PySem.W.keepIn K (.ref Motion_repeated) = true)
    (a_Motion_eq : PySem.W.findIn K (.ref C_Motion) "__eq__" = some (some (.ref Motion_eq)))
    (i_Motion_eq : PySem.W.isFn K (.ref Motion_eq) = true)
    (ne_Motion : PySem.W.findIn K (.ref C_Motion) "__ne__" = some (some (.builtin "object.__ne__")))
    (ob_Motion : PySem.W.subIn K (.ref C_Motion) (.type "object") = some true)
    (l_Motion_eq : K.lookup Motion_eq = some ⟨oc_Motion_eq, od_Motion_eq, .func (PySem.W.fnOf "__eq__" "Motion.__eq__" (defArgs s_Motion_eq) (defBody s_Motion_eq) (defScope s_Motion_eq) .none kV_Motion_eq dc_Motion_eq pm_Motion_eq an_Motion_eq cd_Motion_eq ct_Motion_eq), sl_Motion_eq⟩)
    (c_Motion_eq : PySem.W.codeIn K cd_Motion_eq "Motion.__eq__" = true)
    (k_Motion_eq : PySem.W.keepIn K (.ref Motion_eq) = true)
    (a_Motion_repr : PySem.W.findIn K (.ref C_Motion) "__repr__" = some (some (.ref Motion_repr)))
    (i_Motion_repr : PySem.W.isFn K (.ref Motion_repr) = true)
    (l_Motion_repr : K.lookup Motion_repr = some ⟨oc_Motion_repr, od_Motion_repr, .func (PySem.W.fnOf "__repr__" "Motion.__repr__" (defArgs s_Motion_repr) (defBody s_Motion_repr) (defScope s_Motion_repr) .none kV_Motion_repr dc_Motion_repr pm_Motion_repr an_Motion_repr cd_Motion_repr ct_Motion_repr), sl_Motion_repr⟩)
    (c_Motion_repr : PySem.W.codeIn K cd_Motion_repr "Motion.__repr__" = true)
    (k_Motion_repr : PySem.W.keepIn K (.ref Motion_repr) = true)
    (a_law_tape : PySem.W.nsIn K mainGlobals "_law_tape" = some (some (.ref law_tape)))
    (l_law_tape : K.lookup law_tape = some ⟨oc_law_tape, od_law_tape, .func (PySem.W.fnOf "_law_tape" "_law_tape" (defArgs s_law_tape) (defBody s_law_tape) (defScope s_law_tape) .none kV_law_tape dc_law_tape pm_law_tape an_law_tape cd_law_tape ct_law_tape), sl_law_tape⟩)
    (c_law_tape : PySem.W.codeIn K cd_law_tape "_law_tape" = true)
    (k_law_tape : PySem.W.keepIn K (.ref law_tape) = true)
    (a_law_draw : PySem.W.nsIn K mainGlobals "_law_draw" = some (some (.ref law_draw)))
    (l_law_draw : K.lookup law_draw = some ⟨oc_law_draw, od_law_draw, .func (PySem.W.fnOf "_law_draw" "_law_draw" (defArgs s_law_draw) (defBody s_law_draw) (defScope s_law_draw) .none kV_law_draw dc_law_draw pm_law_draw an_law_draw cd_law_draw ct_law_draw), sl_law_draw⟩)
    (c_law_draw : PySem.W.codeIn K cd_law_draw "_law_draw" = true)
    (k_law_draw : PySem.W.keepIn K (.ref law_draw) = true)
    (a_law_great : PySem.W.nsIn K mainGlobals "_law_great" = some (some (.ref law_great)))
    (l_law_great : K.lookup law_great = some ⟨oc_law_great, od_law_great, .func (PySem.W.fnOf "_law_great" "_law_great" (defArgs s_law_great) (defBody s_law_great) (defScope s_law_great) .none kV_law_great dc_law_great pm_law_great an_law_great cd_law_great ct_law_great), sl_law_great⟩)
    (c_law_great : PySem.W.codeIn K cd_law_great "_law_great" = true)
    (k_law_great : PySem.W.keepIn K (.ref law_great) = true)
    (a_law_place : PySem.W.nsIn K mainGlobals "_law_place" = some (some (.ref law_place)))
    (l_law_place : K.lookup law_place = some ⟨oc_law_place, od_law_place, .func (PySem.W.fnOf "_law_place" "_law_place" (defArgs s_law_place) (defBody s_law_place) (defScope s_law_place) .none kV_law_place dc_law_place pm_law_place an_law_place cd_law_place ct_law_place), sl_law_place⟩)
    (c_law_place : PySem.W.codeIn K cd_law_place "_law_place" = true)
    (k_law_place : PySem.W.keepIn K (.ref law_place) = true)
    (a_law_turned : PySem.W.nsIn K mainGlobals "_law_turned" = some (some (.ref law_turned)))
    (l_law_turned : K.lookup law_turned = some ⟨oc_law_turned, od_law_turned, .func (PySem.W.fnOf "_law_turned" "_law_turned" (defArgs s_law_turned) (defBody s_law_turned) (defScope s_law_turned) .none kV_law_turned dc_law_turned pm_law_turned an_law_turned cd_law_turned ct_law_turned), sl_law_turned⟩)
    (c_law_turned : PySem.W.codeIn K cd_law_turned "_law_turned" = true)
    (k_law_turned : PySem.W.keepIn K (.ref law_turned) = true)
    (a_law_kinds : PySem.W.nsIn K mainGlobals "_law_kinds" = some (some (.ref law_kinds)))
    (l_law_kinds : K.lookup law_kinds = some ⟨oc_law_kinds, od_law_kinds, .func (PySem.W.fnOf "_law_kinds" "_law_kinds" (defArgs s_law_kinds) (defBody s_law_kinds) (defScope s_law_kinds) .none kV_law_kinds dc_law_kinds pm_law_kinds an_law_kinds cd_law_kinds ct_law_kinds), sl_law_kinds⟩)
    (c_law_kinds : PySem.W.codeIn K cd_law_kinds "_law_kinds" = true)
    (k_law_kinds : PySem.W.keepIn K (.ref law_kinds) = true)
    (a_law_carried : PySem.W.nsIn K mainGlobals "_law_carried" = some (some (.ref law_carried)))
    (l_law_carried : K.lookup law_carried = some ⟨oc_law_carried, od_law_carried, .func (PySem.W.fnOf "_law_carried" "_law_carried" (defArgs s_law_carried) (defBody s_law_carried) (defScope s_law_carried) .none kV_law_carried dc_law_carried pm_law_carried an_law_carried cd_law_carried ct_law_carried), sl_law_carried⟩)
    (c_law_carried : PySem.W.codeIn K cd_law_carried "_law_carried" = true)
    (k_law_carried : PySem.W.keepIn K (.ref law_carried) = true)
    (a_law_far_move : PySem.W.nsIn K mainGlobals "_law_far_move" = some (some (.ref law_far_move)))
    (l_law_far_move : K.lookup law_far_move = some ⟨oc_law_far_move, od_law_far_move, .func (PySem.W.fnOf "_law_far_move" "_law_far_move" (defArgs s_law_far_move) (defBody s_law_far_move) (defScope s_law_far_move) .none kV_law_far_move dc_law_far_move pm_law_far_move an_law_far_move cd_law_far_move ct_law_far_move), sl_law_far_move⟩)
    (c_law_far_move : PySem.W.codeIn K cd_law_far_move "_law_far_move" = true)
    (k_law_far_move : PySem.W.keepIn K (.ref law_far_move) = true)
    (a_law_told : PySem.W.nsIn K mainGlobals "_law_told" = some (some (.ref law_told)))
    (l_law_told : K.lookup law_told = some ⟨oc_law_told, od_law_told, .func (PySem.W.fnOf "_law_told" "_law_told" (defArgs s_law_told) (defBody s_law_told) (defScope s_law_told) .none kV_law_told dc_law_told pm_law_told an_law_told cd_law_told ct_law_told), sl_law_told⟩)
    (c_law_told : PySem.W.codeIn K cd_law_told "_law_told" = true)
    (k_law_told : PySem.W.keepIn K (.ref law_told) = true)
    (a_law_right : PySem.W.nsIn K mainGlobals "_law_right" = some (some (.ref law_right)))
    (l_law_right : K.lookup law_right = some ⟨oc_law_right, od_law_right, .func (PySem.W.fnOf "_law_right" "_law_right" (defArgs s_law_right) (defBody s_law_right) (defScope s_law_right) .none kV_law_right dc_law_right pm_law_right an_law_right cd_law_right ct_law_right), sl_law_right⟩)
    (c_law_right : PySem.W.codeIn K cd_law_right "_law_right" = true)
    (k_law_right : PySem.W.keepIn K (.ref law_right) = true)
    (a_law_products_right : PySem.W.nsIn K mainGlobals "_law_products_right" = some (some (.ref law_products_right)))
    (l_law_products_right : K.lookup law_products_right = some ⟨oc_law_products_right, od_law_products_right, .func (PySem.W.fnOf "_law_products_right" "_law_products_right" (defArgs s_law_products_right) (defBody s_law_products_right) (defScope s_law_products_right) .none kV_law_products_right dc_law_products_right pm_law_products_right an_law_products_right cd_law_products_right ct_law_products_right), sl_law_products_right⟩)
    (c_law_products_right : PySem.W.codeIn K cd_law_products_right "_law_products_right" = true)
    (k_law_products_right : PySem.W.keepIn K (.ref law_products_right) = true)
    (a_law_powers_right : PySem.W.nsIn K mainGlobals "_law_powers_right" = some (some (.ref law_powers_right)))
    (l_law_powers_right : K.lookup law_powers_right = some ⟨oc_law_powers_right, od_law_powers_right, .func (PySem.W.fnOf "_law_powers_right" "_law_powers_right" (defArgs s_law_powers_right) (defBody s_law_powers_right) (defScope s_law_powers_right) .none kV_law_powers_right dc_law_powers_right pm_law_powers_right an_law_powers_right cd_law_powers_right ct_law_powers_right), sl_law_powers_right⟩)
    (c_law_powers_right : PySem.W.codeIn K cd_law_powers_right "_law_powers_right" = true)
    (k_law_powers_right : PySem.W.keepIn K (.ref law_powers_right) = true)
    (a_law : PySem.W.nsIn K mainGlobals "law" = some (some (.ref law)))
    (l_law : K.lookup law = some ⟨oc_law, od_law, .func (PySem.W.fnOf "law" "law" (defArgs s_law) (defBody s_law) (defScope s_law) .none kV_law dc_law pm_law an_law cd_law ct_law), sl_law⟩)
    (c_law : PySem.W.codeIn K cd_law "law" = true)
    (k_law : PySem.W.keepIn K (.ref law) = true)
    (z_bool : PySem.W.nsIn K mainGlobals "bool" = some none)
    (z_int : PySem.W.nsIn K mainGlobals "int" = some none)
    (z_isinstance : PySem.W.nsIn K mainGlobals "isinstance" = some none)
    (z_len : PySem.W.nsIn K mainGlobals "len" = some none)
    (z_list : PySem.W.nsIn K mainGlobals "list" = some none)
    (z_range : PySem.W.nsIn K mainGlobals "range" = some none)
    (z_repr : PySem.W.nsIn K mainGlobals "repr" = some none)
    (z_str : PySem.W.nsIn K mainGlobals "str" = some none)
    (z_tuple : PySem.W.nsIn K mainGlobals "tuple" = some none)
    (c_IM : PySem.W.nsIn K mainGlobals "IMAGES" = some (some (.ref IMAGES)))
    (c_MI : PySem.W.nsIn K mainGlobals "MIRROR_IMAGES" = some (some (.ref MIRROR)))
    (c_PR : PySem.W.nsIn K mainGlobals "PROBE" = some (some (.ref PROBE)))
    (kt_MI : KT K MIRROR [V.str "flip", V.str "mirror", V.str "swap", V.str "cross"])
    (kt_PR : KT K PROBE [V.int 1, V.int 2])
    (kt_D0 : KT K dfl0 [V.int 0, V.int 0])
    (cv_K : PySem.W.findCls K (.ref C_Motion) (.type "type") "KINDS" = some (.val (.ref KINDS)))
    (kt_K : KT K KINDS [V.str "none", V.str "left", V.str "half", V.str "right", V.str "flip", V.str "mirror", V.str "swap", V.str "cross"])
    (kk_I : KKeys K IMAGES [V.str "none", V.str "left", V.str "half", V.str "right", V.str "flip", V.str "mirror", V.str "swap", V.str "cross"])
    (kd_none : KDct K w IMAGES "none" (V.ref im_none))
    (kd_left : KDct K w IMAGES "left" (V.ref im_left))
    (kd_half : KDct K w IMAGES "half" (V.ref im_half))
    (kd_right : KDct K w IMAGES "right" (V.ref im_right))
    (kd_flip : KDct K w IMAGES "flip" (V.ref im_flip))
    (kd_mirror : KDct K w IMAGES "mirror" (V.ref im_mirror))
    (kd_swap : KDct K w IMAGES "swap" (V.ref im_swap))
    (kd_cross : KDct K w IMAGES "cross" (V.ref im_cross))
    (kt_none : KT K im_none [V.int 1, V.int 0, V.int 0, V.int 1])
    (kt_left : KT K im_left [V.int 0, V.int (-1), V.int 1, V.int 0])
    (kt_half : KT K im_half [V.int (-1), V.int 0, V.int 0, V.int (-1)])
    (kt_right : KT K im_right [V.int 0, V.int 1, V.int (-1), V.int 0])
    (kt_flip : KT K im_flip [V.int 1, V.int 0, V.int 0, V.int (-1)])
    (kt_mirror : KT K im_mirror [V.int (-1), V.int 0, V.int 0, V.int 1])
    (kt_swap : KT K im_swap [V.int 0, V.int 1, V.int 1, V.int 0])
    (kt_cross : KT K im_cross [V.int 0, V.int (-1), V.int (-1), V.int 0])
    (nn_kind : PySem.W.findIn K (.ref C_Motion) "_kind" = some none)
    (nn_shift : PySem.W.findIn K (.ref C_Motion) "_shift" = some none)
    (ic1 : PySem.W.findIn K (.ref C_Motion) "__class__" = some (some (.builtin "object.__class__")))
    (ic2 : PySem.W.specialIn K (.builtin "object.__class__") "__get__" = some (some (.builtin "getset_descriptor.__get__")))
    (ic3 : PySem.W.takesIn K (.builtin "object.__class__") = some true)
    (ic4 : PySem.W.mroIn K C_Motion (.type "object") = some true)
    (kf_NoneType : PySem.W.kitOne K (.type "NoneType") (.ref C_Motion) = some false)
    (kf_tuple : PySem.W.kitOne K (.type "tuple") (.ref C_Motion) = some false)
    (kf_str : PySem.W.kitOne K (.type "str") (.ref C_Motion) = some false)
    (kf_int : PySem.W.kitOne K (.type "int") (.ref C_Motion) = some false)
    (kf_list : PySem.W.kitOne K (.type "list") (.ref C_Motion) = some false)
    (nf_NoneType : PySem.W.notFirst K C_Motion (.type "NoneType") = true)
    (nf_tuple : PySem.W.notFirst K C_Motion (.type "tuple") = true)
    (nf_str : PySem.W.notFirst K C_Motion (.type "str") = true)
    (nf_int : PySem.W.notFirst K C_Motion (.type "int") = true)
    (nf_list : PySem.W.notFirst K C_Motion (.type "list") = true)
    : ∃ a : Ad, a.law = fa ∧ (∀ (s : Shared) (v : Value), BindsTo s a.law_d ⟨[v], []⟩ [("_law_script", v)]) ∧ Txt w K mg a := by
  have e := hfa.symm.trans (PySem.W.mg_of X G a_law)
  cases e
  refine ⟨{ IMAGES := IMAGES, MIRROR := MIRROR, PROBE := PROBE, KINDS := KINDS, dfl0 := dfl0, im_none := im_none, im_left := im_left, im_half := im_half, im_right := im_right, im_flip := im_flip, im_mirror := im_mirror, im_swap := im_swap, im_cross := im_cross, C_Motion := C_Motion, is_integer := is_integer, is_integer_d := PySem.W.fnOf "is_integer" "is_integer" (defArgs s_is_integer) (defBody s_is_integer) (defScope s_is_integer) .none kV_is_integer dc_is_integer pm_is_integer an_is_integer cd_is_integer ct_is_integer, is_place := is_place, is_place_d := PySem.W.fnOf "is_place" "is_place" (defArgs s_is_place) (defBody s_is_place) (defScope s_is_place) .none kV_is_place dc_is_place pm_is_place an_is_place cd_is_place ct_is_place, check_place := check_place, check_place_d := PySem.W.fnOf "check_place" "check_place" (defArgs s_check_place) (defBody s_check_place) (defScope s_check_place) .none kV_check_place dc_check_place pm_check_place an_check_place cd_check_place ct_check_place, turned := turned, turned_d := PySem.W.fnOf "turned" "turned" (defArgs s_turned) (defBody s_turned) (defScope s_turned) .none kV_turned dc_turned pm_turned an_turned cd_turned ct_turned, kind_between := kind_between, kind_between_d := PySem.W.fnOf "kind_between" "kind_between" (defArgs s_kind_between) (defBody s_kind_between) (defScope s_kind_between) .none kV_kind_between dc_kind_between pm_kind_between an_kind_between cd_kind_between ct_kind_between, Motion_init := Motion_init, Motion_init_d := PySem.W.fnOf "__init__" "Motion.__init__" (defArgs s_Motion_init) (defBody s_Motion_init) (defScope s_Motion_init) (.ref T_Motion_init) kV_Motion_init dc_Motion_init pm_Motion_init an_Motion_init cd_Motion_init ct_Motion_init, Motion_by := Motion_by, Motion_by_d := PySem.W.fnOf "by" "Motion.by" (defArgs s_Motion_by) (defBody s_Motion_by) (defScope s_Motion_by) .none kV_Motion_by dc_Motion_by pm_Motion_by an_Motion_by cd_Motion_by ct_Motion_by, p_Motion_by := p_Motion_by, Motion_kind := Motion_kind, Motion_kind_d := PySem.W.fnOf "kind" "Motion.kind" (defArgs s_Motion_kind) (defBody s_Motion_kind) (defScope s_Motion_kind) .none kV_Motion_kind dc_Motion_kind pm_Motion_kind an_Motion_kind cd_Motion_kind ct_Motion_kind, p_Motion_kind := p_Motion_kind, Motion_shift := Motion_shift, Motion_shift_d := PySem.W.fnOf "shift" "Motion.shift" (defArgs s_Motion_shift) (defBody s_Motion_shift) (defScope s_Motion_shift) .none kV_Motion_shift dc_Motion_shift pm_Motion_shift an_Motion_shift cd_Motion_shift ct_Motion_shift, p_Motion_shift := p_Motion_shift, Motion_is_mirrored := Motion_is_mirrored, Motion_is_mirrored_d := PySem.W.fnOf "is_mirrored" "Motion.is_mirrored" (defArgs s_Motion_is_mirrored) (defBody s_Motion_is_mirrored) (defScope s_Motion_is_mirrored) .none kV_Motion_is_mirrored dc_Motion_is_mirrored pm_Motion_is_mirrored an_Motion_is_mirrored cd_Motion_is_mirrored ct_Motion_is_mirrored, p_Motion_is_mirrored := p_Motion_is_mirrored, Motion_call := Motion_call, Motion_call_d := PySem.W.fnOf "__call__" "Motion.__call__" (defArgs s_Motion_call) (defBody s_Motion_call) (defScope s_Motion_call) .none kV_Motion_call dc_Motion_call pm_Motion_call an_Motion_call cd_Motion_call ct_Motion_call, Motion_mul := Motion_mul, Motion_mul_d := PySem.W.fnOf "__mul__" "Motion.__mul__" (defArgs s_Motion_mul) (defBody s_Motion_mul) (defScope s_Motion_mul) .none kV_Motion_mul dc_Motion_mul pm_Motion_mul an_Motion_mul cd_Motion_mul ct_Motion_mul, Motion_invert := Motion_invert, Motion_invert_d := PySem.W.fnOf "__invert__" "Motion.__invert__" (defArgs s_Motion_invert) (defBody s_Motion_invert) (defScope s_Motion_invert) .none kV_Motion_invert dc_Motion_invert pm_Motion_invert an_Motion_invert cd_Motion_invert ct_Motion_invert, Motion_repeated := Motion_repeated, Motion_repeated_d := PySem.W.fnOf "repeated" "Motion.repeated" (defArgs s_Motion_repeated) (defBody s_Motion_repeated) (defScope s_Motion_repeated) .none kV_Motion_repeated dc_Motion_repeated pm_Motion_repeated an_Motion_repeated cd_Motion_repeated ct_Motion_repeated, Motion_eq := Motion_eq, Motion_eq_d := PySem.W.fnOf "__eq__" "Motion.__eq__" (defArgs s_Motion_eq) (defBody s_Motion_eq) (defScope s_Motion_eq) .none kV_Motion_eq dc_Motion_eq pm_Motion_eq an_Motion_eq cd_Motion_eq ct_Motion_eq, Motion_repr := Motion_repr, Motion_repr_d := PySem.W.fnOf "__repr__" "Motion.__repr__" (defArgs s_Motion_repr) (defBody s_Motion_repr) (defScope s_Motion_repr) .none kV_Motion_repr dc_Motion_repr pm_Motion_repr an_Motion_repr cd_Motion_repr ct_Motion_repr, law_tape := law_tape, law_tape_d := PySem.W.fnOf "_law_tape" "_law_tape" (defArgs s_law_tape) (defBody s_law_tape) (defScope s_law_tape) .none kV_law_tape dc_law_tape pm_law_tape an_law_tape cd_law_tape ct_law_tape, law_draw := law_draw, law_draw_d := PySem.W.fnOf "_law_draw" "_law_draw" (defArgs s_law_draw) (defBody s_law_draw) (defScope s_law_draw) .none kV_law_draw dc_law_draw pm_law_draw an_law_draw cd_law_draw ct_law_draw, law_great := law_great, law_great_d := PySem.W.fnOf "_law_great" "_law_great" (defArgs s_law_great) (defBody s_law_great) (defScope s_law_great) .none kV_law_great dc_law_great pm_law_great an_law_great cd_law_great ct_law_great, law_place := law_place, law_place_d := PySem.W.fnOf "_law_place" "_law_place" (defArgs s_law_place) (defBody s_law_place) (defScope s_law_place) .none kV_law_place dc_law_place pm_law_place an_law_place cd_law_place ct_law_place, law_turned := law_turned, law_turned_d := PySem.W.fnOf "_law_turned" "_law_turned" (defArgs s_law_turned) (defBody s_law_turned) (defScope s_law_turned) .none kV_law_turned dc_law_turned pm_law_turned an_law_turned cd_law_turned ct_law_turned, law_kinds := law_kinds, law_kinds_d := PySem.W.fnOf "_law_kinds" "_law_kinds" (defArgs s_law_kinds) (defBody s_law_kinds) (defScope s_law_kinds) .none kV_law_kinds dc_law_kinds pm_law_kinds an_law_kinds cd_law_kinds ct_law_kinds, law_carried := law_carried, law_carried_d := PySem.W.fnOf "_law_carried" "_law_carried" (defArgs s_law_carried) (defBody s_law_carried) (defScope s_law_carried) .none kV_law_carried dc_law_carried pm_law_carried an_law_carried cd_law_carried ct_law_carried, law_far_move := law_far_move, law_far_move_d := PySem.W.fnOf "_law_far_move" "_law_far_move" (defArgs s_law_far_move) (defBody s_law_far_move) (defScope s_law_far_move) .none kV_law_far_move dc_law_far_move pm_law_far_move an_law_far_move cd_law_far_move ct_law_far_move, law_told := law_told, law_told_d := PySem.W.fnOf "_law_told" "_law_told" (defArgs s_law_told) (defBody s_law_told) (defScope s_law_told) .none kV_law_told dc_law_told pm_law_told an_law_told cd_law_told ct_law_told, law_right := law_right, law_right_d := PySem.W.fnOf "_law_right" "_law_right" (defArgs s_law_right) (defBody s_law_right) (defScope s_law_right) .none kV_law_right dc_law_right pm_law_right an_law_right cd_law_right ct_law_right, law_products_right := law_products_right, law_products_right_d := PySem.W.fnOf "_law_products_right" "_law_products_right" (defArgs s_law_products_right) (defBody s_law_products_right) (defScope s_law_products_right) .none kV_law_products_right dc_law_products_right pm_law_products_right an_law_products_right cd_law_products_right ct_law_products_right, law_powers_right := law_powers_right, law_powers_right_d := PySem.W.fnOf "_law_powers_right" "_law_powers_right" (defArgs s_law_powers_right) (defBody s_law_powers_right) (defScope s_law_powers_right) .none kV_law_powers_right dc_law_powers_right pm_law_powers_right an_law_powers_right cd_law_powers_right ct_law_powers_right, law := fa, law_d := PySem.W.fnOf "law" "law" (defArgs s_law) (defBody s_law) (defScope s_law) .none kV_law dc_law pm_law an_law cd_law ct_law }, rfl, fun s v => .of_eq rfl, ?_⟩
  exact {
    g_Motion := PySem.W.mg_of X G a_Motion,
    cl_Motion := ⟨pg_Motion, hd_Motion, po_Motion, sa_Motion⟩,
    k_Motion := ⟨mk_Motion, a_Motion_init, i_Motion_init, kc_Motion⟩,
    g_is_integer := PySem.W.mg_of X G a_is_integer,
    F_is_integer := fun_mk (st := s_is_integer) l_is_integer c_is_integer k_is_integer,
    b_is_integer := (fun_mk (st := s_is_integer) l_is_integer c_is_integer k_is_integer).binds (ps := P_is_integer) fun _ _ _ _ _ _ us hl => match us, hl with | [_], _ => rfl,
    g_is_place := PySem.W.mg_of X G a_is_place,
    F_is_place := fun_mk (st := s_is_place) l_is_place c_is_place k_is_place,
    b_is_place := (fun_mk (st := s_is_place) l_is_place c_is_place k_is_place).binds (ps := P_is_place) fun _ _ _ _ _ _ us hl => match us, hl with | [_], _ => rfl,
    g_check_place := PySem.W.mg_of X G a_check_place,
    F_check_place := fun_mk (st := s_check_place) l_check_place c_check_place k_check_place,
    b_check_place := (fun_mk (st := s_check_place) l_check_place c_check_place k_check_place).binds (ps := P_check_place) fun _ _ _ _ _ _ us hl => match us, hl with | [_], _ => rfl,
    g_turned := PySem.W.mg_of X G a_turned,
    F_turned := fun_mk (st := s_turned) l_turned c_turned k_turned,
    b_turned := (fun_mk (st := s_turned) l_turned c_turned k_turned).binds (ps := P_turned) fun _ _ _ _ _ _ us hl => match us, hl with | [_, _], _ => rfl,
    g_kind_between := PySem.W.mg_of X G a_kind_between,
    F_kind_between := fun_mk (st := s_kind_between) l_kind_between c_kind_between k_kind_between,
    b_kind_between := (fun_mk (st := s_kind_between) l_kind_between c_kind_between k_kind_between).binds (ps := P_kind_between) fun _ _ _ _ _ _ us hl => match us, hl with | [_, _], _ => rfl,
    F_Motion_init := ⟨⟨_, _, _, _, _, _, _, _, _, _, rfl, l_Motion_init, c_Motion_init, (.inr ⟨by simp, _, _, [_], _, rfl, dd_Motion_init, rfl, .cons rfl (.nil)⟩), .inl rfl⟩, k_Motion_init⟩,
    b_Motion_init := binds_all (FunD.binds1 (x := "__init__") (qual := "Motion.__init__") (params := defArgs s_Motion_init) (body := defBody s_Motion_init) (scope := defScope s_Motion_init) (dvs := [V.ref dfl0]) (kws := []) ⟨⟨_, _, _, _, _, _, _, _, _, _, rfl, l_Motion_init, c_Motion_init, (.inr ⟨by simp, _, _, [_], _, rfl, dd_Motion_init, rfl, .cons rfl (.nil)⟩), .inl rfl⟩, k_Motion_init⟩ 3 1 (by simp) rfl fun _ _ _ _ _ _ _ us its h1 h2 => match us, its, h1, h2 with | [_, _, _], [_], _, _ => by walk_at "mv_bind"),
    bd_Motion_init := FunD.binds1 (x := "__init__") (qual := "Motion.__init__") (params := defArgs s_Motion_init) (body := defBody s_Motion_init) (scope := defScope s_Motion_init) (dvs := [V.ref dfl0]) (kws := []) ⟨⟨_, _, _, _, _, _, _, _, _, _, rfl, l_Motion_init, c_Motion_init, (.inr ⟨by simp, _, _, [_], _, rfl, dd_Motion_init, rfl, .cons rfl (.nil)⟩), .inl rfl⟩, k_Motion_init⟩ 2 0 (by simp) rfl fun _ _ _ _ _ _ _ us its h1 h2 => match us, its, h1, h2 with | [_, _], [_], _, _ => by walk_at "mv_bind",
    sm_Motion_by := ⟨⟨rd_Motion_by, ga_Motion_by⟩, a_Motion_by, ⟨_, rc_Motion_by⟩, k_Motion_by⟩,
    F_Motion_by := fun_mk (st := s_Motion_by) l_Motion_by c_Motion_by k_Motion_by,
    b_Motion_by := (fun_mk (st := s_Motion_by) l_Motion_by c_Motion_by k_Motion_by).binds (ps := P_Motion_by) fun _ _ _ _ _ _ us hl => match us, hl with | [_], _ => rfl,
    p_Motion_kind := ⟨a_Motion_kind, g1_Motion_kind, g2_Motion_kind, _, g3_Motion_kind⟩,
    F_Motion_kind := fun_mk (st := s_Motion_kind) l_Motion_kind c_Motion_kind k_Motion_kind,
    b_Motion_kind := (fun_mk (st := s_Motion_kind) l_Motion_kind c_Motion_kind k_Motion_kind).binds (ps := P_Motion_kind) fun _ _ _ _ _ _ us hl => match us, hl with | [_], _ => rfl,
    p_Motion_shift := ⟨a_Motion_shift, g1_Motion_shift, g2_Motion_shift, _, g3_Motion_shift⟩,
    F_Motion_shift := fun_mk (st := s_Motion_shift) l_Motion_shift c_Motion_shift k_Motion_shift,
    b_Motion_shift := (fun_mk (st := s_Motion_shift) l_Motion_shift c_Motion_shift k_Motion_shift).binds (ps := P_Motion_shift) fun _ _ _ _ _ _ us hl => match us, hl with | [_], _ => rfl,
    p_Motion_is_mirrored := ⟨a_Motion_is_mirrored, g1_Motion_is_mirrored, g2_Motion_is_mirrored, _, g3_Motion_is_mirrored⟩,
    F_Motion_is_mirrored := fun_mk (st := s_Motion_is_mirrored) l_Motion_is_mirrored c_Motion_is_mirrored k_Motion_is_mirrored,
    b_Motion_is_mirrored := (fun_mk (st := s_Motion_is_mirrored) l_Motion_is_mirrored c_Motion_is_mirrored k_Motion_is_mirrored).binds (ps := P_Motion_is_mirrored) fun _ _ _ _ _ _ us hl => match us, hl with | [_], _ => rfl,
    o_Motion_call := ⟨a_Motion_call, i_Motion_call⟩,
    fn_Motion_call := fn_Motion_call,
    F_Motion_call := fun_mk (st := s_Motion_call) l_Motion_call c_Motion_call k_Motion_call,
    b_Motion_call := (fun_mk (st := s_Motion_call) l_Motion_call c_Motion_call k_Motion_call).binds (ps := P_Motion_call) fun _ _ _ _ _ _ us hl => match us, hl with | [_, _], _ => rfl,
    o_Motion_mul := ⟨a_Motion_mul, i_Motion_mul⟩,
    sf_Motion := sf_Motion,
    F_Motion_mul := fun_mk (st := s_Motion_mul) l_Motion_mul c_Motion_mul k_Motion_mul,
    b_Motion_mul := (fun_mk (st := s_Motion_mul) l_Motion_mul c_Motion_mul k_Motion_mul).binds (ps := P_Motion_mul) fun _ _ _ _ _ _ us hl => match us, hl with | [_, _], _ => rfl,
    o_Motion_invert := ⟨a_Motion_invert, i_Motion_invert⟩,
    F_Motion_invert := fun_mk (st := s_Motion_invert) l_Motion_invert c_Motion_invert k_Motion_invert,
    b_Motion_invert := (fun_mk (st := s_Motion_invert) l_Motion_invert c_Motion_invert k_Motion_invert).binds (ps := P_Motion_invert) fun _ _ _ _ _ _ us hl => match us, hl with | [_], _ => rfl,
    m_Motion_repeated := ⟨a_Motion_repeated, i_Motion_repeated, k_Motion_repeated⟩,
    F_Motion_repeated := fun_mk (st := s_Motion_repeated) l_Motion_repeated c_Motion_repeated k_Motion_repeated,
    b_Motion_repeated := (fun_mk (st := s_Motion_repeated) l_Motion_repeated c_Motion_repeated k_Motion_repeated).binds (ps := P_Motion_repeated) fun _ _ _ _ _ _ us hl => match us, hl with | [_, _], _ => rfl,
    e_Motion := ⟨a_Motion_eq, i_Motion_eq, ne_Motion, ob_Motion⟩,
    F_Motion_eq := fun_mk (st := s_Motion_eq) l_Motion_eq c_Motion_eq k_Motion_eq,
    b_Motion_eq := (fun_mk (st := s_Motion_eq) l_Motion_eq c_Motion_eq k_Motion_eq).binds (ps := P_Motion_eq) fun _ _ _ _ _ _ us hl => match us, hl with | [_, _], _ => rfl,
    o_Motion_repr := ⟨a_Motion_repr, i_Motion_repr⟩,
    F_Motion_repr := fun_mk (st := s_Motion_repr) l_Motion_repr c_Motion_repr k_Motion_repr,
    b_Motion_repr := (fun_mk (st := s_Motion_repr) l_Motion_repr c_Motion_repr k_Motion_repr).binds (ps := P_Motion_repr) fun _ _ _ _ _ _ us hl => match us, hl with | [_], _ => rfl,
    g_law_tape := PySem.W.mg_of X G a_law_tape,
    F_law_tape := fun_mk (st := s_law_tape) l_law_tape c_law_tape k_law_tape,
    b_law_tape := (fun_mk (st := s_law_tape) l_law_tape c_law_tape k_law_tape).binds (ps := P_law_tape) fun _ _ _ _ _ _ us hl => match us, hl with | [_], _ => rfl,
    g_law_draw := PySem.W.mg_of X G a_law_draw,
    F_law_draw := fun_mk (st := s_law_draw) l_law_draw c_law_draw k_law_draw,
    b_law_draw := (fun_mk (st := s_law_draw) l_law_draw c_law_draw k_law_draw).binds (ps := P_law_draw) fun _ _ _ _ _ _ us hl => match us, hl with | [_, _], _ => rfl,
    g_law_great := PySem.W.mg_of X G a_law_great,
    F_law_great := fun_mk (st := s_law_great) l_law_great c_law_great k_law_great,
    b_law_great := (fun_mk (st := s_law_great) l_law_great c_law_great k_law_great).binds (ps := P_law_great) fun _ _ _ _ _ _ us hl => match us, hl with | [_, _], _ => rfl,
    g_law_place := PySem.W.mg_of X G a_law_place,
    F_law_place := fun_mk (st := s_law_place) l_law_place c_law_place k_law_place,
    b_law_place := (fun_mk (st := s_law_place) l_law_place c_law_place k_law_place).binds (ps := P_law_place) fun _ _ _ _ _ _ us hl => match us, hl with | [_], _ => rfl,
    g_law_turned := PySem.W.mg_of X G a_law_turned,
    F_law_turned := fun_mk (st := s_law_turned) l_law_turned c_law_turned k_law_turned,
    b_law_turned := (fun_mk (st := s_law_turned) l_law_turned c_law_turned k_law_turned).binds (ps := P_law_turned) fun _ _ _ _ _ _ us hl => match us, hl with | [_, _], _ => rfl,
    g_law_kinds := PySem.W.mg_of X G a_law_kinds,
    F_law_kinds := fun_mk (st := s_law_kinds) l_law_kinds c_law_kinds k_law_kinds,
    b_law_kinds := (fun_mk (st := s_law_kinds) l_law_kinds c_law_kinds k_law_kinds).binds (ps := P_law_kinds) fun _ _ _ _ _ _ us hl => match us, hl with | [], _ => rfl,
    g_law_carried := PySem.W.mg_of X G a_law_carried,
    F_law_carried := fun_mk (st := s_law_carried) l_law_carried c_law_carried k_law_carried,
    b_law_carried := (fun_mk (st := s_law_carried) l_law_carried c_law_carried k_law_carried).binds (ps := P_law_carried) fun _ _ _ _ _ _ us hl => match us, hl with | [_, _], _ => rfl,
    g_law_far_move := PySem.W.mg_of X G a_law_far_move,
    F_law_far_move := fun_mk (st := s_law_far_move) l_law_far_move c_law_far_move k_law_far_move,
    b_law_far_move := (fun_mk (st := s_law_far_move) l_law_far_move c_law_far_move k_law_far_move).binds (ps := P_law_far_move) fun _ _ _ _ _ _ us hl => match us, hl with | [_], _ => rfl,
    g_law_told := PySem.W.mg_of X G a_law_told,
    F_law_told := fun_mk (st := s_law_told) l_law_told c_law_told k_law_told,
    b_law_told := (fun_mk (st := s_law_told) l_law_told c_law_told k_law_told).binds (ps := P_law_told) fun _ _ _ _ _ _ us hl => match us, hl with | [_], _ => rfl,
    g_law_right := PySem.W.mg_of X G a_law_right,
    F_law_right := fun_mk (st := s_law_right) l_law_right c_law_right k_law_right,
    b_law_right := (fun_mk (st := s_law_right) l_law_right c_law_right k_law_right).binds (ps := P_law_right) fun _ _ _ _ _ _ us hl => match us, hl with | [_, _], _ => rfl,
    g_law_products_right := PySem.W.mg_of X G a_law_products_right,
    F_law_products_right := fun_mk (st := s_law_products_right) l_law_products_right c_law_products_right k_law_products_right,
    b_law_products_right := (fun_mk (st := s_law_products_right) l_law_products_right c_law_products_right k_law_products_right).binds (ps := P_law_products_right) fun _ _ _ _ _ _ us hl => match us, hl with | [_, _], _ => rfl,
    g_law_powers_right := PySem.W.mg_of X G a_law_powers_right,
    F_law_powers_right := fun_mk (st := s_law_powers_right) l_law_powers_right c_law_powers_right k_law_powers_right,
    b_law_powers_right := (fun_mk (st := s_law_powers_right) l_law_powers_right c_law_powers_right k_law_powers_right).binds (ps := P_law_powers_right) fun _ _ _ _ _ _ us hl => match us, hl with | [_, _, _], _ => rfl,
    g_law := PySem.W.mg_of X G a_law,
    F_law := fun_mk (st := s_law) l_law c_law k_law,
    b_law := (fun_mk (st := s_law) l_law c_law k_law).binds (ps := P_law) fun _ _ _ _ _ _ us hl => match us, hl with | [_], _ => rfl,
    z_bool := PySem.W.mg_none_of X G z_bool,
    z_int := PySem.W.mg_none_of X G z_int,
    z_isinstance := PySem.W.mg_none_of X G z_isinstance,
    z_len := PySem.W.mg_none_of X G z_len,
    z_list := PySem.W.mg_none_of X G z_list,
    z_range := PySem.W.mg_none_of X G z_range,
    z_repr := PySem.W.mg_none_of X G z_repr,
    z_str := PySem.W.mg_none_of X G z_str,
    z_tuple := PySem.W.mg_none_of X G z_tuple,
    v_IMAGES := PySem.W.mg_of X G c_IM,
    v_MIRROR_IMAGES := PySem.W.mg_of X G c_MI,
    v_PROBE := PySem.W.mg_of X G c_PR,
    t_MIRROR := kt_MI,
    t_PROBE := kt_PR,
    t_dfl0 := kt_D0,
    c_KINDS := ⟨cv_K, rfl⟩,
    t_KINDS := kt_K,
    kk := kk_I,
    d_none := kd_none,
    d_left := kd_left,
    d_half := kd_half,
    d_right := kd_right,
    d_flip := kd_flip,
    d_mirror := kd_mirror,
    d_swap := kd_swap,
    d_cross := kd_cross,
    t_none := kt_none,
    t_left := kt_left,
    t_half := kt_half,
    t_right := kt_right,
    t_flip := kt_flip,
    t_mirror := kt_mirror,
    t_swap := kt_swap,
    t_cross := kt_cross,
    n_kind := nn_kind,
    n_shift := nn_shift,
    i_Motion := ⟨ic1, ic2, ic3, ic4⟩,
    kf_NoneType := kf_NoneType,
    kf_tuple := kf_tuple,
    kf_str := kf_str,
    kf_int := kf_int,
    kf_list := kf_list,
    nf_NoneType := nf_NoneType,
    nf_tuple := nf_tuple,
    nf_str := nf_str,
    nf_int := nf_int,
    nf_list := nf_list }
end Law
open PySem PySem.W PyProof.Rows
local macro_rules | `(tactic| walk_at "mv_vals") => `(tactic| repeat first | exact Paired.nil | refine Paired.cons ?_ ?_ | exact rfl | exact ⟨_, rfl⟩)
local macro_rules | `(tactic| walk_at "mv_kt") => `(tactic| (refine' MV.kt_mk ?h ?z ?v; (case h => k_is); (case z => decide +kernel); (case v => walk_at "mv_vals")))
local macro_rules | `(tactic| walk_at "mv_lit") => `(tactic| repeat first | exact True.intro | refine ⟨⟨_, _, rfl, rfl⟩, ?_⟩)
local macro_rules | `(tactic| walk_at "mv_kd") => `(tactic| (refine' MV.kd_mk ?h ?l ?n ?v; (case h => k_is); (case n => k_is); (case l => walk_at "mv_lit"); (case v => first | exact rfl | exact ⟨_, rfl⟩)))
local macro_rules | `(tactic| walk_at "mv_kk") => `(tactic| (refine' MV.kk_mk ?h ?n ?v; (case h => k_is); (case n => decide +kernel); (case v => walk_at "mv_vals")))
local macro_rules | `(tactic| walk_at "mv_bind") => `(tactic| (refine ⟨?k, ?h, ?g⟩; (case h => (unfold bindArgs; dsimp only; rw [List.forIn_nil, pure_bind])); (case g => exact rfl)))
set_option maxHeartbeats 0 in
theorem PySem.Challenge.cw_carpets_k07_motions_and_their_products_holds : PySem.Challenge.rw_carpets_k07_motions_and_their_products.Holds := by
  w_on; o_law; k_head; (case hw => w_witness2)
  k_fill
  refine MV.walkG (l := PySem.Challenge.rw_carpets_k07_motions_and_their_products) (n := 63) (k := 9) (x := "_law_script") (CX := L2.CX0) (sp := Law.sp_law) rfl (by decide) rfl ⟨rfl, by decide, by decide⟩ (fun w h Y => PySem.W.kIn_of Y) ?F (fun K H a ns hl hS => Law.sp_start K H a ns hl hS) (fun _ _ _ _ h => h)
  case F =>
    intro w mg fa h KX G hmg
    refine' MV.byTxt (Law.all_mk KX G hmg ?a_Motion ?pg_Motion ?hd_Motion ?po_Motion ?sa_Motion ?mk_Motion ?kc_Motion ?a_is_integer ?l_is_integer ?c_is_integer ?k_is_integer ?a_is_place ?l_is_place ?c_is_place ?k_is_place ?a_check_place ?l_check_place ?c_check_place ?k_check_place ?a_turned ?l_turned ?c_turned ?k_turned ?a_kind_between ?l_kind_between ?c_kind_between ?k_kind_between ?a_Motion_init ?i_Motion_init ?l_Motion_init ?c_Motion_init ?k_Motion_init ?dd_Motion_init ?a_Motion_by ?rc_Motion_by ?rd_Motion_by ?ga_Motion_by ?l_Motion_by ?c_Motion_by ?k_Motion_by ?a_Motion_kind ?g1_Motion_kind ?g2_Motion_kind ?g3_Motion_kind ?l_Motion_kind ?c_Motion_kind ?k_Motion_kind ?a_Motion_shift ?g1_Motion_shift ?g2_Motion_shift ?g3_Motion_shift ?l_Motion_shift ?c_Motion_shift ?k_Motion_shift ?a_Motion_is_mirrored ?g1_Motion_is_mirrored ?g2_Motion_is_mirrored ?g3_Motion_is_mirrored ?l_Motion_is_mirrored ?c_Motion_is_mirrored ?k_Motion_is_mirrored ?a_Motion_call ?i_Motion_call ?fn_Motion_call ?l_Motion_call ?c_Motion_call ?k_Motion_call ?a_Motion_mul ?i_Motion_mul ?sf_Motion ?l_Motion_mul ?c_Motion_mul ?k_Motion_mul ?a_Motion_invert ?i_Motion_invert ?l_Motion_invert ?c_Motion_invert ?k_Motion_invert ?a_Motion_repeated ?i_Motion_repeated ?l_Motion_repeated ?c_Motion_repeated ?k_Motion_repeated ?a_Motion_eq ?i_Motion_eq ?ne_Motion ?ob_Motion ?l_Motion_eq ?c_Motion_eq ?k_Motion_eq ?a_Motion_repr ?i_Motion_repr ?l_Motion_repr ?c_Motion_repr ?k_Motion_repr ?a_law_tape ?l_law_tape ?c_law_tape ?k_law_tape ?a_law_draw ?l_law_draw ?c_law_draw ?k_law_draw ?a_law_great ?l_law_great ?c_law_great ?k_law_great ?a_law_place ?l_law_place ?c_law_place ?k_law_place ?a_law_turned ?l_law_turned ?c_law_turned ?k_law_turned ?a_law_kinds ?l_law_kinds ?c_law_kinds ?k_law_kinds ?a_law_carried ?l_law_carried ?c_law_carried ?k_law_carried ?a_law_far_move ?l_law_far_move ?c_law_far_move ?k_law_far_move ?a_law_told ?l_law_told ?c_law_told ?k_law_told ?a_law_right ?l_law_right ?c_law_right ?k_law_right ?a_law_products_right ?l_law_products_right ?c_law_products_right ?k_law_products_right ?a_law_powers_right ?l_law_powers_right ?c_law_powers_right ?k_law_powers_right ?a_law ?l_law ?c_law ?k_law ?z_bool ?z_int ?z_isinstance ?z_len ?z_list ?z_range ?z_repr ?z_str ?z_tuple ?c_IM ?c_MI ?c_PR ?kt_MI ?kt_PR ?kt_D0 ?cv_K ?kt_K ?kk_I ?kd_none ?kd_left ?kd_half ?kd_right ?kd_flip ?kd_mirror ?kd_swap ?kd_cross ?kt_none ?kt_left ?kt_half ?kt_right ?kt_flip ?kt_mirror ?kt_swap ?kt_cross ?nn_kind ?nn_shift ?ic1 ?ic2 ?ic3 ?ic4 ?kf_NoneType ?kf_tuple ?kf_str ?kf_int ?kf_list ?nf_NoneType ?nf_tuple ?nf_str ?nf_int ?nf_list) (fun a z => ?go)
    (case go =>
      obtain ⟨e, b, T⟩ := z
      subst e
      exact ⟨_, b, fun base _ _ => Law.ok_law T⟩)
    (case a_Motion => first | k_is | rfl)
    (case pg_Motion => first | k_is | rfl)
    (case hd_Motion => first | k_is | rfl)
    (case po_Motion => first | k_is | rfl)
    (case sa_Motion => first | k_is | rfl)
    (case mk_Motion => first | k_is | rfl)
    (case kc_Motion => first | k_is | rfl)
    (case a_is_integer => first | k_is | rfl)
    (case l_is_integer => first | k_is | rfl)
    (case c_is_integer => first | k_is | rfl)
    (case k_is_integer => first | k_is | rfl)
    (case a_is_place => first | k_is | rfl)
    (case l_is_place => first | k_is | rfl)
    (case c_is_place => first | k_is | rfl)
    (case k_is_place => first | k_is | rfl)
    (case a_check_place => first | k_is | rfl)
    (case l_check_place => first | k_is | rfl)
    (case c_check_place => first | k_is | rfl)
    (case k_check_place => first | k_is | rfl)
    (case a_turned => first | k_is | rfl)
    (case l_turned => first | k_is | rfl)
    (case c_turned => first | k_is | rfl)
    (case k_turned => first | k_is | rfl)
    (case a_kind_between => first | k_is | rfl)
    (case l_kind_between => first | k_is | rfl)
    (case c_kind_between => first | k_is | rfl)
    (case k_kind_between => first | k_is | rfl)
    (case a_Motion_init => first | k_is | rfl)
    (case i_Motion_init => first | k_is | rfl)
    (case l_Motion_init => first | k_is | rfl)
    (case c_Motion_init => first | k_is | rfl)
    (case k_Motion_init => first | k_is | rfl)
    (case dd_Motion_init => first | k_is | rfl)
    (case a_Motion_by => first | k_is | rfl)
    (case rc_Motion_by => first | k_is | rfl)
    (case rd_Motion_by => first | k_is | rfl)
    (case ga_Motion_by => first | k_is | rfl)
    (case l_Motion_by => first | k_is | rfl)
    (case c_Motion_by => first | k_is | rfl)
    (case k_Motion_by => first | k_is | rfl)
    (case a_Motion_kind => first | k_is | rfl)
    (case g1_Motion_kind => first | k_is | rfl)
    (case g2_Motion_kind => first | k_is | rfl)
    (case g3_Motion_kind => first | k_is | rfl)
    (case l_Motion_kind => first | k_is | rfl)
    (case c_Motion_kind => first | k_is | rfl)
    (case k_Motion_kind => first | k_is | rfl)
    (case a_Motion_shift => first | k_is | rfl)
    (case g1_Motion_shift => first | k_is | rfl)
    (case g2_Motion_shift => first | k_is | rfl)
    (case g3_Motion_shift => first | k_is | rfl)
    (case l_Motion_shift => first | k_is | rfl)
    (case c_Motion_shift => first | k_is | rfl)
    (case k_Motion_shift => first | k_is | rfl)
    (case a_Motion_is_mirrored => first | k_is | rfl)
    (case g1_Motion_is_mirrored => first | k_is | rfl)
    (case g2_Motion_is_mirrored => first | k_is | rfl)
    (case g3_Motion_is_mirrored => first | k_is | rfl)
    (case l_Motion_is_mirrored => first | k_is | rfl)
    (case c_Motion_is_mirrored => first | k_is | rfl)
    (case k_Motion_is_mirrored => first | k_is | rfl)
    (case a_Motion_call => first | k_is | rfl)
    (case i_Motion_call => first | k_is | rfl)
    (case fn_Motion_call => first | k_is | rfl)
    (case l_Motion_call => first | k_is | rfl)
    (case c_Motion_call => first | k_is | rfl)
    (case k_Motion_call => first | k_is | rfl)
    (case a_Motion_mul => first | k_is | rfl)
    (case i_Motion_mul => first | k_is | rfl)
    (case sf_Motion => first | k_is | rfl)
    (case l_Motion_mul => first | k_is | rfl)
    (case c_Motion_mul => first | k_is | rfl)
    (case k_Motion_mul => first | k_is | rfl)
    (case a_Motion_invert => first | k_is | rfl)
    (case i_Motion_invert => first | k_is | rfl)
    (case l_Motion_invert => first | k_is | rfl)
    (case c_Motion_invert => first | k_is | rfl)
    (case k_Motion_invert => first | k_is | rfl)
    (case a_Motion_repeated => first | k_is | rfl)
    (case i_Motion_repeated => first | k_is | rfl)
    (case l_Motion_repeated => first | k_is | rfl)
    (case c_Motion_repeated => first | k_is | rfl)
    (case k_Motion_repeated => first | k_is | rfl)
    (case a_Motion_eq => first | k_is | rfl)
    (case i_Motion_eq => first | k_is | rfl)
    (case ne_Motion => first | k_is | rfl)
    (case ob_Motion => first | k_is | rfl)
    (case l_Motion_eq => first | k_is | rfl)
    (case c_Motion_eq => first | k_is | rfl)
    (case k_Motion_eq => first | k_is | rfl)
    (case a_Motion_repr => first | k_is | rfl)
    (case i_Motion_repr => first | k_is | rfl)
    (case l_Motion_repr => first | k_is | rfl)
    (case c_Motion_repr => first | k_is | rfl)
    (case k_Motion_repr => first | k_is | rfl)
    (case a_law_tape => first | k_is | rfl)
    (case l_law_tape => first | k_is | rfl)
    (case c_law_tape => first | k_is | rfl)
    (case k_law_tape => first | k_is | rfl)
    (case a_law_draw => first | k_is | rfl)
    (case l_law_draw => first | k_is | rfl)
    (case c_law_draw => first | k_is | rfl)
    (case k_law_draw => first | k_is | rfl)
    (case a_law_great => first | k_is | rfl)
    (case l_law_great => first | k_is | rfl)
    (case c_law_great => first | k_is | rfl)
    (case k_law_great => first | k_is | rfl)
    (case a_law_place => first | k_is | rfl)
    (case l_law_place => first | k_is | rfl)
    (case c_law_place => first | k_is | rfl)
    (case k_law_place => first | k_is | rfl)
    (case a_law_turned => first | k_is | rfl)
    (case l_law_turned => first | k_is | rfl)
    (case c_law_turned => first | k_is | rfl)
    (case k_law_turned => first | k_is | rfl)
    (case a_law_kinds => first | k_is | rfl)
    (case l_law_kinds => first | k_is | rfl)
    (case c_law_kinds => first | k_is | rfl)
    (case k_law_kinds => first | k_is | rfl)
    (case a_law_carried => first | k_is | rfl)
    (case l_law_carried => first | k_is | rfl)
    (case c_law_carried => first | k_is | rfl)
    (case k_law_carried => first | k_is | rfl)
    (case a_law_far_move => first | k_is | rfl)
    (case l_law_far_move => first | k_is | rfl)
    (case c_law_far_move => first | k_is | rfl)
    (case k_law_far_move => first | k_is | rfl)
    (case a_law_told => first | k_is | rfl)
    (case l_law_told => first | k_is | rfl)
    (case c_law_told => first | k_is | rfl)
    (case k_law_told => first | k_is | rfl)
    (case a_law_right => first | k_is | rfl)
    (case l_law_right => first | k_is | rfl)
    (case c_law_right => first | k_is | rfl)
    (case k_law_right => first | k_is | rfl)
    (case a_law_products_right => first | k_is | rfl)
    (case l_law_products_right => first | k_is | rfl)
    (case c_law_products_right => first | k_is | rfl)
    (case k_law_products_right => first | k_is | rfl)
    (case a_law_powers_right => first | k_is | rfl)
    (case l_law_powers_right => first | k_is | rfl)
    (case c_law_powers_right => first | k_is | rfl)
    (case k_law_powers_right => first | k_is | rfl)
    (case a_law => first | k_is | rfl)
    (case l_law => first | k_is | rfl)
    (case c_law => first | k_is | rfl)
    (case k_law => first | k_is | rfl)
    (case z_bool => first | k_is | rfl)
    (case z_int => first | k_is | rfl)
    (case z_isinstance => first | k_is | rfl)
    (case z_len => first | k_is | rfl)
    (case z_list => first | k_is | rfl)
    (case z_range => first | k_is | rfl)
    (case z_repr => first | k_is | rfl)
    (case z_str => first | k_is | rfl)
    (case z_tuple => first | k_is | rfl)
    (case c_IM => first | k_is | rfl)
    (case c_MI => first | k_is | rfl)
    (case c_PR => first | k_is | rfl)
    (case kt_MI => first | k_is | rfl | walk_at "mv_kt")
    (case kt_PR => first | k_is | rfl | walk_at "mv_kt")
    (case kt_D0 => first | k_is | rfl | walk_at "mv_kt")
    (case cv_K => first | k_is | rfl)
    (case kt_K => first | k_is | rfl | walk_at "mv_kt")
    (case kk_I => first | k_is | rfl | walk_at "mv_kk")
    (case kd_none => first | k_is | rfl | walk_at "mv_kd")
    (case kd_left => first | k_is | rfl | walk_at "mv_kd")
    (case kd_half => first | k_is | rfl | walk_at "mv_kd")
    (case kd_right => first | k_is | rfl | walk_at "mv_kd")
    (case kd_flip => first | k_is | rfl | walk_at "mv_kd")
    (case kd_mirror => first | k_is | rfl | walk_at "mv_kd")
    (case kd_swap => first | k_is | rfl | walk_at "mv_kd")
    (case kd_cross => first | k_is | rfl | walk_at "mv_kd")
    (case kt_none => first | k_is | rfl | walk_at "mv_kt")
    (case kt_left => first | k_is | rfl | walk_at "mv_kt")
    (case kt_half => first | k_is | rfl | walk_at "mv_kt")
    (case kt_right => first | k_is | rfl | walk_at "mv_kt")
    (case kt_flip => first | k_is | rfl | walk_at "mv_kt")
    (case kt_mirror => first | k_is | rfl | walk_at "mv_kt")
    (case kt_swap => first | k_is | rfl | walk_at "mv_kt")
    (case kt_cross => first | k_is | rfl | walk_at "mv_kt")
    (case nn_kind => first | k_is | rfl)
    (case nn_shift => first | k_is | rfl)
    (case ic1 => first | k_is | rfl)
    (case ic2 => first | k_is | rfl)
    (case ic3 => first | k_is | rfl)
    (case ic4 => first | k_is | rfl)
    (case kf_NoneType => first | k_is | rfl)
    (case kf_tuple => first | k_is | rfl)
    (case kf_str => first | k_is | rfl)
    (case kf_int => first | k_is | rfl)
    (case kf_list => first | k_is | rfl)
    (case nf_NoneType => first | k_is | rfl)
    (case nf_tuple => first | k_is | rfl)
    (case nf_str => first | k_is | rfl)
    (case nf_int => first | k_is | rfl)
    (case nf_list => first | k_is | rfl)

