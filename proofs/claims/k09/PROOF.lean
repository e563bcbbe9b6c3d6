import PyProof.Rows.All
import Wide.All
import OpenK.AllK
import Wide.FinOn
import HandS.ForMost
import HandS.ForExc
import HandS.Wide
import HandS.Gcd
import HandS.IsInst
import HandS.Property
import HandS.Flow
import HandS.RaiseMore
import HandS.Ends
import HandS.Style
import OpenK.KMeth
import KE.KOpsOwn
import KE.KCallOwn
import HandS.ClsMeth
import HandS.Defaults
import HandS.FStr
import OpenK.KOps
import HandS.Star
import HandS.Iter
import PySem.Challenge.RW_carpets_k09_whole_nets_under_motions
set_option Elab.async false
set_option linter.all false
set_option maxRecDepth 100000
set_option maxHeartbeats 2000000
/-! MVA: calls that know that no repr is under way (A.guards), and rules of calls over them. -/
namespace MV
open PySem PySem.Spec PyProof.Rows L2

/-- as FnOk, asked only where no repr is under way -/
structure FnG (P : Program) (w : World) (K : PySem.W.Frag) (mg : Str → Option Value) (base : Heap) (CX : CXT)
    (k : Nat) (f : Addr) (fd : FuncData) (ps : List Str) (sp : Sp) : Prop where
  ln : ∀ vs H Q E, sp vs H Q E → vs.length = ps.length
  go : ∀ (A : Around) (outer : List Env) (s : Shared) (H : Hp) (args : Args) (us : List Value) (vs : List V) (Q : VK) (E : XK),
    Room k A → A.guards = some [] → Env0 P w K mg base A outer s H → BindsTo s fd args (ps.zip us) → Vals vs us →
    sp vs H Q E → codeAny (model P w) A (.call (.ref f) args) (CR CX outer P w H s Q E) s

section
variable {P : Program} {w : World} {K : PySem.W.Frag} {mg : Str → Option Value} {base : Heap} {CX : CXT}
  {k j : Nat} {f : Addr} {fd : FuncData} {ps : List Str} {sp sp' : Sp}

theorem FnG.ofOk (F : FnOk P w K mg base CX k f fd ps sp) : FnG P w K mg base CX k f fd ps sp where
  ln := F.len
  go A outer s H args us vs Q E r _ e b v q := F.run A outer s H args us vs Q E r e b v q

theorem FnG.up (F : FnG P w K mg base CX j f fd ps sp) (h : j ≤ k) : FnG P w K mg base CX k f fd ps sp where
  ln := F.ln
  go A outer s H args us vs Q E r g e b v q := F.go A outer s H args us vs Q E (r.mono h) g e b v q

/-- the rule of a def, the context of its body knowing that no repr is under way -/
theorem fng_of {name qual : Str} {params : Arguments} {body : List Stmt} {scope : Scope} {dV kV doc pm cdv ct oc : Value}
    {an od : Option Addr} {osl : Array (Option Value)} {N : List Str}
    (lk : K.lookup f = some ⟨oc, od, .func (PySem.W.fnOf name qual params body scope dV kV doc pm an cdv ct), osl⟩)
    (hcd : PySem.W.codeIn K cdv qual = true) (S : FnScope N ps scope)
    (ln : ∀ vs H Q E, sp vs H Q E → vs.length = ps.length)
    (hbody : ∀ (A : Around) (outer : List Env) (s : Shared) (H : Hp) (vs : List V) (Q : VK) (E : XK),
      Room k (A.deeper (envOfC qual scope s.heap.objs.size f cdv)) →
      (A.deeper (envOfC qual scope s.heap.objs.size f cdv)).guards = some [] → sp vs H Q E →
      ∃ t, PSs (cxOf CX P w K mg base N qual scope f cdv A outer s H E) body t ∧
        t { nx := fun _ H' => Q .non H', rt := Q } (start N vs) H) :
    FnG P w K mg base CX (k + 1) f (PySem.W.fnOf name qual params body scope dV kV doc pm an cdv ct) ps sp where
  ln := ln
  go A outer s H args us vs Q E hr hg e0 hb r hsp := by
    have keep := fun b o e => (e0.bs b o e).1
    have KX : K.In s.heap := e0.mod.kin.keeps keep
    have kinds : ∀ y ∈ ps.zip us, scope.names.lookup y.1 = some .local ∨ (scope.names.lookup y.1 = some .cell ∧
        ((cellsFrom (s.heap.objs.size + 1) scope.names []).lookup y.1).isSome = true) := by
      rintro ⟨n, v⟩ hy
      cases S.par n (List.of_mem_zip hy).1 with
      | inl q => exact .inl q
      | inr q => exact .inr ⟨q, PySem.W.cellsFrom_some _ _ _ (.inl q)⟩
    apply codeAny_call_function hr.depth (KX _ _ lk) rfl S.co S.gen rfl (PySem.W.codeRec_of KX hcd)
    refine hb _ _ _ _ (wpAny_newFunctionEnv_cells S.kind kinds ?_)
    rintro env rfl s1 x
    refine ⟨(e0.mod.nolimit.keeps keep).keeps x.toInCall.keep, codeAny_func ?_⟩
    obtain ⟨t, ht, q⟩ := hbody A outer s H vs Q E (hr.deeper _) hg hsp
    have I := inv_start (CX := CX) (E := E) S hr.hd e0 (ln _ _ _ _ hsp) r x
    apply wpAny_mono (ht.run [] s1 _ H _ I q)
    · intro fl s' hs
      cases fl with
      | brk => exact (let ⟨_, _, _, z⟩ := hs; False.elim z)
      | cont => exact (let ⟨_, _, _, z⟩ := hs; False.elim z)
      | ret u => exact (let ⟨v, _, H', J, rv, z⟩ := hs; ⟨v, H', J.os, J.bare, J.base, J.hok, rv, z⟩)
      | next => exact (let ⟨_, H', J, z⟩ := hs; ⟨V.non, H', J.os, J.bare, J.base, J.hok, rfl, z⟩)
    · exact fun _ _ hs => hs

/-- the rule of a def of the text; what it raises lies as CX says -/
theorem Fun.g {x qual : Str} {st : Stmt} {N : List Str} (F : Fun K x qual st f fd) (S : FnScope N ps (defScope st))
    (ln : ∀ vs H Q E, sp vs H Q E → vs.length = ps.length)
    (hb : ∀ (cdv : Value) (A : Around) (outer : List Env) (s : Shared) (H : Hp) (vs : List V) (Q : VK) (E : XK),
      Room k (A.deeper (envOfC qual (defScope st) s.heap.objs.size f cdv)) →
      (A.deeper (envOfC qual (defScope st) s.heap.objs.size f cdv)).guards = some [] → sp vs H Q E →
      ∃ t, PSs (cxOf CX P w K mg base N qual (defScope st) f cdv A outer s H E) (defBody st) t ∧
        t { nx := fun _ H' => Q .non H', rt := Q } (start N vs) H) :
    FnG P w K mg base CX (k + 1) f fd ps sp := by
  obtain ⟨oc, od, kV, doc, pm, an, cdv, ct, osl, rfl, lk, hcd⟩ := F.ex
  exact fng_of lk hcd S ln fun A outer s H vs Q E hr hg h => hb cdv A outer s H vs Q E hr hg h

/-- as Fun.g, for a def of which nothing comes out but values: with loops -/
theorem Fun.gn {x qual : Str} {st : Stmt} {N : List Str} (F : Fun K x qual st f fd) (S : FnScope N ps (defScope st))
    (ln : ∀ vs H Q E, sp vs H Q E → vs.length = ps.length)
    (hb : ∀ (cdv : Value) (A : Around) (outer : List Env) (s : Shared) (H : Hp) (vs : List V) (Q : VK) (E : XK),
      Room k (A.deeper (envOfC qual (defScope st) s.heap.objs.size f cdv)) →
      (A.deeper (envOfC qual (defScope st) s.heap.objs.size f cdv)).guards = some [] → sp vs H Q E →
      ∃ t, PSs (cxOf CX P w K mg base N qual (defScope st) f cdv A outer s H E).nox (defBody st) t ∧
        t { nx := fun _ H' => Q .non H', rt := Q } (start N vs) H) :
    FnG P w K mg base CX (k + 1) f fd ps sp :=
  Fun.g F S ln fun cdv A outer s H vs Q E hr hg h => (let ⟨t, p, q⟩ := hb cdv A outer s H vs Q E hr hg h; ⟨t, p.nox, q⟩)
end

/-! ### the call of such a def, by values and in the text -/
section
variable {X : Cx} {CX : CXT} {k : Nat} {f C : Addr} {fd : FuncData} {ps : List Str} {sp : Sp} {dvs : List V} {ds : List Value}
  {E : XK} {x m : Str} {p pos apos : Pos} {e o : Expr} {es : List Expr} {ta : TE} {t : TA}

/-- what a caller reads off a callee's end -/
def Back (X : Cx) (pins : List (Addr × Obj)) (σ : L2.St) (Q : VK) : Result → Shared → Prop
  | .ok (.ret u), s' => EP X pins σ Q u s'
  | .ok _, _ => False
  | .error z, s' => X.xe z s'
theorem ended {pins : List (Addr × Obj)} {σ : L2.St} {H : Hp} {s s' : Shared} {Q : VK} {r : Result} (hx : Passes CX X E)
    (I : Inv X pins σ H s) (h : CR CX X.stack X.prog X.w H s Q E r s') :
    Back X pins σ Q r s' := by
  match r, h with
  | .ok (.ret u), h => exact I.after h
  | .ok .next, h => exact h
  | .ok .brk, h => exact h
  | .ok .cont, h => exact h
  | .error z, h => exact hx pins σ H s z s' I h

theorem runG {A : Around} {pins : List (Addr × Obj)} {σ : L2.St} {H : Hp} {s : Shared} {Q : VK} {us : List Value} {vs : List V}
    (F : FnG X.prog X.w X.K X.mg X.base CX k f fd ps sp) (hr : Room k A) (hg : A.guards = some [])
    (e0 : Env0 X.prog X.w X.K X.mg X.base A X.stack s H) (hb : Binds X.K fd ps ds) (hd : Vals dvs ds) (hx : Passes CX X E)
    (I : Inv X pins σ H s) (r : Vals vs us) (h : sp (vs ++ dvs) H Q E) :
    codeAny (model X.prog X.w) A (.call (.ref f) ⟨us, []⟩) (Back X pins σ Q) s := by
  have r2 := r.append hd
  have hl : (us ++ ds).length = ps.length := r2.length.symm.trans (F.ln _ _ _ _ h)
  exact codeAny_mono (F.go A X.stack s H ⟨us, []⟩ (us ++ ds) (vs ++ dvs) Q E hr hg e0 (hb s us I.kIn hl) r2 h)
    fun r s' hq => ended hx I hq

/-- a call by values -/
theorem callG {pins : List (Addr × Obj)} {σ : L2.St} {H : Hp} {s : Shared} {Q : VK} {us : List Value} {vs : List V}
    (F : FnG X.prog X.w X.K X.mg X.base CX k f fd ps sp) (hr : Room k X.A) (hg : X.A.guards = some [])
    (hb : Binds X.K fd ps ds) (hd : Vals dvs ds) (hx : Passes CX X E)
    (I : Inv X pins σ H s) (r : Vals vs us) (h : sp (vs ++ dvs) H Q E) :
    wpAny (model X.prog X.w) X.A (call (.ref f) us) (EP X pins σ Q) X.xe s := by
  refine wpAny_call (codeAny_mono (runG F hr hg I.env0 hb hd hx I r h) fun z s' q => ?_)
  match z, q with
  | .ok (.ret _), q => exact q
  | .error _, q => exact q

theorem peg_call (F : FnG X.prog X.w X.K X.mg X.base CX k f fd ps sp) (hr : Room k X.A) (hg : X.A.guards = some [])
    (hn : Gl X x) (hm : X.mg x = some (.ref f)) (hk : PySem.W.keepIn X.K (.ref f) = true) (hb : Binds X.K fd ps ds)
    (hd : Vals dvs ds) (hx : Passes CX X E) (ha : PA X (e :: es) t)
    (hdb : (x == ("__debug__" : Str)) = false := by decide)
    (he : starEach (e :: es) X.env = (false, eval e X.env) :: starEach es X.env := by rfl)
    (hpl : (backTo pos (starEach es X.env)).any (·.1) = false := by rfl) :
    PE X (.Call (.Name x p) (e :: es) [] pos) (tCall sp dvs E t) := by
  constructor
  intro pins s σ H Q I h
  apply wpAny_Call_Name_kw
  refine ld_glob I hn hm (PySem.W.callWith_K (h₀ := X.base) I.ok.mod.kin hk ?_ he hpl) hdb
  exact thn (ha.run pos pins s σ H _ I h) fun us s1 ⟨vs, H1, I1, r, q⟩ => ⟨I1.kIn, callG F hr hg hb hd hx I1 r q⟩

theorem peg_call0 (F : FnG X.prog X.w X.K X.mg X.base CX k f fd ps sp) (hr : Room k X.A) (hg : X.A.guards = some [])
    (hn : Gl X x) (hm : X.mg x = some (.ref f)) (hk : PySem.W.keepIn X.K (.ref f) = true) (hb : Binds X.K fd ps ds)
    (hd : Vals dvs ds) (hx : Passes CX X E) (hdb : (x == ("__debug__" : Str)) = false := by decide) :
    PE X (.Call (.Name x p) [] [] pos) (tCall sp dvs E tNil) := by
  constructor
  intro pins s σ H Q I h
  apply wpAny_Call_Name_kw
  exact ld_glob I hn hm (PySem.W.callWith_K0 I.kIn hk (callG (us := []) F hr hg hb hd hx I .nil h)) hdb

/-- o.m(..) -/
theorem peg_meth {pl : Sem Bool} (he : PE X o ta) (c : Cls X.K C) (hm : Meth X.K C m f)
    (F : FnG X.prog X.w X.K X.mg X.base CX k f fd ps sp) (hr : Room k X.A) (hg : X.A.guards = some [])
    (hb : Binds X.K fd ps ds) (hd : Vals dvs ds) (hx : Passes CX X E) (ha : PA X (e :: es) t)
    (hst : starEach (e :: es) X.env = (false, eval e X.env) :: starEach es X.env := by rfl)
    (hpl : (backTo pos (starEach es X.env)).any (·.1) = false := by rfl)
    (ht : eval (.Call (.Attribute o m apos) (e :: es) [] pos) X.env = (do
      let ov ← eval o X.env
      standAt apos.atName
      let (g, first) ← holding [ov] (getMethod ov m pl)
      callWith pos g first (backTo pos (starEach (e :: es) X.env)) (backToKw pos (keywordEach [] X.env))) := by rfl) :
    PE X (.Call (.Attribute o m apos) (e :: es) [] pos) (tMeth C m sp dvs E ta t) := by
  constructor
  intro pins s σ H Q I h
  refine PySem.W.methodCall_KW (pl := pl) (thn (he.run pins s σ H _ I h) ?_) ht
  rintro u s1 ⟨_, H1, I1, rx, a, dx, fs, rfl, ea, l, q⟩
  cases rx
  refine getmeth_ok I1 ea c hm l (PySem.W.callWith_K (first := [.ref a]) (h₀ := X.base) I.ok.mod.kin hm.kp ?_ hst hpl)
  refine thn (ha.run pos pins s1 σ H1 _ I1 q) fun us s2 ⟨vs, H2, I2, r, q2⟩ => ⟨I2.kIn, ?_⟩
  exact callG (us := .ref a :: us) (vs := .ref a :: vs) F hr hg hb hd hx I2 (.cons rfl r) q2

theorem peg_meth0 {pl : Sem Bool} (he : PE X o ta) (c : Cls X.K C) (hm : Meth X.K C m f)
    (F : FnG X.prog X.w X.K X.mg X.base CX k f fd ps sp) (hr : Room k X.A) (hg : X.A.guards = some [])
    (hb : Binds X.K fd ps ds) (hd : Vals dvs ds) (hx : Passes CX X E)
    (ht : eval (.Call (.Attribute o m apos) [] [] pos) X.env = (do
      let ov ← eval o X.env
      standAt apos.atName
      let (g, first) ← holding [ov] (getMethod ov m pl)
      callWith pos g first (backTo pos (starEach [] X.env)) (backToKw pos (keywordEach [] X.env))) := by rfl) :
    PE X (.Call (.Attribute o m apos) [] [] pos) (tMeth C m sp dvs E ta tNil) := by
  constructor
  intro pins s σ H Q I h
  refine PySem.W.methodCall_KW (pl := pl) (thn (he.run pins s σ H _ I h) ?_) ht
  rintro u s1 ⟨_, H1, I1, rx, a, dx, fs, rfl, ea, l, q⟩
  cases rx
  refine getmeth_ok I1 ea c hm l (PySem.W.callWith_K0 (first := [.ref a]) I1.kIn hm.kp ?_)
  exact callG (us := [.ref a]) (vs := [.ref a]) F hr hg hb hd hx I1 (.cons rfl .nil) q

theorem guards_make {A : Around} (h : A.guards = some []) (C : Addr) (us : List Value) (kw : List (Str × Value)) :
    (A.under (.builtin "type.__call__" ⟨.ref C :: us, kw⟩)).guards = some [] := by
  have z : ∀ c : Code, c.isGuard = false → (A.under c).guards = A.guards := fun c hc => by
    simp [Around.under, Code.guards, hc, pushGuards]
  rw [z _ rfl, h]

/-- C(..), by values -/
theorem makeG {pins : List (Addr × Obj)} {σ : L2.St} {H : Hp} {s : Shared} {Q : VK} {us : List Value} {vs : List V} (M : Mk X.K C f)
    (F : FnG X.prog X.w X.K X.mg X.base CX k f fd ps sp) (hr : Room (k + 1) X.A) (hg : X.A.guards = some [])
    (hb : Binds X.K fd ps ds) (hd : Vals dvs ds) (hx : Passes CX X E) (I : Inv X pins σ H s) (r : Vals vs us)
    (h : ∀ x dx, H x = none → H dx = none → dx ≠ x → sp (.ref x :: (vs ++ dvs)) (upd (upd H dx (.own x)) x (.ins C dx []))
      (fun v H2 => v = .non ∧ Q (.ref x) H2) E) :
    wpAny (model X.prog X.w) X.A (call (.ref C) us) (EP X pins σ Q) X.xe s := by
  have n := s.heap.objs.size
  have free : ∀ i, s.heap.objs.size ≤ i → H i = none := fun i hi => I.hok.fresh hi
  have q := h (s.heap.objs.size + 1) s.heap.objs.size (free _ (by omega)) (free _ (by omega)) (by
    show s.heap.objs.size ≠ s.heap.objs.size + 1
    exact Nat.ne_of_lt (Nat.lt_succ_self _))
  have J := Inv.made (C := C) I
  have w2 := runG (us := Value.ref (s.heap.objs.size + 1) :: us) (vs := V.ref (s.heap.objs.size + 1) :: vs) F (hr.make C us [])
    (guards_make hg C us []) (J.env0.make C us []) hb hd hx J (.cons rfl r) q
  refine wpAny_call (make_map (f := f) I.kIn M.makes M.init (beq_iff_eq.mp M.fn) (codeAny_mono w2 ?_))
  rintro (z | (_ | _ | _ | u)) s' hq
  · exact hq
  · exact hq.elim
  · exact hq.elim
  · exact hq.elim
  · obtain ⟨v, H', I3, rv, rfl, q3⟩ := hq
    exact ⟨rv, V.ref (s.heap.objs.size + 1), H', I3, rfl, q3⟩

theorem peg_make (M : Mk X.K C f) (F : FnG X.prog X.w X.K X.mg X.base CX k f fd ps sp) (hr : Room (k + 1) X.A)
    (hg : X.A.guards = some []) (hn : Gl X x) (hm : X.mg x = some (.ref C)) (hb : Binds X.K fd ps ds) (hd : Vals dvs ds)
    (hx : Passes CX X E) (ha : PA X (e :: es) t) (hdb : (x == ("__debug__" : Str)) = false := by decide)
    (he : starEach (e :: es) X.env = (false, eval e X.env) :: starEach es X.env := by rfl)
    (hpl : (backTo pos (starEach es X.env)).any (·.1) = false := by rfl) :
    PE X (.Call (.Name x p) (e :: es) [] pos) (tMake C sp dvs E t) := by
  constructor
  intro pins s σ H Q I h
  apply wpAny_Call_Name_kw
  refine ld_glob I hn hm (PySem.W.callWith_K (h₀ := X.base) I.ok.mod.kin M.kp ?_ he hpl) hdb
  exact thn (ha.run pos pins s σ H _ I h) fun us s1 ⟨vs, H1, I1, r, q⟩ => ⟨I1.kIn, makeG M F hr hg hb hd hx I1 r q⟩
end
end MV

set_option Elab.async false
set_option linter.all false
set_option maxRecDepth 100000
set_option maxHeartbeats 2000000
/-! MVB: the end of a law over FnG; repr of data; own in, ==, !=. -/
namespace MV
open PySem PySem.Spec PyProof.Rows L2

/-! ### the end -/
/-- the abstract heap at the law's entry: the script and nothing else -/
def scriptHp (a : Addr) (o : Obj) (xs : List V) : Hp := fun b => if b = a then some (.frz o (.lst xs)) else none
theorem scriptHp_at {a b : Addr} {o : Obj} {xs : List V} {u : HO} (h : scriptHp a o xs b = some u) : b = a ∧ u = .frz o (.lst xs) := by
  unfold scriptHp at h
  split at h
  · exact ⟨by assumption, (Option.some.inj h).symm⟩
  · cases h
theorem scriptHp_none {a b : Addr} {o : Obj} {xs : List V} (h : b ≠ a) : scriptHp a o xs b = none := if_neg h

/-- what the law's run needs of an abstract heap in which at most the script is tracked -/
theorem law_core {P : Program} {w : World} {K : PySem.W.Frag} {mg mb : Str → Option Value} {k : Nat} {fa a : Addr} {fd : FuncData}
    {x : Str} {sp : Sp} {s₁ : Shared} {H : Hp} {CX : CXT}
    (KX : K.In s₁.heap) (hns : s₁.heap.Ns mainGlobals mg) (hb : s₁.heap.Ns builtinsNs mb) (hbb : ∀ x : Str, x ≠ "__name__" → mb x = bootBuiltins x)
    (hlim : s₁.heap.NoLimit) (hg : s₁.gens = #[]) (hr : Room k callerA)
    (F : ∀ base : Heap, K.In base → base.Ns mainGlobals mg → FnG P w K mg base CX k fa fd [x] sp)
    (hbind : ∀ (s : Shared) (u : Value), BindsTo s fd ⟨[u], []⟩ [(x, u)])
    (hsp : sp [.ref a] H (fun v _ => v = .bl true) fun _ _ _ => False)
    (hCX : ∀ e s', CX [] H s₁ (fun _ _ _ => False) e s' → False)
    (ok : HOk P w H s₁.heap) (only : ∀ b u, H b = some u → K.lookup b = none ∧ ∃ o xs, u = .frz o (.lst xs)) :
    codeAny (model P w) callerA (.call (.ref fa) ⟨[.ref a], []⟩)
      (fun r s' => r = .ok (.ret (.bool true)) ∧ OldK s₁.heap s'.heap ∧ s'.os = s₁.os ∧ AllBare s'.gens) s₁ := by
  have dictFree : ∀ {b : Addr} {o : Obj} {es : Array DictEntry} {ep : Nat}, s₁.heap.get? b = some o → o.data = .dict es ep → H b = none := by
    intro b o es ep e d
    match q : H b with
    | none => rfl
    | some u =>
      obtain ⟨_, ob, xs, rfl⟩ := only b u q
      obtain ⟨e2, _, its, n, _, e3⟩ := ok b _ q
      rw [e2] at e3
      cases e3
      rw [e2] at e
      cases e
      cases d
  have ns : ∀ {b : Addr} {m : Str → Option Value}, s₁.heap.Ns b m → (hidT s₁.heap H).Ns b m := by
    rintro b m ⟨o, es, ep, e, d, r⟩
    exact ⟨o, es, ep, hidT_get e (dictFree e d), d, r⟩
  have kin : K.In (hidT s₁.heap H) := by
    intro b o e
    refine hidT_get (KX b o e) ?_
    match q : H b with
    | none => rfl
    | some u => exact absurd e (by rw [(only b u q).1]; simp)
  obtain ⟨ml, l1, l2⟩ := hlim
  have e0 : Env0 P w K mg (hidT s₁.heap H) callerA [] s₁ H :=
    { frames := rfl
      mod := ⟨kin, ns hns, ⟨mb, ns hb, hbb⟩, ⟨ml, ns l1, l2⟩⟩
      bs := fun b o e => of_hidT e
      bsz := Nat.le_of_eq (hidT_size _ _)
      funs := trivial
      frf := fun b z => absurd z List.not_mem_nil
      hok := ok
      bare := .of_eq hg }
  refine codeAny_mono ((F _ kin (ns hns)).go callerA [] s₁ H _ [.ref a] [.ref a] _ _ hr rfl e0 (hbind s₁ (.ref a)) (.cons rfl .nil) hsp) ?_
  intro r s' h
  match r, h with
  | .error e, h => exact (hCX e s' h).elim
  | .ok (.ret u), h =>
    obtain ⟨v, H', os, bare, un, hok', rv, q⟩ := h
    have e1 : v = .bl true := q
    subst e1
    have e2 : u = Value.bool true := rv
    subst e2
    refine ⟨rfl, OldK.of_keep ?_, os, bare⟩
    intro b o e
    match q : H b with
    | none => exact un.keep b o e q List.not_mem_nil List.not_mem_nil
    | some z =>
      obtain ⟨_, ob, xs, rfl⟩ := only b z q
      have e3 := (ok b _ q).1
      rw [e] at e3
      cases e3
      exact (hok' b _ (un.frzs b o _ q)).1

theorem law_callG {P : Program} {w : World} {K : PySem.W.Frag} {mg mb : Str → Option Value} {k : Nat} {fa a : Addr} {fd : FuncData}
    {x : Str} {sp : Sp} {s₁ : Shared} {vs : List Value} {ns : List Int} {CX : CXT}
    (KX : K.In s₁.heap) (hns : s₁.heap.Ns mainGlobals mg) (hb : s₁.heap.Ns builtinsNs mb) (hbb : ∀ x : Str, x ≠ "__name__" → mb x = bootBuiltins x)
    (hlim : s₁.heap.NoLimit) (hg : s₁.gens = #[])
    (ha : s₁.heap.get? a = some { cls := .type "list", data := .seq vs.toArray }) (hi : IntsAre vs ns) (hl : ns.length ≤ sizeLine) (hr : Room k callerA)
    (F : ∀ base : Heap, K.In base → base.Ns mainGlobals mg → FnG P w K mg base CX k fa fd [x] sp)
    (hbind : ∀ (s : Shared) (u : Value), BindsTo s fd ⟨[u], []⟩ [(x, u)])
    (hsp : ∀ H : Hp, SqL K H a (ns.map V.int) → sp [.ref a] H (fun v _ => v = .bl true) fun _ _ _ => False)
    (hCX : ∀ H e s', CX [] H s₁ (fun _ _ _ => False) e s' → False) :
    codeAny (model P w) callerA (.call (.ref fa) ⟨[.ref a], []⟩)
      (fun r s' => r = .ok (.ret (.bool true)) ∧ OldK s₁.heap s'.heap ∧ s'.os = s₁.os ∧ AllBare s'.gens) s₁ := by
  have rv := vals_ints hi
  have n1 := hi.length
  match hk : K.lookup a with
  | some o =>
    have e := (KX a o hk).symm.trans ha
    cases e
    refine law_core (H := fun _ => none) KX hns hb hbb hlim hg hr F hbind (hsp _ (.inr ⟨_, vs.toArray, _, hk, rfl, rfl, rfl, ?_, by simpa using rv⟩)) (hCX _) (fun b u z => nomatch z) (fun b u z => nomatch z)
    rw [List.size_toArray]
    omega
  | none =>
    have hS : SqL K (scriptHp a { cls := .type "list", data := .seq vs.toArray } (ns.map V.int)) a (ns.map V.int) := .inl (.inr ⟨_, if_pos rfl⟩)
    refine law_core (H := scriptHp a { cls := .type "list", data := .seq vs.toArray } (ns.map V.int)) KX hns hb hbb hlim hg hr F hbind (hsp _ hS) (hCX _) (fun b u z => ?_) (fun b u z => ?_)
    · obtain ⟨rfl, rfl⟩ := scriptHp_at z
      exact ⟨ha, by rw [List.length_map]; exact hl, vs, _, rv, ha⟩
    · obtain ⟨rfl, rfl⟩ := scriptHp_at z
      exact ⟨hk, _, _, rfl⟩

/-- the law's row from the promise of its def -/
theorem walkG {l : PySem.W.OpenLaw} {n k : Nat} {q : Program} {loose : List Str} {XP : (Str → Option Value) → Heap → Prop} {YP : World → Heap → Prop}
    {d : DefRec} {K : Params → PySem.W.Frag} {CX : CXT} {sp : PySem.W.Frag → Sp} {x : Str}
    (hn : l.most = some n) (hn2 : n ≤ sizeLine) (hdf : d.params.defaults = []) (hr : Room k callerA)
    (hY : ∀ (w : World) (h : Heap), YP w h → (K w.params).In h)
    (F : ∀ (w : World) (mg : Str → Option Value) (fa : Addr) (h : Heap), (K w.params).In h → h.Ns mainGlobals mg → mg d.name = some (.ref fa) →
      ∃ fd : FuncData, (∀ (s : Shared) (u : Value), BindsTo s fd ⟨[u], []⟩ [(x, u)]) ∧
        ∀ base : Heap, (K w.params).In base → base.Ns mainGlobals mg → FnG l.prog w (K w.params) mg base CX k fa fd [x] (sp (K w.params)))
    (hsp : ∀ (K : PySem.W.Frag) (H : Hp) (a : Addr) (ns : List Int), ns.length ≤ n → SqL K H a (ns.map V.int) → sp K [.ref a] H (fun v _ => v = .bl true) fun _ _ _ => False)
    (hCX : ∀ (H : Hp) (s : Shared) (e : Value) (s' : Shared), CX [] H s (fun _ _ _ => False) e s' → False) :
    PySem.W.WalkO q loose XP YP l.row.toRowW d [] (fun f vs => PySem.call f vs) := by
  refine Att.attach_call hn hdf ?_
  intro w s₀ s₁ mg mb fa o pm cd doc a vs ns G Y ho hd hcd hmg hobj hints hlen hg
  obtain ⟨fd, hb, hF⟩ := F w mg fa _ (hY w _ Y) G.T.g hmg
  exact law_callG (hY w _ Y) G.T.g G.T.b G.T.builtins G.T.nolimit hg hobj hints (Nat.le_trans hlen hn2) hr hF hb
    (fun H hS => hsp _ H a ns hlen hS) fun H e s' => hCX H s₁ e s'

/-! ### properties, own in, own ==, own != -/
section
variable {X : Cx} {CX : CXT} {k : Nat} {f C p : Addr} {fd : FuncData} {ps : List Str} {sp : Sp} {dvs : List V} {ds : List Value}
  {E : XK} {x m : Str} {pos : Pos} {e : Expr} {ta : TE} {n : Str}
/-- e.n, a property -/
theorem peg_prop (he : PE X e ta) (c : Cls X.K C) (hp : PropOf X.K C n p f)
    (F : FnG X.prog X.w X.K X.mg X.base CX k f fd ps sp) (hr : Room (k + 1) X.A) (hg : X.A.guards = some [])
    (hb : Binds X.K fd ps ds) (hd : Vals dvs ds) (hx : Passes CX X.nox E)
    (hab : attributeBase e n X.env (eval e X.env) = eval e X.env := by rfl) :
    PE X (.Attribute e n pos) (tProp C sp dvs E ta) := by
  constructor
  intro pins s σ H Q I h
  refine attr_of hab (thn (he.run pins s σ H _ I h) ?_)
  rintro u s1 ⟨_, H1, I1, rx, a, dx, fs, rfl, ea, q⟩
  cases rx
  obtain ⟨mA, O, _⟩ := ins_get I1.hok ea
  obtain ⟨od, J, _⟩ := O.look
  obtain ⟨rest, hrec⟩ := hp.rec_
  have g := PySem.W.plainGet_of (c.get n)
  have hc : (PySem.W.clsIn X.K C).isSome = true := by
    obtain ⟨cd, hc, _⟩ := PySem.W.any_some c.hd
    rw [hc]
    rfl
  have I2 := I1.tok (s1.toks + 1)
  refine PySem.W.get_bind I1.kIn J g.1 (PySem.W.findObj_data hc hp.at_ hp.get hp.tak) g.2
    (wpAny_call (PySem.W.prop_get (s := { s1 with toks := s1.toks + 1 }) I1.kIn hrec ?_))
  refine codeAny_mono (runG (X := X.nox) (us := [.ref a]) (vs := [.ref a]) F hr.in1 hg I2.env0.in1 hb hd hx (I2.wish _) (.cons rfl .nil) q) fun r s' hq => ?_
  match r, hq with
  | .error _, hq => exact False.elim hq
  | .ok (.ret u), ⟨v, H', I3, rv, q3⟩ =>
    show wpAny _ _ (handedOut u) _ _ _
    rw [PySem.W.handedOut_of (handed_of rv)]
    exact wpAny_pure ⟨v, H', I3.wish _, rv, q3⟩

/-- y in x, x an instance whose class has a def __contains__ -/
def rHas (C : Addr) (sp : Sp) (E : XK) (neg : Bool) : R2 := fun y x H Q => ∃ a dx fs, x = .ref a ∧ H a = some (.ins C dx fs) ∧
  sp [x, y] H (fun z H' => ∃ b, z = .bl b ∧ Q (.bl (if neg then !b else b)) H') E
structure HasC (K : PySem.W.Frag) (C f : Addr) : Prop where
  at_ : PySem.W.findIn K (.ref C) "__contains__" = some (some (.ref f))
  fn : PySem.W.isFn K (.ref f) = true
theorem opg_in (h : HasC X.K C f) (F : FnG X.prog X.w X.K X.mg X.base CX k f fd ps sp) (hr : Room k X.A) (hg : X.A.guards = some [])
    (hb : Binds X.K fd ps []) (hx : Passes CX X E) : OpR X (compareOp .In) (rHas C sp E false) := by
  intro pins s σ H y x v u Q I ry rx q
  obtain ⟨a, dx, fs, rfl, ea, q⟩ := q
  cases rx
  obtain ⟨mA, O, _⟩ := ins_get I.hok ea
  obtain ⟨od, J, _⟩ := O.look
  obtain ⟨m, hF⟩ := I.fr
  refine PySem.W.in_K hF I.ok.mod.kin J h.at_ h.fn (thn (callG (us := [.ref a, v]) (vs := [.ref a, y]) F hr hg hb .nil hx I (.cons rfl (.cons ry .nil)) q) ?_)
  rintro _ s' ⟨_, H', I', rv, b, rfl, q'⟩
  cases rv
  exact wpAny_truthy_bool ⟨V.bl _, H', I', rfl, q'⟩
theorem opg_notIn (h : HasC X.K C f) (F : FnG X.prog X.w X.K X.mg X.base CX k f fd ps sp) (hr : Room k X.A) (hg : X.A.guards = some [])
    (hb : Binds X.K fd ps []) (hx : Passes CX X E) : OpR X (compareOp .NotIn) (rHas C sp E true) := by
  intro pins s σ H y x v u Q I ry rx q
  obtain ⟨a, dx, fs, rfl, ea, q⟩ := q
  cases rx
  obtain ⟨mA, O, _⟩ := ins_get I.hok ea
  obtain ⟨od, J, _⟩ := O.look
  obtain ⟨m, hF⟩ := I.fr
  refine PySem.W.notIn_K hF I.ok.mod.kin J h.at_ h.fn (thn (callG (us := [.ref a, v]) (vs := [.ref a, y]) F hr hg hb .nil hx I (.cons rfl (.cons ry .nil)) q) ?_)
  rintro _ s' ⟨_, H', I', rv, b, rfl, q'⟩
  cases rv
  exact wpAny_truthy_bool ⟨V.bl _, H', I', rfl, q'⟩
end
end MV

set_option Elab.async false
set_option linter.all false
set_option maxRecDepth 100000
set_option maxHeartbeats 2000000
/-! MVC: == and != by an own __eq__. -/
namespace MV
open PySem PySem.Spec PyProof.Rows L2
open PySem.W (InstAt looks_findIn looks_subIn findIn subIn isFn ifBound_K notFirst)

section
variable {prog : Program} {w : World} {A : Around} {E : Value → Shared → Prop} {s : Shared} {K : PySem.W.Frag} {x C f : Addr} {ox : Obj} {od : Option Obj} {name : Str} {b tb : Value} {id : String}

/-- a special name that the class has from a built-in, called -/
theorem ifBoundB {M : Model} {args : List Value} {Q : Option Value → Shared → Prop} (X : K.In s.heap) (I : InstAt s.heap x ox C od)
    (hs : findIn K (.ref C) name = some (some (.builtin id))) (hb : ∀ self, bindSpecial (.builtin id) self = pure (.builtin id, [self]))
    (h : wpAny M A (call (.builtin id) (.ref x :: args)) (fun v => Q (some v)) E s) :
    wpAny M A (callSpecialIfBound? (.ref x) name args) Q E s := by
  simp only [callSpecialIfBound?, bindSpecialIfBound?]
  apply wpAny_holding
  apply wpAny_bind
  apply wpAny_bind
  apply wpAny_bind
  refine I.type.here ((looks_findIn X hs).here ?_)
  simp only [hb]
  have fin : wpAny M A (call (.builtin id) ([.ref x] ++ args) >>= fun v => pure (some v)) Q E s :=
    wpAny_bind (thn h fun v s' z => wpAny_pure z)
  refine wpAny_bind (wpAny_askSetting (wpAny_ite ?_))
  split
  · exact wpAny_bind (wpAny_pure (wpAny_pure fin))
  · exact wpAny_tryCatch (wpAny_bind (wpAny_pure (wpAny_pure fin)))

/-- a built-in slot's own check of its first argument, an instance -/
theorem checkSlot {M : Model} {owner n : String} {rest : List Value} {Q : Unit → Shared → Prop} (hk : builtinKind id = some .slot)
    (hs : splitId id = some (owner, n)) (ha : argsOk id ⟨.ref x :: rest, []⟩) (X : K.In s.heap) (I : InstAt s.heap x ox C od)
    (hob : subIn K (.ref C) (.type owner) = some true) (hq : Q () s) :
    wpAny M A (checkBuiltinCall id ⟨.ref x :: rest, []⟩) Q E s := by
  simp only [checkBuiltinCall, hk, hs]
  apply wpAny_bind
  unfold isInstance
  refine wpAny_bind (I.type.here ((looks_subIn X hob).here ?_))
  match hsig : Manifest.signature? id with
  | none => exact wpAny_pure hq
  | some sig =>
    simp only [argsOk, hsig] at ha
    have h2 : Bind.checkArgs id sig ⟨.ref x :: rest, []⟩ = pure () := ha
    show wpAny M A (Bind.checkArgs id sig ⟨.ref x :: rest, []⟩) Q E _
    rw [h2]
    exact wpAny_pure hq

/-- what != asks of a class with an own __eq__ and no own __ne__ -/
structure EqC (K : PySem.W.Frag) (C f : Addr) : Prop where
  at_ : findIn K (.ref C) "__eq__" = some (some (.ref f))
  fn : isFn K (.ref f) = true
  ne_ : findIn K (.ref C) "__ne__" = some (some (.builtin "object.__ne__"))
  ob : subIn K (.ref C) (.type "object") = some true

theorem neEntry (X : K.In s.heap) (I : InstAt s.heap x ox C od) (c : EqC K C f) (hu : A.units < cLine) {Q : Fin → Shared → Prop}
    (hcall : wpAny (model prog w) A (call (.ref f) [.ref x, b]) (fun v s' => ∃ r, v = .bool r ∧ Q (.done (.ret (.bool (!r)))) s') E s) :
    wpAny (model prog w) A (Builtin.«object.__ne__» ⟨[.ref x, b], []⟩) Q E s := by
  unfold Builtin.«object.__ne__»
  repeat (first
    | with_reducible refine wpAny_cRoomFor hu ?_
    | (refine wpAny_bind (m := callSpecialIfBound? (.ref x) (Str.ofString "__eq__") [b])
        (ifBound_K X I c.at_ c.fn (thn hcall fun r s' hr => by
          obtain ⟨b, rfl, hq⟩ := hr
          repeat (first | exact hq | exact wpAny_pure hq | exact wpAny_truthy_bool hq | (refine wpAny_bind (m := truthy (.bool _)) (wpAny_truthy_bool ?_)) | wp_step))))
    | wp_step)

theorem neOwn (X : K.In s.heap) (I : InstAt s.heap x ox C od) (c : EqC K C f) (hb : PySem.W.Looks (model prog w) s.heap (typeOf b) tb)
    (hn : notFirst K C tb = true) (hu : A.units + 1 < cLine) {Q : Value → Shared → Prop}
    (hcall : wpAny (model prog w) A.in1 (call (.ref f) [.ref x, b]) (fun v s' => ∃ r, v = .bool r ∧ Q (.bool (!r)) s') E s) :
    wpAny (model prog w) A (richCompare .NotEq (.ref x) b) Q E s := by
  have one : wpAny (model prog w) A (tryCompare (.ref x) (cmpInfo .NotEq).2.1 b) (fun r s' => ∃ v, r = some v ∧ Q v s') E s := by
    have ent : wpAny (model prog w) A.in1 (Builtin.«object.__ne__» ⟨[.ref x, b], []⟩)
        (fun fin s' => match fin with
          | .done q => ∃ r, q = .ret (.bool r) ∧ Q (.bool r) s'
          | .again _ => False) E s :=
      neEntry X I c hu (thn hcall fun v s' ⟨r, e, q⟩ => ⟨r, e, !r, rfl, q⟩)
    unfold tryCompare
    refine wpAny_bind (ifBoundB X I c.ne_ F.cmp_object.ne.bind (wpAny_call (codeAny_call_builtin F.cmp_object.ne.plain F.cmpEntry_ne
      (checkSlot F.cmpKind_ne F.cmpSplit_ne (F.cmpArgs_ne _ _) X I c.ob ?_))))
    refine thn ent ?_
    rintro (q | _) s' h
    · obtain ⟨r, rfl, q⟩ := h
      first | exact ⟨_, rfl, q⟩ | exact wpAny_pure ⟨_, rfl, q⟩
    · exact h.elim
  unfold richCompare
  simp only [oneThing_ref]
  refine wpAny_holding (wpAny_bind (wpAny_cRoomFor (Nat.lt_of_succ_lt hu) ?_))
  refine wpAny_bind (I.type.here (wpAny_bind (hb.here ?_)))
  have tail : wpAny (model prog w) A (tryCompare (.ref x) (cmpInfo .NotEq).2.1 b >>= fun r => match r with
      | some v => pure v
      | none => (pure .none : Sem Value)) Q E s := wpAny_bind (thn one fun r s' ⟨v, e, q⟩ => by subst e; exact wpAny_pure q)
  split
  · rename_i q
    have e : subIn K tb (.ref C) = some false := by
      rcases Bool.or_eq_true_iff.mp hn with e | e
      · rw [beq_iff_eq.mp e] at q
        simp at q
      · exact beq_iff_eq.mp e
    refine wpAny_bind ((looks_subIn X e).here ?_)
    simp only [Bool.false_eq_true, if_false]
    refine wpAny_bind (thn one ?_)
    rintro _ s' ⟨v, rfl, q⟩
    exact wpAny_pure q
  · refine wpAny_bind (wpAny_pure ?_)
    simp only [Bool.false_eq_true, if_false]
    refine wpAny_bind (thn one ?_)
    rintro _ s' ⟨v, rfl, q⟩
    exact wpAny_pure q
end
end MV

set_option Elab.async false
set_option linter.all false
set_option maxRecDepth 100000
set_option maxHeartbeats 2000000
namespace MV
open PySem PySem.Spec PyProof.Rows L2
section
variable {X : Cx} {CX : CXT} {k : Nat} {f C : Addr} {fd : FuncData} {ps : List Str} {sp : Sp} {E : XK}
/-- x == y, x != y, x an instance of a class with an own __eq__ -/
def rOwnEq (K : PySem.W.Frag) (C : Addr) (sp : Sp) (E : XK) (neg : Bool) : R2 := fun x y H Q => ∃ a dx fs t, x = .ref a ∧ H a = some (.ins C dx fs) ∧
  TyX K H y t ∧ PySem.W.notFirst K C t = true ∧ sp [x, y] H (fun z H' => ∃ b, z = .bl b ∧ Q (.bl (if neg then !b else b)) H') E
theorem opg_eq (c : EqC X.K C f) (F : FnG X.prog X.w X.K X.mg X.base CX k f fd ps sp) (hr : Room k X.A) (hg : X.A.guards = some [])
    (hb : Binds X.K fd ps []) (hx : Passes CX X E) : OpR X (compareOp .Eq) (rOwnEq X.K C sp E false) := by
  intro pins s σ H x y v u Q I rx ry q
  obtain ⟨a, dx, fs, t, rfl, ea, ty, nf, q⟩ := q
  cases rx
  obtain ⟨mA, O, _⟩ := ins_get I.hok ea
  obtain ⟨od, J, _⟩ := O.look
  obtain ⟨m, hF⟩ := I.fr
  obtain ⟨P, kx, hP, _⟩ := kit_of I ry ty
  show wpAny _ _ (richCompare .Eq _ _) _ _ _
  refine PySem.W.cmp_K (op := .Eq) hr.units0 hF I.ok.mod.kin J (kx.ty _ _ I.kIn hP) nf c.at_ c.fn ?_
  refine thn (callG (us := [.ref a, u]) (vs := [.ref a, y]) F hr hg hb .nil hx I (.cons rfl (.cons ry .nil)) q) ?_
  rintro _ s' ⟨_, H', I', rv, b, rfl, q'⟩
  cases rv
  exact ⟨V.bl _, H', I', rfl, q'⟩
theorem opg_ne (c : EqC X.K C f) (F : FnG X.prog X.w X.K X.mg X.base CX k f fd ps sp) (hr : Room (k + 1) X.A) (hg : X.A.guards = some [])
    (hb : Binds X.K fd ps []) (hx : Passes CX X E) : OpR X (compareOp .NotEq) (rOwnEq X.K C sp E true) := by
  intro pins s σ H x y v u Q I rx ry q
  obtain ⟨a, dx, fs, t, rfl, ea, ty, nf, q⟩ := q
  cases rx
  obtain ⟨mA, O, _⟩ := ins_get I.hok ea
  obtain ⟨od, J, _⟩ := O.look
  obtain ⟨P, kx, hP, _⟩ := kit_of I ry ty
  show wpAny _ _ (richCompare .NotEq _ _) _ _ _
  have hu : X.A.units + 1 < cLine := by have := hr.un; omega
  refine neOwn I.kIn J c (kx.ty _ _ I.kIn hP) nf hu (wpAny_call ?_)
  refine codeAny_mono (runG (us := [.ref a, u]) (vs := [.ref a, y]) F hr.in1 hg I.env0.in1 hb .nil hx I (.cons rfl (.cons ry .nil)) q) fun r s' hq => ?_
  match r, hq with
  | .error _, hq => exact hq
  | .ok (.ret w), ⟨_, H', I', rv, b, e, q'⟩ =>
    subst e
    have e2 : w = Value.bool b := rv
    subst e2
    exact ⟨b, rfl, V.bl (!b), H', I', rfl, q'⟩
end
end MV

set_option Elab.async false
set_option linter.all false
set_option maxRecDepth 100000
set_option maxHeartbeats 2000000
/-! MVE: what a step leaves of the heap (Stp), int tuples (IT), readings by lemmas (r_*), the walk over them. -/
namespace MV
open PySem PySem.Spec PyProof.Rows L2

/-! ### the tape of draws -/
/-- at t the tape: the script's ints, how many are read, what is left of a great one, the seed -/
def TapeL (H : Hp) (t l : Addr) : Prop := ∃ (ns : List Int) (a b c : Int), l ≠ t ∧
  H t = some (.lst [.ref l, .int a, .int b, .int c]) ∧ H l = some (.lst (ns.map V.int)) ∧ 0 ≤ a ∧ 0 ≤ c ∧ c < 2147483647
def Tape (H : Hp) (t : Addr) : Prop := ∃ l, TapeL H t l

/-- what a step leaves: all objects, but for the list at t (the tape), which stays a tape -/
structure Stp (t : Option Addr) (H H' : Hp) : Prop where
  ge : ∀ b o, (t = some b → ∀ xs, o ≠ .lst xs) → H b = some o → H' b = some o
  tp : ∀ a l, t = some a → TapeL H a l → TapeL H' a l

theorem TapeL.more {H H' : Hp} {a l : Addr} (T : TapeL H a l) (s : ∀ b o, H b = some o → H' b = some o) : TapeL H' a l := by
  obtain ⟨ns, x, b, c, h1, h2, h3, h4⟩ := T
  exact ⟨ns, x, b, c, h1, s _ _ h2, s _ _ h3, h4⟩
theorem Tape.more {H H' : Hp} {a : Addr} (T : Tape H a) (s : ∀ b o, H b = some o → H' b = some o) : Tape H' a := (let ⟨l, h⟩ := T; ⟨l, h.more s⟩)
theorem Stp.refl (t : Option Addr) (H : Hp) : Stp t H H := ⟨fun _ _ _ h => h, fun _ _ _ h => h⟩
theorem Stp.all {H H' : Hp} (s : Stp none H H') : ∀ b o, H b = some o → H' b = some o := fun b o h => s.ge b o (fun z => nomatch z) h
theorem Stp.of {H H' : Hp} (s : ∀ b o, H b = some o → H' b = some o) (t : Option Addr) : Stp t H H' := ⟨fun b o _ h => s b o h, fun _ _ _ T => T.more s⟩
theorem Stp.w {H H' : Hp} {t : Option Addr} (s : Stp none H H') : Stp t H H' := Stp.of s.all t
theorem Stp.trans {H H1 H2 : Hp} {t : Option Addr} (a : Stp t H H1) (b : Stp t H1 H2) : Stp t H H2 :=
  ⟨fun c o n h => b.ge c o n (a.ge c o n h), fun c l e T => b.tp c l e (a.tp c l e T)⟩
theorem Stp.new {H : Hp} {p : Addr} {o : HO} (h : H p = none) : Stp none H (upd H p o) := Stp.of (fun b u e => by
  rw [upd_ne (ne_of_none e h)]
  exact e) none
theorem Tape.mv {t : Option Addr} {H H' : Hp} {a : Addr} (s : Stp t H H') (h : t = none ∨ t = some a) (T : Tape H a) : Tape H' a := by
  rcases h with rfl | rfl
  · exact T.more s.all
  · exact (let ⟨l, h⟩ := T; ⟨l, s.tp a l rfl h⟩)
theorem Tape.mvN {H H' : Hp} {a : Addr} (s : Stp none H H') (T : Tape H a) : Tape H' a := T.more s.all
theorem Tape.mvS {H H' : Hp} {a : Addr} (s : Stp (some a) H H') (T : Tape H a) : Tape H' a := (let ⟨l, h⟩ := T; ⟨l, s.tp a l rfl h⟩)
theorem Stp.same {H H' : Hp} (s : Stp none H H') : Same H H' := s.all

/-! ### int tuples, lists, instances -/
/-- v is a tuple of the ints ns -/
def IT (H : Hp) (v : V) (ns : List Int) : Prop := ∃ p, v = .ref p ∧ H p = some (.tup (ns.map V.int))
theorem IT.mv {t : Option Addr} {H H' : Hp} {v : V} {ns : List Int} (s : Stp t H H') (h : IT H v ns) : IT H' v ns := by
  obtain ⟨p, e, h⟩ := h
  exact ⟨p, e, s.ge _ _ (fun _ xs z => by cases z) h⟩
/-- as IT, or a tuple of the text that is always there -/
def IK (K : PySem.W.Frag) (H : Hp) (v : V) (ns : List Int) : Prop := ∃ p, v = .ref p ∧ SqT K H p (ns.map V.int)
theorem IT.k {K : PySem.W.Frag} {H : Hp} {v : V} {ns : List Int} (h : IT H v ns) : IK K H v ns := by
  obtain ⟨p, e, h⟩ := h
  exact ⟨p, e, SqT.of h⟩
theorem SqT.mvS {K : PySem.W.Frag} {t : Option Addr} {H H' : Hp} {p : Addr} {xs : List V} (s : Stp t H H') (h : SqT K H p xs) : SqT K H' p xs := by
  rcases h with h | h
  · rcases h with h | ⟨o, h⟩
    · exact .inl (.inl (s.ge _ _ (fun _ xs z => by cases z) h))
    · exact .inl (.inr ⟨o, s.ge _ _ (fun _ xs z => by cases z) h⟩)
  · exact .inr h
theorem IK.mv {K : PySem.W.Frag} {t : Option Addr} {H H' : Hp} {v : V} {ns : List Int} (s : Stp t H H') (h : IK K H v ns) : IK K H' v ns := by
  obtain ⟨p, e, h⟩ := h
  exact ⟨p, e, SqT.mvS s h⟩
theorem At.tup {t : Option Addr} {H H' : Hp} {p : Addr} {xs : List V} (s : Stp t H H') (h : H p = some (.tup xs)) : H' p = some (.tup xs) :=
  s.ge _ _ (fun _ xs z => by cases z) h
theorem At.ins {t : Option Addr} {H H' : Hp} {p C dx : Addr} {fs : List (Str × V)} (s : Stp t H H') (h : H p = some (.ins C dx fs)) : H' p = some (.ins C dx fs) :=
  s.ge _ _ (fun _ xs z => by cases z) h
theorem At.lst {H H' : Hp} {p : Addr} {xs : List V} (s : Stp none H H') (h : H p = some (.lst xs)) : H' p = some (.lst xs) := s.all _ _ h
theorem At.lstS {t : Addr} {H H' : Hp} {p : Addr} {xs : List V} (s : Stp (some t) H H') (n : p ≠ t) (h : H p = some (.lst xs)) : H' p = some (.lst xs) :=
  s.ge _ _ (fun z => absurd (Option.some.inj z).symm n) h

theorem dp_ints {K : PySem.W.Frag} {H : Hp} : ∀ ns : List Int, DpAll K H (ns.map V.int) (ns.map PyData.int)
  | [] => .nil
  | n :: r => .cons (.int n) (dp_ints r)
theorem IK.dp {K : PySem.W.Frag} {H : Hp} {v : V} {ns : List Int} (h : IK K H v ns) : Dp K H v (.tuple (ns.map PyData.int)) := by
  obtain ⟨p, rfl, h⟩ := h
  exact .tup h (dp_ints ns)
theorem canLay_ints : ∀ ns : List Int, PyData.canLayAll0 (ns.map PyData.int) = true
  | [] => by rw [List.map_nil, PyData.canLayAll0]
  | n :: r => by rw [List.map_cons, PyData.canLayAll0, canLay_ints r, PyData.canLay0]; rfl
theorem depth_ints : ∀ ns : List Int, PyData.depthAll (ns.map PyData.int) = 0
  | [] => by rw [List.map_nil, PyData.depthAll]
  | n :: r => by rw [List.map_cons, PyData.depthAll, depth_ints r, PyData.depth]; rfl
theorem shaped_int (ns : List Int) : SeqAt.shaped (.tuple (ns.map PyData.int)) = true := by
  unfold SeqAt.shaped
  rw [PyData.canLay0, canLay_ints, PyData.depth, depth_ints]
  rfl
theorem eqvAll_ints : ∀ ns ms : List Int, PyData.eqvAll (ns.map PyData.int) (ms.map PyData.int) = decide (ns = ms)
  | [], [] => by rw [List.map_nil, PyData.eqvAll]; rfl
  | [], _ :: _ => by rw [List.map_nil, List.map_cons, PyData.eqvAll]; rfl
  | _ :: _, [] => by rw [List.map_nil, List.map_cons, PyData.eqvAll]; rfl
  | n :: r, m :: q => by
    rw [List.map_cons, List.map_cons, PyData.eqvAll, PyData.eqv, eqvAll_ints r q]
    by_cases h : n = m
    · subst h
      by_cases h2 : r = q
      · subst h2; simp
      · simp [h2]
    · simp [h]
theorem eqv_ints (ns ms : List Int) : PyData.eqv (.tuple (ns.map PyData.int)) (.tuple (ms.map PyData.int)) = decide (ns = ms) := by
  rw [PyData.eqv, eqvAll_ints]

/-! ### readings -/
section
variable {K : PySem.W.Frag} {σ : L2.St} {H H1 H2 : Hp} {Q : VK} {v x y : V} {i j : Int} {n : Nat} {ta tb te tc : TE} {t u : TS} {D : Ends} {tt uu : TT} {a tr : TA} {r : R2} {g : TG} {gs : TGs}
theorem r_var (h : σ[n]? = some (some v)) (q : Q v H) : tVar n σ H Q := ⟨v, h, q⟩
theorem r_c (q : Q v H) : tC v σ H Q := q
theorem r_op (q : ta σ H fun x H1 => tb σ H1 fun y H2 => r x y H2 Q) : tOp r ta tb σ H Q := q
theorem r_un {r : V → Hp → VK → Prop} (q : ta σ H fun x H1 => r x H1 Q) : tUn r ta σ H Q := q
theorem r_nil {Q : List V → Hp → Prop} (q : Q [] H) : tNil σ H Q := q
theorem r_cons {Q : List V → Hp → Prop} (q : ta σ H fun x H1 => tr σ H1 fun xs H2 => Q (x :: xs) H2) : tCons ta tr σ H Q := q
/-- a new tuple, a new list of xs is handed to Q -/
def NewT (xs : List V) (H : Hp) (Q : VK) : Prop := xs.length ≤ sizeLine ∧ ∀ p, H p = none → Q (.ref p) (upd H p (.tup xs))
def NewL (xs : List V) (H : Hp) (Q : VK) : Prop := xs.length ≤ sizeLine ∧ ∀ p, H p = none → Q (.ref p) (upd H p (.lst xs))
theorem r_tup (q : a σ H fun xs H1 => NewT xs H1 Q) : tTup a σ H Q := q
theorem r_lst (q : a σ H fun xs H1 => NewL xs H1 Q) : tLst a σ H Q := q
theorem r_newT {xs : List V} (hl : xs.length ≤ sizeLine) (k : ∀ p H2, Stp none H H2 → H2 p = some (.tup xs) → H p = none → Q (.ref p) H2) :
    NewT xs H Q := ⟨hl, fun p hp => k p _ (Stp.new hp) upd_same hp⟩
theorem r_newL {xs : List V} (hl : xs.length ≤ sizeLine) (k : ∀ p H2, Stp none H H2 → H2 p = some (.lst xs) → H p = none → Q (.ref p) H2) :
    NewL xs H Q := ⟨hl, fun p hp => k p _ (Stp.new hp) upd_same hp⟩
theorem sz100 {n : Nat} (h : n ≤ 100) : n ≤ sizeLine := Nat.le_trans h (by decide)
theorem r_newI {ns : List Int} (hl : ns.length ≤ 100) (k : ∀ v H2, Stp none H H2 → IT H2 v ns → Q v H2) :
    NewT (ns.map V.int) H Q :=
  ⟨sz100 (by rw [List.length_map]; exact hl), fun p hp => k _ _ (Stp.new hp) ⟨p, rfl, upd_same⟩⟩
theorem r_newI2 (k : ∀ v H2, Stp none H H2 → IT H2 v [i, j] → Q v H2) : NewT [V.int i, V.int j] H Q := r_newI (ns := [i, j]) (Nat.le_of_ble_eq_true rfl) k
theorem r_newI3 {l : Int} (k : ∀ v H2, Stp none H H2 → IT H2 v [i, j, l] → Q v H2) : NewT [V.int i, V.int j, V.int l] H Q := r_newI (ns := [i, j, l]) (Nat.le_of_ble_eq_true rfl) k
theorem r_newL1 (k : ∀ p H2, Stp none H H2 → H2 p = some (.lst [x]) → H p = none → Q (.ref p) H2) : NewL [x] H Q := r_newL (sz100 (Nat.le_of_ble_eq_true rfl)) k
theorem r_newL2 (k : ∀ p H2, Stp none H H2 → H2 p = some (.lst [x, y]) → H p = none → Q (.ref p) H2) : NewL [x, y] H Q := r_newL (sz100 (Nat.le_of_ble_eq_true rfl)) k
theorem r_newL3 {z : V} (k : ∀ p H2, Stp none H H2 → H2 p = some (.lst [x, y, z]) → H p = none → Q (.ref p) H2) : NewL [x, y, z] H Q := r_newL (sz100 (Nat.le_of_ble_eq_true rfl)) k
theorem r_cb {r : List V → Hp → VK → Prop} (q : a σ H fun vs H1 => r vs H1 Q) : tCB r a σ H Q := q
theorem r_call {sp : Sp} {dvs : List V} {E : XK} (q : a σ H fun vs H1 => sp (vs ++ dvs) H1 Q E) : tCall sp dvs E a σ H Q := q
theorem r_prop {C : Addr} {sp : Sp} {dvs : List V} {E : XK} (q : ta σ H fun x H1 => ∃ a dx fs, x = .ref a ∧ H1 a = some (.ins C dx fs) ∧ sp (.ref a :: dvs) H1 Q E) : tProp C sp dvs E ta σ H Q := q
theorem r_meth {C : Addr} {m : Str} {sp : Sp} {dvs : List V} {E : XK} (q : ta σ H fun x H1 => ∃ b dx fs, x = .ref b ∧ H1 b = some (.ins C dx fs) ∧ fs.lookup m = none ∧ a σ H1 fun vs H2 => sp (x :: (vs ++ dvs)) H2 Q E) :
    tMeth C m sp dvs E ta a σ H Q := q
/-- C(..): a new object is handed to __init__ and then to Q -/
def MkR (C : Addr) (sp : Sp) (vs : List V) (H1 : Hp) (Q : VK) (E : XK) : Prop := ∀ x dx, H1 x = none → H1 dx = none → dx ≠ x →
    sp (.ref x :: vs) (upd (upd H1 dx (.own x)) x (.ins C dx [])) (fun v H2 => v = .non ∧ Q (.ref x) H2) E
theorem r_make {C : Addr} {sp : Sp} {dvs : List V} {E : XK} (q : a σ H fun vs H1 => MkR C sp (vs ++ dvs) H1 Q E) : tMake C sp dvs E a σ H Q := q
theorem r_andV (q : ta σ H fun x H1 => ∃ c, x = .bl c ∧ if c = true then tb σ H1 Q else Q (.bl false) H1) : tAndV ta tb σ H Q := q
theorem r_orV (q : ta σ H fun x H1 => ∃ c, x = .bl c ∧ if c = true then Q (.bl true) H1 else tb σ H1 Q) : tOrV ta tb σ H Q := q
theorem r_notV (q : ta σ H fun x H1 => ∃ c, x = .bl c ∧ Q (.bl (!c)) H1) : tNotV ta σ H Q := q
theorem r_chain {r' : R2} (q : ta σ H fun x H1 => tb σ H1 fun y H2 => r x y H2 fun z H3 => ∃ k, z = .bl k ∧ (if k = true then tc σ H3 fun w' H4 => r' y w' H4 Q else Q (.bl false) H3)) : tChain r r' ta tb tc σ H Q := q
theorem r_ifE (q : tt σ H fun c H1 => if c = true then ta σ H1 Q else tb σ H1 Q) : tIf tt ta tb σ H Q := q
section
variable {Q : Bool → Hp → Prop}
theorem r_test (q : te σ H fun x H' => ∃ k, x = .bl k ∧ Q k H') : tTest te σ H Q := q
theorem r_B (q : te σ H fun x H' => ∃ k, x = .bl k ∧ Q k H') : tB te σ H Q := q
theorem r_and (q : tt σ H fun c H1 => if c = true then uu σ H1 Q else Q false H1) : tAnd tt uu σ H Q := q
theorem r_or (q : tt σ H fun c H1 => if c = true then Q true H1 else uu σ H1 Q) : tOr tt uu σ H Q := q
theorem r_not (q : tt σ H fun c H1 => Q (!c) H1) : tNot tt σ H Q := q
theorem r_yes (q : Q true H) : tYes σ H Q := q
theorem r_k {b : Bool} (q : Q b H) : ∃ k, V.bl b = .bl k ∧ Q k H := ⟨b, rfl, q⟩
end
theorem r_kV {b : Bool} {P : Bool → Prop} (q : P b) : ∃ k, V.bl b = .bl k ∧ P k := ⟨b, rfl, q⟩
theorem r_seq (q : t { D with nx := u D } σ H) : tSeq t u D σ H := q
theorem r_next (q : D.nx σ H) : tNext D σ H := q
theorem r_asg (q : te σ H fun x H1 => g x σ H1 D.nx) : tAsg te g D σ H := q
theorem r_drop (q : te σ H fun _ H1 => D.nx σ H1) : tDrop te D σ H := q
theorem r_ret (q : te σ H D.rt) : tRet te D σ H := q
theorem r_ifS (q : tt σ H fun b H1 => if b = true then t D σ H1 else u D σ H1) : tIfS tt t u D σ H := q
theorem r_par {m : Nat} (q : a σ H fun vs H1 => ∃ v w, vs = [v, w] ∧ D.nx ((σ.set n (some v)).set m (some w)) H1) : tPar n m a D σ H := q
theorem r_par1 {m : Nat} (q : D.nx ((σ.set n (some x)).set m (some y)) H) : ∃ v w, [x, y] = [v, w] ∧ D.nx ((σ.set n (some v)).set m (some w)) H := ⟨x, y, rfl, q⟩
section
variable {Q : L2.St → Hp → Prop} {vs : List V}
theorem r_gname (q : Q (σ.set n (some v)) H) : gName n v σ H Q := q
theorem r_gnil (q : Q σ H) : gNil [] σ H Q := ⟨rfl, q⟩
theorem r_gcons (q : g v σ H fun σ' H' => gs vs σ' H' Q) : gCons g gs (v :: vs) σ H Q := ⟨v, vs, rfl, q⟩
theorem r_unpack {ns : List Int} (h : IK K H v ns) (hn : ns.length = n) (q : gs (ns.map V.int) σ H Q) : gTup K n gs v σ H Q := by
  obtain ⟨p, rfl, h⟩ := h
  exact ⟨p, _, rfl, h, by rw [List.length_map]; exact hn, q⟩
theorem r_unpack2 (h : IK K H v [i, j]) (q : gs [V.int i, V.int j] σ H Q) : gTup K 2 gs v σ H Q := r_unpack h rfl q
theorem r_unpack3 {l : Int} (h : IK K H v [i, j, l]) (q : gs [V.int i, V.int j, V.int l] σ H Q) : gTup K 3 gs v σ H Q := r_unpack h rfl q
end
-- operators by values
theorem r_add (q : Q (.int (i + j)) H) : rI0 (fun i j => .int (i + j)) (.int i) (.int j) H Q := ⟨i, j, rfl, rfl, q⟩
theorem r_sub (q : Q (.int (i - j)) H) : rI0 (fun i j => .int (i - j)) (.int i) (.int j) H Q := ⟨i, j, rfl, rfl, q⟩
theorem r_mod (h : 0 < j) (q : Q (.int (i % j)) H) : rI (fun _ j => 0 < j) (fun i j => .int (i % j)) (.int i) (.int j) H Q := ⟨i, j, rfl, rfl, h, q⟩
theorem r_div (h : CDivW i j) (q : Q (.int (i / j)) H) : rI CDivW (fun i j => .int (i / j)) (.int i) (.int j) H Q := ⟨i, j, rfl, rfl, h, q⟩
theorem r_mulW (h : CMulW i j) (q : Q (.int (i * j)) H) : rI CMulW (fun i j => .int (i * j)) (.int i) (.int j) H Q := ⟨i, j, rfl, rfl, h, q⟩
theorem r_mul (h : CMul i j) (q : Q (.int (i * j)) H) : rI CMul (fun i j => .int (i * j)) (.int i) (.int j) H Q := ⟨i, j, rfl, rfl, h, q⟩
theorem r_pow (h : CPow i j) (q : Q (.int (i ^ j.toNat)) H) : rI CPow (fun i j => .int (i ^ j.toNat)) (.int i) (.int j) H Q := ⟨i, j, rfl, rfl, h, q⟩
theorem r_neg (q : Q (.int (-i)) H) : rU (fun i => .int (-i)) (.int i) H Q := ⟨i, rfl, q⟩
theorem r_lt (q : Q (.bl (decide (i < j))) H) : rI0 (fun i j => .bl (decide (i < j))) (.int i) (.int j) H Q := ⟨i, j, rfl, rfl, q⟩
theorem r_le (q : Q (.bl (decide (i ≤ j))) H) : rI0 (fun i j => .bl (decide (i ≤ j))) (.int i) (.int j) H Q := ⟨i, j, rfl, rfl, q⟩
theorem r_gt (q : Q (.bl (decide (j < i))) H) : rI0 (fun i j => .bl (decide (j < i))) (.int i) (.int j) H Q := ⟨i, j, rfl, rfl, q⟩
theorem r_ge (q : Q (.bl (decide (j ≤ i))) H) : rI0 (fun i j => .bl (decide (j ≤ i))) (.int i) (.int j) H Q := ⟨i, j, rfl, rfl, q⟩
theorem dec_int : decide (V.int i = V.int j) = decide (i = j) := decide_eq_decide.mpr ⟨V.int.inj, congrArg V.int⟩
theorem r_eqI (q : Q (.bl (decide (i = j))) H) : rEq (.int i) (.int j) H Q := ⟨rfl, by rw [dec_int]; exact q⟩
theorem r_neI (q : Q (.bl (!decide (i = j))) H) : rNe (.int i) (.int j) H Q := ⟨rfl, by rw [dec_int]; exact q⟩
theorem dec_str {s z : Str} : decide (V.str s = V.str z) = decide (s = z) := decide_eq_decide.mpr ⟨V.str.inj, congrArg V.str⟩
theorem r_eqS {s z : Str} (q : Q (.bl (decide (s = z))) H) : rEq (.str s) (.str z) H Q := ⟨rfl, by rw [dec_str]; exact q⟩
theorem r_neS {s z : Str} (q : Q (.bl (!decide (s = z))) H) : rNe (.str s) (.str z) H Q := ⟨rfl, by rw [dec_str]; exact q⟩
/-- == and != of int tuples -/
theorem r_eqT {ns ms : List Int} (hx : IK K H x ns) (hy : IK K H y ms) (q : Q (.bl (decide (ns = ms))) H) : rEqD K x y H Q :=
  ⟨_, _, hx.dp, hy.dp, shaped_int ns, shaped_int ms, by rw [eqv_ints]; exact q⟩
theorem r_neT {ns ms : List Int} (hx : IK K H x ns) (hy : IK K H y ms) (q : Q (.bl (!decide (ns = ms))) H) : rNeD K x y H Q :=
  ⟨_, _, hx.dp, hy.dp, shaped_int ns, shaped_int ms, by rw [eqv_ints]; exact q⟩
/-- an item of an int tuple -/
theorem r_ixI {ns : List Int} {m : Int} (h : IK K H v ns) (hn : ns[n]? = some m) (q : Q (.int m) H) : rIx K v (.int (n : Nat)) H Q := by
  obtain ⟨p, rfl, h⟩ := h
  exact .inr (.inl ⟨p, _, _, _, rfl, rfl, h, atI_nat (by rw [List.getElem?_map, hn]; rfl), q⟩)
theorem r_ix0 {m : Int} {ns : List Int} (h : IK K H v (m :: ns)) (q : Q (.int m) H) : rIx K v (.int 0) H Q := r_ixI (n := 0) h rfl q
theorem r_ix1 {m k : Int} {ns : List Int} (h : IK K H v (k :: m :: ns)) (q : Q (.int m) H) : rIx K v (.int 1) H Q := r_ixI (n := 1) h rfl q
theorem r_ix2 {m k l : Int} {ns : List Int} (h : IK K H v (k :: l :: m :: ns)) (q : Q (.int m) H) : rIx K v (.int 2) H Q := r_ixI (n := 2) h rfl q
/-- an item of a list that stands in H -/
theorem r_ixL {p : Addr} {xs : List V} (h : H p = some (.lst xs)) (hn : xs[n]? = some v) (q : Q v H) : rIx K (.ref p) (.int (n : Nat)) H Q :=
  .inl ⟨p, xs, _, v, rfl, rfl, SqL.of h, atI_nat hn, q⟩
theorem r_ixLi {p : Addr} {xs : List V} {i : Int} (h : H p = some (.lst xs)) (h0 : 0 ≤ i) (hn : xs[i.toNat]? = some v) (q : Q v H) : rIx K (.ref p) (.int i) H Q := by
  have e : i = ((i.toNat : Nat) : Int) := (Int.toNat_of_nonneg h0).symm
  rw [e]
  exact r_ixL h hn q
theorem ixN_nat {m k : Nat} (h : k < m) : ixN m ((k : Nat) : Int) = some k := by
  unfold ixN
  rw [if_pos (Int.natCast_nonneg k), if_pos (by omega)]
  rfl
theorem r_setL {p : Addr} {xs : List V} {Q : Hp → Prop} (h : H p = some (.lst xs)) (hn : n < xs.length) (q : Q (upd H p (.lst (xs.set n v)))) : rSetL (.ref p) (.int (n : Nat)) v H Q :=
  ⟨p, xs, _, n, rfl, rfl, h, ixN_nat hn, q⟩
-- tests
theorem r_ite {p : Prop} [Decidable p] {A B : Prop} (h1 : p → A) (h2 : ¬ p → B) : if decide p = true then A else B := by
  by_cases h : p
  · rw [if_pos (decide_eq_true h)]; exact h1 h
  · rw [if_neg (by simp [h])]; exact h2 h
theorem r_iteN {p : Prop} [Decidable p] {A B : Prop} (h1 : ¬ p → A) (h2 : p → B) : if (!decide p) = true then A else B := by
  by_cases h : p
  · rw [if_neg (by simp [h])]; exact h2 h
  · rw [if_pos (by simp [h])]; exact h1 h
theorem r_T {A B : Prop} (q : A) : if true = true then A else B := q
theorem r_F {A B : Prop} (q : B) : if false = true then A else B := q
theorem r_iT {b : Bool} {A B : Prop} (h : b = true) (q : A) : if b = true then A else B := by rw [h]; exact q
theorem r_iF {b : Bool} {A B : Prop} (h : b = false) (q : B) : if b = true then A else B := by rw [h]; exact q

/-! ### more readings -/
theorem r_call0 {sp : Sp} {E : XK} (q : a σ H fun vs H1 => sp vs H1 Q E) : tCall sp [] E a σ H Q := by
  unfold tCall
  simp only [List.append_nil]
  exact q
theorem r_meth0 {C : Addr} {m : Str} {sp : Sp} {E : XK} (q : ta σ H fun x H1 => ∃ b dx fs, x = .ref b ∧ H1 b = some (.ins C dx fs) ∧ fs.lookup m = none ∧ a σ H1 fun vs H2 => sp (x :: vs) H2 Q E) :
    tMeth C m sp [] E ta a σ H Q := by
  unfold tMeth
  simp only [List.append_nil]
  exact q
theorem r_make0 {C : Addr} {sp : Sp} {E : XK} (q : a σ H fun vs H1 => MkR C sp vs H1 Q E) : tMake C sp [] E a σ H Q := by
  unfold tMake
  simp only [List.append_nil]
  exact q
theorem r_isi {c t u : _} {b : Bool} {x : V} (cl : ClsV c u) (ty : TyX K H x t) (e : PySem.W.kitOne K t u = some b) (q : Q (.bl b) H) : rIsi K [x, c] H Q :=
  ⟨x, c, t, u, b, rfl, cl, ty, e, q⟩
theorem r_isiII (q : Q (.bl true) H) : rIsi K [.int i, .ty "int"] H Q := r_isi (.ty _) (.base (.int i)) (kit_ty (by decide +kernel)) q
theorem r_isiIB (q : Q (.bl false) H) : rIsi K [.int i, .ty "bool"] H Q := r_isi (.ty _) (.base (.int i)) (kit_ty (by decide +kernel)) q
theorem ty_tup {p : Addr} {xs : List V} (h : SqT K H p xs) : TyX K H (.ref p) (.type "tuple") := by
  rcases h with h | ⟨o, _, _, h1, h2, _⟩
  · rcases h with h | ⟨o, h⟩
    · exact .base (.tup h)
    · exact .fTuple h
  · exact .kTuple h1 h2
theorem r_isiTT {ns : List Int} (h : IK K H v ns) (q : Q (.bl true) H) : rIsi K [v, .ty "tuple"] H Q := by
  obtain ⟨p, rfl, h⟩ := h
  exact r_isi (.ty _) (ty_tup h) (kit_ty (by decide +kernel)) q
def rLenV (K : PySem.W.Frag) : List V → Hp → VK → Prop := fun xs H Q => ∃ p ys, xs = [.ref p] ∧ (SqL K H p ys ∨ SqT K H p ys) ∧ Q (.int ys.length) H
theorem r_cbLen (q : a σ H fun vs H1 => rLenV K vs H1 Q) : tCB (fun xs H Q => ∃ p ys, xs = [.ref p] ∧ (SqL K H p ys ∨ SqT K H p ys) ∧ Q (.int ys.length) H) a σ H Q := q
theorem r_lenI {ns : List Int} {m : Int} (h : IK K H v ns) (e : (ns.length : Int) = m) (q : Q (.int m) H) : rLenV K [v] H Q := by
  obtain ⟨p, rfl, h⟩ := h
  refine ⟨p, _, rfl, .inr h, ?_⟩
  rw [List.length_map, e]
  exact q
theorem r_len2 (h : IK K H v [i, j]) (q : Q (.int 2) H) : rLenV K [v] H Q := r_lenI h rfl q
theorem r_len3 {l : Int} (h : IK K H v [i, j, l]) (q : Q (.int 3) H) : rLenV K [v] H Q := r_lenI h rfl q
theorem r_lenL {p : Addr} {xs : List V} (h : H p = some (.lst xs)) (q : Q (.int xs.length) H) : rLenV K [.ref p] H Q := ⟨p, xs, rfl, .inl (SqL.of h), q⟩
def rInt1 : List V → Hp → VK → Prop := fun xs H Q => (∃ i, xs = [.int i] ∧ Q (.int i) H) ∨ ∃ k, xs = [.bl k] ∧ Q (.int (if k then 1 else 0)) H
theorem r_cbInt (q : a σ H fun vs H1 => rInt1 vs H1 Q) : tCB (fun xs H Q => (∃ i, xs = [.int i] ∧ Q (.int i) H) ∨ ∃ k, xs = [.bl k] ∧ Q (.int (if k then 1 else 0)) H) a σ H Q := q
theorem r_int1 (q : Q (.int i) H) : rInt1 [.int i] H Q := .inl ⟨i, rfl, q⟩
theorem r_int1B {b : Bool} (q : Q (.int (if b then 1 else 0)) H) : rInt1 [.bl b] H Q := .inr ⟨b, rfl, q⟩
def rReprI : List V → Hp → VK → Prop := fun xs H Q => ∃ i, xs = [.int i] ∧ i.natAbs.log2 < 1920 ∧ Q (.str (toString i)) H
theorem r_cbRepr (q : a σ H fun vs H1 => rReprI vs H1 Q) : tCB (fun xs H Q => ∃ i, xs = [.int i] ∧ i.natAbs.log2 < 1920 ∧ Q (.str (toString i)) H) a σ H Q := q
theorem r_reprI (h : i.natAbs.log2 < 1920) (q : Q (.str (toString i)) H) : rReprI [.int i] H Q := ⟨i, rfl, h, q⟩
def rTupL (K : PySem.W.Frag) : List V → Hp → VK → Prop := fun xs H Q => ∃ p ys, xs = [.ref p] ∧ ((SqL K H p ys ∧ ∀ l, H l = none → Q (.ref l) (upd H l (.tup ys))) ∨ (SqT K H p ys ∧ Q (.ref p) H))
theorem r_cbTup (q : a σ H fun vs H1 => rTupL K vs H1 Q) : tCB (fun xs H Q => ∃ p ys, xs = [.ref p] ∧ ((SqL K H p ys ∧ ∀ l, H l = none → Q (.ref l) (upd H l (.tup ys))) ∨ (SqT K H p ys ∧ Q (.ref p) H))) a σ H Q := q
theorem r_tupL {p : Addr} {ns : List Int} (h : H p = some (.lst (ns.map V.int))) (k : ∀ v H2, Stp none H H2 → IT H2 v ns → Q v H2) : rTupL K [.ref p] H Q :=
  ⟨p, _, rfl, .inl ⟨SqL.of h, fun l hl => k _ _ (Stp.new hl) ⟨l, rfl, upd_same⟩⟩⟩
def rLstL (K : PySem.W.Frag) : List V → Hp → VK → Prop := fun xs H Q => ∃ p ys, xs = [.ref p] ∧ (SqL K H p ys ∨ SqT K H p ys) ∧ ∀ l, H l = none → Q (.ref l) (upd H l (.lst ys))
theorem r_cbLst (q : a σ H fun vs H1 => rLstL K vs H1 Q) : tCB (fun xs H Q => ∃ p ys, xs = [.ref p] ∧ (SqL K H p ys ∨ SqT K H p ys) ∧ ∀ l, H l = none → Q (.ref l) (upd H l (.lst ys))) a σ H Q := q
theorem r_lstL {p : Addr} {xs : List V} (h : SqL K H p xs) (k : ∀ l H2, Stp none H H2 → H2 l = some (.lst xs) → H l = none → Q (.ref l) H2) : rLstL K [.ref p] H Q :=
  ⟨p, xs, rfl, .inl h, fun l hl => k l _ (Stp.new hl) upd_same hl⟩
theorem r_nT {A B : Prop} (q : B) : if (!true) = true then A else B := q
theorem r_nF {A B : Prop} (q : A) : if (!false) = true then A else B := q
theorem r_gcd {i j : Int} (q : Q (.int ((Nat.gcd i.natAbs j.natAbs : Nat) : Int)) H) : rGcd [.int i, .int j] H Q := ⟨i, j, rfl, q⟩
theorem r_setLi {p : Addr} {xs : List V} {i : Int} {Q : Hp → Prop} (h : H p = some (.lst xs)) (h0 : 0 ≤ i) (hn : i.toNat < xs.length) (q : Q (upd H p (.lst (xs.set i.toNat v)))) : rSetL (.ref p) (.int i) v H Q := by
  have e : i = ((i.toNat : Nat) : Int) := (Int.toNat_of_nonneg h0).symm
  rw [e]
  exact r_setL h hn q
/-- xs[i] = v, both parts read -/
theorem r_gsub {to ti : TE} {t : TSet} {Q : L2.St → Hp → Prop} (q : to σ H fun o H1 => ti σ H1 fun i H2 => t o i v H2 fun H3 => Q σ H3) : gSub to ti t v σ H Q := q
/-- x.f handed to Q -/
def FldR (K : PySem.W.Frag) (f : Str) (x : V) (H : Hp) (Q : VK) : Prop := ∃ a C dx fs v, x = .ref a ∧ H a = some (.ins C dx fs) ∧ Cls K C ∧ NoAttr K C f ∧ fs.lookup f = some v ∧ Q v H
theorem r_fld {f : Str} (q : ta σ H fun x H1 => FldR K f x H1 Q) : tFld K ta f σ H Q := q
theorem mulW_of {i j : Int} (hi : i.natAbs < 10 ^ 70) (hj : j.natAbs < 10 ^ 70) : CMulW i j :=
  wide_mul (a := 240) (b := 240) (Nat.lt_of_lt_of_le hi (by decide)) (Nat.lt_of_lt_of_le hj (by decide)) (by decide) (by decide) (by decide)
theorem divW_of {i j : Int} (h : 0 < j) (hj : j.natAbs < 10 ^ 70) : CDivW i j :=
  wide_div (b := 240) h (Nat.lt_of_lt_of_le hj (by decide)) (by decide) (by decide)
theorem log2_of {i : Int} (h : i.natAbs < 10 ^ 500) : i.natAbs.log2 < 1920 := by
  have : i.natAbs < 2 ^ 1920 := Nat.lt_of_lt_of_le h (by decide +kernel)
  by_cases z : i.natAbs = 0
  · rw [z]; decide
  · exact (Nat.log2_lt z).mpr this
theorem r_p6 (q : Q (.int 1000000) H) : rI CPow (fun i j => .int (i ^ j.toNat)) (.int 10) (.int 6) H Q := ⟨10, 6, rfl, rfl, ⟨by decide, by decide, by decide⟩, q⟩
theorem r_p9 (q : Q (.int 1000000000) H) : rI CPow (fun i j => .int (i ^ j.toNat)) (.int 10) (.int 9) H Q := ⟨10, 9, rfl, rfl, ⟨by decide, by decide, by decide⟩, q⟩
theorem r_p10 (q : Q (.int 10000000000) H) : rI CPow (fun i j => .int (i ^ j.toNat)) (.int 10) (.int 10) H Q := ⟨10, 10, rfl, rfl, ⟨by decide, by decide, by decide⟩, q⟩
theorem r_p11 (q : Q (.int 100000000000) H) : rI CPow (fun i j => .int (i ^ j.toNat)) (.int 10) (.int 11) H Q := ⟨10, 11, rfl, rfl, ⟨by decide, by decide, by decide⟩, q⟩
theorem r_p12 (q : Q (.int 1000000000000) H) : rI CPow (fun i j => .int (i ^ j.toNat)) (.int 10) (.int 12) H Q := ⟨10, 12, rfl, rfl, ⟨by decide, by decide, by decide⟩, q⟩
theorem r_p18 (q : Q (.int 1000000000000000000) H) : rI CPow (fun i j => .int (i ^ j.toNat)) (.int 10) (.int 18) H Q := ⟨10, 18, rfl, rfl, ⟨by decide, by decide, by decide⟩, q⟩
theorem r_p20 (q : Q (.int 100000000000000000000) H) : rI CPow (fun i j => .int (i ^ j.toNat)) (.int 10) (.int 20) H Q := ⟨10, 20, rfl, rfl, ⟨by decide, by decide, by decide⟩, q⟩
theorem r_p26 (q : Q (.int 100000000000000000000000000) H) : rI CPow (fun i j => .int (i ^ j.toNat)) (.int 10) (.int 26) H Q := ⟨10, 26, rfl, rfl, ⟨by decide, by decide, by decide⟩, q⟩
theorem r_p27 (q : Q (.int 1000000000000000000000000000) H) : rI CPow (fun i j => .int (i ^ j.toNat)) (.int 10) (.int 27) H Q := ⟨10, 27, rfl, rfl, ⟨by decide, by decide, by decide⟩, q⟩
theorem r_p30 (q : Q (.int 1000000000000000000000000000000) H) : rI CPow (fun i j => .int (i ^ j.toNat)) (.int 10) (.int 30) H Q := ⟨10, 30, rfl, rfl, ⟨by decide, by decide, by decide⟩, q⟩
theorem r_sfld {f : Str} {tv : TE} (q : tv σ H fun y H1 => ta σ H1 fun x H2 => ∃ a C dx fs, x = .ref a ∧ H2 a = some (.ins C dx fs) ∧ Cls K C ∧ NoAttr K C f ∧ fs.length < 1000 ∧ D.nx σ (upd H2 a (.ins C dx (putF f y fs)))) :
    sFld K ta tv f D σ H := q
theorem r_unl2 {Q : L2.St → Hp → Prop} {p : Addr} (h : H p = some (.lst [x, y])) (q : gs [x, y] σ H Q) : gLst K 2 gs (.ref p) σ H Q := ⟨p, _, rfl, SqL.of h, rfl, q⟩
/-- what isinstance asks of a class of the text -/
structure IsC (K : PySem.W.Frag) (C : Addr) : Prop where
  ca : PySem.W.findIn K (.ref C) "__class__" = some (some (.builtin "object.__class__"))
  cn : PySem.W.specialIn K (.builtin "object.__class__") "__get__" = some (some (.builtin "getset_descriptor.__get__"))
  ct : PySem.W.takesIn K (.builtin "object.__class__") = some true
  cm : PySem.W.mroIn K C (.type "object") = some true
theorem IsC.ty {C p dx : Addr} {fs : List (Str × V)} (c : IsC K C) (cl : Cls K C) (h : H p = some (.ins C dx fs)) : TyX K H (.ref p) (.ref C) :=
  .base (.ins h cl c.ca c.cn c.ct c.cm)
theorem kit_self {C : Addr} : PySem.W.kitOne K (.ref C) (.ref C) = some true := by
  unfold PySem.W.kitOne
  rw [if_pos (by simp)]
theorem notFirst_self {C : Addr} : PySem.W.notFirst K C (.ref C) = true := by
  unfold PySem.W.notFirst
  simp
/-- a property's object is known -/
theorem r_propAt {C p dx : Addr} {fs : List (Str × V)} {sp : Sp} {E : XK} (h : H p = some (.ins C dx fs)) (q : sp [.ref p] H Q E) :
    ∃ a dx fs, V.ref p = .ref a ∧ H a = some (.ins C dx fs) ∧ sp (.ref a :: []) H Q E := ⟨p, dx, fs, rfl, h, q⟩
theorem r_sl {rs : V → Option Int → Option Int → Hp → VK → Prop} {tl th : TO} (q : te σ H fun x H1 => tl σ H1 fun l H2 => th σ H2 fun u H3 => rs x l u H3 Q) : tSl rs te tl th σ H Q := q
theorem r_noPart {Q : Option Int → Hp → Prop} (q : Q none H) : tNoPart σ H Q := q
theorem r_part {Q : Option Int → Hp → Prop} (q : te σ H fun x H1 => ∃ i, x = .int i ∧ Q (some i) H1) : tPart te σ H Q := q
theorem r_pk {P : Int → Prop} (q : P i) : ∃ i', V.int i = .int i' ∧ P i' := ⟨i, rfl, q⟩
theorem r_slL {p : Addr} {xs : List V} {lo hi : Option Int} (h : SqL K H p xs) (k : ∀ l H2, Stp none H H2 → H2 l = some (.lst (cutV xs lo hi)) → H l = none → Q (.ref l) H2) : rSlL K (.ref p) lo hi H Q :=
  ⟨p, xs, rfl, h, fun l hl => k l _ (Stp.new hl) upd_same hl⟩
theorem cutV_map (ns : List Int) (lo hi : Option Int) : ∃ ms : List Int, cutV (ns.map V.int) lo hi = ms.map V.int :=
  ⟨(ns.drop (HT.sIx ns.length 0 lo)).take (HT.sIx ns.length ns.length hi - HT.sIx ns.length 0 lo), by
    unfold cutV
    simp only [List.length_map, List.map_take, List.map_drop]⟩
theorem r_set1 {t : Addr} {p q r s : V} {Q : Hp → Prop} (h : H t = some (.lst [p, q, r, s])) (k : Q (upd H t (.lst [p, v, r, s]))) : rSetL (.ref t) (.int 1) v H Q := r_setLi h (by decide) (Nat.le_of_ble_eq_true rfl) k
theorem r_set2 {t : Addr} {p q r s : V} {Q : Hp → Prop} (h : H t = some (.lst [p, q, r, s])) (k : Q (upd H t (.lst [p, q, v, s]))) : rSetL (.ref t) (.int 2) v H Q := r_setLi h (by decide) (Nat.le_of_ble_eq_true rfl) k
theorem r_set3 {t : Addr} {p q r s : V} {Q : Hp → Prop} (h : H t = some (.lst [p, q, r, s])) (k : Q (upd H t (.lst [p, q, r, v]))) : rSetL (.ref t) (.int 3) v H Q := r_setLi h (by decide) (Nat.le_of_ble_eq_true rfl) k
/-- the tape at t, written out -/
structure TapeIs (H : Hp) (t l : Addr) (ns : List Int) (a b c : Int) : Prop where
  ne : l ≠ t
  at_ : H t = some (.lst [.ref l, .int a, .int b, .int c])
  li : H l = some (.lst (ns.map V.int))
  a0 : 0 ≤ a
  c0 : 0 ≤ c
  c1 : c < 2147483647
theorem Tape.is {t : Addr} (T : Tape H t) : ∃ l ns a b c, TapeIs H t l ns a b c := by
  obtain ⟨l, ns, a, b, c, h1, h2, h3, h4, h5, h6⟩ := T
  exact ⟨l, ns, a, b, c, h1, h2, h3, h4, h5, h6⟩
theorem TapeIs.put {t l : Addr} {ns : List Int} {a b c a' b' c' : Int} (T : TapeIs H t l ns a b c) (a0 : 0 ≤ a') (c0 : 0 ≤ c') (c1 : c' < 2147483647) :
    Stp (some t) H (upd H t (.lst [.ref l, .int a', .int b', .int c'])) ∧ TapeIs (upd H t (.lst [.ref l, .int a', .int b', .int c'])) t l ns a' b' c' := by
  have T' : TapeIs (upd H t (.lst [.ref l, .int a', .int b', .int c'])) t l ns a' b' c' := ⟨T.ne, upd_same, by rw [upd_ne T.ne]; exact T.li, a0, c0, c1⟩
  refine ⟨⟨fun x o n e => ?_, fun x l' e z => ?_⟩, T'⟩
  · by_cases h : x = t
    · subst h
      rw [T.at_] at e
      exact absurd (Option.some.inj e).symm (n rfl _)
    · rw [upd_ne h]; exact e
  · cases e
    have el : l' = l := by
      obtain ⟨_, _, _, _, _, h, _⟩ := z
      rw [T.at_] at h
      simp only [Option.some.injEq, HO.lst.injEq, List.cons.injEq, V.ref.injEq] at h
      exact h.1.symm
    subst el
    exact ⟨ns, a', b', c', T'.ne, T'.at_, T'.li, a0, c0, c1⟩
theorem r_while {c : TT} {tb : TS} (W : Nat → L2.St → Hp → Prop) (h0 : ∃ m, W m σ H) (hs : ∀ m σ H, W m σ H →
    c σ H fun b H1 => if b = true then ∃ N : L2.St → Hp → Prop, (∀ σ' H', N σ' H' → ∃ m', m' < m ∧ W m' σ' H') ∧ tb { D with nx := N, ct := N, bk := D.nx } σ H1 else D.nx σ H1) :
    tWhile c tb D σ H := ⟨W, h0, hs⟩
end
end MV

set_option Elab.async false
set_option linter.all false
set_option maxRecDepth 100000
set_option maxHeartbeats 2000000
/-! MVF: loops and comprehensions as readings. -/
namespace MV
open PySem PySem.Spec PyProof.Rows L2
section
variable {K : PySem.W.Frag} {σ : L2.St} {H : Hp} {n : Nat} {tl : TE} {g : TG} {tb : TS} {D : Ends} {ta : TA} {x : V}
/-- a loop over a list that stands still -/
def ForL (g : TG) (tb : TS) (D : Ends) (σ : L2.St) (x : V) (H1 : Hp) : Prop := ∃ (a : Addr) (xs : List V) (Pv : Nat → L2.St → Hp → Prop), x = .ref a ∧ Pv 0 σ H1 ∧
  (∀ i σ H, i ≤ xs.length → Pv i σ H → H a = some (.lst xs)) ∧
  (∀ i x σ H, xs[i]? = some x → Pv i σ H → g x σ H fun σ2 H2 => tb { D with nx := Pv (i + 1), ct := Pv (i + 1), bk := D.nx } σ2 H2) ∧ (∀ σ H, Pv xs.length σ H → D.nx σ H)
def ForLR (K : PySem.W.Frag) (g : TG) (tb : TS) (D : Ends) (σ : L2.St) (x : V) (H1 : Hp) : Prop := ∃ a, x = .ref a ∧ (∃ xs, SqL K H1 a xs) ∧ ∃ W : Nat → Nat → L2.St → Hp → Prop, (∃ m, W 0 m σ H1) ∧ ∀ i m σ H, W i m σ H →
  ((Itl K a).stop i H ∧ D.nx σ H) ∨ ((Itl K a).go i H ∧ ∃ N : L2.St → Hp → Prop, (∀ σ' H', N σ' H' → ∃ m', m' < m ∧ W (i + 1) m' σ' H') ∧ ∀ x H', (Itl K a).yld i H x H' → g x σ H' fun σ2 H2 => tb { D with nx := N, ct := N, bk := D.nx } σ2 H2)
theorem r_forL (q : tl σ H fun x H1 => ForLR K g tb D σ x H1) : tFor (iList K tl) g tb D σ H := q
theorem ForL.ok (q : ForL g tb D σ x H) : ForLR K g tb D σ x H := by
  obtain ⟨a, xs, Pv, rfl, h0, hl, hs, hd⟩ := q
  exact ⟨a, rfl, ⟨xs, SqL.of (hl 0 σ H (Nat.zero_le _) h0)⟩, for_list Pv h0 (fun i σ H h p => SqL.of (hl i σ H h p)) hs hd⟩
/-- range(n) -/
def ForR (g : TG) (tb : TS) (D : Ends) (σ : L2.St) (vs : List V) (H1 : Hp) : Prop := ∃ (n : Nat) (Pv : Nat → L2.St → Hp → Prop), vs = [.int n] ∧ n < 2 ^ 62 ∧ Pv 0 σ H1 ∧
  (∀ i σ H, i < n → Pv i σ H → g (.int i) σ H fun σ2 H2 => tb { D with nx := Pv (i + 1), ct := Pv (i + 1), bk := D.nx } σ2 H2) ∧ (∀ σ H, Pv n σ H → D.nx σ H)
def ForRn (g : TG) (tb : TS) (D : Ends) (σ : L2.St) (vs : List V) (H : Hp) : Prop := ∃ j : Int, vs = [.int j] ∧ -(2 ^ 62) ≤ j ∧ j < 2 ^ 62 ∧ ∃ W : Nat → Nat → L2.St → Hp → Prop, (∃ m, W 0 m σ H) ∧ ∀ i m σ H, W i m σ H →
      ((Itr 0 j.toNat).stop i H ∧ D.nx σ H) ∨ ((Itr 0 j.toNat).go i H ∧ ∃ N : L2.St → Hp → Prop, (∀ σ' H', N σ' H' → ∃ m', m' < m ∧ W (i + 1) m' σ' H') ∧ ∀ x H', (Itr 0 j.toNat).yld i H x H' → g x σ H' fun σ2 H2 => tb { D with nx := N, ct := N, bk := D.nx } σ2 H2)
theorem ForR.ok {vs : List V} (q : ForR g tb D σ vs H) : ForRn g tb D σ vs H := by
  obtain ⟨n, Pv, rfl, hn, h0, hs, hd⟩ := q
  refine ⟨n, rfl, by omega, by omega, for_range (lo := 0) (n := (n : Int).toNat) Pv h0 (fun i σ H h p => ?_) hd⟩
  rw [Int.zero_add]
  exact hs i σ H h p
theorem r_forR (q : ta σ H fun vs H1 => ForRn g tb D σ vs H1) : tFor (iRng1 ta) g tb D σ H := q
theorem r_forRc {i : Int} (q : ForR g tb D σ [.int i] H) : tFor (iRng1 (tCons (tC (.int i)) tNil)) g tb D σ H := ForR.ok q
theorem r_forRv {m : Nat} {v : V} (h : σ[m]? = some (some v)) (q : ForR g tb D σ [v] H) : tFor (iRng1 (tCons (tVar m) tNil)) g tb D σ H := ⟨v, h, ForR.ok q⟩

/-- [te for n in an int tuple], the terms made of ints alone -/
def LcI (K : PySem.W.Frag) (n : Nat) (te : TE) (vs : List Nat) (σ : L2.St) (Q : VK) (v : V) (H1 : Hp) : Prop := ∃ (ns : List Int) (f : Int → Int), IK K H1 v ns ∧ ns.length ≤ 100 ∧
  (∀ m H', m ∈ ns → Stp none H1 H' → wipe ((wipe σ vs).set n (some (.int m))) vs = wipe σ vs ∧ ∀ Q : VK, Q (.int (f m)) H' → te ((wipe σ vs).set n (some (.int m))) H' Q) ∧
  ∀ p H2, Stp none H1 H2 → H2 p = some (.lst ((ns.map f).map V.int)) → H1 p = none → Q (.ref p) H2
theorem LcI.ok {te : TE} {vs : List Nat} {Q : VK} {v : V} (q : LcI K n te vs σ Q v H) : ∃ a, v = .ref a ∧ (∃ xs, SqT K H a xs) ∧ ∀ D, H D = none → ∃ W : Nat → Nat → Hp → Prop, (∃ m, W 0 m (upd H D (.lst []))) ∧ ∀ i m H, W i m H →
  ((Itt K a).stop i H ∧ Q (.ref D) H) ∨ ((Itt K a).go i H ∧ ∃ Nx : Hp → Prop, (∀ H', Nx H' → ∃ m', m' < m ∧ W (i + 1) m' H') ∧ ∀ x H', (Itt K a).yld i H x H' → gName n x (wipe σ vs) H' fun σ2 H2 => wipe σ2 vs = wipe σ vs ∧ tYes σ2 H2 fun b H3 =>
    if b = true then te σ2 H3 fun y H4 => ∃ acc, H4 D = some (.lst acc) ∧ acc.length < sizeLine ∧ Nx (upd H4 D (.lst (acc ++ [y]))) else Nx H3) := by
  obtain ⟨ns, f, ⟨a, rfl, ha⟩, hl, hs, hd⟩ := q
  refine ⟨a, rfl, ⟨_, ha⟩, fun D hD => ?_⟩
  have up : ∀ {H' : Hp} {o : HO}, (∀ b o, H b = some o → H' b = some o) → ∀ b o', H b = some o' → upd H' D o b = some o' := fun s b o' e => by
    rw [upd_ne (ne_of_none e hD)]
    exact s b o' e
  refine lc_tup (fun i H' => (∀ b o, H b = some o → H' b = some o) ∧ H' D = some (.lst (((ns.take i).map f).map V.int))) ⟨up fun _ _ e => e, upd_same⟩
    (fun i H' _ p => SqT.mvS (Stp.of p.1 none) ha) (fun i x H' hx p => ?_) (fun H' p => hd D H' (Stp.of p.1 none) ?_ hD)
  · rw [List.getElem?_map] at hx
    obtain ⟨m, hm, rfl⟩ := Option.map_eq_some_iff.mp hx
    obtain ⟨w1, w2⟩ := hs m H' (List.mem_of_getElem? hm) (Stp.of p.1 none)
    refine ⟨w1, ?_⟩
    refine w2 _ ⟨_, p.2, ?_, up p.1, ?_⟩
    · rw [List.length_map, List.length_map, List.length_take]
      exact Nat.lt_of_le_of_lt (Nat.le_trans (Nat.min_le_right _ _) hl) (by decide)
    · rw [upd_same]
      have : i < ns.length := (List.getElem?_eq_some_iff.mp hm).1
      rw [List.take_succ, hm]
      simp
  · have e := p.2
    rw [List.length_map, List.take_length] at e
    exact e
theorem r_lcV {m : Nat} {te : TE} {vs : List Nat} {Q : VK} {v : V} (h : σ[m]? = some (some v)) (q : LcI K n te vs σ Q v H) : tLc (iTup K (tVar m)) (gName n) tYes te vs σ H Q := ⟨v, h, q.ok⟩
theorem r_nX {p : Prop} [Decidable p] {A B : Prop} (h : p) (q : B) : if (!decide p) = true then A else B := by
  rw [if_neg (by simp [h])]; exact q
theorem r_pX {p : Prop} [Decidable p] {A B : Prop} (h : p) (q : A) : if decide p = true then A else B := by
  rw [if_pos (by simp [h])]; exact q
theorem r_pN {p : Prop} [Decidable p] {A B : Prop} (h : ¬ p) (q : B) : if decide p = true then A else B := by
  rw [if_neg (by simp [h])]; exact q
end
theorem byTxt {α : Type} {p : α → Prop} {q : Prop} (h : ∃ a, p a) (k : ∀ a, p a → q) : q := (let ⟨a, z⟩ := h; k a z)
end MV

set_option Elab.async false
set_option linter.all false
set_option maxRecDepth 100000
set_option maxHeartbeats 2000000
/-! MVG: repr of data (none, bools, ints, texts, lists, tuples), where no repr is under way; how long such a text may be. -/
namespace MV
open PySem PySem.Spec PyProof.Rows L2
mutual
def bnd : PyData → Nat
  | .none => 4
  | .bool _ => 5
  | .int _ => 2000
  | .str x => (PySem.reprText x).length
  | .list ds => 2 + bndAll ds
  | .tuple ds => 3 + bndAll ds
  | .dict _ => 0
def bndAll : List PyData → Nat
  | [] => 0
  | d :: ds => bnd d + 2 + bndAll ds
end
theorem len_join : ∀ ts : List Str, (Str.join ", " ts).length ≤ piled ts
  | [] => by decide
  | t :: r => by
    have := join_length_add (t :: r) (by simp)
    omega
theorem len_list (ts : List Str) : (listText ts).length ≤ piled ts + 2 := by
  cases ts with
  | nil => decide
  | cons t r =>
    have h := textFrom_length_pos r 1 (("[" : Str) ++ (if (0 : Nat) > 0 then ", " else "" : String) ++ t) (Nat.succ_pos 0)
    have e : ((("[" : Str) ++ (if (0 : Nat) > 0 then ", " else "" : String) ++ t)).length = 1 + t.length := by
      rw [strLen_append, strLen_append]; rfl
    have hX : (listText (t :: r)).length = (textFrom 0 "[" (t :: r)).length + 1 := by
      unfold listText
      rw [strLen_append]; rfl
    have hY : textFrom 0 "[" (t :: r) = textFrom 1 (("[" : Str) ++ (if (0 : Nat) > 0 then ", " else "" : String) ++ t) r := rfl
    rw [hX, hY, h, e, piled_cons]
    omega
theorem len_tuple (ts : List Str) : (tupleText ts).length ≤ piled ts + 3 := by
  have := len_join ts
  unfold tupleText
  rw [strLen_append, strLen_append]
  have e1 : ((("(" : String) : Str)).length = 1 := rfl
  have e3 : (((if ts.length == 1 then ",)" else ")" : String) : Str)).length ≤ 2 := by split <;> decide
  rw [e1]
  omega
mutual
theorem bnd_ok : ∀ d : PyData, d.showable = true → d.hasDict = false → d.shown.length ≤ bnd d
  | .none, _, _ => by decide
  | .bool b, _, _ => by cases b <;> decide
  | .int i, h, _ => by
    rw [PyData.showable] at h
    have := PySem.int_text_length_le (a := i) (k := 1920) (by decide) (of_decide_eq_true h)
    rw [PyData.shown, bnd]
    have e : (PySem.Str.ofString (toString i)).length = (toString i).length := by exact PySem.ofString_length _
    omega
  | .str x, _, _ => by rw [PyData.shown, bnd]; exact Nat.le_refl _
  | .list ds, h, g => by
    rw [PyData.showable] at h
    rw [PyData.hasDict] at g
    have := bndAll_ok ds h g
    have := len_list (PyData.shownAll ds)
    rw [PyData.shown, bnd]
    omega
  | .tuple ds, h, g => by
    rw [PyData.showable] at h
    rw [PyData.hasDict] at g
    have := bndAll_ok ds h g
    have := len_tuple (PyData.shownAll ds)
    rw [PyData.shown, bnd]
    omega
  | .dict _, _, g => by rw [PyData.hasDict] at g; cases g
theorem bndAll_ok : ∀ ds : List PyData, PyData.showableAll ds = true → PyData.hasDictAll ds = false → piled (PyData.shownAll ds) ≤ bndAll ds
  | [], _, _ => by rw [PyData.shownAll]; exact Nat.zero_le _
  | d :: r, h, g => by
    rw [PyData.showableAll, Bool.and_eq_true] at h
    rw [PyData.hasDictAll, Bool.or_eq_false_iff] at g
    have h1 := bnd_ok d h.1 g.1
    have h2 := bndAll_ok r h.2 g.2
    rw [PyData.shownAll, piled_cons, bndAll]
    omega
end
/-- data that can be shown: ints of at most 500 digits, texts and depth within bounds -/
structure Shw (d : PyData) : Prop where
  sh : d.showable = true
  nd : d.hasDict = false
  dp : d.depth ≤ 50
  ln : bnd d ≤ sizeLine
def rRepr (K : PySem.W.Frag) : List V → Hp → VK → Prop := fun xs H Q => ∃ x d, xs = [x] ∧ Dp K H x d ∧ Shw d ∧ Q (.str d.shown) H
theorem callg_repr {X : Cx} (hg : X.A.guards = some []) (hu : X.A.units + 64 < cLine) : CallR X (.builtin "repr") (rRepr X.K) := by
  intro pins s σ H xs us Q I r h
  obtain ⟨x, d, rfl, hd, S, q⟩ := h
  obtain ⟨as, hr⟩ : ∃ as, us = [as] ∧ RelV x as := by
    cases r with
    | cons r rr => cases rr; exact ⟨_, rfl, r⟩
  obtain ⟨rfl, rv⟩ := hr
  obtain ⟨ps, R⟩ := Dp.reads I d x as hd rv
  have hl : d.shown.length ≤ sizeLine := Nat.le_trans (bnd_ok d S.sh S.nd) S.ln
  have fin : ∀ (h' : Heap) (u tk : Nat), (∀ b o, s.heap.get? b = some o → h'.get? b = some o) → EP X pins σ Q (.str d.shown u) { s with heap := h', toks := tk } :=
    fun h' u tk hk => ⟨.str d.shown, H, I.kept hk, ⟨u, rfl⟩, q⟩
  have dp := S.dp
  cases R with
  | none => exact PySem.P.repr_of_none (fin _ _ _ fun _ _ e => e)
  | bool b => exact PySem.P.repr_of_bool (by have := fin s.heap s.toks (s.toks + 1) fun _ _ e => e; cases b <;> exact this)
  | int i t => exact PySem.P.repr_of_int (by have z := S.sh; rw [PyData.showable] at z; exact of_decide_eq_true z) (fin _ _ _ fun _ _ e => e)
  | str x t => exact PySem.P.repr_of_str (fin _ _ _ fun _ _ e => e) hl
  | list h1 h2 h3 h4 => exact repr_of_reads' (.list h1 h2 h3 h4) S.sh (PyData.noDict_hsm S.nd) hg (by omega) (fun _ _ e => e) (fun h' u tk hk => fin h' u tk hk) hl
  | tuple h1 h2 h3 h4 => exact repr_of_reads' (.tuple h1 h2 h3 h4) S.sh (PyData.noDict_hsm S.nd) hg (by omega) (fun _ _ e => e) (fun h' u tk hk => fin h' u tk hk) hl
  | dict _ _ _ _ _ => exact absurd S.nd (by rw [PyData.hasDict]; decide)
end MV

set_option Elab.async false
set_option linter.all false
set_option maxRecDepth 100000
set_option maxHeartbeats 2000000
/-! MVH: own operators of two instances of a class, own ~, own calls. -/
namespace MV
open PySem PySem.Spec PySem.Calls PyProof.Rows L2
section
variable {X : Cx} {CX : CXT} {k i : Nat} {f C : Addr} {fd : FuncData} {ps : List Str} {sp : Sp} {E : XK} {x : Str} {p pos : Pos} {e : Expr} {es : List Expr} {t : TA}
/-- the class C has a def of that special name -/
structure HasS (K : PySem.W.Frag) (C f : Addr) (n : Str) : Prop where
  at_ : PySem.W.findIn K (.ref C) n = some (some (.ref f))
  fn : PySem.W.isFn K (.ref f) = true
def rOwnBin (K : PySem.W.Frag) (C : Addr) (sp : Sp) (E : XK) : R2 := fun x y H Q => ∃ a dx fs, x = .ref a ∧ H a = some (.ins C dx fs) ∧ TyX K H y (.ref C) ∧ sp [x, y] H Q E
theorem opg_bin {op : Operator} (h : HasS X.K C f (PySem.dunder op.info.2)) (hc : PySem.W.selfFirst X.K C = true) (F : FnG X.prog X.w X.K X.mg X.base CX k f fd ps sp) (hr : Room k X.A) (hg : X.A.guards = some [])
    (hb : Binds X.K fd ps []) (hx : Passes CX X E) : OpR X (binaryOp op) (rOwnBin X.K C sp E) := by
  intro pins s σ H x y v u Q I rx ry q
  obtain ⟨a, dx, fs, rfl, ea, ty, q⟩ := q
  cases rx
  obtain ⟨mA, O, _⟩ := ins_get I.hok ea
  obtain ⟨od, J, _⟩ := O.look
  obtain ⟨m, hF⟩ := I.fr
  obtain ⟨P, kx, hP, _⟩ := kit_of I ry ty
  refine PySem.W.binop_K hF I.ok.mod.kin J (kx.ty _ _ I.kIn hP) hc h.at_ h.fn (thn (callG (us := [.ref a, u]) (vs := [.ref a, y]) F hr hg hb .nil hx I (.cons rfl (.cons ry .nil)) q) ?_)
  rintro z s' ⟨v', H', I', rv, q'⟩
  have fin : EP X pins σ Q z s' := ⟨v', H', I', rv, q'⟩
  cases z <;> first | exact fin | (cases v' <;> first | exact False.elim rv | (obtain ⟨_, h⟩ := rv; cases h) | cases rv)
def rOwnInv (C : Addr) (sp : Sp) (E : XK) : V → Hp → VK → Prop := fun x H Q => ∃ a dx fs, x = .ref a ∧ H a = some (.ins C dx fs) ∧ sp [x] H Q E
theorem ung_inv (h : HasS X.K C f "__invert__") (F : FnG X.prog X.w X.K X.mg X.base CX k f fd ps sp) (hr : Room k X.A) (hg : X.A.guards = some [])
    (hb : Binds X.K fd ps []) (hx : Passes CX X E) : UnR X (unaryOp .Invert) (rOwnInv C sp E) := by
  intro pins s σ H x v Q I rx q
  obtain ⟨a, dx, fs, rfl, ea, q⟩ := q
  cases rx
  obtain ⟨mA, O, _⟩ := ins_get I.hok ea
  obtain ⟨od, J, _⟩ := O.look
  obtain ⟨m, hF⟩ := I.fr
  exact PySem.W.ksp_inv hF I.ok.mod.kin J h.at_ h.fn (callG (us := [.ref a]) (vs := [.ref a]) F hr hg hb .nil hx I (.cons rfl .nil) q)
theorem instPlain {C dx : Addr} : (PySem.W.instObj C dx).data = .plain := rfl
theorem keeper_of {M : Model} {h : Heap} {a : Addr} {o : Obj} (e : h.get? a = some o) (d : o.data = .plain) : PySem.W.Looks M h (keeperOf (.ref a)) .caller := by
  refine PySem.W.Looks.andThen (.ld (part := none) e) ?_
  rw [d]
  exact .now
/-- a call of an instance that stays where it is while the arguments are made -/
theorem callInst {M : Model} {A : Around} {z : Value → Shared → Prop} {s : Shared} {a : Addr} {o : Obj} {Q : Value → Shared → Prop} {ls : List (Bool × Sem Value)} {ks : List (Option Str × Sem Value)}
    (no : (ls.any (·.1) || ks.any (·.1.isNone)) = false) (d : o.data = .plain)
    (run : wpAny M A (evalArgs (.ref a) true ls ks) (fun g s1 => s1.heap.get? a = some o ∧ wpAny M A (call (.ref a) g.pos g.kw) Q z s1) z s) :
    wpAny M A (callWith pos (.ref a) [] ls ks) Q z s := by
  unfold callWith
  refine wpAny_bind (wpAny_holding (thn run ?_))
  intro g s1 w1
  obtain ⟨e1, w1⟩ := w1
  refine wpAny_bind (wpAny_standAt ?_)
  rw [no]
  refine wpAny_bind ((keeper_of e1 d).here (wpAny_bind (thn (wpAny_operateT w1) ?_)))
  intro r s2 q
  exact wpAny_bind (wpAny_holding (wpAny_point (wpAny_pure q)))
/-- x(..), x a local that holds an instance whose class has a def __call__ -/
def tCallI (i : Nat) (C : Addr) (sp : Sp) (E : XK) (t : TA) : TE := fun σ H Q => ∃ v a dx fs, σ[i]? = some (some v) ∧ v = .ref a ∧ H a = some (.ins C dx fs) ∧ t σ H fun vs H1 => (∃ fs', H1 a = some (.ins C dx fs')) ∧ sp (v :: vs) H1 Q E
theorem peg_calli (h : HasS X.K C f "__call__") (hfn : PySem.W.fnIn X.K f = true) (F : FnG X.prog X.w X.K X.mg X.base CX k f fd ps sp) (hr : Room k X.A) (hg : X.A.guards = some [])
    (hb : Binds X.K fd ps []) (hx : Passes CX X E) (hN : X.N[i]? = some x) (hv : Vis X.env.scope x) (ha : PA X (e :: es) t)
    (hdb : (x == ("__debug__" : Str)) = false := by decide) (hcd : (x == ("__classdict__" : Str)) = false := by decide)
    (he : starEach (e :: es) X.env = (false, eval e X.env) :: starEach es X.env := by rfl) (hpl : (backTo pos (starEach es X.env)).any (·.1) = false := by rfl) :
    PE X (.Call (.Name x p) (e :: es) [] pos) (tCallI i C sp E t) := by
  refine ⟨fun pins s σ H Q I h' => ?_⟩
  obtain ⟨v, a, dx, fs, hs, rfl, ea, ht⟩ := h'
  refine wpAny_Call_Name_kw (thn ((pe_var (pos := p) hN hv hdb hcd).run pins s σ H (fun v H1 => v = .ref a ∧ H1 = H) I ⟨.ref a, hs, rfl, rfl⟩) fun u s1 ⟨v, H1, I1, r1, q1⟩ => ?_)
  obtain ⟨rfl, rfl⟩ := q1
  cases r1
  obtain ⟨mA, O, _⟩ := ins_get I1.hok ea
  obtain ⟨od, J, _⟩ := O.look
  rw [he]
  refine callInst (o := PySem.W.instObj C dx) (by show ((false || (backTo pos (starEach es X.env)).any (·.1)) || false) = false; rw [hpl]; rfl) rfl (evalArgs_plain ?_)
  suffices go : wpAny (model X.prog X.w) X.A (spliced (backTo pos (starEach (e :: es) X.env))) (fun vs s' => s'.heap.get? a = some (PySem.W.instObj C dx) ∧ wpAny (model X.prog X.w) X.A (call (.ref a) vs) (EP X pins σ Q) X.xe s') X.xe s1 by
    rw [he] at go
    exact go
  refine thn (ha.run pos pins s1 σ _ _ I1 ht) fun us s2 ⟨vs, H2, I2, r, ⟨fs2, e2⟩, q⟩ => ?_
  obtain ⟨mA2, O2, _⟩ := ins_get I2.hok e2
  obtain ⟨od2, J2, _⟩ := O2.look
  refine ⟨J2.at_, wpAny_call ?_⟩
  refine PySem.W.kco_code I2.kIn J2 rfl h.at_ h.fn hfn ?_
  refine codeAny_mono (runG (us := .ref a :: us) (vs := .ref a :: vs) (Q := Q) F hr hg I2.env0 hb .nil hx I2 (.cons rfl r) ?_) fun z s' hq => ?_
  · rw [List.append_nil]
    exact q
  · match z, hq with
    | .ok (.ret _), hq => exact hq
    | .error _, hq => exact hq
theorem r_cval {K : PySem.W.Frag} {σ : L2.St} {H : Hp} {Q : VK} {ta : TE} {fn : Str} (q : ta σ H fun x H1 => ∃ C mc v u, x = .ref C ∧ ClX.CRead K C mc ∧ ClX.CVal K C mc fn v u ∧ Q v H1) : ClX.tCVal K ta fn σ H Q := q
theorem r_isiSS {K : PySem.W.Frag} {H : Hp} {Q : VK} {z : Str} (q : Q (.bl true) H) : rIsi K [.str z, .ty "str"] H Q := r_isi (.ty _) (.base (.str z)) (kit_ty (by decide +kernel)) q
end
end MV

set_option Elab.async false
set_option linter.all false
set_option maxRecDepth 100000
set_option maxHeartbeats 2000000
/-! MVI: static methods by their class; the keys of a dict of the text; a comprehension over known items. -/
namespace MV
open PySem PySem.Spec PySem.Calls PyProof.Rows L2
section
variable {X : Cx} {CX : CXT} {k : Nat} {f C p : Addr} {fd : FuncData} {ps : List Str} {sp : Sp} {dvs : List V} {ds : List Value} {E : XK} {m : Str} {pos apos : Pos} {o e : Expr} {es : List Expr} {ta : TE} {t : TA} {mc : Value}
/-- C.m is a static method: its record at p, its def at f -/
structure SMet (K : PySem.W.Frag) (C : Addr) (mc : Value) (m : Str) (p f : Addr) : Prop where
  rd : ClX.CRead K C mc
  at_ : PySem.W.findCls K (.ref C) mc m = some (.get (.builtin "staticmethod.__get__") (.ref p) .none (.ref C))
  rc : ∃ rest, PySem.W.recIn K p "staticmethod" = some (.ref f :: rest)
  kp : PySem.W.keepIn K (.ref f) = true
def tSMeth (C : Addr) (sp : Sp) (dvs : List V) (E : XK) (ta : TE) (t : TA) : TE := fun σ H Q => ta σ H fun x H1 => x = .ref C ∧ t σ H1 fun vs H2 => sp (vs ++ dvs) H2 Q E
theorem peg_smeth {pl : Sem Bool} (he : PE X o ta) (S : SMet X.K C mc m p f)
    (F : FnG X.prog X.w X.K X.mg X.base CX k f fd ps sp) (hr : Room k X.A) (hg : X.A.guards = some [])
    (hb : Binds X.K fd ps ds) (hd : Vals dvs ds) (hx : Passes CX X E) (ha : PA X (e :: es) t)
    (hst : starEach (e :: es) X.env = (false, eval e X.env) :: starEach es X.env := by rfl)
    (hpl : (backTo pos (starEach es X.env)).any (·.1) = false := by rfl)
    (ht : eval (.Call (.Attribute o m apos) (e :: es) [] pos) X.env = (do
      let ov ← eval o X.env
      standAt apos.atName
      let (g, first) ← holding [ov] (getMethod ov m pl)
      callWith pos g first (backTo pos (starEach (e :: es) X.env)) (backToKw pos (keywordEach [] X.env))) := by rfl) :
    PE X (.Call (.Attribute o m apos) (e :: es) [] pos) (tSMeth C sp dvs E ta t) := by
  constructor
  intro pins s σ H Q I h
  refine PySem.W.methodCall_KW (pl := pl) (thn (he.run pins s σ H _ I h) ?_) ht
  rintro u s1 ⟨_, H1, I1, rx, rfl, q⟩
  cases rx
  obtain ⟨rest, hrec⟩ := S.rc
  refine PySem.W.method_cls I1.kIn S.rd.ga (PySem.W.cls_bind I1.kIn S.rd.rd S.at_ (wpAny_call (PySem.W.sm_get (s := { s1 with toks := s1.toks + 1 }) I1.kIn hrec (PySem.W.handed_on rfl ?_))))
  have I2 := I1.tok (s1.toks + 1)
  refine PySem.W.callWith_K (first := []) (h₀ := X.base) I.ok.mod.kin S.kp ?_ hst hpl
  refine thn (ha.run pos pins _ σ H1 _ I2 q) fun us s2 ⟨vs, H2, I3, r, q2⟩ => ⟨I3.kIn, ?_⟩
  exact callG F hr hg hb hd hx I3 r q2
end

/-! ### the keys of a dict of the text -/
def KKeys (K : PySem.W.Frag) (d : Addr) (xs : List V) : Prop := ∃ (es : Array DictEntry) (n : Nat), K.lookup d = some ⟨.type "dict", none, .dict es n, #[]⟩ ∧ (d == sysModules) = false ∧ Vals xs (es.toList.map (·.key))
/-- known items, one behind another -/
def Itx (xs : List V) : It := ⟨fun i _ => i < xs.length, fun i H x H' => H' = H ∧ xs[i]? = some x, fun i _ => xs.length ≤ i⟩
def iKK (K : PySem.W.Frag) (td : TE) : TI := fun σ H R => td σ H fun x H1 => ∃ d xs, x = .ref d ∧ KKeys K d xs ∧ R (Itx xs) H1
theorem vals_at {xs : List V} {us : List Value} (r : Vals xs us) {i : Nat} {x : V} (h : xs[i]? = some x) : ∃ u, us[i]? = some u ∧ RelV x u := by
  induction r generalizing i with
  | nil => cases h
  | cons r _ ih =>
    cases i with
    | zero => cases h; exact ⟨_, rfl, r⟩
    | succ i => exact ih h
theorem turn_kk {P : Program} {w : World} {K : PySem.W.Frag} {tg : Expr} {d : Addr} {xs : List V} {es : Array DictEntry} {n : Nat} (it : Addr) (hl : K.lookup d = some ⟨.type "dict", none, .dict es n, #[]⟩)
    (r : Vals xs (es.toList.map (·.key))) : Turn P w K tg (Itx xs) [it] it (fun i h => h.IsKeyIter it d i xs.length n) where
  mem := List.mem_cons_self
  obj := by
    intro i h st b hb
    cases List.mem_singleton.mp hb
    obtain ⟨oi, e, c, dd⟩ := st
    exact ⟨oi, e, fun v z => by rw [dd] at z; cases z⟩
  keep := fun i h h' st k => st.at fun oi e => k it List.mem_cons_self oi e
  item := by
    intro X hP hw hK hc i pins s σ H E I hf st hg
    subst hP hw hK
    have hg : i < xs.length := hg
    obtain ⟨f0, f1, f2, f3, f4, f5⟩ := hf it List.mem_cons_self
    obtain ⟨x, hx⟩ : ∃ x, xs[i]? = some x := ⟨xs[i], List.getElem?_eq_getElem hg⟩
    obtain ⟨u, hu, ru⟩ := vals_at r hx
    rw [List.getElem?_map] at hu
    obtain ⟨en, hen, rfl⟩ := Option.map_eq_some_iff.mp hu
    have hsz : es.size = xs.length := by
      have := Paired.length r
      rw [List.length_map, Array.length_toList] at this
      exact this.symm
    refine next_key_item st (I.kIn _ _ hl) rfl hsz (by rw [← Array.getElem?_toList]; exact hen) fun h' st' sb => ?_
    have I1 : Inv X pins σ H { s with heap := h' } := I.turned (t' := s.toks) (fun b ob hb e => (sb.2 b hb).trans e) f0 f1 f3 f4 f5
    obtain ⟨oi, e, c, dd⟩ := id st'
    exact ⟨_, rfl, go_of (s := { s with heap := h' }) e c dd (by decide) ⟨x, H, I1, ru, ⟨rfl, hx⟩, st', fun b hb => (hf b hb).1⟩⟩
  done := by
    intro X hP hw hK hc i pins s σ H E I hf st hg
    subst hP hw hK
    have hg : xs.length ≤ i := hg
    obtain ⟨f0, f1, f2, f3, f4, f5⟩ := hf it List.mem_cons_self
    have hsz : es.size = xs.length := by
      have := Paired.length r
      rw [List.length_map, Array.length_toList] at this
      exact this.symm
    exact next_key_end (I.ok.hd hc) st (I.kIn _ _ hl) rfl hsz hg fun h' eb => ⟨rfl, I.turned (t' := s.toks) (fun b ob hb e => eb b ob hb e) f0 f1 f3 f4 f5⟩
  self := fun A i s Q E st h => wpAny_pyIter_keyiter st h
theorem pi_kk {X : Cx} {tg e : Expr} {td : TE} (he : PE X e td) : PI X tg e (iKK X.K td) := by
  constructor
  intro pins s σ H R I h
  refine thn (he.run pins s σ H _ I h) ?_
  rintro u s1 ⟨_, H1, I1, rx, d, xs, rfl, ⟨es, n, hl, hs, r⟩, q⟩
  cases rx
  have hsz : es.size = xs.length := by
    have := Paired.length r
    rw [List.length_map, Array.length_toList] at this
    exact this.symm
  refine iter_keys hs (I1.kIn _ _ hl) ⟨rfl, rfl, rfl⟩ rfl (pi_one (tk := s1.toks) I1 _ (turn_kk _ hl r) ⟨_, Heap.get?_push_size _ rfl, rfl, ?_⟩ q)
  rw [hsz]
  rfl

/-! ### [te for n in known items if tt] -/
theorem lc_known {xs : List V} {g : TG} {tt : TT} {te : TE} {vs : List Nat} {σ : L2.St} {H1 : Hp} {D : Addr} {Qd : Hp → Prop} (Pv : Nat → Hp → Prop) (h0 : Pv 0 (upd H1 D (.lst [])))
    (hs : ∀ i x H, xs[i]? = some x → Pv i H → g x (wipe σ vs) H fun σ2 H2 => wipe σ2 vs = wipe σ vs ∧ tt σ2 H2 fun b H3 =>
      if b = true then te σ2 H3 fun y H4 => ∃ acc, H4 D = some (.lst acc) ∧ acc.length < sizeLine ∧ Pv (i + 1) (upd H4 D (.lst (acc ++ [y]))) else Pv (i + 1) H3) (hd : ∀ H, Pv xs.length H → Qd H) :
    ∃ W : Nat → Nat → Hp → Prop, (∃ m, W 0 m (upd H1 D (.lst []))) ∧ ∀ i m H, W i m H →
      ((Itx xs).stop i H ∧ Qd H) ∨ ((Itx xs).go i H ∧ ∃ Nx : Hp → Prop, (∀ H', Nx H' → ∃ m', m' < m ∧ W (i + 1) m' H') ∧ ∀ x H', (Itx xs).yld i H x H' → g x (wipe σ vs) H' fun σ2 H2 => wipe σ2 vs = wipe σ vs ∧ tt σ2 H2 fun b H3 =>
        if b = true then te σ2 H3 fun y H4 => ∃ acc, H4 D = some (.lst acc) ∧ acc.length < sizeLine ∧ Nx (upd H4 D (.lst (acc ++ [y]))) else Nx H3) := by
  refine ⟨fun i m H => m = xs.length - i ∧ i ≤ xs.length ∧ Pv i H, ⟨_, rfl, Nat.zero_le _, h0⟩, ?_⟩
  rintro i m H ⟨rfl, hi, p⟩
  by_cases hlt : i < xs.length
  · refine .inr ⟨hlt, Pv (i + 1), fun H' p' => ⟨_, ?_, rfl, hlt, p'⟩, ?_⟩
    · omega
    · rintro x H' ⟨rfl, hx⟩
      exact hs i x _ hx p
  · have e : i = xs.length := by omega
    subst e
    exact .inl ⟨Nat.le_refl _, hd H p⟩
end MV

set_option Elab.async false
set_option linter.all false
set_option maxRecDepth 100000
set_option maxHeartbeats 2000000
/-! MVJ: defs with defaults; tuples and dicts of the text as facts. -/
namespace MV
open PySem PySem.Spec PySem.Calls PyProof.Rows L2
section
variable {P : Program} {w : World} {K : PySem.W.Frag} {mg : Str → Option Value} {base : Heap} {CX : CXT} {k : Nat} {f : Addr} {fd : FuncData} {ps : List Str} {sp : Sp}
  {x qual : Str} {params : Arguments} {body : List Stmt} {scope : Scope} {dvs : List V} {kws : List (Str × V)} {N : List Str}
/-- the rule of a def with defaults -/
theorem FunD.g (F : FunD K x qual params body scope dvs kws f fd) (S : FnScope N ps scope)
    (ln : ∀ vs H Q E, sp vs H Q E → vs.length = ps.length)
    (hb : ∀ (cdv : Value) (A : Around) (outer : List Env) (s : Shared) (H : Hp) (vs : List V) (Q : VK) (E : XK),
      Room k (A.deeper (envOfC qual scope s.heap.objs.size f cdv)) →
      (A.deeper (envOfC qual scope s.heap.objs.size f cdv)).guards = some [] → sp vs H Q E →
      ∃ t, PSs (cxOf CX P w K mg base N qual scope f cdv A outer s H E) body t ∧
        t { nx := fun _ H' => Q .non H', rt := Q } (start N vs) H) :
    FnG P w K mg base CX (k + 1) f fd ps sp := by
  obtain ⟨oc, od, dV, kV, doc, pm, an, cdv, ct, osl, rfl, lk, hcd, _, _⟩ := F.ex
  exact fng_of lk hcd S ln fun A outer s H vs Q E hr hg h => hb cdv A outer s H vs Q E hr hg h
end
/-- a tuple of the text -/
def KT (K : PySem.W.Frag) (p : Addr) (xs : List V) : Prop := ∃ (od : Option Addr) (its : Array Value) (n : Nat) (sl : Array (Option Value)), K.lookup p = some ⟨.type "tuple", od, .seq its n, sl⟩ ∧ its.size ≤ sizeLine ∧ Vals xs its.toList
theorem KT.t {K : PySem.W.Frag} {H : Hp} {p : Addr} {xs : List V} (h : KT K p xs) : SqT K H p xs := (let ⟨_, its, n, _, h1, h2, h3⟩ := h; .inr ⟨_, its, n, h1, rfl, rfl, h2, h3⟩)
theorem KT.k {K : PySem.W.Frag} {H : Hp} {p : Addr} {ns : List Int} (h : KT K p (ns.map V.int)) : IK K H (.ref p) ns := ⟨p, rfl, h.t⟩
/-- == of data at any depth, where the frame's K is given -/
theorem op_eqDk {X : Cx} {K : PySem.W.Frag} (e : X.K = K) (hu : X.A.units + 64 < cLine) : OpR X (compareOp .Eq) (rEqD K) := e ▸ op_eqD hu
theorem op_neDk {X : Cx} {K : PySem.W.Frag} (e : X.K = K) (hu : X.A.units + 64 < cLine) : OpR X (compareOp .NotEq) (rNeD K) := e ▸ op_neD hu
theorem kt_mk {K : PySem.W.Frag} {p : Addr} {xs : List V} {od : Option Addr} {its : Array Value} {n : Nat} {sl : Array (Option Value)} (h : K.lookup p = some ⟨.type "tuple", od, .seq its n, sl⟩) (z : its.size ≤ sizeLine) (v : Vals xs its.toList) : KT K p xs :=
  ⟨od, its, n, sl, h, z, v⟩
theorem kd_mk {K : PySem.W.Frag} {w : World} {a : Addr} {x : Str} {v : V} {es : Array DictEntry} {n : Nat} {u : Value} (h : K.lookup a = some ⟨.type "dict", none, .dict es n, #[]⟩) (l : PySem.W.KeysLit w.params es.toList)
    (e : PySem.W.nsIn K a x = some (some u)) (r : RelV v u) : KDct K w a x v := ⟨es, n, u, h, l, e, r⟩
theorem kk_mk {K : PySem.W.Frag} {d : Addr} {xs : List V} {es : Array DictEntry} {n : Nat} (h : K.lookup d = some ⟨.type "dict", none, .dict es n, #[]⟩) (e : (d == sysModules) = false) (r : Vals xs (es.toList.map (·.key))) : KKeys K d xs := ⟨es, n, h, e, r⟩
theorem binds_all {K : PySem.W.Frag} {fd : FuncData} {ps : List Str} (h : ∃ ds, Vals [] ds ∧ Binds K fd ps ds) : Binds K fd ps [] := by
  obtain ⟨ds, v, b⟩ := h
  cases v
  exact b
end MV

set_option Elab.async false
set_option linter.all false
set_option maxRecDepth 100000
set_option maxHeartbeats 2000000
/-! MVK: repr by an own __repr__; {x!r} of data. -/
namespace MV
open PySem PySem.Spec PySem.Calls PyProof.Rows L2
theorem ix_seqk {X : Cx} {K : PySem.W.Frag} (e : X.K = K) : IxR X (rIx K) := e ▸ ix_seq
section
variable {X : Cx} {CX : CXT} {k : Nat} {f C : Addr} {fd : FuncData} {ps : List Str} {sp : Sp} {E : XK} {e : Expr} {te : TE} {pos : Pos}
/-- repr(x), x an instance whose class has a def __repr__ -/
def rOwnRepr (C : Addr) (sp : Sp) (E : XK) : List V → Hp → VK → Prop := fun xs H Q => ∃ a dx fs, xs = [.ref a] ∧ H a = some (.ins C dx fs) ∧ sp xs H (fun z H' => ∃ t, z = .str t ∧ Q (.str t) H') E
theorem callg_own {K : PySem.W.Frag} (h : HasS X.K C f "__repr__") (F : FnG X.prog X.w X.K X.mg X.base CX k f fd ps sp) (hr : Room (k + 1) X.A) (hg : X.A.guards = some [])
    (hb : Binds X.K fd ps []) (hx : Passes CX X E) : CallR X (.builtin "repr") (rOwnRepr C sp E) := by
  intro pins s σ H xs us Q I r q
  obtain ⟨a, dx, fs, rfl, ea, q⟩ := q
  obtain ⟨u, rfl, rv⟩ : ∃ u, us = [u] ∧ RelV (.ref a) u := by
    cases r with
    | cons r rr => cases rr; exact ⟨_, rfl, r⟩
  cases rv
  obtain ⟨mA, O, _⟩ := ins_get I.hok ea
  obtain ⟨od, J, _⟩ := O.look
  obtain ⟨m, hF⟩ := I.fr
  have hu : X.A.in1.units < cLine := by
    have := hr.un
    show X.A.units + 1 < cLine
    omega
  refine PySem.W.repr_K hu hF I.ok.mod.kin J h.at_ h.fn (wpAny_call ?_)
  refine codeAny_mono (runG (us := [.ref a]) (vs := [.ref a]) F hr.in1 hg I.env0.in1 hb .nil hx I (.cons rfl .nil) q) fun z s' hq => ?_
  match z, hq with
  | .error _, hq => exact hq
  | .ok (.ret w), ⟨v, H', I', rv, t, ev, q'⟩ =>
    subst ev
    obtain ⟨tk, rfl⟩ := rv
    exact ⟨.str t, H', I', ⟨tk, rfl⟩, q'⟩
/-- {x!r} of data that stands at an address -/
def tFmtD (K : PySem.W.Frag) (te : TE) : TE := fun σ H Q => te σ H fun x H1 => ∃ a d, x = .ref a ∧ Dp K H1 x d ∧ Shw d ∧ Q (.str d.shown) H1
theorem pe_fmtD (hg : X.A.guards = some []) (hu : X.A.units + 64 < cLine) (he : PE X e te) : PE X (.FormattedValue e 114 none pos) (tFmtD X.K te) := by
  constructor
  intro pins s σ H Q I h
  refine wpAny_FormattedValue_repr (thn (he.run pins s σ H _ I h) ?_)
  rintro v s1 ⟨_, H1, I1, rv, a, d, rfl, hd, S, q⟩
  obtain ⟨as, R⟩ := Dp.reads I1 d _ v hd rv
  cases rv
  have dp := S.dp
  have hl : d.shown.length ≤ sizeLine := Nat.le_trans (bnd_ok d S.sh S.nd) S.ln
  refine pyReprObj_of_reads R S.sh (PyData.noDict_hsm S.nd) hg (by omega) (fun _ _ e => e) (fun h' u tk hk => ?_) hl
  have I2 : Inv X pins σ H1 { s1 with heap := h', toks := tk } := I1.kept hk
  exact wpAny_formatField_str ⟨.str d.shown, H1, I2, ⟨_, rfl⟩, q⟩ ⟨.str d.shown, H1, I2.tok _, ⟨_, rfl⟩, q⟩ hl
end
end MV

set_option Elab.async false
set_option linter.all false
set_option maxRecDepth 100000
set_option maxHeartbeats 2000000
/-! MVL: comprehensions over a list as readings; pairs unpacked; data of texts. -/
namespace MV
open PySem PySem.Spec PySem.Calls PyProof.Rows L2
section
variable {K : PySem.W.Frag} {σ : L2.St} {H H1 : Hp} {n : Nat} {tl te : TE} {tt : TT} {g : TG} {vs : List Nat} {Q : VK} {x : V}
/-- [te for .. in x if tt], x a list that is already read -/
def LcLR (K : PySem.W.Frag) (g : TG) (tt : TT) (te : TE) (vs : List Nat) (σ : L2.St) (Q : VK) (x : V) (H1 : Hp) : Prop := ∃ a, x = .ref a ∧ (∃ xs, SqL K H1 a xs) ∧ ∀ D, H1 D = none → ∃ W : Nat → Nat → Hp → Prop, (∃ m, W 0 m (upd H1 D (.lst []))) ∧ ∀ i m H, W i m H →
  ((Itl K a).stop i H ∧ Q (.ref D) H) ∨ ((Itl K a).go i H ∧ ∃ Nx : Hp → Prop, (∀ H', Nx H' → ∃ m', m' < m ∧ W (i + 1) m' H') ∧ ∀ x H', (Itl K a).yld i H x H' → g x (wipe σ vs) H' fun σ2 H2 => wipe σ2 vs = wipe σ vs ∧ tt σ2 H2 fun b H3 =>
    if b = true then te σ2 H3 fun y H4 => ∃ acc, H4 D = some (.lst acc) ∧ acc.length < sizeLine ∧ Nx (upd H4 D (.lst (acc ++ [y]))) else Nx H3)
theorem r_lcL (q : tl σ H fun x H1 => LcLR K g tt te vs σ Q x H1) : tLc (iList K tl) g tt te vs σ H Q := q
theorem lcl_ok {p : Addr} {xs : List V} (hp : H1 p = some (.lst xs)) (k : ∀ D, H1 D = none → ∃ Pv : Nat → Hp → Prop, Pv 0 (upd H1 D (.lst [])) ∧ (∀ i H, i ≤ xs.length → Pv i H → H p = some (.lst xs)) ∧
    (∀ i x H, xs[i]? = some x → Pv i H → g x (wipe σ vs) H fun σ2 H2 => wipe σ2 vs = wipe σ vs ∧ tt σ2 H2 fun b H3 =>
      if b = true then te σ2 H3 fun y H4 => ∃ acc, H4 D = some (.lst acc) ∧ acc.length < sizeLine ∧ Pv (i + 1) (upd H4 D (.lst (acc ++ [y]))) else Pv (i + 1) H3) ∧ ∀ H, Pv xs.length H → Q (.ref D) H) :
    LcLR K g tt te vs σ Q (.ref p) H1 := by
  refine ⟨p, rfl, ⟨_, SqL.of hp⟩, fun D hD => ?_⟩
  obtain ⟨Pv, h0, hl, hs, hd⟩ := k D hD
  exact lc_list (xs := xs) Pv h0 (fun i H hi pv => SqL.of (hl i H hi pv)) hs hd
theorem r_unT2 {gs : TGs} {Q : L2.St → Hp → Prop} {p : Addr} {a b : V} (h : H p = some (.tup [a, b])) (q : gs [a, b] σ H Q) : gTup K 2 gs (.ref p) σ H Q := ⟨p, _, rfl, SqT.of h, rfl, q⟩
/-- the heap of a comprehension's start: what stood stands, the new list is empty -/
theorem lc_keep {D : Addr} {o : HO} (hD : H1 D = none) : ∀ b o', H1 b = some o' → upd H1 D o b = some o' := fun b o' e => by
  rw [upd_ne (ne_of_none e hD)]
  exact e
end
theorem dp_strs {K : PySem.W.Frag} {H : Hp} : ∀ ns : List Str, DpAll K H (ns.map V.str) (ns.map PyData.str)
  | [] => .nil
  | n :: r => .cons (.str n) (dp_strs r)
theorem eqvAll_strs : ∀ ns ms : List Str, PyData.eqvAll (ns.map PyData.str) (ms.map PyData.str) = decide (ns = ms)
  | [], [] => by rw [List.map_nil, PyData.eqvAll]; rfl
  | [], _ :: _ => by rw [List.map_nil, List.map_cons, PyData.eqvAll]; rfl
  | _ :: _, [] => by rw [List.map_nil, List.map_cons, PyData.eqvAll]; rfl
  | n :: r, m :: q => by
    rw [List.map_cons, List.map_cons, PyData.eqvAll, PyData.eqv, eqvAll_strs r q]
    by_cases h : n = m
    · subst h
      by_cases h2 : r = q
      · subst h2; simp
      · simp [h2]
    · simp [h]
end MV

set_option Elab.async false
set_option linter.all false
set_option maxRecDepth 100000
set_option maxHeartbeats 2000000
/-! MVM: defs with *rest; class methods without arguments; a class held in a local; // by wide numbers of either sign. -/
namespace MV
open PySem PySem.Spec PySem.Calls PyProof.Rows L2
/-- a promise of what is called with any positions, where no repr is under way -/
def FnGR (P : Program) (w : World) (K : PySem.W.Frag) (mg : Str → Option Value) (base : Heap) (CX : CXT) (k : Nat) (f : Addr) (sp : Sp) : Prop :=
  ∀ (A : Around) (outer : List Env) (s : Shared) (H : Hp) (us : List Value) (vs : List V) (Q : VK) (E : XK), Room k A → A.guards = some [] → Env0 P w K mg base A outer s H → Vals vs us → sp vs H Q E →
    codeAny (model P w) A (.call (.ref f) ⟨us, []⟩) (CR CX outer P w H s Q E) s
/-- what a def with *rest alone promises, from what its body does with the tuple -/
def spStar (sp : Sp) : Sp := fun vs H Q E => vs.length ≤ sizeLine ∧ ∀ p, H p = none → sp [.ref p] (upd H p (.tup vs)) Q E
section
variable {P : Program} {w : World} {K : PySem.W.Frag} {mg : Str → Option Value} {base : Heap} {CX : CXT} {k : Nat} {f : Addr} {fd : FuncData} {ps : List Str} {sp : Sp}
theorem Fun.gs {x qual pv : Str} {st : Stmt} {N : List Str} (F : Fun K x qual st f fd) (S : FnScope N [pv] (defScope st)) (hCX : StX.CXUp CX)
    (hb : ∀ rest : List Value, bindArgs fd ⟨rest, []⟩ = (newTuple rest >>= fun t => pure [(pv, t)]))
    (hbody : ∀ (cdv : Value) (A : Around) (outer : List Env) (s : Shared) (H : Hp) (vs : List V) (Q : VK) (E : XK),
      Room k (A.deeper (envOfC qual (defScope st) s.heap.objs.size f cdv)) →
      (A.deeper (envOfC qual (defScope st) s.heap.objs.size f cdv)).guards = some [] → sp vs H Q E →
      ∃ t, PSs (cxOf CX P w K mg base N qual (defScope st) f cdv A outer s H E).nox (defBody st) t ∧
        t { nx := fun _ H' => Q .non H', rt := Q } (start N vs) H) :
    FnGR P w K mg base CX (k + 1) f (spStar sp) := by
  obtain ⟨oc, od, kV, doc, pm, an, cdv, ct, osl, rfl, lk, hcd⟩ := F.ex
  intro A outer s H us vs Q E hr hg e0 r ⟨hz, hq⟩
  have hn : H s.heap.objs.size = Option.none := e0.hok.fresh (Nat.le_refl _)
  have hl2 : us.length ≤ sizeLine := by rw [← r.length]; exact hz
  refine StX.run_bnd lk hcd S hr e0 (G := fun xs H2 => ∃ p, H p = Option.none ∧ xs = [V.ref p] ∧ H2 = upd H p (.tup vs)) (fun A' Ex Q' h => ?_) fun s2 H2 xs ⟨p, hp, ex, eH⟩ hr' => ?_
  · rw [hb us]
    refine wpAny_bind (wpAny_newTuple (wpAny_pure ?_) hl2)
    have new : ObjOk P w (upd H s.heap.objs.size (.tup vs)) (s.heap.push ({ cls := .type "tuple", data := .seq us.toArray } : Obj)) s.heap.objs.size (.tup vs) := ⟨hz, us, r, ⟨_, Heap.get?_push_size _ rfl, rfl, _, rfl⟩⟩
    have un := StX.un_laid (fs := frs outer) (s := s) (o := ({ cls := .type "tuple", data := .seq us.toArray } : Obj)) (u := .tup vs) hn
    exact h _ _ [V.ref s.heap.objs.size] [Value.ref s.heap.objs.size] (StX.env0_laid e0 new) un rfl (fun e s' => hCX outer s H _ _ E e s' un (fun b o q => Heap.get?_push_of_some _ q) rfl) (.cons rfl .nil) rfl ⟨_, hn, rfl, rfl⟩
  · subst ex eH
    obtain ⟨t, p1, q1⟩ := hbody cdv A outer s2 _ _ Q E hr' hg (hq p hp)
    exact ⟨t, p1.nox, q1⟩
end
section
variable {X : Cx} {CX : CXT} {k i : Nat} {f C p : Addr} {fd : FuncData} {ps : List Str} {sp : Sp} {E : XK} {x m : Str} {pos apos np : Pos} {o e : Expr} {es : List Expr} {ta : TE} {t : TA} {mc : Value}
theorem runGR {A : Around} {pins : List (Addr × Obj)} {σ : L2.St} {H : Hp} {s : Shared} {Q : VK} {us : List Value} {vs : List V}
    (F : FnGR X.prog X.w X.K X.mg X.base CX k f sp) (hr : Room k A) (hg : A.guards = some [])
    (e0 : Env0 X.prog X.w X.K X.mg X.base A X.stack s H) (hx : Passes CX X E)
    (I : Inv X pins σ H s) (r : Vals vs us) (h : sp vs H Q E) :
    codeAny (model X.prog X.w) A (.call (.ref f) ⟨us, []⟩) (Back X pins σ Q) s :=
  codeAny_mono (F A X.stack s H us vs Q E hr hg e0 r h) fun r s' hq => ended hx I hq
theorem callGR {pins : List (Addr × Obj)} {σ : L2.St} {H : Hp} {s : Shared} {Q : VK} {us : List Value} {vs : List V}
    (F : FnGR X.prog X.w X.K X.mg X.base CX k f sp) (hr : Room k X.A) (hg : X.A.guards = some []) (hx : Passes CX X E)
    (I : Inv X pins σ H s) (r : Vals vs us) (h : sp vs H Q E) :
    wpAny (model X.prog X.w) X.A (call (.ref f) us) (EP X pins σ Q) X.xe s := by
  refine wpAny_call (codeAny_mono (runGR F hr hg I.env0 hx I r h) fun z s' q => ?_)
  match z, q with
  | .ok (.ret _), q => exact q
  | .error _, q => exact q
/-- C.m(..), m a static method with *rest -/
theorem peg_smethR {pl : Sem Bool} (he : PE X o ta) (S : SMet X.K C mc m p f)
    (F : FnGR X.prog X.w X.K X.mg X.base CX k f sp) (hr : Room k X.A) (hg : X.A.guards = some []) (hx : Passes CX X E) (ha : PA X (e :: es) t)
    (hst : starEach (e :: es) X.env = (false, eval e X.env) :: starEach es X.env := by rfl)
    (hpl : (backTo pos (starEach es X.env)).any (·.1) = false := by rfl)
    (ht : eval (.Call (.Attribute o m apos) (e :: es) [] pos) X.env = (do
      let ov ← eval o X.env
      standAt apos.atName
      let (g, first) ← holding [ov] (getMethod ov m pl)
      callWith pos g first (backTo pos (starEach (e :: es) X.env)) (backToKw pos (keywordEach [] X.env))) := by rfl) :
    PE X (.Call (.Attribute o m apos) (e :: es) [] pos) (tSMeth C sp [] E ta t) := by
  constructor
  intro pins s σ H Q I h
  refine PySem.W.methodCall_KW (pl := pl) (thn (he.run pins s σ H _ I h) ?_) ht
  rintro u s1 ⟨_, H1, I1, rx, rfl, q⟩
  cases rx
  obtain ⟨rest, hrec⟩ := S.rc
  refine PySem.W.method_cls I1.kIn S.rd.ga (PySem.W.cls_bind I1.kIn S.rd.rd S.at_ (wpAny_call (PySem.W.sm_get (s := { s1 with toks := s1.toks + 1 }) I1.kIn hrec (PySem.W.handed_on rfl ?_))))
  have I2 := I1.tok (s1.toks + 1)
  refine PySem.W.callWith_K (first := []) (h₀ := X.base) I.ok.mod.kin S.kp ?_ hst hpl
  refine thn (ha.run pos pins _ σ H1 _ I2 q) fun us s2 ⟨vs, H2, I3, r, q2⟩ => ⟨I3.kIn, ?_⟩
  have q2 : sp (vs ++ []) H2 Q E := q2
  rw [List.append_nil] at q2
  exact callGR F hr hg hx I3 r q2
/-- C.m(), m a class method -/
def tCMeth0 (C : Addr) (sp : Sp) (E : XK) (ta : TE) : TE := fun σ H Q => ta σ H fun x H1 => x = .ref C ∧ sp [.ref C] H1 Q E
theorem peg_cmeth0 {pl : Sem Bool} (he : PE X o ta) (r : ClX.CRead X.K C mc) (c : ClX.CMet X.K C mc m p f)
    (F : FnG X.prog X.w X.K X.mg X.base CX k f fd ps sp) (hr : Room k X.A) (hg : X.A.guards = some []) (hb : Binds X.K fd ps []) (hx : Passes CX X E)
    (ht : eval (.Call (.Attribute o m apos) [] [] pos) X.env = (do
      let ov ← eval o X.env
      standAt apos.atName
      let (g, first) ← holding [ov] (getMethod ov m pl)
      callWith pos g first (backTo pos (starEach [] X.env)) (backToKw pos (keywordEach [] X.env))) := by rfl) :
    PE X (.Call (.Attribute o m apos) [] [] pos) (tCMeth0 C sp E ta) := by
  constructor
  intro pins s σ H Q I h
  refine PySem.W.methodCall_KW (pl := pl) (thn (he.run pins s σ H _ I h) ?_) ht
  rintro u s1 ⟨_, H1, I1, rx, rfl, q⟩
  cases rx
  refine ClX.getmethcm_ok I1 r c fun s2 I2 => ?_
  have hq := ClX.pin_at I2
  refine PySem.W.callWith_M0 (first := []) (g := f) (self := .ref C) ⟨hq, I2.kIn⟩ c.fi ?_
  have z : wpAny (model X.prog X.w) X.A (call (.ref s1.heap.objs.size) []) (EP X ((s1.heap.objs.size, PySem.W.methodObj (.ref f) (.ref C)) :: pins) σ Q) X.xe s2 := by
    refine wpAny_call (PySem.W.method_call hq ?_)
    refine codeAny_mono (runG (us := [.ref C]) (vs := [.ref C]) (Q := Q) F hr hg I2.env0 hb .nil hx I2 (.cons rfl .nil) q) fun z s' q' => ?_
    match z, q' with
    | .ok (.ret _), q' => exact q'
    | .error _, q' => exact q'
  exact thn z fun _ _ y => ClX.unpinE y
/-- x(..), x a local that holds the class C -/
def tMakeL (i : Nat) (C : Addr) (sp : Sp) (E : XK) (t : TA) : TE := fun σ H Q => σ[i]? = some (some (.ref C)) ∧ t σ H fun vs H1 => MkR C sp vs H1 Q E
theorem peg_makeL (M : Mk X.K C f) (F : FnG X.prog X.w X.K X.mg X.base CX k f fd ps sp) (hr : Room (k + 1) X.A) (hg : X.A.guards = some []) (hb : Binds X.K fd ps []) (hx : Passes CX X E)
    (hN : X.N[i]? = some x) (hv : Vis X.env.scope x) (ha : PA X (e :: es) t)
    (hdb : (x == ("__debug__" : Str)) = false := by decide) (hcd : (x == ("__classdict__" : Str)) = false := by decide)
    (he : starEach (e :: es) X.env = (false, eval e X.env) :: starEach es X.env := by rfl) (hpl : (backTo pos (starEach es X.env)).any (·.1) = false := by rfl) :
    PE X (.Call (.Name x np) (e :: es) [] pos) (tMakeL i C sp E t) := by
  refine ⟨fun pins s σ H Q I h' => ?_⟩
  obtain ⟨hs, ht⟩ := h'
  refine wpAny_Call_Name_kw (thn ((pe_var (pos := np) hN hv hdb hcd).run pins s σ H (fun v H1 => v = .ref C ∧ H1 = H) I ⟨.ref C, hs, rfl, rfl⟩) fun u s1 ⟨v, H1, I1, r1, q1⟩ => ?_)
  obtain ⟨rfl, rfl⟩ := q1
  cases r1
  refine PySem.W.callWith_K (h₀ := X.base) I1.ok.mod.kin M.kp ?_ he hpl
  refine thn (ha.run pos pins s1 σ _ _ I1 ht) fun us s2 ⟨vs, H2, I2, r, q⟩ => ⟨I2.kIn, ?_⟩
  refine makeG (dvs := []) M F hr hg hb .nil hx I2 r ?_
  rw [List.append_nil]
  exact q
end
/-- // of numbers whose divisor is not 0 and has fewer than 9000 bits -/
def CDivN9 (_ j : Int) : Prop := j ≠ 0 ∧ j.natAbs.log2 < 9000
theorem op_fdivN9 {X : Cx} : OpR X (binaryOp .FloorDiv) (rI CDivN9 fun i j => .int (i.fdiv j)) := opI fun i j _ _ _ _ _ hc q =>
  floordiv_int hc.1 q (.inl (PyProof.noPylong_of_log2 hc.2))
section
variable {K : PySem.W.Frag} {H : Hp} {Q : VK} {i j : Int}
theorem r_divN9 (h : CDivN9 i j) (q : Q (.int (i.fdiv j)) H) : rI CDivN9 (fun i j => .int (i.fdiv j)) (.int i) (.int j) H Q := ⟨i, j, rfl, rfl, h, q⟩
theorem r_modN (h : j ≠ 0) (q : Q (.int (i.fmod j)) H) : rI (fun _ j => j ≠ 0) (fun i j => .int (i.fmod j)) (.int i) (.int j) H Q := ⟨i, j, rfl, rfl, h, q⟩
theorem r_cmeth0 {C : Addr} {sp : Sp} {E : XK} {ta : TE} {σ : L2.St} (q : ta σ H fun x H1 => x = .ref C ∧ sp [.ref C] H1 Q E) : tCMeth0 C sp E ta σ H Q := q
end
section
variable {K : PySem.W.Frag} {σ : L2.St} {H : Hp} {n : Nat} {tl : TE} {g : TG} {tb : TS} {D : Ends} {x : V} {Q : VK} {i j l m : Int} {gs : TGs}
/-- a loop over a tuple -/
def ForT (K : PySem.W.Frag) (g : TG) (tb : TS) (D : Ends) (σ : L2.St) (x : V) (H1 : Hp) : Prop := ∃ (a : Addr) (xs : List V) (Pv : Nat → L2.St → Hp → Prop), x = .ref a ∧ Pv 0 σ H1 ∧
  (∀ i σ H, i ≤ xs.length → Pv i σ H → SqT K H a xs) ∧
  (∀ i x σ H, xs[i]? = some x → Pv i σ H → g x σ H fun σ2 H2 => tb { D with nx := Pv (i + 1), ct := Pv (i + 1), bk := D.nx } σ2 H2) ∧ (∀ σ H, Pv xs.length σ H → D.nx σ H)
def ForTR (K : PySem.W.Frag) (g : TG) (tb : TS) (D : Ends) (σ : L2.St) (x : V) (H1 : Hp) : Prop := ∃ a, x = .ref a ∧ (∃ xs, SqT K H1 a xs) ∧ ∃ W : Nat → Nat → L2.St → Hp → Prop, (∃ m, W 0 m σ H1) ∧ ∀ i m σ H, W i m σ H →
  ((Itt K a).stop i H ∧ D.nx σ H) ∨ ((Itt K a).go i H ∧ ∃ N : L2.St → Hp → Prop, (∀ σ' H', N σ' H' → ∃ m', m' < m ∧ W (i + 1) m' σ' H') ∧ ∀ x H', (Itt K a).yld i H x H' → g x σ H' fun σ2 H2 => tb { D with nx := N, ct := N, bk := D.nx } σ2 H2)
theorem r_forT (q : tl σ H fun x H1 => ForTR K g tb D σ x H1) : tFor (iTup K tl) g tb D σ H := q
theorem ForT.ok (q : ForT K g tb D σ x H) : ForTR K g tb D σ x H := by
  obtain ⟨a, xs, Pv, rfl, h0, hl, hs, hd⟩ := q
  exact ⟨a, rfl, ⟨xs, hl 0 σ H (Nat.zero_le _) h0⟩, for_tup Pv h0 (fun i σ H h p => hl i σ H h p) hs hd⟩
theorem r_newI4 (k : ∀ v H2, Stp none H H2 → IT H2 v [i, j, l, m] → Q v H2) : NewT [V.int i, V.int j, V.int l, V.int m] H Q := r_newI (ns := [i, j, l, m]) (Nat.le_of_ble_eq_true rfl) k
theorem r_unpack4 {v : V} {Q : L2.St → Hp → Prop} (h : IK K H v [i, j, l, m]) (q : gs [V.int i, V.int j, V.int l, V.int m] σ H Q) : gTup K 4 gs v σ H Q := r_unpack h rfl q
end
/-! ### a list of one's own is written -/
theorem Stp.put {t : Option Addr} {H H' : Hp} {f : Addr} {o : HO} (s : Stp t H H') (n : H f = none) : Stp t H (upd H' f o) := by
  refine ⟨fun b o' m e => ?_, fun a l e T => ?_⟩
  · rw [upd_ne (ne_of_none e n)]
    exact s.ge b o' m e
  · have T' := s.tp a l e T
    obtain ⟨_, _, _, _, _, h1, h2, _⟩ := T
    obtain ⟨ns, x, b, c, k0, k1, k2, k3⟩ := T'
    exact ⟨ns, x, b, c, k0, by rw [upd_ne (ne_of_none h1 n)]; exact k1, by rw [upd_ne (ne_of_none h2 n)]; exact k2, k3⟩
theorem IT.put {H : Hp} {f : Addr} {xs ys : List V} {v : V} {ns : List Int} (h : IT H v ns) (e : H f = some (.lst xs)) : IT (upd H f (.lst ys)) v ns := by
  obtain ⟨p, rfl, h⟩ := h
  exact ⟨p, rfl, by rw [upd_ne (by rintro rfl; rw [e] at h; cases h)]; exact h⟩
/-- xs.append(y) as a statement -/
theorem r_app {H : Hp} {Q : VK} {f : Addr} {xs : List V} {y : V} (h : H f = some (.lst xs)) (hl : xs.length < sizeLine) (q : Q .non (upd H f (.lst (xs ++ [y])))) : rAppend (.ref f) [y] H Q := ⟨f, xs, y, rfl, rfl, h, hl, q⟩
theorem r_bm {K : PySem.W.Frag} {T : String} {r : V → List V → Hp → VK → Prop} {ta : TE} {t : TA} {σ : L2.St} {H : Hp} {Q : VK} (q : ta σ H fun x H1 => tyV K T x H1 ∧ t σ H1 fun xs H2 => r x xs H2 Q) : tBM K T r ta t σ H Q := q
/-! ### a cut behind a statement -/
def tCut (t u : TS) : TS := fun D σ H => ∃ Pv : L2.St → Hp → Prop, t { D with nx := Pv } σ H ∧ ∀ σ' H', Pv σ' H' → u D σ' H'
theorem pss_cut {X : Cx} {st : Stmt} {rest : List Stmt} {t u : TS} (h1 : PS X st t) (h2 : PSs X rest u) : PSs X (st :: rest) (tCut t u) := by
  refine ⟨fun pins s σ H D I ⟨Pv, h, hk⟩ => ?_⟩
  refine wpAny_execs_cons (thn (h1.run pins s σ H { D with nx := Pv } I h) fun f s1 q => ?_)
  cases f with
  | next =>
    obtain ⟨σ', H', I', q⟩ := q
    exact h2.run pins s1 σ' H' D I' (hk _ _ q)
  | ret v => exact q
  | brk => exact q
  | cont => exact q
theorem r_cut {t u : TS} {D : Ends} {σ : L2.St} {H : Hp} (Pv : L2.St → Hp → Prop) (h1 : t { D with nx := Pv } σ H) (h2 : ∀ σ' H', Pv σ' H' → u D σ' H') : tCut t u D σ H := ⟨Pv, h1, h2⟩
end MV

set_option Elab.async false
set_option linter.all false
set_option maxRecDepth 100000
set_option maxHeartbeats 2000000
/-! MVN: ranges of two and three numbers; rules within a comprehension's block; bools compared; lists added and repeated. -/
namespace MV
open PySem PySem.Spec PySem.Calls PyProof.Rows L2
section
variable {X : Cx} {K : PySem.W.Frag} {tg e : Expr} {te : TE}
theorem pi_tupk (h : X.K = K) (he : PE X e te) : PI X tg e (iTup K te) := h ▸ pi_tup he
theorem pi_listk (h : X.K = K) (he : PE X e te) : PI X tg e (iList K te) := h ▸ pi_list he
theorem call_tuple_ofk (h : X.K = K) : CallR X (.type "tuple") (rTupL K) := by
  subst h
  exact call_tuple_of
end
section
variable {K : PySem.W.Frag} {σ : L2.St} {H H1 : Hp} {Q : VK} {g : TG} {tb : TS} {D : Ends} {ta : TA} {x y : V} {b c : Bool}
/-- range(i, j) -/
def ForR2 (g : TG) (tb : TS) (D : Ends) (σ : L2.St) (vs : List V) (H1 : Hp) : Prop := ∃ (i j : Int) (Pv : Nat → L2.St → Hp → Prop), vs = [.int i, .int j] ∧ -(2 ^ 62) ≤ i ∧ i < 2 ^ 62 ∧ -(2 ^ 62) ≤ j ∧ j < 2 ^ 62 ∧ Pv 0 σ H1 ∧
  (∀ n σ H, n < (j - i).toNat → Pv n σ H → g (.int (i + n)) σ H fun σ2 H2 => tb { D with nx := Pv (n + 1), ct := Pv (n + 1), bk := D.nx } σ2 H2) ∧ (∀ σ H, Pv (j - i).toNat σ H → D.nx σ H)
def ForR2n (g : TG) (tb : TS) (D : Ends) (σ : L2.St) (vs : List V) (H : Hp) : Prop := ∃ i j : Int, vs = [.int i, .int j] ∧ (-(2 ^ 62) ≤ i ∧ i < 2 ^ 62 ∧ -(2 ^ 62) ≤ j ∧ j < 2 ^ 62) ∧ ∃ W : Nat → Nat → L2.St → Hp → Prop, (∃ m, W 0 m σ H) ∧ ∀ n m σ H, W n m σ H →
      ((Itr i (j - i).toNat).stop n H ∧ D.nx σ H) ∨ ((Itr i (j - i).toNat).go n H ∧ ∃ N : L2.St → Hp → Prop, (∀ σ' H', N σ' H' → ∃ m', m' < m ∧ W (n + 1) m' σ' H') ∧ ∀ x H', (Itr i (j - i).toNat).yld n H x H' → g x σ H' fun σ2 H2 => tb { D with nx := N, ct := N, bk := D.nx } σ2 H2)
theorem ForR2.ok {vs : List V} (q : ForR2 g tb D σ vs H) : ForR2n g tb D σ vs H := by
  obtain ⟨i, j, Pv, rfl, a1, a2, a3, a4, h0, hs, hd⟩ := q
  exact ⟨i, j, rfl, ⟨a1, a2, a3, a4⟩, for_range Pv h0 hs hd⟩
theorem r_forR2 (q : ta σ H fun vs H1 => ForR2n g tb D σ vs H1) : tFor (iRng2 ta) g tb D σ H := q
/-- range(i, j, c) -/
def ForR3n (g : TG) (tb : TS) (D : Ends) (σ : L2.St) (vs : List V) (H : Hp) : Prop := ∃ (i j c : Int) (n : Nat), vs = [.int i, .int j, .int c] ∧ RgC i j c n ∧ ∃ W : Nat → Nat → L2.St → Hp → Prop, (∃ m, W 0 m σ H) ∧ ∀ k m σ H, W k m σ H →
      ((Itc i c n).stop k H ∧ D.nx σ H) ∨ ((Itc i c n).go k H ∧ ∃ N : L2.St → Hp → Prop, (∀ σ' H', N σ' H' → ∃ m', m' < m ∧ W (k + 1) m' σ' H') ∧ ∀ x H', (Itc i c n).yld k H x H' → g x σ H' fun σ2 H2 => tb { D with nx := N, ct := N, bk := D.nx } σ2 H2)
theorem for3_ok {i j c : Int} {n : Nat} (hr : RgC i j c n) (Pv : Nat → L2.St → Hp → Prop) (h0 : Pv 0 σ H)
    (hs : ∀ k σ H, k < n → Pv k σ H → g (.int (i + (k : Nat) * c)) σ H fun σ2 H2 => tb { D with nx := Pv (k + 1), ct := Pv (k + 1), bk := D.nx } σ2 H2) (hd : ∀ σ H, Pv n σ H → D.nx σ H) : ForR3n g tb D σ [.int i, .int j, .int c] H :=
  ⟨i, j, c, n, rfl, hr, for_rangeC Pv h0 hs hd⟩
theorem r_forR3 (q : ta σ H fun vs H1 => ForR3n g tb D σ vs H1) : tFor (iRng3 ta) g tb D σ H := q
theorem r_neB (q : Q (.bl (!decide (b = c))) H) : rNe (.bl b) (.bl c) H Q := ⟨rfl, by
  have e : decide (V.bl b = V.bl c) = decide (b = c) := decide_eq_decide.mpr ⟨V.bl.inj, congrArg V.bl⟩
  rw [e]; exact q⟩
theorem r_eqB (q : Q (.bl (decide (b = c))) H) : rEq (.bl b) (.bl c) H Q := ⟨rfl, by
  have e : decide (V.bl b = V.bl c) = decide (b = c) := decide_eq_decide.mpr ⟨V.bl.inj, congrArg V.bl⟩
  rw [e]; exact q⟩
theorem r_catL {l m : Addr} {xs ys : List V} (h : H l = some (.lst xs)) (h2 : H m = some (.lst ys)) (hl : xs.length + ys.length ≤ 100) (k : ∀ p H2, Stp none H H2 → H2 p = some (.lst (xs ++ ys)) → H p = none → Q (.ref p) H2) : rCat (.ref l) (.ref m) H Q :=
  ⟨l, m, xs, ys, rfl, rfl, h, h2, sz100 hl, fun p hp => k p _ (Stp.new hp) upd_same hp⟩
theorem r_rep3 {l : Addr} {x : V} (h : H l = some (.lst [x])) (k : ∀ p H2, Stp none H H2 → H2 p = some (.lst [x, x, x]) → H p = none → Q (.ref p) H2) : rRep (.ref l) (.int 3) H Q :=
  ⟨l, 3, [x], rfl, rfl, h, by decide, by decide, (show (1 : Nat) * 3 ≤ sizeLine by decide), fun p hp => k p _ (Stp.new hp) upd_same hp⟩
end
/-- three bools in a list -/
abbrev b3 (b c d : Bool) : PyData := .list [.bool b, .bool c, .bool d]
theorem shw_b3 (b c d : Bool) : Shw (b3 b c d) where
  sh := by
    rw [PyData.showable, PyData.showableAll, PyData.showableAll, PyData.showableAll, PyData.showableAll, PyData.showable, PyData.showable, PyData.showable]
    rfl
  nd := by
    rw [PyData.hasDict, PyData.hasDictAll, PyData.hasDictAll, PyData.hasDictAll, PyData.hasDictAll, PyData.hasDict, PyData.hasDict, PyData.hasDict]
    rfl
  dp := by
    rw [PyData.depth, PyData.depthAll, PyData.depthAll, PyData.depthAll, PyData.depthAll, PyData.depth, PyData.depth, PyData.depth]
    decide
  ln := by
    rw [bnd, bndAll, bndAll, bndAll, bndAll, bnd, bnd, bnd]
    decide
theorem shaped_b3 {b c d : Bool} : SeqAt.shaped (b3 b c d) = true := by
  simp [SeqAt.shaped, PyData.canLay0, PyData.canLayAll0, PyData.depth, PyData.depthAll]
theorem eqv_b3 {b c d : Bool} : PyData.eqv (b3 b c d) (b3 b c d) = true := by
  simp [PyData.eqv, PyData.eqvAll]
end MV

set_option Elab.async false
set_option linter.all false
set_option maxRecDepth 100000
set_option maxHeartbeats 2000000
/-! MVO: own binary operators of instances of two classes. -/
namespace PySem.W
open PySem PySem.Spec PyProof.Rows
section
variable {prog : Program} {w : World} {A : Around} {E : Value → Shared → Prop} {s : Shared} {K : Frag} {x C D L f f' : Addr} {h₀ : Heap} {m : Str → Option Value} {ox : Obj} {od : Option Obj}
theorem mv_binTwo {op : Operator} {b : Value} {Q : Value → Shared → Prop} (F : Fr h₀ L s.heap m) (X₀ : K.In h₀) (I : InstAt s.heap x ox C od) (hb : Looks (model prog w) s.heap (typeOf b) (.ref D)) (hcd : (C == D) = false) (hc : selfFirst K C = true) (hd : selfFirst K D = true)
    (hs : findIn K (.ref C) (PySem.dunder op.info.2) = some (some (.ref f))) (hf : isFn K (.ref f) = true) (hr : findIn K (.ref C) (dunderR op.info.2) = some none)
    (hs' : findIn K (.ref D) (PySem.dunder op.info.2) = some (some (.ref f'))) (hr' : findIn K (.ref D) (dunderR op.info.2) = some none) (hsub : subIn K (.ref D) (.ref C) = some false)
    (h : wpAny (model prog w) A (call (.ref f) [.ref x, b]) (CmpBack Q) E s) : wpAny (model prog w) A (binaryOp op (.ref x) b) Q E s := by
  have X := X₀.keeps F.keep
  obtain ⟨cd, rest, hcl, hm⟩ := ksp_first hc
  obtain ⟨cd', rest', hcl', hm'⟩ := ksp_first hd
  rcases hi : op.info with ⟨sym, nm'⟩
  rw [hi] at hs hr hs' hr'
  dsimp only at hs hr hs' hr'
  have one := ksp_try X I hs hf h
  obtain ⟨hh, g, d, tt, os⟩ := s
  have L1 : Looks (model prog w) hh (typeOf (.ref x)) (.ref C) := I.type
  have L2 : Looks (model prog w) hh (typeOf b) (.ref D) := hb
  have L3 : Looks (model prog w) hh (fillsNumberSlot (.ref C) nm') true := fills_K X hcl hm hs
  have L4 : Looks (model prog w) hh (fillsNumberSlot (.ref D) nm') true := fills_K X hcl' hm' hs'
  have L5 : Looks (model prog w) hh (isSubtype (.ref D) (.ref C)) false := looks_subIn X hsub
  have L6 : Looks (model prog w) hh (numberSlotInPython (.ref C) nm') true := ksp_inPy X hs hr (.inl rfl)
  have L7 : Looks (model prog w) hh (numberSlotInPython (.ref D) nm') true := ksp_inPy X hs' hr' (.inl rfl)
  have hne : (Value.ref C == Value.ref D) = false := Bool.eq_false_iff.mpr fun q => by
    cases beq_iff_eq.mp q
    rw [beq_self_eq_true] at hcd
    cases hcd
  simp only [binaryOp, hi]
  refine wpAny_holding (wpAny_bind ?_)
  unfold binaryOp1
  refine wpAny_bind (L1.at (wpAny_bind (L2.at (wpAny_bind (L3.at ?_)))))
  simp only [hne, Bool.false_eq_true, if_false]
  ksp_lk
  refine wpAny_mono one (fun r s' hr' => ?_) fun _ _ e => e
  obtain ⟨v, rfl, hq⟩ := hr'
  ksp_lk
  exact hq
end
end PySem.W
namespace MV
open PySem PySem.Spec PySem.Calls PyProof.Rows L2
section
variable {X : Cx} {CX : CXT} {k : Nat} {f f' C D : Addr} {fd : FuncData} {ps : List Str} {sp : Sp} {E : XK}
/-- what an operator of two classes asks of the text -/
structure Two (K : PySem.W.Frag) (C D f f' : Addr) (n r : Str) : Prop where
  ne : (C == D) = false
  c : PySem.W.selfFirst K C = true
  d : PySem.W.selfFirst K D = true
  at_ : PySem.W.findIn K (.ref C) n = some (some (.ref f))
  fn : PySem.W.isFn K (.ref f) = true
  nr : PySem.W.findIn K (.ref C) r = some none
  at' : PySem.W.findIn K (.ref D) n = some (some (.ref f'))
  nr' : PySem.W.findIn K (.ref D) r = some none
  sub : PySem.W.subIn K (.ref D) (.ref C) = some false
def rOwnTwo (K : PySem.W.Frag) (C D : Addr) (sp : Sp) (E : XK) : R2 := fun x y H Q => ∃ a dx fs, x = .ref a ∧ H a = some (.ins C dx fs) ∧ TyX K H y (.ref D) ∧ sp [x, y] H Q E
theorem opg_two {op : Operator} (h : Two X.K C D f f' (PySem.dunder op.info.2) (PySem.dunderR op.info.2)) (F : FnG X.prog X.w X.K X.mg X.base CX k f fd ps sp) (hr : Room k X.A) (hg : X.A.guards = some [])
    (hb : Binds X.K fd ps []) (hx : Passes CX X E) : OpR X (binaryOp op) (rOwnTwo X.K C D sp E) := by
  intro pins s σ H x y v u Q I rx ry q
  obtain ⟨a, dx, fs, rfl, ea, ty, q⟩ := q
  cases rx
  obtain ⟨mA, O, _⟩ := ins_get I.hok ea
  obtain ⟨od, J, _⟩ := O.look
  obtain ⟨m, hF⟩ := I.fr
  obtain ⟨P, kx, hP, _⟩ := kit_of I ry ty
  refine PySem.W.mv_binTwo hF I.ok.mod.kin J (kx.ty _ _ I.kIn hP) h.ne h.c h.d h.at_ h.fn h.nr h.at' h.nr' h.sub (thn (callG (us := [.ref a, u]) (vs := [.ref a, y]) F hr hg hb .nil hx I (.cons rfl (.cons ry .nil)) q) ?_)
  rintro z s' ⟨v', H', I', rv, q'⟩
  have fin : EP X pins σ Q z s' := ⟨v', H', I', rv, q'⟩
  cases z <;> first | exact fin | (cases v' <;> first | exact False.elim rv | (obtain ⟨_, h⟩ := rv; cases h) | cases rv)
end
end MV

set_option maxHeartbeats 1000000
/-! the mathematics of nets: a shift in a net, its order -/
namespace MV

/-- the remainder of (x, y) in the cell of the net a, b, c -/
def lowX (a b c x y : Int) : Int := (x - y / c * b) % a
def lowY (c y : Int) : Int := y - y / c * c
/-- (x, y) is a shift of the net -/
def InN (a b c x y : Int) : Prop := lowX a b c x y = 0 ∧ lowY c y = 0

theorem lowY_mod (c y : Int) : lowY c y = y % c := by
  unfold lowY
  rw [Int.emod_def, Int.mul_comm c]
theorem lowY_add {c : Int} (hc : c ≠ 0) (y t : Int) : lowY c (y + t * c) = lowY c y := by
  rw [lowY_mod, lowY_mod, Int.add_mul_emod_self_right]
theorem lowX_add {a c : Int} (hc : c ≠ 0) (b x y s t : Int) : lowX a b c (x + s * a + t * b) (y + t * c) = lowX a b c x y := by
  unfold lowX
  rw [Int.add_mul_ediv_right _ _ hc]
  have e : x + s * a + t * b - (y / c + t) * b = (x - y / c * b) + s * a := by
    rw [Int.add_mul]; omega
  rw [e, Int.add_mul_emod_self_right]
/-- what (x, y) and its remainder differ by -/
theorem low_is {a b c : Int} (x y : Int) : x = lowX a b c x y + ((x - y / c * b) / a) * a + (y / c) * b ∧ y = lowY c y + (y / c) * c := by
  constructor
  · have h := Int.emod_add_mul_ediv (x - y / c * b) a
    unfold lowX
    have e : (x - y / c * b) / a * a = a * ((x - y / c * b) / a) := Int.mul_comm _ _
    omega
  · unfold lowY; omega
theorem low_sum {a b c : Int} (hc : c ≠ 0) (x y u v : Int) : lowX a b c (lowX a b c x y + u) (lowY c y + v) = lowX a b c (x + u) (y + v) ∧
    lowY c (lowY c y + v) = lowY c (y + v) := by
  obtain ⟨h1, h2⟩ := low_is (a := a) (b := b) (c := c) x y
  have e1 : x + u = (lowX a b c x y + u) + ((x - y / c * b) / a) * a + (y / c) * b := by omega
  have e2 : y + v = (lowY c y + v) + (y / c) * c := by omega
  constructor
  · rw [e1, e2]
    exact (lowX_add hc _ _ _ _ _).symm
  · rw [e2]
    exact (lowY_add hc _ _).symm
/-- the law's step: both remainders added -/
theorem low_step {a b c : Int} (hc : c ≠ 0) (x y u v : Int) :
    lowX a b c (lowX a b c x y + lowX a b c u v) (lowY c y + lowY c v) = lowX a b c (x + u) (y + v) ∧
    lowY c (lowY c y + lowY c v) = lowY c (y + v) := by
  have h1 := low_sum hc (a := a) (b := b) x y (lowX a b c u v) (lowY c v)
  have h2 := low_sum hc (a := a) (b := b) u v x y
  rw [h1.1, h1.2, Int.add_comm x, Int.add_comm y, h2.1, h2.2, Int.add_comm u, Int.add_comm v]
  exact ⟨rfl, rfl⟩

theorem lowX_rng {a b c x y : Int} (ha : 0 < a) : 0 ≤ lowX a b c x y ∧ lowX a b c x y < a :=
  ⟨Int.emod_nonneg _ (by omega), Int.emod_lt_of_pos _ ha⟩
theorem lowY_rng {c y : Int} (hc : 0 < c) : 0 ≤ lowY c y ∧ lowY c y < c := by
  rw [lowY_mod]
  exact ⟨Int.emod_nonneg _ (by omega), Int.emod_lt_of_pos _ hc⟩

theorem inN_iff {a b c x y : Int} : InN a b c x y ↔ c ∣ y ∧ a ∣ x - y / c * b := by
  unfold InN lowX
  rw [lowY_mod, ← Int.dvd_iff_emod_eq_zero, ← Int.dvd_iff_emod_eq_zero]
  exact And.comm
theorem inN_zero {a b c : Int} (hc : c ≠ 0) : InN a b c 0 0 := by
  rw [inN_iff]
  simp
theorem inN_add {a b c x y u v : Int} (hc : c ≠ 0) (h : InN a b c x y) (h2 : InN a b c u v) : InN a b c (x + u) (y + v) := by
  have e := low_step hc (a := a) (b := b) x y u v
  obtain ⟨h1, h3⟩ := h
  obtain ⟨h2, h4⟩ := h2
  rw [h1, h3, h2, h4] at e
  have z := inN_zero (a := a) (b := b) hc
  exact ⟨e.1.symm.trans z.1, e.2.symm.trans z.2⟩
theorem inN_neg {a b c x y : Int} (hc : c ≠ 0) (h : InN a b c x y) : InN a b c (-x) (-y) := by
  rw [inN_iff] at *
  obtain ⟨⟨k, rfl⟩, h2⟩ := h
  rw [Int.mul_ediv_cancel_left _ hc] at h2
  refine ⟨⟨-k, by rw [Int.mul_neg]⟩, ?_⟩
  have e : -(c * k) = c * (-k) := by rw [Int.mul_neg]
  rw [e, Int.mul_ediv_cancel_left _ hc]
  have e2 : -x - -k * b = -(x - k * b) := by rw [Int.neg_mul]; omega
  rw [e2]
  exact Int.dvd_neg.mpr h2
theorem inN_neg_iff {a b c x y : Int} (hc : c ≠ 0) : InN a b c (-x) (-y) ↔ InN a b c x y :=
  ⟨fun h => by have z := inN_neg hc h; rwa [Int.neg_neg, Int.neg_neg] at z, inN_neg hc⟩

/-! the order of a shift, as the program reckons it -/
def gcdI (a b : Int) : Int := ((Nat.gcd a.natAbs b.natAbs : Nat) : Int)
def ordT (c y : Int) : Int := c / gcdI c y
def ordA (b c x y : Int) : Int := ordT c y * x - ordT c y * y / c * b
def ord (a b c x y : Int) : Int := ordT c y * (a / gcdI a (ordA b c x y))

theorem gcdI_pos {a : Int} (h : 0 < a) (b : Int) : 0 < gcdI a b := by
  unfold gcdI
  have : 0 < Nat.gcd a.natAbs b.natAbs := Nat.gcd_pos_of_pos_left _ (by omega)
  omega
theorem gcdI_left (a b : Int) : gcdI a b ∣ a := by
  unfold gcdI
  exact Int.ofNat_dvd_left.mpr (Nat.gcd_dvd_left _ _)
theorem gcdI_right (a b : Int) : gcdI a b ∣ b := by
  unfold gcdI
  exact Int.ofNat_dvd_left.mpr (Nat.gcd_dvd_right _ _)
theorem nat_dvd_gcd {c : Nat} (hc : 0 < c) (y n : Nat) : c ∣ n * y ↔ c / Nat.gcd c y ∣ n := by
  have hg : 0 < Nat.gcd c y := Nat.gcd_pos_of_pos_left _ hc
  obtain ⟨u, hu⟩ := Nat.gcd_dvd_left c y
  obtain ⟨v, hv⟩ := Nat.gcd_dvd_right c y
  have hcop := Nat.coprime_div_gcd_div_gcd hg
  have e1 : c / Nat.gcd c y = u := Nat.div_eq_of_eq_mul_right hg hu
  have e2 : y / Nat.gcd c y = v := Nat.div_eq_of_eq_mul_right hg hv
  rw [e1, e2] at hcop
  rw [e1]
  constructor
  · intro h
    have h2 : Nat.gcd c y * u ∣ Nat.gcd c y * (n * v) := by
      have e : Nat.gcd c y * (n * v) = n * y := by
        conv => rhs; rw [hv]
        rw [Nat.mul_left_comm]
      rw [e, ← hu]; exact h
    exact hcop.dvd_of_dvd_mul_right (Nat.dvd_of_mul_dvd_mul_left hg h2)
  · rintro ⟨k, rfl⟩
    refine ⟨k * v, ?_⟩
    conv => lhs; rw [hv]
    conv => rhs; rw [hu]
    simp only [Nat.mul_assoc, Nat.mul_left_comm, Nat.mul_comm]
/-- c | n y exactly if c / gcd (c, y) | n -/
theorem dvd_gcd {c : Int} (hc : 0 < c) (y n : Int) : c ∣ n * y ↔ c / gcdI c y ∣ n := by
  have h := nat_dvd_gcd (c := c.natAbs) (by omega) y.natAbs n.natAbs
  rw [← Int.natAbs_mul] at h
  have e : c / gcdI c y = ((c.natAbs / Nat.gcd c.natAbs y.natAbs : Nat) : Int) := by
    unfold gcdI
    have : c = (c.natAbs : Int) := by omega
    conv => lhs; rw [this]
    simp
  rw [← Int.natAbs_dvd_natAbs, h, e, ← Int.natAbs_dvd_natAbs, Int.natAbs_natCast]
theorem ordT_pos {c : Int} (hc : 0 < c) (y : Int) : 0 < ordT c y := by
  unfold ordT
  have := gcdI_pos hc y
  exact Int.ediv_pos_of_pos_of_dvd hc (by omega) (gcdI_left c y)
theorem ord_pos {a c : Int} (ha : 0 < a) (hc : 0 < c) (b x y : Int) : 0 < ord a b c x y := by
  unfold ord
  have h := gcdI_pos ha (ordA b c x y)
  have h2 : 0 < a / gcdI a (ordA b c x y) := Int.ediv_pos_of_pos_of_dvd ha (by omega) (gcdI_left _ _)
  exact Int.mul_pos (ordT_pos hc y) h2
/-- a multiple of a shift belongs to the net exactly if the order divides its number -/
theorem inN_mul {a b c : Int} (ha : 0 < a) (hc : 0 < c) (x y n : Int) : InN a b c (n * x) (n * y) ↔ ord a b c x y ∣ n := by
  have hc0 : c ≠ 0 := by omega
  have hT := ordT_pos hc y
  have hTy : c ∣ ordT c y * y := (dvd_gcd hc y (ordT c y)).mpr (Int.dvd_refl _)
  obtain ⟨e, he⟩ := hTy
  rw [inN_iff, dvd_gcd hc]
  have key : ∀ k : Int, (ordT c y * k) * x - (ordT c y * k) * y / c * b = k * ordA b c x y := by
    intro k
    unfold ordA
    have e1 : ordT c y * k * y = c * (k * e) := by
      rw [Int.mul_right_comm, he, Int.mul_assoc, Int.mul_comm e]
    rw [e1, he, Int.mul_ediv_cancel_left _ hc0, Int.mul_ediv_cancel_left _ hc0, Int.mul_sub]
    rw [Int.mul_comm (ordT c y) k, Int.mul_assoc, Int.mul_assoc]
  constructor
  · rintro ⟨⟨k, rfl⟩, h2⟩
    have h3 := key k
    have h2' : a ∣ ordT c y * k * x - ordT c y * k * y / c * b := h2
    rw [h3, dvd_gcd ha] at h2'
    exact Int.mul_dvd_mul (Int.dvd_refl _) h2'
  · rintro ⟨k, rfl⟩
    have e1 : ord a b c x y * k = ordT c y * (a / gcdI a (ordA b c x y) * k) := by unfold ord; rw [Int.mul_assoc]
    rw [e1]
    refine ⟨⟨_, rfl⟩, ?_⟩
    rw [key, dvd_gcd ha]
    exact ⟨k, rfl⟩
theorem inN_size {a b c : Int} (hc : 0 < c) (x y : Int) : InN a b c (a * c * x) (a * c * y) := by
  rw [inN_iff]
  have e : a * c * y = c * (a * y) := by rw [Int.mul_comm a, Int.mul_assoc]
  refine ⟨⟨a * y, e⟩, ?_⟩
  rw [e, Int.mul_ediv_cancel_left _ (by omega)]
  refine ⟨c * x - y * b, ?_⟩
  rw [Int.mul_sub, Int.mul_assoc, Int.mul_assoc]
theorem ord_dvd_size {a b c : Int} (ha : 0 < a) (hc : 0 < c) (x y : Int) : ord a b c x y ∣ a * c :=
  (inN_mul ha hc x y _).mp (inN_size hc x y)
theorem ord_neg {a b c : Int} (ha : 0 < a) (hc : 0 < c) (x y : Int) : ord a b c (-x) (-y) = ord a b c x y := by
  have h : ∀ n, ord a b c (-x) (-y) ∣ n ↔ ord a b c x y ∣ n := by
    intro n
    rw [← inN_mul ha hc, ← inN_mul ha hc, Int.mul_neg, Int.mul_neg, inN_neg_iff (by omega)]
  exact Int.dvd_antisymm (Int.le_of_lt (ord_pos ha hc _ _ _)) (Int.le_of_lt (ord_pos ha hc _ _ _)) ((h _).mpr (Int.dvd_refl _)) ((h _).mp (Int.dvd_refl _))
/-- the least number from 1 whose multiple belongs to the net is the order -/
theorem ord_least {a b c : Int} (ha : 0 < a) (hc : 0 < c) {x y n : Int} (hn : 0 < n) (h : InN a b c (n * x) (n * y))
    (hl : ∀ m, 0 < m → m < n → ¬ InN a b c (m * x) (m * y)) : n = ord a b c x y := by
  have h1 := (inN_mul ha hc x y n).mp h
  have h2 := Int.le_of_dvd hn h1
  have h3 := ord_pos ha hc b x y
  have h4 := hl (ord a b c x y) h3
  have h5 := (inN_mul ha hc x y _).mpr (Int.dvd_refl (ord a b c x y))
  have h6 : ¬ ord a b c x y < n := fun z => h4 z h5
  omega
end MV

set_option Elab.async false
set_option linter.all false
set_option maxRecDepth 100000
set_option maxHeartbeats 2000000
/-! Lat: lattices of shifts, numbers only. -/
namespace MV
abbrev Lat := Int → Int → Prop
/-- closed under sums and multiples -/
structure Sub (M : Lat) : Prop where
  z : M 0 0
  add : ∀ {x y u v}, M x y → M u v → M (x + u) (y + v)
  mul : ∀ {x y} (k : Int), M x y → M (k * x) (k * y)
/-- sums of multiples of (a, 0), (b, c) -/
def Lp (a b c : Int) : Lat := fun X Y => ∃ i j, X = i * a + j * b ∧ Y = j * c
/-- a lattice and one more shift -/
def SpF (L : Lat) (s : Int × Int) : Lat := fun X Y => ∃ k, L (X - k * s.1) (Y - k * s.2)
def L0 : Lat := fun X Y => X = 0 ∧ Y = 0
def SpL (ss : List (Int × Int)) : Lat := ss.foldl SpF L0
theorem sub_L0 : Sub L0 := ⟨⟨rfl, rfl⟩, fun h g => ⟨by rw [h.1, g.1]; rfl, by rw [h.2, g.2]; rfl⟩, fun k h => ⟨by rw [h.1, Int.mul_zero], by rw [h.2, Int.mul_zero]⟩⟩
theorem sub_SpF {L : Lat} (h : Sub L) (s : Int × Int) : Sub (SpF L s) where
  z := ⟨0, by simpa using h.z⟩
  add := by
    rintro x y u v ⟨k, a⟩ ⟨l, b⟩
    refine ⟨k + l, ?_⟩
    have := h.add a b
    have e1 : x + u - (k + l) * s.1 = (x - k * s.1) + (u - l * s.1) := by grind
    have e2 : y + v - (k + l) * s.2 = (y - k * s.2) + (v - l * s.2) := by grind
    rw [e1, e2]; exact this
  mul := by
    rintro x y k ⟨l, a⟩
    refine ⟨k * l, ?_⟩
    have := h.mul k a
    have e1 : k * x - k * l * s.1 = k * (x - l * s.1) := by grind
    have e2 : k * y - k * l * s.2 = k * (y - l * s.2) := by grind
    rw [e1, e2]; exact this
theorem sub_fold : ∀ (ss : List (Int × Int)) {L : Lat}, Sub L → Sub (ss.foldl SpF L)
  | [], _, h => h
  | s :: r, _, h => sub_fold r (sub_SpF h s)
theorem sub_SpL (ss : List (Int × Int)) : Sub (SpL ss) := sub_fold ss sub_L0
theorem Sub.neg {M : Lat} (h : Sub M) {x y : Int} (a : M x y) : M (-x) (-y) := by
  have := h.mul (-1) a
  have e1 : -1 * x = -x := by omega
  have e2 : -1 * y = -y := by omega
  rwa [e1, e2] at this
theorem Sub.sub {M : Lat} (h : Sub M) {x y u v : Int} (a : M x y) (b : M u v) : M (x - u) (y - v) := h.add a (h.neg b)
theorem sub_Lp (a b c : Int) : Sub (Lp a b c) where
  z := ⟨0, 0, by simp, by simp⟩
  add := by
    rintro x y u v ⟨i, j, e1, e2⟩ ⟨k, l, e3, e4⟩
    exact ⟨i + k, j + l, by grind, by grind⟩
  mul := by
    rintro x y k ⟨i, j, e1, e2⟩
    exact ⟨k * i, k * j, by grind, by grind⟩
theorem SpF_old {L : Lat} {s : Int × Int} {x y : Int} (a : L x y) : SpF L s x y := ⟨0, by simpa using a⟩
theorem SpF_new {L : Lat} (h : Sub L) (s : Int × Int) : SpF L s s.1 s.2 := ⟨1, by simpa using h.z⟩
theorem fold_old : ∀ (ss : List (Int × Int)) {L : Lat} {x y : Int}, L x y → (ss.foldl SpF L) x y
  | [], _, _, _, a => a
  | _ :: r, _, _, _, a => fold_old r (SpF_old a)
theorem fold_mem : ∀ (ss : List (Int × Int)) {L : Lat}, Sub L → ∀ s ∈ ss, (ss.foldl SpF L) s.1 s.2
  | t :: r, L, h, s, m => by
    rcases List.mem_cons.mp m with rfl | m
    · exact fold_old r (SpF_new h s)
    · exact fold_mem r (sub_SpF h t) s m
theorem SpL_mem {ss : List (Int × Int)} {s : Int × Int} (m : s ∈ ss) : SpL ss s.1 s.2 := fold_mem ss sub_L0 s m
theorem fold_le : ∀ (ss : List (Int × Int)) {L M : Lat}, Sub M → (∀ x y, L x y → M x y) → (∀ s ∈ ss, M s.1 s.2) → ∀ x y, (ss.foldl SpF L) x y → M x y
  | [], _, _, _, a, _, x, y, h => a x y h
  | t :: r, L, M, hM, a, b, x, y, h => by
    refine fold_le r hM (L := SpF L t) ?_ (fun s m => b s (List.mem_cons_of_mem _ m)) x y h
    rintro x y ⟨k, z⟩
    have := hM.add (a _ _ z) (hM.mul k (b t List.mem_cons_self))
    have e1 : x - k * t.1 + k * t.1 = x := by omega
    have e2 : y - k * t.2 + k * t.2 = y := by omega
    rwa [e1, e2] at this
theorem SpL_le {ss : List (Int × Int)} {M : Lat} (hM : Sub M) (b : ∀ s ∈ ss, M s.1 s.2) {x y : Int} (h : SpL ss x y) : M x y :=
  fold_le ss hM (fun x y h => by rw [h.1, h.2]; exact hM.z) b x y h
theorem SpL_eq {ss tt : List (Int × Int)} (h1 : ∀ s ∈ ss, SpL tt s.1 s.2) (h2 : ∀ s ∈ tt, SpL ss s.1 s.2) (x y : Int) : SpL ss x y ↔ SpL tt x y :=
  ⟨SpL_le (sub_SpL _) h1, SpL_le (sub_SpL _) h2⟩
theorem SpL_snoc (ss : List (Int × Int)) (s : Int × Int) : SpL (ss ++ [s]) = SpF (SpL ss) s := by
  unfold SpL
  rw [List.foldl_append]
  rfl
theorem SpL_take {ss : List (Int × Int)} {i : Nat} {s : Int × Int} (h : ss[i]? = some s) : SpL (ss.take (i + 1)) = SpF (SpL (ss.take i)) s := by
  rw [List.take_succ, h]
  exact SpL_snoc _ _
/-! ### one more shift, by Euclid -/
def L3 (a b c x y : Int) : Lat := SpF (Lp a b c) (x, y)
theorem L3_iff {a b c x y X Y : Int} : L3 a b c x y X Y ↔ ∃ i j k, X = i * a + j * b + k * x ∧ Y = j * c + k * y := by
  constructor
  · rintro ⟨k, i, j, e1, e2⟩
    exact ⟨i, j, k, by simp only [] at e1; omega, by simp only [] at e2; omega⟩
  · rintro ⟨i, j, k, e1, e2⟩
    exact ⟨k, i, j, by simp only []; omega, by simp only []; omega⟩
theorem L3_step {a b c x y t X Y : Int} : L3 a x y (b - t * x) (c - t * y) X Y ↔ L3 a b c x y X Y := by
  rw [L3_iff, L3_iff]
  constructor
  · rintro ⟨i, j, k, e1, e2⟩
    exact ⟨i, k, j - t * k, by grind, by grind⟩
  · rintro ⟨i, j, k, e1, e2⟩
    exact ⟨i, k + t * j, j, by grind, by grind⟩
theorem bez (a b : Nat) : ∃ i j : Int, (Nat.gcd a b : Int) = i * a + j * b := by
  induction a, b using Nat.gcd.induction with
  | H0 n => exact ⟨0, 1, by simp⟩
  | H1 m n h ih =>
    obtain ⟨i, j, e⟩ := ih
    refine ⟨j - i * (n / m : Nat), i, ?_⟩
    rw [Nat.gcd_rec, e]
    have := Nat.div_add_mod n m
    have h2 : (n : Int) = m * (n / m : Nat) + (n % m : Nat) := by omega
    grind
theorem bezI (a b : Int) : ∃ i j : Int, gcdI a b = i * a + j * b := by
  obtain ⟨i, j, e⟩ := bez a.natAbs b.natAbs
  have ha : ((a.natAbs : Nat) : Int) = a ∨ ((a.natAbs : Nat) : Int) = -a := by omega
  have hb : ((b.natAbs : Nat) : Int) = b ∨ ((b.natAbs : Nat) : Int) = -b := by omega
  unfold gcdI
  rw [e]
  rcases ha with ha | ha <;> rcases hb with hb | hb <;> rw [ha, hb]
  · exact ⟨i, j, rfl⟩
  · exact ⟨i, -j, by grind⟩
  · exact ⟨-i, j, by grind⟩
  · exact ⟨-i, -j, by grind⟩
theorem L3_end {a b c x X Y : Int} : L3 a b c x 0 X Y ↔ Lp (gcdI a x) b c X Y := by
  rw [L3_iff]
  constructor
  · rintro ⟨i, j, k, e1, e2⟩
    obtain ⟨u, hu⟩ := gcdI_left a x
    obtain ⟨v, hv⟩ := gcdI_right a x
    refine ⟨i * u + k * v, j, ?_, by omega⟩
    have : i * a + k * x = (i * u + k * v) * gcdI a x := by
      generalize gcdI a x = g at hu hv
      subst hu hv
      grind
    omega
  · rintro ⟨i, j, e1, e2⟩
    obtain ⟨u, v, h⟩ := bezI a x
    exact ⟨i * u, j, i * v, by rw [e1, h]; grind, by omega⟩
theorem Lp_neg {a b c X Y : Int} : Lp a (-b) (-c) X Y ↔ Lp a b c X Y :=
  ⟨fun ⟨i, j, e1, e2⟩ => ⟨i, -j, by grind, by grind⟩, fun ⟨i, j, e1, e2⟩ => ⟨i, -j, by grind, by grind⟩⟩
theorem Lp_mod {a b c X Y : Int} : Lp a (b % a) c X Y ↔ Lp a b c X Y := by
  have h := Int.emod_add_mul_ediv b a
  constructor
  · rintro ⟨i, j, e1, e2⟩
    exact ⟨i - j * (b / a), j, by grind, e2⟩
  · rintro ⟨i, j, e1, e2⟩
    exact ⟨i + j * (b / a), j, by grind, e2⟩
/-- the normal form -/
structure NF (a b c : Int) : Prop where
  a0 : 0 ≤ a
  c0 : 0 ≤ c
  b0 : a ≠ 0 → 0 ≤ b ∧ b < a
  z : c = 0 → b = 0
theorem dvd_le {a b : Int} (ha : 0 ≤ a) (hb : 0 ≤ b) (h : a ∣ b) (g : b ∣ a) : a = b := Int.dvd_antisymm ha hb h g
theorem Lp_y {a b c X Y : Int} (h : Lp a b c X Y) : c ∣ Y := by
  obtain ⟨i, j, _, e⟩ := h
  exact ⟨j, by rw [e, Int.mul_comm]⟩
theorem Lp_x {a b c X : Int} (n : NF a b c) (h : Lp a b c X 0) : a ∣ X := by
  obtain ⟨i, j, e1, e2⟩ := h
  refine ⟨i, ?_⟩
  rcases Int.mul_eq_zero.mp e2.symm with rfl | e
  · grind
  · have := n.z e
    grind
theorem Lp_a {a b c : Int} : Lp a b c a 0 := ⟨1, 0, by simp, by simp⟩
theorem Lp_b {a b c : Int} : Lp a b c b c := ⟨0, 1, by simp, by simp⟩
theorem NF.uniq {a b c a' b' c' : Int} (n : NF a b c) (m : NF a' b' c') (e : ∀ X Y, Lp a b c X Y ↔ Lp a' b' c' X Y) : a = a' ∧ c = c' ∧ (a ≠ 0 → b = b') := by
  have h1 : a = a' := dvd_le n.a0 m.a0 (Lp_x n ((e _ _).mpr Lp_a)) (Lp_x m ((e _ _).mp Lp_a))
  have h2 : c = c' := dvd_le n.c0 m.c0 (Lp_y ((e _ _).mpr Lp_b)) (Lp_y ((e _ _).mp Lp_b))
  refine ⟨h1, h2, fun ha => ?_⟩
  subst h1 h2
  have hb := n.b0 ha
  have hb' := m.b0 ha
  have h3 := (sub_Lp a b c).sub ((e _ _).mpr Lp_b) Lp_b
  rw [Int.sub_self] at h3
  obtain ⟨k, hk⟩ := Lp_x n h3
  have : k = 0 := by
    have k1 : k < 1 := by
      refine Int.lt_of_not_ge fun hk1 => ?_
      have := Int.mul_le_mul_of_nonneg_left hk1 (show 0 ≤ a by omega)
      omega
    have k2 : -1 < k := by
      refine Int.lt_of_not_ge fun hk1 => ?_
      have := Int.mul_le_mul_of_nonneg_left hk1 (show 0 ≤ a by omega)
      omega
    omega
  rw [this, Int.mul_zero] at hk
  omega
/-- a b c are the numbers of the lattice of ss -/
structure Nfs (ss : List (Int × Int)) (a b c : Int) : Prop where
  nf : NF a b c
  sp : ∀ X Y, Lp a b c X Y ↔ SpL ss X Y
theorem Nfs.uniq {ss tt : List (Int × Int)} {a b c a' b' c' : Int} (n : Nfs ss a b c) (m : Nfs tt a' b' c') (e : ∀ X Y, SpL ss X Y ↔ SpL tt X Y) : a = a' ∧ c = c' ∧ (a ≠ 0 → b = b') :=
  n.nf.uniq m.nf fun X Y => (n.sp X Y).trans ((e X Y).trans (m.sp X Y).symm)
theorem inN_Lp {a b c X Y : Int} (hc : c ≠ 0) : InN a b c X Y ↔ Lp a b c X Y := by
  rw [inN_iff]
  constructor
  · rintro ⟨⟨k, rfl⟩, l, h⟩
    rw [Int.mul_ediv_cancel_left _ hc] at h
    exact ⟨l, k, by grind, by grind⟩
  · rintro ⟨i, j, rfl, rfl⟩
    refine ⟨⟨j, by grind⟩, i, ?_⟩
    rw [Int.mul_ediv_cancel _ hc]
    grind
/-! ### bounds of Euclid's steps -/
structure EB (C M : Nat) (b c x y : Int) : Prop where
  hc : c.natAbs ≤ C
  hy : y.natAbs ≤ C
  hb : b.natAbs ≤ M
  hx : x.natAbs ≤ M
  g : x.natAbs * (if c * y < 0 then c.natAbs + 2 * y.natAbs else c.natAbs) + b.natAbs * y.natAbs ≤ M
theorem EB.start {C B : Nat} {b c x y : Int} (h1 : 1 ≤ C) (hc : c.natAbs ≤ C) (hy : y.natAbs ≤ C) (hb : b.natAbs ≤ B) (hx : x.natAbs ≤ B) : EB C (4 * C * B) b c x y := by
  have k0 : B ≤ 4 * C * B := by
    have := Nat.mul_le_mul_right B (show 1 ≤ 4 * C by omega)
    omega
  refine ⟨hc, hy, by omega, by omega, ?_⟩
  have k1 : x.natAbs * (if c * y < 0 then c.natAbs + 2 * y.natAbs else c.natAbs) ≤ B * (3 * C) := by
    refine Nat.mul_le_mul hx ?_
    split <;> omega
  have k2 : b.natAbs * y.natAbs ≤ B * C := Nat.mul_le_mul hb hy
  have k3 : 4 * C * B = B * (3 * C) + B * C := by grind
  omega
theorem fd_pos {c y : Int} (h : 0 < y) : c.fdiv y = c / y := Int.fdiv_eq_ediv_of_nonneg c (by omega)
theorem fd_neg {c y : Int} (h : y < 0) : c.fdiv y = (-c) / (-y) := by
  rw [← Int.neg_fdiv_neg, Int.fdiv_eq_ediv_of_nonneg _ (by omega)]
/-- what floor division leaves -/
theorem fd_rest {c y : Int} (h : y ≠ 0) : (c - c.fdiv y * y).natAbs < y.natAbs ∧ ¬ y * (c - c.fdiv y * y) < 0 ∧
    (c.fdiv y).natAbs * y.natAbs + (c - c.fdiv y * y).natAbs ≤ (if c * y < 0 then c.natAbs + 2 * y.natAbs else c.natAbs) := by
  have key : ∀ c y : Int, 0 < y → (c - c / y * y).natAbs < y.natAbs ∧ ¬ y * (c - c / y * y) < 0 ∧ (c / y).natAbs * y.natAbs + (c - c / y * y).natAbs ≤ (if c * y < 0 then c.natAbs + 2 * y.natAbs else c.natAbs) := by
    intro c y hy
    have e := Int.emod_add_mul_ediv c y
    have r0 := Int.emod_nonneg c (show y ≠ 0 by omega)
    have r1 := Int.emod_lt_of_pos c hy
    have er : c - c / y * y = c % y := by rw [Int.mul_comm (c / y) y]; omega
    rw [er]
    have hm := Int.mul_nonneg (show 0 ≤ y by omega) r0
    refine ⟨by omega, by omega, ?_⟩
    rw [← Int.natAbs_mul, Int.mul_comm (c / y) y]
    by_cases hc : c < 0
    · rw [if_pos (Int.mul_neg_of_neg_of_pos hc hy)]
      omega
    · have := Int.mul_nonneg (show 0 ≤ c by omega) (show 0 ≤ y by omega)
      rw [if_neg (by omega)]
      have q := Int.ediv_nonneg (show 0 ≤ c by omega) (show 0 ≤ y by omega)
      have := Int.mul_nonneg (show 0 ≤ y by omega) q
      omega
  rcases Int.lt_or_gt_of_ne h with h | h
  · have k := key (-c) (-y) (by omega)
    rw [fd_neg h]
    have e1 : -c - -c / -y * -y = -(c - -c / -y * y) := by grind
    have e2 : -y * -(c - -c / -y * y) = y * (c - -c / -y * y) := by grind
    have e3 : -c * -y = c * y := by grind
    rw [e1, e2, e3, Int.natAbs_neg, Int.natAbs_neg, Int.natAbs_neg] at k
    exact k
  · rw [fd_pos h]
    exact key c y h
theorem EB.step {C M : Nat} {b c x y : Int} (h : EB C M b c x y) (hy : y ≠ 0) : EB C M x y (b - c.fdiv y * x) (c - c.fdiv y * y) := by
  obtain ⟨h1, h2, h3⟩ := fd_rest (c := c) hy
  have y1 : 1 ≤ y.natAbs := by omega
  have hg := h.g
  generalize (if c * y < 0 then c.natAbs + 2 * y.natAbs else c.natAbs) = W at h3 hg
  have m1 : (b - c.fdiv y * x).natAbs ≤ b.natAbs + (c.fdiv y).natAbs * x.natAbs := by
    have := Int.natAbs_mul (c.fdiv y) x
    omega
  have m2 : (b - c.fdiv y * x).natAbs * y.natAbs + x.natAbs * (c - c.fdiv y * y).natAbs ≤ M := by
    have k1 := Nat.mul_le_mul_right y.natAbs m1
    have k2 := Nat.mul_le_mul_left x.natAbs h3
    have k3 : (b.natAbs + (c.fdiv y).natAbs * x.natAbs) * y.natAbs = b.natAbs * y.natAbs + x.natAbs * ((c.fdiv y).natAbs * y.natAbs) := by grind
    have k4 : x.natAbs * ((c.fdiv y).natAbs * y.natAbs + (c - c.fdiv y * y).natAbs) = x.natAbs * ((c.fdiv y).natAbs * y.natAbs) + x.natAbs * (c - c.fdiv y * y).natAbs := by grind
    omega
  refine ⟨h.hy, Nat.le_trans (Nat.le_of_lt h1) h.hy, h.hx, ?_, ?_⟩
  · have := Nat.mul_le_mul_left (b - c.fdiv y * x).natAbs y1
    omega
  · rw [if_neg h2]
    exact m2
theorem fd_le {c y : Int} : (c.fdiv y).natAbs ≤ c.natAbs := by
  by_cases h : y = 0
  · subst h; simp
  · rcases Int.lt_or_gt_of_ne h with h | h
    · rw [fd_neg h]
      have := Int.natAbs_ediv_le_natAbs (-c) (-y)
      omega
    · rw [fd_pos h]
      exact Int.natAbs_ediv_le_natAbs c y
end MV

set_option Elab.async false
set_option linter.all false
set_option maxRecDepth 100000
set_option maxHeartbeats 2000000
/-! Lat2: meets of nets by way of their duals; the sizes of meet and join. -/
namespace MV
/-- what a net is by products with its two shifts -/
theorem lp_cross {a b c X Y : Int} (ha : 0 < a) (hc : 0 < c) : Lp a b c X Y ↔ a * c ∣ Y * a ∧ a * c ∣ X * c - Y * b := by
  constructor
  · rintro ⟨i, j, rfl, rfl⟩
    exact ⟨⟨j, by grind⟩, ⟨i, by grind⟩⟩
  · rintro ⟨⟨k, e1⟩, ⟨l, e2⟩⟩
    have hY : Y = k * c := by
      have : a * Y = a * (k * c) := by grind
      exact Int.eq_of_mul_eq_mul_left (by omega) this
    refine ⟨l, k, ?_, hY⟩
    have : c * X = c * (l * a + k * b) := by grind
    exact Int.eq_of_mul_eq_mul_left (by omega) this
/-- the products with (X, Y) that N divides -/
theorem sub_cross (N X Y : Int) : Sub (fun u v => N ∣ X * v - Y * u) where
  z := ⟨0, by grind⟩
  add := by
    rintro x y u v ⟨k, e1⟩ ⟨l, e2⟩
    exact ⟨k + l, by grind⟩
  mul := by
    rintro x y k ⟨l, e⟩
    exact ⟨k * l, by grind⟩
theorem dvd_cancel {n m x : Int} (hm : 0 < m) (h : n * m ∣ x * m) : n ∣ x := by
  obtain ⟨k, e⟩ := h
  refine ⟨k, ?_⟩
  have : m * x = m * (n * k) := by grind
  exact Int.eq_of_mul_eq_mul_left (by omega) this
abbrev wide4 (a1 b1 c1 a2 b2 c2 : Int) : List (Int × Int) := [(a1 * (a2 * c2), 0), (b1 * (a2 * c2), c1 * (a2 * c2)), (a2 * (a1 * c1), 0), (b2 * (a1 * c1), c2 * (a1 * c1))]
theorem meet_dual {a1 b1 c1 a2 b2 c2 X Y : Int} (h1 : 0 < a1) (h2 : 0 < c1) (h3 : 0 < a2) (h4 : 0 < c2) :
    (Lp a1 b1 c1 X Y ∧ Lp a2 b2 c2 X Y) ↔ ∀ u v, SpL (wide4 a1 b1 c1 a2 b2 c2) u v → a1 * c1 * (a2 * c2) ∣ X * v - Y * u := by
  have n1 : 0 < a1 * c1 := Int.mul_pos h1 h2
  have n2 : 0 < a2 * c2 := Int.mul_pos h3 h4
  rw [lp_cross h1 h2, lp_cross h3 h4]
  constructor
  · rintro ⟨⟨⟨k1, e1⟩, ⟨k2, e2⟩⟩, ⟨⟨k3, e3⟩, ⟨k4, e4⟩⟩⟩ u v h
    refine SpL_le (sub_cross _ X Y) (fun s hs => ?_) h
    simp only [List.mem_cons, List.not_mem_nil, or_false] at hs
    rcases hs with rfl | rfl | rfl | rfl
    · exact ⟨-k1, by simp only []; grind⟩
    · exact ⟨k2, by simp only []; grind⟩
    · exact ⟨-k3, by simp only []; grind⟩
    · exact ⟨k4, by simp only []; grind⟩
  · intro h
    have m : ∀ s ∈ wide4 a1 b1 c1 a2 b2 c2, a1 * c1 * (a2 * c2) ∣ X * s.2 - Y * s.1 := fun s hs => h _ _ (SpL_mem hs)
    have g1 := m (a1 * (a2 * c2), 0) (by simp)
    have g2 := m (b1 * (a2 * c2), c1 * (a2 * c2)) (by simp)
    have g3 := m (a2 * (a1 * c1), 0) (by simp)
    have g4 := m (b2 * (a1 * c1), c2 * (a1 * c1)) (by simp)
    simp only [] at g1 g2 g3 g4
    refine ⟨⟨?_, ?_⟩, ⟨?_, ?_⟩⟩
    · refine dvd_cancel n2 ?_
      have e : Y * a1 * (a2 * c2) = -(X * 0 - Y * (a1 * (a2 * c2))) := by grind
      rw [e]; exact Int.dvd_neg.mpr g1
    · refine dvd_cancel n2 ?_
      have e : (X * c1 - Y * b1) * (a2 * c2) = X * (c1 * (a2 * c2)) - Y * (b1 * (a2 * c2)) := by grind
      rw [e]; exact g2
    · refine dvd_cancel n1 ?_
      have e : Y * a2 * (a1 * c1) = -(X * 0 - Y * (a2 * (a1 * c1))) := by grind
      rw [e, Int.mul_comm (a2 * c2)]; exact Int.dvd_neg.mpr g3
    · refine dvd_cancel n1 ?_
      have e : (X * c2 - Y * b2) * (a1 * c1) = X * (c2 * (a1 * c1)) - Y * (b2 * (a1 * c1)) := by grind
      rw [e, Int.mul_comm (a2 * c2)]; exact g4
/-- the numbers of the meet out of those of the wide net -/
structure Meet (N a b c A B C : Int) : Prop where
  ea : a * N = A * (a * c)
  eb : b * N = B * (a * c)
  ec : c * N = C * (a * c)
  pa : 0 < A
  pc : 0 < C
  b0 : 0 ≤ B
  ba : B < A
theorem meet_nums {a1 b1 c1 a2 b2 c2 a b c : Int} (h1 : 0 < a1) (h2 : 0 < c1) (h3 : 0 < a2) (h4 : 0 < c2) (ha : 0 < a) (hc : 0 < c) (n : Nfs (wide4 a1 b1 c1 a2 b2 c2) a b c) :
    ∃ A B C, Meet (a1 * c1 * (a2 * c2)) a b c A B C ∧ ∀ X Y, Lp A B C X Y ↔ Lp a1 b1 c1 X Y ∧ Lp a2 b2 c2 X Y := by
  have N0 : 0 < a1 * c1 * (a2 * c2) := Int.mul_pos (Int.mul_pos h1 h2) (Int.mul_pos h3 h4)
  have sb := sub_SpL (wide4 a1 b1 c1 a2 b2 c2)
  have mem : ∀ s ∈ wide4 a1 b1 c1 a2 b2 c2, SpL (wide4 a1 b1 c1 a2 b2 c2) s.1 s.2 := fun s hs => SpL_mem hs
  have g1 := mem (a1 * (a2 * c2), 0) (by simp)
  have g2 := mem (b1 * (a2 * c2), c1 * (a2 * c2)) (by simp)
  have k1 : Lp a b c (a1 * c1 * (a2 * c2)) 0 := by
    rw [n.sp]
    have := sb.mul c1 g1
    have e1 : c1 * (a1 * (a2 * c2)) = a1 * c1 * (a2 * c2) := by grind
    have e2 : c1 * (0 : Int) = 0 := by omega
    simp only [e1, e2] at this
    exact this
  have k2 : Lp a b c 0 (a1 * c1 * (a2 * c2)) := by
    rw [n.sp]
    have := sb.sub (sb.mul a1 g2) (sb.mul b1 g1)
    have e1 : a1 * (b1 * (a2 * c2)) - b1 * (a1 * (a2 * c2)) = 0 := by grind
    have e2 : a1 * (c1 * (a2 * c2)) - b1 * (0 : Int) = a1 * c1 * (a2 * c2) := by grind
    simp only [e1, e2] at this
    exact this
  obtain ⟨C, eC⟩ := Lp_x n.nf k1
  obtain ⟨A, eA⟩ := Lp_y k2
  obtain ⟨_, ⟨B', eB⟩⟩ := (lp_cross ha hc).mp k2
  have hN := fun X Y : Int => meet_dual (b1 := b1) (b2 := b2) (X := X) (Y := Y) h1 h2 h3 h4
  generalize a1 * c1 * (a2 * c2) = N at *
  have pC : 0 < C := by
    rcases Int.lt_or_le 0 C with h | h
    · exact h
    · have := Int.mul_le_mul_of_nonneg_left h (show 0 ≤ a by omega)
      omega
  have pA : 0 < A := by
    rcases Int.lt_or_le 0 A with h | h
    · exact h
    · have := Int.mul_le_mul_of_nonneg_left h (show 0 ≤ c by omega)
      omega
  have hb := n.nf.b0 (by omega)
  have ebA : b * A = a * (-B') := by
    have : c * (b * A) = c * (a * (-B')) := by grind
    exact Int.eq_of_mul_eq_mul_left (by omega) this
  have ebC : b * C = c * (-B') := by
    have : a * (b * C) = a * (c * (-B')) := by grind
    exact Int.eq_of_mul_eq_mul_left (by omega) this
  have B0 : 0 ≤ -B' := by
    rcases Int.lt_or_le (-B') 0 with h | h
    · have h5 := Int.mul_neg_of_pos_of_neg ha h
      have h6 := Int.mul_nonneg hb.1 (show 0 ≤ A by omega)
      omega
    · exact h
  have BA : -B' < A := by
    rcases Int.lt_or_le (-B') A with h | h
    · exact h
    · have h5 := Int.mul_le_mul_of_nonneg_left h (show 0 ≤ a by omega)
      have h6 := Int.mul_lt_mul_of_pos_right hb.2 pA
      omega
  refine ⟨A, -B', C, ⟨by grind, by grind, by grind, pA, pC, B0, BA⟩, fun X Y => ?_⟩
  rw [hN]
  constructor
  · rintro ⟨i, j, rfl, rfl⟩ u v h
    obtain ⟨k, l, rfl, rfl⟩ := (n.sp u v).mpr h
    exact ⟨i * l - j * k, by grind⟩
  · intro h
    have d1 := h _ _ ((n.sp _ _).mp Lp_a)
    have d2 := h _ _ ((n.sp _ _).mp Lp_b)
    obtain ⟨k, e1⟩ := d1
    obtain ⟨l, e2⟩ := d2
    have hY : Y = -k * C := by
      have : a * Y = a * (-k * C) := by grind
      exact Int.eq_of_mul_eq_mul_left (by omega) this
    refine ⟨l, -k, ?_, hY⟩
    have : c * X = c * (l * A + -k * -B') := by grind
    exact Int.eq_of_mul_eq_mul_left (by omega) this
/-! ### the sizes -/
theorem cop_dvd {p q j m u v : Int} (h : u * p + v * q = 1) (e : p * j = q * m) : q ∣ j := ⟨u * m + v * j, by grind⟩
abbrev rows4 (a1 b1 c1 a2 b2 c2 : Int) : List (Int × Int) := [(a1, 0), (b1, c1), (a2, 0), (b2, c2)]
theorem rows_iff {a1 b1 c1 a2 b2 c2 X Y : Int} : SpL (rows4 a1 b1 c1 a2 b2 c2) X Y ↔ ∃ i j k l, X = i * a1 + j * b1 + k * a2 + l * b2 ∧ Y = j * c1 + l * c2 := by
  constructor
  · rintro ⟨l, k, j, i, e1, e2⟩
    simp only [] at e1 e2
    exact ⟨i, j, k, l, by omega, by omega⟩
  · rintro ⟨i, j, k, l, e1, e2⟩
    exact ⟨l, k, j, i, by simp only []; omega, by simp only []; omega⟩
theorem sz1 {p q j1 j2 z : Int} (e5 : p * j1 = q * j2) (ez : j1 = q * z) : q * j2 = q * (p * z) := by subst ez; grind
theorem sz2 {B i1 a1 j1 b1 i2 a2 j2 b2 q p z h r1 r2 d : Int} (e1 : B = i1 * a1 + j1 * b1) (e3 : B = i2 * a2 + j2 * b2) (ez : j1 = q * z) (ez2 : j2 = p * z) (er1 : a1 = h * r1) (er2 : a2 = h * r2) (hd : q * b1 - p * b2 = d) :
    z * d = h * (i2 * r2 - i1 * r1) := by subst ez ez2 er1 er2 hd; grind
theorem sz3 {h a h' d d' z X : Int} (eh : h = a * h') (ed : d = a * d') (e : z * d = h * X) : a * (h' * X) = a * (d' * z) := by subst eh ed; grind
theorem sz4 {C j1 c1 q z g p h' y : Int} (e2 : C = j1 * c1) (ez : j1 = q * z) (ep : c1 = g * p) (ey : z = h' * y) : C = g * p * q * h' * y := by subst ez ep ey; grind
theorem sizes {a1 b1 c1 a2 b2 c2 a b c A B C : Int} (h1 : 0 < a1) (h2 : 0 < c1) (h3 : 0 < a2) (h4 : 0 < c2) (n : Nfs (rows4 a1 b1 c1 a2 b2 c2) a b c) (m : NF A B C)
    (e : ∀ X Y, Lp A B C X Y ↔ Lp a1 b1 c1 X Y ∧ Lp a2 b2 c2 X Y) : A * C * (a * c) = a1 * c1 * (a2 * c2) := by
  -- c is the divisor of c1 and c2
  obtain ⟨u, v, eg⟩ := bezI c1 c2
  obtain ⟨p, ep⟩ := gcdI_left c1 c2
  obtain ⟨q, eq⟩ := gcdI_right c1 c2
  have g0 : 0 < gcdI c1 c2 := gcdI_pos h2 c2
  generalize gcdI c1 c2 = g at *
  have cop : u * p + v * q = 1 := by
    have : g * (u * p + v * q) = g * 1 := by grind
    exact Int.eq_of_mul_eq_mul_left (by omega) this
  have ec : c = g := by
    refine Int.dvd_antisymm n.nf.c0 (by omega) ?_ ?_
    · have k : Lp a b c (u * b1 + v * b2) g := (n.sp _ _).mpr (rows_iff.mpr ⟨0, u, 0, v, by omega, by omega⟩)
      exact Lp_y k
    · obtain ⟨i, j, k, l, _, e2⟩ := rows_iff.mp ((n.sp _ _).mp Lp_b)
      rw [e2, ep, eq]
      exact ⟨j * p + l * q, by grind⟩
  -- h is the divisor of a1 and a2
  obtain ⟨s, t, eh⟩ := bezI a1 a2
  obtain ⟨r1, er1⟩ := gcdI_left a1 a2
  obtain ⟨r2, er2⟩ := gcdI_right a1 a2
  have h0 : 0 < gcdI a1 a2 := gcdI_pos h1 a2
  generalize gcdI a1 a2 = h at *
  have cop2 : s * r1 + t * r2 = 1 := by
    have : h * (s * r1 + t * r2) = h * 1 := by grind
    exact Int.eq_of_mul_eq_mul_left (by omega) this
  have r10 : 0 < r1 := by
    rcases Int.lt_or_le 0 r1 with z | z
    · exact z
    · have := Int.mul_le_mul_of_nonneg_left z (show 0 ≤ h by omega)
      omega
  have r20 : 0 < r2 := by
    rcases Int.lt_or_le 0 r2 with z | z
    · exact z
    · have := Int.mul_le_mul_of_nonneg_left z (show 0 ≤ h by omega)
      omega
  have p0 : 0 < p := by
    rcases Int.lt_or_le 0 p with z | z
    · exact z
    · have := Int.mul_le_mul_of_nonneg_left z (show 0 ≤ g by omega)
      omega
  have q0 : 0 < q := by
    rcases Int.lt_or_le 0 q with z | z
    · exact z
    · have := Int.mul_le_mul_of_nonneg_left z (show 0 ≤ g by omega)
      omega
  -- A is the multiple of a1 and a2
  have hr : 0 < h * r1 * r2 := Int.mul_pos (Int.mul_pos h0 r10) r20
  have eA : A = h * r1 * r2 := by
    refine Int.dvd_antisymm m.a0 (by omega) ?_ ?_
    · refine Lp_x m ((e _ _).mpr ⟨⟨r2, 0, by grind, by omega⟩, ⟨r1, 0, by grind, by omega⟩⟩)
    · obtain ⟨⟨i, j, e1, e2⟩, ⟨k, l, e3, e4⟩⟩ := (e _ _).mp Lp_a
      have j0 : j = 0 := by
        rcases Int.mul_eq_zero.mp e2.symm with z | z <;> omega
      have l0 : l = 0 := by
        rcases Int.mul_eq_zero.mp e4.symm with z | z <;> omega
      subst j0 l0
      have e5 : r1 * i = r2 * k := by
        have : h * (r1 * i) = h * (r2 * k) := by grind
        exact Int.eq_of_mul_eq_mul_left (by omega) this
      obtain ⟨z, ez⟩ := cop_dvd cop2 e5
      exact ⟨z, by grind⟩
  -- a is the divisor of h and of d
  have key : ∀ x, Lp a b c x 0 ↔ ∃ i k w, x = i * a1 + k * a2 + w * (q * b1 - p * b2) := by
    intro x
    rw [n.sp, rows_iff]
    constructor
    · rintro ⟨i, j, k, l, e1, e2⟩
      have e5 : p * j = q * (-l) := by
        have : g * (p * j) = g * (q * (-l)) := by grind
        exact Int.eq_of_mul_eq_mul_left (by omega) this
      obtain ⟨w, ew⟩ := cop_dvd cop e5
      have el : l = -(p * w) := by
        have : q * l = q * (-(p * w)) := by grind
        exact Int.eq_of_mul_eq_mul_left (by omega) this
      exact ⟨i, k, w, by grind⟩
    · rintro ⟨i, k, w, rfl⟩
      exact ⟨i, w * q, k, -(w * p), by grind, by grind⟩
  generalize hd : q * b1 - p * b2 = d at key
  have da1 : a ∣ h := by
    refine Lp_x n.nf ((key h).mpr ⟨s, t, 0, by omega⟩)
  have da2 : a ∣ d := Lp_x n.nf ((key d).mpr ⟨0, 0, 1, by omega⟩)
  obtain ⟨h', eh'⟩ := da1
  obtain ⟨d', ed'⟩ := da2
  have a0 : 0 < a := by
    rcases Int.lt_or_le 0 a with z | z
    · exact z
    · have := n.nf.a0
      have z0 : a = 0 := by omega
      rw [z0] at eh'
      omega
  have h'0 : 0 < h' := by
    rcases Int.lt_or_le 0 h' with z | z
    · exact z
    · have := Int.mul_le_mul_of_nonneg_left z (show 0 ≤ a by omega)
      omega
  obtain ⟨i, k, w, ea⟩ := (key a).mp Lp_a
  have cop3 : (i * r1 + k * r2) * h' + w * d' = 1 := by
    have : a * ((i * r1 + k * r2) * h' + w * d') = a * 1 := by grind
    exact Int.eq_of_mul_eq_mul_left (by omega) this
  -- C
  have gpq : 0 < g * p * q * h' := Int.mul_pos (Int.mul_pos (Int.mul_pos g0 p0) q0) h'0
  have eC : C = g * p * q * h' := by
    refine Int.dvd_antisymm m.c0 (by omega) ?_ ?_
    · -- such a shift is there
      have mem : Lp A B C (h' * q * b1 - d' * s * a1) (g * p * q * h') := by
        refine (e _ _).mpr ⟨⟨-(d' * s), h' * q, by grind, by grind⟩, ⟨d' * t, h' * p, ?_, by grind⟩⟩
        have e6 : h' * d = d' * (s * a1 + t * a2) := by grind
        grind
      exact Lp_y mem
    · obtain ⟨⟨i1, j1, e1, e2⟩, ⟨i2, j2, e3, e4⟩⟩ := (e _ _).mp Lp_b
      have e5 : p * j1 = q * j2 := by
        have : g * (p * j1) = g * (q * j2) := by rw [← Int.mul_assoc, ← Int.mul_assoc, ← ep, ← eq, Int.mul_comm c1, Int.mul_comm c2, ← e2, ← e4]
        exact Int.eq_of_mul_eq_mul_left (by omega) this
      obtain ⟨z, ez⟩ := cop_dvd cop e5
      have ez2 : j2 = p * z := by
        have : q * j2 = q * (p * z) := sz1 e5 ez
        exact Int.eq_of_mul_eq_mul_left (by omega) this
      have e6 : z * d = h * (i2 * r2 - i1 * r1) := sz2 e1 e3 ez ez2 er1 er2 hd
      have e7 : h' * (i2 * r2 - i1 * r1) = d' * z := by
        have : a * (h' * (i2 * r2 - i1 * r1)) = a * (d' * z) := sz3 eh' ed' e6
        exact Int.eq_of_mul_eq_mul_left (by omega) this
      obtain ⟨y, ey⟩ := cop_dvd (u := w) (v := i * r1 + k * r2) (p := d') (q := h') (j := z) (m := i2 * r2 - i1 * r1) (by rw [Int.add_comm]; exact cop3) e7.symm
      exact ⟨y, sz4 e2 ez ep ey⟩
  rw [eA, eC, ec]
  grind
end MV

set_option Elab.async false
set_option linter.all false
set_option maxRecDepth 100000
set_option maxHeartbeats 2000000
/-! Mot07Math: the eight kinds, numbers only. -/
namespace MV
open PySem
abbrev Mat := Int × Int × Int × Int
def KNS : List (Str × Mat) := [("none", 1, 0, 0, 1), ("left", 0, -1, 1, 0), ("half", -1, 0, 0, -1), ("right", 0, 1, -1, 0), ("flip", 1, 0, 0, -1), ("mirror", -1, 0, 0, 1), ("swap", 0, 1, 1, 0), ("cross", 0, -1, -1, 0)]
/-- k is the kind of the matrix m -/
def Kd (k : Str) (m : Mat) : Prop := (k, m) ∈ KNS
def mx (m : Mat) (x y : Int) : Int := m.1 * x + m.2.1 * y
def my (m : Mat) (x y : Int) : Int := m.2.2.1 * x + m.2.2.2 * y
/-- first n, then m -/
def mmul (m n : Mat) : Mat := (m.1 * n.1 + m.2.1 * n.2.2.1, m.1 * n.2.1 + m.2.1 * n.2.2.2, m.2.2.1 * n.1 + m.2.2.2 * n.2.2.1, m.2.2.1 * n.2.1 + m.2.2.2 * n.2.2.2)
def mone : Mat := (1, 0, 0, 1)
theorem Kd.cases {k : Str} {m : Mat} (h : Kd k m) : (k = "none" ∧ m = (1, 0, 0, 1)) ∨ (k = "left" ∧ m = (0, -1, 1, 0)) ∨ (k = "half" ∧ m = (-1, 0, 0, -1)) ∨ (k = "right" ∧ m = (0, 1, -1, 0)) ∨
    (k = "flip" ∧ m = (1, 0, 0, -1)) ∨ (k = "mirror" ∧ m = (-1, 0, 0, 1)) ∨ (k = "swap" ∧ m = (0, 1, 1, 0)) ∨ (k = "cross" ∧ m = (0, -1, -1, 0)) := by
  unfold Kd KNS at h
  simp only [List.mem_cons, List.not_mem_nil, or_false, Prod.mk.injEq] at h
  rcases h with ⟨h1, h2⟩ | ⟨h1, h2⟩ | ⟨h1, h2⟩ | ⟨h1, h2⟩ | ⟨h1, h2⟩ | ⟨h1, h2⟩ | ⟨h1, h2⟩ | ⟨h1, h2⟩ <;> simp [h1, h2, Prod.ext_iff]
theorem mat_list : ∀ t ∈ KNS, t.2 = (1, 0, 0, 1) ∨ t.2 = (0, -1, 1, 0) ∨ t.2 = (-1, 0, 0, -1) ∨ t.2 = (0, 1, -1, 0) ∨ t.2 = (1, 0, 0, -1) ∨ t.2 = (-1, 0, 0, 1) ∨ t.2 = (0, 1, 1, 0) ∨ t.2 = (0, -1, -1, 0) := by decide +kernel
theorem Kd.mat {k : Str} {m : Mat} (h : Kd k m) : m = (1, 0, 0, 1) ∨ m = (0, -1, 1, 0) ∨ m = (-1, 0, 0, -1) ∨ m = (0, 1, -1, 0) ∨ m = (1, 0, 0, -1) ∨ m = (-1, 0, 0, 1) ∨ m = (0, 1, 1, 0) ∨ m = (0, -1, -1, 0) := mat_list _ h
theorem uniq_list : ∀ t ∈ KNS, ∀ u ∈ KNS, mx t.2 1 2 = mx u.2 1 2 → my t.2 1 2 = my u.2 1 2 → t.1 = u.1 := by decide +kernel
theorem mul_list : ∀ t ∈ KNS, ∀ u ∈ KNS, ∃ v ∈ KNS, v.2 = mmul u.2 t.2 := by decide +kernel
theorem Kd.mul {k l : Str} {m n : Mat} (h : Kd k m) (g : Kd l n) : ∃ j, Kd j (mmul n m) := by
  obtain ⟨⟨j, a⟩, h1, h2⟩ := mul_list _ h _ g
  exact ⟨j, by cases h2; exact h1⟩
theorem inv_list : ∀ t ∈ KNS, ∃ v ∈ KNS, mmul v.2 t.2 = mone ∧ mmul t.2 v.2 = mone := by decide +kernel
theorem Kd.inv {k : Str} {m : Mat} (h : Kd k m) : ∃ j n, Kd j n ∧ mmul n m = mone ∧ mmul m n = mone := by
  obtain ⟨⟨j, a⟩, h1, h2⟩ := inv_list _ h
  exact ⟨j, a, h1, h2⟩
theorem invu_list : ∀ t ∈ KNS, ∀ u ∈ KNS, ∀ v ∈ KNS, mx u.2 (mx t.2 1 2) (my t.2 1 2) = 1 → my u.2 (mx t.2 1 2) (my t.2 1 2) = 2 → mx v.2 (mx t.2 1 2) (my t.2 1 2) = 1 → my v.2 (mx t.2 1 2) (my t.2 1 2) = 2 → u.1 = v.1 := by decide +kernel
theorem four_list : ∀ t ∈ KNS, mmul t.2 (mmul t.2 (mmul t.2 t.2)) = mone := by decide +kernel
theorem inj_list : ∀ t ∈ KNS, ∀ u ∈ KNS, t.2 = u.2 → t.1 = u.1 := by decide +kernel
theorem key_list : ∀ t ∈ KNS, ∀ u ∈ KNS, t.1 = u.1 → t.2 = u.2 := by decide +kernel
theorem Kd.same {k l : Str} {m : Mat} (h : Kd k m) (g : Kd l m) : k = l := inj_list _ h _ g rfl
theorem Kd.det {k : Str} {m n : Mat} (h : Kd k m) (g : Kd k n) : m = n := key_list _ h _ g rfl
theorem mx_mul (m n : Mat) (x y : Int) : mx m (mx n x y) (my n x y) = mx (mmul m n) x y := by
  unfold mx my mmul
  simp only [Int.mul_add, Int.add_mul, Int.mul_assoc]
  omega
theorem my_mul (m n : Mat) (x y : Int) : my m (mx n x y) (my n x y) = my (mmul m n) x y := by
  unfold mx my mmul
  simp only [Int.mul_add, Int.add_mul, Int.mul_assoc]
  omega
theorem mx_one (x y : Int) : mx mone x y = x := by show (1 : Int) * x + 0 * y = x; omega
theorem my_one (x y : Int) : my mone x y = y := by show (0 : Int) * x + 1 * y = y; omega
theorem Kd.bound {k : Str} {m : Mat} (h : Kd k m) (x y : Int) : ((mx m x y).natAbs = x.natAbs ∧ (my m x y).natAbs = y.natAbs) ∨ ((mx m x y).natAbs = y.natAbs ∧ (my m x y).natAbs = x.natAbs) := by
  unfold mx my
  rcases h.mat with rfl | rfl | rfl | rfl | rfl | rfl | rfl | rfl <;> simp only [] <;> omega
theorem Kd.coef {k : Str} {m : Mat} (h : Kd k m) : m.1.natAbs ≤ 1 ∧ m.2.1.natAbs ≤ 1 ∧ m.2.2.1.natAbs ≤ 1 ∧ m.2.2.2.natAbs ≤ 1 := by
  rcases h.mat with rfl | rfl | rfl | rfl | rfl | rfl | rfl | rfl <;> decide
theorem mx_add (m : Mat) (x y u v : Int) : mx m (x + u) (y + v) = mx m x y + mx m u v := by
  unfold mx; rw [Int.mul_add, Int.mul_add]; omega
theorem my_add (m : Mat) (x y u v : Int) : my m (x + u) (y + v) = my m x y + my m u v := by
  unfold my; rw [Int.mul_add, Int.mul_add]; omega
theorem mx_neg (m : Mat) (x y : Int) : mx m (-x) (-y) = -mx m x y := by
  unfold mx; rw [Int.mul_neg, Int.mul_neg]; omega
theorem my_neg (m : Mat) (x y : Int) : my m (-x) (-y) = -my m x y := by
  unfold my; rw [Int.mul_neg, Int.mul_neg]; omega
end MV

set_option Elab.async false
set_option linter.all false
set_option maxRecDepth 100000
set_option maxHeartbeats 2000000
/-! Lat3: nets under the kinds of motions. -/
namespace MV
open PySem
/-- the second net is the image of the first one -/
def Im (m : Mat) (a b c a' b' c' : Int) : Prop := ∀ X Y, Lp a' b' c' (mx m X Y) (my m X Y) ↔ Lp a b c X Y
abbrev img2 (m : Mat) (a b c : Int) : List (Int × Int) := [(mx m a 0, my m a 0), (mx m b c, my m b c)]
theorem lin_x (m : Mat) (i j a b c : Int) : mx m (i * a + j * b) (j * c) = i * mx m a 0 + j * mx m b c := by unfold mx; grind
theorem lin_y (m : Mat) (i j a b c : Int) : my m (i * a + j * b) (j * c) = i * my m a 0 + j * my m b c := by unfold my; grind
theorem kd_inj {k : Str} {m : Mat} (h : Kd k m) {x y u v : Int} (e1 : mx m x y = mx m u v) (e2 : my m x y = my m u v) : x = u ∧ y = v := by
  obtain ⟨j, n, _, e, _⟩ := h.inv
  have a1 := mx_mul n m x y
  have a2 := mx_mul n m u v
  have b1 := my_mul n m x y
  have b2 := my_mul n m u v
  rw [e, mx_one] at a1 a2
  rw [e, my_one] at b1 b2
  rw [e1, e2] at a1 b1
  exact ⟨a1.symm.trans a2, b1.symm.trans b2⟩
theorem kd_surj {k : Str} {m : Mat} (h : Kd k m) (X Y : Int) : ∃ x y, X = mx m x y ∧ Y = my m x y := by
  obtain ⟨j, n, _, _, e⟩ := h.inv
  refine ⟨mx n X Y, my n X Y, ?_, ?_⟩
  · rw [mx_mul, e, mx_one]
  · rw [my_mul, e, my_one]
theorem im_of {k : Str} {m : Mat} (h : Kd k m) {a b c a' b' c' : Int} (n : Nfs (img2 m a b c) a' b' c') : Im m a b c a' b' c' := by
  intro X Y
  rw [n.sp]
  constructor
  · rintro ⟨j, i, e1, e2⟩
    simp only [] at e1 e2
    have f1 : mx m X Y = mx m (i * a + j * b) (j * c) := by rw [lin_x]; omega
    have f2 : my m X Y = my m (i * a + j * b) (j * c) := by rw [lin_y]; omega
    obtain ⟨g1, g2⟩ := kd_inj h f1 f2
    exact ⟨i, j, g1, g2⟩
  · rintro ⟨i, j, rfl, rfl⟩
    refine ⟨j, i, ?_, ?_⟩
    · simp only []; rw [lin_x]; omega
    · simp only []; rw [lin_y]; omega
theorem det_list : ∀ t ∈ KNS, t.2.1 * t.2.2.2.2 - t.2.2.1 * t.2.2.2.1 = 1 ∨ t.2.1 * t.2.2.2.2 - t.2.2.1 * t.2.2.2.1 = -1 := by decide +kernel
theorem kd_det {k : Str} {m : Mat} (h : Kd k m) : m.1 * m.2.2.2 - m.2.1 * m.2.2.1 = 1 ∨ m.1 * m.2.2.2 - m.2.1 * m.2.2.1 = -1 := det_list _ h
theorem cross_im (m : Mat) (x y u v : Int) : mx m x y * my m u v - my m x y * mx m u v = (m.1 * m.2.2.2 - m.2.1 * m.2.2.1) * (x * v - y * u) := by unfold mx my; grind
theorem cross_dvd {a b c x y u v : Int} (h : Lp a b c x y) (g : Lp a b c u v) : a * c ∣ x * v - y * u := by
  obtain ⟨i, j, rfl, rfl⟩ := h
  obtain ⟨k, l, rfl, rfl⟩ := g
  exact ⟨i * l - j * k, by grind⟩
theorem dvd_det {k : Str} {m : Mat} (h : Kd k m) {d z : Int} : d ∣ (m.1 * m.2.2.2 - m.2.1 * m.2.2.1) * z ↔ d ∣ z := by
  rcases kd_det h with e | e <;> rw [e]
  · rw [Int.one_mul]
  · rw [Int.neg_mul, Int.one_mul, Int.dvd_neg]
theorem im_size1 {k : Str} {m : Mat} (h : Kd k m) {a b c a' b' c' : Int} (i : Im m a b c a' b' c') : a' * c' ∣ a * c := by
  have := cross_dvd ((i _ _).mpr (Lp_a (a := a) (b := b) (c := c))) ((i _ _).mpr Lp_b)
  rw [cross_im, dvd_det h] at this
  have e : a * c - 0 * b = a * c := by omega
  rwa [e] at this
theorem im_size2 {k : Str} {m : Mat} (h : Kd k m) {a b c a' b' c' : Int} (i : Im m a b c a' b' c') : a * c ∣ a' * c' := by
  obtain ⟨x, y, e1, e2⟩ := kd_surj h a' 0
  obtain ⟨u, v, e3, e4⟩ := kd_surj h b' c'
  have h1 : Lp a b c x y := (i _ _).mp (by rw [← e1, ← e2]; exact Lp_a)
  have h2 : Lp a b c u v := (i _ _).mp (by rw [← e3, ← e4]; exact Lp_b)
  have := cross_dvd h1 h2
  rw [← dvd_det h, ← cross_im, ← e1, ← e2, ← e3, ← e4] at this
  have e : a' * c' - 0 * b' = a' * c' := by omega
  rwa [e] at this
/-- what the numbers of an image are -/
theorem im_pos {k : Str} {m : Mat} (h : Kd k m) {a b c a' b' c' : Int} (ha : 0 < a) (hc : 0 < c) (n : NF a' b' c') (i : Im m a b c a' b' c') : 0 < a' ∧ 0 < c' ∧ a' * c' = a * c := by
  have p : 0 < a * c := Int.mul_pos ha hc
  have d1 := im_size1 h i
  have d2 := im_size2 h i
  have e : a' * c' = a * c := Int.dvd_antisymm (Int.mul_nonneg n.a0 n.c0) (by omega) d1 d2
  have a0 := n.a0
  have c0 := n.c0
  refine ⟨?_, ?_, e⟩
  · rcases Int.lt_or_eq_of_le a0 with z | z
    · exact z
    · rw [← z] at e; omega
  · rcases Int.lt_or_eq_of_le c0 with z | z
    · exact z
    · rw [← z] at e; omega
theorem im_uniq {k : Str} {m : Mat} (h : Kd k m) {a b c a' b' c' d e f : Int} (i : Im m a b c a' b' c') (j : Im m a b c d e f) (X Y : Int) : Lp a' b' c' X Y ↔ Lp d e f X Y := by
  obtain ⟨x, y, rfl, rfl⟩ := kd_surj h X Y
  exact (i x y).trans (j x y).symm
theorem im_comp {m n : Mat} {a b c a' b' c' d e f : Int} (i : Im m a b c a' b' c') (j : Im n a' b' c' d e f) : Im (mmul n m) a b c d e f := by
  intro X Y
  rw [← mx_mul, ← my_mul]
  exact (j _ _).trans (i X Y)
theorem im_one {a b c : Int} : Im mone a b c a b c := fun X Y => by rw [mx_one, my_one]
end MV

set_option Elab.async false
set_option linter.all false
set_option maxRecDepth 100000
set_option maxHeartbeats 4000000
namespace Law
open PySem PySem.Spec PyProof.Rows L2 MV
def topS (i : Nat) : Stmt := PySem.Challenge.pw_carpets_k09_whole_nets_under_motions.main.body.getD i (.Pass ⟨0, 0, 0, 0⟩)
abbrev s_is_integer : Stmt := topS 9
abbrev N_is_integer : List Str := ["value"]
abbrev P_is_integer : List Str := ["value"]
theorem sc_is_integer : FnScope N_is_integer P_is_integer (defScope s_is_integer) := ⟨rfl, rfl, rfl, by decide +kernel, rfl, by decide +kernel, by decide +kernel⟩
abbrev s_is_place : Stmt := topS 11
abbrev N_is_place : List Str := ["value"]
abbrev P_is_place : List Str := ["value"]
theorem sc_is_place : FnScope N_is_place P_is_place (defScope s_is_place) := ⟨rfl, rfl, rfl, by decide +kernel, rfl, by decide +kernel, by decide +kernel⟩
abbrev s_check_place : Stmt := topS 12
abbrev N_check_place : List Str := ["value"]
abbrev P_check_place : List Str := ["value"]
theorem sc_check_place : FnScope N_check_place P_check_place (defScope s_check_place) := ⟨rfl, rfl, rfl, by decide +kernel, rfl, by decide +kernel, by decide +kernel⟩
abbrev s_check_positive : Stmt := topS 10
abbrev N_check_positive : List Str := ["value"]
abbrev P_check_positive : List Str := ["value"]
theorem sc_check_positive : FnScope N_check_positive P_check_positive (defScope s_check_positive) := ⟨rfl, rfl, rfl, by decide +kernel, rfl, by decide +kernel, by decide +kernel⟩
abbrev s_are_numbers : Stmt := topS 20
abbrev N_are_numbers : List Str := ["a", "b", "c"]
abbrev P_are_numbers : List Str := ["a", "b", "c"]
theorem sc_are_numbers : FnScope N_are_numbers P_are_numbers (defScope s_are_numbers) := ⟨rfl, rfl, rfl, by decide +kernel, rfl, by decide +kernel, by decide +kernel⟩
abbrev s_turned : Stmt := topS 16
abbrev N_turned : List Str := ["kind", "place", "p", "q", "r", "s", "x", "y"]
abbrev P_turned : List Str := ["kind", "place"]
theorem sc_turned : FnScope N_turned P_turned (defScope s_turned) := ⟨rfl, rfl, rfl, by decide +kernel, rfl, by decide +kernel, by decide +kernel⟩
abbrev s_kind_between : Stmt := topS 17
abbrev N_kind_between : List Str := ["place", "image", "kind"]
abbrev P_kind_between : List Str := ["place", "image"]
theorem sc_kind_between : FnScope N_kind_between P_kind_between (defScope s_kind_between) := ⟨rfl, rfl, rfl, by decide +kernel, rfl, by decide +kernel, by decide +kernel⟩
abbrev s_Motion_init : Stmt := inClass (topS 18) 1
abbrev N_Motion_init : List Str := ["self", "kind", "shift", "x", "y"]
abbrev P_Motion_init : List Str := ["self", "kind", "shift"]
theorem sc_Motion_init : FnScope N_Motion_init P_Motion_init (defScope s_Motion_init) := ⟨rfl, rfl, rfl, by decide +kernel, rfl, by decide +kernel, by decide +kernel⟩
abbrev s_Motion_kind : Stmt := inClass (topS 18) 3
abbrev N_Motion_kind : List Str := ["self"]
abbrev P_Motion_kind : List Str := ["self"]
theorem sc_Motion_kind : FnScope N_Motion_kind P_Motion_kind (defScope s_Motion_kind) := ⟨rfl, rfl, rfl, by decide +kernel, rfl, by decide +kernel, by decide +kernel⟩
abbrev s_Motion_shift : Stmt := inClass (topS 18) 4
abbrev N_Motion_shift : List Str := ["self"]
abbrev P_Motion_shift : List Str := ["self"]
theorem sc_Motion_shift : FnScope N_Motion_shift P_Motion_shift (defScope s_Motion_shift) := ⟨rfl, rfl, rfl, by decide +kernel, rfl, by decide +kernel, by decide +kernel⟩
abbrev s_Motion_mul : Stmt := inClass (topS 18) 7
abbrev N_Motion_mul : List Str := ["self", "other", "kind", "x", "y", "dx", "dy"]
abbrev P_Motion_mul : List Str := ["self", "other"]
theorem sc_Motion_mul : FnScope N_Motion_mul P_Motion_mul (defScope s_Motion_mul) := ⟨rfl, rfl, rfl, by decide +kernel, rfl, by decide +kernel, by decide +kernel⟩
abbrev s_Motion_invert : Stmt := inClass (topS 18) 8
abbrev N_Motion_invert : List Str := ["self", "kind", "x", "y"]
abbrev P_Motion_invert : List Str := ["self"]
theorem sc_Motion_invert : FnScope N_Motion_invert P_Motion_invert (defScope s_Motion_invert) := ⟨rfl, rfl, rfl, by decide +kernel, rfl, by decide +kernel, by decide +kernel⟩
abbrev s_two_shifts : Stmt := topS 21
abbrev N_two_shifts : List Str := ["numbers", "a", "b", "c"]
abbrev P_two_shifts : List Str := ["numbers"]
theorem sc_two_shifts : FnScope N_two_shifts P_two_shifts (defScope s_two_shifts) := ⟨rfl, rfl, rfl, by decide +kernel, rfl, by decide +kernel, by decide +kernel⟩
abbrev s_with_shift : Stmt := topS 22
abbrev N_with_shift : List Str := ["numbers", "shift", "a", "b", "c", "x", "y", "times"]
abbrev P_with_shift : List Str := ["numbers", "shift"]
theorem sc_with_shift : FnScope N_with_shift P_with_shift (defScope s_with_shift) := ⟨rfl, rfl, rfl, by decide +kernel, rfl, by decide +kernel, by decide +kernel⟩
abbrev s_spanned : Stmt := topS 23
abbrev N_spanned : List Str := ["shifts", "numbers", "shift"]
abbrev P_spanned : List Str := ["shifts"]
theorem sc_spanned : FnScope N_spanned P_spanned (defScope s_spanned) := ⟨rfl, rfl, rfl, by decide +kernel, rfl, by decide +kernel, by decide +kernel⟩
abbrev s_Net_init : Stmt := inClass (topS 25) 0
abbrev N_Net_init : List Str := ["self", "a", "b", "c"]
abbrev P_Net_init : List Str := ["self", "a", "b", "c"]
theorem sc_Net_init : FnScope N_Net_init P_Net_init (defScope s_Net_init) := ⟨rfl, rfl, rfl, by decide +kernel, rfl, by decide +kernel, by decide +kernel⟩
abbrev s_Net_whole : Stmt := inClass (topS 25) 2
abbrev N_Net_whole : List Str := ["cls"]
abbrev P_Net_whole : List Str := ["cls"]
theorem sc_Net_whole : FnScope N_Net_whole P_Net_whole (defScope s_Net_whole) := ⟨rfl, rfl, rfl, by decide +kernel, rfl, by decide +kernel, by decide +kernel⟩
abbrev s_Net_numbers : Stmt := inClass (topS 25) 3
abbrev N_Net_numbers : List Str := ["self"]
abbrev P_Net_numbers : List Str := ["self"]
theorem sc_Net_numbers : FnScope N_Net_numbers P_Net_numbers (defScope s_Net_numbers) := ⟨rfl, rfl, rfl, by decide +kernel, rfl, by decide +kernel, by decide +kernel⟩
abbrev s_Net_size : Stmt := inClass (topS 25) 4
abbrev N_Net_size : List Str := ["self", "a", "_", "c"]
abbrev P_Net_size : List Str := ["self"]
theorem sc_Net_size : FnScope N_Net_size P_Net_size (defScope s_Net_size) := ⟨rfl, rfl, rfl, by decide +kernel, rfl, by decide +kernel, by decide +kernel⟩
abbrev s_Net_contains : Stmt := inClass (topS 25) 5
abbrev N_Net_contains : List Str := ["self", "x"]
abbrev P_Net_contains : List Str := ["self", "x"]
theorem sc_Net_contains : FnScope N_Net_contains P_Net_contains (defScope s_Net_contains) := ⟨rfl, rfl, rfl, by decide +kernel, rfl, by decide +kernel, by decide +kernel⟩
abbrev s_Net_and : Stmt := inClass (topS 25) 6
abbrev N_Net_and : List Str := ["self", "other", "wide", "sizes", "a", "b", "c"]
abbrev P_Net_and : List Str := ["self", "other"]
theorem sc_Net_and : FnScope N_Net_and P_Net_and (defScope s_Net_and) := ⟨rfl, rfl, rfl, by decide +kernel, rfl, by decide +kernel, by decide +kernel⟩
abbrev s_Net_or : Stmt := inClass (topS 25) 7
abbrev N_Net_or : List Str := ["self", "other", "a", "b", "c"]
abbrev P_Net_or : List Str := ["self", "other"]
theorem sc_Net_or : FnScope N_Net_or P_Net_or (defScope s_Net_or) := ⟨rfl, rfl, rfl, by decide +kernel, rfl, by decide +kernel, by decide +kernel⟩
abbrev s_Net_mul : Stmt := inClass (topS 25) 8
abbrev N_Net_mul : List Str := ["self", "other", "a", "b", "c", "shift"]
abbrev P_Net_mul : List Str := ["self", "other"]
theorem sc_Net_mul : FnScope N_Net_mul P_Net_mul (defScope s_Net_mul) := ⟨rfl, rfl, rfl, by decide +kernel, rfl, by decide +kernel, by decide +kernel⟩
abbrev s_home : Stmt := topS 24
abbrev N_home : List Str := ["numbers", "place", "a", "b", "c", "x", "y"]
abbrev P_home : List Str := ["numbers", "place"]
theorem sc_home : FnScope N_home P_home (defScope s_home) := ⟨rfl, rfl, rfl, by decide +kernel, rfl, by decide +kernel, by decide +kernel⟩
abbrev s_Net_reduced : Stmt := inClass (topS 25) 9
abbrev N_Net_reduced : List Str := ["self", "place"]
abbrev P_Net_reduced : List Str := ["self", "place"]
theorem sc_Net_reduced : FnScope N_Net_reduced P_Net_reduced (defScope s_Net_reduced) := ⟨rfl, rfl, rfl, by decide +kernel, rfl, by decide +kernel, by decide +kernel⟩
abbrev s_Net_is_within : Stmt := inClass (topS 25) 12
abbrev N_Net_is_within : List Str := ["self", "other", "first", "second"]
abbrev P_Net_is_within : List Str := ["self", "other"]
theorem sc_Net_is_within : FnScope N_Net_is_within P_Net_is_within (defScope s_Net_is_within) := ⟨rfl, rfl, rfl, by decide +kernel, rfl, by decide +kernel, by decide +kernel⟩
abbrev s_Net_scaled : Stmt := inClass (topS 25) 13
abbrev N_Net_scaled : List Str := ["self", "factor", "a", "b", "c"]
abbrev P_Net_scaled : List Str := ["self", "factor"]
theorem sc_Net_scaled : FnScope N_Net_scaled P_Net_scaled (defScope s_Net_scaled) := ⟨rfl, rfl, rfl, by decide +kernel, rfl, by decide +kernel, by decide +kernel⟩
abbrev s_Net_eq : Stmt := inClass (topS 25) 14
abbrev N_Net_eq : List Str := ["self", "other"]
abbrev P_Net_eq : List Str := ["self", "other"]
theorem sc_Net_eq : FnScope N_Net_eq P_Net_eq (defScope s_Net_eq) := ⟨rfl, rfl, rfl, by decide +kernel, rfl, by decide +kernel, by decide +kernel⟩
abbrev s_law_tape : Stmt := topS 27
abbrev N_law_tape : List Str := ["_law_script"]
abbrev P_law_tape : List Str := ["_law_script"]
theorem sc_law_tape : FnScope N_law_tape P_law_tape (defScope s_law_tape) := ⟨rfl, rfl, rfl, by decide +kernel, rfl, by decide +kernel, by decide +kernel⟩
abbrev s_law_draw : Stmt := topS 28
abbrev N_law_draw : List Str := ["_law_tape_here", "_law_many", "_law_digit", "_law_cell", "_law_near"]
abbrev P_law_draw : List Str := ["_law_tape_here", "_law_many"]
theorem sc_law_draw : FnScope N_law_draw P_law_draw (defScope s_law_draw) := ⟨rfl, rfl, rfl, by decide +kernel, rfl, by decide +kernel, by decide +kernel⟩
abbrev s_law_great : Stmt := topS 29
abbrev N_law_great : List Str := ["_law_tape_here", "_law_size", "_law_high", "_law_value"]
abbrev P_law_great : List Str := ["_law_tape_here", "_law_size"]
theorem sc_law_great : FnScope N_law_great P_law_great (defScope s_law_great) := ⟨rfl, rfl, rfl, by decide +kernel, rfl, by decide +kernel, by decide +kernel⟩
abbrev s_law_place : Stmt := topS 30
abbrev N_law_place : List Str := ["_law_tape_here"]
abbrev P_law_place : List Str := ["_law_tape_here"]
theorem sc_law_place : FnScope N_law_place P_law_place (defScope s_law_place) := ⟨rfl, rfl, rfl, by decide +kernel, rfl, by decide +kernel, by decide +kernel⟩
abbrev s_law_net : Stmt := topS 31
abbrev N_law_net : List Str := ["_law_tape_here", "_law_most", "_law_wide"]
abbrev P_law_net : List Str := ["_law_tape_here", "_law_most"]
theorem sc_law_net : FnScope N_law_net P_law_net (defScope s_law_net) := ⟨rfl, rfl, rfl, by decide +kernel, rfl, by decide +kernel, by decide +kernel⟩
abbrev s_law_turned : Stmt := topS 32
abbrev N_law_turned : List Str := ["_law_kind", "_law_place_here", "_law_x", "_law_y"]
abbrev P_law_turned : List Str := ["_law_kind", "_law_place_here"]
theorem sc_law_turned : FnScope N_law_turned P_law_turned (defScope s_law_turned) := ⟨rfl, rfl, rfl, by decide +kernel, rfl, by decide +kernel, by decide +kernel⟩
abbrev s_law_kinds : Stmt := topS 33
abbrev N_law_kinds : List Str := []
abbrev P_law_kinds : List Str := []
theorem sc_law_kinds : FnScope N_law_kinds P_law_kinds (defScope s_law_kinds) := ⟨rfl, rfl, rfl, by decide +kernel, rfl, by decide +kernel, by decide +kernel⟩
abbrev s_law_divisor : Stmt := topS 34
abbrev N_law_divisor : List Str := ["_law_one", "_law_other"]
abbrev P_law_divisor : List Str := ["_law_one", "_law_other"]
theorem sc_law_divisor : FnScope N_law_divisor P_law_divisor (defScope s_law_divisor) := ⟨rfl, rfl, rfl, by decide +kernel, rfl, by decide +kernel, by decide +kernel⟩
abbrev s_law_net_of : Stmt := topS 35
abbrev N_law_net_of : List Str := ["_law_shifts", "_law_wide", "_law_low", "_law_one", "_law_far", "_law_times"]
abbrev P_law_net_of : List Str := ["_law_shifts"]
theorem sc_law_net_of : FnScope N_law_net_of P_law_net_of (defScope s_law_net_of) := ⟨rfl, rfl, rfl, by decide +kernel, rfl, by decide +kernel, by decide +kernel⟩
abbrev s_law_square : Stmt := topS 36
abbrev N_law_square : List Str := ["_law_tape_here", "_law_most", "_law_side", "_law_some", "_law_net_here"]
abbrev P_law_square : List Str := ["_law_tape_here", "_law_most"]
theorem sc_law_square : FnScope N_law_square P_law_square (defScope s_law_square) := ⟨rfl, rfl, rfl, by decide +kernel, rfl, by decide +kernel, by decide +kernel⟩
abbrev s_law_image_net : Stmt := topS 37
abbrev N_law_image_net : List Str := ["_law_net_here", "_law_kind"]
abbrev P_law_image_net : List Str := ["_law_net_here", "_law_kind"]
theorem sc_law_image_net : FnScope N_law_image_net P_law_image_net (defScope s_law_image_net) := ⟨rfl, rfl, rfl, by decide +kernel, rfl, by decide +kernel, by decide +kernel⟩
abbrev s_law_right : Stmt := topS 38
abbrev N_law_right : List Str := ["_law_tape_here", "_law_net_here", "_law_other", "_law_made", "_law_far", "_law_moves", "_law_kind", "_law_motion", "_law_image", "_law_turn", "_law_one", "_law_two"]
abbrev P_law_right : List Str := ["_law_tape_here", "_law_net_here", "_law_other"]
theorem sc_law_right : FnScope N_law_right P_law_right (defScope s_law_right) := ⟨rfl, rfl, rfl, by decide +kernel, rfl, by decide +kernel, by decide +kernel⟩
abbrev s_law : Stmt := topS 39
abbrev N_law : List Str := ["_law_script", "_law_tape_here", "_law_turn", "_law_net_here"]
abbrev P_law : List Str := ["_law_script"]
theorem sc_law : FnScope N_law P_law (defScope s_law) := ⟨rfl, rfl, rfl, by decide +kernel, rfl, by decide +kernel, by decide +kernel⟩
structure Ad where
  IMAGES : Addr
  PROBE : Addr
  KINDS : Addr
  dfl0 : Addr
  im_none : Addr
  im_left : Addr
  im_half : Addr
  im_right : Addr
  im_flip : Addr
  im_mirror : Addr
  im_swap : Addr
  im_cross : Addr
  C_Motion : Addr
  C_Net : Addr
  is_integer : Addr
  is_integer_d : FuncData
  is_place : Addr
  is_place_d : FuncData
  check_place : Addr
  check_place_d : FuncData
  check_positive : Addr
  check_positive_d : FuncData
  are_numbers : Addr
  are_numbers_d : FuncData
  turned : Addr
  turned_d : FuncData
  kind_between : Addr
  kind_between_d : FuncData
  Motion_init : Addr
  Motion_init_d : FuncData
  Motion_kind : Addr
  Motion_kind_d : FuncData
  p_Motion_kind : Addr
  Motion_shift : Addr
  Motion_shift_d : FuncData
  p_Motion_shift : Addr
  Motion_mul : Addr
  Motion_mul_d : FuncData
  Motion_invert : Addr
  Motion_invert_d : FuncData
  two_shifts : Addr
  two_shifts_d : FuncData
  with_shift : Addr
  with_shift_d : FuncData
  spanned : Addr
  spanned_d : FuncData
  Net_init : Addr
  Net_init_d : FuncData
  Net_whole : Addr
  Net_whole_d : FuncData
  p_Net_whole : Addr
  Net_numbers : Addr
  Net_numbers_d : FuncData
  p_Net_numbers : Addr
  Net_size : Addr
  Net_size_d : FuncData
  p_Net_size : Addr
  Net_contains : Addr
  Net_contains_d : FuncData
  Net_and : Addr
  Net_and_d : FuncData
  Net_or : Addr
  Net_or_d : FuncData
  Net_mul : Addr
  Net_mul_d : FuncData
  home : Addr
  home_d : FuncData
  Net_reduced : Addr
  Net_reduced_d : FuncData
  Net_is_within : Addr
  Net_is_within_d : FuncData
  Net_scaled : Addr
  Net_scaled_d : FuncData
  Net_eq : Addr
  Net_eq_d : FuncData
  law_tape : Addr
  law_tape_d : FuncData
  law_draw : Addr
  law_draw_d : FuncData
  law_great : Addr
  law_great_d : FuncData
  law_place : Addr
  law_place_d : FuncData
  law_net : Addr
  law_net_d : FuncData
  law_turned : Addr
  law_turned_d : FuncData
  law_kinds : Addr
  law_kinds_d : FuncData
  law_divisor : Addr
  law_divisor_d : FuncData
  law_net_of : Addr
  law_net_of_d : FuncData
  law_square : Addr
  law_square_d : FuncData
  law_image_net : Addr
  law_image_net_d : FuncData
  law_right : Addr
  law_right_d : FuncData
  law : Addr
  law_d : FuncData
structure Txt (w : World) (K : PySem.W.Frag) (mg : Str → Option Value) (a : Ad) : Prop where
  g_Motion : mg "Motion" = some (.ref a.C_Motion)
  cl_Motion : Cls K a.C_Motion
  k_Motion : Mk K a.C_Motion a.Motion_init
  g_Net : mg "Net" = some (.ref a.C_Net)
  cl_Net : Cls K a.C_Net
  k_Net : Mk K a.C_Net a.Net_init
  g_is_integer : mg "is_integer" = some (.ref a.is_integer)
  F_is_integer : Fun K "is_integer" "is_integer" s_is_integer a.is_integer a.is_integer_d
  b_is_integer : Binds K a.is_integer_d P_is_integer []
  g_is_place : mg "is_place" = some (.ref a.is_place)
  F_is_place : Fun K "is_place" "is_place" s_is_place a.is_place a.is_place_d
  b_is_place : Binds K a.is_place_d P_is_place []
  g_check_place : mg "check_place" = some (.ref a.check_place)
  F_check_place : Fun K "check_place" "check_place" s_check_place a.check_place a.check_place_d
  b_check_place : Binds K a.check_place_d P_check_place []
  g_check_positive : mg "check_positive" = some (.ref a.check_positive)
  F_check_positive : Fun K "check_positive" "check_positive" s_check_positive a.check_positive a.check_positive_d
  b_check_positive : Binds K a.check_positive_d P_check_positive []
  g_are_numbers : mg "are_numbers" = some (.ref a.are_numbers)
  F_are_numbers : Fun K "are_numbers" "are_numbers" s_are_numbers a.are_numbers a.are_numbers_d
  b_are_numbers : Binds K a.are_numbers_d P_are_numbers []
  g_turned : mg "turned" = some (.ref a.turned)
  F_turned : Fun K "turned" "turned" s_turned a.turned a.turned_d
  b_turned : Binds K a.turned_d P_turned []
  g_kind_between : mg "kind_between" = some (.ref a.kind_between)
  F_kind_between : Fun K "kind_between" "kind_between" s_kind_between a.kind_between a.kind_between_d
  b_kind_between : Binds K a.kind_between_d P_kind_between []
  F_Motion_init : FunD K "__init__" "Motion.__init__" (defArgs s_Motion_init) (defBody s_Motion_init) (defScope s_Motion_init) [V.ref a.dfl0] []  a.Motion_init a.Motion_init_d
  b_Motion_init : Binds K a.Motion_init_d P_Motion_init []
  bd_Motion_init : ∃ ds, Vals [V.ref a.dfl0] ds ∧ Binds K a.Motion_init_d P_Motion_init ds
  p_Motion_kind : PropOf K a.C_Motion "kind" a.p_Motion_kind a.Motion_kind
  F_Motion_kind : Fun K "kind" "Motion.kind" s_Motion_kind a.Motion_kind a.Motion_kind_d
  b_Motion_kind : Binds K a.Motion_kind_d P_Motion_kind []
  p_Motion_shift : PropOf K a.C_Motion "shift" a.p_Motion_shift a.Motion_shift
  F_Motion_shift : Fun K "shift" "Motion.shift" s_Motion_shift a.Motion_shift a.Motion_shift_d
  b_Motion_shift : Binds K a.Motion_shift_d P_Motion_shift []
  o_Motion_mul : HasS K a.C_Motion a.Motion_mul "__mul__"
  sf_Motion : PySem.W.selfFirst K a.C_Motion = true
  F_Motion_mul : Fun K "__mul__" "Motion.__mul__" s_Motion_mul a.Motion_mul a.Motion_mul_d
  b_Motion_mul : Binds K a.Motion_mul_d P_Motion_mul []
  o_Motion_invert : HasS K a.C_Motion a.Motion_invert "__invert__"
  F_Motion_invert : Fun K "__invert__" "Motion.__invert__" s_Motion_invert a.Motion_invert a.Motion_invert_d
  b_Motion_invert : Binds K a.Motion_invert_d P_Motion_invert []
  g_two_shifts : mg "two_shifts" = some (.ref a.two_shifts)
  F_two_shifts : Fun K "two_shifts" "two_shifts" s_two_shifts a.two_shifts a.two_shifts_d
  b_two_shifts : Binds K a.two_shifts_d P_two_shifts []
  g_with_shift : mg "with_shift" = some (.ref a.with_shift)
  F_with_shift : Fun K "with_shift" "with_shift" s_with_shift a.with_shift a.with_shift_d
  b_with_shift : Binds K a.with_shift_d P_with_shift []
  g_spanned : mg "spanned" = some (.ref a.spanned)
  F_spanned : Fun K "spanned" "spanned" s_spanned a.spanned a.spanned_d
  b_spanned : Binds K a.spanned_d P_spanned []
  F_Net_init : Fun K "__init__" "Net.__init__" s_Net_init a.Net_init a.Net_init_d
  b_Net_init : Binds K a.Net_init_d P_Net_init []
  cm_Net_whole : ClX.CMet K a.C_Net (.type "type") "whole" a.p_Net_whole a.Net_whole
  cr_Net_whole : ClX.CRead K a.C_Net (.type "type")
  F_Net_whole : Fun K "whole" "Net.whole" s_Net_whole a.Net_whole a.Net_whole_d
  b_Net_whole : Binds K a.Net_whole_d P_Net_whole []
  p_Net_numbers : PropOf K a.C_Net "numbers" a.p_Net_numbers a.Net_numbers
  F_Net_numbers : Fun K "numbers" "Net.numbers" s_Net_numbers a.Net_numbers a.Net_numbers_d
  b_Net_numbers : Binds K a.Net_numbers_d P_Net_numbers []
  p_Net_size : PropOf K a.C_Net "size" a.p_Net_size a.Net_size
  F_Net_size : Fun K "size" "Net.size" s_Net_size a.Net_size a.Net_size_d
  b_Net_size : Binds K a.Net_size_d P_Net_size []
  h_Net : HasC K a.C_Net a.Net_contains
  F_Net_contains : Fun K "__contains__" "Net.__contains__" s_Net_contains a.Net_contains a.Net_contains_d
  b_Net_contains : Binds K a.Net_contains_d P_Net_contains []
  o_Net_and : HasS K a.C_Net a.Net_and "__and__"
  sf_Net : PySem.W.selfFirst K a.C_Net = true
  F_Net_and : Fun K "__and__" "Net.__and__" s_Net_and a.Net_and a.Net_and_d
  b_Net_and : Binds K a.Net_and_d P_Net_and []
  o_Net_or : HasS K a.C_Net a.Net_or "__or__"
  F_Net_or : Fun K "__or__" "Net.__or__" s_Net_or a.Net_or a.Net_or_d
  b_Net_or : Binds K a.Net_or_d P_Net_or []
  o_Net_mul : HasS K a.C_Net a.Net_mul "__mul__"
  F_Net_mul : Fun K "__mul__" "Net.__mul__" s_Net_mul a.Net_mul a.Net_mul_d
  b_Net_mul : Binds K a.Net_mul_d P_Net_mul []
  g_home : mg "home" = some (.ref a.home)
  F_home : Fun K "home" "home" s_home a.home a.home_d
  b_home : Binds K a.home_d P_home []
  m_Net_reduced : Meth K a.C_Net "reduced" a.Net_reduced
  F_Net_reduced : Fun K "reduced" "Net.reduced" s_Net_reduced a.Net_reduced a.Net_reduced_d
  b_Net_reduced : Binds K a.Net_reduced_d P_Net_reduced []
  m_Net_is_within : Meth K a.C_Net "is_within" a.Net_is_within
  F_Net_is_within : Fun K "is_within" "Net.is_within" s_Net_is_within a.Net_is_within a.Net_is_within_d
  b_Net_is_within : Binds K a.Net_is_within_d P_Net_is_within []
  m_Net_scaled : Meth K a.C_Net "scaled" a.Net_scaled
  F_Net_scaled : Fun K "scaled" "Net.scaled" s_Net_scaled a.Net_scaled a.Net_scaled_d
  b_Net_scaled : Binds K a.Net_scaled_d P_Net_scaled []
  e_Net : EqC K a.C_Net a.Net_eq
  F_Net_eq : Fun K "__eq__" "Net.__eq__" s_Net_eq a.Net_eq a.Net_eq_d
  b_Net_eq : Binds K a.Net_eq_d P_Net_eq []
  g_law_tape : mg "_law_tape" = some (.ref a.law_tape)
  F_law_tape : Fun K "_law_tape" "_law_tape" s_law_tape a.law_tape a.law_tape_d
  b_law_tape : Binds K a.law_tape_d P_law_tape []
  g_law_draw : mg "_law_draw" = some (.ref a.law_draw)
  F_law_draw : Fun K "_law_draw" "_law_draw" s_law_draw a.law_draw a.law_draw_d
  b_law_draw : Binds K a.law_draw_d P_law_draw []
  g_law_great : mg "_law_great" = some (.ref a.law_great)
  F_law_great : Fun K "_law_great" "_law_great" s_law_great a.law_great a.law_great_d
  b_law_great : Binds K a.law_great_d P_law_great []
  g_law_place : mg "_law_place" = some (.ref a.law_place)
  F_law_place : Fun K "_law_place" "_law_place" s_law_place a.law_place a.law_place_d
  b_law_place : Binds K a.law_place_d P_law_place []
  g_law_net : mg "_law_net" = some (.ref a.law_net)
  F_law_net : Fun K "_law_net" "_law_net" s_law_net a.law_net a.law_net_d
  b_law_net : Binds K a.law_net_d P_law_net []
  g_law_turned : mg "_law_turned" = some (.ref a.law_turned)
  F_law_turned : Fun K "_law_turned" "_law_turned" s_law_turned a.law_turned a.law_turned_d
  b_law_turned : Binds K a.law_turned_d P_law_turned []
  g_law_kinds : mg "_law_kinds" = some (.ref a.law_kinds)
  F_law_kinds : Fun K "_law_kinds" "_law_kinds" s_law_kinds a.law_kinds a.law_kinds_d
  b_law_kinds : Binds K a.law_kinds_d P_law_kinds []
  g_law_divisor : mg "_law_divisor" = some (.ref a.law_divisor)
  F_law_divisor : Fun K "_law_divisor" "_law_divisor" s_law_divisor a.law_divisor a.law_divisor_d
  b_law_divisor : Binds K a.law_divisor_d P_law_divisor []
  g_law_net_of : mg "_law_net_of" = some (.ref a.law_net_of)
  F_law_net_of : Fun K "_law_net_of" "_law_net_of" s_law_net_of a.law_net_of a.law_net_of_d
  b_law_net_of : Binds K a.law_net_of_d P_law_net_of []
  g_law_square : mg "_law_square" = some (.ref a.law_square)
  F_law_square : Fun K "_law_square" "_law_square" s_law_square a.law_square a.law_square_d
  b_law_square : Binds K a.law_square_d P_law_square []
  g_law_image_net : mg "_law_image_net" = some (.ref a.law_image_net)
  F_law_image_net : Fun K "_law_image_net" "_law_image_net" s_law_image_net a.law_image_net a.law_image_net_d
  b_law_image_net : Binds K a.law_image_net_d P_law_image_net []
  g_law_right : mg "_law_right" = some (.ref a.law_right)
  F_law_right : Fun K "_law_right" "_law_right" s_law_right a.law_right a.law_right_d
  b_law_right : Binds K a.law_right_d P_law_right []
  g_law : mg "law" = some (.ref a.law)
  F_law : Fun K "law" "law" s_law a.law a.law_d
  b_law : Binds K a.law_d P_law []
  z_abs : mg "abs" = none
  z_bool : mg "bool" = none
  z_int : mg "int" = none
  z_isinstance : mg "isinstance" = none
  z_len : mg "len" = none
  z_list : mg "list" = none
  z_range : mg "range" = none
  z_repr : mg "repr" = none
  z_str : mg "str" = none
  z_tuple : mg "tuple" = none
  g_gcd : mg "gcd" = some (.builtin "math.gcd")
  n_Net_numbers : NoAttr K a.C_Net "_numbers"
  i_Net : IsC K a.C_Net
  v_IMAGES : mg "IMAGES" = some (.ref a.IMAGES)
  v_PROBE : mg "PROBE" = some (.ref a.PROBE)
  t_PROBE : KT K a.PROBE [V.int 1, V.int 2]
  t_dfl0 : KT K a.dfl0 [V.int 0, V.int 0]
  c_KINDS : ClX.CVal K a.C_Motion (.type "type") "KINDS" (V.ref a.KINDS) (.ref a.KINDS)
  t_KINDS : KT K a.KINDS [V.str "none", V.str "left", V.str "half", V.str "right", V.str "flip", V.str "mirror", V.str "swap", V.str "cross"]
  kk : KKeys K a.IMAGES [V.str "none", V.str "left", V.str "half", V.str "right", V.str "flip", V.str "mirror", V.str "swap", V.str "cross"]
  d_none : KDct K w a.IMAGES "none" (V.ref a.im_none)
  d_left : KDct K w a.IMAGES "left" (V.ref a.im_left)
  d_half : KDct K w a.IMAGES "half" (V.ref a.im_half)
  d_right : KDct K w a.IMAGES "right" (V.ref a.im_right)
  d_flip : KDct K w a.IMAGES "flip" (V.ref a.im_flip)
  d_mirror : KDct K w a.IMAGES "mirror" (V.ref a.im_mirror)
  d_swap : KDct K w a.IMAGES "swap" (V.ref a.im_swap)
  d_cross : KDct K w a.IMAGES "cross" (V.ref a.im_cross)
  t_none : KT K a.im_none [V.int 1, V.int 0, V.int 0, V.int 1]
  t_left : KT K a.im_left [V.int 0, V.int (-1), V.int 1, V.int 0]
  t_half : KT K a.im_half [V.int (-1), V.int 0, V.int 0, V.int (-1)]
  t_right : KT K a.im_right [V.int 0, V.int 1, V.int (-1), V.int 0]
  t_flip : KT K a.im_flip [V.int 1, V.int 0, V.int 0, V.int (-1)]
  t_mirror : KT K a.im_mirror [V.int (-1), V.int 0, V.int 0, V.int 1]
  t_swap : KT K a.im_swap [V.int 0, V.int 1, V.int 1, V.int 0]
  t_cross : KT K a.im_cross [V.int 0, V.int (-1), V.int (-1), V.int 0]
  n_kind : NoAttr K a.C_Motion "_kind"
  n_shift : NoAttr K a.C_Motion "_shift"
  i_Motion : IsC K a.C_Motion
  two_NM : Two K a.C_Net a.C_Motion a.Net_mul a.Motion_mul "__mul__" "__rmul__"
  cr_Motion : ClX.CRead K a.C_Motion (.type "type")
local macro_rules | `(tactic| walk_at "up") => `(tactic| first
  | assumption
  | (refine' IT.mv ?s ?g; (case s => assumption); (case g => walk_at "up"))
  | (refine' IT.k ?g; (case g => walk_at "up"))
  | (refine' IK.mv ?s ?g; (case s => assumption); (case g => walk_at "up"))
  | (refine' Tape.mvN ?s ?g; (case s => assumption); (case g => walk_at "up"))
  | (refine' Tape.mvS ?s ?g; (case s => assumption); (case g => walk_at "up"))
  | (refine' At.tup ?s ?g; (case s => assumption); (case g => walk_at "up"))
  | (refine' At.ins ?s ?g; (case s => assumption); (case g => walk_at "up"))
  | (refine' At.lst ?s ?g; (case s => assumption); (case g => walk_at "up"))
  | (refine' At.lstS ?s ?n ?g; (case s => assumption); (case n => assumption); (case g => walk_at "up"))
  | fail)
local macro_rules | `(tactic| walk_at "st") => `(tactic| first
  | assumption
  | exact Stp.refl _ _
  | (refine' Stp.w ?s; (case s => assumption))
  | (refine' Stp.trans ?g ?s; (case s => (first | assumption | (refine' Stp.w ?u; (case u => assumption)))); (case g => walk_at "st"))
  | fail)
local macro_rules | `(tactic| walk_at "bT") => `(tactic| first
  | decide
  | (simp only [Bool.not_eq_true', Bool.not_eq_false', decide_eq_true_eq, decide_eq_false_iff_not]; omega)
  | fail)
local macro_rules | `(tactic| walk_at "sd") => `(tactic| first | assumption | decide | omega | fail)
local macro_rules | `(tactic| walk_at "r") => `(tactic| first
  | (with_reducible refine r_seq ?_)
  | (with_reducible refine r_asg ?_)
  | ((with_reducible refine' r_var ?h ?k); (case h => rfl))
  | (with_reducible refine r_c ?_)
  | (with_reducible refine r_op ?_)
  | (with_reducible refine r_un ?_)
  | (with_reducible refine r_nil ?_)
  | (with_reducible refine r_cons ?_)
  | (with_reducible refine r_tup ?_)
  | (with_reducible refine r_lst ?_)
  | (with_reducible refine r_cbLen ?_)
  | (with_reducible refine r_cbInt ?_)
  | (with_reducible refine r_cbRepr ?_)
  | (with_reducible refine r_cbTup ?_)
  | (with_reducible refine r_cbLst ?_)
  | (with_reducible refine r_cb ?_)
  | (with_reducible refine r_prop ?_)
  | (with_reducible refine r_andV ?_)
  | (with_reducible refine r_orV ?_)
  | (with_reducible refine r_notV ?_)
  | (with_reducible refine r_chain ?_)
  | (with_reducible refine r_ifE ?_)
  | (with_reducible refine r_test ?_)
  | (with_reducible refine r_B ?_)
  | (with_reducible refine r_and ?_)
  | (with_reducible refine r_or ?_)
  | (with_reducible refine r_not ?_)
  | (with_reducible refine r_yes ?_)
  | (with_reducible refine r_k ?_)
  | (with_reducible refine r_kV ?_)
  | (with_reducible refine r_next ?_)
  | (with_reducible refine r_drop ?_)
  | (with_reducible refine r_ret ?_)
  | (with_reducible refine r_ifS ?_)
  | (with_reducible refine r_par ?_)
  | (with_reducible refine r_par1 ?_)
  | (with_reducible refine r_gname ?_)
  | (with_reducible refine r_gnil ?_)
  | (with_reducible refine r_gcons ?_)
  | ((with_reducible refine' r_unpack2 ?h ?k); (case h => walk_at "up"))
  | ((with_reducible refine' r_unpack3 ?h ?k); (case h => walk_at "up"))
  | (with_reducible refine r_add ?_)
  | (with_reducible refine r_sub ?_)
  | (with_reducible refine r_neg ?_)
  | ((with_reducible refine' r_mod ?h ?k); (case h => walk_at "sd"))
  | ((with_reducible refine' r_div ?h ?k); (case h => walk_at "sd"))
  | ((with_reducible refine' r_mul ?h ?k); (case h => walk_at "sd"))
  | ((with_reducible refine' r_mulW ?h ?k); (case h => walk_at "sd"))
  | ((with_reducible refine' r_pow ?h ?k); (case h => (show (0 : Int) ≤ _ ∧ _ ∧ _; decide)))
  | (with_reducible refine r_lt ?_)
  | (with_reducible refine r_le ?_)
  | (with_reducible refine r_gt ?_)
  | (with_reducible refine r_ge ?_)
  | (with_reducible refine r_eqI ?_)
  | (with_reducible refine r_neI ?_)
  | (with_reducible refine r_eqS ?_)
  | (with_reducible refine r_neS ?_)
  | ((with_reducible refine' r_eqT ?h ?g ?k); (case h => walk_at "up"); (case g => walk_at "up"))
  | ((with_reducible refine' r_neT ?h ?g ?k); (case h => walk_at "up"); (case g => walk_at "up"))
  | ((with_reducible refine' r_ix0 ?h ?k); (case h => walk_at "up"))
  | ((with_reducible refine' r_ix1 ?h ?k); (case h => walk_at "up"))
  | ((with_reducible refine' r_ix2 ?h ?k); (case h => walk_at "up"))
  | (with_reducible refine r_newI2 (fun v H2 S I => ?_))
  | (with_reducible refine r_newI3 (fun v H2 S I => ?_))
  | (with_reducible refine r_newL1 (fun p H2 S hp np => ?_))
  | (with_reducible refine r_newL2 (fun p H2 S hp np => ?_))
  | (with_reducible refine r_newL3 (fun p H2 S hp np => ?_))
  | (with_reducible refine r_T ?_)
  | (with_reducible refine r_F ?_)
  | fail)
local macro_rules | `(tactic| walk_at "go") => `(tactic| repeat (walk_at "r"))
local macro_rules | `(tactic| walk_at "r") => `(tactic| first
  | (with_reducible refine r_call0 ?_)
  | (with_reducible refine r_meth0 ?_)
  | (with_reducible refine r_make0 ?_)
  | (with_reducible refine r_isiII ?_)
  | (with_reducible refine r_isiIB ?_)
  | ((with_reducible refine' r_isiTT ?h ?k); (case h => walk_at "up"))
  | ((with_reducible refine' r_len2 ?h ?k); (case h => walk_at "up"))
  | ((with_reducible refine' r_len3 ?h ?k); (case h => walk_at "up"))
  | ((with_reducible refine' r_lenL ?h ?k); (case h => walk_at "up"))
  | (with_reducible refine r_int1 ?_)
  | (with_reducible refine r_int1B ?_)
  | (with_reducible refine r_nT ?_)
  | (with_reducible refine r_nF ?_)
  | (with_reducible refine r_gcd ?_)
  | (with_reducible refine r_gsub ?_)
  | (with_reducible refine r_fld ?_)
  | (with_reducible refine r_p6 ?_)
  | (with_reducible refine r_p9 ?_)
  | (with_reducible refine r_p10 ?_)
  | (with_reducible refine r_p11 ?_)
  | (with_reducible refine r_p12 ?_)
  | (with_reducible refine r_p18 ?_)
  | (with_reducible refine r_p20 ?_)
  | (with_reducible refine r_p26 ?_)
  | (with_reducible refine r_p27 ?_)
  | (with_reducible refine r_p30 ?_)
  | ((with_reducible refine' r_iF ?h ?k); (case h => walk_at "bT"))
  | ((with_reducible refine' r_iT ?h ?k); (case h => walk_at "bT"))
  | (with_reducible refine r_sfld ?_)
  | (with_reducible refine r_sl ?_)
  | (with_reducible refine r_noPart ?_)
  | (with_reducible refine r_part ?_)
  | (with_reducible refine r_pk ?_)
  | ((with_reducible refine' r_unl2 ?h ?k); (case h => walk_at "up"))
  | ((with_reducible refine' r_ixLi ?h ?h0 ?hn ?k); (case h => walk_at "up"); (case h0 => walk_at "sd"); (case hn => rfl))
  | fail)

section
variable {P : Program} {w : World} {K : PySem.W.Frag} {mg : Str → Option Value} {base : Heap} {ad : Ad} {H : Hp} {Q : VK} {E : XK} {i j x y : Int} {v : V}

/-- the greatest number of this proof -/
def N1 : Int := 10 ^ 2000
theorem n1_big : (10 : Int) ^ 100 ≤ N1 := by unfold N1; decide +kernel
theorem n1_log {i : Int} (h : -N1 ≤ i) (h2 : i ≤ N1) : i.natAbs < 2 ^ 7000 := by
  have : N1 < 2 ^ 7000 := by unfold N1; decide +kernel
  have : (N1 : Int) < ((2 ^ 7000 : Nat) : Int) := by exact_mod_cast this
  omega
theorem mulN {i j : Int} (h1 : -N1 ≤ i) (h2 : i ≤ N1) (h3 : -N1 ≤ j) (h4 : j ≤ N1) : CMulW i j := wide_mul (n1_log h1 h2) (n1_log h3 h4) (by decide) (by decide) (by decide)
theorem divN {i j : Int} (h : 0 < j) (h2 : j ≤ N1) : CDivW i j := wide_div h (n1_log (by omega) h2) (by decide) (by decide)
theorem divN9 {i j : Int} (h : j ≠ 0) (h1 : -N1 ≤ j) (h2 : j ≤ N1) : CDivN9 i j := ⟨h, Nat.lt_of_lt_of_le (PySem.Flt.log2_lt_of (by decide) (n1_log h1 h2)) (by decide)⟩

/-! ### checks -/
def sp_is_integer : Sp := fun vs H Q _ => ∃ i, vs = [.int i] ∧ Q (.bl true) H
theorem do_is_integer (q : Q (.bl true) H) : sp_is_integer [.int i] H Q E := ⟨i, rfl, q⟩
theorem ok_is_integer (T : Txt w K mg ad) : FnG P w K mg base CX0 1 ad.is_integer ad.is_integer_d P_is_integer sp_is_integer := by
  refine Fun.g T.F_is_integer sc_is_integer (fun vs H Q E h => ?_) (fun cdv A outer s H vs Q E hr hg h => ?_)
  · obtain ⟨i, rfl, _⟩ := h
    rfl
  · obtain ⟨i, rfl, q⟩ := h
    refine ⟨_, (pss_one (ps_ret (pe_and (pe_callB call_isi (by rfl) T.z_isinstance (by decide +kernel) (pa_cons (pv 0) (pa_cons (pe_bltn (v := V.ty "int") (u := Value.type "int") (by rfl) T.z_int (by decide +kernel) rfl) pa_nil))) (pe_one (pe_not (pe_callB call_isi (by rfl) T.z_isinstance (by decide +kernel) (pa_cons (pv 0) (pa_cons (pe_bltn (v := V.ty "bool") (u := Value.type "bool") (by rfl) T.z_bool (by decide +kernel) rfl) pa_nil)))))))), ?_⟩
    walk_at "go"
    exact q
local macro_rules | `(tactic| walk_at "r") => `(tactic| with_reducible refine do_is_integer ?_)

def sp_is_place (K : PySem.W.Frag) : Sp := fun vs H Q _ => ∃ v x y, vs = [v] ∧ IK K H v [x, y] ∧ Q (.bl true) H
theorem do_is_place (h : IK K H v [x, y]) (q : Q (.bl true) H) : sp_is_place K [v] H Q E := ⟨v, x, y, rfl, h, q⟩
theorem ok_is_place (T : Txt w K mg ad) : FnG P w K mg base CX0 2 ad.is_place ad.is_place_d P_is_place (sp_is_place K) := by
  have G_is_integer := ok_is_integer (P := P) (w := w) (base := base) T
  refine Fun.g T.F_is_place sc_is_place (fun vs H Q E h => ?_) (fun cdv A outer s H vs Q E hr hg h => ?_)
  · obtain ⟨v, x, y, rfl, _⟩ := h
    rfl
  · obtain ⟨v, x, y, rfl, hI, q⟩ := h
    refine ⟨_, (pss_cons (ps_if (PW.pt (pw_or (pt_not (pt_val (pe_callB call_isi (by rfl) T.z_isinstance (by decide +kernel) (pa_cons (pv 0) (pa_cons (pe_bltn (v := V.ty "tuple") (u := Value.type "tuple") (by rfl) T.z_tuple (by decide +kernel) rfl) pa_nil))))) (pw_or1 (pt_cmpR op_ne (pe_callB call_len_seq (by rfl) T.z_len (by decide +kernel) (pa_cons (pv 0) pa_nil)) pe_int (nomark _)))))
      (pss_one (ps_ret pe_bl)) pss_nil)
      (pss_one (ps_ret (pe_and (peg_call G_is_integer (hr.mono (by decide)) hg (by rfl) T.g_is_integer T.F_is_integer.kp T.b_is_integer .nil pass0 (pa_cons (pe_ix ix_seq (pv 0) pe_int (fun _ _ => rfl)) pa_nil)) (pe_one (peg_call G_is_integer (hr.mono (by decide)) hg (by rfl) T.g_is_integer T.F_is_integer.kp T.b_is_integer .nil pass0 (pa_cons (pe_ix ix_seq (pv 0) pe_int (fun _ _ => rfl)) pa_nil))))))), ?_⟩
    walk_at "go"
    exact q
local macro_rules | `(tactic| walk_at "r") => `(tactic| first | ((with_reducible refine' do_is_place ?h ?k); (case h => walk_at "up")) | fail)

def sp_check_place (K : PySem.W.Frag) : Sp := fun vs H Q _ => ∃ v x y, vs = [v] ∧ IK K H v [x, y] ∧ Q .non H
theorem do_check_place (h : IK K H v [x, y]) (q : Q .non H) : sp_check_place K [v] H Q E := ⟨v, x, y, rfl, h, q⟩
theorem ok_check_place (T : Txt w K mg ad) : FnG P w K mg base CX0 3 ad.check_place ad.check_place_d P_check_place (sp_check_place K) := by
  have G_is_place := ok_is_place (P := P) (w := w) (base := base) T
  refine Fun.g T.F_check_place sc_check_place (fun vs H Q E h => ?_) (fun cdv A outer s H vs Q E hr hg h => ?_)
  · obtain ⟨v, x, y, rfl, _⟩ := h
    rfl
  · obtain ⟨v, x, y, rfl, hI, q⟩ := h
    refine ⟨_, (pss_one (ps_if (pt_not (pt_val (peg_call G_is_place (hr.mono (by decide)) hg (by rfl) T.g_is_place T.F_is_place.kp T.b_is_place .nil pass0 (pa_cons (pv 0) pa_nil))))
      (pss_one ps_never) pss_nil)), ?_⟩
    walk_at "go"
    exact q
local macro_rules | `(tactic| walk_at "r") => `(tactic| first | ((with_reducible refine' do_check_place ?h ?k); (case h => walk_at "up")) | fail)

/-! ### nets -/
/-- the numbers of a net -/
structure Nm (a b c : Int) : Prop where
  a1 : 1 ≤ a
  c1 : 1 ≤ c
  b0 : 0 ≤ b
  ba : b < a
  az : a ≤ N1
  cz : c ≤ N1
def sp_are_numbers : Sp := fun vs H Q _ => ∃ a b c, vs = [.int a, .int b, .int c] ∧ Nm a b c ∧ Q (.bl true) H
theorem do_are_numbers {a b c : Int} (h : Nm a b c) (q : Q (.bl true) H) : sp_are_numbers [.int a, .int b, .int c] H Q E := ⟨a, b, c, rfl, h, q⟩
theorem ok_are_numbers (T : Txt w K mg ad) : FnG P w K mg base CX0 2 ad.are_numbers ad.are_numbers_d P_are_numbers sp_are_numbers := by
  have G_is_integer := ok_is_integer (P := P) (w := w) (base := base) T
  refine Fun.g T.F_are_numbers sc_are_numbers (fun vs H Q E h => ?_) (fun cdv A outer s H vs Q E hr hg h => ?_)
  · obtain ⟨a, b, c, rfl, _⟩ := h
    rfl
  · obtain ⟨a, b, c, rfl, n, q⟩ := h
    obtain ⟨h1, h2, h3, h4, _, _⟩ := n
    refine ⟨_, (pss_cons (ps_if (pt_not (PW.pt (pw_and (pt_val (peg_call G_is_integer (hr.mono (by decide)) hg (by rfl) T.g_is_integer T.F_is_integer.kp T.b_is_integer .nil pass0 (pa_cons (pv 0) pa_nil))) (pw_and (pt_val (peg_call G_is_integer (hr.mono (by decide)) hg (by rfl) T.g_is_integer T.F_is_integer.kp T.b_is_integer .nil pass0 (pa_cons (pv 1) pa_nil))) (pw_and1 (pt_val (peg_call G_is_integer (hr.mono (by decide)) hg (by rfl) T.g_is_integer T.F_is_integer.kp T.b_is_integer .nil pass0 (pa_cons (pv 2) pa_nil))))))))
      (pss_one (ps_ret pe_bl)) pss_nil)
      (pss_one (ps_ret (pe_and (pe_cmpR op_ge (pv 0) pe_int (nomark _)) (pe_and (pe_cmpR op_ge (pv 2) pe_int (nomark _)) (pe_one (pe_chain op_le op_lt pe_int (pv 1) (pv 0)))))))), ?_⟩
    walk_at "go"
    rw [decide_eq_true h4]
    exact q
local macro_rules | `(tactic| walk_at "r") => `(tactic| first | ((with_reducible refine' do_are_numbers ?h ?k); (case h => assumption)) | fail)

def sp_two_shifts : Sp := fun vs H Q _ => ∃ v a b c, vs = [v] ∧ IT H v [a, b, c] ∧
  ∀ p H' u w, Stp none H H' → H' p = some (.lst [u, w]) → IT H' u [a, 0] → IT H' w [b, c] → Q (.ref p) H'
theorem ok_two_shifts (T : Txt w K mg ad) : FnG P w K mg base CX0 1 ad.two_shifts ad.two_shifts_d P_two_shifts sp_two_shifts := by
  refine Fun.g T.F_two_shifts sc_two_shifts (fun vs H Q E h => ?_) (fun cdv A outer s H vs Q E hr hg h => ?_)
  · obtain ⟨v, a, b, c, rfl, _⟩ := h
    rfl
  · obtain ⟨v, a, b, c, rfl, hI, q⟩ := h
    refine ⟨_, (pss_cons (ps_asg (pv 0) (pg_tup (n := 3) rfl (pgs_cons (pg_name (i := 1) sc_two_shifts.nd rfl (Or.inl rfl)) (pgs_cons (pg_name (i := 2) sc_two_shifts.nd rfl (Or.inl rfl)) (pgs_cons (pg_name (i := 3) sc_two_shifts.nd rfl (Or.inl rfl)) pgs_nil)))))
      (pss_one (ps_ret (pe_lst (pa_cons (pe_tup (pa_cons (pv 1) (pa_cons pe_int pa_nil))) (pa_cons (pe_tup (pa_cons (pv 2) (pa_cons (pv 3) pa_nil))) pa_nil)))))), ?_⟩
    walk_at "go"
    exact q _ _ _ _ (by walk_at "st") (by assumption) (by walk_at "up") (by walk_at "up")

/-- v is a Net of these numbers -/
def NA (C : Addr) (H : Hp) (v : V) (a b c : Int) : Prop := Nm a b c ∧ ∃ p dx u, v = .ref p ∧ H p = some (.ins C dx (putF "_numbers" u [])) ∧ IT H u [a, b, c]
theorem NA.mv {C : Addr} {t : Option Addr} {H H' : Hp} {v : V} {a b c : Int} (s : Stp t H H') (h : NA C H v a b c) : NA C H' v a b c := by
  obtain ⟨n, p, dx, u, e, h1, h2⟩ := h
  exact ⟨n, p, dx, u, e, At.ins s h1, h2.mv s⟩
local macro_rules | `(tactic| walk_at "up") => `(tactic| first | (refine' NA.mv ?s ?g; (case s => assumption); (case g => walk_at "up")) | fail)

def sp_Net_init (C : Addr) : Sp := fun vs H Q _ => ∃ p dx a b c, vs = [.ref p, .int a, .int b, .int c] ∧ Nm a b c ∧ H p = some (.ins C dx []) ∧
  ∀ H', (∀ b o, b ≠ p → H b = some o → H' b = some o) → NA C H' (.ref p) a b c → Q .non H'
theorem ok_Net_init (T : Txt w K mg ad) : FnG P w K mg base CX0 3 ad.Net_init ad.Net_init_d P_Net_init (sp_Net_init ad.C_Net) := by
  have G_are_numbers := ok_are_numbers (P := P) (w := w) (base := base) T
  refine Fun.g T.F_Net_init sc_Net_init (fun vs H Q E h => ?_) (fun cdv A outer s H vs Q E hr hg h => ?_)
  · obtain ⟨p, dx, a, b, c, rfl, _⟩ := h
    rfl
  · obtain ⟨p, dx, a, b, c, rfl, n, hp, q⟩ := h
    refine ⟨_, (pss_cons (ps_if (pt_not (pt_val (peg_call G_are_numbers (hr.mono (by decide)) hg (by rfl) T.g_are_numbers T.F_are_numbers.kp T.b_are_numbers .nil pass0 (pa_cons (pv 1) (pa_cons (pv 2) (pa_cons (pv 3) pa_nil))))))
      (pss_one ps_never) pss_nil)
      (pss_one (ps_fld (pv 0) (pe_tup (pa_cons (pe_callTy call_int1 (by rfl) T.z_int (by decide +kernel) (pa_cons (pv 1) pa_nil)) (pa_cons (pe_callTy call_int1 (by rfl) T.z_int (by decide +kernel) (pa_cons (pv 2) pa_nil)) (pa_cons (pe_callTy call_int1 (by rfl) T.z_int (by decide +kernel) (pa_cons (pv 3) pa_nil)) pa_nil)))) rfl))), ?_⟩
    walk_at "go"
    refine ⟨p, ad.C_Net, dx, [], rfl, by walk_at "up", T.cl_Net, T.n_Net_numbers, Nat.zero_lt_succ _, ?_⟩
    rename_i u H2 S hI
    refine q _ (fun b o nb e => ?_) ⟨n, p, dx, u, rfl, upd_same, ?_⟩
    · rw [upd_ne nb]
      exact S.all _ _ e
    · obtain ⟨t, rfl, ht⟩ := hI
      exact ⟨t, rfl, by rw [upd_ne (ne_of ht (S.all _ _ hp) (by intro z; cases z))]; exact ht⟩
/-- Net(a, b, c) -/
theorem do_Net {C : Addr} {a b c : Int} (n : Nm a b c) (k : ∀ v H', Stp none H H' → NA C H' v a b c → Q v H') :
    MkR C (sp_Net_init C) [.int a, .int b, .int c] H Q E := by
  intro x dx hx hd ne
  refine ⟨x, dx, a, b, c, rfl, n, upd_same, fun H' s h => ⟨rfl, k _ _ (Stp.of (fun b o e => s b o (ne_of_none e hx) ?_) none) h⟩⟩
  rw [upd_ne (ne_of_none e hx), upd_ne (ne_of_none e hd)]
  exact e

theorem pe_NA {C : Addr} {sp : Sp} {a b c : Int} (h : NA C H v a b c) (q : ∀ p u dx, v = .ref p → H p = some (.ins C dx (putF "_numbers" u [])) → IT H u [a, b, c] → sp [.ref p] H Q E) :
    ∃ p dx fs, v = .ref p ∧ H p = some (.ins C dx fs) ∧ sp (.ref p :: []) H Q E := by
  obtain ⟨n, p, dx, u, e, h1, h2⟩ := h
  exact ⟨p, dx, _, e, h1, q p u dx e h1 h2⟩
theorem put_numbers (u : V) : (putF "_numbers" u []).lookup ("_numbers" : Str) = some u := by rw [lookup_putF, if_pos rfl]
theorem put_other (u : V) {m : Str} (h : m ≠ "_numbers") : (putF "_numbers" u []).lookup m = none := by rw [lookup_putF, if_neg h]; rfl
/-- v._numbers -/
theorem r_numF {C p dx : Addr} {u : V} {K : PySem.W.Frag} (c : Cls K C) (n : NoAttr K C "_numbers") (h : H p = some (.ins C dx (putF "_numbers" u []))) (q : Q u H) :
    FldR K "_numbers" (.ref p) H Q :=
  ⟨p, C, dx, _, u, rfl, h, c, n, put_numbers u, q⟩

def sp_Net_numbers (C : Addr) : Sp := fun vs H Q _ => ∃ p a b c, vs = [.ref p] ∧ NA C H (.ref p) a b c ∧ ∀ u, IT H u [a, b, c] → Q u H
theorem ok_Net_numbers (T : Txt w K mg ad) : FnG P w K mg base CX0 1 ad.Net_numbers ad.Net_numbers_d P_Net_numbers (sp_Net_numbers ad.C_Net) := by
  refine Fun.g T.F_Net_numbers sc_Net_numbers (fun vs H Q E h => ?_) (fun cdv A outer s H vs Q E hr hg h => ?_)
  · obtain ⟨p, a, b, c, rfl, _⟩ := h
    rfl
  · obtain ⟨p, a, b, c, rfl, ⟨_, p', dx, u, e, h1, h2⟩, q⟩ := h
    cases e
    refine ⟨_, (pss_one (ps_ret (pe_fld (pv 0) rfl))), ?_⟩
    walk_at "go"
    exact r_numF T.cl_Net T.n_Net_numbers h1 (q u h2)
theorem do_Net_numbers {C : Addr} {a b c : Int} (h : NA C H v a b c) (k : ∀ u, IT H u [a, b, c] → Q u H) :
    ∃ p dx fs, v = .ref p ∧ H p = some (.ins C dx fs) ∧ sp_Net_numbers C (.ref p :: []) H Q E := by
  have h' := h
  obtain ⟨_, p, dx, u, rfl, h1, _⟩ := h'
  exact ⟨p, dx, _, rfl, h1, p, a, b, c, rfl, h, k⟩

def sp_Net_size (C : Addr) : Sp := fun vs H Q _ => ∃ p a b c, vs = [.ref p] ∧ NA C H (.ref p) a b c ∧ Q (.int (a * c)) H
theorem ok_Net_size (T : Txt w K mg ad) : FnG P w K mg base CX0 1 ad.Net_size ad.Net_size_d P_Net_size (sp_Net_size ad.C_Net) := by
  refine Fun.g T.F_Net_size sc_Net_size (fun vs H Q E h => ?_) (fun cdv A outer s H vs Q E hr hg h => ?_)
  · obtain ⟨p, a, b, c, rfl, _⟩ := h
    rfl
  · obtain ⟨p, a, b, c, rfl, ⟨n, p', dx, u, e, h1, h2⟩, q⟩ := h
    cases e
    obtain ⟨n1, n2, n3, n4, n5, n6⟩ := n
    have hm : CMulW a c := mulN (by omega) (by omega) (by omega) (by omega)
    refine ⟨_, (pss_cons (ps_asg (pe_fld (pv 0) rfl) (pg_tup (n := 3) rfl (pgs_cons (pg_name (i := 1) sc_Net_size.nd rfl (Or.inl rfl)) (pgs_cons (pg_name (i := 2) sc_Net_size.nd rfl (Or.inl rfl)) (pgs_cons (pg_name (i := 3) sc_Net_size.nd rfl (Or.inl rfl)) pgs_nil)))))
      (pss_one (ps_ret (pe_op op_mulW (pv 1) (pv 3))))), ?_⟩
    walk_at "go"
    refine r_numF T.cl_Net T.n_Net_numbers h1 ?_
    walk_at "go"
    exact q
theorem do_Net_size {C : Addr} {a b c : Int} (h : NA C H v a b c) (k : Q (.int (a * c)) H) :
    ∃ p dx fs, v = .ref p ∧ H p = some (.ins C dx fs) ∧ sp_Net_size C (.ref p :: []) H Q E := by
  have h' := h
  obtain ⟨_, p, dx, u, rfl, h1, _⟩ := h'
  exact ⟨p, dx, _, rfl, h1, p, a, b, c, rfl, h, k⟩
/-- the start of a method's call -/
theorem do_meth {C : Addr} {a b c : Int} {m : Str} {sp : Sp} {t : TA} {σ : L2.St} (h : NA C H v a b c) (hm : m ≠ "_numbers") (q : t σ H fun vs H2 => sp (v :: vs) H2 Q E) :
    ∃ p dx fs, v = .ref p ∧ H p = some (.ins C dx fs) ∧ fs.lookup m = none ∧ t σ H fun vs H2 => sp (v :: vs) H2 Q E := by
  obtain ⟨_, p, dx, u, rfl, h1, _⟩ := h
  exact ⟨p, dx, _, rfl, h1, put_other u hm, q⟩
local macro_rules | `(tactic| walk_at "r") => `(tactic| first
  | ((with_reducible refine' do_Net_size ?h ?k); (case h => walk_at "up"))
  | ((with_reducible refine' do_meth ?h ?hm ?k); (case h => walk_at "up"); (case hm => decide +kernel))
  | fail)

/-- coordinates within the bounds of this proof -/
def Co (x : Int) : Prop := -N1 ≤ x ∧ x ≤ N1
def sp_home : Sp := fun vs H Q _ => ∃ v u a b c x y, vs = [v, u] ∧ Nm a b c ∧ IT H v [a, b, c] ∧ IT H u [x, y] ∧ Co x ∧ Co y ∧
  ∀ z H', Stp none H H' → IT H' z [lowX a b c x y, y % c] → Q z H'
theorem ok_home (T : Txt w K mg ad) : FnG P w K mg base CX0 1 ad.home ad.home_d P_home sp_home := by
  refine Fun.g T.F_home sc_home (fun vs H Q E h => ?_) (fun cdv A outer s H vs Q E hr hg h => ?_)
  · obtain ⟨v, u, a, b, c, x, y, rfl, _⟩ := h
    rfl
  · obtain ⟨v, u, a, b, c, x, y, rfl, n, hn, hu, hx, hy, q⟩ := h
    obtain ⟨n1, n2, n3, n4, n5, n6⟩ := n
    unfold Co at hx hy
    have d1 : CDivW y c := divN (by omega) (by omega)
    have e1 : (y / c).natAbs ≤ y.natAbs := Int.natAbs_ediv_le_natAbs _ _
    have m1 : CMulW (y / c) b := mulN (by omega) (by omega) (by omega) (by omega)
    refine ⟨_, (pss_cons (ps_asg (pv 0) (pg_tup (n := 3) rfl (pgs_cons (pg_name (i := 2) sc_home.nd rfl (Or.inl rfl)) (pgs_cons (pg_name (i := 3) sc_home.nd rfl (Or.inl rfl)) (pgs_cons (pg_name (i := 4) sc_home.nd rfl (Or.inl rfl)) pgs_nil)))))
      (pss_cons (ps_asg (pv 1) (pg_tup (n := 2) rfl (pgs_cons (pg_name (i := 5) sc_home.nd rfl (Or.inl rfl)) (pgs_cons (pg_name (i := 6) sc_home.nd rfl (Or.inl rfl)) pgs_nil))))
      (pss_one (ps_ret (pe_tup (pa_cons (pe_op op_mod (pe_op op_sub (pv 5) (pe_op op_mulW (pe_op op_fdivW (pv 6) (pv 4)) (pv 3))) (pv 2)) (pa_cons (pe_op op_mod (pv 6) (pv 4)) pa_nil))))))), ?_⟩
    walk_at "go"
    exact q _ _ (by walk_at "st") (by walk_at "up")
theorem do_home {a b c : Int} {u : V} (n : Nm a b c) (h : IT H v [a, b, c]) (hu : IT H u [x, y]) (hx : Co x) (hy : Co y) (k : ∀ z H', Stp none H H' → IT H' z [lowX a b c x y, y % c] → Q z H') :
    sp_home [v, u] H Q E := ⟨v, u, a, b, c, x, y, rfl, n, h, hu, hx, hy, k⟩
def sp_Net_reduced (C : Addr) : Sp := fun vs H Q _ => ∃ v u a b c x y, vs = [v, u] ∧ NA C H v a b c ∧ IT H u [x, y] ∧ Co x ∧ Co y ∧
  ∀ z H', Stp none H H' → IT H' z [lowX a b c x y, y % c] → Q z H'
theorem ok_Net_reduced (T : Txt w K mg ad) : FnG P w K mg base CX0 4 ad.Net_reduced ad.Net_reduced_d P_Net_reduced (sp_Net_reduced ad.C_Net) := by
  have G_check_place := ok_check_place (P := P) (w := w) (base := base) T
  have G_home := ok_home (P := P) (w := w) (base := base) T
  refine Fun.g T.F_Net_reduced sc_Net_reduced (fun vs H Q E h => ?_) (fun cdv A outer s H vs Q E hr hg h => ?_)
  · obtain ⟨v, u, a, b, c, x, y, rfl, _⟩ := h
    rfl
  · obtain ⟨v, u, a, b, c, x, y, rfl, hN, hu, hx, hy, q⟩ := h
    obtain ⟨n, p, dx, ns, rfl, h1, h2⟩ := hN
    refine ⟨_, (pss_cons (ps_expr (peg_call G_check_place (hr.mono (by decide)) hg (by rfl) T.g_check_place T.F_check_place.kp T.b_check_place .nil pass0 (pa_cons (pv 1) pa_nil)))
      (pss_one (ps_ret (peg_call G_home (hr.mono (by decide)) hg (by rfl) T.g_home T.F_home.kp T.b_home .nil pass0 (pa_cons (pe_fld (pv 0) rfl) (pa_cons (pv 1) pa_nil)))))), ?_⟩
    walk_at "go"
    refine r_numF T.cl_Net T.n_Net_numbers (by walk_at "up") ?_
    walk_at "go"
    exact do_home n (by walk_at "up") (by walk_at "up") hx hy q
theorem do_Net_reduced {C : Addr} {a b c : Int} {u : V} (h : NA C H v a b c) (hu : IT H u [x, y]) (hx : Co x) (hy : Co y) (k : ∀ z H', Stp none H H' → IT H' z [lowX a b c x y, y % c] → Q z H') :
    sp_Net_reduced C [v, u] H Q E := ⟨v, u, a, b, c, x, y, rfl, h, hu, hx, hy, k⟩

instance (a b c x y : Int) : Decidable (InN a b c x y) := inferInstanceAs (Decidable (_ ∧ _))
theorem inN_dec (a b c x y : Int) : decide ([lowX a b c x y, y % c] = [0, 0]) = decide (InN a b c x y) := by
  refine decide_eq_decide.mpr ?_
  unfold InN
  rw [lowY_mod]
  constructor
  · intro h
    injection h with h1 h2
    injection h2 with h2 _
    exact ⟨h1, h2⟩
  · rintro ⟨h1, h2⟩
    rw [h1, h2]
def sp_Net_contains (C : Addr) : Sp := fun vs H Q _ => ∃ v u a b c x y, vs = [v, u] ∧ NA C H v a b c ∧ IT H u [x, y] ∧ Co x ∧ Co y ∧
  ∀ H', Stp none H H' → Q (.bl (decide (InN a b c x y))) H'
theorem ok_Net_contains (T : Txt w K mg ad) : FnG P w K mg base CX0 5 ad.Net_contains ad.Net_contains_d P_Net_contains (sp_Net_contains ad.C_Net) := by
  have G_is_place := ok_is_place (P := P) (w := w) (base := base) T
  have G_Net_reduced := ok_Net_reduced (P := P) (w := w) (base := base) T
  refine Fun.g T.F_Net_contains sc_Net_contains (fun vs H Q E h => ?_) (fun cdv A outer s H vs Q E hr hg h => ?_)
  · obtain ⟨v, u, a, b, c, x, y, rfl, _⟩ := h
    rfl
  · obtain ⟨v, u, a, b, c, x, y, rfl, hN, hu, hx, hy, q⟩ := h
    refine ⟨_, (pss_one (ps_ret (pe_and (peg_call G_is_place (hr.mono (by decide)) hg (by rfl) T.g_is_place T.F_is_place.kp T.b_is_place .nil pass0 (pa_cons (pv 1) pa_nil)) (pe_one (pe_cmpR (op_eqD hr.units) (peg_meth (pv 0) T.cl_Net T.m_Net_reduced G_Net_reduced (hr.mono (by decide)) hg T.b_Net_reduced .nil pass0 (pa_cons (pv 1) pa_nil)) (pe_tup (pa_cons pe_int (pa_cons pe_int pa_nil))) (nomark _)))))), ?_⟩
    walk_at "go"
    refine do_Net_reduced hN hu hx hy fun z H1 S1 hz => ?_
    walk_at "go"
    rw [inN_dec]
    exact q _ (by walk_at "st")
/-- u in v, u not in v -/
theorem do_in {C : Addr} {a b c : Int} {u : V} (h : NA C H v a b c) (hu : IT H u [x, y]) (hx : Co x) (hy : Co y)
    (k : ∀ H', Stp none H H' → Q (.bl (decide (InN a b c x y))) H') : rHas C (sp_Net_contains C) E false u v H Q := by
  have h' := h
  obtain ⟨_, p, dx, w, rfl, h1, _⟩ := h'
  exact ⟨p, dx, _, rfl, h1, .ref p, u, a, b, c, x, y, rfl, h, hu, hx, hy, fun H' S => ⟨_, rfl, k H' S⟩⟩
theorem do_notIn {C : Addr} {a b c : Int} {u : V} (h : NA C H v a b c) (hu : IT H u [x, y]) (hx : Co x) (hy : Co y)
    (k : ∀ H', Stp none H H' → Q (.bl (!decide (InN a b c x y))) H') : rHas C (sp_Net_contains C) E true u v H Q := by
  have h' := h
  obtain ⟨_, p, dx, w, rfl, h1, _⟩ := h'
  exact ⟨p, dx, _, rfl, h1, .ref p, u, a, b, c, x, y, rfl, h, hu, hx, hy, fun H' S => ⟨_, rfl, k H' S⟩⟩

theorem do_two_shifts {a b c : Int} (h : IT H v [a, b, c]) (k : ∀ p H' u w, Stp none H H' → H' p = some (.lst [u, w]) → IT H' u [a, 0] → IT H' w [b, c] → Q (.ref p) H') :
    sp_two_shifts [v] H Q E := ⟨v, a, b, c, rfl, h, k⟩
def sp_Net_eq (C : Addr) : Sp := fun vs H Q _ => ∃ v u a b c d e f, vs = [v, u] ∧ NA C H v a b c ∧ NA C H u d e f ∧ Q (.bl (decide ([a, b, c] = [d, e, f]))) H
theorem r_isiNet {C : Addr} {a b c : Int} (ic : IsC K C) (cl : Cls K C) (h : NA C H v a b c) (q : Q (.bl true) H) : rIsi K [v, .ref C] H Q := by
  obtain ⟨_, p, dx, u, rfl, h1, _⟩ := h
  exact r_isi (.own C) (ic.ty cl h1) kit_self q
theorem ok_Net_eq (T : Txt w K mg ad) : FnG P w K mg base CX0 1 ad.Net_eq ad.Net_eq_d P_Net_eq (sp_Net_eq ad.C_Net) := by
  refine Fun.g T.F_Net_eq sc_Net_eq (fun vs H Q E h => ?_) (fun cdv A outer s H vs Q E hr hg h => ?_)
  · obtain ⟨v, u, a, b, c, d, e, f, rfl, _⟩ := h
    rfl
  · obtain ⟨v, u, a, b, c, d, e, f, rfl, hN, hM, q⟩ := h
    refine ⟨_, (pss_one (ps_ret (pe_and (pe_callB call_isi (by rfl) T.z_isinstance (by decide +kernel) (pa_cons (pv 1) (pa_cons (pe_glob (v := V.ref ad.C_Net) rfl T.g_Net rfl) pa_nil))) (pe_one (pe_cmpR (op_eqD hr.units) (pe_fld (pv 0) rfl) (pe_fld (pv 1) rfl) (nomark _)))))), ?_⟩
    walk_at "go"
    refine r_isiNet T.i_Net T.cl_Net hM ?_
    obtain ⟨_, p, dx, u1, rfl, h1, h2⟩ := hN
    obtain ⟨_, p', dx', u2, rfl, h3, h4⟩ := hM
    walk_at "go"
    refine r_numF T.cl_Net T.n_Net_numbers h1 ?_
    walk_at "go"
    refine r_numF T.cl_Net T.n_Net_numbers h3 ?_
    walk_at "go"
    exact q
/-- v == u, v != u of two nets -/
theorem do_eq {C : Addr} {a b c d e f : Int} {u : V} (ic : IsC K C) (cl : Cls K C) (h : NA C H v a b c) (h2 : NA C H u d e f) (q : Q (.bl (decide ([a, b, c] = [d, e, f]))) H) :
    rOwnEq K C (sp_Net_eq C) E false v u H Q := by
  have h' := h
  have h2' := h2
  obtain ⟨_, p, dx, u1, rfl, h1, _⟩ := h'
  obtain ⟨_, p', dx', u2, rfl, h3, _⟩ := h2'
  exact ⟨p, dx, _, .ref C, rfl, h1, ic.ty cl h3, notFirst_self, _, _, a, b, c, d, e, f, rfl, h, h2, _, rfl, q⟩
theorem do_ne {C : Addr} {a b c d e f : Int} {u : V} (ic : IsC K C) (cl : Cls K C) (h : NA C H v a b c) (h2 : NA C H u d e f) (q : Q (.bl (!decide ([a, b, c] = [d, e, f]))) H) :
    rOwnEq K C (sp_Net_eq C) E true v u H Q := by
  have h' := h
  have h2' := h2
  obtain ⟨_, p, dx, u1, rfl, h1, _⟩ := h'
  obtain ⟨_, p', dx', u2, rfl, h3, _⟩ := h2'
  exact ⟨p, dx, _, .ref C, rfl, h1, ic.ty cl h3, notFirst_self, _, _, a, b, c, d, e, f, rfl, h, h2, _, rfl, q⟩
def sp_Net_is_within (C : Addr) : Sp := fun vs H Q _ => ∃ v u a b c d e f, vs = [v, u] ∧ NA C H v a b c ∧ NA C H u d e f ∧
  ∀ H', Stp none H H' → Q (.bl (decide (InN d e f a 0) && decide (InN d e f b c))) H'
theorem ok_Net_is_within (T : Txt w K mg ad) : FnG P w K mg base CX0 6 ad.Net_is_within ad.Net_is_within_d P_Net_is_within (sp_Net_is_within ad.C_Net) := by
  have G_two_shifts := ok_two_shifts (P := P) (w := w) (base := base) T
  have G_Net_contains := ok_Net_contains (P := P) (w := w) (base := base) T
  refine Fun.g T.F_Net_is_within sc_Net_is_within (fun vs H Q E h => ?_) (fun cdv A outer s H vs Q E hr hg h => ?_)
  · obtain ⟨v, u, a, b, c, d, e, f, rfl, _⟩ := h
    rfl
  · obtain ⟨v, u, a, b, c, d, e, f, rfl, hN, hM, q⟩ := h
    obtain ⟨n, p, dx, ns, rfl, h1, h2⟩ := hN
    obtain ⟨n1, n2, n3, n4, n5, n6⟩ := n
    have x1 : Co a := by unfold Co; omega
    have x2 : Co 0 := by unfold Co; omega
    have x3 : Co b := by unfold Co; omega
    have x4 : Co c := by unfold Co; omega
    refine ⟨_, (pss_cons (ps_asg (peg_call G_two_shifts (hr.mono (by decide)) hg (by rfl) T.g_two_shifts T.F_two_shifts.kp T.b_two_shifts .nil pass0 (pa_cons (pe_fld (pv 0) rfl) pa_nil)) (pg_lst (n := 2) rfl (pgs_cons (pg_name (i := 2) sc_Net_is_within.nd rfl (Or.inl rfl)) (pgs_cons (pg_name (i := 3) sc_Net_is_within.nd rfl (Or.inl rfl)) pgs_nil))))
      (pss_one (ps_ret (pe_and (pe_cmpR (opg_in T.h_Net G_Net_contains (hr.mono (by decide)) hg T.b_Net_contains pass0) (pv 2) (pv 1) (by rfl)) (pe_one (pe_cmpR (opg_in T.h_Net G_Net_contains (hr.mono (by decide)) hg T.b_Net_contains pass0) (pv 3) (pv 1) (by rfl))))))), ?_⟩
    walk_at "go"
    refine r_numF T.cl_Net T.n_Net_numbers (by walk_at "up") ?_
    walk_at "go"
    refine do_two_shifts (by walk_at "up") fun l H1 y z S1 hl hy hz => ?_
    walk_at "go"
    refine do_in (by walk_at "up") (by walk_at "up") x1 x2 fun H2 S2 => ?_
    walk_at "go"
    refine r_ite (fun i1 => ?_) (fun i1 => ?_)
    · walk_at "go"
      refine do_in (by walk_at "up") (by walk_at "up") x3 x4 fun H3 S3 => ?_
      rw [← Bool.true_and (decide (InN d e f b c)), ← decide_eq_true i1]
      exact q _ (by walk_at "st")
    · have q' := q H2 (by walk_at "st")
      rw [decide_eq_false i1] at q'
      exact q'
theorem do_Net_is_within {C : Addr} {a b c d e f : Int} {u : V} (h : NA C H v a b c) (h2 : NA C H u d e f) (k : ∀ H', Stp none H H' → Q (.bl (decide (InN d e f a 0) && decide (InN d e f b c))) H') :
    sp_Net_is_within C [v, u] H Q E := ⟨v, u, a, b, c, d, e, f, rfl, h, h2, k⟩
def sp_check_positive : Sp := fun vs H Q _ => ∃ i, vs = [.int i] ∧ 1 ≤ i ∧ Q .non H
theorem do_check_positive (h : 1 ≤ i) (q : Q .non H) : sp_check_positive [.int i] H Q E := ⟨i, rfl, h, q⟩
theorem ok_check_positive (T : Txt w K mg ad) : FnG P w K mg base CX0 2 ad.check_positive ad.check_positive_d P_check_positive sp_check_positive := by
  have G_is_integer := ok_is_integer (P := P) (w := w) (base := base) T
  refine Fun.g T.F_check_positive sc_check_positive (fun vs H Q E h => ?_) (fun cdv A outer s H vs Q E hr hg h => ?_)
  · obtain ⟨i, rfl, _⟩ := h
    rfl
  · obtain ⟨i, rfl, h1, q⟩ := h
    refine ⟨_, (pss_one (ps_if (PW.pt (pw_or (pt_not (pt_val (peg_call G_is_integer (hr.mono (by decide)) hg (by rfl) T.g_is_integer T.F_is_integer.kp T.b_is_integer .nil pass0 (pa_cons (pv 0) pa_nil)))) (pw_or1 (pt_cmpR op_lt (pv 0) pe_int (nomark _)))))
      (pss_one ps_never) pss_nil)), ?_⟩
    walk_at "go"
    exact q
local macro_rules | `(tactic| walk_at "r") => `(tactic| first | ((with_reducible refine' do_check_positive ?h ?k); (case h => omega)) | fail)

def sp_Net_scaled (C : Addr) : Sp := fun vs H Q _ => ∃ v a b c f, vs = [v, .int f] ∧ NA C H v a b c ∧ 1 ≤ f ∧ a * f ≤ N1 ∧ c * f ≤ N1 ∧
  ∀ z H', Stp none H H' → NA C H' z (a * f) (b * f) (c * f) → Q z H'
theorem ok_Net_scaled (T : Txt w K mg ad) : FnG P w K mg base CX0 5 ad.Net_scaled ad.Net_scaled_d P_Net_scaled (sp_Net_scaled ad.C_Net) := by
  have G_check_positive := ok_check_positive (P := P) (w := w) (base := base) T
  have G_Net_init := ok_Net_init (P := P) (w := w) (base := base) T
  refine Fun.g T.F_Net_scaled sc_Net_scaled (fun vs H Q E h => ?_) (fun cdv A outer s H vs Q E hr hg h => ?_)
  · obtain ⟨v, a, b, c, f, rfl, _⟩ := h
    rfl
  · obtain ⟨v, a, b, c, f, rfl, hN, hf, h1, h2, q⟩ := h
    obtain ⟨n, p, dx, ns, rfl, hp, hns⟩ := hN
    obtain ⟨n1, n2, n3, n4, n5, n6⟩ := n
    have pa : 1 * 1 ≤ a * f := Int.mul_le_mul n1 hf (by omega) (by omega)
    have pc : 1 * 1 ≤ c * f := Int.mul_le_mul n2 hf (by omega) (by omega)
    have pb : 0 ≤ b * f := Int.mul_nonneg n3 (by omega)
    have pf : f ≤ a * f := by
      have := Int.mul_le_mul_of_nonneg_right n1 (show 0 ≤ f by omega)
      omega
    have pba : b * f < a * f := Int.mul_lt_mul_of_pos_right n4 (by omega)
    have m1 : CMulW a f := mulN (by omega) (by omega) (by omega) (by omega)
    have m2 : CMulW b f := mulN (by omega) (by omega) (by omega) (by omega)
    have m3 : CMulW c f := mulN (by omega) (by omega) (by omega) (by omega)
    have n' : Nm (a * f) (b * f) (c * f) := ⟨by omega, by omega, pb, pba, h1, h2⟩
    refine ⟨_, (pss_cons (ps_expr (peg_call G_check_positive (hr.mono (by decide)) hg (by rfl) T.g_check_positive T.F_check_positive.kp T.b_check_positive .nil pass0 (pa_cons (pv 1) pa_nil)))
      (pss_cons (ps_asg (pe_fld (pv 0) rfl) (pg_tup (n := 3) rfl (pgs_cons (pg_name (i := 2) sc_Net_scaled.nd rfl (Or.inl rfl)) (pgs_cons (pg_name (i := 3) sc_Net_scaled.nd rfl (Or.inl rfl)) (pgs_cons (pg_name (i := 4) sc_Net_scaled.nd rfl (Or.inl rfl)) pgs_nil)))))
      (pss_one (ps_ret (peg_make T.k_Net G_Net_init (hr.mono (by decide)) hg (by rfl) T.g_Net T.b_Net_init .nil pass0 (pa_cons (pe_op op_mulW (pv 2) (pv 1)) (pa_cons (pe_op op_mulW (pv 3) (pv 1)) (pa_cons (pe_op op_mulW (pv 4) (pv 1)) pa_nil)))))))), ?_⟩
    walk_at "go"
    refine r_numF T.cl_Net T.n_Net_numbers hp ?_
    walk_at "go"
    exact do_Net n' fun v' H' S h => q v' H' (by walk_at "st") h
theorem do_Net_scaled {C : Addr} {a b c f : Int} (h : NA C H v a b c) (hf : 1 ≤ f) (h1 : a * f ≤ N1) (h2 : c * f ≤ N1)
    (k : ∀ z H', Stp none H H' → NA C H' z (a * f) (b * f) (c * f) → Q z H') : sp_Net_scaled C [v, .int f] H Q E := ⟨v, a, b, c, f, rfl, h, hf, h1, h2, k⟩
end
end Law

set_option Elab.async false
set_option linter.all false
set_option maxRecDepth 100000
set_option maxHeartbeats 4000000
namespace Law
open PySem PySem.Spec PyProof.Rows L2 MV
local macro_rules | `(tactic| walk_at "up") => `(tactic| first
  | assumption
  | (refine' IT.mv ?s ?g; (case s => assumption); (case g => walk_at "up"))
  | (refine' IT.k ?g; (case g => walk_at "up"))
  | (refine' IK.mv ?s ?g; (case s => assumption); (case g => walk_at "up"))
  | (refine' Tape.mvN ?s ?g; (case s => assumption); (case g => walk_at "up"))
  | (refine' Tape.mvS ?s ?g; (case s => assumption); (case g => walk_at "up"))
  | (refine' At.tup ?s ?g; (case s => assumption); (case g => walk_at "up"))
  | (refine' At.ins ?s ?g; (case s => assumption); (case g => walk_at "up"))
  | (refine' At.lst ?s ?g; (case s => assumption); (case g => walk_at "up"))
  | (refine' At.lstS ?s ?n ?g; (case s => assumption); (case n => assumption); (case g => walk_at "up"))
  | fail)
local macro_rules | `(tactic| walk_at "st") => `(tactic| first
  | assumption
  | exact Stp.refl _ _
  | (refine' Stp.w ?s; (case s => assumption))
  | (refine' Stp.trans ?g ?s; (case s => (first | assumption | (refine' Stp.w ?u; (case u => assumption)))); (case g => walk_at "st"))
  | fail)
local macro_rules | `(tactic| walk_at "bT") => `(tactic| first
  | decide
  | (simp only [Bool.not_eq_true', Bool.not_eq_false', decide_eq_true_eq, decide_eq_false_iff_not]; omega)
  | fail)
local macro_rules | `(tactic| walk_at "sd") => `(tactic| first | assumption | decide | omega | fail)
local macro_rules | `(tactic| walk_at "r") => `(tactic| first
  | (with_reducible refine r_seq ?_)
  | (with_reducible refine r_asg ?_)
  | ((with_reducible refine' r_var ?h ?k); (case h => rfl))
  | (with_reducible refine r_c ?_)
  | (with_reducible refine r_op ?_)
  | (with_reducible refine r_un ?_)
  | (with_reducible refine r_nil ?_)
  | (with_reducible refine r_cons ?_)
  | (with_reducible refine r_tup ?_)
  | (with_reducible refine r_lst ?_)
  | (with_reducible refine r_cbLen ?_)
  | (with_reducible refine r_cbInt ?_)
  | (with_reducible refine r_cbRepr ?_)
  | (with_reducible refine r_cbTup ?_)
  | (with_reducible refine r_cbLst ?_)
  | (with_reducible refine r_cb ?_)
  | (with_reducible refine r_prop ?_)
  | (with_reducible refine r_andV ?_)
  | (with_reducible refine r_orV ?_)
  | (with_reducible refine r_notV ?_)
  | (with_reducible refine r_chain ?_)
  | (with_reducible refine r_ifE ?_)
  | (with_reducible refine r_test ?_)
  | (with_reducible refine r_B ?_)
  | (with_reducible refine r_and ?_)
  | (with_reducible refine r_or ?_)
  | (with_reducible refine r_not ?_)
  | (with_reducible refine r_yes ?_)
  | (with_reducible refine r_k ?_)
  | (with_reducible refine r_kV ?_)
  | (with_reducible refine r_next ?_)
  | (with_reducible refine r_drop ?_)
  | (with_reducible refine r_ret ?_)
  | (with_reducible refine r_ifS ?_)
  | (with_reducible refine r_par ?_)
  | (with_reducible refine r_par1 ?_)
  | (with_reducible refine r_gname ?_)
  | (with_reducible refine r_gnil ?_)
  | (with_reducible refine r_gcons ?_)
  | ((with_reducible refine' r_unpack2 ?h ?k); (case h => walk_at "up"))
  | ((with_reducible refine' r_unpack3 ?h ?k); (case h => walk_at "up"))
  | (with_reducible refine r_add ?_)
  | (with_reducible refine r_sub ?_)
  | (with_reducible refine r_neg ?_)
  | ((with_reducible refine' r_mod ?h ?k); (case h => walk_at "sd"))
  | ((with_reducible refine' r_div ?h ?k); (case h => walk_at "sd"))
  | ((with_reducible refine' r_mul ?h ?k); (case h => walk_at "sd"))
  | ((with_reducible refine' r_mulW ?h ?k); (case h => walk_at "sd"))
  | ((with_reducible refine' r_pow ?h ?k); (case h => (show (0 : Int) ≤ _ ∧ _ ∧ _; decide)))
  | (with_reducible refine r_lt ?_)
  | (with_reducible refine r_le ?_)
  | (with_reducible refine r_gt ?_)
  | (with_reducible refine r_ge ?_)
  | (with_reducible refine r_eqI ?_)
  | (with_reducible refine r_neI ?_)
  | (with_reducible refine r_eqS ?_)
  | (with_reducible refine r_neS ?_)
  | ((with_reducible refine' r_eqT ?h ?g ?k); (case h => walk_at "up"); (case g => walk_at "up"))
  | ((with_reducible refine' r_neT ?h ?g ?k); (case h => walk_at "up"); (case g => walk_at "up"))
  | ((with_reducible refine' r_ix0 ?h ?k); (case h => walk_at "up"))
  | ((with_reducible refine' r_ix1 ?h ?k); (case h => walk_at "up"))
  | ((with_reducible refine' r_ix2 ?h ?k); (case h => walk_at "up"))
  | (with_reducible refine r_newI2 (fun v H2 S I => ?_))
  | (with_reducible refine r_newI3 (fun v H2 S I => ?_))
  | (with_reducible refine r_newL1 (fun p H2 S hp np => ?_))
  | (with_reducible refine r_newL2 (fun p H2 S hp np => ?_))
  | (with_reducible refine r_newL3 (fun p H2 S hp np => ?_))
  | (with_reducible refine r_T ?_)
  | (with_reducible refine r_F ?_)
  | fail)
local macro_rules | `(tactic| walk_at "go") => `(tactic| repeat (walk_at "r"))
local macro_rules | `(tactic| walk_at "r") => `(tactic| first
  | (with_reducible refine r_call0 ?_)
  | (with_reducible refine r_meth0 ?_)
  | (with_reducible refine r_make0 ?_)
  | (with_reducible refine r_isiII ?_)
  | (with_reducible refine r_isiIB ?_)
  | ((with_reducible refine' r_isiTT ?h ?k); (case h => walk_at "up"))
  | ((with_reducible refine' r_len2 ?h ?k); (case h => walk_at "up"))
  | ((with_reducible refine' r_len3 ?h ?k); (case h => walk_at "up"))
  | ((with_reducible refine' r_lenL ?h ?k); (case h => walk_at "up"))
  | (with_reducible refine r_int1 ?_)
  | (with_reducible refine r_int1B ?_)
  | (with_reducible refine r_nT ?_)
  | (with_reducible refine r_nF ?_)
  | (with_reducible refine r_gcd ?_)
  | (with_reducible refine r_gsub ?_)
  | (with_reducible refine r_fld ?_)
  | (with_reducible refine r_p6 ?_)
  | (with_reducible refine r_p9 ?_)
  | (with_reducible refine r_p10 ?_)
  | (with_reducible refine r_p11 ?_)
  | (with_reducible refine r_p12 ?_)
  | (with_reducible refine r_p18 ?_)
  | (with_reducible refine r_p20 ?_)
  | (with_reducible refine r_p26 ?_)
  | (with_reducible refine r_p27 ?_)
  | (with_reducible refine r_p30 ?_)
  | ((with_reducible refine' r_iF ?h ?k); (case h => walk_at "bT"))
  | ((with_reducible refine' r_iT ?h ?k); (case h => walk_at "bT"))
  | (with_reducible refine r_sfld ?_)
  | (with_reducible refine r_sl ?_)
  | (with_reducible refine r_noPart ?_)
  | (with_reducible refine r_part ?_)
  | (with_reducible refine r_pk ?_)
  | ((with_reducible refine' r_unl2 ?h ?k); (case h => walk_at "up"))
  | ((with_reducible refine' r_ixLi ?h ?h0 ?hn ?k); (case h => walk_at "up"); (case h0 => walk_at "sd"); (case hn => rfl))
  | fail)

local macro_rules | `(tactic| walk_at "r") => `(tactic| with_reducible refine do_is_integer ?_)
local macro_rules | `(tactic| walk_at "r") => `(tactic| first | ((with_reducible refine' do_is_place ?h ?k); (case h => walk_at "up")) | fail)
local macro_rules | `(tactic| walk_at "r") => `(tactic| first | ((with_reducible refine' do_check_place ?h ?k); (case h => walk_at "up")) | fail)
local macro_rules | `(tactic| walk_at "r") => `(tactic| first | ((with_reducible refine' do_are_numbers ?h ?k); (case h => assumption)) | fail)
local macro_rules | `(tactic| walk_at "up") => `(tactic| first | (refine' NA.mv ?s ?g; (case s => assumption); (case g => walk_at "up")) | fail)
local macro_rules | `(tactic| walk_at "r") => `(tactic| first
  | ((with_reducible refine' do_Net_size ?h ?k); (case h => walk_at "up"))
  | ((with_reducible refine' do_meth ?h ?hm ?k); (case h => walk_at "up"); (case hm => decide +kernel))
  | fail)

section
variable {P : Program} {w : World} {K : PySem.W.Frag} {mg : Str → Option Value} {base : Heap} {ad : Ad} {H : Hp} {Q : VK} {E : XK} {i j x y : Int} {v : V}
/-! ### draws -/
def sp_law_tape (K : PySem.W.Frag) : Sp := fun vs H Q _ => ∃ (l : Addr) (ns : List Int), vs = [.ref l] ∧ SqL K H l (ns.map V.int) ∧ ∀ t H', Stp none H H' → H t = none → Tape H' t → Q (.ref t) H'
theorem ok_law_tape (T : Txt w K mg ad) : FnG P w K mg base CX0 1 ad.law_tape ad.law_tape_d P_law_tape (sp_law_tape K) := by
  refine Fun.g T.F_law_tape sc_law_tape (fun vs H Q E h => ?_) (fun cdv A outer s H vs Q E hr hg h => ?_)
  · obtain ⟨l, ns, rfl, _⟩ := h
    rfl
  · obtain ⟨l, ns, rfl, hl, q⟩ := h
    refine ⟨_, (pss_one (ps_ret (pe_lst (pa_cons (pe_callTy call_list_of (by rfl) T.z_list (by decide +kernel) (pa_cons (pe_slice sl_list (pv 0) po_none (po_some pe_int)) pa_nil)) (pa_cons pe_int (pa_cons pe_int (pa_cons pe_int pa_nil))))))), ?_⟩
    walk_at "go"
    refine r_slL hl fun l1 H1 S1 h1 n1 => ?_
    walk_at "go"
    refine r_lstL (SqL.of h1) fun l2 H2 S2 h2 n2 => ?_
    walk_at "go"
    refine r_newL (sz100 (Nat.le_of_ble_eq_true rfl)) fun t H3 S3 h3 n3 => ?_
    obtain ⟨ms, e⟩ := cutV_map ns none (some 63)
    rw [e] at h2
    have nl : l2 ≠ t := ne_of_none h2 n3
    refine q t H3 (by walk_at "st") ?_ ⟨l2, ms, 0, 0, 17, nl, h3, S3.all _ _ h2, by decide, by decide, by decide⟩
    cases z : H t with
    | none => rfl
    | some o => exact absurd (S2.all _ _ (S1.all _ _ z)) (by rw [n3]; simp)
theorem do_law_tape {l : Addr} {ns : List Int} (h : SqL K H l (ns.map V.int)) (k : ∀ t H', Stp none H H' → H t = none → Tape H' t → Q (.ref t) H') :
    sp_law_tape K [.ref l] H Q E := ⟨l, ns, rfl, h, k⟩

def sp_law_draw : Sp := fun vs H Q _ => ∃ t m, vs = [.ref t, .int m] ∧ Tape H t ∧ 0 < m ∧ m < 10 ^ 30 ∧ ∀ r H', 0 ≤ r → r < m → Stp (some t) H H' → Q (.int r) H'
theorem ok_law_draw (T : Txt w K mg ad) : FnG P w K mg base CX0 1 ad.law_draw ad.law_draw_d P_law_draw sp_law_draw := by
  refine Fun.g T.F_law_draw sc_law_draw (fun vs H Q E h => ?_) (fun cdv A outer s H vs Q E hr hg h => ?_)
  · obtain ⟨t, m, rfl, _⟩ := h
    rfl
  · obtain ⟨t, m, rfl, hT, m0, m1, q⟩ := h
    obtain ⟨l, ns, a, b, c, X⟩ := hT.is
    have ht := X.at_
    have hl := X.li
    have a0 := X.a0
    have c0 := X.c0
    have c1 := X.c1
    have dv : ∀ z : Int, CDivW z m := fun z => divW_of m0 (by omega)
    have rm : ∀ z : Int, 0 ≤ z % m ∧ z % m < m := fun z => ⟨Int.emod_nonneg _ (by omega), Int.emod_lt_of_pos _ m0⟩
    refine ⟨_, (pss_cons (ps_if (pt_cmpR op_gt (pe_ix ix_seq (pv 0) pe_int (fun _ _ => rfl)) pe_int (nomark _))
      (pss_cons (ps_set (i := 2) sc_law_draw.nd rfl (Or.inl rfl) (pe_op op_mod (pe_ix ix_seq (pv 0) pe_int (fun _ _ => rfl)) (pv 1)))
      (pss_cons (ps_asg (pe_op op_fdivW (pe_ix ix_seq (pv 0) pe_int (fun _ _ => rfl)) (pv 1)) (pg_sub (pv 0) pe_int set_list))
      (pss_one (ps_ret (pv 2))))) pss_nil)
      (pss_cons (ps_set (i := 3) sc_law_draw.nd rfl (Or.inl rfl) pe_int)
      (pss_cons (ps_if (pt_cmpR op_lt (pe_ix ix_seq (pv 0) pe_int (fun _ _ => rfl)) (pe_callB call_len_seq (by rfl) T.z_len (by decide +kernel) (pa_cons (pe_ix ix_seq (pv 0) pe_int (fun _ _ => rfl)) pa_nil)) (nomark _))
      (pss_one (ps_set (i := 3) sc_law_draw.nd rfl (Or.inl rfl) (pe_ix ix_seq (pe_ix ix_seq (pv 0) pe_int (fun _ _ => rfl)) (pe_ix ix_seq (pv 0) pe_int (fun _ _ => rfl)) (fun _ _ => rfl)))) pss_nil)
      (pss_cons (ps_asg (pe_op op_add (pe_ix ix_seq (pv 0) pe_int (fun _ _ => rfl)) pe_int) (pg_sub (pv 0) pe_int set_list))
      (pss_cons (ps_if (pt_cmpR op_ge (pv 3) (pe_op op_pow pe_int pe_int) (nomark _))
      (pss_cons (ps_asg (pe_op op_fdivW (pv 3) (pv 1)) (pg_sub (pv 0) pe_int set_list))
      (pss_one (ps_ret (pe_op op_mod (pv 3) (pv 1))))) pss_nil)
      (pss_cons (ps_set (i := 4) sc_law_draw.nd rfl (Or.inl rfl) (pe_op op_add (pe_op op_add (pe_op op_mod (pv 3) pe_int) (pe_op op_mul pe_int (pe_ix ix_seq (pv 0) pe_int (fun _ _ => rfl)))) pe_int))
      (pss_cons (ps_asg (pe_op op_mod (pe_op op_add (pe_op op_mul (pe_ix ix_seq (pv 0) pe_int (fun _ _ => rfl)) pe_int) (pv 4)) pe_int) (pg_sub (pv 0) pe_int set_list))
      (pss_one (ps_ret (pe_op op_mod (pe_op op_mod (pe_op op_pow (pe_ix ix_seq (pv 0) pe_int (fun _ _ => rfl)) pe_int) pe_int) (pv 1))))))))))), ?_⟩
    walk_at "go"
    refine r_ite (fun hb => ?_) (fun hb => ?_)
    · walk_at "go"
      refine r_div (dv _) ?_
      walk_at "go"
      obtain ⟨S1, X1⟩ := X.put (a' := a) (b' := b / m) a0 c0 c1
      refine r_set2 ht ?_
      walk_at "go"
      exact q _ _ (rm _).1 (rm _).2 S1
    · walk_at "go"
      refine r_ite (fun ha => ?_) (fun ha => ?_)
      · have hz : ∃ z : Int, (ns.map V.int)[a.toNat]? = some (.int z) := by
          rw [List.length_map] at ha
          have : a.toNat < ns.length := by omega
          exact ⟨ns[a.toNat], by rw [List.getElem?_map, List.getElem?_eq_getElem this]; rfl⟩
        obtain ⟨z, hz⟩ := hz
        walk_at "go"
        refine r_ixLi hl a0 hz ?_
        walk_at "go"
        obtain ⟨S1, X1⟩ := X.put (a' := a + 1) (b' := b) (by omega) c0 c1
        refine r_set1 ht ?_
        generalize upd H t (.lst [.ref l, .int (a + 1), .int b, .int c]) = H1 at S1 X1 ⊢
        have ht1 := X1.at_
        walk_at "go"
        refine r_ite (fun hc => ?_) (fun hc => ?_)
        · walk_at "go"
          refine r_div (dv _) ?_
          walk_at "go"
          obtain ⟨S2, X2⟩ := X1.put (a' := a + 1) (b' := z / m) (by omega) c0 c1
          refine r_set2 ht1 ?_
          walk_at "go"
          exact q _ _ (rm _).1 (rm _).2 (S1.trans S2)
        · walk_at "go"
          refine r_mul (.inl ⟨by decide, by decide⟩) ?_
          walk_at "go"
          refine r_mul (.inl ⟨by omega, by omega⟩) ?_
          walk_at "go"
          have rm2 : ∀ z : Int, 0 ≤ z % 2147483647 ∧ z % 2147483647 < 2147483647 := fun z => ⟨Int.emod_nonneg _ (by omega), Int.emod_lt_of_pos _ (by omega)⟩
          obtain ⟨S2, X2⟩ := X1.put (a' := a + 1) (b' := b) (by omega) (rm2 _).1 (rm2 _).2
          refine r_set3 ht1 ?_
          have ht2 := X2.at_
          walk_at "go"
          refine r_pow ?_ ?_
          · have := rm2 (c * 48271 + (z % 2147483647 + 7919 * (a + 1) + 11))
            exact ⟨by decide, by decide, by omega⟩
          walk_at "go"
          exact q _ _ (rm _).1 (rm _).2 (S1.trans S2)
      · walk_at "go"
        obtain ⟨S1, X1⟩ := X.put (a' := a + 1) (b' := b) (by omega) c0 c1
        refine r_set1 ht ?_
        generalize upd H t (.lst [.ref l, .int (a + 1), .int b, .int c]) = H1 at S1 X1 ⊢
        have ht1 := X1.at_
        walk_at "go"
        refine r_mul (.inl ⟨by decide, by decide⟩) ?_
        walk_at "go"
        refine r_mul (.inl ⟨by omega, by omega⟩) ?_
        walk_at "go"
        have rm2 : ∀ z : Int, 0 ≤ z % 2147483647 ∧ z % 2147483647 < 2147483647 := fun z => ⟨Int.emod_nonneg _ (by omega), Int.emod_lt_of_pos _ (by omega)⟩
        obtain ⟨S2, X2⟩ := X1.put (a' := a + 1) (b' := b) (by omega) (rm2 _).1 (rm2 _).2
        refine r_set3 ht1 ?_
        have ht2 := X2.at_
        walk_at "go"
        refine r_pow ?_ ?_
        · have := rm2 (c * 48271 + (0 % 2147483647 + 7919 * (a + 1) + 11))
          exact ⟨by decide, by decide, by omega⟩
        walk_at "go"
        exact q _ _ (rm _).1 (rm _).2 (S1.trans S2)
theorem do_law_draw {t : Addr} {m : Int} (T : Tape H t) (h0 : 0 < m) (h1 : m < 10 ^ 30) (k : ∀ r H', 0 ≤ r → r < m → Stp (some t) H H' → Q (.int r) H') :
    sp_law_draw [.ref t, .int m] H Q E := ⟨t, m, rfl, T, h0, h1, k⟩
local macro_rules | `(tactic| walk_at "dr") => `(tactic| (refine do_law_draw (by walk_at "up") (by first | decide | omega) (by first | decide | omega) ?_))
def sp_law_great : Sp := fun vs H Q _ => ∃ t m, vs = [.ref t, .int m] ∧ Tape H t ∧ 60 ≤ m ∧ m < 10 ^ 30 ∧ ∀ r H', -m < r → r < m → Stp (some t) H H' → Q (.int r) H'
theorem ok_law_great (T : Txt w K mg ad) : FnG P w K mg base CX0 2 ad.law_great ad.law_great_d P_law_great sp_law_great := by
  have G_law_draw := ok_law_draw (P := P) (w := w) (base := base) T
  refine Fun.g T.F_law_great sc_law_great (fun vs H Q E h => ?_) (fun cdv A outer s H vs Q E hr hg h => ?_)
  · obtain ⟨t, m, rfl, _⟩ := h
    rfl
  · obtain ⟨t, m, rfl, hT, m0, m1, q⟩ := h
    refine ⟨_, (pss_cons (ps_set (i := 2) sc_law_great.nd rfl (Or.inl rfl) (pe_op op_add (pe_op op_mulW (peg_call G_law_draw (hr.mono (by decide)) hg (by rfl) T.g_law_draw T.F_law_draw.kp T.b_law_draw .nil pass0 (pa_cons (pv 0) (pa_cons (pe_op op_pow pe_int pe_int) pa_nil))) (pe_op op_pow pe_int pe_int)) (pe_op op_mulW (peg_call G_law_draw (hr.mono (by decide)) hg (by rfl) T.g_law_draw T.F_law_draw.kp T.b_law_draw .nil pass0 (pa_cons (pv 0) (pa_cons (pe_op op_pow pe_int pe_int) pa_nil))) (pe_op op_pow pe_int pe_int))))
      (pss_cons (ps_set (i := 3) sc_law_great.nd rfl (Or.inl rfl) (pe_ix ix_seq (pe_lst (pa_cons (peg_call G_law_draw (hr.mono (by decide)) hg (by rfl) T.g_law_draw T.F_law_draw.kp T.b_law_draw .nil pass0 (pa_cons (pv 0) (pa_cons pe_int pa_nil))) (pa_cons (peg_call G_law_draw (hr.mono (by decide)) hg (by rfl) T.g_law_draw T.F_law_draw.kp T.b_law_draw .nil pass0 (pa_cons (pv 0) (pa_cons pe_int pa_nil))) (pa_cons (pe_op op_mod (pe_op op_add (pv 2) (peg_call G_law_draw (hr.mono (by decide)) hg (by rfl) T.g_law_draw T.F_law_draw.kp T.b_law_draw .nil pass0 (pa_cons (pv 0) (pa_cons (pe_op op_pow pe_int pe_int) pa_nil)))) (pv 1)) pa_nil)))) (peg_call G_law_draw (hr.mono (by decide)) hg (by rfl) T.g_law_draw T.F_law_draw.kp T.b_law_draw .nil pass0 (pa_cons (pv 0) (pa_cons pe_int pa_nil))) (fun _ _ => rfl)))
      (pss_one (ps_ret (pe_op op_mulW (pv 3) (pe_ix ix_seq (pe_lst (pa_cons pe_int (pa_cons (pe_un un_neg pe_int) pa_nil))) (peg_call G_law_draw (hr.mono (by decide)) hg (by rfl) T.g_law_draw T.F_law_draw.kp T.b_law_draw .nil pass0 (pa_cons (pv 0) (pa_cons pe_int pa_nil))) (fun _ _ => rfl))))))), ?_⟩
    walk_at "go"
    walk_at "dr"
    intro r1 H1 a1 b1 S1
    walk_at "go"
    refine r_mulW (mulW_of (by omega) (by decide)) ?_
    walk_at "go"
    walk_at "dr"
    intro r2 H2 a2 b2 S2
    walk_at "go"
    refine r_mulW (mulW_of (by omega) (by decide)) ?_
    walk_at "go"
    walk_at "dr"
    intro r3 H3 a3 b3 S3
    walk_at "go"
    walk_at "dr"
    intro r4 H4 a4 b4 S4
    walk_at "go"
    walk_at "dr"
    intro r5 H5 a5 b5 S5
    walk_at "go"
    have e1 : 0 ≤ (r1 * 1000000000000000000 + r2 * 1000000000 + r5) % m := Int.emod_nonneg _ (by omega)
    have e2 : (r1 * 1000000000000000000 + r2 * 1000000000 + r5) % m < m := Int.emod_lt_of_pos _ (by omega)
    rename_i p1 H6 S6 hp1 np1
    generalize (r1 * 1000000000000000000 + r2 * 1000000000 + r5) % m = z at e1 e2 hp1
    have T6 : Tape H6 t := by walk_at "up"
    have nt1 : p1 ≠ t := by
      intro e
      have T5 : Tape H5 t := by walk_at "up"
      obtain ⟨_, _, _, _, _, _, h, _⟩ := T5
      rw [← e, np1] at h
      cases h
    walk_at "dr"
    intro r6 H7 a6 b6 S7
    have hz : ∃ u, [V.int r3, V.int r4, V.int z][r6.toNat]? = some (V.int u) ∧ 0 ≤ u ∧ u < m := by
      have : r6 = 0 ∨ r6 = 1 ∨ r6 = 2 := by omega
      rcases this with rfl | rfl | rfl
      · exact ⟨r3, rfl, by omega, by omega⟩
      · exact ⟨r4, rfl, by omega, by omega⟩
      · exact ⟨z, rfl, by omega, by omega⟩
    obtain ⟨u, hu, u0, u1⟩ := hz
    have hp7 : H7 p1 = some (.lst [V.int r3, V.int r4, V.int z]) := At.lstS S7 nt1 hp1
    refine r_ixLi hp7 a6 hu ?_
    walk_at "go"
    rename_i p2 H8 S8 hp2 np2
    have nt2 : p2 ≠ t := by
      intro e
      have T5 : Tape H7 t := by walk_at "up"
      obtain ⟨_, _, _, _, _, _, h, _⟩ := T5
      rw [← e, np2] at h
      cases h
    walk_at "dr"
    intro r7 H9 a7 b7 S9
    have hp9 : H9 p2 = some (.lst [V.int 1, V.int (-1)]) := At.lstS S9 nt2 hp2
    have : r7 = 0 ∨ r7 = 1 := by omega
    rcases this with rfl | rfl
    · walk_at "go"
      refine r_mulW (mulW_of (by omega) (by decide)) ?_
      exact q _ _ (by omega) (by omega) (by walk_at "st")
    · walk_at "go"
      refine r_mulW (mulW_of (by omega) (by decide)) ?_
      exact q _ _ (by omega) (by omega) (by walk_at "st")
theorem do_law_great {t : Addr} {m : Int} (T : Tape H t) (h0 : 60 ≤ m) (h1 : m < 10 ^ 30) (k : ∀ r H', -m < r → r < m → Stp (some t) H H' → Q (.int r) H') :
    sp_law_great [.ref t, .int m] H Q E := ⟨t, m, rfl, T, h0, h1, k⟩

def sp_law_place : Sp := fun vs H Q _ => ∃ t, vs = [.ref t] ∧ Tape H t ∧ ∀ v x y H', -10 ^ 26 < x → x < 10 ^ 26 → -10 ^ 26 < y → y < 10 ^ 26 → Stp (some t) H H' → IT H' v [x, y] → Q v H'
theorem ok_law_place (T : Txt w K mg ad) : FnG P w K mg base CX0 3 ad.law_place ad.law_place_d P_law_place sp_law_place := by
  have G_law_great := ok_law_great (P := P) (w := w) (base := base) T
  refine Fun.g T.F_law_place sc_law_place (fun vs H Q E h => ?_) (fun cdv A outer s H vs Q E hr hg h => ?_)
  · obtain ⟨t, rfl, _⟩ := h
    rfl
  · obtain ⟨t, rfl, hT, q⟩ := h
    refine ⟨_, (pss_one (ps_ret (pe_tup (pa_cons (peg_call G_law_great (hr.mono (by decide)) hg (by rfl) T.g_law_great T.F_law_great.kp T.b_law_great .nil pass0 (pa_cons (pv 0) (pa_cons (pe_op op_pow pe_int pe_int) pa_nil))) (pa_cons (peg_call G_law_great (hr.mono (by decide)) hg (by rfl) T.g_law_great T.F_law_great.kp T.b_law_great .nil pass0 (pa_cons (pv 0) (pa_cons (pe_op op_pow pe_int pe_int) pa_nil))) pa_nil))))), ?_⟩
    walk_at "go"
    refine do_law_great (by walk_at "up") (by decide) (by decide) fun x H1 x0 x1 S1 => ?_
    walk_at "go"
    refine do_law_great (by walk_at "up") (by decide) (by decide) fun y H2 y0 y1 S2 => ?_
    walk_at "go"
    exact q _ x y _ (by omega) (by omega) (by omega) (by omega) (by walk_at "st") (by walk_at "up")
theorem do_law_place {t : Addr} (T : Tape H t) (k : ∀ v x y H', -10 ^ 26 < x → x < 10 ^ 26 → -10 ^ 26 < y → y < 10 ^ 26 → Stp (some t) H H' → IT H' v [x, y] → Q v H') :
    sp_law_place [.ref t] H Q E := ⟨t, rfl, T, k⟩

def sp_law_net : Sp := fun vs H Q _ => ∃ t m, vs = [.ref t, .int m] ∧ Tape H t ∧ 1 ≤ m ∧ m < 10 ^ 9 ∧
  ∀ v a b c H', Nm a b c → a ≤ m → c ≤ m → a * c ≤ m → Stp (some t) H H' → IT H' v [a, b, c] → Q v H'
theorem ok_law_net (T : Txt w K mg ad) : FnG P w K mg base CX0 2 ad.law_net ad.law_net_d P_law_net sp_law_net := by
  have G_law_draw := ok_law_draw (P := P) (w := w) (base := base) T
  refine Fun.g T.F_law_net sc_law_net (fun vs H Q E h => ?_) (fun cdv A outer s H vs Q E hr hg h => ?_)
  · obtain ⟨t, m, rfl, _⟩ := h
    rfl
  · obtain ⟨t, m, rfl, hT, m0, m1, q⟩ := h
    refine ⟨_, (pss_cons (ps_set (i := 2) sc_law_net.nd rfl (Or.inl rfl) (pe_op op_add pe_int (peg_call G_law_draw (hr.mono (by decide)) hg (by rfl) T.g_law_draw T.F_law_draw.kp T.b_law_draw .nil pass0 (pa_cons (pv 0) (pa_cons (pv 1) pa_nil)))))
      (pss_one (ps_ret (pe_tup (pa_cons (pv 2) (pa_cons (peg_call G_law_draw (hr.mono (by decide)) hg (by rfl) T.g_law_draw T.F_law_draw.kp T.b_law_draw .nil pass0 (pa_cons (pv 0) (pa_cons (pv 2) pa_nil))) (pa_cons (pe_op op_add pe_int (peg_call G_law_draw (hr.mono (by decide)) hg (by rfl) T.g_law_draw T.F_law_draw.kp T.b_law_draw .nil pass0 (pa_cons (pv 0) (pa_cons (pe_op op_fdivW (pv 1) (pv 2)) pa_nil)))) pa_nil))))))), ?_⟩
    walk_at "go"
    walk_at "dr"
    intro r1 H1 a1 b1 S1
    walk_at "go"
    walk_at "dr"
    intro r2 H2 a2 b2 S2
    walk_at "go"
    have d1 : CDivW m (1 + r1) := divW_of (by omega) (by omega)
    walk_at "go"
    have k1 : 1 ≤ m / (1 + r1) := by
      rw [Int.le_ediv_iff_mul_le (by omega)]; omega
    have k2 : m / (1 + r1) ≤ m := Int.ediv_le_self _ (by omega)
    refine do_law_draw (by walk_at "up") (by omega) (by omega) ?_
    intro r3 H3 a3 b3 S3
    walk_at "go"
    have k3 : (1 + r1) * (1 + r3) ≤ m := by
      have := Int.mul_le_mul_of_nonneg_left (show 1 + r3 ≤ m / (1 + r1) by omega) (show 0 ≤ 1 + r1 by omega)
      have := Int.mul_ediv_self_le (x := m) (k := 1 + r1) (by omega)
      omega
    have nb := n1_big
    exact q _ (1 + r1) r2 (1 + r3) _ ⟨by omega, by omega, by omega, by omega, by omega, by omega⟩ (by omega) (by omega) k3 (by walk_at "st") (by walk_at "up")
theorem do_law_net {t : Addr} {m : Int} (T : Tape H t) (h0 : 1 ≤ m) (h1 : m < 10 ^ 9) (k : ∀ v a b c H', Nm a b c → a ≤ m → c ≤ m → a * c ≤ m → Stp (some t) H H' → IT H' v [a, b, c] → Q v H') :
    sp_law_net [.ref t, .int m] H Q E := ⟨t, m, rfl, T, h0, h1, k⟩

end
end Law

set_option Elab.async false
set_option linter.all false
set_option maxRecDepth 100000
set_option maxHeartbeats 4000000
namespace Law
open PySem PySem.Spec PyProof.Rows L2 MV
local macro_rules | `(tactic| walk_at "up") => `(tactic| first
  | assumption
  | (refine' IT.mv ?s ?g; (case s => assumption); (case g => walk_at "up"))
  | (refine' IT.k ?g; (case g => walk_at "up"))
  | (refine' IK.mv ?s ?g; (case s => assumption); (case g => walk_at "up"))
  | (refine' Tape.mvN ?s ?g; (case s => assumption); (case g => walk_at "up"))
  | (refine' Tape.mvS ?s ?g; (case s => assumption); (case g => walk_at "up"))
  | (refine' At.tup ?s ?g; (case s => assumption); (case g => walk_at "up"))
  | (refine' At.ins ?s ?g; (case s => assumption); (case g => walk_at "up"))
  | (refine' At.lst ?s ?g; (case s => assumption); (case g => walk_at "up"))
  | (refine' At.lstS ?s ?n ?g; (case s => assumption); (case n => assumption); (case g => walk_at "up"))
  | fail)
local macro_rules | `(tactic| walk_at "st") => `(tactic| first
  | assumption
  | exact Stp.refl _ _
  | (refine' Stp.w ?s; (case s => assumption))
  | (refine' Stp.trans ?g ?s; (case s => (first | assumption | (refine' Stp.w ?u; (case u => assumption)))); (case g => walk_at "st"))
  | fail)
local macro_rules | `(tactic| walk_at "bT") => `(tactic| first
  | decide
  | (simp only [Bool.not_eq_true', Bool.not_eq_false', decide_eq_true_eq, decide_eq_false_iff_not]; omega)
  | fail)
local macro_rules | `(tactic| walk_at "sd") => `(tactic| first | assumption | decide | omega | fail)
local macro_rules | `(tactic| walk_at "r") => `(tactic| first
  | (with_reducible refine r_seq ?_)
  | (with_reducible refine r_asg ?_)
  | ((with_reducible refine' r_var ?h ?k); (case h => rfl))
  | (with_reducible refine r_c ?_)
  | (with_reducible refine r_op ?_)
  | (with_reducible refine r_un ?_)
  | (with_reducible refine r_nil ?_)
  | (with_reducible refine r_cons ?_)
  | (with_reducible refine r_tup ?_)
  | (with_reducible refine r_lst ?_)
  | (with_reducible refine r_cbLen ?_)
  | (with_reducible refine r_cbInt ?_)
  | (with_reducible refine r_cbRepr ?_)
  | (with_reducible refine r_cbTup ?_)
  | (with_reducible refine r_cbLst ?_)
  | (with_reducible refine r_cb ?_)
  | (with_reducible refine r_prop ?_)
  | (with_reducible refine r_andV ?_)
  | (with_reducible refine r_orV ?_)
  | (with_reducible refine r_notV ?_)
  | (with_reducible refine r_chain ?_)
  | (with_reducible refine r_ifE ?_)
  | (with_reducible refine r_test ?_)
  | (with_reducible refine r_B ?_)
  | (with_reducible refine r_and ?_)
  | (with_reducible refine r_or ?_)
  | (with_reducible refine r_not ?_)
  | (with_reducible refine r_yes ?_)
  | (with_reducible refine r_k ?_)
  | (with_reducible refine r_kV ?_)
  | (with_reducible refine r_next ?_)
  | (with_reducible refine r_drop ?_)
  | (with_reducible refine r_ret ?_)
  | (with_reducible refine r_ifS ?_)
  | (with_reducible refine r_par ?_)
  | (with_reducible refine r_par1 ?_)
  | (with_reducible refine r_gname ?_)
  | (with_reducible refine r_gnil ?_)
  | (with_reducible refine r_gcons ?_)
  | ((with_reducible refine' r_unpack2 ?h ?k); (case h => walk_at "up"))
  | ((with_reducible refine' r_unpack3 ?h ?k); (case h => walk_at "up"))
  | (with_reducible refine r_add ?_)
  | (with_reducible refine r_sub ?_)
  | (with_reducible refine r_neg ?_)
  | ((with_reducible refine' r_mod ?h ?k); (case h => walk_at "sd"))
  | ((with_reducible refine' r_div ?h ?k); (case h => walk_at "sd"))
  | ((with_reducible refine' r_mul ?h ?k); (case h => walk_at "sd"))
  | ((with_reducible refine' r_mulW ?h ?k); (case h => walk_at "sd"))
  | ((with_reducible refine' r_pow ?h ?k); (case h => (show (0 : Int) ≤ _ ∧ _ ∧ _; decide)))
  | (with_reducible refine r_lt ?_)
  | (with_reducible refine r_le ?_)
  | (with_reducible refine r_gt ?_)
  | (with_reducible refine r_ge ?_)
  | (with_reducible refine r_eqI ?_)
  | (with_reducible refine r_neI ?_)
  | (with_reducible refine r_eqS ?_)
  | (with_reducible refine r_neS ?_)
  | ((with_reducible refine' r_eqT ?h ?g ?k); (case h => walk_at "up"); (case g => walk_at "up"))
  | ((with_reducible refine' r_neT ?h ?g ?k); (case h => walk_at "up"); (case g => walk_at "up"))
  | ((with_reducible refine' r_ix0 ?h ?k); (case h => walk_at "up"))
  | ((with_reducible refine' r_ix1 ?h ?k); (case h => walk_at "up"))
  | ((with_reducible refine' r_ix2 ?h ?k); (case h => walk_at "up"))
  | (with_reducible refine r_newI2 (fun v H2 S I => ?_))
  | (with_reducible refine r_newI3 (fun v H2 S I => ?_))
  | (with_reducible refine r_newL1 (fun p H2 S hp np => ?_))
  | (with_reducible refine r_newL2 (fun p H2 S hp np => ?_))
  | (with_reducible refine r_newL3 (fun p H2 S hp np => ?_))
  | (with_reducible refine r_T ?_)
  | (with_reducible refine r_F ?_)
  | fail)
local macro_rules | `(tactic| walk_at "go") => `(tactic| repeat (walk_at "r"))
local macro_rules | `(tactic| walk_at "r") => `(tactic| first
  | (with_reducible refine r_call0 ?_)
  | (with_reducible refine r_meth0 ?_)
  | (with_reducible refine r_make0 ?_)
  | (with_reducible refine r_isiII ?_)
  | (with_reducible refine r_isiIB ?_)
  | ((with_reducible refine' r_isiTT ?h ?k); (case h => walk_at "up"))
  | ((with_reducible refine' r_len2 ?h ?k); (case h => walk_at "up"))
  | ((with_reducible refine' r_len3 ?h ?k); (case h => walk_at "up"))
  | ((with_reducible refine' r_lenL ?h ?k); (case h => walk_at "up"))
  | (with_reducible refine r_int1 ?_)
  | (with_reducible refine r_int1B ?_)
  | (with_reducible refine r_nT ?_)
  | (with_reducible refine r_nF ?_)
  | (with_reducible refine r_gcd ?_)
  | (with_reducible refine r_gsub ?_)
  | (with_reducible refine r_fld ?_)
  | (with_reducible refine r_p6 ?_)
  | (with_reducible refine r_p9 ?_)
  | (with_reducible refine r_p10 ?_)
  | (with_reducible refine r_p11 ?_)
  | (with_reducible refine r_p12 ?_)
  | (with_reducible refine r_p18 ?_)
  | (with_reducible refine r_p20 ?_)
  | (with_reducible refine r_p26 ?_)
  | (with_reducible refine r_p27 ?_)
  | (with_reducible refine r_p30 ?_)
  | ((with_reducible refine' r_iF ?h ?k); (case h => walk_at "bT"))
  | ((with_reducible refine' r_iT ?h ?k); (case h => walk_at "bT"))
  | (with_reducible refine r_sfld ?_)
  | (with_reducible refine r_sl ?_)
  | (with_reducible refine r_noPart ?_)
  | (with_reducible refine r_part ?_)
  | (with_reducible refine r_pk ?_)
  | ((with_reducible refine' r_unl2 ?h ?k); (case h => walk_at "up"))
  | ((with_reducible refine' r_ixLi ?h ?h0 ?hn ?k); (case h => walk_at "up"); (case h0 => walk_at "sd"); (case hn => rfl))
  | fail)

local macro_rules | `(tactic| walk_at "r") => `(tactic| with_reducible refine do_is_integer ?_)
local macro_rules | `(tactic| walk_at "r") => `(tactic| first | ((with_reducible refine' do_is_place ?h ?k); (case h => walk_at "up")) | fail)
local macro_rules | `(tactic| walk_at "r") => `(tactic| first | ((with_reducible refine' do_check_place ?h ?k); (case h => walk_at "up")) | fail)
local macro_rules | `(tactic| walk_at "r") => `(tactic| first | ((with_reducible refine' do_are_numbers ?h ?k); (case h => assumption)) | fail)
local macro_rules | `(tactic| walk_at "up") => `(tactic| first | (refine' NA.mv ?s ?g; (case s => assumption); (case g => walk_at "up")) | fail)
local macro_rules | `(tactic| walk_at "r") => `(tactic| first
  | ((with_reducible refine' do_Net_size ?h ?k); (case h => walk_at "up"))
  | ((with_reducible refine' do_meth ?h ?hm ?k); (case h => walk_at "up"); (case hm => decide +kernel))
  | fail)

local macro_rules | `(tactic| walk_at "r") => `(tactic| first
  | (with_reducible refine r_forT ?_)
  | (with_reducible refine r_forL ?_)
  | (with_reducible refine r_forR ?_)
  | (with_reducible refine r_newI4 (fun v H2 S I => ?_))
  | ((with_reducible refine' r_unpack4 ?h ?k); (case h => walk_at "up"))
  | fail)
section
variable {P : Program} {w : World} {K : PySem.W.Frag} {mg : Str → Option Value} {base : Heap} {ad : Ad} {H : Hp} {Q : VK} {E : XK} {i j x y : Int} {v : V}
/-! ### one more shift -/
theorem gcd_bd {a x : Int} {M : Nat} (h : a.natAbs ≤ M) (g : x.natAbs ≤ M) : (gcdI a x).natAbs ≤ M := by
  unfold gcdI
  rw [Int.natAbs_natCast]
  by_cases z : a.natAbs = 0
  · rw [z, Nat.gcd_zero_left]; exact g
  · exact Nat.le_trans (Nat.gcd_le_left _ (by omega)) h
theorem gcd_nn (a x : Int) : 0 ≤ gcdI a x := by unfold gcdI; omega
structure Wb (C B : Nat) (a b c x y : Int) : Prop where
  c1 : 1 ≤ C
  cc : c.natAbs ≤ C
  yy : y.natAbs ≤ C
  aa : a.natAbs ≤ B
  bb : b.natAbs ≤ B
  xx : x.natAbs ≤ B
theorem Nf.mk' {a b c : Int} (ha : 0 ≤ a) (hc : 0 ≤ c) (hz : c = 0 → b = 0) {M : Nat} (bb : b.natAbs ≤ M) (ba : a.natAbs ≤ M) :
    (0 < a → NF a (b % a) c ∧ (b % a).natAbs ≤ M) ∧ (¬ 0 < a → NF a b c) := by
  constructor
  · intro h
    have r0 := Int.emod_nonneg b (show a ≠ 0 by omega)
    have r1 := Int.emod_lt_of_pos b h
    refine ⟨⟨ha, hc, fun _ => ⟨r0, r1⟩, fun e => by rw [hz e]; rfl⟩, by omega⟩
  · intro h
    exact ⟨ha, hc, fun n => absurd n (by omega), hz⟩
/-- what with_shift gives -/
structure Ws (a b c x y : Int) (C M : Nat) (a' b' c' : Int) : Prop where
  nf : NF a' b' c'
  sp : ∀ X Y, Lp a' b' c' X Y ↔ SpF (Lp a b c) (x, y) X Y
  cc : c'.natAbs ≤ C
  aa : a'.natAbs ≤ M
  bb : b'.natAbs ≤ M
def sp_with_shift : Sp := fun vs H Q _ => ∃ v u a b c x y C B, vs = [v, u] ∧ IT H v [a, b, c] ∧ IT H u [x, y] ∧ NF a b c ∧ Wb C B a b c x y ∧ ((4 * C * B : Nat) : Int) ≤ N1 ∧ ((C : Nat) : Int) ≤ N1 ∧
  ∀ z a' b' c' H', Stp none H H' → IT H' z [a', b', c'] → Ws a b c x y C (4 * C * B) a' b' c' → Q z H'
theorem ok_with_shift (T : Txt w K mg ad) : FnG P w K mg base CX0 1 ad.with_shift ad.with_shift_d P_with_shift sp_with_shift := by
  refine Fun.gn T.F_with_shift sc_with_shift (fun vs H Q E h => ?_) (fun cdv A outer s H vs Q E hr hg h => ?_)
  · obtain ⟨v, u, a, b, c, x, y, C, B, rfl, _⟩ := h
    rfl
  · obtain ⟨v, u, a, b, c, x, y, C, B, rfl, hv, hu, hn, hw, hM, hC, q⟩ := h
    have e0 := EB.start hw.c1 hw.cc hw.yy hw.bb hw.xx
    have ha : a.natAbs ≤ 4 * C * B := by
      have := Nat.mul_le_mul_right B (show 1 ≤ 4 * C by have := hw.c1; omega)
      have := hw.aa
      omega
    generalize 4 * C * B = M at e0 ha hM q
    refine ⟨_, (pss_cons (ps_asg (pv 0) (pg_tup (n := 3) rfl (pgs_cons (pg_name (i := 2) sc_with_shift.nd rfl (Or.inl rfl)) (pgs_cons (pg_name (i := 3) sc_with_shift.nd rfl (Or.inl rfl)) (pgs_cons (pg_name (i := 4) sc_with_shift.nd rfl (Or.inl rfl)) pgs_nil)))))
      (pss_cons (ps_asg (pv 1) (pg_tup (n := 2) rfl (pgs_cons (pg_name (i := 5) sc_with_shift.nd rfl (Or.inl rfl)) (pgs_cons (pg_name (i := 6) sc_with_shift.nd rfl (Or.inl rfl)) pgs_nil))))
      (pss_cons (ps_while PassesOwn.never (pt_cmpR op_ne (pv 6) pe_int (nomark _))
      (pss_cons (ps_set (i := 7) sc_with_shift.nd rfl (Or.inl rfl) (pe_op op_fdivN9 (pv 4) (pv 6)))
      (pss_one (ps_asg (pe_tup (pa_cons (pv 5) (pa_cons (pv 6) (pa_cons (pe_op op_sub (pv 3) (pe_op op_mulW (pv 7) (pv 5))) (pa_cons (pe_op op_sub (pv 4) (pe_op op_mulW (pv 7) (pv 6))) pa_nil))))) (pg_tup (n := 4) rfl (pgs_cons (pg_name (i := 3) sc_with_shift.nd rfl (Or.inl rfl)) (pgs_cons (pg_name (i := 4) sc_with_shift.nd rfl (Or.inl rfl)) (pgs_cons (pg_name (i := 5) sc_with_shift.nd rfl (Or.inl rfl)) (pgs_cons (pg_name (i := 6) sc_with_shift.nd rfl (Or.inl rfl)) pgs_nil)))))))))
      (pss_cons (ps_if (pt_cmpR op_lt (pv 4) pe_int (nomark _))
      (pss_one (ps_par (i := 3) (j := 4) rfl sc_with_shift.nd rfl rfl (by decide) rfl rfl (pa_cons (pe_un un_neg (pv 3)) (pa_cons (pe_un un_neg (pv 4)) pa_nil)) rfl)) pss_nil)
      (pss_cons (ps_set (i := 2) sc_with_shift.nd rfl (Or.inl rfl) (pe_callBfun cr_gcd (by rfl) T.g_gcd (pa_cons (pv 2) (pa_cons (pv 5) pa_nil))))
      (pss_cons (ps_if (pt_cmpR op_gt (pv 2) pe_int (nomark _))
      (pss_one (ps_set (i := 3) sc_with_shift.nd rfl (Or.inl rfl) (pe_op op_mod (pv 3) (pv 2)))) pss_nil)
      (pss_one (ps_ret (pe_tup (pa_cons (pv 2) (pa_cons (pv 3) (pa_cons (pv 4) pa_nil)))))))))))), ?_⟩
    walk_at "go"
    refine r_while (fun m σ H' => ∃ b1 c1 x1 y1 t, σ = [some v, some u, some (.int a), some (.int b1), some (.int c1), some (.int x1), some (.int y1), t] ∧ Stp none H H' ∧ EB C M b1 c1 x1 y1 ∧
      (∀ X Y, L3 a b1 c1 x1 y1 X Y ↔ L3 a b c x y X Y) ∧ (c1 = 0 → b1 = 0) ∧ m = y1.natAbs) ⟨_, b, c, x, y, none, rfl, Stp.refl _ _, e0, fun _ _ => Iff.rfl, hn.z, rfl⟩ ?_
    rintro m σ H1 ⟨b1, c1, x1, y1, t, rfl, s1, e1, l1, z1, rfl⟩
    walk_at "go"
    refine r_iteN (fun hy => ?_) (fun hy => ?_)
    · obtain ⟨k1, k2, k3, k4, _⟩ := id e1
      have f1 := fd_le (c := c1) (y := y1)
      have rr := fd_rest (c := c1) hy
      refine ⟨fun σ' H' => ∃ t, σ' = [some v, some u, some (.int a), some (.int x1), some (.int y1), some (.int (b1 - c1.fdiv y1 * x1)), some (.int (c1 - c1.fdiv y1 * y1)), t] ∧ Stp none H H', ?_, ?_⟩
      · rintro σ' H' ⟨t, rfl, s'⟩
        exact ⟨_, rr.1, x1, y1, _, _, t, rfl, s', e1.step hy, fun X Y => L3_step.trans (l1 X Y), fun h => absurd h hy, rfl⟩
      · walk_at "go"
        refine r_divN9 (divN9 hy (by omega) (by omega)) ?_
        walk_at "go"
        refine r_mulW (mulN (by omega) (by omega) (by omega) (by omega)) ?_
        walk_at "go"
        refine r_mulW (mulN (by omega) (by omega) (by omega) (by omega)) ?_
        walk_at "go"
        exact ⟨_, rfl, by walk_at "st"⟩
    · subst hy
      have gb := gcd_bd ha e1.hx
      have gn := gcd_nn a x1
      have l2 : ∀ X Y, Lp (gcdI a x1) b1 c1 X Y ↔ SpF (Lp a b c) (x, y) X Y := fun X Y => L3_end.symm.trans (l1 X Y)
      have fin : ∀ {b2 c2 : Int} {t : Option V} {H2 : Hp} (σ' : L2.St), (∀ X Y, Lp (gcdI a x1) b2 c2 X Y ↔ SpF (Lp a b c) (x, y) X Y) → 0 ≤ c2 → (c2 = 0 → b2 = 0) → b2.natAbs ≤ M → c2.natAbs ≤ C → Stp none H H2 → ∀ b3,
          (if 0 < gcdI a x1 then b3 = b2 % gcdI a x1 else b3 = b2) → ∀ z, ∀ H3, Stp none H2 H3 → IT H3 z [gcdI a x1, b3, c2] → Q z H3 := by
        intro b2 c2 t H2 σ' l3 c0 z3 bb cc s2 b3 hb3 z H3 s3 hz
        obtain ⟨n1, n2⟩ := Nf.mk' gn c0 z3 bb gb
        by_cases hg : 0 < gcdI a x1
        · rw [if_pos hg] at hb3
          subst hb3
          exact q _ _ _ _ _ (s2.trans s3) hz ⟨(n1 hg).1, fun X Y => Lp_mod.trans (l3 X Y), cc, gb, (n1 hg).2⟩
        · rw [if_neg hg] at hb3
          subst hb3
          exact q _ _ _ _ _ (s2.trans s3) hz ⟨n2 hg, l3, cc, gb, bb⟩
      walk_at "go"
      refine r_ite (fun hc => ?_) (fun hc => ?_)
      · walk_at "go"
        refine r_ite (fun hg => ?_) (fun hg => ?_)
        · walk_at "go"
          rename_i z H3 S3 hz
          exact fin (t := t) [] (fun X Y => Lp_neg.trans (l2 X Y)) (by omega) (fun h => by rw [z1 (by omega)]; rfl) (by have := e1.hb; omega) (by have := e1.hc; omega) s1 _ (by rw [if_pos (show 0 < gcdI a x1 from hg)]; rfl) z H3 S3 hz
        · walk_at "go"
          rename_i z H3 S3 hz
          exact fin (t := t) [] (fun X Y => Lp_neg.trans (l2 X Y)) (by omega) (fun h => by rw [z1 (by omega)]; rfl) (by have := e1.hb; omega) (by have := e1.hc; omega) s1 _ (by rw [if_neg (show ¬ 0 < gcdI a x1 from hg)]) z H3 S3 hz
      · walk_at "go"
        refine r_ite (fun hg => ?_) (fun hg => ?_)
        · walk_at "go"
          rename_i z H3 S3 hz
          exact fin (t := t) [] l2 (by omega) z1 e1.hb e1.hc s1 _ (by rw [if_pos (show 0 < gcdI a x1 from hg)]; rfl) z H3 S3 hz
        · walk_at "go"
          rename_i z H3 S3 hz
          exact fin (t := t) [] l2 (by omega) z1 e1.hb e1.hc s1 _ (by rw [if_neg (show ¬ 0 < gcdI a x1 from hg)]) z H3 S3 hz
theorem do_with_shift {u : V} {a b c : Int} {C B : Nat} (h : IT H v [a, b, c]) (hu : IT H u [x, y]) (n : NF a b c) (hw : Wb C B a b c x y) (hM : ((4 * C * B : Nat) : Int) ≤ N1) (hC : ((C : Nat) : Int) ≤ N1)
    (q : ∀ z a' b' c' H', Stp none H H' → IT H' z [a', b', c'] → Ws a b c x y C (4 * C * B) a' b' c' → Q z H') : sp_with_shift [v, u] H Q E := ⟨v, u, a, b, c, x, y, C, B, rfl, h, hu, n, hw, hM, hC, q⟩
end
end Law

set_option Elab.async false
set_option linter.all false
set_option maxRecDepth 100000
set_option maxHeartbeats 4000000
namespace Law
open PySem PySem.Spec PyProof.Rows L2 MV
local macro_rules | `(tactic| walk_at "up") => `(tactic| first
  | assumption
  | (refine' IT.mv ?s ?g; (case s => assumption); (case g => walk_at "up"))
  | (refine' IT.k ?g; (case g => walk_at "up"))
  | (refine' IK.mv ?s ?g; (case s => assumption); (case g => walk_at "up"))
  | (refine' Tape.mvN ?s ?g; (case s => assumption); (case g => walk_at "up"))
  | (refine' Tape.mvS ?s ?g; (case s => assumption); (case g => walk_at "up"))
  | (refine' At.tup ?s ?g; (case s => assumption); (case g => walk_at "up"))
  | (refine' At.ins ?s ?g; (case s => assumption); (case g => walk_at "up"))
  | (refine' At.lst ?s ?g; (case s => assumption); (case g => walk_at "up"))
  | (refine' At.lstS ?s ?n ?g; (case s => assumption); (case n => assumption); (case g => walk_at "up"))
  | fail)
local macro_rules | `(tactic| walk_at "st") => `(tactic| first
  | assumption
  | exact Stp.refl _ _
  | (refine' Stp.w ?s; (case s => assumption))
  | (refine' Stp.trans ?g ?s; (case s => (first | assumption | (refine' Stp.w ?u; (case u => assumption)))); (case g => walk_at "st"))
  | fail)
local macro_rules | `(tactic| walk_at "bT") => `(tactic| first
  | decide
  | (simp only [Bool.not_eq_true', Bool.not_eq_false', decide_eq_true_eq, decide_eq_false_iff_not]; omega)
  | fail)
local macro_rules | `(tactic| walk_at "sd") => `(tactic| first | assumption | decide | omega | fail)
local macro_rules | `(tactic| walk_at "r") => `(tactic| first
  | (with_reducible refine r_seq ?_)
  | (with_reducible refine r_asg ?_)
  | ((with_reducible refine' r_var ?h ?k); (case h => rfl))
  | (with_reducible refine r_c ?_)
  | (with_reducible refine r_op ?_)
  | (with_reducible refine r_un ?_)
  | (with_reducible refine r_nil ?_)
  | (with_reducible refine r_cons ?_)
  | (with_reducible refine r_tup ?_)
  | (with_reducible refine r_lst ?_)
  | (with_reducible refine r_cbLen ?_)
  | (with_reducible refine r_cbInt ?_)
  | (with_reducible refine r_cbRepr ?_)
  | (with_reducible refine r_cbTup ?_)
  | (with_reducible refine r_cbLst ?_)
  | (with_reducible refine r_cb ?_)
  | (with_reducible refine r_prop ?_)
  | (with_reducible refine r_andV ?_)
  | (with_reducible refine r_orV ?_)
  | (with_reducible refine r_notV ?_)
  | (with_reducible refine r_chain ?_)
  | (with_reducible refine r_ifE ?_)
  | (with_reducible refine r_test ?_)
  | (with_reducible refine r_B ?_)
  | (with_reducible refine r_and ?_)
  | (with_reducible refine r_or ?_)
  | (with_reducible refine r_not ?_)
  | (with_reducible refine r_yes ?_)
  | (with_reducible refine r_k ?_)
  | (with_reducible refine r_kV ?_)
  | (with_reducible refine r_next ?_)
  | (with_reducible refine r_drop ?_)
  | (with_reducible refine r_ret ?_)
  | (with_reducible refine r_ifS ?_)
  | (with_reducible refine r_par ?_)
  | (with_reducible refine r_par1 ?_)
  | (with_reducible refine r_gname ?_)
  | (with_reducible refine r_gnil ?_)
  | (with_reducible refine r_gcons ?_)
  | ((with_reducible refine' r_unpack2 ?h ?k); (case h => walk_at "up"))
  | ((with_reducible refine' r_unpack3 ?h ?k); (case h => walk_at "up"))
  | (with_reducible refine r_add ?_)
  | (with_reducible refine r_sub ?_)
  | (with_reducible refine r_neg ?_)
  | ((with_reducible refine' r_mod ?h ?k); (case h => walk_at "sd"))
  | ((with_reducible refine' r_div ?h ?k); (case h => walk_at "sd"))
  | ((with_reducible refine' r_mul ?h ?k); (case h => walk_at "sd"))
  | ((with_reducible refine' r_mulW ?h ?k); (case h => walk_at "sd"))
  | ((with_reducible refine' r_pow ?h ?k); (case h => (show (0 : Int) ≤ _ ∧ _ ∧ _; decide)))
  | (with_reducible refine r_lt ?_)
  | (with_reducible refine r_le ?_)
  | (with_reducible refine r_gt ?_)
  | (with_reducible refine r_ge ?_)
  | (with_reducible refine r_eqI ?_)
  | (with_reducible refine r_neI ?_)
  | (with_reducible refine r_eqS ?_)
  | (with_reducible refine r_neS ?_)
  | ((with_reducible refine' r_eqT ?h ?g ?k); (case h => walk_at "up"); (case g => walk_at "up"))
  | ((with_reducible refine' r_neT ?h ?g ?k); (case h => walk_at "up"); (case g => walk_at "up"))
  | ((with_reducible refine' r_ix0 ?h ?k); (case h => walk_at "up"))
  | ((with_reducible refine' r_ix1 ?h ?k); (case h => walk_at "up"))
  | ((with_reducible refine' r_ix2 ?h ?k); (case h => walk_at "up"))
  | (with_reducible refine r_newI2 (fun v H2 S I => ?_))
  | (with_reducible refine r_newI3 (fun v H2 S I => ?_))
  | (with_reducible refine r_newL1 (fun p H2 S hp np => ?_))
  | (with_reducible refine r_newL2 (fun p H2 S hp np => ?_))
  | (with_reducible refine r_newL3 (fun p H2 S hp np => ?_))
  | (with_reducible refine r_T ?_)
  | (with_reducible refine r_F ?_)
  | fail)
local macro_rules | `(tactic| walk_at "go") => `(tactic| repeat (walk_at "r"))
local macro_rules | `(tactic| walk_at "r") => `(tactic| first
  | (with_reducible refine r_call0 ?_)
  | (with_reducible refine r_meth0 ?_)
  | (with_reducible refine r_make0 ?_)
  | (with_reducible refine r_isiII ?_)
  | (with_reducible refine r_isiIB ?_)
  | ((with_reducible refine' r_isiTT ?h ?k); (case h => walk_at "up"))
  | ((with_reducible refine' r_len2 ?h ?k); (case h => walk_at "up"))
  | ((with_reducible refine' r_len3 ?h ?k); (case h => walk_at "up"))
  | ((with_reducible refine' r_lenL ?h ?k); (case h => walk_at "up"))
  | (with_reducible refine r_int1 ?_)
  | (with_reducible refine r_int1B ?_)
  | (with_reducible refine r_nT ?_)
  | (with_reducible refine r_nF ?_)
  | (with_reducible refine r_gcd ?_)
  | (with_reducible refine r_gsub ?_)
  | (with_reducible refine r_fld ?_)
  | (with_reducible refine r_p6 ?_)
  | (with_reducible refine r_p9 ?_)
  | (with_reducible refine r_p10 ?_)
  | (with_reducible refine r_p11 ?_)
  | (with_reducible refine r_p12 ?_)
  | (with_reducible refine r_p18 ?_)
  | (with_reducible refine r_p20 ?_)
  | (with_reducible refine r_p26 ?_)
  | (with_reducible refine r_p27 ?_)
  | (with_reducible refine r_p30 ?_)
  | ((with_reducible refine' r_iF ?h ?k); (case h => walk_at "bT"))
  | ((with_reducible refine' r_iT ?h ?k); (case h => walk_at "bT"))
  | (with_reducible refine r_sfld ?_)
  | (with_reducible refine r_sl ?_)
  | (with_reducible refine r_noPart ?_)
  | (with_reducible refine r_part ?_)
  | (with_reducible refine r_pk ?_)
  | ((with_reducible refine' r_unl2 ?h ?k); (case h => walk_at "up"))
  | ((with_reducible refine' r_ixLi ?h ?h0 ?hn ?k); (case h => walk_at "up"); (case h0 => walk_at "sd"); (case hn => rfl))
  | fail)

local macro_rules | `(tactic| walk_at "r") => `(tactic| with_reducible refine do_is_integer ?_)
local macro_rules | `(tactic| walk_at "r") => `(tactic| first | ((with_reducible refine' do_is_place ?h ?k); (case h => walk_at "up")) | fail)
local macro_rules | `(tactic| walk_at "r") => `(tactic| first | ((with_reducible refine' do_check_place ?h ?k); (case h => walk_at "up")) | fail)
local macro_rules | `(tactic| walk_at "r") => `(tactic| first | ((with_reducible refine' do_are_numbers ?h ?k); (case h => assumption)) | fail)
local macro_rules | `(tactic| walk_at "up") => `(tactic| first | (refine' NA.mv ?s ?g; (case s => assumption); (case g => walk_at "up")) | fail)
local macro_rules | `(tactic| walk_at "r") => `(tactic| first
  | ((with_reducible refine' do_Net_size ?h ?k); (case h => walk_at "up"))
  | ((with_reducible refine' do_meth ?h ?hm ?k); (case h => walk_at "up"); (case hm => decide +kernel))
  | fail)

local macro_rules | `(tactic| walk_at "r") => `(tactic| first
  | (with_reducible refine r_forT ?_)
  | (with_reducible refine r_forL ?_)
  | (with_reducible refine r_forR ?_)
  | (with_reducible refine r_newI4 (fun v H2 S I => ?_))
  | ((with_reducible refine' r_unpack4 ?h ?k); (case h => walk_at "up"))
  | fail)
section
variable {P : Program} {w : World} {K : PySem.W.Frag} {mg : Str → Option Value} {base : Heap} {ad : Ad} {H : Hp} {Q : VK} {E : XK} {i j x y : Int} {v : V}
/-! ### the divisor and the net of the law -/
theorem dvd_gcdI {a b d : Int} (h : d ∣ a) (g : d ∣ b) : d ∣ gcdI a b := by
  obtain ⟨i, j, e⟩ := bezI a b
  rw [e]
  exact Int.dvd_add (Int.dvd_mul_of_dvd_right h) (Int.dvd_mul_of_dvd_right g)
theorem gcd_step (c y t : Int) : gcdI y (c - t * y) = gcdI c y := by
  refine Int.dvd_antisymm (gcd_nn _ _) (gcd_nn _ _) ?_ ?_
  · refine dvd_gcdI ?_ (gcdI_left _ _)
    have := Int.dvd_add (gcdI_right y (c - t * y)) (Int.dvd_mul_of_dvd_right (b := t) (gcdI_left y (c - t * y)))
    have e : c - t * y + t * y = c := by omega
    rwa [e] at this
  · refine dvd_gcdI (gcdI_right _ _) ?_
    exact Int.dvd_sub (gcdI_left _ _) (Int.dvd_mul_of_dvd_right (gcdI_right _ _))
theorem fmod_is (c y : Int) : c.fmod y = c - c.fdiv y * y := by
  have := Int.fmod_def c y
  rw [this, Int.mul_comm]
theorem gcd_zero (a : Int) : gcdI a 0 = if a < 0 then -a else a := by
  unfold gcdI
  simp only [Int.natAbs_zero, Nat.gcd_zero_right]
  split <;> omega
def sp_law_divisor : Sp := fun vs H Q _ => ∃ i j, vs = [.int i, .int j] ∧ Q (.int (gcdI i j)) H
theorem ok_law_divisor (T : Txt w K mg ad) : FnG P w K mg base CX0 1 ad.law_divisor ad.law_divisor_d P_law_divisor sp_law_divisor := by
  refine Fun.gn T.F_law_divisor sc_law_divisor (fun vs H Q E h => ?_) (fun cdv A outer s H vs Q E hr hg h => ?_)
  · obtain ⟨i, j, rfl, _⟩ := h
    rfl
  · obtain ⟨i, j, rfl, q⟩ := h
    refine ⟨_, (pss_cons (ps_while PassesOwn.never (pt_cmpR op_ne (pv 1) pe_int (nomark _))
      (pss_one (ps_par (i := 0) (j := 1) rfl sc_law_divisor.nd rfl rfl (by decide) rfl rfl (pa_cons (pv 1) (pa_cons (pe_op op_modN (pv 0) (pv 1)) pa_nil)) rfl)))
      (pss_one (ps_ret (pe_callB call_abs (by rfl) T.z_abs (by decide +kernel) (pa_cons (pv 0) pa_nil))))), ?_⟩
    walk_at "go"
    refine r_while (fun m σ H' => ∃ i1 j1, σ = [some (.int i1), some (.int j1)] ∧ H' = H ∧ gcdI i1 j1 = gcdI i j ∧ m = j1.natAbs) ⟨_, i, j, rfl, rfl, rfl, rfl⟩ ?_
    rintro m σ H' ⟨i1, j1, rfl, rfl, e, rfl⟩
    walk_at "go"
    refine r_iteN (fun hy => ?_) (fun hy => ?_)
    · refine ⟨fun σ' H2 => σ' = [some (.int j1), some (.int (i1 - i1.fdiv j1 * j1))] ∧ H2 = H', ?_, ?_⟩
      · rintro σ' H2 ⟨rfl, rfl⟩
        exact ⟨_, (fd_rest hy).1, j1, _, rfl, rfl, (gcd_step i1 j1 _).trans e, rfl⟩
      · walk_at "go"
        refine r_modN hy ?_
        rw [fmod_is]
        walk_at "go"
        exact ⟨rfl, rfl⟩
    · subst hy
      walk_at "go"
      refine ⟨i1, rfl, ?_⟩
      rw [← gcd_zero, e]
      exact q
theorem do_law_divisor (q : Q (.int (gcdI i j)) H) : sp_law_divisor [.int i, .int j] H Q E := ⟨i, j, rfl, q⟩
/-- the shifts ss stand as the values xs -/
def PT (H : Hp) (xs : List V) (ss : List (Int × Int)) : Prop := xs.length = ss.length ∧ ∀ (i : Nat) (x : V), xs[i]? = some x → ∃ s, ss[i]? = some s ∧ IT H x [s.1, s.2]
theorem PT.mv {t : Option Addr} {H H' : Hp} {xs : List V} {ss : List (Int × Int)} (s : Stp t H H') (h : PT H xs ss) : PT H' xs ss :=
  ⟨h.1, fun i x e => (let ⟨u, h1, h2⟩ := h.2 i x e; ⟨u, h1, h2.mv s⟩)⟩
def Bd (C B : Nat) (ss : List (Int × Int)) : Prop := ∀ s ∈ ss, s.1.natAbs ≤ B ∧ s.2.natAbs ≤ C
/-- the bounds of a fold over so many shifts -/
structure Fb (C B n : Nat) : Prop where
  c1 : 1 ≤ C
  n1 : (((4 * C) ^ n * B : Nat) : Int) ≤ N1
  cn : ((C : Nat) : Int) ≤ N1
theorem pw_le {C B i n : Nat} (h : 1 ≤ C) (hi : i ≤ n) : (4 * C) ^ i * B ≤ (4 * C) ^ n * B := Nat.mul_le_mul_right B (Nat.pow_le_pow_right (by omega) hi)
theorem pw_0 {C B i : Nat} (h : 1 ≤ C) : B ≤ (4 * C) ^ i * B := by
  have := pw_le (B := B) h (Nat.zero_le i)
  rwa [Nat.pow_zero, Nat.one_mul] at this
theorem pw_s {C B i : Nat} : 4 * C * ((4 * C) ^ i * B) = (4 * C) ^ (i + 1) * B := by
  rw [Nat.pow_succ, ← Nat.mul_assoc]
  congr 1
  exact Nat.mul_comm _ _
theorem Fb.at_ {C B n : Nat} (h : Fb C B n) {i : Nat} (hi : i ≤ n) : (((4 * C) ^ i * B : Nat) : Int) ≤ N1 := by
  have := pw_le (B := B) h.c1 hi
  have := h.n1
  omega
theorem nf_0 : NF 0 0 0 := ⟨by decide, by decide, fun h => absurd rfl h, fun _ => rfl⟩
theorem lp_0 (X Y : Int) : Lp 0 0 0 X Y ↔ SpL [] X Y :=
  ⟨fun ⟨i, j, e1, e2⟩ => ⟨by omega, by omega⟩, fun ⟨e1, e2⟩ => ⟨0, 0, by omega, by omega⟩⟩
theorem spF_cong {L M : Lat} (h : ∀ X Y, L X Y ↔ M X Y) (s : Int × Int) (X Y : Int) : SpF L s X Y ↔ SpF M s X Y :=
  ⟨fun ⟨k, z⟩ => ⟨k, (h _ _).mp z⟩, fun ⟨k, z⟩ => ⟨k, (h _ _).mpr z⟩⟩
theorem Bd.at_ {C B : Nat} {ss : List (Int × Int)} (h : Bd C B ss) {i : Nat} {s : Int × Int} (e : ss[i]? = some s) : s.1.natAbs ≤ B ∧ s.2.natAbs ≤ C := h s (List.mem_of_getElem? e)
def sp_law_net_of (K : PySem.W.Frag) : Sp := fun vs H Q _ => ∃ p xs ss C B, vs = [.ref p] ∧ SqL K H p xs ∧ PT H xs ss ∧ Bd C B ss ∧ Fb C B ss.length ∧ (∀ H', Stp none H H' → SqL K H' p xs) ∧
  ∀ a b c, Nfs ss a b c → (a = 0 ∨ c = 0 → ∀ H', Stp none H H' → Q .non H') ∧ (a ≠ 0 → c ≠ 0 → ∀ z H', Stp none H H' → IT H' z [a, b, c] → Q z H')
theorem ok_law_net_of (T : Txt w K mg ad) : FnG P w K mg base CX0 2 ad.law_net_of ad.law_net_of_d P_law_net_of (sp_law_net_of K) := by
  have G_law_divisor := ok_law_divisor (P := P) (w := w) (base := base) T
  refine Fun.gn T.F_law_net_of sc_law_net_of (fun vs H Q E h => ?_) (fun cdv A outer s H vs Q E hr hg h => ?_)
  · obtain ⟨p, xs, ss, C, B, rfl, _⟩ := h
    rfl
  · obtain ⟨p, xs, ss, C, B, rfl, hp, hx, hb, hf, hk, q⟩ := h
    refine ⟨_, (pss_cons (ps_asg (pe_tup (pa_cons pe_int (pa_cons (pe_tup (pa_cons pe_int (pa_cons pe_int pa_nil))) pa_nil))) (pg_tup (n := 2) rfl (pgs_cons (pg_name (i := 1) sc_law_net_of.nd rfl (Or.inl rfl)) (pgs_cons (pg_name (i := 2) sc_law_net_of.nd rfl (Or.inl rfl)) pgs_nil))))
      (pss_cons (ps_for PassesOwn.never rfl (pi_list (pv 0)) (pg_name (i := 3) sc_law_net_of.nd rfl (Or.inl rfl))
      (pss_cons (ps_set (i := 4) sc_law_net_of.nd rfl (Or.inl rfl) (pv 3))
      (pss_cons (ps_while PassesOwn.never (pt_cmpR op_ne (pe_ix ix_seq (pv 4) pe_int (fun _ _ => rfl)) pe_int (nomark _))
      (pss_cons (ps_set (i := 5) sc_law_net_of.nd rfl (Or.inl rfl) (pe_op op_fdivN9 (pe_ix ix_seq (pv 2) pe_int (fun _ _ => rfl)) (pe_ix ix_seq (pv 4) pe_int (fun _ _ => rfl))))
      (pss_one (ps_par (i := 2) (j := 4) rfl sc_law_net_of.nd rfl rfl (by decide) rfl rfl (pa_cons (pv 4) (pa_cons (pe_tup (pa_cons (pe_op op_sub (pe_ix ix_seq (pv 2) pe_int (fun _ _ => rfl)) (pe_op op_mulW (pv 5) (pe_ix ix_seq (pv 4) pe_int (fun _ _ => rfl)))) (pa_cons (pe_op op_sub (pe_ix ix_seq (pv 2) pe_int (fun _ _ => rfl)) (pe_op op_mulW (pv 5) (pe_ix ix_seq (pv 4) pe_int (fun _ _ => rfl)))) pa_nil))) pa_nil)) rfl))))
      (pss_one (ps_set (i := 1) sc_law_net_of.nd rfl (Or.inl rfl) (peg_call G_law_divisor (hr.mono (by decide)) hg (by rfl) T.g_law_divisor T.F_law_divisor.kp T.b_law_divisor .nil pass0 (pa_cons (pv 1) (pa_cons (pe_ix ix_seq (pv 4) pe_int (fun _ _ => rfl)) pa_nil))))))))
      (pss_cons (ps_if (PW.pt (pw_or (pt_cmpR op_eq (pv 1) pe_int (nomark _)) (pw_or1 (pt_cmpR op_eq (pe_ix ix_seq (pv 2) pe_int (fun _ _ => rfl)) pe_int (nomark _)))))
      (pss_one (ps_ret pe_non)) pss_nil)
      (pss_one (ps_ret (pe_tup (pa_cons (pv 1) (pa_cons (pe_op op_mod (pe_op op_mulW (pe_ix ix_seq (pv 2) pe_int (fun _ _ => rfl)) (pe_ix ix_seq (pe_lst (pa_cons pe_int (pa_cons (pe_un un_neg pe_int) pa_nil))) (pe_callTy call_int1 (by rfl) T.z_int (by decide +kernel) (pa_cons (pe_cmpR op_lt (pe_ix ix_seq (pv 2) pe_int (fun _ _ => rfl)) pe_int (nomark _)) pa_nil)) (fun _ _ => rfl))) (pv 1)) (pa_cons (pe_callB call_abs (by rfl) T.z_abs (by decide +kernel) (pa_cons (pe_ix ix_seq (pv 2) pe_int (fun _ _ => rfl)) pa_nil)) pa_nil))))))))), ?_⟩
    walk_at "go"
    rename_i z0 H00 S00 i00
    refine r_newT (sz100 (Nat.le_of_ble_eq_true rfl)) fun pp H0 S0' hpp npp => r_unT2 hpp ?_
    have S0 : Stp none H H0 := S00.trans S0'
    have i0 : IT H0 z0 [0, 0] := i00.mv S0'
    walk_at "go"
    have hl : xs.length = ss.length := hx.1
    refine ⟨p, rfl, ⟨_, hk _ S0⟩, for_list (xs := xs) (fun i σ H' => ∃ wd z l0 l1 t3 t4 t5, σ = [some (.ref p), some (.int wd), some z, t3, t4, t5] ∧ Stp none H H' ∧ IT H' z [l0, l1] ∧ 0 ≤ wd ∧ (∀ X Y, Lp wd l0 l1 X Y ↔ SpL (ss.take i) X Y) ∧
      (l1 = 0 → l0 = 0) ∧ l1.natAbs ≤ C ∧ l0.natAbs ≤ (4 * C) ^ i * B ∧ wd.natAbs ≤ (4 * C) ^ i * B) ⟨0, z0, 0, 0, none, none, none, rfl, S0, i0, by decide, lp_0, fun _ => rfl, Nat.zero_le _, Nat.zero_le _, Nat.zero_le _⟩
      (fun i σ H' _ ⟨_, _, _, _, _, _, _, _, s', _⟩ => hk _ s') ?_ ?_⟩
    · rintro i u σ H' hu ⟨wd, z, l0, l1, t3, t4, t5, rfl, s', iz, w0, le, lz, bc, b0, bw⟩
      have hi : i < ss.length := by
        have := (List.getElem?_eq_some_iff.mp hu).1
        omega
      obtain ⟨⟨x, y⟩, es, iu0⟩ := hx.2 i u hu
      have iu : IT H' u [x, y] := iu0.mv s'
      have hxy := hb.at_ es
      have e0 : EB C ((4 * C) ^ (i + 1) * B) l0 l1 x y := by
        have := EB.start (b := l0) (c := l1) (x := x) (y := y) hf.c1 bc hxy.2 b0 (Nat.le_trans hxy.1 (pw_0 hf.c1))
        rwa [pw_s] at this
      have hM := hf.at_ (show i + 1 ≤ ss.length from hi)
      have hC := hf.cn
      have bw' : wd.natAbs ≤ (4 * C) ^ (i + 1) * B := Nat.le_trans bw (pw_le hf.c1 (Nat.le_succ i))
      have et := SpL_take es
      generalize (4 * C) ^ (i + 1) * B = M at e0 hM bw' ⊢
      walk_at "go"
      refine r_while (fun m σ H2 => ∃ zl zf b1 c1 x1 y1 t, σ = [some (.ref p), some (.int wd), some zl, some u, some zf, t] ∧ Stp none H H2 ∧ IT H2 zl [b1, c1] ∧ IT H2 zf [x1, y1] ∧ EB C M b1 c1 x1 y1 ∧
        (∀ X Y, L3 wd b1 c1 x1 y1 X Y ↔ L3 wd l0 l1 x y X Y) ∧ (c1 = 0 → b1 = 0) ∧ m = y1.natAbs) ⟨_, z, u, l0, l1, x, y, t5, rfl, s', iz, iu, e0, fun _ _ => Iff.rfl, lz, rfl⟩ ?_
      rintro m σ H2 ⟨zl, zf, b1, c1, x1, y1, t, rfl, s2, il, if_, e1, l1', z1, rfl⟩
      walk_at "go"
      refine r_iteN (fun hy => ?_) (fun hy => ?_)
      · obtain ⟨k1, k2, k3, k4, _⟩ := id e1
        have f1 := fd_le (c := c1) (y := y1)
        have rr := fd_rest (c := c1) hy
        refine ⟨fun σ' H3 => ∃ zg t, σ' = [some (.ref p), some (.int wd), some zf, some u, some zg, t] ∧ Stp none H H3 ∧ IT H3 zf [x1, y1] ∧ IT H3 zg [b1 - c1.fdiv y1 * x1, c1 - c1.fdiv y1 * y1], ?_, ?_⟩
        · rintro σ' H3 ⟨zg, t, rfl, s3, i3, i4⟩
          exact ⟨_, rr.1, zf, zg, x1, y1, _, _, t, rfl, s3, i3, i4, e1.step hy, fun X Y => L3_step.trans (l1' X Y), fun h => absurd h hy, rfl⟩
        · walk_at "go"
          refine r_divN9 (divN9 hy (by omega) (by omega)) ?_
          walk_at "go"
          refine r_mulW (mulN (by omega) (by omega) (by omega) (by omega)) ?_
          walk_at "go"
          refine r_mulW (mulN (by omega) (by omega) (by omega) (by omega)) ?_
          walk_at "go"
          exact ⟨_, _, rfl, by walk_at "st", by walk_at "up", by walk_at "up"⟩
      · subst hy
        have gb := gcd_bd bw' e1.hx
        walk_at "go"
        refine do_law_divisor ?_
        walk_at "go"
        refine ⟨_, zl, b1, c1, _, _, _, rfl, s2, il, gcd_nn _ _, fun X Y => ?_, z1, e1.hc, e1.hb, gb⟩
        rw [et]
        exact L3_end.symm.trans ((l1' X Y).trans (spF_cong le (x, y) X Y))
    · rintro σ H' ⟨wd, z, l0, l1, t3, t4, t5, rfl, s', iz, w0, le, lz, bc, b0, bw⟩
      rw [hl, List.take_length] at le
      have hM := hf.at_ (Nat.le_refl _)
      rw [← hl] at hM
      have hC := hf.cn
      -- the numbers in their form
      have key : ∀ b2 : Int, b2 = (if l1 < 0 then -l0 else l0) → ∀ c2 : Int, c2 = (if l1 < 0 then -l1 else l1) → (0 < wd → Nfs ss wd (b2 % wd) c2) ∧ (¬ 0 < wd → Nfs ss wd b2 c2) := by
        intro b2 e2 c2 e3
        have l2 : ∀ X Y, Lp wd b2 c2 X Y ↔ SpL ss X Y := by
          intro X Y
          by_cases h : l1 < 0
          · rw [e2, e3, if_pos h, if_pos h]; exact Lp_neg.trans (le X Y)
          · rw [e2, e3, if_neg h, if_neg h]; exact le X Y
        have c0 : 0 ≤ c2 := by split at e3 <;> omega
        have z2 : c2 = 0 → b2 = 0 := by
          intro h
          have : l1 = 0 := by split at e3 <;> omega
          have := lz this
          split at e2 <;> omega
        have n1 : 0 < wd → NF wd (b2 % wd) c2 := fun g => by
          have r0 := Int.emod_nonneg b2 (show wd ≠ 0 by omega)
          have r1 := Int.emod_lt_of_pos b2 g
          exact ⟨w0, c0, fun _ => ⟨r0, r1⟩, fun e => by rw [z2 e]; rfl⟩
        have n2 : ¬ 0 < wd → NF wd b2 c2 := fun g => ⟨w0, c0, fun n => absurd n (by omega), z2⟩
        exact ⟨fun g => ⟨n1 g, fun X Y => Lp_mod.trans (l2 X Y)⟩, fun g => ⟨n2 g, l2⟩⟩
      have key := key _ rfl _ rfl
      have deg : wd = 0 ∨ l1 = 0 → ∀ H', Stp none H H' → Q .non H' := by
        intro h
        by_cases g : 0 < wd
        · refine (q _ _ _ (key.1 g)).1 (.inr ?_)
          have : l1 = 0 := by omega
          rw [if_neg (by omega)]; exact this
        · exact (q _ _ _ (key.2 g)).1 (.inl (by omega))
      walk_at "go"
      refine r_ite (fun hw => ?_) (fun hw => ?_)
      · walk_at "go"
        exact deg (.inl hw) _ s'
      · walk_at "go"
        refine r_ite (fun hc => ?_) (fun hc => ?_)
        · walk_at "go"
          exact deg (.inr hc) _ s'
        · have fin := (q _ _ _ (key.1 (by omega))).2 hw (by split <;> omega)
          clear deg q le
          walk_at "go"
          rename_i p1 H1 S1 hp1 np1
          by_cases hn : l1 < 0
          · rw [if_pos hn, if_pos hn] at fin
            simp only [hn, decide_true, if_true]
            walk_at "go"
            refine r_mulW (mulN (by omega) (by omega) (by have := n1_big; omega) (by have := n1_big; omega)) ?_
            walk_at "go"
            refine ⟨l1, rfl, ?_⟩
            rw [if_pos hn]
            have e : l0 * -1 = -l0 := by omega
            rw [e]
            walk_at "go"
            exact fin _ _ (by walk_at "st") (by walk_at "up")
          · rw [if_neg hn, if_neg hn] at fin
            simp only [hn, decide_false, Bool.false_eq_true, if_false]
            walk_at "go"
            refine r_mulW (mulN (by omega) (by omega) (by have := n1_big; omega) (by have := n1_big; omega)) ?_
            walk_at "go"
            refine ⟨l1, rfl, ?_⟩
            rw [if_neg hn]
            have e : l0 * 1 = l0 := by omega
            rw [e]
            walk_at "go"
            exact fin _ _ (by walk_at "st") (by walk_at "up")
theorem do_law_net_of {p : Addr} {xs : List V} {ss : List (Int × Int)} {C B : Nat} (h : H p = some (.lst xs)) (hx : PT H xs ss) (hb : Bd C B ss) (hf : Fb C B ss.length)
    (q : ∀ a b c, Nfs ss a b c → (a = 0 ∨ c = 0 → ∀ H', Stp none H H' → Q .non H') ∧ (a ≠ 0 → c ≠ 0 → ∀ z H', Stp none H H' → IT H' z [a, b, c] → Q z H')) : sp_law_net_of K [.ref p] H Q E :=
  ⟨p, xs, ss, C, B, rfl, SqL.of h, hx, hb, hf, fun H' s => SqL.of (s.all _ _ h), q⟩
end
end Law

set_option Elab.async false
set_option linter.all false
set_option maxRecDepth 100000
set_option maxHeartbeats 4000000
namespace Law
open PySem PySem.Spec PyProof.Rows L2 MV
local macro_rules | `(tactic| walk_at "up") => `(tactic| first
  | assumption
  | (refine' IT.mv ?s ?g; (case s => assumption); (case g => walk_at "up"))
  | (refine' IT.k ?g; (case g => walk_at "up"))
  | (refine' IK.mv ?s ?g; (case s => assumption); (case g => walk_at "up"))
  | (refine' Tape.mvN ?s ?g; (case s => assumption); (case g => walk_at "up"))
  | (refine' Tape.mvS ?s ?g; (case s => assumption); (case g => walk_at "up"))
  | (refine' At.tup ?s ?g; (case s => assumption); (case g => walk_at "up"))
  | (refine' At.ins ?s ?g; (case s => assumption); (case g => walk_at "up"))
  | (refine' At.lst ?s ?g; (case s => assumption); (case g => walk_at "up"))
  | (refine' At.lstS ?s ?n ?g; (case s => assumption); (case n => assumption); (case g => walk_at "up"))
  | fail)
local macro_rules | `(tactic| walk_at "st") => `(tactic| first
  | assumption
  | exact Stp.refl _ _
  | (refine' Stp.w ?s; (case s => assumption))
  | (refine' Stp.trans ?g ?s; (case s => (first | assumption | (refine' Stp.w ?u; (case u => assumption)))); (case g => walk_at "st"))
  | fail)
local macro_rules | `(tactic| walk_at "bT") => `(tactic| first
  | decide
  | (simp only [Bool.not_eq_true', Bool.not_eq_false', decide_eq_true_eq, decide_eq_false_iff_not]; omega)
  | fail)
local macro_rules | `(tactic| walk_at "sd") => `(tactic| first | assumption | decide | omega | fail)
local macro_rules | `(tactic| walk_at "r") => `(tactic| first
  | (with_reducible refine r_seq ?_)
  | (with_reducible refine r_asg ?_)
  | ((with_reducible refine' r_var ?h ?k); (case h => rfl))
  | (with_reducible refine r_c ?_)
  | (with_reducible refine r_op ?_)
  | (with_reducible refine r_un ?_)
  | (with_reducible refine r_nil ?_)
  | (with_reducible refine r_cons ?_)
  | (with_reducible refine r_tup ?_)
  | (with_reducible refine r_lst ?_)
  | (with_reducible refine r_cbLen ?_)
  | (with_reducible refine r_cbInt ?_)
  | (with_reducible refine r_cbRepr ?_)
  | (with_reducible refine r_cbTup ?_)
  | (with_reducible refine r_cbLst ?_)
  | (with_reducible refine r_cb ?_)
  | (with_reducible refine r_prop ?_)
  | (with_reducible refine r_andV ?_)
  | (with_reducible refine r_orV ?_)
  | (with_reducible refine r_notV ?_)
  | (with_reducible refine r_chain ?_)
  | (with_reducible refine r_ifE ?_)
  | (with_reducible refine r_test ?_)
  | (with_reducible refine r_B ?_)
  | (with_reducible refine r_and ?_)
  | (with_reducible refine r_or ?_)
  | (with_reducible refine r_not ?_)
  | (with_reducible refine r_yes ?_)
  | (with_reducible refine r_k ?_)
  | (with_reducible refine r_kV ?_)
  | (with_reducible refine r_next ?_)
  | (with_reducible refine r_drop ?_)
  | (with_reducible refine r_ret ?_)
  | (with_reducible refine r_ifS ?_)
  | (with_reducible refine r_par ?_)
  | (with_reducible refine r_par1 ?_)
  | (with_reducible refine r_gname ?_)
  | (with_reducible refine r_gnil ?_)
  | (with_reducible refine r_gcons ?_)
  | ((with_reducible refine' r_unpack2 ?h ?k); (case h => walk_at "up"))
  | ((with_reducible refine' r_unpack3 ?h ?k); (case h => walk_at "up"))
  | (with_reducible refine r_add ?_)
  | (with_reducible refine r_sub ?_)
  | (with_reducible refine r_neg ?_)
  | ((with_reducible refine' r_mod ?h ?k); (case h => walk_at "sd"))
  | ((with_reducible refine' r_div ?h ?k); (case h => walk_at "sd"))
  | ((with_reducible refine' r_mul ?h ?k); (case h => walk_at "sd"))
  | ((with_reducible refine' r_mulW ?h ?k); (case h => walk_at "sd"))
  | ((with_reducible refine' r_pow ?h ?k); (case h => (show (0 : Int) ≤ _ ∧ _ ∧ _; decide)))
  | (with_reducible refine r_lt ?_)
  | (with_reducible refine r_le ?_)
  | (with_reducible refine r_gt ?_)
  | (with_reducible refine r_ge ?_)
  | (with_reducible refine r_eqI ?_)
  | (with_reducible refine r_neI ?_)
  | (with_reducible refine r_eqS ?_)
  | (with_reducible refine r_neS ?_)
  | ((with_reducible refine' r_eqT ?h ?g ?k); (case h => walk_at "up"); (case g => walk_at "up"))
  | ((with_reducible refine' r_neT ?h ?g ?k); (case h => walk_at "up"); (case g => walk_at "up"))
  | ((with_reducible refine' r_ix0 ?h ?k); (case h => walk_at "up"))
  | ((with_reducible refine' r_ix1 ?h ?k); (case h => walk_at "up"))
  | ((with_reducible refine' r_ix2 ?h ?k); (case h => walk_at "up"))
  | (with_reducible refine r_newI2 (fun v H2 S I => ?_))
  | (with_reducible refine r_newI3 (fun v H2 S I => ?_))
  | (with_reducible refine r_newL1 (fun p H2 S hp np => ?_))
  | (with_reducible refine r_newL2 (fun p H2 S hp np => ?_))
  | (with_reducible refine r_newL3 (fun p H2 S hp np => ?_))
  | (with_reducible refine r_T ?_)
  | (with_reducible refine r_F ?_)
  | fail)
local macro_rules | `(tactic| walk_at "go") => `(tactic| repeat (walk_at "r"))
local macro_rules | `(tactic| walk_at "r") => `(tactic| first
  | (with_reducible refine r_call0 ?_)
  | (with_reducible refine r_meth0 ?_)
  | (with_reducible refine r_make0 ?_)
  | (with_reducible refine r_isiII ?_)
  | (with_reducible refine r_isiIB ?_)
  | ((with_reducible refine' r_isiTT ?h ?k); (case h => walk_at "up"))
  | ((with_reducible refine' r_len2 ?h ?k); (case h => walk_at "up"))
  | ((with_reducible refine' r_len3 ?h ?k); (case h => walk_at "up"))
  | ((with_reducible refine' r_lenL ?h ?k); (case h => walk_at "up"))
  | (with_reducible refine r_int1 ?_)
  | (with_reducible refine r_int1B ?_)
  | (with_reducible refine r_nT ?_)
  | (with_reducible refine r_nF ?_)
  | (with_reducible refine r_gcd ?_)
  | (with_reducible refine r_gsub ?_)
  | (with_reducible refine r_fld ?_)
  | (with_reducible refine r_p6 ?_)
  | (with_reducible refine r_p9 ?_)
  | (with_reducible refine r_p10 ?_)
  | (with_reducible refine r_p11 ?_)
  | (with_reducible refine r_p12 ?_)
  | (with_reducible refine r_p18 ?_)
  | (with_reducible refine r_p20 ?_)
  | (with_reducible refine r_p26 ?_)
  | (with_reducible refine r_p27 ?_)
  | (with_reducible refine r_p30 ?_)
  | ((with_reducible refine' r_iF ?h ?k); (case h => walk_at "bT"))
  | ((with_reducible refine' r_iT ?h ?k); (case h => walk_at "bT"))
  | (with_reducible refine r_sfld ?_)
  | (with_reducible refine r_sl ?_)
  | (with_reducible refine r_noPart ?_)
  | (with_reducible refine r_part ?_)
  | (with_reducible refine r_pk ?_)
  | ((with_reducible refine' r_unl2 ?h ?k); (case h => walk_at "up"))
  | ((with_reducible refine' r_ixLi ?h ?h0 ?hn ?k); (case h => walk_at "up"); (case h0 => walk_at "sd"); (case hn => rfl))
  | fail)

local macro_rules | `(tactic| walk_at "r") => `(tactic| with_reducible refine do_is_integer ?_)
local macro_rules | `(tactic| walk_at "r") => `(tactic| first | ((with_reducible refine' do_is_place ?h ?k); (case h => walk_at "up")) | fail)
local macro_rules | `(tactic| walk_at "r") => `(tactic| first | ((with_reducible refine' do_check_place ?h ?k); (case h => walk_at "up")) | fail)
local macro_rules | `(tactic| walk_at "r") => `(tactic| first | ((with_reducible refine' do_are_numbers ?h ?k); (case h => assumption)) | fail)
local macro_rules | `(tactic| walk_at "up") => `(tactic| first | (refine' NA.mv ?s ?g; (case s => assumption); (case g => walk_at "up")) | fail)
local macro_rules | `(tactic| walk_at "r") => `(tactic| first
  | ((with_reducible refine' do_Net_size ?h ?k); (case h => walk_at "up"))
  | ((with_reducible refine' do_meth ?h ?hm ?k); (case h => walk_at "up"); (case hm => decide +kernel))
  | fail)

local macro_rules | `(tactic| walk_at "r") => `(tactic| first
  | (with_reducible refine r_forT ?_)
  | (with_reducible refine r_forL ?_)
  | (with_reducible refine r_newI4 (fun v H2 S I => ?_))
  | ((with_reducible refine' r_unpack4 ?h ?k); (case h => walk_at "up"))
  | fail)
section
variable {P : Program} {w : World} {K : PySem.W.Frag} {mg : Str → Option Value} {base : Heap} {ad : Ad} {H : Hp} {Q : VK} {E : XK} {i j x y : Int} {v : V}
theorem SqT.mvN {H H' : Hp} {p : Addr} {xs : List V} (s : Stp none H H') (h : SqT K H p xs) : SqT K H' p xs := SqT.mvS s h
/-! ### the net of a tuple of shifts -/
/-- the numbers of the shifts ss, within bounds -/
structure Nb (ss : List (Int × Int)) (C B : Nat) (a b c : Int) : Prop where
  ns : Nfs ss a b c
  cc : c.natAbs ≤ C
  aa : a.natAbs ≤ (4 * C) ^ ss.length * B
  bb : b.natAbs ≤ (4 * C) ^ ss.length * B
def sp_spanned (K : PySem.W.Frag) : Sp := fun vs H Q _ => ∃ p xs ss C B, vs = [.ref p] ∧ H p = some (.lst xs) ∧ PT H xs ss ∧ Bd C B ss ∧ Fb C B ss.length ∧
  ∀ z a b c H', Stp none H H' → IT H' z [a, b, c] → Nb ss C B a b c → Q z H'
theorem ok_spanned (T : Txt w K mg ad) : FnG P w K mg base CX0 2 ad.spanned ad.spanned_d P_spanned (sp_spanned K) := by
  have G_with_shift := ok_with_shift (P := P) (w := w) (base := base) T
  refine Fun.gn T.F_spanned sc_spanned (fun vs H Q E h => ?_) (fun cdv A outer s H vs Q E hr hg h => ?_)
  · obtain ⟨p, xs, ss, C, B, rfl, _⟩ := h
    rfl
  · obtain ⟨p, xs, ss, C, B, rfl, hp, hx, hb, hf, q⟩ := h
    refine ⟨_, (pss_cons (ps_set (i := 1) sc_spanned.nd rfl (Or.inl rfl) (pe_tup (pa_cons pe_int (pa_cons pe_int (pa_cons pe_int pa_nil)))))
      (pss_cons (ps_for PassesOwn.never rfl (pi_list (pv 0)) (pg_name (i := 2) sc_spanned.nd rfl (Or.inl rfl))
      (pss_one (ps_set (i := 1) sc_spanned.nd rfl (Or.inl rfl) (peg_call G_with_shift (hr.mono (by decide)) hg (by rfl) T.g_with_shift T.F_with_shift.kp T.b_with_shift .nil pass0 (pa_cons (pv 1) (pa_cons (pv 2) pa_nil))))))
      (pss_one (ps_ret (pv 1))))), ?_⟩
    walk_at "go"
    rename_i z0 H0 S0 i0
    have hl : xs.length = ss.length := hx.1
    refine ForL.ok ⟨p, xs, fun i σ H' => ∃ z a b c t, σ = [some (.ref p), some z, t] ∧ Stp none H H' ∧ IT H' z [a, b, c] ∧ Nfs (ss.take i) a b c ∧ c.natAbs ≤ C ∧ a.natAbs ≤ (4 * C) ^ i * B ∧ b.natAbs ≤ (4 * C) ^ i * B, rfl,
      ⟨z0, 0, 0, 0, none, rfl, S0, i0, ⟨nf_0, lp_0⟩, Nat.zero_le _, Nat.zero_le _, Nat.zero_le _⟩, fun i σ H' _ ⟨_, _, _, _, _, _, s', _⟩ => At.lst s' hp, ?_, ?_⟩
    · rintro i u σ H' hu ⟨z, a, b, c, t, rfl, s', iz, hn, bc, ba, bb⟩
      have hi : i < ss.length := by
        have := (List.getElem?_eq_some_iff.mp hu).1
        omega
      obtain ⟨⟨x, y⟩, es, iu0⟩ := hx.2 i u hu
      have iu : IT H' u [x, y] := iu0.mv s'
      have hxy := hb.at_ es
      have hM := hf.at_ (show i + 1 ≤ ss.length from hi)
      rw [← pw_s] at hM
      walk_at "go"
      refine do_with_shift iz iu hn.nf ⟨hf.c1, bc, hxy.2, ba, bb, Nat.le_trans hxy.1 (pw_0 hf.c1)⟩ hM hf.cn fun z2 a2 b2 c2 H2 S2 i2 hw => ?_
      walk_at "go"
      refine ⟨z2, a2, b2, c2, _, rfl, s'.trans S2, i2, ⟨hw.nf, fun X Y => ?_⟩, hw.cc, by rw [← pw_s]; exact hw.aa, by rw [← pw_s]; exact hw.bb⟩
      rw [SpL_take es]
      exact (hw.sp X Y).trans (spF_cong hn.sp (x, y) X Y)
    · rintro σ H' ⟨z, a, b, c, t, rfl, s', iz, hn, bc, ba, bb⟩
      rw [hl] at ba bb hn
      rw [List.take_length] at hn
      walk_at "go"
      exact q _ _ _ _ _ s' iz ⟨hn, bc, ba, bb⟩
theorem do_spanned {p : Addr} {xs : List V} {ss : List (Int × Int)} {C B : Nat} (h : H p = some (.lst xs)) (hx : PT H xs ss) (hb : Bd C B ss) (hf : Fb C B ss.length)
    (q : ∀ z a b c H', Stp none H H' → IT H' z [a, b, c] → Nb ss C B a b c → Q z H') : sp_spanned K [.ref p] H Q E := ⟨p, xs, ss, C, B, rfl, h, hx, hb, hf, q⟩
/-! ### joins and meets -/
abbrev Z2 : Nat := 10 ^ 200
theorem fbz {n : Nat} (h : n ≤ 4) : Fb Z2 Z2 n := ⟨by decide, by
  exact Int.le_trans (Int.ofNat_le.mpr (pw_le (C := Z2) (B := Z2) (by decide) h)) (by unfold N1; decide +kernel), by unfold N1; decide +kernel⟩
theorem z2_n1 : ((Z2 : Nat) : Int) ≤ N1 := by unfold N1; decide +kernel
theorem PT.nil : PT H [] [] := ⟨rfl, fun i x h => by cases h⟩
theorem PT.cons {xs : List V} {ss : List (Int × Int)} {s : Int × Int} (hv : IT H v [s.1, s.2]) (h : PT H xs ss) : PT H (v :: xs) (s :: ss) := by
  refine ⟨by rw [List.length_cons, List.length_cons, h.1], fun i x hx => ?_⟩
  match i, hx with
  | 0, hx => cases hx; exact ⟨s, rfl, hv⟩
  | i + 1, hx => exact h.2 i x hx
theorem Bd.nil {C B : Nat} : Bd C B [] := fun u hu => by cases hu
theorem Bd.cons {C B : Nat} {ss : List (Int × Int)} {s : Int × Int} (h1 : s.1.natAbs ≤ B) (h2 : s.2.natAbs ≤ C) (h : Bd C B ss) : Bd C B (s :: ss) := by
  intro u hu
  rcases List.mem_cons.mp hu with rfl | hu
  · exact ⟨h1, h2⟩
  · exact h u hu
/-- numbers below the bounds of | -/
def Lb (M : Nat) (a c : Int) : Prop := a.natAbs ≤ M ∧ c.natAbs ≤ M
theorem rows_left {a1 b1 c1 a2 b2 c2 X Y : Int} (h : Lp a1 b1 c1 X Y) : SpL (rows4 a1 b1 c1 a2 b2 c2) X Y := by
  obtain ⟨i, j, e1, e2⟩ := h
  exact rows_iff.mpr ⟨i, j, 0, 0, by omega, by omega⟩
theorem rows_right {a1 b1 c1 a2 b2 c2 X Y : Int} (h : Lp a2 b2 c2 X Y) : SpL (rows4 a1 b1 c1 a2 b2 c2) X Y := by
  obtain ⟨i, j, e1, e2⟩ := h
  exact rows_iff.mpr ⟨0, 0, i, j, by omega, by omega⟩
/-- the numbers of a join divide those of its parts -/
theorem join_pos {a1 b1 c1 a2 b2 c2 a b c : Int} (h1 : 0 < a1) (h2 : 0 < c1) (n : Nfs (rows4 a1 b1 c1 a2 b2 c2) a b c) : 0 < a ∧ 0 < c ∧ a ≤ a1 ∧ c ≤ c1 := by
  have d1 := Lp_x n.nf ((n.sp _ _).mpr (rows_left Lp_a))
  have d2 := Lp_y ((n.sp _ _).mpr (rows_left Lp_b))
  have a0 := n.nf.a0
  have c0 := n.nf.c0
  have z1 : a ≠ 0 := by rintro rfl; have := Int.zero_dvd.mp d1; omega
  have z2 : c ≠ 0 := by rintro rfl; have := Int.zero_dvd.mp d2; omega
  exact ⟨by omega, by omega, Int.le_of_dvd h1 d1, Int.le_of_dvd h2 d2⟩
def sp_Net_or (C' : Addr) : Sp := fun vs H Q _ => ∃ v u a1 b1 c1 a2 b2 c2, vs = [v, u] ∧ NA C' H v a1 b1 c1 ∧ NA C' H u a2 b2 c2 ∧ Lb Z2 a1 c1 ∧ Lb Z2 a2 c2 ∧
  ∀ z a b c H', Stp none H H' → NA C' H' z a b c → Nfs (rows4 a1 b1 c1 a2 b2 c2) a b c → Q z H'
theorem ok_Net_or (T : Txt w K mg ad) : FnG P w K mg base CX0 5 ad.Net_or ad.Net_or_d P_Net_or (sp_Net_or ad.C_Net) := by
  have G_two_shifts := ok_two_shifts (P := P) (w := w) (base := base) T
  have G_spanned := ok_spanned (P := P) (w := w) (base := base) T
  have G_Net_numbers := ok_Net_numbers (P := P) (w := w) (base := base) T
  have G_Net_init := ok_Net_init (P := P) (w := w) (base := base) T
  refine Fun.g T.F_Net_or sc_Net_or (fun vs H Q E h => ?_) (fun cdv A outer s H vs Q E hr hg h => ?_)
  · obtain ⟨v, u, a1, b1, c1, a2, b2, c2, rfl, _⟩ := h
    rfl
  · obtain ⟨v, u, a1, b1, c1, a2, b2, c2, rfl, hv, hu, ⟨l1, l2⟩, ⟨l3, l4⟩, q⟩ := h
    have n1 := hv.1
    have n2 := hu.1
    obtain ⟨n11, n12, n13, n14, _, _⟩ := n1
    obtain ⟨n21, n22, n23, n24, _, _⟩ := n2
    have hv' := hv
    obtain ⟨_, p, dx, w1, rfl, hp, hw⟩ := hv'
    refine ⟨_, (pss_cons (ps_asg (peg_call G_spanned (hr.mono (by decide)) hg (by rfl) T.g_spanned T.F_spanned.kp T.b_spanned .nil pass0 (pa_cons (pe_op op_cat (peg_call G_two_shifts (hr.mono (by decide)) hg (by rfl) T.g_two_shifts T.F_two_shifts.kp T.b_two_shifts .nil pass0 (pa_cons (pe_fld (pv 0) rfl) pa_nil)) (peg_call G_two_shifts (hr.mono (by decide)) hg (by rfl) T.g_two_shifts T.F_two_shifts.kp T.b_two_shifts .nil pass0 (pa_cons (peg_prop (pv 1) T.cl_Net T.p_Net_numbers G_Net_numbers (hr.mono (by decide)) hg T.b_Net_numbers .nil pass0) pa_nil))) pa_nil)) (pg_tup (n := 3) rfl (pgs_cons (pg_name (i := 2) sc_Net_or.nd rfl (Or.inl rfl)) (pgs_cons (pg_name (i := 3) sc_Net_or.nd rfl (Or.inl rfl)) (pgs_cons (pg_name (i := 4) sc_Net_or.nd rfl (Or.inl rfl)) pgs_nil)))))
      (pss_one (ps_ret (peg_make T.k_Net G_Net_init (hr.mono (by decide)) hg (by rfl) T.g_Net T.b_Net_init .nil pass0 (pa_cons (pv 2) (pa_cons (pv 3) (pa_cons (pv 4) pa_nil))))))), ?_⟩
    walk_at "go"
    refine r_numF T.cl_Net T.n_Net_numbers hp ?_
    walk_at "go"
    refine do_two_shifts hw fun q1 H1 x1 x2 S1 hq1 i1 i2 => ?_
    walk_at "go"
    refine do_Net_numbers (hu.mv S1) fun w2 hw2 => ?_
    walk_at "go"
    refine do_two_shifts hw2 fun q2 H2 x3 x4 S2 hq2 i3 i4 => ?_
    refine ⟨q1, q2, _, _, rfl, rfl, At.lst S2 hq1, hq2, (show (2 : Nat) + 2 ≤ sizeLine by decide), fun q3 hq3 => ?_⟩
    have S3 : Stp none H2 (upd H2 q3 (.lst ([x1, x2] ++ [x3, x4]))) := Stp.new hq3
    have e3 : upd H2 q3 (.lst ([x1, x2] ++ [x3, x4])) q3 = some (.lst [x1, x2, x3, x4]) := upd_same
    generalize upd H2 q3 (.lst ([x1, x2] ++ [x3, x4])) = H3 at S3 e3 ⊢
    walk_at "go"
    have b1' : b1.natAbs ≤ Z2 := by omega
    have b2' : b2.natAbs ≤ Z2 := by omega
    refine do_spanned (ss := rows4 a1 b1 c1 a2 b2 c2) (C := Z2) (B := Z2) e3 (.cons (s := (a1, 0)) (by walk_at "up") (.cons (s := (b1, c1)) (by walk_at "up") (.cons (s := (a2, 0)) (by walk_at "up") (.cons (s := (b2, c2)) (by walk_at "up") .nil))))
      (.cons l1 (Nat.zero_le _) (.cons b1' l2 (.cons l3 (Nat.zero_le _) (.cons b2' l4 .nil)))) (fbz (Nat.le_of_ble_eq_true rfl)) fun z a b c H4 S4 iz nb => ?_
    obtain ⟨k1, k2, k3, k4⟩ := join_pos (by omega) (by omega) nb.ns
    have k5 := nb.ns.nf.b0 (by omega)
    have k6 := z2_n1
    walk_at "go"
    exact do_Net ⟨by omega, by omega, k5.1, k5.2, by omega, by omega⟩ fun z H' S h => q _ _ _ _ _ (by walk_at "st") h nb.ns
theorem do_or {C' : Addr} {u : V} {a1 b1 c1 a2 b2 c2 : Int} (ic : IsC K C') (cl : Cls K C') (h : NA C' H v a1 b1 c1) (h2 : NA C' H u a2 b2 c2) (l1 : Lb Z2 a1 c1) (l2 : Lb Z2 a2 c2)
    (q : ∀ z a b c H', Stp none H H' → NA C' H' z a b c → Nfs (rows4 a1 b1 c1 a2 b2 c2) a b c → Q z H') : rOwnBin K C' (sp_Net_or C') E v u H Q := by
  have h' := h
  have h2' := h2
  obtain ⟨_, p, dx, u1, rfl, h1, _⟩ := h'
  obtain ⟨_, p', dx', u2, rfl, h3, _⟩ := h2'
  exact ⟨p, dx, _, rfl, h1, ic.ty cl h3, _, _, a1, b1, c1, a2, b2, c2, rfl, h, h2, l1, l2, q⟩
abbrev Z1 : Nat := 10 ^ 60
/-- the numbers of a meet -/
structure Mt (a1 b1 c1 a2 b2 c2 A B C : Int) : Prop where
  sp : ∀ X Y, Lp A B C X Y ↔ Lp a1 b1 c1 X Y ∧ Lp a2 b2 c2 X Y
  al : A ≤ a1 * c1 * (a2 * c2)
  cl : C ≤ a1 * c1 * (a2 * c2)
def sp_Net_and (C' : Addr) : Sp := fun vs H Q _ => ∃ v u a1 b1 c1 a2 b2 c2, vs = [v, u] ∧ NA C' H v a1 b1 c1 ∧ NA C' H u a2 b2 c2 ∧ Lb Z1 a1 c1 ∧ Lb Z1 a2 c2 ∧
  ∀ z a b c H', Stp none H H' → NA C' H' z a b c → Mt a1 b1 c1 a2 b2 c2 a b c → Q z H'
theorem nab {x y : Int} {m n : Nat} (h : x.natAbs ≤ m) (g : y.natAbs ≤ n) : (x * y).natAbs ≤ m * n := by rw [Int.natAbs_mul]; exact Nat.mul_le_mul h g
theorem ok_Net_and (T : Txt w K mg ad) : FnG P w K mg base CX0 6 ad.Net_and ad.Net_and_d P_Net_and (sp_Net_and ad.C_Net) := by
  have G_Net_numbers := ok_Net_numbers (P := P) (w := w) (base := base) T
  have G_Net_size := ok_Net_size (P := P) (w := w) (base := base) T
  have G_Net_scaled := ok_Net_scaled (P := P) (w := w) (base := base) T
  have G_Net_or := ok_Net_or (P := P) (w := w) (base := base) T
  have G_Net_init := ok_Net_init (P := P) (w := w) (base := base) T
  refine Fun.g T.F_Net_and sc_Net_and (fun vs H Q E h => ?_) (fun cdv A outer s H vs Q E hr hg h => ?_)
  · obtain ⟨v, u, a1, b1, c1, a2, b2, c2, rfl, _⟩ := h
    rfl
  · obtain ⟨v, u, a1, b1, c1, a2, b2, c2, rfl, hv, hu, ⟨l1, l2⟩, ⟨l3, l4⟩, q⟩ := h
    have n1 := hv.1
    have n2 := hu.1
    obtain ⟨n11, n12, n13, n14, _, _⟩ := n1
    obtain ⟨n21, n22, n23, n24, _, _⟩ := n2
    have p1 : 0 < a1 * c1 := Int.mul_pos (by omega) (by omega)
    have p2 : 0 < a2 * c2 := Int.mul_pos (by omega) (by omega)
    have s1 : (a1 * c1).natAbs ≤ 10 ^ 120 := Nat.le_trans (nab l1 l2) (by decide +kernel)
    have s2 : (a2 * c2).natAbs ≤ 10 ^ 120 := Nat.le_trans (nab l3 l4) (by decide +kernel)
    have t1 : (a1 * (a2 * c2)).natAbs ≤ 10 ^ 200 := Nat.le_trans (nab l1 s2) (by decide +kernel)
    have t2 : (c1 * (a2 * c2)).natAbs ≤ 10 ^ 200 := Nat.le_trans (nab l2 s2) (by decide +kernel)
    have t3 : (a2 * (a1 * c1)).natAbs ≤ 10 ^ 200 := Nat.le_trans (nab l3 s1) (by decide +kernel)
    have t4 : (c2 * (a1 * c1)).natAbs ≤ 10 ^ 200 := Nat.le_trans (nab l4 s1) (by decide +kernel)
    have sN : (a1 * c1 * (a2 * c2)).natAbs ≤ 10 ^ 240 := Nat.le_trans (nab s1 s2) (by decide +kernel)
    have big : (10 : Int) ^ 1000 ≤ N1 := by unfold N1; decide +kernel
    have z2 : (Z2 : Nat) = 10 ^ 200 := rfl
    have N0 : 0 < a1 * c1 * (a2 * c2) := Int.mul_pos p1 p2
    have q1 : 0 < a1 * (a2 * c2) := Int.mul_pos (by omega) p2
    have q2 : 0 < c1 * (a2 * c2) := Int.mul_pos (by omega) p2
    have q3 : 0 < a2 * (a1 * c1) := Int.mul_pos (by omega) p1
    have q4 : 0 < c2 * (a1 * c1) := Int.mul_pos (by omega) p1
    have mm : CMulW (a1 * c1) (a2 * c2) := mulN (by omega) (by omega) (by omega) (by omega)
    refine ⟨_, (pss_cons (ps_set (i := 2) sc_Net_and.nd rfl (Or.inl rfl) (pe_op (opg_bin (op := .BitOr) T.o_Net_or T.sf_Net G_Net_or (hr.mono (by decide)) hg T.b_Net_or pass0) (peg_meth (pv 0) T.cl_Net T.m_Net_scaled G_Net_scaled (hr.mono (by decide)) hg T.b_Net_scaled .nil pass0 (pa_cons (peg_prop (pv 1) T.cl_Net T.p_Net_size G_Net_size (hr.mono (by decide)) hg T.b_Net_size .nil pass0) pa_nil)) (peg_meth (pv 1) T.cl_Net T.m_Net_scaled G_Net_scaled (hr.mono (by decide)) hg T.b_Net_scaled .nil pass0 (pa_cons (peg_prop (pv 0) T.cl_Net T.p_Net_size G_Net_size (hr.mono (by decide)) hg T.b_Net_size .nil pass0) pa_nil))))
      (pss_cons (ps_set (i := 3) sc_Net_and.nd rfl (Or.inl rfl) (pe_op op_mulW (peg_prop (pv 0) T.cl_Net T.p_Net_size G_Net_size (hr.mono (by decide)) hg T.b_Net_size .nil pass0) (peg_prop (pv 1) T.cl_Net T.p_Net_size G_Net_size (hr.mono (by decide)) hg T.b_Net_size .nil pass0)))
      (pss_cons (ps_asg (peg_prop (pv 2) T.cl_Net T.p_Net_numbers G_Net_numbers (hr.mono (by decide)) hg T.b_Net_numbers .nil pass0) (pg_tup (n := 3) rfl (pgs_cons (pg_name (i := 4) sc_Net_and.nd rfl (Or.inl rfl)) (pgs_cons (pg_name (i := 5) sc_Net_and.nd rfl (Or.inl rfl)) (pgs_cons (pg_name (i := 6) sc_Net_and.nd rfl (Or.inl rfl)) pgs_nil)))))
      (pss_one (ps_ret (peg_make T.k_Net G_Net_init (hr.mono (by decide)) hg (by rfl) T.g_Net T.b_Net_init .nil pass0 (pa_cons (pe_op op_fdivW (pe_op op_mulW (pv 4) (pv 3)) (peg_prop (pv 2) T.cl_Net T.p_Net_size G_Net_size (hr.mono (by decide)) hg T.b_Net_size .nil pass0)) (pa_cons (pe_op op_fdivW (pe_op op_mulW (pv 5) (pv 3)) (peg_prop (pv 2) T.cl_Net T.p_Net_size G_Net_size (hr.mono (by decide)) hg T.b_Net_size .nil pass0)) (pa_cons (pe_op op_fdivW (pe_op op_mulW (pv 6) (pv 3)) (peg_prop (pv 2) T.cl_Net T.p_Net_size G_Net_size (hr.mono (by decide)) hg T.b_Net_size .nil pass0)) pa_nil))))))))), ?_⟩
    walk_at "go"
    refine do_Net_scaled hv (by omega) (by omega) (by omega) fun x1 H1 S1 h1 => ?_
    walk_at "go"
    refine do_Net_scaled (hu.mv S1) (by omega) (by omega) (by omega) fun x2 H2 S2 h2 => ?_
    refine do_or T.i_Net T.cl_Net (h1.mv S2) h2 ⟨by omega, by omega⟩ ⟨by omega, by omega⟩ fun x3 a b c H3 S3 h3 nf => ?_
    obtain ⟨k1, k2, k3, k4⟩ := join_pos q1 q2 nf
    obtain ⟨A', B', C', me, ms⟩ := meet_nums (by omega) (by omega) (by omega) (by omega) k1 k2 nf
    have nm3 := h3.1
    have b0 := nm3.b0
    have ba := nm3.ba
    have ka : a.natAbs ≤ 10 ^ 200 := by omega
    have kc : c.natAbs ≤ 10 ^ 200 := by omega
    have kb : b.natAbs ≤ 10 ^ 200 := by omega
    have m1 : CMulW a (a1 * c1 * (a2 * c2)) := mulN (by omega) (by omega) (by omega) (by omega)
    have m2 : CMulW b (a1 * c1 * (a2 * c2)) := mulN (by omega) (by omega) (by omega) (by omega)
    have m3 : CMulW c (a1 * c1 * (a2 * c2)) := mulN (by omega) (by omega) (by omega) (by omega)
    have w0 : 0 < a * c := Int.mul_pos k1 k2
    have w1 : (a * c).natAbs ≤ 10 ^ 400 := Nat.le_trans (nab ka kc) (by decide +kernel)
    have dd1 : CDivW (a * (a1 * c1 * (a2 * c2))) (a * c) := divN w0 (by omega)
    have dd2 : CDivW (b * (a1 * c1 * (a2 * c2))) (a * c) := divN w0 (by omega)
    have dd3 : CDivW (c * (a1 * c1 * (a2 * c2))) (a * c) := divN w0 (by omega)
    have hA : A' ≤ a1 * c1 * (a2 * c2) := by
      have := me.ea
      have h5 : A' * c = a1 * c1 * (a2 * c2) := by
        have : a * (A' * c) = a * (a1 * c1 * (a2 * c2)) := by rw [this, ← Int.mul_assoc, Int.mul_comm a A', Int.mul_assoc]
        exact Int.eq_of_mul_eq_mul_left (by omega) this
      have := Int.mul_le_mul_of_nonneg_left (show 1 ≤ c by omega) (show 0 ≤ A' from Int.le_of_lt me.pa)
      omega
    have hC : C' ≤ a1 * c1 * (a2 * c2) := by
      have := me.ec
      have h5 : C' * a = a1 * c1 * (a2 * c2) := by
        have : c * (C' * a) = c * (a1 * c1 * (a2 * c2)) := by rw [this, Int.mul_comm c, Int.mul_assoc]
        exact Int.eq_of_mul_eq_mul_left (by omega) this
      have := Int.mul_le_mul_of_nonneg_left (show 1 ≤ a by omega) (show 0 ≤ C' from Int.le_of_lt me.pc)
      omega
    have dA : a * (a1 * c1 * (a2 * c2)) / (a * c) = A' := by rw [me.ea]; exact Int.mul_ediv_cancel _ (by omega)
    have dB : b * (a1 * c1 * (a2 * c2)) / (a * c) = B' := by rw [me.eb]; exact Int.mul_ediv_cancel _ (by omega)
    have dC : c * (a1 * c1 * (a2 * c2)) / (a * c) = C' := by rw [me.ec]; exact Int.mul_ediv_cancel _ (by omega)
    walk_at "go"
    refine do_Net_numbers h3 fun w3 hw3 => ?_
    walk_at "go"
    rw [dA, dB, dC]
    have pA := me.pa
    have pC := me.pc
    exact do_Net ⟨by omega, by omega, me.b0, me.ba, by omega, by omega⟩ fun z H' S h => q _ _ _ _ _ (by walk_at "st") h ⟨ms, hA, hC⟩
theorem do_and {C' : Addr} {u : V} {a1 b1 c1 a2 b2 c2 : Int} (ic : IsC K C') (cl : Cls K C') (h : NA C' H v a1 b1 c1) (h2 : NA C' H u a2 b2 c2) (l1 : Lb Z1 a1 c1) (l2 : Lb Z1 a2 c2)
    (q : ∀ z a b c H', Stp none H H' → NA C' H' z a b c → Mt a1 b1 c1 a2 b2 c2 a b c → Q z H') : rOwnBin K C' (sp_Net_and C') E v u H Q := by
  have h' := h
  have h2' := h2
  obtain ⟨_, p, dx, u1, rfl, h1, _⟩ := h'
  obtain ⟨_, p', dx', u2, rfl, h3, _⟩ := h2'
  exact ⟨p, dx, _, rfl, h1, ic.ty cl h3, _, _, a1, b1, c1, a2, b2, c2, rfl, h, h2, l1, l2, q⟩
def sp_Net_whole (C : Addr) : Sp := fun vs H Q _ => vs = [.ref C] ∧ ∀ z H', Stp none H H' → NA C H' z 1 0 1 → Q z H'
theorem nm_1 : Nm 1 0 1 := by
  have := n1_big
  exact ⟨by decide, by decide, by decide, by decide, by omega, by omega⟩
theorem ok_Net_whole (T : Txt w K mg ad) : FnG P w K mg base CX0 5 ad.Net_whole ad.Net_whole_d P_Net_whole (sp_Net_whole ad.C_Net) := by
  have G_Net_init := ok_Net_init (P := P) (w := w) (base := base) T
  refine Fun.g T.F_Net_whole sc_Net_whole (fun vs H Q E h => ?_) (fun cdv A outer s H vs Q E hr hg h => ?_)
  · obtain ⟨rfl, _⟩ := h
    rfl
  · obtain ⟨rfl, q⟩ := h
    refine ⟨_, (pss_one (ps_ret (peg_makeL (i := 0) T.k_Net G_Net_init (hr.mono (by decide)) hg T.b_Net_init pass0 rfl (.inl rfl) (pa_cons pe_int (pa_cons pe_int (pa_cons pe_int pa_nil)))))), ?_⟩
    walk_at "go"
    refine ⟨rfl, ?_⟩
    walk_at "go"
    exact do_Net nm_1 fun z H' S h => q z H' S h
theorem do_whole {C : Addr} (q : ∀ z H', Stp none H H' → NA C H' z 1 0 1 → Q z H') : sp_Net_whole C [.ref C] H Q E := ⟨rfl, q⟩
end
end Law

set_option Elab.async false
set_option linter.all false
set_option maxRecDepth 100000
set_option maxHeartbeats 4000000
namespace Law
open PySem PySem.Spec PyProof.Rows L2 MV
local macro_rules | `(tactic| walk_at "up") => `(tactic| first
  | assumption
  | (refine' IT.mv ?s ?g; (case s => assumption); (case g => walk_at "up"))
  | (refine' IT.k ?g; (case g => walk_at "up"))
  | (refine' IK.mv ?s ?g; (case s => assumption); (case g => walk_at "up"))
  | (refine' Tape.mvN ?s ?g; (case s => assumption); (case g => walk_at "up"))
  | (refine' Tape.mvS ?s ?g; (case s => assumption); (case g => walk_at "up"))
  | (refine' At.tup ?s ?g; (case s => assumption); (case g => walk_at "up"))
  | (refine' At.ins ?s ?g; (case s => assumption); (case g => walk_at "up"))
  | (refine' At.lst ?s ?g; (case s => assumption); (case g => walk_at "up"))
  | (refine' At.lstS ?s ?n ?g; (case s => assumption); (case n => assumption); (case g => walk_at "up"))
  | fail)
local macro_rules | `(tactic| walk_at "st") => `(tactic| first
  | assumption
  | exact Stp.refl _ _
  | (refine' Stp.w ?s; (case s => assumption))
  | (refine' Stp.trans ?g ?s; (case s => (first | assumption | (refine' Stp.w ?u; (case u => assumption)))); (case g => walk_at "st"))
  | fail)
local macro_rules | `(tactic| walk_at "bT") => `(tactic| first
  | decide
  | (simp only [Bool.not_eq_true', Bool.not_eq_false', decide_eq_true_eq, decide_eq_false_iff_not]; omega)
  | fail)
local macro_rules | `(tactic| walk_at "sd") => `(tactic| first | assumption | decide | omega | fail)
local macro_rules | `(tactic| walk_at "r") => `(tactic| first
  | (with_reducible refine r_seq ?_)
  | (with_reducible refine r_asg ?_)
  | ((with_reducible refine' r_var ?h ?k); (case h => rfl))
  | (with_reducible refine r_c ?_)
  | (with_reducible refine r_op ?_)
  | (with_reducible refine r_un ?_)
  | (with_reducible refine r_nil ?_)
  | (with_reducible refine r_cons ?_)
  | (with_reducible refine r_tup ?_)
  | (with_reducible refine r_lst ?_)
  | (with_reducible refine r_cbLen ?_)
  | (with_reducible refine r_cbInt ?_)
  | (with_reducible refine r_cbRepr ?_)
  | (with_reducible refine r_cbTup ?_)
  | (with_reducible refine r_cbLst ?_)
  | (with_reducible refine r_cb ?_)
  | (with_reducible refine r_prop ?_)
  | (with_reducible refine r_andV ?_)
  | (with_reducible refine r_orV ?_)
  | (with_reducible refine r_notV ?_)
  | (with_reducible refine r_chain ?_)
  | (with_reducible refine r_ifE ?_)
  | (with_reducible refine r_test ?_)
  | (with_reducible refine r_B ?_)
  | (with_reducible refine r_and ?_)
  | (with_reducible refine r_or ?_)
  | (with_reducible refine r_not ?_)
  | (with_reducible refine r_yes ?_)
  | (with_reducible refine r_k ?_)
  | (with_reducible refine r_kV ?_)
  | (with_reducible refine r_next ?_)
  | (with_reducible refine r_drop ?_)
  | (with_reducible refine r_ret ?_)
  | (with_reducible refine r_ifS ?_)
  | (with_reducible refine r_par ?_)
  | (with_reducible refine r_par1 ?_)
  | (with_reducible refine r_gname ?_)
  | (with_reducible refine r_gnil ?_)
  | (with_reducible refine r_gcons ?_)
  | ((with_reducible refine' r_unpack2 ?h ?k); (case h => walk_at "up"))
  | ((with_reducible refine' r_unpack3 ?h ?k); (case h => walk_at "up"))
  | (with_reducible refine r_add ?_)
  | (with_reducible refine r_sub ?_)
  | (with_reducible refine r_neg ?_)
  | ((with_reducible refine' r_mod ?h ?k); (case h => walk_at "sd"))
  | ((with_reducible refine' r_div ?h ?k); (case h => walk_at "sd"))
  | ((with_reducible refine' r_mul ?h ?k); (case h => walk_at "sd"))
  | ((with_reducible refine' r_mulW ?h ?k); (case h => walk_at "sd"))
  | ((with_reducible refine' r_pow ?h ?k); (case h => (show (0 : Int) ≤ _ ∧ _ ∧ _; decide)))
  | (with_reducible refine r_lt ?_)
  | (with_reducible refine r_le ?_)
  | (with_reducible refine r_gt ?_)
  | (with_reducible refine r_ge ?_)
  | (with_reducible refine r_eqI ?_)
  | (with_reducible refine r_neI ?_)
  | (with_reducible refine r_eqS ?_)
  | (with_reducible refine r_neS ?_)
  | ((with_reducible refine' r_eqT ?h ?g ?k); (case h => walk_at "up"); (case g => walk_at "up"))
  | ((with_reducible refine' r_neT ?h ?g ?k); (case h => walk_at "up"); (case g => walk_at "up"))
  | ((with_reducible refine' r_ix0 ?h ?k); (case h => walk_at "up"))
  | ((with_reducible refine' r_ix1 ?h ?k); (case h => walk_at "up"))
  | ((with_reducible refine' r_ix2 ?h ?k); (case h => walk_at "up"))
  | (with_reducible refine r_newI2 (fun v H2 S I => ?_))
  | (with_reducible refine r_newI3 (fun v H2 S I => ?_))
  | (with_reducible refine r_newL1 (fun p H2 S hp np => ?_))
  | (with_reducible refine r_newL2 (fun p H2 S hp np => ?_))
  | (with_reducible refine r_newL3 (fun p H2 S hp np => ?_))
  | (with_reducible refine r_T ?_)
  | (with_reducible refine r_F ?_)
  | fail)
local macro_rules | `(tactic| walk_at "go") => `(tactic| repeat (walk_at "r"))
local macro_rules | `(tactic| walk_at "r") => `(tactic| first
  | (with_reducible refine r_call0 ?_)
  | (with_reducible refine r_meth0 ?_)
  | (with_reducible refine r_make0 ?_)
  | (with_reducible refine r_isiII ?_)
  | (with_reducible refine r_isiIB ?_)
  | ((with_reducible refine' r_isiTT ?h ?k); (case h => walk_at "up"))
  | ((with_reducible refine' r_len2 ?h ?k); (case h => walk_at "up"))
  | ((with_reducible refine' r_len3 ?h ?k); (case h => walk_at "up"))
  | ((with_reducible refine' r_lenL ?h ?k); (case h => walk_at "up"))
  | (with_reducible refine r_int1 ?_)
  | (with_reducible refine r_int1B ?_)
  | (with_reducible refine r_nT ?_)
  | (with_reducible refine r_nF ?_)
  | (with_reducible refine r_gcd ?_)
  | (with_reducible refine r_gsub ?_)
  | (with_reducible refine r_fld ?_)
  | (with_reducible refine r_p6 ?_)
  | (with_reducible refine r_p9 ?_)
  | (with_reducible refine r_p10 ?_)
  | (with_reducible refine r_p11 ?_)
  | (with_reducible refine r_p12 ?_)
  | (with_reducible refine r_p18 ?_)
  | (with_reducible refine r_p20 ?_)
  | (with_reducible refine r_p26 ?_)
  | (with_reducible refine r_p27 ?_)
  | (with_reducible refine r_p30 ?_)
  | ((with_reducible refine' r_iF ?h ?k); (case h => walk_at "bT"))
  | ((with_reducible refine' r_iT ?h ?k); (case h => walk_at "bT"))
  | (with_reducible refine r_sfld ?_)
  | (with_reducible refine r_sl ?_)
  | (with_reducible refine r_noPart ?_)
  | (with_reducible refine r_part ?_)
  | (with_reducible refine r_pk ?_)
  | ((with_reducible refine' r_unl2 ?h ?k); (case h => walk_at "up"))
  | ((with_reducible refine' r_ixLi ?h ?h0 ?hn ?k); (case h => walk_at "up"); (case h0 => walk_at "sd"); (case hn => rfl))
  | fail)

local macro_rules | `(tactic| walk_at "r") => `(tactic| with_reducible refine do_is_integer ?_)
local macro_rules | `(tactic| walk_at "r") => `(tactic| first | ((with_reducible refine' do_is_place ?h ?k); (case h => walk_at "up")) | fail)
local macro_rules | `(tactic| walk_at "r") => `(tactic| first | ((with_reducible refine' do_check_place ?h ?k); (case h => walk_at "up")) | fail)
local macro_rules | `(tactic| walk_at "r") => `(tactic| first | ((with_reducible refine' do_are_numbers ?h ?k); (case h => assumption)) | fail)
local macro_rules | `(tactic| walk_at "up") => `(tactic| first | (refine' NA.mv ?s ?g; (case s => assumption); (case g => walk_at "up")) | fail)
local macro_rules | `(tactic| walk_at "r") => `(tactic| first
  | ((with_reducible refine' do_Net_size ?h ?k); (case h => walk_at "up"))
  | ((with_reducible refine' do_meth ?h ?hm ?k); (case h => walk_at "up"); (case hm => decide +kernel))
  | fail)

section
variable {P : Program} {w : World} {K : PySem.W.Frag} {mg : Str → Option Value} {base : Heap} {ad : Ad} {H : Hp} {Q : VK} {E : XK} {i j x y : Int} {v : V}
/-! ### kinds -/
/-- coordinates within the bounds of this proof -/
def Cm (x : Int) : Prop := x.natAbs < 10 ^ 65
def im (a : Ad) (k : Str) : Addr := if k = "none" then a.im_none else if k = "left" then a.im_left else if k = "half" then a.im_half else if k = "right" then a.im_right else
  if k = "flip" then a.im_flip else if k = "mirror" then a.im_mirror else if k = "swap" then a.im_swap else a.im_cross
theorem Txt.im (T : Txt w K mg ad) {k : Str} {m : Mat} (h : Kd k m) : ∃ p, KDct K w ad.IMAGES k (.ref p) ∧ KT K p [.int m.1, .int m.2.1, .int m.2.2.1, .int m.2.2.2] := by
  rcases h.cases with ⟨rfl, rfl⟩ | ⟨rfl, rfl⟩ | ⟨rfl, rfl⟩ | ⟨rfl, rfl⟩ | ⟨rfl, rfl⟩ | ⟨rfl, rfl⟩ | ⟨rfl, rfl⟩ | ⟨rfl, rfl⟩
  · exact ⟨_, T.d_none, T.t_none⟩
  · exact ⟨_, T.d_left, T.t_left⟩
  · exact ⟨_, T.d_half, T.t_half⟩
  · exact ⟨_, T.d_right, T.t_right⟩
  · exact ⟨_, T.d_flip, T.t_flip⟩
  · exact ⟨_, T.d_mirror, T.t_mirror⟩
  · exact ⟨_, T.d_swap, T.t_swap⟩
  · exact ⟨_, T.d_cross, T.t_cross⟩
theorem r_ixD {d : Addr} {z : Str} (h : KDct K w d z v) (q : Q v H) : rIxD K w (.ref d) (.str z) H Q := ⟨d, z, v, rfl, rfl, h, q⟩
def sp_turned (K : PySem.W.Frag) : Sp := fun vs H Q _ => ∃ k m v x y, vs = [.str k, v] ∧ Kd k m ∧ IK K H v [x, y] ∧ Cm x ∧ Cm y ∧ ∀ z H', Stp none H H' → IT H' z [mx m x y, my m x y] → Q z H'
theorem do_turned {k : Str} {m : Mat} (h : Kd k m) (hv : IK K H v [x, y]) (hx : Cm x) (hy : Cm y) (q : ∀ z H', Stp none H H' → IT H' z [mx m x y, my m x y] → Q z H') :
    sp_turned K [.str k, v] H Q E := ⟨k, m, v, x, y, rfl, h, hv, hx, hy, q⟩
theorem ok_turned (T : Txt w K mg ad) : FnG P w K mg base CX0 1 ad.turned ad.turned_d P_turned (sp_turned K) := by
  refine Fun.g T.F_turned sc_turned (fun vs H Q E h => ?_) (fun cdv A outer s H vs Q E hr hg h => ?_)
  · obtain ⟨k, m, v, x, y, rfl, _⟩ := h
    rfl
  · obtain ⟨k, m, v, x, y, rfl, hk, hv, hx, hy, q⟩ := h
    obtain ⟨p, h1, h2⟩ := T.im hk
    have h3 : IK K H (.ref p) [m.1, m.2.1, m.2.2.1, m.2.2.2] := KT.k (ns := [_, _, _, _]) h2
    obtain ⟨c1, c2, c3, c4⟩ := hk.coef
    unfold Cm at hx hy
    have m1 : CMulW m.1 x := mulW_of (by omega) (by omega)
    have m2 : CMulW m.2.1 y := mulW_of (by omega) (by omega)
    have m3 : CMulW m.2.2.1 x := mulW_of (by omega) (by omega)
    have m4 : CMulW m.2.2.2 y := mulW_of (by omega) (by omega)
    refine ⟨_, (pss_cons (ps_asg (pe_ix ix_kdict (pe_glob (v := V.ref ad.IMAGES) rfl T.v_IMAGES rfl) (pv 0) (fun _ _ => rfl)) (pg_tup (n := 4) rfl (pgs_cons (pg_name (i := 2) sc_turned.nd rfl (Or.inl rfl)) (pgs_cons (pg_name (i := 3) sc_turned.nd rfl (Or.inl rfl)) (pgs_cons (pg_name (i := 4) sc_turned.nd rfl (Or.inl rfl)) (pgs_cons (pg_name (i := 5) sc_turned.nd rfl (Or.inl rfl)) pgs_nil))))))
      (pss_cons (ps_asg (pv 1) (pg_tup (n := 2) rfl (pgs_cons (pg_name (i := 6) sc_turned.nd rfl (Or.inl rfl)) (pgs_cons (pg_name (i := 7) sc_turned.nd rfl (Or.inl rfl)) pgs_nil))))
      (pss_one (ps_ret (pe_tup (pa_cons (pe_op op_add (pe_op op_mulW (pv 2) (pv 6)) (pe_op op_mulW (pv 3) (pv 7))) (pa_cons (pe_op op_add (pe_op op_mulW (pv 4) (pv 6)) (pe_op op_mulW (pv 5) (pv 7))) pa_nil))))))), ?_⟩
    walk_at "go"
    refine r_ixD h1 ?_
    walk_at "go"
    refine r_unpack4 h3 ?_
    walk_at "go"
    exact q _ _ (by walk_at "st") (by walk_at "up")

theorem head_of {f : Str × Mat → Bool} {k : Str} {m : Mat} (h : Kd k m) (hf : f (k, m) = true) (hu : ∀ t ∈ KNS, f t = true → t.1 = k) :
    ((KNS.filter f).map fun t => V.str t.1)[0]? = some (V.str k) := by
  have h1 : (k, m) ∈ KNS.filter f := List.mem_filter.mpr ⟨h, hf⟩
  cases e : KNS.filter f with
  | nil => rw [e] at h1; cases h1
  | cons t r =>
    have h2 : t ∈ KNS.filter f := by rw [e]; exact List.mem_cons_self
    obtain ⟨h3, h4⟩ := List.mem_filter.mp h2
    rw [List.map_cons, List.getElem?_cons_zero, hu t h3 h4]
def sp_kind_between (K : PySem.W.Frag) : Sp := fun vs H Q _ => ∃ v u x y a b k m, vs = [v, u] ∧ IK K H v [x, y] ∧ IK K H u [a, b] ∧ Cm x ∧ Cm y ∧ Kd k m ∧ mx m x y = a ∧ my m x y = b ∧
  (∀ l n, Kd l n → mx n x y = a → my n x y = b → l = k) ∧ ∀ H', Stp none H H' → Q (.str k) H'
theorem do_kind_between {u : V} {a b : Int} {k : Str} {m : Mat} (hv : IK K H v [x, y]) (hw : IK K H u [a, b]) (hx : Cm x) (hy : Cm y) (hk : Kd k m) (e1 : mx m x y = a) (e2 : my m x y = b)
    (hu : ∀ l n, Kd l n → mx n x y = a → my n x y = b → l = k) (q : ∀ H', Stp none H H' → Q (.str k) H') : sp_kind_between K [v, u] H Q E :=
  ⟨v, u, x, y, a, b, k, m, rfl, hv, hw, hx, hy, hk, e1, e2, hu, q⟩
theorem ok_kind_between (T : Txt w K mg ad) : FnG P w K mg base CX0 2 ad.kind_between ad.kind_between_d P_kind_between (sp_kind_between K) := by
  have G_turned := ok_turned (P := P) (w := w) (base := base) T
  refine Fun.gn T.F_kind_between sc_kind_between (fun vs H Q E h => ?_) (fun cdv A outer s H vs Q E hr hg h => ?_)
  · obtain ⟨v, u, x, y, a, b, k, m, rfl, _⟩ := h
    rfl
  · obtain ⟨v, u, x, y, a, b, k, m, rfl, hv, hw, hx, hy, hk, e1, e2, hu, q⟩ := h
    refine ⟨_, (pss_one (ps_ret (pe_ix ix_seq (pe_lc (own := [("kind", 2)]) (g := gName 2)  rfl sc_kind_between.nd (pi_kk (pe_glob (v := V.ref ad.IMAGES) rfl T.v_IMAGES rfl)) (blkOk_by (own := [("kind", 2)]) (N := N_kind_between) (sc := defScope s_kind_between) (by decide +kernel)) (fun _ _ _ _ _ => (pg_name (i := 2) sc_kind_between.nd rfl (Or.inl rfl))) (fun _ _ _ _ _ => (pts_one (pt_cmpR (op_eqDk (K := K) rfl hr.units) (peg_call G_turned (hr.mono (by decide)) hg (by rfl) T.g_turned T.F_turned.kp T.b_turned .nil pass0 (pa_cons (pv 2) (pa_cons (pv 0) pa_nil))) (pv 1) (nomark _)))) (fun _ _ _ _ _ => (pv 2)) ) pe_int (fun _ _ => rfl)))), ?_⟩
    walk_at "go"
    refine ⟨_, _, rfl, T.kk, fun D hD => ?_⟩
    have xs_eq : ([V.str "none", V.str "left", V.str "half", V.str "right", V.str "flip", V.str "mirror", V.str "swap", V.str "cross"] : List V) = KNS.map fun t => V.str t.1 := rfl
    rw [xs_eq]
    refine lc_known (fun i H' => (∀ b o, H b = some o → H' b = some o) ∧ H' D = some (.lst (((KNS.take i).filter fun t => decide (mx t.2 x y = a ∧ my t.2 x y = b)).map fun t => V.str t.1))) ⟨?_, upd_same⟩ (fun i z H' hz p => ?_) (fun H' p => ?_)
    · intro b o e
      rw [upd_ne (ne_of_none e hD)]
      exact e
    · rw [List.getElem?_map] at hz
      obtain ⟨⟨l, n⟩, hm, rfl⟩ := Option.map_eq_some_iff.mp hz
      have hl : Kd l n := List.mem_of_getElem? hm
      obtain ⟨p1, p2⟩ := p
      have S0 : Stp none H H' := Stp.of p1 none
      have tk : KNS.take (i + 1) = KNS.take i ++ [(l, n)] := by rw [List.take_succ, hm]; rfl
      refine ⟨rfl, ?_⟩
      walk_at "go"
      refine do_turned hl (by walk_at "up") hx hy fun y1 H2 S2 i2 => ?_
      walk_at "go"
      refine r_ite (fun h1 => ?_) (fun h1 => ?_)
      · walk_at "go"
        have hf : decide (mx n x y = a ∧ my n x y = b) = true := by
          injection h1 with h2 h3
          injection h3 with h3 _
          exact decide_eq_true ⟨h2, h3⟩
        refine ⟨_, S2.all _ _ p2, ?_, ?_, ?_⟩
        · refine Nat.lt_of_le_of_lt (m := 8) ?_ (by decide)
          rw [List.length_map]
          exact Nat.le_trans (List.length_filter_le _ _) (List.length_take_le' _ _)
        · intro b' o e
          rw [upd_ne (ne_of_none e hD)]
          exact S2.all _ _ (p1 _ _ e)
        · rw [upd_same, tk, List.filter_append, List.map_append, List.filter_cons_of_pos (by exact hf)]
          rfl
      · have hf : ¬ decide (mx n x y = a ∧ my n x y = b) = true := by
          intro h2
          obtain ⟨h3, h4⟩ := of_decide_eq_true h2
          rw [h3, h4] at h1
          exact h1 rfl
        refine ⟨fun b' o e => S2.all _ _ (p1 _ _ e), ?_⟩
        rw [tk, List.filter_append, List.filter_cons_of_neg (by exact hf), List.filter_nil, List.append_nil]
        exact S2.all _ _ p2
    · walk_at "go"
      refine r_ixL (n := 0) p.2 ?_ (q _ (Stp.of p.1 none))
      exact head_of hk (decide_eq_true ⟨e1, e2⟩) fun t ht hf => (let z := of_decide_eq_true hf; hu t.1 t.2 ht z.1 z.2)

/-! ### motions -/
/-- v is a Motion of the kind k (matrix m) and the shift (x, y) -/
def MA (C : Addr) (H : Hp) (v : V) (k : Str) (m : Mat) (x y : Int) : Prop := Kd k m ∧ ∃ p dx u, v = .ref p ∧ H p = some (.ins C dx (putF "_shift" u (putF "_kind" (.str k) []))) ∧ IT H u [x, y]
theorem MA.mv {C : Addr} {t : Option Addr} {H H' : Hp} {v : V} {k : Str} {m : Mat} (s : Stp t H H') (h : MA C H v k m x y) : MA C H' v k m x y := by
  obtain ⟨n, p, dx, u, e, h1, h2⟩ := h
  exact ⟨n, p, dx, u, e, At.ins s h1, h2.mv s⟩
local macro_rules | `(tactic| walk_at "up") => `(tactic| first | (refine' MA.mv ?s ?g; (case s => assumption); (case g => walk_at "up")) | fail)
theorem kinds_in {k : Str} {m : Mat} (h : Kd k m) : inV (.str k) [V.str "none", V.str "left", V.str "half", V.str "right", V.str "flip", V.str "mirror", V.str "swap", V.str "cross"] = true := by
  rcases h.cases with ⟨rfl, _⟩ | ⟨rfl, _⟩ | ⟨rfl, _⟩ | ⟨rfl, _⟩ | ⟨rfl, _⟩ | ⟨rfl, _⟩ | ⟨rfl, _⟩ | ⟨rfl, _⟩ <;> decide +kernel
def sp_Motion_init (K : PySem.W.Frag) (C : Addr) : Sp := fun vs H Q _ => ∃ p dx k m v x y, vs = [.ref p, .str k, v] ∧ Kd k m ∧ IK K H v [x, y] ∧ H p = some (.ins C dx []) ∧
  ∀ H', (∀ b o, b ≠ p → H b = some o → H' b = some o) → MA C H' (.ref p) k m x y → Q .non H'
theorem ok_Motion_init (T : Txt w K mg ad) : FnG P w K mg base CX0 4 ad.Motion_init ad.Motion_init_d P_Motion_init (sp_Motion_init K ad.C_Motion) := by
  have G_check_place := ok_check_place (P := P) (w := w) (base := base) T
  refine MV.FunD.g T.F_Motion_init sc_Motion_init (fun vs H Q E h => ?_) (fun cdv A outer s H vs Q E hr hg h => ?_)
  · obtain ⟨p, dx, k, m, v, x, y, rfl, _⟩ := h
    rfl
  · obtain ⟨p, dx, k, m, v, x, y, rfl, hk, hv, hp, q⟩ := h
    refine ⟨_, (pss_cons (ps_if (PW.pt (pw_or (pt_not (pt_val (pe_callB call_isi (by rfl) T.z_isinstance (by decide +kernel) (pa_cons (pv 1) (pa_cons (pe_bltn (v := V.ty "str") (u := Value.type "str") (by rfl) T.z_str (by decide +kernel) rfl) pa_nil))))) (pw_or1 (pt_cmpR op_notIn_seq (pv 1) (ClX.pe_cval (pe_glob (v := V.ref ad.C_Motion) rfl T.g_Motion rfl)) (by rfl)))))
      (pss_one ps_never) pss_nil)
      (pss_cons (ps_expr (peg_call G_check_place (hr.mono (by decide)) hg (by rfl) T.g_check_place T.F_check_place.kp T.b_check_place .nil pass0 (pa_cons (pv 2) pa_nil)))
      (pss_cons (ps_asg (pv 2) (pg_tup (n := 2) rfl (pgs_cons (pg_name (i := 3) sc_Motion_init.nd rfl (Or.inl rfl)) (pgs_cons (pg_name (i := 4) sc_Motion_init.nd rfl (Or.inl rfl)) pgs_nil))))
      (pss_cons (ps_fld (pv 0) (pv 1) rfl)
      (pss_one (ps_fld (pv 0) (pe_tup (pa_cons (pe_callTy call_int1 (by rfl) T.z_int (by decide +kernel) (pa_cons (pv 3) pa_nil)) (pa_cons (pe_callTy call_int1 (by rfl) T.z_int (by decide +kernel) (pa_cons (pv 4) pa_nil)) pa_nil))) rfl)))))), ?_⟩
    walk_at "go"
    refine r_isiSS ?_
    walk_at "go"
    refine r_cval ?_
    walk_at "go"
    refine ⟨_, _, _, _, rfl, T.cr_Motion, T.c_KINDS, ⟨_, _, rfl, .inr T.t_KINDS.t, rfl, rfl, ?_⟩⟩
    rw [kinds_in hk]
    walk_at "go"
    refine ⟨p, ad.C_Motion, dx, [], rfl, hp, T.cl_Motion, T.n_kind, Nat.zero_lt_succ _, ?_⟩
    walk_at "go"
    refine ⟨p, ad.C_Motion, dx, _, rfl, At.ins (by assumption) upd_same, T.cl_Motion, T.n_shift, Nat.le_of_ble_eq_true rfl, ?_⟩
    rename_i u H2 S hI
    have ne : ∀ b o, b ≠ p → H b = some o → upd H p (.ins ad.C_Motion dx (putF "_kind" (.str k) [])) b = some o := fun b o nb e => by
      rw [upd_ne nb]
      exact e
    refine q _ (fun b o nb e => ?_) ⟨hk, p, dx, u, rfl, upd_same, ?_⟩
    · rw [upd_ne nb]
      exact S.all _ _ (ne _ _ nb e)
    · obtain ⟨t, rfl, ht⟩ := hI
      exact ⟨t, rfl, by rw [upd_ne (ne_of ht (S.all _ _ upd_same) (by intro z; cases z))]; exact ht⟩
/-- Motion(k, v) -/
theorem do_Motion {C : Addr} {k : Str} {m : Mat} (hk : Kd k m) (hv : IK K H v [x, y]) (q : ∀ z H', Stp none H H' → MA C H' z k m x y → Q z H') :
    MkR C (sp_Motion_init K C) [.str k, v] H Q E := by
  intro p dx hx hd ne
  have S0 : ∀ b o, H b = some o → upd (upd H dx (.own p)) p (.ins C dx []) b = some o := fun b o e => by
    rw [upd_ne (ne_of_none e hx), upd_ne (ne_of_none e hd)]
    exact e
  refine ⟨p, dx, k, m, v, x, y, rfl, hk, hv.mv (Stp.of S0 none), upd_same, fun H' s h => ⟨rfl, q _ _ (Stp.of (fun b o e => s b o (ne_of_none e hx) (S0 b o e)) none) h⟩⟩

theorem put2_shift (u z : V) : (putF "_shift" u (putF "_kind" z [])).lookup ("_shift" : Str) = some u := by rw [lookup_putF, if_pos rfl]
theorem put2_kind (u z : V) : (putF "_shift" u (putF "_kind" z [])).lookup ("_kind" : Str) = some z := by rw [lookup_putF, if_neg (by decide), lookup_putF, if_pos rfl]
theorem put2_other (u z : V) {m : Str} (h : m ≠ "_shift") (h2 : m ≠ "_kind") : (putF "_shift" u (putF "_kind" z [])).lookup m = none := by rw [lookup_putF, if_neg h, lookup_putF, if_neg h2]; rfl
/-- v._kind, v._shift -/
theorem r_kindF {C p dx : Addr} {u z : V} (c : Cls K C) (n : NoAttr K C "_kind") (h : H p = some (.ins C dx (putF "_shift" u (putF "_kind" z [])))) (q : Q z H) : FldR K "_kind" (.ref p) H Q :=
  ⟨p, C, dx, _, z, rfl, h, c, n, put2_kind u z, q⟩
theorem r_shiftF {C p dx : Addr} {u z : V} (c : Cls K C) (n : NoAttr K C "_shift") (h : H p = some (.ins C dx (putF "_shift" u (putF "_kind" z [])))) (q : Q u H) : FldR K "_shift" (.ref p) H Q :=
  ⟨p, C, dx, _, u, rfl, h, c, n, put2_shift u z, q⟩
def sp_Motion_kind (C : Addr) : Sp := fun vs H Q _ => ∃ v k m x y, vs = [v] ∧ MA C H v k m x y ∧ Q (.str k) H
theorem ok_Motion_kind (T : Txt w K mg ad) : FnG P w K mg base CX0 1 ad.Motion_kind ad.Motion_kind_d P_Motion_kind (sp_Motion_kind ad.C_Motion) := by
  refine Fun.g T.F_Motion_kind sc_Motion_kind (fun vs H Q E h => ?_) (fun cdv A outer s H vs Q E hr hg h => ?_)
  · obtain ⟨v, k, m, x, y, rfl, _⟩ := h
    rfl
  · obtain ⟨v, k, m, x, y, rfl, ⟨hk, p, dx, u, rfl, hp, hu⟩, q⟩ := h
    refine ⟨_, (pss_one (ps_ret (pe_fld (pv 0) rfl))), ?_⟩
    walk_at "go"
    exact r_kindF T.cl_Motion T.n_kind hp q
theorem do_Motion_kind {C : Addr} {k : Str} {m : Mat} (h : MA C H v k m x y) (q : Q (.str k) H) :
    ∃ p dx fs, v = .ref p ∧ H p = some (.ins C dx fs) ∧ sp_Motion_kind C (.ref p :: []) H Q E := by
  have h' := h
  obtain ⟨_, p, dx, u, rfl, h1, _⟩ := h'
  exact ⟨p, dx, _, rfl, h1, _, k, m, x, y, rfl, h, q⟩
def sp_Motion_shift (C : Addr) : Sp := fun vs H Q _ => ∃ v k m x y, vs = [v] ∧ MA C H v k m x y ∧ ∀ u, IT H u [x, y] → Q u H
theorem ok_Motion_shift (T : Txt w K mg ad) : FnG P w K mg base CX0 1 ad.Motion_shift ad.Motion_shift_d P_Motion_shift (sp_Motion_shift ad.C_Motion) := by
  refine Fun.g T.F_Motion_shift sc_Motion_shift (fun vs H Q E h => ?_) (fun cdv A outer s H vs Q E hr hg h => ?_)
  · obtain ⟨v, k, m, x, y, rfl, _⟩ := h
    rfl
  · obtain ⟨v, k, m, x, y, rfl, ⟨hk, p, dx, u, rfl, hp, hu⟩, q⟩ := h
    refine ⟨_, (pss_one (ps_ret (pe_fld (pv 0) rfl))), ?_⟩
    walk_at "go"
    exact r_shiftF T.cl_Motion T.n_shift hp (q _ hu)
theorem do_Motion_shift {C : Addr} {k : Str} {m : Mat} (h : MA C H v k m x y) (q : ∀ u, IT H u [x, y] → Q u H) :
    ∃ p dx fs, v = .ref p ∧ H p = some (.ins C dx fs) ∧ sp_Motion_shift C (.ref p :: []) H Q E := by
  have h' := h
  obtain ⟨_, p, dx, u, rfl, h1, _⟩ := h'
  exact ⟨p, dx, _, rfl, h1, _, k, m, x, y, rfl, h, q⟩
/-- whether a kind is a mirror image -/
theorem cm_of {x : Int} (h : x.natAbs < 10 ^ 62) : Cm x := Nat.lt_of_lt_of_le h (by decide)
local macro_rules | `(tactic| walk_at "r") => `(tactic| first | ((with_reducible refine' do_Motion_kind ?h ?k); (case h => walk_at "up")) | fail)
theorem cm1 : Cm 1 := by unfold Cm; decide
theorem cm2 : Cm 2 := by unfold Cm; decide
theorem cm_m {k : Str} {m : Mat} (h : Kd k m) {B : Nat} (hB : B < 10 ^ 65) (hx : x.natAbs ≤ B) (hy : y.natAbs ≤ B) : Cm (mx m x y) ∧ Cm (my m x y) ∧ (mx m x y).natAbs ≤ B ∧ (my m x y).natAbs ≤ B := by
  have := h.bound x y
  unfold Cm
  omega
/-! ### one * other -/
def sp_Motion_mul (K : PySem.W.Frag) (C : Addr) : Sp := fun vs H Q _ => ∃ v u k m x y l n a b, vs = [v, u] ∧ MA C H v k m x y ∧ MA C H u l n a b ∧ x.natAbs < 10 ^ 62 ∧ y.natAbs < 10 ^ 62 ∧
  ∀ z j H', Stp none H H' → MA C H' z j (mmul n m) (mx n x y + a) (my n x y + b) → Q z H'
theorem ok_Motion_mul (T : Txt w K mg ad) : FnG P w K mg base CX0 6 ad.Motion_mul ad.Motion_mul_d P_Motion_mul (sp_Motion_mul K ad.C_Motion) := by
  have G_turned := ok_turned (P := P) (w := w) (base := base) T
  have G_kind_between := ok_kind_between (P := P) (w := w) (base := base) T
  have G_Motion_kind := ok_Motion_kind (P := P) (w := w) (base := base) T
  have G_Motion_shift := ok_Motion_shift (P := P) (w := w) (base := base) T
  have G_Motion_init := ok_Motion_init (P := P) (w := w) (base := base) T
  refine Fun.g T.F_Motion_mul sc_Motion_mul (fun vs H Q E h => ?_) (fun cdv A outer s H vs Q E hr hg h => ?_)
  · obtain ⟨v, u, k, m, x, y, l, n, a, b, rfl, _⟩ := h
    rfl
  · obtain ⟨v, u, k, m, x, y, l, n, a, b, rfl, hv, hu, bx, by', q⟩ := h
    have hv' := hv
    obtain ⟨hk, p, dx, w1, rfl, hp, hw⟩ := hv'
    have hl := hu.1
    have hP : ∀ H, IK K H (.ref ad.PROBE) [1, 2] := fun H => KT.k (ns := [1, 2]) T.t_PROBE
    obtain ⟨c1, c2, c3, c4⟩ := cm_m hk (B := 2) (x := 1) (y := 2) (by decide) (by decide) (by decide)
    obtain ⟨j3, hj⟩ := Kd.mul hk hl
    refine ⟨_, (pss_cons (ps_set (i := 2) sc_Motion_mul.nd rfl (Or.inl rfl) (peg_call G_kind_between (hr.mono (by decide)) hg (by rfl) T.g_kind_between T.F_kind_between.kp T.b_kind_between .nil pass0 (pa_cons (pe_glob (v := V.ref ad.PROBE) rfl T.v_PROBE rfl) (pa_cons (peg_call G_turned (hr.mono (by decide)) hg (by rfl) T.g_turned T.F_turned.kp T.b_turned .nil pass0 (pa_cons (peg_prop (pv 1) T.cl_Motion T.p_Motion_kind G_Motion_kind (hr.mono (by decide)) hg T.b_Motion_kind .nil pass0) (pa_cons (peg_call G_turned (hr.mono (by decide)) hg (by rfl) T.g_turned T.F_turned.kp T.b_turned .nil pass0 (pa_cons (pe_fld (pv 0) rfl) (pa_cons (pe_glob (v := V.ref ad.PROBE) rfl T.v_PROBE rfl) pa_nil))) pa_nil))) pa_nil))))
      (pss_cons (ps_asg (peg_call G_turned (hr.mono (by decide)) hg (by rfl) T.g_turned T.F_turned.kp T.b_turned .nil pass0 (pa_cons (peg_prop (pv 1) T.cl_Motion T.p_Motion_kind G_Motion_kind (hr.mono (by decide)) hg T.b_Motion_kind .nil pass0) (pa_cons (pe_fld (pv 0) rfl) pa_nil))) (pg_tup (n := 2) rfl (pgs_cons (pg_name (i := 3) sc_Motion_mul.nd rfl (Or.inl rfl)) (pgs_cons (pg_name (i := 4) sc_Motion_mul.nd rfl (Or.inl rfl)) pgs_nil))))
      (pss_cons (ps_asg (peg_prop (pv 1) T.cl_Motion T.p_Motion_shift G_Motion_shift (hr.mono (by decide)) hg T.b_Motion_shift .nil pass0) (pg_tup (n := 2) rfl (pgs_cons (pg_name (i := 5) sc_Motion_mul.nd rfl (Or.inl rfl)) (pgs_cons (pg_name (i := 6) sc_Motion_mul.nd rfl (Or.inl rfl)) pgs_nil))))
      (pss_one (ps_ret (peg_make T.k_Motion G_Motion_init (hr.mono (by decide)) hg (by rfl) T.g_Motion T.b_Motion_init .nil pass0 (pa_cons (pv 2) (pa_cons (pe_tup (pa_cons (pe_op op_add (pv 3) (pv 5)) (pa_cons (pe_op op_add (pv 4) (pv 6)) pa_nil))) pa_nil)))))))), ?_⟩
    walk_at "go"
    refine r_kindF T.cl_Motion T.n_kind (by walk_at "up") ?_
    walk_at "go"
    refine do_turned hk (hP _) cm1 cm2 fun z1 H1 S1 i1 => ?_
    walk_at "go"
    refine do_turned hl (by walk_at "up") c1 c2 fun z2 H2 S2 i2 => ?_
    walk_at "go"
    refine do_kind_between (hP _) (by walk_at "up") cm1 cm2 hj (mx_mul _ _ _ _).symm (my_mul _ _ _ _).symm ?_ fun H3 S3 => ?_
    · intro l' n' h' e1 e2
      exact uniq_list _ h' _ hj (e1.trans (mx_mul _ _ _ _)) (e2.trans (my_mul _ _ _ _))
    walk_at "go"
    refine r_shiftF T.cl_Motion T.n_shift (by walk_at "up") ?_
    walk_at "go"
    refine do_turned hl (by walk_at "up") (cm_of bx) (cm_of by') fun z4 H4 S4 i4 => ?_
    walk_at "go"
    refine do_Motion_shift (by walk_at "up") fun u5 i5 => ?_
    walk_at "go"
    exact do_Motion hj (by walk_at "up") fun z H' S h => q _ _ _ (by walk_at "st") h
theorem do_mul {C : Addr} {u : V} {k l : Str} {m n : Mat} {a b : Int} (ic : IsC K C) (cl : Cls K C) (h : MA C H v k m x y) (h2 : MA C H u l n a b) (hx : x.natAbs < 10 ^ 62) (hy : y.natAbs < 10 ^ 62)
    (q : ∀ z j H', Stp none H H' → MA C H' z j (mmul n m) (mx n x y + a) (my n x y + b) → Q z H') : rOwnBin K C (sp_Motion_mul K C) E v u H Q := by
  have h' := h
  have h2' := h2
  obtain ⟨_, p, dx, u1, rfl, h1, _⟩ := h'
  obtain ⟨_, p', dx', u2, rfl, h3, _⟩ := h2'
  exact ⟨p, dx, _, rfl, h1, ic.ty cl h3, _, _, k, m, x, y, l, n, a, b, rfl, h, h2, hx, hy, q⟩
/-! ### ~one -/
def sp_Motion_invert (K : PySem.W.Frag) (C : Addr) : Sp := fun vs H Q _ => ∃ v k m x y, vs = [v] ∧ MA C H v k m x y ∧ x.natAbs < 10 ^ 62 ∧ y.natAbs < 10 ^ 62 ∧
  ∀ z j n H', Stp none H H' → mmul n m = mone → mmul m n = mone → MA C H' z j n (-mx n x y) (-my n x y) → Q z H'
theorem ok_Motion_invert (T : Txt w K mg ad) : FnG P w K mg base CX0 6 ad.Motion_invert ad.Motion_invert_d P_Motion_invert (sp_Motion_invert K ad.C_Motion) := by
  have G_turned := ok_turned (P := P) (w := w) (base := base) T
  have G_kind_between := ok_kind_between (P := P) (w := w) (base := base) T
  have G_Motion_init := ok_Motion_init (P := P) (w := w) (base := base) T
  refine Fun.g T.F_Motion_invert sc_Motion_invert (fun vs H Q E h => ?_) (fun cdv A outer s H vs Q E hr hg h => ?_)
  · obtain ⟨v, k, m, x, y, rfl, _⟩ := h
    rfl
  · obtain ⟨v, k, m, x, y, rfl, hv, bx, by', q⟩ := h
    have hv' := hv
    obtain ⟨hk, p, dx, w1, rfl, hp, hw⟩ := hv'
    have hP : ∀ H, IK K H (.ref ad.PROBE) [1, 2] := fun H => KT.k (ns := [1, 2]) T.t_PROBE
    obtain ⟨c1, c2, c3, c4⟩ := cm_m hk (B := 2) (x := 1) (y := 2) (by decide) (by decide) (by decide)
    obtain ⟨j, n, hj, e1, e2⟩ := Kd.inv hk
    have g1 : mx n (mx m 1 2) (my m 1 2) = 1 := by rw [mx_mul, e1, mx_one]
    have g2 : my n (mx m 1 2) (my m 1 2) = 2 := by rw [my_mul, e1, my_one]
    refine ⟨_, (pss_cons (ps_set (i := 1) sc_Motion_invert.nd rfl (Or.inl rfl) (peg_call G_kind_between (hr.mono (by decide)) hg (by rfl) T.g_kind_between T.F_kind_between.kp T.b_kind_between .nil pass0 (pa_cons (peg_call G_turned (hr.mono (by decide)) hg (by rfl) T.g_turned T.F_turned.kp T.b_turned .nil pass0 (pa_cons (pe_fld (pv 0) rfl) (pa_cons (pe_glob (v := V.ref ad.PROBE) rfl T.v_PROBE rfl) pa_nil))) (pa_cons (pe_glob (v := V.ref ad.PROBE) rfl T.v_PROBE rfl) pa_nil))))
      (pss_cons (ps_asg (peg_call G_turned (hr.mono (by decide)) hg (by rfl) T.g_turned T.F_turned.kp T.b_turned .nil pass0 (pa_cons (pv 1) (pa_cons (pe_fld (pv 0) rfl) pa_nil))) (pg_tup (n := 2) rfl (pgs_cons (pg_name (i := 2) sc_Motion_invert.nd rfl (Or.inl rfl)) (pgs_cons (pg_name (i := 3) sc_Motion_invert.nd rfl (Or.inl rfl)) pgs_nil))))
      (pss_one (ps_ret (peg_make T.k_Motion G_Motion_init (hr.mono (by decide)) hg (by rfl) T.g_Motion T.b_Motion_init .nil pass0 (pa_cons (pv 1) (pa_cons (pe_tup (pa_cons (pe_un un_neg (pv 2)) (pa_cons (pe_un un_neg (pv 3)) pa_nil))) pa_nil))))))), ?_⟩
    walk_at "go"
    refine r_kindF T.cl_Motion T.n_kind (by walk_at "up") ?_
    walk_at "go"
    refine do_turned hk (hP _) cm1 cm2 fun z1 H1 S1 i1 => ?_
    walk_at "go"
    refine do_kind_between (by walk_at "up") (hP _) c1 c2 hj g1 g2 ?_ fun H3 S3 => ?_
    · intro l' n' h' f1 f2
      exact invu_list _ hk _ h' _ hj f1 f2 g1 g2
    walk_at "go"
    refine r_shiftF T.cl_Motion T.n_shift (by walk_at "up") ?_
    walk_at "go"
    refine do_turned hj (by walk_at "up") (cm_of bx) (cm_of by') fun z4 H4 S4 i4 => ?_
    walk_at "go"
    exact do_Motion hj (by walk_at "up") fun z H' S h => q _ _ _ _ (by walk_at "st") e1 e2 h
theorem do_inv {C : Addr} {k : Str} {m : Mat} (h : MA C H v k m x y) (hx : x.natAbs < 10 ^ 62) (hy : y.natAbs < 10 ^ 62)
    (q : ∀ z j n H', Stp none H H' → mmul n m = mone → mmul m n = mone → MA C H' z j n (-mx n x y) (-my n x y) → Q z H') : rOwnInv C (sp_Motion_invert K C) E v H Q := by
  have h' := h
  obtain ⟨_, p, dx, u1, rfl, h1, _⟩ := h'
  exact ⟨p, dx, _, rfl, h1, _, k, m, x, y, rfl, h, hx, hy, q⟩
/-! ### Motion.by -/
theorem mb {k : Str} {m : Mat} (h : Kd k m) {B : Nat} (hx : x.natAbs ≤ B) (hy : y.natAbs ≤ B) : (mx m x y).natAbs ≤ B ∧ (my m x y).natAbs ≤ B := by
  have := h.bound x y
  omega
end
end Law

set_option Elab.async false
set_option linter.all false
set_option maxRecDepth 100000
set_option maxHeartbeats 4000000
namespace Law
open PySem PySem.Spec PyProof.Rows L2 MV
local macro_rules | `(tactic| walk_at "up") => `(tactic| first
  | assumption
  | (refine' IT.mv ?s ?g; (case s => assumption); (case g => walk_at "up"))
  | (refine' IT.k ?g; (case g => walk_at "up"))
  | (refine' IK.mv ?s ?g; (case s => assumption); (case g => walk_at "up"))
  | (refine' Tape.mvN ?s ?g; (case s => assumption); (case g => walk_at "up"))
  | (refine' Tape.mvS ?s ?g; (case s => assumption); (case g => walk_at "up"))
  | (refine' At.tup ?s ?g; (case s => assumption); (case g => walk_at "up"))
  | (refine' At.ins ?s ?g; (case s => assumption); (case g => walk_at "up"))
  | (refine' At.lst ?s ?g; (case s => assumption); (case g => walk_at "up"))
  | (refine' At.lstS ?s ?n ?g; (case s => assumption); (case n => assumption); (case g => walk_at "up"))
  | fail)
local macro_rules | `(tactic| walk_at "st") => `(tactic| first
  | assumption
  | exact Stp.refl _ _
  | (refine' Stp.w ?s; (case s => assumption))
  | (refine' Stp.trans ?g ?s; (case s => (first | assumption | (refine' Stp.w ?u; (case u => assumption)))); (case g => walk_at "st"))
  | fail)
local macro_rules | `(tactic| walk_at "bT") => `(tactic| first
  | decide
  | (simp only [Bool.not_eq_true', Bool.not_eq_false', decide_eq_true_eq, decide_eq_false_iff_not]; omega)
  | fail)
local macro_rules | `(tactic| walk_at "sd") => `(tactic| first | assumption | decide | omega | fail)
local macro_rules | `(tactic| walk_at "r") => `(tactic| first
  | (with_reducible refine r_seq ?_)
  | (with_reducible refine r_asg ?_)
  | ((with_reducible refine' r_var ?h ?k); (case h => rfl))
  | (with_reducible refine r_c ?_)
  | (with_reducible refine r_op ?_)
  | (with_reducible refine r_un ?_)
  | (with_reducible refine r_nil ?_)
  | (with_reducible refine r_cons ?_)
  | (with_reducible refine r_tup ?_)
  | (with_reducible refine r_lst ?_)
  | (with_reducible refine r_cbLen ?_)
  | (with_reducible refine r_cbInt ?_)
  | (with_reducible refine r_cbRepr ?_)
  | (with_reducible refine r_cbTup ?_)
  | (with_reducible refine r_cbLst ?_)
  | (with_reducible refine r_cb ?_)
  | (with_reducible refine r_prop ?_)
  | (with_reducible refine r_andV ?_)
  | (with_reducible refine r_orV ?_)
  | (with_reducible refine r_notV ?_)
  | (with_reducible refine r_chain ?_)
  | (with_reducible refine r_ifE ?_)
  | (with_reducible refine r_test ?_)
  | (with_reducible refine r_B ?_)
  | (with_reducible refine r_and ?_)
  | (with_reducible refine r_or ?_)
  | (with_reducible refine r_not ?_)
  | (with_reducible refine r_yes ?_)
  | (with_reducible refine r_k ?_)
  | (with_reducible refine r_kV ?_)
  | (with_reducible refine r_next ?_)
  | (with_reducible refine r_drop ?_)
  | (with_reducible refine r_ret ?_)
  | (with_reducible refine r_ifS ?_)
  | (with_reducible refine r_par ?_)
  | (with_reducible refine r_par1 ?_)
  | (with_reducible refine r_gname ?_)
  | (with_reducible refine r_gnil ?_)
  | (with_reducible refine r_gcons ?_)
  | ((with_reducible refine' r_unpack2 ?h ?k); (case h => walk_at "up"))
  | ((with_reducible refine' r_unpack3 ?h ?k); (case h => walk_at "up"))
  | (with_reducible refine r_add ?_)
  | (with_reducible refine r_sub ?_)
  | (with_reducible refine r_neg ?_)
  | ((with_reducible refine' r_mod ?h ?k); (case h => walk_at "sd"))
  | ((with_reducible refine' r_div ?h ?k); (case h => walk_at "sd"))
  | ((with_reducible refine' r_mul ?h ?k); (case h => walk_at "sd"))
  | ((with_reducible refine' r_mulW ?h ?k); (case h => walk_at "sd"))
  | ((with_reducible refine' r_pow ?h ?k); (case h => (show (0 : Int) ≤ _ ∧ _ ∧ _; decide)))
  | (with_reducible refine r_lt ?_)
  | (with_reducible refine r_le ?_)
  | (with_reducible refine r_gt ?_)
  | (with_reducible refine r_ge ?_)
  | (with_reducible refine r_eqI ?_)
  | (with_reducible refine r_neI ?_)
  | (with_reducible refine r_eqS ?_)
  | (with_reducible refine r_neS ?_)
  | ((with_reducible refine' r_eqT ?h ?g ?k); (case h => walk_at "up"); (case g => walk_at "up"))
  | ((with_reducible refine' r_neT ?h ?g ?k); (case h => walk_at "up"); (case g => walk_at "up"))
  | ((with_reducible refine' r_ix0 ?h ?k); (case h => walk_at "up"))
  | ((with_reducible refine' r_ix1 ?h ?k); (case h => walk_at "up"))
  | ((with_reducible refine' r_ix2 ?h ?k); (case h => walk_at "up"))
  | (with_reducible refine r_newI2 (fun v H2 S I => ?_))
  | (with_reducible refine r_newI3 (fun v H2 S I => ?_))
  | (with_reducible refine r_newL1 (fun p H2 S hp np => ?_))
  | (with_reducible refine r_newL2 (fun p H2 S hp np => ?_))
  | (with_reducible refine r_newL3 (fun p H2 S hp np => ?_))
  | (with_reducible refine r_T ?_)
  | (with_reducible refine r_F ?_)
  | fail)
local macro_rules | `(tactic| walk_at "go") => `(tactic| repeat (walk_at "r"))
local macro_rules | `(tactic| walk_at "r") => `(tactic| first
  | (with_reducible refine r_call0 ?_)
  | (with_reducible refine r_meth0 ?_)
  | (with_reducible refine r_make0 ?_)
  | (with_reducible refine r_isiII ?_)
  | (with_reducible refine r_isiIB ?_)
  | ((with_reducible refine' r_isiTT ?h ?k); (case h => walk_at "up"))
  | ((with_reducible refine' r_len2 ?h ?k); (case h => walk_at "up"))
  | ((with_reducible refine' r_len3 ?h ?k); (case h => walk_at "up"))
  | ((with_reducible refine' r_lenL ?h ?k); (case h => walk_at "up"))
  | (with_reducible refine r_int1 ?_)
  | (with_reducible refine r_int1B ?_)
  | (with_reducible refine r_nT ?_)
  | (with_reducible refine r_nF ?_)
  | (with_reducible refine r_gcd ?_)
  | (with_reducible refine r_gsub ?_)
  | (with_reducible refine r_fld ?_)
  | (with_reducible refine r_p6 ?_)
  | (with_reducible refine r_p9 ?_)
  | (with_reducible refine r_p10 ?_)
  | (with_reducible refine r_p11 ?_)
  | (with_reducible refine r_p12 ?_)
  | (with_reducible refine r_p18 ?_)
  | (with_reducible refine r_p20 ?_)
  | (with_reducible refine r_p26 ?_)
  | (with_reducible refine r_p27 ?_)
  | (with_reducible refine r_p30 ?_)
  | ((with_reducible refine' r_iF ?h ?k); (case h => walk_at "bT"))
  | ((with_reducible refine' r_iT ?h ?k); (case h => walk_at "bT"))
  | (with_reducible refine r_sfld ?_)
  | (with_reducible refine r_sl ?_)
  | (with_reducible refine r_noPart ?_)
  | (with_reducible refine r_part ?_)
  | (with_reducible refine r_pk ?_)
  | ((with_reducible refine' r_unl2 ?h ?k); (case h => walk_at "up"))
  | ((with_reducible refine' r_ixLi ?h ?h0 ?hn ?k); (case h => walk_at "up"); (case h0 => walk_at "sd"); (case hn => rfl))
  | fail)

local macro_rules | `(tactic| walk_at "r") => `(tactic| with_reducible refine do_is_integer ?_)
local macro_rules | `(tactic| walk_at "r") => `(tactic| first | ((with_reducible refine' do_is_place ?h ?k); (case h => walk_at "up")) | fail)
local macro_rules | `(tactic| walk_at "r") => `(tactic| first | ((with_reducible refine' do_check_place ?h ?k); (case h => walk_at "up")) | fail)
local macro_rules | `(tactic| walk_at "r") => `(tactic| first | ((with_reducible refine' do_are_numbers ?h ?k); (case h => assumption)) | fail)
local macro_rules | `(tactic| walk_at "up") => `(tactic| first | (refine' NA.mv ?s ?g; (case s => assumption); (case g => walk_at "up")) | fail)
local macro_rules | `(tactic| walk_at "r") => `(tactic| first
  | ((with_reducible refine' do_Net_size ?h ?k); (case h => walk_at "up"))
  | ((with_reducible refine' do_meth ?h ?hm ?k); (case h => walk_at "up"); (case hm => decide +kernel))
  | fail)

section
variable {P : Program} {w : World} {K : PySem.W.Frag} {mg : Str → Option Value} {base : Heap} {ad : Ad} {H : Hp} {Q : VK} {E : XK} {i j x y : Int} {v : V}
theorem r_inT {p : Addr} {z : V} {xs : List V} (h : H p = some (.lst xs)) (f : flatV z = true) (g : xs.all flatV = true) (e : inV z xs = true) (q : Q (.bl true) H) : rIn K false z (.ref p) H Q :=
  ⟨p, xs, rfl, .inl (SqL.of h), f, g, by rw [e]; exact q⟩
theorem r_inF {p : Addr} {z : V} {xs : List V} (h : H p = some (.lst xs)) (f : flatV z = true) (g : xs.all flatV = true) (e : inV z xs = false) (q : Q (.bl false) H) : rIn K false z (.ref p) H Q :=
  ⟨p, xs, rfl, .inl (SqL.of h), f, g, by rw [e]; exact q⟩
theorem IT.cast {a b c d : Int} (h : IT H v [a, b]) (e1 : a = c) (e2 : b = d) : IT H v [c, d] := by rw [← e1, ← e2]; exact h
local macro_rules | `(tactic| walk_at "bT") => `(tactic| first | decide +kernel | fail)
local macro_rules | `(tactic| walk_at "r") => `(tactic| first
  | ((with_reducible refine' r_inT ?h ?f ?g ?e ?k); (case h => walk_at "up"); (case f => rfl); (case g => rfl); (case e => decide +kernel))
  | ((with_reducible refine' r_inF ?h ?f ?g ?e ?k); (case h => walk_at "up"); (case f => rfl); (case g => rfl); (case e => decide +kernel))
  | fail)
def sp_law_turned (K : PySem.W.Frag) : Sp := fun vs H Q _ => ∃ k m v x y, vs = [.str k, v] ∧ Kd k m ∧ IK K H v [x, y] ∧ ∀ z H', Stp none H H' → IT H' z [mx m x y, my m x y] → Q z H'
theorem do_law_turned {k : Str} {m : Mat} (h : Kd k m) (hv : IK K H v [x, y]) (q : ∀ z H', Stp none H H' → IT H' z [mx m x y, my m x y] → Q z H') :
    sp_law_turned K [.str k, v] H Q E := ⟨k, m, v, x, y, rfl, h, hv, q⟩
theorem ok_law_turned (T : Txt w K mg ad) : FnG P w K mg base CX0 1 ad.law_turned ad.law_turned_d P_law_turned (sp_law_turned K) := by
  refine Fun.g T.F_law_turned sc_law_turned (fun vs H Q E h => ?_) (fun cdv A outer s H vs Q E hr hg h => ?_)
  · obtain ⟨k, m, v, x, y, rfl, _⟩ := h
    rfl
  · obtain ⟨k, m, v, x, y, rfl, hk, hv, q⟩ := h
    refine ⟨_, (pss_cons (ps_asg (pv 1) (pg_tup (n := 2) rfl (pgs_cons (pg_name (i := 2) sc_law_turned.nd rfl (Or.inl rfl)) (pgs_cons (pg_name (i := 3) sc_law_turned.nd rfl (Or.inl rfl)) pgs_nil))))
      (pss_cons (ps_if (pt_cmpR op_in_seq (pv 0) (pe_lst (pa_cons pe_str (pa_cons pe_str pa_nil))) (by rfl))
      (pss_one (ps_ret (pe_ifExp (pt_cmpR op_eq (pv 0) pe_str (nomark _)) (pe_tup (pa_cons (pv 2) (pa_cons (pv 3) pa_nil))) (pe_tup (pa_cons (pv 2) (pa_cons (pe_op op_sub pe_int (pv 3)) pa_nil)))))) pss_nil)
      (pss_cons (ps_if (pt_cmpR op_in_seq (pv 0) (pe_lst (pa_cons pe_str (pa_cons pe_str pa_nil))) (by rfl))
      (pss_one (ps_ret (pe_ifExp (pt_cmpR op_eq (pv 0) pe_str (nomark _)) (pe_tup (pa_cons (pe_op op_sub pe_int (pv 3)) (pa_cons (pv 2) pa_nil))) (pe_tup (pa_cons (pv 3) (pa_cons (pe_op op_sub pe_int (pv 2)) pa_nil)))))) pss_nil)
      (pss_cons (ps_if (pt_cmpR op_in_seq (pv 0) (pe_lst (pa_cons pe_str (pa_cons pe_str pa_nil))) (by rfl))
      (pss_one (ps_ret (pe_ifExp (pt_cmpR op_eq (pv 0) pe_str (nomark _)) (pe_tup (pa_cons (pe_op op_sub pe_int (pv 2)) (pa_cons (pe_op op_sub pe_int (pv 3)) pa_nil))) (pe_tup (pa_cons (pe_op op_sub pe_int (pv 2)) (pa_cons (pv 3) pa_nil)))))) pss_nil)
      (pss_one (ps_ret (pe_ifExp (pt_cmpR op_eq (pv 0) pe_str (nomark _)) (pe_tup (pa_cons (pv 3) (pa_cons (pv 2) pa_nil))) (pe_tup (pa_cons (pe_op op_sub pe_int (pv 3)) (pa_cons (pe_op op_sub pe_int (pv 2)) pa_nil)))))))))), ?_⟩
    rcases hk.cases with ⟨rfl, rfl⟩ | ⟨rfl, rfl⟩ | ⟨rfl, rfl⟩ | ⟨rfl, rfl⟩ | ⟨rfl, rfl⟩ | ⟨rfl, rfl⟩ | ⟨rfl, rfl⟩ | ⟨rfl, rfl⟩ <;>
      (walk_at "go"; exact q _ _ (by walk_at "st") (IT.cast (by walk_at "up") (by unfold mx; dsimp only; omega) (by unfold my; dsimp only; omega)))
/-- the list of the kinds -/
def KL (H : Hp) (v : V) : Prop := ∃ p, v = .ref p ∧ H p = some (.lst (KNS.map fun t => V.str t.1))
def sp_law_kinds : Sp := fun vs H Q _ => vs = [] ∧ ∀ p H', Stp none H H' → H' p = some (.lst (KNS.map fun t => V.str t.1)) → H p = none → Q (.ref p) H'
theorem do_law_kinds (q : ∀ p H', Stp none H H' → H' p = some (.lst (KNS.map fun t => V.str t.1)) → H p = none → Q (.ref p) H') : sp_law_kinds [] H Q E := ⟨rfl, q⟩
theorem ok_law_kinds (T : Txt w K mg ad) : FnG P w K mg base CX0 1 ad.law_kinds ad.law_kinds_d P_law_kinds sp_law_kinds := by
  refine Fun.g T.F_law_kinds sc_law_kinds (fun vs H Q E h => ?_) (fun cdv A outer s H vs Q E hr hg h => ?_)
  · obtain ⟨rfl, _⟩ := h
    rfl
  · obtain ⟨rfl, q⟩ := h
    refine ⟨_, (pss_one (ps_ret (pe_lst (pa_cons pe_str (pa_cons pe_str (pa_cons pe_str (pa_cons pe_str (pa_cons pe_str (pa_cons pe_str (pa_cons pe_str (pa_cons pe_str pa_nil))))))))))), ?_⟩
    walk_at "go"
    exact r_newL (sz100 (Nat.le_of_ble_eq_true rfl)) fun p H2 S2 hp np => q p H2 S2 hp np
theorem kns_at {n : Nat} (h : n < 8) : ∃ k m, (KNS.map fun t => V.str t.1)[n]? = some (V.str k) ∧ Kd k m := by
  have : n < KNS.length := h
  refine ⟨KNS[n].1, KNS[n].2, by rw [List.getElem?_map, List.getElem?_eq_getElem this]; rfl, ?_⟩
  exact List.getElem_mem this
end
end Law

set_option Elab.async false
set_option linter.all false
set_option maxRecDepth 100000
set_option maxHeartbeats 4000000
namespace Law
open PySem PySem.Spec PyProof.Rows L2 MV
local macro_rules | `(tactic| walk_at "up") => `(tactic| first
  | assumption
  | (refine' IT.mv ?s ?g; (case s => assumption); (case g => walk_at "up"))
  | (refine' IT.k ?g; (case g => walk_at "up"))
  | (refine' IK.mv ?s ?g; (case s => assumption); (case g => walk_at "up"))
  | (refine' Tape.mvN ?s ?g; (case s => assumption); (case g => walk_at "up"))
  | (refine' Tape.mvS ?s ?g; (case s => assumption); (case g => walk_at "up"))
  | (refine' At.tup ?s ?g; (case s => assumption); (case g => walk_at "up"))
  | (refine' At.ins ?s ?g; (case s => assumption); (case g => walk_at "up"))
  | (refine' At.lst ?s ?g; (case s => assumption); (case g => walk_at "up"))
  | (refine' At.lstS ?s ?n ?g; (case s => assumption); (case n => assumption); (case g => walk_at "up"))
  | fail)
local macro_rules | `(tactic| walk_at "st") => `(tactic| first
  | assumption
  | exact Stp.refl _ _
  | (refine' Stp.w ?s; (case s => assumption))
  | (refine' Stp.trans ?g ?s; (case s => (first | assumption | (refine' Stp.w ?u; (case u => assumption)))); (case g => walk_at "st"))
  | fail)
local macro_rules | `(tactic| walk_at "bT") => `(tactic| first
  | decide
  | (simp only [Bool.not_eq_true', Bool.not_eq_false', decide_eq_true_eq, decide_eq_false_iff_not]; omega)
  | fail)
local macro_rules | `(tactic| walk_at "sd") => `(tactic| first | assumption | decide | omega | fail)
local macro_rules | `(tactic| walk_at "r") => `(tactic| first
  | (with_reducible refine r_seq ?_)
  | (with_reducible refine r_asg ?_)
  | ((with_reducible refine' r_var ?h ?k); (case h => rfl))
  | (with_reducible refine r_c ?_)
  | (with_reducible refine r_op ?_)
  | (with_reducible refine r_un ?_)
  | (with_reducible refine r_nil ?_)
  | (with_reducible refine r_cons ?_)
  | (with_reducible refine r_tup ?_)
  | (with_reducible refine r_lst ?_)
  | (with_reducible refine r_cbLen ?_)
  | (with_reducible refine r_cbInt ?_)
  | (with_reducible refine r_cbRepr ?_)
  | (with_reducible refine r_cbTup ?_)
  | (with_reducible refine r_cbLst ?_)
  | (with_reducible refine r_cb ?_)
  | (with_reducible refine r_prop ?_)
  | (with_reducible refine r_andV ?_)
  | (with_reducible refine r_orV ?_)
  | (with_reducible refine r_notV ?_)
  | (with_reducible refine r_chain ?_)
  | (with_reducible refine r_ifE ?_)
  | (with_reducible refine r_test ?_)
  | (with_reducible refine r_B ?_)
  | (with_reducible refine r_and ?_)
  | (with_reducible refine r_or ?_)
  | (with_reducible refine r_not ?_)
  | (with_reducible refine r_yes ?_)
  | (with_reducible refine r_k ?_)
  | (with_reducible refine r_kV ?_)
  | (with_reducible refine r_next ?_)
  | (with_reducible refine r_drop ?_)
  | (with_reducible refine r_ret ?_)
  | (with_reducible refine r_ifS ?_)
  | (with_reducible refine r_par ?_)
  | (with_reducible refine r_par1 ?_)
  | (with_reducible refine r_gname ?_)
  | (with_reducible refine r_gnil ?_)
  | (with_reducible refine r_gcons ?_)
  | ((with_reducible refine' r_unpack2 ?h ?k); (case h => walk_at "up"))
  | ((with_reducible refine' r_unpack3 ?h ?k); (case h => walk_at "up"))
  | (with_reducible refine r_add ?_)
  | (with_reducible refine r_sub ?_)
  | (with_reducible refine r_neg ?_)
  | ((with_reducible refine' r_mod ?h ?k); (case h => walk_at "sd"))
  | ((with_reducible refine' r_div ?h ?k); (case h => walk_at "sd"))
  | ((with_reducible refine' r_mul ?h ?k); (case h => walk_at "sd"))
  | ((with_reducible refine' r_mulW ?h ?k); (case h => walk_at "sd"))
  | ((with_reducible refine' r_pow ?h ?k); (case h => (show (0 : Int) ≤ _ ∧ _ ∧ _; decide)))
  | (with_reducible refine r_lt ?_)
  | (with_reducible refine r_le ?_)
  | (with_reducible refine r_gt ?_)
  | (with_reducible refine r_ge ?_)
  | (with_reducible refine r_eqI ?_)
  | (with_reducible refine r_neI ?_)
  | (with_reducible refine r_eqS ?_)
  | (with_reducible refine r_neS ?_)
  | ((with_reducible refine' r_eqT ?h ?g ?k); (case h => walk_at "up"); (case g => walk_at "up"))
  | ((with_reducible refine' r_neT ?h ?g ?k); (case h => walk_at "up"); (case g => walk_at "up"))
  | ((with_reducible refine' r_ix0 ?h ?k); (case h => walk_at "up"))
  | ((with_reducible refine' r_ix1 ?h ?k); (case h => walk_at "up"))
  | ((with_reducible refine' r_ix2 ?h ?k); (case h => walk_at "up"))
  | (with_reducible refine r_newI2 (fun v H2 S I => ?_))
  | (with_reducible refine r_newI3 (fun v H2 S I => ?_))
  | (with_reducible refine r_newL1 (fun p H2 S hp np => ?_))
  | (with_reducible refine r_newL2 (fun p H2 S hp np => ?_))
  | (with_reducible refine r_newL3 (fun p H2 S hp np => ?_))
  | (with_reducible refine r_T ?_)
  | (with_reducible refine r_F ?_)
  | fail)
local macro_rules | `(tactic| walk_at "go") => `(tactic| repeat (walk_at "r"))
local macro_rules | `(tactic| walk_at "r") => `(tactic| first
  | (with_reducible refine r_call0 ?_)
  | (with_reducible refine r_meth0 ?_)
  | (with_reducible refine r_make0 ?_)
  | (with_reducible refine r_isiII ?_)
  | (with_reducible refine r_isiIB ?_)
  | ((with_reducible refine' r_isiTT ?h ?k); (case h => walk_at "up"))
  | ((with_reducible refine' r_len2 ?h ?k); (case h => walk_at "up"))
  | ((with_reducible refine' r_len3 ?h ?k); (case h => walk_at "up"))
  | ((with_reducible refine' r_lenL ?h ?k); (case h => walk_at "up"))
  | (with_reducible refine r_int1 ?_)
  | (with_reducible refine r_int1B ?_)
  | (with_reducible refine r_nT ?_)
  | (with_reducible refine r_nF ?_)
  | (with_reducible refine r_gcd ?_)
  | (with_reducible refine r_gsub ?_)
  | (with_reducible refine r_fld ?_)
  | (with_reducible refine r_p6 ?_)
  | (with_reducible refine r_p9 ?_)
  | (with_reducible refine r_p10 ?_)
  | (with_reducible refine r_p11 ?_)
  | (with_reducible refine r_p12 ?_)
  | (with_reducible refine r_p18 ?_)
  | (with_reducible refine r_p20 ?_)
  | (with_reducible refine r_p26 ?_)
  | (with_reducible refine r_p27 ?_)
  | (with_reducible refine r_p30 ?_)
  | ((with_reducible refine' r_iF ?h ?k); (case h => walk_at "bT"))
  | ((with_reducible refine' r_iT ?h ?k); (case h => walk_at "bT"))
  | (with_reducible refine r_sfld ?_)
  | (with_reducible refine r_sl ?_)
  | (with_reducible refine r_noPart ?_)
  | (with_reducible refine r_part ?_)
  | (with_reducible refine r_pk ?_)
  | ((with_reducible refine' r_unl2 ?h ?k); (case h => walk_at "up"))
  | ((with_reducible refine' r_ixLi ?h ?h0 ?hn ?k); (case h => walk_at "up"); (case h0 => walk_at "sd"); (case hn => rfl))
  | fail)

local macro_rules | `(tactic| walk_at "r") => `(tactic| with_reducible refine do_is_integer ?_)
local macro_rules | `(tactic| walk_at "r") => `(tactic| first | ((with_reducible refine' do_is_place ?h ?k); (case h => walk_at "up")) | fail)
local macro_rules | `(tactic| walk_at "r") => `(tactic| first | ((with_reducible refine' do_check_place ?h ?k); (case h => walk_at "up")) | fail)
local macro_rules | `(tactic| walk_at "r") => `(tactic| first | ((with_reducible refine' do_are_numbers ?h ?k); (case h => assumption)) | fail)
local macro_rules | `(tactic| walk_at "up") => `(tactic| first | (refine' NA.mv ?s ?g; (case s => assumption); (case g => walk_at "up")) | fail)
local macro_rules | `(tactic| walk_at "r") => `(tactic| first
  | ((with_reducible refine' do_Net_size ?h ?k); (case h => walk_at "up"))
  | ((with_reducible refine' do_meth ?h ?hm ?k); (case h => walk_at "up"); (case hm => decide +kernel))
  | fail)

local macro_rules | `(tactic| walk_at "up") => `(tactic| first | (refine' MA.mv ?s ?g; (case s => assumption); (case g => walk_at "up")) | fail)
local macro_rules | `(tactic| walk_at "r") => `(tactic| first
  | ((with_reducible refine' do_Motion_kind ?h ?k); (case h => walk_at "up"))
  | (with_reducible refine r_lcL ?_)
  | fail)
section
variable {P : Program} {w : World} {K : PySem.W.Frag} {mg : Str → Option Value} {base : Heap} {ad : Ad} {H : Hp} {Q : VK} {E : XK} {i j x y : Int} {v : V}
/-! ### net * motion -/
def sp_Net_mul (K : PySem.W.Frag) (C' D' : Addr) : Sp := fun vs H Q _ => ∃ v u a b c k m x y, vs = [v, u] ∧ NA C' H v a b c ∧ MA D' H u k m x y ∧ Lb Z1 a c ∧
  ∀ z a' b' c' H', Stp none H H' → NA C' H' z a' b' c' → Im m a b c a' b' c' → a' * c' = a * c → Q z H'
theorem ok_Net_mul (T : Txt w K mg ad) : FnG P w K mg base CX0 5 ad.Net_mul ad.Net_mul_d P_Net_mul (sp_Net_mul K ad.C_Net ad.C_Motion) := by
  have G_two_shifts := ok_two_shifts (P := P) (w := w) (base := base) T
  have G_spanned := ok_spanned (P := P) (w := w) (base := base) T
  have G_turned := ok_turned (P := P) (w := w) (base := base) T
  have G_Motion_kind := ok_Motion_kind (P := P) (w := w) (base := base) T
  have G_Net_init := ok_Net_init (P := P) (w := w) (base := base) T
  refine Fun.gn T.F_Net_mul sc_Net_mul (fun vs H Q E h => ?_) (fun cdv A outer s H vs Q E hr hg h => ?_)
  · obtain ⟨v, u, a, b, c, k, m, x, y, rfl, _⟩ := h
    rfl
  · obtain ⟨v, u, a, b, c, k, m, x, y, rfl, hv, hu, ⟨l1, l2⟩, q⟩ := h
    have hk := hu.1
    have n := hv.1
    obtain ⟨n1, n2, n3, n4, n5, n6⟩ := n
    have hv' := hv
    obtain ⟨_, p, dx, w1, rfl, hp, hw⟩ := hv'
    have z60 : (Z1 : Nat) = 10 ^ 60 := rfl
    have z200 : (Z2 : Nat) = 10 ^ 200 := rfl
    have b1 := mb hk (x := a) (y := 0) (B := 10 ^ 60) (by omega) (by omega)
    have b2 := mb hk (x := b) (y := c) (B := 10 ^ 60) (by omega) (by omega)
    have ca : Cm a := by unfold Cm; omega
    have cb : Cm b := by unfold Cm; omega
    have cc : Cm c := by unfold Cm; omega
    have c0 : Cm 0 := by unfold Cm; omega
    refine ⟨_, (pss_cons (ps_asg (peg_call G_spanned (hr.mono (by decide)) hg (by rfl) T.g_spanned T.F_spanned.kp T.b_spanned .nil pass0 (pa_cons (pe_lc (own := [("shift", 5)]) (g := gName 5) (tt := tYes) rfl sc_Net_mul.nd (pi_list (peg_call G_two_shifts (hr.mono (by decide)) hg (by rfl) T.g_two_shifts T.F_two_shifts.kp T.b_two_shifts .nil pass0 (pa_cons (pe_fld (pv 0) rfl) pa_nil))) (blkOk_by (own := [("shift", 5)]) (N := N_Net_mul) (sc := defScope s_Net_mul) (by decide +kernel)) (fun _ _ _ _ _ => (pg_name (i := 5) sc_Net_mul.nd rfl (Or.inl rfl))) (fun _ _ _ _ _ => pts_nil) (fun _ _ _ _ _ => (peg_call G_turned (hr.mono (by decide)) hg (by rfl) T.g_turned T.F_turned.kp T.b_turned .nil pass0 (pa_cons (peg_prop (pv 1) T.cl_Motion T.p_Motion_kind G_Motion_kind (hr.mono (by decide)) hg T.b_Motion_kind .nil pass0) (pa_cons (pv 5) pa_nil)))) ) pa_nil)) (pg_tup (n := 3) rfl (pgs_cons (pg_name (i := 2) sc_Net_mul.nd rfl (Or.inl rfl)) (pgs_cons (pg_name (i := 3) sc_Net_mul.nd rfl (Or.inl rfl)) (pgs_cons (pg_name (i := 4) sc_Net_mul.nd rfl (Or.inl rfl)) pgs_nil)))))
      (pss_one (ps_ret (peg_make T.k_Net G_Net_init (hr.mono (by decide)) hg (by rfl) T.g_Net T.b_Net_init .nil pass0 (pa_cons (pv 2) (pa_cons (pv 3) (pa_cons (pv 4) pa_nil))))))), ?_⟩
    walk_at "go"
    refine r_numF T.cl_Net T.n_Net_numbers hp ?_
    walk_at "go"
    refine do_two_shifts hw fun p1 H1 y1 y2 S1 hp1 i1 i2 => ?_
    have hu1 := hu.mv S1
    refine lcl_ok hp1 fun D hD => ⟨fun i H' => (∀ b o, H1 b = some o → H' b = some o) ∧ ∃ zs, H' D = some (.lst zs) ∧ zs.length = i ∧ ∀ (j : Nat) (z : V), zs[j]? = some z → ∃ s, (img2 m a b c)[j]? = some s ∧ IT H' z [s.1, s.2],
      ⟨lc_keep hD, [], upd_same, rfl, fun j z h => by cases h⟩, fun i H' _ pv => pv.1 _ _ hp1, fun i z H' hz pv => ?_, fun H' pv => ?_⟩
    · obtain ⟨pk, zs, pz, pl, pi⟩ := pv
      have st : Stp none H1 H' := Stp.of pk none
      have hu2 := hu1.mv st
      suffices go : ∃ X Y, IT H' z [X, Y] ∧ Cm X ∧ Cm Y ∧ (img2 m a b c)[i]? = some (mx m X Y, my m X Y) by
        obtain ⟨X, Y, iz, cX, cY, hs⟩ := go
        walk_at "go"
        refine ⟨rfl, ?_⟩
        walk_at "go"
        refine do_turned hk iz.k cX cY fun w5 J7 U7 g5 => ?_
        have pz7 := At.lst U7 pz
        have ln : zs.length < sizeLine := by
          have := (List.getElem?_eq_some_iff.mp hz).1
          simp only [List.length_cons, List.length_nil] at this
          exact Nat.lt_of_lt_of_le (show zs.length < 100 by omega) (by decide)
        refine ⟨zs, pz7, ln, fun b o e => ?_, zs ++ [w5], upd_same, by rw [List.length_append, pl]; rfl, fun j x hx => ?_⟩
        · rw [upd_ne (ne_of_none e hD)]
          exact U7.all _ _ (pk _ _ e)
        · by_cases hj : j < zs.length
          · rw [List.getElem?_append_left hj] at hx
            obtain ⟨p', e1, e2⟩ := pi j x hx
            exact ⟨p', e1, (e2.mv U7).put pz7⟩
          · rw [List.getElem?_append_right (by omega)] at hx
            obtain ⟨h0, hx⟩ := List.getElem?_eq_some_iff.mp hx
            have h0' : j - zs.length = 0 := by simp only [List.length_cons, List.length_nil] at h0; omega
            simp only [h0', List.getElem_cons_zero] at hx
            subst hx
            have ej : j = i := by omega
            subst ej
            exact ⟨_, hs, IT.put g5 pz7⟩
      match i, hz with
      | 0, hz => cases hz; exact ⟨a, 0, i1.mv st, ca, c0, rfl⟩
      | 1, hz => cases hz; exact ⟨b, c, i2.mv st, cb, cc, rfl⟩
    · obtain ⟨pk, zs, pz, pl, pi⟩ := pv
      have st : Stp none H1 H' := Stp.of pk none
      match zs, pl, pz, pi with
      | [x1, x2], _, pz, pi =>
        obtain ⟨s1, e1, j1⟩ := pi 0 x1 rfl
        cases e1
        obtain ⟨s2, e2, j2⟩ := pi 1 x2 rfl
        cases e2
        walk_at "go"
        refine do_spanned (ss := img2 m a b c) (C := Z2) (B := Z2) pz (.cons (s := (mx m a 0, my m a 0)) j1 (.cons (s := (mx m b c, my m b c)) j2 .nil))
          (.cons (by simp only []; omega) (by simp only []; omega) (.cons (by simp only []; omega) (by simp only []; omega) .nil)) (fbz (Nat.le_of_ble_eq_true rfl)) fun z a' b' c' H4 S4 iz nb => ?_
        have im := im_of hk nb.ns
        obtain ⟨p1', p2', p3'⟩ := im_pos hk (by omega) (by omega) nb.ns.nf im
        have b0 := nb.ns.nf.b0 (by omega)
        have sz : (a * c).natAbs ≤ 10 ^ 60 * 10 ^ 60 := nab (by omega) (by omega)
        have q1 := Int.mul_le_mul_of_nonneg_left (show 1 ≤ c' by omega) (show 0 ≤ a' by omega)
        have q2 := Int.mul_le_mul_of_nonneg_right (show 1 ≤ a' by omega) (show 0 ≤ c' by omega)
        have q3 := z2_n1
        walk_at "go"
        exact do_Net ⟨by omega, by omega, b0.1, b0.2, by omega, by omega⟩ fun z H' S h => q _ _ _ _ _ (by walk_at "st") h im p3'
theorem do_nmul {C' D' : Addr} {u : V} {a b c : Int} {k : Str} {m : Mat} (ic : IsC K D') (cl : Cls K D') (h : NA C' H v a b c) (h2 : MA D' H u k m x y) (l : Lb Z1 a c)
    (q : ∀ z a' b' c' H', Stp none H H' → NA C' H' z a' b' c' → Im m a b c a' b' c' → a' * c' = a * c → Q z H') : rOwnTwo K C' D' (sp_Net_mul K C' D') E v u H Q := by
  have h' := h
  have h2' := h2
  obtain ⟨_, p, dx, u1, rfl, h1, _⟩ := h'
  obtain ⟨_, p', dx', u2, rfl, h3, _⟩ := h2'
  exact ⟨p, dx, _, rfl, h1, ic.ty cl h3, _, _, a, b, c, k, m, x, y, rfl, h, h2, l, q⟩
end
end Law

set_option Elab.async false
set_option linter.all false
set_option maxRecDepth 100000
set_option maxHeartbeats 4000000
namespace Law
open PySem PySem.Spec PyProof.Rows L2 MV
local macro_rules | `(tactic| walk_at "up") => `(tactic| first
  | assumption
  | (refine' IT.mv ?s ?g; (case s => assumption); (case g => walk_at "up"))
  | (refine' IT.k ?g; (case g => walk_at "up"))
  | (refine' IK.mv ?s ?g; (case s => assumption); (case g => walk_at "up"))
  | (refine' Tape.mvN ?s ?g; (case s => assumption); (case g => walk_at "up"))
  | (refine' Tape.mvS ?s ?g; (case s => assumption); (case g => walk_at "up"))
  | (refine' At.tup ?s ?g; (case s => assumption); (case g => walk_at "up"))
  | (refine' At.ins ?s ?g; (case s => assumption); (case g => walk_at "up"))
  | (refine' At.lst ?s ?g; (case s => assumption); (case g => walk_at "up"))
  | (refine' At.lstS ?s ?n ?g; (case s => assumption); (case n => assumption); (case g => walk_at "up"))
  | fail)
local macro_rules | `(tactic| walk_at "st") => `(tactic| first
  | assumption
  | exact Stp.refl _ _
  | (refine' Stp.w ?s; (case s => assumption))
  | (refine' Stp.trans ?g ?s; (case s => (first | assumption | (refine' Stp.w ?u; (case u => assumption)))); (case g => walk_at "st"))
  | fail)
local macro_rules | `(tactic| walk_at "bT") => `(tactic| first
  | decide
  | (simp only [Bool.not_eq_true', Bool.not_eq_false', decide_eq_true_eq, decide_eq_false_iff_not]; omega)
  | fail)
local macro_rules | `(tactic| walk_at "sd") => `(tactic| first | assumption | decide | omega | fail)
local macro_rules | `(tactic| walk_at "r") => `(tactic| first
  | (with_reducible refine r_seq ?_)
  | (with_reducible refine r_asg ?_)
  | ((with_reducible refine' r_var ?h ?k); (case h => rfl))
  | (with_reducible refine r_c ?_)
  | (with_reducible refine r_op ?_)
  | (with_reducible refine r_un ?_)
  | (with_reducible refine r_nil ?_)
  | (with_reducible refine r_cons ?_)
  | (with_reducible refine r_tup ?_)
  | (with_reducible refine r_lst ?_)
  | (with_reducible refine r_cbLen ?_)
  | (with_reducible refine r_cbInt ?_)
  | (with_reducible refine r_cbRepr ?_)
  | (with_reducible refine r_cbTup ?_)
  | (with_reducible refine r_cbLst ?_)
  | (with_reducible refine r_cb ?_)
  | (with_reducible refine r_prop ?_)
  | (with_reducible refine r_andV ?_)
  | (with_reducible refine r_orV ?_)
  | (with_reducible refine r_notV ?_)
  | (with_reducible refine r_chain ?_)
  | (with_reducible refine r_ifE ?_)
  | (with_reducible refine r_test ?_)
  | (with_reducible refine r_B ?_)
  | (with_reducible refine r_and ?_)
  | (with_reducible refine r_or ?_)
  | (with_reducible refine r_not ?_)
  | (with_reducible refine r_yes ?_)
  | (with_reducible refine r_k ?_)
  | (with_reducible refine r_kV ?_)
  | (with_reducible refine r_next ?_)
  | (with_reducible refine r_drop ?_)
  | (with_reducible refine r_ret ?_)
  | (with_reducible refine r_ifS ?_)
  | (with_reducible refine r_par ?_)
  | (with_reducible refine r_par1 ?_)
  | (with_reducible refine r_gname ?_)
  | (with_reducible refine r_gnil ?_)
  | (with_reducible refine r_gcons ?_)
  | ((with_reducible refine' r_unpack2 ?h ?k); (case h => walk_at "up"))
  | ((with_reducible refine' r_unpack3 ?h ?k); (case h => walk_at "up"))
  | (with_reducible refine r_add ?_)
  | (with_reducible refine r_sub ?_)
  | (with_reducible refine r_neg ?_)
  | ((with_reducible refine' r_mod ?h ?k); (case h => walk_at "sd"))
  | ((with_reducible refine' r_div ?h ?k); (case h => walk_at "sd"))
  | ((with_reducible refine' r_mul ?h ?k); (case h => walk_at "sd"))
  | ((with_reducible refine' r_mulW ?h ?k); (case h => walk_at "sd"))
  | ((with_reducible refine' r_pow ?h ?k); (case h => (show (0 : Int) ≤ _ ∧ _ ∧ _; decide)))
  | (with_reducible refine r_lt ?_)
  | (with_reducible refine r_le ?_)
  | (with_reducible refine r_gt ?_)
  | (with_reducible refine r_ge ?_)
  | (with_reducible refine r_eqI ?_)
  | (with_reducible refine r_neI ?_)
  | (with_reducible refine r_eqS ?_)
  | (with_reducible refine r_neS ?_)
  | ((with_reducible refine' r_eqT ?h ?g ?k); (case h => walk_at "up"); (case g => walk_at "up"))
  | ((with_reducible refine' r_neT ?h ?g ?k); (case h => walk_at "up"); (case g => walk_at "up"))
  | ((with_reducible refine' r_ix0 ?h ?k); (case h => walk_at "up"))
  | ((with_reducible refine' r_ix1 ?h ?k); (case h => walk_at "up"))
  | ((with_reducible refine' r_ix2 ?h ?k); (case h => walk_at "up"))
  | (with_reducible refine r_newI2 (fun v H2 S I => ?_))
  | (with_reducible refine r_newI3 (fun v H2 S I => ?_))
  | (with_reducible refine r_newL1 (fun p H2 S hp np => ?_))
  | (with_reducible refine r_newL2 (fun p H2 S hp np => ?_))
  | (with_reducible refine r_newL3 (fun p H2 S hp np => ?_))
  | (with_reducible refine r_T ?_)
  | (with_reducible refine r_F ?_)
  | fail)
local macro_rules | `(tactic| walk_at "go") => `(tactic| repeat (walk_at "r"))
local macro_rules | `(tactic| walk_at "r") => `(tactic| first
  | (with_reducible refine r_call0 ?_)
  | (with_reducible refine r_meth0 ?_)
  | (with_reducible refine r_make0 ?_)
  | (with_reducible refine r_isiII ?_)
  | (with_reducible refine r_isiIB ?_)
  | ((with_reducible refine' r_isiTT ?h ?k); (case h => walk_at "up"))
  | ((with_reducible refine' r_len2 ?h ?k); (case h => walk_at "up"))
  | ((with_reducible refine' r_len3 ?h ?k); (case h => walk_at "up"))
  | ((with_reducible refine' r_lenL ?h ?k); (case h => walk_at "up"))
  | (with_reducible refine r_int1 ?_)
  | (with_reducible refine r_int1B ?_)
  | (with_reducible refine r_nT ?_)
  | (with_reducible refine r_nF ?_)
  | (with_reducible refine r_gcd ?_)
  | (with_reducible refine r_gsub ?_)
  | (with_reducible refine r_fld ?_)
  | (with_reducible refine r_p6 ?_)
  | (with_reducible refine r_p9 ?_)
  | (with_reducible refine r_p10 ?_)
  | (with_reducible refine r_p11 ?_)
  | (with_reducible refine r_p12 ?_)
  | (with_reducible refine r_p18 ?_)
  | (with_reducible refine r_p20 ?_)
  | (with_reducible refine r_p26 ?_)
  | (with_reducible refine r_p27 ?_)
  | (with_reducible refine r_p30 ?_)
  | ((with_reducible refine' r_iF ?h ?k); (case h => walk_at "bT"))
  | ((with_reducible refine' r_iT ?h ?k); (case h => walk_at "bT"))
  | (with_reducible refine r_sfld ?_)
  | (with_reducible refine r_sl ?_)
  | (with_reducible refine r_noPart ?_)
  | (with_reducible refine r_part ?_)
  | (with_reducible refine r_pk ?_)
  | ((with_reducible refine' r_unl2 ?h ?k); (case h => walk_at "up"))
  | ((with_reducible refine' r_ixLi ?h ?h0 ?hn ?k); (case h => walk_at "up"); (case h0 => walk_at "sd"); (case hn => rfl))
  | fail)

local macro_rules | `(tactic| walk_at "r") => `(tactic| with_reducible refine do_is_integer ?_)
local macro_rules | `(tactic| walk_at "r") => `(tactic| first | ((with_reducible refine' do_is_place ?h ?k); (case h => walk_at "up")) | fail)
local macro_rules | `(tactic| walk_at "r") => `(tactic| first | ((with_reducible refine' do_check_place ?h ?k); (case h => walk_at "up")) | fail)
local macro_rules | `(tactic| walk_at "r") => `(tactic| first | ((with_reducible refine' do_are_numbers ?h ?k); (case h => assumption)) | fail)
local macro_rules | `(tactic| walk_at "up") => `(tactic| first | (refine' NA.mv ?s ?g; (case s => assumption); (case g => walk_at "up")) | fail)
local macro_rules | `(tactic| walk_at "r") => `(tactic| first
  | ((with_reducible refine' do_Net_size ?h ?k); (case h => walk_at "up"))
  | ((with_reducible refine' do_meth ?h ?hm ?k); (case h => walk_at "up"); (case hm => decide +kernel))
  | fail)

local macro_rules | `(tactic| walk_at "up") => `(tactic| first | (refine' MA.mv ?s ?g; (case s => assumption); (case g => walk_at "up")) | fail)
local macro_rules | `(tactic| walk_at "dr") => `(tactic| (refine do_law_draw (by walk_at "up") (by first | decide | omega) (by first | decide | omega) ?_))
local macro_rules | `(tactic| walk_at "r") => `(tactic| first
  | (with_reducible refine r_forL ?_)
  | (with_reducible refine r_forR ?_)
  | (with_reducible refine r_lcL ?_)
  | (with_reducible refine r_bm ?_)
  | (with_reducible refine r_neB ?_)
  | (with_reducible refine r_cmeth0 ?_)
  | ((with_reducible refine' do_Motion_kind ?h ?k); (case h => walk_at "up"))
  | ((with_reducible refine' do_Net_numbers ?h (fun u hu => ?k)); (case h => walk_at "up"))
  | fail)
section
variable {P : Program} {w : World} {K : PySem.W.Frag} {mg : Str → Option Value} {base : Heap} {ad : Ad} {H : Hp} {Q : VK} {E : XK} {i j x y : Int} {v : V}
theorem tape_ne {t a : Addr} (h : Tape H t) (n : H a = none) : a ≠ t := by
  intro e
  obtain ⟨_, _, _, _, _, _, g, _⟩ := h
  rw [← e, n] at g
  cases g
/-- a net's numbers, as a tuple, below a bound -/
def NT (M : Int) (H : Hp) (v : V) (a b c : Int) : Prop := Nm a b c ∧ a ≤ M ∧ c ≤ M ∧ IT H v [a, b, c]
theorem NT.mv {M : Int} {t : Option Addr} {H H' : Hp} {a b c : Int} (s : Stp t H H') (h : NT M H v a b c) : NT M H' v a b c := ⟨h.1, h.2.1, h.2.2.1, h.2.2.2.mv s⟩
theorem nf_of {a b c : Int} (n : Nm a b c) : NF a b c := by
  obtain ⟨n1, n2, n3, n4, _, _⟩ := n
  exact ⟨by omega, by omega, fun _ => ⟨n3, n4⟩, fun h => by omega⟩
/-- one net is within the other -/
def Wi (a1 b1 c1 a2 b2 c2 : Int) : Prop := InN a2 b2 c2 a1 0 ∧ InN a2 b2 c2 b1 c1
instance (a1 b1 c1 a2 b2 c2 : Int) : Decidable (Wi a1 b1 c1 a2 b2 c2) := inferInstanceAs (Decidable (_ ∧ _))
theorem wi_iff {a1 b1 c1 a2 b2 c2 : Int} (h : 0 < c2) : Wi a1 b1 c1 a2 b2 c2 ↔ ∀ X Y, Lp a1 b1 c1 X Y → Lp a2 b2 c2 X Y := by
  unfold Wi
  rw [inN_Lp (by omega), inN_Lp (by omega)]
  constructor
  · rintro ⟨h1, h2⟩ X Y ⟨i, j, rfl, rfl⟩
    have := (sub_Lp a2 b2 c2).add ((sub_Lp a2 b2 c2).mul i h1) ((sub_Lp a2 b2 c2).mul j h2)
    have e : i * 0 + j * c1 = j * c1 := by omega
    rwa [e] at this
  · intro h
    exact ⟨h _ _ Lp_a, h _ _ Lp_b⟩
theorem same_nums {a b c d e f : Int} (n : Nm a b c) (m : Nm d e f) (h : ∀ X Y, Lp a b c X Y ↔ Lp d e f X Y) : [a, b, c] = [d, e, f] := by
  obtain ⟨h1, h2, h3⟩ := (nf_of n).uniq (nf_of m) h
  have := n.a1
  rw [h1, h2, h3 (by omega)]
theorem wi_dec {a1 b1 c1 a2 b2 c2 : Int} : (decide (InN a2 b2 c2 a1 0) && decide (InN a2 b2 c2 b1 c1)) = decide (Wi a1 b1 c1 a2 b2 c2) := by
  by_cases h1 : InN a2 b2 c2 a1 0
  · by_cases h2 : InN a2 b2 c2 b1 c1
    · rw [decide_eq_true h1, decide_eq_true h2, decide_eq_true (show Wi a1 b1 c1 a2 b2 c2 from ⟨h1, h2⟩)]; rfl
    · rw [decide_eq_true h1, decide_eq_false h2, decide_eq_false (show ¬ Wi a1 b1 c1 a2 b2 c2 from fun h => h2 h.2)]; rfl
  · rw [decide_eq_false h1, decide_eq_false (show ¬ Wi a1 b1 c1 a2 b2 c2 from fun h => h1 h.1)]; rfl
theorem lb_of {M : Int} {a b c : Int} (h : NT M H v a b c) (hM : M ≤ 10 ^ 15) : Lb Z1 a c := by
  obtain ⟨⟨n1, n2, _, _, _, _⟩, h1, h2, _⟩ := h
  have z : (Z1 : Nat) = 10 ^ 60 := rfl
  exact ⟨by omega, by omega⟩
theorem lb_2 {a c : Int} (h : Lb Z1 a c) : Lb Z2 a c := ⟨Nat.le_trans h.1 (by decide +kernel), Nat.le_trans h.2 (by decide +kernel)⟩
theorem co_small {x : Int} (h : x.natAbs ≤ 100) : Co x := by
  unfold Co
  have := n1_big
  constructor <;> omega
theorem jn_le {a1 b1 c1 a2 b2 c2 a b c : Int} {M : Lat} (m : Nfs (rows4 a1 b1 c1 a2 b2 c2) a b c) (hM : Sub M) (h1 : ∀ X Y, Lp a1 b1 c1 X Y → M X Y) (h2 : ∀ X Y, Lp a2 b2 c2 X Y → M X Y) : ∀ X Y, Lp a b c X Y → M X Y := by
  intro X Y h
  obtain ⟨i, j, k, l, e1, e2⟩ := rows_iff.mp ((m.sp X Y).mp h)
  have := hM.add (h1 (i * a1 + j * b1) (j * c1) ⟨i, j, rfl, rfl⟩) (h2 (k * a2 + l * b2) (l * c2) ⟨k, l, rfl, rfl⟩)
  have f1 : i * a1 + j * b1 + (k * a2 + l * b2) = X := by omega
  have f2 : j * c1 + l * c2 = Y := by omega
  rwa [f1, f2] at this
theorem jn_l {a1 b1 c1 a2 b2 c2 a b c : Int} (m : Nfs (rows4 a1 b1 c1 a2 b2 c2) a b c) : ∀ X Y, Lp a1 b1 c1 X Y → Lp a b c X Y := fun X Y h => (m.sp X Y).mpr (rows_left h)
theorem jn_r {a1 b1 c1 a2 b2 c2 a b c : Int} (m : Nfs (rows4 a1 b1 c1 a2 b2 c2) a b c) : ∀ X Y, Lp a2 b2 c2 X Y → Lp a b c X Y := fun X Y h => (m.sp X Y).mpr (rows_right h)
theorem lp_whole (X Y : Int) : Lp 1 0 1 X Y := ⟨X, Y, by omega, by omega⟩
theorem NA.put {C f : Addr} {xs ys : List V} {a b c : Int} (h : NA C H v a b c) (e : H f = some (.lst xs)) : NA C (upd H f (.lst ys)) v a b c := by
  obtain ⟨n, p, dx, u, rfl, h1, h2⟩ := h
  exact ⟨n, p, dx, u, rfl, by rw [upd_ne (by rintro rfl; rw [e] at h1; cases h1)]; exact h1, h2.put e⟩
theorem lb_mt {a1 b1 c1 a2 b2 c2 A B C : Int} (n : Nm A B C) (m : Mt a1 b1 c1 a2 b2 c2 A B C) (n1 : Nm a1 b1 c1) (n2 : Nm a2 b2 c2) (l1 : a1 ≤ 90) (l2 : c1 ≤ 90) (l3 : a2 ≤ 90) (l4 : c2 ≤ 90) : Lb Z1 A C := by
  obtain ⟨p1, p2, p3, p4, p5, p6⟩ := n1
  obtain ⟨q1, q2, q3, q4, q5, q6⟩ := n2
  obtain ⟨r1, r2, r3, r4, r5, r6⟩ := n
  have u1 : (a1 * c1).natAbs ≤ 90 * 90 := nab (by omega) (by omega)
  have u2 : (a2 * c2).natAbs ≤ 90 * 90 := nab (by omega) (by omega)
  have u3 : (a1 * c1 * (a2 * c2)).natAbs ≤ 90 * 90 * (90 * 90) := nab u1 u2
  have hA := m.al
  have hC := m.cl
  have z : (Z1 : Nat) = 10 ^ 60 := rfl
  exact ⟨by omega, by omega⟩
theorem lb_jn {a1 b1 c1 a2 b2 c2 a b c : Int} {M : Nat} (n : Nm a b c) (m : Nfs (rows4 a1 b1 c1 a2 b2 c2) a b c) (n1 : Nm a1 b1 c1) (l : Lb M a1 c1) : Lb M a c := by
  obtain ⟨p1, p2, p3, p4, p5, p6⟩ := n1
  obtain ⟨r1, r2, r3, r4, r5, r6⟩ := n
  obtain ⟨k1, k2, k3, k4⟩ := join_pos (by omega) (by omega) m
  obtain ⟨l1, l2⟩ := l
  exact ⟨by omega, by omega⟩
theorem lb_whole {M : Nat} (h : 1 ≤ M) : Lb M 1 1 := ⟨h, h⟩
theorem fresh_back {t f : Addr} {H H' : Hp} (s : Stp (some t) H H') (n : f ≠ t) (e : H' f = none) : H f = none := by
  cases z : H f with
  | none => rfl
  | some o =>
    exfalso
    have := s.ge f o (fun e => absurd (Option.some.inj e).symm n) z
    rw [e] at this; cases this
theorem sub_pull {L : Lat} (h : Sub L) (m : Mat) : Sub (fun x y => L (mx m x y) (my m x y)) where
  z := by
    have e1 : mx m 0 0 = 0 := by unfold mx; omega
    have e2 : my m 0 0 = 0 := by unfold my; omega
    rw [e1, e2]; exact h.z
  add := by
    intro x y u v a b
    rw [mx_add, my_add]; exact h.add a b
  mul := by
    intro x y k a
    have e1 : mx m (k * x) (k * y) = k * mx m x y := by unfold mx; grind
    have e2 : my m (k * x) (k * y) = k * my m x y := by unfold my; grind
    rw [e1, e2]; exact h.mul k a
theorem im_same {k : Str} {m : Mat} (h : Kd k m) {a b c a' b' c' d e f : Int} (n : Nm a' b' c') (n' : Nm d e f) (i : Im m a b c a' b' c') (j : Im m a b c d e f) : [a', b', c'] = [d, e, f] := same_nums n n' (im_uniq h i j)
theorem im_meet {k : Str} {m : Mat} (h : Kd k m) {a1 b1 c1 a2 b2 c2 A B C D E F D' E' F' G I J G' I' J' : Int} (n : Nm D' E' F') (n' : Nm G' I' J') (i1 : Im m a1 b1 c1 A B C) (i2 : Im m a2 b2 c2 G I J) (mt : Mt a1 b1 c1 a2 b2 c2 D E F) (i3 : Im m D E F D' E' F')
    (mt2 : Mt A B C G I J G' I' J') : [D', E', F'] = [G', I', J'] := by
  refine same_nums n n' fun X Y => ?_
  obtain ⟨x, y, rfl, rfl⟩ := kd_surj h X Y
  rw [i3, mt.sp, mt2.sp, i1, i2]
theorem im_join {k : Str} {m : Mat} (h : Kd k m) {a1 b1 c1 a2 b2 c2 A B C D E F D' E' F' G I J G' I' J' : Int} (n : Nm D' E' F') (n' : Nm G' I' J') (i1 : Im m a1 b1 c1 A B C) (i2 : Im m a2 b2 c2 G I J) (jn : Nfs (rows4 a1 b1 c1 a2 b2 c2) D E F) (i3 : Im m D E F D' E' F')
    (jn2 : Nfs (rows4 A B C G I J) G' I' J') : [D', E', F'] = [G', I', J'] := by
  refine same_nums n n' fun X Y => ⟨fun z => ?_, fun z => ?_⟩
  · obtain ⟨x, y, rfl, rfl⟩ := kd_surj h X Y
    exact jn_le jn (sub_pull (sub_Lp G' I' J') m) (fun x y q => jn_l jn2 _ _ ((i1 x y).mpr q)) (fun x y q => jn_r jn2 _ _ ((i2 x y).mpr q)) x y ((i3 x y).mp z)
  · refine jn_le jn2 (sub_Lp _ _ _) (fun X Y q => ?_) (fun X Y q => ?_) X Y z
    · obtain ⟨x, y, rfl, rfl⟩ := kd_surj h X Y
      exact (i3 x y).mpr (jn_l jn _ _ ((i1 x y).mp q))
    · obtain ⟨x, y, rfl, rfl⟩ := kd_surj h X Y
      exact (i3 x y).mpr (jn_r jn _ _ ((i2 x y).mp q))
theorem im_wi {k : Str} {m : Mat} (h : Kd k m) {a1 b1 c1 a2 b2 c2 A B C G I J : Int} (p1 : 0 < c2) (p2 : 0 < J) (i1 : Im m a1 b1 c1 A B C) (i2 : Im m a2 b2 c2 G I J) : Wi A B C G I J ↔ Wi a1 b1 c1 a2 b2 c2 := by
  rw [wi_iff p1, wi_iff p2]
  constructor
  · intro z x y q
    exact (i2 x y).mp (z _ _ ((i1 x y).mpr q))
  · intro z X Y q
    obtain ⟨x, y, rfl, rfl⟩ := kd_surj h X Y
    exact (i2 x y).mpr (z _ _ ((i1 x y).mp q))
theorem im_in {m : Mat} {a b c A B C X Y : Int} (p1 : 0 < c) (p2 : 0 < C) (i : Im m a b c A B C) : InN A B C (mx m X Y) (my m X Y) ↔ InN a b c X Y := by
  rw [inN_Lp (by omega), inN_Lp (by omega)]
  exact i X Y
theorem lb_im {a c A C : Int} {M : Int} (n1 : 1 ≤ a) (n2 : 1 ≤ c) (l1 : a ≤ 100) (l2 : c ≤ 100) (p1 : 1 ≤ A) (p2 : 1 ≤ C) (e : A * C = a * c) : Lb Z1 A C ∧ A ≤ 10000 ∧ C ≤ 10000 := by
  have u1 : (a * c).natAbs ≤ 100 * 100 := nab (by omega) (by omega)
  have q1 := Int.mul_le_mul_of_nonneg_left p2 (show 0 ≤ A by omega)
  have q2 := Int.mul_le_mul_of_nonneg_right p1 (show 0 ≤ C by omega)
  have z : (Z1 : Nat) = 10 ^ 60 := rfl
  exact ⟨⟨by omega, by omega⟩, by omega, by omega⟩
/-! ### square nets, image nets -/
def sp_law_square : Sp := fun vs H Q _ => ∃ t, vs = [.ref t, .int 30] ∧ Tape H t ∧ ∀ v a b c H', Stp (some t) H H' → NT 90 H' v a b c → Q v H'
theorem ok_law_square (T : Txt w K mg ad) : FnG P w K mg base CX0 2 ad.law_square ad.law_square_d P_law_square sp_law_square := by
  have G_law_draw := ok_law_draw (P := P) (w := w) (base := base) T
  refine Fun.gn T.F_law_square sc_law_square (fun vs H Q E h => ?_) (fun cdv A outer s H vs Q E hr hg h => ?_)
  · obtain ⟨t, rfl, _⟩ := h
    rfl
  · obtain ⟨t, rfl, hT, q⟩ := h
    have nb := n1_big
    refine ⟨_, (pss_cons (ps_set (i := 2) sc_law_square.nd rfl (Or.inl rfl) (pe_op op_add pe_int (peg_call G_law_draw (hr.mono (by decide)) hg (by rfl) T.g_law_draw T.F_law_draw.kp T.b_law_draw .nil pass0 (pa_cons (pv 0) (pa_cons (pe_ix ix_seq (pe_lst (pa_cons pe_int (pa_cons pe_int pa_nil))) (pe_callTy call_int1 (by rfl) T.z_int (by decide +kernel) (pa_cons (pe_cmpR op_gt (pv 1) pe_int (nomark _)) pa_nil)) (fun _ _ => rfl)) pa_nil)))))
      (pss_cons (ps_set (i := 3) sc_law_square.nd rfl (Or.inl rfl) (pe_lst (pa_cons (pe_tup (pa_cons (pv 2) (pa_cons pe_int (pa_cons (pv 2) pa_nil)))) (pa_cons (pe_tup (pa_cons (pe_op op_mulW pe_int (pv 2)) (pa_cons (pv 2) (pa_cons (pv 2) pa_nil)))) (pa_cons (pe_tup (pa_cons (pv 2) (pa_cons pe_int (pa_cons (pe_op op_add pe_int (peg_call G_law_draw (hr.mono (by decide)) hg (by rfl) T.g_law_draw T.F_law_draw.kp T.b_law_draw .nil pass0 (pa_cons (pv 0) (pa_cons (pe_op op_fdivW (pv 1) (pv 2)) pa_nil)))) pa_nil)))) pa_nil)))))
      (pss_one (ps_ret (pe_ix ix_seq (pe_lc (own := [("_law_net_here", 4)]) (g := gName 4)  rfl sc_law_square.nd (pi_list (pv 3)) (blkOk_by (own := [("_law_net_here", 4)]) (N := N_law_square) (sc := defScope s_law_square) (by decide +kernel)) (fun _ _ _ _ _ => (pg_name (i := 4) sc_law_square.nd rfl (Or.inl rfl))) (fun _ _ _ _ _ => (pts_one (pt_cmpR op_le (pe_op op_mulW (pe_ix (ix_seqk (K := K) rfl) (pv 4) pe_int (fun _ _ => rfl)) (pe_ix (ix_seqk (K := K) rfl) (pv 4) pe_int (fun _ _ => rfl))) (pv 1) (nomark _)))) (fun _ _ _ _ _ => (pv 4)) ) (peg_call G_law_draw (hr.mono (by decide)) hg (by rfl) T.g_law_draw T.F_law_draw.kp T.b_law_draw .nil pass0 (pa_cons (pv 0) (pa_cons pe_int pa_nil))) (fun _ _ => rfl)))))), ?_⟩
    walk_at "go"
    rename_i l1 H1 S1 hl1 nl1
    have T1 := hT.mvN S1
    walk_at "dr"
    intro r1 H2 r10 r11 S2
    walk_at "go"
    rename_i s1 H3 S3 i3
    refine r_mulW (mulN (by omega) (by omega) (by omega) (by omega)) ?_
    walk_at "go"
    rename_i s2 H4 S4 i4
    refine r_div (divN (by omega) (by omega)) ?_
    have k1 : 1 ≤ 30 / (1 + r1) := by rw [Int.le_ediv_iff_mul_le (by omega)]; omega
    have k2 : 30 / (1 + r1) ≤ 30 := Int.ediv_le_self _ (by omega)
    have k3 := Int.mul_ediv_self_le (x := 30) (k := 1 + r1) (by omega)
    generalize (30 : Int) / (1 + r1) = z at k1 k2 k3
    walk_at "go"
    refine do_law_draw (by walk_at "up") (by omega) (by omega) ?_
    intro r2 H5 r20 r21 S5
    have k4 := Int.mul_le_mul_of_nonneg_left (show 1 + r2 ≤ z by omega) (show 0 ≤ 1 + r1 by omega)
    walk_at "go"
    rename_i s3 H6 S6 i6 l7 H7 S7 hl7 nl7
    have T6 : Tape H6 t := by walk_at "up"
    have n7 : l7 ≠ t := tape_ne T6 nl7
    have j3 : IT H7 s1 [1 + r1, 0, 1 + r1] := by walk_at "up"
    have j4 : IT H7 s2 [2 * (1 + r1), 1 + r1, 1 + r1] := by walk_at "up"
    have j6 : IT H7 s3 [1 + r1, 0, 1 + r2] := by walk_at "up"
    have T7 : Tape H7 t := T6.mvN S7
    have s7 : Stp (some t) H H7 := by walk_at "st"
    have sq : (1 + r1) * (1 + r1) ≤ 16 := by
      have := Int.mul_le_mul (show 1 + r1 ≤ 4 by omega) (show 1 + r1 ≤ 4 by omega) (by omega) (by omega)
      omega
    clear S1 S2 S3 S4 S5 S6 S7 i3 i4 i6 hl1 T1 T6 hT
    refine lcl_ok hl7 fun D hD => ⟨fun i H' => (∀ b o, H7 b = some o → H' b = some o) ∧ ∃ zs, H' D = some (.lst zs) ∧ zs.length ≤ i ∧ (1 ≤ i → 1 ≤ zs.length) ∧ (3 ≤ i → 2 ≤ zs.length) ∧ ∀ (j : Nat) (z : V), zs[j]? = some z → ∃ a b c, NT 90 H' z a b c,
      ⟨lc_keep hD, [], upd_same, Nat.le_refl _, fun h => absurd h (by decide), fun h => absurd h (by decide), fun j z h => by cases h⟩, fun i H' _ pv => pv.1 _ _ hl7, fun i z H' hz pv => ?_, fun H' pv => ?_⟩
    · obtain ⟨pk, zs, pz, pl, p1, p3, pi⟩ := pv
      have st : Stp none H7 H' := Stp.of pk none
      suffices go : ∃ a b c, NT 90 H' z a b c ∧ (i = 0 ∨ i = 2 → a * c ≤ 30) by
        obtain ⟨a, b, c, hn, hle⟩ := go
        obtain ⟨n1, x1, x2, iz⟩ := id hn
        have mm : CMulW a c := mulN (by have := n1.a1; omega) (by omega) (by have := n1.c1; omega) (by omega)
        walk_at "go"
        refine ⟨rfl, ?_⟩
        walk_at "go"
        have ln : zs.length < sizeLine := by
          have := (List.getElem?_eq_some_iff.mp hz).1
          simp only [List.length_cons, List.length_nil] at this
          exact Nat.lt_of_lt_of_le (show zs.length < 100 by omega) (by decide)
        have i3 : i < 3 := (List.getElem?_eq_some_iff.mp hz).1
        refine r_ite (fun h => ?_) (fun h => ?_)
        · walk_at "go"
          refine ⟨zs, pz, ln, fun b o e => ?_, zs ++ [z], upd_same, by rw [List.length_append]; show zs.length + 1 ≤ i + 1; omega, fun _ => by rw [List.length_append]; show 1 ≤ zs.length + 1; omega, fun h3 => ?_, fun j x hx => ?_⟩
          · rw [upd_ne (ne_of_none e hD)]
            exact pk _ _ e
          · rw [List.length_append]
            have := p1 (by omega)
            show 2 ≤ zs.length + 1
            omega
          · by_cases hj : j < zs.length
            · rw [List.getElem?_append_left hj] at hx
              obtain ⟨a', b', c', m1, m2, m3, m4⟩ := pi j x hx
              exact ⟨a', b', c', m1, m2, m3, m4.put pz⟩
            · rw [List.getElem?_append_right (by omega)] at hx
              obtain ⟨h0, hx⟩ := List.getElem?_eq_some_iff.mp hx
              have h0' : j - zs.length = 0 := by simp only [List.length_cons, List.length_nil] at h0; omega
              simp only [h0', List.getElem_cons_zero] at hx
              subst hx
              exact ⟨a, b, c, n1, x1, x2, iz.put pz⟩
        · refine ⟨pk, zs, pz, by omega, fun _ => ?_, fun h3 => ?_, pi⟩
          · rcases Nat.eq_zero_or_pos i with z | z
            · exact absurd (hle (.inl z)) h
            · exact p1 (by omega)
          · exact absurd (hle (.inr (by omega))) h
      match i, hz with
      | 0, hz => cases hz; exact ⟨_, _, _, ⟨⟨by omega, by omega, by omega, by omega, by omega, by omega⟩, by omega, by omega, j3.mv st⟩, fun _ => by omega⟩
      | 1, hz => cases hz; exact ⟨_, _, _, ⟨⟨by omega, by omega, by omega, by omega, by omega, by omega⟩, by omega, by omega, j4.mv st⟩, fun h => by omega⟩
      | 2, hz => cases hz; exact ⟨_, _, _, ⟨⟨by omega, by omega, by omega, by omega, by omega, by omega⟩, by omega, by omega, j6.mv st⟩, fun _ => by omega⟩
    · obtain ⟨pk, zs, pz, pl, p1, p3, pi⟩ := pv
      have st : Stp none H7 H' := Stp.of pk none
      have l2 := p3 (Nat.le_of_ble_eq_true rfl)
      have TD : Tape H' t := T7.mvN st
      have nD : D ≠ t := tape_ne T7 hD
      walk_at "go"
      walk_at "dr"
      intro r3 H8 r30 r31 S8
      have hr : r3.toNat < zs.length := by omega
      obtain ⟨a, b, c, hn⟩ := pi _ _ (List.getElem?_eq_getElem hr)
      refine r_ixLi (At.lstS S8 nD pz) r30 (List.getElem?_eq_getElem hr) ?_
      exact q _ a b c _ ((s7.trans st.w).trans S8) (hn.mv S8)
theorem do_law_square {t : Addr} (h : Tape H t) (q : ∀ v a b c H', Stp (some t) H H' → NT 90 H' v a b c → Q v H') : sp_law_square [.ref t, .int 30] H Q E := ⟨t, rfl, h, q⟩
def sp_law_image_net (K : PySem.W.Frag) : Sp := fun vs H Q _ => ∃ v k m a b c, vs = [v, .str k] ∧ Kd k m ∧ NT 90 H v a b c ∧ ∀ z a' b' c' H', Stp none H H' → IT H' z [a', b', c'] → Nfs (img2 m a b c) a' b' c' → Q z H'
theorem ok_law_image_net (T : Txt w K mg ad) : FnG P w K mg base CX0 3 ad.law_image_net ad.law_image_net_d P_law_image_net (sp_law_image_net K) := by
  have G_law_turned := ok_law_turned (P := P) (w := w) (base := base) T
  have G_law_net_of := ok_law_net_of (P := P) (w := w) (base := base) T
  refine Fun.g T.F_law_image_net sc_law_image_net (fun vs H Q E h => ?_) (fun cdv A outer s H vs Q E hr hg h => ?_)
  · obtain ⟨v, k, m, a, b, c, rfl, _⟩ := h
    rfl
  · obtain ⟨v, k, m, a, b, c, rfl, hk, ⟨n, x1, x2, iv⟩, q⟩ := h
    obtain ⟨n1, n2, n3, n4, n5, n6⟩ := n
    have b1 := mb hk (x := a) (y := 0) (B := 100) (by omega) (by omega)
    have b2 := mb hk (x := b) (y := c) (B := 100) (by omega) (by omega)
    have z200 : (Z2 : Nat) = 10 ^ 200 := rfl
    refine ⟨_, (pss_one (ps_ret (peg_call G_law_net_of (hr.mono (by decide)) hg (by rfl) T.g_law_net_of T.F_law_net_of.kp T.b_law_net_of .nil pass0 (pa_cons (pe_lst (pa_cons (peg_call G_law_turned (hr.mono (by decide)) hg (by rfl) T.g_law_turned T.F_law_turned.kp T.b_law_turned .nil pass0 (pa_cons (pv 1) (pa_cons (pe_tup (pa_cons (pe_ix ix_seq (pv 0) pe_int (fun _ _ => rfl)) (pa_cons pe_int pa_nil))) pa_nil))) (pa_cons (peg_call G_law_turned (hr.mono (by decide)) hg (by rfl) T.g_law_turned T.F_law_turned.kp T.b_law_turned .nil pass0 (pa_cons (pv 1) (pa_cons (pe_tup (pa_cons (pe_ix ix_seq (pv 0) pe_int (fun _ _ => rfl)) (pa_cons (pe_ix ix_seq (pv 0) pe_int (fun _ _ => rfl)) pa_nil))) pa_nil))) pa_nil))) pa_nil)))), ?_⟩
    walk_at "go"
    rename_i y1 H1 S1 i1
    refine do_law_turned hk i1.k fun y2 H2 S2 i2 => ?_
    walk_at "go"
    rename_i y3 H3 S3 i3
    refine do_law_turned hk i3.k fun y4 H4 S4 i4 => ?_
    walk_at "go"
    rename_i p5 H5 S5 hp5 np5
    have j2 : IT H5 y2 [mx m a 0, my m a 0] := by walk_at "up"
    have j4 : IT H5 y4 [mx m b c, my m b c] := by walk_at "up"
    refine do_law_net_of (ss := img2 m a b c) (C := Z2) (B := Z2) hp5 (.cons (s := (mx m a 0, my m a 0)) j2 (.cons (s := (mx m b c, my m b c)) j4 .nil))
      (.cons (by simp only []; omega) (by simp only []; omega) (.cons (by simp only []; omega) (by simp only []; omega) .nil)) (fbz (Nat.le_of_ble_eq_true rfl)) fun a' b' c' hn => ⟨fun hd H6 S6 => ?_, fun ha hc z H6 S6 iz => ?_⟩
    · obtain ⟨p1, p2, p3⟩ := im_pos hk (by omega) (by omega) hn.nf (im_of hk hn)
      omega
    · exact q _ _ _ _ _ (by walk_at "st") iz hn
theorem do_law_image_net {k : Str} {m : Mat} {a b c : Int} (hk : Kd k m) (h : NT 90 H v a b c) (q : ∀ z a' b' c' H', Stp none H H' → IT H' z [a', b', c'] → Nfs (img2 m a b c) a' b' c' → Q z H') : sp_law_image_net K [v, .str k] H Q E := ⟨v, k, m, a, b, c, rfl, hk, h, q⟩
end
end Law

set_option Elab.async false
set_option linter.all false
set_option maxRecDepth 100000
set_option maxHeartbeats 4000000
namespace Law
open PySem PySem.Spec PyProof.Rows L2 MV
local macro_rules | `(tactic| walk_at "up") => `(tactic| first
  | assumption
  | (refine' IT.mv ?s ?g; (case s => assumption); (case g => walk_at "up"))
  | (refine' IT.k ?g; (case g => walk_at "up"))
  | (refine' IK.mv ?s ?g; (case s => assumption); (case g => walk_at "up"))
  | (refine' Tape.mvN ?s ?g; (case s => assumption); (case g => walk_at "up"))
  | (refine' Tape.mvS ?s ?g; (case s => assumption); (case g => walk_at "up"))
  | (refine' At.tup ?s ?g; (case s => assumption); (case g => walk_at "up"))
  | (refine' At.ins ?s ?g; (case s => assumption); (case g => walk_at "up"))
  | (refine' At.lst ?s ?g; (case s => assumption); (case g => walk_at "up"))
  | (refine' At.lstS ?s ?n ?g; (case s => assumption); (case n => assumption); (case g => walk_at "up"))
  | fail)
local macro_rules | `(tactic| walk_at "st") => `(tactic| first
  | assumption
  | exact Stp.refl _ _
  | (refine' Stp.w ?s; (case s => assumption))
  | (refine' Stp.trans ?g ?s; (case s => (first | assumption | (refine' Stp.w ?u; (case u => assumption)))); (case g => walk_at "st"))
  | fail)
local macro_rules | `(tactic| walk_at "bT") => `(tactic| first
  | decide
  | (simp only [Bool.not_eq_true', Bool.not_eq_false', decide_eq_true_eq, decide_eq_false_iff_not]; omega)
  | fail)
local macro_rules | `(tactic| walk_at "sd") => `(tactic| first | assumption | decide | omega | fail)
local macro_rules | `(tactic| walk_at "r") => `(tactic| first
  | (with_reducible refine r_seq ?_)
  | (with_reducible refine r_asg ?_)
  | ((with_reducible refine' r_var ?h ?k); (case h => rfl))
  | (with_reducible refine r_c ?_)
  | (with_reducible refine r_op ?_)
  | (with_reducible refine r_un ?_)
  | (with_reducible refine r_nil ?_)
  | (with_reducible refine r_cons ?_)
  | (with_reducible refine r_tup ?_)
  | (with_reducible refine r_lst ?_)
  | (with_reducible refine r_cbLen ?_)
  | (with_reducible refine r_cbInt ?_)
  | (with_reducible refine r_cbRepr ?_)
  | (with_reducible refine r_cbTup ?_)
  | (with_reducible refine r_cbLst ?_)
  | (with_reducible refine r_cb ?_)
  | (with_reducible refine r_prop ?_)
  | (with_reducible refine r_andV ?_)
  | (with_reducible refine r_orV ?_)
  | (with_reducible refine r_notV ?_)
  | (with_reducible refine r_chain ?_)
  | (with_reducible refine r_ifE ?_)
  | (with_reducible refine r_test ?_)
  | (with_reducible refine r_B ?_)
  | (with_reducible refine r_and ?_)
  | (with_reducible refine r_or ?_)
  | (with_reducible refine r_not ?_)
  | (with_reducible refine r_yes ?_)
  | (with_reducible refine r_k ?_)
  | (with_reducible refine r_kV ?_)
  | (with_reducible refine r_next ?_)
  | (with_reducible refine r_drop ?_)
  | (with_reducible refine r_ret ?_)
  | (with_reducible refine r_ifS ?_)
  | (with_reducible refine r_par ?_)
  | (with_reducible refine r_par1 ?_)
  | (with_reducible refine r_gname ?_)
  | (with_reducible refine r_gnil ?_)
  | (with_reducible refine r_gcons ?_)
  | ((with_reducible refine' r_unpack2 ?h ?k); (case h => walk_at "up"))
  | ((with_reducible refine' r_unpack3 ?h ?k); (case h => walk_at "up"))
  | (with_reducible refine r_add ?_)
  | (with_reducible refine r_sub ?_)
  | (with_reducible refine r_neg ?_)
  | ((with_reducible refine' r_mod ?h ?k); (case h => walk_at "sd"))
  | ((with_reducible refine' r_div ?h ?k); (case h => walk_at "sd"))
  | ((with_reducible refine' r_mul ?h ?k); (case h => walk_at "sd"))
  | ((with_reducible refine' r_mulW ?h ?k); (case h => walk_at "sd"))
  | ((with_reducible refine' r_pow ?h ?k); (case h => (show (0 : Int) ≤ _ ∧ _ ∧ _; decide)))
  | (with_reducible refine r_lt ?_)
  | (with_reducible refine r_le ?_)
  | (with_reducible refine r_gt ?_)
  | (with_reducible refine r_ge ?_)
  | (with_reducible refine r_eqI ?_)
  | (with_reducible refine r_neI ?_)
  | (with_reducible refine r_eqS ?_)
  | (with_reducible refine r_neS ?_)
  | ((with_reducible refine' r_eqT ?h ?g ?k); (case h => walk_at "up"); (case g => walk_at "up"))
  | ((with_reducible refine' r_neT ?h ?g ?k); (case h => walk_at "up"); (case g => walk_at "up"))
  | ((with_reducible refine' r_ix0 ?h ?k); (case h => walk_at "up"))
  | ((with_reducible refine' r_ix1 ?h ?k); (case h => walk_at "up"))
  | ((with_reducible refine' r_ix2 ?h ?k); (case h => walk_at "up"))
  | (with_reducible refine r_newI2 (fun v H2 S I => ?_))
  | (with_reducible refine r_newI3 (fun v H2 S I => ?_))
  | (with_reducible refine r_newL1 (fun p H2 S hp np => ?_))
  | (with_reducible refine r_newL2 (fun p H2 S hp np => ?_))
  | (with_reducible refine r_newL3 (fun p H2 S hp np => ?_))
  | (with_reducible refine r_T ?_)
  | (with_reducible refine r_F ?_)
  | fail)
local macro_rules | `(tactic| walk_at "go") => `(tactic| repeat (walk_at "r"))
local macro_rules | `(tactic| walk_at "r") => `(tactic| first
  | (with_reducible refine r_call0 ?_)
  | (with_reducible refine r_meth0 ?_)
  | (with_reducible refine r_make0 ?_)
  | (with_reducible refine r_isiII ?_)
  | (with_reducible refine r_isiIB ?_)
  | ((with_reducible refine' r_isiTT ?h ?k); (case h => walk_at "up"))
  | ((with_reducible refine' r_len2 ?h ?k); (case h => walk_at "up"))
  | ((with_reducible refine' r_len3 ?h ?k); (case h => walk_at "up"))
  | ((with_reducible refine' r_lenL ?h ?k); (case h => walk_at "up"))
  | (with_reducible refine r_int1 ?_)
  | (with_reducible refine r_int1B ?_)
  | (with_reducible refine r_nT ?_)
  | (with_reducible refine r_nF ?_)
  | (with_reducible refine r_gcd ?_)
  | (with_reducible refine r_gsub ?_)
  | (with_reducible refine r_fld ?_)
  | (with_reducible refine r_p6 ?_)
  | (with_reducible refine r_p9 ?_)
  | (with_reducible refine r_p10 ?_)
  | (with_reducible refine r_p11 ?_)
  | (with_reducible refine r_p12 ?_)
  | (with_reducible refine r_p18 ?_)
  | (with_reducible refine r_p20 ?_)
  | (with_reducible refine r_p26 ?_)
  | (with_reducible refine r_p27 ?_)
  | (with_reducible refine r_p30 ?_)
  | ((with_reducible refine' r_iF ?h ?k); (case h => walk_at "bT"))
  | ((with_reducible refine' r_iT ?h ?k); (case h => walk_at "bT"))
  | (with_reducible refine r_sfld ?_)
  | (with_reducible refine r_sl ?_)
  | (with_reducible refine r_noPart ?_)
  | (with_reducible refine r_part ?_)
  | (with_reducible refine r_pk ?_)
  | ((with_reducible refine' r_unl2 ?h ?k); (case h => walk_at "up"))
  | ((with_reducible refine' r_ixLi ?h ?h0 ?hn ?k); (case h => walk_at "up"); (case h0 => walk_at "sd"); (case hn => rfl))
  | fail)

local macro_rules | `(tactic| walk_at "r") => `(tactic| with_reducible refine do_is_integer ?_)
local macro_rules | `(tactic| walk_at "r") => `(tactic| first | ((with_reducible refine' do_is_place ?h ?k); (case h => walk_at "up")) | fail)
local macro_rules | `(tactic| walk_at "r") => `(tactic| first | ((with_reducible refine' do_check_place ?h ?k); (case h => walk_at "up")) | fail)
local macro_rules | `(tactic| walk_at "r") => `(tactic| first | ((with_reducible refine' do_are_numbers ?h ?k); (case h => assumption)) | fail)
local macro_rules | `(tactic| walk_at "up") => `(tactic| first | (refine' NA.mv ?s ?g; (case s => assumption); (case g => walk_at "up")) | fail)
local macro_rules | `(tactic| walk_at "r") => `(tactic| first
  | ((with_reducible refine' do_Net_size ?h ?k); (case h => walk_at "up"))
  | ((with_reducible refine' do_meth ?h ?hm ?k); (case h => walk_at "up"); (case hm => decide +kernel))
  | fail)

local macro_rules | `(tactic| walk_at "up") => `(tactic| first | (refine' MA.mv ?s ?g; (case s => assumption); (case g => walk_at "up")) | fail)
local macro_rules | `(tactic| walk_at "dr") => `(tactic| (refine do_law_draw (by walk_at "up") (by first | decide | omega) (by first | decide | omega) ?_))
local macro_rules | `(tactic| walk_at "r") => `(tactic| first
  | (with_reducible refine r_forL ?_)
  | (with_reducible refine r_forR ?_)
  | (with_reducible refine r_lcL ?_)
  | (with_reducible refine r_bm ?_)
  | (with_reducible refine r_neB ?_)
  | (with_reducible refine r_cmeth0 ?_)
  | ((with_reducible refine' do_Motion_kind ?h ?k); (case h => walk_at "up"))
  | ((with_reducible refine' do_Net_numbers ?h (fun u hu => ?k)); (case h => walk_at "up"))
  | fail)
section
variable {P : Program} {w : World} {K : PySem.W.Frag} {mg : Str → Option Value} {base : Heap} {ad : Ad} {H : Hp} {Q : VK} {E : XK} {i j x y : Int} {v : V}
def sp_law_right (K : PySem.W.Frag) : Sp := fun vs H Q _ => ∃ t v u a1 b1 c1 a2 b2 c2, vs = [.ref t, v, u] ∧ Tape H t ∧ NT 90 H v a1 b1 c1 ∧ NT 90 H u a2 b2 c2 ∧ ∀ H', Stp (some t) H H' → Q (.bl true) H'
theorem ok_law_right (T : Txt w K mg ad) : FnG P w K mg base CX0 8 ad.law_right ad.law_right_d P_law_right (sp_law_right K) := by
  have G_Net_init := ok_Net_init (P := P) (w := w) (base := base) T
  have G_Net_numbers := ok_Net_numbers (P := P) (w := w) (base := base) T
  have G_Net_size := ok_Net_size (P := P) (w := w) (base := base) T
  have G_Net_contains := ok_Net_contains (P := P) (w := w) (base := base) T
  have G_Net_and := ok_Net_and (P := P) (w := w) (base := base) T
  have G_Net_or := ok_Net_or (P := P) (w := w) (base := base) T
  have G_Net_mul := ok_Net_mul (P := P) (w := w) (base := base) T
  have G_Net_is_within := ok_Net_is_within (P := P) (w := w) (base := base) T
  have G_Net_eq := ok_Net_eq (P := P) (w := w) (base := base) T
  have G_Motion_init := ok_Motion_init (P := P) (w := w) (base := base) T
  have G_Motion_mul := ok_Motion_mul (P := P) (w := w) (base := base) T
  have G_Motion_invert := ok_Motion_invert (P := P) (w := w) (base := base) T
  have G_law_draw := ok_law_draw (P := P) (w := w) (base := base) T
  have G_law_place := ok_law_place (P := P) (w := w) (base := base) T
  have G_law_kinds := ok_law_kinds (P := P) (w := w) (base := base) T
  have G_law_turned := ok_law_turned (P := P) (w := w) (base := base) T
  have G_law_image_net := ok_law_image_net (P := P) (w := w) (base := base) T
  obtain ⟨ds_i, vd_Motion_init, bd_Motion_init⟩ := T.bd_Motion_init
  refine Fun.gn T.F_law_right sc_law_right (fun vs H Q E h => ?_) (fun cdv A outer s H vs Q E hr hg h => ?_)
  · obtain ⟨t, v, u, a1, b1, c1, a2, b2, c2, rfl, _⟩ := h
    rfl
  · obtain ⟨t, v, u, a1, b1, c1, a2, b2, c2, rfl, hT, hv, hu, q⟩ := h
    have L1 := lb_of hv (by decide)
    have L2' := lb_of hu (by decide)
    obtain ⟨n1, x1, x2, iv0⟩ := id hv
    obtain ⟨n2, x3, x4, iu0⟩ := id hu
    refine ⟨_, (pss_cons (ps_par (i := 3) (j := 4) rfl sc_law_right.nd rfl rfl (by decide) rfl rfl (pa_cons (peg_make T.k_Net G_Net_init (hr.mono (by decide)) hg (by rfl) T.g_Net T.b_Net_init .nil pass0 (pa_cons (pe_ix ix_seq (pv 1) pe_int (fun _ _ => rfl)) (pa_cons (pe_ix ix_seq (pv 1) pe_int (fun _ _ => rfl)) (pa_cons (pe_ix ix_seq (pv 1) pe_int (fun _ _ => rfl)) pa_nil)))) (pa_cons (peg_make T.k_Net G_Net_init (hr.mono (by decide)) hg (by rfl) T.g_Net T.b_Net_init .nil pass0 (pa_cons (pe_ix ix_seq (pv 2) pe_int (fun _ _ => rfl)) (pa_cons (pe_ix ix_seq (pv 2) pe_int (fun _ _ => rfl)) (pa_cons (pe_ix ix_seq (pv 2) pe_int (fun _ _ => rfl)) pa_nil)))) pa_nil)) rfl)
      (pss_cons (ps_set (i := 5) sc_law_right.nd rfl (Or.inl rfl) (pe_lst pa_nil))
      (pss_cons (ps_for PassesOwn.never rfl (pi_list (peg_call0 G_law_kinds (hr.mono (by decide)) hg (by rfl) T.g_law_kinds T.F_law_kinds.kp T.b_law_kinds .nil pass0)) (pg_name (i := 6) sc_law_right.nd rfl (Or.inl rfl))
      (pss_cons (ps_set (i := 7) sc_law_right.nd rfl (Or.inl rfl) (peg_make T.k_Motion G_Motion_init (hr.mono (by decide)) hg (by rfl) T.g_Motion T.b_Motion_init .nil pass0 (pa_cons (pv 6) (pa_cons (peg_call G_law_place (hr.mono (by decide)) hg (by rfl) T.g_law_place T.F_law_place.kp T.b_law_place .nil pass0 (pa_cons (pv 0) pa_nil)) pa_nil))))
      (pss_cons (ps_set (i := 8) sc_law_right.nd rfl (Or.inl rfl) (pe_op (opg_two (op := .Mult) T.two_NM G_Net_mul (hr.mono (by decide)) hg T.b_Net_mul pass0) (pv 3) (pv 7)))
      (pss_cons (ps_if (PW.pt (pw_or (pt_cmpR (op_neD hr.units) (peg_prop (pv 8) T.cl_Net T.p_Net_numbers G_Net_numbers (hr.mono (by decide)) hg T.b_Net_numbers .nil pass0) (peg_call G_law_image_net (hr.mono (by decide)) hg (by rfl) T.g_law_image_net T.F_law_image_net.kp T.b_law_image_net .nil pass0 (pa_cons (pv 1) (pa_cons (pv 6) pa_nil))) (nomark _)) (pw_or (pt_cmpR (opg_ne T.e_Net G_Net_eq (hr.mono (by decide)) hg T.b_Net_eq pass0) (pv 8) (pe_op (opg_two (op := .Mult) T.two_NM G_Net_mul (hr.mono (by decide)) hg T.b_Net_mul pass0) (pv 3) (peg_make T.k_Motion G_Motion_init (hr.mono (by decide)) hg (by rfl) T.g_Motion bd_Motion_init vd_Motion_init pass0 (pa_cons (pv 6) pa_nil))) (nomark _)) (pw_or1 (pt_cmpR op_ne (peg_prop (pv 8) T.cl_Net T.p_Net_size G_Net_size (hr.mono (by decide)) hg T.b_Net_size .nil pass0) (peg_prop (pv 3) T.cl_Net T.p_Net_size G_Net_size (hr.mono (by decide)) hg T.b_Net_size .nil pass0) (nomark _))))))
      (pss_one (ps_ret pe_bl)) pss_nil)
      (pss_cons (ps_for PassesOwn.never rfl (pi_range1 rfl T.z_range (pa_cons pe_int pa_nil)) (pg_name (i := 9) sc_law_right.nd rfl (Or.inl rfl))
      (pss_cons (ps_set (i := 10) sc_law_right.nd rfl (Or.inl rfl) (pe_tup (pa_cons (pe_op op_sub (peg_call G_law_draw (hr.mono (by decide)) hg (by rfl) T.g_law_draw T.F_law_draw.kp T.b_law_draw .nil pass0 (pa_cons (pv 0) (pa_cons pe_int pa_nil))) pe_int) (pa_cons (pe_op op_sub (peg_call G_law_draw (hr.mono (by decide)) hg (by rfl) T.g_law_draw T.F_law_draw.kp T.b_law_draw .nil pass0 (pa_cons (pv 0) (pa_cons pe_int pa_nil))) pe_int) pa_nil))))
      (pss_one (ps_if (pt_cmpR op_ne (pe_cmpR (opg_in T.h_Net G_Net_contains (hr.mono (by decide)) hg T.b_Net_contains pass0) (peg_call G_law_turned (hr.mono (by decide)) hg (by rfl) T.g_law_turned T.F_law_turned.kp T.b_law_turned .nil pass0 (pa_cons (pv 6) (pa_cons (pv 10) pa_nil))) (pv 8) (by rfl)) (pe_cmpR (opg_in T.h_Net G_Net_contains (hr.mono (by decide)) hg T.b_Net_contains pass0) (pv 10) (pv 3) (by rfl)) (nomark _))
      (pss_one (ps_ret pe_bl)) pss_nil))))
      (pss_cons (ps_if (PW.pt (pw_or (pt_cmpR (opg_ne T.e_Net G_Net_eq (hr.mono (by decide)) hg T.b_Net_eq pass0) (pe_op (opg_two (op := .Mult) T.two_NM G_Net_mul (hr.mono (by decide)) hg T.b_Net_mul pass0) (pe_op (opg_bin (op := .BitAnd) T.o_Net_and T.sf_Net G_Net_and (hr.mono (by decide)) hg T.b_Net_and pass0) (pv 3) (pv 4)) (pv 7)) (pe_op (opg_bin (op := .BitAnd) T.o_Net_and T.sf_Net G_Net_and (hr.mono (by decide)) hg T.b_Net_and pass0) (pv 8) (pe_op (opg_two (op := .Mult) T.two_NM G_Net_mul (hr.mono (by decide)) hg T.b_Net_mul pass0) (pv 4) (pv 7))) (nomark _)) (pw_or1 (pt_cmpR (opg_ne T.e_Net G_Net_eq (hr.mono (by decide)) hg T.b_Net_eq pass0) (pe_op (opg_two (op := .Mult) T.two_NM G_Net_mul (hr.mono (by decide)) hg T.b_Net_mul pass0) (pe_op (opg_bin (op := .BitOr) T.o_Net_or T.sf_Net G_Net_or (hr.mono (by decide)) hg T.b_Net_or pass0) (pv 3) (pv 4)) (pv 7)) (pe_op (opg_bin (op := .BitOr) T.o_Net_or T.sf_Net G_Net_or (hr.mono (by decide)) hg T.b_Net_or pass0) (pv 8) (pe_op (opg_two (op := .Mult) T.two_NM G_Net_mul (hr.mono (by decide)) hg T.b_Net_mul pass0) (pv 4) (pv 7))) (nomark _)))))
      (pss_one (ps_ret pe_bl)) pss_nil)
      (pss_cons (ps_if (PW.pt (pw_or (pt_cmpR (opg_ne T.e_Net G_Net_eq (hr.mono (by decide)) hg T.b_Net_eq pass0) (pe_op (opg_two (op := .Mult) T.two_NM G_Net_mul (hr.mono (by decide)) hg T.b_Net_mul pass0) (pv 8) (pe_un (ung_inv T.o_Motion_invert G_Motion_invert (hr.mono (by decide)) hg T.b_Motion_invert pass0) (pv 7))) (pv 3) (nomark _)) (pw_or1 (pt_cmpR op_ne (peg_meth (pv 8) T.cl_Net T.m_Net_is_within G_Net_is_within (hr.mono (by decide)) hg T.b_Net_is_within .nil pass0 (pa_cons (pe_op (opg_two (op := .Mult) T.two_NM G_Net_mul (hr.mono (by decide)) hg T.b_Net_mul pass0) (pv 4) (pv 7)) pa_nil)) (peg_meth (pv 3) T.cl_Net T.m_Net_is_within G_Net_is_within (hr.mono (by decide)) hg T.b_Net_is_within .nil pass0 (pa_cons (pv 4) pa_nil)) (nomark _)))))
      (pss_one (ps_ret pe_bl)) pss_nil)
      (pss_one (ps_expr (pe_bm PySem.F.plainAttrs_list PySem.F.slot_list_append PySem.F.type_list_append mt_append (pv 5) (pa_cons (pv 7) pa_nil)))))))))))
      (pss_cons (ps_par (i := 10) (j := 11) rfl sc_law_right.nd rfl rfl (by decide) rfl rfl (pa_cons (pe_ix ix_seq (pv 5) (peg_call G_law_draw (hr.mono (by decide)) hg (by rfl) T.g_law_draw T.F_law_draw.kp T.b_law_draw .nil pass0 (pa_cons (pv 0) (pa_cons pe_int pa_nil))) (fun _ _ => rfl)) (pa_cons (pe_ix ix_seq (pv 5) (peg_call G_law_draw (hr.mono (by decide)) hg (by rfl) T.g_law_draw T.F_law_draw.kp T.b_law_draw .nil pass0 (pa_cons (pv 0) (pa_cons pe_int pa_nil))) (fun _ _ => rfl)) pa_nil)) rfl)
      (pss_one (ps_ret (pe_and (pe_cmpR (opg_eq T.e_Net G_Net_eq (hr.mono (by decide)) hg T.b_Net_eq pass0) (pe_op (opg_two (op := .Mult) T.two_NM G_Net_mul (hr.mono (by decide)) hg T.b_Net_mul pass0) (pe_op (opg_two (op := .Mult) T.two_NM G_Net_mul (hr.mono (by decide)) hg T.b_Net_mul pass0) (pv 3) (pv 10)) (pv 11)) (pe_op (opg_two (op := .Mult) T.two_NM G_Net_mul (hr.mono (by decide)) hg T.b_Net_mul pass0) (pv 3) (pe_op (opg_bin (op := .Mult) T.o_Motion_mul T.sf_Motion G_Motion_mul (hr.mono (by decide)) hg T.b_Motion_mul pass0) (pv 10) (pv 11))) (nomark _)) (pe_one (pe_cmpR (op_eqD hr.units) (peg_prop (pv 3) T.cl_Net T.p_Net_numbers G_Net_numbers (hr.mono (by decide)) hg T.b_Net_numbers .nil pass0) (pv 1) (nomark _)))))))))), ?_⟩
    walk_at "go"
    refine do_Net n1 fun z1 H1 S1 h1 => ?_
    walk_at "go"
    refine do_Net n2 fun z2 H2 S2 h2 => ?_
    walk_at "go"
    refine r_newL (sz100 (Nat.zero_le _)) fun f H3 S3 hf nf => ?_
    have s2 : Stp (some t) H H2 := (S1.trans S2).w
    have T2 : Tape H2 t := hT.mvS s2
    have nft : f ≠ t := tape_ne T2 nf
    have g1 := h1.mv S2
    have g2 := h2
    have hv2 := (hv.mv S1).mv S2
    clear h1 h2 S1 S2 hv hu iv0 iu0
    walk_at "go"
    refine do_law_kinds fun p H4 S4 hp np => ?_
    have s4 : Stp (some t) H2 H4 := (S3.trans S4).w
    have npf : p ≠ f := by rintro rfl; rw [hf] at np; cases np
    have T3 : Tape H3 t := T2.mvN S3
    have npt : p ≠ t := tape_ne T3 np
    have hf4 := At.lst S4 hf
    clear S3 S4 hf np T3
    refine ⟨p, rfl, ⟨_, SqL.of hp⟩, for_list (xs := KNS.map fun t => V.str t.1) (fun i σ H' => ∃ ms k6 k7 k8 k9 k10, σ = [some (.ref t), some v, some u, some z1, some z2, some (.ref f), k6, k7, k8, k9, k10, none] ∧ Stp (some t) H2 H' ∧ H' p = some (.lst (KNS.map fun t => V.str t.1)) ∧ H' f = some (.lst ms) ∧ ms.length = i ∧
      ∀ (j : Nat) (z : V), ms[j]? = some z → ∃ k m x y, MA ad.C_Motion H' z k m x y ∧ x.natAbs < 10 ^ 26 ∧ y.natAbs < 10 ^ 26) ⟨[], none, none, none, none, none, rfl, s4, hp, hf4, rfl, fun j z h => by cases h⟩ (fun i σ H' _ ⟨_, _, _, _, _, _, _, _, hp', _⟩ => SqL.of hp') ?_ ?_⟩
    · rintro i z σ H' hz ⟨ms, k6, k7, k8, k9, k10, rfl, s', hp', hf', hl, hms⟩
      have hi : i < 8 := by
        have := (List.getElem?_eq_some_iff.mp hz).1
        rw [List.length_map] at this
        exact this
      obtain ⟨k, m, ek, hk⟩ := kns_at hi
      rw [ek] at hz
      cases hz
      have TH := T2.mvS s'
      walk_at "go"
      refine do_law_place TH fun w5 px py H5 p1 p2 p3 p4 S5 i5 => ?_
      walk_at "go"
      refine do_Motion hk i5.k fun zm H6 S6 hm => ?_
      have bx : px.natAbs < 10 ^ 26 := by omega
      have by' : py.natAbs < 10 ^ 26 := by omega
      clear p1 p2 p3 p4
      have s6 : Stp (some t) H' H6 := S5.trans S6.w
      have T6 := TH.mvS s6
      have a1' := (g1.mv s').mv s6
      have a2' := (g2.mv s').mv s6
      have hv6 := (hv2.mv s').mv s6
      clear i5 S5 S6 TH
      walk_at "go"
      refine do_nmul T.i_Motion T.cl_Motion a1' hm L1 fun z3 A B C H7 S7 h3 im1 e1 => ?_
      have n3 := h3.1
      have hm7 := hm.mv S7
      have b1' := a1'.mv S7
      have b2' := a2'.mv S7
      have hv7 := hv6.mv S7
      have s7 : Stp (some t) H' H7 := s6.trans S7.w
      have T7 := T6.mvN S7
      clear hm a1' a2' hv6 s6 T6 S7
      walk_at "go"
      rename_i u8 g8
      refine do_law_image_net hk hv7 fun w9 a' b' c' H8 S8 i8 hn => ?_
      have e9 : [A, B, C] = [a', b', c'] := by
        obtain ⟨q1, q2, q3⟩ := (nf_of n3).uniq hn.nf (im_uniq hk im1 (im_of hk hn))
        have := n3.a1
        rw [q1, q2, q3 (by omega)]
      rw [← e9] at i8
      walk_at "go"
      refine r_nX rfl ?_
      walk_at "go"
      refine r_make ?_
      walk_at "go"
      have hd0 : IK K H8 (.ref ad.dfl0) [0, 0] := KT.k (ns := [0, 0]) T.t_dfl0
      refine do_Motion hk hd0 fun zm2 H9 S9 hm2 => ?_
      refine do_nmul T.i_Motion T.cl_Motion ((b1'.mv S8).mv S9) hm2 L1 fun z4 A2 B2 C2 H10 S10 h4 im2 e2 => ?_
      refine do_ne T.i_Net T.cl_Net (((h3.mv S8).mv S9).mv S10) h4 ?_
      walk_at "go"
      refine r_nX (im_same hk n3 h4.1 im1 im2) ?_
      have s10 : Stp none H7 H10 := (S8.trans S9).trans S10
      have c1' := b1'.mv s10
      have c2' := b2'.mv s10
      have c3' := h3.mv s10
      have cm := hm7.mv s10
      have sB : Stp (some t) H' H10 := s7.trans s10.w
      have T10 := T7.mvN s10
      clear h3 h4 b1' b2' hm7 s7 T7 i8 g8 hm2 S8 S9 S10 s10 hv7
      walk_at "go"
      have pc1 := n1.c1
      have pC := n3.c1
      have pA := n3.a1
      have lI := lb_im (M := 0) (show 1 ≤ a1 from n1.a1) pc1 (by omega) (by omega) pA pC e1
      refine ForR.ok ⟨3, fun _ σ H'' => ∃ k9 k10, σ = [some (.ref t), some v, some u, some z1, some z2, some (.ref f), some (.str k), some zm, some z3, k9, k10, none] ∧ Stp (some t) H10 H'', rfl, by decide, ⟨_, _, rfl, Stp.refl _ _⟩, ?_, ?_⟩
      · rintro n σ H'' hn' ⟨k9, k10, rfl, s2'⟩
        have TT := T10.mvS s2'
        have d1 := c1'.mv s2'
        have d3 := c3'.mv s2'
        walk_at "go"
        walk_at "dr"
        intro r1 H11 r10 r11 S11
        walk_at "go"
        walk_at "dr"
        intro r2 H12 r20 r21 S12
        walk_at "go"
        rename_i w13 H13 S13 i13
        have bm := mb hk (x := r1 - 10) (y := r2 - 10) (B := 10) (by omega) (by omega)
        refine do_law_turned hk i13.k fun w14 H14 S14 i14 => ?_
        walk_at "go"
        refine do_in (a := A) (b := B) (c := C) (by walk_at "up") i14 (co_small (by omega)) (co_small (by omega)) fun H15 S15 => ?_
        walk_at "go"
        refine do_in (a := a1) (b := b1) (c := c1) (x := r1 - 10) (y := r2 - 10) (by walk_at "up") (by walk_at "up") (co_small (by omega)) (co_small (by omega)) fun H16 S16 => ?_
        walk_at "go"
        refine r_nX (decide_eq_decide.mpr (im_in (by omega) (by omega) im1)) ?_
        walk_at "go"
        exact ⟨_, _, rfl, by walk_at "st"⟩
      · rintro σ H'' ⟨k9', k10', rfl, s2'⟩
        have d1 := c1'.mv s2'
        have d2 := c2'.mv s2'
        have d3 := c3'.mv s2'
        have dm := cm.mv s2'
        have sC : Stp (some t) H' H'' := sB.trans s2'
        clear c1' c2' c3' cm sB s2' T10
        have pc2 := n2.c1
        walk_at "go"
        refine do_and T.i_Net T.cl_Net d1 d2 L1 L2' fun y1 D1 D2 D3 G1 R1 f1 mt => ?_
        walk_at "go"
        refine do_nmul T.i_Motion T.cl_Motion f1 (dm.mv R1) (lb_mt f1.1 mt n1 n2 x1 x2 x3 x4) fun y2 E1 E2 E3 G2 R2 f2 im3 e3 => ?_
        walk_at "go"
        refine do_nmul T.i_Motion T.cl_Motion ((d2.mv R1).mv R2) ((dm.mv R1).mv R2) L2' fun y3 F1 F2 F3 G3 R3 f3 im4 e4 => ?_
        have nF := f3.1
        have lF := lb_im (M := 0) (show 1 ≤ a2 from n2.a1) pc2 (by omega) (by omega) nF.a1 nF.c1 e4
        refine do_and T.i_Net T.cl_Net (((d3.mv R1).mv R2).mv R3) f3 lI.1 lF.1 fun y4 J1 J2 J3 G4 R4 f4 mt2 => ?_
        refine do_ne T.i_Net T.cl_Net ((f2.mv R3).mv R4) f4 ?_
        walk_at "go"
        refine r_nX (im_meet hk f2.1 f4.1 im1 im4 mt im3 mt2) ?_
        have r4 : Stp none H'' G4 := ((R1.trans R2).trans R3).trans R4
        have j1 := d1.mv r4
        have j2 := d2.mv r4
        have j3 := d3.mv r4
        have jm := dm.mv r4
        have sD : Stp (some t) H' G4 := sC.trans r4.w
        clear d1 d2 d3 dm sC R1 R2 R3 R4 r4 f1 f2 f3 f4
        walk_at "go"
        refine do_or T.i_Net T.cl_Net j1 j2 (lb_2 L1) (lb_2 L2') fun y5 D1 D2 D3 G5 R5 f5 jn => ?_
        walk_at "go"
        refine do_nmul T.i_Motion T.cl_Motion f5 (jm.mv R5) (lb_jn f5.1 jn n1 L1) fun y6 E1 E2 E3 G6 R6 f6 im5 e5 => ?_
        walk_at "go"
        refine do_nmul T.i_Motion T.cl_Motion ((j2.mv R5).mv R6) ((jm.mv R5).mv R6) L2' fun y7 F1' F2' F3' G7 R7 f7 im6 e6 => ?_
        have nG := f7.1
        have lG := lb_im (M := 0) (show 1 ≤ a2 from n2.a1) pc2 (by omega) (by omega) nG.a1 nG.c1 e6
        refine do_or T.i_Net T.cl_Net (((j3.mv R5).mv R6).mv R7) f7 (lb_2 lI.1) (lb_2 lG.1) fun y8 J1 J2 J3 G8 R8 f8 jn2 => ?_
        refine do_ne T.i_Net T.cl_Net ((f6.mv R7).mv R8) f8 ?_
        walk_at "go"
        refine r_nX (im_join hk f6.1 f8.1 im1 im6 jn im5 jn2) ?_
        have r8 : Stp none G4 G8 := ((R5.trans R6).trans R7).trans R8
        have o1 := j1.mv r8
        have o2 := j2.mv r8
        have o3 := j3.mv r8
        have om := jm.mv r8
        have sE : Stp (some t) H' G8 := sD.trans r8.w
        clear j1 j2 j3 jm sD R5 R6 R7 R8 r8 f5 f6 f7 f8
        walk_at "go"
        refine do_inv om (Nat.lt_trans bx (by decide)) (Nat.lt_trans by' (by decide)) fun y9 k' n' G9 R9 i1' i2' f9 => ?_
        refine do_nmul T.i_Motion T.cl_Motion (o3.mv R9) f9 lI.1 fun y10 X1 X2 X3 G10 R10 f10 im7 e7 => ?_
        walk_at "go"
        refine do_ne T.i_Net T.cl_Net f10 ((o1.mv R9).mv R10) ?_
        walk_at "go"
        have im8 := im_comp im1 im7
        rw [i1'] at im8
        have hk1 : Kd "none" mone := by unfold Kd; exact List.mem_cons_self
        refine r_nX (im_same hk1 f10.1 n1 im8 im_one) ?_
        walk_at "go"
        have r10 : Stp none G8 G10 := R9.trans R10
        have q1 := o1.mv r10
        have q2 := o2.mv r10
        have q3 := o3.mv r10
        have qm := om.mv r10
        have sF : Stp (some t) H' G10 := sE.trans r10.w
        clear o1 o2 o3 om sE R9 R10 r10 f9 f10
        refine do_nmul T.i_Motion T.cl_Motion q2 qm L2' fun y11 W1 W2 W3 G11 R11 f11 im9 e9' => ?_
        walk_at "go"
        have nW := f11.1
        refine do_Net_is_within (q3.mv R11) f11 fun G12 R12 => ?_
        rw [wi_dec]
        walk_at "go"
        refine do_Net_is_within ((q1.mv R11).mv R12) ((q2.mv R11).mv R12) fun G13 R13 => ?_
        rw [wi_dec]
        walk_at "go"
        refine r_nX (decide_eq_decide.mpr (im_wi hk (by omega) (by have := nW.c1; omega) im1 im9)) ?_
        have r13 : Stp none G10 G13 := (R11.trans R12).trans R13
        have qm' := qm.mv r13
        have sG : Stp (some t) H' G13 := sF.trans r13.w
        have hf13 : G13 f = some (.lst ms) := At.lstS sG nft hf'
        have hp13 := At.lstS sG npt hp'
        clear q1 q2 q3 qm sF R11 R12 R13 r13 f11
        walk_at "go"
        refine ⟨.inl ⟨rfl, _, SqL.of hf13⟩, ?_⟩
        walk_at "go"
        refine r_app hf13 (Nat.lt_of_lt_of_le (show ms.length < 100 by omega) (by decide)) ?_
        walk_at "go"
        have mput : ∀ {z : V} {k : Str} {m : Mat} {x y : Int}, MA ad.C_Motion G13 z k m x y → MA ad.C_Motion (upd G13 f (.lst (ms ++ [zm]))) z k m x y := by
          rintro z k m x y ⟨hk, q0, dx, u, rfl, h1, h2⟩
          exact ⟨hk, q0, dx, u, rfl, by rw [upd_ne (by rintro rfl; rw [hf13] at h1; cases h1)]; exact h1, h2.put hf13⟩
        refine ⟨ms ++ [zm], _, _, _, _, _, rfl, (s'.trans sG).put nf, by rw [upd_ne npf]; exact hp13, upd_same, by rw [List.length_append, hl]; rfl, fun j x hx => ?_⟩
        by_cases hj : j < ms.length
        · rw [List.getElem?_append_left hj] at hx
          obtain ⟨k, m, x, y, m1, m2, m3⟩ := hms j x hx
          exact ⟨k, m, x, y, mput (m1.mv sG), m2, m3⟩
        · rw [List.getElem?_append_right (by omega)] at hx
          obtain ⟨h0, hx⟩ := List.getElem?_eq_some_iff.mp hx
          have h0' : j - ms.length = 0 := by simp only [List.length_cons, List.length_nil] at h0; omega
          simp only [h0', List.getElem_cons_zero] at hx
          subst hx
          exact ⟨k, m, px, py, mput qm', bx, by'⟩
    · rintro σ H' ⟨ms, k6, k7, k8, k9, k10, rfl, s', hp', hf', hl, hms⟩
      have hl8 : ms.length = 8 := by rw [hl]; rfl
      have TH := T2.mvS s'
      have d1 := g1.mv s'
      have iv := hv2.2.2.2.mv s'
      have sA : Stp (some t) H H' := s2.trans s'
      walk_at "go"
      walk_at "dr"
      intro r1 H5 r10 r11 S5
      have hf5 := At.lstS S5 nft hf'
      have hr1 : r1.toNat < ms.length := by omega
      obtain ⟨k1, m1, px1, py1, o1, o2, o3⟩ := hms _ _ (List.getElem?_eq_getElem hr1)
      refine r_ixLi hf5 r10 (List.getElem?_eq_getElem hr1) ?_
      walk_at "go"
      walk_at "dr"
      intro r2 H6 r20 r21 S6
      have hf6 := At.lstS S6 nft hf5
      have hr2 : r2.toNat < ms.length := by omega
      obtain ⟨k2, m2, px2, py2, o4, o5, o6⟩ := hms _ _ (List.getElem?_eq_getElem hr2)
      refine r_ixLi hf6 r20 (List.getElem?_eq_getElem hr2) ?_
      have e1 := (o1.mv S5).mv S6
      have e2 := (o4.mv S5).mv S6
      have d6 := (d1.mv S5).mv S6
      have iv6 := (iv.mv S5).mv S6
      have s6 : Stp (some t) H H6 := (sA.trans S5).trans S6
      generalize ms[r1.toNat] = w1 at e1
      generalize ms[r2.toNat] = w2 at e2
      clear o1 o4 d1 iv sA S5 S6 hms hf' hf5 hf6 hp'
      walk_at "go"
      refine do_nmul T.i_Motion T.cl_Motion d6 e1 L1 fun z3 A B C H7 S7 h3 im1 q1 => ?_
      have n3 := h3.1
      have lI := lb_im (M := 0) (show 1 ≤ a1 from n1.a1) (show 1 ≤ c1 from n1.c1) (by omega) (by omega) n3.a1 n3.c1 q1
      walk_at "go"
      refine do_nmul T.i_Motion T.cl_Motion h3 (e2.mv S7) lI.1 fun z4 A2 B2 C2 H8 S8 h4 im2 q2 => ?_
      walk_at "go"
      refine do_mul T.i_Motion T.cl_Motion ((e1.mv S7).mv S8) ((e2.mv S7).mv S8) (Nat.lt_trans o2 (by decide)) (Nat.lt_trans o3 (by decide)) fun z5 k5 H9 S9 h5 => ?_
      refine do_nmul T.i_Motion T.cl_Motion (((d6.mv S7).mv S8).mv S9) h5 L1 fun z6 A3 B3 C3 H10 S10 h6 im3 q3 => ?_
      refine do_eq T.i_Net T.cl_Net ((h4.mv S9).mv S10) h6 ?_
      rw [decide_eq_true (im_same h5.1 h4.1 h6.1 (im_comp im1 im2) im3)]
      have d10 := (((d6.mv S7).mv S8).mv S9).mv S10
      have iv10 := (((iv6.mv S7).mv S8).mv S9).mv S10
      have s10 : Stp (some t) H H10 := (((s6.trans S7.w).trans S8.w).trans S9.w).trans S10.w
      clear d6 iv6 e1 e2 h3 h4 h5 h6 S7 S8 S9 S10 s6
      walk_at "go"
      rw [decide_eq_true rfl]
      exact q _ s10
theorem do_law_right {t : Addr} {u : V} {a1 b1 c1 a2 b2 c2 : Int} (hT : Tape H t) (hv : NT 90 H v a1 b1 c1) (hu : NT 90 H u a2 b2 c2) (q : ∀ H', Stp (some t) H H' → Q (.bl true) H') : sp_law_right K [.ref t, v, u] H Q E := ⟨t, v, u, a1, b1, c1, a2, b2, c2, rfl, hT, hv, hu, q⟩
end
end Law

set_option Elab.async false
set_option linter.all false
set_option maxRecDepth 100000
set_option maxHeartbeats 4000000
namespace Law
open PySem PySem.Spec PyProof.Rows L2 MV
local macro_rules | `(tactic| walk_at "up") => `(tactic| first
  | assumption
  | (refine' IT.mv ?s ?g; (case s => assumption); (case g => walk_at "up"))
  | (refine' IT.k ?g; (case g => walk_at "up"))
  | (refine' IK.mv ?s ?g; (case s => assumption); (case g => walk_at "up"))
  | (refine' Tape.mvN ?s ?g; (case s => assumption); (case g => walk_at "up"))
  | (refine' Tape.mvS ?s ?g; (case s => assumption); (case g => walk_at "up"))
  | (refine' At.tup ?s ?g; (case s => assumption); (case g => walk_at "up"))
  | (refine' At.ins ?s ?g; (case s => assumption); (case g => walk_at "up"))
  | (refine' At.lst ?s ?g; (case s => assumption); (case g => walk_at "up"))
  | (refine' At.lstS ?s ?n ?g; (case s => assumption); (case n => assumption); (case g => walk_at "up"))
  | fail)
local macro_rules | `(tactic| walk_at "st") => `(tactic| first
  | assumption
  | exact Stp.refl _ _
  | (refine' Stp.w ?s; (case s => assumption))
  | (refine' Stp.trans ?g ?s; (case s => (first | assumption | (refine' Stp.w ?u; (case u => assumption)))); (case g => walk_at "st"))
  | fail)
local macro_rules | `(tactic| walk_at "bT") => `(tactic| first
  | decide
  | (simp only [Bool.not_eq_true', Bool.not_eq_false', decide_eq_true_eq, decide_eq_false_iff_not]; omega)
  | fail)
local macro_rules | `(tactic| walk_at "sd") => `(tactic| first | assumption | decide | omega | fail)
local macro_rules | `(tactic| walk_at "r") => `(tactic| first
  | (with_reducible refine r_seq ?_)
  | (with_reducible refine r_asg ?_)
  | ((with_reducible refine' r_var ?h ?k); (case h => rfl))
  | (with_reducible refine r_c ?_)
  | (with_reducible refine r_op ?_)
  | (with_reducible refine r_un ?_)
  | (with_reducible refine r_nil ?_)
  | (with_reducible refine r_cons ?_)
  | (with_reducible refine r_tup ?_)
  | (with_reducible refine r_lst ?_)
  | (with_reducible refine r_cbLen ?_)
  | (with_reducible refine r_cbInt ?_)
  | (with_reducible refine r_cbRepr ?_)
  | (with_reducible refine r_cbTup ?_)
  | (with_reducible refine r_cbLst ?_)
  | (with_reducible refine r_cb ?_)
  | (with_reducible refine r_prop ?_)
  | (with_reducible refine r_andV ?_)
  | (with_reducible refine r_orV ?_)
  | (with_reducible refine r_notV ?_)
  | (with_reducible refine r_chain ?_)
  | (with_reducible refine r_ifE ?_)
  | (with_reducible refine r_test ?_)
  | (with_reducible refine r_B ?_)
  | (with_reducible refine r_and ?_)
  | (with_reducible refine r_or ?_)
  | (with_reducible refine r_not ?_)
  | (with_reducible refine r_yes ?_)
  | (with_reducible refine r_k ?_)
  | (with_reducible refine r_kV ?_)
  | (with_reducible refine r_next ?_)
  | (with_reducible refine r_drop ?_)
  | (with_reducible refine r_ret ?_)
  | (with_reducible refine r_ifS ?_)
  | (with_reducible refine r_par ?_)
  | (with_reducible refine r_par1 ?_)
  | (with_reducible refine r_gname ?_)
  | (with_reducible refine r_gnil ?_)
  | (with_reducible refine r_gcons ?_)
  | ((with_reducible refine' r_unpack2 ?h ?k); (case h => walk_at "up"))
  | ((with_reducible refine' r_unpack3 ?h ?k); (case h => walk_at "up"))
  | (with_reducible refine r_add ?_)
  | (with_reducible refine r_sub ?_)
  | (with_reducible refine r_neg ?_)
  | ((with_reducible refine' r_mod ?h ?k); (case h => walk_at "sd"))
  | ((with_reducible refine' r_div ?h ?k); (case h => walk_at "sd"))
  | ((with_reducible refine' r_mul ?h ?k); (case h => walk_at "sd"))
  | ((with_reducible refine' r_mulW ?h ?k); (case h => walk_at "sd"))
  | ((with_reducible refine' r_pow ?h ?k); (case h => (show (0 : Int) ≤ _ ∧ _ ∧ _; decide)))
  | (with_reducible refine r_lt ?_)
  | (with_reducible refine r_le ?_)
  | (with_reducible refine r_gt ?_)
  | (with_reducible refine r_ge ?_)
  | (with_reducible refine r_eqI ?_)
  | (with_reducible refine r_neI ?_)
  | (with_reducible refine r_eqS ?_)
  | (with_reducible refine r_neS ?_)
  | ((with_reducible refine' r_eqT ?h ?g ?k); (case h => walk_at "up"); (case g => walk_at "up"))
  | ((with_reducible refine' r_neT ?h ?g ?k); (case h => walk_at "up"); (case g => walk_at "up"))
  | ((with_reducible refine' r_ix0 ?h ?k); (case h => walk_at "up"))
  | ((with_reducible refine' r_ix1 ?h ?k); (case h => walk_at "up"))
  | ((with_reducible refine' r_ix2 ?h ?k); (case h => walk_at "up"))
  | (with_reducible refine r_newI2 (fun v H2 S I => ?_))
  | (with_reducible refine r_newI3 (fun v H2 S I => ?_))
  | (with_reducible refine r_newL1 (fun p H2 S hp np => ?_))
  | (with_reducible refine r_newL2 (fun p H2 S hp np => ?_))
  | (with_reducible refine r_newL3 (fun p H2 S hp np => ?_))
  | (with_reducible refine r_T ?_)
  | (with_reducible refine r_F ?_)
  | fail)
local macro_rules | `(tactic| walk_at "go") => `(tactic| repeat (walk_at "r"))
local macro_rules | `(tactic| walk_at "r") => `(tactic| first
  | (with_reducible refine r_call0 ?_)
  | (with_reducible refine r_meth0 ?_)
  | (with_reducible refine r_make0 ?_)
  | (with_reducible refine r_isiII ?_)
  | (with_reducible refine r_isiIB ?_)
  | ((with_reducible refine' r_isiTT ?h ?k); (case h => walk_at "up"))
  | ((with_reducible refine' r_len2 ?h ?k); (case h => walk_at "up"))
  | ((with_reducible refine' r_len3 ?h ?k); (case h => walk_at "up"))
  | ((with_reducible refine' r_lenL ?h ?k); (case h => walk_at "up"))
  | (with_reducible refine r_int1 ?_)
  | (with_reducible refine r_int1B ?_)
  | (with_reducible refine r_nT ?_)
  | (with_reducible refine r_nF ?_)
  | (with_reducible refine r_gcd ?_)
  | (with_reducible refine r_gsub ?_)
  | (with_reducible refine r_fld ?_)
  | (with_reducible refine r_p6 ?_)
  | (with_reducible refine r_p9 ?_)
  | (with_reducible refine r_p10 ?_)
  | (with_reducible refine r_p11 ?_)
  | (with_reducible refine r_p12 ?_)
  | (with_reducible refine r_p18 ?_)
  | (with_reducible refine r_p20 ?_)
  | (with_reducible refine r_p26 ?_)
  | (with_reducible refine r_p27 ?_)
  | (with_reducible refine r_p30 ?_)
  | ((with_reducible refine' r_iF ?h ?k); (case h => walk_at "bT"))
  | ((with_reducible refine' r_iT ?h ?k); (case h => walk_at "bT"))
  | (with_reducible refine r_sfld ?_)
  | (with_reducible refine r_sl ?_)
  | (with_reducible refine r_noPart ?_)
  | (with_reducible refine r_part ?_)
  | (with_reducible refine r_pk ?_)
  | ((with_reducible refine' r_unl2 ?h ?k); (case h => walk_at "up"))
  | ((with_reducible refine' r_ixLi ?h ?h0 ?hn ?k); (case h => walk_at "up"); (case h0 => walk_at "sd"); (case hn => rfl))
  | fail)

local macro_rules | `(tactic| walk_at "r") => `(tactic| with_reducible refine do_is_integer ?_)
local macro_rules | `(tactic| walk_at "r") => `(tactic| first | ((with_reducible refine' do_is_place ?h ?k); (case h => walk_at "up")) | fail)
local macro_rules | `(tactic| walk_at "r") => `(tactic| first | ((with_reducible refine' do_check_place ?h ?k); (case h => walk_at "up")) | fail)
local macro_rules | `(tactic| walk_at "r") => `(tactic| first | ((with_reducible refine' do_are_numbers ?h ?k); (case h => assumption)) | fail)
local macro_rules | `(tactic| walk_at "up") => `(tactic| first | (refine' NA.mv ?s ?g; (case s => assumption); (case g => walk_at "up")) | fail)
local macro_rules | `(tactic| walk_at "r") => `(tactic| first
  | ((with_reducible refine' do_Net_size ?h ?k); (case h => walk_at "up"))
  | ((with_reducible refine' do_meth ?h ?hm ?k); (case h => walk_at "up"); (case hm => decide +kernel))
  | fail)

local macro_rules | `(tactic| walk_at "up") => `(tactic| first | (refine' MA.mv ?s ?g; (case s => assumption); (case g => walk_at "up")) | fail)
local macro_rules | `(tactic| walk_at "dr") => `(tactic| (refine do_law_draw (by walk_at "up") (by first | decide | omega) (by first | decide | omega) ?_))
local macro_rules | `(tactic| walk_at "r") => `(tactic| first
  | (with_reducible refine r_forL ?_)
  | (with_reducible refine r_forR ?_)
  | (with_reducible refine r_lcL ?_)
  | (with_reducible refine r_bm ?_)
  | (with_reducible refine r_neB ?_)
  | (with_reducible refine r_cmeth0 ?_)
  | ((with_reducible refine' do_Motion_kind ?h ?k); (case h => walk_at "up"))
  | ((with_reducible refine' do_Net_numbers ?h (fun u hu => ?k)); (case h => walk_at "up"))
  | fail)
section
variable {P : Program} {w : World} {K : PySem.W.Frag} {mg : Str → Option Value} {base : Heap} {ad : Ad} {H : Hp} {Q : VK} {E : XK} {i j x y : Int} {v : V}
def sp_law (K : PySem.W.Frag) : Sp := fun vs H Q _ => ∃ (l : Addr) (ns : List Int), vs = [.ref l] ∧ SqL K H l (ns.map V.int) ∧ ∀ H', Q (.bl true) H'
theorem sp_start (K : PySem.W.Frag) (H : Hp) (a : Addr) (ns : List Int) (hl : ns.length ≤ 63) (hS : SqL K H a (ns.map V.int)) : sp_law K [.ref a] H (fun v _ => v = .bl true) fun _ _ _ => False :=
  ⟨a, ns, rfl, hS, fun _ => rfl⟩
theorem nt_of {a b c m : Int} (n : Nm a b c) (l1 : a ≤ m) (l2 : c ≤ m) (hm : m ≤ 90) (h : IT H v [a, b, c]) : NT 90 H v a b c := ⟨n, by omega, by omega, h⟩
theorem ok_law (T : Txt w K mg ad) : FnG P w K mg base CX0 9 ad.law ad.law_d P_law (sp_law K) := by
  have G_Net_whole := ok_Net_whole (P := P) (w := w) (base := base) T
  have G_Net_mul := ok_Net_mul (P := P) (w := w) (base := base) T
  have G_Net_eq := ok_Net_eq (P := P) (w := w) (base := base) T
  have G_Motion_init := ok_Motion_init (P := P) (w := w) (base := base) T
  have G_law_tape := ok_law_tape (P := P) (w := w) (base := base) T
  have G_law_draw := ok_law_draw (P := P) (w := w) (base := base) T
  have G_law_net := ok_law_net (P := P) (w := w) (base := base) T
  have G_law_square := ok_law_square (P := P) (w := w) (base := base) T
  have G_law_right := ok_law_right (P := P) (w := w) (base := base) T
  obtain ⟨ds_i, vd_Motion_init, bd_Motion_init⟩ := T.bd_Motion_init
  refine Fun.gn T.F_law sc_law (fun vs H Q E h => ?_) (fun cdv A outer s H vs Q E hr hg h => ?_)
  · obtain ⟨l, ns, rfl, _⟩ := h
    rfl
  · obtain ⟨l, ns, rfl, hS, q⟩ := h
    refine ⟨_, (pss_cons (ps_set (i := 1) sc_law.nd rfl (Or.inl rfl) (peg_call G_law_tape (hr.mono (by decide)) hg (by rfl) T.g_law_tape T.F_law_tape.kp T.b_law_tape .nil pass0 (pa_cons (pv 0) pa_nil)))
      (pss_cons (ps_for PassesOwn.never rfl (pi_range1 rfl T.z_range (pa_cons pe_int pa_nil)) (pg_name (i := 2) sc_law.nd rfl (Or.inl rfl))
      (pss_cut (ps_set (i := 3) sc_law.nd rfl (Or.inl rfl) (pe_ifExp (pt_cmpR op_eq (peg_call G_law_draw (hr.mono (by decide)) hg (by rfl) T.g_law_draw T.F_law_draw.kp T.b_law_draw .nil pass0 (pa_cons (pv 1) (pa_cons pe_int pa_nil))) pe_int (nomark _)) (peg_call G_law_square (hr.mono (by decide)) hg (by rfl) T.g_law_square T.F_law_square.kp T.b_law_square .nil pass0 (pa_cons (pv 1) (pa_cons pe_int pa_nil))) (peg_call G_law_net (hr.mono (by decide)) hg (by rfl) T.g_law_net T.F_law_net.kp T.b_law_net .nil pass0 (pa_cons (pv 1) (pa_cons pe_int pa_nil)))))
      (pss_one (ps_if (PW.pt (pw_or (pt_not (pt_val (peg_call G_law_right (hr.mono (by decide)) hg (by rfl) T.g_law_right T.F_law_right.kp T.b_law_right .nil pass0 (pa_cons (pv 1) (pa_cons (peg_call G_law_net (hr.mono (by decide)) hg (by rfl) T.g_law_net T.F_law_net.kp T.b_law_net .nil pass0 (pa_cons (pv 1) (pa_cons pe_int pa_nil))) (pa_cons (pv 3) pa_nil)))))) (pw_or1 (pt_not (pt_val (peg_call G_law_right (hr.mono (by decide)) hg (by rfl) T.g_law_right T.F_law_right.kp T.b_law_right .nil pass0 (pa_cons (pv 1) (pa_cons (pv 3) (pa_cons (peg_call G_law_net (hr.mono (by decide)) hg (by rfl) T.g_law_net T.F_law_net.kp T.b_law_net .nil pass0 (pa_cons (pv 1) (pa_cons pe_int pa_nil))) pa_nil)))))))))
      (pss_one (ps_ret pe_bl)) pss_nil))))
      (pss_one (ps_ret (pe_cmpR (opg_eq T.e_Net G_Net_eq (hr.mono (by decide)) hg T.b_Net_eq pass0) (pe_op (opg_two (op := .Mult) T.two_NM G_Net_mul (hr.mono (by decide)) hg T.b_Net_mul pass0) (peg_cmeth0 (pe_glob (v := V.ref ad.C_Net) rfl T.g_Net rfl) T.cr_Net_whole T.cm_Net_whole G_Net_whole (hr.mono (by decide)) hg T.b_Net_whole pass0) (peg_make T.k_Motion G_Motion_init (hr.mono (by decide)) hg (by rfl) T.g_Motion T.b_Motion_init .nil pass0 (pa_cons pe_str (pa_cons (pe_tup (pa_cons pe_int (pa_cons pe_int pa_nil))) pa_nil)))) (peg_cmeth0 (pe_glob (v := V.ref ad.C_Net) rfl T.g_Net rfl) T.cr_Net_whole T.cm_Net_whole G_Net_whole (hr.mono (by decide)) hg T.b_Net_whole pass0) (nomark _)))))), ?_⟩
    walk_at "go"
    refine do_law_tape hS fun t H1 S1 nt T1 => ?_
    walk_at "go"
    refine ForR.ok ⟨2, fun _ σ H' => ∃ k2 k3, σ = [some (.ref l), some (.ref t), k2, k3] ∧ Stp (some t) H1 H', rfl, by decide, ⟨none, none, rfl, Stp.refl _ _⟩, ?_, ?_⟩
    · rintro i σ H' hi ⟨k2, k3, rfl, s'⟩
      have TH := T1.mvS s'
      walk_at "go"
      refine r_cut (fun σ' H2 => ∃ z a b c, σ' = [some (.ref l), some (.ref t), some (.int i), some z] ∧ Stp (some t) H1 H2 ∧ NT 90 H2 z a b c) ?_ ?_
      · walk_at "go"
        walk_at "dr"
        intro r1 H2 r10 r11 S2
        walk_at "go"
        refine r_ite (fun h => ?_) (fun h => ?_)
        · walk_at "go"
          refine do_law_square (by walk_at "up") fun z a b c H3 S3 hz => ?_
          exact ⟨z, a, b, c, rfl, by walk_at "st", hz⟩
        · walk_at "go"
          refine do_law_net (by walk_at "up") (by decide) (by decide) fun z a b c H3 n l1 l2 l3 S3 iz => ?_
          exact ⟨z, a, b, c, rfl, by walk_at "st", nt_of n l1 l2 (by decide) iz⟩
      · rintro σ' H2 ⟨z, a, b, c, rfl, s2, hz⟩
        have T2 := T1.mvS s2
        walk_at "go"
        refine do_law_net T2 (by decide) (by decide) fun z3 a3 b3 c3 H3 n3 l1 l2 l3 S3 i3 => ?_
        walk_at "go"
        refine do_law_right (T2.mvS S3) (nt_of n3 l1 l2 (by decide) i3) (hz.mv S3) fun H4 S4 => ?_
        walk_at "go"
        refine do_law_net ((T2.mvS S3).mvS S4) (by decide) (by decide) fun z5 a5 b5 c5 H5 n5 l4 l5 l6 S5 i5 => ?_
        walk_at "go"
        refine do_law_right (((T2.mvS S3).mvS S4).mvS S5) (((hz.mv S3).mv S4).mv S5) (nt_of n5 l4 l5 (by decide) i5) fun H6 S6 => ?_
        walk_at "go"
        exact ⟨_, _, rfl, (((s2.trans S3).trans S4).trans S5).trans S6⟩
    · rintro σ H' ⟨k2, k3, rfl, s'⟩
      walk_at "go"
      refine ⟨rfl, ?_⟩
      refine do_whole fun z1 H2 S2 h1 => ?_
      walk_at "go"
      rename_i w3 H3 S3 i3
      refine do_Motion (k := "swap") (m := (0, 1, 1, 0)) (by unfold Kd KNS; simp) i3.k fun z4 H4 S4 h4 => ?_
      refine do_nmul T.i_Motion T.cl_Motion ((h1.mv S3).mv S4) h4 (lb_whole (by decide)) fun z5 A B C H5 S5 h5 im e => ?_
      walk_at "go"
      refine ⟨rfl, ?_⟩
      refine do_whole fun z6 H6 S6 h6 => ?_
      refine do_eq T.i_Net T.cl_Net (h5.mv S6) h6 ?_
      rw [decide_eq_true (same_nums h5.1 h6.1 fun X Y => ⟨fun _ => lp_whole X Y, fun _ => by
        obtain ⟨x, y, rfl, rfl⟩ := kd_surj h4.1 X Y
        exact (im x y).mpr (lp_whole x y)⟩)]
      exact q _
end
local macro_rules | `(tactic| walk_at "mv_vals") => `(tactic| repeat first | exact Paired.nil | refine Paired.cons ?_ ?_ | exact rfl | exact ⟨_, rfl⟩)
local macro_rules | `(tactic| walk_at "mv_kt") => `(tactic| (refine' MV.kt_mk ?h ?z ?v; (case h => k_is); (case z => decide +kernel); (case v => walk_at "mv_vals")))
local macro_rules | `(tactic| walk_at "mv_lit") => `(tactic| repeat first | exact True.intro | refine ⟨⟨_, _, rfl, rfl⟩, ?_⟩)
local macro_rules | `(tactic| walk_at "mv_kd") => `(tactic| (refine' MV.kd_mk ?h ?l ?n ?v; (case h => k_is); (case n => k_is); (case l => walk_at "mv_lit"); (case v => first | exact rfl | exact ⟨_, rfl⟩)))
local macro_rules | `(tactic| walk_at "mv_kk") => `(tactic| (refine' MV.kk_mk ?h ?n ?v; (case h => k_is); (case n => decide +kernel); (case v => walk_at "mv_vals")))
local macro_rules | `(tactic| walk_at "mv_bind") => `(tactic| (refine ⟨?k, ?h, ?g⟩; (case h => (unfold bindArgs; dsimp only; rw [List.forIn_nil, pure_bind])); (case g => exact rfl)))
theorem all_mk {w : World} {K : PySem.W.Frag} {h : Heap} {mg : Str → Option Value} {fa : Addr} (X : K.In h) (G : h.Ns mainGlobals mg) (hfa : mg "law" = some (.ref fa))
    {IMAGES : Addr}
    {PROBE : Addr}
    {KINDS : Addr}
    {dfl0 : Addr}
    {im_none : Addr}
    {im_left : Addr}
    {im_half : Addr}
    {im_right : Addr}
    {im_flip : Addr}
    {im_mirror : Addr}
    {im_swap : Addr}
    {im_cross : Addr}
    {C_Motion : Addr}
    {C_Net : Addr}
    {is_integer : Addr} {od_is_integer an_is_integer : Option Addr} {sl_is_integer : Array (Option Value)} {oc_is_integer kV_is_integer dc_is_integer pm_is_integer cd_is_integer ct_is_integer : Value}
    {is_place : Addr} {od_is_place an_is_place : Option Addr} {sl_is_place : Array (Option Value)} {oc_is_place kV_is_place dc_is_place pm_is_place cd_is_place ct_is_place : Value}
    {check_place : Addr} {od_check_place an_check_place : Option Addr} {sl_check_place : Array (Option Value)} {oc_check_place kV_check_place dc_check_place pm_check_place cd_check_place ct_check_place : Value}
    {check_positive : Addr} {od_check_positive an_check_positive : Option Addr} {sl_check_positive : Array (Option Value)} {oc_check_positive kV_check_positive dc_check_positive pm_check_positive cd_check_positive ct_check_positive : Value}
    {are_numbers : Addr} {od_are_numbers an_are_numbers : Option Addr} {sl_are_numbers : Array (Option Value)} {oc_are_numbers kV_are_numbers dc_are_numbers pm_are_numbers cd_are_numbers ct_are_numbers : Value}
    {turned : Addr} {od_turned an_turned : Option Addr} {sl_turned : Array (Option Value)} {oc_turned kV_turned dc_turned pm_turned cd_turned ct_turned : Value}
    {kind_between : Addr} {od_kind_between an_kind_between : Option Addr} {sl_kind_between : Array (Option Value)} {oc_kind_between kV_kind_between dc_kind_between pm_kind_between cd_kind_between ct_kind_between : Value}
    {Motion_init : Addr} {od_Motion_init an_Motion_init : Option Addr} {sl_Motion_init : Array (Option Value)} {oc_Motion_init kV_Motion_init dc_Motion_init pm_Motion_init cd_Motion_init ct_Motion_init : Value}
    {T_Motion_init : Addr} {odd_Motion_init : Option Addr} {nd_Motion_init : Nat} {sld_Motion_init : Array (Option Value)}
    {Motion_kind : Addr} {od_Motion_kind an_Motion_kind : Option Addr} {sl_Motion_kind : Array (Option Value)} {oc_Motion_kind kV_Motion_kind dc_Motion_kind pm_Motion_kind cd_Motion_kind ct_Motion_kind : Value}
    {p_Motion_kind : Addr} {r_Motion_kind : List Value}
    {Motion_shift : Addr} {od_Motion_shift an_Motion_shift : Option Addr} {sl_Motion_shift : Array (Option Value)} {oc_Motion_shift kV_Motion_shift dc_Motion_shift pm_Motion_shift cd_Motion_shift ct_Motion_shift : Value}
    {p_Motion_shift : Addr} {r_Motion_shift : List Value}
    {Motion_mul : Addr} {od_Motion_mul an_Motion_mul : Option Addr} {sl_Motion_mul : Array (Option Value)} {oc_Motion_mul kV_Motion_mul dc_Motion_mul pm_Motion_mul cd_Motion_mul ct_Motion_mul : Value}
    {Motion_invert : Addr} {od_Motion_invert an_Motion_invert : Option Addr} {sl_Motion_invert : Array (Option Value)} {oc_Motion_invert kV_Motion_invert dc_Motion_invert pm_Motion_invert cd_Motion_invert ct_Motion_invert : Value}
    {two_shifts : Addr} {od_two_shifts an_two_shifts : Option Addr} {sl_two_shifts : Array (Option Value)} {oc_two_shifts kV_two_shifts dc_two_shifts pm_two_shifts cd_two_shifts ct_two_shifts : Value}
    {with_shift : Addr} {od_with_shift an_with_shift : Option Addr} {sl_with_shift : Array (Option Value)} {oc_with_shift kV_with_shift dc_with_shift pm_with_shift cd_with_shift ct_with_shift : Value}
    {spanned : Addr} {od_spanned an_spanned : Option Addr} {sl_spanned : Array (Option Value)} {oc_spanned kV_spanned dc_spanned pm_spanned cd_spanned ct_spanned : Value}
    {Net_init : Addr} {od_Net_init an_Net_init : Option Addr} {sl_Net_init : Array (Option Value)} {oc_Net_init kV_Net_init dc_Net_init pm_Net_init cd_Net_init ct_Net_init : Value}
    {Net_whole : Addr} {od_Net_whole an_Net_whole : Option Addr} {sl_Net_whole : Array (Option Value)} {oc_Net_whole kV_Net_whole dc_Net_whole pm_Net_whole cd_Net_whole ct_Net_whole : Value}
    {p_Net_whole : Addr} {r_Net_whole : List Value}
    {Net_numbers : Addr} {od_Net_numbers an_Net_numbers : Option Addr} {sl_Net_numbers : Array (Option Value)} {oc_Net_numbers kV_Net_numbers dc_Net_numbers pm_Net_numbers cd_Net_numbers ct_Net_numbers : Value}
    {p_Net_numbers : Addr} {r_Net_numbers : List Value}
    {Net_size : Addr} {od_Net_size an_Net_size : Option Addr} {sl_Net_size : Array (Option Value)} {oc_Net_size kV_Net_size dc_Net_size pm_Net_size cd_Net_size ct_Net_size : Value}
    {p_Net_size : Addr} {r_Net_size : List Value}
    {Net_contains : Addr} {od_Net_contains an_Net_contains : Option Addr} {sl_Net_contains : Array (Option Value)} {oc_Net_contains kV_Net_contains dc_Net_contains pm_Net_contains cd_Net_contains ct_Net_contains : Value}
    {Net_and : Addr} {od_Net_and an_Net_and : Option Addr} {sl_Net_and : Array (Option Value)} {oc_Net_and kV_Net_and dc_Net_and pm_Net_and cd_Net_and ct_Net_and : Value}
    {Net_or : Addr} {od_Net_or an_Net_or : Option Addr} {sl_Net_or : Array (Option Value)} {oc_Net_or kV_Net_or dc_Net_or pm_Net_or cd_Net_or ct_Net_or : Value}
    {Net_mul : Addr} {od_Net_mul an_Net_mul : Option Addr} {sl_Net_mul : Array (Option Value)} {oc_Net_mul kV_Net_mul dc_Net_mul pm_Net_mul cd_Net_mul ct_Net_mul : Value}
    {home : Addr} {od_home an_home : Option Addr} {sl_home : Array (Option Value)} {oc_home kV_home dc_home pm_home cd_home ct_home : Value}
    {Net_reduced : Addr} {od_Net_reduced an_Net_reduced : Option Addr} {sl_Net_reduced : Array (Option Value)} {oc_Net_reduced kV_Net_reduced dc_Net_reduced pm_Net_reduced cd_Net_reduced ct_Net_reduced : Value}
    {Net_is_within : Addr} {od_Net_is_within an_Net_is_within : Option Addr} {sl_Net_is_within : Array (Option Value)} {oc_Net_is_within kV_Net_is_within dc_Net_is_within pm_Net_is_within cd_Net_is_within ct_Net_is_within : Value}
    {Net_scaled : Addr} {od_Net_scaled an_Net_scaled : Option Addr} {sl_Net_scaled : Array (Option Value)} {oc_Net_scaled kV_Net_scaled dc_Net_scaled pm_Net_scaled cd_Net_scaled ct_Net_scaled : Value}
    {Net_eq : Addr} {od_Net_eq an_Net_eq : Option Addr} {sl_Net_eq : Array (Option Value)} {oc_Net_eq kV_Net_eq dc_Net_eq pm_Net_eq cd_Net_eq ct_Net_eq : Value}
    {law_tape : Addr} {od_law_tape an_law_tape : Option Addr} {sl_law_tape : Array (Option Value)} {oc_law_tape kV_law_tape dc_law_tape pm_law_tape cd_law_tape ct_law_tape : Value}
    {law_draw : Addr} {od_law_draw an_law_draw : Option Addr} {sl_law_draw : Array (Option Value)} {oc_law_draw kV_law_draw dc_law_draw pm_law_draw cd_law_draw ct_law_draw : Value}
    {law_great : Addr} {od_law_great an_law_great : Option Addr} {sl_law_great : Array (Option Value)} {oc_law_great kV_law_great dc_law_great pm_law_great cd_law_great ct_law_great : Value}
    {law_place : Addr} {od_law_place an_law_place : Option Addr} {sl_law_place : Array (Option Value)} {oc_law_place kV_law_place dc_law_place pm_law_place cd_law_place ct_law_place : Value}
    {law_net : Addr} {od_law_net an_law_net : Option Addr} {sl_law_net : Array (Option Value)} {oc_law_net kV_law_net dc_law_net pm_law_net cd_law_net ct_law_net : Value}
    {law_turned : Addr} {od_law_turned an_law_turned : Option Addr} {sl_law_turned : Array (Option Value)} {oc_law_turned kV_law_turned dc_law_turned pm_law_turned cd_law_turned ct_law_turned : Value}
    {law_kinds : Addr} {od_law_kinds an_law_kinds : Option Addr} {sl_law_kinds : Array (Option Value)} {oc_law_kinds kV_law_kinds dc_law_kinds pm_law_kinds cd_law_kinds ct_law_kinds : Value}
    {law_divisor : Addr} {od_law_divisor an_law_divisor : Option Addr} {sl_law_divisor : Array (Option Value)} {oc_law_divisor kV_law_divisor dc_law_divisor pm_law_divisor cd_law_divisor ct_law_divisor : Value}
    {law_net_of : Addr} {od_law_net_of an_law_net_of : Option Addr} {sl_law_net_of : Array (Option Value)} {oc_law_net_of kV_law_net_of dc_law_net_of pm_law_net_of cd_law_net_of ct_law_net_of : Value}
    {law_square : Addr} {od_law_square an_law_square : Option Addr} {sl_law_square : Array (Option Value)} {oc_law_square kV_law_square dc_law_square pm_law_square cd_law_square ct_law_square : Value}
    {law_image_net : Addr} {od_law_image_net an_law_image_net : Option Addr} {sl_law_image_net : Array (Option Value)} {oc_law_image_net kV_law_image_net dc_law_image_net pm_law_image_net cd_law_image_net ct_law_image_net : Value}
    {law_right : Addr} {od_law_right an_law_right : Option Addr} {sl_law_right : Array (Option Value)} {oc_law_right kV_law_right dc_law_right pm_law_right cd_law_right ct_law_right : Value}
    {law : Addr} {od_law an_law : Option Addr} {sl_law : Array (Option Value)} {oc_law kV_law dc_law pm_law cd_law ct_law : Value}
    (a_Motion : PySem.W.nsIn K mainGlobals "Motion" = some (some (.ref C_Motion)))
    (pg_Motion : PySem.W.plainGet K C_Motion Str.empty = true)
    (hd_Motion : PySem.W.hasDictIn K C_Motion = true)
    (po_Motion : PySem.W.plainOver K C_Motion = true)
    (sa_Motion : PySem.W.findIn K (.ref C_Motion) "__setattr__" = some (some (.builtin "object.__setattr__")))
    (mk_Motion : PySem.W.makesIn K C_Motion = true)
    (kc_Motion : PySem.W.keepIn K (.ref C_Motion) = true)
    (a_Net : PySem.W.nsIn K mainGlobals "Net" = some (some (.ref C_Net)))
    (pg_Net : PySem.W.plainGet K C_Net Str.empty = true)
    (hd_Net : PySem.W.hasDictIn K C_Net = true)
    (po_Net : PySem.W.plainOver K C_Net = true)
    (sa_Net : PySem.W.findIn K (.ref C_Net) "__setattr__" = some (some (.builtin "object.__setattr__")))
    (mk_Net : PySem.W.makesIn K C_Net = true)
    (kc_Net : PySem.W.keepIn K (.ref C_Net) = true)
    (a_is_integer : PySem.W.nsIn K mainGlobals "is_integer" = some (some (.ref is_integer)))
    (l_is_integer : K.lookup is_integer = some ⟨oc_is_integer, od_is_integer, .func (PySem.W.fnOf "is_integer" "is_integer" (defArgs s_is_integer) (defBody s_is_integer) (defScope s_is_integer) .none kV_is_integer dc_is_integer pm_is_integer an_is_integer cd_is_integer ct_is_integer), sl_is_integer⟩)
    (c_is_integer : PySem.W.codeIn K cd_is_integer "is_integer" = true)
    (k_is_integer : PySem.W.keepIn K (.ref is_integer) = true)
    (a_is_place : PySem.W.nsIn K mainGlobals "is_place" = some (some (.ref is_place)))
    (l_is_place : K.lookup is_place = some ⟨oc_is_place, od_is_place, .func (PySem.W.fnOf "is_place" "is_place" (defArgs s_is_place) (defBody s_is_place) (defScope s_is_place) .none kV_is_place dc_is_place pm_is_place an_is_place cd_is_place ct_is_place), sl_is_place⟩)
    (c_is_place : PySem.W.codeIn K cd_is_place "is_place" = true)
    (k_is_place : PySem.W.keepIn K (.ref is_place) = true)
    (a_check_place : PySem.W.nsIn K mainGlobals "check_place" = some (some (.ref check_place)))
    (l_check_place : K.lookup check_place = some ⟨oc_check_place, od_check_place, .func (PySem.W.fnOf "check_place" "check_place" (defArgs s_check_place) (defBody s_check_place) (defScope s_check_place) .none kV_check_place dc_check_place pm_check_place an_check_place cd_check_place ct_check_place), sl_check_place⟩)
    (c_check_place : PySem.W.codeIn K cd_check_place "check_place" = true)
    (k_check_place : PySem.W.keepIn K (.ref check_place) = true)
    (a_check_positive : PySem.W.nsIn K mainGlobals "check_positive" = some (some (.ref check_positive)))
    (l_check_positive : K.lookup check_positive = some ⟨oc_check_positive, od_check_positive, .func (PySem.W.fnOf "check_positive" "check_positive" (defArgs s_check_positive) (defBody s_check_positive) (defScope s_check_positive) .none kV_check_positive dc_check_positive pm_check_positive an_check_positive cd_check_positive ct_check_positive), sl_check_positive⟩)
    (c_check_positive : PySem.W.codeIn K cd_check_positive "check_positive" = true)
    (k_check_positive : PySem.W.keepIn K (.ref check_positive) = true)
    (a_are_numbers : PySem.W.nsIn K mainGlobals "are_numbers" = some (some (.ref are_numbers)))
    (l_are_numbers : K.lookup are_numbers = some ⟨oc_are_numbers, od_are_numbers, .func (PySem.W.fnOf "are_numbers" "are_numbers" (defArgs s_are_numbers) (defBody s_are_numbers) (defScope s_are_numbers) .none kV_are_numbers dc_are_numbers pm_are_numbers an_are_numbers cd_are_numbers ct_are_numbers), sl_are_numbers⟩)
    (c_are_numbers : PySem.W.codeIn K cd_are_numbers "are_numbers" = true)
    (k_are_numbers : PySem.W.keepIn K (.ref are_numbers) = true)
    (a_turned : PySem.W.nsIn K mainGlobals "turned" = some (some (.ref turned)))
    (l_turned : K.lookup turned = some ⟨oc_turned, od_turned, .func (PySem.W.fnOf "turned" "turned" (defArgs s_turned) (defBody s_turned) (defScope s_turned) .none kV_turned dc_turned pm_turned an_turned cd_turned ct_turned), sl_turned⟩)
    (c_turned : PySem.W.codeIn K cd_turned "turned" = true)
    (k_turned : PySem.W.keepIn K (.ref turned) = true)
    (a_kind_between : PySem.W.nsIn K mainGlobals "kind_between" = some (some (.ref kind_between)))
    (l_kind_between : K.lookup kind_between = some ⟨oc_kind_between, od_kind_between, .func (PySem.W.fnOf "kind_between" "kind_between" (defArgs s_kind_between) (defBody s_kind_between) (defScope s_kind_between) .none kV_kind_between dc_kind_between pm_kind_between an_kind_between cd_kind_between ct_kind_between), sl_kind_between⟩)
    (c_kind_between : PySem.W.codeIn K cd_kind_between "kind_between" = true)
    (k_kind_between : PySem.W.keepIn K (.ref kind_between) = true)
    (a_Motion_init : PySem.W.findIn K (.ref C_Motion) "__init__" = some (some (.ref Motion_init)))
    (i_Motion_init : PySem.W.isFn K (.ref Motion_init) = true)
    (l_Motion_init : K.lookup Motion_init = some ⟨oc_Motion_init, od_Motion_init, .func (PySem.W.fnOf "__init__" "Motion.__init__" (defArgs s_Motion_init) (defBody s_Motion_init) (defScope s_Motion_init) (.ref T_Motion_init) kV_Motion_init dc_Motion_init pm_Motion_init an_Motion_init cd_Motion_init ct_Motion_init), sl_Motion_init⟩)
    (c_Motion_init : PySem.W.codeIn K cd_Motion_init "Motion.__init__" = true)
    (k_Motion_init : PySem.W.keepIn K (.ref Motion_init) = true)
    (dd_Motion_init : K.lookup T_Motion_init = some ⟨.type "tuple", odd_Motion_init, .seq #[.ref dfl0] nd_Motion_init, sld_Motion_init⟩)
    (a_Motion_kind : PySem.W.findIn K (.ref C_Motion) "kind" = some (some (.ref p_Motion_kind)))
    (g1_Motion_kind : PySem.W.specialIn K (.ref p_Motion_kind) "__get__" = some (some (.builtin "property.__get__")))
    (g2_Motion_kind : PySem.W.takesIn K (.ref p_Motion_kind) = some true)
    (g3_Motion_kind : PySem.W.recIn K p_Motion_kind "property" = some (.ref Motion_kind :: r_Motion_kind))
    (l_Motion_kind : K.lookup Motion_kind = some ⟨oc_Motion_kind, od_Motion_kind, .func (PySem.W.fnOf "kind" "Motion.kind" (defArgs s_Motion_kind) (defBody s_Motion_kind) (defScope s_Motion_kind) .none kV_Motion_kind dc_Motion_kind pm_Motion_kind an_Motion_kind cd_Motion_kind ct_Motion_kind), sl_Motion_kind⟩)
    (c_Motion_kind : PySem.W.codeIn K cd_Motion_kind "Motion.kind" = true)
    (k_Motion_kind : PySem.W.keepIn K (.ref Motion_kind) = true)
    (a_Motion_shift : PySem.W.findIn K (.ref C_Motion) "shift" = some (some (.ref p_Motion_shift)))
    (g1_Motion_shift : PySem.W.specialIn K (.ref p_Motion_shift) "__get__" = some (some (.builtin "property.__get__")))
    (g2_Motion_shift : PySem.W.takesIn K (.ref p_Motion_shift) = some true)
    (g3_Motion_shift : PySem.W.recIn K p_Motion_shift "property" = some (.ref Motion_shift :: r_Motion_shift))
    (l_Motion_shift : K.lookup Motion_shift = some ⟨oc_Motion_shift, od_Motion_shift, .func (PySem.W.fnOf "shift" "Motion.shift" (defArgs s_Motion_shift) (defBody s_Motion_shift) (defScope s_Motion_shift) .none kV_Motion_shift dc_Motion_shift pm_Motion_shift an_Motion_shift cd_Motion_shift ct_Motion_shift), sl_Motion_shift⟩)
    (c_Motion_shift : PySem.W.codeIn K cd_Motion_shift "Motion.shift" = true)
    (k_Motion_shift : PySem.W.keepIn K (.ref Motion_shift) = true)
    (a_Motion_mul : PySem.W.findIn K (.ref C_Motion) "__mul__" = some (some (.ref Motion_mul)))
    (i_Motion_mul : PySem.W.isFn K (.ref Motion_mul) = true)
    (sf_Motion : PySem.W.selfFirst K C_Motion = true)
    (l_Motion_mul : K.lookup Motion_mul = some ⟨oc_Motion_mul, od_Motion_mul, .func (PySem.W.fnOf "__mul__" "Motion.__mul__" (defArgs s_Motion_mul) (defBody s_Motion_mul) (defScope s_Motion_mul) .none kV_Motion_mul dc_Motion_mul pm_Motion_mul an_Motion_mul cd_Motion_mul ct_Motion_mul), sl_Motion_mul⟩)
    (c_Motion_mul : PySem.W.codeIn K cd_Motion_mul "Motion.__mul__" = true)
    (k_Motion_mul : PySem.W.keepIn K (.ref Motion_mul) = true)
    (a_Motion_invert : PySem.W.findIn K (.ref C_Motion) "__invert__" = some (some (.ref Motion_invert)))
    (i_Motion_invert : PySem.W.isFn K (.ref Motion_invert) = true)
    (l_Motion_invert : K.lookup Motion_invert = some ⟨oc_Motion_invert, od_Motion_invert, .func (PySem.W.fnOf "__invert__" "Motion.__invert__" (defArgs s_Motion_invert) (defBody s_Motion_invert) (defScope s_Motion_invert) .none kV_Motion_invert dc_Motion_invert pm_Motion_invert an_Motion_invert cd_Motion_invert ct_Motion_invert), sl_Motion_invert⟩)
    (c_Motion_invert : PySem.W.codeIn K cd_Motion_invert "Motion.__invert__" = true)
    (k_Motion_invert : PySem.W.keepIn K (.ref Motion_invert) = true)
    (a_two_shifts : PySem.W.nsIn K mainGlobals "two_shifts" = some (some (.ref two_shifts)))
    (l_two_shifts : K.lookup two_shifts = some ⟨oc_two_shifts, od_two_shifts, .func (PySem.W.fnOf "two_shifts" "two_shifts" (defArgs s_two_shifts) (defBody s_two_shifts) (defScope s_two_shifts) .none kV_two_shifts dc_two_shifts pm_two_shifts an_two_shifts cd_two_shifts ct_two_shifts), sl_two_shifts⟩)
    (c_two_shifts : PySem.W.codeIn K cd_two_shifts "two_shifts" = true)
    (k_two_shifts : PySem.W.keepIn K (.ref two_shifts) = true)
    (a_with_shift : PySem.W.nsIn K mainGlobals "with_shift" = some (some (.ref with_shift)))
    (l_with_shift : K.lookup with_shift = some ⟨oc_with_shift, od_with_shift, .func (PySem.W.fnOf "with_shift" "with_shift" (defArgs s_with_shift) (defBody s_with_shift) (defScope s_with_shift) .none kV_with_shift dc_with_shift pm_with_shift an_with_shift cd_with_shift ct_with_shift), sl_with_shift⟩)
    (c_with_shift : PySem.W.codeIn K cd_with_shift "with_shift" = true)
    (k_with_shift : PySem.W.keepIn K (.ref with_shift) = true)
    (a_spanned : PySem.W.nsIn K mainGlobals "spanned" = some (some (.ref spanned)))
    (l_spanned : K.lookup spanned = some ⟨oc_spanned, od_spanned, .func (PySem.W.fnOf "spanned" "spanned" (defArgs s_spanned) (defBody s_spanned) (defScope s_spanned) .none kV_spanned dc_spanned pm_spanned an_spanned cd_spanned ct_spanned), sl_spanned⟩)
    (c_spanned : PySem.W.codeIn K cd_spanned "spanned" = true)
    (k_spanned : PySem.W.keepIn K (.ref spanned) = true)
    (a_Net_init : PySem.W.findIn K (.ref C_Net) "__init__" = some (some (.ref Net_init)))
    (i_Net_init : PySem.W.isFn K (.ref Net_init) = true)
    (l_Net_init : K.lookup Net_init = some ⟨oc_Net_init, od_Net_init, .func (PySem.W.fnOf "__init__" "Net.__init__" (defArgs s_Net_init) (defBody s_Net_init) (defScope s_Net_init) .none kV_Net_init dc_Net_init pm_Net_init an_Net_init cd_Net_init ct_Net_init), sl_Net_init⟩)
    (c_Net_init : PySem.W.codeIn K cd_Net_init "Net.__init__" = true)
    (k_Net_init : PySem.W.keepIn K (.ref Net_init) = true)
    (a_Net_whole : PySem.W.findCls K (.ref C_Net) (.type "type") "whole" = some (.get (.builtin "classmethod.__get__") (.ref p_Net_whole) .none (.ref C_Net)))
    (rc_Net_whole : PySem.W.recIn K p_Net_whole "classmethod" = some (.ref Net_whole :: r_Net_whole))
    (fi_Net_whole : PySem.W.fnIn K Net_whole = true)
    (rd_Net_whole : PySem.W.readsIn K C_Net (.type "type") = true)
    (ga_Net_whole : PySem.W.specialIn K (.ref C_Net) "__getattribute__" = some (some (.builtin "type.__getattribute__")))
    (l_Net_whole : K.lookup Net_whole = some ⟨oc_Net_whole, od_Net_whole, .func (PySem.W.fnOf "whole" "Net.whole" (defArgs s_Net_whole) (defBody s_Net_whole) (defScope s_Net_whole) .none kV_Net_whole dc_Net_whole pm_Net_whole an_Net_whole cd_Net_whole ct_Net_whole), sl_Net_whole⟩)
    (c_Net_whole : PySem.W.codeIn K cd_Net_whole "Net.whole" = true)
    (k_Net_whole : PySem.W.keepIn K (.ref Net_whole) = true)
    (a_Net_numbers : PySem.W.findIn K (.ref C_Net) "numbers" = some (some (.ref p_Net_numbers)))
    (g1_Net_numbers : PySem.W.specialIn K (.ref p_Net_numbers) "__get__" = some (some (.builtin "property.__get__")))
    (g2_Net_numbers : PySem.W.takesIn K (.ref p_Net_numbers) = some true)
    (g3_Net_numbers : PySem.W.recIn K p_Net_numbers "property" = some (.ref Net_numbers :: r_Net_numbers))
    (l_Net_numbers : K.lookup Net_numbers = some ⟨oc_Net_numbers, od_Net_numbers, .func (PySem.W.fnOf "numbers" "Net.numbers" (defArgs s_Net_numbers) (defBody s_Net_numbers) (defScope s_Net_numbers) .none kV_Net_numbers dc_Net_numbers pm_Net_numbers an_Net_numbers cd_Net_numbers ct_Net_numbers), sl_Net_numbers⟩)
    (c_Net_numbers : PySem.W.codeIn K cd_Net_numbers "Net.numbers" = true)
    (k_Net_numbers : PySem.W.keepIn K (.ref Net_numbers) = true)
    (a_Net_size : PySem.W.findIn K (.ref C_Net) "size" = some (some (.ref p_Net_size)))
    (g1_Net_size : PySem.W.specialIn K (.ref p_Net_size) "__get__" = some (some (.builtin "property.__get__")))
    (g2_Net_size : PySem.W.takesIn K (.ref p_Net_size) = some true)
    (g3_Net_size : PySem.W.recIn K p_Net_size "property" = some (.ref Net_size :: r_Net_size))
    (l_Net_size : K.lookup Net_size = some ⟨oc_Net_size, od_Net_size, .func (PySem.W.fnOf "size" "Net.size" (defArgs s_Net_size) (defBody s_Net_size) (defScope s_Net_size) .none kV_Net_size dc_Net_size pm_Net_size an_Net_size cd_Net_size ct_Net_size), sl_Net_size⟩)
    (c_Net_size : PySem.W.codeIn K cd_Net_size "Net.size" = true)
    (k_Net_size : PySem.W.keepIn K (.ref Net_size) = true)
    (a_Net_contains : PySem.W.findIn K (.ref C_Net) "__contains__" = some (some (.ref Net_contains)))
    (i_Net_contains : PySem.W.isFn K (.ref Net_contains) = true)
    (l_Net_contains : K.lookup Net_contains = some ⟨oc_Net_contains, od_Net_contains, .func (PySem.W.fnOf "__contains__" "Net.__contains__" (defArgs s_Net_contains) (defBody s_Net_contains) (defScope s_Net_contains) .none kV_Net_contains dc_Net_contains pm_Net_contains an_Net_contains cd_Net_contains ct_Net_contains), sl_Net_contains⟩)
    (c_Net_contains : PySem.W.codeIn K cd_Net_contains "Net.__contains__" = true)
    (k_Net_contains : PySem.W.keepIn K (.ref Net_contains) = true)
    (a_Net_and : PySem.W.findIn K (.ref C_Net) "__and__" = some (some (.ref Net_and)))
    (i_Net_and : PySem.W.isFn K (.ref Net_and) = true)
    (sf_Net : PySem.W.selfFirst K C_Net = true)
    (l_Net_and : K.lookup Net_and = some ⟨oc_Net_and, od_Net_and, .func (PySem.W.fnOf "__and__" "Net.__and__" (defArgs s_Net_and) (defBody s_Net_and) (defScope s_Net_and) .none kV_Net_and dc_Net_and pm_Net_and an_Net_and cd_Net_and ct_Net_and), sl_Net_and⟩)
    (c_Net_and : PySem.W.codeIn K cd_Net_and "Net.__and__" = true)
    (k_Net_and : PySem.W.keepIn K (.ref Net_and) = true)
    (a_Net_or : PySem.W.findIn K (.ref C_Net) "__or__" = some (some (.ref Net_or)))
    (i_Net_or : PySem.W.isFn K (.ref Net_or) = true)
    (l_Net_or : K.lookup Net_or = some ⟨oc_Net_or, od_Net_or, .func (PySem.W.fnOf "__or__" "Net.__or__" (defArgs s_Net_or) (defBody s_Net_or) (defScope s_Net_or) .none kV_Net_or dc_Net_or pm_Net_or an_Net_or cd_Net_or ct_Net_or), sl_Net_or⟩)
    (c_Net_or : PySem.W.codeIn K cd_Net_or "Net.__or__" = true)
    (k_Net_or : PySem.W.keepIn K (.ref Net_or) = true)
    (a_Net_mul : PySem.W.findIn K (.ref C_Net) "__mul__" = some (some (.ref Net_mul)))
    (i_Net_mul : PySem.W.isFn K (.ref Net_mul) = true)
    (l_Net_mul : K.lookup Net_mul = some ⟨oc_Net_mul, od_Net_mul, .func (PySem.W.fnOf "__mul__" "Net.__mul__" (defArgs s_Net_mul) (defBody s_Net_mul) (defScope s_Net_mul) .none kV_Net_mul dc_Net_mul pm_Net_mul an_Net_mul cd_Net_mul ct_Net_mul), sl_Net_mul⟩)
    (c_Net_mul : PySem.W.codeIn K cd_Net_mul "Net.__mul__" = true)
    (k_Net_mul : PySem.W.keepIn K (.ref Net_mul) = true)
    (a_home : PySem.W.nsIn K mainGlobals "home" = some (some (.ref home)))
    (l_home : K.lookup home = some ⟨oc_home, od_home, .func (PySem.W.fnOf "home" "home" (defArgs s_home) (defBody s_home) (defScope s_home) .none kV_home dc_home pm_home an_home cd_home ct_home), sl_home⟩)
    (c_home : PySem.W.codeIn K cd_home "home" = true)
    (k_home : PySem.W.keepIn K (.ref home) = true)
    (a_Net_reduced : PySem.W.findIn K (.ref C_Net) "reduced" = some (some (.ref Net_reduced)))
    (i_Net_reduced : PySem.W.isFn K (.ref Net_reduced) = true)
    (l_Net_reduced : K.lookup Net_reduced = some ⟨oc_Net_reduced, od_Net_reduced, .func (PySem.W.fnOf "reduced" "Net.reduced" (defArgs s_Net_reduced) (defBody s_Net_reduced) (defScope s_Net_reduced) .none kV_Net_reduced dc_Net_reduced pm_Net_reduced an_Net_reduced cd_Net_reduced ct_Net_reduced), sl_Net_reduced⟩)
    (c_Net_reduced : PySem.W.codeIn K cd_Net_reduced "Net.reduced" = true)
    (k_Net_reduced : PySem.W.keepIn K (.ref Net_reduced) = true)
    (a_Net_is_within : PySem.W.findIn K (.ref C_Net) "is_within" = some (some (.ref Net_is_within)))
    (i_Net_is_within : PySem.W.isFn K (.ref Net_is_within) = true)
    (l_Net_is_within : K.lookup Net_is_within = some ⟨oc_Net_is_within, od_Net_is_within, .func (PySem.W.fnOf "is_within" "Net.is_within" (defArgs s_Net_is_within) (defBody s_Net_is_within) (defScope s_Net_is_within) .none kV_Net_is_within dc_Net_is_within pm_Net_is_within an_Net_is_within cd_Net_is_within ct_Net_is_within), sl_Net_is_within⟩)
    (c_Net_is_within : PySem.W.codeIn K cd_Net_is_within "Net.is_within" = true)
    (k_Net_is_within : PySem.W.keepIn K (.ref Net_is_within) = true)
    (a_Net_scaled : PySem.W.findIn K (.ref C_Net) "scaled" = some (some (.ref Net_scaled)))
    (i_Net_scaled : PySem.W.isFn K (.ref Net_scaled) = true)
    (l_Net_scaled : K.lookup Net_scaled = some ⟨oc_Net_scaled, od_Net_scaled, .func (PySem.W.fnOf "scaled" "Net.scaled" (defArgs s_Net_scaled) (defBody s_Net_scaled) (defScope s_Net_scaled) .none kV_Net_scaled dc_Net_scaled pm_Net_scaled an_Net_scaled cd_Net_scaled ct_Net_scaled), sl_Net_scaled⟩)
    (c_Net_scaled : PySem.W.codeIn K cd_Net_scaled "Net.scaled" = true)
    (k_Net_scaled : PySem.W.keepIn K (.ref Net_scaled) = true)
    (a_Net_eq : PySem.W.findIn K (.ref C_Net) "__eq__" = some (some (.ref Net_eq)))
    (i_Net_eq : PySem.W.isFn K (.ref Net_eq) = true)
    (ne_Net : PySem.W.findIn K (.ref C_Net) "__ne__" = some (some (.builtin "object.__ne__")))
    (ob_Net : PySem.W.subIn K (.ref C_Net) (.type "object") = some true)
    (l_Net_eq : K.lookup Net_eq = some ⟨oc_Net_eq, od_Net_eq, .func (PySem.W.fnOf "__eq__" "Net.__eq__" (defArgs s_Net_eq) (defBody s_Net_eq) (defScope s_Net_eq) .none kV_Net_eq dc_Net_eq pm_Net_eq an_Net_eq cd_Net_eq ct_Net_eq), sl_Net_eq⟩)
    (c_Net_eq : PySem.W.codeIn K cd_Net_eq "Net.__eq__" = true)
    (k_Net_eq : PySem.W.keepIn K (.ref Net_eq) = true)
    (a_law_tape : PySem.W.nsIn K mainGlobals "_law_tape" = some (some (.ref law_tape)))
    (l_law_tape : K.lookup law_tape = some ⟨oc_law_tape, od_law_tape, .func (PySem.W.fnOf "_law_tape" "_law_tape" (defArgs s_law_tape) (defBody s_law_tape) (defScope s_law_tape) .none kV_law_tape dc_law_tape pm_law_tape an_law_tape cd_law_tape ct_law_tape), sl_law_tape⟩)
    (c_law_tape : PySem.W.codeIn K cd_law_tape "_law_tape" = true)
    (k_law_tape : PySem.W.keepIn K (.ref law_tape) = true)
    (a_law_draw : PySem.W.nsIn K mainGlobals "_law_draw" = some (some (.ref law_draw)))
    (l_law_draw : K.lookup law_draw = some ⟨oc_law_draw, od_law_draw, .func (PySem.W.fnOf "_law_draw" "_law_draw" (defArgs s_law_draw) (defBody s_law_draw) (defScope s_law_draw) .none kV_law_draw dc_law_draw pm_law_draw an_law_draw cd_law_draw ct_law_draw), sl_law_draw⟩)
    (c_law_draw : PySem.W.codeIn K cd_law_draw "_law_draw" = true)
    (k_law_draw : PySem.W.keepIn K (.ref law_draw) = true)
    (a_law_great : PySem.W.nsIn K mainGlobals "_law_great" = some (some (.ref law_great)))
    (l_law_great : K.lookup law_great = some ⟨oc_law_great, od_law_great, .func (PySem.W.fnOf "_law_great" "_law_great" (defArgs s_law_great) (defBody s_law_great) (defScope s_law_great) .none kV_law_great dc_law_great pm_law_great an_law_great cd_law_great ct_law_great), sl_law_great⟩)
    (c_law_great : PySem.W.codeIn K cd_law_great "_law_great" = true)
    (k_law_great : PySem.W.keepIn K (.ref law_great) = true)
    (a_law_place : PySem.W.nsIn K mainGlobals "_law_place" = some (some (.ref law_place)))
    (l_law_place : K.lookup law_place = some ⟨oc_law_place, od_law_place, .func (PySem.W.fnOf "_law_place" "_law_place" (defArgs s_law_place) (defBody s_law_place) (defScope s_law_place) .none kV_law_place dc_law_place pm_law_place an_law_place cd_law_place ct_law_place), sl_law_place⟩)
    (c_law_place : PySem.W.codeIn K cd_law_place "_law_place" = true)
    (k_law_place : PySem.W.keepIn K (.ref law_place) = true)
    (a_law_net : PySem.W.nsIn K mainGlobals "_law_net" = some (some (.ref law_net)))
    (l_law_net : K.lookup law_net = some ⟨oc_law_net, od_law_net, .func (PySem.W.fnOf "_law_net" "_law_net" (defArgs s_law_net) (defBody s_law_net) (defScope s_law_net) .none kV_law_net dc_law_net pm_law_net an_law_net cd_law_net ct_law_net), sl_law_net⟩)
    (c_law_net : PySem.W.codeIn K cd_law_net "_law_net" = true)
    (k_law_net : PySem.W.keepIn K (.ref law_net) = true)
    (a_law_turned : PySem.W.nsIn K mainGlobals "_law_turned" = some (some (.ref law_turned)))
    (l_law_turned : K.lookup law_turned = some ⟨oc_law_turned, od_law_turned, .func (PySem.W.fnOf "_law_turned" "_law_turned" (defArgs s_law_turned) (defBody s_law_turned) (defScope s_law_turned) .none kV_law_turned dc_law_turned pm_law_turned an_law_turned cd_law_turned ct_law_turned), sl_law_turned⟩)
    (c_law_turned : PySem.W.codeIn K cd_law_turned "_law_turned" = true)
    (k_law_turned : PySem.W.keepIn K (.ref law_turned) = true)
    (a_law_kinds : PySem.W.nsIn K mainGlobals "_law_kinds" = some (some (.ref law_kinds)))
    (l_law_kinds : K.lookup law_kinds = some ⟨oc_law_kinds, od_law_kinds, .func (PySem.W.fnOf "_law_kinds" "_law_kinds" (defArgs s_law_kinds) (defBody s_law_kinds) (defScope s_law_kinds) .none kV_law_kinds dc_law_kinds pm_law_kinds an_law_kinds cd_law_kinds ct_law_kinds), sl_law_kinds⟩)
    (c_law_kinds : PySem.W.codeIn K cd_law_kinds "_law_kinds" = true)
    (k_law_kinds : PySem.W.keepIn K (.ref law_kinds) = true)
    (a_law_divisor : PySem.W.nsIn K mainGlobals "_law_divisor" = some (some (.ref law_divisor)))
    (l_law_divisor : K.lookup law_divisor = some ⟨oc_law_divisor, od_law_divisor, .func (PySem.W.fnOf "_law_divisor" "_law_divisor" (defArgs s_law_divisor) (defBody s_law_divisor) (defScope s_law_divisor) .none kV_law_divisor dc_law_divisor pm_law_divisor an_law_divisor cd_law_divisor ct_law_divisor), sl_law_divisor⟩)
    (c_law_divisor : PySem.W.codeIn K cd_law_divisor "_law_divisor" = true)
    (k_law_divisor : PySem.W.keepIn K (.ref law_divisor) = true)
    (a_law_net_of : PySem.W.nsIn K mainGlobals "_law_net_of" = some (some (.ref law_net_of)))
    (l_law_net_of : K.lookup law_net_of = some ⟨oc_law_net_of, od_law_net_of, .func (PySem.W.fnOf "_law_net_of" "_law_net_of" (defArgs s_law_net_of) (defBody s_law_net_of) (defScope s_law_net_of) .none kV_law_net_of dc_law_net_of pm_law_net_of an_law_net_of cd_law_net_of ct_law_net_of), sl_law_net_of⟩)
    (c_law_net_of : PySem.W.codeIn K cd_law_net_of "_law_net_of" = true)
    (k_law_net_of : PySem.W.keepIn K (.ref law_net_of) = true)
    (a_law_square : PySem.W.nsIn K mainGlobals "_law_square" = some (some (.ref law_square)))
    (l_law_square : K.lookup law_square = some ⟨oc_law_square, od_law_square, .func (PySem.W.fnOf "_law_square" "_law_square" (defArgs s_law_square) (defBody s_law_square) (defScope s_law_square) .none kV_law_square dc_law_square pm_law_square an_law_square cd_law_square ct_law_square), sl_law_square⟩)
    (c_law_square : PySem.W.codeIn K cd_law_square "_law_square" = true)
    (k_law_square : PySem.W.keepIn K (.ref law_square) = true)
    (a_law_image_net : PySem.W.nsIn K mainGlobals "_law_image_net" = some (some (.ref law_image_net)))
    (l_law_image_net : K.lookup law_image_net = some ⟨oc_law_image_net, od_law_image_net, .func (PySem.W.fnOf "_law_image_net" "_law_image_net" (defArgs s_law_image_net) (defBody s_law_image_net) (defScope s_law_image_net) .none kV_law_image_net dc_law_image_net pm_law_image_net an_law_image_net cd_law_image_net ct_law_image_net), sl_law_image_net⟩)
    (c_law_image_net : PySem.W.codeIn K cd_law_image_net "_law_image_net" = true)
    (k_law_image_net : PySem.W.keepIn K (.ref law_image_net) = true)
    (a_law_right : PySem.W.nsIn K mainGlobals "_law_right" = some (some (.ref law_right)))
    (l_law_right : K.lookup law_right = some ⟨oc_law_right, od_law_right, .func (PySem.W.fnOf "_law_right" "_law_right" (defArgs s_law_right) (defBody s_law_right) (defScope s_law_right) .none kV_law_right dc_law_right pm_law_right an_law_right cd_law_right ct_law_right), sl_law_right⟩)
    (c_law_right : PySem.W.codeIn K cd_law_right "_law_right" = true)
    (k_law_right : PySem.W.keepIn K (.ref law_right) = true)
    (a_law : PySem.W.nsIn K mainGlobals "law" = some (some (.ref law)))
    (l_law : K.lookup law = some ⟨oc_law, od_law, .func (PySem.W.fnOf "law" "law" (defArgs s_law) (defBody s_law) (defScope s_law) .none kV_law dc_law pm_law an_law cd_law ct_law), sl_law⟩)
    (c_law : PySem.W.codeIn K cd_law "law" = true)
    (k_law : PySem.W.keepIn K (.ref law) = true)
    (z_abs : PySem.W.nsIn K mainGlobals "abs" = some none)
    (z_bool : PySem.W.nsIn K mainGlobals "bool" = some none)
    (z_int : PySem.W.nsIn K mainGlobals "int" = some none)
    (z_isinstance : PySem.W.nsIn K mainGlobals "isinstance" = some none)
    (z_len : PySem.W.nsIn K mainGlobals "len" = some none)
    (z_list : PySem.W.nsIn K mainGlobals "list" = some none)
    (z_range : PySem.W.nsIn K mainGlobals "range" = some none)
    (z_repr : PySem.W.nsIn K mainGlobals "repr" = some none)
    (z_str : PySem.W.nsIn K mainGlobals "str" = some none)
    (z_tuple : PySem.W.nsIn K mainGlobals "tuple" = some none)
    (v_gcd : PySem.W.nsIn K mainGlobals "gcd" = some (some (.builtin "math.gcd")))
    (nn_Net : PySem.W.findIn K (.ref C_Net) "_numbers" = some none)
    (ic1 : PySem.W.findIn K (.ref C_Net) "__class__" = some (some (.builtin "object.__class__")))
    (ic2 : PySem.W.specialIn K (.builtin "object.__class__") "__get__" = some (some (.builtin "getset_descriptor.__get__")))
    (ic3 : PySem.W.takesIn K (.builtin "object.__class__") = some true)
    (ic4 : PySem.W.mroIn K C_Net (.type "object") = some true)
    (c_IM : PySem.W.nsIn K mainGlobals "IMAGES" = some (some (.ref IMAGES)))
    (c_PR : PySem.W.nsIn K mainGlobals "PROBE" = some (some (.ref PROBE)))
    (kt_PR : KT K PROBE [V.int 1, V.int 2])
    (kt_D0 : KT K dfl0 [V.int 0, V.int 0])
    (cv_K : PySem.W.findCls K (.ref C_Motion) (.type "type") "KINDS" = some (.val (.ref KINDS)))
    (kt_K : KT K KINDS [V.str "none", V.str "left", V.str "half", V.str "right", V.str "flip", V.str "mirror", V.str "swap", V.str "cross"])
    (kk_I : KKeys K IMAGES [V.str "none", V.str "left", V.str "half", V.str "right", V.str "flip", V.str "mirror", V.str "swap", V.str "cross"])
    (kd_none : KDct K w IMAGES "none" (V.ref im_none))
    (kd_left : KDct K w IMAGES "left" (V.ref im_left))
    (kd_half : KDct K w IMAGES "half" (V.ref im_half))
    (kd_right : KDct K w IMAGES "right" (V.ref im_right))
    (kd_flip : KDct K w IMAGES "flip" (V.ref im_flip))
    (kd_mirror : KDct K w IMAGES "mirror" (V.ref im_mirror))
    (kd_swap : KDct K w IMAGES "swap" (V.ref im_swap))
    (kd_cross : KDct K w IMAGES "cross" (V.ref im_cross))
    (kt_none : KT K im_none [V.int 1, V.int 0, V.int 0, V.int 1])
    (kt_left : KT K im_left [V.int 0, V.int (-1), V.int 1, V.int 0])
    (kt_half : KT K im_half [V.int (-1), V.int 0, V.int 0, V.int (-1)])
    (kt_right : KT K im_right [V.int 0, V.int 1, V.int (-1), V.int 0])
    (kt_flip : KT K im_flip [V.int 1, V.int 0, V.int 0, V.int (-1)])
    (kt_mirror : KT K im_mirror [V.int (-1), V.int 0, V.int 0, V.int 1])
    (kt_swap : KT K im_swap [V.int 0, V.int 1, V.int 1, V.int 0])
    (kt_cross : KT K im_cross [V.int 0, V.int (-1), V.int (-1), V.int 0])
    (nn_kind : PySem.W.findIn K (.ref C_Motion) "_kind" = some none)
    (nn_shift : PySem.W.findIn K (.ref C_Motion) "_shift" = some none)
    (jc1 : PySem.W.findIn K (.ref C_Motion) "__class__" = some (some (.builtin "object.__class__")))
    (jc2 : PySem.W.specialIn K (.builtin "object.__class__") "__get__" = some (some (.builtin "getset_descriptor.__get__")))
    (jc3 : PySem.W.takesIn K (.builtin "object.__class__") = some true)
    (jc4 : PySem.W.mroIn K C_Motion (.type "object") = some true)
    (tw_ne : (C_Net == C_Motion) = false)
    (tw_c : PySem.W.selfFirst K C_Net = true)
    (tw_d : PySem.W.selfFirst K C_Motion = true)
    (tw_r : PySem.W.findIn K (.ref C_Net) "__rmul__" = some none)
    (tw_s : PySem.W.findIn K (.ref C_Motion) "__rmul__" = some none)
    (tw_b : PySem.W.subIn K (.ref C_Motion) (.ref C_Net) = some false)
    (rd_Mo : PySem.W.readsIn K C_Motion (.type "type") = true)
    (ga_Mo : PySem.W.specialIn K (.ref C_Motion) "__getattribute__" = some (some (.builtin "type.__getattribute__")))
    : ∃ a : Ad, a.law = fa ∧ (∀ (s : Shared) (v : Value), BindsTo s a.law_d ⟨[v], []⟩ [("_law_script", v)]) ∧ Txt w K mg a := by
  have e := hfa.symm.trans (PySem.W.mg_of X G a_law)
  cases e
  refine ⟨{ IMAGES := IMAGES, PROBE := PROBE, KINDS := KINDS, dfl0 := dfl0, im_none := im_none, im_left := im_left, im_half := im_half, im_right := im_right, im_flip := im_flip, im_mirror := im_mirror, im_swap := im_swap, im_cross := im_cross, C_Motion := C_Motion, C_Net := C_Net, is_integer := is_integer, is_integer_d := PySem.W.fnOf "is_integer" "is_integer" (defArgs s_is_integer) (defBody s_is_integer) (defScope s_is_integer) .none kV_is_integer dc_is_integer pm_is_integer an_is_integer cd_is_integer ct_is_integer, is_place := is_place, is_place_d := PySem.W.fnOf "is_place" "is_place" (defArgs s_is_place) (defBody s_is_place) (defScope s_is_place) .none kV_is_place dc_is_place pm_is_place an_is_place cd_is_place ct_is_place, check_place := check_place, check_place_d := PySem.W.fnOf "check_place" "check_place" (defArgs s_check_place) (defBody s_check_place) (defScope s_check_place) .none kV_check_place dc_check_place pm_check_place an_check_place cd_check_place ct_check_place, check_positive := check_positive, check_positive_d := PySem.W.fnOf "check_positive" "check_positive" (defArgs s_check_positive) (defBody s_check_positive) (defScope s_check_positive) .none kV_check_positive dc_check_positive pm_check_positive an_check_positive cd_check_positive ct_check_positive, are_numbers := are_numbers, are_numbers_d := PySem.W.fnOf "are_numbers" "are_numbers" (defArgs s_are_numbers) (defBody s_are_numbers) (defScope s_are_numbers) .none kV_are_numbers dc_are_numbers pm_are_numbers an_are_numbers cd_are_numbers ct_are_numbers, turned := turned, turned_d := PySem.W.fnOf "turned" "turned" (defArgs s_turned) (defBody s_turned) (defScope s_turned) .none kV_turned dc_turned pm_turned an_turned cd_turned ct_turned, kind_between := kind_between, kind_between_d := PySem.W.fnOf "kind_between" "kind_between" (defArgs s_kind_between) (defBody s_kind_between) (defScope s_kind_between) .none kV_kind_between dc_kind_between pm_kind_between an_kind_between cd_kind_between ct_kind_between, Motion_init := Motion_init, Motion_init_d := PySem.W.fnOf "__init__" "Motion.__init__" (defArgs s_Motion_init) (defBody s_Motion_init) (defScope s_Motion_init) (.ref T_Motion_init) kV_Motion_init dc_Motion_init pm_Motion_init an_Motion_init cd_Motion_init ct_Motion_init, Motion_kind := Motion_kind, Motion_kind_d := PySem.W.fnOf "kind" "Motion.kind" (defArgs s_Motion_kind) (defBody s_Motion_kind) (defScope s_Motion_kind) .none kV_Motion_kind dc_Motion_kind pm_Motion_kind an_Motion_kind cd_Motion_kind ct_Motion_kind, p_Motion_kind := p_Motion_kind, Motion_shift := Motion_shift, Motion_shift_d := PySem.W.fnOf "shift" "Motion.shift" (defArgs s_Motion_shift) (defBody s_Motion_shift) (defScope s_Motion_shift) .none kV_Motion_shift dc_Motion_shift pm_Motion_shift an_Motion_shift cd_Motion_shift ct_Motion_shift, p_Motion_shift := p_Motion_shift, Motion_mul := Motion_mul, Motion_mul_d := PySem.W.fnOf "__mul__" "Motion.__mul__" (defArgs s_Motion_mul) (defBody s_Motion_mul) (defScope s_Motion_mul) .none kV_Motion_mul dc_Motion_mul pm_Motion_mul an_Motion_mul cd_Motion_mul ct_Motion_mul, Motion_invert := Motion_invert, Motion_invert_d := PySem.W.fnOf "__invert__" "Motion.__invert__" (defArgs s_Motion_invert) (defBody s_Motion_invert) (defScope s_Motion_invert) .none kV_Motion_invert dc_Motion_invert pm_Motion_invert an_Motion_invert cd_Motion_invert ct_Motion_invert, two_shifts := two_shifts, two_shifts_d := PySem.W.fnOf "two_shifts" "two_shifts" (defArgs s_two_shifts) (defBody s_two_shifts) (defScope s_two_shifts) .none kV_two_shifts dc_two_shifts pm_two_shifts an_two_shifts cd_two_shifts ct_two_shifts, with_shift := with_shift, with_shift_d := PySem.W.fnOf "with_shift" "with_shift" (defArgs s_with_shift) (defBody s_with_shift) (defScope s_with_shift) .none kV_with_shift dc_with_shift pm_with_shift an_with_shift cd_with_shift ct_with_shift, spanned := spanned, spanned_d := PySem.W.fnOf "spanned" "spanned" (defArgs s_spanned) (defBody s_spanned) (defScope s_spanned) .none kV_spanned dc_spanned pm_spanned an_spanned cd_spanned ct_spanned, Net_init := Net_init, Net_init_d := PySem.W.fnOf "__init__" "Net.__init__" (defArgs s_Net_init) (defBody s_Net_init) (defScope s_Net_init) .none kV_Net_init dc_Net_init pm_Net_init an_Net_init cd_Net_init ct_Net_init, Net_whole := Net_whole, Net_whole_d := PySem.W.fnOf "whole" "Net.whole" (defArgs s_Net_whole) (defBody s_Net_whole) (defScope s_Net_whole) .none kV_Net_whole dc_Net_whole pm_Net_whole an_Net_whole cd_Net_whole ct_Net_whole, p_Net_whole := p_Net_whole, Net_numbers := Net_numbers, Net_numbers_d := PySem.W.fnOf "numbers" "Net.numbers" (defArgs s_Net_numbers) (defBody s_Net_numbers) (defScope s_Net_numbers) .none kV_Net_numbers dc_Net_numbers pm_Net_numbers an_Net_numbers cd_Net_numbers ct_Net_numbers, p_Net_numbers := p_Net_numbers, Net_size := Net_size, Net_size_d := PySem.W.fnOf "size" "Net.size" (defArgs s_Net_size) (defBody s_Net_size) (defScope s_Net_size) .none kV_Net_size dc_Net_size pm_Net_size an_Net_size cd_Net_size ct_Net_size, p_Net_size := p_Net_size, Net_contains := Net_contains, Net_contains_d := PySem.W.fnOf "__contains__" "Net.__contains__" (defArgs s_Net_contains) (defBody s_Net_contains) (defScope s_Net_contains) .none kV_Net_contains dc_Net_contains pm_Net_contains an_Net_contains cd_Net_contains ct_Net_contains, Net_and := Net_and, Net_and_d := PySem.W.fnOf "__and__" "Net.__and__" (defArgs s_Net_and) (defBody s_Net_and) (defScope s_Net_and) .none kV_Net_and dc_Net_and pm_Net_and an_Net_and cd_Net_and ct_Net_and, Net_or := Net_or, Net_or_d := PySem.W.fnOf "__or__" "Net.__or__" (defArgs s_Net_or) (defBody s_Net_or) (defScope s_Net_or) .none kV_Net_or dc_Net_or pm_Net_or an_Net_or cd_Net_or ct_Net_or, Net_mul := Net_mul, Net_mul_d := PySem.W.fnOf "__mul__" "Net.__mul__" (defArgs s_Net_mul) (defBody s_Net_mul) (defScope s_Net_mul) .none kV_Net_mul dc_Net_mul pm_Net_mul an_Net_mul cd_Net_mul ct_Net_mul, home := home, home_d := PySem.W.fnOf "home" "home" (defArgs s_home) (defBody s_home) (defScope s_home) .none kV_home dc_home pm_home an_home cd_home ct_home, Net_reduced := Net_reduced, Net_reduced_d := PySem.W.fnOf "reduced" "Net.reduced" (defArgs s_Net_reduced) (defBody s_Net_reduced) (defScope s_Net_reduced) .none kV_Net_reduced dc_Net_reduced pm_Net_reduced an_Net_reduced cd_Net_reduced ct_Net_reduced, Net_is_within := Net_is_within, Net_is_within_d := PySem.W.fnOf "is_within" "Net.is_within" (defArgs s_Net_is_within) (defBody s_Net_is_within) (defScope s_Net_is_within) .none kV_Net_is_within dc_Net_is_within pm_Net_is_within an_Net_is_within cd_Net_is_within ct_Net_is_within, Net_scaled := Net_scaled, Net_scaled_d := PySem.W.fnOf "scaled" "Net.scaled" (defArgs s_Net_scaled) (defBody s_Net_scaled) (defScope s_Net_scaled) .none kV_Net_scaled dc_Net_scaled pm_Net_scaled an_Net_scaled cd_Net_scaled ct_Net_scaled, Net_eq := Net_eq, Net_eq_d := PySem.W.fnOf "__eq__" "Net.__eq__" (defArgs s_Net_eq) (defBody s_Net_eq) (defScope s_Net_eq) .none kV_Net_eq dc_Net_eq pm_Net_eq an_Net_eq cd_Net_eq ct_Net_eq, law_tape := law_tape, law_tape_d := PySem.W.fnOf "_law_tape" "_law_tape" (defArgs s_law_tape) (defBody s_law_tape) (defScope s_law_tape) .none kV_law_tape dc_law_tape pm_law_tape an_law_tape cd_law_tape ct_law_tape, law_draw := law_draw, law_draw_d := PySem.W.fnOf "_law_draw" "_law_draw" (defArgs s_law_draw) (defBody s_law_draw) (defScope s_law_draw) .none kV_law_draw dc_law_draw pm_law_draw an_law_draw cd_law_draw ct_law_draw, law_great := law_great, law_great_d := PySem.W.fnOf "_law_great" "_law_great" (defArgs s_law_great) (defBody s_law_great) (defScope s_law_great) .none kV_law_great dc_law_great pm_law_great an_law_great cd_law_great ct_law_great, law_place := law_place, law_place_d := PySem.W.fnOf "_law_place" "_law_place" (defArgs s_law_place) (defBody s_law_place) (defScope s_law_place) .none kV_law_place dc_law_place pm_law_place an_law_place cd_law_place ct_law_place, law_net := law_net, law_net_d := PySem.W.fnOf "_law_net" "_law_net" (defArgs s_law_net) (defBody s_law_net) (defScope s_law_net) .none kV_law_net dc_law_net pm_law_net an_law_net cd_law_net ct_law_net, law_turned := law_turned, law_turned_d := PySem.W.fnOf "_law_turned" "_law_turned" (defArgs s_law_turned) (defBody s_law_turned) (defScope s_law_turned) .none kV_law_turned dc_law_turned pm_law_turned an_law_turned cd_law_turned ct_law_turned, law_kinds := law_kinds, law_kinds_d := PySem.W.fnOf "_law_kinds" "_law_kinds" (defArgs s_law_kinds) (defBody s_law_kinds) (defScope s_law_kinds) .none kV_law_kinds dc_law_kinds pm_law_kinds an_law_kinds cd_law_kinds ct_law_kinds, law_divisor := law_divisor, law_divisor_d := PySem.W.fnOf "_law_divisor" "_law_divisor" (defArgs s_law_divisor) (defBody s_law_divisor) (defScope s_law_divisor) .none kV_law_divisor dc_law_divisor pm_law_divisor an_law_divisor cd_law_divisor ct_law_divisor, law_net_of := law_net_of, law_net_of_d := PySem.W.fnOf "_law_net_of" "_law_net_of" (defArgs s_law_net_of) (defBody s_law_net_of) (defScope s_law_net_of) .none kV_law_net_of dc_law_net_of pm_law_net_of an_law_net_of cd_law_net_of ct_law_net_of, law_square := law_square, law_square_d := PySem.W.fnOf "_law_square" "_law_square" (defArgs s_law_square) (defBody s_law_square) (defScope s_law_square) .none kV_law_square dc_law_square pm_law_square an_law_square cd_law_square ct_law_square, law_image_net := law_image_net, law_image_net_d := PySem.W.fnOf "_law_image_net" "_law_image_net" (defArgs s_law_image_net) (defBody s_law_image_net) (defScope s_law_image_net) .none kV_law_image_net dc_law_image_net pm_law_image_net an_law_image_net cd_law_image_net ct_law_image_net, law_right := law_right, law_right_d := PySem.W.fnOf "_law_right" "_law_right" (defArgs s_law_right) (defBody s_law_right) (defScope s_law_right) .none kV_law_right dc_law_right pm_law_right an_law_right cd_law_right ct_law_right, law := fa, law_d := PySem.W.fnOf "law" "law" (defArgs s_law) (defBody s_law) (defScope s_law) .none kV_law dc_law pm_law an_law cd_law ct_law }, rfl, fun s v => .of_eq rfl, ?_⟩
  exact {
    g_Motion := PySem.W.mg_of X G a_Motion,
    cl_Motion := ⟨pg_Motion, hd_Motion, po_Motion, sa_Motion⟩,
    k_Motion := ⟨mk_Motion, a_Motion_init, i_Motion_init, kc_Motion⟩,
    g_Net := PySem.W.mg_of X G a_Net,
    cl_Net := ⟨pg_Net, hd_Net, po_Net, sa_Net⟩,
    k_Net := ⟨mk_Net, a_Net_init, i_Net_init, kc_Net⟩,
    g_is_integer := PySem.W.mg_of X G a_is_integer,
    F_is_integer := fun_mk (st := s_is_integer) l_is_integer c_is_integer k_is_integer,
    b_is_integer := (fun_mk (st := s_is_integer) l_is_integer c_is_integer k_is_integer).binds (ps := P_is_integer) fun _ _ _ _ _ _ us hl => match us, hl with | [_], _ => rfl,
    g_is_place := PySem.W.mg_of X G a_is_place,
    F_is_place := fun_mk (st := s_is_place) l_is_place c_is_place k_is_place,
    b_is_place := (fun_mk (st := s_is_place) l_is_place c_is_place k_is_place).binds (ps := P_is_place) fun _ _ _ _ _ _ us hl => match us, hl with | [_], _ => rfl,
    g_check_place := PySem.W.mg_of X G a_check_place,
    F_check_place := fun_mk (st := s_check_place) l_check_place c_check_place k_check_place,
    b_check_place := (fun_mk (st := s_check_place) l_check_place c_check_place k_check_place).binds (ps := P_check_place) fun _ _ _ _ _ _ us hl => match us, hl with | [_], _ => rfl,
    g_check_positive := PySem.W.mg_of X G a_check_positive,
    F_check_positive := fun_mk (st := s_check_positive) l_check_positive c_check_positive k_check_positive,
    b_check_positive := (fun_mk (st := s_check_positive) l_check_positive c_check_positive k_check_positive).binds (ps := P_check_positive) fun _ _ _ _ _ _ us hl => match us, hl with | [_], _ => rfl,
    g_are_numbers := PySem.W.mg_of X G a_are_numbers,
    F_are_numbers := fun_mk (st := s_are_numbers) l_are_numbers c_are_numbers k_are_numbers,
    b_are_numbers := (fun_mk (st := s_are_numbers) l_are_numbers c_are_numbers k_are_numbers).binds (ps := P_are_numbers) fun _ _ _ _ _ _ us hl => match us, hl with | [_, _, _], _ => rfl,
    g_turned := PySem.W.mg_of X G a_turned,
    F_turned := fun_mk (st := s_turned) l_turned c_turned k_turned,
    b_turned := (fun_mk (st := s_turned) l_turned c_turned k_turned).binds (ps := P_turned) fun _ _ _ _ _ _ us hl => match us, hl with | [_, _], _ => rfl,
    g_kind_between := PySem.W.mg_of X G a_kind_between,
    F_kind_between := fun_mk (st := s_kind_between) l_kind_between c_kind_between k_kind_between,
    b_kind_between := (fun_mk (st := s_kind_between) l_kind_between c_kind_between k_kind_between).binds (ps := P_kind_between) fun _ _ _ _ _ _ us hl => match us, hl with | [_, _], _ => rfl,
    F_Motion_init := ⟨⟨_, _, _, _, _, _, _, _, _, _, rfl, l_Motion_init, c_Motion_init, (.inr ⟨by simp, _, _, [_], _, rfl, dd_Motion_init, rfl, .cons rfl (.nil)⟩), .inl rfl⟩, k_Motion_init⟩,
    b_Motion_init := binds_all (FunD.binds1 (x := "__init__") (qual := "Motion.__init__") (params := defArgs s_Motion_init) (body := defBody s_Motion_init) (scope := defScope s_Motion_init) (dvs := [V.ref dfl0]) (kws := []) ⟨⟨_, _, _, _, _, _, _, _, _, _, rfl, l_Motion_init, c_Motion_init, (.inr ⟨by simp, _, _, [_], _, rfl, dd_Motion_init, rfl, .cons rfl (.nil)⟩), .inl rfl⟩, k_Motion_init⟩ 3 1 (by simp) rfl fun _ _ _ _ _ _ _ us its h1 h2 => match us, its, h1, h2 with | [_, _, _], [_], _, _ => by walk_at "mv_bind"),
    bd_Motion_init := FunD.binds1 (x := "__init__") (qual := "Motion.__init__") (params := defArgs s_Motion_init) (body := defBody s_Motion_init) (scope := defScope s_Motion_init) (dvs := [V.ref dfl0]) (kws := []) ⟨⟨_, _, _, _, _, _, _, _, _, _, rfl, l_Motion_init, c_Motion_init, (.inr ⟨by simp, _, _, [_], _, rfl, dd_Motion_init, rfl, .cons rfl (.nil)⟩), .inl rfl⟩, k_Motion_init⟩ 2 0 (by simp) rfl fun _ _ _ _ _ _ _ us its h1 h2 => match us, its, h1, h2 with | [_, _], [_], _, _ => by walk_at "mv_bind",
    p_Motion_kind := ⟨a_Motion_kind, g1_Motion_kind, g2_Motion_kind, _, g3_Motion_kind⟩,
    F_Motion_kind := fun_mk (st := s_Motion_kind) l_Motion_kind c_Motion_kind k_Motion_kind,
    b_Motion_kind := (fun_mk (st := s_Motion_kind) l_Motion_kind c_Motion_kind k_Motion_kind).binds (ps := P_Motion_kind) fun _ _ _ _ _ _ us hl => match us, hl with | [_], _ => rfl,
    p_Motion_shift := ⟨a_Motion_shift, g1_Motion_shift, g2_Motion_shift, _, g3_Motion_shift⟩,
    F_Motion_shift := fun_mk (st := s_Motion_shift) l_Motion_shift c_Motion_shift k_Motion_shift,
    b_Motion_shift := (fun_mk (st := s_Motion_shift) l_Motion_shift c_Motion_shift k_Motion_shift).binds (ps := P_Motion_shift) fun _ _ _ _ _ _ us hl => match us, hl with | [_], _ => rfl,
    o_Motion_mul := ⟨a_Motion_mul, i_Motion_mul⟩,
    sf_Motion := sf_Motion,
    F_Motion_mul := fun_mk (st := s_Motion_mul) l_Motion_mul c_Motion_mul k_Motion_mul,
    b_Motion_mul := (fun_mk (st := s_Motion_mul) l_Motion_mul c_Motion_mul k_Motion_mul).binds (ps := P_Motion_mul) fun _ _ _ _ _ _ us hl => match us, hl with | [_, _], _ => rfl,
    o_Motion_invert := ⟨a_Motion_invert, i_Motion_invert⟩,
    F_Motion_invert := fun_mk (st := s_Motion_invert) l_Motion_invert c_Motion_invert k_Motion_invert,
    b_Motion_invert := (fun_mk (st := s_Motion_invert) l_Motion_invert c_Motion_invert k_Motion_invert).binds (ps := P_Motion_invert) fun _ _ _ _ _ _ us hl => match us, hl with | [_], _ => rfl,
    g_two_shifts := PySem.W.mg_of X G a_two_shifts,
    F_two_shifts := fun_mk (st := s_two_shifts) l_two_shifts c_two_shifts k_two_shifts,
    b_two_shifts := (fun_mk (st := s_two_shifts) l_two_shifts c_two_shifts k_two_shifts).binds (ps := P_two_shifts) fun _ _ _ _ _ _ us hl => match us, hl with | [_], _ => rfl,
    g_with_shift := PySem.W.mg_of X G a_with_shift,
    F_with_shift := fun_mk (st := s_with_shift) l_with_shift c_with_shift k_with_shift,
    b_with_shift := (fun_mk (st := s_with_shift) l_with_shift c_with_shift k_with_shift).binds (ps := P_with_shift) fun _ _ _ _ _ _ us hl => match us, hl with | [_, _], _ => rfl,
    g_spanned := PySem.W.mg_of X G a_spanned,
    F_spanned := fun_mk (st := s_spanned) l_spanned c_spanned k_spanned,
    b_spanned := (fun_mk (st := s_spanned) l_spanned c_spanned k_spanned).binds (ps := P_spanned) fun _ _ _ _ _ _ us hl => match us, hl with | [_], _ => rfl,
    F_Net_init := fun_mk (st := s_Net_init) l_Net_init c_Net_init k_Net_init,
    b_Net_init := (fun_mk (st := s_Net_init) l_Net_init c_Net_init k_Net_init).binds (ps := P_Net_init) fun _ _ _ _ _ _ us hl => match us, hl with | [_, _, _, _], _ => rfl,
    cm_Net_whole := ⟨a_Net_whole, ⟨_, rc_Net_whole⟩, fi_Net_whole⟩,
    cr_Net_whole := ⟨rd_Net_whole, ga_Net_whole⟩,
    F_Net_whole := fun_mk (st := s_Net_whole) l_Net_whole c_Net_whole k_Net_whole,
    b_Net_whole := (fun_mk (st := s_Net_whole) l_Net_whole c_Net_whole k_Net_whole).binds (ps := P_Net_whole) fun _ _ _ _ _ _ us hl => match us, hl with | [_], _ => rfl,
    p_Net_numbers := ⟨a_Net_numbers, g1_Net_numbers, g2_Net_numbers, _, g3_Net_numbers⟩,
    F_Net_numbers := fun_mk (st := s_Net_numbers) l_Net_numbers c_Net_numbers k_Net_numbers,
    b_Net_numbers := (fun_mk (st := s_Net_numbers) l_Net_numbers c_Net_numbers k_Net_numbers).binds (ps := P_Net_numbers) fun _ _ _ _ _ _ us hl => match us, hl with | [_], _ => rfl,
    p_Net_size := ⟨a_Net_size, g1_Net_size, g2_Net_size, _, g3_Net_size⟩,
    F_Net_size := fun_mk (st := s_Net_size) l_Net_size c_Net_size k_Net_size,
    b_Net_size := (fun_mk (st := s_Net_size) l_Net_size c_Net_size k_Net_size).binds (ps := P_Net_size) fun _ _ _ _ _ _ us hl => match us, hl with | [_], _ => rfl,
    h_Net := ⟨a_Net_contains, i_Net_contains⟩,
    F_Net_contains := fun_mk (st := s_Net_contains) l_Net_contains c_Net_contains k_Net_contains,
    b_Net_contains := (fun_mk (st := s_Net_contains) l_Net_contains c_Net_contains k_Net_contains).binds (ps := P_Net_contains) fun _ _ _ _ _ _ us hl => match us, hl with | [_, _], _ => rfl,
    o_Net_and := ⟨a_Net_and, i_Net_and⟩,
    sf_Net := sf_Net,
    F_Net_and := fun_mk (st := s_Net_and) l_Net_and c_Net_and k_Net_and,
    b_Net_and := (fun_mk (st := s_Net_and) l_Net_and c_Net_and k_Net_and).binds (ps := P_Net_and) fun _ _ _ _ _ _ us hl => match us, hl with | [_, _], _ => rfl,
    o_Net_or := ⟨a_Net_or, i_Net_or⟩,
    F_Net_or := fun_mk (st := s_Net_or) l_Net_or c_Net_or k_Net_or,
    b_Net_or := (fun_mk (st := s_Net_or) l_Net_or c_Net_or k_Net_or).binds (ps := P_Net_or) fun _ _ _ _ _ _ us hl => match us, hl with | [_, _], _ => rfl,
    o_Net_mul := ⟨a_Net_mul, i_Net_mul⟩,
    F_Net_mul := fun_mk (st := s_Net_mul) l_Net_mul c_Net_mul k_Net_mul,
    b_Net_mul := (fun_mk (st := s_Net_mul) l_Net_mul c_Net_mul k_Net_mul).binds (ps := P_Net_mul) fun _ _ _ _ _ _ us hl => match us, hl with | [_, _], _ => rfl,
    g_home := PySem.W.mg_of X G a_home,
    F_home := fun_mk (st := s_home) l_home c_home k_home,
    b_home := (fun_mk (st := s_home) l_home c_home k_home).binds (ps := P_home) fun _ _ _ _ _ _ us hl => match us, hl with | [_, _], _ => rfl,
    m_Net_reduced := ⟨a_Net_reduced, i_Net_reduced, k_Net_reduced⟩,
    F_Net_reduced := fun_mk (st := s_Net_reduced) l_Net_reduced c_Net_reduced k_Net_reduced,
    b_Net_reduced := (fun_mk (st := s_Net_reduced) l_Net_reduced c_Net_reduced k_Net_reduced).binds (ps := P_Net_reduced) fun _ _ _ _ _ _ us hl => match us, hl with | [_, _], _ => rfl,
    m_Net_is_within := ⟨a_Net_is_within, i_Net_is_within, k_Net_is_within⟩,
    F_Net_is_within := fun_mk (st := s_Net_is_within) l_Net_is_within c_Net_is_within k_Net_is_within,
    b_Net_is_within := (fun_mk (st := s_Net_is_within) l_Net_is_within c_Net_is_within k_Net_is_within).binds (ps := P_Net_is_within) fun _ _ _ _ _ _ us hl => match us, hl with | [_, _], _ => rfl,
    m_Net_scaled := ⟨a_Net_scaled, i_Net_scaled, k_Net_scaled⟩,
    F_Net_scaled := fun_mk (st := s_Net_scaled) l_Net_scaled c_Net_scaled k_Net_scaled,
    b_Net_scaled := (fun_mk (st := s_Net_scaled) l_Net_scaled c_Net_scaled k_Net_scaled).binds (ps := P_Net_scaled) fun _ _ _ _ _ _ us hl => match us, hl with | [_, _], _ => rfl,
    e_Net := ⟨a_Net_eq, i_Net_eq, ne_Net, ob_Net⟩,
    F_Net_eq := fun_mk (st := s_Net_eq) l_Net_eq c_Net_eq k_Net_eq,
    b_Net_eq := (fun_mk (st := s_Net_eq) l_Net_eq c_Net_eq k_Net_eq).binds (ps := P_Net_eq) fun _ _ _ _ _ _ us hl => match us, hl with | [_, _], _ => rfl,
    g_law_tape := PySem.W.mg_of X G a_law_tape,
    F_law_tape := fun_mk (st := s_law_tape) l_law_tape c_law_tape k_law_tape,
    b_law_tape := (fun_mk (st := s_law_tape) l_law_tape c_law_tape k_law_tape).binds (ps := P_law_tape) fun _ _ _ _ _ _ us hl => match us, hl with | [_], _ => rfl,
    g_law_draw := PySem.W.mg_of X G a_law_draw,
    F_law_draw := fun_mk (st := s_law_draw) l_law_draw c_law_draw k_law_draw,
    b_law_draw := (fun_mk (st := s_law_draw) l_law_draw c_law_draw k_law_draw).binds (ps := P_law_draw) fun _ _ _ _ _ _ us hl => match us, hl with | [_, _], _ => rfl,
    g_law_great := PySem.W.mg_of X G a_law_great,
    F_law_great := fun_mk (st := s_law_great) l_law_great c_law_great k_law_great,
    b_law_great := (fun_mk (st := s_law_great) l_law_great c_law_great k_law_great).binds (ps := P_law_great) fun _ _ _ _ _ _ us hl => match us, hl with | [_, _], _ => rfl,
    g_law_place := PySem.W.mg_of X G a_law_place,
    F_law_place := fun_mk (st := s_law_place) l_law_place c_law_place k_law_place,
    b_law_place := (fun_mk (st := s_law_place) l_law_place c_law_place k_law_place).binds (ps := P_law_place) fun _ _ _ _ _ _ us hl => match us, hl with | [_], _ => rfl,
    g_law_net := PySem.W.mg_of X G a_law_net,
    F_law_net := fun_mk (st := s_law_net) l_law_net c_law_net k_law_net,
    b_law_net := (fun_mk (st := s_law_net) l_law_net c_law_net k_law_net).binds (ps := P_law_net) fun _ _ _ _ _ _ us hl => match us, hl with | [_, _], _ => rfl,
    g_law_turned := PySem.W.mg_of X G a_law_turned,
    F_law_turned := fun_mk (st := s_law_turned) l_law_turned c_law_turned k_law_turned,
    b_law_turned := (fun_mk (st := s_law_turned) l_law_turned c_law_turned k_law_turned).binds (ps := P_law_turned) fun _ _ _ _ _ _ us hl => match us, hl with | [_, _], _ => rfl,
    g_law_kinds := PySem.W.mg_of X G a_law_kinds,
    F_law_kinds := fun_mk (st := s_law_kinds) l_law_kinds c_law_kinds k_law_kinds,
    b_law_kinds := (fun_mk (st := s_law_kinds) l_law_kinds c_law_kinds k_law_kinds).binds (ps := P_law_kinds) fun _ _ _ _ _ _ us hl => match us, hl with | [], _ => rfl,
    g_law_divisor := PySem.W.mg_of X G a_law_divisor,
    F_law_divisor := fun_mk (st := s_law_divisor) l_law_divisor c_law_divisor k_law_divisor,
    b_law_divisor := (fun_mk (st := s_law_divisor) l_law_divisor c_law_divisor k_law_divisor).binds (ps := P_law_divisor) fun _ _ _ _ _ _ us hl => match us, hl with | [_, _], _ => rfl,
    g_law_net_of := PySem.W.mg_of X G a_law_net_of,
    F_law_net_of := fun_mk (st := s_law_net_of) l_law_net_of c_law_net_of k_law_net_of,
    b_law_net_of := (fun_mk (st := s_law_net_of) l_law_net_of c_law_net_of k_law_net_of).binds (ps := P_law_net_of) fun _ _ _ _ _ _ us hl => match us, hl with | [_], _ => rfl,
    g_law_square := PySem.W.mg_of X G a_law_square,
    F_law_square := fun_mk (st := s_law_square) l_law_square c_law_square k_law_square,
    b_law_square := (fun_mk (st := s_law_square) l_law_square c_law_square k_law_square).binds (ps := P_law_square) fun _ _ _ _ _ _ us hl => match us, hl with | [_, _], _ => rfl,
    g_law_image_net := PySem.W.mg_of X G a_law_image_net,
    F_law_image_net := fun_mk (st := s_law_image_net) l_law_image_net c_law_image_net k_law_image_net,
    b_law_image_net := (fun_mk (st := s_law_image_net) l_law_image_net c_law_image_net k_law_image_net).binds (ps := P_law_image_net) fun _ _ _ _ _ _ us hl => match us, hl with | [_, _], _ => rfl,
    g_law_right := PySem.W.mg_of X G a_law_right,
    F_law_right := fun_mk (st := s_law_right) l_law_right c_law_right k_law_right,
    b_law_right := (fun_mk (st := s_law_right) l_law_right c_law_right k_law_right).binds (ps := P_law_right) fun _ _ _ _ _ _ us hl => match us, hl with | [_, _, _], _ => rfl,
    g_law := PySem.W.mg_of X G a_law,
    F_law := fun_mk (st := s_law) l_law c_law k_law,
    b_law := (fun_mk (st := s_law) l_law c_law k_law).binds (ps := P_law) fun _ _ _ _ _ _ us hl => match us, hl with | [_], _ => rfl,
    z_abs := PySem.W.mg_none_of X G z_abs,
    z_bool := PySem.W.mg_none_of X G z_bool,
    z_int := PySem.W.mg_none_of X G z_int,
    z_isinstance := PySem.W.mg_none_of X G z_isinstance,
    z_len := PySem.W.mg_none_of X G z_len,
    z_list := PySem.W.mg_none_of X G z_list,
    z_range := PySem.W.mg_none_of X G z_range,
    z_repr := PySem.W.mg_none_of X G z_repr,
    z_str := PySem.W.mg_none_of X G z_str,
    z_tuple := PySem.W.mg_none_of X G z_tuple,
    g_gcd := PySem.W.mg_of X G v_gcd,
    n_Net_numbers := nn_Net,
    i_Net := ⟨ic1, ic2, ic3, ic4⟩,
    v_IMAGES := PySem.W.mg_of X G c_IM,
    v_PROBE := PySem.W.mg_of X G c_PR,
    t_PROBE := kt_PR,
    t_dfl0 := kt_D0,
    c_KINDS := ⟨cv_K, rfl⟩,
    t_KINDS := kt_K,
    kk := kk_I,
    d_none := kd_none,
    d_left := kd_left,
    d_half := kd_half,
    d_right := kd_right,
    d_flip := kd_flip,
    d_mirror := kd_mirror,
    d_swap := kd_swap,
    d_cross := kd_cross,
    t_none := kt_none,
    t_left := kt_left,
    t_half := kt_half,
    t_right := kt_right,
    t_flip := kt_flip,
    t_mirror := kt_mirror,
    t_swap := kt_swap,
    t_cross := kt_cross,
    n_kind := nn_kind,
    n_shift := nn_shift,
    i_Motion := ⟨jc1, jc2, jc3, jc4⟩,
    two_NM := ⟨tw_ne, tw_c, tw_d, a_Net_mul, i_Net_mul, tw_r, a_Motion_mul, tw_s, tw_b⟩,
    cr_Motion := ⟨rd_Mo, ga_Mo⟩ }
end Law
open PySem PySem.W PyProof.Rows
local macro_rules | `(tactic| walk_at "mv_vals") => `(tactic| repeat first | exact Paired.nil | refine Paired.cons ?_ ?_ | exact rfl | exact ⟨_, rfl⟩)
local macro_rules | `(tactic| walk_at "mv_kt") => `(tactic| (refine' MV.kt_mk ?h ?z ?v; (case h => k_is); (case z => decide +kernel); (case v => walk_at "mv_vals")))
local macro_rules | `(tactic| walk_at "mv_lit") => `(tactic| repeat first | exact True.intro | refine ⟨⟨_, _, rfl, rfl⟩, ?_⟩)
local macro_rules | `(tactic| walk_at "mv_kd") => `(tactic| (refine' MV.kd_mk ?h ?l ?n ?v; (case h => k_is); (case n => k_is); (case l => walk_at "mv_lit"); (case v => first | exact rfl | exact ⟨_, rfl⟩)))
local macro_rules | `(tactic| walk_at "mv_kk") => `(tactic| (refine' MV.kk_mk ?h ?n ?v; (case h => k_is); (case n => decide +kernel); (case v => walk_at "mv_vals")))
local macro_rules | `(tactic| walk_at "mv_bind") => `(tactic| (refine ⟨?k, ?h, ?g⟩; (case h => (unfold bindArgs; dsimp only; rw [List.forIn_nil, pure_bind])); (case g => exact rfl)))
set_option maxHeartbeats 0 in
theorem PySem.Challenge.cw_carpets_k09_whole_nets_under_motions_holds : PySem.Challenge.rw_carpets_k09_whole_nets_under_motions.Holds := by
  w_on; o_law; k_head; (case hw => w_witness2)
  k_fill
  refine MV.walkG (l := PySem.Challenge.rw_carpets_k09_whole_nets_under_motions) (n := 63) (k := 9) (x := "_law_script") (CX := L2.CX0) (sp := Law.sp_law) rfl (by decide) rfl ⟨rfl, by decide, by decide⟩ (fun w h Y => PySem.W.kIn_of Y) ?F (fun K H a ns hl hS => Law.sp_start K H a ns hl hS) (fun _ _ _ _ h => h)
  case F =>
    intro w mg fa h KX G hmg
    refine' MV.byTxt (Law.all_mk KX G hmg ?a_Motion ?pg_Motion ?hd_Motion ?po_Motion ?sa_Motion ?mk_Motion ?kc_Motion ?a_Net ?pg_Net ?hd_Net ?po_Net ?sa_Net ?mk_Net ?kc_Net ?a_is_integer ?l_is_integer ?c_is_integer ?k_is_integer ?a_is_place ?l_is_place ?c_is_place ?k_is_place ?a_check_place ?l_check_place ?c_check_place ?k_check_place ?a_check_positive ?l_check_positive ?c_check_positive ?k_check_positive ?a_are_numbers ?l_are_numbers ?c_are_numbers ?k_are_numbers ?a_turned ?l_turned ?c_turned ?k_turned ?a_kind_between ?l_kind_between ?c_kind_between ?k_kind_between ?a_Motion_init ?i_Motion_init ?l_Motion_init ?c_Motion_init ?k_Motion_init ?dd_Motion_init ?a_Motion_kind ?g1_Motion_kind ?g2_Motion_kind ?g3_Motion_kind ?l_Motion_kind ?c_Motion_kind ?k_Motion_kind ?a_Motion_shift ?g1_Motion_shift ?g2_Motion_shift ?g3_Motion_shift ?l_Motion_shift ?c_Motion_shift ?k_Motion_shift ?a_Motion_mul ?i_Motion_mul ?sf_Motion ?l_Motion_mul ?c_Motion_mul ?k_Motion_mul ?a_Motion_invert ?i_Motion_invert ?l_Motion_invert ?c_Motion_invert ?k_Motion_invert ?a_two_shifts ?l_two_shifts ?c_two_shifts ?k_two_shifts ?a_with_shift ?l_with_shift ?c_with_shift ?k_with_shift ?a_spanned ?l_spanned ?c_spanned ?k_spanned ?a_Net_init ?i_Net_init ?l_Net_init ?c_Net_init ?k_Net_init ?a_Net_whole ?rc_Net_whole ?fi_Net_whole ?rd_Net_whole ?ga_Net_whole ?l_Net_whole ?c_Net_whole ?k_Net_whole ?a_Net_numbers ?g1_Net_numbers ?g2_Net_numbers ?g3_Net_numbers ?l_Net_numbers ?c_Net_numbers ?k_Net_numbers ?a_Net_size ?g1_Net_size ?g2_Net_size ?g3_Net_size ?l_Net_size ?c_Net_size ?k_Net_size ?a_Net_contains ?i_Net_contains ?l_Net_contains ?c_Net_contains ?k_Net_contains ?a_Net_and ?i_Net_and ?sf_Net ?l_Net_and ?c_Net_and ?k_Net_and ?a_Net_or ?i_Net_or ?l_Net_or ?c_Net_or ?k_Net_or ?a_Net_mul ?i_Net_mul ?l_Net_mul ?c_Net_mul ?k_Net_mul ?a_home ?l_home ?c_home ?k_home ?a_Net_reduced ?i_Net_reduced ?l_Net_reduced ?c_Net_reduced ?k_Net_reduced ?a_Net_is_within ?i_Net_is_within ?l_Net_is_within ?c_Net_is_within ?k_Net_is_within ?a_Net_scaled ?i_Net_scaled ?l_Net_scaled ?c_Net_scaled ?k_Net_scaled ?a_Net_eq ?i_Net_eq ?ne_Net ?ob_Net ?l_Net_eq ?c_Net_eq ?k_Net_eq ?a_law_tape ?l_law_tape ?c_law_tape ?k_law_tape ?a_law_draw ?l_law_draw ?c_law_draw ?k_law_draw ?a_law_great ?l_law_great ?c_law_great ?k_law_great ?a_law_place ?l_law_place ?c_law_place ?k_law_place ?a_law_net ?l_law_net ?c_law_net ?k_law_net ?a_law_turned ?l_law_turned ?c_law_turned ?k_law_turned ?a_law_kinds ?l_law_kinds ?c_law_kinds ?k_law_kinds ?a_law_divisor ?l_law_divisor ?c_law_divisor ?k_law_divisor ?a_law_net_of ?l_law_net_of ?c_law_net_of ?k_law_net_of ?a_law_square ?l_law_square ?c_law_square ?k_law_square ?a_law_image_net ?l_law_image_net ?c_law_image_net ?k_law_image_net ?a_law_right ?l_law_right ?c_law_right ?k_law_right ?a_law ?l_law ?c_law ?k_law ?z_abs ?z_bool ?z_int ?z_isinstance ?z_len ?z_list ?z_range ?z_repr ?z_str ?z_tuple ?v_gcd ?nn_Net ?ic1 ?ic2 ?ic3 ?ic4 ?c_IM ?c_PR ?kt_PR ?kt_D0 ?cv_K ?kt_K ?kk_I ?kd_none ?kd_left ?kd_half ?kd_right ?kd_flip ?kd_mirror ?kd_swap ?kd_cross ?kt_none ?kt_left ?kt_half ?kt_right ?kt_flip ?kt_mirror ?kt_swap ?kt_cross ?nn_kind ?nn_shift ?jc1 ?jc2 ?jc3 ?jc4 ?tw_ne ?tw_c ?tw_d ?tw_r ?tw_s ?tw_b ?rd_Mo ?ga_Mo) (fun a z => ?go)
    (case go =>
      obtain ⟨e, b, T⟩ := z
      subst e
      exact ⟨_, b, fun base _ _ => Law.ok_law T⟩)
    (case a_Motion => first | k_is | rfl)
    (case pg_Motion => first | k_is | rfl)
    (case hd_Motion => first | k_is | rfl)
    (case po_Motion => first | k_is | rfl)
    (case sa_Motion => first | k_is | rfl)
    (case mk_Motion => first | k_is | rfl)
    (case kc_Motion => first | k_is | rfl)
    (case a_Net => first | k_is | rfl)
    (case pg_Net => first | k_is | rfl)
    (case hd_Net => first | k_is | rfl)
    (case po_Net => first | k_is | rfl)
    (case sa_Net => first | k_is | rfl)
    (case mk_Net => first | k_is | rfl)
    (case kc_Net => first | k_is | rfl)
    (case a_is_integer => first | k_is | rfl)
    (case l_is_integer => first | k_is | rfl)
    (case c_is_integer => first | k_is | rfl)
    (case k_is_integer => first | k_is | rfl)
    (case a_is_place => first | k_is | rfl)
    (case l_is_place => first | k_is | rfl)
    (case c_is_place => first | k_is | rfl)
    (case k_is_place => first | k_is | rfl)
    (case a_check_place => first | k_is | rfl)
    (case l_check_place => first | k_is | rfl)
    (case c_check_place => first | k_is | rfl)
    (case k_check_place => first | k_is | rfl)
    (case a_check_positive => first | k_is | rfl)
    (case l_check_positive => first | k_is | rfl)
    (case c_check_positive => first | k_is | rfl)
    (case k_check_positive => first | k_is | rfl)
    (case a_are_numbers => first | k_is | rfl)
    (case l_are_numbers => first | k_is | rfl)
    (case c_are_numbers => first | k_is | rfl)
    (case k_are_numbers => first | k_is | rfl)
    (case a_turned => first | k_is | rfl)
    (case l_turned => first | k_is | rfl)
    (case c_turned => first | k_is | rfl)
    (case k_turned => first | k_is | rfl)
    (case a_kind_between => first | k_is | rfl)
    (case l_kind_between => first | k_is | rfl)
    (case c_kind_between => first | k_is | rfl)
    (case k_kind_between => first | k_is | rfl)
    (case a_Motion_init => first | k_is | rfl)
    (case i_Motion_init => first | k_is | rfl)
    (case l_Motion_init => first | k_is | rfl)
    (case c_Motion_init => first | k_is | rfl)
    (case k_Motion_init => first | k_is | rfl)
    (case dd_Motion_init => first | k_is | rfl)
    (case a_Motion_kind => first | k_is | rfl)
    (case g1_Motion_kind => first | k_is | rfl)
    (case g2_Motion_kind => first | k_is | rfl)
    (case g3_Motion_kind => first | k_is | rfl)
    (case l_Motion_kind => first | k_is | rfl)
    (case c_Motion_kind => first | k_is | rfl)
    (case k_Motion_kind => first | k_is | rfl)
    (case a_Motion_shift => first | k_is | rfl)
    (case g1_Motion_shift => first | k_is | rfl)
    (case g2_Motion_shift => first | k_is | rfl)
    (case g3_Motion_shift => first | k_is | rfl)
    (case l_Motion_shift => first | k_is | rfl)
    (case c_Motion_shift => first | k_is | rfl)
    (case k_Motion_shift => first | k_is | rfl)
    (case a_Motion_mul => first | k_is | rfl)
    (case i_Motion_mul => first | k_is | rfl)
    (case sf_Motion => first | k_is | rfl)
    (case l_Motion_mul => first | k_is | rfl)
    (case c_Motion_mul => first | k_is | rfl)
    (case k_Motion_mul => first | k_is | rfl)
    (case a_Motion_invert => first | k_is | rfl)
    (case i_Motion_invert => first | k_is | rfl)
    (case l_Motion_invert => first | k_is | rfl)
    (case c_Motion_invert => first | k_is | rfl)
    (case k_Motion_invert => first | k_is | rfl)
    (case a_two_shifts => first | k_is | rfl)
    (case l_two_shifts => first | k_is | rfl)
    (case c_two_shifts => first | k_is | rfl)
    (case k_two_shifts => first | k_is | rfl)
    (case a_with_shift => first | k_is | rfl)
    (case l_with_shift => first | k_is | rfl)
    (case c_with_shift => first | k_is | rfl)
    (case k_with_shift => first | k_is | rfl)
    (case a_spanned => first | k_is | rfl)
    (case l_spanned => first | k_is | rfl)
    (case c_spanned => first | k_is | rfl)
    (case k_spanned => first | k_is | rfl)
    (case a_Net_init => first | k_is | rfl)
    (case i_Net_init => first | k_is | rfl)
    (case l_Net_init => first | k_is | rfl)
    (case c_Net_init => first | k_is | rfl)
    (case k_Net_init => first | k_is | rfl)
    (case a_Net_whole => first | k_is | rfl)
    (case rc_Net_whole => first | k_is | rfl)
    (case fi_Net_whole => first | k_is | rfl)
    (case rd_Net_whole => first | k_is | rfl)
    (case ga_Net_whole => first | k_is | rfl)
    (case l_Net_whole => first | k_is | rfl)
    (case c_Net_whole => first | k_is | rfl)
    (case k_Net_whole => first | k_is | rfl)
    (case a_Net_numbers => first | k_is | rfl)
    (case g1_Net_numbers => first | k_is | rfl)
    (case g2_Net_numbers => first | k_is | rfl)
    (case g3_Net_numbers => first | k_is | rfl)
    (case l_Net_numbers => first | k_is | rfl)
    (case c_Net_numbers => first | k_is | rfl)
    (case k_Net_numbers => first | k_is | rfl)
    (case a_Net_size => first | k_is | rfl)
    (case g1_Net_size => first | k_is | rfl)
    (case g2_Net_size => first | k_is | rfl)
    (case g3_Net_size => first | k_is | rfl)
    (case l_Net_size => first | k_is | rfl)
    (case c_Net_size => first | k_is | rfl)
    (case k_Net_size => first | k_is | rfl)
    (case a_Net_contains => first | k_is | rfl)
    (case i_Net_contains => first | k_is | rfl)
    (case l_Net_contains => first | k_is | rfl)
    (case c_Net_contains => first | k_is | rfl)
    (case k_Net_contains => first | k_is | rfl)
    (case a_Net_and => first | k_is | rfl)
    (case i_Net_and => first | k_is | rfl)
    (case sf_Net => first | k_is | rfl)
    (case l_Net_and => first | k_is | rfl)
    (case c_Net_and => first | k_is | rfl)
    (case k_Net_and => first | k_is | rfl)
    (case a_Net_or => first | k_is | rfl)
    (case i_Net_or => first | k_is | rfl)
    (case l_Net_or => first | k_is | rfl)
    (case c_Net_or => first | k_is | rfl)
    (case k_Net_or => first | k_is | rfl)
    (case a_Net_mul => first | k_is | rfl)
    (case i_Net_mul => first | k_is | rfl)
    (case l_Net_mul => first | k_is | rfl)
    (case c_Net_mul => first | k_is | rfl)
    (case k_Net_mul => first | k_is | rfl)
    (case a_home => first | k_is | rfl)
    (case l_home => first | k_is | rfl)
    (case c_home => first | k_is | rfl)
    (case k_home => first | k_is | rfl)
    (case a_Net_reduced => first | k_is | rfl)
    (case i_Net_reduced => first | k_is | rfl)
    (case l_Net_reduced => first | k_is | rfl)
    (case c_Net_reduced => first | k_is | rfl)
    (case k_Net_reduced => first | k_is | rfl)
    (case a_Net_is_within => first | k_is | rfl)
    (case i_Net_is_within => first | k_is | rfl)
    (case l_Net_is_within => first | k_is | rfl)
    (case c_Net_is_within => first | k_is | rfl)
    (case k_Net_is_within => first | k_is | rfl)
    (case a_Net_scaled => first | k_is | rfl)
    (case i_Net_scaled => first | k_is | rfl)
    (case l_Net_scaled => first | k_is | rfl)
    (case c_Net_scaled => first | k_is | rfl)
    (case k_Net_scaled => first | k_is | rfl)
    (case a_Net_eq => first | k_is | rfl)
    (case i_Net_eq => first | k_is | rfl)
    (case ne_Net => first | k_is | rfl)
    (case ob_Net => first | k_is | rfl)
    (case l_Net_eq => first | k_is | rfl)
    (case c_Net_eq => first | k_is | rfl)
    (case k_Net_eq => first | k_is | rfl)
    (case a_law_tape => first | k_is | rfl)
    (case l_law_tape => first | k_is | rfl)
    (case c_law_tape => first | k_is | rfl)
    (case k_law_tape => first | k_is | rfl)
    (case a_law_draw => first | k_is | rfl)
    (case l_law_draw => first | k_is | rfl)
    (case c_law_draw => first | k_is | rfl)
    (case k_law_draw => first | k_is | rfl)
    (case a_law_great => first | k_is | rfl)
    (case l_law_great => first | k_is | rfl)
    (case c_law_great => first | k_is | rfl)
    (case k_law_great => first | k_is | rfl)
    (case a_law_place => first | k_is | rfl)
    (case l_law_place => first | k_is | rfl)
    (case c_law_place => first | k_is | rfl)
    (case k_law_place => first | k_is | rfl)
    (case a_law_net => first | k_is | rfl)
    (case l_law_net => first | k_is | rfl)
    (case c_law_net => first | k_is | rfl)
    (case k_law_net => first | k_is | rfl)
    (case a_law_turned => first | k_is | rfl)
    (case l_law_turned => first | k_is | rfl)
    (case c_law_turned => first | k_is | rfl)
    (case k_law_turned => first | k_is | rfl)
    (case a_law_kinds => first | k_is | rfl)
    (case l_law_kinds => first | k_is | rfl)
    (case c_law_kinds => first | k_is | rfl)
    (case k_law_kinds => first | k_is | rfl)
    (case a_law_divisor => first | k_is | rfl)
    (case l_law_divisor => first | k_is | rfl)
    (case c_law_divisor => first | k_is | rfl)
    (case k_law_divisor => first | k_is | rfl)
    (case a_law_net_of => first | k_is | rfl)
    (case l_law_net_of => first | k_is | rfl)
    (case c_law_net_of => first | k_is | rfl)
    (case k_law_net_of => first | k_is | rfl)
    (case a_law_square => first | k_is | rfl)
    (case l_law_square => first | k_is | rfl)
    (case c_law_square => first | k_is | rfl)
    (case k_law_square => first | k_is | rfl)
    (case a_law_image_net => first | k_is | rfl)
    (case l_law_image_net => first | k_is | rfl)
    (case c_law_image_net => first | k_is | rfl)
    (case k_law_image_net => first | k_is | rfl)
    (case a_law_right => first | k_is | rfl)
    (case l_law_right => first | k_is | rfl)
    (case c_law_right => first | k_is | rfl)
    (case k_law_right => first | k_is | rfl)
    (case a_law => first | k_is | rfl)
    (case l_law => first | k_is | rfl)
    (case c_law => first | k_is | rfl)
    (case k_law => first | k_is | rfl)
    (case z_abs => first | k_is | rfl)
    (case z_bool => first | k_is | rfl)
    (case z_int => first | k_is | rfl)
    (case z_isinstance => first | k_is | rfl)
    (case z_len => first | k_is | rfl)
    (case z_list => first | k_is | rfl)
    (case z_range => first | k_is | rfl)
    (case z_repr => first | k_is | rfl)
    (case z_str => first | k_is | rfl)
    (case z_tuple => first | k_is | rfl)
    (case v_gcd => first | k_is | rfl)
    (case nn_Net => first | k_is | rfl)
    (case ic1 => first | k_is | rfl)
    (case ic2 => first | k_is | rfl)
    (case ic3 => first | k_is | rfl)
    (case ic4 => first | k_is | rfl)
    (case c_IM => first | k_is | rfl)
    (case c_PR => first | k_is | rfl)
    (case kt_PR => first | k_is | rfl | walk_at "mv_kt")
    (case kt_D0 => first | k_is | rfl | walk_at "mv_kt")
    (case cv_K => first | k_is | rfl)
    (case kt_K => first | k_is | rfl | walk_at "mv_kt")
    (case kk_I => first | k_is | rfl | walk_at "mv_kk")
    (case kd_none => first | k_is | rfl | walk_at "mv_kd")
    (case kd_left => first | k_is | rfl | walk_at "mv_kd")
    (case kd_half => first | k_is | rfl | walk_at "mv_kd")
    (case kd_right => first | k_is | rfl | walk_at "mv_kd")
    (case kd_flip => first | k_is | rfl | walk_at "mv_kd")
    (case kd_mirror => first | k_is | rfl | walk_at "mv_kd")
    (case kd_swap => first | k_is | rfl | walk_at "mv_kd")
    (case kd_cross => first | k_is | rfl | walk_at "mv_kd")
    (case kt_none => first | k_is | rfl | walk_at "mv_kt")
    (case kt_left => first | k_is | rfl | walk_at "mv_kt")
    (case kt_half => first | k_is | rfl | walk_at "mv_kt")
    (case kt_right => first | k_is | rfl | walk_at "mv_kt")
    (case kt_flip => first | k_is | rfl | walk_at "mv_kt")
    (case kt_mirror => first | k_is | rfl | walk_at "mv_kt")
    (case kt_swap => first | k_is | rfl | walk_at "mv_kt")
    (case kt_cross => first | k_is | rfl | walk_at "mv_kt")
    (case nn_kind => first | k_is | rfl)
    (case nn_shift => first | k_is | rfl)
    (case jc1 => first | k_is | rfl)
    (case jc2 => first | k_is | rfl)
    (case jc3 => first | k_is | rfl)
    (case jc4 => first | k_is | rfl)
    (case tw_ne => first | k_is | rfl | rfl)
    (case tw_c => first | k_is | rfl)
    (case tw_d => first | k_is | rfl)
    (case tw_r => first | k_is | rfl)
    (case tw_s => first | k_is | rfl)
    (case tw_b => first | k_is | rfl)
    (case rd_Mo => first | k_is | rfl)
    (case ga_Mo => first | k_is | rfl)

